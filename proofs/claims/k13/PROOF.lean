import PyProof.Rows.All
import Wide.All
import OpenK.AllK
import Wide.FinOn
import HandS.ForMost
import HandS.Evl
import KE.GoesZip
import PyProof.EnumMake
import HandS.Strs
import KE.GoesMore
import HandS.IsInst
import HandS.NoneIn
import HandS.Walk
import HandS.Conv
import HandS.TupAny
import HandS.Exc
import HandS.ExcInit
import HandS.ExcField
import HandS.ExcIs
import HandS.TryOnly
import HandS.TryMany
import HandS.WordsExc
import HandS.ClsMeth
import PyProof.ReprReads
import HandS.Replace
import PyProof.Rows.StrLawsPart
import HandS.FStrTup
import HandS.Style
import PySem.Challenge.RW_wordskips_k13_whole_traces
set_option Elab.async false
set_option linter.all false
set_option maxRecDepth 100000
set_option maxHeartbeats 4000000
namespace ZS
open PySem PySem.Spec PyProof.Rows L2

/-- two texts side by side: a new pair of signs at each turn -/
def ItzS (x y : Str) : It :=
  ⟨fun i _ => i < x.cps.size ∧ i < y.cps.size,
   fun i H v H' => ∃ T c d, v = .ref T ∧ H T = none ∧ H' = upd H T (.tup [.str ⟨#[c]⟩, .str ⟨#[d]⟩]) ∧ x.cps[i]? = some c ∧ y.cps[i]? = some d,
   fun i _ => i = min x.cps.size y.cps.size⟩
theorem drawsS {prog : Program} {w : World} {A : Around} (hh : A.handled = none) (it : Addr) (x : Str) (t : Tok) :
    Draws prog w A it [it] x.cps.size (fun i v => ∃ c u, x.cps[i]? = some c ∧ v = .str ⟨#[c]⟩ u) (fun i h => h.IsStrIter it (strIterType x) x t i) := by
  unfold strIterType
  cases x.cps.all (· < 128)
  · exact Draws.strWide hh it x t
  · exact Draws.strAscii hh it x t
def StZ (x y : Str) (t u : Tok) (z TI TO i1 i2 : Addr) (i : Nat) (h : Heap) : Prop :=
  IsZip h z TI TO .none ∧ IsTupOf2 h TI (.ref i1) (.ref i2) ∧ (∃ a1 a2, IsTupOf2 h TO a1 a2) ∧ h.IsStrIter i1 (strIterType x) x t i ∧ h.IsStrIter i2 (strIterType y) y u i
theorem walkS {prog : Program} {w : World} {A : Around} (hh : A.handled = none) {z TI TO i1 i2 : Addr} (S : ZipSep2 z TI TO i1 i2 [i1] [i2]) (x y : Str) (t u : Tok) :
    WalksT prog w A z (z :: TI :: TO :: ([i1] ++ [i2])) [z, TO, i1, i2] (min x.cps.size y.cps.size)
      (fun i vals => ∃ v1 v2, (∃ c u, x.cps[i]? = some c ∧ v1 = .str ⟨#[c]⟩ u) ∧ (∃ c u, y.cps[i]? = some c ∧ v2 = .str ⟨#[c]⟩ u) ∧ vals = #[v1, v2])
      (StZ x y t u z TI TO i1 i2)
      (fun i T h => IsZip h z TI TO (rawInt T) ∧ IsTupOf2 h TI (.ref i1) (.ref i2) ∧ (∃ a1 a2, IsTupOf2 h TO a1 a2) ∧ h.IsStrIter i1 (strIterType x) x t (i + 1) ∧ h.IsStrIter i2 (strIterType y) y u (i + 1) ∧ T ≠ z ∧ T ≠ TO ∧ T ≠ i1 ∧ T ≠ i2) :=
  WalksT.zipD2 S (drawsS (A := A.in1) hh i1 x t) (drawsS (A := A.in1) hh i2 y u)
theorem fp5 {z TI TO i1 i2 c : Addr} (h : c ∈ [z, TI, TO, i1, i2]) : c = z ∨ c = TI ∨ c = TO ∨ c = i1 ∨ c = i2 := by simpa using h
theorem turn_zipS {P : Program} {w : World} {K : PySem.W.Frag} {elts : List Expr} {kk : Nat} {tpos : Pos} {z TI TO i1 i2 : Addr} (S : ZipSep2 z TI TO i1 i2 [i1] [i2]) (x y : Str) (t u : Tok) :
    Turn P w K (.Tuple elts kk tpos) (ItzS x y) [z, TI, TO, i1, i2] z (StZ x y t u z TI TO i1 i2) where
  mem := List.mem_cons_self
  obj := fun i h st c hc => by
    obtain ⟨q1, q2, ⟨a1, a2, q3⟩, ⟨o1, e1, _, d1⟩, ⟨o2, e2, _, d2⟩⟩ := st
    rcases fp5 hc with q | q | q | q | q
    all_goals subst q
    · exact ⟨_, q1, fun v q => nomatch q⟩
    · exact ⟨_, q2, fun v q => nomatch q⟩
    · exact ⟨_, q3, fun v q => nomatch q⟩
    · exact ⟨o1, e1, fun v q => by rw [d1] at q; cases q⟩
    · exact ⟨o2, e2, fun v q => by rw [d2] at q; cases q⟩
  keep := fun i h h' st k => by
    obtain ⟨q1, q2, ⟨a1, a2, q3⟩, ⟨o1, e1, r1⟩, ⟨o2, e2, r2⟩⟩ := st
    exact ⟨k z (by simp) _ q1, k TI (by simp) _ q2, ⟨a1, a2, k TO (by simp) _ q3⟩, ⟨o1, k i1 (by simp) _ e1, r1⟩, ⟨o2, k i2 (by simp) _ e2, r2⟩⟩
  item := by
    intro X hP hw hK hc i pins s σ H E I hf st hg
    subst hP hw hK
    have W := walkS (prog := X.prog) (w := X.w) (A := X.A) (I.ok.hd hc) S x y t u
    have hlt : i < min x.cps.size y.cps.size := by
      have h1 := hg.1
      have h2 := hg.2
      omega
    refine W.item i s _ _ hlt st fun T vals h' tk hv hT hIs hm hk => ?_
    refine ⟨.ref T, rfl, ?_⟩
    refine W.go elts kk tpos i T { s with heap := h', toks := tk } _ _ hm fun h2 st2 hk2 => ?_
    obtain ⟨v1, v2, ⟨c, u1, hc1, rfl⟩, ⟨d, u2, hd1, rfl⟩, rfl⟩ := hv
    have ap : T ∉ [z, TO, i1, i2] := W.apart i T h' hm
    have up : ∀ b o, b ∉ [z, TO, i1, i2] → s.heap.get? b = some o → h2.get? b = some o := fun b o hb e => hk2 b o hb (hk b o hb e)
    have hT2 : h2.IsTuple T #[.str ⟨#[c]⟩ u1, .str ⟨#[d]⟩ u2] := hIs.at fun o e => hk2 T o ap e
    obtain ⟨oT, eT, cT, nT, dT⟩ := hT2
    have new : ObjOk X.prog X.w (upd H T (.tup [.str ⟨#[c]⟩, .str ⟨#[d]⟩])) h2 T (.tup [.str ⟨#[c]⟩, .str ⟨#[d]⟩]) :=
      ⟨by show 2 ≤ sizeLine; decide, [.str ⟨#[c]⟩ u1, .str ⟨#[d]⟩ u2], .cons ⟨u1, rfl⟩ (.cons ⟨u2, rfl⟩ .nil), ⟨oT, eT, cT, nT, dT⟩⟩
    have sub : ∀ b, b ∉ [z, TI, TO, i1, i2] → b ∉ [z, TO, i1, i2] := fun b hb hb2 => hb (by
      have q : b = z ∨ b = TO ∨ b = i1 ∨ b = i2 := by simpa using hb2
      rcases q with q | q | q | q <;> simp [q])
    have I1 := I.turnedNew (t' := tk) (ch := [z, TI, TO, i1, i2]) (fun b o hb e => up b o (sub b hb) e) hf hT new
    refine ⟨.ref T, _, I1, rfl, ⟨T, c, d, rfl, I.hok.fresh hT, rfl, hc1, hd1⟩, st2, fun b hb => ?_⟩
    have hlb : b < s.heap.objs.size := by
      obtain ⟨q1, q2, ⟨a1, a2, q3⟩, ⟨o1, e1, r1⟩, ⟨o2, e2, r2⟩⟩ := st
      rcases fp5 hb with q | q | q | q | q
      · rw [q]; exact Heap.lt_size q1
      · rw [q]; exact Heap.lt_size q2
      · rw [q]; exact Heap.lt_size q3
      · rw [q]; exact Heap.lt_size e1
      · rw [q]; exact Heap.lt_size e2
    rw [upd_ne (show b ≠ T from fun e => absurd hT (by rw [← e]; exact Nat.not_le.mpr hlb))]
    exact (hf b hb).1
  done := by
    intro X hP hw hK hc i pins s σ H E I hf st hg
    subst hP hw hK
    have W := walkS (prog := X.prog) (w := X.w) (A := X.A) (I.ok.hd hc) S x y t u
    have hg : i = min x.cps.size y.cps.size := hg
    subst hg
    refine W.done s _ _ st fun h' tk hk => ⟨rfl, ?_⟩
    refine I.turnedL (t' := tk) (ch := [z, TI, TO, i1, i2]) (fun b o hb e => hk b o (fun hb2 => hb ?_) e) hf
    have q : b = z ∨ b = TO ∨ b = i1 ∨ b = i2 := by simpa using hb2
    rcases q with q | q | q | q <;> simp [q]
  self := fun A i s Q E st h => wpAny_pyIter_zip st.1 h

abbrev g1 (h : Heap) (x : Str) (t : Tok) : Heap := h.push { cls := .type (strIterType x), data := .fields #[.str x t, .int 0 0] }
abbrev g3 (h : Heap) (x y : Str) (t u : Tok) : Heap := (g1 (g1 h x t) y u).push { cls := .type "tuple", data := .seq #[.ref h.objs.size, .ref (g1 h x t).objs.size] }
abbrev g4 (h : Heap) (x y : Str) (t u : Tok) : Heap := (g3 h x y t u).push { cls := .type "tuple", data := .seq #[.none, .none] }
abbrev g5 (h : Heap) (x y : Str) (t u : Tok) : Heap := (g4 h x y t u).push { cls := .type "zip", data := .fields #[.none, .bool false, .bool false, .ref (g1 (g1 h x t) y u).objs.size, .ref (g3 h x y t u).objs.size] }
theorem meets_zipS (x y : Str) (t u : Tok) :
    Meets (Builtin.«zip.__new__» ⟨[.type "zip", .str x t, .str y u], []⟩) (fun _ R s => R (.ok (.ret (.ref (g4 s.heap x y t u).objs.size))) { s with heap := g5 s.heap x y t u }) :=
  .of_wp fun prog w A R s h => by
    obtain ⟨hp, gg, d, tk, os⟩ := s
    have hsub := sub_zip
    wp_walk using wpAny_pyIter_strU
    exact ⟨_, rfl, h⟩
theorem call_zipS {prog : Program} {w : World} {A : Around} {E : Value → Shared → Prop} {s : Shared} {x y : Str} {t u : Tok} {Q : Value → Shared → Prop}
    (h : ∀ h', StZ x y t u (s.heap.objs.size + 4) (s.heap.objs.size + 2) (s.heap.objs.size + 3) s.heap.objs.size (s.heap.objs.size + 1) 0 h' → (∀ c o, s.heap.get? c = some o → h'.get? c = some o) → Q (.ref (s.heap.objs.size + 4)) { s with heap := h' }) :
    wpAny (model prog w) A (call (.type "zip") [.str x t, .str y u]) Q E s := by
  refine callType_new F.called_zip (by decide) (F.typeCall_zip_2 _ _) (F.newCall_zip_2 _ _) (fun obj => F.args_object_init_3 obj _ _) F.entry_zip_new (meets_zipS x y t u) ?_
  have n1 : (g1 s.heap x t).objs.size = s.heap.objs.size + 1 := Heap.size_push ..
  have n2 : (g1 (g1 s.heap x t) y u).objs.size = s.heap.objs.size + 2 := by rw [Heap.size_push, n1]
  have n3 : (g3 s.heap x y t u).objs.size = s.heap.objs.size + 3 := by rw [Heap.size_push, n2]
  have n4 : (g4 s.heap x y t u).objs.size = s.heap.objs.size + 4 := by rw [Heap.size_push, n3]
  have k5 : (g5 s.heap x y t u).get? (g4 s.heap x y t u).objs.size = some _ := Heap.get?_push_size _ rfl
  have k4 : (g5 s.heap x y t u).get? (g3 s.heap x y t u).objs.size = some _ := Heap.get?_push_of_some _ (Heap.get?_push_size _ rfl)
  have k3 : (g5 s.heap x y t u).get? (g1 (g1 s.heap x t) y u).objs.size = some _ := Heap.get?_push_of_some _ (Heap.get?_push_of_some _ (Heap.get?_push_size _ rfl))
  have k2 : (g5 s.heap x y t u).get? (g1 s.heap x t).objs.size = some _ := Heap.get?_push_of_some _ (Heap.get?_push_of_some _ (Heap.get?_push_of_some _ (Heap.get?_push_size _ rfl)))
  have k1 : (g5 s.heap x y t u).get? s.heap.objs.size = some _ := Heap.get?_push_of_some _ (Heap.get?_push_of_some _ (Heap.get?_push_of_some _ (Heap.get?_push_of_some _ (Heap.get?_push_size _ rfl))))
  show _ ∧ _
  rw [n2, n3, n4] at k5
  rw [n1, n2] at k3
  rw [n3] at k4
  rw [n1] at k2
  rw [n4]
  exact ⟨⟨_, k5, rfl⟩, h _ ⟨k5, k3, ⟨_, _, k4⟩, ⟨_, k1, rfl, rfl⟩, ⟨_, k2, rfl, rfl⟩⟩ fun c o e =>
    Heap.get?_push_of_some _ (Heap.get?_push_of_some _ (Heap.get?_push_of_some _ (Heap.get?_push_of_some _ (Heap.get?_push_of_some _ e))))⟩
theorem sepS (n : Nat) : ZipSep2 (n + 4) (n + 2) (n + 3) n (n + 1) [n] [n + 1] := by
  constructor <;> first | omega | (simp <;> omega) | simp
def iZipS (ta : TA) : TI := fun σ H R => ta σ H fun vs H1 => ∃ x y, vs = [.str x, .str y] ∧ R (ItzS x y) H1
theorem pi_zipS {X : Cx} {e e2 : Expr} {ta : TA} {p pos tpos : Pos} {elts : List Expr} {kk : Nat} (hg : Gl X "zip") (hm : X.mg "zip" = none) (ha : PA X [e, e2] ta)
    (hs : starEach [e, e2] X.env = (false, eval e X.env) :: starEach [e2] X.env := by rfl) (hpl : (backTo pos (starEach [e2] X.env)).any (·.1) = false := by rfl) :
    PI X (.Tuple elts kk tpos) (.Call (.Name "zip" p) [e, e2] [] pos) (iZipS ta) := by
  refine ⟨fun pins s σ H R I h => ?_⟩
  refine Call_ (ld_blt I hg hm boot_zip (callWith_type1 (thn (ha.run pos pins s σ H _ I h) fun us s1 ⟨vs, H1, I1, r1, q1⟩ => ?_) hs hpl))
  obtain ⟨x, y, ex, q⟩ := q1
  subst ex
  cases r1 with
  | cons r rr =>
    cases rr with
    | cons r' rr =>
      cases rr
      obtain ⟨t, rfl⟩ := r
      obtain ⟨u, rfl⟩ := r'
      refine call_zipS fun h' st hk => wpAny_pyIter_zip st.1 ?_
      have I2 : Inv X pins σ H1 { s1 with heap := h' } := I1.kept (t' := s1.toks) hk
      refine ⟨s1.heap.objs.size + 4, _, _, _, H1, rfl, I2, turn_zipS (sepS _) x y t u, st, fun c hcm => ?_, q⟩
      have hle : s1.heap.objs.size ≤ c := by
        rcases fp5 hcm with z | z | z | z | z <;> rw [z] <;> first | exact Nat.le_add_right _ _ | exact Nat.le_refl _
      exact I1.fpOk hle (I1.hok.fresh hle)
/-- a comprehension over it -/
theorem lc_zipS {x y : Str} {g : TG} {tt : TT} {te : TE} {vs : List Nat} {σ : L2.St} {H1 : Hp} {D : Addr} {Qd : Hp → Prop} (Pv : Nat → Hp → Prop) (h0 : Pv 0 (upd H1 D (.lst [])))
    (hs : ∀ i c d T H, x.cps[i]? = some c → y.cps[i]? = some d → Pv i H → H T = none → g (.ref T) (wipe σ vs) (upd H T (.tup [.str ⟨#[c]⟩, .str ⟨#[d]⟩])) fun σ2 H2 => wipe σ2 vs = wipe σ vs ∧ tt σ2 H2 fun b H3 =>
      if b = true then te σ2 H3 fun z H4 => ∃ acc, H4 D = some (.lst acc) ∧ acc.length < sizeLine ∧ Pv (i + 1) (upd H4 D (.lst (acc ++ [z]))) else Pv (i + 1) H3) (hd : ∀ H, Pv (min x.cps.size y.cps.size) H → Qd H) :
    ∃ W : Nat → Nat → Hp → Prop, (∃ m, W 0 m (upd H1 D (.lst []))) ∧ ∀ i m H, W i m H →
      ((ItzS x y).stop i H ∧ Qd H) ∨ ((ItzS x y).go i H ∧ ∃ Nx : Hp → Prop, (∀ H', Nx H' → ∃ m', m' < m ∧ W (i + 1) m' H') ∧ ∀ v H', (ItzS x y).yld i H v H' → g v (wipe σ vs) H' fun σ2 H2 => wipe σ2 vs = wipe σ vs ∧ tt σ2 H2 fun b H3 =>
        if b = true then te σ2 H3 fun z H4 => ∃ acc, H4 D = some (.lst acc) ∧ acc.length < sizeLine ∧ Nx (upd H4 D (.lst (acc ++ [z]))) else Nx H3) := by
  refine ⟨fun i m H => i + m = min x.cps.size y.cps.size ∧ Pv i H, ⟨_, Nat.zero_add _, h0⟩, ?_⟩
  rintro i m H ⟨e, p⟩
  by_cases hm : m = 0
  · have e2 : i = min x.cps.size y.cps.size := by omega
    refine .inl ⟨e2, hd H ?_⟩
    rw [← e2]
    exact p
  · refine .inr ⟨⟨by omega, by omega⟩, Pv (i + 1), fun H' p' => ⟨m - 1, by omega, by omega, p'⟩, ?_⟩
    rintro v H' ⟨T, c, d, rfl, hT, rfl, hc, hd'⟩
    exact hs i c d T H hc hd' p hT
theorem op_mulS {X : Cx} : OpR X (binaryOp .Mult) (fun x y H Q => ∃ z n, x = .str z ∧ y = .int n ∧ MulOk z n ∧ Q (.str (Txt.mul z n)) H) := by
  intro pins s σ H x y v u Q I rx ry h
  obtain ⟨z, n, rfl, rfl, hz, q⟩ := h
  obtain ⟨t, rfl⟩ := rx
  obtain ⟨t', rfl⟩ := ry
  exact SB.mul hz (fun t' tk => ⟨.str (Txt.mul z n), H, I.tok _, ⟨_, rfl⟩, q⟩)
end ZS

namespace ST
open PySem PySem.Spec PyProof.Rows L2
/-- how many different ones the first i of a list are -/
def dct (xs : List Str) : Nat → Nat
  | 0 => 0
  | i + 1 => if (xs.take i).any (· == xs.getD i Str.empty) = true then dct xs i else dct xs i + 1
theorem dct_le (xs : List Str) : ∀ i, dct xs i ≤ i
  | 0 => Nat.le_refl _
  | i + 1 => by
    have := dct_le xs i
    unfold dct
    split <;> omega
theorem any_next {xs : List Str} {i : Nat} (hi : i < xs.length) (k : Str) : (xs.take (i + 1)).any (· == k) = ((xs.take i).any (· == k) || decide (k = xs.getD i Str.empty)) := by
  rw [List.take_add_one, List.any_append, List.getElem?_eq_getElem hi, List.getD_eq_getElem?_getD, List.getElem?_eq_getElem hi]
  refine congrArg (fun b => (xs.take i).any (· == k) || b) ?_
  show (xs[i] == k || false) = decide (k = xs[i])
  rw [Bool.or_false]
  by_cases e : k = xs[i]
  · rw [decide_eq_true e, ← e]
    simp
  · rw [decide_eq_false e]
    simpa using fun q : xs[i] = k => e q.symm
section
variable {prog : Program} {w : World} {A : Around} {R : Result → Shared → Prop} {It : Addr} {fp wr : List Addr} {Gn : Array GenState → Array GenState → Prop} {n : Nat} {P : Nat → Value → Prop} {St : Nat → Shared → Prop}
theorem fill (W : WalksS prog w A.in1 It fp wr Gn n P St) (a : Addr) (haf : a ∉ fp) (xs : List Str) (hx : xs.length = n) (hn : n + 1 < scanBound) (hv : ∀ i v, P i v → ∃ t, v = .str (xs.getD i Str.empty) t) :
    ∀ (k i : Nat) (s : Shared), n - i = k → i ≤ n → St i s → s.heap.SetOf (PySem.strKind prog w) a (fun z => (xs.take i).any (· == z)) (dct xs i) →
      (∀ s', Moved (a :: wr) Gn s s' → s'.heap.SetOf (PySem.strKind prog w) a (fun z => (xs.take n).any (· == z)) (dct xs n) → R (.ok (.ret .none)) s') →
      codeAny (model prog w) A (.builtin "set.update.loop" ⟨[.ref a, .ref It], []⟩) R s := by
  have haw : a ∉ wr := fun q => haf (W.sub _ q)
  have up : ∀ b ∈ wr, b ∈ a :: wr := fun b q => List.mem_cons_of_mem _ q
  intro k
  induction k with
  | zero =>
    intro i s hk hi hst hset hR
    obtain rfl : i = n := by omega
    refine codeAny_builtin F.entry_set_update_loop ?_
    rw [Around.under_plainId F.plain_set_update_loop _]
    refine wpAny_bind (W.done s _ _ hst fun s' mv => wpAny_pure (hR s' (mv.mono up) ?_))
    obtain ⟨o, es, ep, tb, ho, rest⟩ := hset
    exact ⟨o, es, ep, tb, mv.heap a _ haw ho, rest⟩
  | succ k ih =>
    intro i s hk hi hst hset hR
    have hlt : i < n := by omega
    refine codeAny_builtin F.entry_set_update_loop ?_
    rw [Around.under_plainId F.plain_set_update_loop _]
    refine wpAny_bind (W.item i s _ _ hlt hst fun v s1 hp st1 mv => ?_)
    obtain ⟨t, rfl⟩ := hv i v hp
    have set1 : s1.heap.SetOf (PySem.strKind prog w) a (fun z => (xs.take i).any (· == z)) (dct xs i) := by
      obtain ⟨o, es, ep, tb, ho, rest⟩ := hset
      exact ⟨o, es, ep, tb, mv.heap a _ haw ho, rest⟩
    refine wpAny_bind (wpAny_holding ?_)
    unfold setAdd
    refine wpAny_holding (wpAny_bind ((PySem.strKind prog w).pyHash (k := xs.getD i Str.empty) (strKind_is _ _ _ _) ?_))
    have room : dct xs i + 1 < scanBound := by
      have := dct_le xs i
      omega
    refine wpAny_setAddHashed_of (knd := PySem.strKind prog w) (s := { s1 with toks := s1.toks + 1 }) (strKind_is _ _ _ _) rfl set1 room fun h2 sb set2 => ?_
    have set3 : h2.SetOf (PySem.strKind prog w) a (fun z => (xs.take (i + 1)).any (· == z)) (dct xs (i + 1)) :=
      SetOf_congr set2 (fun z => (any_next (by omega) z).symm) (by
        show dct xs (i + 1) = _
        unfold dct
        rfl)
    refine wpAny_pure ⟨plainId_quiet F.plain_set_update_loop _, ih (i + 1) _ (by omega) hlt (W.frame _ s1 _ _ st1 (Nat.le_succ _) fun b hb o e => ?_) set3 fun s2 mv2 hS2 => ?_⟩
    · rw [sb.2 b (fun q : b = a => haf (by rw [← q]; exact hb))]
      exact e
    · refine hR s2 (Moved.trans W.gtrans ((mv.mono up).then_heap (Nat.le_succ _) fun b o hb e => ?_) mv2) hS2
      rw [sb.2 b (fun q : b = a => hb (by rw [q]; exact List.mem_cons_self))]
      exact e
end
theorem walkStr {prog : Program} {w : World} {A : Around} (hh : A.handled = none) (it : Addr) (x : Str) (t : Tok) :
    Walks prog w A it [it] [it] x.cps.size (SignAt x) (fun i h => h.IsStrIter it (strIterType x) x t i) := by
  unfold strIterType
  cases x.cps.all (· < 128)
  · exact Walks.strWide hh it x t
  · exact Walks.strAscii hh it x t
def signsOf (x : Str) : List Str := x.cps.toList.map fun c => ⟨#[c]⟩
theorem signsOf_len (x : Str) : (signsOf x).length = x.cps.size := by simp [signsOf]
section
variable {prog : Program} {w : World} {A : Around} {E : Value → Shared → Prop} {s : Shared}
theorem call_set_text {x : Str} {t : Tok} {Q : Value → Shared → Prop} (hh : A.handled = none) (hn : x.cps.size + 1 < scanBound)
    (h : ∀ (h' : Heap) (tk : Nat), h'.SetOf (PySem.strKind prog w) s.heap.objs.size (fun z => ((signsOf x).take x.cps.size).any (· == z)) (dct (signsOf x) x.cps.size) →
      (∀ b o, b < s.heap.objs.size → s.heap.get? b = some o → h'.get? b = some o) → Q (.ref s.heap.objs.size) { s with heap := h', toks := tk }) :
    wpAny (model prog w) A (call (.type "set") [.str x t]) Q E s := by
  obtain ⟨c, tl, hmro⟩ := PySem.F.called_set.mro
  have hmade := PySem.F.called_set.made
  have hsub := PySem.F.called_set.sub
  refine wpAny_call (codeAny_of_tree ?_)
  show wpAny _ _ (callAny (.type "set") _) _ _ _
  refine wpAny_pure ⟨Code.quiet_builtin _ (by decide +kernel), codeAny_builtin PySem.F.entry_type_call ?_⟩
  rw [Around.under_plain (weight_type_call_type "set" [.str x t] []) rfl]
  have x1 := PySem.F.called_set.notType
  have x2 := PySem.F.called_set.canCreate
  have x3 := PySem.F.typeCall_set_1 (.str x t)
  repeat (any_goals (first | assumption | wp_step))
  refine codeAny_mono (code_set_new_1 (.str x t) (E := E) (Q₁ := fun obj s₁ => ∃ led : Bool, obj = .ref s.heap.objs.size ∧ s₁ = { s with heap := s.heap.push { cls := .type "set", dict := none, data := .set #[] 0 (.fresh 0 0 led) } }) fun led => ⟨led, rfl, rfl⟩) fun r s₁ hr => ?_
  cases r with
  | error e => exact hr
  | ok fl =>
    cases fl with
    | ret obj =>
      obtain ⟨led, rfl, rfl⟩ := hr
      obtain ⟨hp, hhp⟩ : ∃ hp, s.heap.push { cls := .type "set", dict := none, data := .set #[] 0 (.fresh 0 0 led) } = hp := ⟨_, rfl⟩
      have y1 : hp.get? s.heap.objs.size = some { cls := .type "set", dict := none, data := .set #[] 0 (.fresh 0 0 led) } := by
        rw [← hhp]
        exact Heap.get?_push_size _ rfl
      have y2 : hp.objs.size = s.heap.objs.size + 1 := by
        rw [← hhp]
        exact Heap.size_push ..
      have y3 : ∀ b o, s.heap.get? b = some o → hp.get? b = some o := fun b o e => by
        rw [← hhp]
        exact Heap.get?_push_of_some _ e
      rw [hhp]
      have hT : Shared.TypeIs { s with heap := hp } (.ref s.heap.objs.size) "set" := ⟨_, y1, rfl⟩
      have y4 := PySem.F.called_set.init.lookup
      have y5 := PySem.F.called_set.init.bind (.ref s.heap.objs.size)
      repeat (any_goals (first | assumption | wp_step))
      refine codeAny_mono (codeAny_call_builtin (R := wants (fun r s₂ => r = .none ∧ ∃ h' tk, s₂ = { s with heap := h', toks := tk } ∧
          h'.SetOf (PySem.strKind prog w) s.heap.objs.size (fun z => ((signsOf x).take x.cps.size).any (· == z)) (dct (signsOf x) x.cps.size) ∧
          (∀ b o, b < s.heap.objs.size → s.heap.get? b = some o → h'.get? b = some o)) E) PySem.F.called_set.init.plain PySem.F.entry_set_init (check_set_init_1 hT ?_)) fun r₂ s₂ hr₂ => ?_
      · have sb1 := PySem.F.sub_str_set
        have sb2 := PySem.F.sub_str_frozenset
        have sb3 : (Value.type "str" == Value.type "dict") = false := by decide
        unfold Builtin.«set.__init__» noKeywords Builtin.Frozenset.updateFrom
        generalize hPI : pyIter = PI
        wp_walk
        subst hPI
        refine wpAny_pyIter_strU ?_
        refine wpAny_bind (wpAny_runValue ?_)
        have hh3 : A.in1.in1.in1.handled = none := by simp [hh]
        have z1 : s.heap.objs.size ∉ [hp.objs.size] := by
          rw [y2]
          simp
        refine fill ((walkStr hh3 _ x t).toS) s.heap.objs.size z1 (signsOf x) (signsOf_len x) hn ?_ (x.cps.size - 0) 0 _ (by omega) (Nat.zero_le _)
          ⟨_, Heap.get?_push_size _ rfl, rfl, rfl⟩ ?_ ?_
        · rintro i v ⟨c, u, hc, rfl⟩
          refine ⟨u, ?_⟩
          unfold signsOf
          rw [List.getD_eq_getElem?_getD, List.getElem?_map, Array.getElem?_toList, hc]
          rfl
        · have z2 : (hp.push { cls := .type (strIterType x), data := .fields #[.str x t, .int 0 0] }).get? s.heap.objs.size = some { cls := .type "set", dict := none, data := .set #[] 0 (.fresh 0 0 led) } := Heap.get?_push_of_some _ y1
          exact SetOf_congr ((setObjOf_fresh (knd := PySem.strKind prog w) led).setOf z2 (by unfold scanBound; omega)) (fun _ => rfl) rfl
        · intro s' mv hS'
          obtain ⟨h', g', d', tk', os'⟩ := s'
          obtain rfl : g' = s.gens := mv.gens
          obtain rfl : d' = s.drawn := mv.drawn
          obtain rfl : os' = s.os := mv.os
          refine wpAny_pure ?_
          show wpAny _ _ (ret Value.none) _ _ _
          refine wpAny_pure ⟨rfl, h', tk', rfl, hS', fun b o hb e => ?_⟩
          refine mv.heap b o ?_ (Heap.get?_push_of_some _ (y3 b o e))
          rw [y2]
          simp only [List.mem_cons, List.not_mem_nil, or_false, not_or]
          exact ⟨Nat.ne_of_lt hb, Nat.ne_of_lt (Nat.lt_succ_of_lt hb)⟩
      · cases r₂ with
        | error e => exact hr₂
        | ok fl₂ =>
          cases fl₂ with
          | ret r =>
            obtain ⟨rfl, h', tk, rfl, hS', hk'⟩ := hr₂
            repeat (any_goals (first | assumption | wp_step))
            exact h _ _ hS' hk'
          | _ => exact hr₂.elim
    | _ => exact hr.elim
end
end ST

namespace EN
open PySem PySem.Spec PyProof.Rows L2
/-! ### len(set(text)) -/
def tLenSetS (ta : TE) : TE := fun σ H Q => ta σ H fun x H1 => ∃ z : Str, x = .str z ∧ z.cps.size < 1000 ∧ Q (.int (ST.dct (ST.signsOf z) z.cps.size)) H1
theorem pe_lenSetS {X : Cx} {a : Expr} {ta : TE} {p p2 q pos : Pos} (hc : X.calm = true) (hg : Gl X "len") (hm : X.mg "len" = none) (hg2 : Gl X "set") (hm2 : X.mg "set" = none) (ha : PE X a ta)
    (na : starEach [a] X.env = (false, eval a X.env) :: starEach [] X.env := by rfl) : PE X (.Call (.Name "len" p) [.Call (.Name "set" p2) [a] [] q] [] pos) (tLenSetS ta) := by
  refine ⟨fun pins s σ H Q I h => Call_ (ld_blt I hg hm PySem.boot_len (callWith_builtin1 (args_cons (Call_ (ld_blt I hg2 hm2 boot_set ?_)) rfl) rfl rfl))⟩
  refine callWith_type1 (args_cons (thn (ha.run pins s σ H _ I h) fun v s1 ⟨x, H1, I1, r1, z, ex, hz, q1⟩ => args_nil ?_) na) na rfl
  subst ex
  obtain ⟨t, rfl⟩ := r1
  refine ST.call_set_text (I1.ok.hd hc) (by unfold scanBound; omega) fun h' tk hS hk => args_nil ?_
  obtain ⟨o, es, ep, t, ho, hex, hd, _, _, _, hf, hn⟩ := hS
  have I2 : Inv X pins σ H1 { s1 with heap := h', toks := tk } := I1.kept fun b o e => hk b o (Heap.lt_size e) e
  have hd2 := ST.dct_le (ST.signsOf z) z.cps.size
  exact call_len_set ho hex hd hf (by rw [hn]; omega) ⟨.int _, H1, I2.tok _, ⟨_, by rw [hn]⟩, q1⟩

/-! ### enumerate over a text, over a tuple -/
def ItS (x : Str) : It := ⟨fun i _ => i < x.cps.size,
  fun i H v H' => ∃ T c, v = .ref T ∧ H T = none ∧ H' = upd H T (.tup [.int (i : Nat), .str ⟨#[c]⟩]) ∧ x.cps[i]? = some c, fun i _ => i = x.cps.size⟩
def ItT (K : PySem.W.Frag) (a : Addr) : It := ⟨fun i H => ∃ (xs : List V) (x : V), SqT K H a xs ∧ xs[i]? = some x,
  fun i H v H' => ∃ T x, v = .ref T ∧ H T = none ∧ H' = upd H T (.tup [.int (i : Nat), x]) ∧ ∀ xs, SqT K H a xs → xs[i]? = some x, fun i H => ∃ xs : List V, SqT K H a xs ∧ i = xs.length⟩
theorem two {e it b : Addr} (h : b ∈ [e, it]) : b = e ∨ b = it := by simpa using h
theorem obj_of {h : Heap} {e it : Addr} {i : Int} {old : Value} (he : IsEnum h e it i old) {o : Obj} (ho : h.get? it = some o) {vs : Array Value} (hd : o.data = .fields vs) : ∀ b ∈ [e, it], ∃ o, h.get? b = some o ∧ ∀ v, o.data ≠ .cell v := fun b hb => by
  rcases two hb with z | z
  · rw [z]; exact ⟨_, he, fun v q => nomatch q⟩
  · rw [z]; exact ⟨o, ho, fun v q => by rw [hd] at q; cases q⟩
theorem turn_enumS {P : Program} {w : World} {K : PySem.W.Frag} {elts : List Expr} {kk : Nat} {tpos : Pos} (x : Str) (t : Tok) (e it : Addr) :
    Turn P w K (.Tuple elts kk tpos) (ItS x) [e, it] e (fun i h => (∃ old, IsEnum h e it ((i : Nat) : Int) old) ∧ h.IsStrIter it (strIterType x) x t i ∧ e ≠ it) where
  mem := List.mem_cons_self
  obj := fun i h st b hb => by
    obtain ⟨⟨old, he⟩, ⟨o, ho, _, hd⟩, _⟩ := st
    exact obj_of he ho hd b hb
  keep := fun i h h' st k => by
    obtain ⟨⟨old, he⟩, ⟨o, ho, r⟩, hne⟩ := st
    exact ⟨⟨old, k e (by simp) _ he⟩, ⟨o, k it (by simp) _ ho, r⟩, hne⟩
  item := by
    intro X hP hw hK hc i pins s σ H E I hf st hg
    subst hP hw hK
    obtain ⟨⟨old, he⟩, hit, hne⟩ := st
    have D := ZS.drawsS (prog := X.prog) (w := X.w) (A := X.A.in1) (I.ok.hd hc) it x t
    have l1 : e < s.heap.objs.size := Heap.lt_size he
    have l2 : it < s.heap.objs.size := by obtain ⟨_, q, _⟩ := hit; exact Heap.lt_size q
    refine wpAny_pyNext_enum_itemD D he hit hg hne (by simpa using hne) fun v h' tk hv ho hit' hT hsz hk => ?_
    obtain ⟨c, u, hcx, rfl⟩ := hv
    refine ⟨_, rfl, wpAny_letOwnedTupleGo_enum (s := { s with heap := h', toks := tk + 1 }) ho fun h2 he2 sb => ?_⟩
    have hT2 : h2.get? s.heap.objs.size = some { cls := .type "tuple", data := .seq #[.int i tk, .str ⟨#[c]⟩ u] } := (sb.2 _ (Nat.ne_of_gt l1)).trans hT
    have new : ObjOk X.prog X.w (upd H s.heap.objs.size (.tup [.int (i : Nat), .str ⟨#[c]⟩])) h2 s.heap.objs.size (.tup [.int (i : Nat), .str ⟨#[c]⟩]) :=
      ⟨by show 2 ≤ sizeLine; decide, [.int i tk, .str ⟨#[c]⟩ u], .cons ⟨_, rfl⟩ (.cons ⟨u, rfl⟩ .nil), ⟨_, hT2, rfl, _, rfl⟩⟩
    have I1 := I.turnedNew (t' := tk + 1) (ch := [e, it]) (fun b ob hb q => (sb.2 b (fun z => hb (by simp [z]))).trans (hk b ob (fun z => hb (by simp [z])) (fun z => hb (by simp [z])) q)) hf (Nat.le_refl _) new
    refine ⟨.ref s.heap.objs.size, _, I1, rfl, ⟨_, c, rfl, I.hok.fresh (Nat.le_refl _), rfl, hcx⟩, ⟨⟨.str ⟨#[c]⟩ u, ?_⟩, ?_, hne⟩, fun b hb => ?_⟩
    · rw [show ((i + 1 : Nat) : Int) = (i : Int) + 1 by omega]
      exact he2
    · obtain ⟨o, q, r⟩ := hit'
      exact ⟨o, (sb.2 it (Ne.symm hne)).trans q, r⟩
    · rw [upd_ne (show b ≠ s.heap.objs.size from fun q => by
        rcases two hb with z | z
        · rw [← q, z] at l1; exact Nat.lt_irrefl _ l1
        · rw [← q, z] at l2; exact Nat.lt_irrefl _ l2)]
      exact (hf b hb).1
  done := by
    intro X hP hw hK hc i pins s σ H E I hf st hg
    subst hP hw hK
    obtain ⟨⟨old, he⟩, hit, hne⟩ := st
    have hg : i = x.cps.size := hg
    subst hg
    have D := ZS.drawsS (prog := X.prog) (w := X.w) (A := X.A.in1) (I.ok.hd hc) it x t
    refine wpAny_pyNext_enum_endD D he hit fun h' eb => ⟨rfl, I.turnedL (t' := s.toks) (ch := [e, it]) (fun b o hb q => eb b o (fun z => hb (by simp [z])) q) hf⟩
  self := fun A i s Q E st h => by
    obtain ⟨⟨_, he⟩, _⟩ := st
    exact wpAny_pyIter_enum he h
theorem turn_enumT {P : Program} {w : World} {K : PySem.W.Frag} {elts : List Expr} {kk : Nat} {tpos : Pos} (a e it : Addr) :
    Turn P w K (.Tuple elts kk tpos) (ItT K a) [e, it] e (fun i h => (∃ old, IsEnum h e it ((i : Nat) : Int) old) ∧ h.IsTupleIter it a i ∧ e ≠ it ∧ a ≠ it ∧ a ≠ e) where
  mem := List.mem_cons_self
  obj := fun i h st b hb => by
    obtain ⟨⟨old, he⟩, ⟨o, ho, _, hd⟩, _⟩ := st
    exact obj_of he ho hd b hb
  keep := fun i h h' st k => by
    obtain ⟨⟨old, he⟩, ⟨o, ho, r⟩, hne⟩ := st
    exact ⟨⟨old, k e (by simp) _ he⟩, ⟨o, k it (by simp) _ ho, r⟩, hne⟩
  item := by
    intro X hP hw hK hc i pins s σ H E I hf st hg
    subst hP hw hK
    obtain ⟨⟨old, he⟩, hit, hne, hai, hae⟩ := st
    obtain ⟨xs, x, hq, hx⟩ := hg
    obtain ⟨its, rv, p, hz⟩ := I.tuple hq
    obtain ⟨u, hu, ru⟩ := rv.get hx
    have hlt : i < its.toArray.size := by
      have := (List.getElem?_eq_some_iff.mp hu).1
      simpa using this
    have D := Draws.tuple (prog := X.prog) (w := X.w) (A := X.A.in1) (I.ok.hd hc) it a hai its.toArray
    have l1 : e < s.heap.objs.size := Heap.lt_size he
    have l2 : it < s.heap.objs.size := by obtain ⟨_, q, _⟩ := hit; exact Heap.lt_size q
    have hef : e ∉ [it, a] := by
      intro q
      rcases two q with z | z
      · exact hne z
      · exact hae z.symm
    refine wpAny_pyNext_enum_itemD D he ⟨hit, p⟩ hlt hne hef fun v h' tk hv ho hit' hT hsz hk => ?_
    obtain rfl : v = u := by
      have q : its.toArray[i]? = some v := hv
      rw [List.getElem?_toArray, hu] at q
      exact (Option.some.inj q).symm
    refine ⟨_, rfl, wpAny_letOwnedTupleGo_enum (s := { s with heap := h', toks := tk + 1 }) ho fun h2 he2 sb => ?_⟩
    have hT2 : h2.get? s.heap.objs.size = some { cls := .type "tuple", data := .seq #[.int i tk, v] } := (sb.2 _ (Nat.ne_of_gt l1)).trans hT
    have new : ObjOk X.prog X.w (upd H s.heap.objs.size (.tup [.int (i : Nat), x])) h2 s.heap.objs.size (.tup [.int (i : Nat), x]) :=
      ⟨by show 2 ≤ sizeLine; decide, [.int i tk, v], .cons ⟨_, rfl⟩ (.cons ru .nil), ⟨_, hT2, rfl, _, rfl⟩⟩
    have I1 := I.turnedNew (t' := tk + 1) (ch := [e, it]) (fun b ob hb q => (sb.2 b (fun z => hb (by simp [z]))).trans (hk b ob (fun z => hb (by simp [z])) (fun z => hb (by simp [z])) q)) hf (Nat.le_refl _) new
    refine ⟨.ref s.heap.objs.size, _, I1, rfl, ⟨_, x, rfl, I.hok.fresh (Nat.le_refl _), rfl, fun ys hy => by rw [I.tuple_inj hy hq]; exact hx⟩, ⟨⟨v, ?_⟩, ?_, hne, hai, hae⟩, fun b hb => ?_⟩
    · rw [show ((i + 1 : Nat) : Int) = (i : Int) + 1 by omega]
      exact he2
    · obtain ⟨o, q, r⟩ := hit'.1
      exact ⟨o, (sb.2 it (Ne.symm hne)).trans q, r⟩
    · rw [upd_ne (show b ≠ s.heap.objs.size from fun q => by
        rcases two hb with z | z
        · rw [← q, z] at l1; exact Nat.lt_irrefl _ l1
        · rw [← q, z] at l2; exact Nat.lt_irrefl _ l2)]
      exact (hf b hb).1
  done := by
    intro X hP hw hK hc i pins s σ H E I hf st hg
    subst hP hw hK
    obtain ⟨⟨old, he⟩, hit, hne, hai, hae⟩ := st
    obtain ⟨xs, hq, hx⟩ := hg
    obtain ⟨its, rv, p, hz⟩ := I.tuple hq
    have D := Draws.tuple (prog := X.prog) (w := X.w) (A := X.A.in1) (I.ok.hd hc) it a hai its.toArray
    have hl := rv.length
    have hn : i = its.toArray.size := by
      rw [List.size_toArray]
      omega
    subst hn
    refine wpAny_pyNext_enum_endD D he ⟨hit, p⟩ fun h' eb => ⟨rfl, I.turnedL (t' := s.toks) (ch := [e, it]) (fun b o hb q => eb b o (fun z => hb (by simp [z])) q) hf⟩
  self := fun A i s Q E st h => by
    obtain ⟨⟨_, he⟩, _⟩ := st
    exact wpAny_pyIter_enum he h
theorem meets_enumT (a : Addr) (xs : Array Value) :
    Meets (Builtin.«enumerate.__new__» ⟨[.type "enumerate", .ref a], []⟩) (fun _ R s => s.heap.IsTuple a xs ∧
      R (.ok (.ret (.ref (s.heap.push { cls := .type "tuple_iterator", data := .fields #[.ref a, .int 0 0] }).objs.size)))
        { s with heap := (s.heap.push { cls := .type "tuple_iterator", data := .fields #[.ref a, .int 0 0] }).push { cls := .type "enumerate", data := .fields #[.none, .bool false, .ref s.heap.objs.size, rawInt 0, .none, .none] } }) :=
  .of_wp fun prog w A R s h => by
    obtain ⟨hp, g, d, tk, os⟩ := s
    obtain ⟨hl, h⟩ := h
    have hsub := sub_enumerate
    have hL : Heap.IsTuple (Shared.heap ⟨hp, g, d, tk, os⟩) a xs := hl
    wp_walk
    refine wpAny_stack_any fun st => wpAny_pure ?_
    split
    · rename_i c _ _ _ _ _
      cases (c == Value.type "enumerate")
      all_goals
        wp_walk using wpAny_pyIter_tuple hL
        exact ⟨_, rfl, h⟩
    · wp_walk using wpAny_pyIter_tuple hL
      exact ⟨_, rfl, h⟩
section
variable {X : Cx}
def iEnumS (ta : TA) : TI := fun σ H R => ta σ H fun vs H1 => ∃ x, vs = [.str x] ∧ R (ItS x) H1
theorem pi_enumS {e : Expr} {ta : TA} {p pos tpos : Pos} {elts : List Expr} {kk : Nat} (hg : Gl X "enumerate") (hm : X.mg "enumerate" = none) (ha : PA X [e] ta) (hs : starEach [e] X.env = [(false, eval e X.env)] := by rfl) :
    PI X (.Tuple elts kk tpos) (.Call (.Name "enumerate" p) [e] [] pos) (iEnumS ta) := by
  refine ⟨fun pins s σ H R I h => Call_ (ld_blt I hg hm boot_enumerate (callWith_type1 (thn (ha.run pos pins s σ H _ I h) fun us s1 ⟨vs, H1, I1, r1, q1⟩ => ?_) hs rfl))⟩
  obtain ⟨x, ex, q⟩ := q1
  subst ex
  cases r1 with
  | cons r rr =>
    cases rr
    obtain ⟨t, rfl⟩ := r
    refine call_enumerate_str fun h' he hit hsz hk => wpAny_pyIter_enum he ?_
    refine ⟨s1.heap.objs.size + 1, _, _, _, H1, rfl, I1.kept (t' := s1.toks) hk, turn_enumS x t (s1.heap.objs.size + 1) s1.heap.objs.size, ⟨⟨.none, he⟩, hit, Nat.succ_ne_self _⟩, fun b hb => ?_, q⟩
    have hle : s1.heap.objs.size ≤ b := by
      rcases two hb with z | z <;> rw [z] <;> first | exact Nat.le_add_right _ _ | exact Nat.le_refl _
    exact I1.fpOk hle (I1.hok.fresh hle)
def iEnumT (K : PySem.W.Frag) (ta : TA) : TI := fun σ H R => ta σ H fun vs H1 => ∃ a xs, vs = [.ref a] ∧ SqT K H1 a xs ∧ R (ItT K a) H1
theorem pi_enumT {e : Expr} {ta : TA} {p pos tpos : Pos} {elts : List Expr} {kk : Nat} (hg : Gl X "enumerate") (hm : X.mg "enumerate" = none) (ha : PA X [e] ta) (hs : starEach [e] X.env = [(false, eval e X.env)] := by rfl) :
    PI X (.Tuple elts kk tpos) (.Call (.Name "enumerate" p) [e] [] pos) (iEnumT X.K ta) := by
  refine ⟨fun pins s σ H R I h => Call_ (ld_blt I hg hm boot_enumerate (callWith_type1 (thn (ha.run pos pins s σ H _ I h) fun us s1 ⟨vs, H1, I1, r1, q1⟩ => ?_) hs rfl))⟩
  obtain ⟨a, xs, ex, hq, q⟩ := q1
  subst ex
  cases r1 with
  | cons r rr =>
    cases rr
    cases r
    obtain ⟨its, rv, p', hz⟩ := I1.tuple hq
    obtain ⟨oa, hoa, _⟩ := id p'
    have la : a < s1.heap.objs.size := Heap.lt_size hoa
    refine callType_new F.called_enumerate (by decide) (F.typeCall_enumerate_1 _) (F.newCall_enumerate_1 _) (fun obj => F.args_object_init_2 obj _) F.entry_enumerate_new (meets_enumT a its.toArray) ⟨p', ?_⟩
    have hz : (s1.heap.push { cls := .type "tuple_iterator", data := .fields #[.ref a, .int 0 0] }).objs.size = s1.heap.objs.size + 1 := Heap.size_push ..
    show _ ∧ _
    rw [hz]
    have g1 := Heap.get?_push_size (s1.heap.push { cls := .type "tuple_iterator", data := .fields #[.ref a, .int 0 0] }) (o := { cls := .type "enumerate", data := .fields #[.none, .bool false, .ref s1.heap.objs.size, rawInt 0, .none, .none] }) rfl
    rw [hz] at g1
    have he : IsEnum ((s1.heap.push { cls := .type "tuple_iterator", data := .fields #[.ref a, .int 0 0] }).push { cls := .type "enumerate", data := .fields #[.none, .bool false, .ref s1.heap.objs.size, rawInt 0, .none, .none] }) (s1.heap.objs.size + 1) s1.heap.objs.size 0 .none := g1
    refine ⟨⟨_, he, rfl⟩, wpAny_pyIter_enum he ?_⟩
    refine ⟨s1.heap.objs.size + 1, _, _, _, H1, rfl, I1.kept (t' := s1.toks) fun b o e => Heap.get?_push_of_some _ (Heap.get?_push_of_some _ e), turn_enumT a (s1.heap.objs.size + 1) s1.heap.objs.size,
      ⟨⟨.none, he⟩, ⟨_, Heap.get?_push_of_some _ (Heap.get?_push_size _ rfl), rfl, rfl⟩, Nat.succ_ne_self _, Nat.ne_of_lt la, Nat.ne_of_lt (Nat.lt_succ_of_lt la)⟩, fun b hb => ?_, q⟩
    have hle : s1.heap.objs.size ≤ b := by
      rcases two hb with z | z <;> rw [z] <;> first | exact Nat.le_add_right _ _ | exact Nat.le_refl _
    exact I1.fpOk hle (I1.hok.fresh hle)
end
/-! ### loops over them -/
theorem for_enumS {x : Str} {g : TG} {tb : TS} {D : Ends} {σ : L2.St} {H : Hp} (Pv : Nat → L2.St → Hp → Prop) (h0 : Pv 0 σ H)
    (hs : ∀ (i c : Nat) (T : Addr) (σ : L2.St) (H : Hp), x.cps[i]? = some c → Pv i σ H → H T = none → g (.ref T) σ (upd H T (.tup [.int (i : Nat), .str ⟨#[c]⟩])) fun σ2 H2 => tb { D with nx := Pv (i + 1), ct := Pv (i + 1), bk := D.nx } σ2 H2)
    (hd : ∀ σ H, Pv x.cps.size σ H → D.nx σ H) :
    ∃ W : Nat → Nat → L2.St → Hp → Prop, (∃ m, W 0 m σ H) ∧ ∀ i m σ H, W i m σ H →
      ((ItS x).stop i H ∧ D.nx σ H) ∨ ((ItS x).go i H ∧ ∃ N : L2.St → Hp → Prop, (∀ σ' H', N σ' H' → ∃ m', m' < m ∧ W (i + 1) m' σ' H') ∧ ∀ v H', (ItS x).yld i H v H' → g v σ H' fun σ2 H2 => tb { D with nx := N, ct := N, bk := D.nx } σ2 H2) := by
  refine ⟨fun i m σ H => i + m = x.cps.size ∧ Pv i σ H, ⟨_, Nat.zero_add _, h0⟩, ?_⟩
  rintro i m σ H ⟨e, p⟩
  by_cases hm : m = 0
  · have e2 : i = x.cps.size := by omega
    refine .inl ⟨e2, hd σ H ?_⟩
    rw [← e2]
    exact p
  · refine .inr ⟨show i < x.cps.size by omega, Pv (i + 1), fun σ' H' p' => ⟨m - 1, by omega, by omega, p'⟩, ?_⟩
    rintro v H' ⟨T, c, rfl, hT, rfl, hc⟩
    exact hs i c T σ H hc p hT
theorem for_enumT {K : PySem.W.Frag} {a : Addr} {xs : List V} {g : TG} {tb : TS} {D : Ends} {σ : L2.St} {H : Hp} (Pv : Nat → L2.St → Hp → Prop) (h0 : Pv 0 σ H) (hq : ∀ i σ H, Pv i σ H → SqT K H a xs)
    (hs : ∀ (i : Nat) (x : V) (T : Addr) (σ : L2.St) (H : Hp), xs[i]? = some x → Pv i σ H → H T = none → g (.ref T) σ (upd H T (.tup [.int (i : Nat), x])) fun σ2 H2 => tb { D with nx := Pv (i + 1), ct := Pv (i + 1), bk := D.nx } σ2 H2)
    (hd : ∀ σ H, Pv xs.length σ H → D.nx σ H) :
    ∃ W : Nat → Nat → L2.St → Hp → Prop, (∃ m, W 0 m σ H) ∧ ∀ i m σ H, W i m σ H →
      ((ItT K a).stop i H ∧ D.nx σ H) ∨ ((ItT K a).go i H ∧ ∃ N : L2.St → Hp → Prop, (∀ σ' H', N σ' H' → ∃ m', m' < m ∧ W (i + 1) m' σ' H') ∧ ∀ v H', (ItT K a).yld i H v H' → g v σ H' fun σ2 H2 => tb { D with nx := N, ct := N, bk := D.nx } σ2 H2) := by
  refine ⟨fun i m σ H => i + m = xs.length ∧ Pv i σ H, ⟨_, Nat.zero_add _, h0⟩, ?_⟩
  rintro i m σ H ⟨e, p⟩
  by_cases hm : m = 0
  · have e2 : i = xs.length := by omega
    refine .inl ⟨⟨xs, hq i σ H p, e2⟩, hd σ H ?_⟩
    rw [← e2]
    exact p
  · have hi : i < xs.length := by omega
    refine .inr ⟨⟨xs, xs[i], hq i σ H p, List.getElem?_eq_getElem hi⟩, Pv (i + 1), fun σ' H' p' => ⟨m - 1, by omega, by omega, p'⟩, ?_⟩
    rintro v H' ⟨T, x, rfl, hT, rfl, hx⟩
    exact hs i x T σ H (hx xs (hq i σ H p)) p hT
theorem for_enumL {K : PySem.W.Frag} {a : Addr} {xs : List V} {g : TG} {tb : TS} {D : Ends} {σ : L2.St} {H : Hp} (Pv : Nat → L2.St → Hp → Prop) (h0 : Pv 0 σ H) (hq : ∀ i σ H, Pv i σ H → SqL K H a xs)
    (hs : ∀ (i : Nat) (x : V) (T : Addr) (σ : L2.St) (H : Hp), xs[i]? = some x → Pv i σ H → H T = none → g (.ref T) σ (upd H T (.tup [.int (i : Nat), x])) fun σ2 H2 => tb { D with nx := Pv (i + 1), ct := Pv (i + 1), bk := D.nx } σ2 H2)
    (hd : ∀ σ H, Pv xs.length σ H → D.nx σ H) :
    ∃ W : Nat → Nat → L2.St → Hp → Prop, (∃ m, W 0 m σ H) ∧ ∀ i m σ H, W i m σ H →
      ((Ite K a).stop i H ∧ D.nx σ H) ∨ ((Ite K a).go i H ∧ ∃ N : L2.St → Hp → Prop, (∀ σ' H', N σ' H' → ∃ m', m' < m ∧ W (i + 1) m' σ' H') ∧ ∀ v H', (Ite K a).yld i H v H' → g v σ H' fun σ2 H2 => tb { D with nx := N, ct := N, bk := D.nx } σ2 H2) := by
  refine ⟨fun i m σ H => i + m = xs.length ∧ Pv i σ H, ⟨_, Nat.zero_add _, h0⟩, ?_⟩
  rintro i m σ H ⟨e, p⟩
  by_cases hm : m = 0
  · have e2 : i = xs.length := by omega
    refine .inl ⟨⟨xs, hq i σ H p, by omega⟩, hd σ H ?_⟩
    rw [← e2]
    exact p
  · have hi : i < xs.length := by omega
    refine .inr ⟨⟨xs, xs[i], hq i σ H p, List.getElem?_eq_getElem hi⟩, Pv (i + 1), fun σ' H' p' => ⟨m - 1, by omega, by omega, p'⟩, ?_⟩
    rintro v H' ⟨T, x, rfl, hT, rfl, hx⟩
    exact hs i x T σ H (hx xs (hq i σ H p)) p hT
end EN

namespace TR
open PySem PySem.Spec PyProof.Rows L2 Evl
/-- a list or a tuple of these -/
def ob (k : Bool) (xs : List V) : HO := if k = true then .tup xs else .lst xs
theorem ob_seq {K : PySem.W.Frag} {H : Hp} {a : Addr} {k : Bool} {xs : List V} (h : H a = some (ob k xs)) : SqL K H a xs ∨ SqT K H a xs := by
  cases k
  · exact .inl (sq_of h)
  · exact .inr (st_of h)
theorem ob_list {K : PySem.W.Frag} {H : Hp} {a : Addr} {k : Bool} {xs : List V} (h : H a = some (ob k xs)) : TyX K H (.ref a) (if k = true then .type "tuple" else .type "list") := by
  cases k
  · exact .base (.lst h)
  · exact .base (.tup h)
theorem ob_ne {k : Bool} {xs : List V} {kvs : List (Key × V)} : ob k xs ≠ .dK kvs := by
  cases k <;> intro h <;> cases h
section
variable {X : Cx} {pos : Pos}
/-- a, b, .. = a list or a tuple of that length -/
def gSeq (K : PySem.W.Frag) (n : Nat) (t : TGs) : TG := fun v σ H Q => gUnl K n t v σ H Q ∨ gTup K n t v σ H Q
theorem pg_seq {es : List Expr} {k : Nat} {t : TGs} {n : Nat} (hc : X.calm = true) (h : PGs X es t)
    (hn : (assignEach es X.env).length = n := by rfl) (hst : (assignEach es X.env).findIdx? (·.1) = none := by rfl) : PG X (.Tuple es k pos) (gSeq X.K n t) := by
  refine ⟨fun pins s σ H v u Q I r hw => ?_⟩
  rcases hw with hw | hw
  · exact (pg_unl hc h hn hst).run pins s σ H v u Q I r hw
  · exact (pg_tup hc h hn hst).run pins s σ H v u Q I r hw
theorem gSeq_of {K : PySem.W.Frag} {n : Nat} {t : TGs} {H : Hp} {a : Addr} {k : Bool} {xs : List V} {σ : L2.St} {Q : L2.St → Hp → Prop} (h : H a = some (ob k xs)) (hl : xs.length = n) (q : t xs σ H Q) : gSeq K n t (.ref a) σ H Q := by
  cases k
  · exact .inl ⟨a, xs, rfl, sq_of h, hl, q⟩
  · exact .inr ⟨a, xs, rfl, st_of h, hl, q⟩
/-- a walk over either -/
def iSeq (K : PySem.W.Frag) (te : TE) : TI := fun σ H R => iList K te σ H R ∨ iTup K te σ H R
theorem pi_seq {tg e : Expr} {te : TE} (he : PE X e te) : PI X tg e (iSeq X.K te) := by
  refine ⟨fun pins s σ H R I h => ?_⟩
  rcases h with h | h
  · exact (pi_list he).run pins s σ H R I h
  · exact (pi_tup he).run pins s σ H R I h
def iEnumQ (K : PySem.W.Frag) (ta : TA) : TI := fun σ H R => iEnum K ta σ H R ∨ EN.iEnumT K ta σ H R
theorem pi_enumQ {e : Expr} {ta : TA} {p tpos : Pos} {elts : List Expr} {kk : Nat} (hg : Gl X "enumerate") (hm : X.mg "enumerate" = none) (ha : PA X [e] ta) (hs : starEach [e] X.env = [(false, eval e X.env)] := by rfl) :
    PI X (.Tuple elts kk tpos) (.Call (.Name "enumerate" p) [e] [] pos) (iEnumQ X.K ta) := by
  refine ⟨fun pins s σ H R I h => ?_⟩
  rcases h with h | h
  · exact (pi_enum hg hm ha hs).run pins s σ H R I h
  · exact (EN.pi_enumT hg hm ha hs).run pins s σ H R I h
theorem ix_at {K : PySem.W.Frag} {H : Hp} {a : Addr} {k : Bool} {xs : List V} {i : Int} {v : V} {Q : VK} (h : H a = some (ob k xs)) (hi : atI xs i = some v) (q : Q v H) : rIx K (.ref a) (.int i) H Q := by
  cases k
  · exact .inl ⟨a, xs, i, v, rfl, rfl, sq_of h, hi, q⟩
  · exact .inr (.inl ⟨a, xs, i, v, rfl, rfl, st_of h, hi, q⟩)
end
/-! ### trees -/
mutual
inductive Tr where
  | go (s q : Nat) : Tr
  | tell (n : Nat) (t : Tr) : Tr
  | read (p : Nat) (ts : Trs) : Tr
inductive Trs where
  | nil : Trs
  | cons (t : Tr) (r : Trs) : Trs
end
def Trs.list : Trs → List Tr
  | .nil => []
  | .cons t r => t :: r.list
mutual
def Tr.size : Tr → Nat
  | .go _ _ => 1
  | .tell _ t => t.size + 1
  | .read _ ts => ts.size + 1
def Trs.size : Trs → Nat
  | .nil => 0
  | .cons t r => t.size + r.size
end
mutual
def Tr.depth : Tr → Nat
  | .go _ _ => 1
  | .tell _ t => t.depth + 1
  | .read _ ts => ts.depth + 1
def Trs.depth : Trs → Nat
  | .nil => 0
  | .cons t r => max t.depth r.depth
end
/-! as described, for so many letters, this width, so many states -/
mutual
def Tr.ok (l w n : Nat) : Tr → Prop
  | .go s q => 1 ≤ s ∧ s ≤ w + 1 ∧ q < n
  | .tell k t => k ≤ 2 ∧ t.ok l w n
  | .read p ts => p ≤ w ∧ ts.list.length = l ∧ ts.ok l w n
def Trs.ok (l w n : Nat) : Trs → Prop
  | .nil => True
  | .cons t r => t.ok l w n ∧ r.ok l w n
end
/-- the trees within -/
def Tr.kids : Tr → List Tr
  | .go _ _ => []
  | .tell _ t => [t]
  | .read _ ts => ts.list
/-! how a tree stands in memory, of lists or of tuples -/
mutual
inductive TA (k : Bool) (H : Hp) : V → Tr → Prop
  | go {a : Addr} {s q : Nat} : H a = some (ob k [.str "go", .int (s : Nat), .int (q : Nat)]) → TA k H (.ref a) (.go s q)
  | tell {a : Addr} {n : Nat} {v : V} {t : Tr} : H a = some (ob k [.str "tell", .int (n : Nat), v]) → TA k H v t → TA k H (.ref a) (.tell n t)
  | read {a b : Addr} {p : Nat} {vs : List V} {ts : Trs} : H a = some (ob k [.str "read", .int (p : Nat), .ref b]) → H b = some (ob k vs) → TAs k H vs ts → TA k H (.ref a) (.read p ts)
inductive TAs (k : Bool) (H : Hp) : List V → Trs → Prop
  | nil : TAs k H [] .nil
  | cons {v : V} {vs : List V} {t : Tr} {r : Trs} : TA k H v t → TAs k H vs r → TAs k H (v :: vs) (.cons t r)
end
mutual
theorem TA.ex {k : Bool} {H H' : Hp} (e : Ex H H') : ∀ {t : Tr} {v : V}, TA k H v t → TA k H' v t
  | _, _, .go h => .go (e _ _ h)
  | _, _, .tell h r => .tell (e _ _ h) (TA.ex e r)
  | _, _, .read h1 h2 r => .read (e _ _ h1) (e _ _ h2) (TAs.ex e r)
theorem TAs.ex {k : Bool} {H H' : Hp} (e : Ex H H') : ∀ {ts : Trs} {vs : List V}, TAs k H vs ts → TAs k H' vs ts
  | _, _, .nil => .nil
  | _, _, .cons h r => .cons (TA.ex e h) (TAs.ex e r)
end
/-- a list of trees as it stands -/
inductive Kids (k : Bool) (H : Hp) : List V → List Tr → Prop
  | nil : Kids k H [] []
  | cons {v : V} {vs : List V} {t : Tr} {r : List Tr} : TA k H v t → Kids k H vs r → Kids k H (v :: vs) (t :: r)
theorem TAs.kids {k : Bool} {H : Hp} : ∀ {ts : Trs} {vs : List V}, TAs k H vs ts → Kids k H vs ts.list
  | _, _, .nil => .nil
  | _, _, .cons h r => .cons h r.kids
theorem Kids.ex {k : Bool} {H H' : Hp} (e : Ex H H') : ∀ {vs : List V} {ts : List Tr}, Kids k H vs ts → Kids k H' vs ts
  | _, _, .nil => .nil
  | _, _, .cons h r => .cons (h.ex e) (Kids.ex e r)
theorem Kids.len {k : Bool} {H : Hp} : ∀ {vs : List V} {ts : List Tr}, Kids k H vs ts → vs.length = ts.length
  | _, _, .nil => rfl
  | _, _, .cons _ r => by rw [List.length_cons, List.length_cons, r.len]
theorem Kids.get {k : Bool} {H : Hp} : ∀ {vs : List V} {ts : List Tr} {i : Nat} {x : V}, Kids k H vs ts → vs[i]? = some x → ∃ t, ts[i]? = some t ∧ TA k H x t
  | _, _, _, _, .nil, h => by cases h
  | _, _, 0, _, .cons (t := t) h1 _, h => ⟨t, rfl, by rw [← Option.some.inj h]; exact h1⟩
  | _, _, i + 1, _, .cons _ r, h => Kids.get (i := i) r h
theorem Kids.snoc {k : Bool} {H : Hp} {v : V} {t : Tr} (h : TA k H v t) : ∀ {vs : List V} {ts : List Tr}, Kids k H vs ts → Kids k H (vs ++ [v]) (ts ++ [t])
  | _, _, .nil => .cons h .nil
  | _, _, .cons h1 r => .cons h1 (Kids.snoc h r)
theorem Kids.app {k : Bool} {H : Hp} : ∀ {vs : List V} {ts : List Tr} {us : List V} {rs : List Tr}, Kids k H vs ts → Kids k H us rs → Kids k H (vs ++ us) (ts ++ rs)
  | _, _, _, _, .nil, h => h
  | _, _, _, _, .cons h r, h2 => .cons h (Kids.app r h2)
theorem size_pos : ∀ t : Tr, 1 ≤ t.size
  | .go _ _ => Nat.le_refl 1
  | .tell _ t => by
    show 1 ≤ t.size + 1
    omega
  | .read _ ts => by
    show 1 ≤ ts.size + 1
    omega
def total (ts : List Tr) : Nat := (ts.map Tr.size).sum
theorem Trs.total : ∀ ts : Trs, TR.total ts.list = ts.size
  | .nil => rfl
  | .cons t r => by
    show t.size + TR.total r.list = t.size + r.size
    rw [Trs.total r]
theorem size_kids : ∀ t : Tr, t.size = TR.total t.kids + 1
  | .go _ _ => rfl
  | .tell _ t => rfl
  | .read _ ts => by
    show ts.size + 1 = TR.total ts.list + 1
    rw [Trs.total]
theorem Trs.ok_mem {l w n : Nat} : ∀ {ts : Trs}, ts.ok l w n → ∀ t ∈ ts.list, t.ok l w n
  | .nil, _, _, h => nomatch h
  | .cons t r, h, x, hx => by
    rcases List.mem_cons.mp hx with q | q
    · rw [q]
      exact h.1
    · exact Trs.ok_mem h.2 x q
theorem ok_kids {l w n : Nat} : ∀ {t : Tr}, t.ok l w n → ∀ x ∈ t.kids, x.ok l w n
  | .go _ _, _, _, h => nomatch h
  | .tell _ t, h, x, hx => by
    rw [List.mem_singleton.mp hx]
    exact h.2
  | .read _ ts, h, x, hx => Trs.ok_mem h.2.2 x hx
theorem Trs.depth_mem : ∀ {ts : Trs}, ∀ t ∈ ts.list, t.depth ≤ ts.depth
  | .nil, _, h => nomatch h
  | .cons t r, x, hx => by
    rcases List.mem_cons.mp hx with q | q
    · rw [q]
      exact Nat.le_max_left _ _
    · exact Nat.le_trans (Trs.depth_mem x q) (Nat.le_max_right _ _)
theorem depth_kids : ∀ {t : Tr}, ∀ x ∈ t.kids, x.depth + 1 ≤ t.depth
  | .go _ _, _, h => nomatch h
  | .tell _ t, x, hx => by
    rw [List.mem_singleton.mp hx]
    exact Nat.le_refl _
  | .read _ ts, x, hx => Nat.succ_le_succ (Trs.depth_mem x hx)
end TR

/-! own errors over an own base whose __init__ they call; several except clauses with a name -/
namespace EK
open PySem PySem.Spec PyProof.Rows L2
section
variable {X : Cx} {C0 : Addr} {x : Str} {e : Expr} {es : List Expr} {ta : TA} {p1 p2 pos : Pos}
/-- B.__init__(self, ..), B an own class over ValueError without an __init__ of its own -/
theorem pe_skinit {pl : Sem Bool} (hg : Gl X x) (hm : X.mg x = some (.ref C0)) (r : ClX.CRead X.K C0 (.type "type")) (k : PySem.W.findCls X.K (.ref C0) (.type "type") "__init__" = some (.val (.builtin "ValueError.__init__"))) (ha : PA X (e :: es) ta)
    (hc : eval (.Call (.Attribute (.Name x p1) "__init__" p2) (e :: es) [] pos) X.env = (do
      let ov ← eval (.Name x p1) X.env
      standAt p2.atName
      let (f, first) ← holding [ov] (getMethod ov "__init__" pl)
      callWith pos f first (backTo pos (starEach (e :: es) X.env)) (backToKw pos (keywordEach [] X.env))) := by rfl)
    (hdb : (x == ("__debug__" : Str)) = false := by decide)
    (he : starEach (e :: es) X.env = (false, eval e X.env) :: starEach es X.env := by rfl) (hpl : (backTo pos (starEach es X.env)).any (·.1) = false := by rfl) :
    PE X (.Call (.Attribute (.Name x p1) "__init__" p2) (e :: es) [] pos) (tVeI X.K ta) := by
  refine ⟨fun pins s σ H Q I h => ?_⟩
  refine PySem.W.methodCall_KW (ld_glob I hg hm ?_ hdb) hc
  refine PySem.W.method_cls I.kIn r.ga (PySem.W.cls_value I.kIn r.rd k rfl ?_)
  show wpAny _ _ (callWith pos (Value.builtin "ValueError.__init__") [] (backTo pos (starEach (e :: es) X.env)) []) _ _ _
  refine PyProof.Rows.callWith_method1 (thn (ha.run pos pins _ σ H _ (I.tok _) h) fun us s1 ⟨vs, H1, I1, r1, a, C, ws, ev, hl, T, ea, q⟩ => ?_) he hpl
  subst ev
  cases r1 with
  | @cons _ u0 _ ur ra rw' =>
    obtain rfl : u0 = Value.ref a := ra
    have hlen : ur.length ≤ sizeLine := by
      rw [← Paired.length rw', sizeLine_eq]
      omega
    exact oinit_ok T I1 ea hlen fun s' J => ⟨.non, H1, J, rfl, q⟩
end
end EK
/-! ### isinstance of a caught error that has its dict -/
namespace PySem.W
open PySem PySem.Spec PySem.Calls PyProof.Rows
section
variable {prog : Program} {w : World} {A : Around} {E : Value → Shared → Prop} {s : Shared} {K : Frag} {x D : Addr} {ox : Obj} {od : Option Obj}
theorem ek_findObj {C : Addr} {name : Str} {a g : Value} (hc : (clsIn K C).isSome = true) (ha : findIn K (.ref C) name = some (some a)) (hg : specialIn K a "__get__" = some (some g)) (ht : takesIn K a = some true) : findObj K C od name = some (.bind g a) := by
  obtain ⟨cd, hc⟩ := Option.isSome_iff_exists.mp hc
  unfold findObj
  rw [hc, Option.bind_some, ha, Option.bind_some]
  simp [hg, ht]
theorem ek_kin_class {Q : Option Value → Shared → Prop} (hga : findIn K (.ref D) "__getattribute__" = some (some (.builtin "BaseException.__getattribute__"))) (hgt : findIn K (.ref D) "__getattr__" = some none) (hsub : subIn K (.ref D) (.type "BaseException") = some true)
    (hdct : hasDictIn K D = true) (ha : findIn K (.ref D) "__class__" = some (some (.builtin "object.__class__")))
    (hn : specialIn K (.builtin "object.__class__") "__get__" = some (some (.builtin "getset_descriptor.__get__"))) (htk : takesIn K (.builtin "object.__class__") = some true) (hm : mroIn K D (.type "object") = some true)
    (X : K.In s.heap) (I : InstAt s.heap x ox D od) (h : Q (some (.ref D)) { s with toks := s.toks + 1 }) : wpAny (model prog w) A (getAttr? (.ref x) "__class__") Q E s := by
  have hf : findObj K D od "__class__" = some (.bind (.builtin "getset_descriptor.__get__") (.builtin "object.__class__")) := ek_findObj (by obtain ⟨cd, hc, _⟩ := any_some hdct; rw [hc]; rfl) ha hn htk
  obtain ⟨hp, g, d, t, os⟩ := s
  have L0 := I.type (M := model prog w)
  have L1 := looks_findIn (M := model prog w) X hga
  have L2 := looks_findIn (M := model prog w) X hgt
  have L3 := looks_find (M := model prog w) X I hf
  have sub : Looks (model prog w) hp (isInstance (.ref x) (.type "BaseException")) true := L0.andThen (looks_subIn X hsub)
  have hx0 : (false && onTheHeap (Value.builtin "BaseException.__getattribute__")) = false := rfl
  have hx2 : (Value.builtin "BaseException.__getattribute__" == Value.builtin "object.__getattribute__") = false := by decide +kernel
  have hx1 : (onTheHeap (Value.ref D) && Value.builtin "BaseException.__getattribute__" == Value.builtin "object.__getattribute__") = false := by rw [hx2]; rfl
  unfold getAttr? getAttrBy? getAttrBy
  refine wpAny_bind (wpAny_mkText (wpAny_bind (wpAny_attempt (wpAny_holding (wpAny_bind (L0.at (wpAny_bind (L1.at ?_))))))))
  show wpAny _ _ (if (onTheHeap (Value.ref D) && Value.builtin "BaseException.__getattribute__" == Value.builtin "object.__getattribute__") = true then _ else _) _ _ _
  rw [hx1, if_neg Bool.false_ne_true]
  unfold getAttrByItsOwn hookBefore
  refine wpAny_bind ?_
  rw [if_pos (show onTheHeap (Value.ref D) = true from rfl)]
  refine L2.at ?_
  refine wpAny_bind (wpAny_attempt (wpAny_holding ?_))
  unfold callGetattribute
  rw [hx0, if_neg Bool.false_ne_true]
  unfold boundAndCalled
  rw [PySem.F.excAttr_ValueError.ga.bind (.ref x)]
  refine wpAny_bind (wpAny_pure ?_)
  show wpAny _ _ (call (.builtin "BaseException.__getattribute__") [.ref x, .str "__class__" t]) _ _ _
  refine wpAny_call (codeAny_call_builtin PySem.F.excAttr_ValueError.ga.plain PySem.F.entry_bexc_ga ?_)
  refine @check_slot (model prog w) _ _ ⟨hp, g, d, t + 1, os⟩ "BaseException.__getattribute__" "BaseException" "__getattribute__" (.ref x) [.str "__class__" t] [] _ (by decide +kernel) (by decide +kernel) sub (PySem.F.args_bexc_ga (.ref x) (.str "__class__" t)) ?_
  unfold Builtin.«object.__getattribute__»
  refine wpAny_bind (wpAny_of_eq (a := ((Value.ref x : Value), [Value.str "__class__" t])) (by first | rfl | (simp only [slotArgs]; rfl)) ?_)
  refine wpAny_bind (wpAny_pure (wpAny_bind (L0.at (wpAny_bind (L3.at ?_)))))
  show wpAny _ _ (holding [Value.builtin "object.__class__"] (call (.builtin "getset_descriptor.__get__") [.builtin "object.__class__", .ref x, .ref D]) >>= ret) _ _ _
  refine wpAny_bind (wpAny_holding (wpAny_call (class_get (s := ⟨hp, g, d, t + 1, os⟩) (ox := ox) (od := od) X I hm ?_)))
  refine wpAny_pure ?_
  show wpAny _ _ (handedOut (.ref D)) _ _ _
  rw [handedOut_of (v := .ref D) rfl]
  first
    | exact wpAny_pure (wpAny_pure h)
    | exact wpAny_pure h
    | exact wpAny_pure (wpAny_bind (wpAny_pure (wpAny_pure h)))
theorem ek_kitx (hga : findIn K (.ref D) "__getattribute__" = some (some (.builtin "BaseException.__getattribute__"))) (hgt : findIn K (.ref D) "__getattr__" = some none) (hsub : subIn K (.ref D) (.type "BaseException") = some true) (hdct : hasDictIn K D = true) (ha : findIn K (.ref D) "__class__" = some (some (.builtin "object.__class__")))
    (hn : specialIn K (.builtin "object.__class__") "__get__" = some (some (.builtin "getset_descriptor.__get__"))) (htk : takesIn K (.builtin "object.__class__") = some true) (hm : mroIn K D (.type "object") = some true) :
    KitX K (.ref x) (.ref D) (fun h => InstAt h x ox D od) where
  ty := fun _ _ _ I => I.type
  it := fun _ _ X _ => by
    obtain ⟨cdD, hcD, _⟩ := any_some hdct
    unfold clsIn at hcD
    split at hcD
    · rename_i c' d' cd' sl' ho
      intro A' Q' E' s' k q
      unfold isType loadHead
      exact wpAny_bind (wpAny_loadPart (k _ _ (X _ _ ho)) (wpAny_pure q))
    · cases hcD
  ne := fun h tp dd its n sl X htp => by
    obtain ⟨cdD, hcD, _⟩ := any_some hdct
    refine Bool.eq_false_iff.mpr fun q => ?_
    have e : D = tp := Value.ref.inj (beq_iff_eq.mp q)
    subst e
    unfold clsIn at hcD
    split at hcD
    · rename_i c' d' cd' sl' ho
      have z := (X _ _ ho).symm.trans htp
      cases z
    · cases hcD
  ca := fun X I k => ek_kin_class hga hgt hsub hdct ha hn htk hm X I k
end
end PySem.W
namespace EK
open PySem PySem.Spec PyProof.Rows L2
/-- isinstance(e, c), e the exception that the suite holds: its class D, its dict at d -/
def rIsE (K : PySem.W.Frag) (cls : Value) (d : Option Addr) (D a : Addr) : List V → Hp → VK → Prop := fun xs H Q => ∃ (c : V) (cv : Value) (b : Bool), xs = [.ref a, c] ∧ cls = .ref D ∧ (∃ dd fs, d = some dd ∧ H dd = some (.xd fs)) ∧ ClsV c cv ∧ PySem.W.kitOne K (.ref D) cv = some b ∧ Q (.bl b) H
theorem call_isE {X : Cx} {a D : Addr} {cls : Value} {d : Option Addr} {oe : Obj} {pn : List (Addr × Obj)} (C : ExcC X.K D) (hz : Zc cls d oe) (hf : ∃ vs, oe.data = .fields vs) : CallR (X.suite a ((a, oe) :: pn)) (.builtin "isinstance") (rIsE X.K cls d D a) := by
  intro pins s σ H xs us Q I r h
  obtain ⟨c, cv, b, rfl, ec, ⟨dd, fs, ed, hd⟩, k, e, q⟩ := h
  obtain ⟨u1, u2, rfl, r1, r2⟩ := vals2 r
  cases r1
  have e2 := k.eq r2
  subst e2 ec ed
  obtain ⟨hget, _⟩ := I.pin (a, oe) (List.mem_append.mpr (.inl List.mem_cons_self))
  obtain ⟨vs, hv⟩ := hf
  have hx : ObjOk X.prog X.w H s.heap dd (.xd fs) := I.hok dd _ hd
  obtain ⟨mA, hns, _⟩ := hx
  obtain ⟨od, ho, _⟩ := lookIn_ns hns
  have J : PySem.W.InstAt s.heap a oe D (some od) := ⟨hget, hz.1, by unfold PySem.W.notCls; rw [hv] <;> rfl, by rw [hz.2]; exact ho⟩
  exact PySem.W.kia_one (PySem.W.ek_kitx C.hg C.hk C.hs C.hd C.ha C.hn C.ht C.hm) I.kIn J e (fun z => nomatch z) fun tk => ⟨.bl b, H, I.kept (t' := tk) fun _ _ z => z, rfl, q⟩
/-! ### several except clauses, all with one name -/
def endsN (D : Ends) (i : Nat) : Ends := { nx := fun σ' H' => D.nx (σ'.set i none) H', rt := D.rt, bk := fun σ' H' => D.bk (σ'.set i none) H', ct := fun σ' H' => D.ct (σ'.set i none) H' }
def wManyN (K : PySem.W.Frag) (Wout : WX) (D : Ends) (i : Nat) : List (Value × (Addr → Value → Option Addr → TS)) → WX
  | [] => Wout
  | (c, ts) :: r => fun cls d σ H => ∃ b, PySem.W.exmOne K cls c = some b ∧ (b = true → ∀ a, H a = none → ts a cls d (endsN D i) (σ.set i (some (.ref a))) H) ∧ (b = false → wManyN K Wout D i r cls d σ H)
inductive HdsN (X : Cx) (n : Str) : List ExceptHandler → List (Value × (Addr → Value → Option Addr → TS)) → Prop
  | nil : HdsN X n [] []
  | cons {x : Str} {c : Value} {ts : Addr → Value → Option Addr → TS} {b₀ : Stmt} {suite : List Stmt} {np pos' : Pos} {hds : List ExceptHandler} {l : List (Value × (Addr → Value → Option Addr → TS))} (hc : Names X x c)
      (hsu : ∀ (a : Addr) (oe : Obj) (cls : Value) (d : Option Addr) (pn : List (Addr × Obj)), Zc cls d oe → (∃ vs, oe.data = .fields vs) → PSs (X.suite a ((a, oe) :: pn)) (b₀ :: suite) (ts a cls d)) (r : HdsN X n hds l) :
      HdsN X n (.ExceptHandler (some (.Name x np)) (some n) (b₀ :: suite) pos' :: hds) ((c, ts) :: l)
section
variable {X : Cx} {n : Str} {i : Nat} {body : List Stmt} {h₀ : ExceptHandler} {hds : List ExceptHandler} {l : List (Value × (Addr → Value → Option Addr → TS))} {pos : Pos} {tb : WX → TS} {Wout : WX}
theorem ps_tryN (hs : X.stack = X.env :: X.outer) (hf : X.env.frame = some X.env.locals) (hN : X.N.Nodup) (hi : X.N[i]? = some n) (hln : X.env.kindOf n = some .local) (tk : Takes X Wout)
    (hb : ∀ (W : WX) (pn : List (Addr × Obj)) (xe : Value → Shared → Prop), Takes (X.tr pn xe) W → PassesOwn (model X.prog X.w) X.A X.env xe → PSs (X.tr pn xe) body (tb W))
    (hh : HdsN X n (h₀ :: hds) l) : PS X (.Try body (h₀ :: hds) [] [] pos) (fun D σ H => tb (wManyN X.K Wout D i l) D σ H) := by
  refine ⟨fun pins s σ H D I h => ?_⟩
  have ok := I.ok
  have hfr : X.A.frames = some (X.env :: X.outer) := by rw [ok.frames, hs]
  have hloc : Loc X.env.scope n := .inl hln
  refine wpAny_Try_except ?_
  refine wpAny_mono ((hb (wManyN X.K Wout D i l) (X.pn ++ pins) (fun e s₁ => wpAny (model X.prog X.w) X.A (noteFrame e X.env) (fun _ s₂ => wpAny (model X.prog X.w) X.A (setFlight e none) (fun _ s₃ =>
    wpAny (model X.prog X.w) X.A (handleBy e X.env (h₀ :: hds)) (SP X pins D) X.xe s₃) X.xe s₂) X.xe s₁) (fun u s' xx => ?_) PassesOwn.looking).run [] s σ H D (I.toTry _) h) (fun f s1 hsp => ?_) (fun e s1 he => he)
  · -- the catch
    obtain ⟨a, B, sI, pins', σ', H', cls, d, rfl, J', nb, up, sky, na, os, ag, w⟩ := xx
    have J : Inv X pins σ' H' sI := J'.ofTry ok
    have sky' : Sky B (X.env :: X.outer) a (Zc cls d) X.env.locals s'.heap := by rw [← hs]; exact sky
    show wpAny (model X.prog X.w) X.A (noteFrame (.ref a) X.env) _ _ _
    refine Sky.land Zc.steady hfr hf sky' fun h3 fl3 up3 => ?_
    have J3 : Inv X pins σ' H' { s' with heap := h3 } := J.landed nb fl3.1 (up.trans up3) os ag
    obtain ⟨oe3, vs3, he3, hz3, hd3⟩ := fl3.there
    have notFr : ∀ {h : Heap} {o : Obj} {vs : Array Value}, h.FunFrames B (X.env :: X.outer) → h.get? a = some o → o.data = .fields vs → a ∉ frs (X.env :: X.outer) := fun {h o vs} ff e dd hm => by
      obtain ⟨_, o', e', hnf⟩ := ff.mem hm
      rw [e] at e'; cases e'
      exact hnf _ dd
    have nfr := notFr fl3.2.2.1 he3 hd3
    have nL : a ≠ X.env.locals := fun z => nfr (List.mem_filterMap.mpr ⟨X.env, List.mem_cons_self, by rw [hf, z]⟩)
    have nF : a ∉ X.fs := fun hm => by
      obtain ⟨e, he, q⟩ := List.mem_filterMap.mp hm
      exact nfr (List.mem_filterMap.mpr ⟨e, List.mem_cons_of_mem _ he, q⟩)
    have S3 := J3.suite he3 hd3 na nL nF
    have go : ∀ {hds' : List ExceptHandler} {l' : List (Value × (Addr → Value → Option Addr → TS))}, HdsN X n hds' l' → wManyN X.K Wout D i l' cls d σ' H' →
        wpAny (model X.prog X.w) X.A (handleBy (.ref a) X.env hds') (SP X pins D) X.xe { s' with heap := h3 } := by
      intro hds' l' hk
      induction hk with
      | nil =>
        intro w
        refine wpAny_handleBy_nil ?_
        obtain ⟨k1, k2, k3, oe, vs, T, oT, ts', he, hz, hd, h1, hr⟩ := id fl3
        unfold PySem.passOn
        refine wpAny_bind (wpAny_field he hd h1 ?_)
        rw [if_neg (show ¬ ((Value.ref T == Value.none) = true) from by simp)]
        have fin : wpAny (model X.prog X.w) X.A (setFlight (.ref a) X.env.frame) (fun _ s4 => wpAny (model X.prog X.w) X.A (throw (.ref a) : Sem Flow) (SP X pins D) X.xe s4) X.xe { s' with heap := h3 } := by
          rw [hf]
          refine HandSPX.setFlight_upZ fl3 fun h4 hh4 up4 => wpAny_throw (tk _ _ ?_)
          exact ⟨a, B, sI, pins, σ', H', cls, d, rfl, J, nb, (up.trans up3).trans up4, .inr (.inr (by rw [hs]; exact hh4)), na, os, ag, w⟩
        first
          | exact wpAny_bind (wpAny_pure (wpAny_bind fin))
          | exact wpAny_bind fin
      | @cons x c ts b₀ suite np pos' hds2 l2 hc hsu r ih =>
        intro w
        obtain ⟨b, hb1, hyes, hno⟩ := w
        refine wpAny_handleBy_cons (codeAny_handlers_test ?_) (by intro q; cases q)
        have LT : PySem.W.Looks (model X.prog X.w) h3 (typeOf (.ref a)) cls := fun A Q E s k q => wpAny_typeOf_ref (k _ _ he3) (by rw [hz3.1]; exact q)
        have LM := PySem.W.exm_one (M := model X.prog X.w) (J3.kIn) LT hb1
        have test : ∀ {Q : Value → Shared → Prop} {E : Value → Shared → Prop}, Q c { s' with heap := h3 } → wpAny (model X.prog X.w) (X.A.mark (some (.ref a))) (eval (.Name x np) X.env) Q E { s' with heap := h3 } := fun {Q E} q => by
          obtain ⟨hg, hdbg, hm | ⟨hm, hv, hnn⟩⟩ := hc
          · exact ld_glob (X := X.suite a ((a, oe3) :: (X.pn ++ pins))) S3 hg hm q hdbg
          · exact ld_blt (X := X.suite a ((a, oe3) :: (X.pn ++ pins))) S3 hg hm hv q hnn hdbg
        refine test (LM.here ?_)
        cases b with
        | true =>
          refine codeAny_handlers_suite_as ?_
          refine HandSPX.lands_againZ fl3 fun h4 fl4 up4 => ?_
          have J4 : Inv X pins σ' H' { s' with heap := h4 } := J.landed nb fl4.1 ((up.trans up3).trans up4) os ag
          obtain ⟨oe4, vs4, he4, hz4, hd4⟩ := fl4.there
          have S4 := J4.suite he4 hd4 na nL nF
          refine store_ok (X := X.suite a ((a, oe4) :: (X.pn ++ pins))) (v := .ref a) S4 hN hi hloc rfl (fun s5 S5 => ?_) (.inr hln)
          refine wpAny_mono ((hsu a oe4 cls d (X.pn ++ pins) hz4 ⟨_, hd4⟩).run [] s5 _ H' _ S5 (hyes rfl a na)) (fun f s6 hsp => ?_) (fun _ _ z => False.elim z)
          have end_ : ∀ {σ6 : L2.St} {H6 : Hp} {Q : Shared → Prop}, Inv (X.suite a ((a, oe4) :: (X.pn ++ pins))) [] σ6 H6 s6 → (∀ s7, Inv X pins (σ6.set i none) H6 s7 → Q s7) →
              wpAny (model X.prog X.w) X.A (do bindName X.env n .none; unbindBehindTheSuite X.env n pos') (fun _ s7 => Q s7) X.xe s6 := fun {σ6 H6 Q} S6 hq => gone_ok (S6.unsuite ok) hN hi hln hq
          cases f with
          | next =>
            obtain ⟨σ6, H6, S6, q6⟩ := hsp
            exact end_ S6 fun s7 J7 => ⟨_, _, J7, q6⟩
          | brk =>
            obtain ⟨σ6, H6, S6, q6⟩ := hsp
            exact end_ S6 fun s7 J7 => ⟨_, _, J7, q6⟩
          | cont =>
            obtain ⟨σ6, H6, S6, q6⟩ := hsp
            exact end_ S6 fun s7 J7 => ⟨_, _, J7, q6⟩
          | ret u =>
            obtain ⟨v6, σ6, H6, S6, r6, q6⟩ := hsp
            exact end_ S6 fun s7 J7 => ⟨_, _, _, J7, r6, q6⟩
        | false =>
          show wpAny _ X.A (handleBy (.ref a) X.env hds2) _ _ _
          exact ih (hno rfl)
    exact go hh w
  · cases f with
    | next =>
      obtain ⟨σ', H', J', q⟩ := hsp
      exact wpAny_execs_nil ⟨σ', H', J'.ofTry ok, q⟩
    | brk =>
      obtain ⟨σ', H', J', q⟩ := hsp
      exact ⟨σ', H', J'.ofTry ok, q⟩
    | cont =>
      obtain ⟨σ', H', J', q⟩ := hsp
      exact ⟨σ', H', J'.ofTry ok, q⟩
    | ret u =>
      obtain ⟨v, σ', H', J', r, q⟩ := hsp
      exact ⟨v, σ', H', J'.ofTry ok, r, q⟩
end
end EK

namespace GD
open PySem PySem.Spec PyProof.Rows L2
/-- a law's promise, where no text of an object is being made -/
structure Gd (P : Program) (w : World) (K : PySem.W.Frag) (mg : Str → Option Value) (base : Heap) (k : Nat) (f : Addr) (fd : FuncData) (ps : List Str) (sp : Sp) : Prop where
  run : ∀ (A : Around) (outer : List Env) (s : Shared) (H : Hp) (args : Args) (us : List Value) (vs : List V) (Q : VK) (E : XK), Room k A → A.guards = some [] → Env0 P w K mg base A outer s H → BindsTo s fd args (ps.zip us) → Vals vs us → sp vs H Q E →
    codeAny (model P w) A (.call (.ref f) args) (CR CX0 outer P w H s Q E) s
section
variable {P : Program} {w : World} {K : PySem.W.Frag} {mg : Str → Option Value} {base : Heap}
theorem deeper_guards {A : Around} {env : Env} (h : A.guards = some []) : (A.deeper env).guards = some [] := h
/-- the rule for a def, once more -/
theorem okG {x qual : Str} {st : Stmt} {f : Addr} {fd : FuncData} {N ps : List Str} {k : Nat} {sp : Sp} (F : Fun K x qual st f fd) (S : FnScope N ps (defScope st)) (len : ∀ vs H Q E, sp vs H Q E → vs.length = ps.length)
    (hbody : ∀ (cdv : Value) (A : Around) (outer : List Env) (s : Shared) (H : Hp) (vs : List V) (Q : VK) (E : XK), Room k (A.deeper (envOfC qual (defScope st) s.heap.objs.size f cdv)) → (A.deeper (envOfC qual (defScope st) s.heap.objs.size f cdv)).guards = some [] → sp vs H Q E →
      ∃ t, PSs (cxOf CX0 P w K mg base N qual (defScope st) f cdv A outer s H E).nox (defBody st) t ∧ t { nx := fun _ H' => Q .non H', rt := Q } (start N vs) H) : Gd P w K mg base (k + 1) f fd ps sp := by
  obtain ⟨oc, od, kV, doc, pm, an, cdv, ct, osl, rfl, lk, hcd⟩ := F.ex
  refine ⟨fun A outer s H args us vs Q E hr hg e0 hb r hsp => ?_⟩
  have kin : K.In s.heap := e0.mod.kin.keeps fun b o e => (e0.bs b o e).1
  have nolim : s.heap.NoLimit := e0.mod.nolimit.keeps fun b o e => (e0.bs b o e).1
  have names : ∀ y ∈ ps.zip us, (defScope st).names.lookup y.1 = some .local ∨ ((defScope st).names.lookup y.1 = some .cell ∧ ((cellsFrom (s.heap.objs.size + 1) (defScope st).names []).lookup y.1).isSome = true) := by
    rintro ⟨n, v⟩ hy
    rcases S.par n (List.of_mem_zip hy).1 with q | q
    · exact .inl q
    · exact .inr ⟨q, PySem.W.cellsFrom_some _ _ _ (.inl q)⟩
  refine codeAny_call_function hr.depth (kin _ _ lk) rfl S.co S.gen rfl (PySem.W.codeRec_of kin hcd) (hb _ _ _ _ (wpAny_newFunctionEnv_cells S.kind names fun env he s1 z => ?_))
  subst he
  refine ⟨nolim.keeps z.toInCall.keep, codeAny_func ?_⟩
  obtain ⟨t, ht, hq⟩ := hbody cdv A outer s H vs Q E (hr.deeper _) (deeper_guards hg) hsp
  have I := inv_start (CX := CX0) (E := E) S hr.hd e0 (len _ _ _ _ hsp) r z
  refine wpAny_mono (ht.nox.run [] s1 (start N vs) H _ I hq) (fun fl s' hs => ?_) fun e s' hs => hs
  cases fl with
  | ret u =>
    obtain ⟨v, σ', H', J, rv, q⟩ := hs
    exact ⟨v, H', J.os, J.bare, J.base, J.hok, rv, q⟩
  | next =>
    obtain ⟨σ', H', J, q⟩ := hs
    exact ⟨V.non, H', J.os, J.bare, J.base, J.hok, rfl, q⟩
  | brk =>
    obtain ⟨_, _, _, q⟩ := hs
    exact q.elim
  | cont =>
    obtain ⟨_, _, _, q⟩ := hs
    exact q.elim
end
/-! ### the end: the law's promise at the heap behind the top -/
/-- the script alone is known -/
def one (a : Addr) (vs : List Value) (ns : List Int) : Hp := fun b => if b = a then some (.frz { cls := .type "list", data := .seq vs.toArray } (.lst (ns.map V.int))) else none
theorem callG {P : Program} {w : World} {K : PySem.W.Frag} {mg mb : Str → Option Value} {k : Nat} {fa a : Addr} {fd : FuncData} {x : Str} {sp : Sp} {s : Shared} {vs : List Value} {ns : List Int}
    (kin : K.In s.heap) (hns : s.heap.Ns mainGlobals mg) (hb : s.heap.Ns builtinsNs mb) (hbb : ∀ x : Str, x ≠ "__name__" → mb x = bootBuiltins x) (nolim : s.heap.NoLimit) (gens : s.gens = #[])
    (ha : s.heap.get? a = some { cls := .type "list", data := .seq vs.toArray }) (hi : IntsAre vs ns) (hl : ns.length ≤ sizeLine) (room : Room k callerA)
    (F : ∀ base : Heap, K.In base → base.Ns mainGlobals mg → Gd P w K mg base k fa fd [x] sp) (binds : ∀ (s : Shared) (u : Value), BindsTo s fd ⟨[u], []⟩ [(x, u)])
    (hsp : ∀ H : Hp, SqL K H a (ns.map V.int) → sp [.ref a] H (fun v _ => v = .bl true) E0) :
    codeAny (model P w) callerA (.call (.ref fa) ⟨[.ref a], []⟩) (fun r s' => r = .ok (.ret (.bool true)) ∧ OldK s.heap s'.heap ∧ s'.os = s.os ∧ AllBare s'.gens) s := by
  have rv := vals_ints hi
  have step : ∀ H : Hp, (∀ b u, H b = some u → b = a ∧ K.lookup a = none ∧ ∃ o xs, u = .frz o (.lst xs)) → HOk P w H s.heap → SqL K H a (ns.map V.int) →
      codeAny (model P w) callerA (.call (.ref fa) ⟨[.ref a], []⟩) (fun r s' => r = .ok (.ret (.bool true)) ∧ OldK s.heap s'.heap ∧ s'.os = s.os ∧ AllBare s'.gens) s := by
    intro H only hok hS
    have free : ∀ {b : Addr}, b ≠ a → H b = none := fun {b} n => by
      cases e : H b with
      | none => rfl
      | some u => exact absurd (only b u e).1 n
    have stays : ∀ {b : Addr} {m : Str → Option Value}, s.heap.Ns b m → (hidT s.heap H).Ns b m := fun {b m} ⟨o, es, ep, e, d, r⟩ => by
      refine ⟨o, es, ep, hidT_get e (free fun z => ?_), d, r⟩
      rw [z, ha] at e
      cases e
      cases (show Data.seq vs.toArray _ = Data.dict es ep from d)
    have kinB : K.In (hidT s.heap H) := fun b o e => hidT_get (kin b o e) (by
      cases q : H b with
      | none => rfl
      | some u =>
        obtain ⟨h1, h2, _⟩ := only b u q
        rw [h1, h2] at e
        cases e)
    have e0 : Env0 P w K mg (hidT s.heap H) callerA [] s H :=
      ⟨rfl, ⟨kinB, stays hns, ⟨mb, stays hb, hbb⟩, let ⟨mc, h1, h2⟩ := nolim; ⟨mc, stays h1, h2⟩⟩, fun b o e => of_hidT e, Nat.le_of_eq (hidT_size _ _), trivial, fun b hb => (nomatch (show b ∈ ([] : List Addr) from hb)), hok, .of_eq gens⟩
    refine codeAny_mono ((F _ kinB (stays hns)).run callerA [] s H ⟨[.ref a], []⟩ [.ref a] [.ref a] _ E0 room rfl e0 (binds s (.ref a)) (.cons rfl .nil) (hsp H hS)) fun r s' h => ?_
    cases r with
    | error e => exact h.elim
    | ok fl =>
      cases fl with
      | ret u =>
        obtain ⟨v, H', os, bare, un, hok', r', q⟩ := h
        obtain rfl : v = .bl true := q
        obtain rfl : u = Value.bool true := r'
        refine ⟨rfl, OldK.of_keep fun b o e => ?_, os, bare⟩
        cases q : H b with
        | none => exact un.keep b o e q (by intro z; exact (nomatch (show b ∈ ([] : List Addr) from z))) (by simp)
        | some u =>
          obtain ⟨_, _, ob, xs, rfl⟩ := only b u q
          obtain ⟨e1, _⟩ := hok b _ q
          obtain ⟨e2, _⟩ := hok' b _ (un.frzs b ob _ q)
          rw [e] at e1
          cases e1
          exact e2
      | next => exact h.elim
      | brk => exact h.elim
      | cont => exact h.elim
  cases hk : K.lookup a with
  | some o =>
    have e := kin a o hk
    rw [ha] at e
    cases e
    refine step (fun _ => none) (fun b u z => by cases z) (fun b u z => by cases z) (.inr ⟨_, vs.toArray, _, hk, rfl, rfl, rfl, ?_, by simpa using rv⟩)
    rw [List.size_toArray, hi.length]
    exact hl
  | none =>
    refine step (one a vs ns) (fun b u z => ?_) (fun b u z => ?_) (.inl (.inr ⟨_, if_pos rfl⟩))
    · unfold one at z
      by_cases q : b = a
      · rw [if_pos q] at z
        cases z
        exact ⟨q, hk, _, _, rfl⟩
      · rw [if_neg q] at z
        cases z
    · unfold one at z
      by_cases q : b = a
      · rw [if_pos q] at z
        cases z
        subst q
        exact ⟨ha, by rw [List.length_map]; exact hl, vs, _, rv, ha⟩
      · rw [if_neg q] at z
        cases z
theorem walkG {l : PySem.W.OpenLaw} {n k : Nat} {q : Program} {loose : List Str} {XP : (Str → Option Value) → Heap → Prop} {YP : World → Heap → Prop} {d : DefRec} {K : Params → PySem.W.Frag} {sp : World → Sp} {x : Str}
    (hn : l.most = some n) (hn2 : n ≤ sizeLine) (hdf : d.params.defaults = []) (hr : Room k callerA) (hY : ∀ (w : World) (h : Heap), YP w h → (K w.params).In h)
    (F : ∀ (w : World) (mg : Str → Option Value) (fa : Addr) (h : Heap), (K w.params).In h → h.Ns mainGlobals mg → mg d.name = some (.ref fa) →
      ∃ fd : FuncData, (∀ (s : Shared) (u : Value), BindsTo s fd ⟨[u], []⟩ [(x, u)]) ∧ ∀ base : Heap, (K w.params).In base → base.Ns mainGlobals mg → Gd l.prog w (K w.params) mg base k fa fd [x] (sp w))
    (hsp : ∀ (w : World) (H : Hp) (a : Addr) (ns : List Int), ns.length ≤ n → SqL (K w.params) H a (ns.map V.int) → sp w [.ref a] H (fun v _ => v = .bl true) E0) :
    PySem.W.WalkO q loose XP YP l.row.toRowW d [] (fun f vs => PySem.call f vs) := by
  refine Att.attach_call hn hdf fun w s₀ s₁ mg mb fa o pm cd doc a vs ns G Y ho hd hcd hmg hobj hints hlen hg => ?_
  have kin := hY w _ Y
  obtain ⟨fd, hb, hF⟩ := F w mg fa _ kin G.T.g hmg
  exact callG kin G.T.g G.T.b G.T.builtins G.T.nolimit hg hobj hints (Nat.le_trans hlen hn2) hr hF hb fun H hS => hsp w H a ns hlen hS
end GD

namespace Law
open PySem PySem.Spec PyProof.Rows L2 Evl
def top (i : Nat) : Stmt := PySem.Challenge.pw_wordskips_k13_whole_traces.main.body.getD i (.Pass ⟨0, 0, 0, 0⟩)
abbrev s_wall : Stmt := top 0
abbrev N_wall : List Str := ["k"]
theorem sc_wall : FnScope N_wall ["k"] (defScope s_wall) := ⟨rfl, rfl, rfl, by decide +kernel, rfl, by decide +kernel, by decide +kernel⟩
abbrev s_is_list : Stmt := top 2
abbrev N_is_list : List Str := ["value"]
theorem sc_is_list : FnScope N_is_list ["value"] (defScope s_is_list) := ⟨rfl, rfl, rfl, by decide +kernel, rfl, by decide +kernel, by decide +kernel⟩
abbrev s_is_integer : Stmt := top 3
abbrev N_is_integer : List Str := ["value"]
theorem sc_is_integer : FnScope N_is_integer ["value"] (defScope s_is_integer) := ⟨rfl, rfl, rfl, by decide +kernel, rfl, by decide +kernel, by decide +kernel⟩
abbrev s_is_whole : Stmt := top 4
abbrev N_is_whole : List Str := ["value", "low", "high"]
theorem sc_is_whole : FnScope N_is_whole ["value", "low", "high"] (defScope s_is_whole) := ⟨rfl, rfl, rfl, by decide +kernel, rfl, by decide +kernel, by decide +kernel⟩
abbrev s_are_letters : Stmt := top 5
abbrev N_are_letters : List Str := ["value", "sign"]
theorem sc_are_letters : FnScope N_are_letters ["value"] (defScope s_are_letters) := ⟨rfl, rfl, rfl, by decide +kernel, rfl, by decide +kernel, by decide +kernel⟩
abbrev s_wrong_sign : Stmt := top 6
abbrev N_wrong_sign : List Str := ["letters", "text", "place", "sign"]
theorem sc_wrong_sign : FnScope N_wrong_sign ["letters", "text"] (defScope s_wrong_sign) := ⟨rfl, rfl, rfl, by decide +kernel, rfl, by decide +kernel, by decide +kernel⟩
abbrev s_kept : Stmt := top 15
abbrev N_kept : List Str := ["value", "part", "key"]
theorem sc_kept : FnScope N_kept ["value"] (defScope s_kept) := ⟨rfl, rfl, rfl, by decide +kernel, rfl, by decide +kernel, by decide +kernel⟩
abbrev s_first_wrong : Stmt := top 18
abbrev N_first_wrong : List Str := ["tree", "letters", "width", "states", "waiting", "number", "part", "depth", "inner"]
theorem sc_first_wrong : FnScope N_first_wrong ["tree", "letters", "width", "states"] (defScope s_first_wrong) := ⟨rfl, rfl, rfl, by decide +kernel, rfl, by decide +kernel, by decide +kernel⟩
abbrev s_all_parts : Stmt := top 19
abbrev N_all_parts : List Str := ["tree", "waiting", "found", "part", "inner"]
theorem sc_all_parts : FnScope N_all_parts ["tree"] (defScope s_all_parts) := ⟨rfl, rfl, rfl, by decide +kernel, rfl, by decide +kernel, by decide +kernel⟩
abbrev s_renamed : Stmt := top 20
abbrev N_renamed : List Str := ["tree", "names", "head", "number", "rest", "inner"]
theorem sc_renamed : FnScope N_renamed ["tree", "names"] (defScope s_renamed) := ⟨rfl, rfl, rfl, by decide +kernel, rfl, by decide +kernel, by decide +kernel⟩
abbrev s_followed : Stmt := top 21
abbrev N_followed : List Str := ["tree", "letters", "signs", "reads", "tells", "head", "number", "rest"]
theorem sc_followed : FnScope N_followed ["tree", "letters", "signs"] (defScope s_followed) := ⟨rfl, rfl, rfl, by decide +kernel, rfl, by decide +kernel, by decide +kernel⟩
abbrev s_tree_text : Stmt := top 22
abbrev N_tree_text : List Str := ["letters", "tree", "head", "number", "rest", "branches", "letter", "inner", "inside"]
theorem sc_tree_text : FnScope N_tree_text ["letters", "tree"] (defScope s_tree_text) := ⟨rfl, rfl, rfl, by decide +kernel, rfl, by decide +kernel, by decide +kernel⟩
abbrev s_rough_tree : Stmt := top 23
abbrev N_rough_tree : List Str := ["letters", "line", "words", "word"]
theorem sc_rough_tree : FnScope N_rough_tree ["letters", "line"] (defScope s_rough_tree) := ⟨rfl, rfl, rfl, by decide +kernel, rfl, by decide +kernel, by decide +kernel⟩
abbrev s_is_part : Stmt := top 24
abbrev N_is_part : List Str := ["part", "letters", "width", "states", "head", "number", "rest"]
theorem sc_is_part : FnScope N_is_part ["part", "letters", "width", "states"] (defScope s_is_part) := ⟨rfl, rfl, rfl, by decide +kernel, rfl, by decide +kernel, by decide +kernel⟩
abbrev s_within : Stmt := top 25
abbrev N_within : List Str := ["part"]
theorem sc_within : FnScope N_within ["part"] (defScope s_within) := ⟨rfl, rfl, rfl, by decide +kernel, rfl, by decide +kernel, by decide +kernel⟩
abbrev s_taken_tree : Stmt := top 26
abbrev N_taken_tree : List Str := ["letters", "words", "depth", "head", "slide", "number", "place"]
theorem sc_taken_tree : FnScope N_taken_tree ["letters", "words", "depth"] (defScope s_taken_tree) := ⟨rfl, rfl, rfl, by decide +kernel, rfl, by decide +kernel, by decide +kernel⟩
abbrev s_taken_branches : Stmt := top 27
abbrev N_taken_branches : List Str := ["letters", "words", "depth", "trees", "_"]
theorem sc_taken_branches : FnScope N_taken_branches ["letters", "words", "depth"] (defScope s_taken_branches) := ⟨rfl, rfl, rfl, by decide +kernel, rfl, by decide +kernel, by decide +kernel⟩
abbrev s_taken : Stmt := top 28
abbrev N_taken : List Str := ["words"]
theorem sc_taken : FnScope N_taken ["words"] (defScope s_taken) := ⟨rfl, rfl, rfl, by decide +kernel, rfl, by decide +kernel, by decide +kernel⟩
abbrev s_taken_number : Stmt := top 29
abbrev N_taken_number : List Str := ["words", "word"]
theorem sc_taken_number : FnScope N_taken_number ["words"] (defScope s_taken_number) := ⟨rfl, rfl, rfl, by decide +kernel, rfl, by decide +kernel, by decide +kernel⟩
abbrev s_trace : Stmt := top 33
abbrev N_trace : List Str := ["searcher", "text", "wrong"]
theorem sc_trace : FnScope N_trace ["searcher", "text"] (defScope s_trace) := ⟨rfl, rfl, rfl, by decide +kernel, rfl, by decide +kernel, by decide +kernel⟩
abbrev s_searched : Stmt := top 34
abbrev N_searched : List Str := ["searcher", "text", "windows", "told", "place", "state", "signs", "reads", "tells", "go", "number", "_", "slide"]
theorem sc_searched : FnScope N_searched ["searcher", "text"] (defScope s_searched) := ⟨rfl, rfl, rfl, by decide +kernel, rfl, by decide +kernel, by decide +kernel⟩
abbrev s_is_width : Stmt := top 40
abbrev N_is_width : List Str := ["text"]
theorem sc_is_width : FnScope N_is_width ["text"] (defScope s_is_width) := ⟨rfl, rfl, rfl, by decide +kernel, rfl, by decide +kernel, by decide +kernel⟩
abbrev s_lpen : Stmt := top 42
abbrev N_lpen : List Str := ["_law_script"]
theorem sc_lpen : FnScope N_lpen ["_law_script"] (defScope s_lpen) := ⟨rfl, rfl, rfl, by decide +kernel, rfl, by decide +kernel, by decide +kernel⟩
abbrev s_ldraw : Stmt := top 43
abbrev N_ldraw : List Str := ["_law_pen_here", "_law_many", "_law_digit", "_law_k", "_law_cells", "_law_cell", "_law_mix"]
theorem sc_ldraw : FnScope N_ldraw ["_law_pen_here", "_law_many"] (defScope s_ldraw) := ⟨rfl, rfl, rfl, by decide +kernel, rfl, by decide +kernel, by decide +kernel⟩
abbrev s_lpick : Stmt := top 44
abbrev N_lpick : List Str := ["_law_pen_here", "_law_some"]
theorem sc_lpick : FnScope N_lpick ["_law_pen_here", "_law_some"] (defScope s_lpick) := ⟨rfl, rfl, rfl, by decide +kernel, rfl, by decide +kernel, by decide +kernel⟩
abbrev s_lletters : Stmt := top 45
abbrev N_lletters : List Str := ["_law_pen_here", "_law_small", "_law_first", "_law_pace", "_law_k"]
theorem sc_lletters : FnScope N_lletters ["_law_pen_here"] (defScope s_lletters) := ⟨rfl, rfl, rfl, by decide +kernel, rfl, by decide +kernel, by decide +kernel⟩
abbrev s_ltext : Stmt := top 46
abbrev N_ltext : List Str := ["_law_pen_here", "_law_letters_here", "_law_words", "_law_most", "_law_text_here", "_law_size", "_law_word", "_law_near"]
theorem sc_ltext : FnScope N_ltext ["_law_pen_here", "_law_letters_here", "_law_words", "_law_most"] (defScope s_ltext) := ⟨rfl, rfl, rfl, by decide +kernel, rfl, by decide +kernel, by decide +kernel⟩
abbrev s_ltree : Stmt := top 47
abbrev N_ltree : List Str := ["_law_pen_here", "_law_letters_here", "_law_width", "_law_states", "_law_depth", "_law_way", "_law_place", "_law_letter"]
theorem sc_ltree : FnScope N_ltree ["_law_pen_here", "_law_letters_here", "_law_width", "_law_states", "_law_depth"] (defScope s_ltree) := ⟨rfl, rfl, rfl, by decide +kernel, rfl, by decide +kernel, by decide +kernel⟩
abbrev s_ltrees : Stmt := top 48
abbrev N_ltrees : List Str := ["_law_pen_here", "_law_letters_here", "_law_width", "_law_many", "_law_depth", "_law_k"]
theorem sc_ltrees : FnScope N_ltrees ["_law_pen_here", "_law_letters_here", "_law_width", "_law_many", "_law_depth"] (defScope s_ltrees) := ⟨rfl, rfl, rfl, by decide +kernel, rfl, by decide +kernel, by decide +kernel⟩
abbrev s_lturn : Stmt := top 49
abbrev N_lturn : List Str := ["_law_tree_here", "_law_letters_here", "_law_view", "_law_reads", "_law_numbers", "_law_letter"]
theorem sc_lturn : FnScope N_lturn ["_law_tree_here", "_law_letters_here", "_law_view"] (defScope s_lturn) := ⟨rfl, rfl, rfl, by decide +kernel, rfl, by decide +kernel, by decide +kernel⟩
abbrev s_lsearch : Stmt := top 50
abbrev N_lsearch : List Str := ["_law_letters_here", "_law_width", "_law_states", "_law_text_here", "_law_windows", "_law_told", "_law_place", "_law_state", "_law_reads", "_law_numbers", "_law_slide", "_law_after", "_law_number"]
theorem sc_lsearch : FnScope N_lsearch ["_law_letters_here", "_law_width", "_law_states", "_law_text_here"] (defScope s_lsearch) := ⟨rfl, rfl, rfl, by decide +kernel, rfl, by decide +kernel, by decide +kernel⟩
abbrev s_lmet : Stmt := top 51
abbrev N_lmet : List Str := ["_law_searcher", "_law_text_here", "e"]
theorem sc_lmet : FnScope N_lmet ["_law_searcher", "_law_text_here"] (defScope s_lmet) := ⟨rfl, rfl, rfl, by decide +kernel, rfl, by decide +kernel, by decide +kernel⟩
abbrev s_lare_refused : Stmt := top 52
abbrev N_lare_refused : List Str := ["_law_pen_here", "_law_letters_here", "_law_width", "_law_searcher", "_law_text_here", "_law_at", "_law_sign", "_law_odd", "_law_size", "_law_long", "_law_due"]
theorem sc_lare_refused : FnScope N_lare_refused ["_law_pen_here", "_law_letters_here", "_law_width"] (defScope s_lare_refused) := ⟨rfl, rfl, rfl, by decide +kernel, rfl, by decide +kernel, by decide +kernel⟩
abbrev s_law : Stmt := top 53
abbrev N_law : List Str := ["_law_script", "_law_pen_here", "_law_turn_here", "_law_letters_here", "_law_width", "_law_many", "_law_states", "_law_searcher", "_law_lap", "_law_text_here", "_law_windows", "_law_told", "_law_asked", "_law_found", "_law_place", "_law_state", "_law_reads"]
theorem sc_law : FnScope N_law ["_law_script"] (defScope s_law) := ⟨rfl, rfl, rfl, by decide +kernel, rfl, by decide +kernel, by decide +kernel⟩
abbrev s_BadText_init : Stmt := inClass (top 10) 0
abbrev N_BadText_init : List Str := ["self", "place"]
theorem sc_BadText_init : FnScope N_BadText_init ["self", "place"] (defScope s_BadText_init) := ⟨rfl, rfl, rfl, by decide +kernel, rfl, by decide +kernel, by decide +kernel⟩
abbrev s_TooMany_init : Stmt := inClass (top 12) 0
abbrev N_TooMany_init : List Str := ["self", "what", "many", "most"]
theorem sc_TooMany_init : FnScope N_TooMany_init ["self", "what", "many", "most"] (defScope s_TooMany_init) := ⟨rfl, rfl, rfl, by decide +kernel, rfl, by decide +kernel, by decide +kernel⟩
abbrev s_Trace_init : Stmt := inClass (top 32) 0
abbrev N_Trace_init : List Str := ["self", "windows", "told", "_", "reads"]
theorem sc_Trace_init : FnScope N_Trace_init ["self", "windows", "told"] (defScope s_Trace_init) := ⟨rfl, rfl, rfl, by decide +kernel, rfl, by decide +kernel, by decide +kernel⟩
abbrev s_Searcher_init : Stmt := inClass (top 39) 0
abbrev N_Searcher_init : List Str := ["self", "letters", "width", "states", "many", "state", "tree", "node", "nodes", "same"]
theorem sc_Searcher_init : FnScope N_Searcher_init ["self", "letters", "width", "states"] (defScope s_Searcher_init) := ⟨rfl, rfl, rfl, by decide +kernel, rfl, by decide +kernel, by decide +kernel⟩

/-! ### the pen -/
def penK (c : Addr) (op lf : Int) : List (Key × V) := [(.inr "cells", .ref c), (.inr "opened", .int op), (.inr "left", .int lf)]
structure PenI where
  d : Addr
  c : Addr
  ns : List Int
def PenAt (p : PenI) (H0 H : Hp) (n : Nat) : Prop := Ex H0 H ∧ H0 p.d = none ∧ H0 p.c = some (.lst (p.ns.map V.int)) ∧ p.ns.length ≤ 63 ∧
  ∃ (op : Nat) (lf : Int), op ≤ n ∧ H p.d = some (.dK (penK p.c op lf))
theorem PenAt.ex {p : PenI} {H0 H H1 : Hp} {n : Nat} (P : PenAt p H0 H n) (e : Ex H H1) : PenAt p H0 H1 n := by
  obtain ⟨e0, h0, hc, hl, op, lf, ho, hd⟩ := P
  exact ⟨e0.trans e, h0, hc, hl, op, lf, ho, e p.d _ hd⟩
theorem PenAt.le {p : PenI} {H0 H : Hp} {n m : Nat} (P : PenAt p H0 H n) (h : n ≤ m) : PenAt p H0 H m := by
  obtain ⟨e0, h0, hc, hl, op, lf, ho, hd⟩ := P
  exact ⟨e0, h0, hc, hl, op, lf, Nat.le_trans ho h, hd⟩
theorem PenAt.dict {p : PenI} {H0 H : Hp} {n : Nat} (P : PenAt p H0 H n) : ∃ kvs, H p.d = some (.dK kvs) := by
  obtain ⟨_, _, _, _, op, lf, _, h⟩ := P
  exact ⟨_, h⟩
theorem PenAt.lst_ne {p : PenI} {H0 H : Hp} {a : Addr} {n : Nat} {xs : List V} (P : PenAt p H0 H n) (h : H a = some (.lst xs)) : a ≠ p.d := by
  obtain ⟨kvs, h2⟩ := P.dict
  exact ne_of h h2 (by intro z; cases z)
/-- an object made meanwhile may change -/
theorem PenAt.upd {p : PenI} {H0 H : Hp} {a : Addr} {n : Nat} {o : HO} (P : PenAt p H0 H n) (h : H0 a = none) (hd : a ≠ p.d) : PenAt p H0 (upd H a o) n := by
  obtain ⟨e0, h0, hc, hl, op, lf, ho, hd'⟩ := P
  exact ⟨e0.mut h, h0, hc, hl, op, lf, ho, by rw [upd_ne hd.symm]; exact hd'⟩
/-- one more object kept, and let go again -/
theorem PenAt.keep {p : PenI} {H0 H : Hp} {a : Addr} {n : Nat} {o : HO} (P : PenAt p H0 H n) (h : H a = some o) (hd : a ≠ p.d) : PenAt p (L2.upd H0 a o) H n := by
  obtain ⟨e0, h0, hc, r⟩ := P
  refine ⟨fun b u e => ?_, by rw [upd_ne hd.symm]; exact h0, ?_, r⟩
  · by_cases q : b = a
    · subst q
      rw [upd_same] at e
      rw [h, e]
    · rw [upd_ne q] at e
      exact e0 b u e
  · by_cases q : p.c = a
    · have e2 := e0 _ _ hc
      rw [q, h] at e2
      rw [q, upd_same, e2]
    · rw [upd_ne q]
      exact hc
theorem PenAt.drop {p : PenI} {H0 H H' : Hp} {a : Addr} {n m : Nat} {o : HO} (P : PenAt p H0 H n) (h : H a = some o) (P' : PenAt p (L2.upd H0 a o) H' m) : PenAt p H0 H' m := by
  refine ⟨fun b u e => ?_, P.2.1, P.2.2.1, P'.2.2.2⟩
  by_cases q : b = a
  · subst q
    have e2 := P.1 _ _ e
    rw [h] at e2
    exact P'.1 _ _ (by rw [upd_same, e2])
  · exact P'.1 _ _ (by rw [upd_ne q]; exact e)
theorem cells_opened : ¬ (("cells" : Str) = "opened") := by decide +kernel
theorem cells_left : ¬ (("cells" : Str) = "left") := by decide +kernel
theorem opened_left : ¬ (("opened" : Str) = "left") := by decide +kernel
theorem get_cells (c : Addr) (op lf : Int) : valV (penK c op lf) (.inr "cells") = some (.ref c) := by
  unfold valV penK
  rw [List.find?_cons_of_pos (by simp)]
  rfl
theorem get_opened (c : Addr) (op lf : Int) : valV (penK c op lf) (.inr "opened") = some (.int op) := by
  unfold valV penK
  rw [List.find?_cons_of_neg (by simpa using cells_opened), List.find?_cons_of_pos (by simp)]
  rfl
theorem get_left (c : Addr) (op lf : Int) : valV (penK c op lf) (.inr "left") = some (.int lf) := by
  unfold valV penK
  rw [List.find?_cons_of_neg (by simpa using cells_left), List.find?_cons_of_neg (by simpa using opened_left), List.find?_cons_of_pos (by simp)]
  rfl
theorem put_opened (c : Addr) (op lf x : Int) : putK (penK c op lf) (.inr "opened") (.int x) = penK c x lf := by
  unfold putK penK
  simp [cells_opened, opened_left, cells_left, Ne.symm opened_left]
theorem put_left (c : Addr) (op lf x : Int) : putK (penK c op lf) (.inr "left") (.int x) = penK c op x := by
  unfold putK penK
  simp [cells_opened, opened_left, cells_left]
theorem dget_of {H : Hp} {d : Addr} {kvs : List (Key × V)} {k : Str} {v : V} (e : H d = some (.dK kvs)) (h : valV kvs (.inr k) = some v) : DGet H d (.str k) (some v) := by
  rw [← h]
  exact DGet.k (k := .inr k) e
theorem dput_of {H : Hp} {d : Addr} {kvs kvs' : List (Key × V)} {k : Str} {v : V} (e : H d = some (.dK kvs)) (hl : kvs.length < 100) (h : putK kvs (.inr k) v = kvs') : DPut H d (.str k) v (upd H d (.dK kvs')) := by
  rw [← h]
  exact DPut.k (k := .inr k) e (Nat.lt_of_lt_of_le hl (by decide))

/-! ### lists of ints as data -/
theorem lay_ints : ∀ ns : List Int, PyData.canLayAll0 (ns.map PyData.int) = true
  | [] => rfl
  | n :: r => by
    show (PyData.canLay0 (.int n) && PyData.canLayAll0 (r.map PyData.int)) = true
    rw [lay_ints r]
    rfl
theorem depth_ints : ∀ ns : List Int, PyData.depthAll (ns.map PyData.int) = 0
  | [] => rfl
  | n :: r => by
    show max (PyData.depth (.int n)) (PyData.depthAll (r.map PyData.int)) = 0
    rw [depth_ints r]
    rfl
theorem shaped_ints (ns : List Int) : SeqAt.shaped (.list (ns.map PyData.int)) = true := by
  unfold SeqAt.shaped
  have e1 : (PyData.list (ns.map PyData.int)).canLay0 = true := lay_ints ns
  have e2 : (PyData.list (ns.map PyData.int)).depth = 1 := by
    show PyData.depthAll (ns.map PyData.int) + 1 = 1
    rw [depth_ints]
  rw [e1, e2]
  rfl
theorem dp_ints {K : PySem.W.Frag} {H : Hp} : ∀ ns : List Int, DpAll K H (ns.map V.int) (ns.map PyData.int)
  | [] => .nil
  | n :: r => .cons (.int n) (dp_ints r)
theorem eqv_nil (ns : List Int) : PyData.eqv (.list (ns.map PyData.int)) (.list []) = ns.isEmpty := by
  cases ns <;> rfl

/-! ### what is known of a def that is called -/
structure Kn (P : Program) (w : World) (K : PySem.W.Frag) (mg : Str → Option Value) (base : Heap) (x : Str) (ps : List Str) (k : Nat) (sp : Sp) where
  f : Addr
  fd : FuncData
  ok : FnOk P w K mg base CX0 k f fd ps sp
  g : mg x = some (.ref f)
  kp : PySem.W.keepIn K (.ref f) = true
  b : Binds K fd ps []
structure Tx (mg : Str → Option Value) where
  len : mg "len" = none
  int : mg "int" = none
  bool : mg "bool" = none
  abs : mg "abs" = none
  min : mg "min" = none
  list : mg "list" = none
  all : mg "all" = none
  range : mg "range" = none
  isinstance : mg "isinstance" = none
  str : mg "str" = none
  set : mg "set" = none
  tuple : mg "tuple" = none
  dict : mg "dict" = none
  enumerate : mg "enumerate" = none
  reversed : mg "reversed" = none
  sum : mg "sum" = none
  k_DEEPEST : Tok
  m_DEEPEST : mg "DEEPEST" = some (.int 40 k_DEEPEST)
  k_MOST_WIDTH : Tok
  m_MOST_WIDTH : mg "MOST_WIDTH" = some (.int 8 k_MOST_WIDTH)
  k_MOST_STATES : Tok
  m_MOST_STATES : mg "MOST_STATES" = some (.int 64 k_MOST_STATES)
  k_MOST_NODES : Tok
  m_MOST_NODES : mg "MOST_NODES" = some (.int 3000 k_MOST_NODES)
  k_MOST_LETTERS : Tok
  m_MOST_LETTERS : mg "MOST_LETTERS" = some (.int 5000 k_MOST_LETTERS)

def spPen (K : PySem.W.Frag) : Sp := fun vs H Q _ => ∃ (a : Addr) (ns : List Int), vs = [.ref a] ∧ SqL K H a (ns.map V.int) ∧ ns.length ≤ 63 ∧ ∀ p H0 H', Ex H H0 → PenAt p H0 H' 0 → Q (.ref p.d) H'
def spDraw : Sp := fun vs H Q _ => ∃ (p : PenI) (H0 : Hp) (n : Nat) (m : Int), vs = [.ref p.d, .int m] ∧ PenAt p H0 H n ∧ n < 1000000 ∧ 0 < m ∧ m < 1000 ∧ ∀ H' r, PenAt p H0 H' (n + 1) → 0 ≤ r → r < m → Q (.int r) H'

section
variable {P : Program} {w : World} {K : PySem.W.Frag} {mg : Str → Option Value} {base : Heap}
theorem ok_pen {f : Addr} {fd : FuncData} (F : Fun K "_law_pen" "_law_pen" s_lpen f fd) (T : Tx mg) : FnOk P w K mg base CX0 1 f fd ["_law_script"] (spPen K) := by
  refine F.ok sc_lpen (fun vs H Q E h => ?_) (fun cdv A outer s H vs Q E hr h => ?_)
  · obtain ⟨a, ns, rfl, _⟩ := h
    rfl
  · obtain ⟨a, ns, rfl, hS, hl, q⟩ := h
    refine ⟨_, (pss_one (ps_ret (pe_disp (pps_cons pe_str (pe_callTy call_list_of (by rfl) T.list PyProof.Rows.boot_list (pa_cons (pe_slice sl_list (pv 0) po_none (po_some pe_int)) pa_nil)) (pps_cons pe_str pe_int (pps_cons pe_str pe_int pps_nil))) (by rfl) (by rfl) (fun z => by cases z) (by decide)))), ?_⟩
    intro d hd
    have e1 : Ex H (upd H d (.dK [])) := Ex.new hd
    refine ⟨.ref a, rfl, 63, rfl, a, _, rfl, ex_l e1 hS, fun c hc => ?_⟩
    have e2 := e1.trans (Ex.new (o := .lst (cutV (ns.map V.int) none (some 63))) hc)
    refine ⟨c, _, rfl, .inl (.inl (.inl upd_same)), fun c2 hc2 => ?_⟩
    have e3 := e2.trans (Ex.new (o := .lst (cutV (ns.map V.int) none (some 63))) hc2)
    have ncd : c ≠ d := fun z => by rw [z, upd_same] at hc; cases hc
    have nc2c : c2 ≠ c := fun z => by rw [z, upd_same] at hc2; cases hc2
    have nc2d : c2 ≠ d := fun z => by rw [z, upd_ne ncd.symm, upd_same] at hc2; cases hc2
    refine ⟨by rw [upd_ne nc2d.symm, upd_ne ncd.symm, upd_same], penK c2 0 0, rfl, (by show 3 ≤ 15; decide), ?_⟩
    have em : mergeK [] (penK c2 0 0) = penK c2 0 0 := by
      unfold mergeK penK
      simp [putK, cells_opened, opened_left, cells_left]
    rw [em]
    have el : ((cutV (ns.map V.int) none (some 63)) : List V) = ((ns.drop (HT.sIx ns.length 0 none)).take (HT.sIx ns.length ns.length (some 63) - HT.sIx ns.length 0 none)).map V.int := by
      unfold cutV
      rw [List.length_map, List.map_take, List.map_drop]
    have hn2 : H c2 = none := by
      rw [upd_ne nc2c, upd_ne nc2d] at hc2
      exact hc2
    refine q ⟨d, c2, (ns.drop (HT.sIx ns.length 0 none)).take (HT.sIx ns.length ns.length (some 63) - HT.sIx ns.length 0 none)⟩ (upd H c2 (.lst (cutV (ns.map V.int) none (some 63)))) _ (Ex.new hn2) ⟨fun b u e => ?_, ?_, ?_, ?_, 0, 0, Nat.le_refl _, upd_same⟩
    · have nbd : b ≠ d := fun z => by
        rw [z, upd_ne nc2d.symm, hd] at e
        cases e
      rw [upd_ne nbd]
      by_cases z : b = c2
      · subst z
        rw [upd_same] at e ⊢
        exact e
      · rw [upd_ne z] at e ⊢
        exact (e1.trans (Ex.new hc)) _ _ e
    · exact (upd_ne nc2d.symm).trans hd
    · show upd H c2 _ c2 = _
      rw [upd_same, el]
    · rw [List.length_take, List.length_drop]
      omega
theorem ok_draw {f : Addr} {fd : FuncData} (F : Fun K "_law_draw" "_law_draw" s_ldraw f fd) (T : Tx mg) : FnOk P w K mg base CX0 1 f fd ["_law_pen_here", "_law_many"] spDraw := by
  refine F.ok sc_ldraw (fun vs H Q E h => ?_) (fun cdv A outer s H vs Q E hr h => ?_)
  · obtain ⟨p, H0, n, m, rfl, _⟩ := h
    rfl
  · obtain ⟨⟨d, c, ns⟩, H0, n, m, rfl, ⟨e0, h0, hc0, hl, op, lf, ho, hd⟩, hn, hm0, hm1, q⟩ := h
    have hc : H c = some (.lst (ns.map V.int)) := e0 _ _ hc0
    dsimp only at h0 hl hd q ⊢
    have ncd : c ≠ d := ne_of hc hd (by intro z; cases z)
    have fin : ∀ (o2 : Nat) (l2 : Int) (H' : Hp), Ex H0 H' → H' c = some (.lst (ns.map V.int)) → H' d = some (.dK (penK c o2 l2)) → o2 ≤ n + 1 → PenAt ⟨d, c, ns⟩ H0 H' (n + 1) :=
      fun o2 l2 H' x1 x2 x3 x4 => ⟨x1, h0, hc0, hl, o2, l2, x4, x3⟩
    refine ⟨_, (pss_cons (ps_if (pt_cmpR op_gt (pe_dget (hu_of hr) (pv 0) pe_str (fun _ _ => rfl)) pe_int (nomark _)) (pss_cons (ps_set (i := 2) sc_ldraw.nd rfl (Or.inl rfl) (pe_op op_mod (pe_callTy call_int1 (by rfl) T.int PyProof.Rows.boot_int (pa_cons (pe_dget (hu_of hr) (pv 0) pe_str (fun _ _ => rfl)) pa_nil)) (pv 1)))
      (pss_cons (ps_dput (hu_of hr) (pv 0) pe_str (pe_op op_fdivN (pe_dget (hu_of hr) (pv 0) pe_str (fun _ _ => rfl)) (pv 1)) rfl)
      (pss_one (ps_ret (pv 2))))) pss_nil)
      (pss_cons (ps_par (i := 3) (j := 4) (by rfl) sc_ldraw.nd rfl rfl (by decide) rfl rfl (pa_cons (pe_dget (hu_of hr) (pv 0) pe_str (fun _ _ => rfl)) (pa_cons (pe_dget (hu_of hr) (pv 0) pe_str (fun _ _ => rfl)) pa_nil)) (by rfl))
      (pss_cons (ps_dput (hu_of hr) (pv 0) pe_str (pe_op op_add (pv 3) pe_int) rfl)
      (pss_cons (ps_if (pt_cmpR (op_eqD hr.units) (pv 4) (pe_lst pa_nil) (nomark _)) (pss_one (ps_ret (pe_op op_mod (pe_callTy call_int1 (by rfl) T.int PyProof.Rows.boot_int (pa_cons (pe_op op_add (pe_op op_mul pe_int (pv 3)) pe_int) pa_nil)) (pv 1)))) pss_nil)
      (pss_cons (ps_set (i := 5) sc_ldraw.nd rfl (Or.inl rfl) (pe_ix ix_list (pv 4) (pe_op op_mod (pe_callTy call_int1 (by rfl) T.int PyProof.Rows.boot_int (pa_cons (pv 3) pa_nil)) (pe_callB call_len_seq (by rfl) T.len PySem.boot_len (pa_cons (pv 4) pa_nil))) (fun _ _ => rfl)))
      (pss_cons (ps_if (PW.pt (pw_and (pt_cmpR op_lt (pv 3) (pe_callB call_len_seq (by rfl) T.len PySem.boot_len (pa_cons (pv 4) pa_nil)) (nomark _)) (pw_and1 (pt_cmpR op_ge (pe_callB call_abs (by rfl) T.abs (by decide +kernel) (pa_cons (pv 5) pa_nil)) (pe_op op_pow pe_int pe_int) (nomark _))))) (pss_cons (ps_dput (hu_of hr) (pv 0) pe_str (pe_op op_fdivN (pe_op op_sub (pe_callB call_abs (by rfl) T.abs (by decide +kernel) (pa_cons (pv 5) pa_nil)) (pe_op op_pow pe_int pe_int)) (pv 1)) rfl)
      (pss_one (ps_ret (pe_op op_mod (pe_callTy call_int1 (by rfl) T.int PyProof.Rows.boot_int (pa_cons (pe_op op_sub (pe_callB call_abs (by rfl) T.abs (by decide +kernel) (pa_cons (pv 5) pa_nil)) (pe_op op_pow pe_int pe_int)) pa_nil)) (pv 1))))) pss_nil)
      (pss_cons (ps_set (i := 6) sc_ldraw.nd rfl (Or.inl rfl) (pe_op op_mod (pe_callTy call_int1 (by rfl) T.int PyProof.Rows.boot_int (pa_cons (pe_op op_add (pe_op op_add (pe_op op_add (pe_op op_mul (pe_op op_mod (pe_callTy call_int1 (by rfl) T.int PyProof.Rows.boot_int (pa_cons (pv 5) pa_nil)) pe_int) pe_int) (pe_op op_mul (pe_op op_mul pe_int (pv 3)) (pv 3))) (pe_op op_mul pe_int (pv 3))) pe_int) pa_nil)) pe_int))
      (pss_cons (ps_set (i := 6) sc_ldraw.nd rfl (Or.inl rfl) (pe_op op_mod (pe_callTy call_int1 (by rfl) T.int PyProof.Rows.boot_int (pa_cons (pe_op op_add (pe_op op_add (pe_op op_mul (pv 6) (pv 6)) (pe_op op_mul pe_int (pv 6))) (pe_op op_mul pe_int (pv 3))) pa_nil)) pe_int))
      (pss_one (ps_ret (pe_op op_mod (pe_callTy call_int1 (by rfl) T.int PyProof.Rows.boot_int (pa_cons (pe_op op_fdivN (pe_op op_mod (pe_callTy call_int1 (by rfl) T.int PyProof.Rows.boot_int (pa_cons (pe_op op_mul (pv 6) (pe_op op_add (pv 6) pe_int)) pa_nil)) pe_int) pe_int) pa_nil)) (pv 1)))))))))))), ?_⟩
    refine ⟨_, rfl, d, .int lf, rfl, dget_of hd (get_left _ _ _), _, _, rfl, rfl, _, rfl, ite2 (fun hp => ?_) (fun hp => ?_)⟩
    · refine ⟨_, rfl, d, .int lf, rfl, dget_of hd (get_left _ _ _), .inl ⟨_, rfl, ?_⟩⟩
      refine ⟨_, rfl, _, _, rfl, rfl, hm0, ?_⟩
      refine ⟨_, rfl, d, .int lf, rfl, dget_of hd (get_left _ _ _), _, rfl, _, _, rfl, rfl, ⟨by omega, by omega⟩, ?_⟩
      refine ⟨_, rfl, d, _, rfl, dput_of hd (by show 3 < 100; decide) (put_left _ _ _ _), ?_⟩
      refine ⟨_, rfl, ?_⟩
      exact q _ _ (fin op _ _ (e0.mut h0) (by rw [upd_ne ncd]; exact hc) upd_same (by omega)) (Int.emod_nonneg _ (by omega)) (Int.emod_lt_of_pos _ hm0)
    · refine ⟨_, rfl, d, _, rfl, dget_of hd (get_opened _ _ _), _, rfl, d, _, rfl, dget_of hd (get_cells _ _ _), _, _, rfl, ?_⟩
      refine ⟨_, rfl, _, _, rfl, rfl, _, rfl, d, _, rfl, dput_of hd (by show 3 < 100; decide) (put_opened _ _ _ _), ?_⟩
      have x1 : Ex H0 (upd H d (.dK (penK c ((op : Int) + 1) lf))) := e0.mut h0
      have hc1 : (upd H d (.dK (penK c ((op : Int) + 1) lf))) c = some (.lst (ns.map V.int)) := by
        rw [upd_ne ncd]
        exact hc
      have hd1 : (upd H d (.dK (penK c ((op : Int) + 1) lf))) d = some (.dK (penK c ((op + 1 : Nat) : Int) lf)) := upd_same
      generalize (upd H d (.dK (penK c ((op : Int) + 1) lf))) = H1 at x1 hc1 hd1 ⊢
      -- if cells == []
      refine ⟨_, rfl, Nat.zero_le _, fun el hel => ?_⟩
      have x2 := x1.trans (Ex.new (o := .lst []) hel)
      have hc2 : (upd H1 el (.lst [])) c = some (.lst (ns.map V.int)) := Ex.new hel _ _ hc1
      have hd2 : (upd H1 el (.lst [])) d = some (.dK (penK c ((op + 1 : Nat) : Int) lf)) := Ex.new hel _ _ hd1
      refine ⟨.list (ns.map PyData.int), .list [], .lst (sq_of hc2) (dp_ints ns), .lst (xs := []) (sq_of upd_same) .nil, shaped_ints ns, rfl, _, rfl, ?_⟩
      rw [eqv_nil]
      generalize (upd H1 el (.lst [])) = H2 at x2 hc2 hd2 ⊢
      cases hns : ns.isEmpty with
      | true =>
        refine iteT ?_
        refine ⟨_, rfl, _, _, rfl, rfl, .inl (by decide), _, _, rfl, rfl, .inl ⟨_, rfl, _, rfl, _, _, rfl, rfl, hm0, ?_⟩⟩
        exact q _ _ (fin _ _ _ x2 hc2 hd2 (by omega)) (Int.emod_nonneg _ (by omega)) (Int.emod_lt_of_pos _ hm0)
      | false =>
        refine iteF ?_
        have hpos : 0 < ns.length := by
          cases ns with
          | nil => cases hns
          | cons x r => exact Nat.succ_pos _
        have hL : (0 : Int) < ((ns.map V.int).length : Int) := by
          rw [List.length_map]
          omega
        -- cell = cells[int(k) % len(cells)]
        obtain ⟨i, hi⟩ : ∃ i : Nat, (op : Int) % ((ns.map V.int).length : Int) = (i : Int) := ⟨((op : Int) % ((ns.map V.int).length : Int)).toNat, (Int.toNat_of_nonneg (Int.emod_nonneg _ (by omega))).symm⟩
        have hi2 : i < ns.length := by
          have := Int.emod_lt_of_pos (op : Int) hL
          rw [hi, List.length_map] at this
          omega
        have hat : atI (ns.map V.int) ((op : Int) % ((ns.map V.int).length : Int)) = some (V.int ns[i]) := by
          rw [hi]
          exact atI_nat (by rw [List.getElem?_map, List.getElem?_eq_getElem hi2]; rfl)
        refine ⟨_, rfl, _, rfl, .inl ⟨_, rfl, _, rfl, c, _, rfl, .inl (sq_of hc2), _, _, rfl, rfl, hL, c, _, _, _, rfl, rfl, sq_of hc2, hat, ?_⟩⟩
        generalize ns[i] = x
        -- the test
        have hcell : ∀ {σ : L2.St} {H' : Hp}, σ[5]? = some (some (V.int x)) → Ev (tVar 5) σ H' (V.int x) := fun h => ev_var h
        dsimp only [gName]
        refine q_when (b := decide ((op : Int) < ((ns.map V.int).length : Int)) && decide ((10 : Int) ^ (18 : Int).toNat ≤ (if x < 0 then -x else x)))
          (et_and (fun H4 e4 Q4 q4 => ?_) (fun _ H4 e4 Q4 q4 => ?_)) (fun hb H3 e3 => ?_) (fun hb H3 e3 => ?_)
        · exact ⟨_, rfl, _, rfl, c, _, rfl, .inl (sq_of (e4 _ _ hc2)), _, _, rfl, rfl, _, rfl, q4 _ (Ex.refl _)⟩
        · exact ⟨_, rfl, _, rfl, _, _, rfl, rfl, ⟨by decide, by decide, by decide⟩, _, _, rfl, rfl, _, rfl, q4 _ (Ex.refl _)⟩
        · have x3 := x2.trans e3
          refine ⟨_, rfl, _, rfl, _, _, rfl, rfl, ⟨by decide, by decide, by decide⟩, _, _, rfl, rfl, _, rfl, _, _, rfl, rfl, ⟨by omega, by omega⟩, ?_⟩
          refine ⟨_, rfl, d, _, rfl, dput_of (e3 _ _ hd2) (by show 3 < 100; decide) (put_left _ _ _ _), ?_⟩
          refine ⟨_, rfl, _, rfl, _, _, rfl, rfl, ⟨by decide, by decide, by decide⟩, _, _, rfl, rfl, .inl ⟨_, rfl, _, rfl, _, _, rfl, rfl, hm0, ?_⟩⟩
          exact q _ _ (fin _ _ _ (x3.mut h0) (by rw [upd_ne ncd]; exact e3 _ _ hc2) upd_same (by omega)) (Int.emod_nonneg _ (by omega)) (Int.emod_lt_of_pos _ hm0)
        · have x3 := x2.trans e3
          have b1 : (0 : Int) ≤ x % 4294965521 := Int.emod_nonneg _ (by decide)
          have b2 : x % 4294965521 < 4294965521 := Int.emod_lt_of_pos _ (by decide)
          refine ⟨_, rfl, .inl ⟨_, rfl, _, _, rfl, rfl, (by show (0 : Int) < _; decide), _, _, rfl, rfl, .inr ⟨by decide, by decide⟩, ?_⟩⟩
          refine ⟨_, rfl, _, _, rfl, rfl, .inl ⟨by decide, by decide⟩, _, rfl, _, _, rfl, rfl, .inr ⟨by omega, by omega⟩, _, _, rfl, rfl, ?_⟩
          refine ⟨_, rfl, _, _, rfl, rfl, .inl ⟨by decide, by decide⟩, _, _, rfl, rfl, _, _, rfl, rfl, .inl ⟨_, rfl, _, _, rfl, rfl, (by show (0 : Int) < _; decide), ?_⟩⟩
          generalize hy : (x % 4294965521 * 43793 + 25999 * (op : Int) * (op : Int) + 839 * (op : Int) + 67) % 4294965583 = y
          have b3 : 0 ≤ y := by rw [← hy]; exact Int.emod_nonneg _ (by decide)
          have b4 : y < 4294965583 := by rw [← hy]; exact Int.emod_lt_of_pos _ (by decide)
          refine ⟨_, rfl, _, rfl, _, _, rfl, rfl, .inl ⟨by omega, by omega⟩, _, rfl, _, _, rfl, rfl, .inl ⟨by decide, by decide⟩, _, _, rfl, rfl, ?_⟩
          refine ⟨_, rfl, _, _, rfl, rfl, .inl ⟨by decide, by decide⟩, _, _, rfl, rfl, .inl ⟨_, rfl, _, _, rfl, rfl, (by show (0 : Int) < _; decide), ?_⟩⟩
          generalize hz : (y * y + 40163 * y + 31 * (op : Int)) % 4294965511 = z
          have b5 : 0 ≤ z := by rw [← hz]; exact Int.emod_nonneg _ (by decide)
          have b6 : z < 4294965511 := by rw [← hz]; exact Int.emod_lt_of_pos _ (by decide)
          refine ⟨_, rfl, _, rfl, _, _, rfl, rfl, _, _, rfl, rfl, .inl ⟨by omega, by omega⟩, .inl ⟨_, rfl, _, _, rfl, rfl, (by show (0 : Int) < _; decide), _, _, rfl, rfl, ⟨by decide, by decide⟩, .inl ⟨_, rfl, _, rfl, _, _, rfl, rfl, hm0, ?_⟩⟩⟩
          exact q _ _ (fin _ _ _ x3 (e3 _ _ hc2) (e3 _ _ hd2) (by omega)) (Int.emod_nonneg _ (by omega)) (Int.emod_lt_of_pos _ hm0)
end
end Law

namespace Law
open PySem PySem.Spec PyProof.Rows L2 Evl
theorem sz_le {n : Nat} (h : n < 1000) : n ≤ sizeLine := Nat.le_trans (Nat.le_of_lt h) (by decide)
theorem at_draw {α : Type} {xs : List α} {r : Int} (h0 : 0 ≤ r) (h1 : r < (xs.length : Int)) : ∃ v, v ∈ xs ∧ atI xs r = some v := by
  obtain ⟨j, rfl⟩ : ∃ j : Nat, r = (j : Int) := ⟨r.toNat, (Int.toNat_of_nonneg h0).symm⟩
  have hj : j < xs.length := by omega
  exact ⟨xs[j], List.getElem_mem hj, atI_nat (List.getElem?_eq_getElem hj)⟩
def spPickS : Sp := fun vs H Q _ => ∃ (p : PenI) (H0 : Hp) (n : Nat) (z : Str), vs = [.ref p.d, .str z] ∧ PenAt p H0 H n ∧ n < 1000000 ∧ 0 < z.length ∧ z.length < 1000 ∧ ∀ H' c, PenAt p H0 H' (n + 1) → c ∈ z.cps.toList → Q (.str ⟨#[c]⟩) H'
def spPickL : Sp := fun vs H Q _ => ∃ (p : PenI) (H0 : Hp) (a : Addr) (n : Nat) (xs : List V), vs = [.ref p.d, .ref a] ∧ PenAt p H0 H n ∧ n < 1000000 ∧ H a = some (.lst xs) ∧ 0 < xs.length ∧ xs.length < 1000 ∧ ∀ H' v, PenAt p H0 H' (n + 1) → v ∈ xs → Q v H'
section
variable {P : Program} {w : World} {K : PySem.W.Frag} {mg : Str → Option Value} {base : Heap}
theorem ok_pickS {f : Addr} {fd : FuncData} (F : Fun K "_law_pick" "_law_pick" s_lpick f fd) (T : Tx mg) (c_ldraw : Kn P w K mg base "_law_draw" ["_law_pen_here", "_law_many"] 1 spDraw) : FnOk P w K mg base CX0 2 f fd ["_law_pen_here", "_law_some"] spPickS := by
  refine F.ok sc_lpick (fun vs H Q E h => ?_) (fun cdv A outer s H vs Q E hr h => ?_)
  · obtain ⟨p, H0, n, z, rfl, _⟩ := h
    rfl
  · obtain ⟨p, H0, n, z, rfl, P0, hn, hz0, hz1, q⟩ := h
    have ez : z.length = z.cps.toList.length := by simp [Str.length]
    refine ⟨_, (pss_one (ps_ret (pe_ix ix_str (pv 1) (pe_call c_ldraw.ok (hr.mono (by decide)) (by rfl) c_ldraw.g c_ldraw.kp c_ldraw.b .nil pass0 (pa_cons (pv 0) (pa_cons (pe_callB call_len_str (by rfl) T.len PySem.boot_len (pa_cons (pv 1) pa_nil)) pa_nil))) (fun _ _ => rfl)))), ?_⟩
    refine ⟨_, rfl, _, rfl, _, rfl, z, rfl, sz_le hz1, p, H0, n, _, rfl, P0, hn, by omega, by omega, fun H' r P1 r0 r1 => ?_⟩
    obtain ⟨c, hc, ha⟩ := at_draw (xs := z.cps.toList) r0 (by rw [← ez]; exact r1)
    exact ⟨z, r, c, rfl, rfl, sz_le hz1, ha, q _ _ P1 hc⟩
theorem ok_pickL {f : Addr} {fd : FuncData} (F : Fun K "_law_pick" "_law_pick" s_lpick f fd) (T : Tx mg) (c_ldraw : Kn P w K mg base "_law_draw" ["_law_pen_here", "_law_many"] 1 spDraw) : FnOk P w K mg base CX0 2 f fd ["_law_pen_here", "_law_some"] spPickL := by
  refine F.ok sc_lpick (fun vs H Q E h => ?_) (fun cdv A outer s H vs Q E hr h => ?_)
  · obtain ⟨p, H0, a, n, xs, rfl, _⟩ := h
    rfl
  · obtain ⟨p, H0, a, n, xs, rfl, P0, hn, hx, hz0, hz1, q⟩ := h
    refine ⟨_, (pss_one (ps_ret (pe_ix ix_list (pv 1) (pe_call c_ldraw.ok (hr.mono (by decide)) (by rfl) c_ldraw.g c_ldraw.kp c_ldraw.b .nil pass0 (pa_cons (pv 0) (pa_cons (pe_callB call_len_seq (by rfl) T.len PySem.boot_len (pa_cons (pv 1) pa_nil)) pa_nil))) (fun _ _ => rfl)))), ?_⟩
    refine ⟨_, rfl, _, rfl, _, rfl, a, xs, rfl, .inl (sq_of hx), p, upd H0 a (.lst xs), n, _, rfl, P0.keep hx (P0.lst_ne hx), hn, by omega, by omega, fun H' r P1 r0 r1 => ?_⟩
    obtain ⟨v, hv, ha⟩ := at_draw (xs := xs) r0 r1
    exact ⟨a, xs, r, v, rfl, rfl, sq_of (P1.1 _ _ upd_same), ha, q _ _ (P0.drop hx P1) hv⟩
end
end Law

namespace Law
open PySem PySem.Spec PyProof.Rows L2 Evl
def sg (c : Nat) : Str := ⟨#[c]⟩
def tx (l : List Nat) : Str := ⟨l.toArray⟩
theorem tx_len (l : List Nat) : (tx l).length = l.length := by simp [tx, Str.length]
theorem tx_list (l : List Nat) : (tx l).cps.toList = l := rfl
theorem tx_of (z : Str) : tx z.cps.toList = z := TL.ext_tl rfl
theorem sg_len (c : Nat) : (sg c).length = 1 := rfl
theorem joinL_nil : ∀ cs : List Nat, TL.joinL [] (cs.map fun c => [c]) = cs
  | [] => rfl
  | [c] => rfl
  | c :: d :: r => by
    show [c] ++ ([] ++ TL.joinL [] ((d :: r).map fun c => [c])) = c :: d :: r
    rw [joinL_nil (d :: r)]
    rfl
theorem join_sg (cs : List Nat) : Txt.join (Str.ofString "") (cs.map sg) = tx cs := by
  refine TL.ext_tl ?_
  rw [TL.join_eq, TL.tl_join, List.map_map, show TL.tl (Str.ofString "") = [] by decide +kernel]
  exact joinL_nil cs
theorem join_size (cs : List Nat) : ((cs.map sg).map (·.length)).sum = cs.length := by
  induction cs with
  | nil => rfl
  | cons c r ih =>
    show 1 + ((r.map sg).map (·.length)).sum = r.length + 1
    rw [ih, Nat.add_comm]
/-- the signs joined -/
theorem join_done {K : PySem.W.Frag} {H : Hp} {D : Addr} {cs : List Nat} {Q : VK} (hD : H D = some (.lst ((cs.map sg).map V.str))) (hl : cs.length ≤ 1000000) (q : Q (.str (tx cs)) H) :
    ∃ (a : Str) (p : Addr), ∃ ys : List Str, V.str (Str.ofString "") = .str a ∧ [V.ref D] = [.ref p] ∧ (SqL K H p (ys.map V.str) ∨ SqT K H p (ys.map V.str)) ∧ (ys.map (·.length)).sum + ys.length * a.length ≤ 16777216 ∧ Q (.str (Txt.join a ys)) H := by
  refine ⟨_, D, cs.map sg, rfl, rfl, .inl (sq_of hD), ?_, ?_⟩
  · rw [join_size, show (Str.ofString "").length = 0 from rfl]
    omega
  · rw [join_sg]
    exact q
def lets (f p n : Nat) : List Nat := (List.range n).map fun k => 97 + (f + p * k) % 26
def paces : List Nat := [1, 3, 5, 7, 9, 11, 15, 17, 19, 21, 23, 25]
def spLetters : Sp := fun vs H Q _ => ∃ (p : PenI) (H0 : Hp) (n : Nat), vs = [.ref p.d] ∧ PenAt p H0 H n ∧ n < 900000 ∧ ∀ H' f q m, PenAt p H0 H' (n + 3) → f < 26 → q ∈ paces → 2 ≤ m → m ≤ 4 → Q (.str (tx (lets f q m))) H'
theorem abc_at (r : Int) : ∃ c, atI (Str.ofString "abcdefghijklmnopqrstuvwxyz").cps.toList (r % 26) = some c ∧ c = 97 + (r % 26).toNat := by
  have h0 : 0 ≤ r % 26 := Int.emod_nonneg _ (by decide)
  have h1 : r % 26 < 26 := Int.emod_lt_of_pos _ (by decide)
  generalize hi : (r % 26) = i at h0 h1
  obtain ⟨j, rfl⟩ : ∃ j : Nat, i = (j : Int) := ⟨i.toNat, (Int.toNat_of_nonneg h0).symm⟩
  have hj : j < 26 := by omega
  have key : ∀ j : Nat, j < 26 → (Str.ofString "abcdefghijklmnopqrstuvwxyz").cps.toList[j]? = some (97 + j) := by decide +kernel
  exact ⟨97 + j, atI_nat (key j hj), by simp⟩
theorem paces_le : ∀ x ∈ paces, x ≤ 25 := by decide
theorem lets_succ (f p n : Nat) : lets f p (n + 1) = lets f p n ++ [97 + (f + p * n) % 26] := by
  unfold lets
  rw [List.range_succ, List.map_append]
  rfl
theorem lets_len (f p n : Nat) : (lets f p n).length = n := by
  unfold lets
  rw [List.length_map, List.length_range]
theorem sg_snoc (cs : List Nat) (c : Nat) : ((cs.map sg).map V.str) ++ [.str (sg c)] = ((cs ++ [c]).map sg).map V.str := by
  rw [List.map_append, List.map_append]
  rfl
theorem fresh0 {p : PenI} {H0 H : Hp} {n : Nat} {a : Addr} (P : PenAt p H0 H n) (h : H a = none) : H0 a = none := fresh_back P.1 h
theorem fresh_ne {p : PenI} {H0 H : Hp} {n : Nat} {a : Addr} (P : PenAt p H0 H n) (h : H a = none) : a ≠ p.d := by
  obtain ⟨kvs, h2⟩ := P.dict
  intro e
  rw [e, h2] at h
  cases h
section
variable {P : Program} {w : World} {K : PySem.W.Frag} {mg : Str → Option Value} {base : Heap}
theorem ok_letters {f : Addr} {fd : FuncData} (F : Fun K "_law_letters" "_law_letters" s_lletters f fd) (T : Tx mg) (c_ldraw : Kn P w K mg base "_law_draw" ["_law_pen_here", "_law_many"] 1 spDraw)
    (c_pickL : Kn P w K mg base "_law_pick" ["_law_pen_here", "_law_some"] 2 spPickL) : FnOk P w K mg base CX0 3 f fd ["_law_pen_here"] spLetters := by
  refine F.ok sc_lletters (fun vs H Q E h => ?_) (fun cdv A outer s H vs Q E hr h => ?_)
  · obtain ⟨p, H0, n, rfl, _⟩ := h
    rfl
  · obtain ⟨p, H0, n, rfl, P0, hn, q⟩ := h
    refine ⟨_, (pss_cons (ps_asg (pe_tup (pa_cons pe_str (pa_cons (pe_call c_ldraw.ok (hr.mono (by decide)) (by rfl) c_ldraw.g c_ldraw.kp c_ldraw.b .nil pass0 (pa_cons (pv 0) (pa_cons pe_int pa_nil))) pa_nil))) (pg_tup (by rfl) (pgs_cons (pg_name (i := 1) sc_lletters.nd rfl (Or.inr rfl)) (pgs_cons (pg_name (i := 2) sc_lletters.nd rfl (Or.inr rfl)) pgs_nil))))
      (pss_cons (ps_set (i := 3) sc_lletters.nd rfl (Or.inr rfl) (pe_call c_pickL.ok (hr.mono (by decide)) (by rfl) c_pickL.g c_pickL.kp c_pickL.b .nil pass0 (pa_cons (pv 0) (pa_cons (pe_lst (pa_cons pe_int (pa_cons pe_int (pa_cons pe_int (pa_cons pe_int (pa_cons pe_int (pa_cons pe_int (pa_cons pe_int (pa_cons pe_int (pa_cons pe_int (pa_cons pe_int (pa_cons pe_int (pa_cons pe_int pa_nil))))))))))))) pa_nil))))
      (pss_one (ps_ret (pe_join pe_str (pe_lc (own := [("_law_k", 4)]) (g := gName 4) (tt := tYes) rfl sc_lletters.nd (pi_range1 (by rfl) T.range (pa_cons (pe_op op_add pe_int (pe_call c_ldraw.ok (hr.mono (by decide)) (by rfl) c_ldraw.g c_ldraw.kp c_ldraw.b .nil pass0 (pa_cons (pv 0) (pa_cons pe_int pa_nil)))) pa_nil)) (blkOk_by (N := N_lletters) (sc := defScope s_lletters) (by decide +kernel)) (fun _ _ _ _ _ => (pg_name (i := 4) sc_lletters.nd rfl (Or.inl rfl))) (fun _ _ _ _ _ => pts_nil) (fun _ _ _ _ _ => (pe_ix ix_str (pv 1) (pe_op op_mod (pe_callTy call_int1 (by rfl) T.int PyProof.Rows.boot_int (pa_cons (pe_op op_add (pv 2) (pe_op op_mul (pv 3) (pv 4))) pa_nil)) pe_int) (fun _ _ => rfl))))))))), ?_⟩
    refine ⟨_, rfl, p, H0, n, 26, rfl, P0, by omega, by decide, by decide, fun H1 r P1 r0 r1 => ⟨by show 2 ≤ sizeLine; decide, fun t ht => ?_⟩⟩
    refine ⟨t, _, rfl, .inl (.inl upd_same), rfl, _, _, rfl, _, _, rfl, rfl, ?_⟩
    have P2 := P1.ex (Ex.new (o := .tup [V.str (Str.ofString "abcdefghijklmnopqrstuvwxyz"), V.int r]) ht)
    generalize (upd H1 t (.tup [V.str (Str.ofString "abcdefghijklmnopqrstuvwxyz"), V.int r])) = H2 at P2 ⊢
    refine ⟨_, rfl, by show 12 ≤ sizeLine; decide, fun l hl => ⟨p, H0, l, n + 1, _, rfl, P2.ex (Ex.new hl), by omega, upd_same, by show 0 < 12; decide, by show 12 < 1000; decide, fun H3 v P3 hv => ?_⟩⟩
    obtain ⟨pc, hpc, rfl⟩ : ∃ pc : Nat, pc ∈ paces ∧ v = .int pc := by
      have hv2 : v ∈ paces.map fun pc => V.int ((pc : Nat) : Int) := hv
      obtain ⟨x, h1, h2⟩ := List.mem_map.mp hv2
      exact ⟨x, h1, h2.symm⟩
    refine ⟨⟨_, rfl⟩, _, rfl, p, H0, n + 2, 3, rfl, P3, by omega, by decide, by decide, fun H4 r2 P4 s0 s1 => ⟨_, _, rfl, rfl, _, rfl, by omega, by omega, fun D hD => ?_⟩⟩
    obtain ⟨m, hm⟩ : ∃ m : Nat, (2 + r2).toNat = m := ⟨_, rfl⟩
    obtain ⟨fr, rfl⟩ : ∃ fr : Nat, r = (fr : Int) := ⟨r.toNat, (Int.toNat_of_nonneg r0).symm⟩
    rw [hm]
    have pc1 := paces_le pc hpc
    have d0 := fresh0 P4 hD
    have d1 := fresh_ne P4 hD
    refine lc_range (lo := 0) (n := m) (fun i H => PenAt p H0 H (n + 3) ∧ H D = some (.lst (((lets fr pc i).map sg).map V.str))) ⟨(P4.upd d0 d1).le (by omega), upd_same⟩ (fun i H hi hw => ?_) (fun H hw => ?_)
    · refine ⟨rfl, _, rfl, _, rfl, _, rfl, _, rfl, _, _, rfl, rfl, .inl ⟨by omega, by omega⟩, _, _, rfl, rfl, .inl ⟨_, rfl, _, _, rfl, rfl, (by show (0 : Int) < 26; decide), ?_⟩⟩
      obtain ⟨c, hc1, hc2⟩ := abc_at ((fr : Int) + (pc : Int) * ((0 : Int) + (i : Int)))
      refine ⟨_, _, c, rfl, rfl, by decide +kernel, hc1, _, hw.2, ?_, hw.1.upd d0 d1, ?_⟩
      · rw [List.length_map, List.length_map, lets_len]
        exact Nat.lt_of_lt_of_le (show i < 100 by omega) (by decide)
      · rw [upd_same]
        refine congrArg (fun l => some (HO.lst l)) ?_
        rw [lets_succ, ← sg_snoc]
        have e : c = 97 + (fr + pc * i) % 26 := by
          rw [hc2]
          have e1 : ((fr : Int) + (pc : Int) * ((0 : Int) + (i : Int))) = ((fr + pc * i : Nat) : Int) := by
            rw [Int.zero_add]
            simp
          rw [e1]
          omega
        rw [e]
        rfl
    · exact join_done hw.2 (by unfold lets; rw [List.length_map, List.length_range]; omega) (q _ _ _ _ hw.1 (by omega) hpc (by omega) (by omega))
end
end Law

namespace Law
open PySem PySem.Spec PyProof.Rows L2 Evl TR
theorem fold_app (l : List (Array Nat)) : ∀ a : Array Nat, (l.foldl (· ++ ·) a).toList = a.toList ++ (l.map Array.toList).flatten := by
  induction l with
  | nil => intro a; simp
  | cons x r ih =>
    intro a
    rw [List.foldl_cons, ih, List.map_cons, List.flatten_cons, Array.toList_append, List.append_assoc]
theorem mul_tx (l : List Nat) {n : Int} (h : 1 ≤ n) : Txt.mul (tx l) n = tx (List.replicate n.toNat l).flatten := by
  refine TL.ext_tl ?_
  unfold Txt.mul
  rw [if_neg (by omega)]
  by_cases q : (n == 1 || (tx l).length == 0) = true
  · rw [if_pos q]
    rw [Bool.or_eq_true, beq_iff_eq, beq_iff_eq] at q
    rcases q with q | q
    · subst q
      show l = (List.replicate 1 l).flatten
      simp
    · rw [tx_len] at q
      have e : l = [] := List.length_eq_zero_iff.mp q
      subst e
      show ([] : List Nat) = (List.replicate n.toNat []).flatten
      simp
  · rw [if_neg q]
    show (List.foldl (· ++ ·) #[] (List.replicate n.toNat (tx l).cps)).toList = (List.replicate n.toNat l).flatten
    rw [fold_app, List.map_replicate]
    rfl
theorem rep_len (n : Nat) (l : List Nat) : (List.replicate n l).flatten.length = n * l.length := by
  induction n with
  | zero => simp
  | succ k ih => rw [List.replicate_succ, List.flatten_cons, List.length_append, ih, Nat.succ_mul, Nat.add_comm]
theorem cut_to (l : List Nat) (k : Nat) : cutS (tx l) none (some (k : Int)) = tx (l.take k) := by
  refine TL.ext_tl ?_
  show (List.take _ (List.drop _ l)) = l.take k
  rw [HT.sIx_none, HT.sIx_nat, tx_len, Nat.sub_zero, List.drop_zero]
  rw [List.take_eq_take_iff]
  omega
theorem cut_from (l : List Nat) (k : Nat) : cutS (tx l) (some (k : Int)) none = tx (l.drop k) := by
  refine TL.ext_tl ?_
  show (List.take _ (List.drop _ l)) = l.drop k
  rw [HT.sIx_none, HT.sIx_nat, tx_len]
  by_cases h : k ≤ l.length
  · rw [Nat.min_eq_left h, List.take_of_length_le (by rw [List.length_drop]; omega)]
  · rw [Nat.min_eq_right (by omega), Nat.sub_self, List.take_zero, List.drop_eq_nil_of_le (by omega)]
theorem cut_mid (l : List Nat) (a b : Nat) : cutS (tx l) (some (a : Int)) (some ((a : Int) + (b : Int))) = tx ((l.drop a).take b) := by
  refine TL.ext_tl ?_
  show (List.take _ (List.drop _ l)) = (l.drop a).take b
  rw [show (a : Int) + (b : Int) = ((a + b : Nat) : Int) by omega, HT.sIx_nat, HT.sIx_nat, tx_len]
  by_cases h : a ≤ l.length
  · rw [Nat.min_eq_left h, List.take_eq_take_iff, List.length_drop]
    omega
  · have x1 : min a l.length = l.length := by omega
    have x2 : min (a + b) l.length = l.length := by omega
    rw [x1, x2, List.drop_length, List.drop_eq_nil_of_le (show l.length ≤ a by omega), List.take_nil, List.take_nil]
theorem join_bound (cs : List Nat) (h : cs.length ≤ 1000000) : ((cs.map sg).map (·.length)).sum + (cs.map sg).length * (Str.ofString "").length ≤ 16777216 := by
  rw [join_size, show (Str.ofString "").length = 0 from rfl]
  omega
theorem tx_le {l : List Nat} (h : l.length < 1000) : (tx l).length ≤ sizeLine := by
  rw [tx_len]
  exact sz_le h
theorem sg_tx (c : Nat) : sg c = tx [c] := rfl
theorem mem_rep {n : Nat} {l : List Nat} {c : Nat} (h : c ∈ (List.replicate n l).flatten) : c ∈ l := by
  obtain ⟨m, hm, hc⟩ := List.mem_flatten.mp h
  rw [List.eq_of_mem_replicate hm] at hc
  exact hc
theorem tx_app (l m : List Nat) : tx l ++ tx m = tx (l ++ m) := by
  refine TL.ext_tl ?_
  rw [TL.tl_append]
  rfl
theorem sgs_of (l : List Nat) : ST.signsOf (tx l) = l.map sg := rfl
theorem tx_size (l : List Nat) : (tx l).cps.size = l.length := by simp [tx]
theorem tx_at {l : List Nat} {i c : Nat} (h : (tx l).cps[i]? = some c) : l[i]? = some c := by
  rw [← h]
  simp [tx]
theorem sg_inj2 {c d : Nat} (h : sg c = sg d) : c = d := by
  have h2 : (sg c).cps.toList = (sg d).cps.toList := by rw [h]
  exact List.head_eq_of_cons_eq h2
theorem dct_nodup {l : List Nat} (h : l.Nodup) : ∀ i, i ≤ l.length → ST.dct (l.map sg) i = i
  | 0, _ => rfl
  | i + 1, hi => by
    have ih := dct_nodup h i (by omega)
    unfold ST.dct
    have hno : (((l.map sg).take i).any (· == (l.map sg).getD i Str.empty)) = false := by
      rw [Bool.eq_false_iff]
      intro q
      rw [List.any_eq_true] at q
      obtain ⟨x, hx, he⟩ := q
      rw [beq_iff_eq] at he
      have hi2 : i < l.length := by omega
      have e1 : (l.map sg).getD i Str.empty = sg l[i] := by
        rw [List.getD_eq_getElem?_getD, List.getElem?_map, List.getElem?_eq_getElem hi2]
        rfl
      rw [e1] at he
      obtain ⟨j, hj, ej⟩ := List.mem_iff_getElem.mp hx
      rw [List.length_take, List.length_map] at hj
      have ej2 : sg (l[j]'(by omega)) = x := by
        rw [← ej, List.getElem_take, List.getElem_map]
      have e2 : l[j]'(by omega) = l[i] := sg_inj2 (ej2.trans he)
      exact List.pairwise_iff_getElem.mp h j i (by omega) hi2 (by omega) e2
    rw [hno]
    show (if false = true then _ else _) = i + 1
    rw [if_neg (by decide), ih]
/-- letters: two to four different small ones -/
structure LG (l : List Nat) : Prop where
  lo : 2 ≤ l.length
  hi : l.length ≤ 4
  az : ∀ c ∈ l, 97 ≤ c ∧ c ≤ 122
  nd : l.Nodup
theorem lets_good {f p m : Nat} (hf : f < 26) (hp : p ∈ paces) (h1 : 2 ≤ m) (h2 : m ≤ 4) : LG (lets f p m) := by
  refine ⟨by rw [lets_len]; exact h1, by rw [lets_len]; exact h2, fun c hc => ?_, ?_⟩
  · unfold lets at hc
    obtain ⟨k, _, rfl⟩ := List.mem_map.mp hc
    omega
  · have key : ∀ f : Nat, f < 26 → ∀ p ∈ paces, (lets f p 2).Nodup ∧ (lets f p 3).Nodup ∧ (lets f p 4).Nodup := by decide +kernel
    obtain ⟨a, b, c⟩ := key f hf p hp
    have hm : m = 2 ∨ m = 3 ∨ m = 4 := by omega
    rcases hm with rfl | rfl | rfl <;> assumption
def spAreL : Sp := fun vs H Q _ => ∃ L : List Nat, vs = [.str (tx L)] ∧ LG L ∧ ∀ H', Ex H H' → Q (.bl true) H'
theorem kit_lt {K : PySem.W.Frag} : PySem.W.kitAny K (.type "list") [.type "list", .type "tuple"] = some true :=
  kitAny_cons (b := true) (kit_ty (by decide +kernel)) (fun h => by cases h) fun _ => rfl
theorem kit_tt {K : PySem.W.Frag} : PySem.W.kitAny K (.type "tuple") [.type "list", .type "tuple"] = some true :=
  kitAny_cons (b := false) (kit_ty (by decide +kernel)) (fun _ => kitAny_cons (b := true) (kit_ty (by decide +kernel)) (fun h => by cases h) fun _ => rfl) fun h => by cases h
theorem kit_ss {K : PySem.W.Frag} : PySem.W.kitOne K (.type "str") (.type "str") = some true := kit_ty (by decide +kernel)
theorem kit_ii {K : PySem.W.Frag} : PySem.W.kitOne K (.type "int") (.type "int") = some true := kit_ty (by decide +kernel)
theorem kit_ib {K : PySem.W.Frag} : PySem.W.kitOne K (.type "int") (.type "bool") = some false := kit_ty (by decide +kernel)
def spIsQ : Sp := fun vs H Q _ => ∃ (a : Addr) (k : Bool) (xs : List V), vs = [.ref a] ∧ H a = some (ob k xs) ∧ ∀ H', Ex H H' → Q (.bl true) H'
def spIsInt : Sp := fun vs H Q _ => ∃ v : Int, vs = [.int v] ∧ ∀ H', Ex H H' → Q (.bl true) H'
def spWhole : Sp := fun vs H Q _ => ∃ v lo hi : Int, vs = [.int v, .int lo, .int hi] ∧ lo ≤ v ∧ v ≤ hi ∧ ∀ H', Ex H H' → Q (.bl true) H'
def spIsPart : Sp := fun vs H Q _ => ∃ (t : Tr) (v : V) (k : Bool) (L : List Nat) (w n : Nat), vs = [v, .str (tx L), .int (w : Int), .int (n : Int)] ∧ TA k H v t ∧ t.ok L.length w n ∧ L.length ≤ 10 ∧ ∀ H', Ex H H' → Q (.bl true) H'
def spWithin : Sp := fun vs H Q _ => ∃ (t : Tr) (v : V) (k : Bool) (H0 : Hp), vs = [v] ∧ TA k H0 v t ∧ Ex H0 H ∧ ∀ r H' us, Ex H H' → H r = none → H' r = some (.lst us) → Kids k H0 us t.kids → Q (.ref r) H'
theorem go_ne_read : ¬ (V.str (Str.ofString "go") = V.str (Str.ofString "read")) := fun h => absurd (V.str.inj h) (by decide +kernel)
theorem go_ne_tell : ¬ (V.str (Str.ofString "go") = V.str (Str.ofString "tell")) := fun h => absurd (V.str.inj h) (by decide +kernel)
theorem tell_ne_read : ¬ (V.str (Str.ofString "tell") = V.str (Str.ofString "read")) := fun h => absurd (V.str.inj h) (by decide +kernel)
theorem tell_ne_go : ¬ (V.str (Str.ofString "tell") = V.str (Str.ofString "go")) := fun h => absurd (V.str.inj h) (by decide +kernel)
theorem read_ne_go : ¬ (V.str (Str.ofString "read") = V.str (Str.ofString "go")) := fun h => absurd (V.str.inj h) (by decide +kernel)
theorem read_ne_tell : ¬ (V.str (Str.ofString "read") = V.str (Str.ofString "tell")) := fun h => absurd (V.str.inj h) (by decide +kernel)
theorem iteD {c A B : Prop} [Decidable c] (hc : c) (h : A) : if decide c = true then A else B := by
  rw [if_pos (decide_eq_true hc)]
  exact h
theorem iteDn {c A B : Prop} [Decidable c] (hc : ¬ c) (h : B) : if decide c = true then A else B := by
  rw [if_neg (by rw [decide_eq_true_eq]; exact hc)]
  exact h
section
variable {P : Program} {w : World} {K : PySem.W.Frag} {mg : Str → Option Value} {base : Heap}
theorem ok_isQ {f : Addr} {fd : FuncData} (F : Fun K "is_list" "is_list" s_is_list f fd) (T : Tx mg) : FnOk P w K mg base CX0 1 f fd ["value"] spIsQ := by
  refine F.ok sc_is_list (fun vs H Q E h => ?_) (fun cdv A outer s H vs Q E hr h => ?_)
  · obtain ⟨a, k, xs, rfl, _⟩ := h
    rfl
  · obtain ⟨a, k, xs, rfl, ha, q⟩ := h
    refine ⟨_, (pss_one (ps_ret (pe_callB call_isiT (by rfl) T.isinstance PyProof.Rows.boot_isinstance (pa_cons (pv 0) (pa_cons (pe_tup (pa_cons (pe_bltn (v := .ty "list") (by rfl) T.list PyProof.Rows.boot_list rfl) (pa_cons (pe_bltn (v := .ty "tuple") (by rfl) T.tuple PyProof.Rows.boot_tuple rfl) pa_nil))) pa_nil))))), ?_⟩
    refine ⟨_, rfl, by show 2 ≤ sizeLine; decide, fun t ht => ?_⟩
    cases k
    · exact ⟨_, t, _, _, _, true, rfl, upd_same, .cons (.ty _) (.cons (.ty _) .nil), .base (.lst (Ex.new ht _ _ ha)), kit_lt, q _ (Ex.new ht)⟩
    · exact ⟨_, t, _, _, _, true, rfl, upd_same, .cons (.ty _) (.cons (.ty _) .nil), .base (.tup (Ex.new ht _ _ ha)), kit_tt, q _ (Ex.new ht)⟩
theorem ok_integer {f : Addr} {fd : FuncData} (F : Fun K "is_integer" "is_integer" s_is_integer f fd) (T : Tx mg) : FnOk P w K mg base CX0 1 f fd ["value"] spIsInt := by
  refine F.ok sc_is_integer (fun vs H Q E h => ?_) (fun cdv A outer s H vs Q E hr h => ?_)
  · obtain ⟨v, rfl, _⟩ := h
    rfl
  · obtain ⟨v, rfl, q⟩ := h
    refine ⟨_, (pss_one (ps_ret (pe_and (pe_callB call_isi (by rfl) T.isinstance PyProof.Rows.boot_isinstance (pa_cons (pv 0) (pa_cons (pe_bltn (v := .ty "int") (by rfl) T.int PyProof.Rows.boot_int rfl) pa_nil))) (pe_one (pe_not (pe_callB call_isi (by rfl) T.isinstance PyProof.Rows.boot_isinstance (pa_cons (pv 0) (pa_cons (pe_bltn (v := .ty "bool") (by rfl) T.bool PyProof.Rows.boot_bool rfl) pa_nil)))))))), ?_⟩
    refine ⟨_, rfl, _, _, _, _, true, rfl, .ty _, .base (.int _), kit_ii, true, rfl, ?_⟩
    exact ⟨_, rfl, _, _, _, _, false, rfl, .ty _, .base (.int _), kit_ib, false, rfl, q H (Ex.refl _)⟩
theorem ok_whole {f : Addr} {fd : FuncData} (F : Fun K "is_whole" "is_whole" s_is_whole f fd) (T : Tx mg) (c_is_integer : Kn P w K mg base "is_integer" ["value"] 1 spIsInt) : FnOk P w K mg base CX0 2 f fd ["value", "low", "high"] spWhole := by
  refine F.ok sc_is_whole (fun vs H Q E h => ?_) (fun cdv A outer s H vs Q E hr h => ?_)
  · obtain ⟨v, lo, hi, rfl, _⟩ := h
    rfl
  · obtain ⟨v, lo, hi, rfl, h1, h2, q⟩ := h
    refine ⟨_, (pss_one (ps_ret (pe_and (pe_call c_is_integer.ok (hr.mono (by decide)) (by rfl) c_is_integer.g c_is_integer.kp c_is_integer.b .nil pass0 (pa_cons (pv 0) pa_nil)) (pe_one (pe_chain op_le op_le (pv 1) (pv 0) (pv 2)))))), ?_⟩
    refine ⟨_, rfl, v, rfl, fun H' e => ⟨true, rfl, ?_⟩⟩
    refine ⟨_, rfl, _, rfl, _, _, rfl, rfl, _, rfl, iteD h1 ⟨_, rfl, _, _, rfl, rfl, ?_⟩⟩
    have q2 := q H' e
    show Q (V.bl (decide (v ≤ hi))) H'
    rw [decide_eq_true h2]
    exact q2
theorem le_a {c : Nat} (h : 97 ≤ c) : (!decide ((sg c).cps.toList < (Str.ofString "a").cps.toList)) = true := by
  rw [show (Str.ofString "a").cps.toList = [97] by decide +kernel, show (sg c).cps.toList = [c] from rfl]
  rw [decide_eq_false]
  · rfl
  · intro q
    rw [List.cons_lt_cons_iff] at q
    rcases q with q | ⟨_, q⟩
    · omega
    · exact absurd q (by simp)
theorem le_z {c : Nat} (h : c ≤ 122) : (!decide ((Str.ofString "z").cps.toList < (sg c).cps.toList)) = true := by
  rw [show (Str.ofString "z").cps.toList = [122] by decide +kernel, show (sg c).cps.toList = [c] from rfl]
  rw [decide_eq_false]
  · rfl
  · intro q
    rw [List.cons_lt_cons_iff] at q
    rcases q with q | ⟨_, q⟩
    · omega
    · exact absurd q (by simp)
theorem lc_str {x : Str} {g : TG} {tt : TT} {te : TE} {vs : List Nat} {σ : L2.St} {H1 : Hp} {D : Addr} {Qd : Hp → Prop} (Pv : Nat → Hp → Prop) (h0 : Pv 0 (upd H1 D (.lst [])))
    (hs : ∀ i c H, x.cps[i]? = some c → Pv i H → g (.str ⟨#[c]⟩) (wipe σ vs) H fun σ2 H2 => wipe σ2 vs = wipe σ vs ∧ tt σ2 H2 fun b H3 =>
      if b = true then te σ2 H3 fun z H4 => ∃ acc, H4 D = some (.lst acc) ∧ acc.length < sizeLine ∧ Pv (i + 1) (upd H4 D (.lst (acc ++ [z]))) else Pv (i + 1) H3) (hd : ∀ H, Pv x.cps.size H → Qd H) :
    ∃ W : Nat → Nat → Hp → Prop, (∃ m, W 0 m (upd H1 D (.lst []))) ∧ ∀ i m H, W i m H →
      ((Its x).stop i H ∧ Qd H) ∨ ((Its x).go i H ∧ ∃ Nx : Hp → Prop, (∀ H', Nx H' → ∃ m', m' < m ∧ W (i + 1) m' H') ∧ ∀ v H', (Its x).yld i H v H' → g v (wipe σ vs) H' fun σ2 H2 => wipe σ2 vs = wipe σ vs ∧ tt σ2 H2 fun b H3 =>
        if b = true then te σ2 H3 fun z H4 => ∃ acc, H4 D = some (.lst acc) ∧ acc.length < sizeLine ∧ Nx (upd H4 D (.lst (acc ++ [z]))) else Nx H3) := by
  refine ⟨fun i m H => i + m = x.cps.size ∧ Pv i H, ⟨_, Nat.zero_add _, h0⟩, ?_⟩
  rintro i m H ⟨e, p⟩
  by_cases hm : m = 0
  · have e2 : i = x.cps.size := by omega
    refine .inl ⟨by show x.cps.size ≤ i; omega, hd H ?_⟩
    rw [← e2]
    exact p
  · refine .inr ⟨by show i < x.cps.size; omega, Pv (i + 1), fun H' p' => ⟨m - 1, by omega, by omega, p'⟩, ?_⟩
    rintro v H' ⟨rfl, c, hc, rfl⟩
    exact hs i c _ hc p
theorem bl_snoc' (bs : List Bool) (b : Bool) : bs.map V.bl ++ [.bl b] = (bs ++ [b]).map V.bl := by
  rw [List.map_append]
  rfl
theorem all_yes (n : Nat) : (List.replicate n true).all id = true := by
  rw [List.all_eq_true]
  intro x hx
  rw [List.eq_of_mem_replicate hx]
  rfl
theorem ok_areL {f : Addr} {fd : FuncData} (F : Fun K "are_letters" "are_letters" s_are_letters f fd) (T : Tx mg) : FnOk P w K mg base CX0 1 f fd ["value"] spAreL := by
  refine F.ok sc_are_letters (fun vs H Q E h => ?_) (fun cdv A outer s H vs Q E hr h => ?_)
  · obtain ⟨L, rfl, _⟩ := h
    rfl
  · obtain ⟨L, rfl, hL, q⟩ := h
    have h1 := hL.lo
    have h2 := hL.hi
    refine ⟨_, (pss_cons (ps_if (PW.pt (pw_or (pt_not (pt_val (pe_callB call_isi (by rfl) T.isinstance PyProof.Rows.boot_isinstance (pa_cons (pv 0) (pa_cons (pe_bltn (v := .ty "str") (by rfl) T.str PyProof.Rows.boot_str rfl) pa_nil))))) (pw_or1 (pt_not (pt_chain op_le op_le pe_int (pe_callB call_len_str (by rfl) T.len PySem.boot_len (pa_cons (pv 0) pa_nil)) pe_int))))) (pss_one (ps_ret pe_bl)) pss_nil)
      (pss_one (ps_ret (pe_and (pe_callB (cr_all rfl) (by rfl) T.all PyProof.Rows.boot_all (pa_cons (pe_lc (own := [("sign", 1)]) (g := gName 1) (tt := tYes) rfl sc_are_letters.nd (pi_str (pv 0)) (blkOk_by (N := N_are_letters) (sc := defScope s_are_letters) (by decide +kernel)) (fun _ _ _ _ _ => (pg_name (i := 1) sc_are_letters.nd rfl (Or.inl rfl))) (fun _ _ _ _ _ => pts_nil) (fun _ _ _ _ _ => (pe_chain op_le_str op_le_str pe_str (pv 1) pe_str))) pa_nil)) (pe_one (pe_cmpR op_eq (EN.pe_lenSetS rfl (by rfl) T.len (by rfl) T.set (pv 0)) (pe_callB call_len_str (by rfl) T.len PySem.boot_len (pa_cons (pv 0) pa_nil)) (nomark _))))))), ?_⟩
    refine ⟨_, rfl, _, _, _, _, true, rfl, .ty _, .base (.str _), kit_ss, true, rfl, ?_⟩
    refine ⟨_, rfl, _, rfl, tx_le (by omega), _, _, rfl, rfl, _, rfl, ite2 (fun _ => ?_) (fun hn => absurd (decide_eq_true (by rw [tx_len]; omega)) hn)⟩
    refine ⟨_, _, rfl, rfl, _, rfl, ite2 (fun hb => ?_) (fun _ => ?_)⟩
    · rw [tx_len, decide_eq_true (by omega)] at hb
      cases hb
    refine ⟨_, rfl, _, rfl, fun D hD => ?_⟩
    refine lc_str (x := tx L) (fun i H' => Ex H H' ∧ H' D = some (.lst ((List.replicate i true).map V.bl))) ⟨Ex.new hD, upd_same⟩ (fun i c H' hic hw => ?_) (fun H' hw => ?_)
    · obtain ⟨e, hl⟩ := hw
      have hc := tx_at hic
      have az := hL.az c (List.mem_of_getElem? hc)
      have hi := (List.getElem?_eq_some_iff.mp hc).1
      refine ⟨rfl, _, rfl, _, _, rfl, rfl, _, rfl, ite2 (fun _ => ?_) (fun hn => absurd (le_a az.1) hn)⟩
      refine ⟨_, _, rfl, rfl, _, hl, ?_, e.mut hD, ?_⟩
      · rw [List.length_map, List.length_replicate]
        exact sz_lt (by omega)
      · rw [upd_same]
        refine congrArg (fun l => some (HO.lst l)) ?_
        show (List.replicate i true).map V.bl ++ [V.bl (!decide ((Str.ofString "z").cps.toList < (sg c).cps.toList))] = _
        rw [le_z az.2, bl_snoc', List.replicate_succ']
    · obtain ⟨e, hl⟩ := hw
      refine ⟨D, _, rfl, sq_of hl, _, rfl, ?_⟩
      rw [all_yes]
      refine ⟨_, rfl, _, rfl, by rw [tx_size]; omega, _, rfl, _, rfl, tx_le (by omega), rfl, ?_⟩
      have e2 : decide (V.int ((ST.dct (ST.signsOf (tx L)) (tx L).cps.size : Nat) : Int) = V.int (((tx L).length : Nat) : Int)) = true := decide_eq_true (by
        rw [sgs_of, tx_size, dct_nodup hL.nd _ (Nat.le_refl _), tx_len])
      show Q (V.bl (decide (V.int ((ST.dct (ST.signsOf (tx L)) (tx L).cps.size : Nat) : Int) = V.int (((tx L).length : Nat) : Int)))) H'
      rw [e2]
      exact q _ e
theorem ok_ispart {f : Addr} {fd : FuncData} (F : Fun K "_is_part" "_is_part" s_is_part f fd) (T : Tx mg) (c_is_list : Kn P w K mg base "is_list" ["value"] 1 spIsQ)
    (c_is_whole : Kn P w K mg base "is_whole" ["value", "low", "high"] 2 spWhole) : FnOk P w K mg base CX0 3 f fd ["part", "letters", "width", "states"] spIsPart := by
  refine F.ok sc_is_part (fun vs H Q E h => ?_) (fun cdv A outer s H vs Q E hr h => ?_)
  · obtain ⟨t, v, k, L, wd, n, rfl, _⟩ := h
    rfl
  · obtain ⟨t, v, k, L, wd, n, rfl, hT, hok, hL, q⟩ := h
    refine ⟨_, (pss_cons (ps_if (PW.pt (pw_or (pt_not (pt_val (pe_call c_is_list.ok (hr.mono (by decide)) (by rfl) c_is_list.g c_is_list.kp c_is_list.b .nil pass0 (pa_cons (pv 0) pa_nil)))) (pw_or1 (pt_cmpR op_ne (pe_callB call_len_seq (by rfl) T.len PySem.boot_len (pa_cons (pv 0) pa_nil)) pe_int (nomark _))))) (pss_one (ps_ret pe_bl)) pss_nil)
      (pss_cons (ps_asg (pv 0) (TR.pg_seq (by rfl) (pgs_cons (pg_name (i := 4) sc_is_part.nd rfl (Or.inl rfl)) (pgs_cons (pg_name (i := 5) sc_is_part.nd rfl (Or.inl rfl)) (pgs_cons (pg_name (i := 6) sc_is_part.nd rfl (Or.inl rfl)) pgs_nil)))))
      (pss_cons (ps_if (pt_cmpR op_eq (pv 4) pe_str (nomark _)) (pss_one (ps_ret (pe_and (pe_call c_is_whole.ok (hr.mono (by decide)) (by rfl) c_is_whole.g c_is_whole.kp c_is_whole.b .nil pass0 (pa_cons (pv 5) (pa_cons pe_int (pa_cons (pv 2) pa_nil)))) (pe_and (pe_call c_is_list.ok (hr.mono (by decide)) (by rfl) c_is_list.g c_is_list.kp c_is_list.b .nil pass0 (pa_cons (pv 6) pa_nil)) (pe_one (pe_cmpR op_eq (pe_callB call_len_seq (by rfl) T.len PySem.boot_len (pa_cons (pv 6) pa_nil)) (pe_callB call_len_str (by rfl) T.len PySem.boot_len (pa_cons (pv 1) pa_nil)) (nomark _))))))) pss_nil)
      (pss_cons (ps_if (pt_cmpR op_eq (pv 4) pe_str (nomark _)) (pss_one (ps_ret (pe_call c_is_whole.ok (hr.mono (by decide)) (by rfl) c_is_whole.g c_is_whole.kp c_is_whole.b .nil pass0 (pa_cons (pv 5) (pa_cons pe_int (pa_cons pe_int pa_nil)))))) pss_nil)
      (pss_cons (ps_if (pt_cmpR op_eq (pv 4) pe_str (nomark _)) (pss_one (ps_ret (pe_and (pe_call c_is_whole.ok (hr.mono (by decide)) (by rfl) c_is_whole.g c_is_whole.kp c_is_whole.b .nil pass0 (pa_cons (pv 5) (pa_cons pe_int (pa_cons (pe_op op_add (pv 2) pe_int) pa_nil)))) (pe_one (pe_call c_is_whole.ok (hr.mono (by decide)) (by rfl) c_is_whole.g c_is_whole.kp c_is_whole.b .nil pass0 (pa_cons (pv 6) (pa_cons pe_int (pa_cons (pe_op op_sub (pv 3) pe_int) pa_nil)))))))) pss_nil)
      (pss_one (ps_ret pe_bl))))))), ?_⟩
    cases hT with
    | @go a s' q' h =>
      obtain ⟨o1, o2, o3⟩ := hok
      refine ⟨_, rfl, a, k, _, rfl, h, fun H1 e1 => ⟨true, rfl, ?_⟩⟩
      refine ⟨_, rfl, a, _, rfl, ob_seq (e1 _ _ h), rfl, _, rfl, iteNS rfl ?_⟩
      refine ⟨_, rfl, gSeq_of (e1 _ _ h) rfl ⟨_, _, rfl, _, _, rfl, _, _, rfl, rfl, ?_⟩⟩
      refine ⟨_, rfl, rfl, _, rfl, iteDn go_ne_read ?_⟩
      refine ⟨_, rfl, rfl, _, rfl, iteDn go_ne_tell ?_⟩
      refine ⟨_, rfl, rfl, _, rfl, iteD rfl ?_⟩
      refine ⟨_, rfl, _, rfl, _, _, rfl, rfl, _, _, _, rfl, by omega, by omega, fun H2 e2 => ⟨true, rfl, ?_⟩⟩
      exact ⟨_, rfl, _, rfl, _, _, rfl, rfl, _, _, _, rfl, by omega, by omega, fun H3 e3 => q _ ((e1.trans e2).trans e3)⟩
    | @tell a n' v' t' h r =>
      obtain ⟨o1, o2⟩ := hok
      refine ⟨_, rfl, a, k, _, rfl, h, fun H1 e1 => ⟨true, rfl, ?_⟩⟩
      refine ⟨_, rfl, a, _, rfl, ob_seq (e1 _ _ h), rfl, _, rfl, iteNS rfl ?_⟩
      refine ⟨_, rfl, gSeq_of (e1 _ _ h) rfl ⟨_, _, rfl, _, _, rfl, _, _, rfl, rfl, ?_⟩⟩
      refine ⟨_, rfl, rfl, _, rfl, iteDn tell_ne_read ?_⟩
      refine ⟨_, rfl, rfl, _, rfl, iteD rfl ?_⟩
      exact ⟨_, rfl, _, _, _, rfl, by omega, by omega, fun H2 e2 => q _ (e1.trans e2)⟩
    | @read a b p' us ts h hb r =>
      obtain ⟨o1, o2, o3⟩ := hok
      have lk := r.kids.len
      refine ⟨_, rfl, a, k, _, rfl, h, fun H1 e1 => ⟨true, rfl, ?_⟩⟩
      refine ⟨_, rfl, a, _, rfl, ob_seq (e1 _ _ h), rfl, _, rfl, iteNS rfl ?_⟩
      refine ⟨_, rfl, gSeq_of (e1 _ _ h) rfl ⟨_, _, rfl, _, _, rfl, _, _, rfl, rfl, ?_⟩⟩
      refine ⟨_, rfl, rfl, _, rfl, iteD rfl ?_⟩
      refine ⟨_, rfl, _, rfl, _, _, _, rfl, by omega, by omega, fun H2 e2 => ⟨true, rfl, ?_⟩⟩
      have e12 := e1.trans e2
      refine ⟨_, rfl, b, k, _, rfl, e12 _ _ hb, fun H3 e3 => ⟨true, rfl, ?_⟩⟩
      have e13 := e12.trans e3
      refine ⟨_, rfl, b, _, rfl, ob_seq (e13 _ _ hb), _, rfl, _, rfl, tx_le (by omega), rfl, ?_⟩
      have ee : decide (V.int ((us.length : Nat) : Int) = V.int (((tx L).length : Nat) : Int)) = true := decide_eq_true (by rw [tx_len, lk, o2])
      show Q (V.bl (decide (V.int ((us.length : Nat) : Int) = V.int (((tx L).length : Nat) : Int)))) _
      rw [ee]
      exact q _ e13
theorem ok_within {f : Addr} {fd : FuncData} (F : Fun K "_within" "_within" s_within f fd) (T : Tx mg) : FnOk P w K mg base CX0 1 f fd ["part"] spWithin := by
  refine F.ok sc_within (fun vs H Q E h => ?_) (fun cdv A outer s H vs Q E hr h => ?_)
  · obtain ⟨t, v, k, H0, rfl, _⟩ := h
    rfl
  · obtain ⟨t, v, k, H0, rfl, hT, e0, q⟩ := h
    refine ⟨_, (pss_cons (ps_if (pt_cmpR op_eq (pe_ix ix_seq (pv 0) pe_int (fun _ _ => rfl)) pe_str (nomark _)) (pss_one (ps_ret (pe_callTy call_list_of (by rfl) T.list PyProof.Rows.boot_list (pa_cons (pe_ix ix_seq (pv 0) pe_int (fun _ _ => rfl)) pa_nil)))) pss_nil)
      (pss_cons (ps_if (pt_cmpR op_eq (pe_ix ix_seq (pv 0) pe_int (fun _ _ => rfl)) pe_str (nomark _)) (pss_one (ps_ret (pe_lst (pa_cons (pe_ix ix_seq (pv 0) pe_int (fun _ _ => rfl)) pa_nil)))) pss_nil)
      (pss_one (ps_ret (pe_lst pa_nil))))), ?_⟩
    cases hT with
    | @go a s' q' h =>
      refine ⟨_, rfl, ix_at (e0 _ _ h) (atI_nat (j := 0) rfl) ⟨rfl, _, rfl, iteDn go_ne_read ?_⟩⟩
      refine ⟨_, rfl, ix_at (e0 _ _ h) (atI_nat (j := 0) rfl) ⟨rfl, _, rfl, iteDn go_ne_tell ?_⟩⟩
      exact ⟨Nat.zero_le _, fun r hr => q r _ _ (Ex.new hr) hr upd_same .nil⟩
    | @tell a n' v' t' h r0 =>
      refine ⟨_, rfl, ix_at (e0 _ _ h) (atI_nat (j := 0) rfl) ⟨rfl, _, rfl, iteDn tell_ne_read ?_⟩⟩
      refine ⟨_, rfl, ix_at (e0 _ _ h) (atI_nat (j := 0) rfl) ⟨rfl, _, rfl, iteD rfl ?_⟩⟩
      exact ⟨_, rfl, ix_at (e0 _ _ h) (atI_nat (j := 2) rfl) ⟨by show 1 ≤ sizeLine; decide, fun r hr => q r _ _ (Ex.new hr) hr upd_same (.cons r0 .nil)⟩⟩
    | @read a b p' us ts h hb r0 =>
      refine ⟨_, rfl, ix_at (e0 _ _ h) (atI_nat (j := 0) rfl) ⟨rfl, _, rfl, iteD rfl ?_⟩⟩
      exact ⟨_, rfl, ix_at (e0 _ _ h) (atI_nat (j := 2) rfl) ⟨b, _, rfl, ob_seq (e0 _ _ hb), fun r hr => q r _ _ (Ex.new hr) hr upd_same r0.kids⟩⟩
end
end Law

namespace Law
open PySem PySem.Spec PyProof.Rows L2 Evl TR
/-! ### the waiting ones -/
inductive Stk (k : Bool) (H0 H : Hp) : List V → List (Tr × Nat) → Prop
  | nil : Stk k H0 H [] []
  | cons {r : Addr} {v : V} {t : Tr} {d : Nat} {vs : List V} {ps : List (Tr × Nat)} : H r = some (.tup [v, .int (d : Nat)]) → TA k H0 v t → Stk k H0 H vs ps → Stk k H0 H (.ref r :: vs) ((t, d) :: ps)
theorem Stk.ex {k : Bool} {H0 H H' : Hp} (e : Ex H H') : ∀ {vs : List V} {ps : List (Tr × Nat)}, Stk k H0 H vs ps → Stk k H0 H' vs ps
  | _, _, .nil => .nil
  | _, _, .cons h1 h2 r => .cons (e _ _ h1) h2 (Stk.ex e r)
theorem Stk.len {k : Bool} {H0 H : Hp} : ∀ {vs : List V} {ps : List (Tr × Nat)}, Stk k H0 H vs ps → vs.length = ps.length
  | _, _, .nil => rfl
  | _, _, .cons _ _ r => by rw [List.length_cons, List.length_cons, r.len]
theorem Stk.app {k : Bool} {H0 H : Hp} : ∀ {vs : List V} {ps : List (Tr × Nat)} {us : List V} {qs : List (Tr × Nat)}, Stk k H0 H vs ps → Stk k H0 H us qs → Stk k H0 H (vs ++ us) (ps ++ qs)
  | _, _, _, _, .nil, h => h
  | _, _, _, _, .cons h1 h2 r, h => .cons h1 h2 (Stk.app r h)
theorem Stk.upd {k : Bool} {H0 H : Hp} {a : Addr} {o : HO} : ∀ {vs : List V} {ps : List (Tr × Nat)}, Stk k H0 H vs ps → (∀ xs, H a ≠ some (.tup xs)) → Stk k H0 (L2.upd H a o) vs ps
  | _, _, .nil, _ => .nil
  | _, _, .cons (r := r) h1 h2 r1, hn => .cons (by rw [upd_ne (fun q : r = a => hn _ (by rw [← q]; exact h1))]; exact h1) h2 (Stk.upd r1 hn)
theorem Stk.last {k : Bool} {H0 H : Hp} : ∀ {vs : List V} {ps : List (Tr × Nat)}, Stk k H0 H vs ps → vs ≠ [] →
    ∃ us r v t d qs, vs = us ++ [.ref r] ∧ ps = qs ++ [(t, d)] ∧ Stk k H0 H us qs ∧ H r = some (.tup [v, .int (d : Nat)]) ∧ TA k H0 v t
  | _, _, .nil, h => absurd rfl h
  | _, _, .cons (r := r) (v := v) (t := t) (d := d) h1 h2 .nil, _ => ⟨[], r, v, t, d, [], rfl, rfl, .nil, h1, h2⟩
  | _, _, .cons (r := r) (v := v) (t := t) (d := d) h1 h2 (.cons a1 a2 a3), _ => by
    obtain ⟨us, r', v', t', d', qs, e1, e2, s, b1, b2⟩ := Stk.last (.cons a1 a2 a3) (by intro q; cases q)
    exact ⟨.ref r :: us, r', v', t', d', (t, d) :: qs, by rw [e1]; rfl, by rw [e2]; rfl, .cons h1 h2 s, b1, b2⟩
def tot (ps : List (Tr × Nat)) : Nat := (ps.map fun p => p.1.size).sum
theorem tot_app (ps qs : List (Tr × Nat)) : tot (ps ++ qs) = tot ps + tot qs := by
  unfold tot
  rw [List.map_append, List.sum_append]
theorem tot_kids (ts : List Tr) (d : Nat) : tot (ts.map fun t => (t, d)) = total ts := by
  unfold tot total
  rw [List.map_map]
  rfl
theorem total_rev (ts : List Tr) : total ts.reverse = total ts := by
  unfold total
  rw [List.map_reverse, List.sum_reverse]
theorem len_tot : ∀ ps : List (Tr × Nat), ps.length ≤ tot ps
  | [] => Nat.zero_le _
  | p :: r => by
    have h1 := len_tot r
    have h2 := size_pos p.1
    show r.length + 1 ≤ p.1.size + tot r
    omega
def spFW : Sp := fun vs H Q _ => ∃ (t : Tr) (v : V) (k : Bool) (L : List Nat) (w n : Nat), vs = [v, .str (tx L), .int (w : Int), .int (n : Int)] ∧ TA k H v t ∧ t.ok L.length w n ∧ L.length ≤ 10 ∧ t.depth ≤ 40 ∧ t.size ≤ 10000 ∧ ∀ H', Ex H H' → Q .non H'
theorem pop_last {α : Type} (us : List α) (x : α) : (us ++ [x])[(us ++ [x]).length - 1]? = some x := by
  rw [List.length_append]
  simp
theorem take_next' {α : Type} {l : List α} {i : Nat} {x : α} (h : l[i]? = some x) : l.take (i + 1) = l.take i ++ [x] := by
  rw [List.take_add_one, h]
  rfl
theorem rev_get {α : Type} {l : List α} {i : Nat} {x : α} (h : l[l.length - 1 - i]? = some x) (hi : i < l.length) : l.reverse[i]? = some x := by
  rw [List.getElem?_reverse hi]
  exact h
section
variable {P : Program} {w : World} {K : PySem.W.Frag} {mg : Str → Option Value} {base : Heap}
theorem ok_fw {f : Addr} {fd : FuncData} (F : Fun K "first_wrong" "first_wrong" s_first_wrong f fd) (T : Tx mg) (c_is_part : Kn P w K mg base "_is_part" ["part", "letters", "width", "states"] 3 spIsPart)
    (c_within : Kn P w K mg base "_within" ["part"] 1 spWithin) : FnOk P w K mg base CX0 4 f fd ["tree", "letters", "width", "states"] spFW := by
  refine F.ok sc_first_wrong (fun vs H Q E h => ?_) (fun cdv A outer s H vs Q E hr h => ?_)
  · obtain ⟨t, v, k, L, wd, n, rfl, _⟩ := h
    rfl
  · obtain ⟨t, v, k, L, wd, n, rfl, hT, hok, hL, hdp, hsz, q⟩ := h
    refine ⟨_, (pss_cons (ps_set (i := 4) sc_first_wrong.nd rfl (Or.inl rfl) (pe_lst (pa_cons (pe_tup (pa_cons (pv 0) (pa_cons pe_int pa_nil))) pa_nil)))
      (pss_cons (ps_set (i := 5) sc_first_wrong.nd rfl (Or.inl rfl) pe_int)
      (pss_cons (ps_while PassesOwn.never (pt_truth (pv 4) (by intro _; rfl)) (pss_cons (ps_asg (pe_bm0 PySem.F.plainAttrs_list PySem.F.slot_list_pop PySem.F.type_list_pop mt_pop (pv 4)) (pg_tup (by rfl) (pgs_cons (pg_name (i := 6) sc_first_wrong.nd rfl (Or.inl rfl)) (pgs_cons (pg_name (i := 7) sc_first_wrong.nd rfl (Or.inr rfl)) pgs_nil))))
      (pss_cons (ps_if (PW.pt (pw_or (pt_cmpR op_gt (pv 7) (pe_glob (v := .int 40) rfl T.m_DEEPEST ⟨_, rfl⟩) (nomark _)) (pw_or1 (pt_not (pt_val (pe_call c_is_part.ok (hr.mono (by decide)) (by rfl) c_is_part.g c_is_part.kp c_is_part.b .nil pass0 (pa_cons (pv 6) (pa_cons (pv 1) (pa_cons (pv 2) (pa_cons (pv 3) pa_nil)))))))))) (pss_one (ps_ret (pv 5))) pss_nil)
      (pss_cons (ps_expr (pe_bm PySem.F.plainAttrs_list PySem.F.slot_list_extend PySem.F.type_list_extend mt_extend (pv 4) (pa_cons (pe_lc (own := [("inner", 8)]) (g := gName 8) (tt := tYes) rfl sc_first_wrong.nd (pi_reversed (by rfl) T.reversed (pa_cons (pe_call c_within.ok (hr.mono (by decide)) (by rfl) c_within.g c_within.kp c_within.b .nil pass0 (pa_cons (pv 6) pa_nil)) pa_nil)) (blkOk_by (N := N_first_wrong) (sc := defScope s_first_wrong) (by decide +kernel)) (fun _ _ _ _ _ => (pg_name (i := 8) sc_first_wrong.nd rfl (Or.inl rfl))) (fun _ _ _ _ _ => pts_nil) (fun _ _ _ _ _ => (pe_tup (pa_cons (pv 8) (pa_cons (pe_op op_add (pv 7) pe_int) pa_nil))))) pa_nil)))
      (pss_one (ps_aug (i := 5) sc_first_wrong.nd rfl (Or.inl rfl) pe_int ip_add))))))
      (pss_one (ps_ret pe_non))))), ?_⟩
    refine ⟨_, rfl, by show 2 ≤ sizeLine; decide, fun t1 ht1 => ⟨by show 1 ≤ sizeLine; decide, fun l hl => ?_⟩⟩
    have hl0 : H l = none := fresh_back (Ex.new ht1) hl
    have e1 := (Ex.new (o := .tup [v, .int 1]) ht1).trans (Ex.new (o := .lst [V.ref t1]) hl)
    refine ⟨fun m σ H' => ∃ (st : List V) (ps : List (Tr × Nat)) (nm : Int) (y6 y7 y8 : Option V), σ = [some v, some (.str (tx L)), some (.int (wd : Int)), some (.int (n : Int)), some (.ref l), some (.int nm), y6, y7, y8] ∧
        Ex H H' ∧ H' l = some (.lst st) ∧ Stk k H H' st ps ∧ (∀ p ∈ ps, p.1.ok L.length wd n ∧ p.2 + p.1.depth ≤ 41) ∧ m = tot ps ∧ m ≤ 10000,
      ⟨t.size, [.ref t1], [(t, 1)], 0, none, none, none, rfl, e1, upd_same, .cons (Ex.new hl _ _ upd_same) hT .nil, fun p hp => ?_, ?_, hsz⟩, fun m σ H' hw => ?_⟩
    · rw [List.mem_singleton.mp hp]
      exact ⟨hok, by show 1 + t.depth ≤ 41; omega⟩
    · show t.size = t.size + 0
      rfl
    obtain ⟨st, ps, nm, y6, y7, y8, rfl, e2, hst, S, hall, hm, hm2⟩ := hw
    refine ⟨_, rfl, !st.isEmpty, .inl ⟨st, sq_of hst, rfl⟩, ?_⟩
    cases st with
    | nil =>
      refine iteF ?_
      exact q _ e2
    | cons s0 srest =>
      refine iteT ?_
      obtain ⟨us, r, pv_, pt, d, qs, eS, eP, S', hr, hTA⟩ := S.last (by intro z; cases z)
      rw [eS] at hst
      rw [eP] at hm hall
      have hpt := hall (pt, d) (List.mem_append_right _ List.mem_cons_self)
      have hpt2 : d + pt.depth ≤ 41 := hpt.2
      have dpos : 1 ≤ pt.depth := by
        cases pt
        · exact Nat.le_refl 1
        · exact Nat.succ_le_succ (Nat.zero_le _)
        · exact Nat.succ_le_succ (Nat.zero_le _)
      have hm3 : m = tot qs + pt.size := by
        rw [hm, tot_app]
        rfl
      have nrl : r ≠ l := fun z => by
        rw [z, hst] at hr
        cases hr
      refine ⟨fun σ2 H2 => ∃ m', m' < m ∧ ∃ (st : List V) (ps : List (Tr × Nat)) (nm : Int) (y6 y7 y8 : Option V), σ2 = [some v, some (.str (tx L)), some (.int (wd : Int)), some (.int (n : Int)), some (.ref l), some (.int nm), y6, y7, y8] ∧
        Ex H H2 ∧ H2 l = some (.lst st) ∧ Stk k H H2 st ps ∧ (∀ p ∈ ps, p.1.ok L.length wd n ∧ p.2 + p.1.depth ≤ 41) ∧ m' = tot ps ∧ m' ≤ 10000, fun σ2 H2 h => h, ?_⟩
      refine ⟨_, rfl, .inl ⟨rfl, _, sq_of hst⟩, l, _, _, rfl, rfl, hst, pop_last _ _, ?_⟩
      rw [List.dropLast_concat]
      have e3 : Ex H (L2.upd H' l (.lst us)) := e2.mut hl0
      have hl3 : (L2.upd H' l (.lst us)) l = some (.lst us) := upd_same
      have hr3 : (L2.upd H' l (.lst us)) r = some (.tup [pv_, .int (d : Nat)]) := by
        rw [upd_ne nrl]
        exact hr
      have S3 := S'.upd (a := l) (o := .lst us) fun xs hh => by
        rw [hst] at hh
        cases hh
      generalize (L2.upd H' l (.lst us)) = H3 at e3 hl3 hr3 S3 ⊢
      refine ⟨r, _, rfl, st_of hr3, rfl, _, _, rfl, _, _, rfl, rfl, ?_⟩
      refine ⟨_, rfl, _, _, rfl, rfl, _, rfl, iteDn (by omega) ?_⟩
      refine ⟨_, rfl, _, rfl, _, rfl, _, rfl, pt, pv_, k, L, wd, n, rfl, hTA.ex e3, hpt.1, hL, fun H4 e4 => ⟨true, rfl, ?_⟩⟩
      have e34 := e3.trans e4
      refine ⟨_, rfl, .inl ⟨rfl, _, sq_of (e4 _ _ hl3)⟩, ?_⟩
      refine ⟨_, rfl, pt, pv_, k, H, rfl, hTA, e34, fun r2 H5 ks e5 hr2 hks KK => ?_⟩
      have e35 := e34.trans e5
      have lks := KK.len
      refine ⟨r2, ks, rfl, sq_of hks, fun D hD => ?_⟩
      refine lc_it (walk_rev (K := K) (a := r2) (xs := ks)) (fun i H6 => Ex H5 H6 ∧ ∃ zs, H6 D = some (.lst zs) ∧ Stk k H H6 zs ((pt.kids.reverse.take i).map fun x => (x, d + 1))) ⟨Ex.new hD, [], upd_same, .nil⟩ (fun i H6 _ hw => sq_of (hw.1 _ _ hks)) (fun i x H6 H7 hi hw hy => ?_) (fun H6 hw => ?_)
      · obtain ⟨e6, zs, hzs, Z⟩ := hw
        obtain ⟨rfl, hx⟩ := hy
        obtain ⟨kt, hkt, hka⟩ := KK.get hx
        have hi2 : i < pt.kids.length := by omega
        have hkt2 : pt.kids.reverse[i]? = some kt := rev_get (by rw [← lks]; exact hkt) hi2
        have lz := Z.len
        refine ⟨rfl, _, rfl, _, rfl, _, _, rfl, rfl, by show 2 ≤ sizeLine; decide, fun q2 hq2 => ?_⟩
        have nDq : D ≠ q2 := fun z => by
          rw [z, hq2] at hzs
          cases hzs
        refine ⟨zs, Ex.new hq2 _ _ hzs, ?_, (e6.trans (Ex.new hq2)).mut hD, zs ++ [.ref q2], upd_same, ?_⟩
        · have : zs.length ≤ i := by
            rw [lz, List.length_map, List.length_take]
            exact Nat.min_le_left _ _
          have l2 := KK.len
          have l3 : pt.kids.length ≤ total pt.kids := by
            have := len_tot (pt.kids.map fun x => (x, 0))
            rw [List.length_map, tot_kids] at this
            exact this
          have l4 := size_kids pt
          exact sz_lt (by omega)
        · rw [take_next' hkt2, List.map_append]
          refine Stk.upd ((Z.ex (Ex.new hq2)).app (.cons upd_same hka .nil)) fun xs hh => ?_
          rw [upd_ne nDq, hzs] at hh
          cases hh
      · obtain ⟨e6, zs, hzs, Z⟩ := hw
        rw [lks, ← List.length_reverse, List.take_length] at Z
        have e46 := e5.trans e6
        have lz := Z.len
        have lu := S3.len
        rw [List.length_map, List.length_reverse] at lz
        have l3 : pt.kids.length ≤ total pt.kids := by
          have := len_tot (pt.kids.map fun x => (x, 0))
          rw [List.length_map, tot_kids] at this
          exact this
        have l4 := size_kids pt
        have l5 := len_tot qs
        have hl6 : H6 l = some (.lst us) := e46 _ _ (e4 _ _ hl3)
        refine ⟨l, D, us, zs, rfl, rfl, hl6, hzs, sz_of (by omega), ?_⟩
        refine ⟨_, rfl, _, _, rfl, rfl, tot (qs ++ pt.kids.reverse.map fun x => (x, d + 1)), ?_, us ++ zs, qs ++ pt.kids.reverse.map fun x => (x, d + 1), nm + 1, _, _, _, rfl, (e35.trans e6).mut hl0, upd_same, ?_, fun p hp => ?_, rfl, ?_⟩
        · rw [tot_app, tot_kids, total_rev]
          omega
        · refine Stk.upd ((S3.ex (e4.trans e46)).app Z) fun xs hh => ?_
          rw [hl6] at hh
          cases hh
        · rcases List.mem_append.mp hp with h | h
          · exact hall p (List.mem_append_left _ h)
          · obtain ⟨x, hx, rfl⟩ := List.mem_map.mp h
            have hx2 := List.mem_reverse.mp hx
            have hd := depth_kids x hx2
            exact ⟨ok_kids hpt.1 x hx2, by show d + 1 + x.depth ≤ 41; omega⟩
        · rw [tot_app, tot_kids, total_rev]
          omega
end
end Law

namespace TR
open PySem PySem.Spec L2 Evl
theorem Kids.last {k : Bool} {H : Hp} : ∀ {vs : List V} {ts : List Tr}, Kids k H vs ts → vs ≠ [] → ∃ us v rs t, vs = us ++ [v] ∧ ts = rs ++ [t] ∧ Kids k H us rs ∧ TA k H v t
  | _, _, .nil, h => absurd rfl h
  | _, _, .cons (v := v) (t := t) h .nil, _ => ⟨[], v, [], t, rfl, rfl, .nil, h⟩
  | _, _, .cons (v := v) (t := t) h (.cons a1 a2), _ => by
    obtain ⟨us, v', rs, t', e1, e2, s, b1⟩ := Kids.last (.cons a1 a2) (by intro q; cases q)
    exact ⟨v :: us, v', t :: rs, t', by rw [e1]; rfl, by rw [e2]; rfl, .cons h s, b1⟩
theorem Kids.rev {k : Bool} {H : Hp} : ∀ {vs : List V} {ts : List Tr}, Kids k H vs ts → Kids k H vs.reverse ts.reverse
  | _, _, .nil => .nil
  | _, _, .cons h r => by
    rw [List.reverse_cons, List.reverse_cons]
    exact r.rev.snoc h
/-! ### trees of tuples do not change with a list -/
mutual
theorem TA.upd {H : Hp} {a : Addr} {o : HO} (hn : ∀ xs, H a ≠ some (.tup xs)) : ∀ {t : Tr} {v : V}, TA true H v t → TA true (L2.upd H a o) v t
  | _, _, .go (a := r) h => .go (by rw [upd_ne (fun q : r = a => hn _ (by rw [← q]; exact h))]; exact h)
  | _, _, .tell (a := r) h r1 => .tell (by rw [upd_ne (fun q : r = a => hn _ (by rw [← q]; exact h))]; exact h) (TA.upd hn r1)
  | _, _, .read (a := r) (b := b) h hb r1 => .read (by rw [upd_ne (fun q : r = a => hn _ (by rw [← q]; exact h))]; exact h) (by rw [upd_ne (fun q : b = a => hn _ (by rw [← q]; exact hb))]; exact hb) (TAs.upd hn r1)
theorem TAs.upd {H : Hp} {a : Addr} {o : HO} (hn : ∀ xs, H a ≠ some (.tup xs)) : ∀ {ts : Trs} {vs : List V}, TAs true H vs ts → TAs true (L2.upd H a o) vs ts
  | _, _, .nil => .nil
  | _, _, .cons h r => .cons (TA.upd hn h) (TAs.upd hn r)
end
theorem Kids.upd {H : Hp} {a : Addr} {o : HO} (hn : ∀ xs, H a ≠ some (.tup xs)) : ∀ {vs : List V} {ts : List Tr}, Kids true H vs ts → Kids true (L2.upd H a o) vs ts
  | _, _, .nil => .nil
  | _, _, .cons h r => .cons (h.upd hn) (Kids.upd hn r)
theorem Kids.tas {k : Bool} {H : Hp} : ∀ {ts : Trs} {vs : List V}, Kids k H vs ts.list → TAs k H vs ts
  | .nil, _, .nil => .nil
  | .cons _ _, _, .cons h r => .cons h (Kids.tas r)
end TR
namespace Law
open PySem PySem.Spec PyProof.Rows L2 Evl TR
theorem total_app (ts us : List Tr) : total (ts ++ us) = total ts + total us := by
  unfold total
  rw [List.map_append, List.sum_append]
theorem len_total (ts : List Tr) : ts.length ≤ total ts := by
  have := len_tot (ts.map fun x => (x, 0))
  rw [List.length_map, tot_kids] at this
  exact this
def spAll : Sp := fun vs H Q _ => ∃ (t : Tr) (v : V) (k : Bool), vs = [v] ∧ TA k H v t ∧ t.size ≤ 10000 ∧ ∀ r H' us, Ex H H' → H r = none → H' r = some (.lst us) → us.length = t.size → Q (.ref r) H'
theorem size_mem {t : Tr} : ∀ {ts : List Tr}, t ∈ ts → t.size ≤ total ts
  | x :: r, h => by
    rcases List.mem_cons.mp h with q | q
    · rw [q]
      exact Nat.le_add_right _ _
    · exact Nat.le_trans (size_mem q) (Nat.le_add_left _ _)
/-- names that leave the states as they are -/
def Same1 (xs : List V) (n : Nat) : Prop := ∀ q : Nat, q < n → atI xs (q : Int) = some (.int (q : Nat))
def spRen (d : Nat) : Sp := fun vs H Q _ => ∃ (t : Tr) (v : V) (k : Bool) (l w n : Nat) (an : Addr) (xs : List V), vs = [v, .ref an] ∧ TA k H v t ∧ t.ok l w n ∧ H an = some (.lst xs) ∧ Same1 xs n ∧ t.depth ≤ d ∧ t.size ≤ 10000 ∧ ∀ H' v', Ex H H' → TA true H' v' t → Q v' H'
section
variable {P : Program} {w : World} {K : PySem.W.Frag} {mg : Str → Option Value} {base : Heap}
theorem ok_all {f : Addr} {fd : FuncData} (F : Fun K "all_parts" "all_parts" s_all_parts f fd) (T : Tx mg) (c_within : Kn P w K mg base "_within" ["part"] 1 spWithin) : FnOk P w K mg base CX0 2 f fd ["tree"] spAll := by
  refine F.ok sc_all_parts (fun vs H Q E h => ?_) (fun cdv A outer s H vs Q E hr h => ?_)
  · obtain ⟨t, v, k, rfl, _⟩ := h
    rfl
  · obtain ⟨t, v, k, rfl, hT, hsz, q⟩ := h
    refine ⟨_, (pss_cons (ps_set (i := 1) sc_all_parts.nd rfl (Or.inl rfl) (pe_lst (pa_cons (pv 0) pa_nil)))
      (pss_cons (ps_set (i := 2) sc_all_parts.nd rfl (Or.inl rfl) (pe_lst pa_nil))
      (pss_cons (ps_while PassesOwn.never (pt_truth (pv 1) (by intro _; rfl)) (pss_cons (ps_set (i := 3) sc_all_parts.nd rfl (Or.inl rfl) (pe_bm0 PySem.F.plainAttrs_list PySem.F.slot_list_pop PySem.F.type_list_pop mt_pop (pv 1)))
      (pss_cons (ps_expr (pe_bm PySem.F.plainAttrs_list PySem.F.slot_list_append PySem.F.type_list_append mt_append (pv 2) (pa_cons (pv 3) pa_nil)))
      (pss_one (ps_expr (pe_bm PySem.F.plainAttrs_list PySem.F.slot_list_extend PySem.F.type_list_extend mt_extend (pv 1) (pa_cons (pe_lc (own := [("inner", 4)]) (g := gName 4) (tt := tYes) rfl sc_all_parts.nd (pi_reversed (by rfl) T.reversed (pa_cons (pe_call c_within.ok (hr.mono (by decide)) (by rfl) c_within.g c_within.kp c_within.b .nil pass0 (pa_cons (pv 3) pa_nil)) pa_nil)) (blkOk_by (N := N_all_parts) (sc := defScope s_all_parts) (by decide +kernel)) (fun _ _ _ _ _ => (pg_name (i := 4) sc_all_parts.nd rfl (Or.inl rfl))) (fun _ _ _ _ _ => pts_nil) (fun _ _ _ _ _ => (pv 4))) pa_nil)))))))
      (pss_one (ps_ret (pv 2)))))), ?_⟩
    refine ⟨_, rfl, by show 1 ≤ sizeLine; decide, fun l1 hl1 => ?_⟩
    have e0 := Ex.new (o := .lst [v]) hl1
    refine ⟨Nat.zero_le _, fun l2 hl2 => ?_⟩
    have hl20 : H l2 = none := fresh_back e0 hl2
    have e1 := e0.trans (Ex.new (o := .lst []) hl2)
    have n12 : l1 ≠ l2 := fun z => by
      rw [← z, upd_same] at hl2
      cases hl2
    refine ⟨fun m σ H' => ∃ (st : List V) (ts : List Tr) (fs : List V) (y3 y4 : Option V), σ = [some v, some (.ref l1), some (.ref l2), y3, y4] ∧ Ex H H' ∧ H' l1 = some (.lst st) ∧ Kids k H st ts ∧ H' l2 = some (.lst fs) ∧ fs.length + total ts = t.size ∧ m = total ts,
      ⟨t.size, [v], [t], [], none, none, rfl, e1, Ex.new hl2 _ _ upd_same, .cons hT .nil, upd_same, by show 0 + (t.size + 0) = t.size; omega, rfl⟩, fun m σ H' hw => ?_⟩
    obtain ⟨st, ts, fs, y3, y4, rfl, e2, hst, KK, hfs, hsum, hm⟩ := hw
    refine ⟨_, rfl, !st.isEmpty, .inl ⟨st, sq_of hst, rfl⟩, ?_⟩
    cases st with
    | nil =>
      refine iteF ?_
      cases KK
      exact ⟨_, rfl, q l2 _ fs e2 hl20 hfs hsum⟩
    | cons s0 srest =>
      refine iteT ?_
      obtain ⟨us, x, rs, pt, eS, eP, K', hTA⟩ := KK.last (by intro z; cases z)
      rw [eS] at hst
      subst eP
      rw [total_app, show total [pt] = pt.size from Nat.add_zero _] at hsum hm
      have hk := size_kids pt
      refine ⟨fun σ2 H2 => ∃ m', m' < m ∧ ∃ (st : List V) (ts : List Tr) (fs : List V) (y3 y4 : Option V), σ2 = [some v, some (.ref l1), some (.ref l2), y3, y4] ∧ Ex H H2 ∧ H2 l1 = some (.lst st) ∧ Kids k H st ts ∧ H2 l2 = some (.lst fs) ∧ fs.length + total ts = t.size ∧ m' = total ts, fun σ2 H2 h => h, ?_⟩
      refine ⟨_, rfl, .inl ⟨rfl, _, sq_of hst⟩, l1, _, _, rfl, rfl, hst, pop_last _ _, ?_⟩
      rw [List.dropLast_concat]
      have e3 : Ex H (L2.upd H' l1 (.lst us)) := e2.mut hl1
      have hl3 : (L2.upd H' l1 (.lst us)) l1 = some (.lst us) := upd_same
      have hf3 : (L2.upd H' l1 (.lst us)) l2 = some (.lst fs) := by
        rw [upd_ne n12.symm]
        exact hfs
      generalize (L2.upd H' l1 (.lst us)) = H3 at e3 hl3 hf3 ⊢
      refine ⟨_, rfl, .inl ⟨rfl, _, sq_of hf3⟩, _, rfl, l2, _, _, rfl, rfl, hf3, sz_lt (by omega), ?_⟩
      have e4 : Ex H (L2.upd H3 l2 (.lst (fs ++ [x]))) := e3.mut hl20
      have hl4 : (L2.upd H3 l2 (.lst (fs ++ [x]))) l1 = some (.lst us) := by
        rw [upd_ne n12]
        exact hl3
      have hf4 : (L2.upd H3 l2 (.lst (fs ++ [x]))) l2 = some (.lst (fs ++ [x])) := upd_same
      generalize (L2.upd H3 l2 (.lst (fs ++ [x]))) = H4 at e4 hl4 hf4 ⊢
      refine ⟨_, rfl, .inl ⟨rfl, _, sq_of hl4⟩, ?_⟩
      refine ⟨_, rfl, pt, x, k, H, rfl, hTA, e4, fun r2 H5 ks e5 hr2 hks KX => ?_⟩
      have lks := KX.len
      have ltk := len_total pt.kids
      refine ⟨r2, ks, rfl, sq_of hks, fun D hD => ?_⟩
      refine lc_it (walk_rev (K := K) (a := r2) (xs := ks)) (fun i H6 => Ex H5 H6 ∧ H6 D = some (.lst (ks.reverse.take i))) ⟨Ex.new hD, upd_same⟩ (fun i H6 _ hw => sq_of (hw.1 _ _ hks)) (fun i z H6 H7 hi hw hy => ?_) (fun H6 hw => ?_)
      · obtain ⟨e6, hz⟩ := hw
        obtain ⟨rfl, hx⟩ := hy
        refine ⟨rfl, _, rfl, _, hz, ?_, e6.mut hD, ?_⟩
        · rw [List.length_take]
          exact sz_lt (by omega)
        · rw [upd_same, take_next' (rev_get hx hi)]
      · obtain ⟨e6, hz⟩ := hw
        rw [← List.length_reverse, List.take_length] at hz
        have hl6 := e6 _ _ (e5 _ _ hl4)
        have lu := K'.len
        have ltr := len_total rs
        refine ⟨l1, D, us, ks.reverse, rfl, rfl, hl6, hz, sz_of (by rw [List.length_reverse]; omega), ?_⟩
        refine ⟨total (rs ++ pt.kids.reverse), by rw [total_app, total_rev]; omega, us ++ ks.reverse, rs ++ pt.kids.reverse, fs ++ [x], _, _, rfl, ((e4.trans e5).trans e6).mut hl1, upd_same, K'.app KX.rev, ?_, ?_, rfl⟩
        · rw [upd_ne n12.symm]
          exact e6 _ _ (e5 _ _ hf4)
        · rw [List.length_append, total_app, total_rev]
          show fs.length + 1 + _ = _
          omega
theorem ok_ren0 {f : Addr} {fd : FuncData} (F : Fun K "renamed" "renamed" s_renamed f fd) (T : Tx mg) (g : mg "renamed" = some (.ref f)) (b : Binds K fd ["tree", "names"] []) : ∀ d : Nat, FnOk P w K mg base CX0 (d + 1) f fd ["tree", "names"] (spRen d)
  | 0 => by
    refine F.ok sc_renamed (fun vs H Q E h => ?_) (fun cdv A outer s H vs Q E hr h => ?_)
    · obtain ⟨t, v, k, l, wd, n, an, xs, rfl, _⟩ := h
      rfl
    · obtain ⟨t, v, k, l, wd, n, an, xs, rfl, hT, hok, han, hS, hd, hsz, q⟩ := h
      exfalso
      cases t
      · exact absurd hd (by show ¬ (1 ≤ 0); omega)
      · exact absurd hd (by show ¬ (_ + 1 ≤ 0); omega)
      · exact absurd hd (by show ¬ (_ + 1 ≤ 0); omega)
  | d + 1 => by
    have c_renamed : Kn P w K mg base "renamed" ["tree", "names"] (d + 1) (spRen d) := ⟨f, fd, ok_ren0 F T g b d, g, F.kp, b⟩
    refine F.ok sc_renamed (fun vs H Q E h => ?_) (fun cdv A outer s H vs Q E hr h => ?_)
    · obtain ⟨t, v, k, l, wd, n, an, xs, rfl, _⟩ := h
      rfl
    · obtain ⟨t, v, k, l, wd, n, an, xs, rfl, hT, hok, han, hS, hd, hsz, q⟩ := h
      refine ⟨_, (pss_cons (ps_asg (pv 0) (TR.pg_seq (by rfl) (pgs_cons (pg_name (i := 2) sc_renamed.nd rfl (Or.inl rfl)) (pgs_cons (pg_name (i := 3) sc_renamed.nd rfl (Or.inl rfl)) (pgs_cons (pg_name (i := 4) sc_renamed.nd rfl (Or.inl rfl)) pgs_nil)))))
      (pss_cons (ps_if (pt_cmpR op_eq (pv 2) pe_str (nomark _)) (pss_one (ps_ret (pe_tup (pa_cons (pv 2) (pa_cons (pv 3) (pa_cons (pe_ix ix_list (pv 1) (pv 4) (fun _ _ => rfl)) pa_nil)))))) pss_nil)
      (pss_cons (ps_if (pt_cmpR op_eq (pv 2) pe_str (nomark _)) (pss_one (ps_ret (pe_tup (pa_cons (pv 2) (pa_cons (pv 3) (pa_cons (pe_call c_renamed.ok (hr.mono (by omega)) (by rfl) c_renamed.g c_renamed.kp c_renamed.b .nil pass0 (pa_cons (pv 4) (pa_cons (pv 1) pa_nil))) pa_nil)))))) pss_nil)
      (pss_one (ps_ret (pe_tup (pa_cons (pv 2) (pa_cons (pv 3) (pa_cons (pe_callTy call_tuple_of (by rfl) T.tuple PyProof.Rows.boot_tuple (pa_cons (pe_lc (own := [("inner", 5)]) (g := gName 5) (tt := tYes) rfl sc_renamed.nd (TR.pi_seq (pv 4)) (blkOk_by (N := N_renamed) (sc := defScope s_renamed) (by decide +kernel)) (fun _ _ _ _ _ => (pg_name (i := 5) sc_renamed.nd rfl (Or.inl rfl))) (fun _ _ _ _ _ => pts_nil) (fun _ _ _ _ _ => (pe_call c_renamed.ok (hr.mono (by omega)) (by rfl) c_renamed.g c_renamed.kp c_renamed.b .nil pass0 (pa_cons (pv 5) (pa_cons (pv 1) pa_nil))))) pa_nil)) pa_nil))))))))), ?_⟩
      cases hT with
      | @go a s' q' h =>
        refine ⟨_, rfl, gSeq_of h rfl ⟨_, _, rfl, _, _, rfl, _, _, rfl, rfl, ?_⟩⟩
        refine ⟨_, rfl, rfl, _, rfl, iteD rfl ?_⟩
        exact ⟨_, rfl, _, rfl, _, rfl, _, rfl, an, _, _, _, rfl, rfl, sq_of han, hS _ hok.2.2, by show 3 ≤ sizeLine; decide, fun r hr2 => q _ _ (Ex.new hr2) (.go upd_same)⟩
      | @tell a n' v' t' h r0 =>
        have hd' : t'.depth ≤ d := by
          have : t'.depth + 1 ≤ d + 1 := hd
          omega
        have hs' : t'.size ≤ 10000 := by
          have : t'.size + 1 ≤ 10000 := hsz
          omega
        refine ⟨_, rfl, gSeq_of h rfl ⟨_, _, rfl, _, _, rfl, _, _, rfl, rfl, ?_⟩⟩
        refine ⟨_, rfl, rfl, _, rfl, iteDn tell_ne_go ?_⟩
        refine ⟨_, rfl, rfl, _, rfl, iteD rfl ?_⟩
        refine ⟨_, rfl, _, rfl, _, rfl, _, rfl, t', v', k, l, wd, n, an, xs, rfl, r0, hok.2, han, hS, hd', hs', fun H1 v1 e1 hv1 => ⟨by show 3 ≤ sizeLine; decide, fun r hr2 => ?_⟩⟩
        exact q _ _ (e1.trans (Ex.new hr2)) (.tell upd_same (hv1.ex (Ex.new hr2)))
      | @read a b' p' us ts h hb r0 =>
        have hd' : ts.depth ≤ d := by
          have : ts.depth + 1 ≤ d + 1 := hd
          omega
        have hs' : ts.size ≤ 9999 := by
          have : ts.size + 1 ≤ 10000 := hsz
          omega
        have KK := r0.kids
        have lks := KK.len
        have ltk := len_total ts.list
        rw [Trs.total] at ltk
        refine ⟨_, rfl, gSeq_of h rfl ⟨_, _, rfl, _, _, rfl, _, _, rfl, rfl, ?_⟩⟩
        refine ⟨_, rfl, rfl, _, rfl, iteDn read_ne_go ?_⟩
        refine ⟨_, rfl, rfl, _, rfl, iteDn read_ne_tell ?_⟩
        refine ⟨_, rfl, _, rfl, ?_⟩
        cases k
        · refine .inl ⟨_, rfl, b', rfl, ⟨us, sq_of hb⟩, fun D hD => lc_it (walk_list (K := K) (a := b') (xs := us)) (fun i H6 => Ex H H6 ∧ ∃ zs, H6 D = some (.lst zs) ∧ Kids true H6 zs (ts.list.take i)) ⟨Ex.new hD, [], upd_same, .nil⟩ (fun i H6 _ hw => sq_of (hw.1 _ _ hb)) (fun i x H6 H7 hi hw hy => ?_) (fun H6 hw => ?_)⟩
          · obtain ⟨e6, zs, hz, Z⟩ := hw
            obtain ⟨rfl, hx⟩ := hy
            obtain ⟨kt, hkt, hka⟩ := KK.get hx
            have mem := List.mem_of_getElem? hkt
            have dk := Trs.depth_mem kt mem
            have sk : kt.size ≤ ts.size := by
              have h1 := size_mem mem
              rw [Trs.total] at h1
              exact h1
            have lz := Z.len
            rw [List.length_take] at lz
            refine ⟨rfl, _, rfl, _, rfl, kt, x, _, l, wd, n, an, xs, rfl, hka.ex e6, Trs.ok_mem hok.2.2 kt mem, e6 _ _ han, hS, by omega, by omega, fun H8 v8 e8 hv8 => ?_⟩
            refine ⟨zs, e8 _ _ hz, sz_lt (by omega), (e6.trans e8).mut hD, zs ++ [v8], upd_same, ?_⟩
            rw [take_next' hkt]
            refine Kids.upd (fun ys hh => ?_) ((Z.ex e8).snoc hv8)
            rw [e8 _ _ hz] at hh
            cases hh
          · obtain ⟨e6, zs, hz, Z⟩ := hw
            rw [lks, List.take_length] at Z
            refine ⟨D, zs, rfl, .inl ⟨sq_of hz, fun t2 ht2 => ⟨by show 3 ≤ sizeLine; decide, fun r hr2 => ?_⟩⟩⟩
            exact q _ _ ((e6.trans (Ex.new ht2)).trans (Ex.new hr2)) (.read upd_same (Ex.new hr2 _ _ upd_same) ((Z.ex ((Ex.new ht2).trans (Ex.new hr2))).tas))
        · refine .inr ⟨_, rfl, b', rfl, ⟨us, st_of hb⟩, fun D hD => lc_it (walk_tup (K := K) (a := b') (xs := us)) (fun i H6 => Ex H H6 ∧ ∃ zs, H6 D = some (.lst zs) ∧ Kids true H6 zs (ts.list.take i)) ⟨Ex.new hD, [], upd_same, .nil⟩ (fun i H6 _ hw => st_of (hw.1 _ _ hb)) (fun i x H6 H7 hi hw hy => ?_) (fun H6 hw => ?_)⟩
          · obtain ⟨e6, zs, hz, Z⟩ := hw
            obtain ⟨rfl, hx⟩ := hy
            obtain ⟨kt, hkt, hka⟩ := KK.get hx
            have mem := List.mem_of_getElem? hkt
            have dk := Trs.depth_mem kt mem
            have sk : kt.size ≤ ts.size := by
              have h1 := size_mem mem
              rw [Trs.total] at h1
              exact h1
            have lz := Z.len
            rw [List.length_take] at lz
            refine ⟨rfl, _, rfl, _, rfl, kt, x, _, l, wd, n, an, xs, rfl, hka.ex e6, Trs.ok_mem hok.2.2 kt mem, e6 _ _ han, hS, by omega, by omega, fun H8 v8 e8 hv8 => ?_⟩
            refine ⟨zs, e8 _ _ hz, sz_lt (by omega), (e6.trans e8).mut hD, zs ++ [v8], upd_same, ?_⟩
            rw [take_next' hkt]
            refine Kids.upd (fun ys hh => ?_) ((Z.ex e8).snoc hv8)
            rw [e8 _ _ hz] at hh
            cases hh
          · obtain ⟨e6, zs, hz, Z⟩ := hw
            rw [lks, List.take_length] at Z
            refine ⟨D, zs, rfl, .inl ⟨sq_of hz, fun t2 ht2 => ⟨by show 3 ≤ sizeLine; decide, fun r hr2 => ?_⟩⟩⟩
            exact q _ _ ((e6.trans (Ex.new ht2)).trans (Ex.new hr2)) (.read upd_same (Ex.new hr2 _ _ upd_same) ((Z.ex ((Ex.new ht2).trans (Ex.new hr2))).tas))
end
end Law

namespace TR
open PySem PySem.Spec L2 Evl
def rLenQ (K : PySem.W.Frag) : List V → Hp → VK → Prop := fun xs H Q => ∃ p ys, xs = [.ref p] ∧ (SqL K H p ys ∨ SqT K H p ys) ∧ Q (.int ys.length) H
end TR
namespace Law
open PySem PySem.Spec PyProof.Rows L2 Evl TR
abbrev lcR (g : TG) (tt : TT) (tl : TE) (vs : List Nat) (σ : L2.St) (Q : Addr → Hp → Prop) : It → Hp → Prop := fun J H1 => ∀ D, H1 D = none → ∃ W : Nat → Nat → Hp → Prop, (∃ m, W 0 m (upd H1 D (.lst []))) ∧ ∀ i m H, W i m H →
  (J.stop i H ∧ Q D H) ∨ (J.go i H ∧ ∃ Nx : Hp → Prop, (∀ H', Nx H' → ∃ m', m' < m ∧ W (i + 1) m' H') ∧ ∀ x H', J.yld i H x H' → g x (wipe σ vs) H' fun σ2 H2 => wipe σ2 vs = wipe σ vs ∧ tt σ2 H2 fun b H3 =>
    if b = true then tl σ2 H3 fun y H4 => ∃ acc, H4 D = some (.lst acc) ∧ acc.length < sizeLine ∧ Nx (upd H4 D (.lst (acc ++ [y]))) else Nx H3)
/-- a walk over a list or a tuple, in a comprehension -/
theorem lcq {K : PySem.W.Frag} {te tl : TE} {g : TG} {tt : TT} {vs : List Nat} {σ : L2.St} {H : Hp} {Q : Addr → Hp → Prop} {a : Addr} {k : Bool} {xs : List V} (h : H a = some (ob k xs)) (hv : ∀ R : VK, R (.ref a) H → te σ H R) (Pv : Addr → Nat → Hp → Prop)
    (h0 : ∀ D, H D = none → Pv D 0 (upd H D (.lst []))) (hk : ∀ D i H', H D = none → Pv D i H' → Ex H H')
    (hs : ∀ D i x H', H D = none → xs[i]? = some x → Pv D i H' → g x (wipe σ vs) H' fun σ2 H2 => wipe σ2 vs = wipe σ vs ∧ tt σ2 H2 fun b H3 =>
      if b = true then tl σ2 H3 fun y H4 => ∃ acc, H4 D = some (.lst acc) ∧ acc.length < sizeLine ∧ Pv D (i + 1) (upd H4 D (.lst (acc ++ [y]))) else Pv D (i + 1) H3)
    (hd : ∀ D H', H D = none → Pv D xs.length H' → Q D H') : iList K te σ H (lcR g tt tl vs σ Q) ∨ iTup K te σ H (lcR g tt tl vs σ Q) := by
  cases k
  · exact .inl (hv _ ⟨a, rfl, ⟨xs, sq_of h⟩, fun D hD => lc_list (Pv D) (h0 D hD) (fun i H' _ p => sq_of (hk D i H' hD p _ _ h)) (fun i x H' hx p => hs D i x H' hD hx p) (fun H' p => hd D H' hD p)⟩)
  · exact .inr (hv _ ⟨a, rfl, ⟨xs, st_of h⟩, fun D hD => lc_tup (Pv D) (h0 D hD) (fun i H' _ p => st_of (hk D i H' hD p _ _ h)) (fun i x H' hx p => hs D i x H' hD hx p) (fun H' p => hd D H' hD p)⟩)
/-- .. in a loop over enumerate -/
theorem forq {K : PySem.W.Frag} {ta : TA} {g : TG} {tb : TS} {D : Ends} {σ : L2.St} {H : Hp} {a : Addr} {k : Bool} {xs : List V} (h : H a = some (ob k xs)) (hv : ∀ R : List V → Hp → Prop, R [.ref a] H → ta σ H R) (Pv : Nat → L2.St → Hp → Prop) (h0 : Pv 0 σ H)
    (hk : ∀ i σ H', Pv i σ H' → Ex H H')
    (hs : ∀ (i : Nat) (x : V) (T : Addr) (σ : L2.St) (H : Hp), xs[i]? = some x → Pv i σ H → H T = none → g (.ref T) σ (upd H T (.tup [.int (i : Nat), x])) fun σ2 H2 => tb { D with nx := Pv (i + 1), ct := Pv (i + 1), bk := D.nx } σ2 H2)
    (hd : ∀ σ H, Pv xs.length σ H → D.nx σ H) : tFor (iEnumQ K ta) g tb D σ H := by
  cases k
  · exact .inl (hv _ ⟨a, xs, rfl, sq_of h, EN.for_enumL Pv h0 (fun i σ H' p => sq_of (hk i σ H' p _ _ h)) hs hd⟩)
  · exact .inr (hv _ ⟨a, xs, rfl, st_of h, EN.for_enumT Pv h0 (fun i σ H' p => st_of (hk i σ H' p _ _ h)) hs hd⟩)
/-- what of the text the class has -/
structure SC (K : PySem.W.Frag) (C : Addr) : Prop where
  cl : Cls K C
  nl : NoAttr K C "letters"
  nw : NoAttr K C "width"
  ns : NoAttr K C "states"
  nn : NoAttr K C "nodes"
def sFs (l w s n : V) : List (Str × V) := [("letters", l), ("width", w), ("states", s), ("nodes", n)]
theorem putF4 (l w s n : V) : putF "nodes" n (putF "states" s (putF "width" w (putF "letters" l []))) = sFs l w s n := by
  have a1 : ¬ (("letters" : Str) = "width") := by decide +kernel
  have a2 : ¬ (("letters" : Str) = "states") := by decide +kernel
  have a3 : ¬ (("letters" : Str) = "nodes") := by decide +kernel
  have a4 : ¬ (("width" : Str) = "states") := by decide +kernel
  have a5 : ¬ (("width" : Str) = "nodes") := by decide +kernel
  have a6 : ¬ (("states" : Str) = "nodes") := by decide +kernel
  simp [putF, sFs, a1, a2, a3, a4, a5, a6]
/-- a searcher: its letters, its width, its trees -/
structure SObj (C : Addr) (H : Hp) (o : Addr) (L : List Nat) (w : Nat) (ts : List Tr) : Prop where
  ex : ∃ (dx st : Addr) (us : List V), H o = some (.ins C dx (sFs (.str (tx L)) (.int (w : Int)) (.ref st) (.int (total ts : Nat)))) ∧ H st = some (.tup us) ∧ Kids true H us ts
theorem sum_sizes : ∀ ts : List Tr, (ts.map fun t => (t.size : Int)).sum = ((total ts : Nat) : Int)
  | [] => rfl
  | t :: r => by
    rw [List.map_cons, List.sum_cons, sum_sizes r]
    show _ = (((t.size + total r : Nat)) : Int)
    omega
def spInit (C : Addr) : Sp := fun vs H Q _ => ∃ (o dx sa : Addr) (L : List Nat) (w : Nat) (kt k : Bool) (xs : List V) (ts : List Tr) (H0 : Hp), vs = [.ref o, .str (tx L), .int (w : Int), .ref sa] ∧ Ex H0 H ∧ H0 o = none ∧ H o = some (.ins C dx []) ∧ H0 sa = some (ob kt xs) ∧ Kids k H0 xs ts ∧ LG L ∧ 1 ≤ w ∧ w ≤ 8 ∧ 1 ≤ ts.length ∧ ts.length ≤ 64 ∧ (∀ t ∈ ts, t.ok L.length w ts.length ∧ t.depth ≤ 40) ∧ total ts ≤ 3000 ∧ ∀ H', Ex H0 H' → SObj C H' o L w ts → Q .non H'
theorem same_rg (n : Nat) : Same1 (rgV 0 (n : Int)) n := by
  intro q hq
  unfold rgV
  rw [show (((n : Int) - 0).toNat) = n by omega]
  refine atI_nat ?_
  rw [List.getElem?_map, List.getElem?_range hq]
  show some (V.int (0 + (q : Int))) = _
  rw [Int.zero_add]
section
variable {P : Program} {w : World} {K : PySem.W.Frag} {mg : Str → Option Value} {base : Heap}
theorem ok_init {f C : Addr} {fd : FuncData} (F : Fun K "__init__" "Searcher.__init__" s_Searcher_init f fd) (T : Tx mg) (S : SC K C) (c_are_letters : Kn P w K mg base "are_letters" ["value"] 1 spAreL)
    (c_is_whole : Kn P w K mg base "is_whole" ["value", "low", "high"] 2 spWhole) (c_is_list : Kn P w K mg base "is_list" ["value"] 1 spIsQ) (c_first_wrong : Kn P w K mg base "first_wrong" ["tree", "letters", "width", "states"] 4 spFW)
    (c_all_parts : Kn P w K mg base "all_parts" ["tree"] 2 spAll) (c_renamed : Kn P w K mg base "renamed" ["tree", "names"] 41 (spRen 40)) : FnOk P w K mg base CX0 42 f fd ["self", "letters", "width", "states"] (spInit C) := by
  refine F.ok sc_Searcher_init (fun vs H Q E h => ?_) (fun cdv A outer s H vs Q E hr h => ?_)
  · obtain ⟨o, dx, sa, L, wd, kt, k, xs, ts, H0, rfl, _⟩ := h
    rfl
  · obtain ⟨o, dx, sa, L, wd, kt, k, xs, ts, H0, rfl, e0, ho0, ho, hsa, KK, hL, w1, w8, n1, n64, hall, htot, q⟩ := h
    have lks := KK.len
    have hL2 := hL.hi
    refine ⟨_, (pss_cons (ps_if (pt_not (pt_val (pe_call c_are_letters.ok (hr.mono (by decide)) (by rfl) c_are_letters.g c_are_letters.kp c_are_letters.b .nil pass0 (pa_cons (pv 1) pa_nil)))) (pss_one ps_never) pss_nil)
      (pss_cons (ps_if (pt_not (pt_val (pe_call c_is_whole.ok (hr.mono (by decide)) (by rfl) c_is_whole.g c_is_whole.kp c_is_whole.b .nil pass0 (pa_cons (pv 2) (pa_cons pe_int (pa_cons (pe_glob (v := .int 8) rfl T.m_MOST_WIDTH ⟨_, rfl⟩) pa_nil)))))) (pss_one ps_never) pss_nil)
      (pss_cons (ps_set (i := 4) sc_Searcher_init.nd rfl (Or.inl rfl) (pe_ifExp (pt_val (pe_call c_is_list.ok (hr.mono (by decide)) (by rfl) c_is_list.g c_is_list.kp c_is_list.b .nil pass0 (pa_cons (pv 3) pa_nil))) (pe_callB call_len_seq (by rfl) T.len PySem.boot_len (pa_cons (pv 3) pa_nil)) pe_int))
      (pss_cons (ps_if (pt_not (pt_chain op_le op_le pe_int (pv 4) (pe_glob (v := .int 64) rfl T.m_MOST_STATES ⟨_, rfl⟩))) (pss_one ps_never) pss_nil)
      (pss_cons (ps_for PassesOwn.never rfl (TR.pi_enumQ (by rfl) T.enumerate (pa_cons (pv 3) pa_nil)) (pg_tup (by rfl) (pgs_cons (pg_name (i := 5) sc_Searcher_init.nd rfl (Or.inl rfl)) (pgs_cons (pg_name (i := 6) sc_Searcher_init.nd rfl (Or.inl rfl)) pgs_nil))) (pss_cons (ps_set (i := 7) sc_Searcher_init.nd rfl (Or.inl rfl) (pe_call c_first_wrong.ok (hr.mono (by decide)) (by rfl) c_first_wrong.g c_first_wrong.kp c_first_wrong.b .nil pass0 (pa_cons (pv 6) (pa_cons (pv 1) (pa_cons (pv 2) (pa_cons (pv 4) pa_nil))))))
      (pss_one (ps_if (pt_cmpR op_notN (pv 7) pe_non (nomark _)) (pss_one ps_never) pss_nil))))
      (pss_cons (ps_set (i := 8) sc_Searcher_init.nd rfl (Or.inl rfl) (pe_callB (cr_sum rfl) (by rfl) T.sum (by decide +kernel) (pa_cons (pe_lc (own := [("tree", 6)]) (g := gName 6) (tt := tYes) rfl sc_Searcher_init.nd (TR.pi_seq (pv 3)) (blkOk_by (N := N_Searcher_init) (sc := defScope s_Searcher_init) (by decide +kernel)) (fun _ _ _ _ _ => (pg_name (i := 6) sc_Searcher_init.nd rfl (Or.inl rfl))) (fun _ _ _ _ _ => pts_nil) (fun _ _ _ _ _ => (pe_callB (show CallR _ _ (TR.rLenQ K) from call_len_seq) (by rfl) T.len PySem.boot_len (pa_cons (pe_call c_all_parts.ok (hr.mono (by decide)) (by rfl) c_all_parts.g c_all_parts.kp c_all_parts.b .nil pass0 (pa_cons (pv 6) pa_nil)) pa_nil)))) pa_nil)))
      (pss_cons (ps_if (pt_cmpR op_gt (pv 8) (pe_glob (v := .int 3000) rfl T.m_MOST_NODES ⟨_, rfl⟩) (nomark _)) (pss_one ps_never) pss_nil)
      (pss_cons (ps_set (i := 9) sc_Searcher_init.nd rfl (Or.inr rfl) (pe_listRg rfl (by rfl) T.list (prg_1 (by rfl) T.range (pv 4))))
      (pss_cons (ps_fld (pv 0) (pv 1) rfl)
      (pss_cons (ps_fld (pv 0) (pv 2) rfl)
      (pss_cons (ps_fld (pv 0) (pe_callTy call_tuple_of (by rfl) T.tuple PyProof.Rows.boot_tuple (pa_cons (pe_lc (own := [("tree", 6)]) (g := gName 6) (tt := tYes) rfl sc_Searcher_init.nd (TR.pi_seq (pv 3)) (blkOk_by (N := N_Searcher_init) (sc := defScope s_Searcher_init) (by decide +kernel)) (fun _ _ _ _ _ => (pg_name (i := 6) sc_Searcher_init.nd rfl (Or.inl rfl))) (fun _ _ _ _ _ => pts_nil) (fun _ _ _ _ _ => (pe_call c_renamed.ok (hr.mono (by decide)) (by rfl) c_renamed.g c_renamed.kp c_renamed.b .nil pass0 (pa_cons (pv 6) (pa_cons (pv 9) pa_nil))))) pa_nil)) rfl)
      (pss_one (ps_fld (pv 0) (pv 8) rfl))))))))))))), ?_⟩
    refine ⟨_, rfl, L, rfl, hL, fun H1 e1 => ⟨true, rfl, ?_⟩⟩
    refine ⟨_, rfl, _, _, _, rfl, by omega, by omega, fun H2 e2 => ⟨true, rfl, ?_⟩⟩
    have e3 := e1.trans e2
    have hs2 := e3 _ _ (e0 _ _ hsa)
    refine ⟨_, rfl, sa, kt, xs, rfl, hs2, fun H3 e4 => ⟨true, rfl, ?_⟩⟩
    have hs3 := e4 _ _ hs2
    refine ⟨_, rfl, sa, _, rfl, ob_seq hs3, ?_⟩
    refine ⟨_, rfl, _, _, rfl, rfl, _, rfl, iteD (by omega) ⟨_, _, rfl, rfl, _, rfl, ite2 (fun hb => ?_) (fun _ => ?_)⟩⟩
    · rw [decide_eq_true (by omega)] at hb
      cases hb
    have e5 := e3.trans e4
    have e6 := e0.trans e5
    refine forq hs3 (fun R h => ⟨_, rfl, h⟩) (fun i σ H' => ∃ y5 y6 y7 : Option V, σ = [some (.ref o), some (.str (tx L)), some (.int (wd : Int)), some (.ref sa), some (.int (xs.length : Nat)), y5, y6, y7, none, none] ∧ Ex H3 H') ⟨none, none, none, rfl, Ex.refl _⟩ (fun i σ H' p => by obtain ⟨_, _, _, _, e⟩ := p; exact e) (fun i x T' σ H' hx p hT => ?_) (fun σ H' p => ?_)
    · obtain ⟨y5, y6, y7, rfl, e7⟩ := p
      have e8 := e7.trans (Ex.new (o := .tup [.int (i : Nat), x]) hT)
      obtain ⟨t, ht, hta⟩ := KK.get hx
      have mem := List.mem_of_getElem? ht
      obtain ⟨tok, tdp⟩ := hall t mem
      have tsz := size_mem mem
      refine ⟨T', _, rfl, .inl (.inl upd_same), rfl, _, _, rfl, _, _, rfl, rfl, ?_⟩
      refine ⟨_, rfl, _, rfl, _, rfl, _, rfl, t, x, k, L, wd, ts.length, by rw [lks]; rfl, hta.ex (e6.trans e8), tok, by omega, tdp, by omega, fun H4 e9 => ?_⟩
      refine ⟨_, rfl, rfl, _, rfl, ite2 (fun hb => by cases hb) (fun _ => ?_)⟩
      exact ⟨_, _, _, rfl, e8.trans e9⟩
    obtain ⟨y5, y6, y7, rfl, e7⟩ := p
    have hs4 := e7 _ _ hs3
    have e8 := e6.trans e7
    refine lcq hs4 (fun R h => ⟨_, rfl, h⟩) (fun D i H'' => Ex H' H'' ∧ H'' D = some (.lst (((ts.take i).map fun t => (t.size : Int)).map V.int))) (fun D hD => ⟨Ex.new hD, upd_same⟩) (fun D i H'' _ p => p.1) (fun D i x H'' hD hx p => ?_) (fun D H'' hD p => ?_)
    · obtain ⟨e9, hz⟩ := p
      obtain ⟨t, ht, hta⟩ := KK.get hx
      have mem := List.mem_of_getElem? ht
      have tsz := size_mem mem
      have hi := (List.getElem?_eq_some_iff.mp ht).1
      refine ⟨rfl, _, rfl, t, x, k, rfl, hta.ex (e8.trans e9), by omega, fun r H5 us e10 hr hus hl => ?_⟩
      refine ⟨r, us, rfl, .inl (sq_of hus), _, e10 _ _ hz, ?_, (e9.trans e10).mut hD, ?_⟩
      · rw [List.length_map, List.length_map, List.length_take]
        exact sz_lt (by omega)
      · rw [upd_same, take_next' ht, List.map_append, List.map_append, hl]
        rfl
    obtain ⟨e9, hz⟩ := p
    rw [lks, List.take_length] at hz
    refine ⟨D, _, rfl, sq_of hz, ?_⟩
    rw [sum_sizes]
    refine ⟨_, rfl, _, _, rfl, rfl, _, rfl, ite2 (fun hb => absurd (of_decide_eq_true hb) (by omega)) (fun _ => ?_)⟩
    refine ⟨_, rfl, _, rfl, RgOk.of_le (by omega) (by omega) (by omega) (by omega), fun an han => ?_⟩
    have eA := (e8.trans e9).trans (Ex.new (o := .lst (rgV 0 (xs.length : Int))) han)
    have hoA := ((((e5.trans e7).trans e9).trans (Ex.new (o := .lst (rgV 0 (xs.length : Int))) han)) _ _ ho)
    have hanA : (upd H'' an (.lst (rgV 0 (xs.length : Int)))) an = some (.lst (rgV 0 (xs.length : Int))) := upd_same
    generalize (upd H'' an (.lst (rgV 0 (xs.length : Int)))) = HA at eA hoA hanA ⊢
    have nao : an ≠ o := ne_of hanA hoA (by intro z; cases z)
    refine ⟨_, rfl, _, rfl, o, C, dx, _, rfl, hoA, S.cl, S.nl, by show 0 < 1000; decide, ?_⟩
    have eB := eA.mut (o := .ins C dx (putF "letters" (.str (tx L)) [])) ho0
    have hoB : (upd HA o (.ins C dx (putF "letters" (.str (tx L)) []))) o = _ := upd_same
    have hanB := (upd_ne (H := HA) (o := .ins C dx (putF "letters" (.str (tx L)) [])) nao).trans hanA
    generalize (upd HA o (.ins C dx (putF "letters" (.str (tx L)) []))) = HB at eB hoB hanB ⊢
    refine ⟨_, rfl, _, rfl, o, C, dx, _, rfl, hoB, S.cl, S.nw, by show 1 < 1000; decide, ?_⟩
    generalize hf2 : putF "width" (.int (wd : Int)) (putF "letters" (.str (tx L)) []) = f2
    have lf2 : f2.length < 1000 := by
      rw [← hf2]
      show 2 < 1000
      decide
    have eC := eB.mut (o := .ins C dx f2) ho0
    have hoC : (upd HB o (.ins C dx f2)) o = _ := upd_same
    have hanC := (upd_ne (H := HB) (o := .ins C dx f2) nao).trans hanB
    generalize (upd HB o (.ins C dx f2)) = HC at eC hoC hanC ⊢
    refine lcq (eC _ _ hsa) (fun R h => ⟨_, rfl, h⟩) (fun D i H'' => Ex HC H'' ∧ ∃ zs, H'' D = some (.lst zs) ∧ Kids true H'' zs (ts.take i)) (fun D hD => ⟨Ex.new hD, [], upd_same, .nil⟩) (fun D i H'' _ p => p.1) (fun D i x H'' hD hx p => ?_) (fun D H'' hD p => ?_)
    · obtain ⟨e9, zs, hz, Z⟩ := p
      obtain ⟨t, ht, hta⟩ := KK.get hx
      have mem := List.mem_of_getElem? ht
      obtain ⟨tok, tdp⟩ := hall t mem
      have tsz := size_mem mem
      have lz := Z.len
      rw [List.length_take] at lz
      refine ⟨rfl, _, rfl, _, rfl, t, x, k, L.length, wd, ts.length, an, _, rfl, hta.ex (eC.trans e9), tok, e9 _ _ hanC, ?_, tdp, by omega, fun H8 v8 e10 hv8 => ?_⟩
      · rw [← lks]
        exact same_rg _
      refine ⟨zs, e10 _ _ hz, sz_lt (by omega), (e9.trans e10).mut hD, zs ++ [v8], upd_same, ?_⟩
      rw [take_next' ht]
      refine Kids.upd (fun ys hh => ?_) ((Z.ex e10).snoc hv8)
      rw [e10 _ _ hz] at hh
      cases hh
    obtain ⟨e9, zs, hz, Z⟩ := p
    rw [lks, List.take_length] at Z
    refine ⟨D, zs, rfl, .inl ⟨sq_of hz, fun t2 ht2 => ?_⟩⟩
    have e10 := e9.trans (Ex.new (o := .tup zs) ht2)
    have hoD := e10 _ _ hoC
    have ZD := Z.ex (Ex.new (o := .tup zs) ht2)
    have ht3 : (upd H'' t2 (.tup zs)) t2 = some (.tup zs) := upd_same
    have eD := eC.trans e10
    generalize (upd H'' t2 (.tup zs)) = HD at hoD ZD ht3 eD ⊢
    have nto : t2 ≠ o := ne_of ht3 hoD (by intro z; cases z)
    refine ⟨_, rfl, o, C, dx, _, rfl, hoD, S.cl, S.ns, lf2, ?_⟩
    refine ⟨_, rfl, _, rfl, o, C, dx, _, rfl, upd_same, S.cl, S.nn, ?_, ?_⟩
    · rw [← hf2]
      show 3 < 1000
      decide
    refine q _ ((eD.mut ho0).mut ho0) ⟨dx, t2, zs, ?_, ?_, ?_⟩
    · rw [upd_same, ← hf2, putF4]
    · rw [upd_ne nto, upd_ne nto]
      exact ht3
    · refine Kids.upd (fun ys hh => ?_) (Kids.upd (fun ys hh => ?_) ZD)
      · rw [upd_same] at hh
        cases hh
      · rw [hoD] at hh
        cases hh
end
end Law

namespace TR
open PySem PySem.Spec L2 Evl
def Trs.of : List Tr → Trs
  | [] => .nil
  | t :: r => .cons t (Trs.of r)
theorem Trs.of_list : ∀ l : List Tr, (Trs.of l).list = l
  | [] => rfl
  | t :: r => congrArg (t :: ·) (Trs.of_list r)
theorem Trs.ok_of {l w n : Nat} : ∀ {ts : List Tr}, (∀ t ∈ ts, t.ok l w n) → (Trs.of ts).ok l w n
  | [], _ => True.intro
  | t :: r, h => ⟨h t List.mem_cons_self, Trs.ok_of fun x hx => h x (List.mem_cons_of_mem _ hx)⟩
theorem Trs.depth_of {d : Nat} : ∀ {ts : List Tr}, (∀ t ∈ ts, t.depth ≤ d) → (Trs.of ts).depth ≤ d
  | [], _ => Nat.zero_le _
  | t :: r, h => Nat.max_le.mpr ⟨h t List.mem_cons_self, Trs.depth_of fun x hx => h x (List.mem_cons_of_mem _ hx)⟩
theorem total_le {s : Nat} : ∀ {ts : List Tr}, (∀ t ∈ ts, t.size ≤ s) → TR.total ts ≤ ts.length * s
  | [], _ => Nat.zero_le _
  | t :: r, h => by
    have h1 := h t List.mem_cons_self
    have h2 := total_le (ts := r) fun x hx => h x (List.mem_cons_of_mem _ hx)
    show t.size + TR.total r ≤ (r.length + 1) * s
    rw [Nat.succ_mul]
    omega
end TR
namespace Law
open PySem PySem.Spec PyProof.Rows L2 Evl TR
theorem PenAt.both {p : PenI} {H0 H : Hp} {a : Addr} {n : Nat} {o : HO} (P : PenAt p H0 H n) (hd : a ≠ p.d) (hc : a ≠ p.c) : PenAt p (L2.upd H0 a o) (L2.upd H a o) n := by
  obtain ⟨e0, h0, hc0, hl, op, lf, ho, hd'⟩ := P
  refine ⟨fun b u e => ?_, by rw [upd_ne hd.symm]; exact h0, by rw [upd_ne hc.symm]; exact hc0, hl, op, lf, ho, by rw [upd_ne hd.symm]; exact hd'⟩
  by_cases q : b = a
  · subst q
    rw [upd_same] at e ⊢
    exact e
  · rw [upd_ne q] at e ⊢
    exact e0 b u e
theorem fresh_nc {p : PenI} {H0 H : Hp} {n : Nat} {a : Addr} (P : PenAt p H0 H n) (h : H a = none) : a ≠ p.c := fun e => by
  rw [e, P.1 _ _ P.2.2.1] at h
  cases h
/-- one more object made -/
theorem PenAt.made {p : PenI} {H0 H : Hp} {a : Addr} {n : Nat} {o : HO} (P : PenAt p H0 H n) (h : H a = none) : PenAt p (L2.upd H0 a o) (L2.upd H a o) n ∧ Ex H0 (L2.upd H0 a o) :=
  ⟨P.both (fresh_ne P h) (fresh_nc P h), Ex.new (fresh0 P h)⟩
/-- draws of a tree, its size -/
def nd : Nat → Nat
  | 0 => 2
  | d + 1 => 2 + 4 * nd d
def sz : Nat → Nat
  | 0 => 1
  | d + 1 => 1 + 4 * sz d
theorem nd_pos : ∀ d, 2 ≤ nd d
  | 0 => Nat.le_refl _
  | d + 1 => Nat.le_add_right _ _
theorem sz_pos : ∀ d, 1 ≤ sz d
  | 0 => Nat.le_refl _
  | d + 1 => Nat.le_add_right _ _
def spTree (k : Nat) : Sp := fun vs H Q _ => ∃ (p : PenI) (H0 : Hp) (n d : Nat) (L : List Nat) (w m : Nat), vs = [.ref p.d, .str (tx L), .int (w : Int), .int (m : Int), .int (d : Int)] ∧ d < k ∧ PenAt p H0 H n ∧ n + nd d < 900000 ∧ 2 ≤ L.length ∧ L.length ≤ 4 ∧ 1 ≤ w ∧ w ≤ 8 ∧ 1 ≤ m ∧ m ≤ 64 ∧
  ∀ H1 H' v t, Ex H0 H1 → PenAt p H1 H' (n + nd d) → TR.TA true H1 v t → t.ok L.length w m → t.depth ≤ d + 1 → t.size ≤ sz d → Q v H'
section
variable {P : Program} {w : World} {K : PySem.W.Frag} {mg : Str → Option Value} {base : Heap}
theorem ok_tree {f : Addr} {fd : FuncData} (F : Fun K "_law_tree" "_law_tree" s_ltree f fd) (T : Tx mg) (g : mg "_law_tree" = some (.ref f)) (b : Binds K fd ["_law_pen_here", "_law_letters_here", "_law_width", "_law_states", "_law_depth"] [])
    (c_ldraw : Kn P w K mg base "_law_draw" ["_law_pen_here", "_law_many"] 1 spDraw) : ∀ k : Nat, FnOk P w K mg base CX0 (k + 2) f fd ["_law_pen_here", "_law_letters_here", "_law_width", "_law_states", "_law_depth"] (spTree k)
  | 0 => by
    refine F.ok sc_ltree (fun vs H Q E h => ?_) (fun cdv A outer s H vs Q E hr h => ?_)
    · obtain ⟨p, H0, n, d, L, wd, m, rfl, _⟩ := h
      rfl
    · obtain ⟨p, H0, n, d, L, wd, m, rfl, hk, _⟩ := h
      exact absurd hk (Nat.not_lt_zero _)
  | k + 1 => by
    have c_ltree : Kn P w K mg base "_law_tree" ["_law_pen_here", "_law_letters_here", "_law_width", "_law_states", "_law_depth"] (k + 2) (spTree k) := ⟨f, fd, ok_tree F T g b c_ldraw k, g, F.kp, b⟩
    refine F.ok sc_ltree (fun vs H Q E h => ?_) (fun cdv A outer s H vs Q E hr h => ?_)
    · obtain ⟨p, H0, n, d, L, wd, m, rfl, _⟩ := h
      rfl
    · obtain ⟨p, H0, n, d, L, wd, m, rfl, hk, P0, hn, l2, l4, w1, w8, m1, m64, q⟩ := h
      have ndp := nd_pos d
      refine ⟨_, (pss_cons (ps_set (i := 5) sc_ltree.nd rfl (Or.inl rfl) (pe_ifExp (pt_cmpR op_gt (pv 4) pe_int (nomark _)) (pe_call c_ldraw.ok (hr.mono (by omega)) (by rfl) c_ldraw.g c_ldraw.kp c_ldraw.b .nil pass0 (pa_cons (pv 0) (pa_cons pe_int pa_nil))) pe_int))
      (pss_cons (ps_if (pt_cmpR op_lt (pv 5) pe_int (nomark _)) (pss_cons (ps_set (i := 6) sc_ltree.nd rfl (Or.inl rfl) (pe_call c_ldraw.ok (hr.mono (by omega)) (by rfl) c_ldraw.g c_ldraw.kp c_ldraw.b .nil pass0 (pa_cons (pv 0) (pa_cons (pe_op op_add (pv 2) pe_int) pa_nil))))
      (pss_one (ps_ret (pe_tup (pa_cons pe_str (pa_cons (pv 6) (pa_cons (pe_callTy call_tuple_of (by rfl) T.tuple PyProof.Rows.boot_tuple (pa_cons (pe_lc (own := [("_law_letter", 7)]) (g := gName 7) (tt := tYes) rfl sc_ltree.nd (pi_str (pv 1)) (blkOk_by (N := N_ltree) (sc := defScope s_ltree) (by decide +kernel)) (fun _ _ _ _ _ => (pg_name (i := 7) sc_ltree.nd rfl (Or.inl rfl))) (fun _ _ _ _ _ => pts_nil) (fun _ _ _ _ _ => (pe_call c_ltree.ok (hr.mono (by omega)) (by rfl) c_ltree.g c_ltree.kp c_ltree.b .nil pass0 (pa_cons (pv 0) (pa_cons (pv 1) (pa_cons (pv 2) (pa_cons (pv 3) (pa_cons (pe_op op_sub (pv 4) pe_int) pa_nil)))))))) pa_nil)) pa_nil))))))) pss_nil)
      (pss_cons (ps_if (pt_cmpR op_eq (pv 5) pe_int (nomark _)) (pss_one (ps_ret (pe_tup (pa_cons pe_str (pa_cons (pe_call c_ldraw.ok (hr.mono (by omega)) (by rfl) c_ldraw.g c_ldraw.kp c_ldraw.b .nil pass0 (pa_cons (pv 0) (pa_cons pe_int pa_nil))) (pa_cons (pe_call c_ltree.ok (hr.mono (by omega)) (by rfl) c_ltree.g c_ltree.kp c_ltree.b .nil pass0 (pa_cons (pv 0) (pa_cons (pv 1) (pa_cons (pv 2) (pa_cons (pv 3) (pa_cons (pe_op op_sub (pv 4) pe_int) pa_nil)))))) pa_nil)))))) pss_nil)
      (pss_one (ps_ret (pe_tup (pa_cons pe_str (pa_cons (pe_op op_add pe_int (pe_call c_ldraw.ok (hr.mono (by omega)) (by rfl) c_ldraw.g c_ldraw.kp c_ldraw.b .nil pass0 (pa_cons (pv 0) (pa_cons (pe_op op_add (pv 2) pe_int) pa_nil)))) (pa_cons (pe_call c_ldraw.ok (hr.mono (by omega)) (by rfl) c_ldraw.g c_ldraw.kp c_ldraw.b .nil pass0 (pa_cons (pv 0) (pa_cons (pv 3) pa_nil))) pa_nil))))))))), ?_⟩
      refine ⟨_, rfl, _, _, rfl, rfl, _, rfl, ite2 (fun hb => ?_) (fun hb => ?_)⟩
      · have hd0 : 0 < (d : Int) := of_decide_eq_true hb
        obtain ⟨d', rfl⟩ : ∃ d', d = d' + 1 := ⟨d - 1, by omega⟩
        have nde : nd (d' + 1) = 2 + 4 * nd d' := rfl
        have sze : sz (d' + 1) = 1 + 4 * sz d' := rfl
        have ndp' := nd_pos d'
        have szp' := sz_pos d'
        have dm : (V.int (((d' + 1 : Nat) : Int) - 1)) = V.int (d' : Int) := congrArg V.int (by omega)
        refine ⟨_, rfl, p, H0, n, 6, rfl, P0, by omega, by decide, by decide, fun H1 r P1 r0 r1 => ?_⟩
        refine ⟨_, rfl, _, _, rfl, rfl, _, rfl, ite2 (fun hb1 => ?_) (fun hb1 => ?_)⟩
        · refine ⟨_, rfl, _, rfl, _, _, rfl, rfl, p, H0, n + 1, _, rfl, P1, by omega, by omega, by omega, fun H2 pl P2 p0 p1 => ?_⟩
          obtain ⟨pn, rfl⟩ : ∃ pn : Nat, pl = (pn : Int) := ⟨pl.toNat, (Int.toNat_of_nonneg p0).symm⟩
          refine ⟨_, rfl, _, rfl, _, rfl, fun D hD => ?_⟩
          have d0 := fresh0 P2 hD
          have d1 := fresh_ne P2 hD
          have d2 := fresh_nc P2 hD
          refine lc_str (x := tx L) (fun i H' => ∃ (Hb : Hp) (zs : List V) (ts : List Tr), Ex H0 Hb ∧ PenAt p Hb H' (n + 2 + i * nd d') ∧ Hb D = some (.lst zs) ∧ Kids true Hb zs ts ∧ ts.length = i ∧ ∀ t ∈ ts, t.ok L.length wd m ∧ t.depth ≤ d' + 1 ∧ t.size ≤ sz d')
            ⟨L2.upd H0 D (.lst []), [], [], Ex.new d0, (P2.both d1 d2).le (by omega), upd_same, .nil, rfl, fun t ht => nomatch ht⟩ (fun i c H' hic hw => ?_) (fun H' hw => ?_)
          · obtain ⟨Hb, zs, ts, e, Pb, hz, KK, hl, hall⟩ := hw
            have hi := (List.getElem?_eq_some_iff.mp (tx_at hic)).1
            have hi4 : (i + 1) * nd d' ≤ 4 * nd d' := Nat.mul_le_mul_right _ (by omega)
            rw [Nat.succ_mul] at hi4
            have lz := KK.len
            refine ⟨rfl, _, rfl, _, rfl, _, rfl, _, rfl, _, rfl, _, _, rfl, rfl, p, Hb, n + 2 + i * nd d', d', L, wd, m, congrArg (fun z => [V.ref p.d, V.str (tx L), V.int (wd : Int), V.int (m : Int), z]) dm, by omega, Pb, by omega, l2, l4, w1, w8, m1, m64, fun H3 H4 v t e3 P4 hta tok tdp tsz => ?_⟩
            refine ⟨zs, P4.1 _ _ (e3 _ _ hz), sz_lt (by omega), L2.upd H3 D (.lst (zs ++ [v])), zs ++ [v], ts ++ [t], (e.trans e3).mut d0, (P4.both d1 d2).le ?_, upd_same, ?_, ?_, ?_⟩
            · rw [Nat.succ_mul]
              omega
            · refine Kids.upd (fun ys hh => ?_) ((KK.ex e3).snoc hta)
              rw [e3 _ _ hz] at hh
              cases hh
            · rw [List.length_append, hl]
              rfl
            · intro x hx
              rcases List.mem_append.mp hx with h | h
              · exact hall x h
              · rw [List.mem_singleton.mp h]
                exact ⟨tok, tdp, tsz⟩
          · obtain ⟨Hb, zs, ts, e, Pb, hz, KK, hl, hall⟩ := hw
            rw [tx_size] at hl
            refine ⟨D, zs, rfl, .inl ⟨sq_of (Pb.1 _ _ hz), fun t2 ht2 => ⟨by show 3 ≤ sizeLine; decide, fun r2 hr2 => ?_⟩⟩⟩
            obtain ⟨Pc, ec⟩ := Pb.made (o := .tup zs) ht2
            obtain ⟨Pd, ed⟩ := Pc.made (o := .tup [.str "read", .int (pn : Int), .ref t2]) hr2
            have hn2 : L.length * nd d' ≤ 4 * nd d' := Nat.mul_le_mul_right _ l4
            have hs2 : L.length * sz d' ≤ 4 * sz d' := Nat.mul_le_mul_right _ l4
            have tot := total_le (s := sz d') fun t ht => (hall t ht).2.2
            rw [hl] at tot
            rw [tx_size] at Pd
            refine q _ _ _ (.read pn (Trs.of ts)) ((e.trans ec).trans ed) (Pd.le (by omega)) (.read upd_same (ed _ _ upd_same) ?_) ⟨by omega, ?_, Trs.ok_of fun t ht => (hall t ht).1⟩ ?_ ?_
            · refine Kids.tas ?_
              rw [Trs.of_list]
              exact KK.ex (ec.trans ed)
            · rw [Trs.of_list]
              exact hl
            · exact Nat.succ_le_succ (Trs.depth_of fun t ht => (hall t ht).2.1)
            · show (Trs.of ts).size + 1 ≤ _
              rw [← Trs.total, Trs.of_list]
              omega
        · refine ⟨_, rfl, rfl, _, rfl, ite2 (fun hb2 => ?_) (fun hb2 => ?_)⟩
          · refine ⟨_, rfl, p, H0, n + 1, 3, rfl, P1, by omega, by decide, by decide, fun H2 r2 P2 s0 s1 => ?_⟩
            obtain ⟨rn, rfl⟩ : ∃ rn : Nat, r2 = (rn : Int) := ⟨r2.toNat, (Int.toNat_of_nonneg s0).symm⟩
            refine ⟨_, rfl, _, rfl, _, rfl, _, rfl, _, rfl, _, _, rfl, rfl, p, H0, n + 2, d', L, wd, m, congrArg (fun z => [V.ref p.d, V.str (tx L), V.int (wd : Int), V.int (m : Int), z]) dm, by omega, P2, by omega, l2, l4, w1, w8, m1, m64, fun H3 H4 v t e3 P4 hta tok tdp tsz => ⟨by show 3 ≤ sizeLine; decide, fun r3 hr3 => ?_⟩⟩
            obtain ⟨Pd, ed⟩ := P4.made (o := .tup [.str "tell", .int (rn : Int), v]) hr3
            exact q _ _ _ (.tell rn t) (e3.trans ed) (Pd.le (by omega)) (.tell upd_same (hta.ex ed)) ⟨by omega, tok⟩ (Nat.succ_le_succ tdp) (by show t.size + 1 ≤ _; omega)
          · refine ⟨_, rfl, _, rfl, _, _, rfl, rfl, p, H0, n + 1, _, rfl, P1, by omega, by omega, by omega, fun H2 r2 P2 s0 s1 => ⟨_, _, rfl, rfl, ?_⟩⟩
            refine ⟨_, rfl, _, rfl, p, H0, n + 2, _, rfl, P2, by omega, by omega, by omega, fun H3 r3 P3 u0 u1 => ⟨by show 3 ≤ sizeLine; decide, fun r4 hr4 => ?_⟩⟩
            obtain ⟨an, rfl⟩ : ∃ an : Nat, r2 = (an : Int) := ⟨r2.toNat, (Int.toNat_of_nonneg s0).symm⟩
            obtain ⟨bn, rfl⟩ : ∃ bn : Nat, r3 = (bn : Int) := ⟨r3.toNat, (Int.toNat_of_nonneg u0).symm⟩
            obtain ⟨Pd, ed⟩ := P3.made (o := .tup [.str "go", .int (1 + (an : Int)), .int (bn : Int)]) hr4
            refine q _ _ _ (.go (1 + an) bn) ed (Pd.le (by omega)) (.go ?_) ⟨by omega, by omega, by omega⟩ (by show 1 ≤ _; omega) (by show 1 ≤ _; omega)
            rw [upd_same]
            rfl
      · have hd0 : d = 0 := by
          have : ¬ (0 < (d : Int)) := fun z => hb (decide_eq_true z)
          omega
        subst hd0
        have nde : nd 0 = 2 := rfl
        refine ⟨_, rfl, _, _, rfl, rfl, _, rfl, ite2 (fun hb1 => absurd (of_decide_eq_true hb1) (by decide)) (fun hb1 => ?_)⟩
        refine ⟨_, rfl, rfl, _, rfl, ite2 (fun hb2 => absurd hb2 (by decide)) (fun hb2 => ?_)⟩
        refine ⟨_, rfl, _, rfl, _, _, rfl, rfl, p, H0, n, _, rfl, P0, by omega, by omega, by omega, fun H2 r2 P2 s0 s1 => ⟨_, _, rfl, rfl, ?_⟩⟩
        refine ⟨_, rfl, _, rfl, p, H0, n + 1, _, rfl, P2, by omega, by omega, by omega, fun H3 r3 P3 u0 u1 => ⟨by show 3 ≤ sizeLine; decide, fun r4 hr4 => ?_⟩⟩
        obtain ⟨an, rfl⟩ : ∃ an : Nat, r2 = (an : Int) := ⟨r2.toNat, (Int.toNat_of_nonneg s0).symm⟩
        obtain ⟨bn, rfl⟩ : ∃ bn : Nat, r3 = (bn : Int) := ⟨r3.toNat, (Int.toNat_of_nonneg u0).symm⟩
        obtain ⟨Pd, ed⟩ := P3.made (o := .tup [.str "go", .int (1 + (an : Int)), .int (bn : Int)]) hr4
        refine q _ _ _ (.go (1 + an) bn) ed (Pd.le (by omega)) (.go ?_) ⟨by omega, by omega, by omega⟩ (by show 1 ≤ _; omega) (by show 1 ≤ 1; omega)
        rw [upd_same]
        rfl
/-- the states drawn -/
def spTrees : Sp := fun vs H Q _ => ∃ (p : PenI) (H0 : Hp) (n : Nat) (L : List Nat) (w m : Nat), vs = [.ref p.d, .str (tx L), .int (w : Int), .int (m : Int), .int 3] ∧ PenAt p H0 H n ∧ n < 800000 ∧ 2 ≤ L.length ∧ L.length ≤ 4 ∧ 1 ≤ w ∧ w ≤ 8 ∧ 1 ≤ m ∧ m ≤ 4 ∧
  ∀ H1 H' r vs ts, Ex H0 H1 → PenAt p H1 H' (n + 1000) → H0 r = none → H1 r = some (.lst vs) → Kids true H1 vs ts → ts.length = m → (∀ t ∈ ts, t.ok L.length w m ∧ t.depth ≤ 4 ∧ t.size ≤ 100) → Q (.ref r) H'
theorem ok_trees {f : Addr} {fd : FuncData} (F : Fun K "_law_trees" "_law_trees" s_ltrees f fd) (T : Tx mg) (c_ltree : Kn P w K mg base "_law_tree" ["_law_pen_here", "_law_letters_here", "_law_width", "_law_states", "_law_depth"] 6 (spTree 4)) :
    FnOk P w K mg base CX0 7 f fd ["_law_pen_here", "_law_letters_here", "_law_width", "_law_many", "_law_depth"] spTrees := by
  refine F.ok sc_ltrees (fun vs H Q E h => ?_) (fun cdv A outer s H vs Q E hr h => ?_)
  · obtain ⟨p, H0, n, L, wd, m, rfl, _⟩ := h
    rfl
  · obtain ⟨p, H0, n, L, wd, m, rfl, P0, hn, l2, l4, w1, w8, m1, m4, q⟩ := h
    refine ⟨_, (pss_one (ps_ret (pe_lc (own := [("_law_k", 5)]) (g := gName 5) (tt := tYes) rfl sc_ltrees.nd (pi_range1 (by rfl) T.range (pa_cons (pv 3) pa_nil)) (blkOk_by (N := N_ltrees) (sc := defScope s_ltrees) (by decide +kernel)) (fun _ _ _ _ _ => (pg_name (i := 5) sc_ltrees.nd rfl (Or.inl rfl))) (fun _ _ _ _ _ => pts_nil) (fun _ _ _ _ _ => (pe_call c_ltree.ok (hr.mono (by decide)) (by rfl) c_ltree.g c_ltree.kp c_ltree.b .nil pass0 (pa_cons (pv 0) (pa_cons (pv 1) (pa_cons (pv 2) (pa_cons (pv 3) (pa_cons (pv 4) pa_nil)))))))))), ?_⟩
    have n3 : nd 3 = 170 := rfl
    have z3 : sz 3 = 85 := rfl
    refine ⟨_, rfl, _, rfl, by omega, by omega, fun D hD => ?_⟩
    have d0 := fresh0 P0 hD
    have d1 := fresh_ne P0 hD
    have d2 := fresh_nc P0 hD
    refine lc_range (lo := 0) (n := m) (fun i H' => ∃ (Hb : Hp) (zs : List V) (ts : List Tr), Ex H0 Hb ∧ PenAt p Hb H' (n + i * 170) ∧ Hb D = some (.lst zs) ∧ Kids true Hb zs ts ∧ ts.length = i ∧ ∀ t ∈ ts, t.ok L.length wd m ∧ t.depth ≤ 4 ∧ t.size ≤ 100)
      ⟨L2.upd H0 D (.lst []), [], [], Ex.new d0, (P0.both d1 d2).le (by omega), upd_same, .nil, rfl, fun t ht => nomatch ht⟩ (fun i H' hi hw => ?_) (fun H' hw => ?_)
    · obtain ⟨Hb, zs, ts, e, Pb, hz, KK, hl, hall⟩ := hw
      have lz := KK.len
      refine ⟨rfl, _, rfl, _, rfl, _, rfl, _, rfl, _, rfl, p, Hb, n + i * 170, 3, L, wd, m, rfl, by decide, Pb, by omega, l2, l4, w1, w8, m1, by omega, fun H3 H4 v t e3 P4 hta tok tdp tsz => ?_⟩
      refine ⟨zs, P4.1 _ _ (e3 _ _ hz), sz_lt (by omega), L2.upd H3 D (.lst (zs ++ [v])), zs ++ [v], ts ++ [t], (e.trans e3).mut d0, (P4.both d1 d2).le (by omega), upd_same, ?_, ?_, ?_⟩
      · refine Kids.upd (fun ys hh => ?_) ((KK.ex e3).snoc hta)
        rw [e3 _ _ hz] at hh
        cases hh
      · rw [List.length_append, hl]
        rfl
      · intro x hx
        rcases List.mem_append.mp hx with h | h
        · exact hall x h
        · rw [List.mem_singleton.mp h]
          exact ⟨tok, tdp, by omega⟩
    · obtain ⟨Hb, zs, ts, e, Pb, hz, KK, hl, hall⟩ := hw
      exact q _ _ _ _ _ e (Pb.le (by omega)) d0 hz KK hl hall
end
end Law

namespace EK
open PySem PySem.Spec PyProof.Rows L2 Evl
/-- what the __init__ of an error leaves -/
def ErrEnd (H : Hp) (a C : Addr) (fs : List (Str × V)) (H' : Hp) : Prop := ∃ dx, H' a = some (exo a C (some dx)) ∧ H' dx = some (exd dx fs) ∧ H dx = none ∧ dx ≠ a ∧ ∀ b o, H b = some o → b ≠ a → H' b = some o
/-- how a def raises it -/
def Rz (E : XK) (H : Hp) (C : Addr) (fs : List (Str × V)) : Prop := ∀ d H', Ex H H' → H d = none → H' d = some (.xd fs) → E (.ref C) (some d) H'
theorem raise_end {H1 H2 : Hp} {a C : Addr} {fs : List (Str × V)} {E : XK} (ha : H1 a = none) (h : ErrEnd (upd H1 a (exo a C none)) a C fs H2) (q : Rz E H1 C fs) :
    V.non = .non ∧ ∃ (d : Addr) (fs' : List (Str × V)), H2 a = some (exo a C (some d)) ∧ H2 d = some (exd d fs') ∧ H1 d = none ∧ E (.ref C) (some d) (upd (del H2 a) d (.xd fs')) := by
  obtain ⟨dx, h1, h2, h3, h4, h5⟩ := h
  have hd : H1 dx = none := by
    rw [upd_ne h4] at h3
    exact h3
  refine ⟨rfl, dx, fs, h1, h2, hd, q dx _ (fun b o e => ?_) hd upd_same⟩
  have nb : b ≠ a := fun z => by
    rw [z, ha] at e
    cases e
  have nd : b ≠ dx := fun z => by
    rw [z, hd] at e
    cases e
  rw [upd_ne nd, del_ne nb]
  exact h5 b o (by rw [upd_ne nb]; exact e) nb
theorem err_new {H : Hp} {a C dx : Addr} {f : Str} {v : V} (hd : H dx = none) (hne : dx ≠ a) : ErrEnd H a C [(f, v)] (upd (upd H dx (exd dx [(f, v)])) a (exo a C (some dx))) :=
  ⟨dx, upd_same, by rw [upd_ne hne, upd_same], hd, hne, fun b o e nb => by
    rw [upd_ne nb, upd_ne (fun z => by rw [z, hd] at e; cases e)]
    exact e⟩
theorem exo_exd {a C dx : Addr} {d : Option Addr} {fs : List (Str × V)} {H : Hp} (h1 : H a = some (exo a C d)) (hne : dx ≠ a) : a ≠ dx := fun z => hne z.symm
theorem err_put {H H1 : Hp} {a C dx : Addr} {f : Str} {v : V} {fs : List (Str × V)} (h1 : H1 a = some (exo a C (some dx))) (h2 : H1 dx = some (exd dx fs)) (h3 : H dx = none) (h4 : dx ≠ a) (h5 : ∀ b o, H b = some o → b ≠ a → H1 b = some o) :
    ErrEnd H a C ((f, v) :: fs) (upd H1 dx (exd dx ((f, v) :: fs))) :=
  ⟨dx, by rw [upd_ne h4.symm]; exact h1, upd_same, h3, h4, fun b o e nb => by
    rw [upd_ne (fun z => by rw [z, h3] at e; cases e)]
    exact h5 b o e nb⟩
/-- a value without parts -/
inductive FlatV : V → Prop
  | non : FlatV .non
  | bl (b : Bool) : FlatV (.bl b)
  | int (n : Int) : FlatV (.int n)
  | str (z : Str) : FlatV (.str z)
theorem FlatV.kinds {K : PySem.W.Frag} {v : V} (h : FlatV v) (H : Hp) : ∃ t, TyX K H v t ∧ PySem.W.kitOne K t (.type "list") = some false ∧ PySem.W.kitOne K t (.type "tuple") = some false ∧ PySem.W.kitOne K t (.type "dict") = some false := by
  cases h with
  | non => exact ⟨_, .base .non, kit_ty (by decide +kernel), kit_ty (by decide +kernel), kit_ty (by decide +kernel)⟩
  | bl b => exact ⟨_, .base (.bl b), kit_ty (by decide +kernel), kit_ty (by decide +kernel), kit_ty (by decide +kernel)⟩
  | int n => exact ⟨_, .base (.int n), kit_ty (by decide +kernel), kit_ty (by decide +kernel), kit_ty (by decide +kernel)⟩
  | str z => exact ⟨_, .base (.str z), kit_ty (by decide +kernel), kit_ty (by decide +kernel), kit_ty (by decide +kernel)⟩
/-- what of the text an error's class has: its __init__ at f -/
structure ErrC (K : PySem.W.Frag) (C f C0 : Addr) : Prop where
  o : OexC K C
  i : PySem.W.findIn K (.ref C) "__init__" = some (some (.ref f))
  t : PySem.W.typeIn K (.ref f) = some (.type "function")
  x : XfC K C
  e : ExcC K C
  s : PySem.W.kitOne K (.ref C) (.ref C0) = some true
/-- the base -/
structure BaseC (K : PySem.W.Frag) (mg : Str → Option Value) (C0 : Addr) : Prop where
  g : mg "SkipsError" = some (.ref C0)
  r : ClX.CRead K C0 (.type "type")
  v : PySem.W.findCls K (.ref C0) (.type "type") "__init__" = some (.val (.builtin "ValueError.__init__"))
end EK
namespace Law
open PySem PySem.Spec PyProof.Rows L2 Evl TR EK
def spKept : Sp := fun vs H Q _ => ∃ v, vs = [v] ∧ FlatV v ∧ Q v H
def spErr (C : Addr) (f : Str) : Sp := fun vs H Q _ => ∃ (a : Addr) (v : V), vs = [.ref a, v] ∧ H a = some (exo a C none) ∧ FlatV v ∧ ∀ H', ErrEnd H a C [(f, v)] H' → Q .non H'
def spErr3 (C : Addr) (f g h : Str) : Sp := fun vs H Q _ => ∃ (a : Addr) (v u w : V), vs = [.ref a, v, u, w] ∧ H a = some (exo a C none) ∧ FlatV v ∧ FlatV u ∧ FlatV w ∧ ∀ H', ErrEnd H a C [(h, w), (g, u), (f, v)] H' → Q .non H'
def spWS (K : PySem.W.Frag) : Sp := fun vs H Q _ => ∃ L : List Nat, L.length ≤ 10 ∧ ((∃ T, vs = [.str (tx L), .str (tx T)] ∧ (∀ H', Ex H H' → (∀ c ∈ T, c ∈ L) → Q .non H') ∧
    ∀ H' i c, Ex H H' → T[i]? = some c → c ∉ L → (∀ j d, j < i → T[j]? = some d → d ∈ L) → Q (.int (i : Nat)) H') ∨
  ∃ v t, vs = [.str (tx L), v] ∧ TyX K H v t ∧ PySem.W.kitOne K t (.type "str") = some false ∧ Q (.int 0) H)
section
variable {P : Program} {w : World} {K : PySem.W.Frag} {mg : Str → Option Value} {base : Heap}
theorem ok_kept {f : Addr} {fd : FuncData} (F : Fun K "_kept" "_kept" s_kept f fd) (T : Tx mg) : FnOk P w K mg base CX0 1 f fd ["value"] spKept := by
  refine F.ok sc_kept (fun vs H Q E h => ?_) (fun cdv A outer s H vs Q E hr h => ?_)
  · obtain ⟨v, rfl, _⟩ := h
    rfl
  · obtain ⟨v, rfl, hv, q⟩ := h
    refine ⟨_, (pss_cons (ps_if (pt_val (pe_callB call_isi (by rfl) T.isinstance PyProof.Rows.boot_isinstance (pa_cons (pv 0) (pa_cons (pe_bltn (v := .ty "list") (by rfl) T.list PyProof.Rows.boot_list rfl) pa_nil)))) (pss_one ps_never) pss_nil)
      (pss_cons (ps_if (pt_val (pe_callB call_isi (by rfl) T.isinstance PyProof.Rows.boot_isinstance (pa_cons (pv 0) (pa_cons (pe_bltn (v := .ty "tuple") (by rfl) T.tuple PyProof.Rows.boot_tuple rfl) pa_nil)))) (pss_one ps_never) pss_nil)
      (pss_cons (ps_if (pt_val (pe_callB call_isi (by rfl) T.isinstance PyProof.Rows.boot_isinstance (pa_cons (pv 0) (pa_cons (pe_bltn (v := .ty "dict") (by rfl) T.dict PyProof.Rows.boot_dict rfl) pa_nil)))) (pss_one ps_never) pss_nil)
      (pss_one (ps_ret (pv 0)))))), ?_⟩
    obtain ⟨t, ty, k1, k2, k3⟩ := hv.kinds (K := K) H
    refine ⟨_, rfl, _, _, _, _, false, rfl, .ty _, ty, k1, false, rfl, iteF ?_⟩
    refine ⟨_, rfl, _, _, _, _, false, rfl, .ty _, ty, k2, false, rfl, iteF ?_⟩
    refine ⟨_, rfl, _, _, _, _, false, rfl, .ty _, ty, k3, false, rfl, iteF ?_⟩
    exact ⟨_, rfl, q⟩
theorem ok_BadText {f C C0 : Addr} {fd : FuncData} (F : Fun K "__init__" "BadText.__init__" s_BadText_init f fd) (T : Tx mg) (B0 : BaseC K mg C0) (EC : ErrC K C f C0) (N : PySem.W.findIn K (.ref C) "place" = some none) (c_kept : Kn P w K mg base "_kept" ["value"] 1 spKept) :
    FnOk P w K mg base CX0 2 f fd ["self", "place"] (spErr C "place") := by
  refine F.ok sc_BadText_init (fun vs H Q E h => ?_) (fun cdv A outer s H vs Q E hr h => ?_)
  · obtain ⟨a, v, rfl, _⟩ := h
    rfl
  · obtain ⟨a, v, rfl, ha, hv, q⟩ := h
    obtain ⟨g_SkipsError, R_SkipsError, V_SkipsError⟩ := B0
    refine ⟨_, (pss_cons (ps_expr (EK.pe_skinit (by rfl) g_SkipsError R_SkipsError V_SkipsError (pa_cons (pv 0) (pa_cons pe_str pa_nil))))
      (pss_one (ps_ost (pv 0) (pe_call c_kept.ok (hr.mono (by decide)) (by rfl) c_kept.g c_kept.kp c_kept.b .nil pass0 (pa_cons (pv 1) pa_nil))))), ?_⟩
    refine ⟨_, rfl, a, C, _, rfl, by show 1 ≤ 1000; decide, EC.o, ha, ?_⟩
    refine ⟨_, rfl, v, rfl, hv, _, rfl, a, C, rfl, EC.o, N, .inl ⟨ha, fun dx hd hne => ?_⟩⟩
    exact q _ (err_new hd hne)
theorem ok_TooMany {f C C0 : Addr} {fd : FuncData} (F : Fun K "__init__" "TooMany.__init__" s_TooMany_init f fd) (T : Tx mg) (B0 : BaseC K mg C0) (EC : ErrC K C f C0) (N1 : PySem.W.findIn K (.ref C) "what" = some none) (N2 : PySem.W.findIn K (.ref C) "many" = some none)
    (N3 : PySem.W.findIn K (.ref C) "most" = some none) (c_kept : Kn P w K mg base "_kept" ["value"] 1 spKept) : FnOk P w K mg base CX0 2 f fd ["self", "what", "many", "most"] (spErr3 C "what" "many" "most") := by
  refine F.ok sc_TooMany_init (fun vs H Q E h => ?_) (fun cdv A outer s H vs Q E hr h => ?_)
  · obtain ⟨a, v, u, z, rfl, _⟩ := h
    rfl
  · obtain ⟨a, v, u, z, rfl, ha, hv, hu, hz, q⟩ := h
    obtain ⟨g_SkipsError, R_SkipsError, V_SkipsError⟩ := B0
    refine ⟨_, (pss_cons (ps_expr (EK.pe_skinit (by rfl) g_SkipsError R_SkipsError V_SkipsError (pa_cons (pv 0) (pa_cons pe_str pa_nil))))
      (pss_cons (ps_ost (pv 0) (pe_call c_kept.ok (hr.mono (by decide)) (by rfl) c_kept.g c_kept.kp c_kept.b .nil pass0 (pa_cons (pv 1) pa_nil)))
      (pss_cons (ps_ost (pv 0) (pe_call c_kept.ok (hr.mono (by decide)) (by rfl) c_kept.g c_kept.kp c_kept.b .nil pass0 (pa_cons (pv 2) pa_nil)))
      (pss_one (ps_ost (pv 0) (pe_call c_kept.ok (hr.mono (by decide)) (by rfl) c_kept.g c_kept.kp c_kept.b .nil pass0 (pa_cons (pv 3) pa_nil))))))), ?_⟩
    refine ⟨_, rfl, a, C, _, rfl, by show 1 ≤ 1000; decide, EC.o, ha, ?_⟩
    refine ⟨_, rfl, v, rfl, hv, _, rfl, a, C, rfl, EC.o, N1, .inl ⟨ha, fun dx hd hne => ?_⟩⟩
    obtain ⟨d1, x1, x2, x3, x4, x5⟩ := err_new (C := C) (f := "what") (v := v) hd hne
    refine ⟨_, rfl, u, rfl, hu, _, rfl, a, C, rfl, EC.o, N2, .inr ⟨d1, _, x1, x2, by show 1 ≤ 900; decide, ?_⟩⟩
    obtain ⟨d2, y1, y2, y3, y4, y5⟩ := err_put (f := "many") (v := u) x1 x2 x3 x4 x5
    refine ⟨_, rfl, z, rfl, hz, _, rfl, a, C, rfl, EC.o, N3, .inr ⟨d2, _, y1, y2, by show 2 ≤ 900; decide, ?_⟩⟩
    exact q _ (err_put y1 y2 y3 y4 y5)
theorem ok_ws {f : Addr} {fd : FuncData} (F : Fun K "wrong_sign" "wrong_sign" s_wrong_sign f fd) (T : Tx mg) : FnOk P w K mg base CX0 1 f fd ["letters", "text"] (spWS K) := by
  refine F.ok sc_wrong_sign (fun vs H Q E h => ?_) (fun cdv A outer s H vs Q E hr h => ?_)
  · obtain ⟨L, _, ⟨T, rfl, _⟩ | ⟨v, t, rfl, _⟩⟩ := h <;> rfl
  · obtain ⟨L, hL, h⟩ := h
    refine ⟨_, (pss_cons (ps_if (pt_not (pt_val (pe_callB call_isi (by rfl) T.isinstance PyProof.Rows.boot_isinstance (pa_cons (pv 1) (pa_cons (pe_bltn (v := .ty "str") (by rfl) T.str PyProof.Rows.boot_str rfl) pa_nil))))) (pss_one (ps_ret pe_int)) pss_nil)
      (pss_cons (ps_for PassesOwn.never rfl (EN.pi_enumS (by rfl) T.enumerate (pa_cons (pv 1) pa_nil)) (pg_tup (by rfl) (pgs_cons (pg_name (i := 2) sc_wrong_sign.nd rfl (Or.inl rfl)) (pgs_cons (pg_name (i := 3) sc_wrong_sign.nd rfl (Or.inl rfl)) pgs_nil))) (pss_one (ps_if (pt_cmpR op_notIn_sign (pv 3) (pv 0) rfl) (pss_one (ps_ret (pv 2))) pss_nil)))
      (pss_one (ps_ret pe_non)))), ?_⟩
    rcases h with ⟨T, rfl, q1, q2⟩ | ⟨v, t, rfl, ty, kk, q⟩
    · refine ⟨_, rfl, _, _, _, _, true, rfl, .ty _, .base (.str _), kit_ss, true, rfl, ?_⟩
      refine ⟨_, rfl, _, rfl, ?_⟩
      refine EN.for_enumS (x := tx T) (fun i σ H' => ∃ y2 y3 : Option V, σ = [some (.str (tx L)), some (.str (tx T)), y2, y3] ∧ Ex H H' ∧ ∀ j d, j < i → T[j]? = some d → d ∈ L) ⟨none, none, rfl, Ex.refl _, fun j d hj => absurd hj (Nat.not_lt_zero _)⟩ (fun i c T' σ H' hic hw hT => ?_) (fun σ H' hw => ?_)
      · obtain ⟨y2, y3, rfl, e, ih⟩ := hw
        have hc := tx_at hic
        refine ⟨T', _, rfl, .inl (.inl upd_same), rfl, _, _, rfl, _, _, rfl, rfl, ?_⟩
        refine ⟨_, rfl, _, rfl, c, _, rfl, rfl, _, rfl, ?_⟩
        rw [show (tx L).cps.toList = L from rfl]
        by_cases hm : c ∈ L
        · rw [decide_eq_true hm]
          refine ⟨_, _, rfl, e.trans (Ex.new hT), fun j d hj hd => ?_⟩
          by_cases hji : j = i
          · rw [hji, hc] at hd
            rw [← Option.some.inj hd]
            exact hm
          · exact ih j d (by omega) hd
        · rw [decide_eq_false hm]
          exact ⟨_, rfl, q2 _ i c (e.trans (Ex.new hT)) hc hm ih⟩
      · obtain ⟨y2, y3, rfl, e, ih⟩ := hw
        refine q1 _ e fun c hc => ?_
        obtain ⟨j, hj, rfl⟩ := List.mem_iff_getElem.mp hc
        exact ih j _ (by rw [tx_size]; exact hj) (List.getElem?_eq_getElem hj)
    · refine ⟨_, rfl, _, _, _, _, false, rfl, .ty _, ty, kk, false, rfl, ?_⟩
      exact q
end
end Law

namespace TR
open PySem PySem.Spec L2 Evl
/-- the place of a letter -/
def ixN : List Nat → Nat → Nat
  | [], _ => 0
  | a :: r, c => if a = c then 0 else ixN r c + 1
theorem ixN_at : ∀ {L : List Nat} {i c : Nat}, L.Nodup → L[i]? = some c → ixN L c = i
  | a :: r, 0, c, _, h => by
    have h2 : a = c := Option.some.inj h
    unfold ixN
    rw [if_pos h2]
  | a :: r, i + 1, c, hn, h => by
    have h2 : r[i]? = some c := h
    have hc := List.mem_of_getElem? h2
    have hne : a ≠ c := fun e => by
      rw [List.nodup_cons] at hn
      exact hn.1 (e ▸ hc)
    unfold ixN
    rw [if_neg hne, ixN_at (List.nodup_cons.mp hn).2 h2]
  | [], _, _, _, h => by cases h
/-! a turn over signs: the reads, the numbers told, the go at the end or none -/
mutual
def Tr.run (L S : List Nat) : Tr → List (Nat × Nat) × List Nat × Option (Nat × Nat)
  | .go s q => ([], [], some (s, q))
  | .tell n t => ((t.run L S).1, n :: (t.run L S).2.1, (t.run L S).2.2)
  | .read p ts => match S[p]? with
    | none => ([], [], none)
    | some c => ((p, c) :: (ts.runAt L S (ixN L c)).1, (ts.runAt L S (ixN L c)).2.1, (ts.runAt L S (ixN L c)).2.2)
def Trs.runAt (L S : List Nat) : Trs → Nat → List (Nat × Nat) × List Nat × Option (Nat × Nat)
  | .nil, _ => ([], [], none)
  | .cons t r, i => match i with
    | 0 => t.run L S
    | j + 1 => r.runAt L S j
end
theorem Trs.runAt_get {L S : List Nat} : ∀ {ts : Trs} {i : Nat} {t : Tr}, ts.list[i]? = some t → ts.runAt L S i = t.run L S
  | .cons t r, 0, u, h => by
    have h2 : t = u := Option.some.inj h
    rw [← h2]
    simp only [Trs.runAt]
  | .cons t r, j + 1, _, h => by
    have h2 := Trs.runAt_get (L := L) (S := S) (ts := r) (i := j) h
    rw [← h2]
    simp only [Trs.runAt]
  | .nil, _, _, h => by cases h
theorem run_go (L S : List Nat) (s q : Nat) : (Tr.go s q).run L S = ([], [], some (s, q)) := by simp only [Tr.run]
theorem run_tell (L S : List Nat) (n : Nat) (t : Tr) : (Tr.tell n t).run L S = ((t.run L S).1, n :: (t.run L S).2.1, (t.run L S).2.2) := by simp only [Tr.run]
theorem run_none {L S : List Nat} {p : Nat} {ts : Trs} (h : S[p]? = none) : (Tr.read p ts).run L S = ([], [], none) := by simp only [Tr.run, h]
theorem run_some {L S : List Nat} {p c i : Nat} {ts : Trs} {t : Tr} (h : S[p]? = some c) (hn : L.Nodup) (hi : L[i]? = some c) (ht : ts.list[i]? = some t) : (Tr.read p ts).run L S = ((p, c) :: (t.run L S).1, (t.run L S).2.1, (t.run L S).2.2) := by
  simp only [Tr.run, h, ixN_at hn hi, Trs.runAt_get ht]
end TR
namespace Law
open PySem PySem.Spec PyProof.Rows L2 Evl TR EK
theorem idx_of {L : List Nat} {c : Nat} (h : c ∈ L) : ∃ i rest, Builtin.Str.occurrences (tx L) (sg c) 0 (tx L).length 1 = i :: rest ∧ L[i]? = some c := by
  have h1 := StrLaws.found_one (tx L) c
  rw [decide_eq_true (show c ∈ (tx L).cps.toList from h)] at h1
  cases ho : Builtin.Str.occurrences (tx L) (sg c) 0 (tx L).length 1 with
  | nil =>
    have ho2 : Builtin.Str.occurrences (tx L) ⟨#[c]⟩ 0 (tx L).length 1 = [] := ho
    rw [ho2] at h1
    cases h1
  | cons i rest =>
    refine ⟨i, rest, rfl, ?_⟩
    have h2 := StrLaws.occ_spec (tx L) (sg c) 0 (tx L).length 1 i (by rw [ho]; exact List.mem_cons_self)
    exact (StrLaws.subAt_one (tx L) c i).mp h2
/-- reads in memory -/
inductive RdA (H : Hp) : List V → List (Nat × Nat) → Prop
  | nil : RdA H [] []
  | cons {a : Addr} {p c : Nat} {us : List V} {rs : List (Nat × Nat)} : H a = some (.tup [.int (p : Nat), .str (sg c)]) → RdA H us rs → RdA H (.ref a :: us) ((p, c) :: rs)
theorem RdA.ex {H H' : Hp} (e : Ex H H') : ∀ {us : List V} {rs : List (Nat × Nat)}, RdA H us rs → RdA H' us rs
  | _, _, .nil => .nil
  | _, _, .cons h r => .cons (e _ _ h) (RdA.ex e r)
theorem RdA.upd {H : Hp} {a : Addr} {o : HO} (hn : ∀ xs, H a ≠ some (.tup xs)) : ∀ {us : List V} {rs : List (Nat × Nat)}, RdA H us rs → RdA (L2.upd H a o) us rs
  | _, _, .nil => .nil
  | _, _, .cons (a := b) h r => .cons (by rw [upd_ne (fun q : b = a => hn _ (by rw [← q]; exact h))]; exact h) (RdA.upd hn r)
theorem RdA.snoc {H : Hp} {a : Addr} {p c : Nat} (h : H a = some (.tup [.int (p : Nat), .str (sg c)])) : ∀ {us : List V} {rs : List (Nat × Nat)}, RdA H us rs → RdA H (us ++ [.ref a]) (rs ++ [(p, c)])
  | _, _, .nil => .cons h .nil
  | _, _, .cons h1 r => .cons h1 (RdA.snoc h r)
theorem RdA.len {H : Hp} : ∀ {us : List V} {rs : List (Nat × Nat)}, RdA H us rs → us.length = rs.length
  | _, _, .nil => rfl
  | _, _, .cons _ r => congrArg Nat.succ (RdA.len r)
/-- the go, or None -/
def GoA (H : Hp) (g : V) : Option (Nat × Nat) → Prop
  | none => g = .non
  | some (s, q) => ∃ a, g = .ref a ∧ H a = some (.tup [.str "go", .int (s : Nat), .int (q : Nat)])
abbrev nv (ns : List Nat) : List V := ns.map fun n => V.int (n : Nat)
theorem nv_snoc (ns : List Nat) (n : Nat) : nv ns ++ [.int (n : Nat)] = nv (ns ++ [n]) := by
  unfold nv
  rw [List.map_append]
  rfl
theorem lst_no {H : Hp} {a : Addr} {xs : List V} (h : H a = some (.lst xs)) (ys : List V) : H a ≠ some (.tup ys) := fun z => by
  rw [h] at z
  cases z
theorem sz_m {n : Nat} (h : n ≤ 100000) : n ≤ sizeLine := Nat.le_trans h (by decide)
theorem sz_k {n : Nat} (h : n < 100000) : n < sizeLine := Nat.lt_of_lt_of_le h (by decide)
theorem tx_m {l : List Nat} (h : l.length ≤ 100000) : (tx l).length ≤ sizeLine := by
  rw [tx_len]
  exact sz_m h
theorem iteN {c A B : Prop} [Decidable c] (hc : ¬ c) (h : A) : if (!decide c) = true then A else B := by
  rw [decide_eq_false hc]
  exact (if_pos rfl).mpr h
theorem iteNn {c A B : Prop} [Decidable c] (hc : c) (h : B) : if (!decide c) = true then A else B := by
  rw [decide_eq_true hc]
  exact (if_neg (by decide)).mpr h
def spFol : Sp := fun vs H Q _ => ∃ (t : Tr) (v : V) (L S : List Nat) (wd n : Nat), vs = [v, .str (tx L), .str (tx S)] ∧ TA true H v t ∧ t.ok L.length wd n ∧ L.Nodup ∧ (∀ c ∈ S, c ∈ L) ∧ L.length ≤ 10 ∧ S.length ≤ 100 ∧ t.size ≤ 10000 ∧
  ∀ H' r r1 r2 g us, Ex H H' → H' r = some (.tup [.ref r1, .ref r2, g]) → H' r1 = some (.tup us) → RdA H' us (t.run L S).1 → H' r2 = some (.tup (nv (t.run L S).2.1)) → GoA H' g (t.run L S).2.2 → Q (.ref r) H'
section
variable {P : Program} {w : World} {K : PySem.W.Frag} {mg : Str → Option Value} {base : Heap}
theorem ok_fol {f : Addr} {fd : FuncData} (F : Fun K "followed" "followed" s_followed f fd) (T : Tx mg) : FnOk P w K mg base CX0 1 f fd ["tree", "letters", "signs"] spFol := by
  refine F.ok sc_followed (fun vs H Q E h => ?_) (fun cdv A outer s H vs Q E hr h => ?_)
  · obtain ⟨t, v, L, S, wd, n, rfl, _⟩ := h
    rfl
  · obtain ⟨t, v, L, S, wd, n, rfl, hT, hok, hnd, hS, hL, hS9, hsz, q⟩ := h
    refine ⟨_, (pss_cons (ps_set (i := 3) sc_followed.nd rfl (Or.inl rfl) (pe_lst pa_nil))
      (pss_cons (ps_set (i := 4) sc_followed.nd rfl (Or.inl rfl) (pe_lst pa_nil))
      (pss_cons (ps_while PassesOwn.never (pt_cmpR op_ne (pe_ix ix_seq (pv 0) pe_int (fun _ _ => rfl)) pe_str (nomark _)) (pss_cons (ps_asg (pv 0) (TR.pg_seq (by rfl) (pgs_cons (pg_name (i := 5) sc_followed.nd rfl (Or.inl rfl)) (pgs_cons (pg_name (i := 6) sc_followed.nd rfl (Or.inl rfl)) (pgs_cons (pg_name (i := 7) sc_followed.nd rfl (Or.inl rfl)) pgs_nil)))))
      (pss_one (ps_if (pt_cmpR op_eq (pv 5) pe_str (nomark _)) (pss_cons (ps_expr (pe_bm PySem.F.plainAttrs_list PySem.F.slot_list_append PySem.F.type_list_append mt_append (pv 4) (pa_cons (pv 6) pa_nil)))
      (pss_one (ps_set (i := 0) sc_followed.nd rfl (Or.inl rfl) (pv 7)))) (pss_one (ps_if (pt_cmpR op_lt (pv 6) (pe_callB call_len_str (by rfl) T.len PySem.boot_len (pa_cons (pv 2) pa_nil)) (nomark _)) (pss_cons (ps_expr (pe_bm PySem.F.plainAttrs_list PySem.F.slot_list_append PySem.F.type_list_append mt_append (pv 3) (pa_cons (pe_tup (pa_cons (pv 6) (pa_cons (pe_ix ix_str (pv 2) (pv 6) (fun _ _ => rfl)) pa_nil))) pa_nil)))
      (pss_one (ps_set (i := 0) sc_followed.nd rfl (Or.inl rfl) (pe_ix ix_seq (pv 7) (pe_bm PySem.F.plainAttrs_str PySem.F.slot_str_index PySem.F.type_str_index mt_sindex (pv 1) (pa_cons (pe_ix ix_str (pv 2) (pv 6) (fun _ _ => rfl)) pa_nil)) (fun _ _ => rfl))))) (pss_one (ps_ret (pe_tup (pa_cons (pe_callTy call_tuple_of (by rfl) T.tuple PyProof.Rows.boot_tuple (pa_cons (pv 3) pa_nil)) (pa_cons (pe_callTy call_tuple_of (by rfl) T.tuple PyProof.Rows.boot_tuple (pa_cons (pv 4) pa_nil)) (pa_cons pe_non pa_nil))))))))))))
      (pss_one (ps_ret (pe_tup (pa_cons (pe_callTy call_tuple_of (by rfl) T.tuple PyProof.Rows.boot_tuple (pa_cons (pv 3) pa_nil)) (pa_cons (pe_callTy call_tuple_of (by rfl) T.tuple PyProof.Rows.boot_tuple (pa_cons (pv 4) pa_nil)) (pa_cons (pv 0) pa_nil))))))))), ?_⟩
    refine ⟨Nat.zero_le _, fun l1 hl1 => ⟨Nat.zero_le _, fun l2 hl2 => ?_⟩⟩
    have hl20 : H l2 = none := fresh_back (Ex.new hl1) hl2
    have n12 : l1 ≠ l2 := fun z => by
      rw [← z, upd_same] at hl2
      cases hl2
    have e0 := (Ex.new (o := .lst []) hl1).trans (Ex.new (o := .lst []) hl2)
    refine ⟨fun m σ H' => ∃ (u : Tr) (x : V) (rs : List (Nat × Nat)) (ns : List Nat) (us : List V) (y5 y6 y7 : Option V), σ = [some x, some (.str (tx L)), some (.str (tx S)), some (.ref l1), some (.ref l2), y5, y6, y7] ∧
        Ex H H' ∧ H' l1 = some (.lst us) ∧ RdA H' us rs ∧ H' l2 = some (.lst (nv ns)) ∧ TA true H x u ∧ u.ok L.length wd n ∧ rs ++ (u.run L S).1 = (t.run L S).1 ∧ ns ++ (u.run L S).2.1 = (t.run L S).2.1 ∧ (u.run L S).2.2 = (t.run L S).2.2 ∧
        m = u.size ∧ rs.length + ns.length + u.size ≤ 10000,
      ⟨t.size, t, v, [], [], [], none, none, none, rfl, e0, (by rw [upd_ne n12, upd_same]), .nil, upd_same, hT, hok, rfl, rfl, rfl, rfl, by show 0 + 0 + t.size ≤ 10000; omega⟩, fun m σ H' hw => ?_⟩
    obtain ⟨u, x, rs, ns, us, y5, y6, y7, rfl, e, h1, hR, h2, hX, uok, q1, q2, q3, hm, hb⟩ := hw
    have lus := hR.len
    -- the end: two new tuples and the triple
    have fin : ∀ (g : V) (H1 : Hp), Ex H' H1 → (∀ H2, Ex H1 H2 → GoA H2 g (t.run L S).2.2) → rs = (t.run L S).1 → ns = (t.run L S).2.1 → ∀ t1, H1 t1 = none → ∀ t2, (L2.upd H1 t1 (.tup us)) t2 = none → ∀ r, (L2.upd (L2.upd H1 t1 (.tup us)) t2 (.tup (nv ns))) r = none →
        Q (.ref r) (L2.upd (L2.upd (L2.upd H1 t1 (.tup us)) t2 (.tup (nv ns))) r (.tup [.ref t1, .ref t2, g])) := fun g H1 e1 hg er en t1 ht1 t2 ht2 r hr2 => by
      have f1 := Ex.new (o := .tup us) ht1
      have f2 := Ex.new (o := .tup (nv ns)) ht2
      have f3 := Ex.new (o := .tup [.ref t1, .ref t2, g]) hr2
      refine q _ r t1 t2 g us (e.trans (e1.trans (f1.trans (f2.trans f3)))) upd_same (f3 _ _ (f2 _ _ upd_same)) ?_ ?_ (hg _ (f1.trans (f2.trans f3)))
      · rw [← er]
        exact hR.ex (e1.trans (f1.trans (f2.trans f3)))
      · rw [← en]
        exact f3 _ _ upd_same
    cases hX with
    | @go a s' q' h =>
      rw [run_go] at q1 q2 q3
      rw [List.append_nil] at q1 q2
      refine ⟨_, rfl, ix_at (e _ _ h) (atI_nat (j := 0) rfl) ⟨rfl, _, rfl, iteNn rfl ?_⟩⟩
      refine ⟨_, rfl, l1, _, rfl, .inl ⟨sq_of h1, fun t1 ht1 => ?_⟩⟩
      have f1 := Ex.new (o := .tup us) ht1
      refine ⟨_, rfl, l2, _, rfl, .inl ⟨sq_of (f1 _ _ h2), fun t2 ht2 => ⟨_, rfl, by show 3 ≤ sizeLine; decide, fun r hr2 => ?_⟩⟩⟩
      exact fin _ _ (Ex.refl _) (fun H2 e2 => by rw [← q3]; exact ⟨a, rfl, e2 _ _ (e _ _ h)⟩) q1 q2 t1 ht1 t2 ht2 r hr2
    | @tell a n' x' u' h r0 =>
      rw [run_tell] at q1 q2 q3
      refine ⟨_, rfl, ix_at (e _ _ h) (atI_nat (j := 0) rfl) ⟨rfl, _, rfl, iteN tell_ne_go ?_⟩⟩
      refine ⟨fun σ2 H2 => ∃ m', m' < m ∧ ∃ (u : Tr) (x : V) (rs : List (Nat × Nat)) (ns : List Nat) (us : List V) (y5 y6 y7 : Option V), σ2 = [some x, some (.str (tx L)), some (.str (tx S)), some (.ref l1), some (.ref l2), y5, y6, y7] ∧
        Ex H H2 ∧ H2 l1 = some (.lst us) ∧ RdA H2 us rs ∧ H2 l2 = some (.lst (nv ns)) ∧ TA true H x u ∧ u.ok L.length wd n ∧ rs ++ (u.run L S).1 = (t.run L S).1 ∧ ns ++ (u.run L S).2.1 = (t.run L S).2.1 ∧ (u.run L S).2.2 = (t.run L S).2.2 ∧
        m' = u.size ∧ rs.length + ns.length + u.size ≤ 10000, fun σ2 H2 h => h, ?_⟩
      have hsz2 : u'.size + 1 = m := hm.symm
      refine ⟨_, rfl, gSeq_of (e _ _ h) rfl ⟨_, _, rfl, _, _, rfl, _, _, rfl, rfl, ?_⟩⟩
      refine ⟨_, rfl, rfl, _, rfl, iteD rfl ?_⟩
      refine ⟨_, rfl, .inl ⟨rfl, _, sq_of h2⟩, _, rfl, l2, _, _, rfl, rfl, h2, ?_, ?_⟩
      · rw [List.length_map]
        exact sz_k (by omega)
      refine ⟨_, rfl, u'.size, by omega, u', x', rs, ns ++ [n'], us, _, _, _, rfl, e.mut hl20, ?_, hR.upd (lst_no h2), ?_, r0, uok.2, q1, ?_, q3, rfl, ?_⟩
      · rw [upd_ne n12]
        exact h1
      · rw [upd_same, nv_snoc]
      · rw [List.append_assoc]
        exact q2
      · rw [List.length_append]
        show rs.length + (ns.length + 1) + u'.size ≤ 10000
        omega
    | @read a b p us' ts h hb' r0 =>
      have KK := r0.kids
      have hts : ts.list.length = L.length := uok.2.1
      refine ⟨_, rfl, ix_at (e _ _ h) (atI_nat (j := 0) rfl) ⟨rfl, _, rfl, iteN read_ne_go ?_⟩⟩
      refine ⟨fun σ2 H2 => ∃ m', m' < m ∧ ∃ (u : Tr) (x : V) (rs : List (Nat × Nat)) (ns : List Nat) (us : List V) (y5 y6 y7 : Option V), σ2 = [some x, some (.str (tx L)), some (.str (tx S)), some (.ref l1), some (.ref l2), y5, y6, y7] ∧
        Ex H H2 ∧ H2 l1 = some (.lst us) ∧ RdA H2 us rs ∧ H2 l2 = some (.lst (nv ns)) ∧ TA true H x u ∧ u.ok L.length wd n ∧ rs ++ (u.run L S).1 = (t.run L S).1 ∧ ns ++ (u.run L S).2.1 = (t.run L S).2.1 ∧ (u.run L S).2.2 = (t.run L S).2.2 ∧
        m' = u.size ∧ rs.length + ns.length + u.size ≤ 10000, fun σ2 H2 h => h, ?_⟩
      have hsz2 : ts.size + 1 = m := hm.symm
      refine ⟨_, rfl, gSeq_of (e _ _ h) rfl ⟨_, _, rfl, _, _, rfl, _, _, rfl, rfl, ?_⟩⟩
      refine ⟨_, rfl, rfl, _, rfl, iteDn read_ne_tell ?_⟩
      refine ⟨_, rfl, _, rfl, _, rfl, tx_m (by omega), _, _, rfl, rfl, _, rfl, ite2 (fun hlt => ?_) (fun hlt => ?_)⟩
      · have hp : p < S.length := by
          have := of_decide_eq_true hlt
          rw [tx_len] at this
          omega
        have hc : S[p]? = some S[p] := List.getElem?_eq_getElem hp
        generalize S[p] = c at hc
        have hcL := hS c (List.mem_of_getElem? hc)
        have hat : atI (tx S).cps.toList ((p : Nat) : Int) = some c := atI_nat hc
        obtain ⟨i, rest, ho, hi⟩ := idx_of hcL
        have hi2 : i < us'.length := by
          have := (List.getElem?_eq_some_iff.mp hi).1
          rw [KK.len, hts]
          exact this
        obtain ⟨kt, hkt, hka⟩ := KK.get (List.getElem?_eq_getElem hi2)
        have mem := List.mem_of_getElem? hkt
        rw [run_some hc hnd hi hkt] at q1 q2 q3
        refine ⟨_, rfl, .inl ⟨rfl, _, sq_of h1⟩, _, rfl, _, rfl, _, rfl, tx S, _, c, rfl, rfl, tx_m (by omega), hat, by show 2 ≤ sizeLine; decide, fun r hr2 => ?_⟩
        have f1 := Ex.new (o := .tup [.int (p : Nat), .str (sg c)]) hr2
        refine ⟨l1, _, _, rfl, rfl, f1 _ _ h1, sz_k (by omega), ?_⟩
        have hr3 : (L2.upd H' r (.tup [.int (p : Nat), .str (sg c)])) r = some (.tup [.int (p : Nat), .str (sg c)]) := upd_same
        have h13 := f1 _ _ h1
        have h23 := f1 _ _ h2
        have e3 := e.trans f1
        have R3 := (hR.ex f1).snoc hr3
        have hsk := size_mem mem
        rw [Trs.total] at hsk
        refine ⟨_, rfl, _, rfl, rfl, _, rfl, _, rfl, tx S, _, c, rfl, rfl, tx_m (by omega), hat, tx L, sg c, i, rest, rfl, rfl, ho, ix_at ((e3.mut hl1) _ _ hb') (atI_nat (List.getElem?_eq_getElem hi2)) ?_⟩
        refine ⟨kt.size, by omega, kt, _, rs ++ [(p, c)], ns, us ++ [V.ref r], _, _, _, rfl, e3.mut hl1, upd_same, R3.upd (lst_no h13), ?_, hka, Trs.ok_mem uok.2.2 kt mem, ?_, q2, q3, rfl, ?_⟩
        · rw [upd_ne n12.symm]
          exact h23
        · rw [List.append_assoc]
          exact q1
        · rw [List.length_append]
          show rs.length + 1 + ns.length + kt.size ≤ 10000
          have hb2 : rs.length + ns.length + (ts.size + 1) ≤ 10000 := hb
          omega
      · have hp : S[p]? = none := by
          rw [List.getElem?_eq_none_iff]
          have : ¬ _ := fun z => hlt (decide_eq_true z)
          rw [tx_len] at this
          omega
        rw [run_none hp] at q1 q2 q3
        rw [List.append_nil] at q1 q2
        refine ⟨_, rfl, l1, _, rfl, .inl ⟨sq_of h1, fun t1 ht1 => ?_⟩⟩
        have f1 := Ex.new (o := .tup us) ht1
        refine ⟨_, rfl, l2, _, rfl, .inl ⟨sq_of (f1 _ _ h2), fun t2 ht2 => ⟨by show 3 ≤ sizeLine; decide, fun r hr2 => ?_⟩⟩⟩
        exact fin _ _ (Ex.refl _) (fun H2 e2 => by rw [← q3]; exact rfl) q1 q2 t1 ht1 t2 ht2 r hr2
end
end Law

namespace TR
open PySem PySem.Spec L2 Evl
abbrev Win := Nat × Nat × List (Nat × Nat)
/-- a search: the windows, the told pairs -/
def search (w : Nat) (ts : List Tr) (L X : List Nat) : Nat → Nat → Nat → List Win × List (Nat × Nat)
  | 0, _, _ => ([], [])
  | f + 1, p, q => if p + w ≤ X.length then
      match ts[q]? with
      | none => ([], [])
      | some t => match (t.run L ((X.drop p).take (w + 1))).2.2 with
        | none => ([(p, q, (t.run L ((X.drop p).take (w + 1))).1)], (t.run L ((X.drop p).take (w + 1))).2.1.map fun n => (p, n))
        | some (s, q') => ((p, q, (t.run L ((X.drop p).take (w + 1))).1) :: (search w ts L X f (p + s) q').1, ((t.run L ((X.drop p).take (w + 1))).2.1.map fun n => (p, n)) ++ (search w ts L X f (p + s) q').2)
    else ([], [])
section
variable {w : Nat} {ts : List Tr} {L X : List Nat} {f p q : Nat} {t : Tr}
theorem search_end (h : ¬ p + w ≤ X.length) : search w ts L X f p q = ([], []) := by
  cases f with
  | zero => rfl
  | succ f => unfold search; rw [if_neg h]
theorem search_cut (h : p + w ≤ X.length) (ht : ts[q]? = some t) (hr : (t.run L ((X.drop p).take (w + 1))).2.2 = none) :
    search w ts L X (f + 1) p q = ([(p, q, (t.run L ((X.drop p).take (w + 1))).1)], (t.run L ((X.drop p).take (w + 1))).2.1.map fun n => (p, n)) := by
  rw [search, if_pos h, ht]
  simp only [hr]
theorem search_go {s q' : Nat} (h : p + w ≤ X.length) (ht : ts[q]? = some t) (hr : (t.run L ((X.drop p).take (w + 1))).2.2 = some (s, q')) :
    search w ts L X (f + 1) p q = ((p, q, (t.run L ((X.drop p).take (w + 1))).1) :: (search w ts L X f (p + s) q').1, ((t.run L ((X.drop p).take (w + 1))).2.1.map fun n => (p, n)) ++ (search w ts L X f (p + s) q').2) := by
  rw [search, if_pos h, ht]
  simp only [hr]
end
/-! the go of a right tree -/
mutual
theorem Tr.run_ok {L S : List Nat} {l w n : Nat} : ∀ {t : Tr} {s q : Nat}, t.ok l w n → (t.run L S).2.2 = some (s, q) → 1 ≤ s ∧ s ≤ w + 1 ∧ q < n
  | .go s' q', s, q, h, e => by
    rw [run_go] at e
    have e2 : (s', q') = (s, q) := Option.some.inj e
    cases e2
    exact h
  | .tell k t, s, q, h, e => by
    rw [run_tell] at e
    exact Tr.run_ok h.2 e
  | .read p ts, s, q, h, e => by
    cases hp : S[p]? with
    | none =>
      rw [run_none hp] at e
      cases e
    | some c =>
      simp only [Tr.run, hp] at e
      exact Trs.run_ok h.2.2 e
theorem Trs.run_ok {L S : List Nat} {l w n : Nat} : ∀ {ts : Trs} {i s q : Nat}, ts.ok l w n → (ts.runAt L S i).2.2 = some (s, q) → 1 ≤ s ∧ s ≤ w + 1 ∧ q < n
  | .nil, i, s, q, _, e => by
    simp only [Trs.runAt] at e
    cases e
  | .cons t r, 0, s, q, h, e => by
    simp only [Trs.runAt] at e
    exact Tr.run_ok h.1 e
  | .cons t r, j + 1, s, q, h, e => by
    simp only [Trs.runAt] at e
    exact Trs.run_ok h.2 e
end
mutual
theorem Tr.run_len {L S : List Nat} : ∀ (t : Tr), (t.run L S).1.length + (t.run L S).2.1.length ≤ t.size
  | .go s q => by
    rw [run_go]
    exact Nat.zero_le _
  | .tell k t => by
    have := Tr.run_len (L := L) (S := S) t
    rw [run_tell]
    show (t.run L S).1.length + ((t.run L S).2.1.length + 1) ≤ t.size + 1
    omega
  | .read p ts => by
    show _ ≤ ts.size + 1
    cases hp : S[p]? with
    | none =>
      rw [run_none hp]
      exact Nat.zero_le _
    | some c =>
      have := Trs.run_len (L := L) (S := S) ts (ixN L c)
      simp only [Tr.run, hp, List.length_cons]
      omega
theorem Trs.run_len {L S : List Nat} : ∀ (ts : Trs) (i : Nat), (ts.runAt L S i).1.length + (ts.runAt L S i).2.1.length ≤ ts.size
  | .nil, i => by
    simp only [Trs.runAt]
    exact Nat.zero_le _
  | .cons t r, 0 => by
    have := Tr.run_len (L := L) (S := S) t
    simp only [Trs.runAt]
    show _ ≤ t.size + r.size
    omega
  | .cons t r, j + 1 => by
    have := Trs.run_len (L := L) (S := S) r j
    simp only [Trs.runAt]
    show _ ≤ t.size + r.size
    omega
end
end TR
namespace Law
open PySem PySem.Spec PyProof.Rows L2 Evl TR EK
theorem sFs_l (l w s n : V) : (sFs l w s n).lookup ("letters" : Str) = some l := rfl
theorem sFs_w (l w s n : V) : (sFs l w s n).lookup ("width" : Str) = some w := rfl
theorem sFs_s (l w s n : V) : (sFs l w s n).lookup ("states" : Str) = some s := rfl
theorem sFs_n (l w s n : V) : (sFs l w s n).lookup ("nodes" : Str) = some n := rfl
theorem SObj.up {C o : Addr} {H H' : Hp} {L : List Nat} {w : Nat} {ts : List Tr} (S : SObj C H o L w ts) (e : Ex H H') : SObj C H' o L w ts := by
  obtain ⟨dx, st, us, h1, h2, h3⟩ := S.ex
  exact ⟨dx, st, us, e _ _ h1, e _ _ h2, h3.ex e⟩
/-- windows in memory -/
inductive WnA (H : Hp) : List V → List Win → Prop
  | nil : WnA H [] []
  | cons {a b : Addr} {p q : Nat} {us vs : List V} {rs : List (Nat × Nat)} {ws : List Win} : H a = some (.tup [.int (p : Nat), .int (q : Nat), .ref b]) → H b = some (.tup us) → RdA H us rs → WnA H vs ws → WnA H (.ref a :: vs) ((p, q, rs) :: ws)
theorem WnA.ex {H H' : Hp} (e : Ex H H') : ∀ {vs : List V} {ws : List Win}, WnA H vs ws → WnA H' vs ws
  | _, _, .nil => .nil
  | _, _, .cons h1 h2 r s => .cons (e _ _ h1) (e _ _ h2) (r.ex e) (WnA.ex e s)
theorem WnA.upd {H : Hp} {a : Addr} {o : HO} (hn : ∀ xs, H a ≠ some (.tup xs)) : ∀ {vs : List V} {ws : List Win}, WnA H vs ws → WnA (L2.upd H a o) vs ws
  | _, _, .nil => .nil
  | _, _, .cons (a := x) (b := y) h1 h2 r s => .cons (by rw [upd_ne (fun q : x = a => hn _ (by rw [← q]; exact h1))]; exact h1) (by rw [upd_ne (fun q : y = a => hn _ (by rw [← q]; exact h2))]; exact h2) (r.upd hn) (WnA.upd hn s)
theorem WnA.snoc {H : Hp} {a b : Addr} {p q : Nat} {us : List V} {rs : List (Nat × Nat)} (h1 : H a = some (.tup [.int (p : Nat), .int (q : Nat), .ref b])) (h2 : H b = some (.tup us)) (h3 : RdA H us rs) : ∀ {vs : List V} {ws : List Win}, WnA H vs ws → WnA H (vs ++ [V.ref a]) (ws ++ [(p, q, rs)])
  | _, _, .nil => .cons h1 h2 h3 .nil
  | _, _, .cons k1 k2 k3 s => .cons k1 k2 k3 (WnA.snoc h1 h2 h3 s)
theorem WnA.len {H : Hp} : ∀ {vs : List V} {ws : List Win}, WnA H vs ws → vs.length = ws.length
  | _, _, .nil => rfl
  | _, _, .cons _ _ _ s => congrArg Nat.succ (WnA.len s)
theorem WnA.get {H : Hp} : ∀ {vs : List V} {ws : List Win} {i : Nat} {v : V}, WnA H vs ws → vs[i]? = some v → ∃ a b p q us rs, v = .ref a ∧ ws[i]? = some (p, q, rs) ∧ H a = some (.tup [.int (p : Nat), .int (q : Nat), .ref b]) ∧ H b = some (.tup us) ∧ RdA H us rs
  | _, _, 0, _, .cons (a := a) (b := b) (p := p) (q := q) (us := us) (rs := rs) h1 h2 h3 _, h => ⟨a, b, p, q, us, rs, (Option.some.inj h).symm, rfl, h1, h2, h3⟩
  | _, _, i + 1, _, .cons _ _ _ s, h => WnA.get (i := i) s h
  | _, _, _, _, .nil, h => by cases h
/-- pairs of ints in memory -/
inductive PrA (H : Hp) : List V → List (Nat × Nat) → Prop
  | nil : PrA H [] []
  | cons {a : Addr} {p n : Nat} {us : List V} {ps : List (Nat × Nat)} : H a = some (.tup [.int (p : Nat), .int (n : Nat)]) → PrA H us ps → PrA H (.ref a :: us) ((p, n) :: ps)
theorem PrA.ex {H H' : Hp} (e : Ex H H') : ∀ {us : List V} {ps : List (Nat × Nat)}, PrA H us ps → PrA H' us ps
  | _, _, .nil => .nil
  | _, _, .cons h r => .cons (e _ _ h) (PrA.ex e r)
theorem PrA.upd {H : Hp} {a : Addr} {o : HO} (hn : ∀ xs, H a ≠ some (.tup xs)) : ∀ {us : List V} {ps : List (Nat × Nat)}, PrA H us ps → PrA (L2.upd H a o) us ps
  | _, _, .nil => .nil
  | _, _, .cons (a := b) h r => .cons (by rw [upd_ne (fun q : b = a => hn _ (by rw [← q]; exact h))]; exact h) (PrA.upd hn r)
theorem PrA.app {H : Hp} : ∀ {us vs : List V} {ps qs : List (Nat × Nat)}, PrA H us ps → PrA H vs qs → PrA H (us ++ vs) (ps ++ qs)
  | _, _, _, _, .nil, h => h
  | _, _, _, _, .cons h1 r, h => .cons h1 (PrA.app r h)
theorem PrA.len {H : Hp} : ∀ {us : List V} {ps : List (Nat × Nat)}, PrA H us ps → us.length = ps.length
  | _, _, .nil => rfl
  | _, _, .cons _ r => congrArg Nat.succ (PrA.len r)
def tFs (a b c : V) : List (Str × V) := [("windows", a), ("told", b), ("cost", c)]
theorem tFs_w (a b c : V) : (tFs a b c).lookup ("windows" : Str) = some a := rfl
theorem tFs_t (a b c : V) : (tFs a b c).lookup ("told" : Str) = some b := rfl
theorem tFs_c (a b c : V) : (tFs a b c).lookup ("cost" : Str) = some c := rfl
theorem putF3 (a b c : V) : putF "cost" c (putF "told" b (putF "windows" a [])) = tFs a b c := by
  have a1 : ¬ (("windows" : Str) = "told") := by decide +kernel
  have a2 : ¬ (("windows" : Str) = "cost") := by decide +kernel
  have a3 : ¬ (("told" : Str) = "cost") := by decide +kernel
  simp [putF, tFs, a1, a2, a3]
def costN (ws : List Win) : Nat := (ws.map fun w => w.2.2.length).sum
/-- a trace -/
structure TrO (C : Addr) (H : Hp) (o : Addr) (ws : List Win) (td : List (Nat × Nat)) : Prop where
  ex : ∃ (dx a b : Addr) (us vs : List V), H o = some (.ins C dx (tFs (.ref a) (.ref b) (.int (costN ws : Nat)))) ∧ H a = some (.tup us) ∧ WnA H us ws ∧ H b = some (.tup vs) ∧ PrA H vs td
theorem TrO.up {C o : Addr} {H H' : Hp} {ws : List Win} {td : List (Nat × Nat)} (S : TrO C H o ws td) (e : Ex H H') : TrO C H' o ws td := by
  obtain ⟨dx, a, b, us, vs, h1, h2, h3, h4, h5⟩ := S.ex
  exact ⟨dx, a, b, us, vs, e _ _ h1, e _ _ h2, h3.ex e, e _ _ h4, h5.ex e⟩
structure TC (K : PySem.W.Frag) (C : Addr) : Prop where
  cl : Cls K C
  nw : NoAttr K C "windows"
  nt : NoAttr K C "told"
  nc : NoAttr K C "cost"
def spTInit (C : Addr) : Sp := fun vs H Q _ => ∃ (o dx a b : Addr) (us ts : List V) (ws : List Win) (td : List (Nat × Nat)) (H0 : Hp), vs = [.ref o, .ref a, .ref b] ∧ Ex H0 H ∧ H0 o = none ∧ H o = some (.ins C dx []) ∧ H0 a = some (.tup us) ∧ WnA H0 us ws ∧ H0 b = some (.tup ts) ∧ PrA H0 ts td ∧ ws.length ≤ 10000 ∧
  ∀ H', Ex H0 H' → TrO C H' o ws td → Q .non H'
theorem sum_wins : ∀ ws : List Win, (ws.map fun w => (w.2.2.length : Int)).sum = ((costN ws : Nat) : Int)
  | [] => rfl
  | w :: r => by
    rw [List.map_cons, List.sum_cons, sum_wins r]
    show _ = (((w.2.2.length + costN r : Nat)) : Int)
    omega
section
variable {P : Program} {w : World} {K : PySem.W.Frag} {mg : Str → Option Value} {base : Heap}
theorem ok_tinit {f C : Addr} {fd : FuncData} (F : Fun K "__init__" "Trace.__init__" s_Trace_init f fd) (T : Tx mg) (S : TC K C) : FnOk P w K mg base CX0 1 f fd ["self", "windows", "told"] (spTInit C) := by
  refine F.ok sc_Trace_init (fun vs H Q E h => ?_) (fun cdv A outer s H vs Q E hr h => ?_)
  · obtain ⟨o, dx, a, b, us, ts, ws, td, H0, rfl, _⟩ := h
    rfl
  · obtain ⟨o, dx, a, b, us, ts, ws, td, H0, rfl, e0, ho0, ho, ha, hW, hb, hP, hlen, q⟩ := h
    have lus := hW.len
    refine ⟨_, (pss_cons (ps_fld (pv 0) (pv 1) rfl)
      (pss_cons (ps_fld (pv 0) (pv 2) rfl)
      (pss_one (ps_fld (pv 0) (pe_callB (cr_sum rfl) (by rfl) T.sum (by decide +kernel) (pa_cons (pe_lc (own := [("_", 3), ("_", 3), ("reads", 4)]) (g := gTup K 3 (gCons (gName 3) (gCons (gName 3) (gCons (gName 4) gNil)))) (tt := tYes) rfl sc_Trace_init.nd (pi_tup (pv 1)) (blkOk_by (N := N_Trace_init) (sc := defScope s_Trace_init) (by decide +kernel)) (fun _ _ _ _ _ => (pg_tup (by rfl) (pgs_cons (pg_name (i := 3) sc_Trace_init.nd rfl (Or.inl rfl)) (pgs_cons (pg_name (i := 3) sc_Trace_init.nd rfl (Or.inl rfl)) (pgs_cons (pg_name (i := 4) sc_Trace_init.nd rfl (Or.inl rfl)) pgs_nil))))) (fun _ _ _ _ _ => pts_nil) (fun _ _ _ _ _ => (pe_callB (show CallR _ _ (TR.rLenQ K) from call_len_seq) (by rfl) T.len PySem.boot_len (pa_cons (pv 4) pa_nil)))) pa_nil)) rfl)))), ?_⟩
    refine ⟨_, rfl, _, rfl, o, C, dx, _, rfl, ho, S.cl, S.nw, by show 0 < 1000; decide, ?_⟩
    have e1 := e0.mut (o := .ins C dx (putF "windows" (.ref a) [])) ho0
    have h1 : (L2.upd H o (.ins C dx (putF "windows" (.ref a) []))) o = _ := upd_same
    generalize (L2.upd H o (.ins C dx (putF "windows" (.ref a) []))) = H1 at e1 h1 ⊢
    refine ⟨_, rfl, _, rfl, o, C, dx, _, rfl, h1, S.cl, S.nt, by show 1 < 1000; decide, ?_⟩
    generalize hf2 : putF "told" (.ref b) (putF "windows" (.ref a) []) = f2
    have lf2 : f2.length < 1000 := by
      rw [← hf2]
      show 2 < 1000
      decide
    have e2 := e1.mut (o := .ins C dx f2) ho0
    have h2 : (L2.upd H1 o (.ins C dx f2)) o = _ := upd_same
    generalize (L2.upd H1 o (.ins C dx f2)) = H2 at e2 h2 ⊢
    refine ⟨_, rfl, a, rfl, ⟨us, st_of (e2 _ _ ha)⟩, fun D hD => ?_⟩
    refine lc_tup (fun i H' => Ex H2 H' ∧ H' D = some (.lst (((ws.take i).map fun w => (w.2.2.length : Int)).map V.int))) ⟨Ex.new hD, upd_same⟩ (fun i H' _ p => st_of (p.1 _ _ (e2 _ _ ha))) (fun i x H' hx p => ?_) (fun H' p => ?_)
    · obtain ⟨e3, hz⟩ := p
      obtain ⟨x', b', p', q', us', rs', rfl, hw, k1, k2, k3⟩ := hW.get hx
      have e4 := e2.trans e3
      refine ⟨x', _, rfl, st_of (e4 _ _ k1), rfl, _, _, rfl, _, _, rfl, _, _, rfl, rfl, rfl, ?_⟩
      refine ⟨_, rfl, b', us', rfl, .inr (st_of (e4 _ _ k2)), _, hz, ?_, e3.mut hD, ?_⟩
      · have hi := (List.getElem?_eq_some_iff.mp hw).1
        rw [List.length_map, List.length_map, List.length_take]
        exact sz_k (by omega)
      · rw [upd_same, take_next' hw, List.map_append, List.map_append, k3.len]
        rfl
    · obtain ⟨e3, hz⟩ := p
      rw [lus, List.take_length] at hz
      refine ⟨D, _, rfl, sq_of hz, ?_⟩
      rw [sum_wins]
      refine ⟨_, rfl, o, C, dx, _, rfl, e3 _ _ h2, S.cl, S.nc, lf2, ?_⟩
      have e4 := (e2.trans e3).mut (o := .ins C dx (putF "cost" (.int (costN ws : Nat)) f2)) ho0
      refine q _ e4 ⟨dx, a, b, us, ts, ?_, e4 _ _ ha, hW.ex e4, e4 _ _ hb, hP.ex e4⟩
      rw [upd_same, ← hf2, putF3]
end
end Law

namespace Law
open PySem PySem.Spec PyProof.Rows L2 Evl TR EK
theorem mk_tr {C x dx a b : Addr} {H1 : Hp} {us vs : List V} {ws : List Win} {td : List (Nat × Nat)} {Q : VK} {E : XK} (hx : H1 x = none) (hd : H1 dx = none) (ne : dx ≠ x) (ha : H1 a = some (.tup us)) (hW : WnA H1 us ws) (hb : H1 b = some (.tup vs)) (hP : PrA H1 vs td) (hl : ws.length ≤ 10000)
    (q : ∀ H2, Ex H1 H2 → TrO C H2 x ws td → Q .non H2) : spTInit C [.ref x, .ref a, .ref b] (L2.upd (L2.upd H1 dx (.own x)) x (.ins C dx [])) Q E :=
  ⟨x, dx, a, b, us, vs, ws, td, H1, rfl, (Ex.new hd).trans (Ex.new (by rw [upd_ne ne.symm]; exact hx)), hx, upd_same, ha, hW, hb, hP, hl, q⟩
/-- a pair's list in memory grows by a comprehension's list -/
theorem told_len (p : Nat) (ns : List Nat) : (ns.map fun n => (p, n)).length = ns.length := List.length_map ..
structure Sch (C : Addr) (H : Hp) (o : Addr) (L : List Nat) (wd : Nat) (ts : List Tr) : Prop where
  o : SObj C H o L wd ts
  g : LG L
  w1 : 1 ≤ wd
  w8 : wd ≤ 8
  n1 : 1 ≤ ts.length
  n64 : ts.length ≤ 64
  ok : ∀ t ∈ ts, t.ok L.length wd ts.length
  tot : total ts ≤ 3000
def spTrace (K : PySem.W.Frag) (CS CT CB CM : Addr) : Sp := fun vs H Q E => ∃ (o : Addr) (L : List Nat) (wd : Nat) (ts : List Tr), Sch CS H o L wd ts ∧
  ((∃ X, vs = [.ref o, .str (tx X)] ∧ (∀ c ∈ X, c ∈ L) ∧ X.length ≤ 5000 ∧ ∀ H' r, Ex H H' → TrO CT H' r (search wd ts L X (X.length + 1) 0 0).1 (search wd ts L X (X.length + 1) 0 0).2 → Q (.ref r) H') ∨
   (∃ X i c, vs = [.ref o, .str (tx X)] ∧ X.length ≤ 10000 ∧ X[i]? = some c ∧ c ∉ L ∧ (∀ j d, j < i → X[j]? = some d → d ∈ L) ∧ ∀ H', Ex H H' → Rz E H' CB [("place", .int (i : Nat))]) ∨
   (∃ X, vs = [.ref o, .str (tx X)] ∧ (∀ c ∈ X, c ∈ L) ∧ 5000 < X.length ∧ X.length ≤ 10000 ∧ ∀ H', Ex H H' → Rz E H' CM [("most", .int 5000), ("many", .int (X.length : Nat)), ("what", .str "letters")]) ∨
   ∃ v t, vs = [.ref o, v] ∧ TyX K H v t ∧ PySem.W.kitOne K t (.type "str") = some false ∧ Rz E H CB [("place", .int 0)])
def spSearched (CS CT : Addr) : Sp := fun vs H Q _ => ∃ (o : Addr) (L : List Nat) (wd : Nat) (ts : List Tr) (X : List Nat), Sch CS H o L wd ts ∧ vs = [.ref o, .str (tx X)] ∧ (∀ c ∈ X, c ∈ L) ∧ X.length ≤ 5000 ∧ ∀ H' r, Ex H H' → TrO CT H' r (search wd ts L X (X.length + 1) 0 0).1 (search wd ts L X (X.length + 1) 0 0).2 → Q (.ref r) H'
theorem Sch.up {C o : Addr} {H H' : Hp} {L : List Nat} {wd : Nat} {ts : List Tr} (S : Sch C H o L wd ts) (e : Ex H H') : Sch C H' o L wd ts := ⟨S.o.up e, S.g, S.w1, S.w8, S.n1, S.n64, S.ok, S.tot⟩
section
variable {P : Program} {w : World} {K : PySem.W.Frag} {mg : Str → Option Value} {base : Heap}
theorem ok_searched {f C_Searcher C_Trace ft : Addr} {fd fdt : FuncData} (F : Fun K "searched" "searched" s_searched f fd) (T : Tx mg) (S : SC K C_Searcher) (ST : TC K C_Trace) (M_Trace : Mk K C_Trace ft) (F_Trace : FnOk P w K mg base CX0 1 ft fdt ["self", "windows", "told"] (spTInit C_Trace)) (g_Trace : mg "Trace" = some (.ref C_Trace))
    (b_Trace : Binds K fdt ["self", "windows", "told"] []) (c_followed : Kn P w K mg base "followed" ["tree", "letters", "signs"] 1 spFol) : FnOk P w K mg base CX0 3 f fd ["searcher", "text"] (spSearched C_Searcher C_Trace) := by
  refine F.ok sc_searched (fun vs H Q E h => ?_) (fun cdv A outer s H vs Q E hr h => ?_)
  · obtain ⟨o, L, wd, ts, X, _, rfl, _⟩ := h
    rfl
  · obtain ⟨o, L, wd, ts, X, SS, rfl, hX, hXl, q⟩ := h
    obtain ⟨SO, hLG, w1, w8, n1, n64, hok, htot⟩ := SS
    obtain ⟨dxo, sa, us, s1, s2, s3⟩ := SO.ex
    have L4 := hLG.hi
    refine ⟨_, (pss_cons (ps_set (i := 2) sc_searched.nd rfl (Or.inl rfl) (pe_lst pa_nil))
      (pss_cons (ps_set (i := 3) sc_searched.nd rfl (Or.inl rfl) (pe_lst pa_nil))
      (pss_cons (ps_asg (pe_tup (pa_cons pe_int (pa_cons pe_int pa_nil))) (pg_tup (by rfl) (pgs_cons (pg_name (i := 4) sc_searched.nd rfl (Or.inr rfl)) (pgs_cons (pg_name (i := 5) sc_searched.nd rfl (Or.inl rfl)) pgs_nil))))
      (pss_cons (ps_while PassesOwn.never (pt_cmpR op_le (pe_op op_add (pv 4) (pe_fld (pv 0) rfl)) (pe_callB call_len_str (by rfl) T.len PySem.boot_len (pa_cons (pv 1) pa_nil)) (nomark _)) (pss_cons (ps_set (i := 6) sc_searched.nd rfl (Or.inl rfl) (pe_slice sl_str (pv 1) (po_some (pv 4)) (po_some (pe_op op_add (pe_op op_add (pv 4) (pe_fld (pv 0) rfl)) pe_int))))
      (pss_cons (ps_asg (pe_call c_followed.ok (hr.mono (by decide)) (by rfl) c_followed.g c_followed.kp c_followed.b .nil pass0 (pa_cons (pe_ix ix_tup (pe_fld (pv 0) rfl) (pv 5) (fun _ _ => rfl)) (pa_cons (pe_fld (pv 0) rfl) (pa_cons (pv 6) pa_nil)))) (pg_tup (by rfl) (pgs_cons (pg_name (i := 7) sc_searched.nd rfl (Or.inl rfl)) (pgs_cons (pg_name (i := 8) sc_searched.nd rfl (Or.inl rfl)) (pgs_cons (pg_name (i := 9) sc_searched.nd rfl (Or.inl rfl)) pgs_nil)))))
      (pss_cons (ps_expr (pe_bm PySem.F.plainAttrs_list PySem.F.slot_list_append PySem.F.type_list_append mt_append (pv 2) (pa_cons (pe_tup (pa_cons (pv 4) (pa_cons (pv 5) (pa_cons (pv 7) pa_nil)))) pa_nil)))
      (pss_cons (ps_expr (pe_bm PySem.F.plainAttrs_list PySem.F.slot_list_extend PySem.F.type_list_extend mt_extend (pv 3) (pa_cons (pe_lc (own := [("number", 10)]) (g := gName 10) (tt := tYes) rfl sc_searched.nd (pi_tup (pv 8)) (blkOk_by (N := N_searched) (sc := defScope s_searched) (by decide +kernel)) (fun _ _ _ _ _ => (pg_name (i := 10) sc_searched.nd rfl (Or.inl rfl))) (fun _ _ _ _ _ => pts_nil) (fun _ _ _ _ _ => (pe_tup (pa_cons (pv 4) (pa_cons (pv 10) pa_nil))))) pa_nil)))
      (pss_cons (ps_if (pt_cmpR op_isN (pv 9) pe_non (nomark _)) (pss_one ps_break) pss_nil)
      (pss_cons (ps_asg (pv 9) (pg_tup (by rfl) (pgs_cons (pg_name (i := 11) sc_searched.nd rfl (Or.inl rfl)) (pgs_cons (pg_name (i := 12) sc_searched.nd rfl (Or.inl rfl)) (pgs_cons (pg_name (i := 5) sc_searched.nd rfl (Or.inl rfl)) pgs_nil)))))
      (pss_one (ps_aug (i := 4) sc_searched.nd rfl (Or.inr rfl) (pv 12) ip_add)))))))))
      (pss_one (ps_ret (pe_make M_Trace F_Trace (hr.mono (by decide)) (by rfl) g_Trace b_Trace .nil pass0 (pa_cons (pe_callTy call_tuple_of (by rfl) T.tuple PyProof.Rows.boot_tuple (pa_cons (pv 2) pa_nil)) (pa_cons (pe_callTy call_tuple_of (by rfl) T.tuple PyProof.Rows.boot_tuple (pa_cons (pv 3) pa_nil)) pa_nil))))))))), ?_⟩
    have e1 : Ex H H := Ex.refl _
    refine ⟨Nat.zero_le _, fun l1 hl1 => ⟨Nat.zero_le _, fun l2 hl2 => ⟨by show 2 ≤ sizeLine; decide, fun pr hpr => ?_⟩⟩⟩
    refine ⟨pr, _, rfl, .inl (.inl upd_same), rfl, _, _, rfl, _, _, rfl, rfl, ?_⟩
    have hl10 := fresh_back e1 hl1
    have n12 : l1 ≠ l2 := fun z => by
      rw [← z, upd_same] at hl2
      cases hl2
    have hl2' := fresh_back (Ex.new hl1) hl2
    have hl20 := fresh_back e1 hl2'
    have g1 : (L2.upd (L2.upd (L2.upd H l1 (.lst [])) l2 (.lst [])) pr (.tup [.int 0, .int 0])) l1 = some (.lst []) := Ex.new hpr _ _ (by rw [upd_ne n12, upd_same])
    have g2 : (L2.upd (L2.upd (L2.upd H l1 (.lst [])) l2 (.lst [])) pr (.tup [.int 0, .int 0])) l2 = some (.lst []) := Ex.new hpr _ _ upd_same
    have e2 := e1.trans ((Ex.new (o := .lst []) hl1).trans ((Ex.new (o := .lst []) hl2).trans (Ex.new (o := .tup [.int 0, .int 0]) hpr)))
    generalize (L2.upd (L2.upd (L2.upd H l1 (.lst [])) l2 (.lst [])) pr (.tup [.int 0, .int 0])) = H2 at g1 g2 e2 ⊢
    obtain ⟨R, hR⟩ : ∃ R, search wd ts L X (X.length + 1) 0 0 = R := ⟨_, rfl⟩
    rw [hR] at q
    refine ⟨fun m σ H' => ∃ (p st : Nat) (vs us' : List V) (ws : List Win) (td : List (Nat × Nat)) (y7 y8 y9 y10 y11 y12 y13 : Option V), σ = [some (.ref o), some (.str (tx X)), some (.ref l1), some (.ref l2), some (.int (p : Nat)), some (.int (st : Nat)), y7, y8, y9, y10, y11, y12, y13] ∧
        Ex H H' ∧ H' l1 = some (.lst vs) ∧ WnA H' vs ws ∧ H' l2 = some (.lst us') ∧ PrA H' us' td ∧ st < ts.length ∧ X.length + 1 ≤ m + p ∧ ws ++ (search wd ts L X m p st).1 = R.1 ∧ td ++ (search wd ts L X m p st).2 = R.2 ∧ ws.length + m ≤ 5001 ∧ td.length + 3000 * m ≤ 3000 * 5001,
      ⟨X.length + 1, 0, 0, [], [], [], [], none, none, none, none, none, none, none, rfl, e2, g1, .nil, g2, .nil, n1, Nat.le_refl _, by rw [hR]; rfl, by rw [hR]; rfl, by show 0 + (X.length + 1) ≤ 5001; omega, by show 0 + 3000 * (X.length + 1) ≤ _; omega⟩, fun m σ H' hw => ?_⟩
    obtain ⟨p, st, vs, us', ws, td, y7, y8, y9, y10, y11, y12, y13, rfl, e, h1, hW, h2, hP, hst, hm, q1, q2, hb1, hb2⟩ := hw
    have lvs := hW.len
    have lus := hP.len
    have so := e _ _ s1
    -- the end
    have fin : ∀ (σ : L2.St) (H3 : Hp) (vs3 us3 : List V), Ex H H3 → H3 l1 = some (.lst vs3) → WnA H3 vs3 R.1 → H3 l2 = some (.lst us3) → PrA H3 us3 R.2 → R.1.length ≤ 10000 → ∀ t1, H3 t1 = none → ∀ t2, (L2.upd H3 t1 (.tup vs3)) t2 = none → ∀ x dx, (L2.upd (L2.upd H3 t1 (.tup vs3)) t2 (.tup us3)) x = none → (L2.upd (L2.upd H3 t1 (.tup vs3)) t2 (.tup us3)) dx = none → dx ≠ x →
        spTInit C_Trace [.ref x, .ref t1, .ref t2] (L2.upd (L2.upd (L2.upd (L2.upd H3 t1 (.tup vs3)) t2 (.tup us3)) dx (.own x)) x (.ins C_Trace dx [])) (fun v H4 => v = .non ∧ Q (.ref x) H4) (fun _ _ _ => False) := by
      intro σ H3 vs3 us3 e3 k1 kW k2 kP hlen t1 ht1 t2 ht2 x dx hx hdx hne
      have f1 := Ex.new (o := .tup vs3) ht1
      have f2 := Ex.new (o := .tup us3) ht2
      exact mk_tr hx hdx hne (f2 _ _ upd_same) (kW.ex (f1.trans f2)) upd_same (kP.ex (f1.trans f2)) hlen fun H4 e4 TO => ⟨rfl, q H4 x (e3.trans (f1.trans (f2.trans e4))) TO⟩
    refine ⟨_, rfl, _, rfl, o, _, dxo, _, _, rfl, so, S.cl, S.nw, sFs_w _ _ _ _, _, _, rfl, rfl, _, rfl, _, rfl, tx_m (by omega), _, _, rfl, rfl, _, rfl, ite2 (fun hlt => ?_) (fun hlt => ?_)⟩
    · have hpw : p + wd ≤ X.length := by
        have := of_decide_eq_true hlt
        rw [tx_len] at this
        omega
      obtain ⟨m', rfl⟩ : ∃ m', m = m' + 1 := ⟨m - 1, by omega⟩
      refine ⟨fun σ2 H2 => ∃ m2, m2 < m' + 1 ∧ ∃ (p st : Nat) (vs us' : List V) (ws : List Win) (td : List (Nat × Nat)) (y7 y8 y9 y10 y11 y12 y13 : Option V), σ2 = [some (.ref o), some (.str (tx X)), some (.ref l1), some (.ref l2), some (.int (p : Nat)), some (.int (st : Nat)), y7, y8, y9, y10, y11, y12, y13] ∧
        Ex H H2 ∧ H2 l1 = some (.lst vs) ∧ WnA H2 vs ws ∧ H2 l2 = some (.lst us') ∧ PrA H2 us' td ∧ st < ts.length ∧ X.length + 1 ≤ m2 + p ∧ ws ++ (search wd ts L X m2 p st).1 = R.1 ∧ td ++ (search wd ts L X m2 p st).2 = R.2 ∧ ws.length + m2 ≤ 5001 ∧ td.length + 3000 * m2 ≤ 3000 * 5001, fun σ2 H2 h => h, ?_⟩
      refine ⟨_, rfl, _, rfl, _, rfl, _, rfl, _, rfl, o, _, dxo, _, _, rfl, so, S.cl, S.nw, sFs_w _ _ _ _, _, _, rfl, rfl, _, _, rfl, rfl, _, rfl, _, rfl, tx_m (by omega), ?_⟩
      have hcut : cutS (tx X) (some ((p : Nat) : Int)) (some (((p : Nat) : Int) + (wd : Int) + 1)) = tx ((X.drop p).take (wd + 1)) := by
        rw [show ((p : Nat) : Int) + (wd : Int) + 1 = ((p : Nat) : Int) + ((wd + 1 : Nat) : Int) by omega, cut_mid]
      rw [hcut]
      obtain ⟨Y, hY⟩ : ∃ Y, (X.drop p).take (wd + 1) = Y := ⟨_, rfl⟩
      have hYL : ∀ c ∈ Y, c ∈ L := fun c hc => by
        rw [← hY] at hc
        exact hX c (List.mem_of_mem_drop (List.mem_of_mem_take hc))
      have hYl : Y.length ≤ 9 := by
        rw [← hY, List.length_take]
        omega
      rw [hY]
      -- the tree
      have hsu : st < us.length := by
        rw [s3.len]
        exact hst
      obtain ⟨t, ht, hta⟩ := s3.get (List.getElem?_eq_getElem hsu)
      have mem := List.mem_of_getElem? ht
      have tsz := size_mem mem
      have tok := hok t mem
      have hrl := Tr.run_len (L := L) (S := Y) t
      refine ⟨_, rfl, o, _, dxo, _, _, rfl, so, S.cl, S.ns, sFs_s _ _ _ _, _, rfl, sa, us, _, _, rfl, rfl, st_of (e _ _ s2), atI_nat (List.getElem?_eq_getElem hsu), _, rfl, o, _, dxo, _, _, rfl, so, S.cl, S.nl, sFs_l _ _ _ _, _, rfl, t, _, L, Y, wd, ts.length, rfl, hta.ex e, tok, hLG.nd, hYL, by omega, by omega, by omega, fun H3 r r1 r2 g rv e3 hr hr1 hRd hr2 hG => ?_⟩
      refine ⟨r, _, rfl, st_of hr, rfl, _, _, rfl, _, _, rfl, _, _, rfl, rfl, ?_⟩
      -- windows.append
      refine ⟨_, rfl, .inl ⟨rfl, _, sq_of (e3 _ _ h1)⟩, _, rfl, _, rfl, _, rfl, by show 3 ≤ sizeLine; decide, fun tw htw => ?_⟩
      have f1 := Ex.new (o := .tup [.int (p : Nat), .int (st : Nat), .ref r1]) htw
      refine ⟨l1, _, _, rfl, rfl, f1 _ _ (e3 _ _ h1), sz_k (by omega), ?_⟩
      have htw1 : (L2.upd H3 tw (.tup [.int (p : Nat), .int (st : Nat), .ref r1])) tw = some (.tup [.int (p : Nat), .int (st : Nat), .ref r1]) := upd_same
      have hW4 := ((hW.ex (e3.trans f1)).snoc htw1 (f1 _ _ hr1) (hRd.ex f1)).upd (a := l1) (o := .lst (vs ++ [.ref tw])) (lst_no (f1 _ _ (e3 _ _ h1)))
      have hP4 := (hP.ex (e3.trans f1)).upd (a := l1) (o := .lst (vs ++ [.ref tw])) (lst_no (f1 _ _ (e3 _ _ h1)))
      have e4 : Ex H (L2.upd (L2.upd H3 tw (.tup [.int (p : Nat), .int (st : Nat), .ref r1])) l1 (.lst (vs ++ [.ref tw]))) := (e.trans (e3.trans f1)).mut hl10
      have k1 : (L2.upd (L2.upd H3 tw (.tup [.int (p : Nat), .int (st : Nat), .ref r1])) l1 (.lst (vs ++ [.ref tw]))) l1 = some (.lst (vs ++ [.ref tw])) := upd_same
      have k2 : (L2.upd (L2.upd H3 tw (.tup [.int (p : Nat), .int (st : Nat), .ref r1])) l1 (.lst (vs ++ [.ref tw]))) l2 = some (.lst us') := by
        rw [upd_ne n12.symm]
        exact f1 _ _ (e3 _ _ h2)
      have n1r : ∀ {a : Addr} {xs : List V}, H3 a = some (.tup xs) → a ≠ l1 := fun {a xs} z z2 => by
        rw [z2, e3 _ _ h1] at z
        cases z
      have k3 : (L2.upd (L2.upd H3 tw (.tup [.int (p : Nat), .int (st : Nat), .ref r1])) l1 (.lst (vs ++ [.ref tw]))) r2 = some (.tup (nv (t.run L Y).2.1)) := by
        rw [upd_ne (n1r hr2)]
        exact f1 _ _ hr2
      have kG : GoA (L2.upd (L2.upd H3 tw (.tup [.int (p : Nat), .int (st : Nat), .ref r1])) l1 (.lst (vs ++ [.ref tw]))) g (t.run L Y).2.2 := by
        cases hz : (t.run L Y).2.2 with
        | none =>
          rw [hz] at hG
          exact hG
        | some z =>
          obtain ⟨z1, z2⟩ := z
          rw [hz] at hG
          obtain ⟨a, e5, h5⟩ := hG
          exact ⟨a, e5, by rw [upd_ne (n1r h5)]; exact f1 _ _ h5⟩
      generalize (L2.upd (L2.upd H3 tw (.tup [.int (p : Nat), .int (st : Nat), .ref r1])) l1 (.lst (vs ++ [.ref tw]))) = H4 at hW4 hP4 e4 k1 k2 k3 kG ⊢
      -- told.extend
      obtain ⟨ns, hns⟩ : ∃ ns, (t.run L Y).2.1 = ns := ⟨_, rfl⟩
      rw [hns] at k3 hrl
      refine ⟨_, rfl, .inl ⟨rfl, _, sq_of k2⟩, _, rfl, r2, rfl, ⟨_, st_of k3⟩, fun D hD => ?_⟩
      refine lc_tup (fun i H' => Ex H4 H' ∧ ∃ zs, H' D = some (.lst zs) ∧ PrA H' zs ((ns.take i).map fun n => (p, n))) ⟨Ex.new hD, [], upd_same, .nil⟩ (fun i H' _ p => st_of (p.1 _ _ k3)) (fun i x H' hx hw => ?_) (fun H5 hw => ?_)
      · obtain ⟨e5, zs, hz, Z⟩ := hw
        obtain ⟨nn, hnn, rfl⟩ : ∃ nn, ns[i]? = some nn ∧ x = .int (nn : Nat) := by
          rw [List.getElem?_map] at hx
          cases hq : ns[i]? with
          | none =>
            rw [hq] at hx
            cases hx
          | some nn =>
            rw [hq] at hx
            exact ⟨nn, rfl, (Option.some.inj hx).symm⟩
        have hi := (List.getElem?_eq_some_iff.mp hnn).1
        have lz := Z.len
        rw [List.length_map, List.length_take] at lz
        refine ⟨rfl, _, rfl, _, rfl, by show 2 ≤ sizeLine; decide, fun x2 hx2 => ?_⟩
        have f2 := Ex.new (o := .tup [.int (p : Nat), .int (nn : Nat)]) hx2
        refine ⟨zs, f2 _ _ hz, sz_k (by omega), (e5.trans f2).mut hD, zs ++ [.ref x2], upd_same, ?_⟩
        rw [take_next' hnn, List.map_append]
        exact ((Z.ex f2).app (.cons upd_same .nil)).upd (lst_no (f2 _ _ hz))
      obtain ⟨e5, zs, hz, Z⟩ := hw
      rw [show (List.map (fun n => V.int (n : Nat)) ns).length = ns.length from List.length_map .., List.take_length] at Z
      have lz := Z.len
      rw [List.length_map] at lz
      have hns3 : ns.length ≤ 3000 := by omega
      refine ⟨l2, D, _, zs, rfl, rfl, e5 _ _ k2, hz, ?_, ?_⟩
      · rw [sizeLine_eq, lus, lz]
        omega
      have e6 : Ex H (L2.upd H5 l2 (.lst (us' ++ zs))) := (e4.trans e5).mut hl20
      have j1 : (L2.upd H5 l2 (.lst (us' ++ zs))) l1 = some (.lst (vs ++ [.ref tw])) := by
        rw [upd_ne n12]
        exact e5 _ _ k1
      have j2 : (L2.upd H5 l2 (.lst (us' ++ zs))) l2 = some (.lst (us' ++ zs)) := upd_same
      have jW := (hW4.ex e5).upd (a := l2) (o := .lst (us' ++ zs)) (lst_no (e5 _ _ k2))
      have jP := ((hP4.ex e5).app Z).upd (a := l2) (o := .lst (us' ++ zs)) (lst_no (e5 _ _ k2))
      have jG : GoA (L2.upd H5 l2 (.lst (us' ++ zs))) g (t.run L Y).2.2 := by
        cases hz2 : (t.run L Y).2.2 with
        | none =>
          rw [hz2] at kG
          exact kG
        | some z =>
          obtain ⟨z1, z2⟩ := z
          rw [hz2] at kG
          obtain ⟨a, e7, h7⟩ := kG
          refine ⟨a, e7, ?_⟩
          rw [upd_ne (fun z3 : a = l2 => by
            rw [z3, k2] at h7
            cases h7)]
          exact e5 _ _ h7
      generalize (L2.upd H5 l2 (.lst (us' ++ zs))) = H6 at e6 j1 j2 jW jP jG ⊢
      have hrun := hns
      rw [← hY] at hrun
      cases hz3 : (t.run L Y).2.2 with
      | none =>
        have hcut2 := search_cut (f := m') hpw ht (by rw [hY]; exact hz3)
        rw [hcut2, hY, hns] at q1 q2
        rw [hz3] at jG
        have jg : g = .non := jG
        subst jg
        refine ⟨_, rfl, rfl, _, rfl, ite2 (fun _ => ?_) (fun hb => absurd (by decide) hb)⟩
        refine ⟨_, rfl, l1, _, rfl, .inl ⟨sq_of j1, fun t1 ht1 => ?_⟩⟩
        have f2 := Ex.new (o := .tup (vs ++ [.ref tw])) ht1
        refine ⟨_, rfl, l2, _, rfl, .inl ⟨sq_of (f2 _ _ j2), fun t2 ht2 => ?_⟩⟩
        intro x dx hx hdx hne
        exact fin [] H6 _ _ e6 j1 (by rw [← q1]; exact jW) j2 (by rw [← q2]; exact jP) (by rw [← q1, List.length_append]; show ws.length + 1 ≤ _; omega) t1 ht1 t2 ht2 x dx hx hdx hne
      | some z =>
        obtain ⟨s', q'⟩ := z
        have hgo := search_go (f := m') hpw ht (by rw [hY]; exact hz3)
        rw [hgo, hY, hns] at q1 q2
        rw [hz3] at jG
        obtain ⟨ga, rfl, hga⟩ := jG
        obtain ⟨s1', s2', s3'⟩ := Tr.run_ok tok hz3
        refine ⟨_, rfl, rfl, _, rfl, ite2 (fun hb => absurd hb (by simp)) (fun _ => ?_)⟩
        refine ⟨_, rfl, ga, _, rfl, .inl (.inl hga), rfl, _, _, rfl, _, _, rfl, _, _, rfl, rfl, ?_⟩
        refine ⟨_, rfl, _, rfl, _, _, rfl, rfl, ?_⟩
        refine ⟨m', by omega, p + s', q', _, _, _, _, _, _, _, _, _, _, _, congrArg (fun z => [some (V.ref o), some (V.str (tx X)), some (V.ref l1), some (V.ref l2), some (V.int z), some (V.int (q' : Nat)), some (V.str (tx Y)), some (V.ref r1), some (V.ref r2), some (V.ref ga), y11, some (V.str "go"), some (V.int (s' : Nat))]) (show (p : Int) + (s' : Int) = ((p + s' : Nat) : Int) by omega), e6, j1, jW, j2, jP, s3', by omega, ?_, ?_, ?_, ?_⟩
        · rw [List.append_assoc]
          exact q1
        · rw [List.append_assoc]
          exact q2
        · rw [List.length_append]
          show ws.length + 1 + m' ≤ 5001
          omega
        · rw [List.length_append, List.length_map]
          omega
    · rw [search_end (by
        have : ¬ _ := fun z => hlt (decide_eq_true z)
        rw [tx_len] at this
        omega)] at q1 q2
      rw [List.append_nil] at q1 q2
      refine ⟨_, rfl, l1, _, rfl, .inl ⟨sq_of h1, fun t1 ht1 => ?_⟩⟩
      have f1 := Ex.new (o := .tup vs) ht1
      refine ⟨_, rfl, l2, _, rfl, .inl ⟨sq_of (f1 _ _ h2), fun t2 ht2 => ?_⟩⟩
      intro x dx hx hdx hne
      exact fin [] H' vs us' e h1 (by rw [← q1]; exact hW) h2 (by rw [← q2]; exact hP) (by rw [← q1]; omega) t1 ht1 t2 ht2 x dx hx hdx hne
theorem ok_trace {f C_Searcher C_Trace C_BadText fb C_TooMany fm C0 : Addr} {fd fdb fdm : FuncData} (F : Fun K "trace" "trace" s_trace f fd) (T : Tx mg) (S : SC K C_Searcher) (E1 : ErrC K C_BadText fb C0) (E2 : ErrC K C_TooMany fm C0) (g_BadText : mg "BadText" = some (.ref C_BadText)) (g_TooMany : mg "TooMany" = some (.ref C_TooMany))
    (I_BadText : FnOk P w K mg base CX0 2 fb fdb ["self", "place"] (spErr C_BadText "place")) (B_BadText : Binds K fdb ["self", "place"] []) (I_TooMany : FnOk P w K mg base CX0 2 fm fdm ["self", "what", "many", "most"] (spErr3 C_TooMany "what" "many" "most")) (B_TooMany : Binds K fdm ["self", "what", "many", "most"] [])
    (c_wrong_sign : Kn P w K mg base "wrong_sign" ["letters", "text"] 1 (spWS K)) (c_searched : Kn P w K mg base "searched" ["searcher", "text"] 3 (spSearched C_Searcher C_Trace)) : FnOk P w K mg base (L2.CX P w) 4 f fd ["searcher", "text"] (spTrace K C_Searcher C_Trace C_BadText C_TooMany) := by
  refine F.okX sc_trace (fun vs H Q E h => ?_) (fun cdv A outer s H vs Q E hr h => ?_)
  · obtain ⟨o, L, wd, ts, _, ⟨X, rfl, _⟩ | ⟨X, i, c, rfl, _⟩ | ⟨X, rfl, _⟩ | ⟨v, t, rfl, _⟩⟩ := h <;> rfl
  · obtain ⟨o, L, wd, ts, SS, h⟩ := h
    obtain ⟨O_BadText, i_BadText, t_BadText, _, _, _⟩ := E1
    obtain ⟨O_TooMany, i_TooMany, t_TooMany, _, _, _⟩ := E2
    obtain ⟨SO, hLG, w1, w8, n1, n64, hok, htot⟩ := SS
    obtain ⟨dxo, sa, us, s1, s2, s3⟩ := SO.ex
    have L4 := hLG.hi
    refine ⟨_, (pss_cons (ps_set (i := 2) sc_trace.nd rfl (Or.inl rfl) (pe_call c_wrong_sign.ok (hr.mono (by decide)) (by rfl) c_wrong_sign.g c_wrong_sign.kp c_wrong_sign.b .nil pass0 (pa_cons (pe_fld (pv 0) rfl) (pa_cons (pv 1) pa_nil))))
      (pss_cons (ps_if (pt_cmpR op_notN (pv 2) pe_non (nomark _)) (pss_one (ps_raise rfl (takes_of rfl rfl rfl rfl) (pmk_oex O_BadText i_BadText t_BadText I_BadText (hr.mono (by decide)) B_BadText .nil pass0 (by rfl) g_BadText (pa_cons (pv 2) pa_nil)))) pss_nil)
      (pss_cons (ps_if (pt_cmpR op_gt (pe_callB call_len_str (by rfl) T.len PySem.boot_len (pa_cons (pv 1) pa_nil)) (pe_glob (v := .int 5000) rfl T.m_MOST_LETTERS ⟨_, rfl⟩) (nomark _)) (pss_one (ps_raise rfl (takes_of rfl rfl rfl rfl) (pmk_oex O_TooMany i_TooMany t_TooMany I_TooMany (hr.mono (by decide)) B_TooMany .nil pass0 (by rfl) g_TooMany (pa_cons pe_str (pa_cons (pe_callB call_len_str (by rfl) T.len PySem.boot_len (pa_cons (pv 1) pa_nil)) (pa_cons (pe_glob (v := .int 5000) rfl T.m_MOST_LETTERS ⟨_, rfl⟩) pa_nil)))))) pss_nil)
      (pss_one (ps_ret (pe_call c_searched.ok (hr.mono (by decide)) (by rfl) c_searched.g c_searched.kp c_searched.b .nil pass0 (pa_cons (pv 0) (pa_cons (pv 1) pa_nil)))))))), ?_⟩
    -- the first error
    have err : ∀ (H1 : Hp) (v : V) (n : Int), v = .int n → Rz E H1 C_BadText [("place", .int n)] → ∀ a, H1 a = none → spErr C_BadText "place" (.ref a :: ([v] ++ [])) (L2.upd H1 a (exo a C_BadText none))
        (fun v' H2 => v' = .non ∧ ∃ (d : Addr) (fs : List (Str × V)), H2 a = some (exo a C_BadText (some d)) ∧ H2 d = some (exd d fs) ∧ H1 d = none ∧ E (.ref C_BadText) (some d) (L2.upd (del H2 a) d (.xd fs))) (fun _ _ _ => False) := by
      rintro H1 v n rfl hz a ha
      exact ⟨a, _, rfl, upd_same, .int _, fun H2 hE => raise_end ha hE hz⟩
    rcases h with ⟨X, rfl, hX, hXl, q⟩ | ⟨X, i, c, rfl, hXl, hXi, hc, hlo, q⟩ | ⟨X, rfl, hX, hXg, hXl, q⟩ | ⟨v, t, rfl, ty, kk, q⟩
    · refine ⟨_, rfl, o, _, dxo, _, _, rfl, s1, S.cl, S.nl, sFs_l _ _ _ _, _, rfl, L, by omega, .inl ⟨X, rfl, fun H1 e1 _ => ?_, fun H1 i c e1 hi hc _ => absurd (hX c (List.mem_of_getElem? hi)) hc⟩⟩
      refine ⟨_, rfl, rfl, _, rfl, ite2 (fun hb => absurd hb (by decide)) (fun _ => ?_)⟩
      refine ⟨_, rfl, _, rfl, tx_m (by omega), _, _, rfl, rfl, _, rfl, iteDn (by rw [tx_len]; omega) ?_⟩
      exact ⟨_, rfl, _, rfl, o, L, wd, ts, X, (show Sch C_Searcher H1 o L wd ts from Sch.up ⟨SO, hLG, w1, w8, n1, n64, hok, htot⟩ e1), rfl, hX, hXl, fun H' r e TO => q H' r (e1.trans e) TO⟩
    · refine ⟨_, rfl, o, _, dxo, _, _, rfl, s1, S.cl, S.nl, sFs_l _ _ _ _, _, rfl, L, by omega, .inl ⟨X, rfl, fun H1 e1 hall => absurd (hall c (List.mem_of_getElem? hXi)) hc, fun H1 j d e1 hj hd hlj => ?_⟩⟩
      have hij : j = i := by
        rcases Nat.lt_trichotomy j i with h | h | h
        · exact absurd (hlo j d h hj) hd
        · exact h
        · exact absurd (hlj i c h hXi) hc
      subst hij
      refine ⟨_, rfl, rfl, _, rfl, ite2 (fun _ => ?_) (fun hb => absurd (by simp) hb)⟩
      exact ⟨_, rfl, by show 1 ≤ 1000; decide, err H1 _ _ rfl (q _ e1)⟩
    · refine ⟨_, rfl, o, _, dxo, _, _, rfl, s1, S.cl, S.nl, sFs_l _ _ _ _, _, rfl, L, by omega, .inl ⟨X, rfl, fun H1 e1 _ => ?_, fun H1 i c e1 hi hc _ => absurd (hX c (List.mem_of_getElem? hi)) hc⟩⟩
      refine ⟨_, rfl, rfl, _, rfl, ite2 (fun hb => absurd hb (by decide)) (fun _ => ?_)⟩
      refine ⟨_, rfl, _, rfl, tx_m (by omega), _, _, rfl, rfl, _, rfl, iteD (by rw [tx_len]; omega) ?_⟩
      refine ⟨_, rfl, _, rfl, tx_m (by omega), by show 3 ≤ 1000; decide, fun a ha => ⟨a, _, _, _, rfl, upd_same, .str _, .int _, .int _, fun H2 hE => raise_end ha hE ?_⟩⟩
      rw [tx_len]
      exact q _ e1
    · refine ⟨_, rfl, o, _, dxo, _, _, rfl, s1, S.cl, S.nl, sFs_l _ _ _ _, _, rfl, L, by omega, .inr ⟨v, t, rfl, ty, kk, ?_⟩⟩
      refine ⟨_, rfl, rfl, _, rfl, ite2 (fun _ => ?_) (fun hb => absurd (by simp) hb)⟩
      exact ⟨_, rfl, by show 1 ≤ 1000; decide, err H _ _ rfl q⟩
end
end Law

namespace Law
open PySem PySem.Spec PyProof.Rows L2 Evl TR EK
/-- the slide and the state behind it, or None twice -/
def SlA : V → V → Option (Nat × Nat) → Prop
  | g, h, none => g = .non ∧ h = .non
  | g, h, some (s, q) => g = .int (s : Nat) ∧ h = .int (q : Nat)
def spTurn : Sp := fun vs H Q _ => ∃ (t : Tr) (v : V) (L S : List Nat) (wd n : Nat), vs = [v, .str (tx L), .str (tx S)] ∧ TA true H v t ∧ t.ok L.length wd n ∧ L.Nodup ∧ (∀ c ∈ S, c ∈ L) ∧ L.length ≤ 10 ∧ S.length ≤ 100 ∧ t.size ≤ 10000 ∧
  ∀ H' r l1 l2 g g' us, Ex H H' → H l2 = none → H' r = some (.tup [.ref l1, .ref l2, g, g']) → H' l1 = some (.lst us) → RdA H' us (t.run L S).1 → H' l2 = some (.lst (nv (t.run L S).2.1)) → SlA g g' (t.run L S).2.2 → Q (.ref r) H'
section
variable {P : Program} {w : World} {K : PySem.W.Frag} {mg : Str → Option Value} {base : Heap}
theorem ok_turn {f : Addr} {fd : FuncData} (F : Fun K "_law_turn" "_law_turn" s_lturn f fd) (T : Tx mg) : FnOk P w K mg base CX0 1 f fd ["_law_tree_here", "_law_letters_here", "_law_view"] spTurn := by
  refine F.ok sc_lturn (fun vs H Q E h => ?_) (fun cdv A outer s H vs Q E hr h => ?_)
  · obtain ⟨t, v, L, S, wd, n, rfl, _⟩ := h
    rfl
  · obtain ⟨t, v, L, S, wd, n, rfl, hT, hok, hnd, hS, hL, hS9, hsz, q⟩ := h
    refine ⟨_, (pss_cons (ps_par (i := 3) (j := 4) (by rfl) sc_lturn.nd rfl rfl (by decide) rfl rfl (pa_cons (pe_lst pa_nil) (pa_cons (pe_lst pa_nil) pa_nil)) (by rfl))
      (pss_cons (ps_while PassesOwn.never (pt_cmpR op_ne (pe_ix ix_seq (pv 0) pe_int (fun _ _ => rfl)) pe_str (nomark _)) (pss_one (ps_if (pt_cmpR op_eq (pe_ix ix_seq (pv 0) pe_int (fun _ _ => rfl)) pe_str (nomark _)) (pss_cons (ps_expr (pe_bm PySem.F.plainAttrs_list PySem.F.slot_list_append PySem.F.type_list_append mt_append (pv 4) (pa_cons (pe_ix ix_seq (pv 0) pe_int (fun _ _ => rfl)) pa_nil)))
      (pss_one (ps_set (i := 0) sc_lturn.nd rfl (Or.inl rfl) (pe_ix ix_seq (pv 0) pe_int (fun _ _ => rfl))))) (pss_one (ps_if (pt_cmpR op_ge (pe_ix ix_seq (pv 0) pe_int (fun _ _ => rfl)) (pe_callB call_len_str (by rfl) T.len PySem.boot_len (pa_cons (pv 2) pa_nil)) (nomark _)) (pss_one (ps_ret (pe_tup (pa_cons (pv 3) (pa_cons (pv 4) (pa_cons pe_non (pa_cons pe_non pa_nil))))))) (pss_cons (ps_set (i := 5) sc_lturn.nd rfl (Or.inl rfl) (pe_ix ix_str (pv 2) (pe_ix ix_seq (pv 0) pe_int (fun _ _ => rfl)) (fun _ _ => rfl)))
      (pss_cons (ps_expr (pe_bm PySem.F.plainAttrs_list PySem.F.slot_list_append PySem.F.type_list_append mt_append (pv 3) (pa_cons (pe_tup (pa_cons (pe_ix ix_seq (pv 0) pe_int (fun _ _ => rfl)) (pa_cons (pv 5) pa_nil))) pa_nil)))
      (pss_one (ps_set (i := 0) sc_lturn.nd rfl (Or.inl rfl) (pe_ix ix_seq (pe_ix ix_seq (pv 0) pe_int (fun _ _ => rfl)) (pe_bm PySem.F.plainAttrs_str PySem.F.slot_str_index PySem.F.type_str_index mt_sindex (pv 1) (pa_cons (pv 5) pa_nil)) (fun _ _ => rfl)))))))))))
      (pss_one (ps_ret (pe_tup (pa_cons (pv 3) (pa_cons (pv 4) (pa_cons (pe_ix ix_seq (pv 0) pe_int (fun _ _ => rfl)) (pa_cons (pe_ix ix_seq (pv 0) pe_int (fun _ _ => rfl)) pa_nil))))))))), ?_⟩
    refine ⟨Nat.zero_le _, fun l1 hl1 => ⟨Nat.zero_le _, fun l2 hl2 => ⟨_, _, rfl, ?_⟩⟩⟩
    have hl20 : H l2 = none := fresh_back (Ex.new hl1) hl2
    have n12 : l1 ≠ l2 := fun z => by
      rw [← z, upd_same] at hl2
      cases hl2
    have e0 := (Ex.new (o := .lst []) hl1).trans (Ex.new (o := .lst []) hl2)
    refine ⟨fun m σ H' => ∃ (u : Tr) (x : V) (rs : List (Nat × Nat)) (ns : List Nat) (us : List V) (y5 : Option V), σ = [some x, some (.str (tx L)), some (.str (tx S)), some (.ref l1), some (.ref l2), y5] ∧
        Ex H H' ∧ H' l1 = some (.lst us) ∧ RdA H' us rs ∧ H' l2 = some (.lst (nv ns)) ∧ TA true H x u ∧ u.ok L.length wd n ∧ rs ++ (u.run L S).1 = (t.run L S).1 ∧ ns ++ (u.run L S).2.1 = (t.run L S).2.1 ∧ (u.run L S).2.2 = (t.run L S).2.2 ∧
        m = u.size ∧ rs.length + ns.length + u.size ≤ 10000,
      ⟨t.size, t, v, [], [], [], none, rfl, e0, (by rw [upd_ne n12, upd_same]), .nil, upd_same, hT, hok, rfl, rfl, rfl, rfl, by show 0 + 0 + t.size ≤ 10000; omega⟩, fun m σ H' hw => ?_⟩
    obtain ⟨u, x, rs, ns, us, y5, rfl, e, h1, hR, h2, hX, uok, q1, q2, q3, hm, hb⟩ := hw
    have lus := hR.len
    -- the end
    have fin : ∀ (g g' : V), SlA g g' (t.run L S).2.2 → rs = (t.run L S).1 → ns = (t.run L S).2.1 → ∀ r, H' r = none → Q (.ref r) (L2.upd H' r (.tup [.ref l1, .ref l2, g, g'])) := fun g g' hg er en r hr2 => by
      have f3 := Ex.new (o := .tup [.ref l1, .ref l2, g, g']) hr2
      refine q _ r l1 l2 g g' us (e.trans f3) hl20 upd_same (f3 _ _ h1) ?_ ?_ hg
      · rw [← er]
        exact hR.ex f3
      · rw [← en]
        exact f3 _ _ h2
    cases hX with
    | @go a s' q' h =>
      rw [run_go] at q1 q2 q3
      rw [List.append_nil] at q1 q2
      refine ⟨_, rfl, ix_at (e _ _ h) (atI_nat (j := 0) rfl) ⟨rfl, _, rfl, iteNn rfl ?_⟩⟩
      refine ⟨_, rfl, _, rfl, _, rfl, ix_at (e _ _ h) (atI_nat (j := 1) rfl) ⟨_, rfl, ix_at (e _ _ h) (atI_nat (j := 2) rfl) ⟨by show 4 ≤ sizeLine; decide, fun r hr2 => ?_⟩⟩⟩
      exact fin _ _ (by rw [← q3]; exact ⟨rfl, rfl⟩) q1 q2 r hr2
    | @tell a n' x' u' h r0 =>
      rw [run_tell] at q1 q2 q3
      refine ⟨_, rfl, ix_at (e _ _ h) (atI_nat (j := 0) rfl) ⟨rfl, _, rfl, iteN tell_ne_go ?_⟩⟩
      refine ⟨fun σ2 H2 => ∃ m', m' < m ∧ ∃ (u : Tr) (x : V) (rs : List (Nat × Nat)) (ns : List Nat) (us : List V) (y5 : Option V), σ2 = [some x, some (.str (tx L)), some (.str (tx S)), some (.ref l1), some (.ref l2), y5] ∧
        Ex H H2 ∧ H2 l1 = some (.lst us) ∧ RdA H2 us rs ∧ H2 l2 = some (.lst (nv ns)) ∧ TA true H x u ∧ u.ok L.length wd n ∧ rs ++ (u.run L S).1 = (t.run L S).1 ∧ ns ++ (u.run L S).2.1 = (t.run L S).2.1 ∧ (u.run L S).2.2 = (t.run L S).2.2 ∧
        m' = u.size ∧ rs.length + ns.length + u.size ≤ 10000, fun σ2 H2 h => h, ?_⟩
      have hsz2 : u'.size + 1 = m := hm.symm
      refine ⟨_, rfl, ix_at (e _ _ h) (atI_nat (j := 0) rfl) ⟨rfl, _, rfl, iteD rfl ?_⟩⟩
      refine ⟨_, rfl, .inl ⟨rfl, _, sq_of h2⟩, _, rfl, ix_at (e _ _ h) (atI_nat (j := 1) rfl) ⟨l2, _, _, rfl, rfl, h2, ?_, ?_⟩⟩
      · rw [List.length_map]
        exact sz_k (by omega)
      refine ⟨_, rfl, ix_at ((e.mut hl20) _ _ h) (atI_nat (j := 2) rfl) ?_⟩
      refine ⟨u'.size, by omega, u', x', rs, ns ++ [n'], us, _, rfl, e.mut hl20, ?_, hR.upd (lst_no h2), ?_, r0, uok.2, q1, ?_, q3, rfl, ?_⟩
      · rw [upd_ne n12]
        exact h1
      · rw [upd_same, nv_snoc]
      · rw [List.append_assoc]
        exact q2
      · rw [List.length_append]
        show rs.length + (ns.length + 1) + u'.size ≤ 10000
        omega
    | @read a b p us' ts h hb' r0 =>
      have KK := r0.kids
      have hts : ts.list.length = L.length := uok.2.1
      refine ⟨_, rfl, ix_at (e _ _ h) (atI_nat (j := 0) rfl) ⟨rfl, _, rfl, iteN read_ne_go ?_⟩⟩
      refine ⟨fun σ2 H2 => ∃ m', m' < m ∧ ∃ (u : Tr) (x : V) (rs : List (Nat × Nat)) (ns : List Nat) (us : List V) (y5 : Option V), σ2 = [some x, some (.str (tx L)), some (.str (tx S)), some (.ref l1), some (.ref l2), y5] ∧
        Ex H H2 ∧ H2 l1 = some (.lst us) ∧ RdA H2 us rs ∧ H2 l2 = some (.lst (nv ns)) ∧ TA true H x u ∧ u.ok L.length wd n ∧ rs ++ (u.run L S).1 = (t.run L S).1 ∧ ns ++ (u.run L S).2.1 = (t.run L S).2.1 ∧ (u.run L S).2.2 = (t.run L S).2.2 ∧
        m' = u.size ∧ rs.length + ns.length + u.size ≤ 10000, fun σ2 H2 h => h, ?_⟩
      have hsz2 : ts.size + 1 = m := hm.symm
      refine ⟨_, rfl, ix_at (e _ _ h) (atI_nat (j := 0) rfl) ⟨rfl, _, rfl, iteDn read_ne_tell ?_⟩⟩
      refine ⟨_, rfl, ix_at (e _ _ h) (atI_nat (j := 1) rfl) ⟨_, rfl, _, rfl, tx_m (by omega), _, _, rfl, rfl, _, rfl, ite2 (fun hlt => ?_) (fun hlt => ?_)⟩⟩
      · have hp : S[p]? = none := by
          rw [List.getElem?_eq_none_iff]
          have := of_decide_eq_true hlt
          rw [tx_len] at this
          omega
        rw [run_none hp] at q1 q2 q3
        rw [List.append_nil] at q1 q2
        refine ⟨_, rfl, _, rfl, by show 4 ≤ sizeLine; decide, fun r hr2 => ?_⟩
        exact fin _ _ (by rw [← q3]; exact ⟨rfl, rfl⟩) q1 q2 r hr2
      · have hp : p < S.length := by
          have : ¬ _ := fun z => hlt (decide_eq_true z)
          rw [tx_len] at this
          omega
        have hc : S[p]? = some S[p] := List.getElem?_eq_getElem hp
        generalize S[p] = c at hc
        have hcL := hS c (List.mem_of_getElem? hc)
        have hat : atI (tx S).cps.toList ((p : Nat) : Int) = some c := atI_nat hc
        obtain ⟨i, rest, ho, hi⟩ := idx_of hcL
        have hi2 : i < us'.length := by
          have := (List.getElem?_eq_some_iff.mp hi).1
          rw [KK.len, hts]
          exact this
        obtain ⟨kt, hkt, hka⟩ := KK.get (List.getElem?_eq_getElem hi2)
        have mem := List.mem_of_getElem? hkt
        rw [run_some hc hnd hi hkt] at q1 q2 q3
        refine ⟨_, rfl, _, rfl, ix_at (e _ _ h) (atI_nat (j := 1) rfl) ⟨tx S, _, c, rfl, rfl, tx_m (by omega), hat, ?_⟩⟩
        refine ⟨_, rfl, .inl ⟨rfl, _, sq_of h1⟩, _, rfl, ix_at (e _ _ h) (atI_nat (j := 1) rfl) ⟨_, rfl, by show 2 ≤ sizeLine; decide, fun r hr2 => ?_⟩⟩
        have f1 := Ex.new (o := .tup [.int (p : Nat), .str (sg c)]) hr2
        refine ⟨l1, _, _, rfl, rfl, f1 _ _ h1, sz_k (by omega), ?_⟩
        have hr3 : (L2.upd H' r (.tup [.int (p : Nat), .str (sg c)])) r = some (.tup [.int (p : Nat), .str (sg c)]) := upd_same
        have h13 := f1 _ _ h1
        have h23 := f1 _ _ h2
        have e3 := e.trans f1
        have R3 := (hR.ex f1).snoc hr3
        have hsk := size_mem mem
        rw [Trs.total] at hsk
        refine ⟨_, rfl, ix_at ((e3.mut hl1) _ _ h) (atI_nat (j := 2) rfl) ⟨_, rfl, rfl, _, rfl, tx L, sg c, i, rest, rfl, rfl, ho, ix_at ((e3.mut hl1) _ _ hb') (atI_nat (List.getElem?_eq_getElem hi2)) ?_⟩⟩
        refine ⟨kt.size, by omega, kt, _, rs ++ [(p, c)], ns, us ++ [V.ref r], _, rfl, e3.mut hl1, upd_same, R3.upd (lst_no h13), ?_, hka, Trs.ok_mem uok.2.2 kt mem, ?_, q2, q3, rfl, ?_⟩
        · rw [upd_ne n12.symm]
          exact h23
        · rw [List.append_assoc]
          exact q1
        · rw [List.length_append]
          show rs.length + 1 + ns.length + kt.size ≤ 10000
          have hb2 : rs.length + ns.length + (ts.size + 1) ≤ 10000 := hb
          omega
end
end Law

namespace Law
open PySem PySem.Spec PyProof.Rows L2 Evl TR EK
def spSearch : Sp := fun vs H Q _ => ∃ (L X : List Nat) (wd : Nat) (sa : Addr) (us : List V) (ts : List Tr), vs = [.str (tx L), .int (wd : Int), .ref sa, .str (tx X)] ∧ H sa = some (.lst us) ∧ Kids true H us ts ∧ LG L ∧ 1 ≤ wd ∧ wd ≤ 8 ∧ 1 ≤ ts.length ∧ (∀ t ∈ ts, t.ok L.length wd ts.length ∧ t.size ≤ 100) ∧ (∀ c ∈ X, c ∈ L) ∧ X.length ≤ 100 ∧
  ∀ H' r l1 l2 vs' us', Ex H H' → H' r = some (.tup [.ref l1, .ref l2]) → H' l1 = some (.lst vs') → WnA H' vs' (search wd ts L X (X.length + 1) 0 0).1 → H' l2 = some (.lst us') → PrA H' us' (search wd ts L X (X.length + 1) 0 0).2 → Q (.ref r) H'
section
variable {P : Program} {w : World} {K : PySem.W.Frag} {mg : Str → Option Value} {base : Heap}
theorem ok_search {f : Addr} {fd : FuncData} (F : Fun K "_law_search" "_law_search" s_lsearch f fd) (T : Tx mg) (c_lturn : Kn P w K mg base "_law_turn" ["_law_tree_here", "_law_letters_here", "_law_view"] 1 spTurn) :
    FnOk P w K mg base CX0 2 f fd ["_law_letters_here", "_law_width", "_law_states", "_law_text_here"] spSearch := by
  refine F.ok sc_lsearch (fun vs H Q E h => ?_) (fun cdv A outer s H vs Q E hr h => ?_)
  · obtain ⟨L, X, wd, sa, us, ts, rfl, _⟩ := h
    rfl
  · obtain ⟨L, X, wd, sa, us, ts, rfl, hsa, KK, hLG, w1, w8, n1, hall, hX, hXl, q⟩ := h
    have L4 := hLG.hi
    refine ⟨_, (pss_cons (ps_asg (pe_tup (pa_cons (pe_lst pa_nil) (pa_cons (pe_lst pa_nil) (pa_cons pe_int (pa_cons pe_int pa_nil))))) (pg_tup (by rfl) (pgs_cons (pg_name (i := 4) sc_lsearch.nd rfl (Or.inl rfl)) (pgs_cons (pg_name (i := 5) sc_lsearch.nd rfl (Or.inl rfl)) (pgs_cons (pg_name (i := 6) sc_lsearch.nd rfl (Or.inr rfl)) (pgs_cons (pg_name (i := 7) sc_lsearch.nd rfl (Or.inl rfl)) pgs_nil))))))
      (pss_cons (ps_while PassesOwn.never (PW.pt (pw_and (pt_cmpR op_notN (pv 6) pe_non (nomark _)) (pw_and1 (pt_cmpR op_le (pe_op op_add (pv 6) (pv 1)) (pe_callB call_len_str (by rfl) T.len PySem.boot_len (pa_cons (pv 3) pa_nil)) (nomark _))))) (pss_cons (ps_asg (pe_call c_lturn.ok (hr.mono (by decide)) (by rfl) c_lturn.g c_lturn.kp c_lturn.b .nil pass0 (pa_cons (pe_ix ix_list (pv 2) (pv 7) (fun _ _ => rfl)) (pa_cons (pv 0) (pa_cons (pe_slice sl_str (pv 3) (po_some (pv 6)) (po_some (pe_op op_add (pe_op op_add (pv 6) (pv 1)) pe_int))) pa_nil)))) (pg_tup (by rfl) (pgs_cons (pg_name (i := 8) sc_lsearch.nd rfl (Or.inl rfl)) (pgs_cons (pg_name (i := 9) sc_lsearch.nd rfl (Or.inl rfl)) (pgs_cons (pg_name (i := 10) sc_lsearch.nd rfl (Or.inl rfl)) (pgs_cons (pg_name (i := 11) sc_lsearch.nd rfl (Or.inl rfl)) pgs_nil))))))
      (pss_cons (ps_expr (pe_bm PySem.F.plainAttrs_list PySem.F.slot_list_append PySem.F.type_list_append mt_append (pv 4) (pa_cons (pe_tup (pa_cons (pv 6) (pa_cons (pv 7) (pa_cons (pe_callTy call_tuple_of (by rfl) T.tuple PyProof.Rows.boot_tuple (pa_cons (pv 8) pa_nil)) pa_nil)))) pa_nil)))
      (pss_cons (ps_set (i := 5) sc_lsearch.nd rfl (Or.inl rfl) (pe_op op_cat (pv 5) (pe_lc (own := [("_law_number", 12)]) (g := gName 12) (tt := tYes) rfl sc_lsearch.nd (pi_list (pv 9)) (blkOk_by (N := N_lsearch) (sc := defScope s_lsearch) (by decide +kernel)) (fun _ _ _ _ _ => (pg_name (i := 12) sc_lsearch.nd rfl (Or.inl rfl))) (fun _ _ _ _ _ => pts_nil) (fun _ _ _ _ _ => (pe_tup (pa_cons (pv 6) (pa_cons (pv 12) pa_nil)))))))
      (pss_cons (ps_set (i := 6) sc_lsearch.nd rfl (Or.inr rfl) (pe_ifExp (pt_cmpR op_isN (pv 10) pe_non (nomark _)) pe_non (pe_op op_add (pv 6) (pv 10))))
      (pss_one (ps_set (i := 7) sc_lsearch.nd rfl (Or.inl rfl) (pv 11))))))))
      (pss_one (ps_ret (pe_tup (pa_cons (pv 4) (pa_cons (pv 5) pa_nil))))))), ?_⟩
    refine ⟨Nat.zero_le _, fun l1 hl1 => ⟨Nat.zero_le _, fun l2 hl2 => ⟨by show 4 ≤ sizeLine; decide, fun pr hpr => ?_⟩⟩⟩
    refine ⟨pr, _, rfl, .inl (.inl upd_same), rfl, _, _, rfl, _, _, rfl, _, _, rfl, _, _, rfl, rfl, ?_⟩
    have n12 : l1 ≠ l2 := fun z => by
      rw [← z, upd_same] at hl2
      cases hl2
    have g1 : (L2.upd (L2.upd (L2.upd H l1 (.lst [])) l2 (.lst [])) pr (.tup [.ref l1, .ref l2, .int 0, .int 0])) l1 = some (.lst []) := Ex.new hpr _ _ (by rw [upd_ne n12, upd_same])
    have g2 : (L2.upd (L2.upd (L2.upd H l1 (.lst [])) l2 (.lst [])) pr (.tup [.ref l1, .ref l2, .int 0, .int 0])) l2 = some (.lst []) := Ex.new hpr _ _ upd_same
    have e2 := (Ex.new (o := .lst []) hl1).trans ((Ex.new (o := .lst []) hl2).trans (Ex.new (o := .tup [.ref l1, .ref l2, .int 0, .int 0]) hpr))
    generalize (L2.upd (L2.upd (L2.upd H l1 (.lst [])) l2 (.lst [])) pr (.tup [.ref l1, .ref l2, .int 0, .int 0])) = H2 at g1 g2 e2 ⊢
    obtain ⟨R, hR⟩ : ∃ R, search wd ts L X (X.length + 1) 0 0 = R := ⟨_, rfl⟩
    rw [hR] at q
    have n21 : l2 ≠ l1 := n12.symm
    refine ⟨fun m σ H' => ∃ (l2 : Addr) (pl : V) (sv : V) (vs us' : List V) (ws : List Win) (td : List (Nat × Nat)) (y8 y9 y10 y11 y12 : Option V), σ = [some (.str (tx L)), some (.int (wd : Int)), some (.ref sa), some (.str (tx X)), some (.ref l1), some (.ref l2), some pl, some sv, y8, y9, y10, y11, y12] ∧
        l2 ≠ l1 ∧ Ex H H' ∧ H' l1 = some (.lst vs) ∧ WnA H' vs ws ∧ H' l2 = some (.lst us') ∧ PrA H' us' td ∧ ((m = 0 ∧ pl = .non ∧ ws = R.1 ∧ td = R.2) ∨
        ∃ (f p st : Nat), m = f + 1 ∧ pl = .int (p : Nat) ∧ sv = .int (st : Nat) ∧ st < ts.length ∧ X.length + 1 ≤ f + p ∧ ws ++ (search wd ts L X f p st).1 = R.1 ∧ td ++ (search wd ts L X f p st).2 = R.2 ∧ ws.length + f ≤ 101 ∧ td.length + 100 * f ≤ 100 * 101),
      ⟨X.length + 1 + 1, l2, _, _, [], [], [], [], none, none, none, none, none, rfl, n21, e2, g1, .nil, g2, .nil, .inr ⟨X.length + 1, 0, 0, rfl, rfl, rfl, n1, Nat.le_refl _, by rw [hR]; rfl, by rw [hR]; rfl, by show 0 + (X.length + 1) ≤ 101; omega, by show 0 + 100 * (X.length + 1) ≤ _; omega⟩⟩, fun m σ H' hw => ?_⟩
    obtain ⟨l2, pl, sv, vs, us', ws, td, y8, y9, y10, y11, y12, rfl, n21, e, h1, hW, h2, hP, hcase⟩ := hw
    have lvs := hW.len
    have lus := hP.len
    -- the end
    have fin : ws = R.1 → td = R.2 → ∀ r, H' r = none → Q (.ref r) (L2.upd H' r (.tup [.ref l1, .ref l2])) := fun ew et r hr2 => by
      have f3 := Ex.new (o := .tup [.ref l1, .ref l2]) hr2
      refine q _ r l1 l2 vs us' (e.trans f3) upd_same (f3 _ _ h1) ?_ (f3 _ _ h2) ?_
      · rw [← ew]
        exact hW.ex f3
      · rw [← et]
        exact hP.ex f3
    rcases hcase with ⟨rfl, rfl, ew, et⟩ | ⟨f, p, st, rfl, rfl, rfl, hst, hm, q1, q2, hb1, hb2⟩
    · refine ⟨_, rfl, rfl, _, rfl, ite2 (fun hb => absurd hb (by simp)) (fun _ => ?_)⟩
      exact ⟨_, rfl, _, rfl, by show 2 ≤ sizeLine; decide, fun r hr2 => fin ew et r hr2⟩
    · refine ⟨_, rfl, rfl, _, rfl, ite2 (fun _ => ?_) (fun hb => absurd (by simp) hb)⟩
      refine ⟨_, rfl, _, rfl, _, _, rfl, rfl, _, rfl, _, rfl, tx_m (by omega), _, _, rfl, rfl, _, rfl, ite2 (fun hlt => ?_) (fun hlt => ?_)⟩
      · have hpw : p + wd ≤ X.length := by
          have := of_decide_eq_true hlt
          rw [tx_len] at this
          omega
        obtain ⟨f', rfl⟩ : ∃ f', f = f' + 1 := ⟨f - 1, by omega⟩
        refine ⟨fun σ2 H2 => ∃ m2, m2 < f' + 1 + 1 ∧ ∃ (l2 : Addr) (pl : V) (sv : V) (vs us' : List V) (ws : List Win) (td : List (Nat × Nat)) (y8 y9 y10 y11 y12 : Option V), σ2 = [some (.str (tx L)), some (.int (wd : Int)), some (.ref sa), some (.str (tx X)), some (.ref l1), some (.ref l2), some pl, some sv, y8, y9, y10, y11, y12] ∧
          l2 ≠ l1 ∧ Ex H H2 ∧ H2 l1 = some (.lst vs) ∧ WnA H2 vs ws ∧ H2 l2 = some (.lst us') ∧ PrA H2 us' td ∧ ((m2 = 0 ∧ pl = .non ∧ ws = R.1 ∧ td = R.2) ∨
          ∃ (f p st : Nat), m2 = f + 1 ∧ pl = .int (p : Nat) ∧ sv = .int (st : Nat) ∧ st < ts.length ∧ X.length + 1 ≤ f + p ∧ ws ++ (search wd ts L X f p st).1 = R.1 ∧ td ++ (search wd ts L X f p st).2 = R.2 ∧ ws.length + f ≤ 101 ∧ td.length + 100 * f ≤ 100 * 101), fun σ2 H2 h => h, ?_⟩
        have hsu : st < us.length := by
          rw [KK.len]
          exact hst
        obtain ⟨t, ht, hta⟩ := KK.get (List.getElem?_eq_getElem hsu)
        have mem := List.mem_of_getElem? ht
        obtain ⟨tok, tsz⟩ := hall t mem
        obtain ⟨Y, hY⟩ : ∃ Y, (X.drop p).take (wd + 1) = Y := ⟨_, rfl⟩
        have hYL : ∀ c ∈ Y, c ∈ L := fun c hc => by
          rw [← hY] at hc
          exact hX c (List.mem_of_mem_drop (List.mem_of_mem_take hc))
        have hYl : Y.length ≤ 9 := by
          rw [← hY, List.length_take]
          omega
        have hrl := Tr.run_len (L := L) (S := Y) t
        have hcut : cutS (tx X) (some ((p : Nat) : Int)) (some (((p : Nat) : Int) + (wd : Int) + 1)) = tx Y := by
          rw [show ((p : Nat) : Int) + (wd : Int) + 1 = ((p : Nat) : Int) + ((wd + 1 : Nat) : Int) by omega, cut_mid, hY]
        refine ⟨_, rfl, _, rfl, sa, us, _, _, rfl, rfl, sq_of (e _ _ hsa), atI_nat (List.getElem?_eq_getElem hsu), _, rfl, _, rfl, _, rfl, _, rfl, _, rfl, _, rfl, _, _, rfl, rfl, _, _, rfl, rfl, _, rfl, _, rfl, tx_m (by omega), ?_⟩
        rw [hcut]
        refine ⟨t, _, L, Y, wd, ts.length, rfl, hta.ex e, tok, hLG.nd, hYL, by omega, by omega, by omega, fun H3 r r1 r2 g g' rv e3 hr20 hr hr1 hRd hr2 hS => ?_⟩
        refine ⟨r, _, rfl, .inl (.inl hr), rfl, _, _, rfl, _, _, rfl, _, _, rfl, _, _, rfl, rfl, ?_⟩
        obtain ⟨ns, hns⟩ : ∃ ns, (t.run L Y).2.1 = ns := ⟨_, rfl⟩
        rw [hns] at hr2 hrl
        -- windows.append
        refine ⟨_, rfl, .inl ⟨rfl, _, sq_of (e3 _ _ h1)⟩, _, rfl, _, rfl, _, rfl, r1, _, rfl, .inl ⟨sq_of hr1, fun tr htr => ?_⟩⟩
        have f0 := Ex.new (o := .tup rv) htr
        refine ⟨by show 3 ≤ sizeLine; decide, fun tw htw => ?_⟩
        have f1 := Ex.new (o := .tup [.int (p : Nat), .int (st : Nat), .ref tr]) htw
        have f01 := f0.trans f1
        refine ⟨l1, _, _, rfl, rfl, f01 _ _ (e3 _ _ h1), sz_k (by omega), ?_⟩
        have htw1 : (L2.upd (L2.upd H3 tr (.tup rv)) tw (.tup [.int (p : Nat), .int (st : Nat), .ref tr])) tw = some (.tup [.int (p : Nat), .int (st : Nat), .ref tr]) := upd_same
        have htr1 : (L2.upd (L2.upd H3 tr (.tup rv)) tw (.tup [.int (p : Nat), .int (st : Nat), .ref tr])) tr = some (.tup rv) := f1 _ _ upd_same
        have hW4 := ((hW.ex (e3.trans f01)).snoc htw1 htr1 (hRd.ex f01)).upd (a := l1) (o := .lst (vs ++ [.ref tw])) (lst_no (f01 _ _ (e3 _ _ h1)))
        have hP4 := (hP.ex (e3.trans f01)).upd (a := l1) (o := .lst (vs ++ [.ref tw])) (lst_no (f01 _ _ (e3 _ _ h1)))
        have e4 := (e.trans (e3.trans f01)).mut (o := .lst (vs ++ [.ref tw])) hl1
        have k1 : (L2.upd (L2.upd (L2.upd H3 tr (.tup rv)) tw (.tup [.int (p : Nat), .int (st : Nat), .ref tr])) l1 (.lst (vs ++ [.ref tw]))) l1 = some (.lst (vs ++ [.ref tw])) := upd_same
        have k2 : (L2.upd (L2.upd (L2.upd H3 tr (.tup rv)) tw (.tup [.int (p : Nat), .int (st : Nat), .ref tr])) l1 (.lst (vs ++ [.ref tw]))) l2 = some (.lst us') := by
          rw [upd_ne n21]
          exact f01 _ _ (e3 _ _ h2)
        have n1r : r2 ≠ l1 := fun z => by
          rw [z, h1] at hr20
          cases hr20
        have k3 : (L2.upd (L2.upd (L2.upd H3 tr (.tup rv)) tw (.tup [.int (p : Nat), .int (st : Nat), .ref tr])) l1 (.lst (vs ++ [.ref tw]))) r2 = some (.lst (nv ns)) := by
          rw [upd_ne n1r]
          exact f01 _ _ hr2
        generalize (L2.upd (L2.upd (L2.upd H3 tr (.tup rv)) tw (.tup [.int (p : Nat), .int (st : Nat), .ref tr])) l1 (.lst (vs ++ [.ref tw]))) = H4 at hW4 hP4 e4 k1 k2 k3 ⊢
        -- told + [..]
        refine ⟨_, rfl, _, rfl, r2, rfl, ⟨_, sq_of k3⟩, fun D hD => ?_⟩
        refine lc_list (fun i H' => Ex H4 H' ∧ ∃ zs, H' D = some (.lst zs) ∧ PrA H' zs ((ns.take i).map fun n => (p, n))) ⟨Ex.new hD, [], upd_same, .nil⟩ (fun i H' _ p => sq_of (p.1 _ _ k3)) (fun i x H' hx hw => ?_) (fun H5 hw => ?_)
        · obtain ⟨e5, zs, hz, Z⟩ := hw
          obtain ⟨nn, hnn, rfl⟩ : ∃ nn, ns[i]? = some nn ∧ x = .int (nn : Nat) := by
            rw [List.getElem?_map] at hx
            cases hq : ns[i]? with
            | none =>
              rw [hq] at hx
              cases hx
            | some nn =>
              rw [hq] at hx
              exact ⟨nn, rfl, (Option.some.inj hx).symm⟩
          have hi := (List.getElem?_eq_some_iff.mp hnn).1
          have lz := Z.len
          rw [List.length_map, List.length_take] at lz
          refine ⟨rfl, _, rfl, _, rfl, by show 2 ≤ sizeLine; decide, fun x2 hx2 => ?_⟩
          have f2 := Ex.new (o := .tup [.int (p : Nat), .int (nn : Nat)]) hx2
          refine ⟨zs, f2 _ _ hz, sz_k (by omega), (e5.trans f2).mut hD, zs ++ [.ref x2], upd_same, ?_⟩
          rw [take_next' hnn, List.map_append]
          exact ((Z.ex f2).app (.cons upd_same .nil)).upd (lst_no (f2 _ _ hz))
        obtain ⟨e5, zs, hz, Z⟩ := hw
        rw [show (List.map (fun n => V.int (n : Nat)) ns).length = ns.length from List.length_map .., List.take_length] at Z
        have lz := Z.len
        rw [List.length_map] at lz
        have hns3 : ns.length ≤ 100 := by omega
        refine ⟨l2, D, _, zs, rfl, rfl, e5 _ _ k2, hz, sz_m (by omega), fun D2 hD2 => ?_⟩
        have f6 := Ex.new (o := .lst (us' ++ zs)) hD2
        have e6 := e4.trans (e5.trans f6)
        have j1 := f6 _ _ (e5 _ _ k1)
        have j2 : (L2.upd H5 D2 (.lst (us' ++ zs))) D2 = some (.lst (us' ++ zs)) := upd_same
        have jW := hW4.ex (e5.trans f6)
        have jP := ((hP4.ex e5).app Z).ex f6
        have n2D : D2 ≠ l1 := fun z => by
          rw [z, e5 _ _ k1] at hD2
          cases hD2
        generalize (L2.upd H5 D2 (.lst (us' ++ zs))) = H6 at e6 j1 j2 jW jP ⊢
        cases hz3 : (t.run L Y).2.2 with
        | none =>
          have hcut2 := search_cut (f := f') hpw ht (by rw [hY]; exact hz3)
          rw [hcut2, hY, hns] at q1 q2
          rw [hz3] at hS
          obtain ⟨rfl, rfl⟩ := hS
          refine ⟨_, rfl, rfl, _, rfl, ite2 (fun _ => ?_) (fun hb => absurd (by decide) hb)⟩
          refine ⟨_, rfl, ?_⟩
          exact ⟨0, by omega, D2, _, _, _, _, _, _, _, _, _, _, _, rfl, n2D, e6, j1, jW, j2, jP, .inl ⟨rfl, rfl, q1, q2⟩⟩
        | some z =>
          obtain ⟨s', q'⟩ := z
          have hgo := search_go (f := f') hpw ht (by rw [hY]; exact hz3)
          rw [hgo, hY, hns] at q1 q2
          rw [hz3] at hS
          obtain ⟨rfl, rfl⟩ := hS
          obtain ⟨s1', s2', s3'⟩ := Tr.run_ok tok hz3
          refine ⟨_, rfl, rfl, _, rfl, ite2 (fun hb => absurd hb (by simp)) (fun _ => ?_)⟩
          refine ⟨_, rfl, _, rfl, _, _, rfl, rfl, _, rfl, ?_⟩
          refine ⟨f' + 1, by omega, D2, _, _, _, _, _, _, _, _, _, _, _, rfl, n2D, e6, j1, jW, j2, jP, .inr ⟨f', p + s', q', rfl, congrArg V.int (show (p : Int) + (s' : Int) = ((p + s' : Nat) : Int) by omega), rfl, s3', by omega, ?_, ?_, ?_, ?_⟩⟩
          · rw [List.append_assoc]
            exact q1
          · rw [List.append_assoc]
            exact q2
          · rw [List.length_append]
            show ws.length + 1 + f' ≤ 101
            omega
          · rw [List.length_append, List.length_map]
            omega
      · rw [search_end (by
          have : ¬ _ := fun z => hlt (decide_eq_true z)
          rw [tx_len] at this
          omega)] at q1 q2
        rw [List.append_nil] at q1 q2
        exact ⟨_, rfl, _, rfl, by show 2 ≤ sizeLine; decide, fun r hr2 => fin q1 q2 r hr2⟩
end
end Law

namespace EK
open PySem PySem.Spec PyProof.Rows L2
theorem pe_fldK {X : Cx} {K : PySem.W.Frag} {e : Expr} {te : TE} {f : Str} {pos : Pos} (hk : X.K = K) (he : PE X e te) (hb : attributeBase e f X.env (eval e X.env) = eval e X.env) : PE X (.Attribute e f pos) (tFld K te f) := by
  subst hk
  exact pe_fld he hb
end EK
namespace Law
open PySem PySem.Spec PyProof.Rows L2 Evl TR EK
/-- as Kn, for a def that may raise -/
structure Kn' (P : Program) (w : World) (K : PySem.W.Frag) (mg : Str → Option Value) (base : Heap) (CX : CXT) (x : Str) (ps : List Str) (k : Nat) (sp : Sp) where
  f : Addr
  fd : FuncData
  ok : FnOk P w K mg base CX k f fd ps sp
  g : mg x = some (.ref f)
  kp : PySem.W.keepIn K (.ref f) = true
  b : Binds K fd ps []
def spText : Sp := fun vs H Q _ => ∃ (p : PenI) (H0 : Hp) (n mo : Nat) (L : List Nat) (a : Addr), vs = [.ref p.d, .str (tx L), .ref a, .int (mo : Nat)] ∧ PenAt p H0 H n ∧ n < 700000 ∧ H0 a = some (.lst [.str (tx L)]) ∧ 2 ≤ L.length ∧ L.length ≤ 4 ∧ mo ≤ 30 ∧
  ∀ H' X, PenAt p H0 H' (n + 300) → X.length ≤ mo → (∀ c ∈ X, c ∈ L) → Q (.str (tx X)) H'
/-- what _law_met answers -/
def spMet (K : PySem.W.Frag) (CS : Addr) : Sp := fun vs H Q _ => ∃ (o : Addr) (L : List Nat) (wd : Nat) (ts : List Tr), Sch CS H o L wd ts ∧
  ((∃ X, vs = [.ref o, .str (tx X)] ∧ (∀ c ∈ X, c ∈ L) ∧ X.length ≤ 5000 ∧ ∀ H', Ex H H' → Q (.int ((search wd ts L X (X.length + 1) 0 0).1.length : Nat)) H') ∨
   (∃ X i c, vs = [.ref o, .str (tx X)] ∧ X.length ≤ 10000 ∧ X[i]? = some c ∧ c ∉ L ∧ (∀ j d, j < i → X[j]? = some d → d ∈ L) ∧ ∀ H' r, Ex H H' → H' r = some (.tup [.str "text", .int (i : Nat), .bl true]) → Q (.ref r) H') ∨
   (∃ X, vs = [.ref o, .str (tx X)] ∧ (∀ c ∈ X, c ∈ L) ∧ 5000 < X.length ∧ X.length ≤ 10000 ∧ ∀ H' r, Ex H H' → H' r = some (.tup [.str "letters", .int (X.length : Nat), .int 5000]) → Q (.ref r) H') ∨
   ∃ v t, vs = [.ref o, v] ∧ TyX K H v t ∧ PySem.W.kitOne K t (.type "str") = some false ∧ ∀ H' r, Ex H H' → H' r = some (.tup [.str "text", .int 0, .bl true]) → Q (.ref r) H')
section
variable {P : Program} {w : World} {K : PySem.W.Frag} {mg : Str → Option Value} {base : Heap}
theorem ok_text {f : Addr} {fd : FuncData} (F : Fun K "_law_text" "_law_text" s_ltext f fd) (T : Tx mg) (c_ldraw : Kn P w K mg base "_law_draw" ["_law_pen_here", "_law_many"] 1 spDraw)
    (c_pickS : Kn P w K mg base "_law_pick" ["_law_pen_here", "_law_some"] 2 spPickS) (c_pickL : Kn P w K mg base "_law_pick" ["_law_pen_here", "_law_some"] 2 spPickL) :
    FnOk P w K mg base CX0 3 f fd ["_law_pen_here", "_law_letters_here", "_law_words", "_law_most"] spText := by
  refine F.ok sc_ltext (fun vs H Q E h => ?_) (fun cdv A outer s H vs Q E hr h => ?_)
  · obtain ⟨p, H0, n, mo, L, a, rfl, _⟩ := h
    rfl
  · obtain ⟨p, H0, n, mo, L, a, rfl, P0, hn, ha, hl0, hl1, hmo, q⟩ := h
    have nad : a ≠ p.d := fun z => by
      rw [z, P0.2.1] at ha
      cases ha
    refine ⟨_, (pss_cons (ps_par (i := 4) (j := 5) (by rfl) sc_ltext.nd rfl rfl (by decide) rfl rfl (pa_cons pe_str (pa_cons (pe_call c_ldraw.ok (hr.mono (by decide)) (by rfl) c_ldraw.g c_ldraw.kp c_ldraw.b .nil pass0 (pa_cons (pv 0) (pa_cons (pe_op op_add (pv 3) pe_int) pa_nil))) pa_nil)) (by rfl))
      (pss_cons (ps_while PassesOwn.never (pt_cmpR op_lt (pe_callB call_len_str (by rfl) T.len PySem.boot_len (pa_cons (pv 4) pa_nil)) (pv 5) (nomark _)) (pss_cons (ps_set (i := 6) sc_ltext.nd rfl (Or.inl rfl) (pe_call c_pickL.ok (hr.mono (by decide)) (by rfl) c_pickL.g c_pickL.kp c_pickL.b .nil pass0 (pa_cons (pv 0) (pa_cons (pv 2) pa_nil))))
      (pss_cons (ps_set (i := 7) sc_ltext.nd rfl (Or.inl rfl) (pe_op op_add_str (pe_slice sl_str (pv 6) po_none (po_some (pe_call c_ldraw.ok (hr.mono (by decide)) (by rfl) c_ldraw.g c_ldraw.kp c_ldraw.b .nil pass0 (pa_cons (pv 0) (pa_cons (pe_callB call_len_str (by rfl) T.len PySem.boot_len (pa_cons (pv 6) pa_nil)) pa_nil))))) (pe_call c_pickS.ok (hr.mono (by decide)) (by rfl) c_pickS.g c_pickS.kp c_pickS.b .nil pass0 (pa_cons (pv 0) (pa_cons (pv 1) pa_nil)))))
      (pss_one (ps_set (i := 4) sc_ltext.nd rfl (Or.inl rfl) (pe_op op_add_str (pv 4) (pe_call c_pickL.ok (hr.mono (by decide)) (by rfl) c_pickL.g c_pickL.kp c_pickL.b .nil pass0 (pa_cons (pv 0) (pa_cons (pe_lst (pa_cons (pv 6) (pa_cons (pv 7) (pa_cons (pe_call c_pickS.ok (hr.mono (by decide)) (by rfl) c_pickS.g c_pickS.kp c_pickS.b .nil pass0 (pa_cons (pv 0) (pa_cons (pv 1) pa_nil))) pa_nil)))) pa_nil)))))))))
      (pss_one (ps_ret (pe_slice sl_str (pv 4) po_none (po_some (pv 5))))))), ?_⟩
    refine ⟨_, rfl, _, rfl, _, _, rfl, rfl, p, H0, n, (mo : Int) + 1, rfl, P0, by omega, by omega, by omega, fun H1 r P1 r0 r1 => ⟨_, _, rfl, ?_⟩⟩
    obtain ⟨sz, rfl⟩ : ∃ k : Nat, r = (k : Int) := ⟨r.toNat, (Int.toNat_of_nonneg r0).symm⟩
    refine ⟨fun k σ H' => ∃ (X : List Nat) (y6 y7 : Option V), σ = [some (.ref p.d), some (.str (tx L)), some (.ref a), some (.int (mo : Nat)), some (.str (tx X)), some (.int (sz : Int)), y6, y7] ∧ PenAt p H0 H' (n + 1 + 5 * X.length) ∧ k = sz - X.length ∧ X.length ≤ 40 ∧ ∀ c ∈ X, c ∈ L,
      ⟨sz, [], none, none, ?_, P1, by simp, by simp, fun c hc => nomatch hc⟩, fun k σ H' hw => ?_⟩
    · show [some (V.ref p.d), some (V.str (tx L)), some (V.ref a), some (V.int (mo : Nat)), some (V.str (Str.ofString "")), some (V.int (sz : Int)), none, none] = _
      rw [show Str.ofString "" = tx [] by decide +kernel]
    obtain ⟨X, y6, y7, rfl, P2, hk, hX, mX⟩ := hw
    refine ⟨_, rfl, _, rfl, tx_le (by omega), _, rfl, _, _, rfl, rfl, _, rfl, ite2 (fun hb => ?_) (fun hb => ?_)⟩
    · have hlt : X.length < sz := by
        have := of_decide_eq_true hb
        rw [tx_len] at this
        omega
      refine ⟨fun σ2 H2 => ∃ k', k' < k ∧ ∃ (X : List Nat) (y6 y7 : Option V), σ2 = [some (.ref p.d), some (.str (tx L)), some (.ref a), some (.int (mo : Nat)), some (.str (tx X)), some (.int (sz : Int)), y6, y7] ∧ PenAt p H0 H2 (n + 1 + 5 * X.length) ∧ k' = sz - X.length ∧ X.length ≤ 40 ∧ ∀ c ∈ X, c ∈ L, fun σ2 H2 h => h, ?_⟩
      -- a word
      refine ⟨_, rfl, _, rfl, p, H0, a, _, [.str (tx L)], rfl, P2, by omega, P2.1 _ _ ha, by show 0 < 1; decide, by show 1 < 1000; decide, fun H3 v P3 hv => ?_⟩
      obtain ⟨u, rfl, gu, lu⟩ : ∃ u, v = .str (tx u) ∧ (∀ x ∈ u, x ∈ L) ∧ u.length = L.length := ⟨L, List.mem_singleton.mp hv, fun x hx => hx, rfl⟩
      -- near
      refine ⟨_, rfl, _, rfl, _, rfl, _, rfl, tx_le (by omega), p, H0, _, _, rfl, P3, by omega, by rw [tx_len]; omega, by rw [tx_len]; omega, fun H4 r4 P4 r40 r41 => ?_⟩
      obtain ⟨at_, rfl⟩ : ∃ k : Nat, r4 = (k : Int) := ⟨r4.toNat, (Int.toNat_of_nonneg r40).symm⟩
      refine ⟨_, rfl, _, rfl, tx_le (by omega), _, rfl, _, rfl, p, H0, _, tx L, rfl, P4, by omega, by rw [tx_len]; omega, by rw [tx_len]; omega, fun H5 c P5 hc => ?_⟩
      rw [cut_to]
      refine ⟨_, _, rfl, rfl, ?_, ?_⟩
      · rw [tx_len, List.length_take]
        exact sz_le (show _ + 1 < 1000 by omega)
      have en : tx (u.take at_) ++ (⟨#[c]⟩ : Str) = tx (u.take at_ ++ [c]) := tx_app _ [c]
      rw [en]
      obtain ⟨nr, hnr⟩ : ∃ nr, u.take at_ ++ [c] = nr := ⟨_, rfl⟩
      have lnr : 1 ≤ nr.length ∧ nr.length ≤ 9 := by
        rw [← hnr, List.length_append, List.length_take]
        exact ⟨by show 1 ≤ _ + 1; omega, by show _ + 1 ≤ 9; omega⟩
      have mnr : ∀ x ∈ nr, x ∈ L := fun x hx => by
        rw [← hnr] at hx
        rcases List.mem_append.mp hx with h | h
        · exact gu x (List.mem_of_mem_take h)
        · rw [List.mem_singleton.mp h]
          exact hc
      rw [hnr]
      -- the piece
      refine ⟨_, rfl, _, rfl, _, rfl, _, rfl, _, rfl, _, rfl, p, H0, _, tx L, rfl, P5, by omega, by rw [tx_len]; omega, by rw [tx_len]; omega, fun H6 c2 P6 hc2 => ⟨by show 3 ≤ sizeLine; decide, fun l hl => ?_⟩⟩
      refine ⟨p, H0, l, _, _, rfl, P6.ex (Ex.new hl), by omega, upd_same, by show 0 < 3; decide, by show 3 < 1000; decide, fun H7 v P7 hv => ?_⟩
      obtain ⟨pc, rfl, lp1, lp9, mp⟩ : ∃ pc : List Nat, v = .str (tx pc) ∧ 1 ≤ pc.length ∧ pc.length ≤ 9 ∧ ∀ x ∈ pc, x ∈ L := by
        rcases List.mem_cons.mp hv with h | h
        · exact ⟨u, h, by omega, by omega, gu⟩
        rcases List.mem_cons.mp h with h | h
        · exact ⟨nr, h, lnr.1, lnr.2, mnr⟩
        · exact ⟨[c2], List.mem_singleton.mp h, by show 1 ≤ 1; omega, by show 1 ≤ 9; omega, fun x hx => by rw [List.mem_singleton.mp hx]; exact hc2⟩
      refine ⟨_, _, rfl, rfl, ?_, ?_⟩
      · rw [tx_len, tx_len]
        exact sz_le (by omega)
      rw [tx_app]
      refine ⟨sz - (X ++ pc).length, ?_, X ++ pc, some (V.str (tx u)), some (V.str (tx nr)), rfl, P7.le ?_, rfl, ?_, fun x hx => ?_⟩
      · rw [List.length_append]
        omega
      · rw [List.length_append]
        omega
      · rw [List.length_append]
        omega
      · rcases List.mem_append.mp hx with h | h
        · exact mX x h
        · exact mp x h
    · refine ⟨_, rfl, _, rfl, _, rfl, _, rfl, tx_le (by omega), ?_⟩
      rw [cut_to]
      refine q _ _ (P2.le (by omega)) ?_ fun c hc => mX c (List.mem_of_mem_take hc)
      rw [List.length_take]
      omega
theorem ok_met {f C_Searcher C_Trace C_BadText fb C_TooMany fm C_SkipsError : Addr} {fd : FuncData} (F : Fun K "_law_met" "_law_met" s_lmet f fd) (T : Tx mg) (ST : TC K C_Trace) (B0 : BaseC K mg C_SkipsError) (E1 : ErrC K C_BadText fb C_SkipsError) (E2 : ErrC K C_TooMany fm C_SkipsError)
    (g_BadText : mg "BadText" = some (.ref C_BadText)) (g_TooMany : mg "TooMany" = some (.ref C_TooMany)) (N_BadText_place : PySem.W.findIn K (.ref C_BadText) "place" = some none) (N_TooMany_what : PySem.W.findIn K (.ref C_TooMany) "what" = some none) (N_TooMany_many : PySem.W.findIn K (.ref C_TooMany) "many" = some none)
    (N_TooMany_most : PySem.W.findIn K (.ref C_TooMany) "most" = some none) (x1 : PySem.W.exmOne K (.ref C_BadText) (.ref C_BadText) = some true) (x2 : PySem.W.exmOne K (.ref C_TooMany) (.ref C_BadText) = some false) (x3 : PySem.W.exmOne K (.ref C_TooMany) (.ref C_TooMany) = some true)
    (c_trace : Kn' P w K mg base (L2.CX P w) "trace" ["searcher", "text"] 4 (spTrace K C_Searcher C_Trace C_BadText C_TooMany)) : FnOk P w K mg base CX0 5 f fd ["_law_searcher", "_law_text_here"] (spMet K C_Searcher) := by
  refine F.ok sc_lmet (fun vs H Q E h => ?_) (fun cdv A outer s H vs Q E hr h => ?_)
  · obtain ⟨o, L, wd, ts, _, ⟨X, rfl, _⟩ | ⟨X, i, c, rfl, _⟩ | ⟨X, rfl, _⟩ | ⟨v, t, rfl, _⟩⟩ := h <;> rfl
  · obtain ⟨o, L, wd, ts, SS, h⟩ := h
    obtain ⟨_, _, _, XF_BadText, EX_BadText, k1⟩ := E1
    obtain ⟨_, _, _, XF_TooMany, EX_TooMany, k2⟩ := E2
    have g_SkipsError := B0.g
    refine ⟨_, (pss_one (EK.ps_tryN (i := 2) rfl rfl sc_lmet.nd rfl rfl takes0 (fun W pn xe tk _ => (pss_one (ps_ret (pe_callB (show CallR _ _ (TR.rLenQ K) from call_len_seq) (by rfl) T.len PySem.boot_len (pa_cons (EK.pe_fldK (K := K) rfl (pe_callS c_trace.ok (hr.mono (by decide)) (by rfl) c_trace.g c_trace.kp c_trace.b (fun σ => passAt tk σ) (pa_cons (pv 0) (pa_cons (pv 1) pa_nil))) rfl) pa_nil))))) (EK.HdsN.cons ⟨(by rfl), (by decide), .inl g_BadText⟩ (fun a oe cls d pn hz hf => (pss_one (ps_ret (pe_tup (pa_cons pe_str (pa_cons (pe_xf XF_BadText N_BadText_place hz hf (pv 2)) (pa_cons (pe_callB (EK.call_isE EX_BadText hz hf) (by rfl) T.isinstance PyProof.Rows.boot_isinstance (pa_cons (pv 2) (pa_cons (pe_glob (v := .ref C_SkipsError) rfl g_SkipsError rfl) pa_nil))) pa_nil))))))) (EK.HdsN.cons ⟨(by rfl), (by decide), .inl g_TooMany⟩ (fun a oe cls d pn hz hf => (pss_one (ps_ret (pe_tup (pa_cons (pe_xf XF_TooMany N_TooMany_what hz hf (pv 2)) (pa_cons (pe_xf XF_TooMany N_TooMany_many hz hf (pv 2)) (pa_cons (pe_xf XF_TooMany N_TooMany_most hz hf (pv 2)) pa_nil))))))) EK.HdsN.nil)))), ?_⟩
    rcases h with ⟨X, rfl, hX, hXl, q⟩ | ⟨X, i, c, rfl, hXl, hXi, hc, hlo, q⟩ | ⟨X, rfl, hX, hXg, hXl, q⟩ | ⟨v, t, rfl, ty, kk, q⟩
    · refine ⟨_, rfl, _, rfl, o, L, wd, ts, SS, .inl ⟨X, rfl, hX, hXl, fun H1 r e1 TO => ?_⟩⟩
      obtain ⟨dx, a, b, us, vs, t1, t2, t3, t4, t5⟩ := TO.ex
      refine ⟨r, _, dx, _, _, rfl, t1, ST.cl, ST.nw, tFs_w _ _ _, a, us, rfl, .inr (st_of t2), ?_⟩
      rw [t3.len]
      exact q _ e1
    · refine ⟨_, rfl, _, rfl, o, L, wd, ts, SS, .inr (.inl ⟨X, i, c, rfl, hXl, hXi, hc, hlo, fun H1 e1 d H2 e2 hd hx => ?_⟩)⟩
      refine ⟨true, x1, fun _ a ha => ?_, fun z => nomatch z⟩
      refine ⟨_, rfl, rfl, rfl, d, _, _, rfl, hx, rfl, _, rfl, _, _, true, rfl, rfl, ⟨d, _, rfl, hx⟩, .own _, k1, by show 3 ≤ sizeLine; decide, fun r hr2 => ?_⟩
      exact q _ r (e1.trans (e2.trans (Ex.new hr2))) upd_same
    · refine ⟨_, rfl, _, rfl, o, L, wd, ts, SS, .inr (.inr (.inl ⟨X, rfl, hX, hXg, hXl, fun H1 e1 d H2 e2 hd hx => ?_⟩))⟩
      refine ⟨false, x2, (fun z => nomatch z), fun _ => ⟨true, x3, fun _ a ha => ?_, fun z => nomatch z⟩⟩
      refine ⟨_, rfl, rfl, rfl, d, _, _, rfl, hx, rfl, _, rfl, rfl, rfl, d, _, _, rfl, hx, rfl, _, rfl, rfl, rfl, d, _, _, rfl, hx, rfl, by show 3 ≤ sizeLine; decide, fun r hr2 => ?_⟩
      exact q _ r (e1.trans (e2.trans (Ex.new hr2))) upd_same
    · refine ⟨_, rfl, _, rfl, o, L, wd, ts, SS, .inr (.inr (.inr ⟨v, t, rfl, ty, kk, fun d H2 e2 hd hx => ?_⟩))⟩
      refine ⟨true, x1, fun _ a ha => ?_, fun z => nomatch z⟩
      refine ⟨_, rfl, rfl, rfl, d, _, _, rfl, hx, rfl, _, rfl, _, _, true, rfl, rfl, ⟨d, _, rfl, hx⟩, .own _, k1, by show 3 ≤ sizeLine; decide, fun r hr2 => ?_⟩
      exact q _ r (e2.trans (Ex.new hr2)) upd_same
end
end Law

namespace TR
open PySem PySem.Spec L2 Evl
theorem room70 {k : Nat} {A : Around} (r : Room k A) : A.units + 70 < cLine := by
  have := r.un
  omega
/-- what can't change of a heap, beside a base -/
def fz (B H : Hp) : Hp := fun a => match H a with
  | some (.tup xs) => some (.tup xs)
  | some (.ins C d fs) => some (.ins C d fs)
  | _ => B a
theorem fz_tup {B H : Hp} {a : Addr} {xs : List V} (h : H a = some (.tup xs)) : fz B H a = some (.tup xs) := by
  unfold fz
  rw [h]
theorem fz_ins {B H : Hp} {a C d : Addr} {fs : List (Str × V)} (h : H a = some (.ins C d fs)) : fz B H a = some (.ins C d fs) := by
  unfold fz
  rw [h]
theorem fz_lst {B H : Hp} {a : Addr} {xs : List V} (h : H a = some (.lst xs)) : fz B H a = B a := by
  unfold fz
  rw [h]
theorem fz_dk {B H : Hp} {a : Addr} {xs : List (Key × V)} (h : H a = some (.dK xs)) : fz B H a = B a := by
  unfold fz
  rw [h]
theorem fz_sub {B H : Hp} (e : Ex B H) : Ex B (fz B H) := fun a o h => by
  have h2 := e _ _ h
  unfold fz
  rw [h2]
  cases o <;> first | rfl | exact h
theorem fz_sup {B H : Hp} (e : Ex B H) : Ex (fz B H) H := fun a o h => by
  unfold fz at h
  split at h
  · next q => rw [q, ← h]
  · next q => rw [q, ← h]
  · exact e _ _ h
mutual
theorem TA.fz {B H : Hp} : ∀ {t : Tr} {v : V}, TA true H v t → TA true (TR.fz B H) v t
  | _, _, .go h => .go (fz_tup h)
  | _, _, .tell h r => .tell (fz_tup h) (TA.fz r)
  | _, _, .read h hb r => .read (fz_tup h) (fz_tup hb) (TAs.fz r)
theorem TAs.fz {B H : Hp} : ∀ {ts : Trs} {vs : List V}, TAs true H vs ts → TAs true (TR.fz B H) vs ts
  | _, _, .nil => .nil
  | _, _, .cons h r => .cons (TA.fz h) (TAs.fz r)
end
theorem Kids.fz {B H : Hp} : ∀ {ts : List Tr} {vs : List V}, Kids true H vs ts → Kids true (TR.fz B H) vs ts
  | _, _, .nil => .nil
  | _, _, .cons h r => .cons h.fz (Kids.fz r)
end TR
namespace TR
open PySem PySem.Spec L2 Evl
/-- how many windows a searcher has that slides alone -/
theorem search_go1 {w s : Nat} {L X : List Nat} (hs : 1 ≤ s) : ∀ {f p : Nat}, X.length + 1 ≤ f + p → (search w [.go s 0] L X f p 0).1.length = if p + w ≤ X.length then (X.length - w - p) / s + 1 else 0
  | 0, p, h => by
    rw [if_neg (by omega)]
    rfl
  | f + 1, p, h => by
    by_cases hp : p + w ≤ X.length
    · have hg := search_go (L := L) (X := X) (w := w) (ts := [.go s 0]) (f := f) (p := p) (q := 0) (t := .go s 0) (s := s) (q' := 0) hp rfl (by rw [run_go])
      rw [hg, if_pos hp]
      show (search w [.go s 0] L X f (p + s) 0).1.length + 1 = _
      rw [search_go1 hs (by omega)]
      by_cases h2 : p + s + w ≤ X.length
      · rw [if_pos h2, show X.length - w - p = (X.length - w - (p + s)) + s by omega, Nat.add_div_right _ (by omega)]
      · rw [if_neg h2, Nat.div_eq_of_lt (by omega)]
    · rw [search_end hp, if_neg hp]
      rfl
end TR
namespace Law
open PySem PySem.Spec PyProof.Rows L2 Evl TR EK
theorem SObj.fz {C o : Addr} {B H : Hp} {L : List Nat} {w : Nat} {ts : List Tr} (S : SObj C H o L w ts) : SObj C (TR.fz B H) o L w ts := by
  obtain ⟨dx, st, us, h1, h2, h3⟩ := S.ex
  exact ⟨dx, st, us, fz_ins h1, fz_tup h2, h3.fz⟩
theorem PenAt.fz {p : PenI} {B H : Hp} {n : Nat} (P : PenAt p B H n) : PenAt p (TR.fz B H) H n := by
  obtain ⟨e, h0, hc, hl, op, lf, ho, hd⟩ := P
  exact ⟨fz_sup e, by rw [fz_dk hd]; exact h0, fz_sub e _ _ hc, hl, op, lf, ho, hd⟩
theorem mk_sp {C x dx sa : Addr} {H1 : Hp} {L : List Nat} {w : Nat} {kt k : Bool} {xs : List V} {ts : List Tr} {Q : VK} {E : XK} (hx : H1 x = none) (hd : H1 dx = none) (ne : dx ≠ x) (hsa : H1 sa = some (ob kt xs)) (KK : Kids k H1 xs ts) (hL : LG L) (w1 : 1 ≤ w) (w8 : w ≤ 8)
    (n1 : 1 ≤ ts.length) (n64 : ts.length ≤ 64) (hall : ∀ t ∈ ts, t.ok L.length w ts.length ∧ t.depth ≤ 40) (tot : TR.total ts ≤ 3000) (q : ∀ H2, Ex H1 H2 → SObj C H2 x L w ts → Q .non H2) :
    spInit C [.ref x, .str (tx L), .int (w : Int), .ref sa] (L2.upd (L2.upd H1 dx (.own x)) x (.ins C dx [])) Q E :=
  ⟨x, dx, sa, L, w, kt, k, xs, ts, H1, rfl, (Ex.new hd).trans (Ex.new (by rw [upd_ne ne.symm]; exact hx)), hx, upd_same, hsa, KK, hL, w1, w8, n1, n64, hall, tot, q⟩
/-- three flat things as data -/
def d3 (a b c : PyData) : PyData := .tuple [a, b, c]
theorem d3_shaped {a b c : PyData} (ha : PyData.canLay0 a = true) (hb : PyData.canLay0 b = true) (hc : PyData.canLay0 c = true) (da : a.depth = 0) (db : b.depth = 0) (dc : c.depth = 0) : SeqAt.shaped (d3 a b c) = true := by
  unfold SeqAt.shaped d3
  rw [Bool.and_eq_true]
  refine ⟨by simp only [PyData.canLay0, PyData.canLayAll0, ha, hb, hc, Bool.and_true], decide_eq_true ?_⟩
  simp only [PyData.depth, PyData.depthAll, da, db, dc]
  decide
theorem d3_eqv {a b c : PyData} (ha : PyData.eqv a a = true) (hb : PyData.eqv b b = true) (hc : PyData.eqv c c = true) : PyData.eqv (d3 a b c) (d3 a b c) = true := by
  unfold d3
  simp only [PyData.eqv, PyData.eqvAll, ha, hb, hc, Bool.and_true]
theorem eqv_s (x : Str) : PyData.eqv (.str x) (.str x) = true := by simp only [PyData.eqv, beq_self_eq_true]
theorem eqv_i (n : Int) : PyData.eqv (.int n) (.int n) = true := by simp only [PyData.eqv, beq_self_eq_true]
theorem eqv_b (b : Bool) : PyData.eqv (.bool b) (.bool b) = true := by cases b <;> simp only [PyData.eqv, beq_self_eq_true]
theorem lay_i (n : Int) : PyData.canLay0 (.int n) = true := by simp only [PyData.canLay0]
theorem lay_b (n : Bool) : PyData.canLay0 (.bool n) = true := by simp only [PyData.canLay0]
theorem lay_text : PyData.canLay0 (.str "text") = true := by decide +kernel
theorem lay_letters : PyData.canLay0 (.str "letters") = true := by decide +kernel
theorem dep_i (n : Int) : PyData.depth (.int n) = 0 := by simp only [PyData.depth]
theorem dep_b (n : Bool) : PyData.depth (.bool n) = 0 := by simp only [PyData.depth]
theorem dep_s (n : Str) : PyData.depth (.str n) = 0 := by simp only [PyData.depth]
theorem sig_text (n : Int) : SeqAt.shaped (d3 (.str "text") (.int n) (.bool true)) = true := d3_shaped lay_text (lay_i _) (lay_b _) (dep_s _) (dep_i _) (dep_b _)
theorem sig_many (n m : Int) : SeqAt.shaped (d3 (.str "letters") (.int n) (.int m)) = true := d3_shaped lay_letters (lay_i _) (lay_i _) (dep_s _) (dep_i _) (dep_i _)
theorem at_ins {α : Type} {l m : List α} {c : α} {i : Nat} (h : i ≤ l.length) : (l.take i ++ [c] ++ m)[i]? = some c := by
  have e : (l.take i).length = i := by rw [List.length_take]; omega
  rw [List.append_assoc, List.getElem?_append_right (by rw [e]; exact Nat.le_refl _), e, Nat.sub_self]
  rfl
theorem at_low {α : Type} {l m : List α} {c d : α} {i j : Nat} (hj : j < i) (h : i ≤ l.length) (e : (l.take i ++ [c] ++ m)[j]? = some d) : d ∈ l := by
  have e1 : (l.take i).length = i := by rw [List.length_take]; omega
  rw [List.append_assoc, List.getElem?_append_left (by rw [e1]; exact hj)] at e
  exact List.mem_of_mem_take (List.mem_of_getElem? e)
end Law

namespace Law
open PySem PySem.Spec PyProof.Rows L2 Evl TR EK
def spRef : Sp := fun vs H Q _ => ∃ (p : PenI) (H0 : Hp) (n : Nat) (L : List Nat) (wd : Nat), vs = [.ref p.d, .str (tx L), .int (wd : Int)] ∧ PenAt p H0 H n ∧ n < 600000 ∧ LG L ∧ 1 ≤ wd ∧ wd ≤ 8 ∧ ∀ H', Q (.bl true) H'
theorem tA : (V.str "A") = V.str (tx [65]) := congrArg V.str (by decide +kernel)
theorem tDot : (V.str ".") = V.str (tx [46]) := congrArg V.str (by decide +kernel)
theorem tSp : (V.str " ") = V.str (tx [32]) := congrArg V.str (by decide +kernel)
theorem t1 : (V.str "1") = V.str (tx [49]) := congrArg V.str (by decide +kernel)
theorem tMi : (V.str "-") = V.str (tx [45]) := congrArg V.str (by decide +kernel)
theorem tNl : (V.str "\n") = V.str (tx [10]) := congrArg V.str (by decide +kernel)
theorem dot46 : Str.ofString "." = tx [46] := by decide +kernel
theorem low_not {L : List Nat} (h : LG L) {c : Nat} (hc : c < 97) : c ∉ L := fun m => by
  have := (h.az c m).1
  omega
theorem wins_5000 {wd : Nat} (w1 : 1 ≤ wd) (w8 : wd ≤ 8) : ((5000 : Int) - (wd : Int)).fdiv ((wd : Int) + 1) + 1 = (((5000 - wd) / (wd + 1) + 1 : Nat) : Int) := by
  have h : wd = 1 ∨ wd = 2 ∨ wd = 3 ∨ wd = 4 ∨ wd = 5 ∨ wd = 6 ∨ wd = 7 ∨ wd = 8 := by omega
  rcases h with rfl | rfl | rfl | rfl | rfl | rfl | rfl | rfl <;> decide
section
variable {P : Program} {w : World} {K : PySem.W.Frag} {mg : Str → Option Value} {base : Heap}
theorem ok_ref {f C_Searcher fi : Addr} {fd fdi : FuncData} (F : Fun K "_law_are_refused" "_law_are_refused" s_lare_refused f fd) (T : Tx mg) (M_Searcher : Mk K C_Searcher fi) (F_Searcher : FnOk P w K mg base CX0 42 fi fdi ["self", "letters", "width", "states"] (spInit C_Searcher)) (g_Searcher : mg "Searcher" = some (.ref C_Searcher))
    (b_Searcher : Binds K fdi ["self", "letters", "width", "states"] []) (c_ldraw : Kn P w K mg base "_law_draw" ["_law_pen_here", "_law_many"] 1 spDraw) (c_pickL : Kn P w K mg base "_law_pick" ["_law_pen_here", "_law_some"] 2 spPickL)
    (c_ltext : Kn P w K mg base "_law_text" ["_law_pen_here", "_law_letters_here", "_law_words", "_law_most"] 3 spText) (c_lmet : Kn P w K mg base "_law_met" ["_law_searcher", "_law_text_here"] 5 (spMet K C_Searcher)) :
    FnOk P w K mg base CX0 44 f fd ["_law_pen_here", "_law_letters_here", "_law_width"] spRef := by
  refine F.ok sc_lare_refused (fun vs H Q E h => ?_) (fun cdv A outer s H vs Q E hr h => ?_)
  · obtain ⟨p, H0, n, L, wd, rfl, _⟩ := h
    rfl
  · obtain ⟨p, H0, n, L, wd, rfl, P0, hn, hLG, w1, w8, q⟩ := h
    have L2' := hLG.lo
    have L4 := hLG.hi
    refine ⟨_, (pss_cons (ps_set (i := 3) sc_lare_refused.nd rfl (Or.inl rfl) (pe_make M_Searcher F_Searcher (hr.mono (by decide)) (by rfl) g_Searcher b_Searcher .nil pass0 (pa_cons (pv 1) (pa_cons (pv 2) (pa_cons (pe_lst (pa_cons (pe_tup (pa_cons pe_str (pa_cons (pe_op op_add (pv 2) pe_int) (pa_cons pe_int pa_nil)))) pa_nil)) pa_nil)))))
      (pss_cons (ps_set (i := 4) sc_lare_refused.nd rfl (Or.inl rfl) (pe_call c_ltext.ok (hr.mono (by decide)) (by rfl) c_ltext.g c_ltext.kp c_ltext.b .nil pass0 (pa_cons (pv 0) (pa_cons (pv 1) (pa_cons (pe_lst (pa_cons (pv 1) pa_nil)) (pa_cons pe_int pa_nil))))))
      (pss_cons (ps_par (i := 5) (j := 6) (by rfl) sc_lare_refused.nd rfl rfl (by decide) rfl rfl (pa_cons (pe_call c_ldraw.ok (hr.mono (by decide)) (by rfl) c_ldraw.g c_ldraw.kp c_ldraw.b .nil pass0 (pa_cons (pv 0) (pa_cons (pe_op op_add (pe_callB call_len_str (by rfl) T.len PySem.boot_len (pa_cons (pv 4) pa_nil)) pe_int) pa_nil))) (pa_cons (pe_call c_pickL.ok (hr.mono (by decide)) (by rfl) c_pickL.g c_pickL.kp c_pickL.b .nil pass0 (pa_cons (pv 0) (pa_cons (pe_lst (pa_cons pe_str (pa_cons pe_str (pa_cons pe_str (pa_cons pe_str (pa_cons pe_str (pa_cons pe_str pa_nil))))))) pa_nil))) pa_nil)) (by rfl))
      (pss_cons (ps_if (pt_cmpR (op_neD hr.units) (pe_call c_lmet.ok (hr.mono (by decide)) (by rfl) c_lmet.g c_lmet.kp c_lmet.b .nil pass0 (pa_cons (pv 3) (pa_cons (pe_op op_add_str (pe_op op_add_str (pe_slice sl_str (pv 4) po_none (po_some (pv 5))) (pv 6)) (pe_slice sl_str (pv 4) (po_some (pv 5)) po_none)) pa_nil))) (pe_tup (pa_cons pe_str (pa_cons (pv 5) (pa_cons pe_bl pa_nil)))) (nomark _)) (pss_one (ps_ret pe_bl)) pss_nil)
      (pss_cons (ps_set (i := 7) sc_lare_refused.nd rfl (Or.inl rfl) (pe_call c_pickL.ok (hr.mono (by decide)) (by rfl) c_pickL.g c_pickL.kp c_pickL.b .nil pass0 (pa_cons (pv 0) (pa_cons (pe_lst (pa_cons pe_non (pa_cons pe_int (pa_cons pe_bl (pa_cons (pe_lst pa_nil) (pa_cons (pe_lst (pa_cons (pv 4) pa_nil)) (pa_cons pe_dnewK (pa_cons (pe_tup (pa_cons (pv 4) pa_nil)) (pa_cons (pe_lst (pa_cons pe_str pa_nil)) (pa_cons (pe_op op_pow pe_int pe_int) pa_nil)))))))))) pa_nil))))
      (pss_cons (ps_if (pt_cmpR (op_neD hr.units) (pe_call c_lmet.ok (hr.mono (by decide)) (by rfl) c_lmet.g c_lmet.kp c_lmet.b .nil pass0 (pa_cons (pv 3) (pa_cons (pv 7) pa_nil))) (pe_tup (pa_cons pe_str (pa_cons pe_int (pa_cons pe_bl pa_nil)))) (nomark _)) (pss_one (ps_ret pe_bl)) pss_nil)
      (pss_cons (ps_set (i := 8) sc_lare_refused.nd rfl (Or.inl rfl) (pe_call c_pickL.ok (hr.mono (by decide)) (by rfl) c_pickL.g c_pickL.kp c_pickL.b .nil pass0 (pa_cons (pv 0) (pa_cons (pe_lst (pa_cons pe_int (pa_cons pe_int pa_nil))) pa_nil))))
      (pss_cons (ps_set (i := 9) sc_lare_refused.nd rfl (Or.inl rfl) (pe_slice sl_str (pe_op ZS.op_mulS (pv 1) pe_int) po_none (po_some (pv 8))))
      (pss_cons (ps_set (i := 10) sc_lare_refused.nd rfl (Or.inl rfl) (pe_ifExp (pt_cmpR op_eq (pv 8) pe_int (nomark _)) (pe_op op_add (pe_op op_fdivN (pe_op op_sub pe_int (pv 2)) (pe_op op_add (pv 2) pe_int)) pe_int) (pe_tup (pa_cons pe_str (pa_cons pe_int (pa_cons pe_int pa_nil))))))
      (pss_cons (ps_if (pt_cmpR (op_neD hr.units) (pe_call c_lmet.ok (hr.mono (by decide)) (by rfl) c_lmet.g c_lmet.kp c_lmet.b .nil pass0 (pa_cons (pv 3) (pa_cons (pv 9) pa_nil))) (pv 10) (nomark _)) (pss_one (ps_ret pe_bl)) pss_nil)
      (pss_one (ps_ret (pe_cmpR (op_eqD hr.units) (pe_call c_lmet.ok (hr.mono (by decide)) (by rfl) c_lmet.g c_lmet.kp c_lmet.b .nil pass0 (pa_cons (pv 3) (pa_cons (pe_op op_add_str (pe_op op_add_str (pv 9) pe_str) (pv 1)) pa_nil))) (pe_tup (pa_cons pe_str (pa_cons (pv 8) (pa_cons pe_bl pa_nil)))) (nomark _)))))))))))))), ?_⟩
    -- the searcher
    refine ⟨_, rfl, _, rfl, _, rfl, _, _, rfl, rfl, by show 3 ≤ sizeLine; decide, fun a1 ha1 => ⟨by show 1 ≤ sizeLine; decide, fun l1 hl1 => ?_⟩⟩
    have f1 := Ex.new (o := .tup [.str "go", .int ((wd : Int) + 1), .int 0]) ha1
    have f2 := Ex.new (o := .lst [.ref a1]) hl1
    have ha1' : (L2.upd (L2.upd H a1 (.tup [.str "go", .int ((wd : Int) + 1), .int 0])) l1 (.lst [.ref a1])) a1 = some (.tup [.str "go", .int ((wd + 1 : Nat) : Int), .int ((0 : Nat) : Int)]) := f2 _ _ upd_same
    have hl1' : (L2.upd (L2.upd H a1 (.tup [.str "go", .int ((wd : Int) + 1), .int 0])) l1 (.lst [.ref a1])) l1 = some (.lst [.ref a1]) := upd_same
    have P1 := P0.ex (f1.trans f2)
    generalize (L2.upd (L2.upd H a1 (.tup [.str "go", .int ((wd : Int) + 1), .int 0])) l1 (.lst [.ref a1])) = H1 at ha1' hl1' P1 ⊢
    have KK1 : Kids true H1 [.ref a1] [Tr.go (wd + 1) 0] := .cons (.go ha1') .nil
    have hok1 : ∀ t ∈ [Tr.go (wd + 1) 0], t.ok L.length wd [Tr.go (wd + 1) 0].length ∧ t.depth ≤ 40 := fun t ht => by
      rw [List.mem_singleton.mp ht]
      exact ⟨⟨by omega, by omega, by show 0 < 1; decide⟩, by show 1 ≤ 40; decide⟩
    refine fun o dx ho hdx hne => mk_sp (kt := false) ho hdx hne hl1' KK1 hLG w1 w8 (by show 1 ≤ 1; decide) (by show 1 ≤ 64; decide) hok1 (by show 1 + 0 ≤ 3000; decide) fun H2 e2 SO => ⟨rfl, ?_⟩
    have P2 := (P1.ex e2).fz
    have SB := SO.fz (B := H0)
    generalize TR.fz H0 H2 = B2 at P2 SB
    have mkS : ∀ {H' : Hp}, Ex B2 H' → Sch C_Searcher H' o L wd [Tr.go (wd + 1) 0] := fun e => ⟨SB.up e, hLG, w1, w8, by show 1 ≤ 1; decide, by show 1 ≤ 64; decide, fun t ht => (hok1 t ht).1, by show 1 + 0 ≤ 3000; decide⟩
    -- the text
    refine ⟨_, rfl, _, rfl, _, rfl, by show 1 ≤ sizeLine; decide, fun a3 ha3 => ?_⟩
    obtain ⟨P3, d3'⟩ := P2.made (o := .lst [.str (tx L)]) ha3
    have g3 : (L2.upd B2 a3 (.lst [.str (tx L)])) a3 = some (.lst [.str (tx L)]) := upd_same
    generalize (L2.upd B2 a3 (.lst [.str (tx L)])) = B3 at P3 d3' g3
    refine ⟨p, B3, n, 30, L, a3, rfl, P3, by omega, g3, L2', L4, Nat.le_refl _, fun H4 X P4 lX mX => ?_⟩
    -- a place, a sign
    refine ⟨_, rfl, _, rfl, _, rfl, tx_m (by omega), _, _, rfl, rfl, p, B3, _, _, rfl, P4, by omega, by rw [tx_len]; omega, by rw [tx_len]; omega, fun H5 r5 P5 r50 r51 => ?_⟩
    obtain ⟨at_, rfl⟩ : ∃ k : Nat, r5 = (k : Int) := ⟨r5.toNat, (Int.toNat_of_nonneg r50).symm⟩
    rw [tx_len] at r51
    have hat : at_ ≤ X.length := by omega
    refine ⟨_, rfl, by show 6 ≤ sizeLine; decide, fun a6 ha6 => ?_⟩
    obtain ⟨P6, d6⟩ := P5.made (o := .lst [.str "A", .str ".", .str " ", .str "1", .str "-", .str "\n"]) ha6
    refine ⟨p, _, a6, _, _, rfl, P6, by omega, upd_same, by show 0 < 6; decide, by show 6 < 1000; decide, fun H7 sv P7 hsv => ⟨_, _, rfl, ?_⟩⟩
    obtain ⟨c, rfl, hcL⟩ : ∃ c, sv = .str (tx [c]) ∧ c ∉ L := by
      rcases List.mem_cons.mp hsv with h | h
      · exact ⟨65, h.trans tA, low_not hLG (by decide)⟩
      rcases List.mem_cons.mp h with h | h
      · exact ⟨46, h.trans tDot, low_not hLG (by decide)⟩
      rcases List.mem_cons.mp h with h | h
      · exact ⟨32, h.trans tSp, low_not hLG (by decide)⟩
      rcases List.mem_cons.mp h with h | h
      · exact ⟨49, h.trans t1, low_not hLG (by decide)⟩
      rcases List.mem_cons.mp h with h | h
      · exact ⟨45, h.trans tMi, low_not hLG (by decide)⟩
      · exact ⟨10, (List.mem_singleton.mp h).trans tNl, low_not hLG (by decide)⟩
    have e7 := (d3'.trans d6).trans P7.1
    generalize (L2.upd B3 a6 (.lst [.str "A", .str ".", .str " ", .str "1", .str "-", .str "\n"])) = B7 at P7 d6 e7
    -- the first question
    refine ⟨_, rfl, _, rfl, _, rfl, _, rfl, _, rfl, tx_m (by omega), ?_⟩
    rw [cut_to]
    refine ⟨_, rfl, _, _, rfl, rfl, ?_, ?_⟩
    · rw [tx_len, tx_len, List.length_take]
      exact sz_m (by show _ + 1 ≤ _; omega)
    rw [tx_app]
    refine ⟨_, rfl, _, rfl, _, rfl, _, rfl, tx_m (by omega), ?_⟩
    rw [cut_from]
    refine ⟨_, _, rfl, rfl, ?_, ?_⟩
    · rw [tx_len, tx_len, List.length_append, List.length_take, List.length_drop]
      exact sz_m (by show _ + 1 + _ ≤ _; omega)
    rw [tx_app]
    have lZ : (X.take at_ ++ [c] ++ X.drop at_).length ≤ 10000 := by
      rw [List.length_append, List.length_append, List.length_take, List.length_drop]
      show _ + 1 + _ ≤ _
      omega
    refine ⟨o, L, wd, _, mkS e7, .inr (.inl ⟨_, at_, c, rfl, lZ, at_ins hat, hcL, fun j d hj hd => mX d (at_low hj hat hd), fun H8 r8 e8 hr8 => ?_⟩)⟩
    refine ⟨_, rfl, by show 3 ≤ sizeLine; decide, fun s8 hs8 => ?_⟩
    refine ⟨d3 (.str "text") (.int (at_ : Nat)) (.bool true), d3 (.str "text") (.int (at_ : Nat)) (.bool true), .tup (st_of ((Ex.new hs8) _ _ hr8)) (.cons (.str _) (.cons (.int _) (.cons (.bl _) .nil))), .tup (st_of upd_same) (.cons (.str _) (.cons (.int _) (.cons (.bl _) .nil))), sig_text _, sig_text _, _, rfl, ?_⟩
    rw [d3_eqv (eqv_s _) (eqv_i _) (eqv_b _)]
    refine iteF ?_
    have P8 := P7.ex (e8.trans (Ex.new (o := .tup [.str "text", .int (at_ : Nat), .bl true]) hs8))
    generalize (L2.upd H8 s8 (.tup [.str "text", .int (at_ : Nat), .bl true])) = H9 at P8 ⊢
    -- the second one: values that are no texts
    refine ⟨_, rfl, Nat.zero_le _, fun b1 hb1 => ⟨_, rfl, by show 1 ≤ sizeLine; decide, fun b2 hb2 => fun dd hdd => ⟨_, rfl, by show 1 ≤ sizeLine; decide, fun b3 hb3 => ⟨by show 1 ≤ sizeLine; decide, fun b5 hb5 => ⟨_, _, rfl, rfl, ⟨by decide, by decide, by decide⟩, by show 9 ≤ sizeLine; decide, fun b6 hb6 => ?_⟩⟩⟩⟩⟩
    obtain ⟨Q1, c1⟩ := P8.made (o := .lst []) hb1
    obtain ⟨Q2, c2⟩ := Q1.made (o := .lst [.str (tx X)]) hb2
    obtain ⟨Q3, c3⟩ := Q2.made (o := .dK []) hdd
    obtain ⟨Q4, c4⟩ := Q3.made (o := .tup [.str (tx X)]) hb3
    obtain ⟨Q5, c5⟩ := Q4.made (o := .lst [.str "a"]) hb5
    obtain ⟨Q6, c6⟩ := Q5.made (o := .lst [.non, .int 0, .bl true, .ref b1, .ref b2, .ref dd, .ref b3, .ref b5, .int (10 ^ (30 : Int).toNat)]) hb6
    refine ⟨p, _, b6, _, _, rfl, Q6, by omega, upd_same, by show 0 < 9; decide, by show 9 < 1000; decide, fun H10 v P10 hv => ?_⟩
    obtain ⟨ty0, ty, kk⟩ : ∃ t, TyX K H10 v t ∧ PySem.W.kitOne K t (.type "str") = some false := by
      have x := P10.1
      rcases List.mem_cons.mp hv with h | hv
      · exact ⟨_, by rw [h]; exact .base .non, kit_ty (by decide +kernel)⟩
      rcases List.mem_cons.mp hv with h | hv
      · exact ⟨_, by rw [h]; exact .base (.int _), kit_ty (by decide +kernel)⟩
      rcases List.mem_cons.mp hv with h | hv
      · exact ⟨_, by rw [h]; exact .base (.bl _), kit_ty (by decide +kernel)⟩
      rcases List.mem_cons.mp hv with h | hv
      · exact ⟨_, by rw [h]; exact .base (.lst (x _ _ (c6 _ _ (c5 _ _ (c4 _ _ (c3 _ _ (c2 _ _ upd_same))))))), kit_ty (by decide +kernel)⟩
      rcases List.mem_cons.mp hv with h | hv
      · exact ⟨_, by rw [h]; exact .base (.lst (x _ _ (c6 _ _ (c5 _ _ (c4 _ _ (c3 _ _ upd_same)))))), kit_ty (by decide +kernel)⟩
      rcases List.mem_cons.mp hv with h | hv
      · exact ⟨_, by rw [h]; exact .base (.dK (x _ _ (c6 _ _ (c5 _ _ (c4 _ _ upd_same))))), kit_ty (by decide +kernel)⟩
      rcases List.mem_cons.mp hv with h | hv
      · exact ⟨_, by rw [h]; exact .base (.tup (x _ _ (c6 _ _ (c5 _ _ upd_same)))), kit_ty (by decide +kernel)⟩
      rcases List.mem_cons.mp hv with h | hv
      · exact ⟨_, by rw [h]; exact .base (.lst (x _ _ (c6 _ _ upd_same))), kit_ty (by decide +kernel)⟩
      · exact ⟨_, by rw [List.mem_singleton.mp hv]; exact .base (.int _), kit_ty (by decide +kernel)⟩
    have e10 := (d3'.trans d6).trans ((((((c1.trans c2).trans c3).trans c4).trans c5).trans c6).trans P10.1)
    refine ⟨_, rfl, _, rfl, o, L, wd, _, mkS e10, .inr (.inr (.inr ⟨v, ty0, rfl, ty, kk, fun H11 r11 e11 hr11 => ?_⟩))⟩
    refine ⟨by show 3 ≤ sizeLine; decide, fun s11 hs11 => ?_⟩
    refine ⟨d3 (.str "text") (.int 0) (.bool true), d3 (.str "text") (.int 0) (.bool true), .tup (st_of ((Ex.new hs11) _ _ hr11)) (.cons (.str _) (.cons (.int _) (.cons (.bl _) .nil))), .tup (st_of upd_same) (.cons (.str _) (.cons (.int _) (.cons (.bl _) .nil))), sig_text _, sig_text _, _, rfl, ?_⟩
    rw [d3_eqv (eqv_s _) (eqv_i _) (eqv_b _)]
    refine iteF ?_
    have P11 := P10.ex (e11.trans (Ex.new (o := .tup [.str "text", .int 0, .bl true]) hs11))
    have e12 := e10.trans (e11.trans (Ex.new (o := .tup [.str "text", .int 0, .bl true]) hs11))
    generalize (L2.upd H11 s11 (.tup [.str "text", .int 0, .bl true])) = H12 at P11 e12 ⊢
    -- long texts
    refine ⟨_, rfl, by show 2 ≤ sizeLine; decide, fun a12 ha12 => ?_⟩
    refine ⟨p, _, a12, _, _, rfl, P11.ex (Ex.new (o := .lst [.int 5000, .int 5001]) ha12), by omega, upd_same, by show 0 < 2; decide, by show 2 < 1000; decide, fun H13 v13 P13 hv13 => ?_⟩
    have e13 : Ex B2 H13 := (d3'.trans d6).trans ((((((c1.trans c2).trans c3).trans c4).trans c5).trans c6).trans P13.1)
    obtain ⟨N, rfl, hN⟩ : ∃ N : Nat, v13 = .int (N : Nat) ∧ (N = 5000 ∨ N = 5001) := by
      rcases List.mem_cons.mp hv13 with h | h
      · exact ⟨5000, h, .inl rfl⟩
      · exact ⟨5001, List.mem_singleton.mp h, .inr rfl⟩
    refine ⟨_, rfl, _, _, rfl, rfl, mulOk_of 4 2501 (by rw [tx_len]; omega) (by decide) (by decide) (by decide) (by decide), _, rfl, _, rfl, _, rfl, ?_, ?_⟩
    · rw [mul_tx L (by decide), tx_len, rep_len]
      have : (2501 : Int).toNat * L.length ≤ 2501 * 4 := Nat.mul_le_mul (Nat.le_refl _) L4
      exact sz_m (by omega)
    rw [mul_tx L (by decide), cut_to]
    obtain ⟨W, hW⟩ : ∃ W, (List.replicate (2501 : Int).toNat L).flatten.take N = W := ⟨_, rfl⟩
    rw [hW]
    have lW : W.length = N := by
      rw [← hW, List.length_take, rep_len]
      have : 2501 * 2 ≤ (2501 : Int).toNat * L.length := Nat.mul_le_mul (Nat.le_refl _) L2'
      omega
    have mW : ∀ c ∈ W, c ∈ L := fun c hc => by
      rw [← hW] at hc
      exact mem_rep (List.mem_of_mem_take hc)
    have hdot : (V.str ".") = V.str (tx [46]) := tDot
    have lW2 : (W ++ [46] ++ L).length ≤ 10000 := by
      rw [List.length_append, List.length_append]
      show W.length + 1 + L.length ≤ _
      omega
    have w46 : (W ++ [46] ++ L)[N]? = some 46 := by
      have := at_ins (l := W) (m := L) (c := 46) (i := W.length) (Nat.le_refl _)
      rw [List.take_length] at this
      rw [← lW]
      exact this
    have wlow : ∀ j d, j < N → (W ++ [46] ++ L)[j]? = some d → d ∈ L := fun j d hj hd => by
      refine mW d (at_low (l := W) (m := L) (c := 46) (i := W.length) (j := j) (by omega) (Nat.le_refl _) ?_)
      rw [List.take_length]
      exact hd
    rcases hN with rfl | rfl
    · refine ⟨_, rfl, rfl, _, rfl, iteD rfl ?_⟩
      refine ⟨_, rfl, _, _, rfl, rfl, _, rfl, _, _, rfl, rfl, _, _, rfl, rfl, ⟨by omega, by omega⟩, _, _, rfl, rfl, ?_⟩
      refine ⟨_, rfl, _, rfl, o, L, wd, _, mkS e13, .inl ⟨W, rfl, mW, by omega, fun H14 e14 => ?_⟩⟩
      rw [search_go1 (by omega) (by omega), if_pos (by omega), lW]
      refine ⟨_, rfl, .int _, .int _, .int _, .int _, rfl, rfl, _, rfl, ?_⟩
      rw [wins_5000 w1 w8]
      rw [show (5000 - wd - 0) / (wd + 1) + 1 = (5000 - wd) / (wd + 1) + 1 from rfl, eqv_i]
      refine iteF ?_
      refine ⟨_, rfl, _, rfl, _, _, rfl, rfl, ?_, ?_⟩
      · rw [dot46, tx_len, tx_len]
        exact sz_m (by show W.length + 1 ≤ _; omega)
      rw [dot46, tx_app]
      refine ⟨_, rfl, _, _, rfl, rfl, ?_, ?_⟩
      · rw [tx_len, tx_len, List.length_append]
        exact sz_m (by show W.length + 1 + L.length ≤ _; omega)
      rw [tx_app]
      refine ⟨o, L, wd, _, mkS (e13.trans e14), .inr (.inl ⟨_, 5000, 46, rfl, lW2, w46, low_not hLG (by decide), wlow, fun H15 r15 e15 hr15 => ?_⟩)⟩
      refine ⟨_, rfl, by show 3 ≤ sizeLine; decide, fun s15 hs15 => ?_⟩
      refine ⟨d3 (.str "text") (.int (5000 : Nat)) (.bool true), d3 (.str "text") (.int (5000 : Nat)) (.bool true), .tup (st_of ((Ex.new hs15) _ _ hr15)) (.cons (.str _) (.cons (.int _) (.cons (.bl _) .nil))), .tup (st_of upd_same) (.cons (.str _) (.cons (.int _) (.cons (.bl _) .nil))), sig_text _, sig_text _, ?_⟩
      rw [d3_eqv (eqv_s _) (eqv_i _) (eqv_b _)]
      exact q _
    · refine ⟨_, rfl, rfl, _, rfl, iteDn (fun h => absurd (V.int.inj h) (by decide)) ?_⟩
      refine ⟨by show 3 ≤ sizeLine; decide, fun td htd => ?_⟩
      have f14 := Ex.new (o := .tup [.str "letters", .int 5001, .int 5000]) htd
      refine ⟨_, rfl, _, rfl, o, L, wd, _, mkS (e13.trans f14), .inr (.inr (.inl ⟨W, rfl, mW, by omega, by omega, fun H14 r14 e14 hr14 => ?_⟩))⟩
      rw [lW] at hr14
      refine ⟨_, rfl, d3 (.str "letters") (.int (5001 : Nat)) (.int 5000), d3 (.str "letters") (.int 5001) (.int 5000), .tup (st_of hr14) (.cons (.str _) (.cons (.int _) (.cons (.int _) .nil))), .tup (st_of (e14 _ _ upd_same)) (.cons (.str _) (.cons (.int _) (.cons (.int _) .nil))), sig_many _ _, sig_many _ _, _, rfl, ?_⟩
      rw [show d3 (.str "letters") (.int ((5001 : Nat) : Int)) (.int 5000) = d3 (.str "letters") (.int 5001) (.int 5000) from rfl, d3_eqv (eqv_s _) (eqv_i _) (eqv_i _)]
      refine iteF ?_
      refine ⟨_, rfl, _, rfl, _, _, rfl, rfl, ?_, ?_⟩
      · rw [dot46, tx_len, tx_len]
        exact sz_m (by show W.length + 1 ≤ _; omega)
      rw [dot46, tx_app]
      refine ⟨_, rfl, _, _, rfl, rfl, ?_, ?_⟩
      · rw [tx_len, tx_len, List.length_append]
        exact sz_m (by show W.length + 1 + L.length ≤ _; omega)
      rw [tx_app]
      refine ⟨o, L, wd, _, mkS (e13.trans (f14.trans e14)), .inr (.inl ⟨_, 5001, 46, rfl, lW2, w46, low_not hLG (by decide), wlow, fun H15 r15 e15 hr15 => ?_⟩)⟩
      refine ⟨_, rfl, by show 3 ≤ sizeLine; decide, fun s15 hs15 => ?_⟩
      refine ⟨d3 (.str "text") (.int (5001 : Nat)) (.bool true), d3 (.str "text") (.int (5001 : Nat)) (.bool true), .tup (st_of ((Ex.new hs15) _ _ hr15)) (.cons (.str _) (.cons (.int _) (.cons (.bl _) .nil))), .tup (st_of upd_same) (.cons (.str _) (.cons (.int _) (.cons (.bl _) .nil))), sig_text _, sig_text _, ?_⟩
      rw [d3_eqv (eqv_s _) (eqv_i _) (eqv_b _)]
      exact q _
end
end Law

namespace TR
open PySem PySem.Spec L2 Evl
/-! ### what comes of a search is small -/
mutual
theorem Tr.run_small {L S : List Nat} {l w n : Nat} : ∀ (t : Tr), t.ok l w n → (∀ x ∈ (t.run L S).1, x.1 ≤ w ∧ x.2 ∈ S) ∧ ∀ x ∈ (t.run L S).2.1, x ≤ 2
  | .go s q, h => by
    rw [run_go]
    exact ⟨(fun x hx => nomatch hx), (fun x hx => nomatch hx)⟩
  | .tell k t, h => by
    have := Tr.run_small (L := L) (S := S) t h.2
    rw [run_tell]
    refine ⟨this.1, fun x hx => ?_⟩
    rcases List.mem_cons.mp hx with e | e
    · rw [e]
      exact h.1
    · exact this.2 x e
  | .read p ts, h => by
    cases hp : S[p]? with
    | none =>
      rw [run_none hp]
      exact ⟨(fun x hx => nomatch hx), (fun x hx => nomatch hx)⟩
    | some c =>
      have := Trs.run_small (L := L) (S := S) ts (ixN L c) h.2.2
      simp only [Tr.run, hp]
      refine ⟨fun x hx => ?_, this.2⟩
      rcases List.mem_cons.mp hx with e | e
      · rw [e]
        exact ⟨h.1, List.mem_of_getElem? hp⟩
      · exact this.1 x e
theorem Trs.run_small {L S : List Nat} {l w n : Nat} : ∀ (ts : Trs) (i : Nat), ts.ok l w n → (∀ x ∈ (ts.runAt L S i).1, x.1 ≤ w ∧ x.2 ∈ S) ∧ ∀ x ∈ (ts.runAt L S i).2.1, x ≤ 2
  | .nil, i, h => by
    simp only [Trs.runAt]
    exact ⟨(fun x hx => nomatch hx), (fun x hx => nomatch hx)⟩
  | .cons t r, 0, h => by
    simp only [Trs.runAt]
    exact Tr.run_small t h.1
  | .cons t r, j + 1, h => by
    simp only [Trs.runAt]
    exact Trs.run_small r j h.2
end
def WSm (S : List Nat) (x : Win) : Prop := x.1 < 100 ∧ x.2.1 < 100 ∧ x.2.2.length ≤ 100 ∧ ∀ y ∈ x.2.2, y.1 < 100 ∧ y.2 ∈ S
theorem search_small {w m : Nat} {ts : List Tr} {L X : List Nat} (hw : w ≤ 8) (hX : X.length ≤ 50) (hm : m ≤ 50) (hts : ∀ t ∈ ts, t.ok L.length w m ∧ t.size ≤ 100) : ∀ (f p q : Nat), q < 100 →
    (search w ts L X f p q).1.length ≤ f ∧ (search w ts L X f p q).2.length ≤ 100 * f ∧ (∀ x ∈ (search w ts L X f p q).1, WSm X x) ∧ ∀ x ∈ (search w ts L X f p q).2, x.1 < 100 ∧ x.2 < 100
  | 0, p, q, hq => ⟨Nat.le_refl _, Nat.le_refl _, (fun x hx => nomatch hx), (fun x hx => nomatch hx)⟩
  | f + 1, p, q, hq => by
    by_cases hp : p + w ≤ X.length
    · cases ht : ts[q]? with
      | none =>
        rw [search, if_pos hp, ht]
        exact ⟨Nat.zero_le _, Nat.zero_le _, (fun x hx => nomatch hx), (fun x hx => nomatch hx)⟩
      | some t =>
        obtain ⟨tok, tsz⟩ := hts t (List.mem_of_getElem? ht)
        have hl := Tr.run_len (L := L) (S := (X.drop p).take (w + 1)) t
        have hs := Tr.run_small (L := L) (S := (X.drop p).take (w + 1)) t tok
        have hin : ∀ c, c ∈ (X.drop p).take (w + 1) → c ∈ X := fun c hc => List.mem_of_mem_drop (List.mem_of_mem_take hc)
        have h1 : WSm X (p, q, (t.run L ((X.drop p).take (w + 1))).1) := ⟨by show p < 100; omega, hq, by show (t.run L ((X.drop p).take (w + 1))).1.length ≤ 100; omega, fun y hy => ⟨by have := (hs.1 y hy).1; omega, hin _ (hs.1 y hy).2⟩⟩
        have h2 : ∀ x ∈ (t.run L ((X.drop p).take (w + 1))).2.1.map (fun n => (p, n)), x.1 < 100 ∧ x.2 < 100 := fun x hx => by
          obtain ⟨k, hk, rfl⟩ := List.mem_map.mp hx
          exact ⟨by show p < 100; omega, by have := hs.2 k hk; show k < 100; omega⟩
        have h3 : ((t.run L ((X.drop p).take (w + 1))).2.1.map (fun n => (p, n))).length ≤ 100 := by
          rw [List.length_map]
          omega
        cases hg : (t.run L ((X.drop p).take (w + 1))).2.2 with
        | none =>
          rw [search_cut hp ht hg]
          refine ⟨by show 1 ≤ _; omega, Nat.le_trans h3 (by omega), fun x hx => ?_, h2⟩
          rw [List.mem_singleton.mp hx]
          exact h1
        | some z =>
          obtain ⟨s, q'⟩ := z
          have hq' := (Tr.run_ok tok hg).2.2
          obtain ⟨i1, i2, i3, i4⟩ := search_small hw hX hm hts f (p + s) q' (by omega)
          rw [search_go hp ht hg]
          refine ⟨by show _ + 1 ≤ _; omega, ?_, fun x hx => ?_, fun x hx => ?_⟩
          · show List.length (_ ++ _) ≤ _
            rw [List.length_append]
            omega
          · rcases List.mem_cons.mp hx with e | e
            · rw [e]
              exact h1
            · exact i3 x e
          · rcases List.mem_append.mp hx with e | e
            · exact h2 x e
            · exact i4 x e
    · rw [search_end hp]
      exact ⟨Nat.zero_le _, Nat.zero_le _, (fun x hx => nomatch hx), (fun x hx => nomatch hx)⟩
end TR
namespace TR
open PySem PySem.Spec L2 Evl
/-! ### a tree as data -/
mutual
def Tr.data : Tr → PyData
  | .go s q => .tuple [.str "go", .int (s : Nat), .int (q : Nat)]
  | .tell n t => .tuple [.str "tell", .int (n : Nat), t.data]
  | .read p ts => .tuple [.str "read", .int (p : Nat), .tuple ts.data]
def Trs.data : Trs → List PyData
  | .nil => []
  | .cons t r => t.data :: r.data
end
mutual
theorem TA.dp {K : PySem.W.Frag} {H : Hp} : ∀ {t : Tr} {v : V}, TA true H v t → Dp K H v t.data
  | _, _, .go h => .tup (st_of h) (.cons (.str _) (.cons (.int _) (.cons (.int _) .nil)))
  | _, _, .tell h r => .tup (st_of h) (.cons (.str _) (.cons (.int _) (.cons (TA.dp r) .nil)))
  | _, _, .read h hb r => .tup (st_of h) (.cons (.str _) (.cons (.int _) (.cons (.tup (st_of hb) (TAs.dp r)) .nil)))
theorem TAs.dp {K : PySem.W.Frag} {H : Hp} : ∀ {ts : Trs} {vs : List V}, TAs true H vs ts → DpAll K H vs ts.data
  | _, _, .nil => .nil
  | _, _, .cons h r => .cons (TA.dp h) (TAs.dp r)
end
theorem Kids.dp {K : PySem.W.Frag} {H : Hp} : ∀ {ts : List Tr} {vs : List V}, Kids true H vs ts → DpAll K H vs (ts.map Tr.data)
  | _, _, .nil => .nil
  | _, _, .cons h r => .cons h.dp (Kids.dp r)
theorem ok_str (x : String) (h : PyData.canLay0 (.str x) = true := by decide +kernel) : PyData.canLay0 (.str x) = true := h
mutual
theorem Tr.lays : ∀ t : Tr, t.data.canLay0 = true
  | .go s q => by
    simp only [Tr.data, PyData.canLay0, PyData.canLayAll0, Bool.and_true]
    decide +kernel
  | .tell n t => by
    simp only [Tr.data, PyData.canLay0, PyData.canLayAll0, Bool.and_true, Bool.true_and, Tr.lays t]
    decide +kernel
  | .read p ts => by
    simp only [Tr.data, PyData.canLay0, PyData.canLayAll0, Bool.and_true, Bool.true_and, Trs.lays ts]
    decide +kernel
theorem Trs.lays : ∀ ts : Trs, PyData.canLayAll0 ts.data = true
  | .nil => by simp only [Trs.data, PyData.canLayAll0]
  | .cons t r => by simp only [Trs.data, PyData.canLayAll0, Tr.lays t, Trs.lays r, Bool.and_true]
end
mutual
theorem Tr.deep : ∀ t : Tr, t.data.depth ≤ 2 * t.depth
  | .go s q => by
    simp only [Tr.data, PyData.depth, PyData.depthAll, Tr.depth]
    decide
  | .tell n t => by
    have := Tr.deep t
    simp only [Tr.data, PyData.depth, PyData.depthAll, Tr.depth]
    omega
  | .read p ts => by
    have := Trs.deep ts
    simp only [Tr.data, PyData.depth, PyData.depthAll, Tr.depth]
    omega
theorem Trs.deep : ∀ ts : Trs, PyData.depthAll ts.data ≤ 2 * ts.depth
  | .nil => Nat.zero_le _
  | .cons t r => by
    have := Tr.deep t
    have := Trs.deep r
    simp only [Trs.data, PyData.depthAll, Trs.depth]
    omega
end
theorem eqv3 (x y : Str) (m n : Nat) (a b : PyData) : PyData.eqv (.tuple [.str x, .int (m : Nat), a]) (.tuple [.str y, .int (n : Nat), b]) = ((x == y) && (((m : Int) == (n : Int)) && (PyData.eqv a b && true))) := by
  simp only [PyData.eqv, PyData.eqvAll]
theorem eqv3_of {x y : Str} {m n : Nat} {a b : PyData} (h : PyData.eqv (.tuple [.str x, .int (m : Nat), a]) (.tuple [.str y, .int (n : Nat), b]) = true) : x = y ∧ m = n ∧ PyData.eqv a b = true := by
  rw [eqv3] at h
  simp only [Bool.and_eq_true, beq_iff_eq] at h
  exact ⟨h.1, by have := h.2.1; omega, h.2.2.1⟩
theorem g_t : ¬ (("go" : Str) = "tell") := by decide +kernel
theorem g_r : ¬ (("go" : Str) = "read") := by decide +kernel
theorem t_r : ¬ (("tell" : Str) = "read") := by decide +kernel
theorem eqvI {m n : Nat} (h : PyData.eqv (.int (m : Nat)) (.int (n : Nat)) = true) : m = n := by
  have h2 : ((m : Int) == (n : Int)) = true := by
    simpa only [PyData.eqv] using h
  have := beq_iff_eq.mp h2
  omega
theorem eqvT {xs ys : List PyData} : PyData.eqv (.tuple xs) (.tuple ys) = PyData.eqvAll xs ys := by
  simp only [PyData.eqv]
mutual
theorem Tr.inj : ∀ t u : Tr, PyData.eqv t.data u.data = true → t = u
  | .go s q, .go s' q', h => by
    obtain ⟨_, h1, h2⟩ := eqv3_of h
    rw [h1, eqvI h2]
  | .tell n t, .tell n' t', h => by
    obtain ⟨_, h1, h2⟩ := eqv3_of h
    rw [h1, Tr.inj t t' h2]
  | .read p ts, .read p' us, h => by
    obtain ⟨_, h1, h2⟩ := eqv3_of h
    rw [eqvT] at h2
    rw [h1, Trs.inj ts us h2]
  | .go _ _, .tell _ _, h => absurd (eqv3_of h).1 g_t
  | .go _ _, .read _ _, h => absurd (eqv3_of h).1 g_r
  | .tell _ _, .go _ _, h => absurd (eqv3_of h).1.symm g_t
  | .tell _ _, .read _ _, h => absurd (eqv3_of h).1 t_r
  | .read _ _, .go _ _, h => absurd (eqv3_of h).1.symm g_r
  | .read _ _, .tell _ _, h => absurd (eqv3_of h).1.symm t_r
theorem Trs.inj : ∀ t u : Trs, PyData.eqvAll t.data u.data = true → t = u
  | .nil, .nil, _ => rfl
  | .cons t r, .cons t' r', h => by
    simp only [Trs.data, PyData.eqvAll, Bool.and_eq_true] at h
    rw [Tr.inj t t' h.1, Trs.inj r r' h.2]
  | .nil, .cons _ _, h => by simp [Trs.data, PyData.eqvAll] at h
  | .cons _ _, .nil, h => by simp [Trs.data, PyData.eqvAll] at h
end
theorem eqv3_mk (x : Str) (m : Nat) {a : PyData} (h : PyData.eqv a a = true) : PyData.eqv (.tuple [.str x, .int (m : Nat), a]) (.tuple [.str x, .int (m : Nat), a]) = true := by
  rw [eqv3, h]
  simp
mutual
theorem Tr.same : ∀ t : Tr, PyData.eqv t.data t.data = true
  | .go s q => eqv3_mk _ _ (by simp only [PyData.eqv, beq_self_eq_true])
  | .tell n t => eqv3_mk _ _ (Tr.same t)
  | .read p ts => eqv3_mk _ _ (by rw [eqvT]; exact Trs.same ts)
theorem Trs.same : ∀ t : Trs, PyData.eqvAll t.data t.data = true
  | .nil => by simp only [Trs.data, PyData.eqvAll]
  | .cons t r => by simp only [Trs.data, PyData.eqvAll, Tr.same t, Trs.same r, Bool.and_true]
end
/-- the states as data -/
def sdata (ts : List Tr) : PyData := .tuple (ts.map Tr.data)
theorem sd_inj : ∀ ts us : List Tr, PyData.eqvAll (ts.map Tr.data) (us.map Tr.data) = true → ts = us
  | [], [], _ => rfl
  | t :: r, u :: s, h => by
    simp only [List.map_cons, PyData.eqvAll, Bool.and_eq_true] at h
    rw [Tr.inj t u h.1, sd_inj r s h.2]
  | [], _ :: _, h => by simp [PyData.eqvAll] at h
  | _ :: _, [], h => by simp [PyData.eqvAll] at h
theorem sd_same : ∀ ts : List Tr, PyData.eqvAll (ts.map Tr.data) (ts.map Tr.data) = true
  | [] => by simp only [List.map_nil, PyData.eqvAll]
  | t :: r => by simp only [List.map_cons, PyData.eqvAll, Tr.same t, sd_same r, Bool.and_true]
theorem sd_lays : ∀ ts : List Tr, PyData.canLayAll0 (ts.map Tr.data) = true
  | [] => by simp only [List.map_nil, PyData.canLayAll0]
  | t :: r => by simp only [List.map_cons, PyData.canLayAll0, Tr.lays t, sd_lays r, Bool.and_true]
theorem sd_deep {d : Nat} : ∀ {ts : List Tr}, (∀ t ∈ ts, t.depth ≤ d) → PyData.depthAll (ts.map Tr.data) ≤ 2 * d
  | [], _ => by simp only [List.map_nil, PyData.depthAll]; exact Nat.zero_le _
  | t :: r, h => by
    have h1 := Tr.deep t
    have h2 := h t List.mem_cons_self
    have h3 := sd_deep (ts := r) fun x hx => h x (List.mem_cons_of_mem _ hx)
    simp only [List.map_cons, PyData.depthAll]
    omega
theorem sd_shaped {ts : List Tr} (h : ∀ t ∈ ts, t.depth ≤ 31) : SeqAt.shaped (sdata ts) = true := by
  have h1 := sd_deep h
  unfold SeqAt.shaped sdata
  rw [Bool.and_eq_true]
  refine ⟨by simp only [PyData.canLay0, sd_lays], decide_eq_true ?_⟩
  simp only [PyData.depth]
  omega
theorem sd_eqv {ts us : List Tr} (d : Bool) (h : d = true ↔ ts = us) : PyData.eqv (sdata ts) (sdata us) = d := by
  unfold sdata
  rw [eqvT]
  cases d
  · cases e : PyData.eqvAll (ts.map Tr.data) (us.map Tr.data)
    · rfl
    · exact absurd (h.mpr (sd_inj _ _ e)) (by decide)
  · rw [h.mp rfl]
    exact sd_same _
end TR
namespace TR
open PySem PySem.Spec L2 Evl
theorem dig (n : Nat) (h : n < 100) : ((toString ((n : Nat) : Int) : String) : Str).length ≤ 2 := by
  have all : ∀ i : Fin 100, ((toString ((i.val : Nat) : Int) : String) : Str).length ≤ 2 := by decide +kernel
  exact all ⟨n, h⟩
theorem q_go : (reprText ("go" : Str)).length ≤ 6 := by decide +kernel
theorem q_tell : (reprText ("tell" : Str)).length ≤ 6 := by decide +kernel
theorem q_read : (reprText ("read" : Str)).length ≤ 6 := by decide +kernel
theorem shown3 (x : Str) (n : Nat) (a : PyData) (hx : (reprText x).length ≤ 6) (hn : n < 100) : (PyData.shown (.tuple [.str x, .int (n : Nat), a])).length ≤ 16 + a.shown.length := by
  have h1 := fmt_text [reprText x, ((toString ((n : Nat) : Int) : String) : Str), a.shown]
  rw [piled_cons, piled_cons, piled_cons] at h1
  have h2 := dig n hn
  have e0 : piled [] = 0 := rfl
  have e : PyData.shown (.tuple [.str x, .int (n : Nat), a]) = tupleText [reprText x, ((toString ((n : Nat) : Int) : String) : Str), a.shown] := by
    simp only [PyData.shown, PyData.shownAll]
  rw [e]
  omega
mutual
theorem Tr.shown_le {l w n : Nat} (hw : w ≤ 8) (hn : n ≤ 64) : ∀ t : Tr, t.ok l w n → t.data.shown.length + 2 ≤ 40 * t.size
  | .go s q, h => by
    have h1 := shown3 "go" s (.int (q : Nat)) q_go (by have := h.2.1; omega)
    have h2 : (PyData.shown (.int (q : Nat))).length ≤ 2 := by
      have e : PyData.shown (.int (q : Nat)) = ((toString ((q : Nat) : Int) : String) : Str) := by simp only [PyData.shown]
      rw [e]
      exact dig q (by have := h.2.2; omega)
    show (PyData.shown (.tuple [.str "go", .int (s : Nat), .int (q : Nat)])).length + 2 ≤ 40 * 1
    omega
  | .tell k t, h => by
    have h1 := shown3 "tell" k t.data q_tell (by have := h.1; omega)
    have h2 := Tr.shown_le hw hn t h.2
    show (PyData.shown (.tuple [.str "tell", .int (k : Nat), t.data])).length + 2 ≤ 40 * (t.size + 1)
    omega
  | .read p ts, h => by
    have h1 := shown3 "read" p (.tuple ts.data) q_read (by have := h.1; omega)
    have h2 := Trs.shown_le hw hn ts h.2.2
    have h3 := fmt_text (PyData.shownAll ts.data)
    have e : PyData.shown (.tuple ts.data) = tupleText (PyData.shownAll ts.data) := by simp only [PyData.shown]
    rw [e] at h1
    show (PyData.shown (.tuple [.str "read", .int (p : Nat), .tuple ts.data])).length + 2 ≤ 40 * (ts.size + 1)
    omega
theorem Trs.shown_le {l w n : Nat} (hw : w ≤ 8) (hn : n ≤ 64) : ∀ ts : Trs, ts.ok l w n → piled (PyData.shownAll ts.data) ≤ 40 * ts.size
  | .nil, _ => by
    have e : PyData.shownAll Trs.nil.data = [] := by simp only [Trs.data, PyData.shownAll]
    rw [e]
    exact Nat.zero_le _
  | .cons t r, h => by
    have h1 := Tr.shown_le hw hn t h.1
    have h2 := Trs.shown_le hw hn r h.2
    have e : PyData.shownAll (Trs.cons t r).data = t.data.shown :: PyData.shownAll r.data := by simp only [Trs.data, PyData.shownAll]
    rw [e, piled_cons]
    show _ ≤ 40 * (t.size + r.size)
    omega
end
theorem sd_piled {l w n : Nat} (hw : w ≤ 8) (hn : n ≤ 64) : ∀ {ts : List Tr}, (∀ t ∈ ts, t.ok l w n) → piled (PyData.shownAll (ts.map Tr.data)) ≤ 40 * TR.total ts
  | [], _ => by
    have e : PyData.shownAll (([] : List Tr).map Tr.data) = [] := by simp only [List.map_nil, PyData.shownAll]
    rw [e]
    exact Nat.zero_le _
  | t :: r, h => by
    have h1 := Tr.shown_le hw hn t (h t List.mem_cons_self)
    have h2 := sd_piled hw hn (ts := r) fun x hx => h x (List.mem_cons_of_mem _ hx)
    have e : PyData.shownAll ((t :: r).map Tr.data) = t.data.shown :: PyData.shownAll (r.map Tr.data) := by simp only [List.map_cons, PyData.shownAll]
    rw [e, piled_cons]
    show _ ≤ 40 * (t.size + TR.total r)
    omega
theorem sd_shown {l w n : Nat} (hw : w ≤ 8) (hn : n ≤ 64) {ts : List Tr} (h : ∀ t ∈ ts, t.ok l w n) : (sdata ts).shown.length ≤ 40 * TR.total ts + 2 := by
  have h1 := fmt_text (PyData.shownAll (ts.map Tr.data))
  have h2 := sd_piled hw hn h
  have e : (sdata ts).shown = tupleText (PyData.shownAll (ts.map Tr.data)) := by
    unfold sdata
    simp only [PyData.shown]
  rw [e]
  omega
/-- repr of data, where no text is being made -/
structure RP (K : PySem.W.Frag) (xs : List V) (H : Hp) (Q : VK) : Prop where
  ex : ∃ a d, xs = [.ref a] ∧ Dp K H (.ref a) d ∧ d.showable = true ∧ d.hasDict = false ∧ d.depth ≤ 64 ∧ d.shown.length ≤ sizeLine ∧ Q (.str d.shown) H
abbrev rRepr (K : PySem.W.Frag) : List V → Hp → VK → Prop := fun xs H Q => RP K xs H Q
theorem call_reprD {X : Cx} (hg : X.A.guards = some []) (hu : X.A.units + 70 < cLine) : CallR X (.builtin "repr") (rRepr X.K) := by
  intro pins s σ H xs us Q I r h
  obtain ⟨a, d, rfl, hd, h1, h2, h3, h4, q⟩ := h.ex
  obtain ⟨u, rfl, ru⟩ := vals1 r
  obtain ⟨as, rd⟩ := Dp.reads I d _ u hd ru
  cases ru
  exact repr_of_reads' rd h1 (fun e => by rw [h2] at e; cases e) hg (by omega) (fun _ _ e => e) (fun h' u tk hk => ⟨.str d.shown, H, I.kept hk, ⟨u, rfl⟩, q⟩) h4
theorem shI {n : Nat} (h : n < 100) : PyData.showable (.int (n : Nat)) = true := by
  have all : ∀ i : Fin 100, PyData.showable (.int (i.val : Nat)) = true := by
    intro i
    simp only [PyData.showable, decide_eq_true_eq]
    revert i
    decide +kernel
  exact all ⟨n, h⟩
theorem sh3 (x : Str) {n : Nat} {a : PyData} (h : n < 100) (ha : a.showable = true) : PyData.showable (.tuple [.str x, .int (n : Nat), a]) = true := by
  have h2 := shI h
  simp only [PyData.showable, PyData.showableAll, Bool.and_true, Bool.true_and] at h2 ⊢
  rw [h2, ha]
  rfl
theorem hd3 (x : Str) {n : Nat} {a : PyData} (ha : a.hasDict = false) : PyData.hasDict (.tuple [.str x, .int (n : Nat), a]) = false := by
  simp only [PyData.hasDict, PyData.hasDictAll, Bool.or_false, Bool.false_or, ha]
mutual
theorem Tr.shows {l w n : Nat} (hw : w ≤ 8) (hn : n ≤ 64) : ∀ t : Tr, t.ok l w n → t.data.showable = true ∧ t.data.hasDict = false
  | .go s q, h => ⟨sh3 _ (by have := h.2.1; omega) (shI (by have := h.2.2; omega)), hd3 _ (by simp only [PyData.hasDict])⟩
  | .tell k t, h => ⟨sh3 _ (by have := h.1; omega) (Tr.shows hw hn t h.2).1, hd3 _ (Tr.shows hw hn t h.2).2⟩
  | .read p ts, h => ⟨sh3 _ (by have := h.1; omega) (by simp only [PyData.showable]; exact (Trs.shows hw hn ts h.2.2).1), hd3 _ (by simp only [PyData.hasDict]; exact (Trs.shows hw hn ts h.2.2).2)⟩
theorem Trs.shows {l w n : Nat} (hw : w ≤ 8) (hn : n ≤ 64) : ∀ ts : Trs, ts.ok l w n → PyData.showableAll ts.data = true ∧ PyData.hasDictAll ts.data = false
  | .nil, _ => ⟨by simp only [Trs.data, PyData.showableAll], by simp only [Trs.data, PyData.hasDictAll]⟩
  | .cons t r, h => ⟨by simp only [Trs.data, PyData.showableAll, (Tr.shows hw hn t h.1).1, (Trs.shows hw hn r h.2).1, Bool.and_true], by simp only [Trs.data, PyData.hasDictAll, (Tr.shows hw hn t h.1).2, (Trs.shows hw hn r h.2).2, Bool.or_false]⟩
end
theorem sd_shows {l w n : Nat} (hw : w ≤ 8) (hn : n ≤ 64) : ∀ {ts : List Tr}, (∀ t ∈ ts, t.ok l w n) → PyData.showableAll (ts.map Tr.data) = true ∧ PyData.hasDictAll (ts.map Tr.data) = false
  | [], _ => ⟨by simp only [List.map_nil, PyData.showableAll], by simp only [List.map_nil, PyData.hasDictAll]⟩
  | t :: r, h => by
    have h1 := Tr.shows hw hn t (h t List.mem_cons_self)
    have h2 := sd_shows hw hn (ts := r) fun x hx => h x (List.mem_cons_of_mem _ hx)
    exact ⟨by simp only [List.map_cons, PyData.showableAll, h1.1, h2.1, Bool.and_true], by simp only [List.map_cons, PyData.hasDictAll, h1.2, h2.2, Bool.or_false]⟩
/-- the text of the states -/
theorem repr_st {K : PySem.W.Frag} {H : Hp} {a : Addr} {us : List V} {ts : List Tr} {l w n : Nat} {Q : VK} (h : H a = some (.tup us)) (KK : Kids true H us ts) (hw : w ≤ 8) (hn : n ≤ 64) (hok : ∀ t ∈ ts, t.ok l w n) (hd : ∀ t ∈ ts, t.depth ≤ 31) (hs : TR.total ts ≤ 10000)
    (q : Q (.str (sdata ts).shown) H) : RP K [.ref a] H Q := by
  have h1 := sd_shown hw hn hok
  have h2 := sd_shows hw hn hok
  have h3 := sd_deep hd
  refine ⟨⟨a, sdata ts, rfl, .tup (st_of h) KK.dp, ?_, ?_, ?_, Nat.le_trans (show (sdata ts).shown.length ≤ 1000000 by omega) (by decide), q⟩⟩
  · unfold sdata
    simp only [PyData.showable]
    exact h2.1
  · unfold sdata
    simp only [PyData.hasDict]
    exact h2.2
  · unfold sdata
    simp only [PyData.depth]
    omega
end TR
namespace Law
open PySem PySem.Spec PyProof.Rows L2 Evl TR EK
/-! reads, windows and pairs as data -/
def rdata (x : Nat × Nat) : PyData := .tuple [.int (x.1 : Nat), .str (sg x.2)]
def wdata (x : Win) : PyData := .tuple [.int (x.1 : Nat), .int (x.2.1 : Nat), .tuple (x.2.2.map rdata)]
def pdata (x : Nat × Nat) : PyData := .tuple [.int (x.1 : Nat), .int (x.2 : Nat)]
theorem RdA.dp {K : PySem.W.Frag} {H : Hp} : ∀ {us : List V} {rs : List (Nat × Nat)}, RdA H us rs → DpAll K H us (rs.map rdata)
  | _, _, .nil => .nil
  | _, _, .cons h r => .cons (.tup (st_of h) (.cons (.int _) (.cons (.str _) .nil))) (RdA.dp r)
theorem WnA.dp {K : PySem.W.Frag} {H : Hp} : ∀ {us : List V} {rs : List Win}, WnA H us rs → DpAll K H us (rs.map wdata)
  | _, _, .nil => .nil
  | _, _, .cons h1 h2 h3 r => .cons (.tup (st_of h1) (.cons (.int _) (.cons (.int _) (.cons (.tup (st_of h2) h3.dp) .nil)))) (WnA.dp r)
theorem PrA.dp {K : PySem.W.Frag} {H : Hp} : ∀ {us : List V} {rs : List (Nat × Nat)}, PrA H us rs → DpAll K H us (rs.map pdata)
  | _, _, .nil => .nil
  | _, _, .cons h r => .cons (.tup (st_of h) (.cons (.int _) (.cons (.int _) .nil))) (PrA.dp r)
/-- data that may be shown: this deep, this long -/
structure GoodD (k b : Nat) (d : PyData) : Prop where
  s : d.showable = true
  n : d.hasDict = false
  dp : d.depth ≤ k
  l : d.shown.length ≤ b
theorem GoodD.le {k b k' b' : Nat} {d : PyData} (h : GoodD k b d) (hk : k ≤ k') (hb : b ≤ b') : GoodD k' b' d := ⟨h.s, h.n, Nat.le_trans h.dp hk, Nat.le_trans h.l hb⟩
theorem good_all {k b : Nat} : ∀ {ds : List PyData}, (∀ d ∈ ds, GoodD k b d) → PyData.showableAll ds = true ∧ PyData.hasDictAll ds = false ∧ PyData.depthAll ds ≤ k ∧ piled (PyData.shownAll ds) ≤ ds.length * (b + 2)
  | [], _ => ⟨by simp only [PyData.showableAll], by simp only [PyData.hasDictAll], Nat.zero_le _, by
    have e : PyData.shownAll [] = [] := by simp only [PyData.shownAll]
    rw [e]
    exact Nat.zero_le _⟩
  | d :: r, h => by
    obtain ⟨h1, h2, h3, h4⟩ := h d List.mem_cons_self
    obtain ⟨i1, i2, i3, i4⟩ := good_all (ds := r) fun x hx => h x (List.mem_cons_of_mem _ hx)
    refine ⟨by simp only [PyData.showableAll, h1, i1, Bool.and_true], by simp only [PyData.hasDictAll, h2, i2, Bool.or_false], by simp only [PyData.depthAll]; omega, ?_⟩
    have e : PyData.shownAll (d :: r) = d.shown :: PyData.shownAll r := by simp only [PyData.shownAll]
    rw [e, piled_cons]
    show _ ≤ (r.length + 1) * (b + 2)
    rw [Nat.succ_mul]
    omega
theorem good_tup {k b : Nat} {ds : List PyData} (h : ∀ d ∈ ds, GoodD k b d) : GoodD (k + 1) (ds.length * (b + 2) + 2) (.tuple ds) := by
  obtain ⟨h1, h2, h3, h4⟩ := good_all h
  refine ⟨by simp only [PyData.showable, h1], by simp only [PyData.hasDict, h2], by simp only [PyData.depth]; omega, ?_⟩
  have e : PyData.shown (.tuple ds) = tupleText (PyData.shownAll ds) := by simp only [PyData.shown]
  rw [e]
  have := fmt_text (PyData.shownAll ds)
  omega
theorem good_int {n : Nat} (h : n < 100) : GoodD 0 2 (.int (n : Nat)) := by
  refine ⟨shI h, by simp only [PyData.hasDict], by simp only [PyData.depth]; exact Nat.le_refl _, ?_⟩
  have e : PyData.shown (.int (n : Nat)) = ((toString ((n : Nat) : Int) : String) : Str) := by simp only [PyData.shown]
  rw [e]
  exact dig n h
theorem sg_shown {c : Nat} (h1 : 97 ≤ c) (h2 : c ≤ 122) : (reprText (sg c)).length ≤ 6 := by
  have all : ∀ i : Fin 26, (reprText (sg (97 + i.val))).length ≤ 6 := by decide +kernel
  have := all ⟨c - 97, by omega⟩
  rw [show 97 + (c - 97) = c by omega] at this
  exact this
theorem good_sg {c : Nat} (h1 : 97 ≤ c) (h2 : c ≤ 122) : GoodD 0 6 (.str (sg c)) := by
  refine ⟨by simp only [PyData.showable], by simp only [PyData.hasDict], by simp only [PyData.depth]; exact Nat.le_refl _, ?_⟩
  have e : PyData.shown (.str (sg c)) = reprText (sg c) := by simp only [PyData.shown]
  rw [e]
  exact sg_shown h1 h2
theorem good_win {X : List Nat} (hX : ∀ c ∈ X, 97 ≤ c ∧ c ≤ 122) {x : Win} (h : WSm X x) : GoodD 3 6100 (wdata x) := by
  obtain ⟨h1, h2, h3, h4⟩ := h
  have hr : GoodD 2 2002 (.tuple (x.2.2.map rdata)) := by
    refine (good_tup (k := 1) (b := 18) fun d hd => ?_).le (Nat.le_refl _) ?_
    · obtain ⟨y, hy, rfl⟩ := List.mem_map.mp hd
      obtain ⟨y1, y2⟩ := h4 y hy
      have y3 := hX _ y2
      refine (good_tup (k := 0) (b := 6) fun d hd => ?_).le (Nat.le_refl _) (by show 2 * 8 + 2 ≤ 18; decide)
      rcases List.mem_cons.mp hd with e | e
      · rw [e]
        exact (good_int y1).le (Nat.le_refl _) (by decide)
      · rw [List.mem_singleton.mp e]
        exact good_sg y3.1 y3.2
    · rw [List.length_map]
      have : x.2.2.length * (18 + 2) ≤ 100 * 20 := Nat.mul_le_mul h3 (Nat.le_refl _)
      omega
  refine (good_tup (k := 2) (b := 2002) fun d hd => ?_).le (Nat.le_refl _) (by show 3 * 2004 + 2 ≤ 6100; decide)
  rcases List.mem_cons.mp hd with e | hd
  · rw [e]
    exact (good_int h1).le (by decide) (by decide)
  rcases List.mem_cons.mp hd with e | hd
  · rw [e]
    exact (good_int h2).le (by decide) (by decide)
  · rw [List.mem_singleton.mp hd]
    exact hr
/-- the text of windows, the text of pairs -/
theorem repr_wins {K : PySem.W.Frag} {H : Hp} {a : Addr} {us : List V} {ws : List Win} {X : List Nat} {Q : VK} (h : H a = some (.tup us)) (hW : WnA H us ws) (hX : ∀ c ∈ X, 97 ≤ c ∧ c ≤ 122) (hl : ws.length ≤ 100) (hs : ∀ x ∈ ws, WSm X x) (q : Q (.str (PyData.shown (.tuple (ws.map wdata)))) H) : RP K [.ref a] H Q := by
  have G := good_tup (k := 3) (b := 6100) (ds := ws.map wdata) fun d hd => by
    obtain ⟨y, hy, rfl⟩ := List.mem_map.mp hd
    exact good_win hX (hs y hy)
  rw [List.length_map] at G
  have hb : ws.length * (6100 + 2) ≤ 100 * 6102 := Nat.mul_le_mul hl (Nat.le_refl _)
  exact ⟨⟨a, _, rfl, .tup (st_of h) hW.dp, G.s, G.n, Nat.le_trans G.dp (by decide), Nat.le_trans G.l (Nat.le_trans (show ws.length * (6100 + 2) + 2 ≤ 1000000 by omega) (by decide)), q⟩⟩
theorem repr_prs {K : PySem.W.Frag} {H : Hp} {a : Addr} {us : List V} {ps : List (Nat × Nat)} {Q : VK} (h : H a = some (.tup us)) (hP : PrA H us ps) (hl : ps.length ≤ 10000) (hs : ∀ x ∈ ps, x.1 < 100 ∧ x.2 < 100) (q : Q (.str (PyData.shown (.tuple (ps.map pdata)))) H) : RP K [.ref a] H Q := by
  have G := good_tup (k := 1) (b := 10) (ds := ps.map pdata) fun d hd => by
    obtain ⟨y, hy, rfl⟩ := List.mem_map.mp hd
    obtain ⟨y1, y2⟩ := hs y hy
    refine (good_tup (k := 0) (b := 2) fun d hd => ?_).le (Nat.le_refl _) (by show 2 * 4 + 2 ≤ 10; decide)
    rcases List.mem_cons.mp hd with e | e
    · rw [e]
      exact good_int y1
    · rw [List.mem_singleton.mp e]
      exact good_int y2
  rw [List.length_map] at G
  have hb : ps.length * (10 + 2) ≤ 10000 * 12 := Nat.mul_le_mul hl (Nat.le_refl _)
  exact ⟨⟨a, _, rfl, .tup (st_of h) hP.dp, G.s, G.n, Nat.le_trans G.dp (by decide), Nat.le_trans G.l (Nat.le_trans (show ps.length * (10 + 2) + 2 ≤ 1000000 by omega) (by decide)), q⟩⟩
end Law

namespace EK
open PySem PySem.Spec PyProof.Rows L2
theorem split {t : TE} {g : TG} {u : TS} {D : Ends} {σ : L2.St} {H : Hp} (Pq : V → Hp → Prop) (h1 : ∀ R : VK, (∀ v H', Pq v H' → R v H') → t σ H R) (h2 : ∀ v H', Pq v H' → g v σ H' (u D)) : tSeq (tAsg t g) u D σ H := h1 _ h2
end EK
namespace Law
open PySem PySem.Spec PyProof.Rows L2 Evl TR EK
theorem PenAt.base {p : PenI} {H0 H1 B H : Hp} {n m : Nat} (P : PenAt p B H n) (P0 : PenAt p H0 H1 m) (e : Ex H0 B) : PenAt p H0 H n :=
  ⟨e.trans P.1, P0.2.1, P0.2.2.1, P.2.2.2⟩
theorem cost_len : ∀ ws : List Win, (ws.map fun w => (w.2.2.length : Int)).sum = ((costN ws : Nat) : Int) := sum_wins
def spLaw (K : PySem.W.Frag) : Sp := fun vs H Q _ => ∃ (a : Addr) (ns : List Int), vs = [.ref a] ∧ SqL K H a (ns.map V.int) ∧ ns.length ≤ 63 ∧ ∀ H', Q (.bl true) H'
section
variable {P : Program} {w : World} {K : PySem.W.Frag} {mg : Str → Option Value} {base : Heap}
theorem ok_law {f C_Searcher fi C_Trace C_BadText C_TooMany : Addr} {fd fdi : FuncData} (F : Fun K "law" "law" s_law f fd) (T : Tx mg) (g_repr : mg "repr" = none) (S : SC K C_Searcher) (ST : TC K C_Trace) (M_Searcher : Mk K C_Searcher fi) (F_Searcher : FnOk P w K mg base CX0 42 fi fdi ["self", "letters", "width", "states"] (spInit C_Searcher)) (g_Searcher : mg "Searcher" = some (.ref C_Searcher))
    (b_Searcher : Binds K fdi ["self", "letters", "width", "states"] []) (c_lpen : Kn P w K mg base "_law_pen" ["_law_script"] 1 (spPen K)) (c_ldraw : Kn P w K mg base "_law_draw" ["_law_pen_here", "_law_many"] 1 spDraw) (c_lletters : Kn P w K mg base "_law_letters" ["_law_pen_here"] 3 spLetters)
    (c_ltrees : Kn P w K mg base "_law_trees" ["_law_pen_here", "_law_letters_here", "_law_width", "_law_many", "_law_depth"] 7 spTrees) (c_ltext : Kn P w K mg base "_law_text" ["_law_pen_here", "_law_letters_here", "_law_words", "_law_most"] 3 spText)
    (c_lsearch : Kn P w K mg base "_law_search" ["_law_letters_here", "_law_width", "_law_states", "_law_text_here"] 2 spSearch) (c_trace : Kn' P w K mg base (L2.CX P w) "trace" ["searcher", "text"] 4 (spTrace K C_Searcher C_Trace C_BadText C_TooMany))
    (c_lare_refused : Kn P w K mg base "_law_are_refused" ["_law_pen_here", "_law_letters_here", "_law_width"] 44 spRef) : GD.Gd P w K mg base 46 f fd ["_law_script"] (spLaw K) := by
  refine GD.okG F sc_law (fun vs H Q E h => ?_) (fun cdv A outer s H vs Q E hr hg h => ?_)
  · obtain ⟨a, ns, rfl, _⟩ := h
    rfl
  · obtain ⟨a, ns, rfl, hS, hl, q⟩ := h
    refine ⟨_, (pss_cons (ps_set (i := 1) sc_law.nd rfl (Or.inl rfl) (pe_call c_lpen.ok (hr.mono (by decide)) (by rfl) c_lpen.g c_lpen.kp c_lpen.b .nil pass0 (pa_cons (pv 0) pa_nil)))
      (pss_cons (ps_for PassesOwn.never rfl (pi_range1 (by rfl) T.range (pa_cons (pe_op op_add pe_int (pe_callB (call_min2 rfl) (by rfl) T.min (by decide +kernel) (pa_cons pe_int (pa_cons (pe_callB call_len_seq (by rfl) T.len PySem.boot_len (pa_cons (pv 0) pa_nil)) pa_nil)))) pa_nil)) (pg_name (i := 2) sc_law.nd rfl (Or.inl rfl)) (pss_cons (ps_par3 (i := 3) (j := 4) (l := 5) (by rfl) sc_law.nd rfl rfl rfl (by decide) (by decide) (by decide) rfl rfl rfl (pa_cons (pe_call c_lletters.ok (hr.mono (by decide)) (by rfl) c_lletters.g c_lletters.kp c_lletters.b .nil pass0 (pa_cons (pv 1) pa_nil)) (pa_cons (pe_op op_add pe_int (pe_call c_ldraw.ok (hr.mono (by decide)) (by rfl) c_ldraw.g c_ldraw.kp c_ldraw.b .nil pass0 (pa_cons (pv 1) (pa_cons pe_int pa_nil)))) (pa_cons (pe_op op_add pe_int (pe_call c_ldraw.ok (hr.mono (by decide)) (by rfl) c_ldraw.g c_ldraw.kp c_ldraw.b .nil pass0 (pa_cons (pv 1) (pa_cons pe_int pa_nil)))) pa_nil))) (by rfl))
      (pss_cons (ps_set (i := 6) sc_law.nd rfl (Or.inl rfl) (pe_call c_ltrees.ok (hr.mono (by decide)) (by rfl) c_ltrees.g c_ltrees.kp c_ltrees.b .nil pass0 (pa_cons (pv 1) (pa_cons (pv 3) (pa_cons (pv 4) (pa_cons (pv 5) (pa_cons pe_int pa_nil)))))))
      (pss_cons (ps_set (i := 7) sc_law.nd rfl (Or.inl rfl) (pe_make M_Searcher F_Searcher (hr.mono (by decide)) (by rfl) g_Searcher b_Searcher .nil pass0 (pa_cons (pv 3) (pa_cons (pv 4) (pa_cons (pv 6) pa_nil)))))
      (pss_cons (ps_for PassesOwn.never rfl (pi_range1 (by rfl) T.range (pa_cons pe_int pa_nil)) (pg_name (i := 8) sc_law.nd rfl (Or.inl rfl)) (pss_cons (ps_set (i := 9) sc_law.nd rfl (Or.inl rfl) (pe_call c_ltext.ok (hr.mono (by decide)) (by rfl) c_ltext.g c_ltext.kp c_ltext.b .nil pass0 (pa_cons (pv 1) (pa_cons (pv 3) (pa_cons (pe_lst (pa_cons (pv 3) pa_nil)) (pa_cons pe_int pa_nil))))))
      (pss_cons (ps_set (i := 9) sc_law.nd rfl (Or.inl rfl) (pe_ifExp (pt_cmpR op_eq (pv 8) pe_int (nomark _)) (pe_slice sl_str (pv 9) po_none (po_some (pe_op op_add (pv 4) (pe_call c_ldraw.ok (hr.mono (by decide)) (by rfl) c_ldraw.g c_ldraw.kp c_ldraw.b .nil pass0 (pa_cons (pv 1) (pa_cons pe_int pa_nil)))))) (pv 9)))
      (pss_cons (ps_asg (pe_call c_lsearch.ok (hr.mono (by decide)) (by rfl) c_lsearch.g c_lsearch.kp c_lsearch.b .nil pass0 (pa_cons (pv 3) (pa_cons (pv 4) (pa_cons (pv 6) (pa_cons (pv 9) pa_nil))))) (pg_tup (by rfl) (pgs_cons (pg_name (i := 10) sc_law.nd rfl (Or.inl rfl)) (pgs_cons (pg_name (i := 11) sc_law.nd rfl (Or.inl rfl)) pgs_nil))))
      (pss_one (ps_for PassesOwn.never rfl (pi_range1 (by rfl) T.range (pa_cons pe_int pa_nil)) (pg_name (i := 12) sc_law.nd rfl (Or.inl rfl)) (pss_cons (ps_set (i := 13) sc_law.nd rfl (Or.inl rfl) (pe_call c_trace.ok (hr.mono (by decide)) (by rfl) c_trace.g c_trace.kp c_trace.b .nil passL (pa_cons (pv 7) (pa_cons (pv 9) pa_nil))))
      (pss_cons (ps_if (PW.pt (pw_or (pt_cmpR op_ne (pe_callB (TR.call_reprD hg (TR.room70 hr)) (by rfl) g_repr boot_repr (pa_cons (pe_fld (pv 13) rfl) pa_nil)) (pe_callB (TR.call_reprD hg (TR.room70 hr)) (by rfl) g_repr boot_repr (pa_cons (pe_callTy call_tuple_of (by rfl) T.tuple PyProof.Rows.boot_tuple (pa_cons (pv 10) pa_nil)) pa_nil)) (nomark _)) (pw_or1 (pt_cmpR op_ne (pe_callB (TR.call_reprD hg (TR.room70 hr)) (by rfl) g_repr boot_repr (pa_cons (pe_fld (pv 13) rfl) pa_nil)) (pe_callB (TR.call_reprD hg (TR.room70 hr)) (by rfl) g_repr boot_repr (pa_cons (pe_callTy call_tuple_of (by rfl) T.tuple PyProof.Rows.boot_tuple (pa_cons (pv 11) pa_nil)) pa_nil)) (nomark _))))) (pss_one (ps_ret pe_bl)) pss_nil)
      (pss_one (ps_if (pt_cmpR op_ne (pe_fld (pv 13) rfl) (pe_callB (cr_sum rfl) (by rfl) T.sum (by decide +kernel) (pa_cons (pe_lc (own := [("_law_place", 14), ("_law_state", 15), ("_law_reads", 16)]) (g := gTup K 3 (gCons (gName 14) (gCons (gName 15) (gCons (gName 16) gNil)))) (tt := tYes) rfl sc_law.nd (pi_list (pv 10)) (blkOk_by (N := N_law) (sc := defScope s_law) (by decide +kernel)) (fun _ _ _ _ _ => (pg_tup (by rfl) (pgs_cons (pg_name (i := 14) sc_law.nd rfl (Or.inl rfl)) (pgs_cons (pg_name (i := 15) sc_law.nd rfl (Or.inl rfl)) (pgs_cons (pg_name (i := 16) sc_law.nd rfl (Or.inl rfl)) pgs_nil))))) (fun _ _ _ _ _ => pts_nil) (fun _ _ _ _ _ => (pe_callB (show CallR _ _ (TR.rLenQ K) from call_len_seq) (by rfl) T.len PySem.boot_len (pa_cons (pv 16) pa_nil)))) pa_nil)) (nomark _)) (pss_one (ps_ret pe_bl)) pss_nil))))))))))
      (pss_one (ps_if (pt_cmpR op_ne (pe_callB (TR.call_reprD hg (TR.room70 hr)) (by rfl) g_repr boot_repr (pa_cons (pe_fld (pv 7) rfl) pa_nil)) (pe_callB (TR.call_reprD hg (TR.room70 hr)) (by rfl) g_repr boot_repr (pa_cons (pe_callTy call_tuple_of (by rfl) T.tuple PyProof.Rows.boot_tuple (pa_cons (pv 6) pa_nil)) pa_nil)) (nomark _)) (pss_one (ps_ret pe_bl)) pss_nil)))))))
      (pss_one (ps_ret (pe_call c_lare_refused.ok (hr.mono (by decide)) (by rfl) c_lare_refused.g c_lare_refused.kp c_lare_refused.b .nil pass0 (pa_cons (pv 1) (pa_cons (pv 3) (pa_cons (pv 4) pa_nil)))))))), ?_⟩
    refine ⟨_, rfl, a, ns, rfl, hS, hl, fun p H0 H1 eH P0 => ?_⟩
    have hS1 : SqL K H1 a (ns.map V.int) := ex_l (eH.trans P0.1) hS
    have hm10 : 5 ≤ (5 : Int) + (if ((ns.map V.int).length : Int) < 6 then ((ns.map V.int).length : Int) else 6) ∧ (5 : Int) + (if ((ns.map V.int).length : Int) < 6 then ((ns.map V.int).length : Int) else 6) ≤ 11 := by
      by_cases q : ((ns.map V.int).length : Int) < 6
      · rw [if_pos q]; omega
      · rw [if_neg q]; omega
    refine ⟨_, rfl, a, _, rfl, .inl hS1, _, _, rfl, _, _, rfl, rfl, _, rfl, by omega, by omega, ?_⟩
    obtain ⟨m, hm⟩ : ∃ m : Nat, ((5 : Int) + (if ((ns.map V.int).length : Int) < 6 then ((ns.map V.int).length : Int) else 6)).toNat = m := ⟨_, rfl⟩
    rw [hm]
    have hm2 : m ≤ 11 := by omega
    have hm5 : 5 ≤ m := by omega
    refine for_range (lo := 0) (n := m) (fun i σ H' => ∃ y2 y3 y4 y5 y6 y7 y8 y9 y10 y11 y12 y13 y14 y15 y16 : Option V, σ = [some (.ref a), some (.ref p.d), y2, y3, y4, y5, y6, y7, y8, y9, y10, y11, y12, y13, y14, y15, y16] ∧ PenAt p H0 H' (5000 * i) ∧
        (i = 0 ∨ ∃ (L : List Nat) (wd : Nat), y3 = some (.str (tx L)) ∧ y4 = some (.int (wd : Int)) ∧ LG L ∧ 1 ≤ wd ∧ wd ≤ 8))
      ⟨none, none, none, none, none, none, none, none, none, none, none, none, none, none, none, rfl, P0, .inl rfl⟩ (fun i σ H' hi hw => ?_) (fun σ H' hw => ?_)
    · obtain ⟨y2, y3, y4, y5, y6, y7, y8, y9, y10, y11, y12, y13, y14, y15, y16, rfl, P1, _⟩ := hw
      refine ⟨_, rfl, p, H0, _, rfl, P1, by omega, fun H2 lf lq lm P2 b1 b2 b3 b4 => ?_⟩
      have hLG := lets_good b1 b2 b3 b4
      obtain ⟨L, hLe⟩ : ∃ L, lets lf lq lm = L := ⟨_, rfl⟩
      rw [hLe] at hLG ⊢
      have L2' := hLG.lo
      have L4 := hLG.hi
      refine ⟨_, rfl, p, H0, _, 8, rfl, P2, by omega, by decide, by decide, fun H3 r3 P3 r30 r31 => ⟨_, _, rfl, rfl, ?_⟩⟩
      obtain ⟨wd, hwd⟩ : ∃ wd : Nat, (1 : Int) + r3 = (wd : Int) := ⟨(1 + r3).toNat, (Int.toNat_of_nonneg (by omega)).symm⟩
      dsimp only
      rw [hwd]
      refine ⟨_, rfl, p, H0, _, 4, rfl, P3, by omega, by decide, by decide, fun H4 r4 P4 r40 r41 => ⟨_, _, rfl, rfl, ?_⟩⟩
      obtain ⟨mn, hmn⟩ : ∃ mn : Nat, (1 : Int) + r4 = (mn : Int) := ⟨(1 + r4).toNat, (Int.toNat_of_nonneg (by omega)).symm⟩
      dsimp only
      rw [hmn]
      refine ⟨_, _, _, rfl, ?_⟩
      refine ⟨_, rfl, _, rfl, _, rfl, _, rfl, p, H0, _, L, wd, mn, rfl, P4, by omega, L2', L4, by omega, by omega, by omega, by omega, fun B1 H5 r us ts d1 P5 hr0 hr1 KK hlen hall => ?_⟩
      have e5 := P5.1
      have hr5 := e5 _ _ hr1
      have KK5 := KK.ex e5
      have lus := KK.len
      have htot : TR.total ts ≤ 400 := by
        have := total_le (s := 100) fun t ht => (hall t ht).2.2
        omega
      have hok1 : ∀ t ∈ ts, t.ok L.length wd ts.length ∧ t.depth ≤ 40 := fun t ht => ⟨by rw [hlen]; exact (hall t ht).1, by have := (hall t ht).2.1; omega⟩
      have hok3 : ∀ t ∈ ts, t.ok L.length wd ts.length ∧ t.size ≤ 100 := fun t ht => ⟨by rw [hlen]; exact (hall t ht).1, (hall t ht).2.2⟩
      -- the searcher
      refine ⟨_, rfl, _, rfl, _, rfl, fun o dx ho hdx hne => mk_sp (kt := false) ho hdx hne hr5 KK5 hLG (by omega) (by omega) (by omega) (by omega) hok1 (by omega) fun H6 e6 SO => ⟨rfl, ?_⟩⟩
      have P6 := (P5.ex e6).fz
      have SB := SO.fz (B := B1)
      have dB := d1.trans (fz_sub (P5.ex e6).1)
      have hrB := (fz_sub (P5.ex e6).1) _ _ hr1
      have KB := KK.ex (fz_sub (P5.ex e6).1)
      generalize TR.fz B1 H6 = B2 at P6 SB dB hrB KB
      refine ⟨_, rfl, by decide, by decide, for_range (lo := 0) (n := 4) (fun j σ H' => ∃ z8 z9 z10 z11 z12 z13 z14 z15 z16 : Option V, σ = [some (.ref a), some (.ref p.d), some (.int (0 + (i : Int))), some (.str (tx L)), some (.int (wd : Int)), some (.int (mn : Int)), some (.ref r), some (.ref o), z8, z9, z10, z11, z12, z13, z14, z15, z16] ∧ PenAt p B2 H' (5000 * i + 1005 + 400 * j))
        ⟨_, _, _, _, _, _, _, _, _, rfl, P6.le (by omega)⟩ (fun j σ H' hj hw => ?_) (fun σ H' hw => ?_)⟩
      · obtain ⟨z8, z9, z10, z11, z12, z13, z14, z15, z16, rfl, P7⟩ := hw
        -- the text
        refine ⟨_, rfl, _, rfl, _, rfl, by show 1 ≤ sizeLine; decide, fun a3 ha3 => ?_⟩
        obtain ⟨P8, d8⟩ := P7.made (o := .lst [.str (tx L)]) ha3
        have g3 : (L2.upd B2 a3 (.lst [.str (tx L)])) a3 = some (.lst [.str (tx L)]) := upd_same
        generalize (L2.upd B2 a3 (.lst [.str (tx L)])) = B3 at P8 d8 g3
        refine ⟨p, B3, _, 24, L, a3, rfl, P8, by omega, g3, L2', L4, by decide, fun H9 X9 P9 lX9 mX9 => ?_⟩
        dsimp only [gName]
        refine EK.split (fun v H' => ∃ X, v = .str (tx X) ∧ PenAt p B3 H' (5000 * i + 1005 + 400 * j + 301) ∧ X.length ≤ 24 ∧ ∀ c ∈ X, c ∈ L) (fun R hR => ?_) (fun v H10 hv => ?_)
        · refine ⟨_, rfl, rfl, _, rfl, ite2 (fun _ => ?_) (fun _ => ?_)⟩
          · refine ⟨_, rfl, _, rfl, _, rfl, p, B3, _, 2, rfl, P9, by omega, by decide, by decide, fun H10 r10 P10 r100 r101 => ⟨_, _, rfl, rfl, _, rfl, _, rfl, tx_m (by omega), ?_⟩⟩
            obtain ⟨k10, hk10⟩ : ∃ k10 : Nat, (wd : Int) + r10 = (k10 : Int) := ⟨((wd : Int) + r10).toNat, (Int.toNat_of_nonneg (by omega)).symm⟩
            rw [hk10, cut_to]
            exact hR _ _ ⟨_, rfl, P10.le (by omega), by rw [List.length_take]; omega, fun c hc => mX9 c (List.mem_of_mem_take hc)⟩
          · exact ⟨_, rfl, hR _ _ ⟨_, rfl, P9.le (by omega), lX9, mX9⟩⟩
        obtain ⟨X, rfl, P10, lX, mX⟩ := hv
        -- the law's own search
        have SB3 := SB.up d8
        have eB := P10.1
        refine ⟨_, rfl, _, rfl, _, rfl, _, rfl, L, X, wd, r, us, ts, rfl, eB _ _ (d8 _ _ hrB), KB.ex (d8.trans eB), hLG, by omega, by omega, by omega, hok3, mX, by omega, fun H11 pr l1 l2 vs11 us11 e11 hpr hl1 hW1 hl2 hP1 => ?_⟩
        refine ⟨pr, _, rfl, .inl (.inl hpr), rfl, _, _, rfl, _, _, rfl, rfl, ?_⟩
        obtain ⟨R, hR⟩ : ∃ R, search wd ts L X (X.length + 1) 0 0 = R := ⟨_, rfl⟩
        have small := search_small (w := wd) (m := ts.length) (ts := ts) (L := L) (X := X) (by omega) (by omega) (by omega) hok3 (X.length + 1) 0 0 (by decide)
        rw [hR] at hW1 hP1 small
        obtain ⟨sm1, sm2, sm3, sm4⟩ := small
        have mX2 : ∀ c ∈ X, 97 ≤ c ∧ c ≤ 122 := fun c hc => hLG.az c (mX c hc)
        have P11 := P10.ex e11
        refine ⟨_, rfl, by decide, by decide, for_range (lo := 0) (n := 2) (fun k σ H' => ∃ x12 x13 x14 x15 x16 : Option V, σ = [some (.ref a), some (.ref p.d), some (.int (0 + (i : Int))), some (.str (tx L)), some (.int (wd : Int)), some (.int (mn : Int)), some (.ref r), some (.ref o), some (.int (0 + (j : Int))), some (.str (tx X)), some (.ref l1), some (.ref l2), x12, x13, x14, x15, x16] ∧ Ex H11 H')
          ⟨_, _, _, _, _, rfl, Ex.refl _⟩ (fun k σ H' hk hw => ?_) (fun σ H' hw => ?_)⟩
        · obtain ⟨x12, x13, x14, x15, x16, rfl, e12⟩ := hw
          have eT := (eB.trans e11).trans e12
          refine ⟨_, rfl, _, rfl, o, L, wd, ts, ⟨SB3.up eT, hLG, by omega, by omega, by omega, by omega, fun t ht => (hok1 t ht).1, by omega⟩, .inl ⟨X, rfl, mX, by omega, fun H13 fo e13 TO => ?_⟩⟩
          rw [hR] at TO
          have e113 := e12.trans e13
          obtain ⟨dx', wa, ta, us', ts', t1, t2, t3, t4, t5⟩ := TO.ex
          refine ⟨_, rfl, fo, _, dx', _, _, rfl, t1, ST.cl, ST.nw, tFs_w _ _ _, ?_⟩
          show RP K [.ref wa] H13 _
          refine repr_wins t2 t3 mX2 (by omega) sm3 ?_
          refine ⟨_, rfl, l1, _, rfl, .inl ⟨sq_of (e113 _ _ hl1), fun u1 hu1 => ?_⟩⟩
          have f1 := Ex.new (o := .tup vs11) hu1
          show RP K [.ref u1] (L2.upd H13 u1 (.tup vs11)) _
          refine repr_wins upd_same (hW1.ex (e113.trans f1)) mX2 (by omega) sm3 ?_
          refine ⟨rfl, _, rfl, ite2 (fun hb => absurd hb (by simp)) (fun _ => ?_)⟩
          refine ⟨_, rfl, fo, _, dx', _, _, rfl, f1 _ _ t1, ST.cl, ST.nt, tFs_t _ _ _, ?_⟩
          show RP K [.ref ta] (L2.upd H13 u1 (.tup vs11)) _
          refine repr_prs (f1 _ _ t4) (t5.ex f1) (by omega) sm4 ?_
          refine ⟨_, rfl, l2, _, rfl, .inl ⟨sq_of (f1 _ _ (e113 _ _ hl2)), fun u2 hu2 => ?_⟩⟩
          have f2 := Ex.new (o := .tup us11) hu2
          show RP K [.ref u2] (L2.upd (L2.upd H13 u1 (.tup vs11)) u2 (.tup us11)) _
          refine repr_prs upd_same (hP1.ex (e113.trans (f1.trans f2))) (by omega) sm4 ?_
          refine ⟨rfl, _, rfl, ite2 (fun hb => absurd hb (by simp)) (fun _ => ?_)⟩
          have e114 := e113.trans (f1.trans f2)
          have t1' := f2 _ _ (f1 _ _ t1)
          generalize (L2.upd (L2.upd H13 u1 (.tup vs11)) u2 (.tup us11)) = H14 at e114 t1' ⊢
          refine ⟨_, rfl, fo, _, dx', _, _, rfl, t1', ST.cl, ST.nc, tFs_c _ _ _, _, rfl, l1, rfl, ⟨_, sq_of (e114 _ _ hl1)⟩, fun D hD => ?_⟩
          have W14 := hW1.ex e114
          have lW := W14.len
          refine lc_list (fun i H' => Ex H14 H' ∧ H' D = some (.lst (((R.1.take i).map fun w => (w.2.2.length : Int)).map V.int))) ⟨Ex.new hD, upd_same⟩ (fun i H' _ p => sq_of (p.1 _ _ (e114 _ _ hl1))) (fun i x H' hx p => ?_) (fun H15 p => ?_)
          · obtain ⟨e15, hz⟩ := p
            obtain ⟨x', b', p', q', us2, rs2, rfl, hw, k1, k2, k3⟩ := W14.get hx
            refine ⟨x', _, rfl, st_of (e15 _ _ k1), rfl, _, _, rfl, _, _, rfl, _, _, rfl, rfl, rfl, ?_⟩
            refine ⟨_, rfl, b', us2, rfl, .inr (st_of (e15 _ _ k2)), _, hz, ?_, e15.mut hD, ?_⟩
            · have hi := (List.getElem?_eq_some_iff.mp hw).1
              rw [List.length_map, List.length_map, List.length_take]
              exact sz_k (by omega)
            · rw [upd_same, take_next' hw, List.map_append, List.map_append, k3.len]
              rfl
          · obtain ⟨e15, hz⟩ := p
            rw [lW, List.take_length] at hz
            refine ⟨D, _, rfl, sq_of hz, ?_⟩
            rw [sum_wins]
            refine ⟨rfl, _, rfl, ite2 (fun hb => absurd hb (by simp)) (fun _ => ?_)⟩
            exact ⟨_, _, _, _, _, rfl, e114.trans e15⟩
        · obtain ⟨x12, x13, x14, x15, x16, rfl, e12⟩ := hw
          refine ⟨_, _, _, _, _, _, _, _, _, rfl, ?_⟩
          exact ((P11.ex e12).base P7 d8).le (by omega)
      · obtain ⟨z8, z9, z10, z11, z12, z13, z14, z15, z16, rfl, P7⟩ := hw
        have eL := P7.1
        obtain ⟨dxo, st, su, s1, s2, s3⟩ := (SB.up eL).ex
        have hrL := eL _ _ hrB
        have KL := KB.ex eL
        have hdp : ∀ t ∈ ts, t.depth ≤ 31 := fun t ht => by have := (hall t ht).2.1; omega
        have hok2 : ∀ t ∈ ts, t.ok L.length wd mn := fun t ht => (hall t ht).1
        refine ⟨_, rfl, o, _, dxo, _, _, rfl, s1, S.cl, S.ns, sFs_s _ _ _ _, ?_⟩
        show RP K [.ref st] H' _
        refine repr_st s2 s3 (show wd ≤ 8 by omega) (show mn ≤ 64 by omega) hok2 hdp (by omega) ?_
        refine ⟨_, rfl, r, _, rfl, .inl ⟨sq_of hrL, fun t2 ht2 => ?_⟩⟩
        show RP K [.ref t2] (L2.upd H' t2 (.tup us)) _
        refine repr_st upd_same (KL.ex (Ex.new ht2)) (show wd ≤ 8 by omega) (show mn ≤ 64 by omega) hok2 hdp (by omega) ?_
        refine ⟨rfl, _, rfl, ite2 (fun hb => absurd hb (by simp)) (fun _ => ?_)⟩
        refine ⟨_, _, _, _, _, _, _, _, _, _, _, _, _, _, _, rfl, (((P7.ex (Ex.new ht2)).base P1 dB)).le (by omega), .inr ⟨L, wd, rfl, rfl, hLG, by omega, by omega⟩⟩
    · obtain ⟨y2, y3, y4, y5, y6, y7, y8, y9, y10, y11, y12, y13, y14, y15, y16, rfl, P1, h0 | ⟨L, wd, rfl, rfl, hLG, w1, w8⟩⟩ := hw
      · exact absurd h0 (by omega)
      · exact ⟨_, rfl, _, rfl, _, rfl, p, H0, _, L, wd, rfl, P1, by omega, hLG, w1, w8, q⟩
end
end Law

namespace Law
open PySem PySem.Spec PyProof.Rows L2 Evl TR EK
theorem kit_mk {K : PySem.W.Frag} {t : Value} {c : Addr} {b : Bool} (n : (t == .ref c) = false ∨ b = true) (h1 : PySem.W.isClsIn K c = true) (h2 : PySem.W.typeIn K (.ref c) = some (.type "type")) (h3 : PySem.W.subIn K t (.ref c) = some b) : PySem.W.kitOne K t (.ref c) = some b := by
  have e : PySem.W.kitCls K t (.ref c) = some b := by
    unfold PySem.W.kitCls
    show (if ((PySem.W.clsIn K c).isSome && PySem.W.typeIn K (.ref c) == some (.type "type")) = true then PySem.W.subIn K t (.ref c) else none) = some b
    rw [if_pos (by rw [Bool.and_eq_true]; exact ⟨h1, by rw [h2]; simp⟩)]
    exact h3
  unfold PySem.W.kitOne
  by_cases q : (t == .ref c) = true
  · rw [if_pos q]
    rcases n with n | n
    · rw [n] at q
      cases q
    · rw [n]
  · rw [if_neg q]
    exact e
theorem exm_mk {K : PySem.W.Frag} {t : Value} {c : Addr} {b : Bool} (h0 : PySem.W.subIn K (.ref c) (.type "BaseException") = some true) (h1 : PySem.W.isClsIn K c = true) (h2 : PySem.W.typeIn K (.ref c) = some (.type "type")) (h3 : PySem.W.subIn K t (.ref c) = some b) : PySem.W.exmOne K t (.ref c) = some b := by
  unfold PySem.W.exmOne
  rw [if_pos (by rw [h0]; simp)]
  unfold PySem.W.kitCls
  show (if ((PySem.W.clsIn K c).isSome && PySem.W.typeIn K (.ref c) == some (.type "type")) = true then PySem.W.subIn K t (.ref c) else none) = some b
  rw [if_pos (by rw [Bool.and_eq_true]; exact ⟨h1, by rw [h2]; simp⟩)]
  exact h3
theorem all_mk {l : PySem.W.OpenLaw} {w : World} {K : PySem.W.Frag} {h : Heap} {mg : Str → Option Value} {fa C0 f1 f2 f3 f4 f5 f6 f7 f8 f9 f10 f11 f12 f13 f14 f15 f16 f17 f18 f19 f20 f21 f22 f23 f24 f25 f26 fS fT fB fM CS CT CB CM : Addr} (X : K.In h) (G : h.Ns mainGlobals mg) (hfa : mg "law" = some (.ref fa))
    {od1 an1 od2 an2 od3 an3 od4 an4 od5 an5 od6 an6 od7 an7 od8 an8 od9 an9 od10 an10 od11 an11 od12 an12 od13 an13 od14 an14 od15 an15 od16 an16 od17 an17 od18 an18 od19 an19 od20 an20 od21 an21 od22 an22 od23 an23 od24 an24 od25 an25 od26 an26 odS anS odT anT odB anB odM anM : Option Addr} {sl1 sl2 sl3 sl4 sl5 sl6 sl7 sl8 sl9 sl10 sl11 sl12 sl13 sl14 sl15 sl16 sl17 sl18 sl19 sl20 sl21 sl22 sl23 sl24 sl25 sl26 slS slT slB slM : Array (Option Value)} {oc1 kV1 dc1 pm1 cd1 ct1 oc2 kV2 dc2 pm2 cd2 ct2 oc3 kV3 dc3 pm3 cd3 ct3 oc4 kV4 dc4 pm4 cd4 ct4 oc5 kV5 dc5 pm5 cd5 ct5 oc6 kV6 dc6 pm6 cd6 ct6 oc7 kV7 dc7 pm7 cd7 ct7 oc8 kV8 dc8 pm8 cd8 ct8 oc9 kV9 dc9 pm9 cd9 ct9 oc10 kV10 dc10 pm10 cd10 ct10 oc11 kV11 dc11 pm11 cd11 ct11 oc12 kV12 dc12 pm12 cd12 ct12 oc13 kV13 dc13 pm13 cd13 ct13 oc14 kV14 dc14 pm14 cd14 ct14 oc15 kV15 dc15 pm15 cd15 ct15 oc16 kV16 dc16 pm16 cd16 ct16 oc17 kV17 dc17 pm17 cd17 ct17 oc18 kV18 dc18 pm18 cd18 ct18 oc19 kV19 dc19 pm19 cd19 ct19 oc20 kV20 dc20 pm20 cd20 ct20 oc21 kV21 dc21 pm21 cd21 ct21 oc22 kV22 dc22 pm22 cd22 ct22 oc23 kV23 dc23 pm23 cd23 ct23 oc24 kV24 dc24 pm24 cd24 ct24 oc25 kV25 dc25 pm25 cd25 ct25 oc26 kV26 dc26 pm26 cd26 ct26 ocS kVS dcS pmS cdS ctS ocT kVT dcT pmT cdT ctT ocB kVB dcB pmB cdB ctB ocM kVM dcM pmM cdM ctM : Value} {t0 t1 t2 t3 t4 : Tok}
    {nmB} {qB} {NB} {bsB} {bmB} {snB} {suB} {abB} {colB} {ddB} {k0B} {k1B} {k2B} {k3B} {k5B} {nmM} {qM} {NM} {bsM} {bmM} {snM} {suM} {abM} {colM} {ddM} {k0M} {k1M} {k2M} {k3M} {k5M}
    (a1 : PySem.W.nsIn K mainGlobals "law" = some (some (.ref f1)))
    (l1 : K.lookup f1 = some ⟨oc1, od1, .func (PySem.W.fnOf "law" "law" (defArgs s_law) (defBody s_law) (defScope s_law) .none kV1 dc1 pm1 an1 cd1 ct1), sl1⟩)
    (c1 : PySem.W.codeIn K cd1 "law" = true)
    (k1 : PySem.W.keepIn K (.ref f1) = true)
    (a2 : PySem.W.nsIn K mainGlobals "_law_pen" = some (some (.ref f2)))
    (l2 : K.lookup f2 = some ⟨oc2, od2, .func (PySem.W.fnOf "_law_pen" "_law_pen" (defArgs s_lpen) (defBody s_lpen) (defScope s_lpen) .none kV2 dc2 pm2 an2 cd2 ct2), sl2⟩)
    (c2 : PySem.W.codeIn K cd2 "_law_pen" = true)
    (k2 : PySem.W.keepIn K (.ref f2) = true)
    (a3 : PySem.W.nsIn K mainGlobals "_law_draw" = some (some (.ref f3)))
    (l3 : K.lookup f3 = some ⟨oc3, od3, .func (PySem.W.fnOf "_law_draw" "_law_draw" (defArgs s_ldraw) (defBody s_ldraw) (defScope s_ldraw) .none kV3 dc3 pm3 an3 cd3 ct3), sl3⟩)
    (c3 : PySem.W.codeIn K cd3 "_law_draw" = true)
    (k3 : PySem.W.keepIn K (.ref f3) = true)
    (a4 : PySem.W.nsIn K mainGlobals "_law_pick" = some (some (.ref f4)))
    (l4 : K.lookup f4 = some ⟨oc4, od4, .func (PySem.W.fnOf "_law_pick" "_law_pick" (defArgs s_lpick) (defBody s_lpick) (defScope s_lpick) .none kV4 dc4 pm4 an4 cd4 ct4), sl4⟩)
    (c4 : PySem.W.codeIn K cd4 "_law_pick" = true)
    (k4 : PySem.W.keepIn K (.ref f4) = true)
    (a5 : PySem.W.nsIn K mainGlobals "_law_letters" = some (some (.ref f5)))
    (l5 : K.lookup f5 = some ⟨oc5, od5, .func (PySem.W.fnOf "_law_letters" "_law_letters" (defArgs s_lletters) (defBody s_lletters) (defScope s_lletters) .none kV5 dc5 pm5 an5 cd5 ct5), sl5⟩)
    (c5 : PySem.W.codeIn K cd5 "_law_letters" = true)
    (k5 : PySem.W.keepIn K (.ref f5) = true)
    (a6 : PySem.W.nsIn K mainGlobals "_law_text" = some (some (.ref f6)))
    (l6 : K.lookup f6 = some ⟨oc6, od6, .func (PySem.W.fnOf "_law_text" "_law_text" (defArgs s_ltext) (defBody s_ltext) (defScope s_ltext) .none kV6 dc6 pm6 an6 cd6 ct6), sl6⟩)
    (c6 : PySem.W.codeIn K cd6 "_law_text" = true)
    (k6 : PySem.W.keepIn K (.ref f6) = true)
    (a7 : PySem.W.nsIn K mainGlobals "is_list" = some (some (.ref f7)))
    (l7 : K.lookup f7 = some ⟨oc7, od7, .func (PySem.W.fnOf "is_list" "is_list" (defArgs s_is_list) (defBody s_is_list) (defScope s_is_list) .none kV7 dc7 pm7 an7 cd7 ct7), sl7⟩)
    (c7 : PySem.W.codeIn K cd7 "is_list" = true)
    (k7 : PySem.W.keepIn K (.ref f7) = true)
    (a8 : PySem.W.nsIn K mainGlobals "is_integer" = some (some (.ref f8)))
    (l8 : K.lookup f8 = some ⟨oc8, od8, .func (PySem.W.fnOf "is_integer" "is_integer" (defArgs s_is_integer) (defBody s_is_integer) (defScope s_is_integer) .none kV8 dc8 pm8 an8 cd8 ct8), sl8⟩)
    (c8 : PySem.W.codeIn K cd8 "is_integer" = true)
    (k8 : PySem.W.keepIn K (.ref f8) = true)
    (a9 : PySem.W.nsIn K mainGlobals "is_whole" = some (some (.ref f9)))
    (l9 : K.lookup f9 = some ⟨oc9, od9, .func (PySem.W.fnOf "is_whole" "is_whole" (defArgs s_is_whole) (defBody s_is_whole) (defScope s_is_whole) .none kV9 dc9 pm9 an9 cd9 ct9), sl9⟩)
    (c9 : PySem.W.codeIn K cd9 "is_whole" = true)
    (k9 : PySem.W.keepIn K (.ref f9) = true)
    (a10 : PySem.W.nsIn K mainGlobals "are_letters" = some (some (.ref f10)))
    (l10 : K.lookup f10 = some ⟨oc10, od10, .func (PySem.W.fnOf "are_letters" "are_letters" (defArgs s_are_letters) (defBody s_are_letters) (defScope s_are_letters) .none kV10 dc10 pm10 an10 cd10 ct10), sl10⟩)
    (c10 : PySem.W.codeIn K cd10 "are_letters" = true)
    (k10 : PySem.W.keepIn K (.ref f10) = true)
    (a11 : PySem.W.nsIn K mainGlobals "_is_part" = some (some (.ref f11)))
    (l11 : K.lookup f11 = some ⟨oc11, od11, .func (PySem.W.fnOf "_is_part" "_is_part" (defArgs s_is_part) (defBody s_is_part) (defScope s_is_part) .none kV11 dc11 pm11 an11 cd11 ct11), sl11⟩)
    (c11 : PySem.W.codeIn K cd11 "_is_part" = true)
    (k11 : PySem.W.keepIn K (.ref f11) = true)
    (a12 : PySem.W.nsIn K mainGlobals "_within" = some (some (.ref f12)))
    (l12 : K.lookup f12 = some ⟨oc12, od12, .func (PySem.W.fnOf "_within" "_within" (defArgs s_within) (defBody s_within) (defScope s_within) .none kV12 dc12 pm12 an12 cd12 ct12), sl12⟩)
    (c12 : PySem.W.codeIn K cd12 "_within" = true)
    (k12 : PySem.W.keepIn K (.ref f12) = true)
    (a13 : PySem.W.nsIn K mainGlobals "first_wrong" = some (some (.ref f13)))
    (l13 : K.lookup f13 = some ⟨oc13, od13, .func (PySem.W.fnOf "first_wrong" "first_wrong" (defArgs s_first_wrong) (defBody s_first_wrong) (defScope s_first_wrong) .none kV13 dc13 pm13 an13 cd13 ct13), sl13⟩)
    (c13 : PySem.W.codeIn K cd13 "first_wrong" = true)
    (k13 : PySem.W.keepIn K (.ref f13) = true)
    (a14 : PySem.W.nsIn K mainGlobals "all_parts" = some (some (.ref f14)))
    (l14 : K.lookup f14 = some ⟨oc14, od14, .func (PySem.W.fnOf "all_parts" "all_parts" (defArgs s_all_parts) (defBody s_all_parts) (defScope s_all_parts) .none kV14 dc14 pm14 an14 cd14 ct14), sl14⟩)
    (c14 : PySem.W.codeIn K cd14 "all_parts" = true)
    (k14 : PySem.W.keepIn K (.ref f14) = true)
    (a15 : PySem.W.nsIn K mainGlobals "renamed" = some (some (.ref f15)))
    (l15 : K.lookup f15 = some ⟨oc15, od15, .func (PySem.W.fnOf "renamed" "renamed" (defArgs s_renamed) (defBody s_renamed) (defScope s_renamed) .none kV15 dc15 pm15 an15 cd15 ct15), sl15⟩)
    (c15 : PySem.W.codeIn K cd15 "renamed" = true)
    (k15 : PySem.W.keepIn K (.ref f15) = true)
    (a16 : PySem.W.nsIn K mainGlobals "_law_tree" = some (some (.ref f16)))
    (l16 : K.lookup f16 = some ⟨oc16, od16, .func (PySem.W.fnOf "_law_tree" "_law_tree" (defArgs s_ltree) (defBody s_ltree) (defScope s_ltree) .none kV16 dc16 pm16 an16 cd16 ct16), sl16⟩)
    (c16 : PySem.W.codeIn K cd16 "_law_tree" = true)
    (k16 : PySem.W.keepIn K (.ref f16) = true)
    (a17 : PySem.W.nsIn K mainGlobals "_law_trees" = some (some (.ref f17)))
    (l17 : K.lookup f17 = some ⟨oc17, od17, .func (PySem.W.fnOf "_law_trees" "_law_trees" (defArgs s_ltrees) (defBody s_ltrees) (defScope s_ltrees) .none kV17 dc17 pm17 an17 cd17 ct17), sl17⟩)
    (c17 : PySem.W.codeIn K cd17 "_law_trees" = true)
    (k17 : PySem.W.keepIn K (.ref f17) = true)
    (a18 : PySem.W.nsIn K mainGlobals "_kept" = some (some (.ref f18)))
    (l18 : K.lookup f18 = some ⟨oc18, od18, .func (PySem.W.fnOf "_kept" "_kept" (defArgs s_kept) (defBody s_kept) (defScope s_kept) .none kV18 dc18 pm18 an18 cd18 ct18), sl18⟩)
    (c18 : PySem.W.codeIn K cd18 "_kept" = true)
    (k18 : PySem.W.keepIn K (.ref f18) = true)
    (a19 : PySem.W.nsIn K mainGlobals "wrong_sign" = some (some (.ref f19)))
    (l19 : K.lookup f19 = some ⟨oc19, od19, .func (PySem.W.fnOf "wrong_sign" "wrong_sign" (defArgs s_wrong_sign) (defBody s_wrong_sign) (defScope s_wrong_sign) .none kV19 dc19 pm19 an19 cd19 ct19), sl19⟩)
    (c19 : PySem.W.codeIn K cd19 "wrong_sign" = true)
    (k19 : PySem.W.keepIn K (.ref f19) = true)
    (a20 : PySem.W.nsIn K mainGlobals "followed" = some (some (.ref f20)))
    (l20 : K.lookup f20 = some ⟨oc20, od20, .func (PySem.W.fnOf "followed" "followed" (defArgs s_followed) (defBody s_followed) (defScope s_followed) .none kV20 dc20 pm20 an20 cd20 ct20), sl20⟩)
    (c20 : PySem.W.codeIn K cd20 "followed" = true)
    (k20 : PySem.W.keepIn K (.ref f20) = true)
    (a21 : PySem.W.nsIn K mainGlobals "searched" = some (some (.ref f21)))
    (l21 : K.lookup f21 = some ⟨oc21, od21, .func (PySem.W.fnOf "searched" "searched" (defArgs s_searched) (defBody s_searched) (defScope s_searched) .none kV21 dc21 pm21 an21 cd21 ct21), sl21⟩)
    (c21 : PySem.W.codeIn K cd21 "searched" = true)
    (k21 : PySem.W.keepIn K (.ref f21) = true)
    (a22 : PySem.W.nsIn K mainGlobals "trace" = some (some (.ref f22)))
    (l22 : K.lookup f22 = some ⟨oc22, od22, .func (PySem.W.fnOf "trace" "trace" (defArgs s_trace) (defBody s_trace) (defScope s_trace) .none kV22 dc22 pm22 an22 cd22 ct22), sl22⟩)
    (c22 : PySem.W.codeIn K cd22 "trace" = true)
    (k22 : PySem.W.keepIn K (.ref f22) = true)
    (a23 : PySem.W.nsIn K mainGlobals "_law_met" = some (some (.ref f23)))
    (l23 : K.lookup f23 = some ⟨oc23, od23, .func (PySem.W.fnOf "_law_met" "_law_met" (defArgs s_lmet) (defBody s_lmet) (defScope s_lmet) .none kV23 dc23 pm23 an23 cd23 ct23), sl23⟩)
    (c23 : PySem.W.codeIn K cd23 "_law_met" = true)
    (k23 : PySem.W.keepIn K (.ref f23) = true)
    (a24 : PySem.W.nsIn K mainGlobals "_law_turn" = some (some (.ref f24)))
    (l24 : K.lookup f24 = some ⟨oc24, od24, .func (PySem.W.fnOf "_law_turn" "_law_turn" (defArgs s_lturn) (defBody s_lturn) (defScope s_lturn) .none kV24 dc24 pm24 an24 cd24 ct24), sl24⟩)
    (c24 : PySem.W.codeIn K cd24 "_law_turn" = true)
    (k24 : PySem.W.keepIn K (.ref f24) = true)
    (a25 : PySem.W.nsIn K mainGlobals "_law_search" = some (some (.ref f25)))
    (l25 : K.lookup f25 = some ⟨oc25, od25, .func (PySem.W.fnOf "_law_search" "_law_search" (defArgs s_lsearch) (defBody s_lsearch) (defScope s_lsearch) .none kV25 dc25 pm25 an25 cd25 ct25), sl25⟩)
    (c25 : PySem.W.codeIn K cd25 "_law_search" = true)
    (k25 : PySem.W.keepIn K (.ref f25) = true)
    (a26 : PySem.W.nsIn K mainGlobals "_law_are_refused" = some (some (.ref f26)))
    (l26 : K.lookup f26 = some ⟨oc26, od26, .func (PySem.W.fnOf "_law_are_refused" "_law_are_refused" (defArgs s_lare_refused) (defBody s_lare_refused) (defScope s_lare_refused) .none kV26 dc26 pm26 an26 cd26 ct26), sl26⟩)
    (c26 : PySem.W.codeIn K cd26 "_law_are_refused" = true)
    (k26 : PySem.W.keepIn K (.ref f26) = true)
    (aCS : PySem.W.nsIn K mainGlobals "Searcher" = some (some (.ref CS)))
    (aS : PySem.W.findIn K (.ref CS) "__init__" = some (some (.ref fS)))
    (lS : K.lookup fS = some ⟨ocS, odS, .func (PySem.W.fnOf "__init__" "Searcher.__init__" (defArgs s_Searcher_init) (defBody s_Searcher_init) (defScope s_Searcher_init) .none kVS dcS pmS anS cdS ctS), slS⟩)
    (cS : PySem.W.codeIn K cdS "Searcher.__init__" = true)
    (kS : PySem.W.keepIn K (.ref fS) = true)
    (nS1 : PySem.W.findIn K (.ref CS) "letters" = some none)
    (nS2 : PySem.W.findIn K (.ref CS) "width" = some none)
    (nS3 : PySem.W.findIn K (.ref CS) "states" = some none)
    (nS4 : PySem.W.findIn K (.ref CS) "nodes" = some none)
    (g4S : PySem.W.findIn K (.ref CS) "__setattr__" = some (some (.builtin "object.__setattr__")))
    (m2S : PySem.W.keepIn K (.ref CS) = true)
    (aCT : PySem.W.nsIn K mainGlobals "Trace" = some (some (.ref CT)))
    (aT : PySem.W.findIn K (.ref CT) "__init__" = some (some (.ref fT)))
    (lT : K.lookup fT = some ⟨ocT, odT, .func (PySem.W.fnOf "__init__" "Trace.__init__" (defArgs s_Trace_init) (defBody s_Trace_init) (defScope s_Trace_init) .none kVT dcT pmT anT cdT ctT), slT⟩)
    (cT : PySem.W.codeIn K cdT "Trace.__init__" = true)
    (kT : PySem.W.keepIn K (.ref fT) = true)
    (nT1 : PySem.W.findIn K (.ref CT) "windows" = some none)
    (nT2 : PySem.W.findIn K (.ref CT) "told" = some none)
    (nT3 : PySem.W.findIn K (.ref CT) "cost" = some none)
    (g4T : PySem.W.findIn K (.ref CT) "__setattr__" = some (some (.builtin "object.__setattr__")))
    (m2T : PySem.W.keepIn K (.ref CT) = true)
    (aCB : PySem.W.nsIn K mainGlobals "BadText" = some (some (.ref CB)))
    (aB : PySem.W.findIn K (.ref CB) "__init__" = some (some (.ref fB)))
    (lB : K.lookup fB = some ⟨ocB, odB, .func (PySem.W.fnOf "__init__" "BadText.__init__" (defArgs s_BadText_init) (defBody s_BadText_init) (defScope s_BadText_init) .none kVB dcB pmB anB cdB ctB), slB⟩)
    (cB : PySem.W.codeIn K cdB "BadText.__init__" = true)
    (kB : PySem.W.keepIn K (.ref fB) = true)
    (nB1 : PySem.W.findIn K (.ref CB) "place" = some none)
    (g4B : PySem.W.findIn K (.ref CB) "__setattr__" = some (some (.builtin "object.__setattr__")))
    (m2B : PySem.W.keepIn K (.ref CB) = true)
    (aCM : PySem.W.nsIn K mainGlobals "TooMany" = some (some (.ref CM)))
    (aM : PySem.W.findIn K (.ref CM) "__init__" = some (some (.ref fM)))
    (lM : K.lookup fM = some ⟨ocM, odM, .func (PySem.W.fnOf "__init__" "TooMany.__init__" (defArgs s_TooMany_init) (defBody s_TooMany_init) (defScope s_TooMany_init) .none kVM dcM pmM anM cdM ctM), slM⟩)
    (cM : PySem.W.codeIn K cdM "TooMany.__init__" = true)
    (kM : PySem.W.keepIn K (.ref fM) = true)
    (nM1 : PySem.W.findIn K (.ref CM) "what" = some none)
    (nM2 : PySem.W.findIn K (.ref CM) "many" = some none)
    (nM3 : PySem.W.findIn K (.ref CM) "most" = some none)
    (g4M : PySem.W.findIn K (.ref CM) "__setattr__" = some (some (.builtin "object.__setattr__")))
    (m2M : PySem.W.keepIn K (.ref CM) = true)
    (iS : PySem.W.isFn K (.ref fS) = true)
    (m1S : PySem.W.makesIn K CS = true)
    (g1S : PySem.W.plainGet K CS Str.empty = true)
    (g2S : PySem.W.hasDictIn K CS = true)
    (g3S : PySem.W.plainOver K CS = true)
    (iT : PySem.W.isFn K (.ref fT) = true)
    (m1T : PySem.W.makesIn K CT = true)
    (g1T : PySem.W.plainGet K CT Str.empty = true)
    (g2T : PySem.W.hasDictIn K CT = true)
    (g3T : PySem.W.plainOver K CT = true)
    (aC0 : PySem.W.nsIn K mainGlobals "SkipsError" = some (some (.ref C0)))
    (r1 : PySem.W.readsIn K C0 (.type "type") = true)
    (r2 : PySem.W.specialIn K (.ref C0) "__getattribute__" = some (some (.builtin "type.__getattribute__")))
    (r3 : PySem.W.findCls K (.ref C0) (.type "type") "__init__" = some (.val (.builtin "ValueError.__init__")))
    (s1 : PySem.W.isClsIn K C0 = true)
    (s2 : PySem.W.typeIn K (.ref C0) = some (.type "type"))
    (s3 : PySem.W.specialIn K (.builtin "object.__class__") "__get__" = some (some (.builtin "getset_descriptor.__get__")))
    (s4 : PySem.W.takesIn K (.builtin "object.__class__") = some true)
    (o1B : K.lookup CB = some (excClassObj nmB qB CB NB bsB bmB true snB suB abB colB ddB k0B k1B k2B k3B k5B "ValueError.__new__"))
    (o2B : PySem.HandSPX.refsVE bmB = true)
    (o3B : PySem.W.subIn K (.ref CB) (.type "BaseException") = some true)
    (o4B : PySem.W.typeIn K (.ref CB) = some (.type "type"))
    (tB : PySem.W.typeIn K (.ref fB) = some (.type "function"))
    (x1B : PySem.W.findIn K (.ref CB) "__getattribute__" = some (some (.builtin "BaseException.__getattribute__")))
    (x2B : PySem.W.findIn K (.ref CB) "__getattr__" = some none)
    (x3B : PySem.W.hasDictIn K CB = true)
    (e1B : PySem.W.findIn K (.ref CB) "__class__" = some (some (.builtin "object.__class__")))
    (e2B : PySem.W.mroIn K CB (.type "object") = some true)
    (p1B : PySem.W.subIn K (.ref CB) (.ref C0) = some true)
    (p2B : PySem.W.isClsIn K CB = true)
    (o1M : K.lookup CM = some (excClassObj nmM qM CM NM bsM bmM true snM suM abM colM ddM k0M k1M k2M k3M k5M "ValueError.__new__"))
    (o2M : PySem.HandSPX.refsVE bmM = true)
    (o3M : PySem.W.subIn K (.ref CM) (.type "BaseException") = some true)
    (o4M : PySem.W.typeIn K (.ref CM) = some (.type "type"))
    (tM : PySem.W.typeIn K (.ref fM) = some (.type "function"))
    (x1M : PySem.W.findIn K (.ref CM) "__getattribute__" = some (some (.builtin "BaseException.__getattribute__")))
    (x2M : PySem.W.findIn K (.ref CM) "__getattr__" = some none)
    (x3M : PySem.W.hasDictIn K CM = true)
    (e1M : PySem.W.findIn K (.ref CM) "__class__" = some (some (.builtin "object.__class__")))
    (e2M : PySem.W.mroIn K CM (.type "object") = some true)
    (p1M : PySem.W.subIn K (.ref CM) (.ref C0) = some true)
    (p2M : PySem.W.isClsIn K CM = true)
    (y1 : PySem.W.subIn K (.ref CB) (.ref CB) = some true)
    (y2 : PySem.W.subIn K (.ref CM) (.ref CB) = some false)
    (y3 : PySem.W.subIn K (.ref CM) (.ref CM) = some true)
    (v0 : PySem.W.nsIn K mainGlobals "DEEPEST" = some (some (.int 40 t0)))
    (v1 : PySem.W.nsIn K mainGlobals "MOST_WIDTH" = some (some (.int 8 t1)))
    (v2 : PySem.W.nsIn K mainGlobals "MOST_STATES" = some (some (.int 64 t2)))
    (v3 : PySem.W.nsIn K mainGlobals "MOST_NODES" = some (some (.int 3000 t3)))
    (v4 : PySem.W.nsIn K mainGlobals "MOST_LETTERS" = some (some (.int 5000 t4)))
    (z0 : PySem.W.nsIn K mainGlobals "len" = some none)
    (z1 : PySem.W.nsIn K mainGlobals "int" = some none)
    (z2 : PySem.W.nsIn K mainGlobals "bool" = some none)
    (z3 : PySem.W.nsIn K mainGlobals "abs" = some none)
    (z4 : PySem.W.nsIn K mainGlobals "min" = some none)
    (z5 : PySem.W.nsIn K mainGlobals "list" = some none)
    (z6 : PySem.W.nsIn K mainGlobals "all" = some none)
    (z7 : PySem.W.nsIn K mainGlobals "range" = some none)
    (z8 : PySem.W.nsIn K mainGlobals "isinstance" = some none)
    (z9 : PySem.W.nsIn K mainGlobals "str" = some none)
    (z10 : PySem.W.nsIn K mainGlobals "set" = some none)
    (z11 : PySem.W.nsIn K mainGlobals "tuple" = some none)
    (z12 : PySem.W.nsIn K mainGlobals "dict" = some none)
    (z13 : PySem.W.nsIn K mainGlobals "enumerate" = some none)
    (z14 : PySem.W.nsIn K mainGlobals "reversed" = some none)
    (z15 : PySem.W.nsIn K mainGlobals "sum" = some none)
    (z16 : PySem.W.nsIn K mainGlobals "repr" = some none) :
    ∃ fd : FuncData, (∀ (s : Shared) (v : Value), BindsTo s fd ⟨[v], []⟩ [("_law_script", v)]) ∧ ∀ base : Heap, K.In base → base.Ns mainGlobals mg → GD.Gd l.prog w K mg base 46 fa fd ["_law_script"] (spLaw K) := by
  have e := hfa.symm.trans (PySem.W.mg_of X G a1)
  cases e
  have F1 := fun_mk (st := s_law) l1 c1 k1
  have F2 := fun_mk (st := s_lpen) l2 c2 k2
  have b2 := F2.binds (ps := ["_law_script"]) fun _ _ _ _ _ _ us hl => match us, hl with | [_], _ => rfl
  have F3 := fun_mk (st := s_ldraw) l3 c3 k3
  have b3 := F3.binds (ps := ["_law_pen_here", "_law_many"]) fun _ _ _ _ _ _ us hl => match us, hl with | [_, _], _ => rfl
  have F4 := fun_mk (st := s_lpick) l4 c4 k4
  have b4 := F4.binds (ps := ["_law_pen_here", "_law_some"]) fun _ _ _ _ _ _ us hl => match us, hl with | [_, _], _ => rfl
  have F5 := fun_mk (st := s_lletters) l5 c5 k5
  have b5 := F5.binds (ps := ["_law_pen_here"]) fun _ _ _ _ _ _ us hl => match us, hl with | [_], _ => rfl
  have F6 := fun_mk (st := s_ltext) l6 c6 k6
  have b6 := F6.binds (ps := ["_law_pen_here", "_law_letters_here", "_law_words", "_law_most"]) fun _ _ _ _ _ _ us hl => match us, hl with | [_, _, _, _], _ => rfl
  have F7 := fun_mk (st := s_is_list) l7 c7 k7
  have b7 := F7.binds (ps := ["value"]) fun _ _ _ _ _ _ us hl => match us, hl with | [_], _ => rfl
  have F8 := fun_mk (st := s_is_integer) l8 c8 k8
  have b8 := F8.binds (ps := ["value"]) fun _ _ _ _ _ _ us hl => match us, hl with | [_], _ => rfl
  have F9 := fun_mk (st := s_is_whole) l9 c9 k9
  have b9 := F9.binds (ps := ["value", "low", "high"]) fun _ _ _ _ _ _ us hl => match us, hl with | [_, _, _], _ => rfl
  have F10 := fun_mk (st := s_are_letters) l10 c10 k10
  have b10 := F10.binds (ps := ["value"]) fun _ _ _ _ _ _ us hl => match us, hl with | [_], _ => rfl
  have F11 := fun_mk (st := s_is_part) l11 c11 k11
  have b11 := F11.binds (ps := ["part", "letters", "width", "states"]) fun _ _ _ _ _ _ us hl => match us, hl with | [_, _, _, _], _ => rfl
  have F12 := fun_mk (st := s_within) l12 c12 k12
  have b12 := F12.binds (ps := ["part"]) fun _ _ _ _ _ _ us hl => match us, hl with | [_], _ => rfl
  have F13 := fun_mk (st := s_first_wrong) l13 c13 k13
  have b13 := F13.binds (ps := ["tree", "letters", "width", "states"]) fun _ _ _ _ _ _ us hl => match us, hl with | [_, _, _, _], _ => rfl
  have F14 := fun_mk (st := s_all_parts) l14 c14 k14
  have b14 := F14.binds (ps := ["tree"]) fun _ _ _ _ _ _ us hl => match us, hl with | [_], _ => rfl
  have F15 := fun_mk (st := s_renamed) l15 c15 k15
  have b15 := F15.binds (ps := ["tree", "names"]) fun _ _ _ _ _ _ us hl => match us, hl with | [_, _], _ => rfl
  have F16 := fun_mk (st := s_ltree) l16 c16 k16
  have b16 := F16.binds (ps := ["_law_pen_here", "_law_letters_here", "_law_width", "_law_states", "_law_depth"]) fun _ _ _ _ _ _ us hl => match us, hl with | [_, _, _, _, _], _ => rfl
  have F17 := fun_mk (st := s_ltrees) l17 c17 k17
  have b17 := F17.binds (ps := ["_law_pen_here", "_law_letters_here", "_law_width", "_law_many", "_law_depth"]) fun _ _ _ _ _ _ us hl => match us, hl with | [_, _, _, _, _], _ => rfl
  have F18 := fun_mk (st := s_kept) l18 c18 k18
  have b18 := F18.binds (ps := ["value"]) fun _ _ _ _ _ _ us hl => match us, hl with | [_], _ => rfl
  have F19 := fun_mk (st := s_wrong_sign) l19 c19 k19
  have b19 := F19.binds (ps := ["letters", "text"]) fun _ _ _ _ _ _ us hl => match us, hl with | [_, _], _ => rfl
  have F20 := fun_mk (st := s_followed) l20 c20 k20
  have b20 := F20.binds (ps := ["tree", "letters", "signs"]) fun _ _ _ _ _ _ us hl => match us, hl with | [_, _, _], _ => rfl
  have F21 := fun_mk (st := s_searched) l21 c21 k21
  have b21 := F21.binds (ps := ["searcher", "text"]) fun _ _ _ _ _ _ us hl => match us, hl with | [_, _], _ => rfl
  have F22 := fun_mk (st := s_trace) l22 c22 k22
  have b22 := F22.binds (ps := ["searcher", "text"]) fun _ _ _ _ _ _ us hl => match us, hl with | [_, _], _ => rfl
  have F23 := fun_mk (st := s_lmet) l23 c23 k23
  have b23 := F23.binds (ps := ["_law_searcher", "_law_text_here"]) fun _ _ _ _ _ _ us hl => match us, hl with | [_, _], _ => rfl
  have F24 := fun_mk (st := s_lturn) l24 c24 k24
  have b24 := F24.binds (ps := ["_law_tree_here", "_law_letters_here", "_law_view"]) fun _ _ _ _ _ _ us hl => match us, hl with | [_, _, _], _ => rfl
  have F25 := fun_mk (st := s_lsearch) l25 c25 k25
  have b25 := F25.binds (ps := ["_law_letters_here", "_law_width", "_law_states", "_law_text_here"]) fun _ _ _ _ _ _ us hl => match us, hl with | [_, _, _, _], _ => rfl
  have F26 := fun_mk (st := s_lare_refused) l26 c26 k26
  have b26 := F26.binds (ps := ["_law_pen_here", "_law_letters_here", "_law_width"]) fun _ _ _ _ _ _ us hl => match us, hl with | [_, _, _], _ => rfl
  have FS := fun_mk (x := "__init__") (qual := "Searcher.__init__") (st := s_Searcher_init) lS cS kS
  have bS := FS.binds (ps := ["self", "letters", "width", "states"]) fun _ _ _ _ _ _ us hl => match us, hl with | [_, _, _, _], _ => rfl
  have mS := PySem.W.mg_of X G aCS
  have FT := fun_mk (x := "__init__") (qual := "Trace.__init__") (st := s_Trace_init) lT cT kT
  have bT := FT.binds (ps := ["self", "windows", "told"]) fun _ _ _ _ _ _ us hl => match us, hl with | [_, _, _], _ => rfl
  have mT := PySem.W.mg_of X G aCT
  have FB := fun_mk (x := "__init__") (qual := "BadText.__init__") (st := s_BadText_init) lB cB kB
  have bB := FB.binds (ps := ["self", "place"]) fun _ _ _ _ _ _ us hl => match us, hl with | [_, _], _ => rfl
  have mB := PySem.W.mg_of X G aCB
  have FM := fun_mk (x := "__init__") (qual := "TooMany.__init__") (st := s_TooMany_init) lM cM kM
  have bM := FM.binds (ps := ["self", "what", "many", "most"]) fun _ _ _ _ _ _ us hl => match us, hl with | [_, _, _, _], _ => rfl
  have mM := PySem.W.mg_of X G aCM
  have T : Tx mg := { len := PySem.W.mg_none_of X G z0, int := PySem.W.mg_none_of X G z1, bool := PySem.W.mg_none_of X G z2, abs := PySem.W.mg_none_of X G z3, min := PySem.W.mg_none_of X G z4, list := PySem.W.mg_none_of X G z5, all := PySem.W.mg_none_of X G z6, range := PySem.W.mg_none_of X G z7, isinstance := PySem.W.mg_none_of X G z8, str := PySem.W.mg_none_of X G z9, set := PySem.W.mg_none_of X G z10, tuple := PySem.W.mg_none_of X G z11, dict := PySem.W.mg_none_of X G z12, enumerate := PySem.W.mg_none_of X G z13, reversed := PySem.W.mg_none_of X G z14, sum := PySem.W.mg_none_of X G z15, k_DEEPEST := _, m_DEEPEST := PySem.W.mg_of X G v0, k_MOST_WIDTH := _, m_MOST_WIDTH := PySem.W.mg_of X G v1, k_MOST_STATES := _, m_MOST_STATES := PySem.W.mg_of X G v2, k_MOST_NODES := _, m_MOST_NODES := PySem.W.mg_of X G v3, k_MOST_LETTERS := _, m_MOST_LETTERS := PySem.W.mg_of X G v4 }
  have S : SC K CS := ⟨⟨g1S, g2S, g3S, g4S⟩, nS1, nS2, nS3, nS4⟩
  have ST : TC K CT := ⟨⟨g1T, g2T, g3T, g4T⟩, nT1, nT2, nT3⟩
  have MS : Mk K CS fS := ⟨m1S, aS, iS, m2S⟩
  have MT : Mk K CT fT := ⟨m1T, aT, iT, m2T⟩
  have B0 : BaseC K mg C0 := ⟨PySem.W.mg_of X G aC0, ⟨r1, r2⟩, r3⟩
  have EB : ErrC K CB fB C0 := ⟨⟨⟨_, _, _, _, _, _, _, _, _, _, _, _, _, _, _, o1B, o2B⟩, g4B, o3B, o4B, m2B⟩, aB, tB, ⟨x1B, x2B, o3B, x3B⟩, ⟨x1B, x2B, o3B, x3B, e1B, s3, s4, e2B⟩, kit_mk (.inr rfl) s1 s2 p1B⟩
  have EM : ErrC K CM fM C0 := ⟨⟨⟨_, _, _, _, _, _, _, _, _, _, _, _, _, _, _, o1M, o2M⟩, g4M, o3M, o4M, m2M⟩, aM, tM, ⟨x1M, x2M, o3M, x3M⟩, ⟨x1M, x2M, o3M, x3M, e1M, s3, s4, e2M⟩, kit_mk (.inr rfl) s1 s2 p1M⟩
  have x1 := exm_mk o3B p2B o4B y1
  have x2 := exm_mk o3B p2B o4B y2
  have x3 := exm_mk o3M p2M o4M y3
  refine ⟨PySem.W.fnOf "law" "law" (defArgs s_law) (defBody s_law) (defScope s_law) .none kV1 dc1 pm1 an1 cd1 ct1, fun s v => .of_eq rfl, fun base _ _ => ?_⟩
  have c_lpen : Kn l.prog w K mg base "_law_pen" ["_law_script"] 1 (spPen K) := ⟨f2, _, ok_pen F2 T , PySem.W.mg_of X G a2, F2.kp, b2⟩
  have c_ldraw : Kn l.prog w K mg base "_law_draw" ["_law_pen_here", "_law_many"] 1 spDraw := ⟨f3, _, ok_draw F3 T , PySem.W.mg_of X G a3, F3.kp, b3⟩
  have c_pickS : Kn l.prog w K mg base "_law_pick" ["_law_pen_here", "_law_some"] 2 spPickS := ⟨f4, _, ok_pickS F4 T c_ldraw, PySem.W.mg_of X G a4, F4.kp, b4⟩
  have c_pickL : Kn l.prog w K mg base "_law_pick" ["_law_pen_here", "_law_some"] 2 spPickL := ⟨f4, _, ok_pickL F4 T c_ldraw, PySem.W.mg_of X G a4, F4.kp, b4⟩
  have c_lletters : Kn l.prog w K mg base "_law_letters" ["_law_pen_here"] 3 spLetters := ⟨f5, _, ok_letters F5 T c_ldraw c_pickL, PySem.W.mg_of X G a5, F5.kp, b5⟩
  have c_ltext : Kn l.prog w K mg base "_law_text" ["_law_pen_here", "_law_letters_here", "_law_words", "_law_most"] 3 spText := ⟨f6, _, ok_text F6 T c_ldraw c_pickS c_pickL, PySem.W.mg_of X G a6, F6.kp, b6⟩
  have c_is_list : Kn l.prog w K mg base "is_list" ["value"] 1 spIsQ := ⟨f7, _, ok_isQ F7 T , PySem.W.mg_of X G a7, F7.kp, b7⟩
  have c_is_integer : Kn l.prog w K mg base "is_integer" ["value"] 1 spIsInt := ⟨f8, _, ok_integer F8 T , PySem.W.mg_of X G a8, F8.kp, b8⟩
  have c_is_whole : Kn l.prog w K mg base "is_whole" ["value", "low", "high"] 2 spWhole := ⟨f9, _, ok_whole F9 T c_is_integer, PySem.W.mg_of X G a9, F9.kp, b9⟩
  have c_are_letters : Kn l.prog w K mg base "are_letters" ["value"] 1 spAreL := ⟨f10, _, ok_areL F10 T , PySem.W.mg_of X G a10, F10.kp, b10⟩
  have c_is_part : Kn l.prog w K mg base "_is_part" ["part", "letters", "width", "states"] 3 spIsPart := ⟨f11, _, ok_ispart F11 T c_is_list c_is_whole, PySem.W.mg_of X G a11, F11.kp, b11⟩
  have c_within : Kn l.prog w K mg base "_within" ["part"] 1 spWithin := ⟨f12, _, ok_within F12 T , PySem.W.mg_of X G a12, F12.kp, b12⟩
  have c_first_wrong : Kn l.prog w K mg base "first_wrong" ["tree", "letters", "width", "states"] 4 spFW := ⟨f13, _, ok_fw F13 T c_is_part c_within, PySem.W.mg_of X G a13, F13.kp, b13⟩
  have c_all_parts : Kn l.prog w K mg base "all_parts" ["tree"] 2 spAll := ⟨f14, _, ok_all F14 T c_within, PySem.W.mg_of X G a14, F14.kp, b14⟩
  have c_renamed : Kn l.prog w K mg base "renamed" ["tree", "names"] 41 (spRen 40) := ⟨f15, _, ok_ren0 F15 T (PySem.W.mg_of X G a15) b15 40, PySem.W.mg_of X G a15, F15.kp, b15⟩
  have c_ltree : Kn l.prog w K mg base "_law_tree" ["_law_pen_here", "_law_letters_here", "_law_width", "_law_states", "_law_depth"] 6 (spTree 4) := ⟨f16, _, ok_tree F16 T (PySem.W.mg_of X G a16) b16 c_ldraw 4, PySem.W.mg_of X G a16, F16.kp, b16⟩
  have c_ltrees : Kn l.prog w K mg base "_law_trees" ["_law_pen_here", "_law_letters_here", "_law_width", "_law_many", "_law_depth"] 7 spTrees := ⟨f17, _, ok_trees F17 T c_ltree, PySem.W.mg_of X G a17, F17.kp, b17⟩
  have c_kept : Kn l.prog w K mg base "_kept" ["value"] 1 spKept := ⟨f18, _, ok_kept F18 T , PySem.W.mg_of X G a18, F18.kp, b18⟩
  have c_wrong_sign : Kn l.prog w K mg base "wrong_sign" ["letters", "text"] 1 (spWS K) := ⟨f19, _, ok_ws F19 T , PySem.W.mg_of X G a19, F19.kp, b19⟩
  have c_followed : Kn l.prog w K mg base "followed" ["tree", "letters", "signs"] 1 spFol := ⟨f20, _, ok_fol F20 T , PySem.W.mg_of X G a20, F20.kp, b20⟩
  have FS := ok_init (P := l.prog) (w := w) (base := base) FS T S c_are_letters c_is_whole c_is_list c_first_wrong c_all_parts c_renamed
  have FT := ok_tinit (P := l.prog) (w := w) (mg := mg) (base := base) FT T ST
  have IB := ok_BadText (P := l.prog) (w := w) (base := base) FB T B0 EB nB1 c_kept
  have IM := ok_TooMany (P := l.prog) (w := w) (base := base) FM T B0 EM nM1 nM2 nM3 c_kept
  have c_searched : Kn l.prog w K mg base "searched" ["searcher", "text"] 3 (spSearched CS CT) := ⟨f21, _, ok_searched F21 T S ST MT FT mT bT c_followed, PySem.W.mg_of X G a21, F21.kp, b21⟩
  have c_trace : Kn' l.prog w K mg base (L2.CX l.prog w) "trace" ["searcher", "text"] 4 (spTrace K CS CT CB CM) := ⟨f22, _, ok_trace F22 T S EB EM mB mM IB bB IM bM c_wrong_sign c_searched, PySem.W.mg_of X G a22, F22.kp, b22⟩
  have c_lmet : Kn l.prog w K mg base "_law_met" ["_law_searcher", "_law_text_here"] 5 (spMet K CS) := ⟨f23, _, ok_met F23 T ST B0 EB EM mB mM nB1 nM1 nM2 nM3 x1 x2 x3 c_trace, PySem.W.mg_of X G a23, F23.kp, b23⟩
  have c_lturn : Kn l.prog w K mg base "_law_turn" ["_law_tree_here", "_law_letters_here", "_law_view"] 1 spTurn := ⟨f24, _, ok_turn F24 T , PySem.W.mg_of X G a24, F24.kp, b24⟩
  have c_lsearch : Kn l.prog w K mg base "_law_search" ["_law_letters_here", "_law_width", "_law_states", "_law_text_here"] 2 spSearch := ⟨f25, _, ok_search F25 T c_lturn, PySem.W.mg_of X G a25, F25.kp, b25⟩
  have c_lare_refused : Kn l.prog w K mg base "_law_are_refused" ["_law_pen_here", "_law_letters_here", "_law_width"] 44 spRef := ⟨f26, _, ok_ref F26 T MS FS mS bS c_ldraw c_pickL c_ltext c_lmet, PySem.W.mg_of X G a26, F26.kp, b26⟩
  exact ok_law F1 T (PySem.W.mg_none_of X G z16) S ST MS FS mS bS c_lpen c_ldraw c_lletters c_ltrees c_ltext c_lsearch c_trace c_lare_refused
end Law
open PySem PySem.W PyProof.Rows
set_option maxHeartbeats 0 in
theorem PySem.Challenge.cw_wordskips_k13_whole_traces_holds : PySem.Challenge.rw_wordskips_k13_whole_traces.Holds := by
  w_on; o_law; k_head; (case hw => w_witness2)
  k_fill
  refine GD.walkG (l := PySem.Challenge.rw_wordskips_k13_whole_traces) (n := 63) (k := 46) (x := "_law_script") (sp := fun w => Law.spLaw _) rfl (by decide) rfl ⟨rfl, by decide, by decide⟩ (fun w h Y => PySem.W.kIn_of Y) ?F (fun _ _ a ns hl hS => ⟨a, ns, rfl, hS, hl, fun _ => rfl⟩)
  case F =>
    intro w mg fa h KX G hmg
    refine' Law.all_mk KX G hmg (a1 := ?a1) (l1 := ?l1) (c1 := ?c1) (k1 := ?k1) (a2 := ?a2) (l2 := ?l2) (c2 := ?c2) (k2 := ?k2) (a3 := ?a3) (l3 := ?l3) (c3 := ?c3) (k3 := ?k3) (a4 := ?a4) (l4 := ?l4) (c4 := ?c4) (k4 := ?k4) (a5 := ?a5) (l5 := ?l5) (c5 := ?c5) (k5 := ?k5) (a6 := ?a6) (l6 := ?l6) (c6 := ?c6) (k6 := ?k6) (a7 := ?a7) (l7 := ?l7) (c7 := ?c7) (k7 := ?k7) (a8 := ?a8) (l8 := ?l8) (c8 := ?c8) (k8 := ?k8) (a9 := ?a9) (l9 := ?l9) (c9 := ?c9) (k9 := ?k9) (a10 := ?a10) (l10 := ?l10) (c10 := ?c10) (k10 := ?k10) (a11 := ?a11) (l11 := ?l11) (c11 := ?c11) (k11 := ?k11) (a12 := ?a12) (l12 := ?l12) (c12 := ?c12) (k12 := ?k12) (a13 := ?a13) (l13 := ?l13) (c13 := ?c13) (k13 := ?k13) (a14 := ?a14) (l14 := ?l14) (c14 := ?c14) (k14 := ?k14) (a15 := ?a15) (l15 := ?l15) (c15 := ?c15) (k15 := ?k15) (a16 := ?a16) (l16 := ?l16) (c16 := ?c16) (k16 := ?k16) (a17 := ?a17) (l17 := ?l17) (c17 := ?c17) (k17 := ?k17) (a18 := ?a18) (l18 := ?l18) (c18 := ?c18) (k18 := ?k18) (a19 := ?a19) (l19 := ?l19) (c19 := ?c19) (k19 := ?k19) (a20 := ?a20) (l20 := ?l20) (c20 := ?c20) (k20 := ?k20) (a21 := ?a21) (l21 := ?l21) (c21 := ?c21) (k21 := ?k21) (a22 := ?a22) (l22 := ?l22) (c22 := ?c22) (k22 := ?k22) (a23 := ?a23) (l23 := ?l23) (c23 := ?c23) (k23 := ?k23) (a24 := ?a24) (l24 := ?l24) (c24 := ?c24) (k24 := ?k24) (a25 := ?a25) (l25 := ?l25) (c25 := ?c25) (k25 := ?k25) (a26 := ?a26) (l26 := ?l26) (c26 := ?c26) (k26 := ?k26) (aCS := ?aCS) (aS := ?aS) (lS := ?lS) (cS := ?cS) (kS := ?kS) (nS1 := ?nS1) (nS2 := ?nS2) (nS3 := ?nS3) (nS4 := ?nS4) (g4S := ?g4S) (m2S := ?m2S) (aCT := ?aCT) (aT := ?aT) (lT := ?lT) (cT := ?cT) (kT := ?kT) (nT1 := ?nT1) (nT2 := ?nT2) (nT3 := ?nT3) (g4T := ?g4T) (m2T := ?m2T) (aCB := ?aCB) (aB := ?aB) (lB := ?lB) (cB := ?cB) (kB := ?kB) (nB1 := ?nB1) (g4B := ?g4B) (m2B := ?m2B) (aCM := ?aCM) (aM := ?aM) (lM := ?lM) (cM := ?cM) (kM := ?kM) (nM1 := ?nM1) (nM2 := ?nM2) (nM3 := ?nM3) (g4M := ?g4M) (m2M := ?m2M) (iS := ?iS) (m1S := ?m1S) (g1S := ?g1S) (g2S := ?g2S) (g3S := ?g3S) (iT := ?iT) (m1T := ?m1T) (g1T := ?g1T) (g2T := ?g2T) (g3T := ?g3T) (aC0 := ?aC0) (r1 := ?r1) (r2 := ?r2) (r3 := ?r3) (s1 := ?s1) (s2 := ?s2) (s3 := ?s3) (s4 := ?s4) (o1B := ?o1B) (o2B := ?o2B) (o3B := ?o3B) (o4B := ?o4B) (tB := ?tB) (x1B := ?x1B) (x2B := ?x2B) (x3B := ?x3B) (e1B := ?e1B) (e2B := ?e2B) (p1B := ?p1B) (p2B := ?p2B) (o1M := ?o1M) (o2M := ?o2M) (o3M := ?o3M) (o4M := ?o4M) (tM := ?tM) (x1M := ?x1M) (x2M := ?x2M) (x3M := ?x3M) (e1M := ?e1M) (e2M := ?e2M) (p1M := ?p1M) (p2M := ?p2M) (y1 := ?y1) (y2 := ?y2) (y3 := ?y3) (v0 := ?v0) (v1 := ?v1) (v2 := ?v2) (v3 := ?v3) (v4 := ?v4) (z0 := ?z0) (z1 := ?z1) (z2 := ?z2) (z3 := ?z3) (z4 := ?z4) (z5 := ?z5) (z6 := ?z6) (z7 := ?z7) (z8 := ?z8) (z9 := ?z9) (z10 := ?z10) (z11 := ?z11) (z12 := ?z12) (z13 := ?z13) (z14 := ?z14) (z15 := ?z15) (z16 := ?z16)
    (case a1 => k_is); (case l1 => k_is); (case c1 => k_is); (case k1 => k_is); (case a2 => k_is); (case l2 => k_is); (case c2 => k_is); (case k2 => k_is); (case a3 => k_is); (case l3 => k_is); (case c3 => k_is); (case k3 => k_is); (case a4 => k_is); (case l4 => k_is); (case c4 => k_is); (case k4 => k_is); (case a5 => k_is); (case l5 => k_is); (case c5 => k_is); (case k5 => k_is); (case a6 => k_is); (case l6 => k_is); (case c6 => k_is); (case k6 => k_is); (case a7 => k_is); (case l7 => k_is); (case c7 => k_is); (case k7 => k_is); (case a8 => k_is); (case l8 => k_is); (case c8 => k_is); (case k8 => k_is); (case a9 => k_is); (case l9 => k_is); (case c9 => k_is); (case k9 => k_is); (case a10 => k_is); (case l10 => k_is); (case c10 => k_is); (case k10 => k_is); (case a11 => k_is); (case l11 => k_is); (case c11 => k_is); (case k11 => k_is); (case a12 => k_is); (case l12 => k_is); (case c12 => k_is); (case k12 => k_is); (case a13 => k_is); (case l13 => k_is); (case c13 => k_is); (case k13 => k_is); (case a14 => k_is); (case l14 => k_is); (case c14 => k_is); (case k14 => k_is); (case a15 => k_is); (case l15 => k_is); (case c15 => k_is); (case k15 => k_is); (case a16 => k_is); (case l16 => k_is); (case c16 => k_is); (case k16 => k_is); (case a17 => k_is); (case l17 => k_is); (case c17 => k_is); (case k17 => k_is); (case a18 => k_is); (case l18 => k_is); (case c18 => k_is); (case k18 => k_is); (case a19 => k_is); (case l19 => k_is); (case c19 => k_is); (case k19 => k_is); (case a20 => k_is); (case l20 => k_is); (case c20 => k_is); (case k20 => k_is); (case a21 => k_is); (case l21 => k_is); (case c21 => k_is); (case k21 => k_is); (case a22 => k_is); (case l22 => k_is); (case c22 => k_is); (case k22 => k_is); (case a23 => k_is); (case l23 => k_is); (case c23 => k_is); (case k23 => k_is); (case a24 => k_is); (case l24 => k_is); (case c24 => k_is); (case k24 => k_is); (case a25 => k_is); (case l25 => k_is); (case c25 => k_is); (case k25 => k_is); (case a26 => k_is); (case l26 => k_is); (case c26 => k_is); (case k26 => k_is); (case aCS => k_is); (case aS => k_is); (case lS => k_is); (case cS => k_is); (case kS => k_is); (case nS1 => k_is); (case nS2 => k_is); (case nS3 => k_is); (case nS4 => k_is); (case g4S => k_is); (case m2S => k_is); (case aCT => k_is); (case aT => k_is); (case lT => k_is); (case cT => k_is); (case kT => k_is); (case nT1 => k_is); (case nT2 => k_is); (case nT3 => k_is); (case g4T => k_is); (case m2T => k_is); (case aCB => k_is); (case aB => k_is); (case lB => k_is); (case cB => k_is); (case kB => k_is); (case nB1 => k_is); (case g4B => k_is); (case m2B => k_is); (case aCM => k_is); (case aM => k_is); (case lM => k_is); (case cM => k_is); (case kM => k_is); (case nM1 => k_is); (case nM2 => k_is); (case nM3 => k_is); (case g4M => k_is); (case m2M => k_is); (case iS => k_is); (case m1S => k_is); (case g1S => k_is); (case g2S => k_is); (case g3S => k_is); (case iT => k_is); (case m1T => k_is); (case g1T => k_is); (case g2T => k_is); (case g3T => k_is); (case aC0 => k_is); (case r1 => k_is); (case r2 => k_is); (case r3 => k_is); (case s1 => k_is); (case s2 => k_is); (case s3 => k_is); (case s4 => k_is); (case o1B => k_is); (case o2B => rfl); (case o3B => k_is); (case o4B => k_is); (case tB => k_is); (case x1B => k_is); (case x2B => k_is); (case x3B => k_is); (case e1B => k_is); (case e2B => k_is); (case p1B => k_is); (case p2B => k_is); (case o1M => k_is); (case o2M => rfl); (case o3M => k_is); (case o4M => k_is); (case tM => k_is); (case x1M => k_is); (case x2M => k_is); (case x3M => k_is); (case e1M => k_is); (case e2M => k_is); (case p1M => k_is); (case p2M => k_is); (case y1 => k_is); (case y2 => k_is); (case y3 => k_is); (case v0 => k_is); (case v1 => k_is); (case v2 => k_is); (case v3 => k_is); (case v4 => k_is); (case z0 => k_is); (case z1 => k_is); (case z2 => k_is); (case z3 => k_is); (case z4 => k_is); (case z5 => k_is); (case z6 => k_is); (case z7 => k_is); (case z8 => k_is); (case z9 => k_is); (case z10 => k_is); (case z11 => k_is); (case z12 => k_is); (case z13 => k_is); (case z14 => k_is); (case z15 => k_is); (case z16 => k_is)


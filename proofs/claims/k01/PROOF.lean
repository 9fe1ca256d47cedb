import PyProof.Rows.All
import Wide.All
import OpenK.AllK
import Wide.FinOn
import HandS.ForMost
import HandS.Evl
import KE.GoesZip
import PyProof.EnumMake
import HandS.Strs
import KE.GoesMore
import HandS.IsInst
import HandS.DictComp
import HandS.Defaults
import HandS.TupAny
import PySem.Challenge.RW_wordskips_k01_wanted_places
set_option Elab.async false
set_option linter.all false
set_option maxRecDepth 100000
set_option maxHeartbeats 4000000
namespace ZS
open PySem PySem.Spec PyProof.Rows L2

/-- two texts side by side: a new pair of signs at each turn -/
def ItzS (x y : Str) : It :=
  ⟨fun i _ => i < x.cps.size ∧ i < y.cps.size,
   fun i H v H' => ∃ T c d, v = .ref T ∧ H T = none ∧ H' = upd H T (.tup [.str ⟨#[c]⟩, .str ⟨#[d]⟩]) ∧ x.cps[i]? = some c ∧ y.cps[i]? = some d,
   fun i _ => i = min x.cps.size y.cps.size⟩
theorem drawsS {prog : Program} {w : World} {A : Around} (hh : A.handled = none) (it : Addr) (x : Str) (t : Tok) :
    Draws prog w A it [it] x.cps.size (fun i v => ∃ c u, x.cps[i]? = some c ∧ v = .str ⟨#[c]⟩ u) (fun i h => h.IsStrIter it (strIterType x) x t i) := by
  unfold strIterType
  cases x.cps.all (· < 128)
  · exact Draws.strWide hh it x t
  · exact Draws.strAscii hh it x t
def StZ (x y : Str) (t u : Tok) (z TI TO i1 i2 : Addr) (i : Nat) (h : Heap) : Prop :=
  IsZip h z TI TO .none ∧ IsTupOf2 h TI (.ref i1) (.ref i2) ∧ (∃ a1 a2, IsTupOf2 h TO a1 a2) ∧ h.IsStrIter i1 (strIterType x) x t i ∧ h.IsStrIter i2 (strIterType y) y u i
theorem walkS {prog : Program} {w : World} {A : Around} (hh : A.handled = none) {z TI TO i1 i2 : Addr} (S : ZipSep2 z TI TO i1 i2 [i1] [i2]) (x y : Str) (t u : Tok) :
    WalksT prog w A z (z :: TI :: TO :: ([i1] ++ [i2])) [z, TO, i1, i2] (min x.cps.size y.cps.size)
      (fun i vals => ∃ v1 v2, (∃ c u, x.cps[i]? = some c ∧ v1 = .str ⟨#[c]⟩ u) ∧ (∃ c u, y.cps[i]? = some c ∧ v2 = .str ⟨#[c]⟩ u) ∧ vals = #[v1, v2])
      (StZ x y t u z TI TO i1 i2)
      (fun i T h => IsZip h z TI TO (rawInt T) ∧ IsTupOf2 h TI (.ref i1) (.ref i2) ∧ (∃ a1 a2, IsTupOf2 h TO a1 a2) ∧ h.IsStrIter i1 (strIterType x) x t (i + 1) ∧ h.IsStrIter i2 (strIterType y) y u (i + 1) ∧ T ≠ z ∧ T ≠ TO ∧ T ≠ i1 ∧ T ≠ i2) :=
  WalksT.zipD2 S (drawsS (A := A.in1) hh i1 x t) (drawsS (A := A.in1) hh i2 y u)
theorem fp5 {z TI TO i1 i2 c : Addr} (h : c ∈ [z, TI, TO, i1, i2]) : c = z ∨ c = TI ∨ c = TO ∨ c = i1 ∨ c = i2 := by simpa using h
theorem turn_zipS {P : Program} {w : World} {K : PySem.W.Frag} {elts : List Expr} {kk : Nat} {tpos : Pos} {z TI TO i1 i2 : Addr} (S : ZipSep2 z TI TO i1 i2 [i1] [i2]) (x y : Str) (t u : Tok) :
    Turn P w K (.Tuple elts kk tpos) (ItzS x y) [z, TI, TO, i1, i2] z (StZ x y t u z TI TO i1 i2) where
  mem := List.mem_cons_self
  obj := fun i h st c hc => by
    obtain ⟨q1, q2, ⟨a1, a2, q3⟩, ⟨o1, e1, _, d1⟩, ⟨o2, e2, _, d2⟩⟩ := st
    rcases fp5 hc with q | q | q | q | q
    all_goals subst q
    · exact ⟨_, q1, fun v q => nomatch q⟩
    · exact ⟨_, q2, fun v q => nomatch q⟩
    · exact ⟨_, q3, fun v q => nomatch q⟩
    · exact ⟨o1, e1, fun v q => by rw [d1] at q; cases q⟩
    · exact ⟨o2, e2, fun v q => by rw [d2] at q; cases q⟩
  keep := fun i h h' st k => by
    obtain ⟨q1, q2, ⟨a1, a2, q3⟩, ⟨o1, e1, r1⟩, ⟨o2, e2, r2⟩⟩ := st
    exact ⟨k z (by simp) _ q1, k TI (by simp) _ q2, ⟨a1, a2, k TO (by simp) _ q3⟩, ⟨o1, k i1 (by simp) _ e1, r1⟩, ⟨o2, k i2 (by simp) _ e2, r2⟩⟩
  item := by
    intro X hP hw hK hc i pins s σ H E I hf st hg
    subst hP hw hK
    have W := walkS (prog := X.prog) (w := X.w) (A := X.A) (I.ok.hd hc) S x y t u
    have hlt : i < min x.cps.size y.cps.size := by
      have h1 := hg.1
      have h2 := hg.2
      omega
    refine W.item i s _ _ hlt st fun T vals h' tk hv hT hIs hm hk => ?_
    refine ⟨.ref T, rfl, ?_⟩
    refine W.go elts kk tpos i T { s with heap := h', toks := tk } _ _ hm fun h2 st2 hk2 => ?_
    obtain ⟨v1, v2, ⟨c, u1, hc1, rfl⟩, ⟨d, u2, hd1, rfl⟩, rfl⟩ := hv
    have ap : T ∉ [z, TO, i1, i2] := W.apart i T h' hm
    have up : ∀ b o, b ∉ [z, TO, i1, i2] → s.heap.get? b = some o → h2.get? b = some o := fun b o hb e => hk2 b o hb (hk b o hb e)
    have hT2 : h2.IsTuple T #[.str ⟨#[c]⟩ u1, .str ⟨#[d]⟩ u2] := hIs.at fun o e => hk2 T o ap e
    obtain ⟨oT, eT, cT, nT, dT⟩ := hT2
    have new : ObjOk X.prog X.w (upd H T (.tup [.str ⟨#[c]⟩, .str ⟨#[d]⟩])) h2 T (.tup [.str ⟨#[c]⟩, .str ⟨#[d]⟩]) :=
      ⟨by show 2 ≤ sizeLine; decide, [.str ⟨#[c]⟩ u1, .str ⟨#[d]⟩ u2], .cons ⟨u1, rfl⟩ (.cons ⟨u2, rfl⟩ .nil), ⟨oT, eT, cT, nT, dT⟩⟩
    have sub : ∀ b, b ∉ [z, TI, TO, i1, i2] → b ∉ [z, TO, i1, i2] := fun b hb hb2 => hb (by
      have q : b = z ∨ b = TO ∨ b = i1 ∨ b = i2 := by simpa using hb2
      rcases q with q | q | q | q <;> simp [q])
    have I1 := I.turnedNew (t' := tk) (ch := [z, TI, TO, i1, i2]) (fun b o hb e => up b o (sub b hb) e) hf hT new
    refine ⟨.ref T, _, I1, rfl, ⟨T, c, d, rfl, I.hok.fresh hT, rfl, hc1, hd1⟩, st2, fun b hb => ?_⟩
    have hlb : b < s.heap.objs.size := by
      obtain ⟨q1, q2, ⟨a1, a2, q3⟩, ⟨o1, e1, r1⟩, ⟨o2, e2, r2⟩⟩ := st
      rcases fp5 hb with q | q | q | q | q
      · rw [q]; exact Heap.lt_size q1
      · rw [q]; exact Heap.lt_size q2
      · rw [q]; exact Heap.lt_size q3
      · rw [q]; exact Heap.lt_size e1
      · rw [q]; exact Heap.lt_size e2
    rw [upd_ne (show b ≠ T from fun e => absurd hT (by rw [← e]; exact Nat.not_le.mpr hlb))]
    exact (hf b hb).1
  done := by
    intro X hP hw hK hc i pins s σ H E I hf st hg
    subst hP hw hK
    have W := walkS (prog := X.prog) (w := X.w) (A := X.A) (I.ok.hd hc) S x y t u
    have hg : i = min x.cps.size y.cps.size := hg
    subst hg
    refine W.done s _ _ st fun h' tk hk => ⟨rfl, ?_⟩
    refine I.turnedL (t' := tk) (ch := [z, TI, TO, i1, i2]) (fun b o hb e => hk b o (fun hb2 => hb ?_) e) hf
    have q : b = z ∨ b = TO ∨ b = i1 ∨ b = i2 := by simpa using hb2
    rcases q with q | q | q | q <;> simp [q]
  self := fun A i s Q E st h => wpAny_pyIter_zip st.1 h

abbrev g1 (h : Heap) (x : Str) (t : Tok) : Heap := h.push { cls := .type (strIterType x), data := .fields #[.str x t, .int 0 0] }
abbrev g3 (h : Heap) (x y : Str) (t u : Tok) : Heap := (g1 (g1 h x t) y u).push { cls := .type "tuple", data := .seq #[.ref h.objs.size, .ref (g1 h x t).objs.size] }
abbrev g4 (h : Heap) (x y : Str) (t u : Tok) : Heap := (g3 h x y t u).push { cls := .type "tuple", data := .seq #[.none, .none] }
abbrev g5 (h : Heap) (x y : Str) (t u : Tok) : Heap := (g4 h x y t u).push { cls := .type "zip", data := .fields #[.none, .bool false, .bool false, .ref (g1 (g1 h x t) y u).objs.size, .ref (g3 h x y t u).objs.size] }
theorem meets_zipS (x y : Str) (t u : Tok) :
    Meets (Builtin.«zip.__new__» ⟨[.type "zip", .str x t, .str y u], []⟩) (fun _ R s => R (.ok (.ret (.ref (g4 s.heap x y t u).objs.size))) { s with heap := g5 s.heap x y t u }) :=
  .of_wp fun prog w A R s h => by
    obtain ⟨hp, gg, d, tk, os⟩ := s
    have hsub := sub_zip
    wp_walk using wpAny_pyIter_strU
    exact ⟨_, rfl, h⟩
theorem call_zipS {prog : Program} {w : World} {A : Around} {E : Value → Shared → Prop} {s : Shared} {x y : Str} {t u : Tok} {Q : Value → Shared → Prop}
    (h : ∀ h', StZ x y t u (s.heap.objs.size + 4) (s.heap.objs.size + 2) (s.heap.objs.size + 3) s.heap.objs.size (s.heap.objs.size + 1) 0 h' → (∀ c o, s.heap.get? c = some o → h'.get? c = some o) → Q (.ref (s.heap.objs.size + 4)) { s with heap := h' }) :
    wpAny (model prog w) A (call (.type "zip") [.str x t, .str y u]) Q E s := by
  refine callType_new F.called_zip (by decide) (F.typeCall_zip_2 _ _) (F.newCall_zip_2 _ _) (fun obj => F.args_object_init_3 obj _ _) F.entry_zip_new (meets_zipS x y t u) ?_
  have n1 : (g1 s.heap x t).objs.size = s.heap.objs.size + 1 := Heap.size_push ..
  have n2 : (g1 (g1 s.heap x t) y u).objs.size = s.heap.objs.size + 2 := by rw [Heap.size_push, n1]
  have n3 : (g3 s.heap x y t u).objs.size = s.heap.objs.size + 3 := by rw [Heap.size_push, n2]
  have n4 : (g4 s.heap x y t u).objs.size = s.heap.objs.size + 4 := by rw [Heap.size_push, n3]
  have k5 : (g5 s.heap x y t u).get? (g4 s.heap x y t u).objs.size = some _ := Heap.get?_push_size _ rfl
  have k4 : (g5 s.heap x y t u).get? (g3 s.heap x y t u).objs.size = some _ := Heap.get?_push_of_some _ (Heap.get?_push_size _ rfl)
  have k3 : (g5 s.heap x y t u).get? (g1 (g1 s.heap x t) y u).objs.size = some _ := Heap.get?_push_of_some _ (Heap.get?_push_of_some _ (Heap.get?_push_size _ rfl))
  have k2 : (g5 s.heap x y t u).get? (g1 s.heap x t).objs.size = some _ := Heap.get?_push_of_some _ (Heap.get?_push_of_some _ (Heap.get?_push_of_some _ (Heap.get?_push_size _ rfl)))
  have k1 : (g5 s.heap x y t u).get? s.heap.objs.size = some _ := Heap.get?_push_of_some _ (Heap.get?_push_of_some _ (Heap.get?_push_of_some _ (Heap.get?_push_of_some _ (Heap.get?_push_size _ rfl))))
  show _ ∧ _
  rw [n2, n3, n4] at k5
  rw [n1, n2] at k3
  rw [n3] at k4
  rw [n1] at k2
  rw [n4]
  exact ⟨⟨_, k5, rfl⟩, h _ ⟨k5, k3, ⟨_, _, k4⟩, ⟨_, k1, rfl, rfl⟩, ⟨_, k2, rfl, rfl⟩⟩ fun c o e =>
    Heap.get?_push_of_some _ (Heap.get?_push_of_some _ (Heap.get?_push_of_some _ (Heap.get?_push_of_some _ (Heap.get?_push_of_some _ e))))⟩
theorem sepS (n : Nat) : ZipSep2 (n + 4) (n + 2) (n + 3) n (n + 1) [n] [n + 1] := by
  constructor <;> first | omega | (simp <;> omega) | simp
def iZipS (ta : TA) : TI := fun σ H R => ta σ H fun vs H1 => ∃ x y, vs = [.str x, .str y] ∧ R (ItzS x y) H1
theorem pi_zipS {X : Cx} {e e2 : Expr} {ta : TA} {p pos tpos : Pos} {elts : List Expr} {kk : Nat} (hg : Gl X "zip") (hm : X.mg "zip" = none) (ha : PA X [e, e2] ta)
    (hs : starEach [e, e2] X.env = (false, eval e X.env) :: starEach [e2] X.env := by rfl) (hpl : (backTo pos (starEach [e2] X.env)).any (·.1) = false := by rfl) :
    PI X (.Tuple elts kk tpos) (.Call (.Name "zip" p) [e, e2] [] pos) (iZipS ta) := by
  refine ⟨fun pins s σ H R I h => ?_⟩
  refine Call_ (ld_blt I hg hm boot_zip (callWith_type1 (thn (ha.run pos pins s σ H _ I h) fun us s1 ⟨vs, H1, I1, r1, q1⟩ => ?_) hs hpl))
  obtain ⟨x, y, ex, q⟩ := q1
  subst ex
  cases r1 with
  | cons r rr =>
    cases rr with
    | cons r' rr =>
      cases rr
      obtain ⟨t, rfl⟩ := r
      obtain ⟨u, rfl⟩ := r'
      refine call_zipS fun h' st hk => wpAny_pyIter_zip st.1 ?_
      have I2 : Inv X pins σ H1 { s1 with heap := h' } := I1.kept (t' := s1.toks) hk
      refine ⟨s1.heap.objs.size + 4, _, _, _, H1, rfl, I2, turn_zipS (sepS _) x y t u, st, fun c hcm => ?_, q⟩
      have hle : s1.heap.objs.size ≤ c := by
        rcases fp5 hcm with z | z | z | z | z <;> rw [z] <;> first | exact Nat.le_add_right _ _ | exact Nat.le_refl _
      exact I1.fpOk hle (I1.hok.fresh hle)
/-- a comprehension over it -/
theorem lc_zipS {x y : Str} {g : TG} {tt : TT} {te : TE} {vs : List Nat} {σ : L2.St} {H1 : Hp} {D : Addr} {Qd : Hp → Prop} (Pv : Nat → Hp → Prop) (h0 : Pv 0 (upd H1 D (.lst [])))
    (hs : ∀ i c d T H, x.cps[i]? = some c → y.cps[i]? = some d → Pv i H → H T = none → g (.ref T) (wipe σ vs) (upd H T (.tup [.str ⟨#[c]⟩, .str ⟨#[d]⟩])) fun σ2 H2 => wipe σ2 vs = wipe σ vs ∧ tt σ2 H2 fun b H3 =>
      if b = true then te σ2 H3 fun z H4 => ∃ acc, H4 D = some (.lst acc) ∧ acc.length < sizeLine ∧ Pv (i + 1) (upd H4 D (.lst (acc ++ [z]))) else Pv (i + 1) H3) (hd : ∀ H, Pv (min x.cps.size y.cps.size) H → Qd H) :
    ∃ W : Nat → Nat → Hp → Prop, (∃ m, W 0 m (upd H1 D (.lst []))) ∧ ∀ i m H, W i m H →
      ((ItzS x y).stop i H ∧ Qd H) ∨ ((ItzS x y).go i H ∧ ∃ Nx : Hp → Prop, (∀ H', Nx H' → ∃ m', m' < m ∧ W (i + 1) m' H') ∧ ∀ v H', (ItzS x y).yld i H v H' → g v (wipe σ vs) H' fun σ2 H2 => wipe σ2 vs = wipe σ vs ∧ tt σ2 H2 fun b H3 =>
        if b = true then te σ2 H3 fun z H4 => ∃ acc, H4 D = some (.lst acc) ∧ acc.length < sizeLine ∧ Nx (upd H4 D (.lst (acc ++ [z]))) else Nx H3) := by
  refine ⟨fun i m H => i + m = min x.cps.size y.cps.size ∧ Pv i H, ⟨_, Nat.zero_add _, h0⟩, ?_⟩
  rintro i m H ⟨e, p⟩
  by_cases hm : m = 0
  · have e2 : i = min x.cps.size y.cps.size := by omega
    refine .inl ⟨e2, hd H ?_⟩
    rw [← e2]
    exact p
  · refine .inr ⟨⟨by omega, by omega⟩, Pv (i + 1), fun H' p' => ⟨m - 1, by omega, by omega, p'⟩, ?_⟩
    rintro v H' ⟨T, c, d, rfl, hT, rfl, hc, hd'⟩
    exact hs i c d T H hc hd' p hT
theorem op_mulS {X : Cx} : OpR X (binaryOp .Mult) (fun x y H Q => ∃ z n, x = .str z ∧ y = .int n ∧ MulOk z n ∧ Q (.str (Txt.mul z n)) H) := by
  intro pins s σ H x y v u Q I rx ry h
  obtain ⟨z, n, rfl, rfl, hz, q⟩ := h
  obtain ⟨t, rfl⟩ := rx
  obtain ⟨t', rfl⟩ := ry
  exact SB.mul hz (fun t' tk => ⟨.str (Txt.mul z n), H, I.tok _, ⟨_, rfl⟩, q⟩)
end ZS

namespace ST
open PySem PySem.Spec PyProof.Rows L2
/-- how many different ones the first i of a list are -/
def dct (xs : List Str) : Nat → Nat
  | 0 => 0
  | i + 1 => if (xs.take i).any (· == xs.getD i Str.empty) = true then dct xs i else dct xs i + 1
theorem dct_le (xs : List Str) : ∀ i, dct xs i ≤ i
  | 0 => Nat.le_refl _
  | i + 1 => by
    have := dct_le xs i
    unfold dct
    split <;> omega
theorem any_next {xs : List Str} {i : Nat} (hi : i < xs.length) (k : Str) : (xs.take (i + 1)).any (· == k) = ((xs.take i).any (· == k) || decide (k = xs.getD i Str.empty)) := by
  rw [List.take_add_one, List.any_append, List.getElem?_eq_getElem hi, List.getD_eq_getElem?_getD, List.getElem?_eq_getElem hi]
  refine congrArg (fun b => (xs.take i).any (· == k) || b) ?_
  show (xs[i] == k || false) = decide (k = xs[i])
  rw [Bool.or_false]
  by_cases e : k = xs[i]
  · rw [decide_eq_true e, ← e]
    simp
  · rw [decide_eq_false e]
    simpa using fun q : xs[i] = k => e q.symm
section
variable {prog : Program} {w : World} {A : Around} {R : Result → Shared → Prop} {It : Addr} {fp wr : List Addr} {Gn : Array GenState → Array GenState → Prop} {n : Nat} {P : Nat → Value → Prop} {St : Nat → Shared → Prop}
theorem fill (W : WalksS prog w A.in1 It fp wr Gn n P St) (a : Addr) (haf : a ∉ fp) (xs : List Str) (hx : xs.length = n) (hn : n + 1 < scanBound) (hv : ∀ i v, P i v → ∃ t, v = .str (xs.getD i Str.empty) t) :
    ∀ (k i : Nat) (s : Shared), n - i = k → i ≤ n → St i s → s.heap.SetOf (PySem.strKind prog w) a (fun z => (xs.take i).any (· == z)) (dct xs i) →
      (∀ s', Moved (a :: wr) Gn s s' → s'.heap.SetOf (PySem.strKind prog w) a (fun z => (xs.take n).any (· == z)) (dct xs n) → R (.ok (.ret .none)) s') →
      codeAny (model prog w) A (.builtin "set.update.loop" ⟨[.ref a, .ref It], []⟩) R s := by
  have haw : a ∉ wr := fun q => haf (W.sub _ q)
  have up : ∀ b ∈ wr, b ∈ a :: wr := fun b q => List.mem_cons_of_mem _ q
  intro k
  induction k with
  | zero =>
    intro i s hk hi hst hset hR
    obtain rfl : i = n := by omega
    refine codeAny_builtin F.entry_set_update_loop ?_
    rw [Around.under_plainId F.plain_set_update_loop _]
    refine wpAny_bind (W.done s _ _ hst fun s' mv => wpAny_pure (hR s' (mv.mono up) ?_))
    obtain ⟨o, es, ep, tb, ho, rest⟩ := hset
    exact ⟨o, es, ep, tb, mv.heap a _ haw ho, rest⟩
  | succ k ih =>
    intro i s hk hi hst hset hR
    have hlt : i < n := by omega
    refine codeAny_builtin F.entry_set_update_loop ?_
    rw [Around.under_plainId F.plain_set_update_loop _]
    refine wpAny_bind (W.item i s _ _ hlt hst fun v s1 hp st1 mv => ?_)
    obtain ⟨t, rfl⟩ := hv i v hp
    have set1 : s1.heap.SetOf (PySem.strKind prog w) a (fun z => (xs.take i).any (· == z)) (dct xs i) := by
      obtain ⟨o, es, ep, tb, ho, rest⟩ := hset
      exact ⟨o, es, ep, tb, mv.heap a _ haw ho, rest⟩
    refine wpAny_bind (wpAny_holding ?_)
    unfold setAdd
    refine wpAny_holding (wpAny_bind ((PySem.strKind prog w).pyHash (k := xs.getD i Str.empty) (strKind_is _ _ _ _) ?_))
    have room : dct xs i + 1 < scanBound := by
      have := dct_le xs i
      omega
    refine wpAny_setAddHashed_of (knd := PySem.strKind prog w) (s := { s1 with toks := s1.toks + 1 }) (strKind_is _ _ _ _) rfl set1 room fun h2 sb set2 => ?_
    have set3 : h2.SetOf (PySem.strKind prog w) a (fun z => (xs.take (i + 1)).any (· == z)) (dct xs (i + 1)) :=
      SetOf_congr set2 (fun z => (any_next (by omega) z).symm) (by
        show dct xs (i + 1) = _
        unfold dct
        rfl)
    refine wpAny_pure ⟨plainId_quiet F.plain_set_update_loop _, ih (i + 1) _ (by omega) hlt (W.frame _ s1 _ _ st1 (Nat.le_succ _) fun b hb o e => ?_) set3 fun s2 mv2 hS2 => ?_⟩
    · rw [sb.2 b (fun q : b = a => haf (by rw [← q]; exact hb))]
      exact e
    · refine hR s2 (Moved.trans W.gtrans ((mv.mono up).then_heap (Nat.le_succ _) fun b o hb e => ?_) mv2) hS2
      rw [sb.2 b (fun q : b = a => hb (by rw [q]; exact List.mem_cons_self))]
      exact e
end
theorem walkStr {prog : Program} {w : World} {A : Around} (hh : A.handled = none) (it : Addr) (x : Str) (t : Tok) :
    Walks prog w A it [it] [it] x.cps.size (SignAt x) (fun i h => h.IsStrIter it (strIterType x) x t i) := by
  unfold strIterType
  cases x.cps.all (· < 128)
  · exact Walks.strWide hh it x t
  · exact Walks.strAscii hh it x t
def signsOf (x : Str) : List Str := x.cps.toList.map fun c => ⟨#[c]⟩
theorem signsOf_len (x : Str) : (signsOf x).length = x.cps.size := by simp [signsOf]
section
variable {prog : Program} {w : World} {A : Around} {E : Value → Shared → Prop} {s : Shared}
theorem call_set_text {x : Str} {t : Tok} {Q : Value → Shared → Prop} (hh : A.handled = none) (hn : x.cps.size + 1 < scanBound)
    (h : ∀ (h' : Heap) (tk : Nat), h'.SetOf (PySem.strKind prog w) s.heap.objs.size (fun z => ((signsOf x).take x.cps.size).any (· == z)) (dct (signsOf x) x.cps.size) →
      (∀ b o, b < s.heap.objs.size → s.heap.get? b = some o → h'.get? b = some o) → Q (.ref s.heap.objs.size) { s with heap := h', toks := tk }) :
    wpAny (model prog w) A (call (.type "set") [.str x t]) Q E s := by
  obtain ⟨c, tl, hmro⟩ := PySem.F.called_set.mro
  have hmade := PySem.F.called_set.made
  have hsub := PySem.F.called_set.sub
  refine wpAny_call (codeAny_of_tree ?_)
  show wpAny _ _ (callAny (.type "set") _) _ _ _
  refine wpAny_pure ⟨Code.quiet_builtin _ (by decide +kernel), codeAny_builtin PySem.F.entry_type_call ?_⟩
  rw [Around.under_plain (weight_type_call_type "set" [.str x t] []) rfl]
  have x1 := PySem.F.called_set.notType
  have x2 := PySem.F.called_set.canCreate
  have x3 := PySem.F.typeCall_set_1 (.str x t)
  repeat (any_goals (first | assumption | wp_step))
  refine codeAny_mono (code_set_new_1 (.str x t) (E := E) (Q₁ := fun obj s₁ => ∃ led : Bool, obj = .ref s.heap.objs.size ∧ s₁ = { s with heap := s.heap.push { cls := .type "set", dict := none, data := .set #[] 0 (.fresh 0 0 led) } }) fun led => ⟨led, rfl, rfl⟩) fun r s₁ hr => ?_
  cases r with
  | error e => exact hr
  | ok fl =>
    cases fl with
    | ret obj =>
      obtain ⟨led, rfl, rfl⟩ := hr
      obtain ⟨hp, hhp⟩ : ∃ hp, s.heap.push { cls := .type "set", dict := none, data := .set #[] 0 (.fresh 0 0 led) } = hp := ⟨_, rfl⟩
      have y1 : hp.get? s.heap.objs.size = some { cls := .type "set", dict := none, data := .set #[] 0 (.fresh 0 0 led) } := by
        rw [← hhp]
        exact Heap.get?_push_size _ rfl
      have y2 : hp.objs.size = s.heap.objs.size + 1 := by
        rw [← hhp]
        exact Heap.size_push ..
      have y3 : ∀ b o, s.heap.get? b = some o → hp.get? b = some o := fun b o e => by
        rw [← hhp]
        exact Heap.get?_push_of_some _ e
      rw [hhp]
      have hT : Shared.TypeIs { s with heap := hp } (.ref s.heap.objs.size) "set" := ⟨_, y1, rfl⟩
      have y4 := PySem.F.called_set.init.lookup
      have y5 := PySem.F.called_set.init.bind (.ref s.heap.objs.size)
      repeat (any_goals (first | assumption | wp_step))
      refine codeAny_mono (codeAny_call_builtin (R := wants (fun r s₂ => r = .none ∧ ∃ h' tk, s₂ = { s with heap := h', toks := tk } ∧
          h'.SetOf (PySem.strKind prog w) s.heap.objs.size (fun z => ((signsOf x).take x.cps.size).any (· == z)) (dct (signsOf x) x.cps.size) ∧
          (∀ b o, b < s.heap.objs.size → s.heap.get? b = some o → h'.get? b = some o)) E) PySem.F.called_set.init.plain PySem.F.entry_set_init (check_set_init_1 hT ?_)) fun r₂ s₂ hr₂ => ?_
      · have sb1 := PySem.F.sub_str_set
        have sb2 := PySem.F.sub_str_frozenset
        have sb3 : (Value.type "str" == Value.type "dict") = false := by decide
        unfold Builtin.«set.__init__» noKeywords Builtin.Frozenset.updateFrom
        generalize hPI : pyIter = PI
        wp_walk
        subst hPI
        refine wpAny_pyIter_strU ?_
        refine wpAny_bind (wpAny_runValue ?_)
        have hh3 : A.in1.in1.in1.handled = none := by simp [hh]
        have z1 : s.heap.objs.size ∉ [hp.objs.size] := by
          rw [y2]
          simp
        refine fill ((walkStr hh3 _ x t).toS) s.heap.objs.size z1 (signsOf x) (signsOf_len x) hn ?_ (x.cps.size - 0) 0 _ (by omega) (Nat.zero_le _)
          ⟨_, Heap.get?_push_size _ rfl, rfl, rfl⟩ ?_ ?_
        · rintro i v ⟨c, u, hc, rfl⟩
          refine ⟨u, ?_⟩
          unfold signsOf
          rw [List.getD_eq_getElem?_getD, List.getElem?_map, Array.getElem?_toList, hc]
          rfl
        · have z2 : (hp.push { cls := .type (strIterType x), data := .fields #[.str x t, .int 0 0] }).get? s.heap.objs.size = some { cls := .type "set", dict := none, data := .set #[] 0 (.fresh 0 0 led) } := Heap.get?_push_of_some _ y1
          exact SetOf_congr ((setObjOf_fresh (knd := PySem.strKind prog w) led).setOf z2 (by unfold scanBound; omega)) (fun _ => rfl) rfl
        · intro s' mv hS'
          obtain ⟨h', g', d', tk', os'⟩ := s'
          obtain rfl : g' = s.gens := mv.gens
          obtain rfl : d' = s.drawn := mv.drawn
          obtain rfl : os' = s.os := mv.os
          refine wpAny_pure ?_
          show wpAny _ _ (ret Value.none) _ _ _
          refine wpAny_pure ⟨rfl, h', tk', rfl, hS', fun b o hb e => ?_⟩
          refine mv.heap b o ?_ (Heap.get?_push_of_some _ (y3 b o e))
          rw [y2]
          simp only [List.mem_cons, List.not_mem_nil, or_false, not_or]
          exact ⟨Nat.ne_of_lt hb, Nat.ne_of_lt (Nat.lt_succ_of_lt hb)⟩
      · cases r₂ with
        | error e => exact hr₂
        | ok fl₂ =>
          cases fl₂ with
          | ret r =>
            obtain ⟨rfl, h', tk, rfl, hS', hk'⟩ := hr₂
            repeat (any_goals (first | assumption | wp_step))
            exact h _ _ hS' hk'
          | _ => exact hr₂.elim
    | _ => exact hr.elim
end
end ST

namespace EN
open PySem PySem.Spec PyProof.Rows L2
/-! ### len(set(text)) -/
def tLenSetS (ta : TE) : TE := fun σ H Q => ta σ H fun x H1 => ∃ z : Str, x = .str z ∧ z.cps.size < 1000 ∧ Q (.int (ST.dct (ST.signsOf z) z.cps.size)) H1
theorem pe_lenSetS {X : Cx} {a : Expr} {ta : TE} {p p2 q pos : Pos} (hc : X.calm = true) (hg : Gl X "len") (hm : X.mg "len" = none) (hg2 : Gl X "set") (hm2 : X.mg "set" = none) (ha : PE X a ta)
    (na : starEach [a] X.env = (false, eval a X.env) :: starEach [] X.env := by rfl) : PE X (.Call (.Name "len" p) [.Call (.Name "set" p2) [a] [] q] [] pos) (tLenSetS ta) := by
  refine ⟨fun pins s σ H Q I h => Call_ (ld_blt I hg hm PySem.boot_len (callWith_builtin1 (args_cons (Call_ (ld_blt I hg2 hm2 boot_set ?_)) rfl) rfl rfl))⟩
  refine callWith_type1 (args_cons (thn (ha.run pins s σ H _ I h) fun v s1 ⟨x, H1, I1, r1, z, ex, hz, q1⟩ => args_nil ?_) na) na rfl
  subst ex
  obtain ⟨t, rfl⟩ := r1
  refine ST.call_set_text (I1.ok.hd hc) (by unfold scanBound; omega) fun h' tk hS hk => args_nil ?_
  obtain ⟨o, es, ep, t, ho, hex, hd, _, _, _, hf, hn⟩ := hS
  have I2 : Inv X pins σ H1 { s1 with heap := h', toks := tk } := I1.kept fun b o e => hk b o (Heap.lt_size e) e
  have hd2 := ST.dct_le (ST.signsOf z) z.cps.size
  exact call_len_set ho hex hd hf (by rw [hn]; omega) ⟨.int _, H1, I2.tok _, ⟨_, by rw [hn]⟩, q1⟩

/-! ### enumerate over a text, over a tuple -/
def ItS (x : Str) : It := ⟨fun i _ => i < x.cps.size,
  fun i H v H' => ∃ T c, v = .ref T ∧ H T = none ∧ H' = upd H T (.tup [.int (i : Nat), .str ⟨#[c]⟩]) ∧ x.cps[i]? = some c, fun i _ => i = x.cps.size⟩
def ItT (K : PySem.W.Frag) (a : Addr) : It := ⟨fun i H => ∃ (xs : List V) (x : V), SqT K H a xs ∧ xs[i]? = some x,
  fun i H v H' => ∃ T x, v = .ref T ∧ H T = none ∧ H' = upd H T (.tup [.int (i : Nat), x]) ∧ ∀ xs, SqT K H a xs → xs[i]? = some x, fun i H => ∃ xs : List V, SqT K H a xs ∧ i = xs.length⟩
theorem two {e it b : Addr} (h : b ∈ [e, it]) : b = e ∨ b = it := by simpa using h
theorem obj_of {h : Heap} {e it : Addr} {i : Int} {old : Value} (he : IsEnum h e it i old) {o : Obj} (ho : h.get? it = some o) {vs : Array Value} (hd : o.data = .fields vs) : ∀ b ∈ [e, it], ∃ o, h.get? b = some o ∧ ∀ v, o.data ≠ .cell v := fun b hb => by
  rcases two hb with z | z
  · rw [z]; exact ⟨_, he, fun v q => nomatch q⟩
  · rw [z]; exact ⟨o, ho, fun v q => by rw [hd] at q; cases q⟩
theorem turn_enumS {P : Program} {w : World} {K : PySem.W.Frag} {elts : List Expr} {kk : Nat} {tpos : Pos} (x : Str) (t : Tok) (e it : Addr) :
    Turn P w K (.Tuple elts kk tpos) (ItS x) [e, it] e (fun i h => (∃ old, IsEnum h e it ((i : Nat) : Int) old) ∧ h.IsStrIter it (strIterType x) x t i ∧ e ≠ it) where
  mem := List.mem_cons_self
  obj := fun i h st b hb => by
    obtain ⟨⟨old, he⟩, ⟨o, ho, _, hd⟩, _⟩ := st
    exact obj_of he ho hd b hb
  keep := fun i h h' st k => by
    obtain ⟨⟨old, he⟩, ⟨o, ho, r⟩, hne⟩ := st
    exact ⟨⟨old, k e (by simp) _ he⟩, ⟨o, k it (by simp) _ ho, r⟩, hne⟩
  item := by
    intro X hP hw hK hc i pins s σ H E I hf st hg
    subst hP hw hK
    obtain ⟨⟨old, he⟩, hit, hne⟩ := st
    have D := ZS.drawsS (prog := X.prog) (w := X.w) (A := X.A.in1) (I.ok.hd hc) it x t
    have l1 : e < s.heap.objs.size := Heap.lt_size he
    have l2 : it < s.heap.objs.size := by obtain ⟨_, q, _⟩ := hit; exact Heap.lt_size q
    refine wpAny_pyNext_enum_itemD D he hit hg hne (by simpa using hne) fun v h' tk hv ho hit' hT hsz hk => ?_
    obtain ⟨c, u, hcx, rfl⟩ := hv
    refine ⟨_, rfl, wpAny_letOwnedTupleGo_enum (s := { s with heap := h', toks := tk + 1 }) ho fun h2 he2 sb => ?_⟩
    have hT2 : h2.get? s.heap.objs.size = some { cls := .type "tuple", data := .seq #[.int i tk, .str ⟨#[c]⟩ u] } := (sb.2 _ (Nat.ne_of_gt l1)).trans hT
    have new : ObjOk X.prog X.w (upd H s.heap.objs.size (.tup [.int (i : Nat), .str ⟨#[c]⟩])) h2 s.heap.objs.size (.tup [.int (i : Nat), .str ⟨#[c]⟩]) :=
      ⟨by show 2 ≤ sizeLine; decide, [.int i tk, .str ⟨#[c]⟩ u], .cons ⟨_, rfl⟩ (.cons ⟨u, rfl⟩ .nil), ⟨_, hT2, rfl, _, rfl⟩⟩
    have I1 := I.turnedNew (t' := tk + 1) (ch := [e, it]) (fun b ob hb q => (sb.2 b (fun z => hb (by simp [z]))).trans (hk b ob (fun z => hb (by simp [z])) (fun z => hb (by simp [z])) q)) hf (Nat.le_refl _) new
    refine ⟨.ref s.heap.objs.size, _, I1, rfl, ⟨_, c, rfl, I.hok.fresh (Nat.le_refl _), rfl, hcx⟩, ⟨⟨.str ⟨#[c]⟩ u, ?_⟩, ?_, hne⟩, fun b hb => ?_⟩
    · rw [show ((i + 1 : Nat) : Int) = (i : Int) + 1 by omega]
      exact he2
    · obtain ⟨o, q, r⟩ := hit'
      exact ⟨o, (sb.2 it (Ne.symm hne)).trans q, r⟩
    · rw [upd_ne (show b ≠ s.heap.objs.size from fun q => by
        rcases two hb with z | z
        · rw [← q, z] at l1; exact Nat.lt_irrefl _ l1
        · rw [← q, z] at l2; exact Nat.lt_irrefl _ l2)]
      exact (hf b hb).1
  done := by
    intro X hP hw hK hc i pins s σ H E I hf st hg
    subst hP hw hK
    obtain ⟨⟨old, he⟩, hit, hne⟩ := st
    have hg : i = x.cps.size := hg
    subst hg
    have D := ZS.drawsS (prog := X.prog) (w := X.w) (A := X.A.in1) (I.ok.hd hc) it x t
    refine wpAny_pyNext_enum_endD D he hit fun h' eb => ⟨rfl, I.turnedL (t' := s.toks) (ch := [e, it]) (fun b o hb q => eb b o (fun z => hb (by simp [z])) q) hf⟩
  self := fun A i s Q E st h => by
    obtain ⟨⟨_, he⟩, _⟩ := st
    exact wpAny_pyIter_enum he h
theorem turn_enumT {P : Program} {w : World} {K : PySem.W.Frag} {elts : List Expr} {kk : Nat} {tpos : Pos} (a e it : Addr) :
    Turn P w K (.Tuple elts kk tpos) (ItT K a) [e, it] e (fun i h => (∃ old, IsEnum h e it ((i : Nat) : Int) old) ∧ h.IsTupleIter it a i ∧ e ≠ it ∧ a ≠ it ∧ a ≠ e) where
  mem := List.mem_cons_self
  obj := fun i h st b hb => by
    obtain ⟨⟨old, he⟩, ⟨o, ho, _, hd⟩, _⟩ := st
    exact obj_of he ho hd b hb
  keep := fun i h h' st k => by
    obtain ⟨⟨old, he⟩, ⟨o, ho, r⟩, hne⟩ := st
    exact ⟨⟨old, k e (by simp) _ he⟩, ⟨o, k it (by simp) _ ho, r⟩, hne⟩
  item := by
    intro X hP hw hK hc i pins s σ H E I hf st hg
    subst hP hw hK
    obtain ⟨⟨old, he⟩, hit, hne, hai, hae⟩ := st
    obtain ⟨xs, x, hq, hx⟩ := hg
    obtain ⟨its, rv, p, hz⟩ := I.tuple hq
    obtain ⟨u, hu, ru⟩ := rv.get hx
    have hlt : i < its.toArray.size := by
      have := (List.getElem?_eq_some_iff.mp hu).1
      simpa using this
    have D := Draws.tuple (prog := X.prog) (w := X.w) (A := X.A.in1) (I.ok.hd hc) it a hai its.toArray
    have l1 : e < s.heap.objs.size := Heap.lt_size he
    have l2 : it < s.heap.objs.size := by obtain ⟨_, q, _⟩ := hit; exact Heap.lt_size q
    have hef : e ∉ [it, a] := by
      intro q
      rcases two q with z | z
      · exact hne z
      · exact hae z.symm
    refine wpAny_pyNext_enum_itemD D he ⟨hit, p⟩ hlt hne hef fun v h' tk hv ho hit' hT hsz hk => ?_
    obtain rfl : v = u := by
      have q : its.toArray[i]? = some v := hv
      rw [List.getElem?_toArray, hu] at q
      exact (Option.some.inj q).symm
    refine ⟨_, rfl, wpAny_letOwnedTupleGo_enum (s := { s with heap := h', toks := tk + 1 }) ho fun h2 he2 sb => ?_⟩
    have hT2 : h2.get? s.heap.objs.size = some { cls := .type "tuple", data := .seq #[.int i tk, v] } := (sb.2 _ (Nat.ne_of_gt l1)).trans hT
    have new : ObjOk X.prog X.w (upd H s.heap.objs.size (.tup [.int (i : Nat), x])) h2 s.heap.objs.size (.tup [.int (i : Nat), x]) :=
      ⟨by show 2 ≤ sizeLine; decide, [.int i tk, v], .cons ⟨_, rfl⟩ (.cons ru .nil), ⟨_, hT2, rfl, _, rfl⟩⟩
    have I1 := I.turnedNew (t' := tk + 1) (ch := [e, it]) (fun b ob hb q => (sb.2 b (fun z => hb (by simp [z]))).trans (hk b ob (fun z => hb (by simp [z])) (fun z => hb (by simp [z])) q)) hf (Nat.le_refl _) new
    refine ⟨.ref s.heap.objs.size, _, I1, rfl, ⟨_, x, rfl, I.hok.fresh (Nat.le_refl _), rfl, fun ys hy => by rw [I.tuple_inj hy hq]; exact hx⟩, ⟨⟨v, ?_⟩, ?_, hne, hai, hae⟩, fun b hb => ?_⟩
    · rw [show ((i + 1 : Nat) : Int) = (i : Int) + 1 by omega]
      exact he2
    · obtain ⟨o, q, r⟩ := hit'.1
      exact ⟨o, (sb.2 it (Ne.symm hne)).trans q, r⟩
    · rw [upd_ne (show b ≠ s.heap.objs.size from fun q => by
        rcases two hb with z | z
        · rw [← q, z] at l1; exact Nat.lt_irrefl _ l1
        · rw [← q, z] at l2; exact Nat.lt_irrefl _ l2)]
      exact (hf b hb).1
  done := by
    intro X hP hw hK hc i pins s σ H E I hf st hg
    subst hP hw hK
    obtain ⟨⟨old, he⟩, hit, hne, hai, hae⟩ := st
    obtain ⟨xs, hq, hx⟩ := hg
    obtain ⟨its, rv, p, hz⟩ := I.tuple hq
    have D := Draws.tuple (prog := X.prog) (w := X.w) (A := X.A.in1) (I.ok.hd hc) it a hai its.toArray
    have hl := rv.length
    have hn : i = its.toArray.size := by
      rw [List.size_toArray]
      omega
    subst hn
    refine wpAny_pyNext_enum_endD D he ⟨hit, p⟩ fun h' eb => ⟨rfl, I.turnedL (t' := s.toks) (ch := [e, it]) (fun b o hb q => eb b o (fun z => hb (by simp [z])) q) hf⟩
  self := fun A i s Q E st h => by
    obtain ⟨⟨_, he⟩, _⟩ := st
    exact wpAny_pyIter_enum he h
theorem meets_enumT (a : Addr) (xs : Array Value) :
    Meets (Builtin.«enumerate.__new__» ⟨[.type "enumerate", .ref a], []⟩) (fun _ R s => s.heap.IsTuple a xs ∧
      R (.ok (.ret (.ref (s.heap.push { cls := .type "tuple_iterator", data := .fields #[.ref a, .int 0 0] }).objs.size)))
        { s with heap := (s.heap.push { cls := .type "tuple_iterator", data := .fields #[.ref a, .int 0 0] }).push { cls := .type "enumerate", data := .fields #[.none, .bool false, .ref s.heap.objs.size, rawInt 0, .none, .none] } }) :=
  .of_wp fun prog w A R s h => by
    obtain ⟨hp, g, d, tk, os⟩ := s
    obtain ⟨hl, h⟩ := h
    have hsub := sub_enumerate
    have hL : Heap.IsTuple (Shared.heap ⟨hp, g, d, tk, os⟩) a xs := hl
    wp_walk
    refine wpAny_stack_any fun st => wpAny_pure ?_
    split
    · rename_i c _ _ _ _ _
      cases (c == Value.type "enumerate")
      all_goals
        wp_walk using wpAny_pyIter_tuple hL
        exact ⟨_, rfl, h⟩
    · wp_walk using wpAny_pyIter_tuple hL
      exact ⟨_, rfl, h⟩
section
variable {X : Cx}
def iEnumS (ta : TA) : TI := fun σ H R => ta σ H fun vs H1 => ∃ x, vs = [.str x] ∧ R (ItS x) H1
theorem pi_enumS {e : Expr} {ta : TA} {p pos tpos : Pos} {elts : List Expr} {kk : Nat} (hg : Gl X "enumerate") (hm : X.mg "enumerate" = none) (ha : PA X [e] ta) (hs : starEach [e] X.env = [(false, eval e X.env)] := by rfl) :
    PI X (.Tuple elts kk tpos) (.Call (.Name "enumerate" p) [e] [] pos) (iEnumS ta) := by
  refine ⟨fun pins s σ H R I h => Call_ (ld_blt I hg hm boot_enumerate (callWith_type1 (thn (ha.run pos pins s σ H _ I h) fun us s1 ⟨vs, H1, I1, r1, q1⟩ => ?_) hs rfl))⟩
  obtain ⟨x, ex, q⟩ := q1
  subst ex
  cases r1 with
  | cons r rr =>
    cases rr
    obtain ⟨t, rfl⟩ := r
    refine call_enumerate_str fun h' he hit hsz hk => wpAny_pyIter_enum he ?_
    refine ⟨s1.heap.objs.size + 1, _, _, _, H1, rfl, I1.kept (t' := s1.toks) hk, turn_enumS x t (s1.heap.objs.size + 1) s1.heap.objs.size, ⟨⟨.none, he⟩, hit, Nat.succ_ne_self _⟩, fun b hb => ?_, q⟩
    have hle : s1.heap.objs.size ≤ b := by
      rcases two hb with z | z <;> rw [z] <;> first | exact Nat.le_add_right _ _ | exact Nat.le_refl _
    exact I1.fpOk hle (I1.hok.fresh hle)
def iEnumT (K : PySem.W.Frag) (ta : TA) : TI := fun σ H R => ta σ H fun vs H1 => ∃ a xs, vs = [.ref a] ∧ SqT K H1 a xs ∧ R (ItT K a) H1
theorem pi_enumT {e : Expr} {ta : TA} {p pos tpos : Pos} {elts : List Expr} {kk : Nat} (hg : Gl X "enumerate") (hm : X.mg "enumerate" = none) (ha : PA X [e] ta) (hs : starEach [e] X.env = [(false, eval e X.env)] := by rfl) :
    PI X (.Tuple elts kk tpos) (.Call (.Name "enumerate" p) [e] [] pos) (iEnumT X.K ta) := by
  refine ⟨fun pins s σ H R I h => Call_ (ld_blt I hg hm boot_enumerate (callWith_type1 (thn (ha.run pos pins s σ H _ I h) fun us s1 ⟨vs, H1, I1, r1, q1⟩ => ?_) hs rfl))⟩
  obtain ⟨a, xs, ex, hq, q⟩ := q1
  subst ex
  cases r1 with
  | cons r rr =>
    cases rr
    cases r
    obtain ⟨its, rv, p', hz⟩ := I1.tuple hq
    obtain ⟨oa, hoa, _⟩ := id p'
    have la : a < s1.heap.objs.size := Heap.lt_size hoa
    refine callType_new F.called_enumerate (by decide) (F.typeCall_enumerate_1 _) (F.newCall_enumerate_1 _) (fun obj => F.args_object_init_2 obj _) F.entry_enumerate_new (meets_enumT a its.toArray) ⟨p', ?_⟩
    have hz : (s1.heap.push { cls := .type "tuple_iterator", data := .fields #[.ref a, .int 0 0] }).objs.size = s1.heap.objs.size + 1 := Heap.size_push ..
    show _ ∧ _
    rw [hz]
    have g1 := Heap.get?_push_size (s1.heap.push { cls := .type "tuple_iterator", data := .fields #[.ref a, .int 0 0] }) (o := { cls := .type "enumerate", data := .fields #[.none, .bool false, .ref s1.heap.objs.size, rawInt 0, .none, .none] }) rfl
    rw [hz] at g1
    have he : IsEnum ((s1.heap.push { cls := .type "tuple_iterator", data := .fields #[.ref a, .int 0 0] }).push { cls := .type "enumerate", data := .fields #[.none, .bool false, .ref s1.heap.objs.size, rawInt 0, .none, .none] }) (s1.heap.objs.size + 1) s1.heap.objs.size 0 .none := g1
    refine ⟨⟨_, he, rfl⟩, wpAny_pyIter_enum he ?_⟩
    refine ⟨s1.heap.objs.size + 1, _, _, _, H1, rfl, I1.kept (t' := s1.toks) fun b o e => Heap.get?_push_of_some _ (Heap.get?_push_of_some _ e), turn_enumT a (s1.heap.objs.size + 1) s1.heap.objs.size,
      ⟨⟨.none, he⟩, ⟨_, Heap.get?_push_of_some _ (Heap.get?_push_size _ rfl), rfl, rfl⟩, Nat.succ_ne_self _, Nat.ne_of_lt la, Nat.ne_of_lt (Nat.lt_succ_of_lt la)⟩, fun b hb => ?_, q⟩
    have hle : s1.heap.objs.size ≤ b := by
      rcases two hb with z | z <;> rw [z] <;> first | exact Nat.le_add_right _ _ | exact Nat.le_refl _
    exact I1.fpOk hle (I1.hok.fresh hle)
end
/-! ### loops over them -/
theorem for_enumS {x : Str} {g : TG} {tb : TS} {D : Ends} {σ : L2.St} {H : Hp} (Pv : Nat → L2.St → Hp → Prop) (h0 : Pv 0 σ H)
    (hs : ∀ (i c : Nat) (T : Addr) (σ : L2.St) (H : Hp), x.cps[i]? = some c → Pv i σ H → H T = none → g (.ref T) σ (upd H T (.tup [.int (i : Nat), .str ⟨#[c]⟩])) fun σ2 H2 => tb { D with nx := Pv (i + 1), ct := Pv (i + 1), bk := D.nx } σ2 H2)
    (hd : ∀ σ H, Pv x.cps.size σ H → D.nx σ H) :
    ∃ W : Nat → Nat → L2.St → Hp → Prop, (∃ m, W 0 m σ H) ∧ ∀ i m σ H, W i m σ H →
      ((ItS x).stop i H ∧ D.nx σ H) ∨ ((ItS x).go i H ∧ ∃ N : L2.St → Hp → Prop, (∀ σ' H', N σ' H' → ∃ m', m' < m ∧ W (i + 1) m' σ' H') ∧ ∀ v H', (ItS x).yld i H v H' → g v σ H' fun σ2 H2 => tb { D with nx := N, ct := N, bk := D.nx } σ2 H2) := by
  refine ⟨fun i m σ H => i + m = x.cps.size ∧ Pv i σ H, ⟨_, Nat.zero_add _, h0⟩, ?_⟩
  rintro i m σ H ⟨e, p⟩
  by_cases hm : m = 0
  · have e2 : i = x.cps.size := by omega
    refine .inl ⟨e2, hd σ H ?_⟩
    rw [← e2]
    exact p
  · refine .inr ⟨show i < x.cps.size by omega, Pv (i + 1), fun σ' H' p' => ⟨m - 1, by omega, by omega, p'⟩, ?_⟩
    rintro v H' ⟨T, c, rfl, hT, rfl, hc⟩
    exact hs i c T σ H hc p hT
theorem for_enumT {K : PySem.W.Frag} {a : Addr} {xs : List V} {g : TG} {tb : TS} {D : Ends} {σ : L2.St} {H : Hp} (Pv : Nat → L2.St → Hp → Prop) (h0 : Pv 0 σ H) (hq : ∀ i σ H, Pv i σ H → SqT K H a xs)
    (hs : ∀ (i : Nat) (x : V) (T : Addr) (σ : L2.St) (H : Hp), xs[i]? = some x → Pv i σ H → H T = none → g (.ref T) σ (upd H T (.tup [.int (i : Nat), x])) fun σ2 H2 => tb { D with nx := Pv (i + 1), ct := Pv (i + 1), bk := D.nx } σ2 H2)
    (hd : ∀ σ H, Pv xs.length σ H → D.nx σ H) :
    ∃ W : Nat → Nat → L2.St → Hp → Prop, (∃ m, W 0 m σ H) ∧ ∀ i m σ H, W i m σ H →
      ((ItT K a).stop i H ∧ D.nx σ H) ∨ ((ItT K a).go i H ∧ ∃ N : L2.St → Hp → Prop, (∀ σ' H', N σ' H' → ∃ m', m' < m ∧ W (i + 1) m' σ' H') ∧ ∀ v H', (ItT K a).yld i H v H' → g v σ H' fun σ2 H2 => tb { D with nx := N, ct := N, bk := D.nx } σ2 H2) := by
  refine ⟨fun i m σ H => i + m = xs.length ∧ Pv i σ H, ⟨_, Nat.zero_add _, h0⟩, ?_⟩
  rintro i m σ H ⟨e, p⟩
  by_cases hm : m = 0
  · have e2 : i = xs.length := by omega
    refine .inl ⟨⟨xs, hq i σ H p, e2⟩, hd σ H ?_⟩
    rw [← e2]
    exact p
  · have hi : i < xs.length := by omega
    refine .inr ⟨⟨xs, xs[i], hq i σ H p, List.getElem?_eq_getElem hi⟩, Pv (i + 1), fun σ' H' p' => ⟨m - 1, by omega, by omega, p'⟩, ?_⟩
    rintro v H' ⟨T, x, rfl, hT, rfl, hx⟩
    exact hs i x T σ H (hx xs (hq i σ H p)) p hT
theorem for_enumL {K : PySem.W.Frag} {a : Addr} {xs : List V} {g : TG} {tb : TS} {D : Ends} {σ : L2.St} {H : Hp} (Pv : Nat → L2.St → Hp → Prop) (h0 : Pv 0 σ H) (hq : ∀ i σ H, Pv i σ H → SqL K H a xs)
    (hs : ∀ (i : Nat) (x : V) (T : Addr) (σ : L2.St) (H : Hp), xs[i]? = some x → Pv i σ H → H T = none → g (.ref T) σ (upd H T (.tup [.int (i : Nat), x])) fun σ2 H2 => tb { D with nx := Pv (i + 1), ct := Pv (i + 1), bk := D.nx } σ2 H2)
    (hd : ∀ σ H, Pv xs.length σ H → D.nx σ H) :
    ∃ W : Nat → Nat → L2.St → Hp → Prop, (∃ m, W 0 m σ H) ∧ ∀ i m σ H, W i m σ H →
      ((Ite K a).stop i H ∧ D.nx σ H) ∨ ((Ite K a).go i H ∧ ∃ N : L2.St → Hp → Prop, (∀ σ' H', N σ' H' → ∃ m', m' < m ∧ W (i + 1) m' σ' H') ∧ ∀ v H', (Ite K a).yld i H v H' → g v σ H' fun σ2 H2 => tb { D with nx := N, ct := N, bk := D.nx } σ2 H2) := by
  refine ⟨fun i m σ H => i + m = xs.length ∧ Pv i σ H, ⟨_, Nat.zero_add _, h0⟩, ?_⟩
  rintro i m σ H ⟨e, p⟩
  by_cases hm : m = 0
  · have e2 : i = xs.length := by omega
    refine .inl ⟨⟨xs, hq i σ H p, by omega⟩, hd σ H ?_⟩
    rw [← e2]
    exact p
  · have hi : i < xs.length := by omega
    refine .inr ⟨⟨xs, xs[i], hq i σ H p, List.getElem?_eq_getElem hi⟩, Pv (i + 1), fun σ' H' p' => ⟨m - 1, by omega, by omega, p'⟩, ?_⟩
    rintro v H' ⟨T, x, rfl, hT, rfl, hx⟩
    exact hs i x T σ H (hx xs (hq i σ H p)) p hT
end EN

namespace Law
open PySem PySem.Spec PyProof.Rows L2 Evl
def top (i : Nat) : Stmt := PySem.Challenge.pw_wordskips_k01_wanted_places.main.body.getD i (.Pass ⟨0, 0, 0, 0⟩)
abbrev s_is_list : Stmt := top 1
abbrev N_is_list : List Str := ["value"]
theorem sc_is_list : FnScope N_is_list ["value"] (defScope s_is_list) := ⟨rfl, rfl, rfl, by decide +kernel, rfl, by decide +kernel, by decide +kernel⟩
abbrev s_are_letters : Stmt := top 2
abbrev N_are_letters : List Str := ["value", "sign"]
theorem sc_are_letters : FnScope N_are_letters ["value"] (defScope s_are_letters) := ⟨rfl, rfl, rfl, by decide +kernel, rfl, by decide +kernel, by decide +kernel⟩
abbrev s_wrong_sign : Stmt := top 3
abbrev N_wrong_sign : List Str := ["letters", "text", "place", "sign"]
theorem sc_wrong_sign : FnScope N_wrong_sign ["letters", "text"] (defScope s_wrong_sign) := ⟨rfl, rfl, rfl, by decide +kernel, rfl, by decide +kernel, by decide +kernel⟩
abbrev s_wrong_word : Stmt := top 4
abbrev N_wrong_word : List Str := ["letters", "words", "place", "word"]
theorem sc_wrong_word : FnScope N_wrong_word ["letters", "words"] (defScope s_wrong_word) := ⟨rfl, rfl, rfl, by decide +kernel, rfl, by decide +kernel, by decide +kernel⟩
abbrev s_is_wish : Stmt := top 5
abbrev N_is_wish : List Str := ["value"]
theorem sc_is_wish : FnScope N_is_wish ["value"] (defScope s_is_wish) := ⟨rfl, rfl, rfl, by decide +kernel, rfl, by decide +kernel, by decide +kernel⟩
abbrev s_is_word : Stmt := top 6
abbrev N_is_word : List Str := ["letters", "value"]
theorem sc_is_word : FnScope N_is_word ["letters", "value"] (defScope s_is_word) := ⟨rfl, rfl, rfl, by decide +kernel, rfl, by decide +kernel, by decide +kernel⟩
abbrev s_kept : Stmt := top 13
abbrev N_kept : List Str := ["value", "part", "key"]
theorem sc_kept : FnScope N_kept ["value"] (defScope s_kept) := ⟨rfl, rfl, rfl, by decide +kernel, rfl, by decide +kernel, by decide +kernel⟩
abbrev s_check_words : Stmt := top 15
abbrev N_check_words : List Str := ["letters", "words", "place"]
theorem sc_check_words : FnScope N_check_words ["letters", "words"] (defScope s_check_words) := ⟨rfl, rfl, rfl, by decide +kernel, rfl, by decide +kernel, by decide +kernel⟩
abbrev s_wanted : Stmt := top 16
abbrev N_wanted : List Str := ["letters", "words", "text", "wish", "place", "found"]
theorem sc_wanted : FnScope N_wanted ["letters", "words", "text", "wish"] (defScope s_wanted) := ⟨rfl, rfl, rfl, by decide +kernel, rfl, by decide +kernel, by decide +kernel⟩
abbrev s_standing : Stmt := top 17
abbrev N_standing : List Str := ["words", "text", "numbers", "number", "word", "size", "found", "place", "part"]
theorem sc_standing : FnScope N_standing ["words", "text"] (defScope s_standing) := ⟨rfl, rfl, rfl, by decide +kernel, rfl, by decide +kernel, by decide +kernel⟩
abbrev s_apart : Stmt := top 18
abbrev N_apart : List Str := ["found", "size", "taken", "end", "place", "number"]
theorem sc_apart : FnScope N_apart ["found", "size"] (defScope s_apart) := ⟨rfl, rfl, rfl, by decide +kernel, rfl, by decide +kernel, by decide +kernel⟩
abbrev s_lpen : Stmt := top 20
abbrev N_lpen : List Str := ["_law_script"]
theorem sc_lpen : FnScope N_lpen ["_law_script"] (defScope s_lpen) := ⟨rfl, rfl, rfl, by decide +kernel, rfl, by decide +kernel, by decide +kernel⟩
abbrev s_ldraw : Stmt := top 21
abbrev N_ldraw : List Str := ["_law_pen_here", "_law_many", "_law_digit", "_law_k", "_law_cells", "_law_cell", "_law_mix"]
theorem sc_ldraw : FnScope N_ldraw ["_law_pen_here", "_law_many"] (defScope s_ldraw) := ⟨rfl, rfl, rfl, by decide +kernel, rfl, by decide +kernel, by decide +kernel⟩
abbrev s_lpick : Stmt := top 22
abbrev N_lpick : List Str := ["_law_pen_here", "_law_some"]
theorem sc_lpick : FnScope N_lpick ["_law_pen_here", "_law_some"] (defScope s_lpick) := ⟨rfl, rfl, rfl, by decide +kernel, rfl, by decide +kernel, by decide +kernel⟩
abbrev s_lletters : Stmt := top 23
abbrev N_lletters : List Str := ["_law_pen_here", "_law_small", "_law_first", "_law_pace", "_law_k"]
theorem sc_lletters : FnScope N_lletters ["_law_pen_here"] (defScope s_lletters) := ⟨rfl, rfl, rfl, by decide +kernel, rfl, by decide +kernel, by decide +kernel⟩
abbrev s_lword : Stmt := top 24
abbrev N_lword : List Str := ["_law_pen_here", "_law_letters_here", "_law_width", "_law_way", "_law_at", "_law_piece", "_law_k", "_law_word_here"]
theorem sc_lword : FnScope N_lword ["_law_pen_here", "_law_letters_here", "_law_width"] (defScope s_lword) := ⟨rfl, rfl, rfl, by decide +kernel, rfl, by decide +kernel, by decide +kernel⟩
abbrev s_lwords : Stmt := top 25
abbrev N_lwords : List Str := ["_law_pen_here", "_law_letters_here", "_law_width", "_law_many", "_law_found", "_law_k", "_law_word_here"]
theorem sc_lwords : FnScope N_lwords ["_law_pen_here", "_law_letters_here", "_law_width", "_law_many"] (defScope s_lwords) := ⟨rfl, rfl, rfl, by decide +kernel, rfl, by decide +kernel, by decide +kernel⟩
abbrev s_ltext : Stmt := top 26
abbrev N_ltext : List Str := ["_law_pen_here", "_law_letters_here", "_law_words_here", "_law_most", "_law_text_here", "_law_size", "_law_word_here", "_law_near"]
theorem sc_ltext : FnScope N_ltext ["_law_pen_here", "_law_letters_here", "_law_words_here", "_law_most"] (defScope s_ltext) := ⟨rfl, rfl, rfl, by decide +kernel, rfl, by decide +kernel, by decide +kernel⟩
abbrev s_lstanding : Stmt := top 27
abbrev N_lstanding : List Str := ["_law_words_here", "_law_text_here", "_law_found", "_law_place", "_law_k"]
theorem sc_lstanding : FnScope N_lstanding ["_law_words_here", "_law_text_here"] (defScope s_lstanding) := ⟨rfl, rfl, rfl, by decide +kernel, rfl, by decide +kernel, by decide +kernel⟩
abbrev s_lapart : Stmt := top 28
abbrev N_lapart : List Str := ["_law_pairs", "_law_width", "_law_found", "_law_free", "_law_place", "_law_number"]
theorem sc_lapart : FnScope N_lapart ["_law_pairs", "_law_width"] (defScope s_lapart) := ⟨rfl, rfl, rfl, by decide +kernel, rfl, by decide +kernel, by decide +kernel⟩
abbrev s_law : Stmt := top 29
abbrev N_law : List Str := ["_law_script", "_law_pen_here", "_law_turn", "_law_letters_here", "_law_width", "_law_words_here", "_law_lap", "_law_text_here", "_law_due", "_law_found"]
theorem sc_law : FnScope N_law ["_law_script"] (defScope s_law) := ⟨rfl, rfl, rfl, by decide +kernel, rfl, by decide +kernel, by decide +kernel⟩

/-! ### the pen -/
def penK (c : Addr) (op lf : Int) : List (Key × V) := [(.inr "cells", .ref c), (.inr "opened", .int op), (.inr "left", .int lf)]
structure PenI where
  d : Addr
  c : Addr
  ns : List Int
def PenAt (p : PenI) (H0 H : Hp) (n : Nat) : Prop := Ex H0 H ∧ H0 p.d = none ∧ H0 p.c = some (.lst (p.ns.map V.int)) ∧ p.ns.length ≤ 63 ∧
  ∃ (op : Nat) (lf : Int), op ≤ n ∧ H p.d = some (.dK (penK p.c op lf))
theorem PenAt.ex {p : PenI} {H0 H H1 : Hp} {n : Nat} (P : PenAt p H0 H n) (e : Ex H H1) : PenAt p H0 H1 n := by
  obtain ⟨e0, h0, hc, hl, op, lf, ho, hd⟩ := P
  exact ⟨e0.trans e, h0, hc, hl, op, lf, ho, e p.d _ hd⟩
theorem PenAt.le {p : PenI} {H0 H : Hp} {n m : Nat} (P : PenAt p H0 H n) (h : n ≤ m) : PenAt p H0 H m := by
  obtain ⟨e0, h0, hc, hl, op, lf, ho, hd⟩ := P
  exact ⟨e0, h0, hc, hl, op, lf, Nat.le_trans ho h, hd⟩
theorem PenAt.dict {p : PenI} {H0 H : Hp} {n : Nat} (P : PenAt p H0 H n) : ∃ kvs, H p.d = some (.dK kvs) := by
  obtain ⟨_, _, _, _, op, lf, _, h⟩ := P
  exact ⟨_, h⟩
theorem PenAt.lst_ne {p : PenI} {H0 H : Hp} {a : Addr} {n : Nat} {xs : List V} (P : PenAt p H0 H n) (h : H a = some (.lst xs)) : a ≠ p.d := by
  obtain ⟨kvs, h2⟩ := P.dict
  exact ne_of h h2 (by intro z; cases z)
/-- an object made meanwhile may change -/
theorem PenAt.upd {p : PenI} {H0 H : Hp} {a : Addr} {n : Nat} {o : HO} (P : PenAt p H0 H n) (h : H0 a = none) (hd : a ≠ p.d) : PenAt p H0 (upd H a o) n := by
  obtain ⟨e0, h0, hc, hl, op, lf, ho, hd'⟩ := P
  exact ⟨e0.mut h, h0, hc, hl, op, lf, ho, by rw [upd_ne hd.symm]; exact hd'⟩
/-- one more object kept, and let go again -/
theorem PenAt.keep {p : PenI} {H0 H : Hp} {a : Addr} {n : Nat} {o : HO} (P : PenAt p H0 H n) (h : H a = some o) (hd : a ≠ p.d) : PenAt p (L2.upd H0 a o) H n := by
  obtain ⟨e0, h0, hc, r⟩ := P
  refine ⟨fun b u e => ?_, by rw [upd_ne hd.symm]; exact h0, ?_, r⟩
  · by_cases q : b = a
    · subst q
      rw [upd_same] at e
      rw [h, e]
    · rw [upd_ne q] at e
      exact e0 b u e
  · by_cases q : p.c = a
    · have e2 := e0 _ _ hc
      rw [q, h] at e2
      rw [q, upd_same, e2]
    · rw [upd_ne q]
      exact hc
theorem PenAt.drop {p : PenI} {H0 H H' : Hp} {a : Addr} {n m : Nat} {o : HO} (P : PenAt p H0 H n) (h : H a = some o) (P' : PenAt p (L2.upd H0 a o) H' m) : PenAt p H0 H' m := by
  refine ⟨fun b u e => ?_, P.2.1, P.2.2.1, P'.2.2.2⟩
  by_cases q : b = a
  · subst q
    have e2 := P.1 _ _ e
    rw [h] at e2
    exact P'.1 _ _ (by rw [upd_same, e2])
  · exact P'.1 _ _ (by rw [upd_ne q]; exact e)
theorem cells_opened : ¬ (("cells" : Str) = "opened") := by decide +kernel
theorem cells_left : ¬ (("cells" : Str) = "left") := by decide +kernel
theorem opened_left : ¬ (("opened" : Str) = "left") := by decide +kernel
theorem get_cells (c : Addr) (op lf : Int) : valV (penK c op lf) (.inr "cells") = some (.ref c) := by
  unfold valV penK
  rw [List.find?_cons_of_pos (by simp)]
  rfl
theorem get_opened (c : Addr) (op lf : Int) : valV (penK c op lf) (.inr "opened") = some (.int op) := by
  unfold valV penK
  rw [List.find?_cons_of_neg (by simpa using cells_opened), List.find?_cons_of_pos (by simp)]
  rfl
theorem get_left (c : Addr) (op lf : Int) : valV (penK c op lf) (.inr "left") = some (.int lf) := by
  unfold valV penK
  rw [List.find?_cons_of_neg (by simpa using cells_left), List.find?_cons_of_neg (by simpa using opened_left), List.find?_cons_of_pos (by simp)]
  rfl
theorem put_opened (c : Addr) (op lf x : Int) : putK (penK c op lf) (.inr "opened") (.int x) = penK c x lf := by
  unfold putK penK
  simp [cells_opened, opened_left, cells_left, Ne.symm opened_left]
theorem put_left (c : Addr) (op lf x : Int) : putK (penK c op lf) (.inr "left") (.int x) = penK c op x := by
  unfold putK penK
  simp [cells_opened, opened_left, cells_left]
theorem dget_of {H : Hp} {d : Addr} {kvs : List (Key × V)} {k : Str} {v : V} (e : H d = some (.dK kvs)) (h : valV kvs (.inr k) = some v) : DGet H d (.str k) (some v) := by
  rw [← h]
  exact DGet.k (k := .inr k) e
theorem dput_of {H : Hp} {d : Addr} {kvs kvs' : List (Key × V)} {k : Str} {v : V} (e : H d = some (.dK kvs)) (hl : kvs.length < 100) (h : putK kvs (.inr k) v = kvs') : DPut H d (.str k) v (upd H d (.dK kvs')) := by
  rw [← h]
  exact DPut.k (k := .inr k) e (Nat.lt_of_lt_of_le hl (by decide))

/-! ### lists of ints as data -/
theorem lay_ints : ∀ ns : List Int, PyData.canLayAll0 (ns.map PyData.int) = true
  | [] => rfl
  | n :: r => by
    show (PyData.canLay0 (.int n) && PyData.canLayAll0 (r.map PyData.int)) = true
    rw [lay_ints r]
    rfl
theorem depth_ints : ∀ ns : List Int, PyData.depthAll (ns.map PyData.int) = 0
  | [] => rfl
  | n :: r => by
    show max (PyData.depth (.int n)) (PyData.depthAll (r.map PyData.int)) = 0
    rw [depth_ints r]
    rfl
theorem shaped_ints (ns : List Int) : SeqAt.shaped (.list (ns.map PyData.int)) = true := by
  unfold SeqAt.shaped
  have e1 : (PyData.list (ns.map PyData.int)).canLay0 = true := lay_ints ns
  have e2 : (PyData.list (ns.map PyData.int)).depth = 1 := by
    show PyData.depthAll (ns.map PyData.int) + 1 = 1
    rw [depth_ints]
  rw [e1, e2]
  rfl
theorem dp_ints {K : PySem.W.Frag} {H : Hp} : ∀ ns : List Int, DpAll K H (ns.map V.int) (ns.map PyData.int)
  | [] => .nil
  | n :: r => .cons (.int n) (dp_ints r)
theorem eqv_nil (ns : List Int) : PyData.eqv (.list (ns.map PyData.int)) (.list []) = ns.isEmpty := by
  cases ns <;> rfl

/-! ### what is known of a def that is called -/
structure Kn (P : Program) (w : World) (K : PySem.W.Frag) (mg : Str → Option Value) (base : Heap) (x : Str) (ps : List Str) (k : Nat) (sp : Sp) where
  f : Addr
  fd : FuncData
  ok : FnOk P w K mg base CX0 k f fd ps sp
  g : mg x = some (.ref f)
  kp : PySem.W.keepIn K (.ref f) = true
  b : Binds K fd ps []
structure Tx (mg : Str → Option Value) : Prop where
  len : mg "len" = none
  int : mg "int" = none
  abs : mg "abs" = none
  min : mg "min" = none
  list : mg "list" = none
  all : mg "all" = none
  range : mg "range" = none
  isinstance : mg "isinstance" = none
  str : mg "str" = none
  set : mg "set" = none
  tuple : mg "tuple" = none
  enumerate : mg "enumerate" = none

def spPen (K : PySem.W.Frag) : Sp := fun vs H Q _ => ∃ (a : Addr) (ns : List Int), vs = [.ref a] ∧ SqL K H a (ns.map V.int) ∧ ns.length ≤ 63 ∧ ∀ p H0 H', Ex H H0 → PenAt p H0 H' 0 → Q (.ref p.d) H'
def spDraw : Sp := fun vs H Q _ => ∃ (p : PenI) (H0 : Hp) (n : Nat) (m : Int), vs = [.ref p.d, .int m] ∧ PenAt p H0 H n ∧ n < 1000000 ∧ 0 < m ∧ m < 1000 ∧ ∀ H' r, PenAt p H0 H' (n + 1) → 0 ≤ r → r < m → Q (.int r) H'

section
variable {P : Program} {w : World} {K : PySem.W.Frag} {mg : Str → Option Value} {base : Heap}
theorem ok_pen {f : Addr} {fd : FuncData} (F : Fun K "_law_pen" "_law_pen" s_lpen f fd) (T : Tx mg) : FnOk P w K mg base CX0 1 f fd ["_law_script"] (spPen K) := by
  refine F.ok sc_lpen (fun vs H Q E h => ?_) (fun cdv A outer s H vs Q E hr h => ?_)
  · obtain ⟨a, ns, rfl, _⟩ := h
    rfl
  · obtain ⟨a, ns, rfl, hS, hl, q⟩ := h
    refine ⟨_, (pss_one (ps_ret (pe_disp (pps_cons pe_str (pe_callTy call_list_of (by rfl) T.list PyProof.Rows.boot_list (pa_cons (pe_slice sl_list (pv 0) po_none (po_some pe_int)) pa_nil)) (pps_cons pe_str pe_int (pps_cons pe_str pe_int pps_nil))) (by rfl) (by rfl) (fun z => by cases z) (by decide)))), ?_⟩
    intro d hd
    have e1 : Ex H (upd H d (.dK [])) := Ex.new hd
    refine ⟨.ref a, rfl, 63, rfl, a, _, rfl, ex_l e1 hS, fun c hc => ?_⟩
    have e2 := e1.trans (Ex.new (o := .lst (cutV (ns.map V.int) none (some 63))) hc)
    refine ⟨c, _, rfl, .inl (.inl (.inl upd_same)), fun c2 hc2 => ?_⟩
    have e3 := e2.trans (Ex.new (o := .lst (cutV (ns.map V.int) none (some 63))) hc2)
    have ncd : c ≠ d := fun z => by rw [z, upd_same] at hc; cases hc
    have nc2c : c2 ≠ c := fun z => by rw [z, upd_same] at hc2; cases hc2
    have nc2d : c2 ≠ d := fun z => by rw [z, upd_ne ncd.symm, upd_same] at hc2; cases hc2
    refine ⟨by rw [upd_ne nc2d.symm, upd_ne ncd.symm, upd_same], penK c2 0 0, rfl, (by show 3 ≤ 15; decide), ?_⟩
    have em : mergeK [] (penK c2 0 0) = penK c2 0 0 := by
      unfold mergeK penK
      simp [putK, cells_opened, opened_left, cells_left]
    rw [em]
    have el : ((cutV (ns.map V.int) none (some 63)) : List V) = ((ns.drop (HT.sIx ns.length 0 none)).take (HT.sIx ns.length ns.length (some 63) - HT.sIx ns.length 0 none)).map V.int := by
      unfold cutV
      rw [List.length_map, List.map_take, List.map_drop]
    have hn2 : H c2 = none := by
      rw [upd_ne nc2c, upd_ne nc2d] at hc2
      exact hc2
    refine q ⟨d, c2, (ns.drop (HT.sIx ns.length 0 none)).take (HT.sIx ns.length ns.length (some 63) - HT.sIx ns.length 0 none)⟩ (upd H c2 (.lst (cutV (ns.map V.int) none (some 63)))) _ (Ex.new hn2) ⟨fun b u e => ?_, ?_, ?_, ?_, 0, 0, Nat.le_refl _, upd_same⟩
    · have nbd : b ≠ d := fun z => by
        rw [z, upd_ne nc2d.symm, hd] at e
        cases e
      rw [upd_ne nbd]
      by_cases z : b = c2
      · subst z
        rw [upd_same] at e ⊢
        exact e
      · rw [upd_ne z] at e ⊢
        exact (e1.trans (Ex.new hc)) _ _ e
    · exact (upd_ne nc2d.symm).trans hd
    · show upd H c2 _ c2 = _
      rw [upd_same, el]
    · rw [List.length_take, List.length_drop]
      omega
theorem ok_draw {f : Addr} {fd : FuncData} (F : Fun K "_law_draw" "_law_draw" s_ldraw f fd) (T : Tx mg) : FnOk P w K mg base CX0 1 f fd ["_law_pen_here", "_law_many"] spDraw := by
  refine F.ok sc_ldraw (fun vs H Q E h => ?_) (fun cdv A outer s H vs Q E hr h => ?_)
  · obtain ⟨p, H0, n, m, rfl, _⟩ := h
    rfl
  · obtain ⟨⟨d, c, ns⟩, H0, n, m, rfl, ⟨e0, h0, hc0, hl, op, lf, ho, hd⟩, hn, hm0, hm1, q⟩ := h
    have hc : H c = some (.lst (ns.map V.int)) := e0 _ _ hc0
    dsimp only at h0 hl hd q ⊢
    have ncd : c ≠ d := ne_of hc hd (by intro z; cases z)
    have fin : ∀ (o2 : Nat) (l2 : Int) (H' : Hp), Ex H0 H' → H' c = some (.lst (ns.map V.int)) → H' d = some (.dK (penK c o2 l2)) → o2 ≤ n + 1 → PenAt ⟨d, c, ns⟩ H0 H' (n + 1) :=
      fun o2 l2 H' x1 x2 x3 x4 => ⟨x1, h0, hc0, hl, o2, l2, x4, x3⟩
    refine ⟨_, (pss_cons (ps_if (pt_cmpR op_gt (pe_dget (hu_of hr) (pv 0) pe_str (fun _ _ => rfl)) pe_int (nomark _)) (pss_cons (ps_set (i := 2) sc_ldraw.nd rfl (Or.inl rfl) (pe_op op_mod (pe_callTy call_int1 (by rfl) T.int PyProof.Rows.boot_int (pa_cons (pe_dget (hu_of hr) (pv 0) pe_str (fun _ _ => rfl)) pa_nil)) (pv 1)))
      (pss_cons (ps_dput (hu_of hr) (pv 0) pe_str (pe_op op_fdivN (pe_dget (hu_of hr) (pv 0) pe_str (fun _ _ => rfl)) (pv 1)) rfl)
      (pss_one (ps_ret (pv 2))))) pss_nil)
      (pss_cons (ps_par (i := 3) (j := 4) (by rfl) sc_ldraw.nd rfl rfl (by decide) rfl rfl (pa_cons (pe_dget (hu_of hr) (pv 0) pe_str (fun _ _ => rfl)) (pa_cons (pe_dget (hu_of hr) (pv 0) pe_str (fun _ _ => rfl)) pa_nil)) (by rfl))
      (pss_cons (ps_dput (hu_of hr) (pv 0) pe_str (pe_op op_add (pv 3) pe_int) rfl)
      (pss_cons (ps_if (pt_cmpR (op_eqD hr.units) (pv 4) (pe_lst pa_nil) (nomark _)) (pss_one (ps_ret (pe_op op_mod (pe_callTy call_int1 (by rfl) T.int PyProof.Rows.boot_int (pa_cons (pe_op op_add (pe_op op_mul pe_int (pv 3)) pe_int) pa_nil)) (pv 1)))) pss_nil)
      (pss_cons (ps_set (i := 5) sc_ldraw.nd rfl (Or.inl rfl) (pe_ix ix_list (pv 4) (pe_op op_mod (pe_callTy call_int1 (by rfl) T.int PyProof.Rows.boot_int (pa_cons (pv 3) pa_nil)) (pe_callB call_len_seq (by rfl) T.len PySem.boot_len (pa_cons (pv 4) pa_nil))) (fun _ _ => rfl)))
      (pss_cons (ps_if (PW.pt (pw_and (pt_cmpR op_lt (pv 3) (pe_callB call_len_seq (by rfl) T.len PySem.boot_len (pa_cons (pv 4) pa_nil)) (nomark _)) (pw_and1 (pt_cmpR op_ge (pe_callB call_abs (by rfl) T.abs (by decide +kernel) (pa_cons (pv 5) pa_nil)) (pe_op op_pow pe_int pe_int) (nomark _))))) (pss_cons (ps_dput (hu_of hr) (pv 0) pe_str (pe_op op_fdivN (pe_op op_sub (pe_callB call_abs (by rfl) T.abs (by decide +kernel) (pa_cons (pv 5) pa_nil)) (pe_op op_pow pe_int pe_int)) (pv 1)) rfl)
      (pss_one (ps_ret (pe_op op_mod (pe_callTy call_int1 (by rfl) T.int PyProof.Rows.boot_int (pa_cons (pe_op op_sub (pe_callB call_abs (by rfl) T.abs (by decide +kernel) (pa_cons (pv 5) pa_nil)) (pe_op op_pow pe_int pe_int)) pa_nil)) (pv 1))))) pss_nil)
      (pss_cons (ps_set (i := 6) sc_ldraw.nd rfl (Or.inl rfl) (pe_op op_mod (pe_callTy call_int1 (by rfl) T.int PyProof.Rows.boot_int (pa_cons (pe_op op_add (pe_op op_add (pe_op op_add (pe_op op_mul (pe_op op_mod (pe_callTy call_int1 (by rfl) T.int PyProof.Rows.boot_int (pa_cons (pv 5) pa_nil)) pe_int) pe_int) (pe_op op_mul (pe_op op_mul pe_int (pv 3)) (pv 3))) (pe_op op_mul pe_int (pv 3))) pe_int) pa_nil)) pe_int))
      (pss_cons (ps_set (i := 6) sc_ldraw.nd rfl (Or.inl rfl) (pe_op op_mod (pe_callTy call_int1 (by rfl) T.int PyProof.Rows.boot_int (pa_cons (pe_op op_add (pe_op op_add (pe_op op_mul (pv 6) (pv 6)) (pe_op op_mul pe_int (pv 6))) (pe_op op_mul pe_int (pv 3))) pa_nil)) pe_int))
      (pss_one (ps_ret (pe_op op_mod (pe_callTy call_int1 (by rfl) T.int PyProof.Rows.boot_int (pa_cons (pe_op op_fdivN (pe_op op_mod (pe_callTy call_int1 (by rfl) T.int PyProof.Rows.boot_int (pa_cons (pe_op op_mul (pv 6) (pe_op op_add (pv 6) pe_int)) pa_nil)) pe_int) pe_int) pa_nil)) (pv 1)))))))))))), ?_⟩
    refine ⟨_, rfl, d, .int lf, rfl, dget_of hd (get_left _ _ _), _, _, rfl, rfl, _, rfl, ite2 (fun hp => ?_) (fun hp => ?_)⟩
    · refine ⟨_, rfl, d, .int lf, rfl, dget_of hd (get_left _ _ _), .inl ⟨_, rfl, ?_⟩⟩
      refine ⟨_, rfl, _, _, rfl, rfl, hm0, ?_⟩
      refine ⟨_, rfl, d, .int lf, rfl, dget_of hd (get_left _ _ _), _, rfl, _, _, rfl, rfl, ⟨by omega, by omega⟩, ?_⟩
      refine ⟨_, rfl, d, _, rfl, dput_of hd (by show 3 < 100; decide) (put_left _ _ _ _), ?_⟩
      refine ⟨_, rfl, ?_⟩
      exact q _ _ (fin op _ _ (e0.mut h0) (by rw [upd_ne ncd]; exact hc) upd_same (by omega)) (Int.emod_nonneg _ (by omega)) (Int.emod_lt_of_pos _ hm0)
    · refine ⟨_, rfl, d, _, rfl, dget_of hd (get_opened _ _ _), _, rfl, d, _, rfl, dget_of hd (get_cells _ _ _), _, _, rfl, ?_⟩
      refine ⟨_, rfl, _, _, rfl, rfl, _, rfl, d, _, rfl, dput_of hd (by show 3 < 100; decide) (put_opened _ _ _ _), ?_⟩
      have x1 : Ex H0 (upd H d (.dK (penK c ((op : Int) + 1) lf))) := e0.mut h0
      have hc1 : (upd H d (.dK (penK c ((op : Int) + 1) lf))) c = some (.lst (ns.map V.int)) := by
        rw [upd_ne ncd]
        exact hc
      have hd1 : (upd H d (.dK (penK c ((op : Int) + 1) lf))) d = some (.dK (penK c ((op + 1 : Nat) : Int) lf)) := upd_same
      generalize (upd H d (.dK (penK c ((op : Int) + 1) lf))) = H1 at x1 hc1 hd1 ⊢
      -- if cells == []
      refine ⟨_, rfl, Nat.zero_le _, fun el hel => ?_⟩
      have x2 := x1.trans (Ex.new (o := .lst []) hel)
      have hc2 : (upd H1 el (.lst [])) c = some (.lst (ns.map V.int)) := Ex.new hel _ _ hc1
      have hd2 : (upd H1 el (.lst [])) d = some (.dK (penK c ((op + 1 : Nat) : Int) lf)) := Ex.new hel _ _ hd1
      refine ⟨.list (ns.map PyData.int), .list [], .lst (sq_of hc2) (dp_ints ns), .lst (xs := []) (sq_of upd_same) .nil, shaped_ints ns, rfl, _, rfl, ?_⟩
      rw [eqv_nil]
      generalize (upd H1 el (.lst [])) = H2 at x2 hc2 hd2 ⊢
      cases hns : ns.isEmpty with
      | true =>
        refine iteT ?_
        refine ⟨_, rfl, _, _, rfl, rfl, .inl (by decide), _, _, rfl, rfl, .inl ⟨_, rfl, _, rfl, _, _, rfl, rfl, hm0, ?_⟩⟩
        exact q _ _ (fin _ _ _ x2 hc2 hd2 (by omega)) (Int.emod_nonneg _ (by omega)) (Int.emod_lt_of_pos _ hm0)
      | false =>
        refine iteF ?_
        have hpos : 0 < ns.length := by
          cases ns with
          | nil => cases hns
          | cons x r => exact Nat.succ_pos _
        have hL : (0 : Int) < ((ns.map V.int).length : Int) := by
          rw [List.length_map]
          omega
        -- cell = cells[int(k) % len(cells)]
        obtain ⟨i, hi⟩ : ∃ i : Nat, (op : Int) % ((ns.map V.int).length : Int) = (i : Int) := ⟨((op : Int) % ((ns.map V.int).length : Int)).toNat, (Int.toNat_of_nonneg (Int.emod_nonneg _ (by omega))).symm⟩
        have hi2 : i < ns.length := by
          have := Int.emod_lt_of_pos (op : Int) hL
          rw [hi, List.length_map] at this
          omega
        have hat : atI (ns.map V.int) ((op : Int) % ((ns.map V.int).length : Int)) = some (V.int ns[i]) := by
          rw [hi]
          exact atI_nat (by rw [List.getElem?_map, List.getElem?_eq_getElem hi2]; rfl)
        refine ⟨_, rfl, _, rfl, .inl ⟨_, rfl, _, rfl, c, _, rfl, .inl (sq_of hc2), _, _, rfl, rfl, hL, c, _, _, _, rfl, rfl, sq_of hc2, hat, ?_⟩⟩
        generalize ns[i] = x
        -- the test
        have hcell : ∀ {σ : L2.St} {H' : Hp}, σ[5]? = some (some (V.int x)) → Ev (tVar 5) σ H' (V.int x) := fun h => ev_var h
        dsimp only [gName]
        refine q_when (b := decide ((op : Int) < ((ns.map V.int).length : Int)) && decide ((10 : Int) ^ (18 : Int).toNat ≤ (if x < 0 then -x else x)))
          (et_and (fun H4 e4 Q4 q4 => ?_) (fun _ H4 e4 Q4 q4 => ?_)) (fun hb H3 e3 => ?_) (fun hb H3 e3 => ?_)
        · exact ⟨_, rfl, _, rfl, c, _, rfl, .inl (sq_of (e4 _ _ hc2)), _, _, rfl, rfl, _, rfl, q4 _ (Ex.refl _)⟩
        · exact ⟨_, rfl, _, rfl, _, _, rfl, rfl, ⟨by decide, by decide, by decide⟩, _, _, rfl, rfl, _, rfl, q4 _ (Ex.refl _)⟩
        · have x3 := x2.trans e3
          refine ⟨_, rfl, _, rfl, _, _, rfl, rfl, ⟨by decide, by decide, by decide⟩, _, _, rfl, rfl, _, rfl, _, _, rfl, rfl, ⟨by omega, by omega⟩, ?_⟩
          refine ⟨_, rfl, d, _, rfl, dput_of (e3 _ _ hd2) (by show 3 < 100; decide) (put_left _ _ _ _), ?_⟩
          refine ⟨_, rfl, _, rfl, _, _, rfl, rfl, ⟨by decide, by decide, by decide⟩, _, _, rfl, rfl, .inl ⟨_, rfl, _, rfl, _, _, rfl, rfl, hm0, ?_⟩⟩
          exact q _ _ (fin _ _ _ (x3.mut h0) (by rw [upd_ne ncd]; exact e3 _ _ hc2) upd_same (by omega)) (Int.emod_nonneg _ (by omega)) (Int.emod_lt_of_pos _ hm0)
        · have x3 := x2.trans e3
          have b1 : (0 : Int) ≤ x % 4294965521 := Int.emod_nonneg _ (by decide)
          have b2 : x % 4294965521 < 4294965521 := Int.emod_lt_of_pos _ (by decide)
          refine ⟨_, rfl, .inl ⟨_, rfl, _, _, rfl, rfl, (by show (0 : Int) < _; decide), _, _, rfl, rfl, .inr ⟨by decide, by decide⟩, ?_⟩⟩
          refine ⟨_, rfl, _, _, rfl, rfl, .inl ⟨by decide, by decide⟩, _, rfl, _, _, rfl, rfl, .inr ⟨by omega, by omega⟩, _, _, rfl, rfl, ?_⟩
          refine ⟨_, rfl, _, _, rfl, rfl, .inl ⟨by decide, by decide⟩, _, _, rfl, rfl, _, _, rfl, rfl, .inl ⟨_, rfl, _, _, rfl, rfl, (by show (0 : Int) < _; decide), ?_⟩⟩
          generalize hy : (x % 4294965521 * 43793 + 25999 * (op : Int) * (op : Int) + 839 * (op : Int) + 67) % 4294965583 = y
          have b3 : 0 ≤ y := by rw [← hy]; exact Int.emod_nonneg _ (by decide)
          have b4 : y < 4294965583 := by rw [← hy]; exact Int.emod_lt_of_pos _ (by decide)
          refine ⟨_, rfl, _, rfl, _, _, rfl, rfl, .inl ⟨by omega, by omega⟩, _, rfl, _, _, rfl, rfl, .inl ⟨by decide, by decide⟩, _, _, rfl, rfl, ?_⟩
          refine ⟨_, rfl, _, _, rfl, rfl, .inl ⟨by decide, by decide⟩, _, _, rfl, rfl, .inl ⟨_, rfl, _, _, rfl, rfl, (by show (0 : Int) < _; decide), ?_⟩⟩
          generalize hz : (y * y + 40163 * y + 31 * (op : Int)) % 4294965511 = z
          have b5 : 0 ≤ z := by rw [← hz]; exact Int.emod_nonneg _ (by decide)
          have b6 : z < 4294965511 := by rw [← hz]; exact Int.emod_lt_of_pos _ (by decide)
          refine ⟨_, rfl, _, rfl, _, _, rfl, rfl, _, _, rfl, rfl, .inl ⟨by omega, by omega⟩, .inl ⟨_, rfl, _, _, rfl, rfl, (by show (0 : Int) < _; decide), _, _, rfl, rfl, ⟨by decide, by decide⟩, .inl ⟨_, rfl, _, rfl, _, _, rfl, rfl, hm0, ?_⟩⟩⟩
          exact q _ _ (fin _ _ _ x3 (e3 _ _ hc2) (e3 _ _ hd2) (by omega)) (Int.emod_nonneg _ (by omega)) (Int.emod_lt_of_pos _ hm0)
end
end Law

namespace Law
open PySem PySem.Spec PyProof.Rows L2 Evl
theorem sz_le {n : Nat} (h : n < 1000) : n ≤ sizeLine := Nat.le_trans (Nat.le_of_lt h) (by decide)
theorem at_draw {α : Type} {xs : List α} {r : Int} (h0 : 0 ≤ r) (h1 : r < (xs.length : Int)) : ∃ v, v ∈ xs ∧ atI xs r = some v := by
  obtain ⟨j, rfl⟩ : ∃ j : Nat, r = (j : Int) := ⟨r.toNat, (Int.toNat_of_nonneg h0).symm⟩
  have hj : j < xs.length := by omega
  exact ⟨xs[j], List.getElem_mem hj, atI_nat (List.getElem?_eq_getElem hj)⟩
def spPickS : Sp := fun vs H Q _ => ∃ (p : PenI) (H0 : Hp) (n : Nat) (z : Str), vs = [.ref p.d, .str z] ∧ PenAt p H0 H n ∧ n < 1000000 ∧ 0 < z.length ∧ z.length < 1000 ∧ ∀ H' c, PenAt p H0 H' (n + 1) → c ∈ z.cps.toList → Q (.str ⟨#[c]⟩) H'
def spPickL : Sp := fun vs H Q _ => ∃ (p : PenI) (H0 : Hp) (a : Addr) (n : Nat) (xs : List V), vs = [.ref p.d, .ref a] ∧ PenAt p H0 H n ∧ n < 1000000 ∧ H a = some (.lst xs) ∧ 0 < xs.length ∧ xs.length < 1000 ∧ ∀ H' v, PenAt p H0 H' (n + 1) → v ∈ xs → Q v H'
section
variable {P : Program} {w : World} {K : PySem.W.Frag} {mg : Str → Option Value} {base : Heap}
theorem ok_pickS {f : Addr} {fd : FuncData} (F : Fun K "_law_pick" "_law_pick" s_lpick f fd) (T : Tx mg) (c_ldraw : Kn P w K mg base "_law_draw" ["_law_pen_here", "_law_many"] 1 spDraw) : FnOk P w K mg base CX0 2 f fd ["_law_pen_here", "_law_some"] spPickS := by
  refine F.ok sc_lpick (fun vs H Q E h => ?_) (fun cdv A outer s H vs Q E hr h => ?_)
  · obtain ⟨p, H0, n, z, rfl, _⟩ := h
    rfl
  · obtain ⟨p, H0, n, z, rfl, P0, hn, hz0, hz1, q⟩ := h
    have ez : z.length = z.cps.toList.length := by simp [Str.length]
    refine ⟨_, (pss_one (ps_ret (pe_ix ix_str (pv 1) (pe_call c_ldraw.ok (hr.mono (by decide)) (by rfl) c_ldraw.g c_ldraw.kp c_ldraw.b .nil pass0 (pa_cons (pv 0) (pa_cons (pe_callB call_len_str (by rfl) T.len PySem.boot_len (pa_cons (pv 1) pa_nil)) pa_nil))) (fun _ _ => rfl)))), ?_⟩
    refine ⟨_, rfl, _, rfl, _, rfl, z, rfl, sz_le hz1, p, H0, n, _, rfl, P0, hn, by omega, by omega, fun H' r P1 r0 r1 => ?_⟩
    obtain ⟨c, hc, ha⟩ := at_draw (xs := z.cps.toList) r0 (by rw [← ez]; exact r1)
    exact ⟨z, r, c, rfl, rfl, sz_le hz1, ha, q _ _ P1 hc⟩
theorem ok_pickL {f : Addr} {fd : FuncData} (F : Fun K "_law_pick" "_law_pick" s_lpick f fd) (T : Tx mg) (c_ldraw : Kn P w K mg base "_law_draw" ["_law_pen_here", "_law_many"] 1 spDraw) : FnOk P w K mg base CX0 2 f fd ["_law_pen_here", "_law_some"] spPickL := by
  refine F.ok sc_lpick (fun vs H Q E h => ?_) (fun cdv A outer s H vs Q E hr h => ?_)
  · obtain ⟨p, H0, a, n, xs, rfl, _⟩ := h
    rfl
  · obtain ⟨p, H0, a, n, xs, rfl, P0, hn, hx, hz0, hz1, q⟩ := h
    refine ⟨_, (pss_one (ps_ret (pe_ix ix_list (pv 1) (pe_call c_ldraw.ok (hr.mono (by decide)) (by rfl) c_ldraw.g c_ldraw.kp c_ldraw.b .nil pass0 (pa_cons (pv 0) (pa_cons (pe_callB call_len_seq (by rfl) T.len PySem.boot_len (pa_cons (pv 1) pa_nil)) pa_nil))) (fun _ _ => rfl)))), ?_⟩
    refine ⟨_, rfl, _, rfl, _, rfl, a, xs, rfl, .inl (sq_of hx), p, upd H0 a (.lst xs), n, _, rfl, P0.keep hx (P0.lst_ne hx), hn, by omega, by omega, fun H' r P1 r0 r1 => ?_⟩
    obtain ⟨v, hv, ha⟩ := at_draw (xs := xs) r0 r1
    exact ⟨a, xs, r, v, rfl, rfl, sq_of (P1.1 _ _ upd_same), ha, q _ _ (P0.drop hx P1) hv⟩
end
end Law

namespace Law
open PySem PySem.Spec PyProof.Rows L2 Evl
def sg (c : Nat) : Str := ⟨#[c]⟩
def tx (l : List Nat) : Str := ⟨l.toArray⟩
theorem tx_len (l : List Nat) : (tx l).length = l.length := by simp [tx, Str.length]
theorem tx_list (l : List Nat) : (tx l).cps.toList = l := rfl
theorem tx_of (z : Str) : tx z.cps.toList = z := TL.ext_tl rfl
theorem sg_len (c : Nat) : (sg c).length = 1 := rfl
theorem joinL_nil : ∀ cs : List Nat, TL.joinL [] (cs.map fun c => [c]) = cs
  | [] => rfl
  | [c] => rfl
  | c :: d :: r => by
    show [c] ++ ([] ++ TL.joinL [] ((d :: r).map fun c => [c])) = c :: d :: r
    rw [joinL_nil (d :: r)]
    rfl
theorem join_sg (cs : List Nat) : Txt.join (Str.ofString "") (cs.map sg) = tx cs := by
  refine TL.ext_tl ?_
  rw [TL.join_eq, TL.tl_join, List.map_map, show TL.tl (Str.ofString "") = [] by decide +kernel]
  exact joinL_nil cs
theorem join_size (cs : List Nat) : ((cs.map sg).map (·.length)).sum = cs.length := by
  induction cs with
  | nil => rfl
  | cons c r ih =>
    show 1 + ((r.map sg).map (·.length)).sum = r.length + 1
    rw [ih, Nat.add_comm]
/-- the signs joined -/
theorem join_done {K : PySem.W.Frag} {H : Hp} {D : Addr} {cs : List Nat} {Q : VK} (hD : H D = some (.lst ((cs.map sg).map V.str))) (hl : cs.length ≤ 1000000) (q : Q (.str (tx cs)) H) :
    ∃ (a : Str) (p : Addr), ∃ ys : List Str, V.str (Str.ofString "") = .str a ∧ [V.ref D] = [.ref p] ∧ (SqL K H p (ys.map V.str) ∨ SqT K H p (ys.map V.str)) ∧ (ys.map (·.length)).sum + ys.length * a.length ≤ 16777216 ∧ Q (.str (Txt.join a ys)) H := by
  refine ⟨_, D, cs.map sg, rfl, rfl, .inl (sq_of hD), ?_, ?_⟩
  · rw [join_size, show (Str.ofString "").length = 0 from rfl]
    omega
  · rw [join_sg]
    exact q
def lets (f p n : Nat) : List Nat := (List.range n).map fun k => 97 + (f + p * k) % 26
def paces : List Nat := [1, 3, 5, 7, 9, 11, 15, 17, 19, 21, 23, 25]
def spLetters : Sp := fun vs H Q _ => ∃ (p : PenI) (H0 : Hp) (n : Nat), vs = [.ref p.d] ∧ PenAt p H0 H n ∧ n < 900000 ∧ ∀ H' f q m, PenAt p H0 H' (n + 3) → f < 26 → q ∈ paces → 2 ≤ m → m ≤ 4 → Q (.str (tx (lets f q m))) H'
theorem abc_at (r : Int) : ∃ c, atI (Str.ofString "abcdefghijklmnopqrstuvwxyz").cps.toList (r % 26) = some c ∧ c = 97 + (r % 26).toNat := by
  have h0 : 0 ≤ r % 26 := Int.emod_nonneg _ (by decide)
  have h1 : r % 26 < 26 := Int.emod_lt_of_pos _ (by decide)
  generalize hi : (r % 26) = i at h0 h1
  obtain ⟨j, rfl⟩ : ∃ j : Nat, i = (j : Int) := ⟨i.toNat, (Int.toNat_of_nonneg h0).symm⟩
  have hj : j < 26 := by omega
  have key : ∀ j : Nat, j < 26 → (Str.ofString "abcdefghijklmnopqrstuvwxyz").cps.toList[j]? = some (97 + j) := by decide +kernel
  exact ⟨97 + j, atI_nat (key j hj), by simp⟩
theorem paces_le : ∀ x ∈ paces, x ≤ 25 := by decide
theorem lets_succ (f p n : Nat) : lets f p (n + 1) = lets f p n ++ [97 + (f + p * n) % 26] := by
  unfold lets
  rw [List.range_succ, List.map_append]
  rfl
theorem lets_len (f p n : Nat) : (lets f p n).length = n := by
  unfold lets
  rw [List.length_map, List.length_range]
theorem sg_snoc (cs : List Nat) (c : Nat) : ((cs.map sg).map V.str) ++ [.str (sg c)] = ((cs ++ [c]).map sg).map V.str := by
  rw [List.map_append, List.map_append]
  rfl
theorem fresh0 {p : PenI} {H0 H : Hp} {n : Nat} {a : Addr} (P : PenAt p H0 H n) (h : H a = none) : H0 a = none := fresh_back P.1 h
theorem fresh_ne {p : PenI} {H0 H : Hp} {n : Nat} {a : Addr} (P : PenAt p H0 H n) (h : H a = none) : a ≠ p.d := by
  obtain ⟨kvs, h2⟩ := P.dict
  intro e
  rw [e, h2] at h
  cases h
section
variable {P : Program} {w : World} {K : PySem.W.Frag} {mg : Str → Option Value} {base : Heap}
theorem ok_letters {f : Addr} {fd : FuncData} (F : Fun K "_law_letters" "_law_letters" s_lletters f fd) (T : Tx mg) (c_ldraw : Kn P w K mg base "_law_draw" ["_law_pen_here", "_law_many"] 1 spDraw)
    (c_pickL : Kn P w K mg base "_law_pick" ["_law_pen_here", "_law_some"] 2 spPickL) : FnOk P w K mg base CX0 3 f fd ["_law_pen_here"] spLetters := by
  refine F.ok sc_lletters (fun vs H Q E h => ?_) (fun cdv A outer s H vs Q E hr h => ?_)
  · obtain ⟨p, H0, n, rfl, _⟩ := h
    rfl
  · obtain ⟨p, H0, n, rfl, P0, hn, q⟩ := h
    refine ⟨_, (pss_cons (ps_asg (pe_tup (pa_cons pe_str (pa_cons (pe_call c_ldraw.ok (hr.mono (by decide)) (by rfl) c_ldraw.g c_ldraw.kp c_ldraw.b .nil pass0 (pa_cons (pv 0) (pa_cons pe_int pa_nil))) pa_nil))) (pg_tup (by rfl) (pgs_cons (pg_name (i := 1) sc_lletters.nd rfl (Or.inr rfl)) (pgs_cons (pg_name (i := 2) sc_lletters.nd rfl (Or.inr rfl)) pgs_nil))))
      (pss_cons (ps_set (i := 3) sc_lletters.nd rfl (Or.inr rfl) (pe_call c_pickL.ok (hr.mono (by decide)) (by rfl) c_pickL.g c_pickL.kp c_pickL.b .nil pass0 (pa_cons (pv 0) (pa_cons (pe_lst (pa_cons pe_int (pa_cons pe_int (pa_cons pe_int (pa_cons pe_int (pa_cons pe_int (pa_cons pe_int (pa_cons pe_int (pa_cons pe_int (pa_cons pe_int (pa_cons pe_int (pa_cons pe_int (pa_cons pe_int pa_nil))))))))))))) pa_nil))))
      (pss_one (ps_ret (pe_join pe_str (pe_lc (own := [("_law_k", 4)]) (g := gName 4) (tt := tYes) rfl sc_lletters.nd (pi_range1 (by rfl) T.range (pa_cons (pe_op op_add pe_int (pe_call c_ldraw.ok (hr.mono (by decide)) (by rfl) c_ldraw.g c_ldraw.kp c_ldraw.b .nil pass0 (pa_cons (pv 0) (pa_cons pe_int pa_nil)))) pa_nil)) (blkOk_by (N := N_lletters) (sc := defScope s_lletters) (by decide +kernel)) (fun _ _ _ _ _ => (pg_name (i := 4) sc_lletters.nd rfl (Or.inl rfl))) (fun _ _ _ _ _ => pts_nil) (fun _ _ _ _ _ => (pe_ix ix_str (pv 1) (pe_op op_mod (pe_callTy call_int1 (by rfl) T.int PyProof.Rows.boot_int (pa_cons (pe_op op_add (pv 2) (pe_op op_mul (pv 3) (pv 4))) pa_nil)) pe_int) (fun _ _ => rfl))))))))), ?_⟩
    refine ⟨_, rfl, p, H0, n, 26, rfl, P0, by omega, by decide, by decide, fun H1 r P1 r0 r1 => ⟨by show 2 ≤ sizeLine; decide, fun t ht => ?_⟩⟩
    refine ⟨t, _, rfl, .inl (.inl upd_same), rfl, _, _, rfl, _, _, rfl, rfl, ?_⟩
    have P2 := P1.ex (Ex.new (o := .tup [V.str (Str.ofString "abcdefghijklmnopqrstuvwxyz"), V.int r]) ht)
    generalize (upd H1 t (.tup [V.str (Str.ofString "abcdefghijklmnopqrstuvwxyz"), V.int r])) = H2 at P2 ⊢
    refine ⟨_, rfl, by show 12 ≤ sizeLine; decide, fun l hl => ⟨p, H0, l, n + 1, _, rfl, P2.ex (Ex.new hl), by omega, upd_same, by show 0 < 12; decide, by show 12 < 1000; decide, fun H3 v P3 hv => ?_⟩⟩
    obtain ⟨pc, hpc, rfl⟩ : ∃ pc : Nat, pc ∈ paces ∧ v = .int pc := by
      have hv2 : v ∈ paces.map fun pc => V.int ((pc : Nat) : Int) := hv
      obtain ⟨x, h1, h2⟩ := List.mem_map.mp hv2
      exact ⟨x, h1, h2.symm⟩
    refine ⟨⟨_, rfl⟩, _, rfl, p, H0, n + 2, 3, rfl, P3, by omega, by decide, by decide, fun H4 r2 P4 s0 s1 => ⟨_, _, rfl, rfl, _, rfl, by omega, by omega, fun D hD => ?_⟩⟩
    obtain ⟨m, hm⟩ : ∃ m : Nat, (2 + r2).toNat = m := ⟨_, rfl⟩
    obtain ⟨fr, rfl⟩ : ∃ fr : Nat, r = (fr : Int) := ⟨r.toNat, (Int.toNat_of_nonneg r0).symm⟩
    rw [hm]
    have pc1 := paces_le pc hpc
    have d0 := fresh0 P4 hD
    have d1 := fresh_ne P4 hD
    refine lc_range (lo := 0) (n := m) (fun i H => PenAt p H0 H (n + 3) ∧ H D = some (.lst (((lets fr pc i).map sg).map V.str))) ⟨(P4.upd d0 d1).le (by omega), upd_same⟩ (fun i H hi hw => ?_) (fun H hw => ?_)
    · refine ⟨rfl, _, rfl, _, rfl, _, rfl, _, rfl, _, _, rfl, rfl, .inl ⟨by omega, by omega⟩, _, _, rfl, rfl, .inl ⟨_, rfl, _, _, rfl, rfl, (by show (0 : Int) < 26; decide), ?_⟩⟩
      obtain ⟨c, hc1, hc2⟩ := abc_at ((fr : Int) + (pc : Int) * ((0 : Int) + (i : Int)))
      refine ⟨_, _, c, rfl, rfl, by decide +kernel, hc1, _, hw.2, ?_, hw.1.upd d0 d1, ?_⟩
      · rw [List.length_map, List.length_map, lets_len]
        exact Nat.lt_of_lt_of_le (show i < 100 by omega) (by decide)
      · rw [upd_same]
        refine congrArg (fun l => some (HO.lst l)) ?_
        rw [lets_succ, ← sg_snoc]
        have e : c = 97 + (fr + pc * i) % 26 := by
          rw [hc2]
          have e1 : ((fr : Int) + (pc : Int) * ((0 : Int) + (i : Int))) = ((fr + pc * i : Nat) : Int) := by
            rw [Int.zero_add]
            simp
          rw [e1]
          omega
        rw [e]
        rfl
    · exact join_done hw.2 (by unfold lets; rw [List.length_map, List.length_range]; omega) (q _ _ _ _ hw.1 (by omega) hpc (by omega) (by omega))
end
end Law

namespace Law
open PySem PySem.Spec PyProof.Rows L2 Evl
theorem fold_app (l : List (Array Nat)) : ∀ a : Array Nat, (l.foldl (· ++ ·) a).toList = a.toList ++ (l.map Array.toList).flatten := by
  induction l with
  | nil => intro a; simp
  | cons x r ih =>
    intro a
    rw [List.foldl_cons, ih, List.map_cons, List.flatten_cons, Array.toList_append, List.append_assoc]
theorem mul_tx (l : List Nat) {n : Int} (h : 1 ≤ n) : Txt.mul (tx l) n = tx (List.replicate n.toNat l).flatten := by
  refine TL.ext_tl ?_
  unfold Txt.mul
  rw [if_neg (by omega)]
  by_cases q : (n == 1 || (tx l).length == 0) = true
  · rw [if_pos q]
    rw [Bool.or_eq_true, beq_iff_eq, beq_iff_eq] at q
    rcases q with q | q
    · subst q
      show l = (List.replicate 1 l).flatten
      simp
    · rw [tx_len] at q
      have e : l = [] := List.length_eq_zero_iff.mp q
      subst e
      show ([] : List Nat) = (List.replicate n.toNat []).flatten
      simp
  · rw [if_neg q]
    show (List.foldl (· ++ ·) #[] (List.replicate n.toNat (tx l).cps)).toList = (List.replicate n.toNat l).flatten
    rw [fold_app, List.map_replicate]
    rfl
theorem rep_len (n : Nat) (l : List Nat) : (List.replicate n l).flatten.length = n * l.length := by
  induction n with
  | zero => simp
  | succ k ih => rw [List.replicate_succ, List.flatten_cons, List.length_append, ih, Nat.succ_mul, Nat.add_comm]
theorem cut_to (l : List Nat) (k : Nat) : cutS (tx l) none (some (k : Int)) = tx (l.take k) := by
  refine TL.ext_tl ?_
  show (List.take _ (List.drop _ l)) = l.take k
  rw [HT.sIx_none, HT.sIx_nat, tx_len, Nat.sub_zero, List.drop_zero]
  rw [List.take_eq_take_iff]
  omega
theorem cut_from (l : List Nat) (k : Nat) : cutS (tx l) (some (k : Int)) none = tx (l.drop k) := by
  refine TL.ext_tl ?_
  show (List.take _ (List.drop _ l)) = l.drop k
  rw [HT.sIx_none, HT.sIx_nat, tx_len]
  by_cases h : k ≤ l.length
  · rw [Nat.min_eq_left h, List.take_of_length_le (by rw [List.length_drop]; omega)]
  · rw [Nat.min_eq_right (by omega), Nat.sub_self, List.take_zero, List.drop_eq_nil_of_le (by omega)]
theorem cut_mid (l : List Nat) (a b : Nat) : cutS (tx l) (some (a : Int)) (some ((a : Int) + (b : Int))) = tx ((l.drop a).take b) := by
  refine TL.ext_tl ?_
  show (List.take _ (List.drop _ l)) = (l.drop a).take b
  rw [show (a : Int) + (b : Int) = ((a + b : Nat) : Int) by omega, HT.sIx_nat, HT.sIx_nat, tx_len]
  by_cases h : a ≤ l.length
  · rw [Nat.min_eq_left h, List.take_eq_take_iff, List.length_drop]
    omega
  · have x1 : min a l.length = l.length := by omega
    have x2 : min (a + b) l.length = l.length := by omega
    rw [x1, x2, List.drop_length, List.drop_eq_nil_of_le (show l.length ≤ a by omega), List.take_nil, List.take_nil]
theorem join_bound (cs : List Nat) (h : cs.length ≤ 1000000) : ((cs.map sg).map (·.length)).sum + (cs.map sg).length * (Str.ofString "").length ≤ 16777216 := by
  rw [join_size, show (Str.ofString "").length = 0 from rfl]
  omega
theorem tx_le {l : List Nat} (h : l.length < 1000) : (tx l).length ≤ sizeLine := by
  rw [tx_len]
  exact sz_le h
theorem sg_tx (c : Nat) : sg c = tx [c] := rfl
theorem mem_rep {n : Nat} {l : List Nat} {c : Nat} (h : c ∈ (List.replicate n l).flatten) : c ∈ l := by
  obtain ⟨m, hm, hc⟩ := List.mem_flatten.mp h
  rw [List.eq_of_mem_replicate hm] at hc
  exact hc
theorem tx_app (l m : List Nat) : tx l ++ tx m = tx (l ++ m) := by
  refine TL.ext_tl ?_
  rw [TL.tl_append]
  rfl
def spWord : Sp := fun vs H Q _ => ∃ (p : PenI) (H0 : Hp) (n wd : Nat) (z : Str), vs = [.ref p.d, .str z, .int (wd : Int)] ∧ PenAt p H0 H n ∧ n < 800000 ∧ 0 < z.length ∧ z.length < 1000 ∧ 1 ≤ wd ∧ wd ≤ 8 ∧
  ∀ H' cs, PenAt p H0 H' (n + 15) → cs.length = wd → (∀ c ∈ cs, c ∈ z.cps.toList) → Q (.str (tx cs)) H'
/-- signs picked one by one -/
def Picks (p : PenI) (H0 : Hp) (n : Nat) (z : Str) (D : Addr) (i : Nat) (H : Hp) : Prop := PenAt p H0 H (n + i) ∧ ∃ cs : List Nat, cs.length = i ∧ (∀ c ∈ cs, c ∈ z.cps.toList) ∧ H D = some (.lst ((cs.map sg).map V.str))
section
variable {P : Program} {w : World} {K : PySem.W.Frag} {mg : Str → Option Value} {base : Heap}
theorem ok_word {f : Addr} {fd : FuncData} (F : Fun K "_law_word" "_law_word" s_lword f fd) (T : Tx mg) (c_ldraw : Kn P w K mg base "_law_draw" ["_law_pen_here", "_law_many"] 1 spDraw)
    (c_pickS : Kn P w K mg base "_law_pick" ["_law_pen_here", "_law_some"] 2 spPickS) : FnOk P w K mg base CX0 3 f fd ["_law_pen_here", "_law_letters_here", "_law_width"] spWord := by
  refine F.ok sc_lword (fun vs H Q E h => ?_) (fun cdv A outer s H vs Q E hr h => ?_)
  · obtain ⟨p, H0, n, wd, z, rfl, _⟩ := h
    rfl
  · obtain ⟨p, H0, n, wd, z, rfl, P0, hn, hz0, hz1, hw0, hw1, q⟩ := h
    refine ⟨_, (pss_cons (ps_par (i := 3) (j := 4) (by rfl) sc_lword.nd rfl rfl (by decide) rfl rfl (pa_cons (pe_call c_ldraw.ok (hr.mono (by decide)) (by rfl) c_ldraw.g c_ldraw.kp c_ldraw.b .nil pass0 (pa_cons (pv 0) (pa_cons pe_int pa_nil))) (pa_cons (pe_call c_ldraw.ok (hr.mono (by decide)) (by rfl) c_ldraw.g c_ldraw.kp c_ldraw.b .nil pass0 (pa_cons (pv 0) (pa_cons (pv 2) pa_nil))) pa_nil)) (by rfl))
      (pss_cons (ps_set (i := 5) sc_lword.nd rfl (Or.inl rfl) (pe_join pe_str (pe_lc (own := [("_law_k", 6)]) (g := gName 6) (tt := tYes) rfl sc_lword.nd (pi_range1 (by rfl) T.range (pa_cons (pe_op op_add pe_int (pe_call c_ldraw.ok (hr.mono (by decide)) (by rfl) c_ldraw.g c_ldraw.kp c_ldraw.b .nil pass0 (pa_cons (pv 0) (pa_cons pe_int pa_nil)))) pa_nil)) (blkOk_by (N := N_lword) (sc := defScope s_lword) (by decide +kernel)) (fun _ _ _ _ _ => (pg_name (i := 6) sc_lword.nd rfl (Or.inl rfl))) (fun _ _ _ _ _ => pts_nil) (fun _ _ _ _ _ => (pe_call c_pickS.ok (hr.mono (by decide)) (by rfl) c_pickS.g c_pickS.kp c_pickS.b .nil pass0 (pa_cons (pv 0) (pa_cons (pv 1) pa_nil)))))))
      (pss_cons (ps_set (i := 7) sc_lword.nd rfl (Or.inl rfl) (pe_slice sl_str (pe_op ZS.op_mulS (pv 5) (pv 2)) po_none (po_some (pv 2))))
      (pss_cons (ps_if (pt_cmpR op_eq (pv 3) pe_int (nomark _)) (pss_one (ps_ret (pe_join pe_str (pe_lc (own := [("_law_k", 6)]) (g := gName 6) (tt := tYes) rfl sc_lword.nd (pi_range1 (by rfl) T.range (pa_cons (pv 2) pa_nil)) (blkOk_by (N := N_lword) (sc := defScope s_lword) (by decide +kernel)) (fun _ _ _ _ _ => (pg_name (i := 6) sc_lword.nd rfl (Or.inl rfl))) (fun _ _ _ _ _ => pts_nil) (fun _ _ _ _ _ => (pe_call c_pickS.ok (hr.mono (by decide)) (by rfl) c_pickS.g c_pickS.kp c_pickS.b .nil pass0 (pa_cons (pv 0) (pa_cons (pv 1) pa_nil)))))))) pss_nil)
      (pss_one (ps_ret (pe_ifExp (pt_cmpR op_eq (pv 3) pe_int (nomark _)) (pe_op op_add_str (pe_op op_add_str (pe_slice sl_str (pv 7) po_none (po_some (pv 4))) (pe_call c_pickS.ok (hr.mono (by decide)) (by rfl) c_pickS.g c_pickS.kp c_pickS.b .nil pass0 (pa_cons (pv 0) (pa_cons (pv 1) pa_nil)))) (pe_slice sl_str (pv 7) (po_some (pe_op op_add (pv 4) pe_int)) po_none)) (pv 7)))))))), ?_⟩
    refine ⟨_, rfl, p, H0, n, 4, rfl, P0, by omega, by decide, by decide, fun H1 r1 P1 r10 r11 => ?_⟩
    refine ⟨_, rfl, _, rfl, p, H0, n + 1, wd, rfl, P1, by omega, by omega, by omega, fun H2 r2 P2 r20 r21 => ⟨_, _, rfl, ?_⟩⟩
    obtain ⟨at_, rfl⟩ : ∃ k : Nat, r2 = (k : Int) := ⟨r2.toNat, (Int.toNat_of_nonneg r20).symm⟩
    refine ⟨⟨_, rfl⟩, _, rfl, p, H0, n + 2, 3, rfl, P2, by omega, by decide, by decide, fun H3 r3 P3 r30 r31 => ⟨_, _, rfl, rfl, _, rfl, by omega, by omega, fun D hD => ?_⟩⟩
    obtain ⟨m, hm⟩ : ∃ m : Nat, (1 + r3).toNat = m := ⟨_, rfl⟩
    rw [hm]
    have d0 := fresh0 P3 hD
    have d1 := fresh_ne P3 hD
    refine lc_range (lo := 0) (n := m) (Picks p H0 (n + 3) z D) ⟨P3.upd d0 d1, [], rfl, (fun c h => nomatch h), upd_same⟩ (fun i H hi hw => ?_) (fun H hw => ?_)
    · obtain ⟨Q1, cs, hcs, hcz, hL⟩ := hw
      refine ⟨rfl, _, rfl, _, rfl, p, upd H0 D (.lst ((cs.map sg).map V.str)), n + 3 + i, z, rfl, Q1.keep hL d1, by omega, hz0, hz1, fun H5 c P5 hc => ?_⟩
      have hL5 := P5.1 _ _ upd_same
      refine ⟨_, hL5, ?_, (Q1.drop hL P5).upd d0 d1, cs ++ [c], by rw [List.length_append, hcs]; rfl, fun x hx => ?_, ?_⟩
      · rw [List.length_map, List.length_map, hcs]
        exact Nat.lt_of_lt_of_le (show i < 100 by omega) (by decide)
      · rcases List.mem_append.mp hx with h | h
        · exact hcz x h
        · rw [List.mem_singleton.mp h]
          exact hc
      · rw [upd_same, ← sg_snoc]
        rfl
    · obtain ⟨Q1, cs, hcs, hcz, hL⟩ := hw
      refine ⟨_, D, cs.map sg, rfl, rfl, .inl (sq_of hL), join_bound cs (by omega), ?_⟩
      rw [join_sg]
      refine ⟨_, rfl, _, rfl, _, _, rfl, rfl, mulOk_of 16 16 (by rw [tx_len]; omega) (by omega) (by omega) (by decide) (by decide), _, rfl, _, rfl, _, rfl, ?_, ?_⟩
      · rw [mul_tx cs (by omega), tx_len, rep_len, hcs]
        have b : (wd : Int).toNat * m ≤ 8 * 3 := Nat.mul_le_mul (by omega) (by omega)
        exact sz_le (by omega)
      rw [mul_tx cs (by omega), cut_to]
      obtain ⟨W, hW⟩ : ∃ W, (List.replicate (wd : Int).toNat cs).flatten.take wd = W := ⟨_, rfl⟩
      have lW : W.length = wd := by
        rw [← hW, List.length_take, rep_len, hcs, show (wd : Int).toNat = wd by omega]
        have b : wd * 1 ≤ wd * m := Nat.mul_le_mul_left _ (by omega)
        omega
      have mW : ∀ c ∈ W, c ∈ z.cps.toList := fun c hc => by
        rw [← hW] at hc
        exact hcz c (mem_rep (List.mem_of_mem_take hc))
      rw [hW]
      refine ⟨_, rfl, rfl, _, rfl, ite2 (fun hway => ?_) (fun hway => ?_)⟩
      · refine ⟨⟨_, rfl⟩, _, rfl, _, rfl, by omega, by omega, fun D2 hD2 => ?_⟩
        have g0 := fresh0 Q1 hD2
        have g1 := fresh_ne Q1 hD2
        rw [show (wd : Int).toNat = wd by omega]
        refine lc_range (lo := 0) (n := wd) (Picks p H0 (n + 6) z D2) ⟨(Q1.le (by omega)).upd g0 g1, [], rfl, (fun c h => nomatch h), upd_same⟩ (fun i H hi hw => ?_) (fun H hw => ?_)
        · obtain ⟨Q1, cs, hcs, hcz, hL⟩ := hw
          refine ⟨rfl, _, rfl, _, rfl, p, upd H0 D2 (.lst ((cs.map sg).map V.str)), n + 6 + i, z, rfl, Q1.keep hL g1, by omega, hz0, hz1, fun H5 c P5 hc => ?_⟩
          have hL5 := P5.1 _ _ upd_same
          refine ⟨_, hL5, ?_, (Q1.drop hL P5).upd g0 g1, cs ++ [c], by rw [List.length_append, hcs]; rfl, fun x hx => ?_, ?_⟩
          · rw [List.length_map, List.length_map, hcs]
            exact Nat.lt_of_lt_of_le (show i < 100 by omega) (by decide)
          · rcases List.mem_append.mp hx with h | h
            · exact hcz x h
            · rw [List.mem_singleton.mp h]
              exact hc
          · rw [upd_same, ← sg_snoc]
            rfl
        · obtain ⟨Q2, cs2, hcs2, hcz2, hL2⟩ := hw
          refine ⟨_, D2, cs2.map sg, rfl, rfl, .inl (sq_of hL2), join_bound cs2 (by omega), ?_⟩
          rw [join_sg]
          exact q _ _ (Q2.le (by omega)) hcs2 hcz2
      · refine ⟨_, rfl, rfl, _, rfl, ite2 (fun hw1 => ?_) (fun hw1 => ?_)⟩
        · refine ⟨_, rfl, _, rfl, _, rfl, _, rfl, tx_le (by omega), _, rfl, _, rfl, p, H0, n + 6, z, rfl, Q1.le (by omega), by omega, hz0, hz1, fun H6 c P6 hc => ?_⟩
          rw [cut_to]
          refine ⟨_, _, rfl, rfl, ?_, _, rfl, _, rfl, _, _, rfl, rfl, _, rfl, _, rfl, tx_le (by omega), ?_⟩
          · rw [tx_len, List.length_take]
            exact sz_le (show min at_ W.length + 1 < 1000 by omega)
          rw [show (at_ : Int) + 1 = ((at_ + 1 : Nat) : Int) by omega, cut_from]
          have e1 : tx (W.take at_) ++ (⟨#[c]⟩ : Str) = tx (W.take at_ ++ [c]) := tx_app _ [c]
          rw [e1]
          refine ⟨_, _, rfl, rfl, ?_, ?_⟩
          · rw [tx_len, tx_len, List.length_append, List.length_take, List.length_drop]
            exact sz_le (show (min at_ W.length + 1) + (W.length - (at_ + 1)) < 1000 by omega)
          rw [tx_app]
          refine q _ _ (P6.le (by omega)) ?_ ?_
          · rw [List.length_append, List.length_append, List.length_take, List.length_drop]
            show (min at_ W.length + 1) + (W.length - (at_ + 1)) = wd
            omega
          · intro x hx
            rcases List.mem_append.mp hx with h | h
            · rcases List.mem_append.mp h with h | h
              · exact mW x (List.mem_of_mem_take h)
              · rw [List.mem_singleton.mp h]
                exact hc
            · exact mW x (List.mem_of_mem_drop h)
        · refine ⟨_, rfl, ?_⟩
          exact q _ _ (Q1.le (by omega)) lW mW
end
end Law

namespace Law
open PySem PySem.Spec PyProof.Rows L2 Evl
theorem sgs_of (l : List Nat) : ST.signsOf (tx l) = l.map sg := rfl
theorem tx_size (l : List Nat) : (tx l).cps.size = l.length := by simp [tx]
theorem tx_at {l : List Nat} {i c : Nat} (h : (tx l).cps[i]? = some c) : l[i]? = some c := by
  rw [← h]
  simp [tx]
theorem sg_inj2 {c d : Nat} (h : sg c = sg d) : c = d := by
  have h2 : (sg c).cps.toList = (sg d).cps.toList := by rw [h]
  exact List.head_eq_of_cons_eq h2
theorem dct_nodup {l : List Nat} (h : l.Nodup) : ∀ i, i ≤ l.length → ST.dct (l.map sg) i = i
  | 0, _ => rfl
  | i + 1, hi => by
    have ih := dct_nodup h i (by omega)
    unfold ST.dct
    have hno : (((l.map sg).take i).any (· == (l.map sg).getD i Str.empty)) = false := by
      rw [Bool.eq_false_iff]
      intro q
      rw [List.any_eq_true] at q
      obtain ⟨x, hx, he⟩ := q
      rw [beq_iff_eq] at he
      have hi2 : i < l.length := by omega
      have e1 : (l.map sg).getD i Str.empty = sg l[i] := by
        rw [List.getD_eq_getElem?_getD, List.getElem?_map, List.getElem?_eq_getElem hi2]
        rfl
      rw [e1] at he
      obtain ⟨j, hj, ej⟩ := List.mem_iff_getElem.mp hx
      rw [List.length_take, List.length_map] at hj
      have ej2 : sg (l[j]'(by omega)) = x := by
        rw [← ej, List.getElem_take, List.getElem_map]
      have e2 : l[j]'(by omega) = l[i] := sg_inj2 (ej2.trans he)
      exact List.pairwise_iff_getElem.mp h j i (by omega) hi2 (by omega) e2
    rw [hno]
    show (if false = true then _ else _) = i + 1
    rw [if_neg (by decide), ih]
/-- letters: two to four different small ones -/
structure LG (l : List Nat) : Prop where
  lo : 2 ≤ l.length
  hi : l.length ≤ 4
  az : ∀ c ∈ l, 97 ≤ c ∧ c ≤ 122
  nd : l.Nodup
theorem lets_good {f p m : Nat} (hf : f < 26) (hp : p ∈ paces) (h1 : 2 ≤ m) (h2 : m ≤ 4) : LG (lets f p m) := by
  refine ⟨by rw [lets_len]; exact h1, by rw [lets_len]; exact h2, fun c hc => ?_, ?_⟩
  · unfold lets at hc
    obtain ⟨k, _, rfl⟩ := List.mem_map.mp hc
    omega
  · have key : ∀ f : Nat, f < 26 → ∀ p ∈ paces, (lets f p 2).Nodup ∧ (lets f p 3).Nodup ∧ (lets f p 4).Nodup := by decide +kernel
    obtain ⟨a, b, c⟩ := key f hf p hp
    have hm : m = 2 ∨ m = 3 ∨ m = 4 := by omega
    rcases hm with rfl | rfl | rfl <;> assumption
/-- a word of these letters -/
structure WG (L : List Nat) (m : Nat) (w : List Nat) : Prop where
  len : w.length = m
  of : ∀ c ∈ w, c ∈ L
/-- one to three different words of one length -/
structure WsG (L : List Nat) (m : Nat) (ws : List (List Nat)) : Prop where
  lo : 1 ≤ ws.length
  hi : ws.length ≤ 3
  m1 : 1 ≤ m
  m8 : m ≤ 8
  all : ∀ w ∈ ws, WG L m w
  nd : ws.Nodup
def wv (ws : List (List Nat)) : List V := ws.map fun w => V.str (tx w)
def spIsL : Sp := fun vs H Q _ => ∃ (a : Addr) (xs : List V), vs = [.ref a] ∧ H a = some (.lst xs) ∧ ∀ H', Ex H H' → Q (.bl true) H'
def spIsT : Sp := fun vs H Q _ => ∃ (a : Addr) (xs : List V), vs = [.ref a] ∧ H a = some (.tup xs) ∧ ∀ H', Ex H H' → Q (.bl true) H'
def spAreL : Sp := fun vs H Q _ => ∃ L : List Nat, vs = [.str (tx L)] ∧ LG L ∧ ∀ H', Ex H H' → Q (.bl true) H'
def spWSign : Sp := fun vs H Q _ => ∃ L t : List Nat, vs = [.str (tx L), .str (tx t)] ∧ L.length < 500 ∧ t.length < 500 ∧ (∀ c ∈ t, c ∈ L) ∧ ∀ H', Ex H H' → Q .non H'
def spIsWord : Sp := fun vs H Q _ => ∃ (L w : List Nat) (m : Nat), vs = [.str (tx L), .str (tx w)] ∧ L.length < 500 ∧ WG L m w ∧ 1 ≤ m ∧ m ≤ 8 ∧ ∀ H', Ex H H' → Q (.bl true) H'
def spWWordL : Sp := fun vs H Q _ => ∃ (L : List Nat) (a : Addr) (ws : List (List Nat)) (m : Nat), vs = [.str (tx L), .ref a] ∧ L.length < 500 ∧ H a = some (.lst (wv ws)) ∧ WsG L m ws ∧ ∀ H', Ex H H' → Q .non H'
def spWWordT : Sp := fun vs H Q _ => ∃ (L : List Nat) (a : Addr) (ws : List (List Nat)) (m : Nat), vs = [.str (tx L), .ref a] ∧ L.length < 500 ∧ H a = some (.tup (wv ws)) ∧ WsG L m ws ∧ ∀ H', Ex H H' → Q .non H'
def spCheckL : Sp := fun vs H Q _ => ∃ (L : List Nat) (a : Addr) (ws : List (List Nat)) (m : Nat), vs = [.str (tx L), .ref a] ∧ LG L ∧ H a = some (.lst (wv ws)) ∧ WsG L m ws ∧ ∀ H', Ex H H' → Q .non H'
def spCheckT : Sp := fun vs H Q _ => ∃ (L : List Nat) (a : Addr) (ws : List (List Nat)) (m : Nat), vs = [.str (tx L), .ref a] ∧ LG L ∧ H a = some (.tup (wv ws)) ∧ WsG L m ws ∧ ∀ H', Ex H H' → Q .non H'
theorem kit_lt {K : PySem.W.Frag} : PySem.W.kitAny K (.type "list") [.type "list", .type "tuple"] = some true :=
  kitAny_cons (b := true) (kit_ty (by decide +kernel)) (fun h => by cases h) fun _ => rfl
theorem kit_tt {K : PySem.W.Frag} : PySem.W.kitAny K (.type "tuple") [.type "list", .type "tuple"] = some true :=
  kitAny_cons (b := false) (kit_ty (by decide +kernel)) (fun _ => kitAny_cons (b := true) (kit_ty (by decide +kernel)) (fun h => by cases h) fun _ => rfl) fun h => by cases h
theorem kit_ss {K : PySem.W.Frag} : PySem.W.kitOne K (.type "str") (.type "str") = some true := kit_ty (by decide +kernel)
section
variable {P : Program} {w : World} {K : PySem.W.Frag} {mg : Str → Option Value} {base : Heap}
theorem ok_isL {f : Addr} {fd : FuncData} (F : Fun K "is_list" "is_list" s_is_list f fd) (T : Tx mg) : FnOk P w K mg base CX0 1 f fd ["value"] spIsL := by
  refine F.ok sc_is_list (fun vs H Q E h => ?_) (fun cdv A outer s H vs Q E hr h => ?_)
  · obtain ⟨a, xs, rfl, _⟩ := h
    rfl
  · obtain ⟨a, xs, rfl, ha, q⟩ := h
    refine ⟨_, (pss_one (ps_ret (pe_callB call_isiT (by rfl) T.isinstance PyProof.Rows.boot_isinstance (pa_cons (pv 0) (pa_cons (pe_tup (pa_cons (pe_bltn (v := .ty "list") (by rfl) T.list PyProof.Rows.boot_list rfl) (pa_cons (pe_bltn (v := .ty "tuple") (by rfl) T.tuple PyProof.Rows.boot_tuple rfl) pa_nil))) pa_nil))))), ?_⟩
    refine ⟨_, rfl, by show 2 ≤ sizeLine; decide, fun t ht => ?_⟩
    exact ⟨_, t, _, _, _, true, rfl, upd_same, .cons (.ty _) (.cons (.ty _) .nil), .base (.lst (Ex.new ht _ _ ha)), kit_lt, q _ (Ex.new ht)⟩
theorem ok_isT {f : Addr} {fd : FuncData} (F : Fun K "is_list" "is_list" s_is_list f fd) (T : Tx mg) : FnOk P w K mg base CX0 1 f fd ["value"] spIsT := by
  refine F.ok sc_is_list (fun vs H Q E h => ?_) (fun cdv A outer s H vs Q E hr h => ?_)
  · obtain ⟨a, xs, rfl, _⟩ := h
    rfl
  · obtain ⟨a, xs, rfl, ha, q⟩ := h
    refine ⟨_, (pss_one (ps_ret (pe_callB call_isiT (by rfl) T.isinstance PyProof.Rows.boot_isinstance (pa_cons (pv 0) (pa_cons (pe_tup (pa_cons (pe_bltn (v := .ty "list") (by rfl) T.list PyProof.Rows.boot_list rfl) (pa_cons (pe_bltn (v := .ty "tuple") (by rfl) T.tuple PyProof.Rows.boot_tuple rfl) pa_nil))) pa_nil))))), ?_⟩
    refine ⟨_, rfl, by show 2 ≤ sizeLine; decide, fun t ht => ?_⟩
    exact ⟨_, t, _, _, _, true, rfl, upd_same, .cons (.ty _) (.cons (.ty _) .nil), .base (.tup (Ex.new ht _ _ ha)), kit_tt, q _ (Ex.new ht)⟩
theorem ok_wsign {f : Addr} {fd : FuncData} (F : Fun K "wrong_sign" "wrong_sign" s_wrong_sign f fd) (T : Tx mg) : FnOk P w K mg base CX0 1 f fd ["letters", "text"] spWSign := by
  refine F.ok sc_wrong_sign (fun vs H Q E h => ?_) (fun cdv A outer s H vs Q E hr h => ?_)
  · obtain ⟨L, t, rfl, _⟩ := h
    rfl
  · obtain ⟨L, t, rfl, hL, ht, hc, q⟩ := h
    refine ⟨_, (pss_cons (ps_if (pt_not (pt_val (pe_callB call_isi (by rfl) T.isinstance PyProof.Rows.boot_isinstance (pa_cons (pv 1) (pa_cons (pe_bltn (v := .ty "str") (by rfl) T.str PyProof.Rows.boot_str rfl) pa_nil))))) (pss_one (ps_ret pe_int)) pss_nil)
      (pss_cons (ps_for PassesOwn.never rfl (EN.pi_enumS (by rfl) T.enumerate (pa_cons (pv 1) pa_nil)) (pg_tup (by rfl) (pgs_cons (pg_name (i := 2) sc_wrong_sign.nd rfl (Or.inl rfl)) (pgs_cons (pg_name (i := 3) sc_wrong_sign.nd rfl (Or.inl rfl)) pgs_nil))) (pss_one (ps_if (pt_cmpR op_notIn_sign (pv 3) (pv 0) rfl) (pss_one (ps_ret (pv 2))) pss_nil)))
      (pss_one (ps_ret pe_non)))), ?_⟩
    refine ⟨_, rfl, _, _, _, _, true, rfl, .ty _, .base (.str _), kit_ss, true, rfl, ?_⟩
    refine ⟨_, rfl, _, rfl, ?_⟩
    refine EN.for_enumS (x := tx t) (fun i σ H' => ∃ y2 y3 : Option V, σ = [some (.str (tx L)), some (.str (tx t)), y2, y3] ∧ Ex H H') ⟨none, none, rfl, Ex.refl _⟩ (fun i c T' σ H' hic hw hT => ?_) (fun σ H' hw => ?_)
    · obtain ⟨y2, y3, rfl, e⟩ := hw
      have hm : c ∈ L := hc c (List.mem_of_getElem? (tx_at hic))
      refine ⟨T', _, rfl, .inl (.inl upd_same), rfl, _, _, rfl, _, _, rfl, rfl, ?_⟩
      refine ⟨_, rfl, _, rfl, c, _, rfl, rfl, _, rfl, ?_⟩
      rw [show (tx L).cps.toList = L from rfl, decide_eq_true hm]
      exact ⟨_, _, rfl, e.trans (Ex.new hT)⟩
    · obtain ⟨y2, y3, rfl, e⟩ := hw
      exact q _ e
theorem le_a {c : Nat} (h : 97 ≤ c) : (!decide ((sg c).cps.toList < (Str.ofString "a").cps.toList)) = true := by
  rw [show (Str.ofString "a").cps.toList = [97] by decide +kernel, show (sg c).cps.toList = [c] from rfl]
  rw [decide_eq_false]
  · rfl
  · intro q
    rw [List.cons_lt_cons_iff] at q
    rcases q with q | ⟨_, q⟩
    · omega
    · exact absurd q (by simp)
theorem le_z {c : Nat} (h : c ≤ 122) : (!decide ((Str.ofString "z").cps.toList < (sg c).cps.toList)) = true := by
  rw [show (Str.ofString "z").cps.toList = [122] by decide +kernel, show (sg c).cps.toList = [c] from rfl]
  rw [decide_eq_false]
  · rfl
  · intro q
    rw [List.cons_lt_cons_iff] at q
    rcases q with q | ⟨_, q⟩
    · omega
    · exact absurd q (by simp)
theorem lc_str {x : Str} {g : TG} {tt : TT} {te : TE} {vs : List Nat} {σ : L2.St} {H1 : Hp} {D : Addr} {Qd : Hp → Prop} (Pv : Nat → Hp → Prop) (h0 : Pv 0 (upd H1 D (.lst [])))
    (hs : ∀ i c H, x.cps[i]? = some c → Pv i H → g (.str ⟨#[c]⟩) (wipe σ vs) H fun σ2 H2 => wipe σ2 vs = wipe σ vs ∧ tt σ2 H2 fun b H3 =>
      if b = true then te σ2 H3 fun z H4 => ∃ acc, H4 D = some (.lst acc) ∧ acc.length < sizeLine ∧ Pv (i + 1) (upd H4 D (.lst (acc ++ [z]))) else Pv (i + 1) H3) (hd : ∀ H, Pv x.cps.size H → Qd H) :
    ∃ W : Nat → Nat → Hp → Prop, (∃ m, W 0 m (upd H1 D (.lst []))) ∧ ∀ i m H, W i m H →
      ((Its x).stop i H ∧ Qd H) ∨ ((Its x).go i H ∧ ∃ Nx : Hp → Prop, (∀ H', Nx H' → ∃ m', m' < m ∧ W (i + 1) m' H') ∧ ∀ v H', (Its x).yld i H v H' → g v (wipe σ vs) H' fun σ2 H2 => wipe σ2 vs = wipe σ vs ∧ tt σ2 H2 fun b H3 =>
        if b = true then te σ2 H3 fun z H4 => ∃ acc, H4 D = some (.lst acc) ∧ acc.length < sizeLine ∧ Nx (upd H4 D (.lst (acc ++ [z]))) else Nx H3) := by
  refine ⟨fun i m H => i + m = x.cps.size ∧ Pv i H, ⟨_, Nat.zero_add _, h0⟩, ?_⟩
  rintro i m H ⟨e, p⟩
  by_cases hm : m = 0
  · have e2 : i = x.cps.size := by omega
    refine .inl ⟨by show x.cps.size ≤ i; omega, hd H ?_⟩
    rw [← e2]
    exact p
  · refine .inr ⟨by show i < x.cps.size; omega, Pv (i + 1), fun H' p' => ⟨m - 1, by omega, by omega, p'⟩, ?_⟩
    rintro v H' ⟨rfl, c, hc, rfl⟩
    exact hs i c _ hc p
theorem bl_snoc' (bs : List Bool) (b : Bool) : bs.map V.bl ++ [.bl b] = (bs ++ [b]).map V.bl := by
  rw [List.map_append]
  rfl
theorem all_yes (n : Nat) : (List.replicate n true).all id = true := by
  rw [List.all_eq_true]
  intro x hx
  rw [List.eq_of_mem_replicate hx]
  rfl
theorem ok_areL {f : Addr} {fd : FuncData} (F : Fun K "are_letters" "are_letters" s_are_letters f fd) (T : Tx mg) : FnOk P w K mg base CX0 1 f fd ["value"] spAreL := by
  refine F.ok sc_are_letters (fun vs H Q E h => ?_) (fun cdv A outer s H vs Q E hr h => ?_)
  · obtain ⟨L, rfl, _⟩ := h
    rfl
  · obtain ⟨L, rfl, hL, q⟩ := h
    have h1 := hL.lo
    have h2 := hL.hi
    refine ⟨_, (pss_cons (ps_if (PW.pt (pw_or (pt_not (pt_val (pe_callB call_isi (by rfl) T.isinstance PyProof.Rows.boot_isinstance (pa_cons (pv 0) (pa_cons (pe_bltn (v := .ty "str") (by rfl) T.str PyProof.Rows.boot_str rfl) pa_nil))))) (pw_or1 (pt_not (pt_chain op_le op_le pe_int (pe_callB call_len_str (by rfl) T.len PySem.boot_len (pa_cons (pv 0) pa_nil)) pe_int))))) (pss_one (ps_ret pe_bl)) pss_nil)
      (pss_one (ps_ret (pe_and (pe_callB (cr_all rfl) (by rfl) T.all PyProof.Rows.boot_all (pa_cons (pe_lc (own := [("sign", 1)]) (g := gName 1) (tt := tYes) rfl sc_are_letters.nd (pi_str (pv 0)) (blkOk_by (N := N_are_letters) (sc := defScope s_are_letters) (by decide +kernel)) (fun _ _ _ _ _ => (pg_name (i := 1) sc_are_letters.nd rfl (Or.inl rfl))) (fun _ _ _ _ _ => pts_nil) (fun _ _ _ _ _ => (pe_chain op_le_str op_le_str pe_str (pv 1) pe_str))) pa_nil)) (pe_one (pe_cmpR op_eq (EN.pe_lenSetS rfl (by rfl) T.len (by rfl) T.set (pv 0)) (pe_callB call_len_str (by rfl) T.len PySem.boot_len (pa_cons (pv 0) pa_nil)) (nomark _))))))), ?_⟩
    refine ⟨_, rfl, _, _, _, _, true, rfl, .ty _, .base (.str _), kit_ss, true, rfl, ?_⟩
    refine ⟨_, rfl, _, rfl, tx_le (by omega), _, _, rfl, rfl, _, rfl, ite2 (fun _ => ?_) (fun hn => absurd (decide_eq_true (by rw [tx_len]; omega)) hn)⟩
    refine ⟨_, _, rfl, rfl, _, rfl, ite2 (fun hb => ?_) (fun _ => ?_)⟩
    · rw [tx_len, decide_eq_true (by omega)] at hb
      cases hb
    refine ⟨_, rfl, _, rfl, fun D hD => ?_⟩
    refine lc_str (x := tx L) (fun i H' => Ex H H' ∧ H' D = some (.lst ((List.replicate i true).map V.bl))) ⟨Ex.new hD, upd_same⟩ (fun i c H' hic hw => ?_) (fun H' hw => ?_)
    · obtain ⟨e, hl⟩ := hw
      have hc := tx_at hic
      have az := hL.az c (List.mem_of_getElem? hc)
      have hi := (List.getElem?_eq_some_iff.mp hc).1
      refine ⟨rfl, _, rfl, _, _, rfl, rfl, _, rfl, ite2 (fun _ => ?_) (fun hn => absurd (le_a az.1) hn)⟩
      refine ⟨_, _, rfl, rfl, _, hl, ?_, e.mut hD, ?_⟩
      · rw [List.length_map, List.length_replicate]
        exact sz_lt (by omega)
      · rw [upd_same]
        refine congrArg (fun l => some (HO.lst l)) ?_
        show (List.replicate i true).map V.bl ++ [V.bl (!decide ((Str.ofString "z").cps.toList < (sg c).cps.toList))] = _
        rw [le_z az.2, bl_snoc', List.replicate_succ']
    · obtain ⟨e, hl⟩ := hw
      refine ⟨D, _, rfl, sq_of hl, _, rfl, ?_⟩
      rw [all_yes]
      refine ⟨_, rfl, _, rfl, by rw [tx_size]; omega, _, rfl, _, rfl, tx_le (by omega), rfl, ?_⟩
      have e2 : decide (V.int ((ST.dct (ST.signsOf (tx L)) (tx L).cps.size : Nat) : Int) = V.int (((tx L).length : Nat) : Int)) = true := decide_eq_true (by
        rw [sgs_of, tx_size, dct_nodup hL.nd _ (Nat.le_refl _), tx_len])
      show Q (V.bl (decide (V.int ((ST.dct (ST.signsOf (tx L)) (tx L).cps.size : Nat) : Int) = V.int (((tx L).length : Nat) : Int)))) H'
      rw [e2]
      exact q _ e
theorem ok_isword {f : Addr} {fd : FuncData} (F : Fun K "_is_word" "_is_word" s_is_word f fd) (T : Tx mg) (c_wrong_sign : Kn P w K mg base "wrong_sign" ["letters", "text"] 1 spWSign) : FnOk P w K mg base CX0 2 f fd ["letters", "value"] spIsWord := by
  refine F.ok sc_is_word (fun vs H Q E h => ?_) (fun cdv A outer s H vs Q E hr h => ?_)
  · obtain ⟨L, u, m, rfl, _⟩ := h
    rfl
  · obtain ⟨L, u, m, rfl, hL, hu, h1, h8, q⟩ := h
    have hl := hu.len
    refine ⟨_, (pss_one (ps_ret (pe_and (pe_callB call_isi (by rfl) T.isinstance PyProof.Rows.boot_isinstance (pa_cons (pv 1) (pa_cons (pe_bltn (v := .ty "str") (by rfl) T.str PyProof.Rows.boot_str rfl) pa_nil))) (pe_and (pe_chain op_le op_le pe_int (pe_callB call_len_str (by rfl) T.len PySem.boot_len (pa_cons (pv 1) pa_nil)) pe_int) (pe_one (pe_cmpR op_isN (pe_call c_wrong_sign.ok (hr.mono (by decide)) (by rfl) c_wrong_sign.g c_wrong_sign.kp c_wrong_sign.b .nil pass0 (pa_cons (pv 0) (pa_cons (pv 1) pa_nil))) pe_non (nomark _))))))), ?_⟩
    refine ⟨_, rfl, _, _, _, _, true, rfl, .ty _, .base (.str _), kit_ss, true, rfl, ?_⟩
    refine ⟨_, rfl, _, rfl, tx_le (by omega), _, _, rfl, rfl, _, rfl, ite2 (fun _ => ?_) (fun hn => absurd (decide_eq_true (by rw [tx_len]; omega)) hn)⟩
    refine ⟨_, _, rfl, rfl, _, rfl, ite2 (fun _ => ?_) (fun hn => absurd (decide_eq_true (by rw [tx_len]; omega)) hn)⟩
    exact ⟨_, rfl, _, rfl, L, u, rfl, hL, by omega, hu.of, fun H' e => ⟨rfl, q _ e⟩⟩
theorem flat_wv (ws : List (List Nat)) : (wv ws).all flatV = true := by
  unfold wv
  rw [List.all_map, List.all_eq_true]
  intro x _
  rfl
theorem tx_inj {a b : List Nat} (h : tx a = tx b) : a = b := by
  have h2 : (tx a).cps.toList = (tx b).cps.toList := by rw [h]
  exact h2
theorem inV_wv {u : List Nat} {ws : List (List Nat)} : inV (.str (tx u)) (wv ws) = decide (u ∈ ws) := by
  unfold inV wv
  rw [List.any_map, Bool.eq_iff_iff, List.any_eq_true, decide_eq_true_eq]
  constructor
  · rintro ⟨x, hx, he⟩
    have he2 : (tx x == tx u) = true := he
    rw [beq_iff_eq] at he2
    rw [← tx_inj he2]
    exact hx
  · intro h
    refine ⟨u, h, ?_⟩
    show (tx u == tx u) = true
    rw [beq_iff_eq]
theorem wv_cut (ws : List (List Nat)) (k : Nat) : cutV (wv ws) none (some (k : Int)) = wv (ws.take k) := by
  unfold cutV wv
  rw [HT.sIx_none, HT.sIx_nat, List.length_map, Nat.sub_zero, List.drop_zero, ← List.map_take]
  refine congrArg (List.map _) ?_
  rw [List.take_eq_take_iff]
  omega
theorem wv_len (ws : List (List Nat)) : (wv ws).length = ws.length := List.length_map _
theorem wv_at {ws : List (List Nat)} {i : Nat} {x : V} (h : (wv ws)[i]? = some x) : ∃ u, ws[i]? = some u ∧ x = .str (tx u) := by
  unfold wv at h
  rw [List.getElem?_map] at h
  cases e : ws[i]? with
  | none =>
    rw [e] at h
    cases h
  | some u =>
    rw [e] at h
    exact ⟨u, rfl, (Option.some.inj h).symm⟩
theorem wv_zero {L : List Nat} {m : Nat} {ws : List (List Nat)} (W : WsG L m ws) : ∃ u, atI (wv ws) 0 = some (.str (tx u)) ∧ u.length = m := by
  have h := W.lo
  have e : ws[0]? = some ws[0] := List.getElem?_eq_getElem (by omega)
  refine ⟨ws[0], atI_nat (j := 0) ?_, (W.all _ (List.getElem_mem _)).len⟩
  unfold wv
  rw [List.getElem?_map, e]
  rfl
theorem fresh_word {L : List Nat} {m : Nat} {ws : List (List Nat)} (W : WsG L m ws) {i : Nat} {u : List Nat} (h : ws[i]? = some u) : decide (u ∈ ws.take i) = false := by
  refine decide_eq_false fun hm => ?_
  obtain ⟨j, hj, ej⟩ := List.mem_iff_getElem.mp hm
  rw [List.length_take] at hj
  obtain ⟨hi, ei⟩ := List.getElem?_eq_some_iff.mp h
  rw [List.getElem_take] at ej
  exact List.pairwise_iff_getElem.mp W.nd j i (by omega) hi (by omega) (ej.trans ei.symm)
theorem ok_wwordL {f : Addr} {fd : FuncData} (F : Fun K "wrong_word" "wrong_word" s_wrong_word f fd) (T : Tx mg) (c_islistL : Kn P w K mg base "is_list" ["value"] 1 spIsL)
    (c_is_word : Kn P w K mg base "_is_word" ["letters", "value"] 2 spIsWord) : FnOk P w K mg base CX0 3 f fd ["letters", "words"] spWWordL := by
  refine F.ok sc_wrong_word (fun vs H Q E h => ?_) (fun cdv A outer s H vs Q E hr h => ?_)
  · obtain ⟨L, a, ws, m, rfl, _⟩ := h
    rfl
  · obtain ⟨L, a, ws, m, rfl, hL, ha, W, q⟩ := h
    have w1 := W.lo
    have w3 := W.hi
    have w8 := W.m8
    refine ⟨_, (pss_cons (ps_if (PW.pt (pw_or (pt_not (pt_val (pe_call c_islistL.ok (hr.mono (by decide)) (by rfl) c_islistL.g c_islistL.kp c_islistL.b .nil pass0 (pa_cons (pv 1) pa_nil)))) (pw_or1 (pt_cmpR op_eq (pe_callB call_len_seq (by rfl) T.len PySem.boot_len (pa_cons (pv 1) pa_nil)) pe_int (nomark _))))) (pss_one (ps_ret pe_int)) pss_nil)
      (pss_cons (ps_for PassesOwn.never rfl (pi_enum (by rfl) T.enumerate (pa_cons (pe_slice sl_list (pv 1) po_none (po_some pe_int)) pa_nil)) (pg_tup (by rfl) (pgs_cons (pg_name (i := 2) sc_wrong_word.nd rfl (Or.inl rfl)) (pgs_cons (pg_name (i := 3) sc_wrong_word.nd rfl (Or.inl rfl)) pgs_nil))) (pss_one (ps_if (PW.pt (pw_or (pt_not (pt_val (pe_call c_is_word.ok (hr.mono (by decide)) (by rfl) c_is_word.g c_is_word.kp c_is_word.b .nil pass0 (pa_cons (pv 0) (pa_cons (pv 3) pa_nil))))) (pw_or (pt_cmpR op_ne (pe_callB call_len_str (by rfl) T.len PySem.boot_len (pa_cons (pv 3) pa_nil)) (pe_callB call_len_str (by rfl) T.len PySem.boot_len (pa_cons (pe_ix ix_list (pv 1) pe_int (fun _ _ => rfl)) pa_nil)) (nomark _)) (pw_or1 (pt_cmpR op_in_seq (pv 3) (pe_slice sl_list (pv 1) po_none (po_some (pv 2))) rfl))))) (pss_one (ps_ret (pv 2))) pss_nil)))
      (pss_one (ps_ret (pe_ifExp (pt_cmpR op_gt (pe_callB call_len_seq (by rfl) T.len PySem.boot_len (pa_cons (pv 1) pa_nil)) pe_int (nomark _)) pe_int pe_non))))), ?_⟩
    refine ⟨_, rfl, a, _, rfl, ha, fun H1 e1 => ⟨true, rfl, ?_⟩⟩
    refine ⟨_, rfl, a, _, rfl, .inl (sq_of (e1 _ _ ha)), rfl, _, rfl, ite2 (fun hb => ?_) (fun _ => ?_)⟩
    · have hb2 := V.int.inj (of_decide_eq_true hb)
      rw [wv_len] at hb2
      omega
    refine ⟨_, rfl, _, rfl, a, _, rfl, sq_of (e1 _ _ ha), fun D hD => ?_⟩
    rw [show (3 : Int) = ((3 : Nat) : Int) from rfl, wv_cut, List.take_of_length_le w3]
    have e2 := e1.trans (Ex.new (o := .lst (wv ws)) hD)
    have hD2 : (upd H1 D (.lst (wv ws))) D = some (.lst (wv ws)) := upd_same
    generalize (upd H1 D (.lst (wv ws))) = H2 at e2 hD2 ⊢
    refine ⟨D, _, rfl, sq_of hD2, ?_⟩
    refine EN.for_enumL (K := K) (a := D) (xs := wv ws) (fun i σ H' => ∃ y2 y3 : Option V, σ = [some (.str (tx L)), some (.ref a), y2, y3] ∧ Ex H H' ∧ Ex H2 H') ⟨none, none, rfl, e2, Ex.refl _⟩ (fun i σ H' hw => ?_) (fun i x T' σ H' hx hw hT => ?_) (fun σ H' hw => ?_)
    · obtain ⟨_, _, _, _, e⟩ := hw
      exact sq_of (e _ _ hD2)
    · obtain ⟨y2, y3, rfl, e3, e4⟩ := hw
      obtain ⟨u, hu, rfl⟩ := wv_at hx
      have gu := W.all u (List.mem_of_getElem? hu)
      have lu := gu.len
      have e5 := e3.trans (Ex.new (o := .tup [.int (i : Nat), .str (tx u)]) hT)
      have e6 := e4.trans (Ex.new (o := .tup [.int (i : Nat), .str (tx u)]) hT)
      refine ⟨T', _, rfl, .inl (.inl upd_same), rfl, _, _, rfl, _, _, rfl, rfl, ?_⟩
      refine ⟨_, rfl, _, rfl, L, u, m, rfl, hL, gu, W.m1, w8, fun H3 e7 => ⟨true, rfl, ?_⟩⟩
      obtain ⟨u0, h0, l0⟩ := wv_zero W
      have e8 := e5.trans e7
      refine ⟨_, rfl, _, rfl, tx_le (by omega), _, rfl, a, _, _, _, rfl, rfl, sq_of (e8 _ _ ha), h0, _, rfl, tx_le (by omega), rfl, _, rfl, ite2 (fun hb => ?_) (fun _ => ?_)⟩
      · have e9 : decide (V.int ((tx u).length : Int) = V.int ((tx u0).length : Int)) = true := decide_eq_true (by rw [tx_len, tx_len, lu, l0])
        rw [e9] at hb
        cases hb
      refine ⟨_, rfl, _, rfl, _, rfl, _, rfl, a, _, rfl, sq_of (e8 _ _ ha), fun D2 hD3 => ?_⟩
      refine ⟨D2, _, rfl, .inl (sq_of upd_same), rfl, ?_, ?_⟩
      · rw [wv_cut]
        exact flat_wv _
      · refine ⟨_, rfl, ?_⟩
        rw [wv_cut, inV_wv, fresh_word W hu]
        exact ⟨_, _, rfl, e8.trans (Ex.new hD3), (e6.trans e7).trans (Ex.new hD3)⟩
    · obtain ⟨y2, y3, rfl, e3, e4⟩ := hw
      refine ⟨_, rfl, a, _, rfl, .inl (sq_of (e3 _ _ ha)), _, _, rfl, rfl, _, rfl, ite2 (fun hb => ?_) (fun _ => ?_)⟩
      · have hb2 := of_decide_eq_true hb
        rw [wv_len] at hb2
        omega
      · exact q _ e3
end
end Law

namespace Law
open PySem PySem.Spec PyProof.Rows L2 Evl
def wishes : List Str := [Str.ofString "all", Str.ofString "apart", Str.ofString "first"]
def spWish : Sp := fun vs H Q _ => ∃ z : Str, vs = [.str z] ∧ z ∈ wishes ∧ ∀ H', Ex H H' → Q (.bl true) H'
theorem in_wish {z : Str} (h : z ∈ wishes) : inV (.str z) (wishes.map V.str) = true := by
  unfold inV
  rw [List.any_map, List.any_eq_true]
  exact ⟨z, h, by show (z == z) = true; rw [beq_iff_eq]⟩
section
variable {P : Program} {w : World} {K : PySem.W.Frag} {mg : Str → Option Value} {base : Heap}
theorem ok_wish {f : Addr} {fd : FuncData} (F : Fun K "is_wish" "is_wish" s_is_wish f fd) (T : Tx mg) : FnOk P w K mg base CX0 1 f fd ["value"] spWish := by
  refine F.ok sc_is_wish (fun vs H Q E h => ?_) (fun cdv A outer s H vs Q E hr h => ?_)
  · obtain ⟨z, rfl, _⟩ := h
    rfl
  · obtain ⟨z, rfl, hz, q⟩ := h
    refine ⟨_, (pss_one (ps_ret (pe_and (pe_callB call_isi (by rfl) T.isinstance PyProof.Rows.boot_isinstance (pa_cons (pv 0) (pa_cons (pe_bltn (v := .ty "str") (by rfl) T.str PyProof.Rows.boot_str rfl) pa_nil))) (pe_one (pe_cmpR op_in_seq (pv 0) (pe_tup (pa_cons pe_str (pa_cons pe_str (pa_cons pe_str pa_nil)))) rfl))))), ?_⟩
    refine ⟨_, rfl, _, _, _, _, true, rfl, .ty _, .base (.str _), kit_ss, true, rfl, ?_⟩
    refine ⟨_, rfl, by show 3 ≤ sizeLine; decide, fun t ht => ?_⟩
    refine ⟨t, wishes.map V.str, rfl, .inr (st_of upd_same), rfl, rfl, ?_⟩
    rw [in_wish hz]
    exact q _ (Ex.new ht)
theorem ok_wwordT {f : Addr} {fd : FuncData} (F : Fun K "wrong_word" "wrong_word" s_wrong_word f fd) (T : Tx mg) (c_islistT : Kn P w K mg base "is_list" ["value"] 1 spIsT)
    (c_is_word : Kn P w K mg base "_is_word" ["letters", "value"] 2 spIsWord) : FnOk P w K mg base CX0 3 f fd ["letters", "words"] spWWordT := by
  refine F.ok sc_wrong_word (fun vs H Q E h => ?_) (fun cdv A outer s H vs Q E hr h => ?_)
  · obtain ⟨L, a, ws, m, rfl, _⟩ := h
    rfl
  · obtain ⟨L, a, ws, m, rfl, hL, ha, W, q⟩ := h
    have w1 := W.lo
    have w3 := W.hi
    have w8 := W.m8
    refine ⟨_, (pss_cons (ps_if (PW.pt (pw_or (pt_not (pt_val (pe_call c_islistT.ok (hr.mono (by decide)) (by rfl) c_islistT.g c_islistT.kp c_islistT.b .nil pass0 (pa_cons (pv 1) pa_nil)))) (pw_or1 (pt_cmpR op_eq (pe_callB call_len_seq (by rfl) T.len PySem.boot_len (pa_cons (pv 1) pa_nil)) pe_int (nomark _))))) (pss_one (ps_ret pe_int)) pss_nil)
      (pss_cons (ps_for PassesOwn.never rfl (EN.pi_enumT (by rfl) T.enumerate (pa_cons (pe_slice sl_tupA (pv 1) po_none (po_some pe_int)) pa_nil)) (pg_tup (by rfl) (pgs_cons (pg_name (i := 2) sc_wrong_word.nd rfl (Or.inl rfl)) (pgs_cons (pg_name (i := 3) sc_wrong_word.nd rfl (Or.inl rfl)) pgs_nil))) (pss_one (ps_if (PW.pt (pw_or (pt_not (pt_val (pe_call c_is_word.ok (hr.mono (by decide)) (by rfl) c_is_word.g c_is_word.kp c_is_word.b .nil pass0 (pa_cons (pv 0) (pa_cons (pv 3) pa_nil))))) (pw_or (pt_cmpR op_ne (pe_callB call_len_str (by rfl) T.len PySem.boot_len (pa_cons (pv 3) pa_nil)) (pe_callB call_len_str (by rfl) T.len PySem.boot_len (pa_cons (pe_ix ix_tup (pv 1) pe_int (fun _ _ => rfl)) pa_nil)) (nomark _)) (pw_or1 (pt_cmpR op_in_seq (pv 3) (pe_slice sl_tupA (pv 1) po_none (po_some (pv 2))) rfl))))) (pss_one (ps_ret (pv 2))) pss_nil)))
      (pss_one (ps_ret (pe_ifExp (pt_cmpR op_gt (pe_callB call_len_seq (by rfl) T.len PySem.boot_len (pa_cons (pv 1) pa_nil)) pe_int (nomark _)) pe_int pe_non))))), ?_⟩
    refine ⟨_, rfl, a, _, rfl, ha, fun H1 e1 => ⟨true, rfl, ?_⟩⟩
    refine ⟨_, rfl, a, _, rfl, .inr (st_of (e1 _ _ ha)), rfl, _, rfl, ite2 (fun hb => ?_) (fun _ => ?_)⟩
    · have hb2 := V.int.inj (of_decide_eq_true hb)
      rw [wv_len] at hb2
      omega
    have full : HT.sIx (wv ws).length 0 none = 0 ∧ HT.sIx (wv ws).length (wv ws).length (some 3) = (wv ws).length := by
      refine ⟨rfl, ?_⟩
      rw [show (3 : Int) = ((3 : Nat) : Int) from rfl, HT.sIx_nat, wv_len]
      omega
    have hD2 := e1 _ _ ha
    refine ⟨_, rfl, _, rfl, a, _, rfl, st_of hD2, fun _ => ?_, fun hn => absurd full hn⟩
    refine ⟨a, _, rfl, st_of hD2, ?_⟩
    refine EN.for_enumT (K := K) (a := a) (xs := wv ws) (fun i σ H' => ∃ y2 y3 : Option V, σ = [some (.str (tx L)), some (.ref a), y2, y3] ∧ Ex H H') ⟨none, none, rfl, e1⟩ (fun i σ H' hw => ?_) (fun i x T' σ H' hx hw hT => ?_) (fun σ H' hw => ?_)
    · obtain ⟨_, _, _, e⟩ := hw
      exact st_of (e _ _ ha)
    · obtain ⟨y2, y3, rfl, e3⟩ := hw
      obtain ⟨u, hu, rfl⟩ := wv_at hx
      have gu := W.all u (List.mem_of_getElem? hu)
      have lu := gu.len
      have hi := (List.getElem?_eq_some_iff.mp hu).1
      have e5 := e3.trans (Ex.new (o := .tup [.int (i : Nat), .str (tx u)]) hT)
      refine ⟨T', _, rfl, .inl (.inl upd_same), rfl, _, _, rfl, _, _, rfl, rfl, ?_⟩
      refine ⟨_, rfl, _, rfl, L, u, m, rfl, hL, gu, W.m1, w8, fun H3 e7 => ⟨true, rfl, ?_⟩⟩
      obtain ⟨u0, h0, l0⟩ := wv_zero W
      have e8 := e5.trans e7
      refine ⟨_, rfl, _, rfl, tx_le (by omega), _, rfl, a, _, _, _, rfl, rfl, st_of (e8 _ _ ha), h0, _, rfl, tx_le (by omega), rfl, _, rfl, ite2 (fun hb => ?_) (fun _ => ?_)⟩
      · have e9 : decide (V.int ((tx u).length : Int) = V.int ((tx u0).length : Int)) = true := decide_eq_true (by rw [tx_len, tx_len, lu, l0])
        rw [e9] at hb
        cases hb
      have part : ¬ (HT.sIx (wv ws).length 0 none = 0 ∧ HT.sIx (wv ws).length (wv ws).length (some (i : Int)) = (wv ws).length) := by
        rintro ⟨_, hh⟩
        rw [HT.sIx_nat, wv_len] at hh
        omega
      refine ⟨_, rfl, _, rfl, _, rfl, _, rfl, a, _, rfl, st_of (e8 _ _ ha), fun hf => absurd hf part, fun _ D2 hD3 => ?_⟩
      refine ⟨D2, _, rfl, .inr (st_of upd_same), rfl, ?_, ?_⟩
      · rw [wv_cut]
        exact flat_wv _
      · refine ⟨_, rfl, ?_⟩
        rw [wv_cut, inV_wv, fresh_word W hu]
        exact ⟨_, _, rfl, e8.trans (Ex.new hD3)⟩
    · obtain ⟨y2, y3, rfl, e3⟩ := hw
      refine ⟨_, rfl, a, _, rfl, .inr (st_of (e3 _ _ ha)), _, _, rfl, rfl, _, rfl, ite2 (fun hb => ?_) (fun _ => ?_)⟩
      · have hb2 := of_decide_eq_true hb
        rw [wv_len] at hb2
        omega
      · exact q _ e3
theorem ok_checkL {f : Addr} {fd : FuncData} (F : Fun K "check_words" "check_words" s_check_words f fd) (T : Tx mg) (c_are_letters : Kn P w K mg base "are_letters" ["value"] 1 spAreL)
    (c_wwordL : Kn P w K mg base "wrong_word" ["letters", "words"] 3 spWWordL) : FnOk P w K mg base CX0 4 f fd ["letters", "words"] spCheckL := by
  refine F.ok sc_check_words (fun vs H Q E h => ?_) (fun cdv A outer s H vs Q E hr h => ?_)
  · obtain ⟨L, a, ws, m, rfl, _⟩ := h
    rfl
  · obtain ⟨L, a, ws, m, rfl, hL, ha, W, q⟩ := h
    have h2 := hL.hi
    refine ⟨_, (pss_cons (ps_if (pt_not (pt_val (pe_call c_are_letters.ok (hr.mono (by decide)) (by rfl) c_are_letters.g c_are_letters.kp c_are_letters.b .nil pass0 (pa_cons (pv 0) pa_nil)))) (pss_one ps_never) pss_nil)
      (pss_cons (ps_set (i := 2) sc_check_words.nd rfl (Or.inl rfl) (pe_call c_wwordL.ok (hr.mono (by decide)) (by rfl) c_wwordL.g c_wwordL.kp c_wwordL.b .nil pass0 (pa_cons (pv 0) (pa_cons (pv 1) pa_nil))))
      (pss_one (ps_if (pt_cmpR op_notN (pv 2) pe_non (nomark _)) (pss_one ps_never) pss_nil)))), ?_⟩
    refine ⟨_, rfl, L, rfl, hL, fun H1 e1 => ⟨true, rfl, ?_⟩⟩
    refine ⟨_, rfl, _, rfl, L, a, ws, m, rfl, by omega, e1 _ _ ha, W, fun H2 e2 => ?_⟩
    exact ⟨_, rfl, rfl, _, rfl, q _ (e1.trans e2)⟩
theorem ok_checkT {f : Addr} {fd : FuncData} (F : Fun K "check_words" "check_words" s_check_words f fd) (T : Tx mg) (c_are_letters : Kn P w K mg base "are_letters" ["value"] 1 spAreL)
    (c_wwordT : Kn P w K mg base "wrong_word" ["letters", "words"] 3 spWWordT) : FnOk P w K mg base CX0 4 f fd ["letters", "words"] spCheckT := by
  refine F.ok sc_check_words (fun vs H Q E h => ?_) (fun cdv A outer s H vs Q E hr h => ?_)
  · obtain ⟨L, a, ws, m, rfl, _⟩ := h
    rfl
  · obtain ⟨L, a, ws, m, rfl, hL, ha, W, q⟩ := h
    have h2 := hL.hi
    refine ⟨_, (pss_cons (ps_if (pt_not (pt_val (pe_call c_are_letters.ok (hr.mono (by decide)) (by rfl) c_are_letters.g c_are_letters.kp c_are_letters.b .nil pass0 (pa_cons (pv 0) pa_nil)))) (pss_one ps_never) pss_nil)
      (pss_cons (ps_set (i := 2) sc_check_words.nd rfl (Or.inl rfl) (pe_call c_wwordT.ok (hr.mono (by decide)) (by rfl) c_wwordT.g c_wwordT.kp c_wwordT.b .nil pass0 (pa_cons (pv 0) (pa_cons (pv 1) pa_nil))))
      (pss_one (ps_if (pt_cmpR op_notN (pv 2) pe_non (nomark _)) (pss_one ps_never) pss_nil)))), ?_⟩
    refine ⟨_, rfl, L, rfl, hL, fun H1 e1 => ⟨true, rfl, ?_⟩⟩
    refine ⟨_, rfl, _, rfl, L, a, ws, m, rfl, by omega, e1 _ _ ha, W, fun H2 e2 => ?_⟩
    exact ⟨_, rfl, rfl, _, rfl, q _ (e1.trans e2)⟩
end
end Law

namespace Law
open PySem PySem.Spec PyProof.Rows L2 Evl
/-! ### a name that a dict comprehension is stored to -/
theorem swD {kx vx : Expr} {gs : List Comprehension} {scope : Scope} {pos py : Pos} {y : Str} {l : Nat} {env : Env} (hk : env.scope.kind = .function) (hy : env.scope.names.lookup y = some .local) (hl : (py.line == pos.line) = true)
    (ha : (scope.names.any fun (n, k) => n == y && (k == .local || k == .cell)) = false) : swapsWith (.DictComp kx vx gs scope pos) (some (.Name y py)) l env = pure true := by
  have k1 : env.kindOf y = some .local := hy
  have k2 : env.blockKind = .function := by
    unfold Env.blockKind
    rw [hk]
    rfl
  unfold swapsWith
  simp only [k2, k1, ha, Expr.pos, hl]
  rfl
theorem ps_setDc {X : Cx} {i : Nat} {y : Str} {py : Pos} {kx vx tg iter : Expr} {ifs : List Expr} {scope : Scope} {own : List (Str × Nat)} {pos spos : Pos} {wi : TI} {g : TG} {tt : TT} {tk tv : TE}
    (hc : X.calm = true) (hN : X.N.Nodup) (hy : X.N[i]? = some y) (hyl : X.env.scope.names.lookup y = some .local)
    (hsw : swapsWith (.DictComp kx vx [⟨tg, iter, ifs, 0⟩] scope pos) (some (.Name y py)) spos.line X.env = pure true) (hi : PI X tg iter wi) (ok : BlkOk X.N X.env.scope scope own)
    (hg : ∀ (s : Shared) (H : Hp) (C : Addr) (cl : List (Str × Addr)) (fp : List Addr), PG (X.blk s H scope (compEnvC scope cl C X.env) fp) tg g)
    (ht : ∀ (s : Shared) (H : Hp) (C : Addr) (cl : List (Str × Addr)) (fp : List Addr), PTs (X.blk s H scope (compEnvC scope cl C X.env) fp) ifs tt)
    (hk : ∀ (s : Shared) (H : Hp) (C : Addr) (cl : List (Str × Addr)) (fp : List Addr), PE (X.blk s H scope (compEnvC scope cl C X.env) fp) kx tk)
    (he : ∀ (s : Shared) (H : Hp) (C : Addr) (cl : List (Str × Addr)) (fp : List Addr), PE (X.blk s H scope (compEnvC scope cl C X.env) fp) vx tv) (hs : ∀ x, foldedSetIterable iter X.env x = pure x := by intro _; rfl) :
    PS X (.Assign [.Name y py] (.DictComp kx vx [⟨tg, iter, ifs, 0⟩] scope pos) spos) (tAsg (tDc wi g tt tk tv (own.map (·.2))) (gName i)) := by
  refine ⟨fun pins s σ H D I h => ?_⟩
  rw [exec_Assign_Name_used _ _ _ _ hsw]
  refine wpAny_bind (wpAny_standAt (wpAny_bind ?_))
  have h2 : tDc wi g tt tk tv (own.map (·.2)) σ H (fun x H1 => gName i x σ H1 D.nx) := h
  refine wpAny_bind (thn (dc_core (Qf := fun _ s' => SP X pins D .next s') hc hN I hi ok hg ht hk he hs h2 fun A C s' m H' I' q hn f => ?_) fun _ s' hq => wpAny_pure (wpAny_pure hq))
  refine wpAny_assign_Name (store_ok2 (v := V.ref A) I' hN hy (.inl hyl) rfl (fun s2 I2 ⟨a, sb, ha⟩ => ?_) (.inr hyl))
  obtain ⟨f0, f1, f2, f3, f4, f5⟩ := f
  have ne : C ≠ a := by
    rcases ha with z | z
    · rw [z]
      exact f1
    · exact fun e => f4 y a z e.symm
  exact ⟨m, hn.sameBut sb ne, fun h3 sb3 => ⟨_, H', I2.turned (t' := s2.toks) (fun b o hb e => (sb3.2 b hb).trans e) f0 f1 f3 f4 f5, q⟩⟩
/-! ### the pairs that are wanted -/
def idx (ws : List (List Nat)) (u : List Nat) : Option Nat := (List.range ws.length).find? fun k => ws.getD k [] == u
def part (t : List Nat) (m p : Nat) : List Nat := (t.drop p).take m
def standN (ws : List (List Nat)) (t : List Nat) (m n : Nat) : List (Nat × Nat) := (List.range n).filterMap fun p => (idx ws (part t m p)).map fun k => (p, k)
theorem standN_succ (ws : List (List Nat)) (t : List Nat) (m n : Nat) : standN ws t m (n + 1) = standN ws t m n ++ ((idx ws (part t m n)).map fun k => (n, k)).toList := by
  unfold standN
  rw [List.range_succ, List.filterMap_append]
  refine congrArg (_ ++ ·) ?_
  rw [List.filterMap_cons, List.filterMap_nil]
  cases (idx ws (part t m n)).map fun k => (n, k) <;> rfl
theorem standN_len (ws : List (List Nat)) (t : List Nat) (m n : Nat) : (standN ws t m n).length ≤ n := by
  unfold standN
  have h := List.length_filterMap_le (fun p => (idx ws (part t m p)).map fun k => (p, k)) (List.range n)
  rw [List.length_range] at h
  exact h
def nums (ws : List (List Nat)) (n : Nat) : List (Key × V) := (List.range n).map fun k => (.inr (tx (ws.getD k [])), .int (k : Nat))
theorem nums_succ (ws : List (List Nat)) (n : Nat) : nums ws (n + 1) = nums ws n ++ [(.inr (tx (ws.getD n [])), .int (n : Nat))] := by
  unfold nums
  rw [List.range_succ, List.map_append]
  rfl
theorem nums_len (ws : List (List Nat)) (n : Nat) : (nums ws n).length = n := by
  unfold nums
  rw [List.length_map, List.length_range]
theorem key_eq {a b : List Nat} : ((Sum.inr (tx a) : Key) = Sum.inr (tx b)) ↔ a = b := by
  constructor
  · intro h
    exact tx_inj (Sum.inr.inj h)
  · intro h
    rw [h]
theorem nums_get (ws : List (List Nat)) (u : List Nat) (n : Nat) : valV (nums ws n) (.inr (tx u)) = ((List.range n).find? fun k => ws.getD k [] == u).map fun k => V.int (k : Nat) := by
  unfold valV nums
  rw [List.find?_map]
  have e : ((fun kv : Key × V => decide (kv.1 = Sum.inr (tx u))) ∘ fun k : Nat => ((Sum.inr (tx (ws.getD k [])) : Key), V.int (k : Nat))) = fun k => ws.getD k [] == u := by
    funext k
    show decide ((Sum.inr (tx (ws.getD k [])) : Key) = Sum.inr (tx u)) = (ws.getD k [] == u)
    by_cases q : ws.getD k [] = u
    · rw [decide_eq_true (key_eq.mpr q), q]
      simp
    · rw [decide_eq_false fun h => q (key_eq.mp h)]
      simpa using q
  rw [e, Option.map_map]
  rfl
theorem getD_ws {ws : List (List Nat)} {i : Nat} {u : List Nat} (h : ws[i]? = some u) : ws.getD i [] = u := by
  rw [List.getD_eq_getElem?_getD, h]
  rfl
theorem nums_put {L : List Nat} {m : Nat} {ws : List (List Nat)} (W : WsG L m ws) {i : Nat} {u : List Nat} (h : ws[i]? = some u) : putK (nums ws i) (.inr (tx u)) (.int (i : Nat)) = nums ws (i + 1) := by
  unfold putK
  rw [valV_any, nums_get]
  have hn : (List.range i).find? (fun k => ws.getD k [] == u) = none := by
    rw [List.find?_eq_none]
    intro j hj hh
    rw [List.mem_range] at hj
    obtain ⟨hi, ei⟩ := List.getElem?_eq_some_iff.mp h
    have ej : ws.getD j [] = ws[j] := getD_ws (List.getElem?_eq_getElem (by omega))
    rw [ej, beq_iff_eq] at hh
    exact List.pairwise_iff_getElem.mp W.nd j i (by omega) hi hj (hh.trans ei.symm)
  rw [hn]
  show (if false = true then _ else _) = _
  rw [if_neg (by decide), nums_succ, getD_ws h]
/-- a list of pairs as it stands -/
inductive Prs (H : Hp) : List V → List (Nat × Nat) → Prop
  | nil : Prs H [] []
  | cons {r : Addr} {p : Nat × Nat} {vs : List V} {ps : List (Nat × Nat)} : H r = some (.tup [.int (p.1 : Nat), .int (p.2 : Nat)]) → Prs H vs ps → Prs H (.ref r :: vs) (p :: ps)
theorem Prs.ex {H H' : Hp} (e : Ex H H') : ∀ {vs : List V} {ps : List (Nat × Nat)}, Prs H vs ps → Prs H' vs ps
  | _, _, .nil => .nil
  | _, _, .cons h r => .cons (e _ _ h) (Prs.ex e r)
theorem Prs.len {H : Hp} : ∀ {vs : List V} {ps : List (Nat × Nat)}, Prs H vs ps → vs.length = ps.length
  | _, _, .nil => rfl
  | _, _, .cons _ r => by rw [List.length_cons, List.length_cons, Prs.len r]
theorem Prs.snoc {H : Hp} {r : Addr} {p : Nat × Nat} (h : H r = some (.tup [.int (p.1 : Nat), .int (p.2 : Nat)])) : ∀ {vs : List V} {ps : List (Nat × Nat)}, Prs H vs ps → Prs H (vs ++ [.ref r]) (ps ++ [p])
  | _, _, .nil => .cons h .nil
  | _, _, .cons h1 r1 => .cons h1 (Prs.snoc h r1)
theorem Prs.get {H : Hp} : ∀ {vs : List V} {ps : List (Nat × Nat)} {i : Nat} {x : V}, Prs H vs ps → vs[i]? = some x → ∃ r p, x = .ref r ∧ ps[i]? = some p ∧ H r = some (.tup [.int (p.1 : Nat), .int (p.2 : Nat)])
  | _, _, _, _, .nil, h => by cases h
  | _, _, 0, _, .cons (r := r) (p := p) h1 _, h => ⟨r, p, (Option.some.inj h).symm, rfl, h1⟩
  | _, _, i + 1, _, .cons _ r1, h => Prs.get (i := i) r1 h
theorem Prs.take {H : Hp} : ∀ {vs : List V} {ps : List (Nat × Nat)} (k : Nat), Prs H vs ps → Prs H (vs.take k) (ps.take k)
  | _, _, 0, _ => by
    rw [List.take_zero, List.take_zero]
    exact .nil
  | _, _, _ + 1, .nil => .nil
  | _, _, k + 1, .cons h r => .cons h (Prs.take k r)
theorem Prs.app {H : Hp} : ∀ {vs : List V} {ps : List (Nat × Nat)} {us : List V} {qs : List (Nat × Nat)}, Prs H vs ps → Prs H us qs → Prs H (vs ++ us) (ps ++ qs)
  | _, _, _, _, .nil, h => h
  | _, _, _, _, .cons h r, h2 => .cons h (Prs.app r h2)
/-- what does not change: all but one object -/
theorem Prs.upd {H : Hp} {a : Addr} {o : HO} : ∀ {vs : List V} {ps : List (Nat × Nat)}, Prs H vs ps → (∀ xs, H a ≠ some (.tup xs)) → Prs (L2.upd H a o) vs ps
  | _, _, .nil, _ => .nil
  | _, _, .cons (r := r) h r1, hn => .cons (by rw [upd_ne (fun q : r = a => hn _ (by rw [← q]; exact h))]; exact h) (Prs.upd r1 hn)
def PairsAt (H : Hp) (a : Addr) (ps : List (Nat × Nat)) : Prop := ∃ vs, H a = some (.lst vs) ∧ Prs H vs ps
theorem PairsAt.ex {H H' : Hp} {a : Addr} {ps : List (Nat × Nat)} (e : Ex H H') (h : PairsAt H a ps) : PairsAt H' a ps := by
  obtain ⟨vs, h1, h2⟩ := h
  exact ⟨vs, e _ _ h1, h2.ex e⟩
def spStandL : Sp := fun vs H Q _ => ∃ (L : List Nat) (a : Addr) (ws : List (List Nat)) (m : Nat) (t : List Nat), vs = [.ref a, .str (tx t)] ∧ H a = some (.lst (wv ws)) ∧ WsG L m ws ∧ t.length < 400 ∧ ∀ r H', Ex H H' → H r = none → PairsAt H' r (standN ws t m (t.length + 1 - m)) → Q (.ref r) H'
def spStandT : Sp := fun vs H Q _ => ∃ (L : List Nat) (a : Addr) (ws : List (List Nat)) (m : Nat) (t : List Nat), vs = [.ref a, .str (tx t)] ∧ H a = some (.tup (wv ws)) ∧ WsG L m ws ∧ t.length < 400 ∧ ∀ r H', Ex H H' → H r = none → PairsAt H' r (standN ws t m (t.length + 1 - m)) → Q (.ref r) H'
/-- dict comprehensions over enumerate -/
theorem dc_enumL {K : PySem.W.Frag} {a : Addr} {xs : List V} {g : TG} {tt : TT} {tk tv : TE} {vs : List Nat} {σ : L2.St} {H1 : Hp} {D : Addr} {Qd : Hp → Prop} (Pv : Nat → Hp → Prop) (h0 : Pv 0 (L2.upd H1 D (.dK []))) (hl : ∀ i H, Pv i H → SqL K H a xs)
    (hs : ∀ i x T H, xs[i]? = some x → Pv i H → H T = none → g (.ref T) (wipe σ vs) (L2.upd H T (.tup [.int (i : Nat), x])) fun σ2 H2 => wipe σ2 vs = wipe σ vs ∧ tt σ2 H2 fun b H3 =>
      if b = true then tk σ2 H3 fun y H4 => tv σ2 H4 fun z H5 => ∃ kvs k, y = kV k ∧ H5 D = some (.dK kvs) ∧ kvs.length < sizeLine ∧ Pv (i + 1) (L2.upd H5 D (.dK (putK kvs k z))) else Pv (i + 1) H3) (hd : ∀ H, Pv xs.length H → Qd H) :
    ∃ W : Nat → Nat → Hp → Prop, (∃ m, W 0 m (L2.upd H1 D (.dK []))) ∧ ∀ i m H, W i m H →
      ((Ite K a).stop i H ∧ Qd H) ∨ ((Ite K a).go i H ∧ ∃ Nx : Hp → Prop, (∀ H', Nx H' → ∃ m', m' < m ∧ W (i + 1) m' H') ∧ ∀ x H', (Ite K a).yld i H x H' → g x (wipe σ vs) H' fun σ2 H2 => wipe σ2 vs = wipe σ vs ∧ tt σ2 H2 fun b H3 =>
        if b = true then tk σ2 H3 fun y H4 => tv σ2 H4 fun z H5 => ∃ kvs k, y = kV k ∧ H5 D = some (.dK kvs) ∧ kvs.length < sizeLine ∧ Nx (L2.upd H5 D (.dK (putK kvs k z))) else Nx H3) := by
  refine ⟨fun i m H => i + m = xs.length ∧ Pv i H, ⟨_, Nat.zero_add _, h0⟩, ?_⟩
  rintro i m H ⟨e, p⟩
  by_cases hm : m = 0
  · have e2 : i = xs.length := by omega
    refine .inl ⟨⟨xs, hl i H p, by omega⟩, hd H ?_⟩
    rw [← e2]
    exact p
  · have hi : i < xs.length := by omega
    refine .inr ⟨⟨xs, xs[i], hl i H p, List.getElem?_eq_getElem hi⟩, Pv (i + 1), fun H' p' => ⟨m - 1, by omega, by omega, p'⟩, ?_⟩
    rintro v H' ⟨T, x, rfl, hT, rfl, hx⟩
    exact hs i x T H (hx xs (hl i H p)) p hT
theorem dc_enumT {K : PySem.W.Frag} {a : Addr} {xs : List V} {g : TG} {tt : TT} {tk tv : TE} {vs : List Nat} {σ : L2.St} {H1 : Hp} {D : Addr} {Qd : Hp → Prop} (Pv : Nat → Hp → Prop) (h0 : Pv 0 (L2.upd H1 D (.dK []))) (hl : ∀ i H, Pv i H → SqT K H a xs)
    (hs : ∀ i x T H, xs[i]? = some x → Pv i H → H T = none → g (.ref T) (wipe σ vs) (L2.upd H T (.tup [.int (i : Nat), x])) fun σ2 H2 => wipe σ2 vs = wipe σ vs ∧ tt σ2 H2 fun b H3 =>
      if b = true then tk σ2 H3 fun y H4 => tv σ2 H4 fun z H5 => ∃ kvs k, y = kV k ∧ H5 D = some (.dK kvs) ∧ kvs.length < sizeLine ∧ Pv (i + 1) (L2.upd H5 D (.dK (putK kvs k z))) else Pv (i + 1) H3) (hd : ∀ H, Pv xs.length H → Qd H) :
    ∃ W : Nat → Nat → Hp → Prop, (∃ m, W 0 m (L2.upd H1 D (.dK []))) ∧ ∀ i m H, W i m H →
      ((EN.ItT K a).stop i H ∧ Qd H) ∨ ((EN.ItT K a).go i H ∧ ∃ Nx : Hp → Prop, (∀ H', Nx H' → ∃ m', m' < m ∧ W (i + 1) m' H') ∧ ∀ x H', (EN.ItT K a).yld i H x H' → g x (wipe σ vs) H' fun σ2 H2 => wipe σ2 vs = wipe σ vs ∧ tt σ2 H2 fun b H3 =>
        if b = true then tk σ2 H3 fun y H4 => tv σ2 H4 fun z H5 => ∃ kvs k, y = kV k ∧ H5 D = some (.dK kvs) ∧ kvs.length < sizeLine ∧ Nx (L2.upd H5 D (.dK (putK kvs k z))) else Nx H3) := by
  refine ⟨fun i m H => i + m = xs.length ∧ Pv i H, ⟨_, Nat.zero_add _, h0⟩, ?_⟩
  rintro i m H ⟨e, p⟩
  by_cases hm : m = 0
  · have e2 : i = xs.length := by omega
    refine .inl ⟨⟨xs, hl i H p, e2⟩, hd H ?_⟩
    rw [← e2]
    exact p
  · have hi : i < xs.length := by omega
    refine .inr ⟨⟨xs, xs[i], hl i H p, List.getElem?_eq_getElem hi⟩, Pv (i + 1), fun H' p' => ⟨m - 1, by omega, by omega, p'⟩, ?_⟩
    rintro v H' ⟨T, x, rfl, hT, rfl, hx⟩
    exact hs i x T H (hx xs (hl i H p)) p hT
section
variable {P : Program} {w : World} {K : PySem.W.Frag} {mg : Str → Option Value} {base : Heap}
theorem ok_standL {f : Addr} {fd : FuncData} (F : Fun K "_standing" "_standing" s_standing f fd) (T : Tx mg) : FnOk P w K mg base CX0 1 f fd ["words", "text"] spStandL := by
  refine F.ok sc_standing (fun vs H Q E h => ?_) (fun cdv A outer s H vs Q E hr h => ?_)
  · obtain ⟨L, a, ws, m, t, rfl, _⟩ := h
    rfl
  · obtain ⟨L, a, ws, m, t, rfl, ha, W, ht, q⟩ := h
    have w1 := W.lo
    have w3 := W.hi
    have w8 := W.m8
    have m1 := W.m1
    refine ⟨_, (pss_cons (ps_setDc (i := 2) (own := [("number", 3), ("word", 4)]) (g := gTup K 2 (gCons (gName 3) (gCons (gName 4) gNil))) (tt := tYes) rfl sc_standing.nd rfl rfl (swD rfl rfl rfl (by decide +kernel)) (pi_enum (by rfl) T.enumerate (pa_cons (pv 0) pa_nil)) (blkOk_by (N := N_standing) (sc := defScope s_standing) (by decide +kernel)) (fun _ _ _ _ _ => (pg_tup (by rfl) (pgs_cons (pg_name (i := 3) sc_standing.nd rfl (Or.inl rfl)) (pgs_cons (pg_name (i := 4) sc_standing.nd rfl (Or.inl rfl)) pgs_nil)))) (fun _ _ _ _ _ => pts_nil) (fun _ _ _ _ _ => (pv 4)) (fun _ _ _ _ _ => (pv 3)))
      (pss_cons (ps_set (i := 5) sc_standing.nd rfl (Or.inl rfl) (pe_callB call_len_str (by rfl) T.len PySem.boot_len (pa_cons (pe_ix ix_list (pv 0) pe_int (fun _ _ => rfl)) pa_nil)))
      (pss_cons (ps_set (i := 6) sc_standing.nd rfl (Or.inl rfl) (pe_lst pa_nil))
      (pss_cons (ps_for PassesOwn.never rfl (pi_range1 (by rfl) T.range (pa_cons (pe_op op_add (pe_op op_sub (pe_callB call_len_str (by rfl) T.len PySem.boot_len (pa_cons (pv 1) pa_nil)) (pv 5)) pe_int) pa_nil)) (pg_name (i := 7) sc_standing.nd rfl (Or.inl rfl)) (pss_cons (ps_set (i := 8) sc_standing.nd rfl (Or.inl rfl) (pe_slice sl_str (pv 1) (po_some (pv 7)) (po_some (pe_op op_add (pv 7) (pv 5)))))
      (pss_one (ps_if (pt_cmp (pc_din (hu_of hr) (pv 8) (pv 2))) (pss_one (ps_expr (pe_bm PySem.F.plainAttrs_list PySem.F.slot_list_append PySem.F.type_list_append mt_append (pv 6) (pa_cons (pe_tup (pa_cons (pv 7) (pa_cons (pe_dget (hu_of hr) (pv 2) (pv 8) (fun _ _ => rfl)) pa_nil))) pa_nil)))) pss_nil))))
      (pss_one (ps_ret (pv 6))))))), ?_⟩
    refine ⟨_, rfl, a, _, rfl, sq_of ha, fun D hD => ?_⟩
    refine dc_enumL (K := K) (a := a) (xs := wv ws) (fun i H' => Ex H H' ∧ H' D = some (.dK (nums ws i))) ⟨Ex.new hD, upd_same⟩ (fun i H' hw => ?_) (fun i x T' H' hx hw hT => ?_) (fun H1 hw => ?_)
    · exact sq_of (hw.1 _ _ ha)
    · obtain ⟨e1, hk⟩ := hw
      obtain ⟨u, hu, rfl⟩ := wv_at hx
      have hi := (List.getElem?_eq_some_iff.mp hu).1
      refine ⟨T', _, rfl, .inl (.inl upd_same), rfl, _, _, rfl, _, _, rfl, rfl, rfl, ?_⟩
      refine ⟨_, rfl, _, rfl, _, .inr (tx u), rfl, Ex.new hT _ _ hk, ?_, (e1.trans (Ex.new hT)).mut hD, ?_⟩
      · rw [nums_len]
        exact sz_lt (by omega)
      · rw [nums_put W hu]
        exact upd_same
    obtain ⟨e1, hk⟩ := hw
    rw [wv_len] at hk
    obtain ⟨u0, h0, l0⟩ := wv_zero W
    refine ⟨_, rfl, a, _, _, _, rfl, rfl, sq_of (e1 _ _ ha), h0, _, rfl, tx_le (by omega), ?_⟩
    rw [tx_len, l0]
    refine ⟨Nat.zero_le _, fun r hr1 => ?_⟩
    have hr0 : H r = none := fresh_back e1 hr1
    have nDr : D ≠ r := fun z => by
      rw [← z, hk] at hr1
      cases hr1
    refine ⟨_, rfl, _, rfl, tx_le (by omega), _, rfl, _, _, rfl, rfl, _, _, rfl, rfl, _, rfl, by rw [tx_len]; omega, by rw [tx_len]; omega, ?_⟩
    rw [tx_len, show ((t.length : Int) - (m : Int) + 1).toNat = t.length + 1 - m by omega]
    refine for_range (lo := 0) (n := t.length + 1 - m) (fun i σ H' => ∃ y3 y4 y7 y8 : Option V, σ = [some (.ref a), some (.str (tx t)), some (.ref D), y3, y4, some (.int (m : Int)), some (.ref r), y7, y8] ∧ Ex H H' ∧ H' D = some (.dK (nums ws ws.length)) ∧ PairsAt H' r (standN ws t m i))
      ⟨_, _, _, _, rfl, (e1.trans (Ex.new hr1)), Ex.new hr1 _ _ hk, [], upd_same, .nil⟩ (fun i σ H' hi hw => ?_) (fun σ H' hw => ?_)
    · obtain ⟨y3, y4, y7, y8, rfl, e2, hk2, vs, hv, pv_⟩ := hw
      rw [Int.zero_add]
      refine ⟨_, rfl, _, rfl, _, rfl, _, rfl, _, rfl, _, _, rfl, rfl, _, rfl, _, rfl, tx_le (by omega), ?_⟩
      rw [cut_mid]
      have hg : DGet H' D (.str (tx (part t m i))) ((idx ws (part t m i)).map fun k => V.int (k : Nat)) := by
        have h2 := DGet.k (k := Sum.inr (tx (part t m i))) hk2
        rw [nums_get] at h2
        exact h2
      refine ⟨_, rfl, _, rfl, D, _, rfl, hg, _, rfl, ?_⟩
      cases hx : idx ws (part t m i) with
      | none =>
        rw [hx] at hg
        refine iteF ⟨_, _, _, _, rfl, e2, hk2, vs, hv, ?_⟩
        rw [standN_succ, hx]
        show Prs H' vs (standN ws t m i ++ [])
        rw [List.append_nil]
        exact pv_
      | some k =>
        rw [hx] at hg
        refine iteT ⟨_, rfl, .inl ⟨rfl, _, sq_of hv⟩, _, rfl, _, rfl, _, rfl, D, _, rfl, hg, by show 2 ≤ sizeLine; decide, fun q2 hq2 => ?_⟩
        have lv := pv_.len
        have lv2 := standN_len ws t m i
        refine ⟨r, vs, _, rfl, rfl, Ex.new hq2 _ _ hv, ?_, ?_⟩
        · exact sz_lt (by omega)
        have nrq : r ≠ q2 := fun z => by
          rw [z, hq2] at hv
          cases hv
        refine ⟨_, _, _, _, rfl, (e2.trans (Ex.new hq2)).mut hr0, ?_, vs ++ [.ref q2], upd_same, ?_⟩
        · rw [upd_ne nDr]
          exact Ex.new hq2 _ _ hk2
        · rw [standN_succ, hx]
          refine Prs.upd (Prs.snoc (p := (i, k)) upd_same (pv_.ex (Ex.new hq2))) fun xs hh => ?_
          rw [upd_ne nrq, hv] at hh
          cases hh
    · obtain ⟨y3, y4, y7, y8, rfl, e2, hk2, hp⟩ := hw
      exact ⟨_, rfl, q _ _ e2 hr0 hp⟩
theorem ok_standT {f : Addr} {fd : FuncData} (F : Fun K "_standing" "_standing" s_standing f fd) (T : Tx mg) : FnOk P w K mg base CX0 1 f fd ["words", "text"] spStandT := by
  refine F.ok sc_standing (fun vs H Q E h => ?_) (fun cdv A outer s H vs Q E hr h => ?_)
  · obtain ⟨L, a, ws, m, t, rfl, _⟩ := h
    rfl
  · obtain ⟨L, a, ws, m, t, rfl, ha, W, ht, q⟩ := h
    have w1 := W.lo
    have w3 := W.hi
    have w8 := W.m8
    have m1 := W.m1
    refine ⟨_, (pss_cons (ps_setDc (i := 2) (own := [("number", 3), ("word", 4)]) (g := gTup K 2 (gCons (gName 3) (gCons (gName 4) gNil))) (tt := tYes) rfl sc_standing.nd rfl rfl (swD rfl rfl rfl (by decide +kernel)) (EN.pi_enumT (by rfl) T.enumerate (pa_cons (pv 0) pa_nil)) (blkOk_by (N := N_standing) (sc := defScope s_standing) (by decide +kernel)) (fun _ _ _ _ _ => (pg_tup (by rfl) (pgs_cons (pg_name (i := 3) sc_standing.nd rfl (Or.inl rfl)) (pgs_cons (pg_name (i := 4) sc_standing.nd rfl (Or.inl rfl)) pgs_nil)))) (fun _ _ _ _ _ => pts_nil) (fun _ _ _ _ _ => (pv 4)) (fun _ _ _ _ _ => (pv 3)))
      (pss_cons (ps_set (i := 5) sc_standing.nd rfl (Or.inl rfl) (pe_callB call_len_str (by rfl) T.len PySem.boot_len (pa_cons (pe_ix ix_tup (pv 0) pe_int (fun _ _ => rfl)) pa_nil)))
      (pss_cons (ps_set (i := 6) sc_standing.nd rfl (Or.inl rfl) (pe_lst pa_nil))
      (pss_cons (ps_for PassesOwn.never rfl (pi_range1 (by rfl) T.range (pa_cons (pe_op op_add (pe_op op_sub (pe_callB call_len_str (by rfl) T.len PySem.boot_len (pa_cons (pv 1) pa_nil)) (pv 5)) pe_int) pa_nil)) (pg_name (i := 7) sc_standing.nd rfl (Or.inl rfl)) (pss_cons (ps_set (i := 8) sc_standing.nd rfl (Or.inl rfl) (pe_slice sl_str (pv 1) (po_some (pv 7)) (po_some (pe_op op_add (pv 7) (pv 5)))))
      (pss_one (ps_if (pt_cmp (pc_din (hu_of hr) (pv 8) (pv 2))) (pss_one (ps_expr (pe_bm PySem.F.plainAttrs_list PySem.F.slot_list_append PySem.F.type_list_append mt_append (pv 6) (pa_cons (pe_tup (pa_cons (pv 7) (pa_cons (pe_dget (hu_of hr) (pv 2) (pv 8) (fun _ _ => rfl)) pa_nil))) pa_nil)))) pss_nil))))
      (pss_one (ps_ret (pv 6))))))), ?_⟩
    refine ⟨_, rfl, a, _, rfl, st_of ha, fun D hD => ?_⟩
    refine dc_enumT (K := K) (a := a) (xs := wv ws) (fun i H' => Ex H H' ∧ H' D = some (.dK (nums ws i))) ⟨Ex.new hD, upd_same⟩ (fun i H' hw => ?_) (fun i x T' H' hx hw hT => ?_) (fun H1 hw => ?_)
    · exact st_of (hw.1 _ _ ha)
    · obtain ⟨e1, hk⟩ := hw
      obtain ⟨u, hu, rfl⟩ := wv_at hx
      have hi := (List.getElem?_eq_some_iff.mp hu).1
      refine ⟨T', _, rfl, .inl (.inl upd_same), rfl, _, _, rfl, _, _, rfl, rfl, rfl, ?_⟩
      refine ⟨_, rfl, _, rfl, _, .inr (tx u), rfl, Ex.new hT _ _ hk, ?_, (e1.trans (Ex.new hT)).mut hD, ?_⟩
      · rw [nums_len]
        exact sz_lt (by omega)
      · rw [nums_put W hu]
        exact upd_same
    obtain ⟨e1, hk⟩ := hw
    rw [wv_len] at hk
    obtain ⟨u0, h0, l0⟩ := wv_zero W
    refine ⟨_, rfl, a, _, _, _, rfl, rfl, st_of (e1 _ _ ha), h0, _, rfl, tx_le (by omega), ?_⟩
    rw [tx_len, l0]
    refine ⟨Nat.zero_le _, fun r hr1 => ?_⟩
    have hr0 : H r = none := fresh_back e1 hr1
    have nDr : D ≠ r := fun z => by
      rw [← z, hk] at hr1
      cases hr1
    refine ⟨_, rfl, _, rfl, tx_le (by omega), _, rfl, _, _, rfl, rfl, _, _, rfl, rfl, _, rfl, by rw [tx_len]; omega, by rw [tx_len]; omega, ?_⟩
    rw [tx_len, show ((t.length : Int) - (m : Int) + 1).toNat = t.length + 1 - m by omega]
    refine for_range (lo := 0) (n := t.length + 1 - m) (fun i σ H' => ∃ y3 y4 y7 y8 : Option V, σ = [some (.ref a), some (.str (tx t)), some (.ref D), y3, y4, some (.int (m : Int)), some (.ref r), y7, y8] ∧ Ex H H' ∧ H' D = some (.dK (nums ws ws.length)) ∧ PairsAt H' r (standN ws t m i))
      ⟨_, _, _, _, rfl, (e1.trans (Ex.new hr1)), Ex.new hr1 _ _ hk, [], upd_same, .nil⟩ (fun i σ H' hi hw => ?_) (fun σ H' hw => ?_)
    · obtain ⟨y3, y4, y7, y8, rfl, e2, hk2, vs, hv, pv_⟩ := hw
      rw [Int.zero_add]
      refine ⟨_, rfl, _, rfl, _, rfl, _, rfl, _, rfl, _, _, rfl, rfl, _, rfl, _, rfl, tx_le (by omega), ?_⟩
      rw [cut_mid]
      have hg : DGet H' D (.str (tx (part t m i))) ((idx ws (part t m i)).map fun k => V.int (k : Nat)) := by
        have h2 := DGet.k (k := Sum.inr (tx (part t m i))) hk2
        rw [nums_get] at h2
        exact h2
      refine ⟨_, rfl, _, rfl, D, _, rfl, hg, _, rfl, ?_⟩
      cases hx : idx ws (part t m i) with
      | none =>
        rw [hx] at hg
        refine iteF ⟨_, _, _, _, rfl, e2, hk2, vs, hv, ?_⟩
        rw [standN_succ, hx]
        show Prs H' vs (standN ws t m i ++ [])
        rw [List.append_nil]
        exact pv_
      | some k =>
        rw [hx] at hg
        refine iteT ⟨_, rfl, .inl ⟨rfl, _, sq_of hv⟩, _, rfl, _, rfl, _, rfl, D, _, rfl, hg, by show 2 ≤ sizeLine; decide, fun q2 hq2 => ?_⟩
        have lv := pv_.len
        have lv2 := standN_len ws t m i
        refine ⟨r, vs, _, rfl, rfl, Ex.new hq2 _ _ hv, ?_, ?_⟩
        · exact sz_lt (by omega)
        have nrq : r ≠ q2 := fun z => by
          rw [z, hq2] at hv
          cases hv
        refine ⟨_, _, _, _, rfl, (e2.trans (Ex.new hq2)).mut hr0, ?_, vs ++ [.ref q2], upd_same, ?_⟩
        · rw [upd_ne nDr]
          exact Ex.new hq2 _ _ hk2
        · rw [standN_succ, hx]
          refine Prs.upd (Prs.snoc (p := (i, k)) upd_same (pv_.ex (Ex.new hq2))) fun xs hh => ?_
          rw [upd_ne nrq, hv] at hh
          cases hh
    · obtain ⟨y3, y4, y7, y8, rfl, e2, hk2, hp⟩ := hw
      exact ⟨_, rfl, q _ _ e2 hr0 hp⟩
end
end Law

namespace Law
open PySem PySem.Spec PyProof.Rows L2 Evl
/-! ### the ones that do not overlap -/
def apS (m : Nat) (s : List (Nat × Nat) × Nat) (p : Nat × Nat) : List (Nat × Nat) × Nat := if s.2 ≤ p.1 then (s.1 ++ [p], p.1 + m) else s
def apF (m : Nat) (ps : List (Nat × Nat)) : List (Nat × Nat) := (ps.foldl (apS m) ([], 0)).1
theorem ap_len (m : Nat) : ∀ (ps : List (Nat × Nat)) (s : List (Nat × Nat) × Nat), (ps.foldl (apS m) s).1.length ≤ s.1.length + ps.length
  | [], _ => Nat.le_refl _
  | p :: r, s => by
    have h := ap_len m r (apS m s p)
    rw [List.foldl_cons, List.length_cons]
    have h2 : (apS m s p).1.length ≤ s.1.length + 1 := by
      unfold apS
      split
      · show (s.1 ++ [p]).length ≤ _
        rw [List.length_append]
        exact Nat.le_refl _
      · omega
    omega
theorem take_next {α : Type} {l : List α} {i : Nat} {x : α} (h : l[i]? = some x) : l.take (i + 1) = l.take i ++ [x] := by
  rw [List.take_add_one, h]
  rfl
def spApart : Sp := fun vs H Q _ => ∃ (a : Addr) (ps : List (Nat × Nat)) (m : Nat), vs = [.ref a, .int (m : Nat)] ∧ PairsAt H a ps ∧ ps.length < 1000 ∧ ∀ r H', Ex H H' → H r = none → PairsAt H' r (apF m ps) → Q (.ref r) H'
/-! ### the law's own look -/
theorem filter_find {f : Nat → Bool} : ∀ {l : List Nat}, l.Nodup → (∀ a ∈ l, ∀ b ∈ l, f a = true → f b = true → a = b) → l.filter f = (l.find? f).toList
  | [], _, _ => rfl
  | x :: r, nd, h => by
    rw [List.nodup_cons] at nd
    by_cases q : f x = true
    · rw [List.filter_cons, if_pos q, List.find?_cons_of_pos q]
      have e : r.filter f = [] := by
        rw [List.filter_eq_nil_iff]
        intro b hb hfb
        exact nd.1 (by rw [h x List.mem_cons_self b (List.mem_cons_of_mem _ hb) q hfb]; exact hb)
      rw [e]
      rfl
    · rw [List.filter_cons, if_neg q, List.find?_cons_of_neg q]
      exact filter_find nd.2 fun a ha b hb => h a (List.mem_cons_of_mem _ ha) b (List.mem_cons_of_mem _ hb)
def hits (ws : List (List Nat)) (u : List Nat) (i n : Nat) : List (Nat × Nat) := ((List.range n).filter fun k => ws.getD k [] == u).map fun k => (i, k)
theorem hits_all {L : List Nat} {m : Nat} {ws : List (List Nat)} (W : WsG L m ws) (u : List Nat) (i : Nat) : hits ws u i ws.length = ((idx ws u).map fun k => (i, k)).toList := by
  unfold hits idx
  rw [filter_find List.nodup_range]
  · cases (List.range ws.length).find? fun k => ws.getD k [] == u <;> rfl
  · intro a ha b hb h1 h2
    rw [List.mem_range] at ha hb
    rw [beq_iff_eq] at h1 h2
    rw [getD_ws (List.getElem?_eq_getElem ha)] at h1
    rw [getD_ws (List.getElem?_eq_getElem hb)] at h2
    rcases Nat.lt_trichotomy a b with q | q | q
    · exact absurd (h1.trans h2.symm) (List.pairwise_iff_getElem.mp W.nd a b ha hb q)
    · exact q
    · exact absurd (h2.trans h1.symm) (List.pairwise_iff_getElem.mp W.nd b a hb ha q)
theorem hits_succ (ws : List (List Nat)) (u : List Nat) (i n : Nat) : hits ws u i (n + 1) = if ws.getD n [] = u then hits ws u i n ++ [(i, n)] else hits ws u i n := by
  unfold hits
  rw [List.range_succ, List.filter_append, List.map_append]
  by_cases q : ws.getD n [] = u
  · rw [if_pos q, List.filter_cons, if_pos (by rw [q]; simp)]
    rfl
  · rw [if_neg q, List.filter_cons, if_neg (by simpa using q)]
    simp
theorem hits_len (ws : List (List Nat)) (u : List Nat) (i n : Nat) : (hits ws u i n).length ≤ n := by
  unfold hits
  rw [List.length_map]
  have := List.length_filter_le (fun k => ws.getD k [] == u) (List.range n)
  rw [List.length_range] at this
  exact this
theorem idx_short {L : List Nat} {m : Nat} {ws : List (List Nat)} (W : WsG L m ws) {u : List Nat} (h : u.length ≠ m) : idx ws u = none := by
  unfold idx
  rw [List.find?_eq_none]
  intro k hk hh
  rw [List.mem_range] at hk
  rw [getD_ws (List.getElem?_eq_getElem hk), beq_iff_eq] at hh
  exact h (by rw [← hh]; exact (W.all _ (List.getElem_mem hk)).len)
theorem stand_stop {L : List Nat} {m : Nat} {ws : List (List Nat)} (W : WsG L m ws) (t : List Nat) : ∀ d : Nat, standN ws t m (t.length + 1 - m + d) = standN ws t m (t.length + 1 - m)
  | 0 => rfl
  | d + 1 => by
    show standN ws t m (t.length + 1 - m + d + 1) = _
    have m1 := W.m1
    rw [standN_succ, stand_stop W t d, idx_short W (u := part t m (t.length + 1 - m + d))]
    · exact List.append_nil _
    · unfold part
      rw [List.length_take, List.length_drop]
      omega
theorem stand_all {L : List Nat} {m : Nat} {ws : List (List Nat)} (W : WsG L m ws) (t : List Nat) : standN ws t m t.length = standN ws t m (t.length + 1 - m) := by
  have m1 := W.m1
  have h := stand_stop W t (t.length - (t.length + 1 - m))
  rw [show t.length + 1 - m + (t.length - (t.length + 1 - m)) = t.length by omega] at h
  exact h
def spWords : Sp := fun vs H Q _ => ∃ (p : PenI) (H0 : Hp) (n wd mn : Nat) (L : List Nat), vs = [.ref p.d, .str (tx L), .int (wd : Int), .int (mn : Int)] ∧ PenAt p H0 H n ∧ n < 700000 ∧ 0 < L.length ∧ L.length < 900 ∧ 1 ≤ wd ∧ wd ≤ 8 ∧ 1 ≤ mn ∧ mn ≤ 3 ∧
  ∀ H' r ws, PenAt p H0 H' (n + 45) → H0 r = none → H' r = some (.lst (wv ws)) → WsG L wd ws → Q (.ref r) H'
def spText : Sp := fun vs H Q _ => ∃ (p : PenI) (H0 : Hp) (n m : Nat) (L : List Nat) (a : Addr) (ws : List (List Nat)), vs = [.ref p.d, .str (tx L), .ref a, .int 24] ∧ PenAt p H0 H n ∧ n < 700000 ∧ H0 a = some (.lst (wv ws)) ∧ WsG L m ws ∧ 0 < L.length ∧ L.length < 900 ∧
  ∀ H' T, PenAt p H0 H' (n + 250) → T.length ≤ 24 → (∀ c ∈ T, c ∈ L) → Q (.str (tx T)) H'
section
variable {P : Program} {w : World} {K : PySem.W.Frag} {mg : Str → Option Value} {base : Heap}
theorem ok_apart {f : Addr} {fd : FuncData} (F : Fun K "_apart" "_apart" s_apart f fd) (T : Tx mg) : FnOk P w K mg base CX0 1 f fd ["found", "size"] spApart := by
  refine F.ok sc_apart (fun vs H Q E h => ?_) (fun cdv A outer s H vs Q E hr h => ?_)
  · obtain ⟨a, ps, m, rfl, _⟩ := h
    rfl
  · obtain ⟨a, ps, m, rfl, ⟨vs, ha, hp⟩, hl, q⟩ := h
    have lv := hp.len
    refine ⟨_, (pss_cons (ps_set (i := 2) sc_apart.nd rfl (Or.inl rfl) (pe_lst pa_nil))
      (pss_cons (ps_set (i := 3) sc_apart.nd rfl (Or.inl rfl) pe_int)
      (pss_cons (ps_for PassesOwn.never rfl (pi_list (pv 0)) (pg_tup (by rfl) (pgs_cons (pg_name (i := 4) sc_apart.nd rfl (Or.inl rfl)) (pgs_cons (pg_name (i := 5) sc_apart.nd rfl (Or.inl rfl)) pgs_nil))) (pss_one (ps_if (pt_cmpR op_ge (pv 4) (pv 3) (nomark _)) (pss_cons (ps_expr (pe_bm PySem.F.plainAttrs_list PySem.F.slot_list_append PySem.F.type_list_append mt_append (pv 2) (pa_cons (pe_tup (pa_cons (pv 4) (pa_cons (pv 5) pa_nil))) pa_nil)))
      (pss_one (ps_set (i := 3) sc_apart.nd rfl (Or.inl rfl) (pe_op op_add (pv 4) (pv 1))))) pss_nil)))
      (pss_one (ps_ret (pv 2)))))), ?_⟩
    refine ⟨Nat.zero_le _, fun r hr0 => ?_⟩
    have e1 := Ex.new (o := .lst []) hr0
    refine ⟨_, rfl, a, rfl, ⟨_, sq_of (e1 _ _ ha)⟩, for_list (K := K) (a := a) (xs := vs) (fun i σ H' => ∃ y4 y5 : Option V, σ = [some (.ref a), some (.int (m : Nat)), some (.ref r), some (.int ((((ps.take i).foldl (apS m) ([], 0)).2 : Nat) : Int)), y4, y5] ∧ Ex H H' ∧ PairsAt H' r ((ps.take i).foldl (apS m) ([], 0)).1)
      ⟨_, _, rfl, e1, [], upd_same, .nil⟩ (fun i σ H' _ hw => ?_) (fun i x σ H' hx hw => ?_) (fun σ H' hw => ?_)⟩
    · obtain ⟨_, _, _, e, _⟩ := hw
      exact sq_of (e _ _ ha)
    · obtain ⟨y4, y5, rfl, e2, us, hu, pu⟩ := hw
      obtain ⟨r0, p0, rfl, hp0, hr⟩ := hp.get hx
      refine ⟨r0, _, rfl, st_of (e2 _ _ hr), rfl, _, _, rfl, _, _, rfl, rfl, ?_⟩
      refine ⟨_, rfl, _, rfl, _, _, rfl, rfl, _, rfl, ?_⟩
      rw [take_next hp0, List.foldl_append]
      have lu := pu.len
      have lt := ap_len m (ps.take i) ([], 0)
      rw [List.length_take] at lt
      have lt2 : ((ps.take i).foldl (apS m) ([], 0)).1.length ≤ 1000 := by
        have : ([] : List (Nat × Nat)).length = 0 := rfl
        simp only [List.length_nil] at lt
        omega
      generalize (ps.take i).foldl (apS m) ([], 0) = S at *
      show if decide (((S.2 : Nat) : Int) ≤ ((p0.1 : Nat) : Int)) = true then _ else _
      by_cases hle : S.2 ≤ p0.1
      · rw [decide_eq_true (by omega)]
        refine iteT ⟨_, rfl, .inl ⟨rfl, _, sq_of hu⟩, _, rfl, _, rfl, by show 2 ≤ sizeLine; decide, fun q2 hq2 => ?_⟩
        refine ⟨r, us, _, rfl, rfl, Ex.new hq2 _ _ hu, sz_lt (by omega), ?_⟩
        have nrq : r ≠ q2 := fun z => by
          rw [z, hq2] at hu
          cases hu
        refine ⟨_, rfl, _, rfl, _, _, rfl, rfl, ?_⟩
        have ea : List.foldl (apS m) S [p0] = (S.1 ++ [p0], p0.1 + m) := by
          show apS m S p0 = _
          unfold apS
          rw [if_pos hle]
        rw [ea]
        refine ⟨some (V.int (p0.1 : Nat)), some (V.int (p0.2 : Nat)), rfl, (e2.trans (Ex.new hq2)).mut hr0, us ++ [.ref q2], upd_same, ?_⟩
        · refine Prs.upd (Prs.snoc (p := p0) upd_same (pu.ex (Ex.new hq2))) fun xs hh => ?_
          rw [upd_ne nrq, hu] at hh
          cases hh
      · rw [decide_eq_false (by omega)]
        have ea : List.foldl (apS m) S [p0] = S := by
          show apS m S p0 = _
          unfold apS
          rw [if_neg hle]
        rw [ea]
        exact iteF ⟨_, _, rfl, e2, us, hu, pu⟩
    · obtain ⟨y4, y5, rfl, e2, hu⟩ := hw
      rw [lv, List.take_length] at hu
      exact ⟨_, rfl, q _ _ e2 hr0 hu⟩
theorem ok_lapart {f : Addr} {fd : FuncData} (F : Fun K "_law_apart" "_law_apart" s_lapart f fd) (T : Tx mg) : FnOk P w K mg base CX0 1 f fd ["_law_pairs", "_law_width"] spApart := by
  refine F.ok sc_lapart (fun vs H Q E h => ?_) (fun cdv A outer s H vs Q E hr h => ?_)
  · obtain ⟨a, ps, m, rfl, _⟩ := h
    rfl
  · obtain ⟨a, ps, m, rfl, ⟨vs, ha, hp⟩, hl, q⟩ := h
    have lv := hp.len
    refine ⟨_, (pss_cons (ps_par (i := 2) (j := 3) (by rfl) sc_lapart.nd rfl rfl (by decide) rfl rfl (pa_cons (pe_lst pa_nil) (pa_cons pe_int pa_nil)) (by rfl))
      (pss_cons (ps_for PassesOwn.never rfl (pi_list (pv 0)) (pg_tup (by rfl) (pgs_cons (pg_name (i := 4) sc_lapart.nd rfl (Or.inl rfl)) (pgs_cons (pg_name (i := 5) sc_lapart.nd rfl (Or.inl rfl)) pgs_nil))) (pss_one (ps_if (pt_cmpR op_ge (pv 4) (pv 3) (nomark _)) (pss_cons (ps_expr (pe_bm PySem.F.plainAttrs_list PySem.F.slot_list_append PySem.F.type_list_append mt_append (pv 2) (pa_cons (pe_tup (pa_cons (pv 4) (pa_cons (pv 5) pa_nil))) pa_nil)))
      (pss_one (ps_set (i := 3) sc_lapart.nd rfl (Or.inl rfl) (pe_op op_add (pv 4) (pv 1))))) pss_nil)))
      (pss_one (ps_ret (pv 2))))), ?_⟩
    refine ⟨Nat.zero_le _, fun r hr0 => ?_⟩
    have e1 := Ex.new (o := .lst []) hr0
    refine ⟨_, _, rfl, _, rfl, a, rfl, ⟨_, sq_of (e1 _ _ ha)⟩, for_list (K := K) (a := a) (xs := vs) (fun i σ H' => ∃ y4 y5 : Option V, σ = [some (.ref a), some (.int (m : Nat)), some (.ref r), some (.int ((((ps.take i).foldl (apS m) ([], 0)).2 : Nat) : Int)), y4, y5] ∧ Ex H H' ∧ PairsAt H' r ((ps.take i).foldl (apS m) ([], 0)).1)
      ⟨_, _, rfl, e1, [], upd_same, .nil⟩ (fun i σ H' _ hw => ?_) (fun i x σ H' hx hw => ?_) (fun σ H' hw => ?_)⟩
    · obtain ⟨_, _, _, e, _⟩ := hw
      exact sq_of (e _ _ ha)
    · obtain ⟨y4, y5, rfl, e2, us, hu, pu⟩ := hw
      obtain ⟨r0, p0, rfl, hp0, hr⟩ := hp.get hx
      refine ⟨r0, _, rfl, st_of (e2 _ _ hr), rfl, _, _, rfl, _, _, rfl, rfl, ?_⟩
      refine ⟨_, rfl, _, rfl, _, _, rfl, rfl, _, rfl, ?_⟩
      rw [take_next hp0, List.foldl_append]
      have lu := pu.len
      have lt := ap_len m (ps.take i) ([], 0)
      rw [List.length_take] at lt
      have lt2 : ((ps.take i).foldl (apS m) ([], 0)).1.length ≤ 1000 := by
        have : ([] : List (Nat × Nat)).length = 0 := rfl
        simp only [List.length_nil] at lt
        omega
      generalize (ps.take i).foldl (apS m) ([], 0) = S at *
      show if decide (((S.2 : Nat) : Int) ≤ ((p0.1 : Nat) : Int)) = true then _ else _
      by_cases hle : S.2 ≤ p0.1
      · rw [decide_eq_true (by omega)]
        refine iteT ⟨_, rfl, .inl ⟨rfl, _, sq_of hu⟩, _, rfl, _, rfl, by show 2 ≤ sizeLine; decide, fun q2 hq2 => ?_⟩
        refine ⟨r, us, _, rfl, rfl, Ex.new hq2 _ _ hu, sz_lt (by omega), ?_⟩
        have nrq : r ≠ q2 := fun z => by
          rw [z, hq2] at hu
          cases hu
        refine ⟨_, rfl, _, rfl, _, _, rfl, rfl, ?_⟩
        have ea : List.foldl (apS m) S [p0] = (S.1 ++ [p0], p0.1 + m) := by
          show apS m S p0 = _
          unfold apS
          rw [if_pos hle]
        rw [ea]
        refine ⟨some (V.int (p0.1 : Nat)), some (V.int (p0.2 : Nat)), rfl, (e2.trans (Ex.new hq2)).mut hr0, us ++ [.ref q2], upd_same, ?_⟩
        · refine Prs.upd (Prs.snoc (p := p0) upd_same (pu.ex (Ex.new hq2))) fun xs hh => ?_
          rw [upd_ne nrq, hu] at hh
          cases hh
      · rw [decide_eq_false (by omega)]
        have ea : List.foldl (apS m) S [p0] = S := by
          show apS m S p0 = _
          unfold apS
          rw [if_neg hle]
        rw [ea]
        exact iteF ⟨_, _, rfl, e2, us, hu, pu⟩
    · obtain ⟨y4, y5, rfl, e2, hu⟩ := hw
      rw [lv, List.take_length] at hu
      exact ⟨_, rfl, q _ _ e2 hr0 hu⟩
theorem ok_lstand {f : Addr} {fd : FuncData} (F : Fun K "_law_standing" "_law_standing" s_lstanding f fd) (T : Tx mg) : FnOk P w K mg base CX0 1 f fd ["_law_words_here", "_law_text_here"] spStandL := by
  refine F.ok sc_lstanding (fun vs H Q E h => ?_) (fun cdv A outer s H vs Q E hr h => ?_)
  · obtain ⟨L, a, ws, m, t, rfl, _⟩ := h
    rfl
  · obtain ⟨L, a, ws, m, t, rfl, ha, W, ht, q⟩ := h
    have w1 := W.lo
    have w3 := W.hi
    have w8 := W.m8
    have m1 := W.m1
    refine ⟨_, (pss_cons (ps_set (i := 2) sc_lstanding.nd rfl (Or.inl rfl) (pe_lst pa_nil))
      (pss_cons (ps_for PassesOwn.never rfl (pi_range1 (by rfl) T.range (pa_cons (pe_callB call_len_str (by rfl) T.len PySem.boot_len (pa_cons (pv 1) pa_nil)) pa_nil)) (pg_name (i := 3) sc_lstanding.nd rfl (Or.inr rfl)) (pss_one (ps_set (i := 2) sc_lstanding.nd rfl (Or.inl rfl) (pe_op op_cat (pv 2) (pe_lc (own := [("_law_k", 4)]) (g := gName 4) rfl sc_lstanding.nd (pi_range1 (by rfl) T.range (pa_cons (pe_callB call_len_seq (by rfl) T.len PySem.boot_len (pa_cons (pv 0) pa_nil)) pa_nil)) (blkOk_by (N := N_lstanding) (sc := defScope s_lstanding) (by decide +kernel)) (fun _ _ _ _ _ => (pg_name (i := 4) sc_lstanding.nd rfl (Or.inl rfl))) (fun _ _ _ _ _ => (pts_one (pt_cmpR op_eq (pe_slice sl_str (pv 1) (po_some (pv 3)) (po_some (pe_op op_add (pv 3) (pe_callB call_len_str (by rfl) T.len PySem.boot_len (pa_cons (pe_ix (show IxR _ (rIxL K) from ix_list) (pv 0) (pv 4) (fun _ _ => rfl)) pa_nil))))) (pe_ix (show IxR _ (rIxL K) from ix_list) (pv 0) (pv 4) (fun _ _ => rfl)) (nomark _)))) (fun _ _ _ _ _ => (pe_tup (pa_cons (pv 3) (pa_cons (pv 4) pa_nil)))))))))
      (pss_one (ps_ret (pv 2))))), ?_⟩
    refine ⟨Nat.zero_le _, fun r hr0 => ?_⟩
    have e1 := Ex.new (o := .lst []) hr0
    refine ⟨_, rfl, _, rfl, tx_le (by omega), _, rfl, by rw [tx_len]; omega, by rw [tx_len]; omega, ?_⟩
    rw [tx_len, show ((t.length : Nat) : Int).toNat = t.length by omega]
    refine for_range (lo := 0) (n := t.length) (fun i σ H' => ∃ (c : Addr) (y3 y4 : Option V), σ = [some (.ref a), some (.str (tx t)), some (.ref c), y3, y4] ∧ Ex H H' ∧ H c = none ∧ PairsAt H' c (standN ws t m i))
      ⟨r, none, none, rfl, e1, hr0, [], upd_same, .nil⟩ (fun i σ H' hi hw => ?_) (fun σ H' hw => ?_)
    · obtain ⟨c, y3, y4, rfl, e2, hc0, vs, hv, pv_⟩ := hw
      rw [Int.zero_add]
      refine ⟨_, rfl, _, rfl, a, _, rfl, .inl (sq_of (e2 _ _ ha)), _, rfl, by rw [wv_len]; omega, by rw [wv_len]; omega, fun D hD => ?_⟩
      have hD0 : H D = none := fresh_back e2 hD
      rw [wv_len, show ((ws.length : Nat) : Int).toNat = ws.length by omega]
      refine lc_range (lo := 0) (n := ws.length) (fun k H2 => Ex H' (H2) ∧ ∃ us, H2 D = some (.lst us) ∧ Prs H2 us (hits ws (part t m i) i k)) ⟨Ex.new hD, [], upd_same, .nil⟩ (fun k H2 hk hw => ?_) (fun H2 hw => ?_)
      · obtain ⟨e3, us, hu, pu⟩ := hw
        rw [Int.zero_add]
        have hk2 : ws[k]? = some ws[k] := List.getElem?_eq_getElem hk
        have lk := (W.all _ (List.getElem_mem hk)).len
        have hat : atI (wv ws) (k : Int) = some (.str (tx ws[k])) := atI_nat (by
          unfold wv
          rw [List.getElem?_map, hk2]
          rfl)
        have hA : SqL K H2 a (wv ws) := sq_of (e3 _ _ (e2 _ _ ha))
        refine ⟨rfl, _, rfl, _, rfl, _, rfl, _, rfl, _, rfl, _, rfl, a, _, _, _, rfl, rfl, hA, hat, _, rfl, tx_le (by omega), _, _, rfl, rfl, _, rfl, _, rfl, tx_le (by omega), _, rfl, _, rfl, a, _, _, _, rfl, rfl, hA, hat, rfl, _, rfl, ?_⟩
        rw [tx_len, lk, cut_mid, show V.str (tx ((t.drop i).take m)) = V.str (tx (part t m i)) from rfl]
        by_cases heq : ws[k] = part t m i
        · rw [decide_eq_true (by rw [heq])]
          have lu := pu.len
          have lh := hits_len ws (part t m i) i k
          refine ⟨_, rfl, _, rfl, by show 2 ≤ sizeLine; decide, fun q2 hq2 => ⟨us, Ex.new hq2 _ _ hu, sz_lt (by omega), (e3.trans (Ex.new hq2)).mut hD, us ++ [.ref q2], upd_same, ?_⟩⟩
          have nDq : D ≠ q2 := fun z => by
            rw [z, hq2] at hu
            cases hu
          rw [hits_succ, if_pos (by rw [getD_ws hk2]; exact heq)]
          refine Prs.upd (Prs.snoc (p := (i, k)) upd_same (pu.ex (Ex.new hq2))) fun xs hh => ?_
          rw [upd_ne nDq, hu] at hh
          cases hh
        · rw [decide_eq_false (fun z => heq (tx_inj (V.str.inj z)).symm)]
          refine ⟨e3, us, hu, ?_⟩
          rw [hits_succ, if_neg (by rw [getD_ws hk2]; exact heq)]
          exact pu
      · obtain ⟨e3, us, hu, pu⟩ := hw
        rw [hits_all W] at pu
        have lu := pu.len
        have lv := pv_.len
        have ls := standN_len ws t m i
        have lo : ((idx ws (part t m i)).map fun k => (i, k)).toList.length ≤ 1 := by
          cases (idx ws (part t m i)).map fun k => (i, k)
          · exact Nat.zero_le _
          · exact Nat.le_refl _
        refine ⟨c, D, vs, us, rfl, rfl, e3 _ _ hv, hu, ?_, fun c2 hc2 => ?_⟩
        · exact sz_le (by omega)
        refine ⟨c2, _, _, rfl, (e2.trans e3).trans (Ex.new hc2), fresh_back (e2.trans e3) hc2, vs ++ us, upd_same, ?_⟩
        rw [standN_succ]
        exact ((pv_.ex e3).app pu).ex (Ex.new hc2)
    · obtain ⟨c, y3, y4, rfl, e2, hc0, hp⟩ := hw
      rw [stand_all W] at hp
      exact ⟨_, rfl, q _ _ e2 hc0 hp⟩
end
end Law

namespace Law
open PySem PySem.Spec PyProof.Rows L2 Evl
theorem WsG.snoc {L : List Nat} {m : Nat} {ws : List (List Nat)} {u : List Nat} (W : WsG L m ws) (hu : WG L m u) (hn : u ∉ ws) (hl : ws.length ≤ 2) : WsG L m (ws ++ [u]) := by
  refine ⟨?_, ?_, W.m1, W.m8, fun x hx => ?_, ?_⟩
  · rw [List.length_append]
    have := W.lo
    omega
  · rw [List.length_append]
    show ws.length + 1 ≤ 3
    omega
  · rcases List.mem_append.mp hx with h | h
    · exact W.all x h
    · rw [List.mem_singleton.mp h]
      exact hu
  · rw [List.nodup_append]
    refine ⟨W.nd, by simp, fun a ha b hb => ?_⟩
    rw [List.mem_singleton.mp hb]
    intro e
    exact hn (by rw [← e]; exact ha)
theorem wv_snoc (ws : List (List Nat)) (u : List Nat) : wv ws ++ [.str (tx u)] = wv (ws ++ [u]) := by
  unfold wv
  rw [List.map_append]
  rfl
section
variable {P : Program} {w : World} {K : PySem.W.Frag} {mg : Str → Option Value} {base : Heap}
theorem ok_words {f : Addr} {fd : FuncData} (F : Fun K "_law_words" "_law_words" s_lwords f fd) (T : Tx mg) (c_lword : Kn P w K mg base "_law_word" ["_law_pen_here", "_law_letters_here", "_law_width"] 3 spWord) :
    FnOk P w K mg base CX0 4 f fd ["_law_pen_here", "_law_letters_here", "_law_width", "_law_many"] spWords := by
  refine F.ok sc_lwords (fun vs H Q E h => ?_) (fun cdv A outer s H vs Q E hr h => ?_)
  · obtain ⟨p, H0, n, wd, mn, L, rfl, _⟩ := h
    rfl
  · obtain ⟨p, H0, n, wd, mn, L, rfl, P0, hn, hl0, hl1, hw1, hw8, hm1, hm3, q⟩ := h
    refine ⟨_, (pss_cons (ps_set (i := 4) sc_lwords.nd rfl (Or.inl rfl) (pe_lst (pa_cons (pe_call c_lword.ok (hr.mono (by decide)) (by rfl) c_lword.g c_lword.kp c_lword.b .nil pass0 (pa_cons (pv 0) (pa_cons (pv 1) (pa_cons (pv 2) pa_nil)))) pa_nil)))
      (pss_cons (ps_for PassesOwn.never rfl (pi_range1 (by rfl) T.range (pa_cons (pe_op op_sub (pv 3) pe_int) pa_nil)) (pg_name (i := 5) sc_lwords.nd rfl (Or.inl rfl)) (pss_cons (ps_set (i := 6) sc_lwords.nd rfl (Or.inl rfl) (pe_call c_lword.ok (hr.mono (by decide)) (by rfl) c_lword.g c_lword.kp c_lword.b .nil pass0 (pa_cons (pv 0) (pa_cons (pv 1) (pa_cons (pv 2) pa_nil)))))
      (pss_one (ps_if (pt_cmpR op_notIn_seq (pv 6) (pv 4) rfl) (pss_one (ps_expr (pe_bm PySem.F.plainAttrs_list PySem.F.slot_list_append PySem.F.type_list_append mt_append (pv 4) (pa_cons (pv 6) pa_nil)))) pss_nil))))
      (pss_one (ps_ret (pv 4))))), ?_⟩
    refine ⟨_, rfl, _, rfl, _, rfl, p, H0, n, wd, tx L, rfl, P0, by omega, by rw [tx_len]; omega, by rw [tx_len]; omega, hw1, hw8, fun H1 u P1 lu mu => ⟨by show 1 ≤ sizeLine; decide, fun r hr1 => ?_⟩⟩
    have r0 := fresh0 P1 hr1
    have r1 := fresh_ne P1 hr1
    have W1 : WsG L wd [u] := ⟨Nat.le_refl _, by show 1 ≤ 3; omega, hw1, hw8, fun x hx => by rw [List.mem_singleton.mp hx]; exact ⟨lu, mu⟩, by simp⟩
    refine ⟨_, rfl, _, _, rfl, rfl, _, rfl, by omega, by omega, ?_⟩
    rw [show ((mn : Int) - 1).toNat = mn - 1 by omega]
    refine for_range (lo := 0) (n := mn - 1) (fun i σ H' => ∃ y5 y6 : Option V, σ = [some (.ref p.d), some (.str (tx L)), some (.int (wd : Int)), some (.int (mn : Int)), some (.ref r), y5, y6] ∧ PenAt p H0 H' (n + 15 + 15 * i) ∧ ∃ ws, H' r = some (.lst (wv ws)) ∧ WsG L wd ws ∧ ws.length ≤ i + 1)
      ⟨none, none, rfl, P1.upd r0 r1, [u], upd_same, W1, Nat.le_refl _⟩ (fun i σ H' hi hw => ?_) (fun σ H' hw => ?_)
    · obtain ⟨y5, y6, rfl, P2, ws, hr2, W, lw⟩ := hw
      refine ⟨_, rfl, _, rfl, _, rfl, p, L2.upd H0 r (.lst (wv ws)), _, wd, tx L, rfl, P2.keep hr2 r1, by omega, by rw [tx_len]; omega, by rw [tx_len]; omega, hw1, hw8, fun H3 u2 P3 lu2 mu2 => ?_⟩
      have hr3 : H3 r = some (.lst (wv ws)) := P3.1 _ _ upd_same
      have P4 := P2.drop hr2 P3
      refine ⟨_, rfl, _, rfl, r, _, rfl, .inl (sq_of hr3), rfl, flat_wv ws, ?_⟩
      refine ⟨_, rfl, ?_⟩
      show if (!inV (V.str (tx u2)) (wv ws)) = true then _ else _
      rw [inV_wv]
      by_cases hin : u2 ∈ ws
      · rw [decide_eq_true hin]
        refine iteF ⟨_, _, rfl, P4.le (by omega), ws, hr3, W, by omega⟩
      · rw [decide_eq_false hin]
        refine iteT ⟨_, rfl, .inl ⟨rfl, _, sq_of hr3⟩, _, rfl, r, _, _, rfl, rfl, hr3, ?_, ?_⟩
        · rw [wv_len]
          exact sz_lt (by omega)
        · exact ⟨_, _, rfl, (P4.upd r0 r1).le (by omega), ws ++ [u2], by rw [upd_same, wv_snoc], W.snoc ⟨lu2, mu2⟩ hin (by omega), by rw [List.length_append]; show ws.length + 1 ≤ _; omega⟩
    · obtain ⟨y5, y6, rfl, P2, ws, hr2, W, lw⟩ := hw
      exact ⟨_, rfl, q _ _ ws (P2.le (by omega)) r0 hr2 W⟩
theorem ok_text {f : Addr} {fd : FuncData} (F : Fun K "_law_text" "_law_text" s_ltext f fd) (T : Tx mg) (c_ldraw : Kn P w K mg base "_law_draw" ["_law_pen_here", "_law_many"] 1 spDraw)
    (c_pickS : Kn P w K mg base "_law_pick" ["_law_pen_here", "_law_some"] 2 spPickS) (c_pickL : Kn P w K mg base "_law_pick" ["_law_pen_here", "_law_some"] 2 spPickL) :
    FnOk P w K mg base CX0 3 f fd ["_law_pen_here", "_law_letters_here", "_law_words_here", "_law_most"] spText := by
  refine F.ok sc_ltext (fun vs H Q E h => ?_) (fun cdv A outer s H vs Q E hr h => ?_)
  · obtain ⟨p, H0, n, m, L, a, ws, rfl, _⟩ := h
    rfl
  · obtain ⟨p, H0, n, m, L, a, ws, rfl, P0, hn, ha, W, hl0, hl1, q⟩ := h
    have w1 := W.lo
    have w3 := W.hi
    have w8 := W.m8
    have m1 := W.m1
    have nad : a ≠ p.d := fun z => by
      rw [z, P0.2.1] at ha
      cases ha
    refine ⟨_, (pss_cons (ps_par (i := 4) (j := 5) (by rfl) sc_ltext.nd rfl rfl (by decide) rfl rfl (pa_cons pe_str (pa_cons (pe_call c_ldraw.ok (hr.mono (by decide)) (by rfl) c_ldraw.g c_ldraw.kp c_ldraw.b .nil pass0 (pa_cons (pv 0) (pa_cons (pe_op op_add (pv 3) pe_int) pa_nil))) pa_nil)) (by rfl))
      (pss_cons (ps_while PassesOwn.never (pt_cmpR op_lt (pe_callB call_len_str (by rfl) T.len PySem.boot_len (pa_cons (pv 4) pa_nil)) (pv 5) (nomark _)) (pss_cons (ps_set (i := 6) sc_ltext.nd rfl (Or.inl rfl) (pe_call c_pickL.ok (hr.mono (by decide)) (by rfl) c_pickL.g c_pickL.kp c_pickL.b .nil pass0 (pa_cons (pv 0) (pa_cons (pv 2) pa_nil))))
      (pss_cons (ps_set (i := 7) sc_ltext.nd rfl (Or.inl rfl) (pe_op op_add_str (pe_slice sl_str (pv 6) po_none (po_some (pe_call c_ldraw.ok (hr.mono (by decide)) (by rfl) c_ldraw.g c_ldraw.kp c_ldraw.b .nil pass0 (pa_cons (pv 0) (pa_cons (pe_callB call_len_str (by rfl) T.len PySem.boot_len (pa_cons (pv 6) pa_nil)) pa_nil))))) (pe_call c_pickS.ok (hr.mono (by decide)) (by rfl) c_pickS.g c_pickS.kp c_pickS.b .nil pass0 (pa_cons (pv 0) (pa_cons (pv 1) pa_nil)))))
      (pss_one (ps_set (i := 4) sc_ltext.nd rfl (Or.inl rfl) (pe_op op_add_str (pv 4) (pe_call c_pickL.ok (hr.mono (by decide)) (by rfl) c_pickL.g c_pickL.kp c_pickL.b .nil pass0 (pa_cons (pv 0) (pa_cons (pe_lst (pa_cons (pv 6) (pa_cons (pv 7) (pa_cons (pe_call c_pickS.ok (hr.mono (by decide)) (by rfl) c_pickS.g c_pickS.kp c_pickS.b .nil pass0 (pa_cons (pv 0) (pa_cons (pv 1) pa_nil))) pa_nil)))) pa_nil)))))))))
      (pss_one (ps_ret (pe_slice sl_str (pv 4) po_none (po_some (pv 5))))))), ?_⟩
    refine ⟨_, rfl, _, rfl, _, _, rfl, rfl, p, H0, n, 24 + 1, rfl, P0, by omega, by omega, by omega, fun H1 r P1 r0 r1 => ⟨_, _, rfl, ?_⟩⟩
    obtain ⟨sz, rfl⟩ : ∃ k : Nat, r = (k : Int) := ⟨r.toNat, (Int.toNat_of_nonneg r0).symm⟩
    refine ⟨fun k σ H' => ∃ (X : List Nat) (y6 y7 : Option V), σ = [some (.ref p.d), some (.str (tx L)), some (.ref a), some (.int 24), some (.str (tx X)), some (.int (sz : Int)), y6, y7] ∧ PenAt p H0 H' (n + 1 + 5 * X.length) ∧ k = sz - X.length ∧ X.length ≤ 40 ∧ ∀ c ∈ X, c ∈ L,
      ⟨sz, [], none, none, ?_, P1, by simp, by simp, fun c hc => nomatch hc⟩, fun k σ H' hw => ?_⟩
    · show [some (V.ref p.d), some (V.str (tx L)), some (V.ref a), some (V.int 24), some (V.str (Str.ofString "")), some (V.int (sz : Int)), none, none] = _
      rw [show Str.ofString "" = tx [] by decide +kernel]
    obtain ⟨X, y6, y7, rfl, P2, hk, hX, mX⟩ := hw
    refine ⟨_, rfl, _, rfl, tx_le (by omega), _, rfl, _, _, rfl, rfl, _, rfl, ite2 (fun hb => ?_) (fun hb => ?_)⟩
    · have hlt : X.length < sz := by
        have := of_decide_eq_true hb
        rw [tx_len] at this
        omega
      refine ⟨fun σ2 H2 => ∃ k', k' < k ∧ ∃ (X : List Nat) (y6 y7 : Option V), σ2 = [some (.ref p.d), some (.str (tx L)), some (.ref a), some (.int 24), some (.str (tx X)), some (.int (sz : Int)), y6, y7] ∧ PenAt p H0 H2 (n + 1 + 5 * X.length) ∧ k' = sz - X.length ∧ X.length ≤ 40 ∧ ∀ c ∈ X, c ∈ L, fun σ2 H2 h => h, ?_⟩
      -- a word
      refine ⟨_, rfl, _, rfl, p, H0, a, _, wv ws, rfl, P2, by omega, P2.1 _ _ ha, by rw [wv_len]; omega, by rw [wv_len]; omega, fun H3 v P3 hv => ?_⟩
      obtain ⟨u, hu, rfl⟩ := List.mem_map.mp hv
      have gu := W.all u hu
      have lu := gu.len
      -- near
      refine ⟨_, rfl, _, rfl, _, rfl, _, rfl, tx_le (by omega), p, H0, _, _, rfl, P3, by omega, by rw [tx_len]; omega, by rw [tx_len]; omega, fun H4 r4 P4 r40 r41 => ?_⟩
      obtain ⟨at_, rfl⟩ : ∃ k : Nat, r4 = (k : Int) := ⟨r4.toNat, (Int.toNat_of_nonneg r40).symm⟩
      refine ⟨_, rfl, _, rfl, tx_le (by omega), _, rfl, _, rfl, p, H0, _, tx L, rfl, P4, by omega, by rw [tx_len]; omega, by rw [tx_len]; omega, fun H5 c P5 hc => ?_⟩
      rw [cut_to]
      refine ⟨_, _, rfl, rfl, ?_, ?_⟩
      · rw [tx_len, List.length_take]
        exact sz_le (show _ + 1 < 1000 by omega)
      have en : tx (u.take at_) ++ (⟨#[c]⟩ : Str) = tx (u.take at_ ++ [c]) := tx_app _ [c]
      rw [en]
      obtain ⟨nr, hnr⟩ : ∃ nr, u.take at_ ++ [c] = nr := ⟨_, rfl⟩
      have lnr : 1 ≤ nr.length ∧ nr.length ≤ 9 := by
        rw [← hnr, List.length_append, List.length_take]
        exact ⟨by show 1 ≤ _ + 1; omega, by show _ + 1 ≤ 9; omega⟩
      have mnr : ∀ x ∈ nr, x ∈ L := fun x hx => by
        rw [← hnr] at hx
        rcases List.mem_append.mp hx with h | h
        · exact gu.of x (List.mem_of_mem_take h)
        · rw [List.mem_singleton.mp h]
          exact hc
      rw [hnr]
      -- the piece
      refine ⟨_, rfl, _, rfl, _, rfl, _, rfl, _, rfl, _, rfl, p, H0, _, tx L, rfl, P5, by omega, by rw [tx_len]; omega, by rw [tx_len]; omega, fun H6 c2 P6 hc2 => ⟨by show 3 ≤ sizeLine; decide, fun l hl => ?_⟩⟩
      refine ⟨p, H0, l, _, _, rfl, P6.ex (Ex.new hl), by omega, upd_same, by show 0 < 3; decide, by show 3 < 1000; decide, fun H7 v P7 hv => ?_⟩
      obtain ⟨pc, rfl, lp1, lp9, mp⟩ : ∃ pc : List Nat, v = .str (tx pc) ∧ 1 ≤ pc.length ∧ pc.length ≤ 9 ∧ ∀ x ∈ pc, x ∈ L := by
        rcases List.mem_cons.mp hv with h | h
        · exact ⟨u, h, by omega, by omega, gu.of⟩
        rcases List.mem_cons.mp h with h | h
        · exact ⟨nr, h, lnr.1, lnr.2, mnr⟩
        · exact ⟨[c2], List.mem_singleton.mp h, by show 1 ≤ 1; omega, by show 1 ≤ 9; omega, fun x hx => by rw [List.mem_singleton.mp hx]; exact hc2⟩
      refine ⟨_, _, rfl, rfl, ?_, ?_⟩
      · rw [tx_len, tx_len]
        exact sz_le (by omega)
      rw [tx_app]
      refine ⟨sz - (X ++ pc).length, ?_, X ++ pc, some (V.str (tx u)), some (V.str (tx nr)), rfl, P7.le ?_, rfl, ?_, fun x hx => ?_⟩
      · rw [List.length_append]
        omega
      · rw [List.length_append]
        omega
      · rw [List.length_append]
        omega
      · rcases List.mem_append.mp hx with h | h
        · exact mX x h
        · exact mp x h
    · refine ⟨_, rfl, _, rfl, _, rfl, _, rfl, tx_le (by omega), ?_⟩
      rw [cut_to]
      refine q _ _ (P2.le (by omega)) ?_ fun c hc => mX c (List.mem_of_mem_take hc)
      rw [List.length_take]
      omega
def wantF (wish : Str) (S : List (Nat × Nat)) (m : Nat) : List (Nat × Nat) := if wish = Str.ofString "first" then S.take 1 else if wish = Str.ofString "apart" then apF m S else S
def spWantL : Sp := fun vs H Q _ => ∃ (L : List Nat) (a : Addr) (ws : List (List Nat)) (m : Nat) (t : List Nat) (wish : Str), vs = [.str (tx L), .ref a, .str (tx t), .str wish] ∧ LG L ∧ H a = some (.lst (wv ws)) ∧ WsG L m ws ∧ t.length < 400 ∧ (∀ c ∈ t, c ∈ L) ∧ wish ∈ wishes ∧
  ∀ r H', Ex H H' → H r = none → PairsAt H' r (wantF wish (standN ws t m (t.length + 1 - m)) m) → Q (.ref r) H'
def spWantT : Sp := fun vs H Q _ => ∃ (L : List Nat) (a : Addr) (ws : List (List Nat)) (m : Nat) (t : List Nat) (wish : Str), vs = [.str (tx L), .ref a, .str (tx t), .str wish] ∧ LG L ∧ H a = some (.tup (wv ws)) ∧ WsG L m ws ∧ t.length < 400 ∧ (∀ c ∈ t, c ∈ L) ∧ wish ∈ wishes ∧
  ∀ r H', Ex H H' → H r = none → PairsAt H' r (wantF wish (standN ws t m (t.length + 1 - m)) m) → Q (.ref r) H'
theorem prs_cut {H : Hp} {vs : List V} {ps : List (Nat × Nat)} (h : Prs H vs ps) : Prs H (cutV vs none (some 1)) (ps.take 1) := by
  have e : cutV vs none (some 1) = vs.take 1 := by
    unfold cutV
    rw [show (1 : Int) = ((1 : Nat) : Int) from rfl, HT.sIx_none, HT.sIx_nat, Nat.sub_zero, List.drop_zero, List.take_eq_take_iff]
    omega
  rw [e]
  exact h.take 1
theorem ok_wantL {f : Addr} {fd : FuncData} (F : FunD K "wanted" "wanted" (defArgs s_wanted) (defBody s_wanted) (defScope s_wanted) [.str "all"] [] f fd) (T : Tx mg)
    (c_checkL : Kn P w K mg base "check_words" ["letters", "words"] 4 spCheckL) (c_wrong_sign : Kn P w K mg base "wrong_sign" ["letters", "text"] 1 spWSign) (c_is_wish : Kn P w K mg base "is_wish" ["value"] 1 spWish)
    (c_standL : Kn P w K mg base "_standing" ["words", "text"] 1 spStandL) (c_apart : Kn P w K mg base "_apart" ["found", "size"] 1 spApart) : FnOk P w K mg base CX0 5 f fd ["letters", "words", "text", "wish"] spWantL := by
  refine F.ok sc_wanted (fun vs H Q E h => ?_) (fun cdv A outer s H vs Q E hr h => ?_)
  · obtain ⟨L, a, ws, m, t, z, rfl, _⟩ := h
    rfl
  · obtain ⟨L, a, ws, m, t, z, rfl, hL, ha, W, ht, mt, hz, q⟩ := h
    have h2 := hL.hi
    refine ⟨_, (pss_cons (ps_expr (pe_call c_checkL.ok (hr.mono (by decide)) (by rfl) c_checkL.g c_checkL.kp c_checkL.b .nil pass0 (pa_cons (pv 0) (pa_cons (pv 1) pa_nil))))
      (pss_cons (ps_set (i := 4) sc_wanted.nd rfl (Or.inl rfl) (pe_call c_wrong_sign.ok (hr.mono (by decide)) (by rfl) c_wrong_sign.g c_wrong_sign.kp c_wrong_sign.b .nil pass0 (pa_cons (pv 0) (pa_cons (pv 2) pa_nil))))
      (pss_cons (ps_if (pt_cmpR op_notN (pv 4) pe_non (nomark _)) (pss_one ps_never) pss_nil)
      (pss_cons (ps_if (pt_not (pt_val (pe_call c_is_wish.ok (hr.mono (by decide)) (by rfl) c_is_wish.g c_is_wish.kp c_is_wish.b .nil pass0 (pa_cons (pv 3) pa_nil)))) (pss_one ps_never) pss_nil)
      (pss_cons (ps_set (i := 5) sc_wanted.nd rfl (Or.inl rfl) (pe_call c_standL.ok (hr.mono (by decide)) (by rfl) c_standL.g c_standL.kp c_standL.b .nil pass0 (pa_cons (pv 1) (pa_cons (pv 2) pa_nil))))
      (pss_cons (ps_if (pt_cmpR op_eq (pv 3) pe_str (nomark _)) (pss_one (ps_ret (pe_slice sl_list (pv 5) po_none (po_some pe_int)))) pss_nil)
      (pss_cons (ps_if (pt_cmpR op_eq (pv 3) pe_str (nomark _)) (pss_one (ps_ret (pe_call c_apart.ok (hr.mono (by decide)) (by rfl) c_apart.g c_apart.kp c_apart.b .nil pass0 (pa_cons (pv 5) (pa_cons (pe_callB call_len_str (by rfl) T.len PySem.boot_len (pa_cons (pe_ix ix_list (pv 1) pe_int (fun _ _ => rfl)) pa_nil)) pa_nil))))) pss_nil)
      (pss_one (ps_ret (pv 5)))))))))), ?_⟩
    refine ⟨_, rfl, _, rfl, L, a, ws, m, rfl, hL, ha, W, fun H1 e1 => ?_⟩
    refine ⟨_, rfl, _, rfl, L, t, rfl, by omega, by omega, mt, fun H2 e2 => ?_⟩
    have e12 := e1.trans e2
    refine ⟨_, rfl, rfl, _, rfl, ?_⟩
    refine ⟨_, rfl, z, rfl, hz, fun H3 e3 => ⟨true, rfl, ?_⟩⟩
    have e13 := e12.trans e3
    refine ⟨_, rfl, _, rfl, L, a, ws, m, t, rfl, e13 _ _ ha, W, ht, fun r H4 e4 hr3 hp => ?_⟩
    have e14 := e13.trans e4
    have hr0 : H r = none := fresh_back e13 hr3
    obtain ⟨vs, hv, pp⟩ := hp
    have ls := standN_len ws t m (t.length + 1 - m)
    refine ⟨_, rfl, rfl, _, rfl, ite2 (fun hf => ?_) (fun hf => ?_)⟩
    · have hz2 := V.str.inj (of_decide_eq_true hf)
      refine ⟨_, rfl, _, rfl, r, vs, rfl, sq_of hv, fun r2 hr2 => ?_⟩
      refine q _ _ (e14.trans (Ex.new hr2)) (fresh_back e14 hr2) ?_
      unfold wantF
      rw [if_pos hz2]
      exact ⟨_, upd_same, (prs_cut pp).ex (Ex.new hr2)⟩
    have nf : ¬ z = Str.ofString "first" := fun e => hf (decide_eq_true (by rw [e]))
    refine ⟨_, rfl, rfl, _, rfl, ite2 (fun hf2 => ?_) (fun hf2 => ?_)⟩
    · have hz2 := V.str.inj (of_decide_eq_true hf2)
      obtain ⟨u0, h0, l0⟩ := wv_zero W
      have w8 := W.m8
      refine ⟨_, rfl, _, rfl, a, _, _, _, rfl, rfl, sq_of (e14 _ _ ha), h0, _, rfl, tx_le (by omega), ?_⟩
      rw [tx_len, l0]
      refine ⟨r, _, m, rfl, ⟨vs, hv, pp⟩, by omega, fun r2 H5 e5 hr5 hp5 => ?_⟩
      refine q _ _ (e14.trans e5) (fresh_back e14 hr5) ?_
      unfold wantF
      rw [if_neg nf, if_pos hz2]
      exact hp5
    have na : ¬ z = Str.ofString "apart" := fun e => hf2 (decide_eq_true (by rw [e]))
    refine ⟨_, rfl, q _ _ e14 hr0 ?_⟩
    unfold wantF
    rw [if_neg nf, if_neg na]
    exact ⟨vs, hv, pp⟩
theorem ok_wantT {f : Addr} {fd : FuncData} (F : FunD K "wanted" "wanted" (defArgs s_wanted) (defBody s_wanted) (defScope s_wanted) [.str "all"] [] f fd) (T : Tx mg)
    (c_checkT : Kn P w K mg base "check_words" ["letters", "words"] 4 spCheckT) (c_wrong_sign : Kn P w K mg base "wrong_sign" ["letters", "text"] 1 spWSign) (c_is_wish : Kn P w K mg base "is_wish" ["value"] 1 spWish)
    (c_standT : Kn P w K mg base "_standing" ["words", "text"] 1 spStandT) (c_apart : Kn P w K mg base "_apart" ["found", "size"] 1 spApart) : FnOk P w K mg base CX0 5 f fd ["letters", "words", "text", "wish"] spWantT := by
  refine F.ok sc_wanted (fun vs H Q E h => ?_) (fun cdv A outer s H vs Q E hr h => ?_)
  · obtain ⟨L, a, ws, m, t, z, rfl, _⟩ := h
    rfl
  · obtain ⟨L, a, ws, m, t, z, rfl, hL, ha, W, ht, mt, hz, q⟩ := h
    have h2 := hL.hi
    refine ⟨_, (pss_cons (ps_expr (pe_call c_checkT.ok (hr.mono (by decide)) (by rfl) c_checkT.g c_checkT.kp c_checkT.b .nil pass0 (pa_cons (pv 0) (pa_cons (pv 1) pa_nil))))
      (pss_cons (ps_set (i := 4) sc_wanted.nd rfl (Or.inl rfl) (pe_call c_wrong_sign.ok (hr.mono (by decide)) (by rfl) c_wrong_sign.g c_wrong_sign.kp c_wrong_sign.b .nil pass0 (pa_cons (pv 0) (pa_cons (pv 2) pa_nil))))
      (pss_cons (ps_if (pt_cmpR op_notN (pv 4) pe_non (nomark _)) (pss_one ps_never) pss_nil)
      (pss_cons (ps_if (pt_not (pt_val (pe_call c_is_wish.ok (hr.mono (by decide)) (by rfl) c_is_wish.g c_is_wish.kp c_is_wish.b .nil pass0 (pa_cons (pv 3) pa_nil)))) (pss_one ps_never) pss_nil)
      (pss_cons (ps_set (i := 5) sc_wanted.nd rfl (Or.inl rfl) (pe_call c_standT.ok (hr.mono (by decide)) (by rfl) c_standT.g c_standT.kp c_standT.b .nil pass0 (pa_cons (pv 1) (pa_cons (pv 2) pa_nil))))
      (pss_cons (ps_if (pt_cmpR op_eq (pv 3) pe_str (nomark _)) (pss_one (ps_ret (pe_slice sl_list (pv 5) po_none (po_some pe_int)))) pss_nil)
      (pss_cons (ps_if (pt_cmpR op_eq (pv 3) pe_str (nomark _)) (pss_one (ps_ret (pe_call c_apart.ok (hr.mono (by decide)) (by rfl) c_apart.g c_apart.kp c_apart.b .nil pass0 (pa_cons (pv 5) (pa_cons (pe_callB call_len_str (by rfl) T.len PySem.boot_len (pa_cons (pe_ix ix_tup (pv 1) pe_int (fun _ _ => rfl)) pa_nil)) pa_nil))))) pss_nil)
      (pss_one (ps_ret (pv 5)))))))))), ?_⟩
    refine ⟨_, rfl, _, rfl, L, a, ws, m, rfl, hL, ha, W, fun H1 e1 => ?_⟩
    refine ⟨_, rfl, _, rfl, L, t, rfl, by omega, by omega, mt, fun H2 e2 => ?_⟩
    have e12 := e1.trans e2
    refine ⟨_, rfl, rfl, _, rfl, ?_⟩
    refine ⟨_, rfl, z, rfl, hz, fun H3 e3 => ⟨true, rfl, ?_⟩⟩
    have e13 := e12.trans e3
    refine ⟨_, rfl, _, rfl, L, a, ws, m, t, rfl, e13 _ _ ha, W, ht, fun r H4 e4 hr3 hp => ?_⟩
    have e14 := e13.trans e4
    have hr0 : H r = none := fresh_back e13 hr3
    obtain ⟨vs, hv, pp⟩ := hp
    have ls := standN_len ws t m (t.length + 1 - m)
    refine ⟨_, rfl, rfl, _, rfl, ite2 (fun hf => ?_) (fun hf => ?_)⟩
    · have hz2 := V.str.inj (of_decide_eq_true hf)
      refine ⟨_, rfl, _, rfl, r, vs, rfl, sq_of hv, fun r2 hr2 => ?_⟩
      refine q _ _ (e14.trans (Ex.new hr2)) (fresh_back e14 hr2) ?_
      unfold wantF
      rw [if_pos hz2]
      exact ⟨_, upd_same, (prs_cut pp).ex (Ex.new hr2)⟩
    have nf : ¬ z = Str.ofString "first" := fun e => hf (decide_eq_true (by rw [e]))
    refine ⟨_, rfl, rfl, _, rfl, ite2 (fun hf2 => ?_) (fun hf2 => ?_)⟩
    · have hz2 := V.str.inj (of_decide_eq_true hf2)
      obtain ⟨u0, h0, l0⟩ := wv_zero W
      have w8 := W.m8
      refine ⟨_, rfl, _, rfl, a, _, _, _, rfl, rfl, st_of (e14 _ _ ha), h0, _, rfl, tx_le (by omega), ?_⟩
      rw [tx_len, l0]
      refine ⟨r, _, m, rfl, ⟨vs, hv, pp⟩, by omega, fun r2 H5 e5 hr5 hp5 => ?_⟩
      refine q _ _ (e14.trans e5) (fresh_back e14 hr5) ?_
      unfold wantF
      rw [if_neg nf, if_pos hz2]
      exact hp5
    have na : ¬ z = Str.ofString "apart" := fun e => hf2 (decide_eq_true (by rw [e]))
    refine ⟨_, rfl, q _ _ e14 hr0 ?_⟩
    unfold wantF
    rw [if_neg nf, if_neg na]
    exact ⟨vs, hv, pp⟩
end
end Law

namespace Law
open PySem PySem.Spec PyProof.Rows L2 Evl
/-! ### pairs as data -/
def pd (ps : List (Nat × Nat)) : PyData := .list (ps.map fun p => .tuple [.int (p.1 : Nat), .int (p.2 : Nat)])
theorem prs_dp {K : PySem.W.Frag} {H : Hp} : ∀ {vs : List V} {ps : List (Nat × Nat)}, Prs H vs ps → DpAll K H vs (ps.map fun p => .tuple [.int (p.1 : Nat), .int (p.2 : Nat)])
  | _, _, .nil => .nil
  | _, _, .cons h r => .cons (.tup (st_of h) (.cons (.int _) (.cons (.int _) .nil))) (prs_dp r)
theorem pairs_dp {K : PySem.W.Frag} {H : Hp} {a : Addr} {ps : List (Nat × Nat)} (h : PairsAt H a ps) : Dp K H (.ref a) (pd ps) := by
  obtain ⟨vs, h1, h2⟩ := h
  exact .lst (sq_of h1) (prs_dp h2)
theorem lay_pd : ∀ ps : List (Nat × Nat), PyData.canLayAll0 (ps.map fun p => PyData.tuple [.int (p.1 : Nat), .int (p.2 : Nat)]) = true
  | [] => rfl
  | p :: r => by
    show (PyData.canLay0 (.tuple [.int (p.1 : Nat), .int (p.2 : Nat)]) && PyData.canLayAll0 (r.map fun p => PyData.tuple [.int (p.1 : Nat), .int (p.2 : Nat)])) = true
    rw [lay_pd r]
    rfl
theorem depth_pd : ∀ ps : List (Nat × Nat), PyData.depthAll (ps.map fun p => PyData.tuple [.int (p.1 : Nat), .int (p.2 : Nat)]) ≤ 1
  | [] => Nat.zero_le _
  | p :: r => by
    show max (PyData.depth (.tuple [.int (p.1 : Nat), .int (p.2 : Nat)])) (PyData.depthAll (r.map fun p => PyData.tuple [.int (p.1 : Nat), .int (p.2 : Nat)])) ≤ 1
    exact Nat.max_le.mpr ⟨Nat.le_refl 1, depth_pd r⟩
theorem shaped_pd (ps : List (Nat × Nat)) : SeqAt.shaped (pd ps) = true := by
  unfold SeqAt.shaped
  have e1 : (pd ps).canLay0 = true := lay_pd ps
  have e2 : (pd ps).depth ≤ 64 := by
    have := depth_pd ps
    show PyData.depthAll _ + 1 ≤ 64
    omega
  rw [e1, decide_eq_true e2]
  rfl
theorem ne_same (ps : List (Nat × Nat)) : (!PyData.eqv (pd ps) (pd ps)) = false := by
  rw [SeqAt.eqv_refl (pd ps) (lay_pd ps)]
  rfl
theorem want_all (S : List (Nat × Nat)) (m : Nat) : wantF (Str.ofString "all") S m = S := by
  unfold wantF
  rw [if_neg (by decide +kernel), if_neg (by decide +kernel)]
theorem want_apart (S : List (Nat × Nat)) (m : Nat) : wantF (Str.ofString "apart") S m = apF m S := by
  unfold wantF
  rw [if_neg (by decide +kernel), if_pos rfl]
theorem want_first (S : List (Nat × Nat)) (m : Nat) : wantF (Str.ofString "first") S m = S.take 1 := by
  unfold wantF
  rw [if_pos rfl]
theorem w_all : Str.ofString "all" ∈ wishes := List.mem_cons_self
theorem w_apart : Str.ofString "apart" ∈ wishes := List.mem_cons_of_mem _ List.mem_cons_self
theorem w_first : Str.ofString "first" ∈ wishes := List.mem_cons_of_mem _ (List.mem_cons_of_mem _ List.mem_cons_self)
structure KnD (P : Program) (w : World) (K : PySem.W.Frag) (mg : Str → Option Value) (base : Heap) (x : Str) (ps : List Str) (k : Nat) (sp : Sp) (dvs : List V) where
  f : Addr
  fd : FuncData
  ok : FnOk P w K mg base CX0 k f fd ps sp
  g : mg x = some (.ref f)
  kp : PySem.W.keepIn K (.ref f) = true
  ds : List Value
  v : Vals dvs ds
  b : Binds K fd ps ds
def spLaw (K : PySem.W.Frag) : Sp := fun vs H Q _ => ∃ (a : Addr) (ns : List Int), vs = [.ref a] ∧ SqL K H a (ns.map V.int) ∧ ns.length ≤ 63 ∧ ∀ H', Q (.bl true) H'
theorem PairsAt.cut {H : Hp} {a : Addr} {vs : List V} {ps : List (Nat × Nat)} (h : H a = some (.lst (cutV vs none (some 1)))) (p : Prs H vs ps) : PairsAt H a (ps.take 1) := ⟨_, h, prs_cut p⟩
section
variable {P : Program} {w : World} {K : PySem.W.Frag} {mg : Str → Option Value} {base : Heap}
theorem ok_law {f : Addr} {fd : FuncData} (F : Fun K "law" "law" s_law f fd) (T : Tx mg)
    (c_lpen : Kn P w K mg base "_law_pen" ["_law_script"] 1 (spPen K))
    (c_ldraw : Kn P w K mg base "_law_draw" ["_law_pen_here", "_law_many"] 1 spDraw)
    (c_lletters : Kn P w K mg base "_law_letters" ["_law_pen_here"] 3 spLetters)
    (c_lwords : Kn P w K mg base "_law_words" ["_law_pen_here", "_law_letters_here", "_law_width", "_law_many"] 4 spWords)
    (c_ltext : Kn P w K mg base "_law_text" ["_law_pen_here", "_law_letters_here", "_law_words_here", "_law_most"] 3 spText)
    (c_lstanding : Kn P w K mg base "_law_standing" ["_law_words_here", "_law_text_here"] 1 spStandL)
    (c_lapart : Kn P w K mg base "_law_apart" ["_law_pairs", "_law_width"] 1 spApart)
    (c_checkL : Kn P w K mg base "check_words" ["letters", "words"] 4 spCheckL)
    (c_checkT : Kn P w K mg base "check_words" ["letters", "words"] 4 spCheckT)
    (c_wantL : Kn P w K mg base "wanted" ["letters", "words", "text", "wish"] 5 spWantL)
    (c_wantT : Kn P w K mg base "wanted" ["letters", "words", "text", "wish"] 5 spWantT)
    (c_wantL3 : KnD P w K mg base "wanted" ["letters", "words", "text", "wish"] 5 spWantL [.str "all"]) : FnOk P w K mg base CX0 6 f fd ["_law_script"] (spLaw K) := by
  refine F.ok sc_law (fun vs H Q E h => ?_) (fun cdv A outer s H vs Q E hr h => ?_)
  · obtain ⟨a, ns, rfl, _⟩ := h
    rfl
  · obtain ⟨a, ns, rfl, hS, hl, q⟩ := h
    refine ⟨_, (pss_cons (ps_set (i := 1) sc_law.nd rfl (Or.inl rfl) (pe_call c_lpen.ok (hr.mono (by decide)) (by rfl) c_lpen.g c_lpen.kp c_lpen.b .nil pass0 (pa_cons (pv 0) pa_nil)))
      (pss_cons (ps_for PassesOwn.never rfl (pi_range1 (by rfl) T.range (pa_cons (pe_op op_add pe_int (pe_callB (call_min2 rfl) (by rfl) T.min (by decide +kernel) (pa_cons pe_int (pa_cons (pe_callB call_len_seq (by rfl) T.len PySem.boot_len (pa_cons (pv 0) pa_nil)) pa_nil)))) pa_nil)) (pg_name (i := 2) sc_law.nd rfl (Or.inl rfl)) (pss_cons (ps_par (i := 3) (j := 4) (by rfl) sc_law.nd rfl rfl (by decide) rfl rfl (pa_cons (pe_call c_lletters.ok (hr.mono (by decide)) (by rfl) c_lletters.g c_lletters.kp c_lletters.b .nil pass0 (pa_cons (pv 1) pa_nil)) (pa_cons (pe_op op_add pe_int (pe_call c_ldraw.ok (hr.mono (by decide)) (by rfl) c_ldraw.g c_ldraw.kp c_ldraw.b .nil pass0 (pa_cons (pv 1) (pa_cons pe_int pa_nil)))) pa_nil)) (by rfl))
      (pss_cons (ps_set (i := 5) sc_law.nd rfl (Or.inl rfl) (pe_call c_lwords.ok (hr.mono (by decide)) (by rfl) c_lwords.g c_lwords.kp c_lwords.b .nil pass0 (pa_cons (pv 1) (pa_cons (pv 3) (pa_cons (pv 4) (pa_cons (pe_op op_add pe_int (pe_call c_ldraw.ok (hr.mono (by decide)) (by rfl) c_ldraw.g c_ldraw.kp c_ldraw.b .nil pass0 (pa_cons (pv 1) (pa_cons pe_int pa_nil)))) pa_nil))))))
      (pss_cons (ps_if (PW.pt (pw_or (pt_cmpR op_notN (pe_call c_checkL.ok (hr.mono (by decide)) (by rfl) c_checkL.g c_checkL.kp c_checkL.b .nil pass0 (pa_cons (pv 3) (pa_cons (pv 5) pa_nil))) pe_non (nomark _)) (pw_or1 (pt_cmpR op_notN (pe_call c_checkT.ok (hr.mono (by decide)) (by rfl) c_checkT.g c_checkT.kp c_checkT.b .nil pass0 (pa_cons (pv 3) (pa_cons (pe_callTy call_tuple_of (by rfl) T.tuple PyProof.Rows.boot_tuple (pa_cons (pv 5) pa_nil)) pa_nil))) pe_non (nomark _))))) (pss_one (ps_ret pe_bl)) pss_nil)
      (pss_one (ps_for PassesOwn.never rfl (pi_range1 (by rfl) T.range (pa_cons pe_int pa_nil)) (pg_name (i := 6) sc_law.nd rfl (Or.inl rfl)) (pss_cons (ps_set (i := 7) sc_law.nd rfl (Or.inl rfl) (pe_call c_ltext.ok (hr.mono (by decide)) (by rfl) c_ltext.g c_ltext.kp c_ltext.b .nil pass0 (pa_cons (pv 1) (pa_cons (pv 3) (pa_cons (pv 5) (pa_cons pe_int pa_nil))))))
      (pss_cons (ps_set (i := 8) sc_law.nd rfl (Or.inl rfl) (pe_call c_lstanding.ok (hr.mono (by decide)) (by rfl) c_lstanding.g c_lstanding.kp c_lstanding.b .nil pass0 (pa_cons (pv 5) (pa_cons (pv 7) pa_nil))))
      (pss_cons (ps_if (PW.pt (pw_or (pt_cmpR (op_neD hr.units) (pe_call c_wantL3.ok (hr.mono (by decide)) (by rfl) c_wantL3.g c_wantL3.kp c_wantL3.b c_wantL3.v pass0 (pa_cons (pv 3) (pa_cons (pv 5) (pa_cons (pv 7) pa_nil)))) (pv 8) (nomark _)) (pw_or1 (pt_cmpR (op_neD hr.units) (pe_call c_wantT.ok (hr.mono (by decide)) (by rfl) c_wantT.g c_wantT.kp c_wantT.b .nil pass0 (pa_cons (pv 3) (pa_cons (pe_callTy call_tuple_of (by rfl) T.tuple PyProof.Rows.boot_tuple (pa_cons (pv 5) pa_nil)) (pa_cons (pv 7) (pa_cons pe_str pa_nil))))) (pv 8) (nomark _))))) (pss_one (ps_ret pe_bl)) pss_nil)
      (pss_cons (ps_if (pt_cmpR (op_neD hr.units) (pe_call c_wantL.ok (hr.mono (by decide)) (by rfl) c_wantL.g c_wantL.kp c_wantL.b .nil pass0 (pa_cons (pv 3) (pa_cons (pv 5) (pa_cons (pv 7) (pa_cons pe_str pa_nil))))) (pe_call c_lapart.ok (hr.mono (by decide)) (by rfl) c_lapart.g c_lapart.kp c_lapart.b .nil pass0 (pa_cons (pv 8) (pa_cons (pv 4) pa_nil))) (nomark _)) (pss_one (ps_ret pe_bl)) pss_nil)
      (pss_cons (ps_set (i := 9) sc_law.nd rfl (Or.inl rfl) (pe_call c_wantL.ok (hr.mono (by decide)) (by rfl) c_wantL.g c_wantL.kp c_wantL.b .nil pass0 (pa_cons (pv 3) (pa_cons (pv 5) (pa_cons (pv 7) (pa_cons pe_str pa_nil))))))
      (pss_cons (ps_if (PW.pt (pw_or (pt_cmpR (op_neD hr.units) (pv 9) (pe_slice sl_list (pv 8) po_none (po_some pe_int)) (nomark _)) (pw_or1 (pt_not (pt_val (pe_callB call_isi (by rfl) T.isinstance PyProof.Rows.boot_isinstance (pa_cons (pv 9) (pa_cons (pe_bltn (v := .ty "list") (by rfl) T.list PyProof.Rows.boot_list rfl) pa_nil)))))))) (pss_one (ps_ret pe_bl)) pss_nil)
      (pss_cons (ps_expr (pe_bm PySem.F.plainAttrs_list PySem.F.slot_list_append PySem.F.type_list_append mt_append (pv 9) (pa_cons (pe_tup (pa_cons pe_int (pa_cons pe_int pa_nil))) pa_nil)))
      (pss_one (ps_if (pt_cmpR (op_neD hr.units) (pe_call c_wantL.ok (hr.mono (by decide)) (by rfl) c_wantL.g c_wantL.kp c_wantL.b .nil pass0 (pa_cons (pv 3) (pa_cons (pv 5) (pa_cons (pv 7) (pa_cons pe_str pa_nil))))) (pe_slice sl_list (pv 8) po_none (po_some pe_int)) (nomark _)) (pss_one (ps_ret pe_bl)) pss_nil)))))))))))))))
      (pss_one (ps_ret pe_bl)))), ?_⟩
    refine ⟨_, rfl, a, ns, rfl, hS, hl, fun p H0 H1 eH P0 => ?_⟩
    have hS1 : SqL K H1 a (ns.map V.int) := ex_l (eH.trans P0.1) hS
    have hm10 : 0 ≤ (4 : Int) + (if ((ns.map V.int).length : Int) < 6 then ((ns.map V.int).length : Int) else 6) ∧ (4 : Int) + (if ((ns.map V.int).length : Int) < 6 then ((ns.map V.int).length : Int) else 6) ≤ 10 := by
      by_cases q : ((ns.map V.int).length : Int) < 6
      · rw [if_pos q]; omega
      · rw [if_neg q]; omega
    refine ⟨_, rfl, a, _, rfl, .inl hS1, _, _, rfl, _, _, rfl, rfl, _, rfl, by omega, by omega, ?_⟩
    obtain ⟨m, hm⟩ : ∃ m : Nat, ((4 : Int) + (if ((ns.map V.int).length : Int) < 6 then ((ns.map V.int).length : Int) else 6)).toNat = m := ⟨_, rfl⟩
    rw [hm]
    have hm2 : m ≤ 10 := by omega
    refine for_range (lo := 0) (n := m) (fun i σ H' => ∃ y2 y3 y4 y5 y6 y7 y8 y9 : Option V, σ = [some (.ref a), some (.ref p.d), y2, y3, y4, y5, y6, y7, y8, y9] ∧ PenAt p H0 H' (1000 * i))
      ⟨none, none, none, none, none, none, none, none, rfl, P0⟩ (fun i σ H' hi hw => ?_) (fun σ H' hw => ?_)
    · obtain ⟨y2, y3, y4, y5, y6, y7, y8, y9, rfl, P1⟩ := hw
      refine ⟨_, rfl, p, H0, _, rfl, P1, by omega, fun H2 lf lq lm P2 b1 b2 b3 b4 => ?_⟩
      have hLG := lets_good b1 b2 b3 b4
      obtain ⟨L, hLe⟩ : ∃ L, lets lf lq lm = L := ⟨_, rfl⟩
      rw [hLe] at hLG ⊢
      have L2' := hLG.lo
      have L4 := hLG.hi
      refine ⟨_, rfl, p, H0, _, 8, rfl, P2, by omega, by decide, by decide, fun H3 r3 P3 r30 r31 => ⟨_, _, rfl, rfl, _, _, rfl, ?_⟩⟩
      obtain ⟨wd, hwd⟩ : ∃ wd : Nat, (1 : Int) + r3 = (wd : Int) := ⟨(1 + r3).toNat, (Int.toNat_of_nonneg (by omega)).symm⟩
      dsimp only
      rw [hwd]
      refine ⟨_, rfl, _, rfl, _, rfl, _, rfl, p, H0, _, 3, rfl, P3, by omega, by decide, by decide, fun H4 r4 P4 r40 r41 => ⟨_, _, rfl, rfl, ?_⟩⟩
      obtain ⟨mn, hmn⟩ : ∃ mn : Nat, (1 : Int) + r4 = (mn : Int) := ⟨(1 + r4).toNat, (Int.toNat_of_nonneg (by omega)).symm⟩
      dsimp only
      rw [hmn]
      refine ⟨p, H0, _, wd, mn, L, rfl, P4, by omega, by omega, by omega, by omega, by omega, by omega, by omega, fun H5 aw ws P5 aw0 haw W => ?_⟩
      have awd := P5.lst_ne haw
      have PW := P5.keep haw awd
      have hWa : (upd H0 aw (.lst (wv ws))) aw = some (.lst (wv ws)) := upd_same
      refine ⟨_, rfl, _, rfl, L, aw, ws, wd, rfl, hLG, haw, W, fun H6 e6 => ⟨rfl, _, rfl, ?_⟩⟩
      refine ⟨_, rfl, _, rfl, aw, _, rfl, .inl ⟨sq_of (e6 _ _ haw), fun tw htw => ?_⟩⟩
      refine ⟨L, tw, ws, wd, rfl, hLG, upd_same, W, fun H7 e7 => ⟨rfl, _, rfl, ?_⟩⟩
      have PW7 := PW.ex ((e6.trans (Ex.new htw)).trans e7)
      refine ⟨_, rfl, by decide, by decide, for_range (lo := 0) (n := 3) (fun j σ H' => ∃ y6 y7 y8 y9 : Option V, σ = [some (.ref a), some (.ref p.d), some (.int ((0 : Int) + (i : Int))), some (.str (tx L)), some (.int (wd : Int)), some (.ref aw), y6, y7, y8, y9] ∧ PenAt p (upd H0 aw (.lst (wv ws))) H' (1000 * i + 60 + 260 * j))
        ⟨_, _, _, _, rfl, PW7.le (by omega)⟩ (fun j σ H' hj hw => ?_) (fun σ H' hw => ?_)⟩
      · obtain ⟨z6, z7, z8, z9, rfl, P8⟩ := hw
        generalize (upd H0 aw (.lst (wv ws))) = HW at P8 hWa ⊢
        refine ⟨_, rfl, _, rfl, _, rfl, p, HW, _, wd, L, aw, ws, rfl, P8, by omega, hWa, W, by omega, by omega, fun H9 X P9 lX mX => ?_⟩
        obtain ⟨S, hSt⟩ : ∃ S, standN ws X wd (X.length + 1 - wd) = S := ⟨_, rfl⟩
        have hw9 : H9 aw = some (.lst (wv ws)) := P9.1 _ _ hWa
        refine ⟨_, rfl, _, rfl, L, aw, ws, wd, X, rfl, hw9, W, by omega, fun rd Ha ea hrd hpd => ?_⟩
        rw [hSt] at hpd
        -- all
        refine ⟨_, rfl, _, rfl, _, rfl, L, aw, ws, wd, X, Str.ofString "all", rfl, hLG, ea _ _ hw9, W, by omega, mX, w_all, fun r1 Hb eb hr1 hp1 => ?_⟩
        rw [hSt, want_all] at hp1
        refine ⟨_, rfl, pd S, pd S, pairs_dp hp1, pairs_dp (hpd.ex eb), shaped_pd S, shaped_pd S, _, rfl, ?_⟩
        rw [ne_same]
        have e9b := ea.trans eb
        refine ⟨_, rfl, _, rfl, aw, _, rfl, .inl ⟨sq_of (e9b _ _ hw9), fun t2 ht2 => ?_⟩⟩
        refine ⟨_, rfl, L, t2, ws, wd, X, Str.ofString "all", rfl, hLG, upd_same, W, by omega, mX, w_all, fun r2 Hc ec hr2 hp2 => ?_⟩
        rw [hSt, want_all] at hp2
        have ebc := (Ex.new (o := .tup (wv ws)) ht2).trans ec
        refine ⟨_, rfl, pd S, pd S, pairs_dp hp2, pairs_dp ((hpd.ex eb).ex ebc), shaped_pd S, shaped_pd S, _, rfl, ?_⟩
        rw [ne_same]
        have e9c := e9b.trans ebc
        have hpdc := (hpd.ex eb).ex ebc
        -- apart
        refine ⟨_, rfl, _, rfl, _, rfl, L, aw, ws, wd, X, Str.ofString "apart", rfl, hLG, e9c _ _ hw9, W, by omega, mX, w_apart, fun r3' Hd ed hr3 hp3 => ?_⟩
        rw [hSt, want_apart] at hp3
        have lS : S.length < 1000 := by
          have := standN_len ws X wd (X.length + 1 - wd)
          rw [hSt] at this
          omega
        refine ⟨_, rfl, _, rfl, rd, S, wd, rfl, hpdc.ex ed, lS, fun r4' He ee hr4 hp4 => ?_⟩
        refine ⟨pd (apF wd S), pd (apF wd S), pairs_dp (hp3.ex ee), pairs_dp hp4, shaped_pd _, shaped_pd _, _, rfl, ?_⟩
        rw [ne_same]
        have e9e := (e9c.trans ed).trans ee
        have hpde := (hpdc.ex ed).ex ee
        -- first
        refine ⟨_, rfl, _, rfl, _, rfl, L, aw, ws, wd, X, Str.ofString "first", rfl, hLG, e9e _ _ hw9, W, by omega, mX, w_first, fun r5 Hf ef hr5 hp5 => ?_⟩
        rw [hSt, want_first] at hp5
        have e9f := e9e.trans ef
        obtain ⟨vd, hvd, pvd⟩ := hpde.ex ef
        refine ⟨_, rfl, _, rfl, _, rfl, rd, vd, rfl, sq_of hvd, fun r6 hr6 => ?_⟩
        refine ⟨pd (S.take 1), pd (S.take 1), pairs_dp (hp5.ex (Ex.new hr6)), pairs_dp (PairsAt.cut upd_same (pvd.ex (Ex.new hr6))), shaped_pd _, shaped_pd _, _, rfl, ?_⟩
        rw [ne_same]
        obtain ⟨v5, hv5, pv5⟩ := hp5
        refine ⟨_, rfl, _, _, _, _, true, rfl, .ty _, .base (.lst (Ex.new hr6 _ _ hv5)), kit_ty (by decide +kernel), true, rfl, _, rfl, ?_⟩
        have hv5g := Ex.new (o := .lst (cutV vd none (some 1))) hr6 _ _ hv5
        refine ⟨.inl ⟨rfl, _, sq_of hv5g⟩, by show 2 ≤ sizeLine; decide, fun t5 ht5 => ?_⟩
        have l5 := pv5.len
        have nrt : r5 ≠ t5 := fun z => by
          rw [z, ht5] at hv5g
          cases hv5g
        refine ⟨r5, v5, _, rfl, rfl, Ex.new ht5 _ _ hv5g, ?_, ?_⟩
        · rw [List.length_take] at l5
          exact sz_lt (by omega)
        have eIn := (e9f.trans (Ex.new (o := .lst (cutV vd none (some 1))) hr6)).trans (Ex.new (o := .tup [V.int 7, V.int 7]) ht5)
        have P9e := P9.ex e9e
        have PI := (P9.ex eIn).upd (o := .lst (v5 ++ [V.ref t5])) (fresh0 P9e hr5) (fresh_ne P9e hr5)
        have nrd : rd ≠ r5 := by
          obtain ⟨v0, hv0, _⟩ := hpde
          exact ne_of_none hv0 hr5
        have hvdI := Ex.new (o := .tup [V.int 7, V.int 7]) ht5 _ _ (Ex.new (o := .lst (cutV vd none (some 1))) hr6 _ _ hvd)
        have pvdI := (pvd.ex (Ex.new (o := .lst (cutV vd none (some 1))) hr6)).ex (Ex.new (o := .tup [V.int 7, V.int 7]) ht5)
        have hv5i := Ex.new (o := .tup [V.int 7, V.int 7]) ht5 _ _ hv5g
        have pvdJ := pvdI.upd (a := r5) (o := .lst (v5 ++ [V.ref t5])) fun xs hh => by
          rw [hv5i] at hh
          cases hh
        have hvdJ : (L2.upd (L2.upd (L2.upd Hf r6 (.lst (cutV vd none (some 1)))) t5 (.tup [V.int 7, V.int 7])) r5 (.lst (v5 ++ [V.ref t5]))) rd = some (.lst vd) := by
          rw [upd_ne nrd]
          exact hvdI
        generalize (L2.upd (L2.upd (L2.upd Hf r6 (.lst (cutV vd none (some 1)))) t5 (.tup [V.int 7, V.int 7])) r5 (.lst (v5 ++ [V.ref t5]))) = HI at PI pvdJ hvdJ ⊢
        refine ⟨_, rfl, _, rfl, _, rfl, L, aw, ws, wd, X, Str.ofString "first", rfl, hLG, PI.1 _ _ hWa, W, by omega, mX, w_first, fun r7 Hj ej hr7 hp7 => ?_⟩
        rw [hSt, want_first] at hp7
        refine ⟨_, rfl, _, rfl, rd, vd, rfl, sq_of (ej _ _ hvdJ), fun r8 hr8 => ?_⟩
        refine ⟨pd (S.take 1), pd (S.take 1), pairs_dp (hp7.ex (Ex.new hr8)), pairs_dp (PairsAt.cut upd_same ((pvdJ.ex ej).ex (Ex.new hr8))), shaped_pd _, shaped_pd _, _, rfl, ?_⟩
        rw [ne_same]
        exact ⟨_, _, _, _, rfl, (PI.ex (ej.trans (Ex.new hr8))).le (by omega)⟩
      · obtain ⟨z6, z7, z8, z9, rfl, P8⟩ := hw
        exact ⟨_, _, _, _, _, _, _, _, rfl, (P5.drop haw P8).le (by omega)⟩
    · obtain ⟨y2, y3, y4, y5, y6, y7, y8, y9, rfl, P1⟩ := hw
      exact q _
end
end Law

namespace Law
open PySem PySem.Spec PyProof.Rows L2 Evl
theorem all_mk {l : PySem.W.OpenLaw} {w : World} {K : PySem.W.Frag} {h : Heap} {mg : Str → Option Value} {fa f1 f2 f3 f4 f5 f6 f7 f8 f9 f10 f11 f12 f13 f14 f15 f16 f17 f18 f19 f20 : Addr} (X : K.In h) (G : h.Ns mainGlobals mg) (hfa : mg "law" = some (.ref fa))
    {od1 an1 od2 an2 od3 an3 od4 an4 od5 an5 od6 an6 od7 an7 od8 an8 od9 an9 od10 an10 od11 an11 od12 an12 od13 an13 od14 an14 od15 an15 od16 an16 od17 an17 od18 an18 od19 an19 od20 an20 : Option Addr} {sl1 sl2 sl3 sl4 sl5 sl6 sl7 sl8 sl9 sl10 sl11 sl12 sl13 sl14 sl15 sl16 sl17 sl18 sl19 sl20 : Array (Option Value)} {oc1 kV1 dc1 pm1 cd1 ct1 oc2 kV2 dc2 pm2 cd2 ct2 oc3 kV3 dc3 pm3 cd3 ct3 oc4 kV4 dc4 pm4 cd4 ct4 oc5 kV5 dc5 pm5 cd5 ct5 oc6 kV6 dc6 pm6 cd6 ct6 oc7 kV7 dc7 pm7 cd7 ct7 oc8 kV8 dc8 pm8 cd8 ct8 oc9 kV9 dc9 pm9 cd9 ct9 oc10 kV10 dc10 pm10 cd10 ct10 oc11 kV11 dc11 pm11 cd11 ct11 oc12 kV12 dc12 pm12 cd12 ct12 oc13 kV13 dc13 pm13 cd13 ct13 oc14 kV14 dc14 pm14 cd14 ct14 oc15 kV15 dc15 pm15 cd15 ct15 oc16 kV16 dc16 pm16 cd16 ct16 oc17 kV17 dc17 pm17 cd17 ct17 oc18 kV18 dc18 pm18 cd18 ct18 oc19 kV19 dc19 pm19 cd19 ct19 oc20 kV20 dc20 pm20 cd20 ct20 : Value}
    (a1 : PySem.W.nsIn K mainGlobals "is_list" = some (some (.ref f1))) (l1 : K.lookup f1 = some ⟨oc1, od1, .func (PySem.W.fnOf "is_list" "is_list" (defArgs s_is_list) (defBody s_is_list) (defScope s_is_list) .none kV1 dc1 pm1 an1 cd1 ct1), sl1⟩) (c1 : PySem.W.codeIn K cd1 "is_list" = true) (k1 : PySem.W.keepIn K (.ref f1) = true)
    (a2 : PySem.W.nsIn K mainGlobals "are_letters" = some (some (.ref f2))) (l2 : K.lookup f2 = some ⟨oc2, od2, .func (PySem.W.fnOf "are_letters" "are_letters" (defArgs s_are_letters) (defBody s_are_letters) (defScope s_are_letters) .none kV2 dc2 pm2 an2 cd2 ct2), sl2⟩) (c2 : PySem.W.codeIn K cd2 "are_letters" = true) (k2 : PySem.W.keepIn K (.ref f2) = true)
    (a3 : PySem.W.nsIn K mainGlobals "wrong_sign" = some (some (.ref f3))) (l3 : K.lookup f3 = some ⟨oc3, od3, .func (PySem.W.fnOf "wrong_sign" "wrong_sign" (defArgs s_wrong_sign) (defBody s_wrong_sign) (defScope s_wrong_sign) .none kV3 dc3 pm3 an3 cd3 ct3), sl3⟩) (c3 : PySem.W.codeIn K cd3 "wrong_sign" = true) (k3 : PySem.W.keepIn K (.ref f3) = true)
    (a4 : PySem.W.nsIn K mainGlobals "wrong_word" = some (some (.ref f4))) (l4 : K.lookup f4 = some ⟨oc4, od4, .func (PySem.W.fnOf "wrong_word" "wrong_word" (defArgs s_wrong_word) (defBody s_wrong_word) (defScope s_wrong_word) .none kV4 dc4 pm4 an4 cd4 ct4), sl4⟩) (c4 : PySem.W.codeIn K cd4 "wrong_word" = true) (k4 : PySem.W.keepIn K (.ref f4) = true)
    (a5 : PySem.W.nsIn K mainGlobals "is_wish" = some (some (.ref f5))) (l5 : K.lookup f5 = some ⟨oc5, od5, .func (PySem.W.fnOf "is_wish" "is_wish" (defArgs s_is_wish) (defBody s_is_wish) (defScope s_is_wish) .none kV5 dc5 pm5 an5 cd5 ct5), sl5⟩) (c5 : PySem.W.codeIn K cd5 "is_wish" = true) (k5 : PySem.W.keepIn K (.ref f5) = true)
    (a6 : PySem.W.nsIn K mainGlobals "_is_word" = some (some (.ref f6))) (l6 : K.lookup f6 = some ⟨oc6, od6, .func (PySem.W.fnOf "_is_word" "_is_word" (defArgs s_is_word) (defBody s_is_word) (defScope s_is_word) .none kV6 dc6 pm6 an6 cd6 ct6), sl6⟩) (c6 : PySem.W.codeIn K cd6 "_is_word" = true) (k6 : PySem.W.keepIn K (.ref f6) = true)
    (a7 : PySem.W.nsIn K mainGlobals "check_words" = some (some (.ref f7))) (l7 : K.lookup f7 = some ⟨oc7, od7, .func (PySem.W.fnOf "check_words" "check_words" (defArgs s_check_words) (defBody s_check_words) (defScope s_check_words) .none kV7 dc7 pm7 an7 cd7 ct7), sl7⟩) (c7 : PySem.W.codeIn K cd7 "check_words" = true) (k7 : PySem.W.keepIn K (.ref f7) = true)
    {dt8 : Addr} {dc08 : Value} {dd8 : Option Addr} {dn8 : Nat} {ds8 : Array (Option Value)} {tk8_0 : Tok}
    (d8 : K.lookup dt8 = some ⟨dc08, dd8, .seq ([.str "all" tk8_0] : List Value).toArray dn8, ds8⟩)
    (a8 : PySem.W.nsIn K mainGlobals "wanted" = some (some (.ref f8))) (l8 : K.lookup f8 = some ⟨oc8, od8, .func (PySem.W.fnOf "wanted" "wanted" (defArgs s_wanted) (defBody s_wanted) (defScope s_wanted) (.ref dt8) kV8 dc8 pm8 an8 cd8 ct8), sl8⟩) (c8 : PySem.W.codeIn K cd8 "wanted" = true) (k8 : PySem.W.keepIn K (.ref f8) = true)
    (a9 : PySem.W.nsIn K mainGlobals "_standing" = some (some (.ref f9))) (l9 : K.lookup f9 = some ⟨oc9, od9, .func (PySem.W.fnOf "_standing" "_standing" (defArgs s_standing) (defBody s_standing) (defScope s_standing) .none kV9 dc9 pm9 an9 cd9 ct9), sl9⟩) (c9 : PySem.W.codeIn K cd9 "_standing" = true) (k9 : PySem.W.keepIn K (.ref f9) = true)
    (a10 : PySem.W.nsIn K mainGlobals "_apart" = some (some (.ref f10))) (l10 : K.lookup f10 = some ⟨oc10, od10, .func (PySem.W.fnOf "_apart" "_apart" (defArgs s_apart) (defBody s_apart) (defScope s_apart) .none kV10 dc10 pm10 an10 cd10 ct10), sl10⟩) (c10 : PySem.W.codeIn K cd10 "_apart" = true) (k10 : PySem.W.keepIn K (.ref f10) = true)
    (a11 : PySem.W.nsIn K mainGlobals "_law_pen" = some (some (.ref f11))) (l11 : K.lookup f11 = some ⟨oc11, od11, .func (PySem.W.fnOf "_law_pen" "_law_pen" (defArgs s_lpen) (defBody s_lpen) (defScope s_lpen) .none kV11 dc11 pm11 an11 cd11 ct11), sl11⟩) (c11 : PySem.W.codeIn K cd11 "_law_pen" = true) (k11 : PySem.W.keepIn K (.ref f11) = true)
    (a12 : PySem.W.nsIn K mainGlobals "_law_draw" = some (some (.ref f12))) (l12 : K.lookup f12 = some ⟨oc12, od12, .func (PySem.W.fnOf "_law_draw" "_law_draw" (defArgs s_ldraw) (defBody s_ldraw) (defScope s_ldraw) .none kV12 dc12 pm12 an12 cd12 ct12), sl12⟩) (c12 : PySem.W.codeIn K cd12 "_law_draw" = true) (k12 : PySem.W.keepIn K (.ref f12) = true)
    (a13 : PySem.W.nsIn K mainGlobals "_law_pick" = some (some (.ref f13))) (l13 : K.lookup f13 = some ⟨oc13, od13, .func (PySem.W.fnOf "_law_pick" "_law_pick" (defArgs s_lpick) (defBody s_lpick) (defScope s_lpick) .none kV13 dc13 pm13 an13 cd13 ct13), sl13⟩) (c13 : PySem.W.codeIn K cd13 "_law_pick" = true) (k13 : PySem.W.keepIn K (.ref f13) = true)
    (a14 : PySem.W.nsIn K mainGlobals "_law_letters" = some (some (.ref f14))) (l14 : K.lookup f14 = some ⟨oc14, od14, .func (PySem.W.fnOf "_law_letters" "_law_letters" (defArgs s_lletters) (defBody s_lletters) (defScope s_lletters) .none kV14 dc14 pm14 an14 cd14 ct14), sl14⟩) (c14 : PySem.W.codeIn K cd14 "_law_letters" = true) (k14 : PySem.W.keepIn K (.ref f14) = true)
    (a15 : PySem.W.nsIn K mainGlobals "_law_word" = some (some (.ref f15))) (l15 : K.lookup f15 = some ⟨oc15, od15, .func (PySem.W.fnOf "_law_word" "_law_word" (defArgs s_lword) (defBody s_lword) (defScope s_lword) .none kV15 dc15 pm15 an15 cd15 ct15), sl15⟩) (c15 : PySem.W.codeIn K cd15 "_law_word" = true) (k15 : PySem.W.keepIn K (.ref f15) = true)
    (a16 : PySem.W.nsIn K mainGlobals "_law_words" = some (some (.ref f16))) (l16 : K.lookup f16 = some ⟨oc16, od16, .func (PySem.W.fnOf "_law_words" "_law_words" (defArgs s_lwords) (defBody s_lwords) (defScope s_lwords) .none kV16 dc16 pm16 an16 cd16 ct16), sl16⟩) (c16 : PySem.W.codeIn K cd16 "_law_words" = true) (k16 : PySem.W.keepIn K (.ref f16) = true)
    (a17 : PySem.W.nsIn K mainGlobals "_law_text" = some (some (.ref f17))) (l17 : K.lookup f17 = some ⟨oc17, od17, .func (PySem.W.fnOf "_law_text" "_law_text" (defArgs s_ltext) (defBody s_ltext) (defScope s_ltext) .none kV17 dc17 pm17 an17 cd17 ct17), sl17⟩) (c17 : PySem.W.codeIn K cd17 "_law_text" = true) (k17 : PySem.W.keepIn K (.ref f17) = true)
    (a18 : PySem.W.nsIn K mainGlobals "_law_standing" = some (some (.ref f18))) (l18 : K.lookup f18 = some ⟨oc18, od18, .func (PySem.W.fnOf "_law_standing" "_law_standing" (defArgs s_lstanding) (defBody s_lstanding) (defScope s_lstanding) .none kV18 dc18 pm18 an18 cd18 ct18), sl18⟩) (c18 : PySem.W.codeIn K cd18 "_law_standing" = true) (k18 : PySem.W.keepIn K (.ref f18) = true)
    (a19 : PySem.W.nsIn K mainGlobals "_law_apart" = some (some (.ref f19))) (l19 : K.lookup f19 = some ⟨oc19, od19, .func (PySem.W.fnOf "_law_apart" "_law_apart" (defArgs s_lapart) (defBody s_lapart) (defScope s_lapart) .none kV19 dc19 pm19 an19 cd19 ct19), sl19⟩) (c19 : PySem.W.codeIn K cd19 "_law_apart" = true) (k19 : PySem.W.keepIn K (.ref f19) = true)
    (a20 : PySem.W.nsIn K mainGlobals "law" = some (some (.ref f20))) (l20 : K.lookup f20 = some ⟨oc20, od20, .func (PySem.W.fnOf "law" "law" (defArgs s_law) (defBody s_law) (defScope s_law) .none kV20 dc20 pm20 an20 cd20 ct20), sl20⟩) (c20 : PySem.W.codeIn K cd20 "law" = true) (k20 : PySem.W.keepIn K (.ref f20) = true)
    (z0 : PySem.W.nsIn K mainGlobals "len" = some none) (z1 : PySem.W.nsIn K mainGlobals "int" = some none) (z2 : PySem.W.nsIn K mainGlobals "abs" = some none) (z3 : PySem.W.nsIn K mainGlobals "min" = some none) (z4 : PySem.W.nsIn K mainGlobals "list" = some none) (z5 : PySem.W.nsIn K mainGlobals "all" = some none) (z6 : PySem.W.nsIn K mainGlobals "range" = some none) (z7 : PySem.W.nsIn K mainGlobals "isinstance" = some none) (z8 : PySem.W.nsIn K mainGlobals "str" = some none) (z9 : PySem.W.nsIn K mainGlobals "set" = some none) (z10 : PySem.W.nsIn K mainGlobals "tuple" = some none) (z11 : PySem.W.nsIn K mainGlobals "enumerate" = some none) :
    ∃ fd : FuncData, (∀ (s : Shared) (v : Value), BindsTo s fd ⟨[v], []⟩ [("_law_script", v)]) ∧ ∀ base : Heap, K.In base → base.Ns mainGlobals mg → FnOk l.prog w K mg base CX0 6 fa fd ["_law_script"] (spLaw K) := by
  have e := hfa.symm.trans (PySem.W.mg_of X G a20)
  cases e
  have F1 := fun_mk (st := s_is_list) l1 c1 k1
  have b1 := F1.binds (ps := ["value"]) fun _ _ _ _ _ _ us hl => match us, hl with | [_], _ => rfl
  have F2 := fun_mk (st := s_are_letters) l2 c2 k2
  have b2 := F2.binds (ps := ["value"]) fun _ _ _ _ _ _ us hl => match us, hl with | [_], _ => rfl
  have F3 := fun_mk (st := s_wrong_sign) l3 c3 k3
  have b3 := F3.binds (ps := ["letters", "text"]) fun _ _ _ _ _ _ us hl => match us, hl with | [_, _], _ => rfl
  have F4 := fun_mk (st := s_wrong_word) l4 c4 k4
  have b4 := F4.binds (ps := ["letters", "words"]) fun _ _ _ _ _ _ us hl => match us, hl with | [_, _], _ => rfl
  have F5 := fun_mk (st := s_is_wish) l5 c5 k5
  have b5 := F5.binds (ps := ["value"]) fun _ _ _ _ _ _ us hl => match us, hl with | [_], _ => rfl
  have F6 := fun_mk (st := s_is_word) l6 c6 k6
  have b6 := F6.binds (ps := ["letters", "value"]) fun _ _ _ _ _ _ us hl => match us, hl with | [_, _], _ => rfl
  have F7 := fun_mk (st := s_check_words) l7 c7 k7
  have b7 := F7.binds (ps := ["letters", "words"]) fun _ _ _ _ _ _ us hl => match us, hl with | [_, _], _ => rfl
  have F8 : FunD K "wanted" "wanted" (defArgs s_wanted) (defBody s_wanted) (defScope s_wanted) [.str "all"] [] f8 (PySem.W.fnOf "wanted" "wanted" (defArgs s_wanted) (defBody s_wanted) (defScope s_wanted) (.ref dt8) kV8 dc8 pm8 an8 cd8 ct8) :=
    ⟨⟨_, _, _, _, _, _, _, _, _, _, rfl, l8, c8, .inr ⟨by simp, dt8, _, _, _, rfl, d8, rfl, .cons ⟨_, rfl⟩ (.nil)⟩, .inl rfl⟩, k8⟩
  obtain ⟨e8_0, v8_0, b8_0⟩ := F8.binds1 (ps := ["letters", "words", "text", "wish"]) 3 0 (by simp) rfl fun _ _ _ _ _ _ _ us its hu hi => match us, its, hu, hi with | [_, _, _], [_], _, _ => ⟨_, rfl, rfl⟩
  obtain ⟨e8_1, v8_1, b8_1⟩ := F8.binds1 (ps := ["letters", "words", "text", "wish"]) 4 1 (by simp) rfl fun _ _ _ _ _ _ _ us its hu hi => match us, its, hu, hi with | [_, _, _, _], [_], _, _ => ⟨_, rfl, rfl⟩
  cases v8_1
  have b8 := b8_1
  have F9 := fun_mk (st := s_standing) l9 c9 k9
  have b9 := F9.binds (ps := ["words", "text"]) fun _ _ _ _ _ _ us hl => match us, hl with | [_, _], _ => rfl
  have F10 := fun_mk (st := s_apart) l10 c10 k10
  have b10 := F10.binds (ps := ["found", "size"]) fun _ _ _ _ _ _ us hl => match us, hl with | [_, _], _ => rfl
  have F11 := fun_mk (st := s_lpen) l11 c11 k11
  have b11 := F11.binds (ps := ["_law_script"]) fun _ _ _ _ _ _ us hl => match us, hl with | [_], _ => rfl
  have F12 := fun_mk (st := s_ldraw) l12 c12 k12
  have b12 := F12.binds (ps := ["_law_pen_here", "_law_many"]) fun _ _ _ _ _ _ us hl => match us, hl with | [_, _], _ => rfl
  have F13 := fun_mk (st := s_lpick) l13 c13 k13
  have b13 := F13.binds (ps := ["_law_pen_here", "_law_some"]) fun _ _ _ _ _ _ us hl => match us, hl with | [_, _], _ => rfl
  have F14 := fun_mk (st := s_lletters) l14 c14 k14
  have b14 := F14.binds (ps := ["_law_pen_here"]) fun _ _ _ _ _ _ us hl => match us, hl with | [_], _ => rfl
  have F15 := fun_mk (st := s_lword) l15 c15 k15
  have b15 := F15.binds (ps := ["_law_pen_here", "_law_letters_here", "_law_width"]) fun _ _ _ _ _ _ us hl => match us, hl with | [_, _, _], _ => rfl
  have F16 := fun_mk (st := s_lwords) l16 c16 k16
  have b16 := F16.binds (ps := ["_law_pen_here", "_law_letters_here", "_law_width", "_law_many"]) fun _ _ _ _ _ _ us hl => match us, hl with | [_, _, _, _], _ => rfl
  have F17 := fun_mk (st := s_ltext) l17 c17 k17
  have b17 := F17.binds (ps := ["_law_pen_here", "_law_letters_here", "_law_words_here", "_law_most"]) fun _ _ _ _ _ _ us hl => match us, hl with | [_, _, _, _], _ => rfl
  have F18 := fun_mk (st := s_lstanding) l18 c18 k18
  have b18 := F18.binds (ps := ["_law_words_here", "_law_text_here"]) fun _ _ _ _ _ _ us hl => match us, hl with | [_, _], _ => rfl
  have F19 := fun_mk (st := s_lapart) l19 c19 k19
  have b19 := F19.binds (ps := ["_law_pairs", "_law_width"]) fun _ _ _ _ _ _ us hl => match us, hl with | [_, _], _ => rfl
  have F20 := fun_mk (st := s_law) l20 c20 k20
  have T : Tx mg := { len := PySem.W.mg_none_of X G z0, int := PySem.W.mg_none_of X G z1, abs := PySem.W.mg_none_of X G z2, min := PySem.W.mg_none_of X G z3, list := PySem.W.mg_none_of X G z4, all := PySem.W.mg_none_of X G z5, range := PySem.W.mg_none_of X G z6, isinstance := PySem.W.mg_none_of X G z7, str := PySem.W.mg_none_of X G z8, set := PySem.W.mg_none_of X G z9, tuple := PySem.W.mg_none_of X G z10, enumerate := PySem.W.mg_none_of X G z11 }
  refine ⟨PySem.W.fnOf "law" "law" (defArgs s_law) (defBody s_law) (defScope s_law) .none kV20 dc20 pm20 an20 cd20 ct20, fun s v => .of_eq rfl, fun base _ _ => ?_⟩
  have c_lpen : Kn l.prog w K mg base "_law_pen" ["_law_script"] 1 (spPen K) := ⟨f11, _, ok_pen F11 T , PySem.W.mg_of X G a11, F11.kp, b11⟩
  have c_ldraw : Kn l.prog w K mg base "_law_draw" ["_law_pen_here", "_law_many"] 1 spDraw := ⟨f12, _, ok_draw F12 T , PySem.W.mg_of X G a12, F12.kp, b12⟩
  have c_pickS : Kn l.prog w K mg base "_law_pick" ["_law_pen_here", "_law_some"] 2 spPickS := ⟨f13, _, ok_pickS F13 T c_ldraw, PySem.W.mg_of X G a13, F13.kp, b13⟩
  have c_pickL : Kn l.prog w K mg base "_law_pick" ["_law_pen_here", "_law_some"] 2 spPickL := ⟨f13, _, ok_pickL F13 T c_ldraw, PySem.W.mg_of X G a13, F13.kp, b13⟩
  have c_lletters : Kn l.prog w K mg base "_law_letters" ["_law_pen_here"] 3 spLetters := ⟨f14, _, ok_letters F14 T c_ldraw c_pickL, PySem.W.mg_of X G a14, F14.kp, b14⟩
  have c_lword : Kn l.prog w K mg base "_law_word" ["_law_pen_here", "_law_letters_here", "_law_width"] 3 spWord := ⟨f15, _, ok_word F15 T c_ldraw c_pickS, PySem.W.mg_of X G a15, F15.kp, b15⟩
  have c_lwords : Kn l.prog w K mg base "_law_words" ["_law_pen_here", "_law_letters_here", "_law_width", "_law_many"] 4 spWords := ⟨f16, _, ok_words F16 T c_lword, PySem.W.mg_of X G a16, F16.kp, b16⟩
  have c_ltext : Kn l.prog w K mg base "_law_text" ["_law_pen_here", "_law_letters_here", "_law_words_here", "_law_most"] 3 spText := ⟨f17, _, ok_text F17 T c_ldraw c_pickS c_pickL, PySem.W.mg_of X G a17, F17.kp, b17⟩
  have c_lstanding : Kn l.prog w K mg base "_law_standing" ["_law_words_here", "_law_text_here"] 1 spStandL := ⟨f18, _, ok_lstand F18 T , PySem.W.mg_of X G a18, F18.kp, b18⟩
  have c_lapart : Kn l.prog w K mg base "_law_apart" ["_law_pairs", "_law_width"] 1 spApart := ⟨f19, _, ok_lapart F19 T , PySem.W.mg_of X G a19, F19.kp, b19⟩
  have c_islistL : Kn l.prog w K mg base "is_list" ["value"] 1 spIsL := ⟨f1, _, ok_isL F1 T , PySem.W.mg_of X G a1, F1.kp, b1⟩
  have c_islistT : Kn l.prog w K mg base "is_list" ["value"] 1 spIsT := ⟨f1, _, ok_isT F1 T , PySem.W.mg_of X G a1, F1.kp, b1⟩
  have c_are_letters : Kn l.prog w K mg base "are_letters" ["value"] 1 spAreL := ⟨f2, _, ok_areL F2 T , PySem.W.mg_of X G a2, F2.kp, b2⟩
  have c_wrong_sign : Kn l.prog w K mg base "wrong_sign" ["letters", "text"] 1 spWSign := ⟨f3, _, ok_wsign F3 T , PySem.W.mg_of X G a3, F3.kp, b3⟩
  have c_is_word : Kn l.prog w K mg base "_is_word" ["letters", "value"] 2 spIsWord := ⟨f6, _, ok_isword F6 T c_wrong_sign, PySem.W.mg_of X G a6, F6.kp, b6⟩
  have c_is_wish : Kn l.prog w K mg base "is_wish" ["value"] 1 spWish := ⟨f5, _, ok_wish F5 T , PySem.W.mg_of X G a5, F5.kp, b5⟩
  have c_wwordL : Kn l.prog w K mg base "wrong_word" ["letters", "words"] 3 spWWordL := ⟨f4, _, ok_wwordL F4 T c_islistL c_is_word, PySem.W.mg_of X G a4, F4.kp, b4⟩
  have c_wwordT : Kn l.prog w K mg base "wrong_word" ["letters", "words"] 3 spWWordT := ⟨f4, _, ok_wwordT F4 T c_islistT c_is_word, PySem.W.mg_of X G a4, F4.kp, b4⟩
  have c_checkL : Kn l.prog w K mg base "check_words" ["letters", "words"] 4 spCheckL := ⟨f7, _, ok_checkL F7 T c_are_letters c_wwordL, PySem.W.mg_of X G a7, F7.kp, b7⟩
  have c_checkT : Kn l.prog w K mg base "check_words" ["letters", "words"] 4 spCheckT := ⟨f7, _, ok_checkT F7 T c_are_letters c_wwordT, PySem.W.mg_of X G a7, F7.kp, b7⟩
  have c_standL : Kn l.prog w K mg base "_standing" ["words", "text"] 1 spStandL := ⟨f9, _, ok_standL F9 T , PySem.W.mg_of X G a9, F9.kp, b9⟩
  have c_standT : Kn l.prog w K mg base "_standing" ["words", "text"] 1 spStandT := ⟨f9, _, ok_standT F9 T , PySem.W.mg_of X G a9, F9.kp, b9⟩
  have c_apart : Kn l.prog w K mg base "_apart" ["found", "size"] 1 spApart := ⟨f10, _, ok_apart F10 T , PySem.W.mg_of X G a10, F10.kp, b10⟩
  have c_wantL : Kn l.prog w K mg base "wanted" ["letters", "words", "text", "wish"] 5 spWantL := ⟨f8, _, ok_wantL F8 T c_checkL c_wrong_sign c_is_wish c_standL c_apart, PySem.W.mg_of X G a8, F8.kp, b8⟩
  have c_wantT : Kn l.prog w K mg base "wanted" ["letters", "words", "text", "wish"] 5 spWantT := ⟨f8, _, ok_wantT F8 T c_checkT c_wrong_sign c_is_wish c_standT c_apart, PySem.W.mg_of X G a8, F8.kp, b8⟩
  have c_wantL3 : KnD l.prog w K mg base "wanted" ["letters", "words", "text", "wish"] 5 spWantL [.str "all"] := ⟨f8, _, ok_wantL F8 T c_checkL c_wrong_sign c_is_wish c_standL c_apart, PySem.W.mg_of X G a8, F8.kp, e8_0, v8_0, b8_0⟩
  exact ok_law F20 T c_lpen c_ldraw c_lletters c_lwords c_ltext c_lstanding c_lapart c_checkL c_checkT c_wantL c_wantT c_wantL3
end Law
open PySem PySem.W PyProof.Rows
set_option maxHeartbeats 0 in
theorem PySem.Challenge.cw_wordskips_k01_wanted_places_holds : PySem.Challenge.rw_wordskips_k01_wanted_places.Holds := by
  w_on; o_law; k_head; (case hw => w_witness2)
  k_fill
  refine L2.walk_of (l := PySem.Challenge.rw_wordskips_k01_wanted_places) (n := 63) (k := 6) (x := "_law_script") (CX := fun _ => L2.CX0) (sp := fun w => Law.spLaw _) rfl (by decide) rfl ⟨rfl, by decide, by decide⟩ (fun w h Y => PySem.W.kIn_of Y) ?F (fun _ _ a ns hl _ hS => ⟨a, ns, rfl, hS, hl, fun _ => rfl⟩) (fun _ _ _ _ _ h => h)
  case F =>
    intro w mg fa h KX G hmg
    refine' Law.all_mk KX G hmg (a1 := ?a1) (l1 := ?l1) (c1 := ?c1) (k1 := ?k1) (a2 := ?a2) (l2 := ?l2) (c2 := ?c2) (k2 := ?k2) (a3 := ?a3) (l3 := ?l3) (c3 := ?c3) (k3 := ?k3) (a4 := ?a4) (l4 := ?l4) (c4 := ?c4) (k4 := ?k4) (a5 := ?a5) (l5 := ?l5) (c5 := ?c5) (k5 := ?k5) (a6 := ?a6) (l6 := ?l6) (c6 := ?c6) (k6 := ?k6) (a7 := ?a7) (l7 := ?l7) (c7 := ?c7) (k7 := ?k7) (a8 := ?a8) (l8 := ?l8) (c8 := ?c8) (k8 := ?k8) (d8 := ?d8) (a9 := ?a9) (l9 := ?l9) (c9 := ?c9) (k9 := ?k9) (a10 := ?a10) (l10 := ?l10) (c10 := ?c10) (k10 := ?k10) (a11 := ?a11) (l11 := ?l11) (c11 := ?c11) (k11 := ?k11) (a12 := ?a12) (l12 := ?l12) (c12 := ?c12) (k12 := ?k12) (a13 := ?a13) (l13 := ?l13) (c13 := ?c13) (k13 := ?k13) (a14 := ?a14) (l14 := ?l14) (c14 := ?c14) (k14 := ?k14) (a15 := ?a15) (l15 := ?l15) (c15 := ?c15) (k15 := ?k15) (a16 := ?a16) (l16 := ?l16) (c16 := ?c16) (k16 := ?k16) (a17 := ?a17) (l17 := ?l17) (c17 := ?c17) (k17 := ?k17) (a18 := ?a18) (l18 := ?l18) (c18 := ?c18) (k18 := ?k18) (a19 := ?a19) (l19 := ?l19) (c19 := ?c19) (k19 := ?k19) (a20 := ?a20) (l20 := ?l20) (c20 := ?c20) (k20 := ?k20) (z0 := ?z0) (z1 := ?z1) (z2 := ?z2) (z3 := ?z3) (z4 := ?z4) (z5 := ?z5) (z6 := ?z6) (z7 := ?z7) (z8 := ?z8) (z9 := ?z9) (z10 := ?z10) (z11 := ?z11)
    (case a1 => k_is); (case l1 => k_is); (case c1 => k_is); (case k1 => k_is); (case a2 => k_is); (case l2 => k_is); (case c2 => k_is); (case k2 => k_is); (case a3 => k_is); (case l3 => k_is); (case c3 => k_is); (case k3 => k_is); (case a4 => k_is); (case l4 => k_is); (case c4 => k_is); (case k4 => k_is); (case a5 => k_is); (case l5 => k_is); (case c5 => k_is); (case k5 => k_is); (case a6 => k_is); (case l6 => k_is); (case c6 => k_is); (case k6 => k_is); (case a7 => k_is); (case l7 => k_is); (case c7 => k_is); (case k7 => k_is); (case a8 => k_is); (case l8 => k_is); (case c8 => k_is); (case k8 => k_is); (case d8 => k_is); (case a9 => k_is); (case l9 => k_is); (case c9 => k_is); (case k9 => k_is); (case a10 => k_is); (case l10 => k_is); (case c10 => k_is); (case k10 => k_is); (case a11 => k_is); (case l11 => k_is); (case c11 => k_is); (case k11 => k_is); (case a12 => k_is); (case l12 => k_is); (case c12 => k_is); (case k12 => k_is); (case a13 => k_is); (case l13 => k_is); (case c13 => k_is); (case k13 => k_is); (case a14 => k_is); (case l14 => k_is); (case c14 => k_is); (case k14 => k_is); (case a15 => k_is); (case l15 => k_is); (case c15 => k_is); (case k15 => k_is); (case a16 => k_is); (case l16 => k_is); (case c16 => k_is); (case k16 => k_is); (case a17 => k_is); (case l17 => k_is); (case c17 => k_is); (case k17 => k_is); (case a18 => k_is); (case l18 => k_is); (case c18 => k_is); (case k18 => k_is); (case a19 => k_is); (case l19 => k_is); (case c19 => k_is); (case k19 => k_is); (case a20 => k_is); (case l20 => k_is); (case c20 => k_is); (case k20 => k_is); (case z0 => k_is); (case z1 => k_is); (case z2 => k_is); (case z3 => k_is); (case z4 => k_is); (case z5 => k_is); (case z6 => k_is); (case z7 => k_is); (case z8 => k_is); (case z9 => k_is); (case z10 => k_is); (case z11 => k_is)


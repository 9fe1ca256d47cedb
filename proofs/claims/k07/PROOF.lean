import PyProof.Rows.All
import Wide.All
import OpenK.AllK
import Wide.FinOn
import HandS.ForMost
import HandS.Evl
import KE.GoesZip
import PyProof.EnumMake
import HandS.Strs
import KE.GoesMore
import HandS.IsInst
import HandS.NoneIn
import HandS.Walk
import HandS.Conv
import HandS.TupAny
import HandS.Zip0
import PyProof.CollectIter
import HandS.ClsMeth
import HandS.Codes
import HandS.Text
import HandS.List
import HandS.More
import HandS.OwnEq
import HandS.FStr
import HandS.StrMore
import PySem.Challenge.RW_wordskips_k07_whole_texts_of_searchers
set_option Elab.async false
set_option linter.all false
set_option maxRecDepth 100000
set_option maxHeartbeats 4000000
namespace ZS
open PySem PySem.Spec PyProof.Rows L2

/-- two texts side by side: a new pair of signs at each turn -/
def ItzS (x y : Str) : It :=
  ⟨fun i _ => i < x.cps.size ∧ i < y.cps.size,
   fun i H v H' => ∃ T c d, v = .ref T ∧ H T = none ∧ H' = upd H T (.tup [.str ⟨#[c]⟩, .str ⟨#[d]⟩]) ∧ x.cps[i]? = some c ∧ y.cps[i]? = some d,
   fun i _ => i = min x.cps.size y.cps.size⟩
theorem drawsS {prog : Program} {w : World} {A : Around} (hh : A.handled = none) (it : Addr) (x : Str) (t : Tok) :
    Draws prog w A it [it] x.cps.size (fun i v => ∃ c u, x.cps[i]? = some c ∧ v = .str ⟨#[c]⟩ u) (fun i h => h.IsStrIter it (strIterType x) x t i) := by
  unfold strIterType
  cases x.cps.all (· < 128)
  · exact Draws.strWide hh it x t
  · exact Draws.strAscii hh it x t
def StZ (x y : Str) (t u : Tok) (z TI TO i1 i2 : Addr) (i : Nat) (h : Heap) : Prop :=
  IsZip h z TI TO .none ∧ IsTupOf2 h TI (.ref i1) (.ref i2) ∧ (∃ a1 a2, IsTupOf2 h TO a1 a2) ∧ h.IsStrIter i1 (strIterType x) x t i ∧ h.IsStrIter i2 (strIterType y) y u i
theorem walkS {prog : Program} {w : World} {A : Around} (hh : A.handled = none) {z TI TO i1 i2 : Addr} (S : ZipSep2 z TI TO i1 i2 [i1] [i2]) (x y : Str) (t u : Tok) :
    WalksT prog w A z (z :: TI :: TO :: ([i1] ++ [i2])) [z, TO, i1, i2] (min x.cps.size y.cps.size)
      (fun i vals => ∃ v1 v2, (∃ c u, x.cps[i]? = some c ∧ v1 = .str ⟨#[c]⟩ u) ∧ (∃ c u, y.cps[i]? = some c ∧ v2 = .str ⟨#[c]⟩ u) ∧ vals = #[v1, v2])
      (StZ x y t u z TI TO i1 i2)
      (fun i T h => IsZip h z TI TO (rawInt T) ∧ IsTupOf2 h TI (.ref i1) (.ref i2) ∧ (∃ a1 a2, IsTupOf2 h TO a1 a2) ∧ h.IsStrIter i1 (strIterType x) x t (i + 1) ∧ h.IsStrIter i2 (strIterType y) y u (i + 1) ∧ T ≠ z ∧ T ≠ TO ∧ T ≠ i1 ∧ T ≠ i2) :=
  WalksT.zipD2 S (drawsS (A := A.in1) hh i1 x t) (drawsS (A := A.in1) hh i2 y u)
theorem fp5 {z TI TO i1 i2 c : Addr} (h : c ∈ [z, TI, TO, i1, i2]) : c = z ∨ c = TI ∨ c = TO ∨ c = i1 ∨ c = i2 := by simpa using h
theorem turn_zipS {P : Program} {w : World} {K : PySem.W.Frag} {elts : List Expr} {kk : Nat} {tpos : Pos} {z TI TO i1 i2 : Addr} (S : ZipSep2 z TI TO i1 i2 [i1] [i2]) (x y : Str) (t u : Tok) :
    Turn P w K (.Tuple elts kk tpos) (ItzS x y) [z, TI, TO, i1, i2] z (StZ x y t u z TI TO i1 i2) where
  mem := List.mem_cons_self
  obj := fun i h st c hc => by
    obtain ⟨q1, q2, ⟨a1, a2, q3⟩, ⟨o1, e1, _, d1⟩, ⟨o2, e2, _, d2⟩⟩ := st
    rcases fp5 hc with q | q | q | q | q
    all_goals subst q
    · exact ⟨_, q1, fun v q => nomatch q⟩
    · exact ⟨_, q2, fun v q => nomatch q⟩
    · exact ⟨_, q3, fun v q => nomatch q⟩
    · exact ⟨o1, e1, fun v q => by rw [d1] at q; cases q⟩
    · exact ⟨o2, e2, fun v q => by rw [d2] at q; cases q⟩
  keep := fun i h h' st k => by
    obtain ⟨q1, q2, ⟨a1, a2, q3⟩, ⟨o1, e1, r1⟩, ⟨o2, e2, r2⟩⟩ := st
    exact ⟨k z (by simp) _ q1, k TI (by simp) _ q2, ⟨a1, a2, k TO (by simp) _ q3⟩, ⟨o1, k i1 (by simp) _ e1, r1⟩, ⟨o2, k i2 (by simp) _ e2, r2⟩⟩
  item := by
    intro X hP hw hK hc i pins s σ H E I hf st hg
    subst hP hw hK
    have W := walkS (prog := X.prog) (w := X.w) (A := X.A) (I.ok.hd hc) S x y t u
    have hlt : i < min x.cps.size y.cps.size := by
      have h1 := hg.1
      have h2 := hg.2
      omega
    refine W.item i s _ _ hlt st fun T vals h' tk hv hT hIs hm hk => ?_
    refine ⟨.ref T, rfl, ?_⟩
    refine W.go elts kk tpos i T { s with heap := h', toks := tk } _ _ hm fun h2 st2 hk2 => ?_
    obtain ⟨v1, v2, ⟨c, u1, hc1, rfl⟩, ⟨d, u2, hd1, rfl⟩, rfl⟩ := hv
    have ap : T ∉ [z, TO, i1, i2] := W.apart i T h' hm
    have up : ∀ b o, b ∉ [z, TO, i1, i2] → s.heap.get? b = some o → h2.get? b = some o := fun b o hb e => hk2 b o hb (hk b o hb e)
    have hT2 : h2.IsTuple T #[.str ⟨#[c]⟩ u1, .str ⟨#[d]⟩ u2] := hIs.at fun o e => hk2 T o ap e
    obtain ⟨oT, eT, cT, nT, dT⟩ := hT2
    have new : ObjOk X.prog X.w (upd H T (.tup [.str ⟨#[c]⟩, .str ⟨#[d]⟩])) h2 T (.tup [.str ⟨#[c]⟩, .str ⟨#[d]⟩]) :=
      ⟨by show 2 ≤ sizeLine; decide, [.str ⟨#[c]⟩ u1, .str ⟨#[d]⟩ u2], .cons ⟨u1, rfl⟩ (.cons ⟨u2, rfl⟩ .nil), ⟨oT, eT, cT, nT, dT⟩⟩
    have sub : ∀ b, b ∉ [z, TI, TO, i1, i2] → b ∉ [z, TO, i1, i2] := fun b hb hb2 => hb (by
      have q : b = z ∨ b = TO ∨ b = i1 ∨ b = i2 := by simpa using hb2
      rcases q with q | q | q | q <;> simp [q])
    have I1 := I.turnedNew (t' := tk) (ch := [z, TI, TO, i1, i2]) (fun b o hb e => up b o (sub b hb) e) hf hT new
    refine ⟨.ref T, _, I1, rfl, ⟨T, c, d, rfl, I.hok.fresh hT, rfl, hc1, hd1⟩, st2, fun b hb => ?_⟩
    have hlb : b < s.heap.objs.size := by
      obtain ⟨q1, q2, ⟨a1, a2, q3⟩, ⟨o1, e1, r1⟩, ⟨o2, e2, r2⟩⟩ := st
      rcases fp5 hb with q | q | q | q | q
      · rw [q]; exact Heap.lt_size q1
      · rw [q]; exact Heap.lt_size q2
      · rw [q]; exact Heap.lt_size q3
      · rw [q]; exact Heap.lt_size e1
      · rw [q]; exact Heap.lt_size e2
    rw [upd_ne (show b ≠ T from fun e => absurd hT (by rw [← e]; exact Nat.not_le.mpr hlb))]
    exact (hf b hb).1
  done := by
    intro X hP hw hK hc i pins s σ H E I hf st hg
    subst hP hw hK
    have W := walkS (prog := X.prog) (w := X.w) (A := X.A) (I.ok.hd hc) S x y t u
    have hg : i = min x.cps.size y.cps.size := hg
    subst hg
    refine W.done s _ _ st fun h' tk hk => ⟨rfl, ?_⟩
    refine I.turnedL (t' := tk) (ch := [z, TI, TO, i1, i2]) (fun b o hb e => hk b o (fun hb2 => hb ?_) e) hf
    have q : b = z ∨ b = TO ∨ b = i1 ∨ b = i2 := by simpa using hb2
    rcases q with q | q | q | q <;> simp [q]
  self := fun A i s Q E st h => wpAny_pyIter_zip st.1 h

abbrev g1 (h : Heap) (x : Str) (t : Tok) : Heap := h.push { cls := .type (strIterType x), data := .fields #[.str x t, .int 0 0] }
abbrev g3 (h : Heap) (x y : Str) (t u : Tok) : Heap := (g1 (g1 h x t) y u).push { cls := .type "tuple", data := .seq #[.ref h.objs.size, .ref (g1 h x t).objs.size] }
abbrev g4 (h : Heap) (x y : Str) (t u : Tok) : Heap := (g3 h x y t u).push { cls := .type "tuple", data := .seq #[.none, .none] }
abbrev g5 (h : Heap) (x y : Str) (t u : Tok) : Heap := (g4 h x y t u).push { cls := .type "zip", data := .fields #[.none, .bool false, .bool false, .ref (g1 (g1 h x t) y u).objs.size, .ref (g3 h x y t u).objs.size] }
theorem meets_zipS (x y : Str) (t u : Tok) :
    Meets (Builtin.«zip.__new__» ⟨[.type "zip", .str x t, .str y u], []⟩) (fun _ R s => R (.ok (.ret (.ref (g4 s.heap x y t u).objs.size))) { s with heap := g5 s.heap x y t u }) :=
  .of_wp fun prog w A R s h => by
    obtain ⟨hp, gg, d, tk, os⟩ := s
    have hsub := sub_zip
    wp_walk using wpAny_pyIter_strU
    exact ⟨_, rfl, h⟩
theorem call_zipS {prog : Program} {w : World} {A : Around} {E : Value → Shared → Prop} {s : Shared} {x y : Str} {t u : Tok} {Q : Value → Shared → Prop}
    (h : ∀ h', StZ x y t u (s.heap.objs.size + 4) (s.heap.objs.size + 2) (s.heap.objs.size + 3) s.heap.objs.size (s.heap.objs.size + 1) 0 h' → (∀ c o, s.heap.get? c = some o → h'.get? c = some o) → Q (.ref (s.heap.objs.size + 4)) { s with heap := h' }) :
    wpAny (model prog w) A (call (.type "zip") [.str x t, .str y u]) Q E s := by
  refine callType_new F.called_zip (by decide) (F.typeCall_zip_2 _ _) (F.newCall_zip_2 _ _) (fun obj => F.args_object_init_3 obj _ _) F.entry_zip_new (meets_zipS x y t u) ?_
  have n1 : (g1 s.heap x t).objs.size = s.heap.objs.size + 1 := Heap.size_push ..
  have n2 : (g1 (g1 s.heap x t) y u).objs.size = s.heap.objs.size + 2 := by rw [Heap.size_push, n1]
  have n3 : (g3 s.heap x y t u).objs.size = s.heap.objs.size + 3 := by rw [Heap.size_push, n2]
  have n4 : (g4 s.heap x y t u).objs.size = s.heap.objs.size + 4 := by rw [Heap.size_push, n3]
  have k5 : (g5 s.heap x y t u).get? (g4 s.heap x y t u).objs.size = some _ := Heap.get?_push_size _ rfl
  have k4 : (g5 s.heap x y t u).get? (g3 s.heap x y t u).objs.size = some _ := Heap.get?_push_of_some _ (Heap.get?_push_size _ rfl)
  have k3 : (g5 s.heap x y t u).get? (g1 (g1 s.heap x t) y u).objs.size = some _ := Heap.get?_push_of_some _ (Heap.get?_push_of_some _ (Heap.get?_push_size _ rfl))
  have k2 : (g5 s.heap x y t u).get? (g1 s.heap x t).objs.size = some _ := Heap.get?_push_of_some _ (Heap.get?_push_of_some _ (Heap.get?_push_of_some _ (Heap.get?_push_size _ rfl)))
  have k1 : (g5 s.heap x y t u).get? s.heap.objs.size = some _ := Heap.get?_push_of_some _ (Heap.get?_push_of_some _ (Heap.get?_push_of_some _ (Heap.get?_push_of_some _ (Heap.get?_push_size _ rfl))))
  show _ ∧ _
  rw [n2, n3, n4] at k5
  rw [n1, n2] at k3
  rw [n3] at k4
  rw [n1] at k2
  rw [n4]
  exact ⟨⟨_, k5, rfl⟩, h _ ⟨k5, k3, ⟨_, _, k4⟩, ⟨_, k1, rfl, rfl⟩, ⟨_, k2, rfl, rfl⟩⟩ fun c o e =>
    Heap.get?_push_of_some _ (Heap.get?_push_of_some _ (Heap.get?_push_of_some _ (Heap.get?_push_of_some _ (Heap.get?_push_of_some _ e))))⟩
theorem sepS (n : Nat) : ZipSep2 (n + 4) (n + 2) (n + 3) n (n + 1) [n] [n + 1] := by
  constructor <;> first | omega | (simp <;> omega) | simp
def iZipS (ta : TA) : TI := fun σ H R => ta σ H fun vs H1 => ∃ x y, vs = [.str x, .str y] ∧ R (ItzS x y) H1
theorem pi_zipS {X : Cx} {e e2 : Expr} {ta : TA} {p pos tpos : Pos} {elts : List Expr} {kk : Nat} (hg : Gl X "zip") (hm : X.mg "zip" = none) (ha : PA X [e, e2] ta)
    (hs : starEach [e, e2] X.env = (false, eval e X.env) :: starEach [e2] X.env := by rfl) (hpl : (backTo pos (starEach [e2] X.env)).any (·.1) = false := by rfl) :
    PI X (.Tuple elts kk tpos) (.Call (.Name "zip" p) [e, e2] [] pos) (iZipS ta) := by
  refine ⟨fun pins s σ H R I h => ?_⟩
  refine Call_ (ld_blt I hg hm boot_zip (callWith_type1 (thn (ha.run pos pins s σ H _ I h) fun us s1 ⟨vs, H1, I1, r1, q1⟩ => ?_) hs hpl))
  obtain ⟨x, y, ex, q⟩ := q1
  subst ex
  cases r1 with
  | cons r rr =>
    cases rr with
    | cons r' rr =>
      cases rr
      obtain ⟨t, rfl⟩ := r
      obtain ⟨u, rfl⟩ := r'
      refine call_zipS fun h' st hk => wpAny_pyIter_zip st.1 ?_
      have I2 : Inv X pins σ H1 { s1 with heap := h' } := I1.kept (t' := s1.toks) hk
      refine ⟨s1.heap.objs.size + 4, _, _, _, H1, rfl, I2, turn_zipS (sepS _) x y t u, st, fun c hcm => ?_, q⟩
      have hle : s1.heap.objs.size ≤ c := by
        rcases fp5 hcm with z | z | z | z | z <;> rw [z] <;> first | exact Nat.le_add_right _ _ | exact Nat.le_refl _
      exact I1.fpOk hle (I1.hok.fresh hle)
/-- a comprehension over it -/
theorem lc_zipS {x y : Str} {g : TG} {tt : TT} {te : TE} {vs : List Nat} {σ : L2.St} {H1 : Hp} {D : Addr} {Qd : Hp → Prop} (Pv : Nat → Hp → Prop) (h0 : Pv 0 (upd H1 D (.lst [])))
    (hs : ∀ i c d T H, x.cps[i]? = some c → y.cps[i]? = some d → Pv i H → H T = none → g (.ref T) (wipe σ vs) (upd H T (.tup [.str ⟨#[c]⟩, .str ⟨#[d]⟩])) fun σ2 H2 => wipe σ2 vs = wipe σ vs ∧ tt σ2 H2 fun b H3 =>
      if b = true then te σ2 H3 fun z H4 => ∃ acc, H4 D = some (.lst acc) ∧ acc.length < sizeLine ∧ Pv (i + 1) (upd H4 D (.lst (acc ++ [z]))) else Pv (i + 1) H3) (hd : ∀ H, Pv (min x.cps.size y.cps.size) H → Qd H) :
    ∃ W : Nat → Nat → Hp → Prop, (∃ m, W 0 m (upd H1 D (.lst []))) ∧ ∀ i m H, W i m H →
      ((ItzS x y).stop i H ∧ Qd H) ∨ ((ItzS x y).go i H ∧ ∃ Nx : Hp → Prop, (∀ H', Nx H' → ∃ m', m' < m ∧ W (i + 1) m' H') ∧ ∀ v H', (ItzS x y).yld i H v H' → g v (wipe σ vs) H' fun σ2 H2 => wipe σ2 vs = wipe σ vs ∧ tt σ2 H2 fun b H3 =>
        if b = true then te σ2 H3 fun z H4 => ∃ acc, H4 D = some (.lst acc) ∧ acc.length < sizeLine ∧ Nx (upd H4 D (.lst (acc ++ [z]))) else Nx H3) := by
  refine ⟨fun i m H => i + m = min x.cps.size y.cps.size ∧ Pv i H, ⟨_, Nat.zero_add _, h0⟩, ?_⟩
  rintro i m H ⟨e, p⟩
  by_cases hm : m = 0
  · have e2 : i = min x.cps.size y.cps.size := by omega
    refine .inl ⟨e2, hd H ?_⟩
    rw [← e2]
    exact p
  · refine .inr ⟨⟨by omega, by omega⟩, Pv (i + 1), fun H' p' => ⟨m - 1, by omega, by omega, p'⟩, ?_⟩
    rintro v H' ⟨T, c, d, rfl, hT, rfl, hc, hd'⟩
    exact hs i c d T H hc hd' p hT
theorem op_mulS {X : Cx} : OpR X (binaryOp .Mult) (fun x y H Q => ∃ z n, x = .str z ∧ y = .int n ∧ MulOk z n ∧ Q (.str (Txt.mul z n)) H) := by
  intro pins s σ H x y v u Q I rx ry h
  obtain ⟨z, n, rfl, rfl, hz, q⟩ := h
  obtain ⟨t, rfl⟩ := rx
  obtain ⟨t', rfl⟩ := ry
  exact SB.mul hz (fun t' tk => ⟨.str (Txt.mul z n), H, I.tok _, ⟨_, rfl⟩, q⟩)
end ZS

namespace ST
open PySem PySem.Spec PyProof.Rows L2
/-- how many different ones the first i of a list are -/
def dct (xs : List Str) : Nat → Nat
  | 0 => 0
  | i + 1 => if (xs.take i).any (· == xs.getD i Str.empty) = true then dct xs i else dct xs i + 1
theorem dct_le (xs : List Str) : ∀ i, dct xs i ≤ i
  | 0 => Nat.le_refl _
  | i + 1 => by
    have := dct_le xs i
    unfold dct
    split <;> omega
theorem any_next {xs : List Str} {i : Nat} (hi : i < xs.length) (k : Str) : (xs.take (i + 1)).any (· == k) = ((xs.take i).any (· == k) || decide (k = xs.getD i Str.empty)) := by
  rw [List.take_add_one, List.any_append, List.getElem?_eq_getElem hi, List.getD_eq_getElem?_getD, List.getElem?_eq_getElem hi]
  refine congrArg (fun b => (xs.take i).any (· == k) || b) ?_
  show (xs[i] == k || false) = decide (k = xs[i])
  rw [Bool.or_false]
  by_cases e : k = xs[i]
  · rw [decide_eq_true e, ← e]
    simp
  · rw [decide_eq_false e]
    simpa using fun q : xs[i] = k => e q.symm
section
variable {prog : Program} {w : World} {A : Around} {R : Result → Shared → Prop} {It : Addr} {fp wr : List Addr} {Gn : Array GenState → Array GenState → Prop} {n : Nat} {P : Nat → Value → Prop} {St : Nat → Shared → Prop}
theorem fill (W : WalksS prog w A.in1 It fp wr Gn n P St) (a : Addr) (haf : a ∉ fp) (xs : List Str) (hx : xs.length = n) (hn : n + 1 < scanBound) (hv : ∀ i v, P i v → ∃ t, v = .str (xs.getD i Str.empty) t) :
    ∀ (k i : Nat) (s : Shared), n - i = k → i ≤ n → St i s → s.heap.SetOf (PySem.strKind prog w) a (fun z => (xs.take i).any (· == z)) (dct xs i) →
      (∀ s', Moved (a :: wr) Gn s s' → s'.heap.SetOf (PySem.strKind prog w) a (fun z => (xs.take n).any (· == z)) (dct xs n) → R (.ok (.ret .none)) s') →
      codeAny (model prog w) A (.builtin "set.update.loop" ⟨[.ref a, .ref It], []⟩) R s := by
  have haw : a ∉ wr := fun q => haf (W.sub _ q)
  have up : ∀ b ∈ wr, b ∈ a :: wr := fun b q => List.mem_cons_of_mem _ q
  intro k
  induction k with
  | zero =>
    intro i s hk hi hst hset hR
    obtain rfl : i = n := by omega
    refine codeAny_builtin F.entry_set_update_loop ?_
    rw [Around.under_plainId F.plain_set_update_loop _]
    refine wpAny_bind (W.done s _ _ hst fun s' mv => wpAny_pure (hR s' (mv.mono up) ?_))
    obtain ⟨o, es, ep, tb, ho, rest⟩ := hset
    exact ⟨o, es, ep, tb, mv.heap a _ haw ho, rest⟩
  | succ k ih =>
    intro i s hk hi hst hset hR
    have hlt : i < n := by omega
    refine codeAny_builtin F.entry_set_update_loop ?_
    rw [Around.under_plainId F.plain_set_update_loop _]
    refine wpAny_bind (W.item i s _ _ hlt hst fun v s1 hp st1 mv => ?_)
    obtain ⟨t, rfl⟩ := hv i v hp
    have set1 : s1.heap.SetOf (PySem.strKind prog w) a (fun z => (xs.take i).any (· == z)) (dct xs i) := by
      obtain ⟨o, es, ep, tb, ho, rest⟩ := hset
      exact ⟨o, es, ep, tb, mv.heap a _ haw ho, rest⟩
    refine wpAny_bind (wpAny_holding ?_)
    unfold setAdd
    refine wpAny_holding (wpAny_bind ((PySem.strKind prog w).pyHash (k := xs.getD i Str.empty) (strKind_is _ _ _ _) ?_))
    have room : dct xs i + 1 < scanBound := by
      have := dct_le xs i
      omega
    refine wpAny_setAddHashed_of (knd := PySem.strKind prog w) (s := { s1 with toks := s1.toks + 1 }) (strKind_is _ _ _ _) rfl set1 room fun h2 sb set2 => ?_
    have set3 : h2.SetOf (PySem.strKind prog w) a (fun z => (xs.take (i + 1)).any (· == z)) (dct xs (i + 1)) :=
      SetOf_congr set2 (fun z => (any_next (by omega) z).symm) (by
        show dct xs (i + 1) = _
        unfold dct
        rfl)
    refine wpAny_pure ⟨plainId_quiet F.plain_set_update_loop _, ih (i + 1) _ (by omega) hlt (W.frame _ s1 _ _ st1 (Nat.le_succ _) fun b hb o e => ?_) set3 fun s2 mv2 hS2 => ?_⟩
    · rw [sb.2 b (fun q : b = a => haf (by rw [← q]; exact hb))]
      exact e
    · refine hR s2 (Moved.trans W.gtrans ((mv.mono up).then_heap (Nat.le_succ _) fun b o hb e => ?_) mv2) hS2
      rw [sb.2 b (fun q : b = a => hb (by rw [q]; exact List.mem_cons_self))]
      exact e
end
theorem walkStr {prog : Program} {w : World} {A : Around} (hh : A.handled = none) (it : Addr) (x : Str) (t : Tok) :
    Walks prog w A it [it] [it] x.cps.size (SignAt x) (fun i h => h.IsStrIter it (strIterType x) x t i) := by
  unfold strIterType
  cases x.cps.all (· < 128)
  · exact Walks.strWide hh it x t
  · exact Walks.strAscii hh it x t
def signsOf (x : Str) : List Str := x.cps.toList.map fun c => ⟨#[c]⟩
theorem signsOf_len (x : Str) : (signsOf x).length = x.cps.size := by simp [signsOf]
section
variable {prog : Program} {w : World} {A : Around} {E : Value → Shared → Prop} {s : Shared}
theorem call_set_text {x : Str} {t : Tok} {Q : Value → Shared → Prop} (hh : A.handled = none) (hn : x.cps.size + 1 < scanBound)
    (h : ∀ (h' : Heap) (tk : Nat), h'.SetOf (PySem.strKind prog w) s.heap.objs.size (fun z => ((signsOf x).take x.cps.size).any (· == z)) (dct (signsOf x) x.cps.size) →
      (∀ b o, b < s.heap.objs.size → s.heap.get? b = some o → h'.get? b = some o) → Q (.ref s.heap.objs.size) { s with heap := h', toks := tk }) :
    wpAny (model prog w) A (call (.type "set") [.str x t]) Q E s := by
  obtain ⟨c, tl, hmro⟩ := PySem.F.called_set.mro
  have hmade := PySem.F.called_set.made
  have hsub := PySem.F.called_set.sub
  refine wpAny_call (codeAny_of_tree ?_)
  show wpAny _ _ (callAny (.type "set") _) _ _ _
  refine wpAny_pure ⟨Code.quiet_builtin _ (by decide +kernel), codeAny_builtin PySem.F.entry_type_call ?_⟩
  rw [Around.under_plain (weight_type_call_type "set" [.str x t] []) rfl]
  have x1 := PySem.F.called_set.notType
  have x2 := PySem.F.called_set.canCreate
  have x3 := PySem.F.typeCall_set_1 (.str x t)
  repeat (any_goals (first | assumption | wp_step))
  refine codeAny_mono (code_set_new_1 (.str x t) (E := E) (Q₁ := fun obj s₁ => ∃ led : Bool, obj = .ref s.heap.objs.size ∧ s₁ = { s with heap := s.heap.push { cls := .type "set", dict := none, data := .set #[] 0 (.fresh 0 0 led) } }) fun led => ⟨led, rfl, rfl⟩) fun r s₁ hr => ?_
  cases r with
  | error e => exact hr
  | ok fl =>
    cases fl with
    | ret obj =>
      obtain ⟨led, rfl, rfl⟩ := hr
      obtain ⟨hp, hhp⟩ : ∃ hp, s.heap.push { cls := .type "set", dict := none, data := .set #[] 0 (.fresh 0 0 led) } = hp := ⟨_, rfl⟩
      have y1 : hp.get? s.heap.objs.size = some { cls := .type "set", dict := none, data := .set #[] 0 (.fresh 0 0 led) } := by
        rw [← hhp]
        exact Heap.get?_push_size _ rfl
      have y2 : hp.objs.size = s.heap.objs.size + 1 := by
        rw [← hhp]
        exact Heap.size_push ..
      have y3 : ∀ b o, s.heap.get? b = some o → hp.get? b = some o := fun b o e => by
        rw [← hhp]
        exact Heap.get?_push_of_some _ e
      rw [hhp]
      have hT : Shared.TypeIs { s with heap := hp } (.ref s.heap.objs.size) "set" := ⟨_, y1, rfl⟩
      have y4 := PySem.F.called_set.init.lookup
      have y5 := PySem.F.called_set.init.bind (.ref s.heap.objs.size)
      repeat (any_goals (first | assumption | wp_step))
      refine codeAny_mono (codeAny_call_builtin (R := wants (fun r s₂ => r = .none ∧ ∃ h' tk, s₂ = { s with heap := h', toks := tk } ∧
          h'.SetOf (PySem.strKind prog w) s.heap.objs.size (fun z => ((signsOf x).take x.cps.size).any (· == z)) (dct (signsOf x) x.cps.size) ∧
          (∀ b o, b < s.heap.objs.size → s.heap.get? b = some o → h'.get? b = some o)) E) PySem.F.called_set.init.plain PySem.F.entry_set_init (check_set_init_1 hT ?_)) fun r₂ s₂ hr₂ => ?_
      · have sb1 := PySem.F.sub_str_set
        have sb2 := PySem.F.sub_str_frozenset
        have sb3 : (Value.type "str" == Value.type "dict") = false := by decide
        unfold Builtin.«set.__init__» noKeywords Builtin.Frozenset.updateFrom
        generalize hPI : pyIter = PI
        wp_walk
        subst hPI
        refine wpAny_pyIter_strU ?_
        refine wpAny_bind (wpAny_runValue ?_)
        have hh3 : A.in1.in1.in1.handled = none := by simp [hh]
        have z1 : s.heap.objs.size ∉ [hp.objs.size] := by
          rw [y2]
          simp
        refine fill ((walkStr hh3 _ x t).toS) s.heap.objs.size z1 (signsOf x) (signsOf_len x) hn ?_ (x.cps.size - 0) 0 _ (by omega) (Nat.zero_le _)
          ⟨_, Heap.get?_push_size _ rfl, rfl, rfl⟩ ?_ ?_
        · rintro i v ⟨c, u, hc, rfl⟩
          refine ⟨u, ?_⟩
          unfold signsOf
          rw [List.getD_eq_getElem?_getD, List.getElem?_map, Array.getElem?_toList, hc]
          rfl
        · have z2 : (hp.push { cls := .type (strIterType x), data := .fields #[.str x t, .int 0 0] }).get? s.heap.objs.size = some { cls := .type "set", dict := none, data := .set #[] 0 (.fresh 0 0 led) } := Heap.get?_push_of_some _ y1
          exact SetOf_congr ((setObjOf_fresh (knd := PySem.strKind prog w) led).setOf z2 (by unfold scanBound; omega)) (fun _ => rfl) rfl
        · intro s' mv hS'
          obtain ⟨h', g', d', tk', os'⟩ := s'
          obtain rfl : g' = s.gens := mv.gens
          obtain rfl : d' = s.drawn := mv.drawn
          obtain rfl : os' = s.os := mv.os
          refine wpAny_pure ?_
          show wpAny _ _ (ret Value.none) _ _ _
          refine wpAny_pure ⟨rfl, h', tk', rfl, hS', fun b o hb e => ?_⟩
          refine mv.heap b o ?_ (Heap.get?_push_of_some _ (y3 b o e))
          rw [y2]
          simp only [List.mem_cons, List.not_mem_nil, or_false, not_or]
          exact ⟨Nat.ne_of_lt hb, Nat.ne_of_lt (Nat.lt_succ_of_lt hb)⟩
      · cases r₂ with
        | error e => exact hr₂
        | ok fl₂ =>
          cases fl₂ with
          | ret r =>
            obtain ⟨rfl, h', tk, rfl, hS', hk'⟩ := hr₂
            repeat (any_goals (first | assumption | wp_step))
            exact h _ _ hS' hk'
          | _ => exact hr₂.elim
    | _ => exact hr.elim
end
end ST

namespace EN
open PySem PySem.Spec PyProof.Rows L2
/-! ### len(set(text)) -/
def tLenSetS (ta : TE) : TE := fun σ H Q => ta σ H fun x H1 => ∃ z : Str, x = .str z ∧ z.cps.size < 1000 ∧ Q (.int (ST.dct (ST.signsOf z) z.cps.size)) H1
theorem pe_lenSetS {X : Cx} {a : Expr} {ta : TE} {p p2 q pos : Pos} (hc : X.calm = true) (hg : Gl X "len") (hm : X.mg "len" = none) (hg2 : Gl X "set") (hm2 : X.mg "set" = none) (ha : PE X a ta)
    (na : starEach [a] X.env = (false, eval a X.env) :: starEach [] X.env := by rfl) : PE X (.Call (.Name "len" p) [.Call (.Name "set" p2) [a] [] q] [] pos) (tLenSetS ta) := by
  refine ⟨fun pins s σ H Q I h => Call_ (ld_blt I hg hm PySem.boot_len (callWith_builtin1 (args_cons (Call_ (ld_blt I hg2 hm2 boot_set ?_)) rfl) rfl rfl))⟩
  refine callWith_type1 (args_cons (thn (ha.run pins s σ H _ I h) fun v s1 ⟨x, H1, I1, r1, z, ex, hz, q1⟩ => args_nil ?_) na) na rfl
  subst ex
  obtain ⟨t, rfl⟩ := r1
  refine ST.call_set_text (I1.ok.hd hc) (by unfold scanBound; omega) fun h' tk hS hk => args_nil ?_
  obtain ⟨o, es, ep, t, ho, hex, hd, _, _, _, hf, hn⟩ := hS
  have I2 : Inv X pins σ H1 { s1 with heap := h', toks := tk } := I1.kept fun b o e => hk b o (Heap.lt_size e) e
  have hd2 := ST.dct_le (ST.signsOf z) z.cps.size
  exact call_len_set ho hex hd hf (by rw [hn]; omega) ⟨.int _, H1, I2.tok _, ⟨_, by rw [hn]⟩, q1⟩

/-! ### enumerate over a text, over a tuple -/
def ItS (x : Str) : It := ⟨fun i _ => i < x.cps.size,
  fun i H v H' => ∃ T c, v = .ref T ∧ H T = none ∧ H' = upd H T (.tup [.int (i : Nat), .str ⟨#[c]⟩]) ∧ x.cps[i]? = some c, fun i _ => i = x.cps.size⟩
def ItT (K : PySem.W.Frag) (a : Addr) : It := ⟨fun i H => ∃ (xs : List V) (x : V), SqT K H a xs ∧ xs[i]? = some x,
  fun i H v H' => ∃ T x, v = .ref T ∧ H T = none ∧ H' = upd H T (.tup [.int (i : Nat), x]) ∧ ∀ xs, SqT K H a xs → xs[i]? = some x, fun i H => ∃ xs : List V, SqT K H a xs ∧ i = xs.length⟩
theorem two {e it b : Addr} (h : b ∈ [e, it]) : b = e ∨ b = it := by simpa using h
theorem obj_of {h : Heap} {e it : Addr} {i : Int} {old : Value} (he : IsEnum h e it i old) {o : Obj} (ho : h.get? it = some o) {vs : Array Value} (hd : o.data = .fields vs) : ∀ b ∈ [e, it], ∃ o, h.get? b = some o ∧ ∀ v, o.data ≠ .cell v := fun b hb => by
  rcases two hb with z | z
  · rw [z]; exact ⟨_, he, fun v q => nomatch q⟩
  · rw [z]; exact ⟨o, ho, fun v q => by rw [hd] at q; cases q⟩
theorem turn_enumS {P : Program} {w : World} {K : PySem.W.Frag} {elts : List Expr} {kk : Nat} {tpos : Pos} (x : Str) (t : Tok) (e it : Addr) :
    Turn P w K (.Tuple elts kk tpos) (ItS x) [e, it] e (fun i h => (∃ old, IsEnum h e it ((i : Nat) : Int) old) ∧ h.IsStrIter it (strIterType x) x t i ∧ e ≠ it) where
  mem := List.mem_cons_self
  obj := fun i h st b hb => by
    obtain ⟨⟨old, he⟩, ⟨o, ho, _, hd⟩, _⟩ := st
    exact obj_of he ho hd b hb
  keep := fun i h h' st k => by
    obtain ⟨⟨old, he⟩, ⟨o, ho, r⟩, hne⟩ := st
    exact ⟨⟨old, k e (by simp) _ he⟩, ⟨o, k it (by simp) _ ho, r⟩, hne⟩
  item := by
    intro X hP hw hK hc i pins s σ H E I hf st hg
    subst hP hw hK
    obtain ⟨⟨old, he⟩, hit, hne⟩ := st
    have D := ZS.drawsS (prog := X.prog) (w := X.w) (A := X.A.in1) (I.ok.hd hc) it x t
    have l1 : e < s.heap.objs.size := Heap.lt_size he
    have l2 : it < s.heap.objs.size := by obtain ⟨_, q, _⟩ := hit; exact Heap.lt_size q
    refine wpAny_pyNext_enum_itemD D he hit hg hne (by simpa using hne) fun v h' tk hv ho hit' hT hsz hk => ?_
    obtain ⟨c, u, hcx, rfl⟩ := hv
    refine ⟨_, rfl, wpAny_letOwnedTupleGo_enum (s := { s with heap := h', toks := tk + 1 }) ho fun h2 he2 sb => ?_⟩
    have hT2 : h2.get? s.heap.objs.size = some { cls := .type "tuple", data := .seq #[.int i tk, .str ⟨#[c]⟩ u] } := (sb.2 _ (Nat.ne_of_gt l1)).trans hT
    have new : ObjOk X.prog X.w (upd H s.heap.objs.size (.tup [.int (i : Nat), .str ⟨#[c]⟩])) h2 s.heap.objs.size (.tup [.int (i : Nat), .str ⟨#[c]⟩]) :=
      ⟨by show 2 ≤ sizeLine; decide, [.int i tk, .str ⟨#[c]⟩ u], .cons ⟨_, rfl⟩ (.cons ⟨u, rfl⟩ .nil), ⟨_, hT2, rfl, _, rfl⟩⟩
    have I1 := I.turnedNew (t' := tk + 1) (ch := [e, it]) (fun b ob hb q => (sb.2 b (fun z => hb (by simp [z]))).trans (hk b ob (fun z => hb (by simp [z])) (fun z => hb (by simp [z])) q)) hf (Nat.le_refl _) new
    refine ⟨.ref s.heap.objs.size, _, I1, rfl, ⟨_, c, rfl, I.hok.fresh (Nat.le_refl _), rfl, hcx⟩, ⟨⟨.str ⟨#[c]⟩ u, ?_⟩, ?_, hne⟩, fun b hb => ?_⟩
    · rw [show ((i + 1 : Nat) : Int) = (i : Int) + 1 by omega]
      exact he2
    · obtain ⟨o, q, r⟩ := hit'
      exact ⟨o, (sb.2 it (Ne.symm hne)).trans q, r⟩
    · rw [upd_ne (show b ≠ s.heap.objs.size from fun q => by
        rcases two hb with z | z
        · rw [← q, z] at l1; exact Nat.lt_irrefl _ l1
        · rw [← q, z] at l2; exact Nat.lt_irrefl _ l2)]
      exact (hf b hb).1
  done := by
    intro X hP hw hK hc i pins s σ H E I hf st hg
    subst hP hw hK
    obtain ⟨⟨old, he⟩, hit, hne⟩ := st
    have hg : i = x.cps.size := hg
    subst hg
    have D := ZS.drawsS (prog := X.prog) (w := X.w) (A := X.A.in1) (I.ok.hd hc) it x t
    refine wpAny_pyNext_enum_endD D he hit fun h' eb => ⟨rfl, I.turnedL (t' := s.toks) (ch := [e, it]) (fun b o hb q => eb b o (fun z => hb (by simp [z])) q) hf⟩
  self := fun A i s Q E st h => by
    obtain ⟨⟨_, he⟩, _⟩ := st
    exact wpAny_pyIter_enum he h
theorem turn_enumT {P : Program} {w : World} {K : PySem.W.Frag} {elts : List Expr} {kk : Nat} {tpos : Pos} (a e it : Addr) :
    Turn P w K (.Tuple elts kk tpos) (ItT K a) [e, it] e (fun i h => (∃ old, IsEnum h e it ((i : Nat) : Int) old) ∧ h.IsTupleIter it a i ∧ e ≠ it ∧ a ≠ it ∧ a ≠ e) where
  mem := List.mem_cons_self
  obj := fun i h st b hb => by
    obtain ⟨⟨old, he⟩, ⟨o, ho, _, hd⟩, _⟩ := st
    exact obj_of he ho hd b hb
  keep := fun i h h' st k => by
    obtain ⟨⟨old, he⟩, ⟨o, ho, r⟩, hne⟩ := st
    exact ⟨⟨old, k e (by simp) _ he⟩, ⟨o, k it (by simp) _ ho, r⟩, hne⟩
  item := by
    intro X hP hw hK hc i pins s σ H E I hf st hg
    subst hP hw hK
    obtain ⟨⟨old, he⟩, hit, hne, hai, hae⟩ := st
    obtain ⟨xs, x, hq, hx⟩ := hg
    obtain ⟨its, rv, p, hz⟩ := I.tuple hq
    obtain ⟨u, hu, ru⟩ := rv.get hx
    have hlt : i < its.toArray.size := by
      have := (List.getElem?_eq_some_iff.mp hu).1
      simpa using this
    have D := Draws.tuple (prog := X.prog) (w := X.w) (A := X.A.in1) (I.ok.hd hc) it a hai its.toArray
    have l1 : e < s.heap.objs.size := Heap.lt_size he
    have l2 : it < s.heap.objs.size := by obtain ⟨_, q, _⟩ := hit; exact Heap.lt_size q
    have hef : e ∉ [it, a] := by
      intro q
      rcases two q with z | z
      · exact hne z
      · exact hae z.symm
    refine wpAny_pyNext_enum_itemD D he ⟨hit, p⟩ hlt hne hef fun v h' tk hv ho hit' hT hsz hk => ?_
    obtain rfl : v = u := by
      have q : its.toArray[i]? = some v := hv
      rw [List.getElem?_toArray, hu] at q
      exact (Option.some.inj q).symm
    refine ⟨_, rfl, wpAny_letOwnedTupleGo_enum (s := { s with heap := h', toks := tk + 1 }) ho fun h2 he2 sb => ?_⟩
    have hT2 : h2.get? s.heap.objs.size = some { cls := .type "tuple", data := .seq #[.int i tk, v] } := (sb.2 _ (Nat.ne_of_gt l1)).trans hT
    have new : ObjOk X.prog X.w (upd H s.heap.objs.size (.tup [.int (i : Nat), x])) h2 s.heap.objs.size (.tup [.int (i : Nat), x]) :=
      ⟨by show 2 ≤ sizeLine; decide, [.int i tk, v], .cons ⟨_, rfl⟩ (.cons ru .nil), ⟨_, hT2, rfl, _, rfl⟩⟩
    have I1 := I.turnedNew (t' := tk + 1) (ch := [e, it]) (fun b ob hb q => (sb.2 b (fun z => hb (by simp [z]))).trans (hk b ob (fun z => hb (by simp [z])) (fun z => hb (by simp [z])) q)) hf (Nat.le_refl _) new
    refine ⟨.ref s.heap.objs.size, _, I1, rfl, ⟨_, x, rfl, I.hok.fresh (Nat.le_refl _), rfl, fun ys hy => by rw [I.tuple_inj hy hq]; exact hx⟩, ⟨⟨v, ?_⟩, ?_, hne, hai, hae⟩, fun b hb => ?_⟩
    · rw [show ((i + 1 : Nat) : Int) = (i : Int) + 1 by omega]
      exact he2
    · obtain ⟨o, q, r⟩ := hit'.1
      exact ⟨o, (sb.2 it (Ne.symm hne)).trans q, r⟩
    · rw [upd_ne (show b ≠ s.heap.objs.size from fun q => by
        rcases two hb with z | z
        · rw [← q, z] at l1; exact Nat.lt_irrefl _ l1
        · rw [← q, z] at l2; exact Nat.lt_irrefl _ l2)]
      exact (hf b hb).1
  done := by
    intro X hP hw hK hc i pins s σ H E I hf st hg
    subst hP hw hK
    obtain ⟨⟨old, he⟩, hit, hne, hai, hae⟩ := st
    obtain ⟨xs, hq, hx⟩ := hg
    obtain ⟨its, rv, p, hz⟩ := I.tuple hq
    have D := Draws.tuple (prog := X.prog) (w := X.w) (A := X.A.in1) (I.ok.hd hc) it a hai its.toArray
    have hl := rv.length
    have hn : i = its.toArray.size := by
      rw [List.size_toArray]
      omega
    subst hn
    refine wpAny_pyNext_enum_endD D he ⟨hit, p⟩ fun h' eb => ⟨rfl, I.turnedL (t' := s.toks) (ch := [e, it]) (fun b o hb q => eb b o (fun z => hb (by simp [z])) q) hf⟩
  self := fun A i s Q E st h => by
    obtain ⟨⟨_, he⟩, _⟩ := st
    exact wpAny_pyIter_enum he h
theorem meets_enumT (a : Addr) (xs : Array Value) :
    Meets (Builtin.«enumerate.__new__» ⟨[.type "enumerate", .ref a], []⟩) (fun _ R s => s.heap.IsTuple a xs ∧
      R (.ok (.ret (.ref (s.heap.push { cls := .type "tuple_iterator", data := .fields #[.ref a, .int 0 0] }).objs.size)))
        { s with heap := (s.heap.push { cls := .type "tuple_iterator", data := .fields #[.ref a, .int 0 0] }).push { cls := .type "enumerate", data := .fields #[.none, .bool false, .ref s.heap.objs.size, rawInt 0, .none, .none] } }) :=
  .of_wp fun prog w A R s h => by
    obtain ⟨hp, g, d, tk, os⟩ := s
    obtain ⟨hl, h⟩ := h
    have hsub := sub_enumerate
    have hL : Heap.IsTuple (Shared.heap ⟨hp, g, d, tk, os⟩) a xs := hl
    wp_walk
    refine wpAny_stack_any fun st => wpAny_pure ?_
    split
    · rename_i c _ _ _ _ _
      cases (c == Value.type "enumerate")
      all_goals
        wp_walk using wpAny_pyIter_tuple hL
        exact ⟨_, rfl, h⟩
    · wp_walk using wpAny_pyIter_tuple hL
      exact ⟨_, rfl, h⟩
section
variable {X : Cx}
def iEnumS (ta : TA) : TI := fun σ H R => ta σ H fun vs H1 => ∃ x, vs = [.str x] ∧ R (ItS x) H1
theorem pi_enumS {e : Expr} {ta : TA} {p pos tpos : Pos} {elts : List Expr} {kk : Nat} (hg : Gl X "enumerate") (hm : X.mg "enumerate" = none) (ha : PA X [e] ta) (hs : starEach [e] X.env = [(false, eval e X.env)] := by rfl) :
    PI X (.Tuple elts kk tpos) (.Call (.Name "enumerate" p) [e] [] pos) (iEnumS ta) := by
  refine ⟨fun pins s σ H R I h => Call_ (ld_blt I hg hm boot_enumerate (callWith_type1 (thn (ha.run pos pins s σ H _ I h) fun us s1 ⟨vs, H1, I1, r1, q1⟩ => ?_) hs rfl))⟩
  obtain ⟨x, ex, q⟩ := q1
  subst ex
  cases r1 with
  | cons r rr =>
    cases rr
    obtain ⟨t, rfl⟩ := r
    refine call_enumerate_str fun h' he hit hsz hk => wpAny_pyIter_enum he ?_
    refine ⟨s1.heap.objs.size + 1, _, _, _, H1, rfl, I1.kept (t' := s1.toks) hk, turn_enumS x t (s1.heap.objs.size + 1) s1.heap.objs.size, ⟨⟨.none, he⟩, hit, Nat.succ_ne_self _⟩, fun b hb => ?_, q⟩
    have hle : s1.heap.objs.size ≤ b := by
      rcases two hb with z | z <;> rw [z] <;> first | exact Nat.le_add_right _ _ | exact Nat.le_refl _
    exact I1.fpOk hle (I1.hok.fresh hle)
def iEnumT (K : PySem.W.Frag) (ta : TA) : TI := fun σ H R => ta σ H fun vs H1 => ∃ a xs, vs = [.ref a] ∧ SqT K H1 a xs ∧ R (ItT K a) H1
theorem pi_enumT {e : Expr} {ta : TA} {p pos tpos : Pos} {elts : List Expr} {kk : Nat} (hg : Gl X "enumerate") (hm : X.mg "enumerate" = none) (ha : PA X [e] ta) (hs : starEach [e] X.env = [(false, eval e X.env)] := by rfl) :
    PI X (.Tuple elts kk tpos) (.Call (.Name "enumerate" p) [e] [] pos) (iEnumT X.K ta) := by
  refine ⟨fun pins s σ H R I h => Call_ (ld_blt I hg hm boot_enumerate (callWith_type1 (thn (ha.run pos pins s σ H _ I h) fun us s1 ⟨vs, H1, I1, r1, q1⟩ => ?_) hs rfl))⟩
  obtain ⟨a, xs, ex, hq, q⟩ := q1
  subst ex
  cases r1 with
  | cons r rr =>
    cases rr
    cases r
    obtain ⟨its, rv, p', hz⟩ := I1.tuple hq
    obtain ⟨oa, hoa, _⟩ := id p'
    have la : a < s1.heap.objs.size := Heap.lt_size hoa
    refine callType_new F.called_enumerate (by decide) (F.typeCall_enumerate_1 _) (F.newCall_enumerate_1 _) (fun obj => F.args_object_init_2 obj _) F.entry_enumerate_new (meets_enumT a its.toArray) ⟨p', ?_⟩
    have hz : (s1.heap.push { cls := .type "tuple_iterator", data := .fields #[.ref a, .int 0 0] }).objs.size = s1.heap.objs.size + 1 := Heap.size_push ..
    show _ ∧ _
    rw [hz]
    have g1 := Heap.get?_push_size (s1.heap.push { cls := .type "tuple_iterator", data := .fields #[.ref a, .int 0 0] }) (o := { cls := .type "enumerate", data := .fields #[.none, .bool false, .ref s1.heap.objs.size, rawInt 0, .none, .none] }) rfl
    rw [hz] at g1
    have he : IsEnum ((s1.heap.push { cls := .type "tuple_iterator", data := .fields #[.ref a, .int 0 0] }).push { cls := .type "enumerate", data := .fields #[.none, .bool false, .ref s1.heap.objs.size, rawInt 0, .none, .none] }) (s1.heap.objs.size + 1) s1.heap.objs.size 0 .none := g1
    refine ⟨⟨_, he, rfl⟩, wpAny_pyIter_enum he ?_⟩
    refine ⟨s1.heap.objs.size + 1, _, _, _, H1, rfl, I1.kept (t' := s1.toks) fun b o e => Heap.get?_push_of_some _ (Heap.get?_push_of_some _ e), turn_enumT a (s1.heap.objs.size + 1) s1.heap.objs.size,
      ⟨⟨.none, he⟩, ⟨_, Heap.get?_push_of_some _ (Heap.get?_push_size _ rfl), rfl, rfl⟩, Nat.succ_ne_self _, Nat.ne_of_lt la, Nat.ne_of_lt (Nat.lt_succ_of_lt la)⟩, fun b hb => ?_, q⟩
    have hle : s1.heap.objs.size ≤ b := by
      rcases two hb with z | z <;> rw [z] <;> first | exact Nat.le_add_right _ _ | exact Nat.le_refl _
    exact I1.fpOk hle (I1.hok.fresh hle)
end
/-! ### loops over them -/
theorem for_enumS {x : Str} {g : TG} {tb : TS} {D : Ends} {σ : L2.St} {H : Hp} (Pv : Nat → L2.St → Hp → Prop) (h0 : Pv 0 σ H)
    (hs : ∀ (i c : Nat) (T : Addr) (σ : L2.St) (H : Hp), x.cps[i]? = some c → Pv i σ H → H T = none → g (.ref T) σ (upd H T (.tup [.int (i : Nat), .str ⟨#[c]⟩])) fun σ2 H2 => tb { D with nx := Pv (i + 1), ct := Pv (i + 1), bk := D.nx } σ2 H2)
    (hd : ∀ σ H, Pv x.cps.size σ H → D.nx σ H) :
    ∃ W : Nat → Nat → L2.St → Hp → Prop, (∃ m, W 0 m σ H) ∧ ∀ i m σ H, W i m σ H →
      ((ItS x).stop i H ∧ D.nx σ H) ∨ ((ItS x).go i H ∧ ∃ N : L2.St → Hp → Prop, (∀ σ' H', N σ' H' → ∃ m', m' < m ∧ W (i + 1) m' σ' H') ∧ ∀ v H', (ItS x).yld i H v H' → g v σ H' fun σ2 H2 => tb { D with nx := N, ct := N, bk := D.nx } σ2 H2) := by
  refine ⟨fun i m σ H => i + m = x.cps.size ∧ Pv i σ H, ⟨_, Nat.zero_add _, h0⟩, ?_⟩
  rintro i m σ H ⟨e, p⟩
  by_cases hm : m = 0
  · have e2 : i = x.cps.size := by omega
    refine .inl ⟨e2, hd σ H ?_⟩
    rw [← e2]
    exact p
  · refine .inr ⟨show i < x.cps.size by omega, Pv (i + 1), fun σ' H' p' => ⟨m - 1, by omega, by omega, p'⟩, ?_⟩
    rintro v H' ⟨T, c, rfl, hT, rfl, hc⟩
    exact hs i c T σ H hc p hT
theorem for_enumT {K : PySem.W.Frag} {a : Addr} {xs : List V} {g : TG} {tb : TS} {D : Ends} {σ : L2.St} {H : Hp} (Pv : Nat → L2.St → Hp → Prop) (h0 : Pv 0 σ H) (hq : ∀ i σ H, Pv i σ H → SqT K H a xs)
    (hs : ∀ (i : Nat) (x : V) (T : Addr) (σ : L2.St) (H : Hp), xs[i]? = some x → Pv i σ H → H T = none → g (.ref T) σ (upd H T (.tup [.int (i : Nat), x])) fun σ2 H2 => tb { D with nx := Pv (i + 1), ct := Pv (i + 1), bk := D.nx } σ2 H2)
    (hd : ∀ σ H, Pv xs.length σ H → D.nx σ H) :
    ∃ W : Nat → Nat → L2.St → Hp → Prop, (∃ m, W 0 m σ H) ∧ ∀ i m σ H, W i m σ H →
      ((ItT K a).stop i H ∧ D.nx σ H) ∨ ((ItT K a).go i H ∧ ∃ N : L2.St → Hp → Prop, (∀ σ' H', N σ' H' → ∃ m', m' < m ∧ W (i + 1) m' σ' H') ∧ ∀ v H', (ItT K a).yld i H v H' → g v σ H' fun σ2 H2 => tb { D with nx := N, ct := N, bk := D.nx } σ2 H2) := by
  refine ⟨fun i m σ H => i + m = xs.length ∧ Pv i σ H, ⟨_, Nat.zero_add _, h0⟩, ?_⟩
  rintro i m σ H ⟨e, p⟩
  by_cases hm : m = 0
  · have e2 : i = xs.length := by omega
    refine .inl ⟨⟨xs, hq i σ H p, e2⟩, hd σ H ?_⟩
    rw [← e2]
    exact p
  · have hi : i < xs.length := by omega
    refine .inr ⟨⟨xs, xs[i], hq i σ H p, List.getElem?_eq_getElem hi⟩, Pv (i + 1), fun σ' H' p' => ⟨m - 1, by omega, by omega, p'⟩, ?_⟩
    rintro v H' ⟨T, x, rfl, hT, rfl, hx⟩
    exact hs i x T σ H (hx xs (hq i σ H p)) p hT
theorem for_enumL {K : PySem.W.Frag} {a : Addr} {xs : List V} {g : TG} {tb : TS} {D : Ends} {σ : L2.St} {H : Hp} (Pv : Nat → L2.St → Hp → Prop) (h0 : Pv 0 σ H) (hq : ∀ i σ H, Pv i σ H → SqL K H a xs)
    (hs : ∀ (i : Nat) (x : V) (T : Addr) (σ : L2.St) (H : Hp), xs[i]? = some x → Pv i σ H → H T = none → g (.ref T) σ (upd H T (.tup [.int (i : Nat), x])) fun σ2 H2 => tb { D with nx := Pv (i + 1), ct := Pv (i + 1), bk := D.nx } σ2 H2)
    (hd : ∀ σ H, Pv xs.length σ H → D.nx σ H) :
    ∃ W : Nat → Nat → L2.St → Hp → Prop, (∃ m, W 0 m σ H) ∧ ∀ i m σ H, W i m σ H →
      ((Ite K a).stop i H ∧ D.nx σ H) ∨ ((Ite K a).go i H ∧ ∃ N : L2.St → Hp → Prop, (∀ σ' H', N σ' H' → ∃ m', m' < m ∧ W (i + 1) m' σ' H') ∧ ∀ v H', (Ite K a).yld i H v H' → g v σ H' fun σ2 H2 => tb { D with nx := N, ct := N, bk := D.nx } σ2 H2) := by
  refine ⟨fun i m σ H => i + m = xs.length ∧ Pv i σ H, ⟨_, Nat.zero_add _, h0⟩, ?_⟩
  rintro i m σ H ⟨e, p⟩
  by_cases hm : m = 0
  · have e2 : i = xs.length := by omega
    refine .inl ⟨⟨xs, hq i σ H p, by omega⟩, hd σ H ?_⟩
    rw [← e2]
    exact p
  · have hi : i < xs.length := by omega
    refine .inr ⟨⟨xs, xs[i], hq i σ H p, List.getElem?_eq_getElem hi⟩, Pv (i + 1), fun σ' H' p' => ⟨m - 1, by omega, by omega, p'⟩, ?_⟩
    rintro v H' ⟨T, x, rfl, hT, rfl, hx⟩
    exact hs i x T σ H (hx xs (hq i σ H p)) p hT
end EN

namespace TR
open PySem PySem.Spec PyProof.Rows L2 Evl
/-- a list or a tuple of these -/
def ob (k : Bool) (xs : List V) : HO := if k = true then .tup xs else .lst xs
theorem ob_seq {K : PySem.W.Frag} {H : Hp} {a : Addr} {k : Bool} {xs : List V} (h : H a = some (ob k xs)) : SqL K H a xs ∨ SqT K H a xs := by
  cases k
  · exact .inl (sq_of h)
  · exact .inr (st_of h)
theorem ob_list {K : PySem.W.Frag} {H : Hp} {a : Addr} {k : Bool} {xs : List V} (h : H a = some (ob k xs)) : TyX K H (.ref a) (if k = true then .type "tuple" else .type "list") := by
  cases k
  · exact .base (.lst h)
  · exact .base (.tup h)
theorem ob_ne {k : Bool} {xs : List V} {kvs : List (Key × V)} : ob k xs ≠ .dK kvs := by
  cases k <;> intro h <;> cases h
section
variable {X : Cx} {pos : Pos}
/-- a, b, .. = a list or a tuple of that length -/
def gSeq (K : PySem.W.Frag) (n : Nat) (t : TGs) : TG := fun v σ H Q => gUnl K n t v σ H Q ∨ gTup K n t v σ H Q
theorem pg_seq {es : List Expr} {k : Nat} {t : TGs} {n : Nat} (hc : X.calm = true) (h : PGs X es t)
    (hn : (assignEach es X.env).length = n := by rfl) (hst : (assignEach es X.env).findIdx? (·.1) = none := by rfl) : PG X (.Tuple es k pos) (gSeq X.K n t) := by
  refine ⟨fun pins s σ H v u Q I r hw => ?_⟩
  rcases hw with hw | hw
  · exact (pg_unl hc h hn hst).run pins s σ H v u Q I r hw
  · exact (pg_tup hc h hn hst).run pins s σ H v u Q I r hw
theorem gSeq_of {K : PySem.W.Frag} {n : Nat} {t : TGs} {H : Hp} {a : Addr} {k : Bool} {xs : List V} {σ : L2.St} {Q : L2.St → Hp → Prop} (h : H a = some (ob k xs)) (hl : xs.length = n) (q : t xs σ H Q) : gSeq K n t (.ref a) σ H Q := by
  cases k
  · exact .inl ⟨a, xs, rfl, sq_of h, hl, q⟩
  · exact .inr ⟨a, xs, rfl, st_of h, hl, q⟩
/-- a walk over either -/
def iSeq (K : PySem.W.Frag) (te : TE) : TI := fun σ H R => iList K te σ H R ∨ iTup K te σ H R
theorem pi_seq {tg e : Expr} {te : TE} (he : PE X e te) : PI X tg e (iSeq X.K te) := by
  refine ⟨fun pins s σ H R I h => ?_⟩
  rcases h with h | h
  · exact (pi_list he).run pins s σ H R I h
  · exact (pi_tup he).run pins s σ H R I h
def iEnumQ (K : PySem.W.Frag) (ta : TA) : TI := fun σ H R => iEnum K ta σ H R ∨ EN.iEnumT K ta σ H R
theorem pi_enumQ {e : Expr} {ta : TA} {p tpos : Pos} {elts : List Expr} {kk : Nat} (hg : Gl X "enumerate") (hm : X.mg "enumerate" = none) (ha : PA X [e] ta) (hs : starEach [e] X.env = [(false, eval e X.env)] := by rfl) :
    PI X (.Tuple elts kk tpos) (.Call (.Name "enumerate" p) [e] [] pos) (iEnumQ X.K ta) := by
  refine ⟨fun pins s σ H R I h => ?_⟩
  rcases h with h | h
  · exact (pi_enum hg hm ha hs).run pins s σ H R I h
  · exact (EN.pi_enumT hg hm ha hs).run pins s σ H R I h
theorem ix_at {K : PySem.W.Frag} {H : Hp} {a : Addr} {k : Bool} {xs : List V} {i : Int} {v : V} {Q : VK} (h : H a = some (ob k xs)) (hi : atI xs i = some v) (q : Q v H) : rIx K (.ref a) (.int i) H Q := by
  cases k
  · exact .inl ⟨a, xs, i, v, rfl, rfl, sq_of h, hi, q⟩
  · exact .inr (.inl ⟨a, xs, i, v, rfl, rfl, st_of h, hi, q⟩)
end
/-! ### trees -/
mutual
inductive Tr where
  | go (s q : Nat) : Tr
  | tell (n : Nat) (t : Tr) : Tr
  | read (p : Nat) (ts : Trs) : Tr
inductive Trs where
  | nil : Trs
  | cons (t : Tr) (r : Trs) : Trs
end
def Trs.list : Trs → List Tr
  | .nil => []
  | .cons t r => t :: r.list
mutual
def Tr.size : Tr → Nat
  | .go _ _ => 1
  | .tell _ t => t.size + 1
  | .read _ ts => ts.size + 1
def Trs.size : Trs → Nat
  | .nil => 0
  | .cons t r => t.size + r.size
end
mutual
def Tr.depth : Tr → Nat
  | .go _ _ => 1
  | .tell _ t => t.depth + 1
  | .read _ ts => ts.depth + 1
def Trs.depth : Trs → Nat
  | .nil => 0
  | .cons t r => max t.depth r.depth
end
/-! as described, for so many letters, this width, so many states -/
mutual
def Tr.ok (l w n : Nat) : Tr → Prop
  | .go s q => 1 ≤ s ∧ s ≤ w + 1 ∧ q < n
  | .tell k t => k ≤ 2 ∧ t.ok l w n
  | .read p ts => p ≤ w ∧ ts.list.length = l ∧ ts.ok l w n
def Trs.ok (l w n : Nat) : Trs → Prop
  | .nil => True
  | .cons t r => t.ok l w n ∧ r.ok l w n
end
/-- the trees within -/
def Tr.kids : Tr → List Tr
  | .go _ _ => []
  | .tell _ t => [t]
  | .read _ ts => ts.list
/-! how a tree stands in memory, of lists or of tuples -/
mutual
inductive TA (k : Bool) (H : Hp) : V → Tr → Prop
  | go {a : Addr} {s q : Nat} : H a = some (ob k [.str "go", .int (s : Nat), .int (q : Nat)]) → TA k H (.ref a) (.go s q)
  | tell {a : Addr} {n : Nat} {v : V} {t : Tr} : H a = some (ob k [.str "tell", .int (n : Nat), v]) → TA k H v t → TA k H (.ref a) (.tell n t)
  | read {a b : Addr} {p : Nat} {vs : List V} {ts : Trs} : H a = some (ob k [.str "read", .int (p : Nat), .ref b]) → H b = some (ob k vs) → TAs k H vs ts → TA k H (.ref a) (.read p ts)
inductive TAs (k : Bool) (H : Hp) : List V → Trs → Prop
  | nil : TAs k H [] .nil
  | cons {v : V} {vs : List V} {t : Tr} {r : Trs} : TA k H v t → TAs k H vs r → TAs k H (v :: vs) (.cons t r)
end
mutual
theorem TA.ex {k : Bool} {H H' : Hp} (e : Ex H H') : ∀ {t : Tr} {v : V}, TA k H v t → TA k H' v t
  | _, _, .go h => .go (e _ _ h)
  | _, _, .tell h r => .tell (e _ _ h) (TA.ex e r)
  | _, _, .read h1 h2 r => .read (e _ _ h1) (e _ _ h2) (TAs.ex e r)
theorem TAs.ex {k : Bool} {H H' : Hp} (e : Ex H H') : ∀ {ts : Trs} {vs : List V}, TAs k H vs ts → TAs k H' vs ts
  | _, _, .nil => .nil
  | _, _, .cons h r => .cons (TA.ex e h) (TAs.ex e r)
end
/-- a list of trees as it stands -/
inductive Kids (k : Bool) (H : Hp) : List V → List Tr → Prop
  | nil : Kids k H [] []
  | cons {v : V} {vs : List V} {t : Tr} {r : List Tr} : TA k H v t → Kids k H vs r → Kids k H (v :: vs) (t :: r)
theorem TAs.kids {k : Bool} {H : Hp} : ∀ {ts : Trs} {vs : List V}, TAs k H vs ts → Kids k H vs ts.list
  | _, _, .nil => .nil
  | _, _, .cons h r => .cons h r.kids
theorem Kids.ex {k : Bool} {H H' : Hp} (e : Ex H H') : ∀ {vs : List V} {ts : List Tr}, Kids k H vs ts → Kids k H' vs ts
  | _, _, .nil => .nil
  | _, _, .cons h r => .cons (h.ex e) (Kids.ex e r)
theorem Kids.len {k : Bool} {H : Hp} : ∀ {vs : List V} {ts : List Tr}, Kids k H vs ts → vs.length = ts.length
  | _, _, .nil => rfl
  | _, _, .cons _ r => by rw [List.length_cons, List.length_cons, r.len]
theorem Kids.get {k : Bool} {H : Hp} : ∀ {vs : List V} {ts : List Tr} {i : Nat} {x : V}, Kids k H vs ts → vs[i]? = some x → ∃ t, ts[i]? = some t ∧ TA k H x t
  | _, _, _, _, .nil, h => by cases h
  | _, _, 0, _, .cons (t := t) h1 _, h => ⟨t, rfl, by rw [← Option.some.inj h]; exact h1⟩
  | _, _, i + 1, _, .cons _ r, h => Kids.get (i := i) r h
theorem Kids.snoc {k : Bool} {H : Hp} {v : V} {t : Tr} (h : TA k H v t) : ∀ {vs : List V} {ts : List Tr}, Kids k H vs ts → Kids k H (vs ++ [v]) (ts ++ [t])
  | _, _, .nil => .cons h .nil
  | _, _, .cons h1 r => .cons h1 (Kids.snoc h r)
theorem Kids.app {k : Bool} {H : Hp} : ∀ {vs : List V} {ts : List Tr} {us : List V} {rs : List Tr}, Kids k H vs ts → Kids k H us rs → Kids k H (vs ++ us) (ts ++ rs)
  | _, _, _, _, .nil, h => h
  | _, _, _, _, .cons h r, h2 => .cons h (Kids.app r h2)
theorem size_pos : ∀ t : Tr, 1 ≤ t.size
  | .go _ _ => Nat.le_refl 1
  | .tell _ t => by
    show 1 ≤ t.size + 1
    omega
  | .read _ ts => by
    show 1 ≤ ts.size + 1
    omega
def total (ts : List Tr) : Nat := (ts.map Tr.size).sum
theorem Trs.total : ∀ ts : Trs, TR.total ts.list = ts.size
  | .nil => rfl
  | .cons t r => by
    show t.size + TR.total r.list = t.size + r.size
    rw [Trs.total r]
theorem size_kids : ∀ t : Tr, t.size = TR.total t.kids + 1
  | .go _ _ => rfl
  | .tell _ t => rfl
  | .read _ ts => by
    show ts.size + 1 = TR.total ts.list + 1
    rw [Trs.total]
theorem Trs.ok_mem {l w n : Nat} : ∀ {ts : Trs}, ts.ok l w n → ∀ t ∈ ts.list, t.ok l w n
  | .nil, _, _, h => nomatch h
  | .cons t r, h, x, hx => by
    rcases List.mem_cons.mp hx with q | q
    · rw [q]
      exact h.1
    · exact Trs.ok_mem h.2 x q
theorem ok_kids {l w n : Nat} : ∀ {t : Tr}, t.ok l w n → ∀ x ∈ t.kids, x.ok l w n
  | .go _ _, _, _, h => nomatch h
  | .tell _ t, h, x, hx => by
    rw [List.mem_singleton.mp hx]
    exact h.2
  | .read _ ts, h, x, hx => Trs.ok_mem h.2.2 x hx
theorem Trs.depth_mem : ∀ {ts : Trs}, ∀ t ∈ ts.list, t.depth ≤ ts.depth
  | .nil, _, h => nomatch h
  | .cons t r, x, hx => by
    rcases List.mem_cons.mp hx with q | q
    · rw [q]
      exact Nat.le_max_left _ _
    · exact Nat.le_trans (Trs.depth_mem x q) (Nat.le_max_right _ _)
theorem depth_kids : ∀ {t : Tr}, ∀ x ∈ t.kids, x.depth + 1 ≤ t.depth
  | .go _ _, _, h => nomatch h
  | .tell _ t, x, hx => by
    rw [List.mem_singleton.mp hx]
    exact Nat.le_refl _
  | .read _ ts, x, hx => Nat.succ_le_succ (Trs.depth_mem x hx)
end TR

/-! zip of a text and a tuple -/
namespace ZT
open PySem PySem.Spec PyProof.Rows L2
def ItzX (K : PySem.W.Frag) (x : Str) (b : Addr) (ys : List V) : It :=
  ⟨fun i H => SqT K H b ys ∧ i < x.cps.size ∧ i < ys.length,
   fun i H v H' => ∃ T c y, v = .ref T ∧ H T = none ∧ H' = upd H T (.tup [.str ⟨#[c]⟩, y]) ∧ x.cps[i]? = some c ∧ ys[i]? = some y,
   fun i H => SqT K H b ys ∧ i = min x.cps.size ys.length⟩
def StX (x : Str) (t : Tok) (b z TI TO i1 i2 : Addr) (i : Nat) (h : Heap) : Prop :=
  IsZip h z TI TO .none ∧ IsTupOf2 h TI (.ref i1) (.ref i2) ∧ (∃ a1 a2, IsTupOf2 h TO a1 a2) ∧ h.IsStrIter i1 (strIterType x) x t i ∧ h.IsTupleIter i2 b i
theorem walkX {prog : Program} {w : World} {A : Around} (hh : A.handled = none) {z TI TO i1 i2 b : Addr} (S : ZipSep2 z TI TO i1 i2 [i1] [i2, b]) (hne : b ≠ i2) (x : Str) (t : Tok) (items : Array Value) :
    WalksT prog w A z (z :: TI :: TO :: ([i1] ++ [i2, b])) [z, TO, i1, i2] (min x.cps.size items.size)
      (fun i vals => ∃ v1 v2, (∃ c u, x.cps[i]? = some c ∧ v1 = .str ⟨#[c]⟩ u) ∧ items[i]? = some v2 ∧ vals = #[v1, v2])
      (fun i h => IsZip h z TI TO .none ∧ IsTupOf2 h TI (.ref i1) (.ref i2) ∧ (∃ a1 a2, IsTupOf2 h TO a1 a2) ∧ h.IsStrIter i1 (strIterType x) x t i ∧ (h.IsTupleIter i2 b i ∧ h.IsTuple b items))
      (fun i T h => IsZip h z TI TO (rawInt T) ∧ IsTupOf2 h TI (.ref i1) (.ref i2) ∧ (∃ a1 a2, IsTupOf2 h TO a1 a2) ∧ h.IsStrIter i1 (strIterType x) x t (i + 1) ∧ (h.IsTupleIter i2 b (i + 1) ∧ h.IsTuple b items) ∧ T ≠ z ∧ T ≠ TO ∧ T ≠ i1 ∧ T ≠ i2) :=
  WalksT.zipD2 S (ZS.drawsS (A := A.in1) hh i1 x t) (Draws.tuple (A := A.in1) hh i2 b hne items)
theorem turnX {P : Program} {w : World} {K : PySem.W.Frag} {elts : List Expr} {kk : Nat} {tpos : Pos} {z TI TO i1 i2 b : Addr} (S : ZipSep2 z TI TO i1 i2 [i1] [i2, b]) (hne : b ≠ i2) (x : Str) (t : Tok) (ys : List V) :
    Turn P w K (.Tuple elts kk tpos) (ItzX K x b ys) [z, TI, TO, i1, i2] z (StX x t b z TI TO i1 i2) where
  mem := List.mem_cons_self
  obj := fun i h st c hc => by
    obtain ⟨q1, q2, ⟨a1, a2, q3⟩, ⟨o1, e1, _, d1⟩, ⟨o2, e2, _, d2⟩⟩ := st
    rcases ZS.fp5 hc with q | q | q | q | q
    all_goals subst q
    · exact ⟨_, q1, fun v q => nomatch q⟩
    · exact ⟨_, q2, fun v q => nomatch q⟩
    · exact ⟨_, q3, fun v q => nomatch q⟩
    · exact ⟨o1, e1, fun v q => by rw [d1] at q; cases q⟩
    · exact ⟨o2, e2, fun v q => by rw [d2] at q; cases q⟩
  keep := fun i h h' st k => by
    obtain ⟨q1, q2, ⟨a1, a2, q3⟩, ⟨o1, e1, r1⟩, ⟨o2, e2, r2⟩⟩ := st
    exact ⟨k z (by simp) _ q1, k TI (by simp) _ q2, ⟨a1, a2, k TO (by simp) _ q3⟩, ⟨o1, k i1 (by simp) _ e1, r1⟩, ⟨o2, k i2 (by simp) _ e2, r2⟩⟩
  item := by
    intro X hP hw hK hc i pins s σ H E I hf st hg
    subst hP hw hK
    obtain ⟨hq, hx1, hx2⟩ := hg
    obtain ⟨its, rv, p, _⟩ := I.tuple hq
    have ln := rv.length
    have W := walkX (prog := X.prog) (w := X.w) (A := X.A) (I.ok.hd hc) S hne x t its.toArray
    have hlt : i < min x.cps.size its.toArray.size := by
      have : i < its.toArray.size := by
        simp
        omega
      omega
    obtain ⟨q1, q2, q3, q4, q5⟩ := st
    refine W.item i s _ _ hlt ⟨q1, q2, q3, q4, q5, p⟩ fun T vals h' tk hv hT hIs hm hk => ?_
    refine ⟨.ref T, rfl, ?_⟩
    refine W.go elts kk tpos i T { s with heap := h', toks := tk } _ _ hm fun h2 st2 hk2 => ?_
    obtain ⟨v1, v2, ⟨c, u1, hc1, rfl⟩, hd1, rfl⟩ := hv
    obtain ⟨y, hy, ry⟩ : ∃ y, ys[i]? = some y ∧ RelV y v2 := by
      have e1 : its[i]? = some v2 := by simpa using hd1
      obtain ⟨y, hy⟩ : ∃ y, ys[i]? = some y := ⟨_, List.getElem?_eq_getElem hx2⟩
      obtain ⟨v3, e3, r3⟩ := rv.get hy
      rw [e1] at e3
      cases e3
      exact ⟨y, hy, r3⟩
    have ap : T ∉ [z, TO, i1, i2] := W.apart i T h' hm
    have up : ∀ b o, b ∉ [z, TO, i1, i2] → s.heap.get? b = some o → h2.get? b = some o := fun b o hb e => hk2 b o hb (hk b o hb e)
    have hT2 : h2.IsTuple T #[.str ⟨#[c]⟩ u1, v2] := hIs.at fun o e => hk2 T o ap e
    obtain ⟨oT, eT, cT, nT, dT⟩ := hT2
    have new : ObjOk X.prog X.w (upd H T (.tup [.str ⟨#[c]⟩, y])) h2 T (.tup [.str ⟨#[c]⟩, y]) :=
      ⟨by show 2 ≤ sizeLine; decide, [.str ⟨#[c]⟩ u1, v2], .cons ⟨u1, rfl⟩ (.cons ry .nil), ⟨oT, eT, cT, nT, dT⟩⟩
    have sub : ∀ b, b ∉ [z, TI, TO, i1, i2] → b ∉ [z, TO, i1, i2] := fun b hb hb2 => hb (by
      have q : b = z ∨ b = TO ∨ b = i1 ∨ b = i2 := by simpa using hb2
      rcases q with q | q | q | q <;> simp [q])
    have I1 := I.turnedNew (t' := tk) (ch := [z, TI, TO, i1, i2]) (fun b o hb e => up b o (sub b hb) e) hf hT new
    obtain ⟨s1, s2, s3, s4, s5, s6⟩ := st2
    refine ⟨.ref T, _, I1, rfl, ⟨T, c, y, rfl, I.hok.fresh hT, rfl, hc1, hy⟩, ⟨s1, s2, s3, s4, s5⟩, fun b hb => ?_⟩
    have hlb : b < s.heap.objs.size := by
      obtain ⟨a1, a2, r3⟩ := q3
      obtain ⟨o1, e1, r1⟩ := q4
      obtain ⟨o2, e2, r2⟩ := q5
      rcases ZS.fp5 hb with q | q | q | q | q
      · rw [q]; exact Heap.lt_size q1
      · rw [q]; exact Heap.lt_size q2
      · rw [q]; exact Heap.lt_size r3
      · rw [q]; exact Heap.lt_size e1
      · rw [q]; exact Heap.lt_size e2
    rw [upd_ne (show b ≠ T from fun e => absurd hT (by rw [← e]; exact Nat.not_le.mpr hlb))]
    exact (hf b hb).1
  done := by
    intro X hP hw hK hc i pins s σ H E I hf st hg
    subst hP hw hK
    obtain ⟨hq, hi⟩ := hg
    obtain ⟨its, rv, p, _⟩ := I.tuple hq
    have ln := rv.length
    have W := walkX (prog := X.prog) (w := X.w) (A := X.A) (I.ok.hd hc) S hne x t its.toArray
    have e : i = min x.cps.size its.toArray.size := by
      rw [hi, ln]
      rfl
    subst e
    obtain ⟨q1, q2, q3, q4, q5⟩ := st
    refine W.done s _ _ ⟨q1, q2, q3, q4, q5, p⟩ fun h' tk hk => ⟨rfl, ?_⟩
    refine I.turnedL (t' := tk) (ch := [z, TI, TO, i1, i2]) (fun b o hb e => hk b o (fun hb2 => hb ?_) e) hf
    have q : b = z ∨ b = TO ∨ b = i1 ∨ b = i2 := by simpa using hb2
    rcases q with q | q | q | q <;> simp [q]
  self := fun A i s Q E st h => wpAny_pyIter_zip st.1 h
abbrev g1 (h : Heap) (x : Str) (t : Tok) : Heap := h.push { cls := .type (strIterType x), data := .fields #[.str x t, .int 0 0] }
abbrev g2 (h : Heap) (x : Str) (t : Tok) (b : Addr) : Heap := (g1 h x t).push { cls := .type "tuple_iterator", data := .fields #[.ref b, .int 0 0] }
abbrev g3 (h : Heap) (x : Str) (t : Tok) (b : Addr) : Heap := (g2 h x t b).push { cls := .type "tuple", data := .seq #[.ref h.objs.size, .ref (g1 h x t).objs.size] }
abbrev g4 (h : Heap) (x : Str) (t : Tok) (b : Addr) : Heap := (g3 h x t b).push { cls := .type "tuple", data := .seq #[.none, .none] }
abbrev g5 (h : Heap) (x : Str) (t : Tok) (b : Addr) : Heap := (g4 h x t b).push { cls := .type "zip", data := .fields #[.none, .bool false, .bool false, .ref (g2 h x t b).objs.size, .ref (g3 h x t b).objs.size] }
theorem meetsX (x : Str) (t : Tok) (b : Addr) (ys : Array Value) :
    Meets (Builtin.«zip.__new__» ⟨[.type "zip", .str x t, .ref b], []⟩) (fun _ R s => s.heap.IsTuple b ys ∧ R (.ok (.ret (.ref (g4 s.heap x t b).objs.size))) { s with heap := g5 s.heap x t b }) :=
  .of_wp fun prog w A R s h => by
    obtain ⟨hp, gg, d, tk, os⟩ := s
    obtain ⟨hl, h⟩ := h
    have hsub := sub_zip
    have hL2 : Heap.IsTuple (Shared.heap ⟨hp.push { cls := .type (strIterType x), data := .fields #[.str x t, .int 0 0] }, gg, d, tk, os⟩) b ys := Heap.IsTuple.push hl _
    wp_walk using wpAny_pyIter_strU, wpAny_pyIter_tuple hL2
    exact ⟨_, rfl, h⟩
theorem callX {prog : Program} {w : World} {A : Around} {E : Value → Shared → Prop} {s : Shared} {x : Str} {t : Tok} {b : Addr} {ys : Array Value} {Q : Value → Shared → Prop} (hb : s.heap.IsTuple b ys)
    (h : ∀ h', StX x t b (s.heap.objs.size + 4) (s.heap.objs.size + 2) (s.heap.objs.size + 3) s.heap.objs.size (s.heap.objs.size + 1) 0 h' → (∀ c o, s.heap.get? c = some o → h'.get? c = some o) → Q (.ref (s.heap.objs.size + 4)) { s with heap := h' }) :
    wpAny (model prog w) A (call (.type "zip") [.str x t, .ref b]) Q E s := by
  refine callType_new F.called_zip (by decide) (F.typeCall_zip_2 _ _) (F.newCall_zip_2 _ _) (fun obj => F.args_object_init_3 obj _ _) F.entry_zip_new (meetsX x t b ys) ⟨hb, ?_⟩
  have n1 : (g1 s.heap x t).objs.size = s.heap.objs.size + 1 := Heap.size_push ..
  have n2 : (g2 s.heap x t b).objs.size = s.heap.objs.size + 2 := by rw [Heap.size_push, n1]
  have n3 : (g3 s.heap x t b).objs.size = s.heap.objs.size + 3 := by rw [Heap.size_push, n2]
  have n4 : (g4 s.heap x t b).objs.size = s.heap.objs.size + 4 := by rw [Heap.size_push, n3]
  have k5 : (g5 s.heap x t b).get? (g4 s.heap x t b).objs.size = some _ := Heap.get?_push_size _ rfl
  have k4 : (g5 s.heap x t b).get? (g3 s.heap x t b).objs.size = some _ := Heap.get?_push_of_some _ (Heap.get?_push_size _ rfl)
  have k3 : (g5 s.heap x t b).get? (g2 s.heap x t b).objs.size = some _ := Heap.get?_push_of_some _ (Heap.get?_push_of_some _ (Heap.get?_push_size _ rfl))
  have k2 : (g5 s.heap x t b).get? (g1 s.heap x t).objs.size = some _ := Heap.get?_push_of_some _ (Heap.get?_push_of_some _ (Heap.get?_push_of_some _ (Heap.get?_push_size _ rfl)))
  have k1 : (g5 s.heap x t b).get? s.heap.objs.size = some _ := Heap.get?_push_of_some _ (Heap.get?_push_of_some _ (Heap.get?_push_of_some _ (Heap.get?_push_of_some _ (Heap.get?_push_size _ rfl))))
  show _ ∧ _
  rw [n2, n3, n4] at k5
  rw [n1, n2] at k3
  rw [n3] at k4
  rw [n1] at k2
  rw [n4]
  exact ⟨⟨_, k5, rfl⟩, h _ ⟨k5, k3, ⟨_, _, k4⟩, ⟨_, k1, rfl, rfl⟩, ⟨_, k2, rfl, rfl⟩⟩ fun c o e =>
    Heap.get?_push_of_some _ (Heap.get?_push_of_some _ (Heap.get?_push_of_some _ (Heap.get?_push_of_some _ (Heap.get?_push_of_some _ e))))⟩
theorem sepX {n b : Nat} (h : b < n) : ZipSep2 (n + 4) (n + 2) (n + 3) n (n + 1) [n] [n + 1, b] := by
  have k1 : ∀ k : Nat, n + k ≠ b := fun k e => by omega
  constructor <;> first | omega | (simp; done) | (simp; exact k1 _) | (simp; exact k1 0)
def iZipX (K : PySem.W.Frag) (ta : TA) : TI := fun σ H R => ta σ H fun vs H1 => ∃ x b ys, vs = [.str x, .ref b] ∧ SqT K H1 b ys ∧ R (ItzX K x b ys) H1
theorem pi_zipX {X : Cx} {e e2 : Expr} {ta : TA} {p pos tpos : Pos} {elts : List Expr} {kk : Nat} (hg : Gl X "zip") (hm : X.mg "zip" = none) (ha : PA X [e, e2] ta)
    (hs : starEach [e, e2] X.env = (false, eval e X.env) :: starEach [e2] X.env := by rfl) (hpl : (backTo pos (starEach [e2] X.env)).any (·.1) = false := by rfl) :
    PI X (.Tuple elts kk tpos) (.Call (.Name "zip" p) [e, e2] [] pos) (iZipX X.K ta) := by
  refine ⟨fun pins s σ H R I h => ?_⟩
  refine Call_ (ld_blt I hg hm boot_zip (callWith_type1 (thn (ha.run pos pins s σ H _ I h) fun us s1 ⟨vs, H1, I1, r1, q1⟩ => ?_) hs hpl))
  obtain ⟨x, b, ys, ex, hq, q⟩ := q1
  subst ex
  cases r1 with
  | cons r rr =>
    cases rr with
    | cons r' rr =>
      cases rr
      obtain ⟨t, rfl⟩ := r
      cases r'
      obtain ⟨its, rv, p1, _⟩ := I1.tuple hq
      obtain ⟨o1, ho1, _⟩ := id p1
      have hb := Heap.lt_size ho1
      refine callX (show s1.heap.IsTuple b its.toArray from p1) fun h' st hk => wpAny_pyIter_zip st.1 ?_
      have I2 : Inv X pins σ H1 { s1 with heap := h' } := I1.kept (t' := s1.toks) hk
      refine ⟨s1.heap.objs.size + 4, _, _, _, H1, rfl, I2, turnX (sepX hb) (Nat.ne_of_lt (Nat.lt_succ_of_lt hb)) x t ys, st, fun c hcm => ?_, q⟩
      have hle : s1.heap.objs.size ≤ c := by
        rcases ZS.fp5 hcm with z | z | z | z | z <;> rw [z] <;> first | exact Nat.le_add_right _ _ | exact Nat.le_refl _
      exact I1.fpOk hle (I1.hok.fresh hle)
/-- a comprehension over it -/
theorem lc_zipX {K : PySem.W.Frag} {x : Str} {b : Addr} {ys : List V} {g : TG} {tt : TT} {te : TE} {vs : List Nat} {σ : L2.St} {H1 : Hp} {D : Addr} {Qd : Hp → Prop} (hl : x.cps.size = ys.length) (Pv : Nat → Hp → Prop) (h0 : Pv 0 (upd H1 D (.lst []))) (hq : ∀ i H, Pv i H → H b = some (.tup ys))
    (hs : ∀ i c y T H, x.cps[i]? = some c → ys[i]? = some y → Pv i H → H T = none → g (.ref T) (wipe σ vs) (upd H T (.tup [.str ⟨#[c]⟩, y])) fun σ2 H2 => wipe σ2 vs = wipe σ vs ∧ tt σ2 H2 fun b H3 =>
      if b = true then te σ2 H3 fun z H4 => ∃ acc, H4 D = some (.lst acc) ∧ acc.length < sizeLine ∧ Pv (i + 1) (upd H4 D (.lst (acc ++ [z]))) else Pv (i + 1) H3) (hd : ∀ H, Pv ys.length H → Qd H) :
    ∃ W : Nat → Nat → Hp → Prop, (∃ m, W 0 m (upd H1 D (.lst []))) ∧ ∀ i m H, W i m H →
      ((ItzX K x b ys).stop i H ∧ Qd H) ∨ ((ItzX K x b ys).go i H ∧ ∃ Nx : Hp → Prop, (∀ H', Nx H' → ∃ m', m' < m ∧ W (i + 1) m' H') ∧ ∀ v H', (ItzX K x b ys).yld i H v H' → g v (wipe σ vs) H' fun σ2 H2 => wipe σ2 vs = wipe σ vs ∧ tt σ2 H2 fun b H3 =>
        if b = true then te σ2 H3 fun z H4 => ∃ acc, H4 D = some (.lst acc) ∧ acc.length < sizeLine ∧ Nx (upd H4 D (.lst (acc ++ [z]))) else Nx H3) := by
  refine ⟨fun i m H => i + m = ys.length ∧ Pv i H, ⟨_, Nat.zero_add _, h0⟩, ?_⟩
  rintro i m H ⟨e, p⟩
  have hb := hq i H p
  by_cases hm : m = 0
  · have e2 : i = ys.length := by omega
    refine .inl ⟨⟨Evl.st_of hb, by omega⟩, hd H ?_⟩
    rw [← e2]
    exact p
  · refine .inr ⟨⟨Evl.st_of hb, by omega, by omega⟩, Pv (i + 1), fun H' p' => ⟨m - 1, by omega, by omega, p'⟩, ?_⟩
    rintro v H' ⟨T, c, y, rfl, hT, rfl, hc, hy⟩
    exact hs i c y T H hc hy p hT
end ZT

/-! a, *rest = a list -/
namespace SL
open PySem PySem.Spec PyProof.Rows L2
theorem walk_tail {prog : Program} {w : World} {A : Around} {I : Addr} {fp wr : List Addr} {G : Array GenState → Array GenState → Prop} {n : Nat} {P : Nat → Value → Prop} {St : Nat → Shared → Prop} (W : WalksS prog w A I fp wr G (n + 1) P St) :
    WalksS prog w A I fp wr G n (fun i => P (i + 1)) (fun i => St (i + 1)) where
  sub := W.sub
  grefl := W.grefl
  gtrans := W.gtrans
  frame := fun i s h' tk st ht hk => W.frame (i + 1) s h' tk st ht hk
  item := fun i s Q E hi st h => W.item (i + 1) s Q E (by omega) st h
  done := fun s Q E st h => W.done s Q E st h
  self := fun i s Q E st h => W.self (i + 1) s Q E st h
section
variable {prog : Program} {w : World} {A : Around} {E : Value → Shared → Prop} {s : Shared}
theorem unpack_star {a : Addr} {x : Value} {xs : List Value} {targets : List (Bool × (Value → Sem Unit))} {Q : Unit → Shared → Prop} (hh : A.handled = none) (hl : s.heap.IsList a (x :: xs).toArray) (hz : xs.length ≤ sizeLine) (hn : targets.length = 2) (hstar : targets.findIdx? (·.1) = some 1)
    (h : ∀ s' : Shared, s'.gens = s.gens → s'.drawn = s.drawn → s'.os = s.os → (∀ b o, s.heap.get? b = some o → s'.heap.get? b = some o) → wpAny (model prog w) A (assignInOrder (targets.map (·.2)) [x, .ref s'.heap.objs.size]) Q E { s' with heap := s'.heap.push { cls := .type "list", data := .seq xs.toArray } }) :
    wpAny (model prog w) A (unpack (.ref a) targets) Q E s := by
  unfold unpack
  rw [hn, hstar]
  refine wpAny_bind (wpAny_holding ?_)
  unfold unpackItems
  refine wpAny_bind ?_
  unfold notIterableAtAll
  refine wpAny_bind (wpAny_specialOf hl.typeIs slot_list_iter.lookup ?_)
  refine wpAny_pure ?_
  simp only [Bool.false_eq_true, if_false]
  have hne : a ≠ s.heap.objs.size := by
    obtain ⟨o, ho, _⟩ := hl
    exact Nat.ne_of_lt (Heap.lt_size ho)
  refine wpAny_bind (wpAny_holding (wpAny_pyIter_list hl ?_))
  have hit : (s.heap.push { cls := .type "list_iterator", data := .fields #[.ref a, .int 0 0] }).IsListIter s.heap.objs.size a 0 := ⟨_, Heap.get?_push_size _ rfl, rfl, rfl⟩
  have hl2 : (s.heap.push { cls := .type "list_iterator", data := .fields #[.ref a, .int 0 0] }).IsList a (x :: xs).toArray := hl.push _
  have hk : ∀ b o, s.heap.get? b = some o → (s.heap.push { cls := .type "list_iterator", data := .fields #[.ref a, .int 0 0] }).get? b = some o := fun b o e => Heap.get?_push_of_some _ e
  have hlt : s.heap.objs.size < (s.heap.push { cls := .type "list_iterator", data := .fields #[.ref a, .int 0 0] }).objs.size := by
    rw [Heap.size_push]
    exact Nat.lt_succ_self _
  generalize s.heap.push { cls := .type "list_iterator", data := .fields #[.ref a, .int 0 0] } = h1 at hit hl2 hk hlt
  refine wpAny_bind (wpAny_holding ?_)
  unfold draw
  refine wpAny_bind (wpAny_pyNext_list_item (s := { s with heap := h1 }) hit hl2 (x := x) rfl fun h2 hit2 hs2 => ?_)
  unfold draw
  refine wpAny_bind (wpAny_holding (wpAny_pure (wpAny_pure ?_)))
  simp only [List.length_cons, List.length_nil]
  rw [if_neg (by decide)]
  have hl3 : h2.IsList a (x :: xs).toArray := hl2.extBut hs2.extBut hne
  have hlt2 : s.heap.objs.size < h2.objs.size := by
    obtain ⟨o, ho, _⟩ := hit2
    exact Heap.lt_size ho
  have W : WalksS prog w A.in1 s.heap.objs.size [s.heap.objs.size, a] [s.heap.objs.size] (fun a b => b = a) xs.length (fun i v => (x :: xs).toArray[i + 1]? = some v) (fun i s' => s'.heap.IsListIter s.heap.objs.size a (i + 1) ∧ s'.heap.IsList a (x :: xs).toArray) :=
    walk_tail (Walks.list (A := A.in1) hh s.heap.objs.size a hne (x :: xs).toArray).toS
  refine wpAny_bind (wpAny_holding (wpAny_collect_iter (s := { s with heap := h2 }) (.inr (.inr (.inl rfl))) W (fun i s' st => let ⟨o, ho, hc, _⟩ := st.1; ⟨o, ho, hc⟩) ⟨hit2, hl3⟩ (fun b hb => ?_) (by simp) (fun s' acc hm ha => ?_) hz))
  · rcases List.mem_cons.mp hb with e | hb
    · rw [e]
      exact hlt2
    · rw [List.mem_singleton.mp hb]
      obtain ⟨o, ho, _⟩ := hl3
      exact Heap.lt_size ho
  · have sz : acc.size = xs.length := ha.1
    have eacc : acc.toList = xs := by
      apply List.ext_getElem?
      intro j
      by_cases hj : j < xs.length
      · have hj2 : j < acc.size := by omega
        have z := ha.2 j _ (Array.getElem?_eq_getElem hj2)
        rw [Array.getElem?_toList, Array.getElem?_eq_getElem hj2, ← z]
        simp
      · have hj2 : acc.toList.length ≤ j := by
          rw [Array.length_toList]
          omega
        rw [List.getElem?_eq_none hj2, List.getElem?_eq_none (by omega)]
    rw [eacc]
    have e0 : (2 - 1 - 1 : Nat) = 0 := rfl
    rw [if_neg (by omega)]
    refine wpAny_bind (wpAny_newList (s := s') ?_ (by rw [List.length_take]; omega))
    refine wpAny_pure ?_
    have t1 : xs.take (xs.length - (2 - 1 - 1)) = xs := List.take_of_length_le (by omega)
    have t2 : xs.drop (xs.length - (2 - 1 - 1)) = [] := List.drop_of_length_le (by omega)
    rw [t1, t2]
    show wpAny _ _ (assignInOrder (targets.map (·.2)) [x, .ref s'.heap.objs.size]) _ _ _
    have low : ∀ b o, s.heap.get? b = some o → b ≠ s.heap.objs.size := fun b o e => Nat.ne_of_lt (Heap.lt_size e)
    have k3 : ∀ b o, s.heap.get? b = some o → s'.heap.get? b = some o := fun b o e => hm.heap b o (fun z => low b o e (List.mem_singleton.mp z)) (hs2.extBut b o (low b o e) (hk b o e))
    exact h s' hm.gens hm.drawn hm.os k3
end
/-- (a, *b) = a list that has one part at least -/
def gStarL (t1 t2 : TG) : TG := fun v σ H Q => ∃ a x xs, v = .ref a ∧ H a = some (.lst (x :: xs)) ∧ ∀ p, H p = none → t1 x σ (upd H p (.lst xs)) fun σ1 H1 => t2 (.ref p) σ1 H1 Q
theorem pg_starL {X : Cx} {e1 e2 : Expr} {sp pos : Pos} {k : Nat} {t1 t2 : TG} (hc : X.calm = true) (h1 : PG X e1 t1) (h2 : PG X e2 t2) (hst : (assignEach [e1, .Starred e2 sp] X.env).findIdx? (·.1) = some 1 := by rfl)
    (hs : (assignEach [e1, .Starred e2 sp] X.env).map (·.2) = [assign e1 X.env, assign e2 X.env] := by rfl) : PG X (.Tuple [e1, .Starred e2 sp] k pos) (gStarL t1 t2) := by
  refine ⟨fun pins s σ H v u Q I r hw => ?_⟩
  obtain ⟨a, x, xs, e, ha, hw⟩ := hw
  subst e
  cases r
  obtain ⟨its, rv, hl, hz⟩ := I.list (Evl.sq_of ha)
  cases rv with
  | @cons _ u1 _ us r1 rr =>
    have hz2 : us.length ≤ sizeLine := by
      have z := rr.length
      simp only [List.length_cons] at hz
      omega
    rw [assign_Tuple]
    refine wpAny_bind (wpAny_standAt (unpack_star (I.ok.hd hc) hl.isList hz2 (by have z := congrArg List.length hs; simpa using z) hst fun s' hg hd ho hk => ?_))
    rw [hs]
    have I1 : Inv X pins σ H s' := by
      obtain ⟨h0, g0, d0, k0, o0⟩ := s
      obtain ⟨h9, g9, d9, k9, o9⟩ := s'
      cases hg
      cases hd
      cases ho
      exact I.kept (t' := k9) hk
    have hp : H s'.heap.objs.size = none := I1.hok.fresh (Nat.le_refl _)
    have hxs : xs.length ≤ sizeLine := by rw [rr.length]; exact hz2
    have I2 : Inv X pins σ (upd H s'.heap.objs.size (.lst xs)) { s' with heap := s'.heap.push { cls := .type "list", data := .seq us.toArray } } :=
      I1.laid (t' := s'.toks) (fun b o q => Heap.get?_push_of_some _ q) (Nat.le_refl _) ⟨hxs, us, _, rr, Heap.get?_push_size _ rfl⟩
    refine assignInOrder_cons (thn (h1.run pins _ σ _ _ _ _ I2 r1 (hw _ hp)) fun _ s2 ⟨σ1, H1, I3, q1⟩ => ?_)
    refine assignInOrder_cons (thn (h2.run pins s2 σ1 H1 (.ref s'.heap.objs.size) _ Q I3 rfl q1) fun _ s3 q3 => ?_)
    exact assignInOrder_nil q3
end SL

/-! cls(..), cls a name that holds an own class -/
namespace MV
open PySem PySem.Spec PyProof.Rows L2
def tMakeV (C : Addr) (sp : Sp) (E : XK) (tf : TE) (t : TA) : TE := fun σ H Q => tf σ H fun v H1 => v = .ref C ∧ t σ H1 fun vs H2 => ∀ x dx, H2 x = none → H2 dx = none → dx ≠ x → sp (.ref x :: (vs ++ [])) (upd (upd H2 dx (.own x)) x (.ins C dx [])) (fun v H3 => v = .non ∧ Q (.ref x) H3) E
theorem pe_makeV {X : Cx} {CX : CXT} {k : Nat} {f C : Addr} {fd : FuncData} {ps : List Str} {sp : Sp} {E : XK} {x : Str} {p pos : Pos} {e : Expr} {es : List Expr} {tf : TE} {t : TA} (hf : PE X (.Name x p) tf) (M : Mk X.K C f) (F : FnOk X.prog X.w X.K X.mg X.base CX k f fd ps sp) (hr : Room (k + 1) X.A)
    (hb : Binds X.K fd ps []) (hx : Passes CX X E) (ha : PA X (e :: es) t) (he : starEach (e :: es) X.env = (false, eval e X.env) :: starEach es X.env := by rfl) (hpl : (backTo pos (starEach es X.env)).any (·.1) = false := by rfl) :
    PE X (.Call (.Name x p) (e :: es) [] pos) (tMakeV C sp E tf t) := by
  refine ⟨fun pins s σ H Q I h => ?_⟩
  refine wpAny_Call_Name_kw (thn (hf.run pins s σ H _ I h) fun u s0 ⟨v, H0, I0, r0, ev, q0⟩ => ?_)
  subst ev
  obtain rfl : u = Value.ref C := r0
  refine PySem.W.callWith_K (h₀ := X.base) I0.ok.mod.kin M.kp (thn (ha.run pos pins s0 σ H0 _ I0 q0) fun us s1 ⟨vs, H1, I1, r1, q1⟩ => ⟨I1.kIn, ?_⟩) he hpl
  exact run_make M F hr hb .nil hx I1 r1 q1
end MV

/-! texts of trees, their words -/
namespace TT
open PySem PySem.Spec PyProof.Rows L2 TR
def S (l : List Nat) : Str := ⟨l.toArray⟩
theorem tl_S (l : List Nat) : TL.tl (S l) = l := by simp [S, TL.tl]
theorem S_app (a b : List Nat) : S a ++ S b = S (a ++ b) := TL.ext_tl (by rw [TL.tl_append, tl_S, tl_S, tl_S])
theorem S_len (a : List Nat) : (S a).length = a.length := by rw [TL.len_tl, tl_S]
/-! ### words: cut at blanks, then without the signs at both ends -/
theorem tw_le (p : Nat → Bool) (l : List Nat) : (l.takeWhile p).length ≤ l.length := (List.takeWhile_sublist p).length_le
def cut : List Nat → List (List Nat)
  | [] => [[]]
  | c :: r => if c = 32 then [] :: cut r else match cut r with
    | [] => [[c]]
    | w :: ws => (c :: w) :: ws
theorem cut_ne : ∀ l, cut l ≠ []
  | [], h => by cases h
  | c :: r, h => by
    unfold cut at h
    split at h
    · cases h
    · split at h <;> cases h
theorem cut_miss {c : Nat} {r : List Nat} (h : c ≠ 32) : ∃ w ws, cut r = w :: ws ∧ cut (c :: r) = (c :: w) :: ws := by
  cases e : cut r with
  | nil => exact absurd e (cut_ne r)
  | cons w ws =>
    refine ⟨w, ws, rfl, ?_⟩
    show (if c = 32 then [] :: cut r else match cut r with | [] => [[c]] | w :: ws => (c :: w) :: ws) = _
    rw [if_neg h, e]
theorem cut_hit (r : List Nat) : cut (32 :: r) = [] :: cut r := rfl
theorem spl_cut : ∀ (l acc : List Nat), TL.spl [32] 0 acc l = match cut l with | [] => [] | w :: ws => (acc ++ w) :: ws
  | [], acc => by
    show [acc] = [acc ++ []]
    rw [List.append_nil]
  | c :: r, acc => by
    by_cases h : c = 32
    · subst h
      rw [TL.spl_hit (show TL.pre [32] (32 :: r) = true from TL.pre_self [32] r), cut_hit]
      show acc :: TL.spl [32] 0 [] r = _
      rw [spl_cut r []]
      show _ = (acc ++ []) :: cut r
      rw [List.append_nil]
      cases e : cut r with
      | nil => exact absurd e (cut_ne r)
      | cons w ws => rfl
    · rw [TL.spl_miss (TL.pre_of_head [] r h), spl_cut r (acc ++ [c])]
      obtain ⟨w, ws, e1, e2⟩ := cut_miss (r := r) h
      rw [e1, e2]
      show (acc ++ [c] ++ w) :: ws = (acc ++ c :: w) :: ws
      rw [List.append_assoc]
      rfl
theorem split_cut (l : List Nat) : Txt.split (S l) (S [32]) = (cut l).map S := by
  refine TL.map_tl_inj ?_
  rw [TL.split_spl _ _ (by rw [tl_S]; simp) (TL.kind_ok (by decide +kernel)), tl_S, tl_S, spl_cut, List.map_map]
  cases e : cut l with
  | nil => exact absurd e (cut_ne l)
  | cons w ws =>
    have e2 : (TL.tl ∘ S) = id := funext fun x => tl_S x
    rw [e2, List.map_id]
    rfl
theorem cut_app : ∀ a b : List Nat, cut (a ++ 32 :: b) = cut a ++ cut b
  | [], b => rfl
  | c :: r, b => by
    rw [List.cons_append]
    by_cases h : c = 32
    · subst h
      rw [cut_hit, cut_hit, cut_app r b]
      rfl
    · obtain ⟨w, ws, e1, e2⟩ := cut_miss (r := r) h
      obtain ⟨w', ws', e3, e4⟩ := cut_miss (r := r ++ 32 :: b) h
      rw [cut_app r b, e1] at e3
      rw [List.cons_append] at e3
      injection e3 with q1 q2
      rw [e4, e2, ← q1, ← q2]
      rfl
/-- the signs at both ends left out -/
def goes (c : Nat) : Bool := [91, 93, 44, 58].contains c
def strip (l : List Nat) : List Nat := ((l.dropWhile goes).reverse.dropWhile goes).reverse
theorem drop_tw (p : Nat → Bool) : ∀ l : List Nat, l.drop (l.takeWhile p).length = l.dropWhile p
  | [] => rfl
  | c :: r => by
    rw [List.takeWhile_cons, List.dropWhile_cons]
    by_cases h : p c = true
    · rw [if_pos h, if_pos h, List.length_cons, List.drop_succ_cons, drop_tw p r]
    · rw [if_neg h, if_neg h]
      rfl
theorem strip_S (l : List Nat) : Txt.stripChars (S l) (S [91, 93, 44, 58]) = S (strip l) := by
  unfold Txt.stripChars
  have eg : (S [91, 93, 44, 58]).cps.contains = goes := by
    funext c
    show (#[91, 93, 44, 58] : Array Nat).contains c = [91, 93, 44, 58].contains c
    simp
  rw [eg, stripBy_eq]
  have e1 : stripLo goes true (S l) = (l.takeWhile goes).length := by
    unfold stripLo
    rw [if_pos rfl]
    show ((TL.tl (S l)).takeWhile goes).length = _
    rw [tl_S]
  have e2 : stripHi goes true (S l) (l.takeWhile goes).length = l.length - ((l.dropWhile goes).reverse.takeWhile goes).length := by
    unfold stripHi
    rw [if_pos rfl, S_len]
    show l.length - (((TL.tl (S l)).drop _).reverse.takeWhile goes).length = _
    rw [tl_S, drop_tw]
  rw [e1, e2]
  refine TL.ext_tl ?_
  rw [TL.tl_strSub, tl_S, tl_S, drop_tw]
  unfold strip
  have h1 := congrArg List.length (drop_tw goes l)
  rw [List.length_drop] at h1
  have h2 := drop_tw goes (l.dropWhile goes).reverse
  rw [← h2]
  have h3 : ((l.dropWhile goes).reverse.takeWhile goes).length ≤ (l.dropWhile goes).length := by
    have := tw_le goes (l.dropWhile goes).reverse
    rw [List.length_reverse] at this
    exact this
  have h4 : (l.takeWhile goes).length ≤ l.length := tw_le goes l
  have e3 : l.length - ((l.dropWhile goes).reverse.takeWhile goes).length - (l.takeWhile goes).length = (l.dropWhile goes).length - ((l.dropWhile goes).reverse.takeWhile goes).length := by omega
  rw [e3]
  generalize l.dropWhile goes = m
  generalize (m.reverse.takeWhile goes).length = k
  rw [List.drop_reverse, List.reverse_reverse]
theorem strip_cons {c : Nat} (h : goes c = true) (l : List Nat) : strip (c :: l) = strip l := by
  unfold strip
  rw [List.dropWhile_cons, if_pos h]
theorem dw_snoc {p : Nat → Bool} {c : Nat} (h : p c = true) : ∀ l : List Nat, (l ++ [c]).dropWhile p = if l.all p = true then [] else l.dropWhile p ++ [c]
  | [] => by
    rw [List.nil_append, List.dropWhile_cons, if_pos h]
    rfl
  | d :: r => by
    rw [List.cons_append, List.dropWhile_cons, List.dropWhile_cons, List.all_cons]
    by_cases hd : p d = true
    · rw [if_pos hd, if_pos hd, hd, Bool.true_and, dw_snoc h r]
    · have hd' : p d = false := by simpa using hd
      rw [if_neg hd, if_neg hd, hd', Bool.false_and, if_neg (by simp)]
      rfl
theorem dw_all {p : Nat → Bool} : ∀ {l : List Nat}, l.all p = true → l.dropWhile p = []
  | [], _ => rfl
  | d :: r, h => by
    rw [List.all_cons, Bool.and_eq_true] at h
    rw [List.dropWhile_cons, if_pos h.1]
    exact dw_all h.2
theorem strip_snoc {c : Nat} (h : goes c = true) (l : List Nat) : strip (l ++ [c]) = strip l := by
  unfold strip
  rw [dw_snoc h]
  by_cases ha : l.all goes = true
  · rw [if_pos ha, dw_all ha]
  · rw [if_neg ha, List.reverse_append, List.reverse_singleton, List.singleton_append, List.dropWhile_cons, if_pos h]
def tok (l : List Nat) : List (List Nat) := (cut l).map strip
theorem tok_app (a b : List Nat) : tok (a ++ 32 :: b) = tok a ++ tok b := by
  unfold tok
  rw [cut_app, List.map_append]
theorem goes_ne {c : Nat} (h : goes c = true) : c ≠ 32 := by
  intro e
  subst e
  revert h
  decide
theorem tok_cons {c : Nat} (h : goes c = true) (l : List Nat) : tok (c :: l) = tok l := by
  unfold tok
  obtain ⟨w, ws, e1, e2⟩ := cut_miss (r := l) (goes_ne h)
  rw [e1, e2, List.map_cons, List.map_cons, strip_cons h]
theorem tok_snoc {c : Nat} (h : goes c = true) : ∀ l : List Nat, tok (l ++ [c]) = tok l := by
  have hc := goes_ne h
  have key : ∀ l : List Nat, ∃ ws w, cut l = ws ++ [w] ∧ cut (l ++ [c]) = ws ++ [w ++ [c]] := by
    intro l
    induction l with
    | nil =>
      refine ⟨[], [], rfl, ?_⟩
      obtain ⟨w, ws, e1, e2⟩ := cut_miss (r := []) hc
      have e3 : w = [] ∧ ws = [] := by
        have : [[]] = w :: ws := e1
        injection this with q1 q2
        exact ⟨q1.symm, q2.symm⟩
      rw [List.nil_append, e2, e3.1, e3.2]
      rfl
    | cons d r ih =>
      obtain ⟨ws, w, e1, e2⟩ := ih
      by_cases hd : d = 32
      · subst hd
        refine ⟨[] :: ws, w, ?_, ?_⟩
        · rw [cut_hit, e1]
          rfl
        · rw [List.cons_append, cut_hit, e2]
          rfl
      · obtain ⟨u, us, f1, f2⟩ := cut_miss (r := r) hd
        obtain ⟨u', us', g1, g2⟩ := cut_miss (r := r ++ [c]) hd
        rw [List.cons_append, f2, g2]
        rw [e1] at f1
        rw [e2] at g1
        cases ws with
        | nil =>
          injection f1 with p1 p2
          injection g1 with q1 q2
          subst p1 p2 q1 q2
          exact ⟨[], d :: w, rfl, rfl⟩
        | cons x xs =>
          injection f1 with p1 p2
          injection g1 with q1 q2
          rw [← p1, ← p2, ← q1, ← q2]
          exact ⟨(d :: x) :: xs, w, rfl, rfl⟩
  intro l
  obtain ⟨ws, w, e1, e2⟩ := key l
  unfold tok
  rw [e1, e2, List.map_append, List.map_append, List.map_singleton, List.map_singleton, strip_snoc h]
theorem cut_one : ∀ {l : List Nat}, 32 ∉ l → cut l = [l]
  | [], _ => rfl
  | c :: r, h => by
    obtain ⟨w, ws, e1, e2⟩ := cut_miss (c := c) (r := r) (fun z => h (by rw [z]; exact List.mem_cons_self))
    rw [cut_one (fun z => h (List.mem_cons_of_mem _ z))] at e1
    injection e1 with q1 q2
    rw [e2, ← q1, ← q2]
theorem dw_none {p : Nat → Bool} {l : List Nat} (h : ∀ c ∈ l, p c = false) : l.dropWhile p = l := by
  cases l with
  | nil => rfl
  | cons c r => rw [List.dropWhile_cons, if_neg (by rw [h c List.mem_cons_self]; simp)]
theorem strip_none {l : List Nat} (h : ∀ c ∈ l, goes c = false) : strip l = l := by
  unfold strip
  rw [dw_none h, dw_none fun c hc => h c (List.mem_reverse.mp hc), List.reverse_reverse]
/-- a word alone -/
def plain (l : List Nat) : Bool := l.all fun c => c != 32 && !goes c
theorem tok_one {l : List Nat} (h : plain l = true) : tok l = [l] := by
  have h2 := List.all_eq_true.mp h
  unfold tok
  rw [cut_one (fun z => by have := h2 _ z; simp at this), List.map_singleton, strip_none fun c hc => ?_]
  have := h2 c hc
  rw [Bool.and_eq_true] at this
  simpa using this.2
/-! ### the texts of trees -/
def wGo : List Nat := [103, 111]
def wTell : List Nat := [116, 101, 108, 108]
def wRead : List Nat := [114, 101, 97, 100]
def num (n : Nat) : List Nat := TL.numL n
mutual
def txt (L : List Nat) : Tr → List Nat
  | .go s q => wGo ++ 32 :: (num s ++ 32 :: num q)
  | .tell n t => wTell ++ 32 :: (num n ++ 32 :: txt L t)
  | .read p ts => wRead ++ 32 :: (num p ++ 32 :: (91 :: (TL.joinL [44, 32] (txts L L ts) ++ [93])))
def txts (L : List Nat) : List Nat → Trs → List (List Nat)
  | c :: l, .cons t r => (c :: 58 :: 32 :: txt L t) :: txts L l r
  | _, _ => []
end
mutual
def toks : List Nat → Tr → List (List Nat)
  | _, .go s q => [wGo, num s, num q]
  | L, .tell n t => wTell :: num n :: toks L t
  | L, .read p ts => wRead :: num p :: tokss L L ts
def tokss : List Nat → List Nat → Trs → List (List Nat)
  | L, c :: l, .cons t r => [c] :: (toks L t ++ tokss L l r)
  | _, _, _ => []
end
theorem num_plain {n : Nat} (h : n < 100) : plain (num n) = true := by
  have : ∀ n < 100, plain (num n) = true := by decide +kernel
  exact this n h
theorem sign_plain {c : Nat} (h : 97 ≤ c) (h2 : c ≤ 122) : plain [c] = true := by
  have : ∀ c < 123, 97 ≤ c → plain [c] = true := by decide +kernel
  exact this c (by omega) h
mutual
/-- numbers of two digits at most -/
def small : Tr → Prop
  | .go s q => s < 100 ∧ q < 100
  | .tell n t => n < 100 ∧ small t
  | .read p ts => p < 100 ∧ smalls ts
def smalls : Trs → Prop
  | .nil => True
  | .cons t r => small t ∧ smalls r
end
mutual
theorem small_of {l w n : Nat} (hw : w ≤ 8) (hn : n ≤ 64) : ∀ {t : Tr}, t.ok l w n → small t
  | .go s q, h => ⟨by have := h.2.1; omega, by have := h.2.2; omega⟩
  | .tell k t, h => ⟨by have := h.1; omega, small_of hw hn h.2⟩
  | .read p ts, h => ⟨by have := h.1; omega, smalls_of hw hn h.2.2⟩
theorem smalls_of {l w n : Nat} (hw : w ≤ 8) (hn : n ≤ 64) : ∀ {ts : Trs}, ts.ok l w n → smalls ts
  | .nil, _ => True.intro
  | .cons t r, h => ⟨small_of hw hn h.1, smalls_of hw hn h.2⟩
end
theorem tok_join : ∀ {ps : List (List Nat)}, ps ≠ [] → tok (TL.joinL [44, 32] ps) = (ps.map tok).flatten
  | [], h => absurd rfl h
  | [p], _ => by
    show tok p = tok p ++ []
    rw [List.append_nil]
  | p :: q :: r, _ => by
    show tok (p ++ ([44, 32] ++ TL.joinL [44, 32] (q :: r))) = tok p ++ ((q :: r).map tok).flatten
    rw [← tok_join (ps := q :: r) (by simp), show p ++ ([44, 32] ++ TL.joinL [44, 32] (q :: r)) = (p ++ [44]) ++ 32 :: TL.joinL [44, 32] (q :: r) by simp, tok_app, tok_snoc (by decide)]
def Low (L : List Nat) : Prop := ∀ c ∈ L, 97 ≤ c ∧ c ≤ 122
theorem txts_ne {L l : List Nat} {ts : Trs} (h1 : l ≠ []) (h2 : ts.list.length = l.length) : txts L l ts ≠ [] := by
  cases l with
  | nil => exact absurd rfl h1
  | cons c l =>
    cases ts with
    | nil => simp [Trs.list] at h2
    | cons t r =>
      intro z
      unfold txts at z
      cases z
mutual
theorem tok_txt {L : List Nat} (hL : Low L) (hne : L ≠ []) {w n : Nat} : ∀ {t : Tr}, t.ok L.length w n → small t → tok (txt L t) = toks L t
  | .go s q, _, h => by
    unfold txt toks
    rw [tok_app, tok_app, tok_one (num_plain h.1), tok_one (num_plain h.2), tok_one (by decide)]
    rfl
  | .tell k t, ho, h => by
    unfold txt toks
    rw [tok_app, tok_app, tok_one (num_plain h.1), tok_txt hL hne ho.2 h.2, tok_one (by decide)]
    rfl
  | .read p ts, ho, h => by
    unfold txt toks
    rw [tok_app, tok_app, tok_one (num_plain h.1), tok_one (by decide), tok_cons (by decide), tok_snoc (by decide), tok_join (txts_ne hne ho.2.1), tok_txts hL hne hL ho.2.1 ho.2.2 h.2]
    rfl
theorem tok_txts {L : List Nat} (hL : Low L) (hne : L ≠ []) {w n : Nat} : ∀ {l : List Nat} {ts : Trs}, Low l → ts.list.length = l.length → ts.ok L.length w n → smalls ts → ((txts L l ts).map tok).flatten = tokss L l ts
  | [], .nil, _, _, _, _ => by
    unfold txts tokss
    rfl
  | [], .cons _ _, _, h, _, _ => by simp [Trs.list] at h
  | _ :: _, .nil, _, h, _, _ => by simp [Trs.list] at h
  | c :: l, .cons t r, hl, hn, ho, hs => by
    have hc := hl c List.mem_cons_self
    have ih := tok_txts hL hne (l := l) (ts := r) (fun d hd => hl d (List.mem_cons_of_mem _ hd)) (by simpa [Trs.list] using hn) ho.2 hs.2
    unfold txts tokss
    rw [List.map_cons, List.flatten_cons, ih, show c :: 58 :: 32 :: txt L t = ([c] ++ [58]) ++ 32 :: txt L t from rfl, tok_app, tok_snoc (by decide), tok_one (sign_plain hc.1 hc.2), tok_txt hL hne ho.1 hs.1]
    simp
end
/-! ### lengths -/
theorem num_len {n : Nat} (h : n < 100) : (num n).length ≤ 2 := by
  have : ∀ n < 100, (num n).length ≤ 2 := by decide +kernel
  exact this n h
theorem num_log {n : Nat} (h : n < 100) : ((n : Nat) : Int).natAbs.log2 < 1920 := by
  have : ∀ n < 100, ((n : Nat) : Int).natAbs.log2 < 1920 := by decide +kernel
  exact this n h
theorem num_S (n : Nat) : Str.ofString (toString ((n : Nat) : Int)) = S (num n) := TL.ext_tl (by rw [tl_S]; exact TL.tl_num n)
theorem numS_len {n : Nat} (h : n < 100) : (Str.ofString (toString ((n : Nat) : Int))).length ≤ 2 := by
  rw [num_S, S_len]
  exact num_len h
theorem app_len (a b : Str) : (a ++ b).length = a.length + b.length := by
  rw [TL.len_tl, TL.len_tl a, TL.len_tl b, TL.tl_append, List.length_append]
def sum2 (ps : List (List Nat)) : Nat := (ps.map fun p => p.length + 2).sum
theorem join_len : ∀ ps : List (List Nat), (TL.joinL [44, 32] ps).length ≤ sum2 ps
  | [] => Nat.le_refl _
  | [p] => by
    show p.length ≤ p.length + 2 + 0
    omega
  | p :: q :: r => by
    have := join_len (q :: r)
    show (p ++ ([44, 32] ++ TL.joinL [44, 32] (q :: r))).length ≤ p.length + 2 + sum2 (q :: r)
    rw [List.length_append, List.length_append]
    show p.length + (2 + _) ≤ _
    omega
mutual
theorem txt_len (L : List Nat) : ∀ {t : Tr}, small t → (txt L t).length + 20 ≤ 40 * t.size
  | .go s q, h => by
    have h1 := num_len h.1
    have h2 := num_len h.2
    unfold txt
    rw [List.length_append, List.length_cons, List.length_append, List.length_cons]
    show 2 + ((num s).length + ((num q).length + 1) + 1) + 20 ≤ 40 * 1
    omega
  | .tell n t, h => by
    have h1 := num_len h.1
    have h2 := txt_len L h.2
    unfold txt
    rw [List.length_append, List.length_cons, List.length_append, List.length_cons]
    show 4 + ((num n).length + ((txt L t).length + 1) + 1) + 20 ≤ 40 * (t.size + 1)
    omega
  | .read p ts, h => by
    have h1 := num_len h.1
    have h2 := txts_len L L h.2
    have h3 := join_len (txts L L ts)
    unfold txt
    rw [List.length_append, List.length_cons, List.length_append, List.length_cons, List.length_cons, List.length_append]
    show 4 + ((num p).length + ((TL.joinL [44, 32] (txts L L ts)).length + 1 + 1 + 1) + 1) + 20 ≤ 40 * (ts.size + 1)
    omega
theorem txts_len (L l : List Nat) : ∀ {ts : Trs}, smalls ts → sum2 (txts L l ts) ≤ 40 * ts.size
  | .nil, _ => by
    unfold txts
    cases l <;> exact Nat.zero_le _
  | .cons t r, h => by
    cases l with
    | nil =>
      unfold txts
      exact Nat.zero_le _
    | cons c l =>
      have h1 := txt_len L h.1
      have h2 := txts_len L l h.2
      unfold txts
      show (c :: 58 :: 32 :: txt L t).length + 2 + sum2 (txts L l r) ≤ 40 * (t.size + r.size)
      rw [List.length_cons, List.length_cons, List.length_cons]
      omega
end
theorem txts_get {L : List Nat} : ∀ {l : List Nat} {ts : Trs} {i c : Nat} {t : Tr}, l[i]? = some c → ts.list[i]? = some t → (txts L l ts)[i]? = some (c :: 58 :: 32 :: txt L t)
  | [], _, _, _, _, h, _ => by simp at h
  | _ :: _, .nil, _, _, _, _, h => by simp [Trs.list] at h
  | d :: l, .cons u r, 0, c, t, h1, h2 => by
    have e1 : d = c := Option.some.inj h1
    have e2 : u = t := Option.some.inj h2
    subst e1 e2
    unfold txts
    rfl
  | d :: l, .cons u r, i + 1, c, t, h1, h2 => by
    unfold txts
    exact txts_get (l := l) (ts := r) (i := i) h1 h2
theorem txts_count {L : List Nat} : ∀ {l : List Nat} {ts : Trs}, ts.list.length = l.length → (txts L l ts).length = l.length
  | [], _, _ => by
    unfold txts
    rfl
  | _ :: _, .nil, h => by simp [Trs.list] at h
  | d :: l, .cons u r, h => by
    unfold txts
    rw [List.length_cons, List.length_cons, txts_count (l := l) (ts := r) (by simpa [Trs.list] using h)]
theorem smalls_mem : ∀ {ts : Trs}, smalls ts → ∀ t ∈ ts.list, small t
  | .nil, _, _, h => nomatch h
  | .cons t r, h, x, hx => by
    rcases List.mem_cons.mp hx with q | q
    · rw [q]
      exact h.1
    · exact smalls_mem h.2 x q
theorem join_S (ps : List (List Nat)) : Txt.join (Str.ofString ", ") (ps.map S) = S (TL.joinL [44, 32] ps) := by
  refine TL.ext_tl ?_
  rw [TL.join_eq, TL.tl_join, tl_S, List.map_map, show TL.tl (Str.ofString ", ") = [44, 32] by decide +kernel, show (TL.tl ∘ S) = id from funext fun x => tl_S x, List.map_id]
theorem sum_len (ps : List (List Nat)) : ((ps.map S).map (·.length)).sum + (ps.map S).length * 2 = sum2 ps := by
  induction ps with
  | nil => rfl
  | cons p r ih =>
    show (S p).length + ((r.map S).map (·.length)).sum + ((r.map S).length + 1) * 2 = p.length + 2 + sum2 r
    rw [S_len]
    omega
theorem go_out (L : List Nat) (s q : Nat) : Str.empty ++ Str.ofString "go " ++ Str.ofString (toString ((s : Nat) : Int)) ++ Str.ofString " " ++ Str.ofString (toString ((q : Nat) : Int)) = S (txt L (.go s q)) := by
  refine TL.ext_tl ?_
  simp only [TL.tl_append, TL.tl_num, tl_S]
  rw [show TL.tl Str.empty = [] from rfl, show TL.tl (Str.ofString "go ") = [103, 111, 32] by decide +kernel, show TL.tl (Str.ofString " ") = [32] by decide +kernel]
  unfold txt num wGo
  simp
theorem tell_out (L : List Nat) (n : Nat) (t : Tr) : Str.empty ++ Str.ofString "tell " ++ Str.ofString (toString ((n : Nat) : Int)) ++ Str.ofString " " ++ S (txt L t) = S (txt L (.tell n t)) := by
  refine TL.ext_tl ?_
  simp only [TL.tl_append, TL.tl_num, tl_S]
  rw [show TL.tl Str.empty = [] from rfl, show TL.tl (Str.ofString "tell ") = [116, 101, 108, 108, 32] by decide +kernel, show TL.tl (Str.ofString " ") = [32] by decide +kernel]
  show _ = txt L (.tell n t)
  conv => rhs; unfold txt
  unfold num wTell
  simp
theorem read_out (L : List Nat) (p : Nat) (ts : Trs) : Str.empty ++ Str.ofString "read " ++ Str.ofString (toString ((p : Nat) : Int)) ++ Str.ofString " [" ++ S (TL.joinL [44, 32] (txts L L ts)) ++ Str.ofString "]" = S (txt L (.read p ts)) := by
  refine TL.ext_tl ?_
  simp only [TL.tl_append, TL.tl_num, tl_S]
  rw [show TL.tl Str.empty = [] from rfl, show TL.tl (Str.ofString "read ") = [114, 101, 97, 100, 32] by decide +kernel, show TL.tl (Str.ofString " [") = [32, 91] by decide +kernel, show TL.tl (Str.ofString "]") = [93] by decide +kernel]
  show _ = txt L (.read p ts)
  conv => rhs; unfold txt
  unfold num wRead
  simp
theorem part_out (c : Nat) (x : List Nat) : Str.empty ++ ⟨#[c]⟩ ++ Str.ofString ": " ++ S x = S (c :: 58 :: 32 :: x) := by
  refine TL.ext_tl ?_
  simp only [TL.tl_append, tl_S]
  rw [show TL.tl Str.empty = [] from rfl, show TL.tl (Str.ofString ": ") = [58, 32] by decide +kernel]
  rfl
theorem emp_l (x : Str) : Str.empty ++ x = x := TL.ext_tl (by rw [TL.tl_append]; rfl)
end TT

namespace Law
open PySem PySem.Spec PyProof.Rows L2 Evl
def top (i : Nat) : Stmt := PySem.Challenge.pw_wordskips_k07_whole_texts_of_searchers.main.body.getD i (.Pass ⟨0, 0, 0, 0⟩)
abbrev s_wall : Stmt := top 0
abbrev N_wall : List Str := ["k"]
theorem sc_wall : FnScope N_wall ["k"] (defScope s_wall) := ⟨rfl, rfl, rfl, by decide +kernel, rfl, by decide +kernel, by decide +kernel⟩
abbrev s_is_list : Stmt := top 2
abbrev N_is_list : List Str := ["value"]
theorem sc_is_list : FnScope N_is_list ["value"] (defScope s_is_list) := ⟨rfl, rfl, rfl, by decide +kernel, rfl, by decide +kernel, by decide +kernel⟩
abbrev s_is_integer : Stmt := top 3
abbrev N_is_integer : List Str := ["value"]
theorem sc_is_integer : FnScope N_is_integer ["value"] (defScope s_is_integer) := ⟨rfl, rfl, rfl, by decide +kernel, rfl, by decide +kernel, by decide +kernel⟩
abbrev s_is_whole : Stmt := top 4
abbrev N_is_whole : List Str := ["value", "low", "high"]
theorem sc_is_whole : FnScope N_is_whole ["value", "low", "high"] (defScope s_is_whole) := ⟨rfl, rfl, rfl, by decide +kernel, rfl, by decide +kernel, by decide +kernel⟩
abbrev s_are_letters : Stmt := top 5
abbrev N_are_letters : List Str := ["value", "sign"]
theorem sc_are_letters : FnScope N_are_letters ["value"] (defScope s_are_letters) := ⟨rfl, rfl, rfl, by decide +kernel, rfl, by decide +kernel, by decide +kernel⟩
abbrev s_kept : Stmt := top 13
abbrev N_kept : List Str := ["value", "part", "key"]
theorem sc_kept : FnScope N_kept ["value"] (defScope s_kept) := ⟨rfl, rfl, rfl, by decide +kernel, rfl, by decide +kernel, by decide +kernel⟩
abbrev s_first_wrong : Stmt := top 16
abbrev N_first_wrong : List Str := ["tree", "letters", "width", "states", "waiting", "number", "part", "depth", "inner"]
theorem sc_first_wrong : FnScope N_first_wrong ["tree", "letters", "width", "states"] (defScope s_first_wrong) := ⟨rfl, rfl, rfl, by decide +kernel, rfl, by decide +kernel, by decide +kernel⟩
abbrev s_all_parts : Stmt := top 17
abbrev N_all_parts : List Str := ["tree", "waiting", "found", "part", "inner"]
theorem sc_all_parts : FnScope N_all_parts ["tree"] (defScope s_all_parts) := ⟨rfl, rfl, rfl, by decide +kernel, rfl, by decide +kernel, by decide +kernel⟩
abbrev s_renamed : Stmt := top 18
abbrev N_renamed : List Str := ["tree", "names", "head", "number", "rest", "inner"]
theorem sc_renamed : FnScope N_renamed ["tree", "names"] (defScope s_renamed) := ⟨rfl, rfl, rfl, by decide +kernel, rfl, by decide +kernel, by decide +kernel⟩
abbrev s_tree_text : Stmt := top 19
abbrev N_tree_text : List Str := ["letters", "tree", "head", "number", "rest", "branches", "letter", "inner", "inside"]
theorem sc_tree_text : FnScope N_tree_text ["letters", "tree"] (defScope s_tree_text) := ⟨rfl, rfl, rfl, by decide +kernel, rfl, by decide +kernel, by decide +kernel⟩
abbrev s_rough_tree : Stmt := top 20
abbrev N_rough_tree : List Str := ["letters", "line", "words", "word"]
theorem sc_rough_tree : FnScope N_rough_tree ["letters", "line"] (defScope s_rough_tree) := ⟨rfl, rfl, rfl, by decide +kernel, rfl, by decide +kernel, by decide +kernel⟩
abbrev s_is_part : Stmt := top 21
abbrev N_is_part : List Str := ["part", "letters", "width", "states", "head", "number", "rest"]
theorem sc_is_part : FnScope N_is_part ["part", "letters", "width", "states"] (defScope s_is_part) := ⟨rfl, rfl, rfl, by decide +kernel, rfl, by decide +kernel, by decide +kernel⟩
abbrev s_within : Stmt := top 22
abbrev N_within : List Str := ["part"]
theorem sc_within : FnScope N_within ["part"] (defScope s_within) := ⟨rfl, rfl, rfl, by decide +kernel, rfl, by decide +kernel, by decide +kernel⟩
abbrev s_taken_tree : Stmt := top 23
abbrev N_taken_tree : List Str := ["letters", "words", "depth", "head", "slide", "number", "place"]
theorem sc_taken_tree : FnScope N_taken_tree ["letters", "words", "depth"] (defScope s_taken_tree) := ⟨rfl, rfl, rfl, by decide +kernel, rfl, by decide +kernel, by decide +kernel⟩
abbrev s_taken_branches : Stmt := top 24
abbrev N_taken_branches : List Str := ["letters", "words", "depth", "trees", "_"]
theorem sc_taken_branches : FnScope N_taken_branches ["letters", "words", "depth"] (defScope s_taken_branches) := ⟨rfl, rfl, rfl, by decide +kernel, rfl, by decide +kernel, by decide +kernel⟩
abbrev s_taken : Stmt := top 25
abbrev N_taken : List Str := ["words"]
theorem sc_taken : FnScope N_taken ["words"] (defScope s_taken) := ⟨rfl, rfl, rfl, by decide +kernel, rfl, by decide +kernel, by decide +kernel⟩
abbrev s_taken_number : Stmt := top 26
abbrev N_taken_number : List Str := ["words", "word"]
theorem sc_taken_number : FnScope N_taken_number ["words"] (defScope s_taken_number) := ⟨rfl, rfl, rfl, by decide +kernel, rfl, by decide +kernel, by decide +kernel⟩
abbrev s_is_width : Stmt := top 32
abbrev N_is_width : List Str := ["text"]
theorem sc_is_width : FnScope N_is_width ["text"] (defScope s_is_width) := ⟨rfl, rfl, rfl, by decide +kernel, rfl, by decide +kernel, by decide +kernel⟩
abbrev s_lpen : Stmt := top 34
abbrev N_lpen : List Str := ["_law_script"]
theorem sc_lpen : FnScope N_lpen ["_law_script"] (defScope s_lpen) := ⟨rfl, rfl, rfl, by decide +kernel, rfl, by decide +kernel, by decide +kernel⟩
abbrev s_ldraw : Stmt := top 35
abbrev N_ldraw : List Str := ["_law_pen_here", "_law_many", "_law_digit", "_law_k", "_law_cells", "_law_cell", "_law_mix"]
theorem sc_ldraw : FnScope N_ldraw ["_law_pen_here", "_law_many"] (defScope s_ldraw) := ⟨rfl, rfl, rfl, by decide +kernel, rfl, by decide +kernel, by decide +kernel⟩
abbrev s_lpick : Stmt := top 36
abbrev N_lpick : List Str := ["_law_pen_here", "_law_some"]
theorem sc_lpick : FnScope N_lpick ["_law_pen_here", "_law_some"] (defScope s_lpick) := ⟨rfl, rfl, rfl, by decide +kernel, rfl, by decide +kernel, by decide +kernel⟩
abbrev s_lletters : Stmt := top 37
abbrev N_lletters : List Str := ["_law_pen_here", "_law_small", "_law_first", "_law_pace", "_law_k"]
theorem sc_lletters : FnScope N_lletters ["_law_pen_here"] (defScope s_lletters) := ⟨rfl, rfl, rfl, by decide +kernel, rfl, by decide +kernel, by decide +kernel⟩
abbrev s_ltree : Stmt := top 38
abbrev N_ltree : List Str := ["_law_pen_here", "_law_letters_here", "_law_width", "_law_states", "_law_depth", "_law_way", "_law_place", "_law_letter"]
theorem sc_ltree : FnScope N_ltree ["_law_pen_here", "_law_letters_here", "_law_width", "_law_states", "_law_depth"] (defScope s_ltree) := ⟨rfl, rfl, rfl, by decide +kernel, rfl, by decide +kernel, by decide +kernel⟩
abbrev s_ltrees : Stmt := top 39
abbrev N_ltrees : List Str := ["_law_pen_here", "_law_letters_here", "_law_width", "_law_many", "_law_depth", "_law_k"]
theorem sc_ltrees : FnScope N_ltrees ["_law_pen_here", "_law_letters_here", "_law_width", "_law_many", "_law_depth"] (defScope s_ltrees) := ⟨rfl, rfl, rfl, by decide +kernel, rfl, by decide +kernel, by decide +kernel⟩
abbrev s_lline : Stmt := top 40
abbrev N_lline : List Str := ["_law_tree_here", "_law_letters_here", "_law_parts", "_law_k"]
theorem sc_lline : FnScope N_lline ["_law_tree_here", "_law_letters_here"] (defScope s_lline) := ⟨rfl, rfl, rfl, by decide +kernel, rfl, by decide +kernel, by decide +kernel⟩
abbrev s_ldeep_tree : Stmt := top 41
abbrev N_ldeep_tree : List Str := ["_law_pen_here", "_law_letters_here", "_law_width", "_law_states", "_law_tree_here", "_law_k", "_law_letter"]
theorem sc_ldeep_tree : FnScope N_ldeep_tree ["_law_pen_here", "_law_letters_here", "_law_width", "_law_states"] (defScope s_ldeep_tree) := ⟨rfl, rfl, rfl, by decide +kernel, rfl, by decide +kernel, by decide +kernel⟩
abbrev s_law : Stmt := top 42
abbrev N_law : List Str := ["_law_script", "_law_pen_here", "_law_turn", "_law_letters_here", "_law_width", "_law_many", "_law_states", "_law_searcher", "_law_due", "_law_tree_here"]
theorem sc_law : FnScope N_law ["_law_script"] (defScope s_law) := ⟨rfl, rfl, rfl, by decide +kernel, rfl, by decide +kernel, by decide +kernel⟩
abbrev s_Searcher_init : Stmt := inClass (top 31) 0
abbrev N_Searcher_init : List Str := ["self", "letters", "width", "states", "many", "state", "tree", "node", "nodes", "same"]
theorem sc_Searcher_init : FnScope N_Searcher_init ["self", "letters", "width", "states"] (defScope s_Searcher_init) := ⟨rfl, rfl, rfl, by decide +kernel, rfl, by decide +kernel, by decide +kernel⟩
abbrev s_Searcher_eq : Stmt := inClass (top 31) 1
abbrev N_Searcher_eq : List Str := ["self", "other"]
theorem sc_Searcher_eq : FnScope N_Searcher_eq ["self", "other"] (defScope s_Searcher_eq) := ⟨rfl, rfl, rfl, by decide +kernel, rfl, by decide +kernel, by decide +kernel⟩
abbrev s_Searcher_written : Stmt := inClass (top 31) 3
abbrev N_Searcher_written : List Str := ["self", "lines", "tree"]
theorem sc_Searcher_written : FnScope N_Searcher_written ["self"] (defScope s_Searcher_written) := ⟨rfl, rfl, rfl, by decide +kernel, rfl, by decide +kernel, by decide +kernel⟩
abbrev s_Searcher_read : Stmt := inClass (top 31) 4
abbrev N_Searcher_read : List Str := ["cls", "text", "head", "lines", "letters", "_", "digit", "width", "trees", "number", "line", "tree"]
theorem sc_Searcher_read : FnScope N_Searcher_read ["cls", "text"] (defScope s_Searcher_read) := ⟨rfl, rfl, rfl, by decide +kernel, rfl, by decide +kernel, by decide +kernel⟩

/-! ### the pen -/
def penK (c : Addr) (op lf : Int) : List (Key × V) := [(.inr "cells", .ref c), (.inr "opened", .int op), (.inr "left", .int lf)]
structure PenI where
  d : Addr
  c : Addr
  ns : List Int
def PenAt (p : PenI) (H0 H : Hp) (n : Nat) : Prop := Ex H0 H ∧ H0 p.d = none ∧ H0 p.c = some (.lst (p.ns.map V.int)) ∧ p.ns.length ≤ 63 ∧
  ∃ (op : Nat) (lf : Int), op ≤ n ∧ H p.d = some (.dK (penK p.c op lf))
theorem PenAt.ex {p : PenI} {H0 H H1 : Hp} {n : Nat} (P : PenAt p H0 H n) (e : Ex H H1) : PenAt p H0 H1 n := by
  obtain ⟨e0, h0, hc, hl, op, lf, ho, hd⟩ := P
  exact ⟨e0.trans e, h0, hc, hl, op, lf, ho, e p.d _ hd⟩
theorem PenAt.le {p : PenI} {H0 H : Hp} {n m : Nat} (P : PenAt p H0 H n) (h : n ≤ m) : PenAt p H0 H m := by
  obtain ⟨e0, h0, hc, hl, op, lf, ho, hd⟩ := P
  exact ⟨e0, h0, hc, hl, op, lf, Nat.le_trans ho h, hd⟩
theorem PenAt.dict {p : PenI} {H0 H : Hp} {n : Nat} (P : PenAt p H0 H n) : ∃ kvs, H p.d = some (.dK kvs) := by
  obtain ⟨_, _, _, _, op, lf, _, h⟩ := P
  exact ⟨_, h⟩
theorem PenAt.lst_ne {p : PenI} {H0 H : Hp} {a : Addr} {n : Nat} {xs : List V} (P : PenAt p H0 H n) (h : H a = some (.lst xs)) : a ≠ p.d := by
  obtain ⟨kvs, h2⟩ := P.dict
  exact ne_of h h2 (by intro z; cases z)
/-- an object made meanwhile may change -/
theorem PenAt.upd {p : PenI} {H0 H : Hp} {a : Addr} {n : Nat} {o : HO} (P : PenAt p H0 H n) (h : H0 a = none) (hd : a ≠ p.d) : PenAt p H0 (upd H a o) n := by
  obtain ⟨e0, h0, hc, hl, op, lf, ho, hd'⟩ := P
  exact ⟨e0.mut h, h0, hc, hl, op, lf, ho, by rw [upd_ne hd.symm]; exact hd'⟩
/-- one more object kept, and let go again -/
theorem PenAt.keep {p : PenI} {H0 H : Hp} {a : Addr} {n : Nat} {o : HO} (P : PenAt p H0 H n) (h : H a = some o) (hd : a ≠ p.d) : PenAt p (L2.upd H0 a o) H n := by
  obtain ⟨e0, h0, hc, r⟩ := P
  refine ⟨fun b u e => ?_, by rw [upd_ne hd.symm]; exact h0, ?_, r⟩
  · by_cases q : b = a
    · subst q
      rw [upd_same] at e
      rw [h, e]
    · rw [upd_ne q] at e
      exact e0 b u e
  · by_cases q : p.c = a
    · have e2 := e0 _ _ hc
      rw [q, h] at e2
      rw [q, upd_same, e2]
    · rw [upd_ne q]
      exact hc
theorem PenAt.drop {p : PenI} {H0 H H' : Hp} {a : Addr} {n m : Nat} {o : HO} (P : PenAt p H0 H n) (h : H a = some o) (P' : PenAt p (L2.upd H0 a o) H' m) : PenAt p H0 H' m := by
  refine ⟨fun b u e => ?_, P.2.1, P.2.2.1, P'.2.2.2⟩
  by_cases q : b = a
  · subst q
    have e2 := P.1 _ _ e
    rw [h] at e2
    exact P'.1 _ _ (by rw [upd_same, e2])
  · exact P'.1 _ _ (by rw [upd_ne q]; exact e)
theorem cells_opened : ¬ (("cells" : Str) = "opened") := by decide +kernel
theorem cells_left : ¬ (("cells" : Str) = "left") := by decide +kernel
theorem opened_left : ¬ (("opened" : Str) = "left") := by decide +kernel
theorem get_cells (c : Addr) (op lf : Int) : valV (penK c op lf) (.inr "cells") = some (.ref c) := by
  unfold valV penK
  rw [List.find?_cons_of_pos (by simp)]
  rfl
theorem get_opened (c : Addr) (op lf : Int) : valV (penK c op lf) (.inr "opened") = some (.int op) := by
  unfold valV penK
  rw [List.find?_cons_of_neg (by simpa using cells_opened), List.find?_cons_of_pos (by simp)]
  rfl
theorem get_left (c : Addr) (op lf : Int) : valV (penK c op lf) (.inr "left") = some (.int lf) := by
  unfold valV penK
  rw [List.find?_cons_of_neg (by simpa using cells_left), List.find?_cons_of_neg (by simpa using opened_left), List.find?_cons_of_pos (by simp)]
  rfl
theorem put_opened (c : Addr) (op lf x : Int) : putK (penK c op lf) (.inr "opened") (.int x) = penK c x lf := by
  unfold putK penK
  simp [cells_opened, opened_left, cells_left, Ne.symm opened_left]
theorem put_left (c : Addr) (op lf x : Int) : putK (penK c op lf) (.inr "left") (.int x) = penK c op x := by
  unfold putK penK
  simp [cells_opened, opened_left, cells_left]
theorem dget_of {H : Hp} {d : Addr} {kvs : List (Key × V)} {k : Str} {v : V} (e : H d = some (.dK kvs)) (h : valV kvs (.inr k) = some v) : DGet H d (.str k) (some v) := by
  rw [← h]
  exact DGet.k (k := .inr k) e
theorem dput_of {H : Hp} {d : Addr} {kvs kvs' : List (Key × V)} {k : Str} {v : V} (e : H d = some (.dK kvs)) (hl : kvs.length < 100) (h : putK kvs (.inr k) v = kvs') : DPut H d (.str k) v (upd H d (.dK kvs')) := by
  rw [← h]
  exact DPut.k (k := .inr k) e (Nat.lt_of_lt_of_le hl (by decide))

/-! ### lists of ints as data -/
theorem lay_ints : ∀ ns : List Int, PyData.canLayAll0 (ns.map PyData.int) = true
  | [] => rfl
  | n :: r => by
    show (PyData.canLay0 (.int n) && PyData.canLayAll0 (r.map PyData.int)) = true
    rw [lay_ints r]
    rfl
theorem depth_ints : ∀ ns : List Int, PyData.depthAll (ns.map PyData.int) = 0
  | [] => rfl
  | n :: r => by
    show max (PyData.depth (.int n)) (PyData.depthAll (r.map PyData.int)) = 0
    rw [depth_ints r]
    rfl
theorem shaped_ints (ns : List Int) : SeqAt.shaped (.list (ns.map PyData.int)) = true := by
  unfold SeqAt.shaped
  have e1 : (PyData.list (ns.map PyData.int)).canLay0 = true := lay_ints ns
  have e2 : (PyData.list (ns.map PyData.int)).depth = 1 := by
    show PyData.depthAll (ns.map PyData.int) + 1 = 1
    rw [depth_ints]
  rw [e1, e2]
  rfl
theorem dp_ints {K : PySem.W.Frag} {H : Hp} : ∀ ns : List Int, DpAll K H (ns.map V.int) (ns.map PyData.int)
  | [] => .nil
  | n :: r => .cons (.int n) (dp_ints r)
theorem eqv_nil (ns : List Int) : PyData.eqv (.list (ns.map PyData.int)) (.list []) = ns.isEmpty := by
  cases ns <;> rfl

/-! ### what is known of a def that is called -/
structure Kn (P : Program) (w : World) (K : PySem.W.Frag) (mg : Str → Option Value) (base : Heap) (x : Str) (ps : List Str) (k : Nat) (sp : Sp) where
  f : Addr
  fd : FuncData
  ok : FnOk P w K mg base CX0 k f fd ps sp
  g : mg x = some (.ref f)
  kp : PySem.W.keepIn K (.ref f) = true
  b : Binds K fd ps []
structure Tx (mg : Str → Option Value) where
  len : mg "len" = none
  int : mg "int" = none
  bool : mg "bool" = none
  abs : mg "abs" = none
  min : mg "min" = none
  list : mg "list" = none
  all : mg "all" = none
  range : mg "range" = none
  isinstance : mg "isinstance" = none
  str : mg "str" = none
  set : mg "set" = none
  tuple : mg "tuple" = none
  enumerate : mg "enumerate" = none
  reversed : mg "reversed" = none
  sum : mg "sum" = none
  zip : mg "zip" = none
  k_DEEPEST : Tok
  m_DEEPEST : mg "DEEPEST" = some (.int 40 k_DEEPEST)
  k_MOST_WIDTH : Tok
  m_MOST_WIDTH : mg "MOST_WIDTH" = some (.int 8 k_MOST_WIDTH)
  k_MOST_STATES : Tok
  m_MOST_STATES : mg "MOST_STATES" = some (.int 64 k_MOST_STATES)
  k_MOST_NODES : Tok
  m_MOST_NODES : mg "MOST_NODES" = some (.int 3000 k_MOST_NODES)

def spPen (K : PySem.W.Frag) : Sp := fun vs H Q _ => ∃ (a : Addr) (ns : List Int), vs = [.ref a] ∧ SqL K H a (ns.map V.int) ∧ ns.length ≤ 63 ∧ ∀ p H0 H', Ex H H0 → PenAt p H0 H' 0 → Q (.ref p.d) H'
def spDraw : Sp := fun vs H Q _ => ∃ (p : PenI) (H0 : Hp) (n : Nat) (m : Int), vs = [.ref p.d, .int m] ∧ PenAt p H0 H n ∧ n < 1000000 ∧ 0 < m ∧ m < 1000 ∧ ∀ H' r, PenAt p H0 H' (n + 1) → 0 ≤ r → r < m → Q (.int r) H'

section
variable {P : Program} {w : World} {K : PySem.W.Frag} {mg : Str → Option Value} {base : Heap}
theorem ok_pen {f : Addr} {fd : FuncData} (F : Fun K "_law_pen" "_law_pen" s_lpen f fd) (T : Tx mg) : FnOk P w K mg base CX0 1 f fd ["_law_script"] (spPen K) := by
  refine F.ok sc_lpen (fun vs H Q E h => ?_) (fun cdv A outer s H vs Q E hr h => ?_)
  · obtain ⟨a, ns, rfl, _⟩ := h
    rfl
  · obtain ⟨a, ns, rfl, hS, hl, q⟩ := h
    refine ⟨_, (pss_one (ps_ret (pe_disp (pps_cons pe_str (pe_callTy call_list_of (by rfl) T.list PyProof.Rows.boot_list (pa_cons (pe_slice sl_list (pv 0) po_none (po_some pe_int)) pa_nil)) (pps_cons pe_str pe_int (pps_cons pe_str pe_int pps_nil))) (by rfl) (by rfl) (fun z => by cases z) (by decide)))), ?_⟩
    intro d hd
    have e1 : Ex H (upd H d (.dK [])) := Ex.new hd
    refine ⟨.ref a, rfl, 63, rfl, a, _, rfl, ex_l e1 hS, fun c hc => ?_⟩
    have e2 := e1.trans (Ex.new (o := .lst (cutV (ns.map V.int) none (some 63))) hc)
    refine ⟨c, _, rfl, .inl (.inl (.inl upd_same)), fun c2 hc2 => ?_⟩
    have e3 := e2.trans (Ex.new (o := .lst (cutV (ns.map V.int) none (some 63))) hc2)
    have ncd : c ≠ d := fun z => by rw [z, upd_same] at hc; cases hc
    have nc2c : c2 ≠ c := fun z => by rw [z, upd_same] at hc2; cases hc2
    have nc2d : c2 ≠ d := fun z => by rw [z, upd_ne ncd.symm, upd_same] at hc2; cases hc2
    refine ⟨by rw [upd_ne nc2d.symm, upd_ne ncd.symm, upd_same], penK c2 0 0, rfl, (by show 3 ≤ 15; decide), ?_⟩
    have em : mergeK [] (penK c2 0 0) = penK c2 0 0 := by
      unfold mergeK penK
      simp [putK, cells_opened, opened_left, cells_left]
    rw [em]
    have el : ((cutV (ns.map V.int) none (some 63)) : List V) = ((ns.drop (HT.sIx ns.length 0 none)).take (HT.sIx ns.length ns.length (some 63) - HT.sIx ns.length 0 none)).map V.int := by
      unfold cutV
      rw [List.length_map, List.map_take, List.map_drop]
    have hn2 : H c2 = none := by
      rw [upd_ne nc2c, upd_ne nc2d] at hc2
      exact hc2
    refine q ⟨d, c2, (ns.drop (HT.sIx ns.length 0 none)).take (HT.sIx ns.length ns.length (some 63) - HT.sIx ns.length 0 none)⟩ (upd H c2 (.lst (cutV (ns.map V.int) none (some 63)))) _ (Ex.new hn2) ⟨fun b u e => ?_, ?_, ?_, ?_, 0, 0, Nat.le_refl _, upd_same⟩
    · have nbd : b ≠ d := fun z => by
        rw [z, upd_ne nc2d.symm, hd] at e
        cases e
      rw [upd_ne nbd]
      by_cases z : b = c2
      · subst z
        rw [upd_same] at e ⊢
        exact e
      · rw [upd_ne z] at e ⊢
        exact (e1.trans (Ex.new hc)) _ _ e
    · exact (upd_ne nc2d.symm).trans hd
    · show upd H c2 _ c2 = _
      rw [upd_same, el]
    · rw [List.length_take, List.length_drop]
      omega
theorem ok_draw {f : Addr} {fd : FuncData} (F : Fun K "_law_draw" "_law_draw" s_ldraw f fd) (T : Tx mg) : FnOk P w K mg base CX0 1 f fd ["_law_pen_here", "_law_many"] spDraw := by
  refine F.ok sc_ldraw (fun vs H Q E h => ?_) (fun cdv A outer s H vs Q E hr h => ?_)
  · obtain ⟨p, H0, n, m, rfl, _⟩ := h
    rfl
  · obtain ⟨⟨d, c, ns⟩, H0, n, m, rfl, ⟨e0, h0, hc0, hl, op, lf, ho, hd⟩, hn, hm0, hm1, q⟩ := h
    have hc : H c = some (.lst (ns.map V.int)) := e0 _ _ hc0
    dsimp only at h0 hl hd q ⊢
    have ncd : c ≠ d := ne_of hc hd (by intro z; cases z)
    have fin : ∀ (o2 : Nat) (l2 : Int) (H' : Hp), Ex H0 H' → H' c = some (.lst (ns.map V.int)) → H' d = some (.dK (penK c o2 l2)) → o2 ≤ n + 1 → PenAt ⟨d, c, ns⟩ H0 H' (n + 1) :=
      fun o2 l2 H' x1 x2 x3 x4 => ⟨x1, h0, hc0, hl, o2, l2, x4, x3⟩
    refine ⟨_, (pss_cons (ps_if (pt_cmpR op_gt (pe_dget (hu_of hr) (pv 0) pe_str (fun _ _ => rfl)) pe_int (nomark _)) (pss_cons (ps_set (i := 2) sc_ldraw.nd rfl (Or.inl rfl) (pe_op op_mod (pe_callTy call_int1 (by rfl) T.int PyProof.Rows.boot_int (pa_cons (pe_dget (hu_of hr) (pv 0) pe_str (fun _ _ => rfl)) pa_nil)) (pv 1)))
      (pss_cons (ps_dput (hu_of hr) (pv 0) pe_str (pe_op op_fdivN (pe_dget (hu_of hr) (pv 0) pe_str (fun _ _ => rfl)) (pv 1)) rfl)
      (pss_one (ps_ret (pv 2))))) pss_nil)
      (pss_cons (ps_par (i := 3) (j := 4) (by rfl) sc_ldraw.nd rfl rfl (by decide) rfl rfl (pa_cons (pe_dget (hu_of hr) (pv 0) pe_str (fun _ _ => rfl)) (pa_cons (pe_dget (hu_of hr) (pv 0) pe_str (fun _ _ => rfl)) pa_nil)) (by rfl))
      (pss_cons (ps_dput (hu_of hr) (pv 0) pe_str (pe_op op_add (pv 3) pe_int) rfl)
      (pss_cons (ps_if (pt_cmpR (op_eqD hr.units) (pv 4) (pe_lst pa_nil) (nomark _)) (pss_one (ps_ret (pe_op op_mod (pe_callTy call_int1 (by rfl) T.int PyProof.Rows.boot_int (pa_cons (pe_op op_add (pe_op op_mul pe_int (pv 3)) pe_int) pa_nil)) (pv 1)))) pss_nil)
      (pss_cons (ps_set (i := 5) sc_ldraw.nd rfl (Or.inl rfl) (pe_ix ix_list (pv 4) (pe_op op_mod (pe_callTy call_int1 (by rfl) T.int PyProof.Rows.boot_int (pa_cons (pv 3) pa_nil)) (pe_callB call_len_seq (by rfl) T.len PySem.boot_len (pa_cons (pv 4) pa_nil))) (fun _ _ => rfl)))
      (pss_cons (ps_if (PW.pt (pw_and (pt_cmpR op_lt (pv 3) (pe_callB call_len_seq (by rfl) T.len PySem.boot_len (pa_cons (pv 4) pa_nil)) (nomark _)) (pw_and1 (pt_cmpR op_ge (pe_callB call_abs (by rfl) T.abs (by decide +kernel) (pa_cons (pv 5) pa_nil)) (pe_op op_pow pe_int pe_int) (nomark _))))) (pss_cons (ps_dput (hu_of hr) (pv 0) pe_str (pe_op op_fdivN (pe_op op_sub (pe_callB call_abs (by rfl) T.abs (by decide +kernel) (pa_cons (pv 5) pa_nil)) (pe_op op_pow pe_int pe_int)) (pv 1)) rfl)
      (pss_one (ps_ret (pe_op op_mod (pe_callTy call_int1 (by rfl) T.int PyProof.Rows.boot_int (pa_cons (pe_op op_sub (pe_callB call_abs (by rfl) T.abs (by decide +kernel) (pa_cons (pv 5) pa_nil)) (pe_op op_pow pe_int pe_int)) pa_nil)) (pv 1))))) pss_nil)
      (pss_cons (ps_set (i := 6) sc_ldraw.nd rfl (Or.inl rfl) (pe_op op_mod (pe_callTy call_int1 (by rfl) T.int PyProof.Rows.boot_int (pa_cons (pe_op op_add (pe_op op_add (pe_op op_add (pe_op op_mul (pe_op op_mod (pe_callTy call_int1 (by rfl) T.int PyProof.Rows.boot_int (pa_cons (pv 5) pa_nil)) pe_int) pe_int) (pe_op op_mul (pe_op op_mul pe_int (pv 3)) (pv 3))) (pe_op op_mul pe_int (pv 3))) pe_int) pa_nil)) pe_int))
      (pss_cons (ps_set (i := 6) sc_ldraw.nd rfl (Or.inl rfl) (pe_op op_mod (pe_callTy call_int1 (by rfl) T.int PyProof.Rows.boot_int (pa_cons (pe_op op_add (pe_op op_add (pe_op op_mul (pv 6) (pv 6)) (pe_op op_mul pe_int (pv 6))) (pe_op op_mul pe_int (pv 3))) pa_nil)) pe_int))
      (pss_one (ps_ret (pe_op op_mod (pe_callTy call_int1 (by rfl) T.int PyProof.Rows.boot_int (pa_cons (pe_op op_fdivN (pe_op op_mod (pe_callTy call_int1 (by rfl) T.int PyProof.Rows.boot_int (pa_cons (pe_op op_mul (pv 6) (pe_op op_add (pv 6) pe_int)) pa_nil)) pe_int) pe_int) pa_nil)) (pv 1)))))))))))), ?_⟩
    refine ⟨_, rfl, d, .int lf, rfl, dget_of hd (get_left _ _ _), _, _, rfl, rfl, _, rfl, ite2 (fun hp => ?_) (fun hp => ?_)⟩
    · refine ⟨_, rfl, d, .int lf, rfl, dget_of hd (get_left _ _ _), .inl ⟨_, rfl, ?_⟩⟩
      refine ⟨_, rfl, _, _, rfl, rfl, hm0, ?_⟩
      refine ⟨_, rfl, d, .int lf, rfl, dget_of hd (get_left _ _ _), _, rfl, _, _, rfl, rfl, ⟨by omega, by omega⟩, ?_⟩
      refine ⟨_, rfl, d, _, rfl, dput_of hd (by show 3 < 100; decide) (put_left _ _ _ _), ?_⟩
      refine ⟨_, rfl, ?_⟩
      exact q _ _ (fin op _ _ (e0.mut h0) (by rw [upd_ne ncd]; exact hc) upd_same (by omega)) (Int.emod_nonneg _ (by omega)) (Int.emod_lt_of_pos _ hm0)
    · refine ⟨_, rfl, d, _, rfl, dget_of hd (get_opened _ _ _), _, rfl, d, _, rfl, dget_of hd (get_cells _ _ _), _, _, rfl, ?_⟩
      refine ⟨_, rfl, _, _, rfl, rfl, _, rfl, d, _, rfl, dput_of hd (by show 3 < 100; decide) (put_opened _ _ _ _), ?_⟩
      have x1 : Ex H0 (upd H d (.dK (penK c ((op : Int) + 1) lf))) := e0.mut h0
      have hc1 : (upd H d (.dK (penK c ((op : Int) + 1) lf))) c = some (.lst (ns.map V.int)) := by
        rw [upd_ne ncd]
        exact hc
      have hd1 : (upd H d (.dK (penK c ((op : Int) + 1) lf))) d = some (.dK (penK c ((op + 1 : Nat) : Int) lf)) := upd_same
      generalize (upd H d (.dK (penK c ((op : Int) + 1) lf))) = H1 at x1 hc1 hd1 ⊢
      -- if cells == []
      refine ⟨_, rfl, Nat.zero_le _, fun el hel => ?_⟩
      have x2 := x1.trans (Ex.new (o := .lst []) hel)
      have hc2 : (upd H1 el (.lst [])) c = some (.lst (ns.map V.int)) := Ex.new hel _ _ hc1
      have hd2 : (upd H1 el (.lst [])) d = some (.dK (penK c ((op + 1 : Nat) : Int) lf)) := Ex.new hel _ _ hd1
      refine ⟨.list (ns.map PyData.int), .list [], .lst (sq_of hc2) (dp_ints ns), .lst (xs := []) (sq_of upd_same) .nil, shaped_ints ns, rfl, _, rfl, ?_⟩
      rw [eqv_nil]
      generalize (upd H1 el (.lst [])) = H2 at x2 hc2 hd2 ⊢
      cases hns : ns.isEmpty with
      | true =>
        refine iteT ?_
        refine ⟨_, rfl, _, _, rfl, rfl, .inl (by decide), _, _, rfl, rfl, .inl ⟨_, rfl, _, rfl, _, _, rfl, rfl, hm0, ?_⟩⟩
        exact q _ _ (fin _ _ _ x2 hc2 hd2 (by omega)) (Int.emod_nonneg _ (by omega)) (Int.emod_lt_of_pos _ hm0)
      | false =>
        refine iteF ?_
        have hpos : 0 < ns.length := by
          cases ns with
          | nil => cases hns
          | cons x r => exact Nat.succ_pos _
        have hL : (0 : Int) < ((ns.map V.int).length : Int) := by
          rw [List.length_map]
          omega
        -- cell = cells[int(k) % len(cells)]
        obtain ⟨i, hi⟩ : ∃ i : Nat, (op : Int) % ((ns.map V.int).length : Int) = (i : Int) := ⟨((op : Int) % ((ns.map V.int).length : Int)).toNat, (Int.toNat_of_nonneg (Int.emod_nonneg _ (by omega))).symm⟩
        have hi2 : i < ns.length := by
          have := Int.emod_lt_of_pos (op : Int) hL
          rw [hi, List.length_map] at this
          omega
        have hat : atI (ns.map V.int) ((op : Int) % ((ns.map V.int).length : Int)) = some (V.int ns[i]) := by
          rw [hi]
          exact atI_nat (by rw [List.getElem?_map, List.getElem?_eq_getElem hi2]; rfl)
        refine ⟨_, rfl, _, rfl, .inl ⟨_, rfl, _, rfl, c, _, rfl, .inl (sq_of hc2), _, _, rfl, rfl, hL, c, _, _, _, rfl, rfl, sq_of hc2, hat, ?_⟩⟩
        generalize ns[i] = x
        -- the test
        have hcell : ∀ {σ : L2.St} {H' : Hp}, σ[5]? = some (some (V.int x)) → Ev (tVar 5) σ H' (V.int x) := fun h => ev_var h
        dsimp only [gName]
        refine q_when (b := decide ((op : Int) < ((ns.map V.int).length : Int)) && decide ((10 : Int) ^ (18 : Int).toNat ≤ (if x < 0 then -x else x)))
          (et_and (fun H4 e4 Q4 q4 => ?_) (fun _ H4 e4 Q4 q4 => ?_)) (fun hb H3 e3 => ?_) (fun hb H3 e3 => ?_)
        · exact ⟨_, rfl, _, rfl, c, _, rfl, .inl (sq_of (e4 _ _ hc2)), _, _, rfl, rfl, _, rfl, q4 _ (Ex.refl _)⟩
        · exact ⟨_, rfl, _, rfl, _, _, rfl, rfl, ⟨by decide, by decide, by decide⟩, _, _, rfl, rfl, _, rfl, q4 _ (Ex.refl _)⟩
        · have x3 := x2.trans e3
          refine ⟨_, rfl, _, rfl, _, _, rfl, rfl, ⟨by decide, by decide, by decide⟩, _, _, rfl, rfl, _, rfl, _, _, rfl, rfl, ⟨by omega, by omega⟩, ?_⟩
          refine ⟨_, rfl, d, _, rfl, dput_of (e3 _ _ hd2) (by show 3 < 100; decide) (put_left _ _ _ _), ?_⟩
          refine ⟨_, rfl, _, rfl, _, _, rfl, rfl, ⟨by decide, by decide, by decide⟩, _, _, rfl, rfl, .inl ⟨_, rfl, _, rfl, _, _, rfl, rfl, hm0, ?_⟩⟩
          exact q _ _ (fin _ _ _ (x3.mut h0) (by rw [upd_ne ncd]; exact e3 _ _ hc2) upd_same (by omega)) (Int.emod_nonneg _ (by omega)) (Int.emod_lt_of_pos _ hm0)
        · have x3 := x2.trans e3
          have b1 : (0 : Int) ≤ x % 4294965521 := Int.emod_nonneg _ (by decide)
          have b2 : x % 4294965521 < 4294965521 := Int.emod_lt_of_pos _ (by decide)
          refine ⟨_, rfl, .inl ⟨_, rfl, _, _, rfl, rfl, (by show (0 : Int) < _; decide), _, _, rfl, rfl, .inr ⟨by decide, by decide⟩, ?_⟩⟩
          refine ⟨_, rfl, _, _, rfl, rfl, .inl ⟨by decide, by decide⟩, _, rfl, _, _, rfl, rfl, .inr ⟨by omega, by omega⟩, _, _, rfl, rfl, ?_⟩
          refine ⟨_, rfl, _, _, rfl, rfl, .inl ⟨by decide, by decide⟩, _, _, rfl, rfl, _, _, rfl, rfl, .inl ⟨_, rfl, _, _, rfl, rfl, (by show (0 : Int) < _; decide), ?_⟩⟩
          generalize hy : (x % 4294965521 * 43793 + 25999 * (op : Int) * (op : Int) + 839 * (op : Int) + 67) % 4294965583 = y
          have b3 : 0 ≤ y := by rw [← hy]; exact Int.emod_nonneg _ (by decide)
          have b4 : y < 4294965583 := by rw [← hy]; exact Int.emod_lt_of_pos _ (by decide)
          refine ⟨_, rfl, _, rfl, _, _, rfl, rfl, .inl ⟨by omega, by omega⟩, _, rfl, _, _, rfl, rfl, .inl ⟨by decide, by decide⟩, _, _, rfl, rfl, ?_⟩
          refine ⟨_, rfl, _, _, rfl, rfl, .inl ⟨by decide, by decide⟩, _, _, rfl, rfl, .inl ⟨_, rfl, _, _, rfl, rfl, (by show (0 : Int) < _; decide), ?_⟩⟩
          generalize hz : (y * y + 40163 * y + 31 * (op : Int)) % 4294965511 = z
          have b5 : 0 ≤ z := by rw [← hz]; exact Int.emod_nonneg _ (by decide)
          have b6 : z < 4294965511 := by rw [← hz]; exact Int.emod_lt_of_pos _ (by decide)
          refine ⟨_, rfl, _, rfl, _, _, rfl, rfl, _, _, rfl, rfl, .inl ⟨by omega, by omega⟩, .inl ⟨_, rfl, _, _, rfl, rfl, (by show (0 : Int) < _; decide), _, _, rfl, rfl, ⟨by decide, by decide⟩, .inl ⟨_, rfl, _, rfl, _, _, rfl, rfl, hm0, ?_⟩⟩⟩
          exact q _ _ (fin _ _ _ x3 (e3 _ _ hc2) (e3 _ _ hd2) (by omega)) (Int.emod_nonneg _ (by omega)) (Int.emod_lt_of_pos _ hm0)
end
end Law

namespace Law
open PySem PySem.Spec PyProof.Rows L2 Evl
theorem sz_le {n : Nat} (h : n < 1000) : n ≤ sizeLine := Nat.le_trans (Nat.le_of_lt h) (by decide)
theorem at_draw {α : Type} {xs : List α} {r : Int} (h0 : 0 ≤ r) (h1 : r < (xs.length : Int)) : ∃ v, v ∈ xs ∧ atI xs r = some v := by
  obtain ⟨j, rfl⟩ : ∃ j : Nat, r = (j : Int) := ⟨r.toNat, (Int.toNat_of_nonneg h0).symm⟩
  have hj : j < xs.length := by omega
  exact ⟨xs[j], List.getElem_mem hj, atI_nat (List.getElem?_eq_getElem hj)⟩
def spPickS : Sp := fun vs H Q _ => ∃ (p : PenI) (H0 : Hp) (n : Nat) (z : Str), vs = [.ref p.d, .str z] ∧ PenAt p H0 H n ∧ n < 1000000 ∧ 0 < z.length ∧ z.length < 1000 ∧ ∀ H' c, PenAt p H0 H' (n + 1) → c ∈ z.cps.toList → Q (.str ⟨#[c]⟩) H'
def spPickL : Sp := fun vs H Q _ => ∃ (p : PenI) (H0 : Hp) (a : Addr) (n : Nat) (xs : List V), vs = [.ref p.d, .ref a] ∧ PenAt p H0 H n ∧ n < 1000000 ∧ H a = some (.lst xs) ∧ 0 < xs.length ∧ xs.length < 1000 ∧ ∀ H' v, PenAt p H0 H' (n + 1) → v ∈ xs → Q v H'
section
variable {P : Program} {w : World} {K : PySem.W.Frag} {mg : Str → Option Value} {base : Heap}
theorem ok_pickS {f : Addr} {fd : FuncData} (F : Fun K "_law_pick" "_law_pick" s_lpick f fd) (T : Tx mg) (c_ldraw : Kn P w K mg base "_law_draw" ["_law_pen_here", "_law_many"] 1 spDraw) : FnOk P w K mg base CX0 2 f fd ["_law_pen_here", "_law_some"] spPickS := by
  refine F.ok sc_lpick (fun vs H Q E h => ?_) (fun cdv A outer s H vs Q E hr h => ?_)
  · obtain ⟨p, H0, n, z, rfl, _⟩ := h
    rfl
  · obtain ⟨p, H0, n, z, rfl, P0, hn, hz0, hz1, q⟩ := h
    have ez : z.length = z.cps.toList.length := by simp [Str.length]
    refine ⟨_, (pss_one (ps_ret (pe_ix ix_str (pv 1) (pe_call c_ldraw.ok (hr.mono (by decide)) (by rfl) c_ldraw.g c_ldraw.kp c_ldraw.b .nil pass0 (pa_cons (pv 0) (pa_cons (pe_callB call_len_str (by rfl) T.len PySem.boot_len (pa_cons (pv 1) pa_nil)) pa_nil))) (fun _ _ => rfl)))), ?_⟩
    refine ⟨_, rfl, _, rfl, _, rfl, z, rfl, sz_le hz1, p, H0, n, _, rfl, P0, hn, by omega, by omega, fun H' r P1 r0 r1 => ?_⟩
    obtain ⟨c, hc, ha⟩ := at_draw (xs := z.cps.toList) r0 (by rw [← ez]; exact r1)
    exact ⟨z, r, c, rfl, rfl, sz_le hz1, ha, q _ _ P1 hc⟩
theorem ok_pickL {f : Addr} {fd : FuncData} (F : Fun K "_law_pick" "_law_pick" s_lpick f fd) (T : Tx mg) (c_ldraw : Kn P w K mg base "_law_draw" ["_law_pen_here", "_law_many"] 1 spDraw) : FnOk P w K mg base CX0 2 f fd ["_law_pen_here", "_law_some"] spPickL := by
  refine F.ok sc_lpick (fun vs H Q E h => ?_) (fun cdv A outer s H vs Q E hr h => ?_)
  · obtain ⟨p, H0, a, n, xs, rfl, _⟩ := h
    rfl
  · obtain ⟨p, H0, a, n, xs, rfl, P0, hn, hx, hz0, hz1, q⟩ := h
    refine ⟨_, (pss_one (ps_ret (pe_ix ix_list (pv 1) (pe_call c_ldraw.ok (hr.mono (by decide)) (by rfl) c_ldraw.g c_ldraw.kp c_ldraw.b .nil pass0 (pa_cons (pv 0) (pa_cons (pe_callB call_len_seq (by rfl) T.len PySem.boot_len (pa_cons (pv 1) pa_nil)) pa_nil))) (fun _ _ => rfl)))), ?_⟩
    refine ⟨_, rfl, _, rfl, _, rfl, a, xs, rfl, .inl (sq_of hx), p, upd H0 a (.lst xs), n, _, rfl, P0.keep hx (P0.lst_ne hx), hn, by omega, by omega, fun H' r P1 r0 r1 => ?_⟩
    obtain ⟨v, hv, ha⟩ := at_draw (xs := xs) r0 r1
    exact ⟨a, xs, r, v, rfl, rfl, sq_of (P1.1 _ _ upd_same), ha, q _ _ (P0.drop hx P1) hv⟩
end
end Law

namespace Law
open PySem PySem.Spec PyProof.Rows L2 Evl
def sg (c : Nat) : Str := ⟨#[c]⟩
def tx (l : List Nat) : Str := ⟨l.toArray⟩
theorem tx_len (l : List Nat) : (tx l).length = l.length := by simp [tx, Str.length]
theorem tx_list (l : List Nat) : (tx l).cps.toList = l := rfl
theorem tx_of (z : Str) : tx z.cps.toList = z := TL.ext_tl rfl
theorem sg_len (c : Nat) : (sg c).length = 1 := rfl
theorem joinL_nil : ∀ cs : List Nat, TL.joinL [] (cs.map fun c => [c]) = cs
  | [] => rfl
  | [c] => rfl
  | c :: d :: r => by
    show [c] ++ ([] ++ TL.joinL [] ((d :: r).map fun c => [c])) = c :: d :: r
    rw [joinL_nil (d :: r)]
    rfl
theorem join_sg (cs : List Nat) : Txt.join (Str.ofString "") (cs.map sg) = tx cs := by
  refine TL.ext_tl ?_
  rw [TL.join_eq, TL.tl_join, List.map_map, show TL.tl (Str.ofString "") = [] by decide +kernel]
  exact joinL_nil cs
theorem join_size (cs : List Nat) : ((cs.map sg).map (·.length)).sum = cs.length := by
  induction cs with
  | nil => rfl
  | cons c r ih =>
    show 1 + ((r.map sg).map (·.length)).sum = r.length + 1
    rw [ih, Nat.add_comm]
/-- the signs joined -/
theorem join_done {K : PySem.W.Frag} {H : Hp} {D : Addr} {cs : List Nat} {Q : VK} (hD : H D = some (.lst ((cs.map sg).map V.str))) (hl : cs.length ≤ 1000000) (q : Q (.str (tx cs)) H) :
    ∃ (a : Str) (p : Addr), ∃ ys : List Str, V.str (Str.ofString "") = .str a ∧ [V.ref D] = [.ref p] ∧ (SqL K H p (ys.map V.str) ∨ SqT K H p (ys.map V.str)) ∧ (ys.map (·.length)).sum + ys.length * a.length ≤ 16777216 ∧ Q (.str (Txt.join a ys)) H := by
  refine ⟨_, D, cs.map sg, rfl, rfl, .inl (sq_of hD), ?_, ?_⟩
  · rw [join_size, show (Str.ofString "").length = 0 from rfl]
    omega
  · rw [join_sg]
    exact q
def lets (f p n : Nat) : List Nat := (List.range n).map fun k => 97 + (f + p * k) % 26
def paces : List Nat := [1, 3, 5, 7, 9, 11, 15, 17, 19, 21, 23, 25]
def spLetters : Sp := fun vs H Q _ => ∃ (p : PenI) (H0 : Hp) (n : Nat), vs = [.ref p.d] ∧ PenAt p H0 H n ∧ n < 900000 ∧ ∀ H' f q m, PenAt p H0 H' (n + 3) → f < 26 → q ∈ paces → 2 ≤ m → m ≤ 4 → Q (.str (tx (lets f q m))) H'
theorem abc_at (r : Int) : ∃ c, atI (Str.ofString "abcdefghijklmnopqrstuvwxyz").cps.toList (r % 26) = some c ∧ c = 97 + (r % 26).toNat := by
  have h0 : 0 ≤ r % 26 := Int.emod_nonneg _ (by decide)
  have h1 : r % 26 < 26 := Int.emod_lt_of_pos _ (by decide)
  generalize hi : (r % 26) = i at h0 h1
  obtain ⟨j, rfl⟩ : ∃ j : Nat, i = (j : Int) := ⟨i.toNat, (Int.toNat_of_nonneg h0).symm⟩
  have hj : j < 26 := by omega
  have key : ∀ j : Nat, j < 26 → (Str.ofString "abcdefghijklmnopqrstuvwxyz").cps.toList[j]? = some (97 + j) := by decide +kernel
  exact ⟨97 + j, atI_nat (key j hj), by simp⟩
theorem paces_le : ∀ x ∈ paces, x ≤ 25 := by decide
theorem lets_succ (f p n : Nat) : lets f p (n + 1) = lets f p n ++ [97 + (f + p * n) % 26] := by
  unfold lets
  rw [List.range_succ, List.map_append]
  rfl
theorem lets_len (f p n : Nat) : (lets f p n).length = n := by
  unfold lets
  rw [List.length_map, List.length_range]
theorem sg_snoc (cs : List Nat) (c : Nat) : ((cs.map sg).map V.str) ++ [.str (sg c)] = ((cs ++ [c]).map sg).map V.str := by
  rw [List.map_append, List.map_append]
  rfl
theorem fresh0 {p : PenI} {H0 H : Hp} {n : Nat} {a : Addr} (P : PenAt p H0 H n) (h : H a = none) : H0 a = none := fresh_back P.1 h
theorem fresh_ne {p : PenI} {H0 H : Hp} {n : Nat} {a : Addr} (P : PenAt p H0 H n) (h : H a = none) : a ≠ p.d := by
  obtain ⟨kvs, h2⟩ := P.dict
  intro e
  rw [e, h2] at h
  cases h
section
variable {P : Program} {w : World} {K : PySem.W.Frag} {mg : Str → Option Value} {base : Heap}
theorem ok_letters {f : Addr} {fd : FuncData} (F : Fun K "_law_letters" "_law_letters" s_lletters f fd) (T : Tx mg) (c_ldraw : Kn P w K mg base "_law_draw" ["_law_pen_here", "_law_many"] 1 spDraw)
    (c_pickL : Kn P w K mg base "_law_pick" ["_law_pen_here", "_law_some"] 2 spPickL) : FnOk P w K mg base CX0 3 f fd ["_law_pen_here"] spLetters := by
  refine F.ok sc_lletters (fun vs H Q E h => ?_) (fun cdv A outer s H vs Q E hr h => ?_)
  · obtain ⟨p, H0, n, rfl, _⟩ := h
    rfl
  · obtain ⟨p, H0, n, rfl, P0, hn, q⟩ := h
    refine ⟨_, (pss_cons (ps_asg (pe_tup (pa_cons pe_str (pa_cons (pe_call c_ldraw.ok (hr.mono (by decide)) (by rfl) c_ldraw.g c_ldraw.kp c_ldraw.b .nil pass0 (pa_cons (pv 0) (pa_cons pe_int pa_nil))) pa_nil))) (pg_tup (by rfl) (pgs_cons (pg_name (i := 1) sc_lletters.nd rfl (Or.inr rfl)) (pgs_cons (pg_name (i := 2) sc_lletters.nd rfl (Or.inr rfl)) pgs_nil))))
      (pss_cons (ps_set (i := 3) sc_lletters.nd rfl (Or.inr rfl) (pe_call c_pickL.ok (hr.mono (by decide)) (by rfl) c_pickL.g c_pickL.kp c_pickL.b .nil pass0 (pa_cons (pv 0) (pa_cons (pe_lst (pa_cons pe_int (pa_cons pe_int (pa_cons pe_int (pa_cons pe_int (pa_cons pe_int (pa_cons pe_int (pa_cons pe_int (pa_cons pe_int (pa_cons pe_int (pa_cons pe_int (pa_cons pe_int (pa_cons pe_int pa_nil))))))))))))) pa_nil))))
      (pss_one (ps_ret (pe_join pe_str (pe_lc (own := [("_law_k", 4)]) (g := gName 4) (tt := tYes) rfl sc_lletters.nd (pi_range1 (by rfl) T.range (pa_cons (pe_op op_add pe_int (pe_call c_ldraw.ok (hr.mono (by decide)) (by rfl) c_ldraw.g c_ldraw.kp c_ldraw.b .nil pass0 (pa_cons (pv 0) (pa_cons pe_int pa_nil)))) pa_nil)) (blkOk_by (N := N_lletters) (sc := defScope s_lletters) (by decide +kernel)) (fun _ _ _ _ _ => (pg_name (i := 4) sc_lletters.nd rfl (Or.inl rfl))) (fun _ _ _ _ _ => pts_nil) (fun _ _ _ _ _ => (pe_ix ix_str (pv 1) (pe_op op_mod (pe_callTy call_int1 (by rfl) T.int PyProof.Rows.boot_int (pa_cons (pe_op op_add (pv 2) (pe_op op_mul (pv 3) (pv 4))) pa_nil)) pe_int) (fun _ _ => rfl))))))))), ?_⟩
    refine ⟨_, rfl, p, H0, n, 26, rfl, P0, by omega, by decide, by decide, fun H1 r P1 r0 r1 => ⟨by show 2 ≤ sizeLine; decide, fun t ht => ?_⟩⟩
    refine ⟨t, _, rfl, .inl (.inl upd_same), rfl, _, _, rfl, _, _, rfl, rfl, ?_⟩
    have P2 := P1.ex (Ex.new (o := .tup [V.str (Str.ofString "abcdefghijklmnopqrstuvwxyz"), V.int r]) ht)
    generalize (upd H1 t (.tup [V.str (Str.ofString "abcdefghijklmnopqrstuvwxyz"), V.int r])) = H2 at P2 ⊢
    refine ⟨_, rfl, by show 12 ≤ sizeLine; decide, fun l hl => ⟨p, H0, l, n + 1, _, rfl, P2.ex (Ex.new hl), by omega, upd_same, by show 0 < 12; decide, by show 12 < 1000; decide, fun H3 v P3 hv => ?_⟩⟩
    obtain ⟨pc, hpc, rfl⟩ : ∃ pc : Nat, pc ∈ paces ∧ v = .int pc := by
      have hv2 : v ∈ paces.map fun pc => V.int ((pc : Nat) : Int) := hv
      obtain ⟨x, h1, h2⟩ := List.mem_map.mp hv2
      exact ⟨x, h1, h2.symm⟩
    refine ⟨⟨_, rfl⟩, _, rfl, p, H0, n + 2, 3, rfl, P3, by omega, by decide, by decide, fun H4 r2 P4 s0 s1 => ⟨_, _, rfl, rfl, _, rfl, by omega, by omega, fun D hD => ?_⟩⟩
    obtain ⟨m, hm⟩ : ∃ m : Nat, (2 + r2).toNat = m := ⟨_, rfl⟩
    obtain ⟨fr, rfl⟩ : ∃ fr : Nat, r = (fr : Int) := ⟨r.toNat, (Int.toNat_of_nonneg r0).symm⟩
    rw [hm]
    have pc1 := paces_le pc hpc
    have d0 := fresh0 P4 hD
    have d1 := fresh_ne P4 hD
    refine lc_range (lo := 0) (n := m) (fun i H => PenAt p H0 H (n + 3) ∧ H D = some (.lst (((lets fr pc i).map sg).map V.str))) ⟨(P4.upd d0 d1).le (by omega), upd_same⟩ (fun i H hi hw => ?_) (fun H hw => ?_)
    · refine ⟨rfl, _, rfl, _, rfl, _, rfl, _, rfl, _, _, rfl, rfl, .inl ⟨by omega, by omega⟩, _, _, rfl, rfl, .inl ⟨_, rfl, _, _, rfl, rfl, (by show (0 : Int) < 26; decide), ?_⟩⟩
      obtain ⟨c, hc1, hc2⟩ := abc_at ((fr : Int) + (pc : Int) * ((0 : Int) + (i : Int)))
      refine ⟨_, _, c, rfl, rfl, by decide +kernel, hc1, _, hw.2, ?_, hw.1.upd d0 d1, ?_⟩
      · rw [List.length_map, List.length_map, lets_len]
        exact Nat.lt_of_lt_of_le (show i < 100 by omega) (by decide)
      · rw [upd_same]
        refine congrArg (fun l => some (HO.lst l)) ?_
        rw [lets_succ, ← sg_snoc]
        have e : c = 97 + (fr + pc * i) % 26 := by
          rw [hc2]
          have e1 : ((fr : Int) + (pc : Int) * ((0 : Int) + (i : Int))) = ((fr + pc * i : Nat) : Int) := by
            rw [Int.zero_add]
            simp
          rw [e1]
          omega
        rw [e]
        rfl
    · exact join_done hw.2 (by unfold lets; rw [List.length_map, List.length_range]; omega) (q _ _ _ _ hw.1 (by omega) hpc (by omega) (by omega))
end
end Law

namespace Law
open PySem PySem.Spec PyProof.Rows L2 Evl TR
theorem fold_app (l : List (Array Nat)) : ∀ a : Array Nat, (l.foldl (· ++ ·) a).toList = a.toList ++ (l.map Array.toList).flatten := by
  induction l with
  | nil => intro a; simp
  | cons x r ih =>
    intro a
    rw [List.foldl_cons, ih, List.map_cons, List.flatten_cons, Array.toList_append, List.append_assoc]
theorem mul_tx (l : List Nat) {n : Int} (h : 1 ≤ n) : Txt.mul (tx l) n = tx (List.replicate n.toNat l).flatten := by
  refine TL.ext_tl ?_
  unfold Txt.mul
  rw [if_neg (by omega)]
  by_cases q : (n == 1 || (tx l).length == 0) = true
  · rw [if_pos q]
    rw [Bool.or_eq_true, beq_iff_eq, beq_iff_eq] at q
    rcases q with q | q
    · subst q
      show l = (List.replicate 1 l).flatten
      simp
    · rw [tx_len] at q
      have e : l = [] := List.length_eq_zero_iff.mp q
      subst e
      show ([] : List Nat) = (List.replicate n.toNat []).flatten
      simp
  · rw [if_neg q]
    show (List.foldl (· ++ ·) #[] (List.replicate n.toNat (tx l).cps)).toList = (List.replicate n.toNat l).flatten
    rw [fold_app, List.map_replicate]
    rfl
theorem rep_len (n : Nat) (l : List Nat) : (List.replicate n l).flatten.length = n * l.length := by
  induction n with
  | zero => simp
  | succ k ih => rw [List.replicate_succ, List.flatten_cons, List.length_append, ih, Nat.succ_mul, Nat.add_comm]
theorem cut_to (l : List Nat) (k : Nat) : cutS (tx l) none (some (k : Int)) = tx (l.take k) := by
  refine TL.ext_tl ?_
  show (List.take _ (List.drop _ l)) = l.take k
  rw [HT.sIx_none, HT.sIx_nat, tx_len, Nat.sub_zero, List.drop_zero]
  rw [List.take_eq_take_iff]
  omega
theorem cut_from (l : List Nat) (k : Nat) : cutS (tx l) (some (k : Int)) none = tx (l.drop k) := by
  refine TL.ext_tl ?_
  show (List.take _ (List.drop _ l)) = l.drop k
  rw [HT.sIx_none, HT.sIx_nat, tx_len]
  by_cases h : k ≤ l.length
  · rw [Nat.min_eq_left h, List.take_of_length_le (by rw [List.length_drop]; omega)]
  · rw [Nat.min_eq_right (by omega), Nat.sub_self, List.take_zero, List.drop_eq_nil_of_le (by omega)]
theorem cut_mid (l : List Nat) (a b : Nat) : cutS (tx l) (some (a : Int)) (some ((a : Int) + (b : Int))) = tx ((l.drop a).take b) := by
  refine TL.ext_tl ?_
  show (List.take _ (List.drop _ l)) = (l.drop a).take b
  rw [show (a : Int) + (b : Int) = ((a + b : Nat) : Int) by omega, HT.sIx_nat, HT.sIx_nat, tx_len]
  by_cases h : a ≤ l.length
  · rw [Nat.min_eq_left h, List.take_eq_take_iff, List.length_drop]
    omega
  · have x1 : min a l.length = l.length := by omega
    have x2 : min (a + b) l.length = l.length := by omega
    rw [x1, x2, List.drop_length, List.drop_eq_nil_of_le (show l.length ≤ a by omega), List.take_nil, List.take_nil]
theorem join_bound (cs : List Nat) (h : cs.length ≤ 1000000) : ((cs.map sg).map (·.length)).sum + (cs.map sg).length * (Str.ofString "").length ≤ 16777216 := by
  rw [join_size, show (Str.ofString "").length = 0 from rfl]
  omega
theorem tx_le {l : List Nat} (h : l.length < 1000) : (tx l).length ≤ sizeLine := by
  rw [tx_len]
  exact sz_le h
theorem sg_tx (c : Nat) : sg c = tx [c] := rfl
theorem mem_rep {n : Nat} {l : List Nat} {c : Nat} (h : c ∈ (List.replicate n l).flatten) : c ∈ l := by
  obtain ⟨m, hm, hc⟩ := List.mem_flatten.mp h
  rw [List.eq_of_mem_replicate hm] at hc
  exact hc
theorem tx_app (l m : List Nat) : tx l ++ tx m = tx (l ++ m) := by
  refine TL.ext_tl ?_
  rw [TL.tl_append]
  rfl
theorem sgs_of (l : List Nat) : ST.signsOf (tx l) = l.map sg := rfl
theorem tx_size (l : List Nat) : (tx l).cps.size = l.length := by simp [tx]
theorem tx_at {l : List Nat} {i c : Nat} (h : (tx l).cps[i]? = some c) : l[i]? = some c := by
  rw [← h]
  simp [tx]
theorem sg_inj2 {c d : Nat} (h : sg c = sg d) : c = d := by
  have h2 : (sg c).cps.toList = (sg d).cps.toList := by rw [h]
  exact List.head_eq_of_cons_eq h2
theorem dct_nodup {l : List Nat} (h : l.Nodup) : ∀ i, i ≤ l.length → ST.dct (l.map sg) i = i
  | 0, _ => rfl
  | i + 1, hi => by
    have ih := dct_nodup h i (by omega)
    unfold ST.dct
    have hno : (((l.map sg).take i).any (· == (l.map sg).getD i Str.empty)) = false := by
      rw [Bool.eq_false_iff]
      intro q
      rw [List.any_eq_true] at q
      obtain ⟨x, hx, he⟩ := q
      rw [beq_iff_eq] at he
      have hi2 : i < l.length := by omega
      have e1 : (l.map sg).getD i Str.empty = sg l[i] := by
        rw [List.getD_eq_getElem?_getD, List.getElem?_map, List.getElem?_eq_getElem hi2]
        rfl
      rw [e1] at he
      obtain ⟨j, hj, ej⟩ := List.mem_iff_getElem.mp hx
      rw [List.length_take, List.length_map] at hj
      have ej2 : sg (l[j]'(by omega)) = x := by
        rw [← ej, List.getElem_take, List.getElem_map]
      have e2 : l[j]'(by omega) = l[i] := sg_inj2 (ej2.trans he)
      exact List.pairwise_iff_getElem.mp h j i (by omega) hi2 (by omega) e2
    rw [hno]
    show (if false = true then _ else _) = i + 1
    rw [if_neg (by decide), ih]
/-- letters: two to four different small ones -/
structure LG (l : List Nat) : Prop where
  lo : 2 ≤ l.length
  hi : l.length ≤ 4
  az : ∀ c ∈ l, 97 ≤ c ∧ c ≤ 122
  nd : l.Nodup
theorem lets_good {f p m : Nat} (hf : f < 26) (hp : p ∈ paces) (h1 : 2 ≤ m) (h2 : m ≤ 4) : LG (lets f p m) := by
  refine ⟨by rw [lets_len]; exact h1, by rw [lets_len]; exact h2, fun c hc => ?_, ?_⟩
  · unfold lets at hc
    obtain ⟨k, _, rfl⟩ := List.mem_map.mp hc
    omega
  · have key : ∀ f : Nat, f < 26 → ∀ p ∈ paces, (lets f p 2).Nodup ∧ (lets f p 3).Nodup ∧ (lets f p 4).Nodup := by decide +kernel
    obtain ⟨a, b, c⟩ := key f hf p hp
    have hm : m = 2 ∨ m = 3 ∨ m = 4 := by omega
    rcases hm with rfl | rfl | rfl <;> assumption
def spAreL : Sp := fun vs H Q _ => ∃ L : List Nat, vs = [.str (tx L)] ∧ LG L ∧ ∀ H', Ex H H' → Q (.bl true) H'
theorem kit_lt {K : PySem.W.Frag} : PySem.W.kitAny K (.type "list") [.type "list", .type "tuple"] = some true :=
  kitAny_cons (b := true) (kit_ty (by decide +kernel)) (fun h => by cases h) fun _ => rfl
theorem kit_tt {K : PySem.W.Frag} : PySem.W.kitAny K (.type "tuple") [.type "list", .type "tuple"] = some true :=
  kitAny_cons (b := false) (kit_ty (by decide +kernel)) (fun _ => kitAny_cons (b := true) (kit_ty (by decide +kernel)) (fun h => by cases h) fun _ => rfl) fun h => by cases h
theorem kit_ss {K : PySem.W.Frag} : PySem.W.kitOne K (.type "str") (.type "str") = some true := kit_ty (by decide +kernel)
theorem kit_ii {K : PySem.W.Frag} : PySem.W.kitOne K (.type "int") (.type "int") = some true := kit_ty (by decide +kernel)
theorem kit_ib {K : PySem.W.Frag} : PySem.W.kitOne K (.type "int") (.type "bool") = some false := kit_ty (by decide +kernel)
def spIsQ : Sp := fun vs H Q _ => ∃ (a : Addr) (k : Bool) (xs : List V), vs = [.ref a] ∧ H a = some (ob k xs) ∧ ∀ H', Ex H H' → Q (.bl true) H'
def spIsInt : Sp := fun vs H Q _ => ∃ v : Int, vs = [.int v] ∧ ∀ H', Ex H H' → Q (.bl true) H'
def spWhole : Sp := fun vs H Q _ => ∃ v lo hi : Int, vs = [.int v, .int lo, .int hi] ∧ lo ≤ v ∧ v ≤ hi ∧ ∀ H', Ex H H' → Q (.bl true) H'
def spIsPart : Sp := fun vs H Q _ => ∃ (t : Tr) (v : V) (k : Bool) (L : List Nat) (w n : Nat), vs = [v, .str (tx L), .int (w : Int), .int (n : Int)] ∧ TA k H v t ∧ t.ok L.length w n ∧ L.length ≤ 10 ∧ ∀ H', Ex H H' → Q (.bl true) H'
def spWithin : Sp := fun vs H Q _ => ∃ (t : Tr) (v : V) (k : Bool) (H0 : Hp), vs = [v] ∧ TA k H0 v t ∧ Ex H0 H ∧ ∀ r H' us, Ex H H' → H r = none → H' r = some (.lst us) → Kids k H0 us t.kids → Q (.ref r) H'
theorem go_ne_read : ¬ (V.str (Str.ofString "go") = V.str (Str.ofString "read")) := fun h => absurd (V.str.inj h) (by decide +kernel)
theorem go_ne_tell : ¬ (V.str (Str.ofString "go") = V.str (Str.ofString "tell")) := fun h => absurd (V.str.inj h) (by decide +kernel)
theorem tell_ne_read : ¬ (V.str (Str.ofString "tell") = V.str (Str.ofString "read")) := fun h => absurd (V.str.inj h) (by decide +kernel)
theorem tell_ne_go : ¬ (V.str (Str.ofString "tell") = V.str (Str.ofString "go")) := fun h => absurd (V.str.inj h) (by decide +kernel)
theorem read_ne_go : ¬ (V.str (Str.ofString "read") = V.str (Str.ofString "go")) := fun h => absurd (V.str.inj h) (by decide +kernel)
theorem read_ne_tell : ¬ (V.str (Str.ofString "read") = V.str (Str.ofString "tell")) := fun h => absurd (V.str.inj h) (by decide +kernel)
theorem iteD {c A B : Prop} [Decidable c] (hc : c) (h : A) : if decide c = true then A else B := by
  rw [if_pos (decide_eq_true hc)]
  exact h
theorem iteDn {c A B : Prop} [Decidable c] (hc : ¬ c) (h : B) : if decide c = true then A else B := by
  rw [if_neg (by rw [decide_eq_true_eq]; exact hc)]
  exact h
section
variable {P : Program} {w : World} {K : PySem.W.Frag} {mg : Str → Option Value} {base : Heap}
theorem ok_isQ {f : Addr} {fd : FuncData} (F : Fun K "is_list" "is_list" s_is_list f fd) (T : Tx mg) : FnOk P w K mg base CX0 1 f fd ["value"] spIsQ := by
  refine F.ok sc_is_list (fun vs H Q E h => ?_) (fun cdv A outer s H vs Q E hr h => ?_)
  · obtain ⟨a, k, xs, rfl, _⟩ := h
    rfl
  · obtain ⟨a, k, xs, rfl, ha, q⟩ := h
    refine ⟨_, (pss_one (ps_ret (pe_callB call_isiT (by rfl) T.isinstance PyProof.Rows.boot_isinstance (pa_cons (pv 0) (pa_cons (pe_tup (pa_cons (pe_bltn (v := .ty "list") (by rfl) T.list PyProof.Rows.boot_list rfl) (pa_cons (pe_bltn (v := .ty "tuple") (by rfl) T.tuple PyProof.Rows.boot_tuple rfl) pa_nil))) pa_nil))))), ?_⟩
    refine ⟨_, rfl, by show 2 ≤ sizeLine; decide, fun t ht => ?_⟩
    cases k
    · exact ⟨_, t, _, _, _, true, rfl, upd_same, .cons (.ty _) (.cons (.ty _) .nil), .base (.lst (Ex.new ht _ _ ha)), kit_lt, q _ (Ex.new ht)⟩
    · exact ⟨_, t, _, _, _, true, rfl, upd_same, .cons (.ty _) (.cons (.ty _) .nil), .base (.tup (Ex.new ht _ _ ha)), kit_tt, q _ (Ex.new ht)⟩
theorem ok_integer {f : Addr} {fd : FuncData} (F : Fun K "is_integer" "is_integer" s_is_integer f fd) (T : Tx mg) : FnOk P w K mg base CX0 1 f fd ["value"] spIsInt := by
  refine F.ok sc_is_integer (fun vs H Q E h => ?_) (fun cdv A outer s H vs Q E hr h => ?_)
  · obtain ⟨v, rfl, _⟩ := h
    rfl
  · obtain ⟨v, rfl, q⟩ := h
    refine ⟨_, (pss_one (ps_ret (pe_and (pe_callB call_isi (by rfl) T.isinstance PyProof.Rows.boot_isinstance (pa_cons (pv 0) (pa_cons (pe_bltn (v := .ty "int") (by rfl) T.int PyProof.Rows.boot_int rfl) pa_nil))) (pe_one (pe_not (pe_callB call_isi (by rfl) T.isinstance PyProof.Rows.boot_isinstance (pa_cons (pv 0) (pa_cons (pe_bltn (v := .ty "bool") (by rfl) T.bool PyProof.Rows.boot_bool rfl) pa_nil)))))))), ?_⟩
    refine ⟨_, rfl, _, _, _, _, true, rfl, .ty _, .base (.int _), kit_ii, true, rfl, ?_⟩
    exact ⟨_, rfl, _, _, _, _, false, rfl, .ty _, .base (.int _), kit_ib, false, rfl, q H (Ex.refl _)⟩
theorem ok_whole {f : Addr} {fd : FuncData} (F : Fun K "is_whole" "is_whole" s_is_whole f fd) (T : Tx mg) (c_is_integer : Kn P w K mg base "is_integer" ["value"] 1 spIsInt) : FnOk P w K mg base CX0 2 f fd ["value", "low", "high"] spWhole := by
  refine F.ok sc_is_whole (fun vs H Q E h => ?_) (fun cdv A outer s H vs Q E hr h => ?_)
  · obtain ⟨v, lo, hi, rfl, _⟩ := h
    rfl
  · obtain ⟨v, lo, hi, rfl, h1, h2, q⟩ := h
    refine ⟨_, (pss_one (ps_ret (pe_and (pe_call c_is_integer.ok (hr.mono (by decide)) (by rfl) c_is_integer.g c_is_integer.kp c_is_integer.b .nil pass0 (pa_cons (pv 0) pa_nil)) (pe_one (pe_chain op_le op_le (pv 1) (pv 0) (pv 2)))))), ?_⟩
    refine ⟨_, rfl, v, rfl, fun H' e => ⟨true, rfl, ?_⟩⟩
    refine ⟨_, rfl, _, rfl, _, _, rfl, rfl, _, rfl, iteD h1 ⟨_, rfl, _, _, rfl, rfl, ?_⟩⟩
    have q2 := q H' e
    show Q (V.bl (decide (v ≤ hi))) H'
    rw [decide_eq_true h2]
    exact q2
theorem le_a {c : Nat} (h : 97 ≤ c) : (!decide ((sg c).cps.toList < (Str.ofString "a").cps.toList)) = true := by
  rw [show (Str.ofString "a").cps.toList = [97] by decide +kernel, show (sg c).cps.toList = [c] from rfl]
  rw [decide_eq_false]
  · rfl
  · intro q
    rw [List.cons_lt_cons_iff] at q
    rcases q with q | ⟨_, q⟩
    · omega
    · exact absurd q (by simp)
theorem le_z {c : Nat} (h : c ≤ 122) : (!decide ((Str.ofString "z").cps.toList < (sg c).cps.toList)) = true := by
  rw [show (Str.ofString "z").cps.toList = [122] by decide +kernel, show (sg c).cps.toList = [c] from rfl]
  rw [decide_eq_false]
  · rfl
  · intro q
    rw [List.cons_lt_cons_iff] at q
    rcases q with q | ⟨_, q⟩
    · omega
    · exact absurd q (by simp)
theorem lc_str {x : Str} {g : TG} {tt : TT} {te : TE} {vs : List Nat} {σ : L2.St} {H1 : Hp} {D : Addr} {Qd : Hp → Prop} (Pv : Nat → Hp → Prop) (h0 : Pv 0 (upd H1 D (.lst [])))
    (hs : ∀ i c H, x.cps[i]? = some c → Pv i H → g (.str ⟨#[c]⟩) (wipe σ vs) H fun σ2 H2 => wipe σ2 vs = wipe σ vs ∧ tt σ2 H2 fun b H3 =>
      if b = true then te σ2 H3 fun z H4 => ∃ acc, H4 D = some (.lst acc) ∧ acc.length < sizeLine ∧ Pv (i + 1) (upd H4 D (.lst (acc ++ [z]))) else Pv (i + 1) H3) (hd : ∀ H, Pv x.cps.size H → Qd H) :
    ∃ W : Nat → Nat → Hp → Prop, (∃ m, W 0 m (upd H1 D (.lst []))) ∧ ∀ i m H, W i m H →
      ((Its x).stop i H ∧ Qd H) ∨ ((Its x).go i H ∧ ∃ Nx : Hp → Prop, (∀ H', Nx H' → ∃ m', m' < m ∧ W (i + 1) m' H') ∧ ∀ v H', (Its x).yld i H v H' → g v (wipe σ vs) H' fun σ2 H2 => wipe σ2 vs = wipe σ vs ∧ tt σ2 H2 fun b H3 =>
        if b = true then te σ2 H3 fun z H4 => ∃ acc, H4 D = some (.lst acc) ∧ acc.length < sizeLine ∧ Nx (upd H4 D (.lst (acc ++ [z]))) else Nx H3) := by
  refine ⟨fun i m H => i + m = x.cps.size ∧ Pv i H, ⟨_, Nat.zero_add _, h0⟩, ?_⟩
  rintro i m H ⟨e, p⟩
  by_cases hm : m = 0
  · have e2 : i = x.cps.size := by omega
    refine .inl ⟨by show x.cps.size ≤ i; omega, hd H ?_⟩
    rw [← e2]
    exact p
  · refine .inr ⟨by show i < x.cps.size; omega, Pv (i + 1), fun H' p' => ⟨m - 1, by omega, by omega, p'⟩, ?_⟩
    rintro v H' ⟨rfl, c, hc, rfl⟩
    exact hs i c _ hc p
theorem bl_snoc' (bs : List Bool) (b : Bool) : bs.map V.bl ++ [.bl b] = (bs ++ [b]).map V.bl := by
  rw [List.map_append]
  rfl
theorem all_yes (n : Nat) : (List.replicate n true).all id = true := by
  rw [List.all_eq_true]
  intro x hx
  rw [List.eq_of_mem_replicate hx]
  rfl
theorem ok_areL {f : Addr} {fd : FuncData} (F : Fun K "are_letters" "are_letters" s_are_letters f fd) (T : Tx mg) : FnOk P w K mg base CX0 1 f fd ["value"] spAreL := by
  refine F.ok sc_are_letters (fun vs H Q E h => ?_) (fun cdv A outer s H vs Q E hr h => ?_)
  · obtain ⟨L, rfl, _⟩ := h
    rfl
  · obtain ⟨L, rfl, hL, q⟩ := h
    have h1 := hL.lo
    have h2 := hL.hi
    refine ⟨_, (pss_cons (ps_if (PW.pt (pw_or (pt_not (pt_val (pe_callB call_isi (by rfl) T.isinstance PyProof.Rows.boot_isinstance (pa_cons (pv 0) (pa_cons (pe_bltn (v := .ty "str") (by rfl) T.str PyProof.Rows.boot_str rfl) pa_nil))))) (pw_or1 (pt_not (pt_chain op_le op_le pe_int (pe_callB call_len_str (by rfl) T.len PySem.boot_len (pa_cons (pv 0) pa_nil)) pe_int))))) (pss_one (ps_ret pe_bl)) pss_nil)
      (pss_one (ps_ret (pe_and (pe_callB (cr_all rfl) (by rfl) T.all PyProof.Rows.boot_all (pa_cons (pe_lc (own := [("sign", 1)]) (g := gName 1) (tt := tYes) rfl sc_are_letters.nd (pi_str (pv 0)) (blkOk_by (N := N_are_letters) (sc := defScope s_are_letters) (by decide +kernel)) (fun _ _ _ _ _ => (pg_name (i := 1) sc_are_letters.nd rfl (Or.inl rfl))) (fun _ _ _ _ _ => pts_nil) (fun _ _ _ _ _ => (pe_chain op_le_str op_le_str pe_str (pv 1) pe_str))) pa_nil)) (pe_one (pe_cmpR op_eq (EN.pe_lenSetS rfl (by rfl) T.len (by rfl) T.set (pv 0)) (pe_callB call_len_str (by rfl) T.len PySem.boot_len (pa_cons (pv 0) pa_nil)) (nomark _))))))), ?_⟩
    refine ⟨_, rfl, _, _, _, _, true, rfl, .ty _, .base (.str _), kit_ss, true, rfl, ?_⟩
    refine ⟨_, rfl, _, rfl, tx_le (by omega), _, _, rfl, rfl, _, rfl, ite2 (fun _ => ?_) (fun hn => absurd (decide_eq_true (by rw [tx_len]; omega)) hn)⟩
    refine ⟨_, _, rfl, rfl, _, rfl, ite2 (fun hb => ?_) (fun _ => ?_)⟩
    · rw [tx_len, decide_eq_true (by omega)] at hb
      cases hb
    refine ⟨_, rfl, _, rfl, fun D hD => ?_⟩
    refine lc_str (x := tx L) (fun i H' => Ex H H' ∧ H' D = some (.lst ((List.replicate i true).map V.bl))) ⟨Ex.new hD, upd_same⟩ (fun i c H' hic hw => ?_) (fun H' hw => ?_)
    · obtain ⟨e, hl⟩ := hw
      have hc := tx_at hic
      have az := hL.az c (List.mem_of_getElem? hc)
      have hi := (List.getElem?_eq_some_iff.mp hc).1
      refine ⟨rfl, _, rfl, _, _, rfl, rfl, _, rfl, ite2 (fun _ => ?_) (fun hn => absurd (le_a az.1) hn)⟩
      refine ⟨_, _, rfl, rfl, _, hl, ?_, e.mut hD, ?_⟩
      · rw [List.length_map, List.length_replicate]
        exact sz_lt (by omega)
      · rw [upd_same]
        refine congrArg (fun l => some (HO.lst l)) ?_
        show (List.replicate i true).map V.bl ++ [V.bl (!decide ((Str.ofString "z").cps.toList < (sg c).cps.toList))] = _
        rw [le_z az.2, bl_snoc', List.replicate_succ']
    · obtain ⟨e, hl⟩ := hw
      refine ⟨D, _, rfl, sq_of hl, _, rfl, ?_⟩
      rw [all_yes]
      refine ⟨_, rfl, _, rfl, by rw [tx_size]; omega, _, rfl, _, rfl, tx_le (by omega), rfl, ?_⟩
      have e2 : decide (V.int ((ST.dct (ST.signsOf (tx L)) (tx L).cps.size : Nat) : Int) = V.int (((tx L).length : Nat) : Int)) = true := decide_eq_true (by
        rw [sgs_of, tx_size, dct_nodup hL.nd _ (Nat.le_refl _), tx_len])
      show Q (V.bl (decide (V.int ((ST.dct (ST.signsOf (tx L)) (tx L).cps.size : Nat) : Int) = V.int (((tx L).length : Nat) : Int)))) H'
      rw [e2]
      exact q _ e
theorem ok_ispart {f : Addr} {fd : FuncData} (F : Fun K "_is_part" "_is_part" s_is_part f fd) (T : Tx mg) (c_is_list : Kn P w K mg base "is_list" ["value"] 1 spIsQ)
    (c_is_whole : Kn P w K mg base "is_whole" ["value", "low", "high"] 2 spWhole) : FnOk P w K mg base CX0 3 f fd ["part", "letters", "width", "states"] spIsPart := by
  refine F.ok sc_is_part (fun vs H Q E h => ?_) (fun cdv A outer s H vs Q E hr h => ?_)
  · obtain ⟨t, v, k, L, wd, n, rfl, _⟩ := h
    rfl
  · obtain ⟨t, v, k, L, wd, n, rfl, hT, hok, hL, q⟩ := h
    refine ⟨_, (pss_cons (ps_if (PW.pt (pw_or (pt_not (pt_val (pe_call c_is_list.ok (hr.mono (by decide)) (by rfl) c_is_list.g c_is_list.kp c_is_list.b .nil pass0 (pa_cons (pv 0) pa_nil)))) (pw_or1 (pt_cmpR op_ne (pe_callB call_len_seq (by rfl) T.len PySem.boot_len (pa_cons (pv 0) pa_nil)) pe_int (nomark _))))) (pss_one (ps_ret pe_bl)) pss_nil)
      (pss_cons (ps_asg (pv 0) (TR.pg_seq (by rfl) (pgs_cons (pg_name (i := 4) sc_is_part.nd rfl (Or.inl rfl)) (pgs_cons (pg_name (i := 5) sc_is_part.nd rfl (Or.inl rfl)) (pgs_cons (pg_name (i := 6) sc_is_part.nd rfl (Or.inl rfl)) pgs_nil)))))
      (pss_cons (ps_if (pt_cmpR op_eq (pv 4) pe_str (nomark _)) (pss_one (ps_ret (pe_and (pe_call c_is_whole.ok (hr.mono (by decide)) (by rfl) c_is_whole.g c_is_whole.kp c_is_whole.b .nil pass0 (pa_cons (pv 5) (pa_cons pe_int (pa_cons (pv 2) pa_nil)))) (pe_and (pe_call c_is_list.ok (hr.mono (by decide)) (by rfl) c_is_list.g c_is_list.kp c_is_list.b .nil pass0 (pa_cons (pv 6) pa_nil)) (pe_one (pe_cmpR op_eq (pe_callB call_len_seq (by rfl) T.len PySem.boot_len (pa_cons (pv 6) pa_nil)) (pe_callB call_len_str (by rfl) T.len PySem.boot_len (pa_cons (pv 1) pa_nil)) (nomark _))))))) pss_nil)
      (pss_cons (ps_if (pt_cmpR op_eq (pv 4) pe_str (nomark _)) (pss_one (ps_ret (pe_call c_is_whole.ok (hr.mono (by decide)) (by rfl) c_is_whole.g c_is_whole.kp c_is_whole.b .nil pass0 (pa_cons (pv 5) (pa_cons pe_int (pa_cons pe_int pa_nil)))))) pss_nil)
      (pss_cons (ps_if (pt_cmpR op_eq (pv 4) pe_str (nomark _)) (pss_one (ps_ret (pe_and (pe_call c_is_whole.ok (hr.mono (by decide)) (by rfl) c_is_whole.g c_is_whole.kp c_is_whole.b .nil pass0 (pa_cons (pv 5) (pa_cons pe_int (pa_cons (pe_op op_add (pv 2) pe_int) pa_nil)))) (pe_one (pe_call c_is_whole.ok (hr.mono (by decide)) (by rfl) c_is_whole.g c_is_whole.kp c_is_whole.b .nil pass0 (pa_cons (pv 6) (pa_cons pe_int (pa_cons (pe_op op_sub (pv 3) pe_int) pa_nil)))))))) pss_nil)
      (pss_one (ps_ret pe_bl))))))), ?_⟩
    cases hT with
    | @go a s' q' h =>
      obtain ⟨o1, o2, o3⟩ := hok
      refine ⟨_, rfl, a, k, _, rfl, h, fun H1 e1 => ⟨true, rfl, ?_⟩⟩
      refine ⟨_, rfl, a, _, rfl, ob_seq (e1 _ _ h), rfl, _, rfl, iteNS rfl ?_⟩
      refine ⟨_, rfl, gSeq_of (e1 _ _ h) rfl ⟨_, _, rfl, _, _, rfl, _, _, rfl, rfl, ?_⟩⟩
      refine ⟨_, rfl, rfl, _, rfl, iteDn go_ne_read ?_⟩
      refine ⟨_, rfl, rfl, _, rfl, iteDn go_ne_tell ?_⟩
      refine ⟨_, rfl, rfl, _, rfl, iteD rfl ?_⟩
      refine ⟨_, rfl, _, rfl, _, _, rfl, rfl, _, _, _, rfl, by omega, by omega, fun H2 e2 => ⟨true, rfl, ?_⟩⟩
      exact ⟨_, rfl, _, rfl, _, _, rfl, rfl, _, _, _, rfl, by omega, by omega, fun H3 e3 => q _ ((e1.trans e2).trans e3)⟩
    | @tell a n' v' t' h r =>
      obtain ⟨o1, o2⟩ := hok
      refine ⟨_, rfl, a, k, _, rfl, h, fun H1 e1 => ⟨true, rfl, ?_⟩⟩
      refine ⟨_, rfl, a, _, rfl, ob_seq (e1 _ _ h), rfl, _, rfl, iteNS rfl ?_⟩
      refine ⟨_, rfl, gSeq_of (e1 _ _ h) rfl ⟨_, _, rfl, _, _, rfl, _, _, rfl, rfl, ?_⟩⟩
      refine ⟨_, rfl, rfl, _, rfl, iteDn tell_ne_read ?_⟩
      refine ⟨_, rfl, rfl, _, rfl, iteD rfl ?_⟩
      exact ⟨_, rfl, _, _, _, rfl, by omega, by omega, fun H2 e2 => q _ (e1.trans e2)⟩
    | @read a b p' us ts h hb r =>
      obtain ⟨o1, o2, o3⟩ := hok
      have lk := r.kids.len
      refine ⟨_, rfl, a, k, _, rfl, h, fun H1 e1 => ⟨true, rfl, ?_⟩⟩
      refine ⟨_, rfl, a, _, rfl, ob_seq (e1 _ _ h), rfl, _, rfl, iteNS rfl ?_⟩
      refine ⟨_, rfl, gSeq_of (e1 _ _ h) rfl ⟨_, _, rfl, _, _, rfl, _, _, rfl, rfl, ?_⟩⟩
      refine ⟨_, rfl, rfl, _, rfl, iteD rfl ?_⟩
      refine ⟨_, rfl, _, rfl, _, _, _, rfl, by omega, by omega, fun H2 e2 => ⟨true, rfl, ?_⟩⟩
      have e12 := e1.trans e2
      refine ⟨_, rfl, b, k, _, rfl, e12 _ _ hb, fun H3 e3 => ⟨true, rfl, ?_⟩⟩
      have e13 := e12.trans e3
      refine ⟨_, rfl, b, _, rfl, ob_seq (e13 _ _ hb), _, rfl, _, rfl, tx_le (by omega), rfl, ?_⟩
      have ee : decide (V.int ((us.length : Nat) : Int) = V.int (((tx L).length : Nat) : Int)) = true := decide_eq_true (by rw [tx_len, lk, o2])
      show Q (V.bl (decide (V.int ((us.length : Nat) : Int) = V.int (((tx L).length : Nat) : Int)))) _
      rw [ee]
      exact q _ e13
theorem ok_within {f : Addr} {fd : FuncData} (F : Fun K "_within" "_within" s_within f fd) (T : Tx mg) : FnOk P w K mg base CX0 1 f fd ["part"] spWithin := by
  refine F.ok sc_within (fun vs H Q E h => ?_) (fun cdv A outer s H vs Q E hr h => ?_)
  · obtain ⟨t, v, k, H0, rfl, _⟩ := h
    rfl
  · obtain ⟨t, v, k, H0, rfl, hT, e0, q⟩ := h
    refine ⟨_, (pss_cons (ps_if (pt_cmpR op_eq (pe_ix ix_seq (pv 0) pe_int (fun _ _ => rfl)) pe_str (nomark _)) (pss_one (ps_ret (pe_callTy call_list_of (by rfl) T.list PyProof.Rows.boot_list (pa_cons (pe_ix ix_seq (pv 0) pe_int (fun _ _ => rfl)) pa_nil)))) pss_nil)
      (pss_cons (ps_if (pt_cmpR op_eq (pe_ix ix_seq (pv 0) pe_int (fun _ _ => rfl)) pe_str (nomark _)) (pss_one (ps_ret (pe_lst (pa_cons (pe_ix ix_seq (pv 0) pe_int (fun _ _ => rfl)) pa_nil)))) pss_nil)
      (pss_one (ps_ret (pe_lst pa_nil))))), ?_⟩
    cases hT with
    | @go a s' q' h =>
      refine ⟨_, rfl, ix_at (e0 _ _ h) (atI_nat (j := 0) rfl) ⟨rfl, _, rfl, iteDn go_ne_read ?_⟩⟩
      refine ⟨_, rfl, ix_at (e0 _ _ h) (atI_nat (j := 0) rfl) ⟨rfl, _, rfl, iteDn go_ne_tell ?_⟩⟩
      exact ⟨Nat.zero_le _, fun r hr => q r _ _ (Ex.new hr) hr upd_same .nil⟩
    | @tell a n' v' t' h r0 =>
      refine ⟨_, rfl, ix_at (e0 _ _ h) (atI_nat (j := 0) rfl) ⟨rfl, _, rfl, iteDn tell_ne_read ?_⟩⟩
      refine ⟨_, rfl, ix_at (e0 _ _ h) (atI_nat (j := 0) rfl) ⟨rfl, _, rfl, iteD rfl ?_⟩⟩
      exact ⟨_, rfl, ix_at (e0 _ _ h) (atI_nat (j := 2) rfl) ⟨by show 1 ≤ sizeLine; decide, fun r hr => q r _ _ (Ex.new hr) hr upd_same (.cons r0 .nil)⟩⟩
    | @read a b p' us ts h hb r0 =>
      refine ⟨_, rfl, ix_at (e0 _ _ h) (atI_nat (j := 0) rfl) ⟨rfl, _, rfl, iteD rfl ?_⟩⟩
      exact ⟨_, rfl, ix_at (e0 _ _ h) (atI_nat (j := 2) rfl) ⟨b, _, rfl, ob_seq (e0 _ _ hb), fun r hr => q r _ _ (Ex.new hr) hr upd_same r0.kids⟩⟩
end
end Law

namespace Law
open PySem PySem.Spec PyProof.Rows L2 Evl TR
/-! ### the waiting ones -/
inductive Stk (k : Bool) (H0 H : Hp) : List V → List (Tr × Nat) → Prop
  | nil : Stk k H0 H [] []
  | cons {r : Addr} {v : V} {t : Tr} {d : Nat} {vs : List V} {ps : List (Tr × Nat)} : H r = some (.tup [v, .int (d : Nat)]) → TA k H0 v t → Stk k H0 H vs ps → Stk k H0 H (.ref r :: vs) ((t, d) :: ps)
theorem Stk.ex {k : Bool} {H0 H H' : Hp} (e : Ex H H') : ∀ {vs : List V} {ps : List (Tr × Nat)}, Stk k H0 H vs ps → Stk k H0 H' vs ps
  | _, _, .nil => .nil
  | _, _, .cons h1 h2 r => .cons (e _ _ h1) h2 (Stk.ex e r)
theorem Stk.len {k : Bool} {H0 H : Hp} : ∀ {vs : List V} {ps : List (Tr × Nat)}, Stk k H0 H vs ps → vs.length = ps.length
  | _, _, .nil => rfl
  | _, _, .cons _ _ r => by rw [List.length_cons, List.length_cons, r.len]
theorem Stk.app {k : Bool} {H0 H : Hp} : ∀ {vs : List V} {ps : List (Tr × Nat)} {us : List V} {qs : List (Tr × Nat)}, Stk k H0 H vs ps → Stk k H0 H us qs → Stk k H0 H (vs ++ us) (ps ++ qs)
  | _, _, _, _, .nil, h => h
  | _, _, _, _, .cons h1 h2 r, h => .cons h1 h2 (Stk.app r h)
theorem Stk.upd {k : Bool} {H0 H : Hp} {a : Addr} {o : HO} : ∀ {vs : List V} {ps : List (Tr × Nat)}, Stk k H0 H vs ps → (∀ xs, H a ≠ some (.tup xs)) → Stk k H0 (L2.upd H a o) vs ps
  | _, _, .nil, _ => .nil
  | _, _, .cons (r := r) h1 h2 r1, hn => .cons (by rw [upd_ne (fun q : r = a => hn _ (by rw [← q]; exact h1))]; exact h1) h2 (Stk.upd r1 hn)
theorem Stk.last {k : Bool} {H0 H : Hp} : ∀ {vs : List V} {ps : List (Tr × Nat)}, Stk k H0 H vs ps → vs ≠ [] →
    ∃ us r v t d qs, vs = us ++ [.ref r] ∧ ps = qs ++ [(t, d)] ∧ Stk k H0 H us qs ∧ H r = some (.tup [v, .int (d : Nat)]) ∧ TA k H0 v t
  | _, _, .nil, h => absurd rfl h
  | _, _, .cons (r := r) (v := v) (t := t) (d := d) h1 h2 .nil, _ => ⟨[], r, v, t, d, [], rfl, rfl, .nil, h1, h2⟩
  | _, _, .cons (r := r) (v := v) (t := t) (d := d) h1 h2 (.cons a1 a2 a3), _ => by
    obtain ⟨us, r', v', t', d', qs, e1, e2, s, b1, b2⟩ := Stk.last (.cons a1 a2 a3) (by intro q; cases q)
    exact ⟨.ref r :: us, r', v', t', d', (t, d) :: qs, by rw [e1]; rfl, by rw [e2]; rfl, .cons h1 h2 s, b1, b2⟩
def tot (ps : List (Tr × Nat)) : Nat := (ps.map fun p => p.1.size).sum
theorem tot_app (ps qs : List (Tr × Nat)) : tot (ps ++ qs) = tot ps + tot qs := by
  unfold tot
  rw [List.map_append, List.sum_append]
theorem tot_kids (ts : List Tr) (d : Nat) : tot (ts.map fun t => (t, d)) = total ts := by
  unfold tot total
  rw [List.map_map]
  rfl
theorem total_rev (ts : List Tr) : total ts.reverse = total ts := by
  unfold total
  rw [List.map_reverse, List.sum_reverse]
theorem len_tot : ∀ ps : List (Tr × Nat), ps.length ≤ tot ps
  | [] => Nat.zero_le _
  | p :: r => by
    have h1 := len_tot r
    have h2 := size_pos p.1
    show r.length + 1 ≤ p.1.size + tot r
    omega
def spFW : Sp := fun vs H Q _ => ∃ (t : Tr) (v : V) (k : Bool) (L : List Nat) (w n : Nat), vs = [v, .str (tx L), .int (w : Int), .int (n : Int)] ∧ TA k H v t ∧ t.ok L.length w n ∧ L.length ≤ 10 ∧ t.depth ≤ 40 ∧ t.size ≤ 10000 ∧ ∀ H', Ex H H' → Q .non H'
theorem pop_last {α : Type} (us : List α) (x : α) : (us ++ [x])[(us ++ [x]).length - 1]? = some x := by
  rw [List.length_append]
  simp
theorem take_next' {α : Type} {l : List α} {i : Nat} {x : α} (h : l[i]? = some x) : l.take (i + 1) = l.take i ++ [x] := by
  rw [List.take_add_one, h]
  rfl
theorem rev_get {α : Type} {l : List α} {i : Nat} {x : α} (h : l[l.length - 1 - i]? = some x) (hi : i < l.length) : l.reverse[i]? = some x := by
  rw [List.getElem?_reverse hi]
  exact h
section
variable {P : Program} {w : World} {K : PySem.W.Frag} {mg : Str → Option Value} {base : Heap}
theorem ok_fw {f : Addr} {fd : FuncData} (F : Fun K "first_wrong" "first_wrong" s_first_wrong f fd) (T : Tx mg) (c_is_part : Kn P w K mg base "_is_part" ["part", "letters", "width", "states"] 3 spIsPart)
    (c_within : Kn P w K mg base "_within" ["part"] 1 spWithin) : FnOk P w K mg base CX0 4 f fd ["tree", "letters", "width", "states"] spFW := by
  refine F.ok sc_first_wrong (fun vs H Q E h => ?_) (fun cdv A outer s H vs Q E hr h => ?_)
  · obtain ⟨t, v, k, L, wd, n, rfl, _⟩ := h
    rfl
  · obtain ⟨t, v, k, L, wd, n, rfl, hT, hok, hL, hdp, hsz, q⟩ := h
    refine ⟨_, (pss_cons (ps_set (i := 4) sc_first_wrong.nd rfl (Or.inl rfl) (pe_lst (pa_cons (pe_tup (pa_cons (pv 0) (pa_cons pe_int pa_nil))) pa_nil)))
      (pss_cons (ps_set (i := 5) sc_first_wrong.nd rfl (Or.inl rfl) pe_int)
      (pss_cons (ps_while PassesOwn.never (pt_truth (pv 4) (by intro _; rfl)) (pss_cons (ps_asg (pe_bm0 PySem.F.plainAttrs_list PySem.F.slot_list_pop PySem.F.type_list_pop mt_pop (pv 4)) (pg_tup (by rfl) (pgs_cons (pg_name (i := 6) sc_first_wrong.nd rfl (Or.inl rfl)) (pgs_cons (pg_name (i := 7) sc_first_wrong.nd rfl (Or.inr rfl)) pgs_nil))))
      (pss_cons (ps_if (PW.pt (pw_or (pt_cmpR op_gt (pv 7) (pe_glob (v := .int 40) rfl T.m_DEEPEST ⟨_, rfl⟩) (nomark _)) (pw_or1 (pt_not (pt_val (pe_call c_is_part.ok (hr.mono (by decide)) (by rfl) c_is_part.g c_is_part.kp c_is_part.b .nil pass0 (pa_cons (pv 6) (pa_cons (pv 1) (pa_cons (pv 2) (pa_cons (pv 3) pa_nil)))))))))) (pss_one (ps_ret (pv 5))) pss_nil)
      (pss_cons (ps_expr (pe_bm PySem.F.plainAttrs_list PySem.F.slot_list_extend PySem.F.type_list_extend mt_extend (pv 4) (pa_cons (pe_lc (own := [("inner", 8)]) (g := gName 8) (tt := tYes) rfl sc_first_wrong.nd (pi_reversed (by rfl) T.reversed (pa_cons (pe_call c_within.ok (hr.mono (by decide)) (by rfl) c_within.g c_within.kp c_within.b .nil pass0 (pa_cons (pv 6) pa_nil)) pa_nil)) (blkOk_by (N := N_first_wrong) (sc := defScope s_first_wrong) (by decide +kernel)) (fun _ _ _ _ _ => (pg_name (i := 8) sc_first_wrong.nd rfl (Or.inl rfl))) (fun _ _ _ _ _ => pts_nil) (fun _ _ _ _ _ => (pe_tup (pa_cons (pv 8) (pa_cons (pe_op op_add (pv 7) pe_int) pa_nil))))) pa_nil)))
      (pss_one (ps_aug (i := 5) sc_first_wrong.nd rfl (Or.inl rfl) pe_int ip_add))))))
      (pss_one (ps_ret pe_non))))), ?_⟩
    refine ⟨_, rfl, by show 2 ≤ sizeLine; decide, fun t1 ht1 => ⟨by show 1 ≤ sizeLine; decide, fun l hl => ?_⟩⟩
    have hl0 : H l = none := fresh_back (Ex.new ht1) hl
    have e1 := (Ex.new (o := .tup [v, .int 1]) ht1).trans (Ex.new (o := .lst [V.ref t1]) hl)
    refine ⟨fun m σ H' => ∃ (st : List V) (ps : List (Tr × Nat)) (nm : Int) (y6 y7 y8 : Option V), σ = [some v, some (.str (tx L)), some (.int (wd : Int)), some (.int (n : Int)), some (.ref l), some (.int nm), y6, y7, y8] ∧
        Ex H H' ∧ H' l = some (.lst st) ∧ Stk k H H' st ps ∧ (∀ p ∈ ps, p.1.ok L.length wd n ∧ p.2 + p.1.depth ≤ 41) ∧ m = tot ps ∧ m ≤ 10000,
      ⟨t.size, [.ref t1], [(t, 1)], 0, none, none, none, rfl, e1, upd_same, .cons (Ex.new hl _ _ upd_same) hT .nil, fun p hp => ?_, ?_, hsz⟩, fun m σ H' hw => ?_⟩
    · rw [List.mem_singleton.mp hp]
      exact ⟨hok, by show 1 + t.depth ≤ 41; omega⟩
    · show t.size = t.size + 0
      rfl
    obtain ⟨st, ps, nm, y6, y7, y8, rfl, e2, hst, S, hall, hm, hm2⟩ := hw
    refine ⟨_, rfl, !st.isEmpty, .inl ⟨st, sq_of hst, rfl⟩, ?_⟩
    cases st with
    | nil =>
      refine iteF ?_
      exact q _ e2
    | cons s0 srest =>
      refine iteT ?_
      obtain ⟨us, r, pv_, pt, d, qs, eS, eP, S', hr, hTA⟩ := S.last (by intro z; cases z)
      rw [eS] at hst
      rw [eP] at hm hall
      have hpt := hall (pt, d) (List.mem_append_right _ List.mem_cons_self)
      have hpt2 : d + pt.depth ≤ 41 := hpt.2
      have dpos : 1 ≤ pt.depth := by
        cases pt
        · exact Nat.le_refl 1
        · exact Nat.succ_le_succ (Nat.zero_le _)
        · exact Nat.succ_le_succ (Nat.zero_le _)
      have hm3 : m = tot qs + pt.size := by
        rw [hm, tot_app]
        rfl
      have nrl : r ≠ l := fun z => by
        rw [z, hst] at hr
        cases hr
      refine ⟨fun σ2 H2 => ∃ m', m' < m ∧ ∃ (st : List V) (ps : List (Tr × Nat)) (nm : Int) (y6 y7 y8 : Option V), σ2 = [some v, some (.str (tx L)), some (.int (wd : Int)), some (.int (n : Int)), some (.ref l), some (.int nm), y6, y7, y8] ∧
        Ex H H2 ∧ H2 l = some (.lst st) ∧ Stk k H H2 st ps ∧ (∀ p ∈ ps, p.1.ok L.length wd n ∧ p.2 + p.1.depth ≤ 41) ∧ m' = tot ps ∧ m' ≤ 10000, fun σ2 H2 h => h, ?_⟩
      refine ⟨_, rfl, .inl ⟨rfl, _, sq_of hst⟩, l, _, _, rfl, rfl, hst, pop_last _ _, ?_⟩
      rw [List.dropLast_concat]
      have e3 : Ex H (L2.upd H' l (.lst us)) := e2.mut hl0
      have hl3 : (L2.upd H' l (.lst us)) l = some (.lst us) := upd_same
      have hr3 : (L2.upd H' l (.lst us)) r = some (.tup [pv_, .int (d : Nat)]) := by
        rw [upd_ne nrl]
        exact hr
      have S3 := S'.upd (a := l) (o := .lst us) fun xs hh => by
        rw [hst] at hh
        cases hh
      generalize (L2.upd H' l (.lst us)) = H3 at e3 hl3 hr3 S3 ⊢
      refine ⟨r, _, rfl, st_of hr3, rfl, _, _, rfl, _, _, rfl, rfl, ?_⟩
      refine ⟨_, rfl, _, _, rfl, rfl, _, rfl, iteDn (by omega) ?_⟩
      refine ⟨_, rfl, _, rfl, _, rfl, _, rfl, pt, pv_, k, L, wd, n, rfl, hTA.ex e3, hpt.1, hL, fun H4 e4 => ⟨true, rfl, ?_⟩⟩
      have e34 := e3.trans e4
      refine ⟨_, rfl, .inl ⟨rfl, _, sq_of (e4 _ _ hl3)⟩, ?_⟩
      refine ⟨_, rfl, pt, pv_, k, H, rfl, hTA, e34, fun r2 H5 ks e5 hr2 hks KK => ?_⟩
      have e35 := e34.trans e5
      have lks := KK.len
      refine ⟨r2, ks, rfl, sq_of hks, fun D hD => ?_⟩
      refine lc_it (walk_rev (K := K) (a := r2) (xs := ks)) (fun i H6 => Ex H5 H6 ∧ ∃ zs, H6 D = some (.lst zs) ∧ Stk k H H6 zs ((pt.kids.reverse.take i).map fun x => (x, d + 1))) ⟨Ex.new hD, [], upd_same, .nil⟩ (fun i H6 _ hw => sq_of (hw.1 _ _ hks)) (fun i x H6 H7 hi hw hy => ?_) (fun H6 hw => ?_)
      · obtain ⟨e6, zs, hzs, Z⟩ := hw
        obtain ⟨rfl, hx⟩ := hy
        obtain ⟨kt, hkt, hka⟩ := KK.get hx
        have hi2 : i < pt.kids.length := by omega
        have hkt2 : pt.kids.reverse[i]? = some kt := rev_get (by rw [← lks]; exact hkt) hi2
        have lz := Z.len
        refine ⟨rfl, _, rfl, _, rfl, _, _, rfl, rfl, by show 2 ≤ sizeLine; decide, fun q2 hq2 => ?_⟩
        have nDq : D ≠ q2 := fun z => by
          rw [z, hq2] at hzs
          cases hzs
        refine ⟨zs, Ex.new hq2 _ _ hzs, ?_, (e6.trans (Ex.new hq2)).mut hD, zs ++ [.ref q2], upd_same, ?_⟩
        · have : zs.length ≤ i := by
            rw [lz, List.length_map, List.length_take]
            exact Nat.min_le_left _ _
          have l2 := KK.len
          have l3 : pt.kids.length ≤ total pt.kids := by
            have := len_tot (pt.kids.map fun x => (x, 0))
            rw [List.length_map, tot_kids] at this
            exact this
          have l4 := size_kids pt
          exact sz_lt (by omega)
        · rw [take_next' hkt2, List.map_append]
          refine Stk.upd ((Z.ex (Ex.new hq2)).app (.cons upd_same hka .nil)) fun xs hh => ?_
          rw [upd_ne nDq, hzs] at hh
          cases hh
      · obtain ⟨e6, zs, hzs, Z⟩ := hw
        rw [lks, ← List.length_reverse, List.take_length] at Z
        have e46 := e5.trans e6
        have lz := Z.len
        have lu := S3.len
        rw [List.length_map, List.length_reverse] at lz
        have l3 : pt.kids.length ≤ total pt.kids := by
          have := len_tot (pt.kids.map fun x => (x, 0))
          rw [List.length_map, tot_kids] at this
          exact this
        have l4 := size_kids pt
        have l5 := len_tot qs
        have hl6 : H6 l = some (.lst us) := e46 _ _ (e4 _ _ hl3)
        refine ⟨l, D, us, zs, rfl, rfl, hl6, hzs, sz_of (by omega), ?_⟩
        refine ⟨_, rfl, _, _, rfl, rfl, tot (qs ++ pt.kids.reverse.map fun x => (x, d + 1)), ?_, us ++ zs, qs ++ pt.kids.reverse.map fun x => (x, d + 1), nm + 1, _, _, _, rfl, (e35.trans e6).mut hl0, upd_same, ?_, fun p hp => ?_, rfl, ?_⟩
        · rw [tot_app, tot_kids, total_rev]
          omega
        · refine Stk.upd ((S3.ex (e4.trans e46)).app Z) fun xs hh => ?_
          rw [hl6] at hh
          cases hh
        · rcases List.mem_append.mp hp with h | h
          · exact hall p (List.mem_append_left _ h)
          · obtain ⟨x, hx, rfl⟩ := List.mem_map.mp h
            have hx2 := List.mem_reverse.mp hx
            have hd := depth_kids x hx2
            exact ⟨ok_kids hpt.1 x hx2, by show d + 1 + x.depth ≤ 41; omega⟩
        · rw [tot_app, tot_kids, total_rev]
          omega
end
end Law

namespace TR
open PySem PySem.Spec L2 Evl
theorem Kids.last {k : Bool} {H : Hp} : ∀ {vs : List V} {ts : List Tr}, Kids k H vs ts → vs ≠ [] → ∃ us v rs t, vs = us ++ [v] ∧ ts = rs ++ [t] ∧ Kids k H us rs ∧ TA k H v t
  | _, _, .nil, h => absurd rfl h
  | _, _, .cons (v := v) (t := t) h .nil, _ => ⟨[], v, [], t, rfl, rfl, .nil, h⟩
  | _, _, .cons (v := v) (t := t) h (.cons a1 a2), _ => by
    obtain ⟨us, v', rs, t', e1, e2, s, b1⟩ := Kids.last (.cons a1 a2) (by intro q; cases q)
    exact ⟨v :: us, v', t :: rs, t', by rw [e1]; rfl, by rw [e2]; rfl, .cons h s, b1⟩
theorem Kids.rev {k : Bool} {H : Hp} : ∀ {vs : List V} {ts : List Tr}, Kids k H vs ts → Kids k H vs.reverse ts.reverse
  | _, _, .nil => .nil
  | _, _, .cons h r => by
    rw [List.reverse_cons, List.reverse_cons]
    exact r.rev.snoc h
/-! ### trees of tuples do not change with a list -/
mutual
theorem TA.upd {H : Hp} {a : Addr} {o : HO} (hn : ∀ xs, H a ≠ some (.tup xs)) : ∀ {t : Tr} {v : V}, TA true H v t → TA true (L2.upd H a o) v t
  | _, _, .go (a := r) h => .go (by rw [upd_ne (fun q : r = a => hn _ (by rw [← q]; exact h))]; exact h)
  | _, _, .tell (a := r) h r1 => .tell (by rw [upd_ne (fun q : r = a => hn _ (by rw [← q]; exact h))]; exact h) (TA.upd hn r1)
  | _, _, .read (a := r) (b := b) h hb r1 => .read (by rw [upd_ne (fun q : r = a => hn _ (by rw [← q]; exact h))]; exact h) (by rw [upd_ne (fun q : b = a => hn _ (by rw [← q]; exact hb))]; exact hb) (TAs.upd hn r1)
theorem TAs.upd {H : Hp} {a : Addr} {o : HO} (hn : ∀ xs, H a ≠ some (.tup xs)) : ∀ {ts : Trs} {vs : List V}, TAs true H vs ts → TAs true (L2.upd H a o) vs ts
  | _, _, .nil => .nil
  | _, _, .cons h r => .cons (TA.upd hn h) (TAs.upd hn r)
end
theorem Kids.upd {H : Hp} {a : Addr} {o : HO} (hn : ∀ xs, H a ≠ some (.tup xs)) : ∀ {vs : List V} {ts : List Tr}, Kids true H vs ts → Kids true (L2.upd H a o) vs ts
  | _, _, .nil => .nil
  | _, _, .cons h r => .cons (h.upd hn) (Kids.upd hn r)
theorem Kids.tas {k : Bool} {H : Hp} : ∀ {ts : Trs} {vs : List V}, Kids k H vs ts.list → TAs k H vs ts
  | .nil, _, .nil => .nil
  | .cons _ _, _, .cons h r => .cons h (Kids.tas r)
end TR
namespace Law
open PySem PySem.Spec PyProof.Rows L2 Evl TR
theorem total_app (ts us : List Tr) : total (ts ++ us) = total ts + total us := by
  unfold total
  rw [List.map_append, List.sum_append]
theorem len_total (ts : List Tr) : ts.length ≤ total ts := by
  have := len_tot (ts.map fun x => (x, 0))
  rw [List.length_map, tot_kids] at this
  exact this
def spAll : Sp := fun vs H Q _ => ∃ (t : Tr) (v : V) (k : Bool), vs = [v] ∧ TA k H v t ∧ t.size ≤ 10000 ∧ ∀ r H' us, Ex H H' → H r = none → H' r = some (.lst us) → us.length = t.size → Q (.ref r) H'
theorem size_mem {t : Tr} : ∀ {ts : List Tr}, t ∈ ts → t.size ≤ total ts
  | x :: r, h => by
    rcases List.mem_cons.mp h with q | q
    · rw [q]
      exact Nat.le_add_right _ _
    · exact Nat.le_trans (size_mem q) (Nat.le_add_left _ _)
/-- names that leave the states as they are -/
def Same1 (xs : List V) (n : Nat) : Prop := ∀ q : Nat, q < n → atI xs (q : Int) = some (.int (q : Nat))
def spRen (d : Nat) : Sp := fun vs H Q _ => ∃ (t : Tr) (v : V) (k : Bool) (l w n : Nat) (an : Addr) (xs : List V), vs = [v, .ref an] ∧ TA k H v t ∧ t.ok l w n ∧ H an = some (.lst xs) ∧ Same1 xs n ∧ t.depth ≤ d ∧ t.size ≤ 10000 ∧ ∀ H' v', Ex H H' → TA true H' v' t → Q v' H'
section
variable {P : Program} {w : World} {K : PySem.W.Frag} {mg : Str → Option Value} {base : Heap}
theorem ok_all {f : Addr} {fd : FuncData} (F : Fun K "all_parts" "all_parts" s_all_parts f fd) (T : Tx mg) (c_within : Kn P w K mg base "_within" ["part"] 1 spWithin) : FnOk P w K mg base CX0 2 f fd ["tree"] spAll := by
  refine F.ok sc_all_parts (fun vs H Q E h => ?_) (fun cdv A outer s H vs Q E hr h => ?_)
  · obtain ⟨t, v, k, rfl, _⟩ := h
    rfl
  · obtain ⟨t, v, k, rfl, hT, hsz, q⟩ := h
    refine ⟨_, (pss_cons (ps_set (i := 1) sc_all_parts.nd rfl (Or.inl rfl) (pe_lst (pa_cons (pv 0) pa_nil)))
      (pss_cons (ps_set (i := 2) sc_all_parts.nd rfl (Or.inl rfl) (pe_lst pa_nil))
      (pss_cons (ps_while PassesOwn.never (pt_truth (pv 1) (by intro _; rfl)) (pss_cons (ps_set (i := 3) sc_all_parts.nd rfl (Or.inl rfl) (pe_bm0 PySem.F.plainAttrs_list PySem.F.slot_list_pop PySem.F.type_list_pop mt_pop (pv 1)))
      (pss_cons (ps_expr (pe_bm PySem.F.plainAttrs_list PySem.F.slot_list_append PySem.F.type_list_append mt_append (pv 2) (pa_cons (pv 3) pa_nil)))
      (pss_one (ps_expr (pe_bm PySem.F.plainAttrs_list PySem.F.slot_list_extend PySem.F.type_list_extend mt_extend (pv 1) (pa_cons (pe_lc (own := [("inner", 4)]) (g := gName 4) (tt := tYes) rfl sc_all_parts.nd (pi_reversed (by rfl) T.reversed (pa_cons (pe_call c_within.ok (hr.mono (by decide)) (by rfl) c_within.g c_within.kp c_within.b .nil pass0 (pa_cons (pv 3) pa_nil)) pa_nil)) (blkOk_by (N := N_all_parts) (sc := defScope s_all_parts) (by decide +kernel)) (fun _ _ _ _ _ => (pg_name (i := 4) sc_all_parts.nd rfl (Or.inl rfl))) (fun _ _ _ _ _ => pts_nil) (fun _ _ _ _ _ => (pv 4))) pa_nil)))))))
      (pss_one (ps_ret (pv 2)))))), ?_⟩
    refine ⟨_, rfl, by show 1 ≤ sizeLine; decide, fun l1 hl1 => ?_⟩
    have e0 := Ex.new (o := .lst [v]) hl1
    refine ⟨Nat.zero_le _, fun l2 hl2 => ?_⟩
    have hl20 : H l2 = none := fresh_back e0 hl2
    have e1 := e0.trans (Ex.new (o := .lst []) hl2)
    have n12 : l1 ≠ l2 := fun z => by
      rw [← z, upd_same] at hl2
      cases hl2
    refine ⟨fun m σ H' => ∃ (st : List V) (ts : List Tr) (fs : List V) (y3 y4 : Option V), σ = [some v, some (.ref l1), some (.ref l2), y3, y4] ∧ Ex H H' ∧ H' l1 = some (.lst st) ∧ Kids k H st ts ∧ H' l2 = some (.lst fs) ∧ fs.length + total ts = t.size ∧ m = total ts,
      ⟨t.size, [v], [t], [], none, none, rfl, e1, Ex.new hl2 _ _ upd_same, .cons hT .nil, upd_same, by show 0 + (t.size + 0) = t.size; omega, rfl⟩, fun m σ H' hw => ?_⟩
    obtain ⟨st, ts, fs, y3, y4, rfl, e2, hst, KK, hfs, hsum, hm⟩ := hw
    refine ⟨_, rfl, !st.isEmpty, .inl ⟨st, sq_of hst, rfl⟩, ?_⟩
    cases st with
    | nil =>
      refine iteF ?_
      cases KK
      exact ⟨_, rfl, q l2 _ fs e2 hl20 hfs hsum⟩
    | cons s0 srest =>
      refine iteT ?_
      obtain ⟨us, x, rs, pt, eS, eP, K', hTA⟩ := KK.last (by intro z; cases z)
      rw [eS] at hst
      subst eP
      rw [total_app, show total [pt] = pt.size from Nat.add_zero _] at hsum hm
      have hk := size_kids pt
      refine ⟨fun σ2 H2 => ∃ m', m' < m ∧ ∃ (st : List V) (ts : List Tr) (fs : List V) (y3 y4 : Option V), σ2 = [some v, some (.ref l1), some (.ref l2), y3, y4] ∧ Ex H H2 ∧ H2 l1 = some (.lst st) ∧ Kids k H st ts ∧ H2 l2 = some (.lst fs) ∧ fs.length + total ts = t.size ∧ m' = total ts, fun σ2 H2 h => h, ?_⟩
      refine ⟨_, rfl, .inl ⟨rfl, _, sq_of hst⟩, l1, _, _, rfl, rfl, hst, pop_last _ _, ?_⟩
      rw [List.dropLast_concat]
      have e3 : Ex H (L2.upd H' l1 (.lst us)) := e2.mut hl1
      have hl3 : (L2.upd H' l1 (.lst us)) l1 = some (.lst us) := upd_same
      have hf3 : (L2.upd H' l1 (.lst us)) l2 = some (.lst fs) := by
        rw [upd_ne n12.symm]
        exact hfs
      generalize (L2.upd H' l1 (.lst us)) = H3 at e3 hl3 hf3 ⊢
      refine ⟨_, rfl, .inl ⟨rfl, _, sq_of hf3⟩, _, rfl, l2, _, _, rfl, rfl, hf3, sz_lt (by omega), ?_⟩
      have e4 : Ex H (L2.upd H3 l2 (.lst (fs ++ [x]))) := e3.mut hl20
      have hl4 : (L2.upd H3 l2 (.lst (fs ++ [x]))) l1 = some (.lst us) := by
        rw [upd_ne n12]
        exact hl3
      have hf4 : (L2.upd H3 l2 (.lst (fs ++ [x]))) l2 = some (.lst (fs ++ [x])) := upd_same
      generalize (L2.upd H3 l2 (.lst (fs ++ [x]))) = H4 at e4 hl4 hf4 ⊢
      refine ⟨_, rfl, .inl ⟨rfl, _, sq_of hl4⟩, ?_⟩
      refine ⟨_, rfl, pt, x, k, H, rfl, hTA, e4, fun r2 H5 ks e5 hr2 hks KX => ?_⟩
      have lks := KX.len
      have ltk := len_total pt.kids
      refine ⟨r2, ks, rfl, sq_of hks, fun D hD => ?_⟩
      refine lc_it (walk_rev (K := K) (a := r2) (xs := ks)) (fun i H6 => Ex H5 H6 ∧ H6 D = some (.lst (ks.reverse.take i))) ⟨Ex.new hD, upd_same⟩ (fun i H6 _ hw => sq_of (hw.1 _ _ hks)) (fun i z H6 H7 hi hw hy => ?_) (fun H6 hw => ?_)
      · obtain ⟨e6, hz⟩ := hw
        obtain ⟨rfl, hx⟩ := hy
        refine ⟨rfl, _, rfl, _, hz, ?_, e6.mut hD, ?_⟩
        · rw [List.length_take]
          exact sz_lt (by omega)
        · rw [upd_same, take_next' (rev_get hx hi)]
      · obtain ⟨e6, hz⟩ := hw
        rw [← List.length_reverse, List.take_length] at hz
        have hl6 := e6 _ _ (e5 _ _ hl4)
        have lu := K'.len
        have ltr := len_total rs
        refine ⟨l1, D, us, ks.reverse, rfl, rfl, hl6, hz, sz_of (by rw [List.length_reverse]; omega), ?_⟩
        refine ⟨total (rs ++ pt.kids.reverse), by rw [total_app, total_rev]; omega, us ++ ks.reverse, rs ++ pt.kids.reverse, fs ++ [x], _, _, rfl, ((e4.trans e5).trans e6).mut hl1, upd_same, K'.app KX.rev, ?_, ?_, rfl⟩
        · rw [upd_ne n12.symm]
          exact e6 _ _ (e5 _ _ hf4)
        · rw [List.length_append, total_app, total_rev]
          show fs.length + 1 + _ = _
          omega
theorem ok_ren0 {f : Addr} {fd : FuncData} (F : Fun K "renamed" "renamed" s_renamed f fd) (T : Tx mg) (g : mg "renamed" = some (.ref f)) (b : Binds K fd ["tree", "names"] []) : ∀ d : Nat, FnOk P w K mg base CX0 (d + 1) f fd ["tree", "names"] (spRen d)
  | 0 => by
    refine F.ok sc_renamed (fun vs H Q E h => ?_) (fun cdv A outer s H vs Q E hr h => ?_)
    · obtain ⟨t, v, k, l, wd, n, an, xs, rfl, _⟩ := h
      rfl
    · obtain ⟨t, v, k, l, wd, n, an, xs, rfl, hT, hok, han, hS, hd, hsz, q⟩ := h
      exfalso
      cases t
      · exact absurd hd (by show ¬ (1 ≤ 0); omega)
      · exact absurd hd (by show ¬ (_ + 1 ≤ 0); omega)
      · exact absurd hd (by show ¬ (_ + 1 ≤ 0); omega)
  | d + 1 => by
    have c_renamed : Kn P w K mg base "renamed" ["tree", "names"] (d + 1) (spRen d) := ⟨f, fd, ok_ren0 F T g b d, g, F.kp, b⟩
    refine F.ok sc_renamed (fun vs H Q E h => ?_) (fun cdv A outer s H vs Q E hr h => ?_)
    · obtain ⟨t, v, k, l, wd, n, an, xs, rfl, _⟩ := h
      rfl
    · obtain ⟨t, v, k, l, wd, n, an, xs, rfl, hT, hok, han, hS, hd, hsz, q⟩ := h
      refine ⟨_, (pss_cons (ps_asg (pv 0) (TR.pg_seq (by rfl) (pgs_cons (pg_name (i := 2) sc_renamed.nd rfl (Or.inl rfl)) (pgs_cons (pg_name (i := 3) sc_renamed.nd rfl (Or.inl rfl)) (pgs_cons (pg_name (i := 4) sc_renamed.nd rfl (Or.inl rfl)) pgs_nil)))))
      (pss_cons (ps_if (pt_cmpR op_eq (pv 2) pe_str (nomark _)) (pss_one (ps_ret (pe_tup (pa_cons (pv 2) (pa_cons (pv 3) (pa_cons (pe_ix ix_list (pv 1) (pv 4) (fun _ _ => rfl)) pa_nil)))))) pss_nil)
      (pss_cons (ps_if (pt_cmpR op_eq (pv 2) pe_str (nomark _)) (pss_one (ps_ret (pe_tup (pa_cons (pv 2) (pa_cons (pv 3) (pa_cons (pe_call c_renamed.ok (hr.mono (by omega)) (by rfl) c_renamed.g c_renamed.kp c_renamed.b .nil pass0 (pa_cons (pv 4) (pa_cons (pv 1) pa_nil))) pa_nil)))))) pss_nil)
      (pss_one (ps_ret (pe_tup (pa_cons (pv 2) (pa_cons (pv 3) (pa_cons (pe_callTy call_tuple_of (by rfl) T.tuple PyProof.Rows.boot_tuple (pa_cons (pe_lc (own := [("inner", 5)]) (g := gName 5) (tt := tYes) rfl sc_renamed.nd (TR.pi_seq (pv 4)) (blkOk_by (N := N_renamed) (sc := defScope s_renamed) (by decide +kernel)) (fun _ _ _ _ _ => (pg_name (i := 5) sc_renamed.nd rfl (Or.inl rfl))) (fun _ _ _ _ _ => pts_nil) (fun _ _ _ _ _ => (pe_call c_renamed.ok (hr.mono (by omega)) (by rfl) c_renamed.g c_renamed.kp c_renamed.b .nil pass0 (pa_cons (pv 5) (pa_cons (pv 1) pa_nil))))) pa_nil)) pa_nil))))))))), ?_⟩
      cases hT with
      | @go a s' q' h =>
        refine ⟨_, rfl, gSeq_of h rfl ⟨_, _, rfl, _, _, rfl, _, _, rfl, rfl, ?_⟩⟩
        refine ⟨_, rfl, rfl, _, rfl, iteD rfl ?_⟩
        exact ⟨_, rfl, _, rfl, _, rfl, _, rfl, an, _, _, _, rfl, rfl, sq_of han, hS _ hok.2.2, by show 3 ≤ sizeLine; decide, fun r hr2 => q _ _ (Ex.new hr2) (.go upd_same)⟩
      | @tell a n' v' t' h r0 =>
        have hd' : t'.depth ≤ d := by
          have : t'.depth + 1 ≤ d + 1 := hd
          omega
        have hs' : t'.size ≤ 10000 := by
          have : t'.size + 1 ≤ 10000 := hsz
          omega
        refine ⟨_, rfl, gSeq_of h rfl ⟨_, _, rfl, _, _, rfl, _, _, rfl, rfl, ?_⟩⟩
        refine ⟨_, rfl, rfl, _, rfl, iteDn tell_ne_go ?_⟩
        refine ⟨_, rfl, rfl, _, rfl, iteD rfl ?_⟩
        refine ⟨_, rfl, _, rfl, _, rfl, _, rfl, t', v', k, l, wd, n, an, xs, rfl, r0, hok.2, han, hS, hd', hs', fun H1 v1 e1 hv1 => ⟨by show 3 ≤ sizeLine; decide, fun r hr2 => ?_⟩⟩
        exact q _ _ (e1.trans (Ex.new hr2)) (.tell upd_same (hv1.ex (Ex.new hr2)))
      | @read a b' p' us ts h hb r0 =>
        have hd' : ts.depth ≤ d := by
          have : ts.depth + 1 ≤ d + 1 := hd
          omega
        have hs' : ts.size ≤ 9999 := by
          have : ts.size + 1 ≤ 10000 := hsz
          omega
        have KK := r0.kids
        have lks := KK.len
        have ltk := len_total ts.list
        rw [Trs.total] at ltk
        refine ⟨_, rfl, gSeq_of h rfl ⟨_, _, rfl, _, _, rfl, _, _, rfl, rfl, ?_⟩⟩
        refine ⟨_, rfl, rfl, _, rfl, iteDn read_ne_go ?_⟩
        refine ⟨_, rfl, rfl, _, rfl, iteDn read_ne_tell ?_⟩
        refine ⟨_, rfl, _, rfl, ?_⟩
        cases k
        · refine .inl ⟨_, rfl, b', rfl, ⟨us, sq_of hb⟩, fun D hD => lc_it (walk_list (K := K) (a := b') (xs := us)) (fun i H6 => Ex H H6 ∧ ∃ zs, H6 D = some (.lst zs) ∧ Kids true H6 zs (ts.list.take i)) ⟨Ex.new hD, [], upd_same, .nil⟩ (fun i H6 _ hw => sq_of (hw.1 _ _ hb)) (fun i x H6 H7 hi hw hy => ?_) (fun H6 hw => ?_)⟩
          · obtain ⟨e6, zs, hz, Z⟩ := hw
            obtain ⟨rfl, hx⟩ := hy
            obtain ⟨kt, hkt, hka⟩ := KK.get hx
            have mem := List.mem_of_getElem? hkt
            have dk := Trs.depth_mem kt mem
            have sk : kt.size ≤ ts.size := by
              have h1 := size_mem mem
              rw [Trs.total] at h1
              exact h1
            have lz := Z.len
            rw [List.length_take] at lz
            refine ⟨rfl, _, rfl, _, rfl, kt, x, _, l, wd, n, an, xs, rfl, hka.ex e6, Trs.ok_mem hok.2.2 kt mem, e6 _ _ han, hS, by omega, by omega, fun H8 v8 e8 hv8 => ?_⟩
            refine ⟨zs, e8 _ _ hz, sz_lt (by omega), (e6.trans e8).mut hD, zs ++ [v8], upd_same, ?_⟩
            rw [take_next' hkt]
            refine Kids.upd (fun ys hh => ?_) ((Z.ex e8).snoc hv8)
            rw [e8 _ _ hz] at hh
            cases hh
          · obtain ⟨e6, zs, hz, Z⟩ := hw
            rw [lks, List.take_length] at Z
            refine ⟨D, zs, rfl, .inl ⟨sq_of hz, fun t2 ht2 => ⟨by show 3 ≤ sizeLine; decide, fun r hr2 => ?_⟩⟩⟩
            exact q _ _ ((e6.trans (Ex.new ht2)).trans (Ex.new hr2)) (.read upd_same (Ex.new hr2 _ _ upd_same) ((Z.ex ((Ex.new ht2).trans (Ex.new hr2))).tas))
        · refine .inr ⟨_, rfl, b', rfl, ⟨us, st_of hb⟩, fun D hD => lc_it (walk_tup (K := K) (a := b') (xs := us)) (fun i H6 => Ex H H6 ∧ ∃ zs, H6 D = some (.lst zs) ∧ Kids true H6 zs (ts.list.take i)) ⟨Ex.new hD, [], upd_same, .nil⟩ (fun i H6 _ hw => st_of (hw.1 _ _ hb)) (fun i x H6 H7 hi hw hy => ?_) (fun H6 hw => ?_)⟩
          · obtain ⟨e6, zs, hz, Z⟩ := hw
            obtain ⟨rfl, hx⟩ := hy
            obtain ⟨kt, hkt, hka⟩ := KK.get hx
            have mem := List.mem_of_getElem? hkt
            have dk := Trs.depth_mem kt mem
            have sk : kt.size ≤ ts.size := by
              have h1 := size_mem mem
              rw [Trs.total] at h1
              exact h1
            have lz := Z.len
            rw [List.length_take] at lz
            refine ⟨rfl, _, rfl, _, rfl, kt, x, _, l, wd, n, an, xs, rfl, hka.ex e6, Trs.ok_mem hok.2.2 kt mem, e6 _ _ han, hS, by omega, by omega, fun H8 v8 e8 hv8 => ?_⟩
            refine ⟨zs, e8 _ _ hz, sz_lt (by omega), (e6.trans e8).mut hD, zs ++ [v8], upd_same, ?_⟩
            rw [take_next' hkt]
            refine Kids.upd (fun ys hh => ?_) ((Z.ex e8).snoc hv8)
            rw [e8 _ _ hz] at hh
            cases hh
          · obtain ⟨e6, zs, hz, Z⟩ := hw
            rw [lks, List.take_length] at Z
            refine ⟨D, zs, rfl, .inl ⟨sq_of hz, fun t2 ht2 => ⟨by show 3 ≤ sizeLine; decide, fun r hr2 => ?_⟩⟩⟩
            exact q _ _ ((e6.trans (Ex.new ht2)).trans (Ex.new hr2)) (.read upd_same (Ex.new hr2 _ _ upd_same) ((Z.ex ((Ex.new ht2).trans (Ex.new hr2))).tas))
end
end Law

namespace TR
open PySem PySem.Spec L2 Evl
def rLenQ (K : PySem.W.Frag) : List V → Hp → VK → Prop := fun xs H Q => ∃ p ys, xs = [.ref p] ∧ (SqL K H p ys ∨ SqT K H p ys) ∧ Q (.int ys.length) H
end TR
namespace Law
open PySem PySem.Spec PyProof.Rows L2 Evl TR
abbrev lcR (g : TG) (tt : TT) (tl : TE) (vs : List Nat) (σ : L2.St) (Q : Addr → Hp → Prop) : It → Hp → Prop := fun J H1 => ∀ D, H1 D = none → ∃ W : Nat → Nat → Hp → Prop, (∃ m, W 0 m (upd H1 D (.lst []))) ∧ ∀ i m H, W i m H →
  (J.stop i H ∧ Q D H) ∨ (J.go i H ∧ ∃ Nx : Hp → Prop, (∀ H', Nx H' → ∃ m', m' < m ∧ W (i + 1) m' H') ∧ ∀ x H', J.yld i H x H' → g x (wipe σ vs) H' fun σ2 H2 => wipe σ2 vs = wipe σ vs ∧ tt σ2 H2 fun b H3 =>
    if b = true then tl σ2 H3 fun y H4 => ∃ acc, H4 D = some (.lst acc) ∧ acc.length < sizeLine ∧ Nx (upd H4 D (.lst (acc ++ [y]))) else Nx H3)
/-- a walk over a list or a tuple, in a comprehension -/
theorem lcq {K : PySem.W.Frag} {te tl : TE} {g : TG} {tt : TT} {vs : List Nat} {σ : L2.St} {H : Hp} {Q : Addr → Hp → Prop} {a : Addr} {k : Bool} {xs : List V} (h : H a = some (ob k xs)) (hv : ∀ R : VK, R (.ref a) H → te σ H R) (Pv : Addr → Nat → Hp → Prop)
    (h0 : ∀ D, H D = none → Pv D 0 (upd H D (.lst []))) (hk : ∀ D i H', H D = none → Pv D i H' → Ex H H')
    (hs : ∀ D i x H', H D = none → xs[i]? = some x → Pv D i H' → g x (wipe σ vs) H' fun σ2 H2 => wipe σ2 vs = wipe σ vs ∧ tt σ2 H2 fun b H3 =>
      if b = true then tl σ2 H3 fun y H4 => ∃ acc, H4 D = some (.lst acc) ∧ acc.length < sizeLine ∧ Pv D (i + 1) (upd H4 D (.lst (acc ++ [y]))) else Pv D (i + 1) H3)
    (hd : ∀ D H', H D = none → Pv D xs.length H' → Q D H') : iList K te σ H (lcR g tt tl vs σ Q) ∨ iTup K te σ H (lcR g tt tl vs σ Q) := by
  cases k
  · exact .inl (hv _ ⟨a, rfl, ⟨xs, sq_of h⟩, fun D hD => lc_list (Pv D) (h0 D hD) (fun i H' _ p => sq_of (hk D i H' hD p _ _ h)) (fun i x H' hx p => hs D i x H' hD hx p) (fun H' p => hd D H' hD p)⟩)
  · exact .inr (hv _ ⟨a, rfl, ⟨xs, st_of h⟩, fun D hD => lc_tup (Pv D) (h0 D hD) (fun i H' _ p => st_of (hk D i H' hD p _ _ h)) (fun i x H' hx p => hs D i x H' hD hx p) (fun H' p => hd D H' hD p)⟩)
/-- .. in a loop over enumerate -/
theorem forq {K : PySem.W.Frag} {ta : TA} {g : TG} {tb : TS} {D : Ends} {σ : L2.St} {H : Hp} {a : Addr} {k : Bool} {xs : List V} (h : H a = some (ob k xs)) (hv : ∀ R : List V → Hp → Prop, R [.ref a] H → ta σ H R) (Pv : Nat → L2.St → Hp → Prop) (h0 : Pv 0 σ H)
    (hk : ∀ i σ H', Pv i σ H' → Ex H H')
    (hs : ∀ (i : Nat) (x : V) (T : Addr) (σ : L2.St) (H : Hp), xs[i]? = some x → Pv i σ H → H T = none → g (.ref T) σ (upd H T (.tup [.int (i : Nat), x])) fun σ2 H2 => tb { D with nx := Pv (i + 1), ct := Pv (i + 1), bk := D.nx } σ2 H2)
    (hd : ∀ σ H, Pv xs.length σ H → D.nx σ H) : tFor (iEnumQ K ta) g tb D σ H := by
  cases k
  · exact .inl (hv _ ⟨a, xs, rfl, sq_of h, EN.for_enumL Pv h0 (fun i σ H' p => sq_of (hk i σ H' p _ _ h)) hs hd⟩)
  · exact .inr (hv _ ⟨a, xs, rfl, st_of h, EN.for_enumT Pv h0 (fun i σ H' p => st_of (hk i σ H' p _ _ h)) hs hd⟩)
/-- what of the text the class has -/
structure SC (K : PySem.W.Frag) (C : Addr) : Prop where
  cl : Cls K C
  nl : NoAttr K C "letters"
  nw : NoAttr K C "width"
  ns : NoAttr K C "states"
  nn : NoAttr K C "nodes"
def sFs (l w s n : V) : List (Str × V) := [("letters", l), ("width", w), ("states", s), ("nodes", n)]
theorem putF4 (l w s n : V) : putF "nodes" n (putF "states" s (putF "width" w (putF "letters" l []))) = sFs l w s n := by
  have a1 : ¬ (("letters" : Str) = "width") := by decide +kernel
  have a2 : ¬ (("letters" : Str) = "states") := by decide +kernel
  have a3 : ¬ (("letters" : Str) = "nodes") := by decide +kernel
  have a4 : ¬ (("width" : Str) = "states") := by decide +kernel
  have a5 : ¬ (("width" : Str) = "nodes") := by decide +kernel
  have a6 : ¬ (("states" : Str) = "nodes") := by decide +kernel
  simp [putF, sFs, a1, a2, a3, a4, a5, a6]
/-- a searcher: its letters, its width, its trees -/
structure SObj (C : Addr) (H : Hp) (o : Addr) (L : List Nat) (w : Nat) (ts : List Tr) : Prop where
  ex : ∃ (dx st : Addr) (us : List V), H o = some (.ins C dx (sFs (.str (tx L)) (.int (w : Int)) (.ref st) (.int (total ts : Nat)))) ∧ H st = some (.tup us) ∧ Kids true H us ts
theorem sum_sizes : ∀ ts : List Tr, (ts.map fun t => (t.size : Int)).sum = ((total ts : Nat) : Int)
  | [] => rfl
  | t :: r => by
    rw [List.map_cons, List.sum_cons, sum_sizes r]
    show _ = (((t.size + total r : Nat)) : Int)
    omega
def spInit (C : Addr) : Sp := fun vs H Q _ => ∃ (o dx sa : Addr) (L : List Nat) (w : Nat) (kt k : Bool) (xs : List V) (ts : List Tr) (H0 : Hp), vs = [.ref o, .str (tx L), .int (w : Int), .ref sa] ∧ Ex H0 H ∧ H0 o = none ∧ H o = some (.ins C dx []) ∧ H0 sa = some (ob kt xs) ∧ Kids k H0 xs ts ∧ LG L ∧ 1 ≤ w ∧ w ≤ 8 ∧ 1 ≤ ts.length ∧ ts.length ≤ 64 ∧ (∀ t ∈ ts, t.ok L.length w ts.length ∧ t.depth ≤ 40) ∧ total ts ≤ 3000 ∧ ∀ H', Ex H0 H' → SObj C H' o L w ts → Q .non H'
theorem same_rg (n : Nat) : Same1 (rgV 0 (n : Int)) n := by
  intro q hq
  unfold rgV
  rw [show (((n : Int) - 0).toNat) = n by omega]
  refine atI_nat ?_
  rw [List.getElem?_map, List.getElem?_range hq]
  show some (V.int (0 + (q : Int))) = _
  rw [Int.zero_add]
section
variable {P : Program} {w : World} {K : PySem.W.Frag} {mg : Str → Option Value} {base : Heap}
theorem ok_init {f C : Addr} {fd : FuncData} (F : Fun K "__init__" "Searcher.__init__" s_Searcher_init f fd) (T : Tx mg) (S : SC K C) (c_are_letters : Kn P w K mg base "are_letters" ["value"] 1 spAreL)
    (c_is_whole : Kn P w K mg base "is_whole" ["value", "low", "high"] 2 spWhole) (c_is_list : Kn P w K mg base "is_list" ["value"] 1 spIsQ) (c_first_wrong : Kn P w K mg base "first_wrong" ["tree", "letters", "width", "states"] 4 spFW)
    (c_all_parts : Kn P w K mg base "all_parts" ["tree"] 2 spAll) (c_renamed : Kn P w K mg base "renamed" ["tree", "names"] 41 (spRen 40)) : FnOk P w K mg base CX0 42 f fd ["self", "letters", "width", "states"] (spInit C) := by
  refine F.ok sc_Searcher_init (fun vs H Q E h => ?_) (fun cdv A outer s H vs Q E hr h => ?_)
  · obtain ⟨o, dx, sa, L, wd, kt, k, xs, ts, H0, rfl, _⟩ := h
    rfl
  · obtain ⟨o, dx, sa, L, wd, kt, k, xs, ts, H0, rfl, e0, ho0, ho, hsa, KK, hL, w1, w8, n1, n64, hall, htot, q⟩ := h
    have lks := KK.len
    have hL2 := hL.hi
    refine ⟨_, (pss_cons (ps_if (pt_not (pt_val (pe_call c_are_letters.ok (hr.mono (by decide)) (by rfl) c_are_letters.g c_are_letters.kp c_are_letters.b .nil pass0 (pa_cons (pv 1) pa_nil)))) (pss_one ps_never) pss_nil)
      (pss_cons (ps_if (pt_not (pt_val (pe_call c_is_whole.ok (hr.mono (by decide)) (by rfl) c_is_whole.g c_is_whole.kp c_is_whole.b .nil pass0 (pa_cons (pv 2) (pa_cons pe_int (pa_cons (pe_glob (v := .int 8) rfl T.m_MOST_WIDTH ⟨_, rfl⟩) pa_nil)))))) (pss_one ps_never) pss_nil)
      (pss_cons (ps_set (i := 4) sc_Searcher_init.nd rfl (Or.inl rfl) (pe_ifExp (pt_val (pe_call c_is_list.ok (hr.mono (by decide)) (by rfl) c_is_list.g c_is_list.kp c_is_list.b .nil pass0 (pa_cons (pv 3) pa_nil))) (pe_callB call_len_seq (by rfl) T.len PySem.boot_len (pa_cons (pv 3) pa_nil)) pe_int))
      (pss_cons (ps_if (pt_not (pt_chain op_le op_le pe_int (pv 4) (pe_glob (v := .int 64) rfl T.m_MOST_STATES ⟨_, rfl⟩))) (pss_one ps_never) pss_nil)
      (pss_cons (ps_for PassesOwn.never rfl (TR.pi_enumQ (by rfl) T.enumerate (pa_cons (pv 3) pa_nil)) (pg_tup (by rfl) (pgs_cons (pg_name (i := 5) sc_Searcher_init.nd rfl (Or.inl rfl)) (pgs_cons (pg_name (i := 6) sc_Searcher_init.nd rfl (Or.inl rfl)) pgs_nil))) (pss_cons (ps_set (i := 7) sc_Searcher_init.nd rfl (Or.inl rfl) (pe_call c_first_wrong.ok (hr.mono (by decide)) (by rfl) c_first_wrong.g c_first_wrong.kp c_first_wrong.b .nil pass0 (pa_cons (pv 6) (pa_cons (pv 1) (pa_cons (pv 2) (pa_cons (pv 4) pa_nil))))))
      (pss_one (ps_if (pt_cmpR op_notN (pv 7) pe_non (nomark _)) (pss_one ps_never) pss_nil))))
      (pss_cons (ps_set (i := 8) sc_Searcher_init.nd rfl (Or.inl rfl) (pe_callB (cr_sum rfl) (by rfl) T.sum (by decide +kernel) (pa_cons (pe_lc (own := [("tree", 6)]) (g := gName 6) (tt := tYes) rfl sc_Searcher_init.nd (TR.pi_seq (pv 3)) (blkOk_by (N := N_Searcher_init) (sc := defScope s_Searcher_init) (by decide +kernel)) (fun _ _ _ _ _ => (pg_name (i := 6) sc_Searcher_init.nd rfl (Or.inl rfl))) (fun _ _ _ _ _ => pts_nil) (fun _ _ _ _ _ => (pe_callB (show CallR _ _ (TR.rLenQ K) from call_len_seq) (by rfl) T.len PySem.boot_len (pa_cons (pe_call c_all_parts.ok (hr.mono (by decide)) (by rfl) c_all_parts.g c_all_parts.kp c_all_parts.b .nil pass0 (pa_cons (pv 6) pa_nil)) pa_nil)))) pa_nil)))
      (pss_cons (ps_if (pt_cmpR op_gt (pv 8) (pe_glob (v := .int 3000) rfl T.m_MOST_NODES ⟨_, rfl⟩) (nomark _)) (pss_one ps_never) pss_nil)
      (pss_cons (ps_set (i := 9) sc_Searcher_init.nd rfl (Or.inr rfl) (pe_listRg rfl (by rfl) T.list (prg_1 (by rfl) T.range (pv 4))))
      (pss_cons (ps_fld (pv 0) (pv 1) rfl)
      (pss_cons (ps_fld (pv 0) (pv 2) rfl)
      (pss_cons (ps_fld (pv 0) (pe_callTy call_tuple_of (by rfl) T.tuple PyProof.Rows.boot_tuple (pa_cons (pe_lc (own := [("tree", 6)]) (g := gName 6) (tt := tYes) rfl sc_Searcher_init.nd (TR.pi_seq (pv 3)) (blkOk_by (N := N_Searcher_init) (sc := defScope s_Searcher_init) (by decide +kernel)) (fun _ _ _ _ _ => (pg_name (i := 6) sc_Searcher_init.nd rfl (Or.inl rfl))) (fun _ _ _ _ _ => pts_nil) (fun _ _ _ _ _ => (pe_call c_renamed.ok (hr.mono (by decide)) (by rfl) c_renamed.g c_renamed.kp c_renamed.b .nil pass0 (pa_cons (pv 6) (pa_cons (pv 9) pa_nil))))) pa_nil)) rfl)
      (pss_one (ps_fld (pv 0) (pv 8) rfl))))))))))))), ?_⟩
    refine ⟨_, rfl, L, rfl, hL, fun H1 e1 => ⟨true, rfl, ?_⟩⟩
    refine ⟨_, rfl, _, _, _, rfl, by omega, by omega, fun H2 e2 => ⟨true, rfl, ?_⟩⟩
    have e3 := e1.trans e2
    have hs2 := e3 _ _ (e0 _ _ hsa)
    refine ⟨_, rfl, sa, kt, xs, rfl, hs2, fun H3 e4 => ⟨true, rfl, ?_⟩⟩
    have hs3 := e4 _ _ hs2
    refine ⟨_, rfl, sa, _, rfl, ob_seq hs3, ?_⟩
    refine ⟨_, rfl, _, _, rfl, rfl, _, rfl, iteD (by omega) ⟨_, _, rfl, rfl, _, rfl, ite2 (fun hb => ?_) (fun _ => ?_)⟩⟩
    · rw [decide_eq_true (by omega)] at hb
      cases hb
    have e5 := e3.trans e4
    have e6 := e0.trans e5
    refine forq hs3 (fun R h => ⟨_, rfl, h⟩) (fun i σ H' => ∃ y5 y6 y7 : Option V, σ = [some (.ref o), some (.str (tx L)), some (.int (wd : Int)), some (.ref sa), some (.int (xs.length : Nat)), y5, y6, y7, none, none] ∧ Ex H3 H') ⟨none, none, none, rfl, Ex.refl _⟩ (fun i σ H' p => by obtain ⟨_, _, _, _, e⟩ := p; exact e) (fun i x T' σ H' hx p hT => ?_) (fun σ H' p => ?_)
    · obtain ⟨y5, y6, y7, rfl, e7⟩ := p
      have e8 := e7.trans (Ex.new (o := .tup [.int (i : Nat), x]) hT)
      obtain ⟨t, ht, hta⟩ := KK.get hx
      have mem := List.mem_of_getElem? ht
      obtain ⟨tok, tdp⟩ := hall t mem
      have tsz := size_mem mem
      refine ⟨T', _, rfl, .inl (.inl upd_same), rfl, _, _, rfl, _, _, rfl, rfl, ?_⟩
      refine ⟨_, rfl, _, rfl, _, rfl, _, rfl, t, x, k, L, wd, ts.length, by rw [lks]; rfl, hta.ex (e6.trans e8), tok, by omega, tdp, by omega, fun H4 e9 => ?_⟩
      refine ⟨_, rfl, rfl, _, rfl, ite2 (fun hb => by cases hb) (fun _ => ?_)⟩
      exact ⟨_, _, _, rfl, e8.trans e9⟩
    obtain ⟨y5, y6, y7, rfl, e7⟩ := p
    have hs4 := e7 _ _ hs3
    have e8 := e6.trans e7
    refine lcq hs4 (fun R h => ⟨_, rfl, h⟩) (fun D i H'' => Ex H' H'' ∧ H'' D = some (.lst (((ts.take i).map fun t => (t.size : Int)).map V.int))) (fun D hD => ⟨Ex.new hD, upd_same⟩) (fun D i H'' _ p => p.1) (fun D i x H'' hD hx p => ?_) (fun D H'' hD p => ?_)
    · obtain ⟨e9, hz⟩ := p
      obtain ⟨t, ht, hta⟩ := KK.get hx
      have mem := List.mem_of_getElem? ht
      have tsz := size_mem mem
      have hi := (List.getElem?_eq_some_iff.mp ht).1
      refine ⟨rfl, _, rfl, t, x, k, rfl, hta.ex (e8.trans e9), by omega, fun r H5 us e10 hr hus hl => ?_⟩
      refine ⟨r, us, rfl, .inl (sq_of hus), _, e10 _ _ hz, ?_, (e9.trans e10).mut hD, ?_⟩
      · rw [List.length_map, List.length_map, List.length_take]
        exact sz_lt (by omega)
      · rw [upd_same, take_next' ht, List.map_append, List.map_append, hl]
        rfl
    obtain ⟨e9, hz⟩ := p
    rw [lks, List.take_length] at hz
    refine ⟨D, _, rfl, sq_of hz, ?_⟩
    rw [sum_sizes]
    refine ⟨_, rfl, _, _, rfl, rfl, _, rfl, ite2 (fun hb => absurd (of_decide_eq_true hb) (by omega)) (fun _ => ?_)⟩
    refine ⟨_, rfl, _, rfl, RgOk.of_le (by omega) (by omega) (by omega) (by omega), fun an han => ?_⟩
    have eA := (e8.trans e9).trans (Ex.new (o := .lst (rgV 0 (xs.length : Int))) han)
    have hoA := ((((e5.trans e7).trans e9).trans (Ex.new (o := .lst (rgV 0 (xs.length : Int))) han)) _ _ ho)
    have hanA : (upd H'' an (.lst (rgV 0 (xs.length : Int)))) an = some (.lst (rgV 0 (xs.length : Int))) := upd_same
    generalize (upd H'' an (.lst (rgV 0 (xs.length : Int)))) = HA at eA hoA hanA ⊢
    have nao : an ≠ o := ne_of hanA hoA (by intro z; cases z)
    refine ⟨_, rfl, _, rfl, o, C, dx, _, rfl, hoA, S.cl, S.nl, by show 0 < 1000; decide, ?_⟩
    have eB := eA.mut (o := .ins C dx (putF "letters" (.str (tx L)) [])) ho0
    have hoB : (upd HA o (.ins C dx (putF "letters" (.str (tx L)) []))) o = _ := upd_same
    have hanB := (upd_ne (H := HA) (o := .ins C dx (putF "letters" (.str (tx L)) [])) nao).trans hanA
    generalize (upd HA o (.ins C dx (putF "letters" (.str (tx L)) []))) = HB at eB hoB hanB ⊢
    refine ⟨_, rfl, _, rfl, o, C, dx, _, rfl, hoB, S.cl, S.nw, by show 1 < 1000; decide, ?_⟩
    generalize hf2 : putF "width" (.int (wd : Int)) (putF "letters" (.str (tx L)) []) = f2
    have lf2 : f2.length < 1000 := by
      rw [← hf2]
      show 2 < 1000
      decide
    have eC := eB.mut (o := .ins C dx f2) ho0
    have hoC : (upd HB o (.ins C dx f2)) o = _ := upd_same
    have hanC := (upd_ne (H := HB) (o := .ins C dx f2) nao).trans hanB
    generalize (upd HB o (.ins C dx f2)) = HC at eC hoC hanC ⊢
    refine lcq (eC _ _ hsa) (fun R h => ⟨_, rfl, h⟩) (fun D i H'' => Ex HC H'' ∧ ∃ zs, H'' D = some (.lst zs) ∧ Kids true H'' zs (ts.take i)) (fun D hD => ⟨Ex.new hD, [], upd_same, .nil⟩) (fun D i H'' _ p => p.1) (fun D i x H'' hD hx p => ?_) (fun D H'' hD p => ?_)
    · obtain ⟨e9, zs, hz, Z⟩ := p
      obtain ⟨t, ht, hta⟩ := KK.get hx
      have mem := List.mem_of_getElem? ht
      obtain ⟨tok, tdp⟩ := hall t mem
      have tsz := size_mem mem
      have lz := Z.len
      rw [List.length_take] at lz
      refine ⟨rfl, _, rfl, _, rfl, t, x, k, L.length, wd, ts.length, an, _, rfl, hta.ex (eC.trans e9), tok, e9 _ _ hanC, ?_, tdp, by omega, fun H8 v8 e10 hv8 => ?_⟩
      · rw [← lks]
        exact same_rg _
      refine ⟨zs, e10 _ _ hz, sz_lt (by omega), (e9.trans e10).mut hD, zs ++ [v8], upd_same, ?_⟩
      rw [take_next' ht]
      refine Kids.upd (fun ys hh => ?_) ((Z.ex e10).snoc hv8)
      rw [e10 _ _ hz] at hh
      cases hh
    obtain ⟨e9, zs, hz, Z⟩ := p
    rw [lks, List.take_length] at Z
    refine ⟨D, zs, rfl, .inl ⟨sq_of hz, fun t2 ht2 => ?_⟩⟩
    have e10 := e9.trans (Ex.new (o := .tup zs) ht2)
    have hoD := e10 _ _ hoC
    have ZD := Z.ex (Ex.new (o := .tup zs) ht2)
    have ht3 : (upd H'' t2 (.tup zs)) t2 = some (.tup zs) := upd_same
    have eD := eC.trans e10
    generalize (upd H'' t2 (.tup zs)) = HD at hoD ZD ht3 eD ⊢
    have nto : t2 ≠ o := ne_of ht3 hoD (by intro z; cases z)
    refine ⟨_, rfl, o, C, dx, _, rfl, hoD, S.cl, S.ns, lf2, ?_⟩
    refine ⟨_, rfl, _, rfl, o, C, dx, _, rfl, upd_same, S.cl, S.nn, ?_, ?_⟩
    · rw [← hf2]
      show 3 < 1000
      decide
    refine q _ ((eD.mut ho0).mut ho0) ⟨dx, t2, zs, ?_, ?_, ?_⟩
    · rw [upd_same, ← hf2, putF4]
    · rw [upd_ne nto, upd_ne nto]
      exact ht3
    · refine Kids.upd (fun ys hh => ?_) (Kids.upd (fun ys hh => ?_) ZD)
      · rw [upd_same] at hh
        cases hh
      · rw [hoD] at hh
        cases hh
end
end Law

namespace TR
open PySem PySem.Spec L2 Evl
def Trs.of : List Tr → Trs
  | [] => .nil
  | t :: r => .cons t (Trs.of r)
theorem Trs.of_list : ∀ l : List Tr, (Trs.of l).list = l
  | [] => rfl
  | t :: r => congrArg (t :: ·) (Trs.of_list r)
theorem Trs.ok_of {l w n : Nat} : ∀ {ts : List Tr}, (∀ t ∈ ts, t.ok l w n) → (Trs.of ts).ok l w n
  | [], _ => True.intro
  | t :: r, h => ⟨h t List.mem_cons_self, Trs.ok_of fun x hx => h x (List.mem_cons_of_mem _ hx)⟩
theorem Trs.depth_of {d : Nat} : ∀ {ts : List Tr}, (∀ t ∈ ts, t.depth ≤ d) → (Trs.of ts).depth ≤ d
  | [], _ => Nat.zero_le _
  | t :: r, h => Nat.max_le.mpr ⟨h t List.mem_cons_self, Trs.depth_of fun x hx => h x (List.mem_cons_of_mem _ hx)⟩
theorem total_le {s : Nat} : ∀ {ts : List Tr}, (∀ t ∈ ts, t.size ≤ s) → TR.total ts ≤ ts.length * s
  | [], _ => Nat.zero_le _
  | t :: r, h => by
    have h1 := h t List.mem_cons_self
    have h2 := total_le (ts := r) fun x hx => h x (List.mem_cons_of_mem _ hx)
    show t.size + TR.total r ≤ (r.length + 1) * s
    rw [Nat.succ_mul]
    omega
end TR
namespace Law
open PySem PySem.Spec PyProof.Rows L2 Evl TR
theorem PenAt.both {p : PenI} {H0 H : Hp} {a : Addr} {n : Nat} {o : HO} (P : PenAt p H0 H n) (hd : a ≠ p.d) (hc : a ≠ p.c) : PenAt p (L2.upd H0 a o) (L2.upd H a o) n := by
  obtain ⟨e0, h0, hc0, hl, op, lf, ho, hd'⟩ := P
  refine ⟨fun b u e => ?_, by rw [upd_ne hd.symm]; exact h0, by rw [upd_ne hc.symm]; exact hc0, hl, op, lf, ho, by rw [upd_ne hd.symm]; exact hd'⟩
  by_cases q : b = a
  · subst q
    rw [upd_same] at e ⊢
    exact e
  · rw [upd_ne q] at e ⊢
    exact e0 b u e
theorem fresh_nc {p : PenI} {H0 H : Hp} {n : Nat} {a : Addr} (P : PenAt p H0 H n) (h : H a = none) : a ≠ p.c := fun e => by
  rw [e, P.1 _ _ P.2.2.1] at h
  cases h
/-- one more object made -/
theorem PenAt.made {p : PenI} {H0 H : Hp} {a : Addr} {n : Nat} {o : HO} (P : PenAt p H0 H n) (h : H a = none) : PenAt p (L2.upd H0 a o) (L2.upd H a o) n ∧ Ex H0 (L2.upd H0 a o) :=
  ⟨P.both (fresh_ne P h) (fresh_nc P h), Ex.new (fresh0 P h)⟩
/-- draws of a tree, its size -/
def nd : Nat → Nat
  | 0 => 2
  | d + 1 => 2 + 4 * nd d
def sz : Nat → Nat
  | 0 => 1
  | d + 1 => 1 + 4 * sz d
theorem nd_pos : ∀ d, 2 ≤ nd d
  | 0 => Nat.le_refl _
  | d + 1 => Nat.le_add_right _ _
theorem sz_pos : ∀ d, 1 ≤ sz d
  | 0 => Nat.le_refl _
  | d + 1 => Nat.le_add_right _ _
def spTree (k : Nat) : Sp := fun vs H Q _ => ∃ (p : PenI) (H0 : Hp) (n d : Nat) (L : List Nat) (w m : Nat), vs = [.ref p.d, .str (tx L), .int (w : Int), .int (m : Int), .int (d : Int)] ∧ d < k ∧ PenAt p H0 H n ∧ n + nd d < 900000 ∧ 2 ≤ L.length ∧ L.length ≤ 4 ∧ 1 ≤ w ∧ w ≤ 8 ∧ 1 ≤ m ∧ m ≤ 64 ∧
  ∀ H1 H' v t, Ex H0 H1 → PenAt p H1 H' (n + nd d) → TR.TA true H1 v t → t.ok L.length w m → t.depth ≤ d + 1 → t.size ≤ sz d → Q v H'
section
variable {P : Program} {w : World} {K : PySem.W.Frag} {mg : Str → Option Value} {base : Heap}
theorem ok_tree {f : Addr} {fd : FuncData} (F : Fun K "_law_tree" "_law_tree" s_ltree f fd) (T : Tx mg) (g : mg "_law_tree" = some (.ref f)) (b : Binds K fd ["_law_pen_here", "_law_letters_here", "_law_width", "_law_states", "_law_depth"] [])
    (c_ldraw : Kn P w K mg base "_law_draw" ["_law_pen_here", "_law_many"] 1 spDraw) : ∀ k : Nat, FnOk P w K mg base CX0 (k + 2) f fd ["_law_pen_here", "_law_letters_here", "_law_width", "_law_states", "_law_depth"] (spTree k)
  | 0 => by
    refine F.ok sc_ltree (fun vs H Q E h => ?_) (fun cdv A outer s H vs Q E hr h => ?_)
    · obtain ⟨p, H0, n, d, L, wd, m, rfl, _⟩ := h
      rfl
    · obtain ⟨p, H0, n, d, L, wd, m, rfl, hk, _⟩ := h
      exact absurd hk (Nat.not_lt_zero _)
  | k + 1 => by
    have c_ltree : Kn P w K mg base "_law_tree" ["_law_pen_here", "_law_letters_here", "_law_width", "_law_states", "_law_depth"] (k + 2) (spTree k) := ⟨f, fd, ok_tree F T g b c_ldraw k, g, F.kp, b⟩
    refine F.ok sc_ltree (fun vs H Q E h => ?_) (fun cdv A outer s H vs Q E hr h => ?_)
    · obtain ⟨p, H0, n, d, L, wd, m, rfl, _⟩ := h
      rfl
    · obtain ⟨p, H0, n, d, L, wd, m, rfl, hk, P0, hn, l2, l4, w1, w8, m1, m64, q⟩ := h
      have ndp := nd_pos d
      refine ⟨_, (pss_cons (ps_set (i := 5) sc_ltree.nd rfl (Or.inl rfl) (pe_ifExp (pt_cmpR op_gt (pv 4) pe_int (nomark _)) (pe_call c_ldraw.ok (hr.mono (by omega)) (by rfl) c_ldraw.g c_ldraw.kp c_ldraw.b .nil pass0 (pa_cons (pv 0) (pa_cons pe_int pa_nil))) pe_int))
      (pss_cons (ps_if (pt_cmpR op_lt (pv 5) pe_int (nomark _)) (pss_cons (ps_set (i := 6) sc_ltree.nd rfl (Or.inl rfl) (pe_call c_ldraw.ok (hr.mono (by omega)) (by rfl) c_ldraw.g c_ldraw.kp c_ldraw.b .nil pass0 (pa_cons (pv 0) (pa_cons (pe_op op_add (pv 2) pe_int) pa_nil))))
      (pss_one (ps_ret (pe_tup (pa_cons pe_str (pa_cons (pv 6) (pa_cons (pe_callTy call_tuple_of (by rfl) T.tuple PyProof.Rows.boot_tuple (pa_cons (pe_lc (own := [("_law_letter", 7)]) (g := gName 7) (tt := tYes) rfl sc_ltree.nd (pi_str (pv 1)) (blkOk_by (N := N_ltree) (sc := defScope s_ltree) (by decide +kernel)) (fun _ _ _ _ _ => (pg_name (i := 7) sc_ltree.nd rfl (Or.inl rfl))) (fun _ _ _ _ _ => pts_nil) (fun _ _ _ _ _ => (pe_call c_ltree.ok (hr.mono (by omega)) (by rfl) c_ltree.g c_ltree.kp c_ltree.b .nil pass0 (pa_cons (pv 0) (pa_cons (pv 1) (pa_cons (pv 2) (pa_cons (pv 3) (pa_cons (pe_op op_sub (pv 4) pe_int) pa_nil)))))))) pa_nil)) pa_nil))))))) pss_nil)
      (pss_cons (ps_if (pt_cmpR op_eq (pv 5) pe_int (nomark _)) (pss_one (ps_ret (pe_tup (pa_cons pe_str (pa_cons (pe_call c_ldraw.ok (hr.mono (by omega)) (by rfl) c_ldraw.g c_ldraw.kp c_ldraw.b .nil pass0 (pa_cons (pv 0) (pa_cons pe_int pa_nil))) (pa_cons (pe_call c_ltree.ok (hr.mono (by omega)) (by rfl) c_ltree.g c_ltree.kp c_ltree.b .nil pass0 (pa_cons (pv 0) (pa_cons (pv 1) (pa_cons (pv 2) (pa_cons (pv 3) (pa_cons (pe_op op_sub (pv 4) pe_int) pa_nil)))))) pa_nil)))))) pss_nil)
      (pss_one (ps_ret (pe_tup (pa_cons pe_str (pa_cons (pe_op op_add pe_int (pe_call c_ldraw.ok (hr.mono (by omega)) (by rfl) c_ldraw.g c_ldraw.kp c_ldraw.b .nil pass0 (pa_cons (pv 0) (pa_cons (pe_op op_add (pv 2) pe_int) pa_nil)))) (pa_cons (pe_call c_ldraw.ok (hr.mono (by omega)) (by rfl) c_ldraw.g c_ldraw.kp c_ldraw.b .nil pass0 (pa_cons (pv 0) (pa_cons (pv 3) pa_nil))) pa_nil))))))))), ?_⟩
      refine ⟨_, rfl, _, _, rfl, rfl, _, rfl, ite2 (fun hb => ?_) (fun hb => ?_)⟩
      · have hd0 : 0 < (d : Int) := of_decide_eq_true hb
        obtain ⟨d', rfl⟩ : ∃ d', d = d' + 1 := ⟨d - 1, by omega⟩
        have nde : nd (d' + 1) = 2 + 4 * nd d' := rfl
        have sze : sz (d' + 1) = 1 + 4 * sz d' := rfl
        have ndp' := nd_pos d'
        have szp' := sz_pos d'
        have dm : (V.int (((d' + 1 : Nat) : Int) - 1)) = V.int (d' : Int) := congrArg V.int (by omega)
        refine ⟨_, rfl, p, H0, n, 6, rfl, P0, by omega, by decide, by decide, fun H1 r P1 r0 r1 => ?_⟩
        refine ⟨_, rfl, _, _, rfl, rfl, _, rfl, ite2 (fun hb1 => ?_) (fun hb1 => ?_)⟩
        · refine ⟨_, rfl, _, rfl, _, _, rfl, rfl, p, H0, n + 1, _, rfl, P1, by omega, by omega, by omega, fun H2 pl P2 p0 p1 => ?_⟩
          obtain ⟨pn, rfl⟩ : ∃ pn : Nat, pl = (pn : Int) := ⟨pl.toNat, (Int.toNat_of_nonneg p0).symm⟩
          refine ⟨_, rfl, _, rfl, _, rfl, fun D hD => ?_⟩
          have d0 := fresh0 P2 hD
          have d1 := fresh_ne P2 hD
          have d2 := fresh_nc P2 hD
          refine lc_str (x := tx L) (fun i H' => ∃ (Hb : Hp) (zs : List V) (ts : List Tr), Ex H0 Hb ∧ PenAt p Hb H' (n + 2 + i * nd d') ∧ Hb D = some (.lst zs) ∧ Kids true Hb zs ts ∧ ts.length = i ∧ ∀ t ∈ ts, t.ok L.length wd m ∧ t.depth ≤ d' + 1 ∧ t.size ≤ sz d')
            ⟨L2.upd H0 D (.lst []), [], [], Ex.new d0, (P2.both d1 d2).le (by omega), upd_same, .nil, rfl, fun t ht => nomatch ht⟩ (fun i c H' hic hw => ?_) (fun H' hw => ?_)
          · obtain ⟨Hb, zs, ts, e, Pb, hz, KK, hl, hall⟩ := hw
            have hi := (List.getElem?_eq_some_iff.mp (tx_at hic)).1
            have hi4 : (i + 1) * nd d' ≤ 4 * nd d' := Nat.mul_le_mul_right _ (by omega)
            rw [Nat.succ_mul] at hi4
            have lz := KK.len
            refine ⟨rfl, _, rfl, _, rfl, _, rfl, _, rfl, _, rfl, _, _, rfl, rfl, p, Hb, n + 2 + i * nd d', d', L, wd, m, congrArg (fun z => [V.ref p.d, V.str (tx L), V.int (wd : Int), V.int (m : Int), z]) dm, by omega, Pb, by omega, l2, l4, w1, w8, m1, m64, fun H3 H4 v t e3 P4 hta tok tdp tsz => ?_⟩
            refine ⟨zs, P4.1 _ _ (e3 _ _ hz), sz_lt (by omega), L2.upd H3 D (.lst (zs ++ [v])), zs ++ [v], ts ++ [t], (e.trans e3).mut d0, (P4.both d1 d2).le ?_, upd_same, ?_, ?_, ?_⟩
            · rw [Nat.succ_mul]
              omega
            · refine Kids.upd (fun ys hh => ?_) ((KK.ex e3).snoc hta)
              rw [e3 _ _ hz] at hh
              cases hh
            · rw [List.length_append, hl]
              rfl
            · intro x hx
              rcases List.mem_append.mp hx with h | h
              · exact hall x h
              · rw [List.mem_singleton.mp h]
                exact ⟨tok, tdp, tsz⟩
          · obtain ⟨Hb, zs, ts, e, Pb, hz, KK, hl, hall⟩ := hw
            rw [tx_size] at hl
            refine ⟨D, zs, rfl, .inl ⟨sq_of (Pb.1 _ _ hz), fun t2 ht2 => ⟨by show 3 ≤ sizeLine; decide, fun r2 hr2 => ?_⟩⟩⟩
            obtain ⟨Pc, ec⟩ := Pb.made (o := .tup zs) ht2
            obtain ⟨Pd, ed⟩ := Pc.made (o := .tup [.str "read", .int (pn : Int), .ref t2]) hr2
            have hn2 : L.length * nd d' ≤ 4 * nd d' := Nat.mul_le_mul_right _ l4
            have hs2 : L.length * sz d' ≤ 4 * sz d' := Nat.mul_le_mul_right _ l4
            have tot := total_le (s := sz d') fun t ht => (hall t ht).2.2
            rw [hl] at tot
            rw [tx_size] at Pd
            refine q _ _ _ (.read pn (Trs.of ts)) ((e.trans ec).trans ed) (Pd.le (by omega)) (.read upd_same (ed _ _ upd_same) ?_) ⟨by omega, ?_, Trs.ok_of fun t ht => (hall t ht).1⟩ ?_ ?_
            · refine Kids.tas ?_
              rw [Trs.of_list]
              exact KK.ex (ec.trans ed)
            · rw [Trs.of_list]
              exact hl
            · exact Nat.succ_le_succ (Trs.depth_of fun t ht => (hall t ht).2.1)
            · show (Trs.of ts).size + 1 ≤ _
              rw [← Trs.total, Trs.of_list]
              omega
        · refine ⟨_, rfl, rfl, _, rfl, ite2 (fun hb2 => ?_) (fun hb2 => ?_)⟩
          · refine ⟨_, rfl, p, H0, n + 1, 3, rfl, P1, by omega, by decide, by decide, fun H2 r2 P2 s0 s1 => ?_⟩
            obtain ⟨rn, rfl⟩ : ∃ rn : Nat, r2 = (rn : Int) := ⟨r2.toNat, (Int.toNat_of_nonneg s0).symm⟩
            refine ⟨_, rfl, _, rfl, _, rfl, _, rfl, _, rfl, _, _, rfl, rfl, p, H0, n + 2, d', L, wd, m, congrArg (fun z => [V.ref p.d, V.str (tx L), V.int (wd : Int), V.int (m : Int), z]) dm, by omega, P2, by omega, l2, l4, w1, w8, m1, m64, fun H3 H4 v t e3 P4 hta tok tdp tsz => ⟨by show 3 ≤ sizeLine; decide, fun r3 hr3 => ?_⟩⟩
            obtain ⟨Pd, ed⟩ := P4.made (o := .tup [.str "tell", .int (rn : Int), v]) hr3
            exact q _ _ _ (.tell rn t) (e3.trans ed) (Pd.le (by omega)) (.tell upd_same (hta.ex ed)) ⟨by omega, tok⟩ (Nat.succ_le_succ tdp) (by show t.size + 1 ≤ _; omega)
          · refine ⟨_, rfl, _, rfl, _, _, rfl, rfl, p, H0, n + 1, _, rfl, P1, by omega, by omega, by omega, fun H2 r2 P2 s0 s1 => ⟨_, _, rfl, rfl, ?_⟩⟩
            refine ⟨_, rfl, _, rfl, p, H0, n + 2, _, rfl, P2, by omega, by omega, by omega, fun H3 r3 P3 u0 u1 => ⟨by show 3 ≤ sizeLine; decide, fun r4 hr4 => ?_⟩⟩
            obtain ⟨an, rfl⟩ : ∃ an : Nat, r2 = (an : Int) := ⟨r2.toNat, (Int.toNat_of_nonneg s0).symm⟩
            obtain ⟨bn, rfl⟩ : ∃ bn : Nat, r3 = (bn : Int) := ⟨r3.toNat, (Int.toNat_of_nonneg u0).symm⟩
            obtain ⟨Pd, ed⟩ := P3.made (o := .tup [.str "go", .int (1 + (an : Int)), .int (bn : Int)]) hr4
            refine q _ _ _ (.go (1 + an) bn) ed (Pd.le (by omega)) (.go ?_) ⟨by omega, by omega, by omega⟩ (by show 1 ≤ _; omega) (by show 1 ≤ _; omega)
            rw [upd_same]
            rfl
      · have hd0 : d = 0 := by
          have : ¬ (0 < (d : Int)) := fun z => hb (decide_eq_true z)
          omega
        subst hd0
        have nde : nd 0 = 2 := rfl
        refine ⟨_, rfl, _, _, rfl, rfl, _, rfl, ite2 (fun hb1 => absurd (of_decide_eq_true hb1) (by decide)) (fun hb1 => ?_)⟩
        refine ⟨_, rfl, rfl, _, rfl, ite2 (fun hb2 => absurd hb2 (by decide)) (fun hb2 => ?_)⟩
        refine ⟨_, rfl, _, rfl, _, _, rfl, rfl, p, H0, n, _, rfl, P0, by omega, by omega, by omega, fun H2 r2 P2 s0 s1 => ⟨_, _, rfl, rfl, ?_⟩⟩
        refine ⟨_, rfl, _, rfl, p, H0, n + 1, _, rfl, P2, by omega, by omega, by omega, fun H3 r3 P3 u0 u1 => ⟨by show 3 ≤ sizeLine; decide, fun r4 hr4 => ?_⟩⟩
        obtain ⟨an, rfl⟩ : ∃ an : Nat, r2 = (an : Int) := ⟨r2.toNat, (Int.toNat_of_nonneg s0).symm⟩
        obtain ⟨bn, rfl⟩ : ∃ bn : Nat, r3 = (bn : Int) := ⟨r3.toNat, (Int.toNat_of_nonneg u0).symm⟩
        obtain ⟨Pd, ed⟩ := P3.made (o := .tup [.str "go", .int (1 + (an : Int)), .int (bn : Int)]) hr4
        refine q _ _ _ (.go (1 + an) bn) ed (Pd.le (by omega)) (.go ?_) ⟨by omega, by omega, by omega⟩ (by show 1 ≤ _; omega) (by show 1 ≤ 1; omega)
        rw [upd_same]
        rfl
/-- the states drawn -/
def spTrees : Sp := fun vs H Q _ => ∃ (p : PenI) (H0 : Hp) (n : Nat) (L : List Nat) (w m : Nat), vs = [.ref p.d, .str (tx L), .int (w : Int), .int (m : Int), .int 3] ∧ PenAt p H0 H n ∧ n < 800000 ∧ 2 ≤ L.length ∧ L.length ≤ 4 ∧ 1 ≤ w ∧ w ≤ 8 ∧ 1 ≤ m ∧ m ≤ 5 ∧
  ∀ H1 H' r vs ts, Ex H0 H1 → PenAt p H1 H' (n + 1000) → H0 r = none → H1 r = some (.lst vs) → Kids true H1 vs ts → ts.length = m → (∀ t ∈ ts, t.ok L.length w m ∧ t.depth ≤ 4 ∧ t.size ≤ 100) → Q (.ref r) H'
theorem ok_trees {f : Addr} {fd : FuncData} (F : Fun K "_law_trees" "_law_trees" s_ltrees f fd) (T : Tx mg) (c_ltree : Kn P w K mg base "_law_tree" ["_law_pen_here", "_law_letters_here", "_law_width", "_law_states", "_law_depth"] 6 (spTree 4)) :
    FnOk P w K mg base CX0 7 f fd ["_law_pen_here", "_law_letters_here", "_law_width", "_law_many", "_law_depth"] spTrees := by
  refine F.ok sc_ltrees (fun vs H Q E h => ?_) (fun cdv A outer s H vs Q E hr h => ?_)
  · obtain ⟨p, H0, n, L, wd, m, rfl, _⟩ := h
    rfl
  · obtain ⟨p, H0, n, L, wd, m, rfl, P0, hn, l2, l4, w1, w8, m1, m4, q⟩ := h
    refine ⟨_, (pss_one (ps_ret (pe_lc (own := [("_law_k", 5)]) (g := gName 5) (tt := tYes) rfl sc_ltrees.nd (pi_range1 (by rfl) T.range (pa_cons (pv 3) pa_nil)) (blkOk_by (N := N_ltrees) (sc := defScope s_ltrees) (by decide +kernel)) (fun _ _ _ _ _ => (pg_name (i := 5) sc_ltrees.nd rfl (Or.inl rfl))) (fun _ _ _ _ _ => pts_nil) (fun _ _ _ _ _ => (pe_call c_ltree.ok (hr.mono (by decide)) (by rfl) c_ltree.g c_ltree.kp c_ltree.b .nil pass0 (pa_cons (pv 0) (pa_cons (pv 1) (pa_cons (pv 2) (pa_cons (pv 3) (pa_cons (pv 4) pa_nil)))))))))), ?_⟩
    have n3 : nd 3 = 170 := rfl
    have z3 : sz 3 = 85 := rfl
    refine ⟨_, rfl, _, rfl, by omega, by omega, fun D hD => ?_⟩
    have d0 := fresh0 P0 hD
    have d1 := fresh_ne P0 hD
    have d2 := fresh_nc P0 hD
    refine lc_range (lo := 0) (n := m) (fun i H' => ∃ (Hb : Hp) (zs : List V) (ts : List Tr), Ex H0 Hb ∧ PenAt p Hb H' (n + i * 170) ∧ Hb D = some (.lst zs) ∧ Kids true Hb zs ts ∧ ts.length = i ∧ ∀ t ∈ ts, t.ok L.length wd m ∧ t.depth ≤ 4 ∧ t.size ≤ 100)
      ⟨L2.upd H0 D (.lst []), [], [], Ex.new d0, (P0.both d1 d2).le (by omega), upd_same, .nil, rfl, fun t ht => nomatch ht⟩ (fun i H' hi hw => ?_) (fun H' hw => ?_)
    · obtain ⟨Hb, zs, ts, e, Pb, hz, KK, hl, hall⟩ := hw
      have lz := KK.len
      refine ⟨rfl, _, rfl, _, rfl, _, rfl, _, rfl, _, rfl, p, Hb, n + i * 170, 3, L, wd, m, rfl, by decide, Pb, by omega, l2, l4, w1, w8, m1, by omega, fun H3 H4 v t e3 P4 hta tok tdp tsz => ?_⟩
      refine ⟨zs, P4.1 _ _ (e3 _ _ hz), sz_lt (by omega), L2.upd H3 D (.lst (zs ++ [v])), zs ++ [v], ts ++ [t], (e.trans e3).mut d0, (P4.both d1 d2).le (by omega), upd_same, ?_, ?_, ?_⟩
      · refine Kids.upd (fun ys hh => ?_) ((KK.ex e3).snoc hta)
        rw [e3 _ _ hz] at hh
        cases hh
      · rw [List.length_append, hl]
        rfl
      · intro x hx
        rcases List.mem_append.mp hx with h | h
        · exact hall x h
        · rw [List.mem_singleton.mp h]
          exact ⟨tok, tdp, by omega⟩
    · obtain ⟨Hb, zs, ts, e, Pb, hz, KK, hl, hall⟩ := hw
      exact q _ _ _ _ _ e (Pb.le (by omega)) d0 hz KK hl hall
end
end Law

namespace TR
open PySem PySem.Spec PyProof.Rows L2 Evl
/-! ### t + u of tuples, either may be empty -/
theorem cat_tup0 {prog : Program} {w : World} {A : Around} {E : Value → Shared → Prop} {s : Shared} {t b : Addr} {vs ws : List Value} {Q : Value → Shared → Prop} (ht : Heap.IsTuple s.heap t vs.toArray) (hb : Heap.IsTuple s.heap b ws.toArray) (hv : vs = [])
    (h : Q (.ref b) s) : wpAny (model prog w) A (binaryOp .Add (.ref t) (.ref b)) Q E s := by
  obtain ⟨⟨cls, dd, data, sl⟩, ho, hc, n, hd⟩ := id ht
  obtain ⟨⟨cls2, dd2, data2, sl2⟩, ho2, hc2, n2, hd2⟩ := id hb
  simp only at hc hd hc2 hd2
  subst hc hd hc2 hd2
  exact concat_meets ⟨_, ho, rfl⟩ ⟨_, ho2, rfl⟩ noFill_tuple_add seq_tuple_add PySem.F.slot_tuple_add PySem.F.entry_tuple_add (PySem.F.args_tuple_add_2 _ _)
    (tuple_addW0 t b vs.toArray ws.toArray n n2 dd dd2 sl sl2 (by simp [hv])) ⟨ho, ho2, h⟩
def rCatA : R2 := fun x y H Q => ∃ a b xs ys, x = .ref a ∧ y = .ref b ∧ H a = some (.tup xs) ∧ H b = some (.tup ys) ∧ xs.length + ys.length ≤ sizeLine ∧ ∀ p H', Ex H H' → H' p = some (.tup (xs ++ ys)) → Q (.ref p) H'
theorem op_catTA {X : Cx} : OpR X (binaryOp .Add) rCatA := by
  intro pins s σ H x y v u Q I rx ry h
  obtain ⟨a, b, xs, ys, rfl, rfl, ha, hb, hz, q⟩ := h
  by_cases hx : xs = []
  · subst hx
    cases rx
    cases ry
    obtain ⟨its, r1, p1, _⟩ := I.tuple (st_of ha)
    obtain ⟨its2, r2, p2, _⟩ := I.tuple (st_of hb)
    exact cat_tup0 p1 p2 (r1.nil_iff.mpr rfl) ⟨.ref b, H, I, rfl, q b H (Ex.refl _) hb⟩
  · refine op_catT pins s σ H (.ref a) (.ref b) v u Q I rx ry ⟨a, b, xs, ys, rfl, rfl, st_of ha, st_of hb, hx, hz, fun hy => ?_, fun _ p hp => q p _ (Ex.new hp) upd_same⟩
    refine q a H (Ex.refl _) ?_
    rw [hy, List.append_nil]
    exact ha
theorem cut_take (xs : List V) (k : Nat) : cutV xs none (some (k : Int)) = xs.take k := by
  unfold cutV
  rw [HT.sIx_none, HT.sIx_nat, Nat.sub_zero, List.drop_zero, List.take_eq_take_iff]
  omega
theorem cut_drop (xs : List V) (k : Nat) : cutV xs (some (k : Int)) none = xs.drop k := by
  unfold cutV
  rw [HT.sIx_none, HT.sIx_nat]
  by_cases h : k ≤ xs.length
  · rw [Nat.min_eq_left h, List.take_of_length_le (by rw [List.length_drop]; omega)]
  · rw [Nat.min_eq_right (by omega), List.drop_of_length_le (Nat.le_refl _), List.drop_of_length_le (show xs.length ≤ k by omega)]
    rw [List.take_nil]

/-! ### == and != of data nested deeper than 64 -/
def rEqDD (K : PySem.W.Frag) : R2 := fun x y H Q => ∃ d e, Dp K H x d ∧ Dp K H y e ∧ d.canLay0 = true ∧ e.canLay0 = true ∧ d.depth ≤ 180 ∧ Q (.bl (PyData.eqv d e)) H
def rNeDD (K : PySem.W.Frag) : R2 := fun x y H Q => ∃ d e, Dp K H x d ∧ Dp K H y e ∧ d.canLay0 = true ∧ e.canLay0 = true ∧ d.depth ≤ 180 ∧ Q (.bl (!PyData.eqv d e)) H
theorem op_eqDD {X : Cx} {k : Nat} (hr : Room k X.A) : OpR X (compareOp .Eq) (rEqDD X.K) := by
  intro pins s σ H x y v u Q I rx ry h
  obtain ⟨d, e, hd, he, sd, se, hz, q⟩ := h
  obtain ⟨as, r1⟩ := Dp.reads I d x v hd rx
  obtain ⟨bs, r2⟩ := Dp.reads I e y u he ry
  have h2 : min d.depth e.depth ≤ d.depth := Nat.min_le_left _ _
  have := hr.un
  exact SeqAt.compareEq_reads r1 r2 sd se (by omega) ⟨.bl _, H, I, rfl, q⟩
theorem op_neDD {X : Cx} {k : Nat} (hr : Room k X.A) : OpR X (compareOp .NotEq) (rNeDD X.K) := by
  intro pins s σ H x y v u Q I rx ry h
  obtain ⟨d, e, hd, he, sd, se, hz, q⟩ := h
  obtain ⟨as, r1⟩ := Dp.reads I d x v hd rx
  obtain ⟨bs, r2⟩ := Dp.reads I e y u he ry
  have h2 : min d.depth e.depth ≤ d.depth := Nat.min_le_left _ _
  have := hr.un
  exact SeqAt.compareNe_reads r1 r2 sd se (by omega) ⟨.bl _, H, I, rfl, q⟩
end TR

namespace TR
open PySem PySem.Spec L2 Evl
/-! ### a tree as data -/
mutual
def Tr.data : Tr → PyData
  | .go s q => .tuple [.str "go", .int (s : Nat), .int (q : Nat)]
  | .tell n t => .tuple [.str "tell", .int (n : Nat), t.data]
  | .read p ts => .tuple [.str "read", .int (p : Nat), .tuple ts.data]
def Trs.data : Trs → List PyData
  | .nil => []
  | .cons t r => t.data :: r.data
end
mutual
theorem TA.dp {K : PySem.W.Frag} {H : Hp} : ∀ {t : Tr} {v : V}, TA true H v t → Dp K H v t.data
  | _, _, .go h => .tup (st_of h) (.cons (.str _) (.cons (.int _) (.cons (.int _) .nil)))
  | _, _, .tell h r => .tup (st_of h) (.cons (.str _) (.cons (.int _) (.cons (TA.dp r) .nil)))
  | _, _, .read h hb r => .tup (st_of h) (.cons (.str _) (.cons (.int _) (.cons (.tup (st_of hb) (TAs.dp r)) .nil)))
theorem TAs.dp {K : PySem.W.Frag} {H : Hp} : ∀ {ts : Trs} {vs : List V}, TAs true H vs ts → DpAll K H vs ts.data
  | _, _, .nil => .nil
  | _, _, .cons h r => .cons (TA.dp h) (TAs.dp r)
end
theorem Kids.dp {K : PySem.W.Frag} {H : Hp} : ∀ {ts : List Tr} {vs : List V}, Kids true H vs ts → DpAll K H vs (ts.map Tr.data)
  | _, _, .nil => .nil
  | _, _, .cons h r => .cons h.dp (Kids.dp r)
theorem ok_str (x : String) (h : PyData.canLay0 (.str x) = true := by decide +kernel) : PyData.canLay0 (.str x) = true := h
mutual
theorem Tr.lays : ∀ t : Tr, t.data.canLay0 = true
  | .go s q => by
    simp only [Tr.data, PyData.canLay0, PyData.canLayAll0, Bool.and_true]
    decide +kernel
  | .tell n t => by
    simp only [Tr.data, PyData.canLay0, PyData.canLayAll0, Bool.and_true, Bool.true_and, Tr.lays t]
    decide +kernel
  | .read p ts => by
    simp only [Tr.data, PyData.canLay0, PyData.canLayAll0, Bool.and_true, Bool.true_and, Trs.lays ts]
    decide +kernel
theorem Trs.lays : ∀ ts : Trs, PyData.canLayAll0 ts.data = true
  | .nil => by simp only [Trs.data, PyData.canLayAll0]
  | .cons t r => by simp only [Trs.data, PyData.canLayAll0, Tr.lays t, Trs.lays r, Bool.and_true]
end
mutual
theorem Tr.deep : ∀ t : Tr, t.data.depth ≤ 2 * t.depth
  | .go s q => by
    simp only [Tr.data, PyData.depth, PyData.depthAll, Tr.depth]
    decide
  | .tell n t => by
    have := Tr.deep t
    simp only [Tr.data, PyData.depth, PyData.depthAll, Tr.depth]
    omega
  | .read p ts => by
    have := Trs.deep ts
    simp only [Tr.data, PyData.depth, PyData.depthAll, Tr.depth]
    omega
theorem Trs.deep : ∀ ts : Trs, PyData.depthAll ts.data ≤ 2 * ts.depth
  | .nil => Nat.zero_le _
  | .cons t r => by
    have := Tr.deep t
    have := Trs.deep r
    simp only [Trs.data, PyData.depthAll, Trs.depth]
    omega
end
theorem eqv3 (x y : Str) (m n : Nat) (a b : PyData) : PyData.eqv (.tuple [.str x, .int (m : Nat), a]) (.tuple [.str y, .int (n : Nat), b]) = ((x == y) && (((m : Int) == (n : Int)) && (PyData.eqv a b && true))) := by
  simp only [PyData.eqv, PyData.eqvAll]
theorem eqv3_of {x y : Str} {m n : Nat} {a b : PyData} (h : PyData.eqv (.tuple [.str x, .int (m : Nat), a]) (.tuple [.str y, .int (n : Nat), b]) = true) : x = y ∧ m = n ∧ PyData.eqv a b = true := by
  rw [eqv3] at h
  simp only [Bool.and_eq_true, beq_iff_eq] at h
  exact ⟨h.1, by have := h.2.1; omega, h.2.2.1⟩
theorem g_t : ¬ (("go" : Str) = "tell") := by decide +kernel
theorem g_r : ¬ (("go" : Str) = "read") := by decide +kernel
theorem t_r : ¬ (("tell" : Str) = "read") := by decide +kernel
theorem eqvI {m n : Nat} (h : PyData.eqv (.int (m : Nat)) (.int (n : Nat)) = true) : m = n := by
  have h2 : ((m : Int) == (n : Int)) = true := by
    simpa only [PyData.eqv] using h
  have := beq_iff_eq.mp h2
  omega
theorem eqvT {xs ys : List PyData} : PyData.eqv (.tuple xs) (.tuple ys) = PyData.eqvAll xs ys := by
  simp only [PyData.eqv]
mutual
theorem Tr.inj : ∀ t u : Tr, PyData.eqv t.data u.data = true → t = u
  | .go s q, .go s' q', h => by
    obtain ⟨_, h1, h2⟩ := eqv3_of h
    rw [h1, eqvI h2]
  | .tell n t, .tell n' t', h => by
    obtain ⟨_, h1, h2⟩ := eqv3_of h
    rw [h1, Tr.inj t t' h2]
  | .read p ts, .read p' us, h => by
    obtain ⟨_, h1, h2⟩ := eqv3_of h
    rw [eqvT] at h2
    rw [h1, Trs.inj ts us h2]
  | .go _ _, .tell _ _, h => absurd (eqv3_of h).1 g_t
  | .go _ _, .read _ _, h => absurd (eqv3_of h).1 g_r
  | .tell _ _, .go _ _, h => absurd (eqv3_of h).1.symm g_t
  | .tell _ _, .read _ _, h => absurd (eqv3_of h).1 t_r
  | .read _ _, .go _ _, h => absurd (eqv3_of h).1.symm g_r
  | .read _ _, .tell _ _, h => absurd (eqv3_of h).1.symm t_r
theorem Trs.inj : ∀ t u : Trs, PyData.eqvAll t.data u.data = true → t = u
  | .nil, .nil, _ => rfl
  | .cons t r, .cons t' r', h => by
    simp only [Trs.data, PyData.eqvAll, Bool.and_eq_true] at h
    rw [Tr.inj t t' h.1, Trs.inj r r' h.2]
  | .nil, .cons _ _, h => by simp [Trs.data, PyData.eqvAll] at h
  | .cons _ _, .nil, h => by simp [Trs.data, PyData.eqvAll] at h
end
theorem eqv3_mk (x : Str) (m : Nat) {a : PyData} (h : PyData.eqv a a = true) : PyData.eqv (.tuple [.str x, .int (m : Nat), a]) (.tuple [.str x, .int (m : Nat), a]) = true := by
  rw [eqv3, h]
  simp
mutual
theorem Tr.same : ∀ t : Tr, PyData.eqv t.data t.data = true
  | .go s q => eqv3_mk _ _ (by simp only [PyData.eqv, beq_self_eq_true])
  | .tell n t => eqv3_mk _ _ (Tr.same t)
  | .read p ts => eqv3_mk _ _ (by rw [eqvT]; exact Trs.same ts)
theorem Trs.same : ∀ t : Trs, PyData.eqvAll t.data t.data = true
  | .nil => by simp only [Trs.data, PyData.eqvAll]
  | .cons t r => by simp only [Trs.data, PyData.eqvAll, Tr.same t, Trs.same r, Bool.and_true]
end
/-- the states as data -/
def sdata (ts : List Tr) : PyData := .tuple (ts.map Tr.data)
theorem sd_inj : ∀ ts us : List Tr, PyData.eqvAll (ts.map Tr.data) (us.map Tr.data) = true → ts = us
  | [], [], _ => rfl
  | t :: r, u :: s, h => by
    simp only [List.map_cons, PyData.eqvAll, Bool.and_eq_true] at h
    rw [Tr.inj t u h.1, sd_inj r s h.2]
  | [], _ :: _, h => by simp [PyData.eqvAll] at h
  | _ :: _, [], h => by simp [PyData.eqvAll] at h
theorem sd_same : ∀ ts : List Tr, PyData.eqvAll (ts.map Tr.data) (ts.map Tr.data) = true
  | [] => by simp only [List.map_nil, PyData.eqvAll]
  | t :: r => by simp only [List.map_cons, PyData.eqvAll, Tr.same t, sd_same r, Bool.and_true]
theorem sd_lays : ∀ ts : List Tr, PyData.canLayAll0 (ts.map Tr.data) = true
  | [] => by simp only [List.map_nil, PyData.canLayAll0]
  | t :: r => by simp only [List.map_cons, PyData.canLayAll0, Tr.lays t, sd_lays r, Bool.and_true]
theorem sd_deep {d : Nat} : ∀ {ts : List Tr}, (∀ t ∈ ts, t.depth ≤ d) → PyData.depthAll (ts.map Tr.data) ≤ 2 * d
  | [], _ => by simp only [List.map_nil, PyData.depthAll]; exact Nat.zero_le _
  | t :: r, h => by
    have h1 := Tr.deep t
    have h2 := h t List.mem_cons_self
    have h3 := sd_deep (ts := r) fun x hx => h x (List.mem_cons_of_mem _ hx)
    simp only [List.map_cons, PyData.depthAll]
    omega
theorem sd_cl (ts : List Tr) : (sdata ts).canLay0 = true := by
  unfold sdata
  simp only [PyData.canLay0, sd_lays]
theorem sd_dp {d : Nat} {ts : List Tr} (h : ∀ t ∈ ts, t.depth ≤ d) : (sdata ts).depth ≤ 2 * d + 1 := by
  have h1 := sd_deep h
  unfold sdata
  simp only [PyData.depth]
  omega
theorem sd_shaped {ts : List Tr} (h : ∀ t ∈ ts, t.depth ≤ 31) : SeqAt.shaped (sdata ts) = true := by
  have h1 := sd_deep h
  unfold SeqAt.shaped sdata
  rw [Bool.and_eq_true]
  refine ⟨by simp only [PyData.canLay0, sd_lays], decide_eq_true ?_⟩
  simp only [PyData.depth]
  omega
theorem sd_eqv {ts us : List Tr} (d : Bool) (h : d = true ↔ ts = us) : PyData.eqv (sdata ts) (sdata us) = d := by
  unfold sdata
  rw [eqvT]
  cases d
  · cases e : PyData.eqvAll (ts.map Tr.data) (us.map Tr.data)
    · rfl
    · exact absurd (h.mpr (sd_inj _ _ e)) (by decide)
  · rw [h.mp rfl]
    exact sd_same _
end TR

namespace Law
open PySem PySem.Spec PyProof.Rows L2 Evl TR
/-! these three rows stand in the head, too, once it is printed anew: leave them out then -/
/-- what == asks of the class -/
structure SE (K : PySem.W.Frag) (C : Addr) : Prop where
  ins : C8.InsC K C
  tn : PySem.W.kitOne K (.type "tuple") (.ref C) = some false
theorem sFs_l (l w s n : V) : (sFs l w s n).lookup ("letters" : Str) = some l := rfl
theorem sFs_w (l w s n : V) : (sFs l w s n).lookup ("width" : Str) = some w := rfl
theorem sFs_s (l w s n : V) : (sFs l w s n).lookup ("states" : Str) = some s := rfl
theorem sFs_n (l w s n : V) : (sFs l w s n).lookup ("nodes" : Str) = some n := rfl
theorem tx_inj' {l m : List Nat} (h : tx l = tx m) : l = m := by
  have h2 := congrArg (fun s : Str => s.cps.toList) h
  simpa [tx] using h2
def spEqO (C : Addr) : Sp := fun vs H Q _ =>
  (∃ (o o' : Addr) (L L' : List Nat) (w w' : Nat) (ts us : List Tr) (d : Bool), vs = [.ref o, .ref o'] ∧ SObj C H o L w ts ∧ SObj C H o' L' w' us ∧ (∀ t ∈ ts, t.depth ≤ 40) ∧ (∀ t ∈ us, t.depth ≤ 40) ∧ (d = true ↔ L = L' ∧ w = w' ∧ ts = us) ∧ ∀ H', Ex H H' → Q (.bl d) H') ∨
  (∃ (o b : Addr) (L : List Nat) (w : Nat) (ts : List Tr) (xs : List V), vs = [.ref o, .ref b] ∧ SObj C H o L w ts ∧ H b = some (.tup xs) ∧ ∀ H', Ex H H' → Q (.bl false) H')
section
variable {P : Program} {w : World} {K : PySem.W.Frag} {mg : Str → Option Value} {base : Heap}
theorem ok_eq {f C_Searcher : Addr} {fd : FuncData} (F : Fun K "__eq__" "Searcher.__eq__" s_Searcher_eq f fd) (T : Tx mg) (g_Searcher : mg "Searcher" = some (.ref C_Searcher)) (S : SC K C_Searcher) (S2 : SE K C_Searcher) :
    FnOk P w K mg base CX0 1 f fd ["self", "other"] (spEqO C_Searcher) := by
  refine F.ok sc_Searcher_eq (fun vs H Q E h => ?_) (fun cdv A outer s H vs Q E hr h => ?_)
  · rcases h with ⟨_, _, _, _, _, _, _, _, _, rfl, _⟩ | ⟨_, _, _, _, _, _, rfl, _⟩ <;> rfl
  · refine ⟨_, (pss_one (ps_ret (pe_and (pe_callB call_isi (by rfl) T.isinstance PyProof.Rows.boot_isinstance (pa_cons (pv 1) (pa_cons (pe_glob (v := .ref C_Searcher) rfl g_Searcher rfl) pa_nil))) (pe_and (pe_cmpR op_eq (pe_fld (pv 0) rfl) (pe_fld (pv 1) rfl) (nomark _)) (pe_and (pe_cmpR op_eq (pe_fld (pv 0) rfl) (pe_fld (pv 1) rfl) (nomark _)) (pe_one (pe_cmpR (TR.op_eqDD hr) (pe_fld (pv 0) rfl) (pe_fld (pv 1) rfl) (nomark _)))))))), ?_⟩
    have I := S2.ins
    rcases h with ⟨o, o', L, L', wd, wd', ts, us, d, rfl, ho, ho', dt, du, hd, q⟩ | ⟨o, b, L, wd, ts, xs, rfl, ho, hb, q⟩
    · obtain ⟨dx, st, vs, e1, e2, e3⟩ := ho.ex
      obtain ⟨dx', st', vs', f1, f2, f3⟩ := ho'.ex
      have q2 := q H (Ex.refl _)
      refine ⟨_, rfl, _, _, _, _, true, rfl, .own _, .base (TyOf.ins f1 I.cl I.ha I.hn I.htk I.hm), I.me, true, rfl, ?_⟩
      refine ⟨_, rfl, o, _, dx, _, _, rfl, e1, S.cl, S.nl, sFs_l _ _ _ _, _, rfl, o', _, dx', _, _, rfl, f1, S.cl, S.nl, sFs_l _ _ _ _, rfl, ?_⟩
      by_cases hL : L = L'
      · rw [decide_eq_true (show V.str (tx L) = V.str (tx L') by rw [hL])]
        refine ⟨true, rfl, ?_⟩
        refine ⟨_, rfl, o, _, dx, _, _, rfl, e1, S.cl, S.nw, sFs_w _ _ _ _, _, rfl, o', _, dx', _, _, rfl, f1, S.cl, S.nw, sFs_w _ _ _ _, rfl, ?_⟩
        by_cases hw : wd = wd'
        · rw [decide_eq_true (show V.int (wd : Int) = V.int (wd' : Int) by rw [hw])]
          refine ⟨true, rfl, ?_⟩
          refine ⟨_, rfl, o, _, dx, _, _, rfl, e1, S.cl, S.ns, sFs_s _ _ _ _, _, rfl, o', _, dx', _, _, rfl, f1, S.cl, S.ns, sFs_s _ _ _ _, ?_⟩
          refine ⟨sdata ts, sdata us, .tup (st_of e2) e3.dp, .tup (st_of f2) f3.dp, sd_cl ts, sd_cl us, (by have := sd_dp dt; omega), ?_⟩
          rw [sd_eqv d ⟨fun z => (hd.mp z).2.2, fun z => hd.mpr ⟨hL, hw, z⟩⟩]
          exact q2
        · rw [decide_eq_false (fun z => hw (by have := V.int.inj z; omega))]
          refine ⟨false, rfl, ?_⟩
          have hdf : d = false := by
            cases d
            · rfl
            · exact absurd (hd.mp rfl).2.1 hw
          rw [hdf] at q2
          exact q2
      · rw [decide_eq_false (fun z => hL (tx_inj' (V.str.inj z)))]
        refine ⟨false, rfl, ?_⟩
        have hdf : d = false := by
          cases d
          · rfl
          · exact absurd (hd.mp rfl).1 hL
        rw [hdf] at q2
        exact q2
    · obtain ⟨dx, st, vs, e1, e2, e3⟩ := ho.ex
      exact ⟨_, rfl, _, _, _, _, false, rfl, .own _, .base (.tup hb), S2.tn, false, rfl, q H (Ex.refl _)⟩
end
end Law

namespace OE
open PySem PySem.Spec PyProof.Rows L2 Evl
/-! ### == and != by an own __eq__ with both answers -/
section
variable {M : Model} {prog : Program} {w : World} {A : Around} {E : Value → Shared → Prop} {s : Shared} {K : PySem.W.Frag} {x C f : Addr} {ox : Obj} {od : Option Obj} {b tb : Value}
theorem sub_tup : PySem.W.subIn K (.type "tuple") (.ref C) = some false := by
  have e : fastBuiltinMro "tuple" = some [.type "tuple", .type "object"] := by decide +kernel
  show (fastBuiltinMro "tuple").map (·.contains (.ref C)) = some false
  rw [e]
  first
    | rfl
    | simp
theorem entry_ne {Q : Fin → Shared → Prop} (X : K.In s.heap) (I : PySem.W.InstAt s.heap x ox C od) (hu : A.units < cLine) (hs : PySem.W.findIn K (.ref C) "__eq__" = some (some (.ref f))) (hf : PySem.W.isFn K (.ref f) = true)
    (h : wpAny M A (call (.ref f) [.ref x, b]) (fun v s' => ∃ r, v = .bool r ∧ Q (.done (.ret (.bool (!r)))) s') E s) : wpAny M A (Builtin.«object.__ne__» ⟨[.ref x, b], []⟩) Q E s := by
  unfold Builtin.«object.__ne__»
  have done : ∀ v s', (∃ r, v = Value.bool r ∧ Q (.done (.ret (.bool (!r)))) s') → wpAny M A (match (some v : Option Value) with
      | some .notImplemented | none => ret .notImplemented
      | some r => do ret (.bool (!(← truthy r)))) Q E s' := fun v s' z => by
    obtain ⟨r, rfl, hq⟩ := z
    exact wpAny_bind (wpAny_truthy_bool (wpAny_pure hq))
  repeat (first | with_reducible refine wpAny_cRoomFor hu ?_ | exact PySem.W.ifBound_K X I hs hf (wpAny_mono h done fun _ _ e => e) | wp_step)
theorem ne_K {Q : Value → Shared → Prop} {h₀ : Heap} {L : Addr} {m : Str → Option Value} (hu : A.units + 1 < cLine) (Fx : Fr h₀ L s.heap m) (X₀ : K.In h₀) (I : PySem.W.InstAt s.heap x ox C od) (hb : PySem.W.Looks (model prog w) s.heap (typeOf b) tb) (hn : PySem.W.notFirst K C tb = true)
    (hm : PySem.W.mroIn K C (.type "object") = some true) (hne : PySem.W.findIn K (.ref C) "__ne__" = some (some (.builtin "object.__ne__"))) (hs : PySem.W.findIn K (.ref C) "__eq__" = some (some (.ref f))) (hf : PySem.W.isFn K (.ref f) = true)
    (h : wpAny (model prog w) A.in1 (call (.ref f) [.ref x, b]) (fun v s' => ∃ r, v = .bool r ∧ Q (.bool (!r)) s') E s) : wpAny (model prog w) A (richCompare .NotEq (.ref x) b) Q E s := by
  have X := X₀.keeps Fx.keep
  have callne : wpAny (model prog w) A (call (.builtin "object.__ne__") [.ref x, b]) (fun v s' => ∃ r : Bool, v = .bool r ∧ Q v s') E s :=
    wpAny_call (codeAny_call_builtin F.cmp_object.ne.plain F.cmpEntry_ne (PySem.W.check_slot F.cmpKind_ne F.cmpSplit_ne (I.type.andThen (PySem.W.looks_mroIn X hm)) (F.cmpArgs_ne _ _)
      (entry_ne X I (by show A.units + 1 < cLine; exact hu) hs hf (wpAny_mono h (fun v s' z => by
        obtain ⟨r, hv, q⟩ := z
        exact ⟨r, hv, !r, rfl, q⟩) fun _ _ e => e))))
  have bound : wpAny (model prog w) A (callSpecialIfBound? (.ref x) "__ne__" [b]) (fun o s' => ∃ r : Bool, o = some (.bool r) ∧ Q (.bool r) s') E s := by
    simp only [callSpecialIfBound?, bindSpecialIfBound?]
    refine wpAny_holding (wpAny_bind (wpAny_bind (wpAny_bind (I.type.here ((PySem.W.looks_findIn X hne).here ?_)))))
    refine wpAny_bind (wpAny_askSetting (wpAny_ite ?_))
    have fin : wpAny (model prog w) A (call (.builtin "object.__ne__") ([.ref x] ++ [b]) >>= fun v => pure (some v)) (fun o s' => ∃ r : Bool, o = some (.bool r) ∧ Q (.bool r) s') E s :=
      wpAny_bind (wpAny_mono callne (fun v s' z => by
        obtain ⟨r, rfl, q⟩ := z
        exact wpAny_pure ⟨r, rfl, q⟩) fun _ _ e => e)
    split
    · exact wpAny_bind (wpAny_of_eq (F.cmp_object.ne.bind _) (wpAny_pure (by exact fin)))
    · exact wpAny_tryCatch (wpAny_bind (wpAny_of_eq (F.cmp_object.ne.bind _) (wpAny_pure (by exact fin))))
  have one : wpAny (model prog w) A (tryCompare (.ref x) (cmpInfo .NotEq).2.1 b) (fun r s' => ∃ v, r = some v ∧ Q v s') E s := by
    unfold tryCompare
    refine wpAny_bind (wpAny_mono bound (fun o s' z => ?_) fun _ _ e => e)
    obtain ⟨r, rfl, q⟩ := z
    exact wpAny_pure ⟨.bool r, rfl, q⟩
  unfold richCompare
  simp only [oneThing_ref]
  refine wpAny_holding (wpAny_bind (wpAny_cRoomFor (by omega) ?_))
  refine wpAny_bind (I.type.here (wpAny_bind (hb.here ?_)))
  split
  · rename_i q
    have e : PySem.W.subIn K tb (.ref C) = some false := by
      rcases Bool.or_eq_true_iff.mp hn with e | e
      · rw [beq_iff_eq.mp e] at q
        simp at q
      · exact beq_iff_eq.mp e
    refine wpAny_bind ((PySem.W.looks_subIn X e).here ?_)
    simp only [Bool.false_eq_true, if_false]
    refine wpAny_bind (wpAny_mono one (fun r s' z => ?_) fun _ _ e => e)
    obtain ⟨v, rfl, hq⟩ := z
    exact wpAny_pure hq
  · refine wpAny_bind (wpAny_pure ?_)
    simp only [Bool.false_eq_true, if_false]
    refine wpAny_bind (wpAny_mono one (fun r s' z => ?_) fun _ _ e => e)
    obtain ⟨v, rfl, hq⟩ := z
    exact wpAny_pure hq
end
end OE

namespace OE
open PySem PySem.Spec PyProof.Rows L2 Evl
section
variable {X : Cx} {k : Nat} {f C : Addr} {fd : FuncData} {ps : List Str} {sp : Sp}
/-- what is asked of the class for == and != -/
structure Own (K : PySem.W.Frag) (C f : Addr) : Prop where
  eq : PySem.W.findIn K (.ref C) "__eq__" = some (some (.ref f))
  fn : PySem.W.isFn K (.ref f) = true
  ne : PySem.W.findIn K (.ref C) "__ne__" = some (some (.builtin "object.__ne__"))
  mo : PySem.W.mroIn K C (.type "object") = some true
/-- the other one: of the same class, or a tuple -/
def Oth (C : Addr) (H : Hp) (b : Addr) : Prop := (∃ dy gs, H b = some (.ins C dy gs)) ∨ ∃ ys, H b = some (.tup ys)
theorem looks {pins : List (Addr × Obj)} {s : Shared} {σ : L2.St} {H : Hp} {b : Addr} (I : Inv X pins σ H s) (h : Oth C H b) : ∃ tb, PySem.W.Looks (model X.prog X.w) s.heap (typeOf (.ref b)) tb ∧ PySem.W.notFirst X.K C tb = true := by
  rcases h with ⟨dy, gs, hb⟩ | ⟨ys, hb⟩
  · obtain ⟨m, J, _⟩ := ins_get I.hok hb
    obtain ⟨od, J, _⟩ := J.look
    exact ⟨_, J.type, by simp [PySem.W.notFirst]⟩
  · obtain ⟨its, _, ⟨o, ho, hc, _⟩, _⟩ := I.tuple (st_of hb)
    refine ⟨.type "tuple", hc ▸ (PySem.W.Looks.ld ho).andThen .now, ?_⟩
    unfold PySem.W.notFirst
    rw [sub_tup]
    simp
theorem run_own {pins : List (Addr × Obj)} {s : Shared} {σ : L2.St} {H : Hp} {A : Around} {a b : Addr} {R : Bool → Hp → Prop} (F : FnOk X.prog X.w X.K X.mg X.base CX0 k f fd ps sp) (hb : Binds X.K fd ps []) (hr : Room k A) (hfr : A.frames = X.A.frames) (I : Inv X pins σ H s)
    (h : sp [.ref a, .ref b] H (fun v H' => ∃ r, v = .bl r ∧ R r H') E0) :
    wpAny (model X.prog X.w) A (call (.ref f) [.ref a, .ref b]) (fun u s' => ∃ r H', u = .bool r ∧ Inv X pins σ H' s' ∧ R r H') X.xe s := by
  have e0 : Env0 X.prog X.w X.K X.mg X.base A X.stack s H := by
    have e := I.env0
    exact ⟨by rw [hfr]; exact e.frames, e.mod, e.bs, e.bsz, e.funs, e.frf, e.hok, e.bare⟩
  have hl := F.len _ _ _ _ h
  have r2 : Vals [V.ref a, V.ref b] [Value.ref a, Value.ref b] := .cons rfl (.cons rfl .nil)
  refine wpAny_call (codeAny_mono (F.run A X.stack s H ⟨[.ref a, .ref b], []⟩ [.ref a, .ref b] [.ref a, .ref b] _ E0 hr e0 (by
    have := hb s [.ref a, .ref b] I.kIn (by simpa using hl)
    simpa using this) r2 h) fun r s' hq => ?_)
  cases r with
  | error e => exact pass0 pins σ H s e s' I hq
  | ok fl =>
    cases fl with
    | ret w =>
      obtain ⟨z, H', I', rz, y, ez, q⟩ := I.after hq
      subst ez
      cases rz
      exact ⟨y, H', rfl, I', q⟩
    | next => exact False.elim hq
    | brk => exact False.elim hq
    | cont => exact False.elim hq
/-- o == p, o of the own class -/
def rOwn (C : Addr) (sp : Sp) (g : Bool → Bool) : R2 := fun x y H Q => ∃ a b dx fs, x = .ref a ∧ y = .ref b ∧ H a = some (.ins C dx fs) ∧ Oth C H b ∧ sp [.ref a, .ref b] H (fun v H' => ∃ r, v = .bl r ∧ Q (.bl (g r)) H') E0
theorem op_own (O : Own X.K C f) (F : FnOk X.prog X.w X.K X.mg X.base CX0 k f fd ps sp) (hb : Binds X.K fd ps []) (hr : Room k X.A) : OpR X (compareOp .Eq) (rOwn C sp id) := by
  intro pins s σ H x y v u Q I rx ry h
  obtain ⟨a, b, dx, fs, rfl, rfl, ha, ho, q⟩ := h
  cases rx
  cases ry
  obtain ⟨m1, J, _⟩ := ins_get I.hok ha
  obtain ⟨od, J, _⟩ := J.look
  obtain ⟨tb, hl, hn⟩ := looks I ho
  obtain ⟨m, hF⟩ := I.fr
  show wpAny (model X.prog X.w) X.A (richCompare .Eq (.ref a) (.ref b)) (EP X pins σ Q) X.xe s
  refine PySem.W.cmp_K (op := .Eq) hr.units0 hF I.ok.mod.kin J hl hn O.eq O.fn (wpAny_mono (run_own F hb hr rfl I q) (fun v s' z => ?_) fun _ _ e => e)
  obtain ⟨r, H', rfl, I', q'⟩ := z
  exact ⟨.bl r, H', I', rfl, q'⟩
/-- o != p -/
theorem op_ownN (O : Own X.K C f) (F : FnOk X.prog X.w X.K X.mg X.base CX0 k f fd ps sp) (hb : Binds X.K fd ps []) (hr : Room (k + 1) X.A) : OpR X (compareOp .NotEq) (rOwn C sp not) := by
  intro pins s σ H x y v u Q I rx ry h
  obtain ⟨a, b, dx, fs, rfl, rfl, ha, ho, q⟩ := h
  cases rx
  cases ry
  obtain ⟨m1, J, _⟩ := ins_get I.hok ha
  obtain ⟨od, J, _⟩ := J.look
  obtain ⟨tb, hl, hn⟩ := looks I ho
  obtain ⟨m, hF⟩ := I.fr
  show wpAny (model X.prog X.w) X.A (richCompare .NotEq (.ref a) (.ref b)) (EP X pins σ Q) X.xe s
  refine ne_K hr.in1.units0 hF I.ok.mod.kin J hl hn O.mo O.ne O.eq O.fn (wpAny_mono (run_own F hb hr.in1 rfl I q) (fun v s' z => ?_) fun _ _ e => e)
  obtain ⟨r, H', rfl, I', q'⟩ := z
  exact ⟨r, rfl, .bl (!r), H', I', rfl, q'⟩
end
end OE

namespace Law
open PySem PySem.Spec PyProof.Rows L2 Evl TR
/-! ### a tree written -/
def spTxt (d : Nat) : Sp := fun vs H Q _ => ∃ (t : Tr) (v : V) (L : List Nat) (w n : Nat), vs = [.str (tx L), v] ∧ TR.TA true H v t ∧ t.ok L.length w n ∧ TT.small t ∧ L.length ≤ 4 ∧ t.depth ≤ d ∧ t.size ≤ 2000 ∧ ∀ H', Ex H H' → Q (.str (tx (TT.txt L t))) H'
theorem lit_go : (Str.ofString "go ").length = 3 := by decide +kernel
theorem lit_tell : (Str.ofString "tell ").length = 5 := by decide +kernel
theorem lit_read : (Str.ofString "read ").length = 5 := by decide +kernel
theorem lit_sp : (Str.ofString " ").length = 1 := by decide +kernel
theorem lit_br : (Str.ofString " [").length = 2 := by decide +kernel
theorem lit_rb : (Str.ofString "]").length = 1 := by decide +kernel
theorem lit_co : (Str.ofString ": ").length = 2 := by decide +kernel
theorem emp_len : Str.empty.length = 0 := rfl
section
variable {P : Program} {w : World} {K : PySem.W.Frag} {mg : Str → Option Value} {base : Heap}
theorem ok_txt {f : Addr} {fd : FuncData} (F : Fun K "tree_text" "tree_text" s_tree_text f fd) (T : Tx mg) (g : mg "tree_text" = some (.ref f)) (b : Binds K fd ["letters", "tree"] []) : ∀ d : Nat, FnOk P w K mg base CX0 (d + 1) f fd ["letters", "tree"] (spTxt d)
  | 0 => by
    refine F.ok sc_tree_text (fun vs H Q E h => ?_) (fun cdv A outer s H vs Q E hr h => ?_)
    · obtain ⟨t, v, L, wd, n, rfl, _⟩ := h
      rfl
    · obtain ⟨t, v, L, wd, n, rfl, hT, hok, hsm, hL, hd, hsz, q⟩ := h
      exfalso
      cases t
      · exact absurd hd (by show ¬ (1 ≤ 0); omega)
      · exact absurd hd (by show ¬ (_ + 1 ≤ 0); omega)
      · exact absurd hd (by show ¬ (_ + 1 ≤ 0); omega)
  | d + 1 => by
    have c_tree_text : Kn P w K mg base "tree_text" ["letters", "tree"] (d + 1) (spTxt d) := ⟨f, fd, ok_txt F T g b d, g, F.kp, b⟩
    refine F.ok sc_tree_text (fun vs H Q E h => ?_) (fun cdv A outer s H vs Q E hr h => ?_)
    · obtain ⟨t, v, L, wd, n, rfl, _⟩ := h
      rfl
    · obtain ⟨t, v, L, wd, n, rfl, hT, hok, hsm, hL, hd, hsz, q⟩ := h
      have hlen := TT.txt_len L hsm
      refine ⟨_, (pss_cons (ps_asg (pv 1) (TR.pg_seq (by rfl) (pgs_cons (pg_name (i := 2) sc_tree_text.nd rfl (Or.inl rfl)) (pgs_cons (pg_name (i := 3) sc_tree_text.nd rfl (Or.inl rfl)) (pgs_cons (pg_name (i := 4) sc_tree_text.nd rfl (Or.inl rfl)) pgs_nil)))))
      (pss_cons (ps_if (pt_cmpR op_eq (pv 2) pe_str (nomark _)) (pss_one (ps_ret (pe_joined (PJ.cons pe_str (PJ.cons (pe_fmt (pv 3)) (PJ.cons pe_str (PJ.cons (pe_fmt (pv 4)) PJ.nil))))))) pss_nil)
      (pss_cons (ps_if (pt_cmpR op_eq (pv 2) pe_str (nomark _)) (pss_one (ps_ret (pe_joined (PJ.cons pe_str (PJ.cons (pe_fmt (pv 3)) (PJ.cons pe_str (PJ.cons (pe_fmt (pe_call c_tree_text.ok (hr.mono (by omega)) (by rfl) c_tree_text.g c_tree_text.kp c_tree_text.b .nil pass0 (pa_cons (pv 0) (pa_cons (pv 4) pa_nil)))) PJ.nil))))))) pss_nil)
      (pss_cons (ps_setLc (i := 5) (own := [("letter", 6), ("inner", 7)]) (g := gTup K 2 (gCons (gName 6) (gCons (gName 7) gNil))) (tt := tYes) rfl sc_tree_text.nd rfl rfl (sw_true rfl rfl rfl (by decide +kernel)) (ZT.pi_zipX (by rfl) T.zip (pa_cons (pv 0) (pa_cons (pv 4) pa_nil))) (blkOk_by (N := N_tree_text) (sc := defScope s_tree_text) (by decide +kernel)) (fun _ _ _ _ _ => (pg_tup (by rfl) (pgs_cons (pg_name (i := 6) sc_tree_text.nd rfl (Or.inl rfl)) (pgs_cons (pg_name (i := 7) sc_tree_text.nd rfl (Or.inl rfl)) pgs_nil)))) (fun _ _ _ _ _ => pts_nil) (fun _ _ _ _ _ => (pe_joined (PJ.cons (pe_fmt (pv 6)) (PJ.cons pe_str (PJ.cons (pe_fmt (pe_call c_tree_text.ok (hr.mono (by omega)) (by rfl) c_tree_text.g c_tree_text.kp c_tree_text.b .nil pass0 (pa_cons (pv 0) (pa_cons (pv 7) pa_nil)))) PJ.nil))))))
      (pss_cons (ps_set (i := 8) sc_tree_text.nd rfl (Or.inl rfl) (pe_join pe_str (pv 5)))
      (pss_one (ps_ret (pe_joined (PJ.cons pe_str (PJ.cons (pe_fmt (pv 3)) (PJ.cons pe_str (PJ.cons (pe_fmt (pv 8)) (PJ.cons pe_str PJ.nil))))))))))))), ?_⟩
      cases hT with
      | @go a s' q' h =>
        have l1 := TT.numS_len hsm.1
        have l2 := TT.numS_len hsm.2
        refine ⟨_, rfl, gSeq_of h rfl ⟨_, _, rfl, _, _, rfl, _, _, rfl, rfl, ?_⟩⟩
        refine ⟨_, rfl, rfl, _, rfl, iteD rfl ?_⟩
        refine ⟨_, rfl, by refine sz_of ?_; simp only [TT.app_len, lit_go, lit_tell, lit_read, lit_sp, lit_br, lit_rb, lit_co, emp_len]; omega, _, rfl, .inr ⟨_, rfl, TT.num_log hsm.1, _, rfl, by refine sz_of ?_; simp only [TT.app_len, lit_go, lit_tell, lit_read, lit_sp, lit_br, lit_rb, lit_co, emp_len]; omega, _, rfl, by refine sz_of ?_; simp only [TT.app_len, lit_go, lit_tell, lit_read, lit_sp, lit_br, lit_rb, lit_co, emp_len]; omega, _, rfl, .inr ⟨_, rfl, TT.num_log hsm.2, _, rfl, by refine sz_of ?_; simp only [TT.app_len, lit_go, lit_tell, lit_read, lit_sp, lit_br, lit_rb, lit_co, emp_len]; omega, ?_⟩⟩⟩
        have q2 := q H (Ex.refl _)
        rw [show tx (TT.txt L (.go s' q')) = _ from (TT.go_out L s' q').symm] at q2
        exact q2
      | @tell a n' v' t' h r0 =>
        have hd' : t'.depth ≤ d := by
          have : t'.depth + 1 ≤ d + 1 := hd
          omega
        have hs' : t'.size ≤ 1999 := by
          have : t'.size + 1 ≤ 2000 := hsz
          omega
        have l1 := TT.numS_len hsm.1
        have l2 := TT.txt_len L hsm.2
        refine ⟨_, rfl, gSeq_of h rfl ⟨_, _, rfl, _, _, rfl, _, _, rfl, rfl, ?_⟩⟩
        refine ⟨_, rfl, rfl, _, rfl, iteDn tell_ne_go ?_⟩
        refine ⟨_, rfl, rfl, _, rfl, iteD rfl ?_⟩
        refine ⟨_, rfl, by refine sz_of ?_; simp only [TT.app_len, lit_go, lit_tell, lit_read, lit_sp, lit_br, lit_rb, lit_co, emp_len]; omega, _, rfl, .inr ⟨_, rfl, TT.num_log hsm.1, _, rfl, by refine sz_of ?_; simp only [TT.app_len, lit_go, lit_tell, lit_read, lit_sp, lit_br, lit_rb, lit_co, emp_len]; omega, _, rfl, by refine sz_of ?_; simp only [TT.app_len, lit_go, lit_tell, lit_read, lit_sp, lit_br, lit_rb, lit_co, emp_len]; omega, _, rfl, _, rfl, t', v', L, wd, n, rfl, r0, hok.2, hsm.2, hL, hd', by omega, fun H1 e1 => ?_⟩⟩
        have l3 : (tx (TT.txt L t')).length ≤ 80000 := by
          rw [tx_len]
          omega
        refine .inl ⟨_, rfl, sz_of (by omega), _, rfl, by refine sz_of ?_; simp only [TT.app_len, lit_go, lit_tell, lit_read, lit_sp, lit_br, lit_rb, lit_co, emp_len]; omega, ?_⟩
        have q2 := q H1 e1
        rw [show tx (TT.txt L (.tell n' t')) = _ from (TT.tell_out L n' t').symm] at q2
        exact q2
      | @read a b' p' us ts h hb r0 =>
        have hd' : ts.depth ≤ d := by
          have : ts.depth + 1 ≤ d + 1 := hd
          omega
        have hs' : ts.size ≤ 1999 := by
          have : ts.size + 1 ≤ 2000 := hsz
          omega
        have KK := r0.kids
        have lks := KK.len
        have l1 := TT.numS_len hsm.1
        have l2 := TT.txts_len L L hsm.2
        have lcount := TT.txts_count (L := L) (l := L) hok.2.1
        refine ⟨_, rfl, gSeq_of h rfl ⟨_, _, rfl, _, _, rfl, _, _, rfl, rfl, ?_⟩⟩
        refine ⟨_, rfl, rfl, _, rfl, iteDn read_ne_go ?_⟩
        refine ⟨_, rfl, rfl, _, rfl, iteDn read_ne_tell ?_⟩
        refine ⟨_, rfl, _, rfl, _, _, _, rfl, st_of hb, fun D hD => ?_⟩
        refine ZT.lc_zipX (g := gTup K 2 (gCons (gName 6) (gCons (gName 7) gNil))) (tt := tYes) (te := fun σ H Q => tJs [tFmt (tVar 6), tC (V.str (Str.ofString ": ")), tFmt (tCall (spTxt d) [] E0 (tCons (tVar 0) (tCons (tVar 7) tNil)))] Str.empty σ H fun out H1 => Q (V.str out) H1) (vs := [6, 7]) (x := tx L) (b := b') (ys := us) (by rw [tx_size, lks, hok.2.1]) (fun i H' => Ex H H' ∧ H' D = some (.lst (((((TT.txts L L ts).take i).map TT.S).map V.str)))) ⟨Ex.new hD, upd_same⟩ (fun i H' p => p.1 _ _ hb) (fun i c y T' H' hc hy p hT => ?_) (fun H' p => ?_)
        · obtain ⟨e6, hz⟩ := p
          have e7 := e6.trans (Ex.new (o := .tup [.str ⟨#[c]⟩, y]) hT)
          obtain ⟨kt, hkt, hka⟩ := KK.get hy
          have mem := List.mem_of_getElem? hkt
          have dk := Trs.depth_mem kt mem
          have sk : kt.size ≤ ts.size := by
            have h1 := size_mem mem
            rw [Trs.total] at h1
            exact h1
          have l4 := TT.txt_len L (TT.smalls_mem hsm.2 kt mem)
          have hg := TT.txts_get (L := L) (tx_at hc) hkt
          refine ⟨T', _, rfl, st_of upd_same, rfl, _, _, rfl, _, _, rfl, rfl, rfl, ?_⟩
          refine ⟨_, rfl, .inl ⟨_, rfl, by show 1 ≤ sizeLine; decide, _, rfl, ?_⟩⟩
          refine ⟨by show 1 ≤ sizeLine; decide, _, rfl, by show 3 ≤ sizeLine; decide, _, rfl, _, rfl, kt, y, L, wd, n, rfl, hka.ex e7, Trs.ok_mem hok.2.2 kt mem, TT.smalls_mem hsm.2 kt mem, hL, by omega, by omega, fun H8 e8 => ?_⟩
          have l5 : (tx (TT.txt L kt)).length ≤ 80000 := by
            rw [tx_len]
            omega
          refine .inl ⟨_, rfl, sz_of (by omega), _, rfl, ?_, ?_⟩
          · refine sz_of ?_
            rw [TT.app_len, TT.app_len, TT.app_len, lit_co, emp_len, show (⟨#[c]⟩ : Str).length = 1 from rfl]
            omega
          refine ⟨_, e8 _ _ ((Ex.new (o := .tup [.str ⟨#[c]⟩, y]) hT) _ _ hz), ?_, (e7.trans e8).mut hD, ?_⟩
          · rw [List.length_map, List.length_map, List.length_take]
            exact sz_lt (by omega)
          · rw [upd_same, take_next' hg, List.map_append, List.map_append]
            exact congrArg (fun z => some (HO.lst (_ ++ [V.str z]))) (TT.part_out c (TT.txt L kt))
        · obtain ⟨e6, hz⟩ := p
          rw [show us.length = (TT.txts L L ts).length by rw [lks, hok.2.1, lcount], List.take_length] at hz
          have l6 := TT.sum_len (TT.txts L L ts)
          have l7 := TT.join_len (TT.txts L L ts)
          have l8 : (TT.S (TL.joinL [44, 32] (TT.txts L L ts))).length ≤ 79960 := by
            rw [TT.S_len]
            omega
          refine ⟨⟨_, rfl⟩, _, rfl, _, D, (TT.txts L L ts).map TT.S, rfl, rfl, .inl (sq_of hz), ?_, ?_⟩
          · rw [show (Str.ofString ", ").length = 2 by decide +kernel, l6]
            omega
          rw [TT.join_S]
          refine ⟨_, rfl, by refine sz_of ?_; simp only [TT.app_len, lit_go, lit_tell, lit_read, lit_sp, lit_br, lit_rb, lit_co, emp_len]; omega, _, rfl, .inr ⟨_, rfl, TT.num_log hsm.1, _, rfl, by refine sz_of ?_; simp only [TT.app_len, lit_go, lit_tell, lit_read, lit_sp, lit_br, lit_rb, lit_co, emp_len]; omega, _, rfl, by refine sz_of ?_; simp only [TT.app_len, lit_go, lit_tell, lit_read, lit_sp, lit_br, lit_rb, lit_co, emp_len]; omega, _, rfl, .inl ⟨_, rfl, sz_of (by omega), _, rfl, by refine sz_of ?_; simp only [TT.app_len, lit_go, lit_tell, lit_read, lit_sp, lit_br, lit_rb, lit_co, emp_len]; omega, _, rfl, by refine sz_of ?_; simp only [TT.app_len, lit_go, lit_tell, lit_read, lit_sp, lit_br, lit_rb, lit_co, emp_len]; omega, ?_⟩⟩⟩
          have q2 := q H' e6
          rw [show tx (TT.txt L (.read p' ts)) = _ from (TT.read_out L p' ts).symm] at q2
          exact q2
end
end Law

namespace Law
open PySem PySem.Spec PyProof.Rows L2 Evl TR
/-! ### the law's own text of a tree -/
def spLine (d : Nat) : Sp := fun vs H Q _ => ∃ (t : Tr) (v : V) (L : List Nat) (w n : Nat), vs = [v, .str (tx L)] ∧ TR.TA true H v t ∧ t.ok L.length w n ∧ TT.small t ∧ L.length ≤ 4 ∧ t.depth ≤ d ∧ t.size ≤ 2000 ∧ ∀ H', Ex H H' → Q (.str (tx (TT.txt L t))) H'
theorem out_emp {a b c d e : Str} (h : Str.empty ++ a ++ b ++ c ++ d = e) : a ++ b ++ c ++ d = e := by
  rw [TT.emp_l] at h
  exact h
section
variable {P : Program} {w : World} {K : PySem.W.Frag} {mg : Str → Option Value} {base : Heap}
theorem ok_lline {f : Addr} {fd : FuncData} (F : Fun K "_law_line" "_law_line" s_lline f fd) (T : Tx mg) (g : mg "_law_line" = some (.ref f)) (b : Binds K fd ["_law_tree_here", "_law_letters_here"] []) : ∀ d : Nat, FnOk P w K mg base CX0 (d + 1) f fd ["_law_tree_here", "_law_letters_here"] (spLine d)
  | 0 => by
    refine F.ok sc_lline (fun vs H Q E h => ?_) (fun cdv A outer s H vs Q E hr h => ?_)
    · obtain ⟨t, v, L, wd, n, rfl, _⟩ := h
      rfl
    · obtain ⟨t, v, L, wd, n, rfl, hT, hok, hsm, hL, hd, hsz, q⟩ := h
      exfalso
      cases t
      · exact absurd hd (by show ¬ (1 ≤ 0); omega)
      · exact absurd hd (by show ¬ (_ + 1 ≤ 0); omega)
      · exact absurd hd (by show ¬ (_ + 1 ≤ 0); omega)
  | d + 1 => by
    have c_lline : Kn P w K mg base "_law_line" ["_law_tree_here", "_law_letters_here"] (d + 1) (spLine d) := ⟨f, fd, ok_lline F T g b d, g, F.kp, b⟩
    refine F.ok sc_lline (fun vs H Q E h => ?_) (fun cdv A outer s H vs Q E hr h => ?_)
    · obtain ⟨t, v, L, wd, n, rfl, _⟩ := h
      rfl
    · obtain ⟨t, v, L, wd, n, rfl, hT, hok, hsm, hL, hd, hsz, q⟩ := h
      have hlen := TT.txt_len L hsm
      refine ⟨_, (pss_cons (ps_if (pt_cmpR op_eq (pe_ix ix_seq (pv 0) pe_int (fun _ _ => rfl)) pe_str (nomark _)) (pss_one (ps_ret (pe_op op_add_str (pe_op op_add_str (pe_op op_add_str pe_str (pe_callTy call_str_int (by rfl) T.str PyProof.Rows.boot_str (pa_cons (pe_ix ix_seq (pv 0) pe_int (fun _ _ => rfl)) pa_nil))) pe_str) (pe_callTy call_str_int (by rfl) T.str PyProof.Rows.boot_str (pa_cons (pe_ix ix_seq (pv 0) pe_int (fun _ _ => rfl)) pa_nil))))) pss_nil)
      (pss_cons (ps_if (pt_cmpR op_eq (pe_ix ix_seq (pv 0) pe_int (fun _ _ => rfl)) pe_str (nomark _)) (pss_one (ps_ret (pe_op op_add_str (pe_op op_add_str (pe_op op_add_str pe_str (pe_callTy call_str_int (by rfl) T.str PyProof.Rows.boot_str (pa_cons (pe_ix ix_seq (pv 0) pe_int (fun _ _ => rfl)) pa_nil))) pe_str) (pe_call c_lline.ok (hr.mono (by omega)) (by rfl) c_lline.g c_lline.kp c_lline.b .nil pass0 (pa_cons (pe_ix ix_seq (pv 0) pe_int (fun _ _ => rfl)) (pa_cons (pv 1) pa_nil)))))) pss_nil)
      (pss_cons (ps_setLc (i := 2) (own := [("_law_k", 3)]) (g := gName 3) (tt := tYes) rfl sc_lline.nd rfl rfl (sw_true rfl rfl rfl (by decide +kernel)) (pi_range1 (by rfl) T.range (pa_cons (pe_callB call_len_str (by rfl) T.len PySem.boot_len (pa_cons (pv 1) pa_nil)) pa_nil)) (blkOk_by (N := N_lline) (sc := defScope s_lline) (by decide +kernel)) (fun _ _ _ _ _ => (pg_name (i := 3) sc_lline.nd rfl (Or.inl rfl))) (fun _ _ _ _ _ => pts_nil) (fun _ _ _ _ _ => (pe_op op_add_str (pe_op op_add_str (pe_ix ix_str (pv 1) (pv 3) (fun _ _ => rfl)) pe_str) (pe_call c_lline.ok (hr.mono (by omega)) (by rfl) c_lline.g c_lline.kp c_lline.b .nil pass0 (pa_cons (pe_ix (show IxR _ (rIx K) from ix_seq) (pe_ix (show IxR _ (rIx K) from ix_seq) (pv 0) pe_int (fun _ _ => rfl)) (pv 3) (fun _ _ => rfl)) (pa_cons (pv 1) pa_nil))))))
      (pss_one (ps_ret (pe_op op_add_str (pe_op op_add_str (pe_op op_add_str (pe_op op_add_str pe_str (pe_callTy call_str_int (by rfl) T.str PyProof.Rows.boot_str (pa_cons (pe_ix ix_seq (pv 0) pe_int (fun _ _ => rfl)) pa_nil))) pe_str) (pe_join pe_str (pv 2))) pe_str)))))), ?_⟩
      cases hT with
      | @go a s' q' h =>
        have l1 := TT.numS_len hsm.1
        have l2 := TT.numS_len hsm.2
        refine ⟨_, rfl, ix_at (i := 0) h rfl ⟨rfl, _, rfl, iteD rfl ?_⟩⟩
        refine ⟨_, rfl, ix_at (i := 1) h rfl ⟨_, rfl, TT.num_log hsm.1, _, _, rfl, rfl, by refine sz_of ?_; simp only [TT.app_len, lit_go, lit_tell, lit_read, lit_sp, lit_br, lit_rb, lit_co, emp_len]; omega, _, _, rfl, rfl, by refine sz_of ?_; simp only [TT.app_len, lit_go, lit_tell, lit_read, lit_sp, lit_br, lit_rb, lit_co, emp_len]; omega, _, rfl, ix_at (i := 2) h rfl ⟨_, rfl, TT.num_log hsm.2, _, _, rfl, rfl, by refine sz_of ?_; simp only [TT.app_len, lit_go, lit_tell, lit_read, lit_sp, lit_br, lit_rb, lit_co, emp_len]; omega, ?_⟩⟩⟩
        have q2 := q H (Ex.refl _)
        rw [show tx (TT.txt L (.go s' q')) = _ from (out_emp (TT.go_out L s' q')).symm] at q2
        exact q2
      | @tell a n' v' t' h r0 =>
        have hd' : t'.depth ≤ d := by
          have : t'.depth + 1 ≤ d + 1 := hd
          omega
        have hs' : t'.size ≤ 1999 := by
          have : t'.size + 1 ≤ 2000 := hsz
          omega
        have l1 := TT.numS_len hsm.1
        have l2 := TT.txt_len L hsm.2
        refine ⟨_, rfl, ix_at (i := 0) h rfl ⟨rfl, _, rfl, iteDn tell_ne_go ?_⟩⟩
        refine ⟨_, rfl, ix_at (i := 0) h rfl ⟨rfl, _, rfl, iteD rfl ?_⟩⟩
        refine ⟨_, rfl, ix_at (i := 1) h rfl ⟨_, rfl, TT.num_log hsm.1, _, _, rfl, rfl, by refine sz_of ?_; simp only [TT.app_len, lit_go, lit_tell, lit_read, lit_sp, lit_br, lit_rb, lit_co, emp_len]; omega, _, _, rfl, rfl, by refine sz_of ?_; simp only [TT.app_len, lit_go, lit_tell, lit_read, lit_sp, lit_br, lit_rb, lit_co, emp_len]; omega, _, rfl, ix_at (i := 2) h rfl ⟨_, rfl, t', v', L, wd, n, rfl, r0, hok.2, hsm.2, hL, hd', by omega, fun H1 e1 => ?_⟩⟩⟩
        have l3 : (tx (TT.txt L t')).length ≤ 80000 := by
          rw [tx_len]
          omega
        refine ⟨_, _, rfl, rfl, by refine sz_of ?_; simp only [TT.app_len, lit_go, lit_tell, lit_read, lit_sp, lit_br, lit_rb, lit_co, emp_len]; omega, ?_⟩
        have q2 := q H1 e1
        rw [show tx (TT.txt L (.tell n' t')) = _ from (out_emp (TT.tell_out L n' t')).symm] at q2
        exact q2
      | @read a b' p' us ts h hb r0 =>
        have hd' : ts.depth ≤ d := by
          have : ts.depth + 1 ≤ d + 1 := hd
          omega
        have hs' : ts.size ≤ 1999 := by
          have : ts.size + 1 ≤ 2000 := hsz
          omega
        have KK := r0.kids
        have lks := KK.len
        have l1 := TT.numS_len hsm.1
        have l2 := TT.txts_len L L hsm.2
        have lcount := TT.txts_count (L := L) (l := L) hok.2.1
        refine ⟨_, rfl, ix_at (i := 0) h rfl ⟨rfl, _, rfl, iteDn read_ne_go ?_⟩⟩
        refine ⟨_, rfl, ix_at (i := 0) h rfl ⟨rfl, _, rfl, iteDn read_ne_tell ?_⟩⟩
        refine ⟨_, rfl, _, rfl, tx_le (by omega), _, rfl, by rw [tx_len]; omega, by rw [tx_len]; omega, fun D hD => ?_⟩
        refine lc_range (lo := 0) (g := gName 3) (tt := tYes) (vs := [3]) (fun i H' => Ex H H' ∧ H' D = some (.lst (((((TT.txts L L ts).take i).map TT.S).map V.str)))) ⟨Ex.new hD, upd_same⟩ (fun i H' hi p => ?_) (fun H' p => ?_)
        · obtain ⟨e6, hz⟩ := p
          have hiL : i < L.length := by
            have h1 : ((tx L).length : Int).toNat = L.length := by rw [tx_len]; omega
            have h2 : i < (((tx L).length : Nat) : Int).toNat := by simpa using hi
            omega
          obtain ⟨c, hc⟩ : ∃ c, L[i]? = some c := ⟨_, List.getElem?_eq_getElem hiL⟩
          obtain ⟨y, hy⟩ : ∃ y, us[i]? = some y := ⟨_, List.getElem?_eq_getElem (by rw [lks, hok.2.1]; exact hiL)⟩
          obtain ⟨kt, hkt, hka⟩ := KK.get hy
          have mem := List.mem_of_getElem? hkt
          have dk := Trs.depth_mem kt mem
          have sk : kt.size ≤ ts.size := by
            have h1 := size_mem mem
            rw [Trs.total] at h1
            exact h1
          have l4 := TT.txt_len L (TT.smalls_mem hsm.2 kt mem)
          have hg := TT.txts_get (L := L) hc hkt
          refine ⟨rfl, _, rfl, _, rfl, _, _, c, rfl, rfl, sz_of (by rw [tx_len]; omega), by rw [Int.zero_add]; exact atI_nat hc, _, _, rfl, rfl, by show 3 ≤ sizeLine; decide, ?_⟩
          refine ⟨_, rfl, ix_at (i := 2) (e6 _ _ h) rfl ⟨_, rfl, ix_at (e6 _ _ hb) (by rw [Int.zero_add]; exact atI_nat hy) ⟨_, rfl, kt, y, L, wd, n, rfl, hka.ex e6, Trs.ok_mem hok.2.2 kt mem, TT.smalls_mem hsm.2 kt mem, hL, by omega, by omega, fun H8 e8 => ?_⟩⟩⟩
          have l5 : (tx (TT.txt L kt)).length ≤ 80000 := by
            rw [tx_len]
            omega
          refine ⟨_, _, rfl, rfl, ?_, ?_⟩
          · refine sz_of ?_
            rw [TT.app_len, lit_co, show (⟨#[c]⟩ : Str).length = 1 from rfl]
            omega
          refine ⟨_, e8 _ _ hz, ?_, (e6.trans e8).mut hD, ?_⟩
          · rw [List.length_map, List.length_map, List.length_take]
            exact sz_lt (by omega)
          · have po := TT.part_out c (TT.txt L kt)
            rw [TT.emp_l] at po
            rw [upd_same, take_next' hg, List.map_append, List.map_append]
            exact congrArg (fun z => some (HO.lst (_ ++ [V.str z]))) po
        · obtain ⟨e6, hz⟩ := p
          rw [List.take_of_length_le (by rw [lcount]; simp [tx_len])] at hz
          have l6 := TT.sum_len (TT.txts L L ts)
          have l7 := TT.join_len (TT.txts L L ts)
          have l8 : (TT.S (TL.joinL [44, 32] (TT.txts L L ts))).length ≤ 79960 := by
            rw [TT.S_len]
            omega
          refine ⟨_, rfl, ix_at (i := 1) (e6 _ _ h) rfl ⟨_, rfl, TT.num_log hsm.1, _, _, rfl, rfl, by refine sz_of ?_; simp only [TT.app_len, lit_go, lit_tell, lit_read, lit_sp, lit_br, lit_rb, lit_co, emp_len]; omega, _, _, rfl, rfl, by refine sz_of ?_; simp only [TT.app_len, lit_go, lit_tell, lit_read, lit_sp, lit_br, lit_rb, lit_co, emp_len]; omega, ⟨_, rfl⟩, _, rfl, _, D, (TT.txts L L ts).map TT.S, rfl, rfl, .inl (sq_of hz), ?_, ?_⟩⟩
          · rw [show (Str.ofString ", ").length = 2 by decide +kernel, l6]
            omega
          rw [TT.join_S]
          refine ⟨_, _, rfl, rfl, by refine sz_of ?_; simp only [TT.app_len, lit_go, lit_tell, lit_read, lit_sp, lit_br, lit_rb, lit_co, emp_len]; omega, _, _, rfl, rfl, by refine sz_of ?_; simp only [TT.app_len, lit_go, lit_tell, lit_read, lit_sp, lit_br, lit_rb, lit_co, emp_len]; omega, ?_⟩
          have q2 := q H' e6
          have ro := TT.read_out L p' ts
          rw [TT.emp_l] at ro
          rw [show tx (TT.txt L (.read p' ts)) = _ from ro.symm] at q2
          exact q2
end
end Law

namespace Law
open PySem PySem.Spec PyProof.Rows L2 Evl TR
theorem PenAt.keepE {p : PenI} {H0 H : Hp} {a : Addr} {n : Nat} {o : HO} (P : PenAt p H0 H n) (h : H a = some o) (hd : a ≠ p.d) : PenAt p (L2.upd H0 a o) H n ∧ Ex H0 (L2.upd H0 a o) := by
  refine ⟨P.keep h hd, fun b u e => ?_⟩
  by_cases q : b = a
  · subst q
    have e2 := P.1 _ _ e
    rw [h] at e2
    rw [upd_same, e2]
  · rw [upd_ne q]
    exact e
theorem tup_nd {p : PenI} {H0 H : Hp} {a : Addr} {n : Nat} {xs : List V} (P : PenAt p H0 H n) (h : H a = some (.tup xs)) : a ≠ p.d := by
  obtain ⟨kvs, h2⟩ := P.dict
  exact ne_of h h2 (by intro z; cases z)
theorem cutS_from (L : List Nat) : cutS (tx L) (some 1) none = tx (L.drop 1) := by
  refine TL.ext_tl ?_
  unfold cutS
  rw [HT.sIx_none, show (1 : Int) = ((1 : Nat) : Int) from rfl, HT.sIx_nat, tx_len]
  show (L.drop (min 1 L.length)).take (L.length - min 1 L.length) = L.drop 1
  by_cases h : 1 ≤ L.length
  · rw [Nat.min_eq_left h, List.take_of_length_le (by rw [List.length_drop]; omega)]
  · have : L = [] := List.eq_nil_of_length_eq_zero (by omega)
    subst this
    rfl
def gos (k : Nat) : List Tr := List.replicate k (.go 1 0)
theorem gos_ok {l w n : Nat} (hn : 1 ≤ n) (hw : 1 ≤ w) (k : Nat) : ∀ t ∈ gos k, t.ok l w n ∧ t.depth ≤ 1 ∧ t.size ≤ 1 := fun t ht => by
  rw [List.eq_of_mem_replicate ht]
  exact ⟨⟨by omega, by omega, by omega⟩, by show 1 ≤ 1; omega, by show 1 ≤ 1; omega⟩
theorem gos_succ (k : Nat) : gos (k + 1) = gos k ++ [.go 1 0] := by
  unfold gos
  rw [List.replicate_succ']
theorem gos_total (k : Nat) : TR.total (gos k) ≤ k := by
  have := TR.total_le (s := 1) (ts := gos k) fun t ht => by
    rw [List.eq_of_mem_replicate ht]
    show 1 ≤ 1
    omega
  rw [show (gos k).length = k from List.length_replicate] at this
  omega
def spDeep : Sp := fun vs H Q _ => ∃ (p : PenI) (H0 : Hp) (n : Nat) (L : List Nat) (w m : Nat), vs = [.ref p.d, .str (tx L), .int (w : Int), .int (m : Int)] ∧ PenAt p H0 H n ∧ n < 800000 ∧ 2 ≤ L.length ∧ L.length ≤ 4 ∧ 1 ≤ w ∧ w ≤ 8 ∧ 1 ≤ m ∧ m ≤ 64 ∧
  ∀ H1 H' v t, Ex H0 H1 → PenAt p H1 H' (n + 100) → TR.TA true H1 v t → t.ok L.length w m → t.depth ≤ 40 → t.size ≤ 200 → Q v H'
section
variable {P : Program} {w : World} {K : PySem.W.Frag} {mg : Str → Option Value} {base : Heap}
theorem ok_deep {f : Addr} {fd : FuncData} (F : Fun K "_law_deep_tree" "_law_deep_tree" s_ldeep_tree f fd) (T : Tx mg) (c_ldraw : Kn P w K mg base "_law_draw" ["_law_pen_here", "_law_many"] 1 spDraw) :
    FnOk P w K mg base CX0 2 f fd ["_law_pen_here", "_law_letters_here", "_law_width", "_law_states"] spDeep := by
  refine F.ok sc_ldeep_tree (fun vs H Q E h => ?_) (fun cdv A outer s H vs Q E hr h => ?_)
  · obtain ⟨p, H0, n, L, wd, m, rfl, _⟩ := h
    rfl
  · obtain ⟨p, H0, n, L, wd, m, rfl, P0, hn, l2, l4, w1, w8, m1, m64, q⟩ := h
    refine ⟨_, (pss_cons (ps_set (i := 4) sc_ldeep_tree.nd rfl (Or.inl rfl) (pe_tup (pa_cons pe_str (pa_cons (pe_op op_add (pv 2) pe_int) (pa_cons (pe_op op_sub (pv 3) pe_int) pa_nil)))))
      (pss_cons (ps_for PassesOwn.never rfl (pi_range1 (by rfl) T.range (pa_cons pe_int pa_nil)) (pg_name (i := 5) sc_ldeep_tree.nd rfl (Or.inl rfl)) (pss_one (ps_if (pt_cmpR op_gt (pe_call c_ldraw.ok (hr.mono (by decide)) (by rfl) c_ldraw.g c_ldraw.kp c_ldraw.b .nil pass0 (pa_cons (pv 0) (pa_cons pe_int pa_nil))) pe_int (nomark _)) (pss_one (ps_set (i := 4) sc_ldeep_tree.nd rfl (Or.inl rfl) (pe_tup (pa_cons pe_str (pa_cons (pe_call c_ldraw.ok (hr.mono (by decide)) (by rfl) c_ldraw.g c_ldraw.kp c_ldraw.b .nil pass0 (pa_cons (pv 0) (pa_cons pe_int pa_nil))) (pa_cons (pv 4) pa_nil)))))) (pss_one (ps_set (i := 4) sc_ldeep_tree.nd rfl (Or.inl rfl) (pe_tup (pa_cons pe_str (pa_cons (pv 2) (pa_cons (pe_op TR.op_catTA (pe_tup (pa_cons (pv 4) pa_nil)) (pe_callTy call_tuple_of (by rfl) T.tuple PyProof.Rows.boot_tuple (pa_cons (pe_lc (own := [("_law_letter", 6)]) (g := gName 6) (tt := tYes) rfl sc_ldeep_tree.nd (pi_str (pe_slice sl_str (pv 1) (po_some pe_int) po_none)) (blkOk_by (N := N_ldeep_tree) (sc := defScope s_ldeep_tree) (by decide +kernel)) (fun _ _ _ _ _ => (pg_name (i := 6) sc_ldeep_tree.nd rfl (Or.inl rfl))) (fun _ _ _ _ _ => pts_nil) (fun _ _ _ _ _ => (pe_tup (pa_cons pe_str (pa_cons pe_int (pa_cons pe_int pa_nil)))))) pa_nil))) pa_nil)))))))))
      (pss_one (ps_ret (pv 4))))), ?_⟩
    refine ⟨_, rfl, _, _, rfl, rfl, _, rfl, _, _, rfl, rfl, by show 3 ≤ sizeLine; decide, fun r0 hr0 => ?_⟩
    obtain ⟨P1, e1⟩ := P0.made (o := .tup [.str "go", .int ((wd : Int) + 1), .int ((m : Int) - 1)]) hr0
    have g0 : (L2.upd H0 r0 (.tup [.str "go", .int ((wd : Int) + 1), .int ((m : Int) - 1)])) r0 = some (.tup [.str "go", .int ((wd + 1 : Nat) : Int), .int ((m - 1 : Nat) : Int)]) := by
      rw [upd_same, show ((m : Int) - 1) = ((m - 1 : Nat) : Int) by omega]
      rfl
    refine ⟨_, rfl, by decide, by decide, for_range (lo := 0) (n := 39) (fun i σ H' => ∃ (v : V) (t : Tr) (Hb : Hp) (y5 y6 : Option V), σ = [some (.ref p.d), some (.str (tx L)), some (.int (wd : Int)), some (.int (m : Int)), some v, y5, y6] ∧ Ex H0 Hb ∧ PenAt p Hb H' (n + 2 * i) ∧ TR.TA true Hb v t ∧ t.ok L.length wd m ∧ t.depth ≤ i + 1 ∧ t.size ≤ 1 + 4 * i)
      ⟨_, .go (wd + 1) (m - 1), _, _, _, rfl, e1, P1.le (by omega), .go g0, ⟨by omega, by omega, by omega⟩, by show 1 ≤ 0 + 1; omega, by show 1 ≤ 1 + 4 * 0; omega⟩ (fun i σ H' hi hw => ?_) (fun σ H' hw => ?_)⟩
    · obtain ⟨v, t, Hb, y5, y6, rfl, eb, Pb, hT, hok, hdp, hsz⟩ := hw
      refine ⟨_, rfl, p, Hb, n + 2 * i, 3, rfl, Pb, by omega, by decide, by decide, fun H2 r P2 z0 z1 => ?_⟩
      refine ⟨_, _, rfl, rfl, _, rfl, ite2 (fun hb => ?_) (fun hb => ?_)⟩
      · refine ⟨_, rfl, p, Hb, n + 2 * i + 1, 3, rfl, P2, by omega, by decide, by decide, fun H3 r2 P3 s0 s1 => ⟨_, rfl, by show 3 ≤ sizeLine; decide, fun r3 hr3 => ?_⟩⟩
        obtain ⟨rn, rfl⟩ : ∃ rn : Nat, r2 = (rn : Int) := ⟨r2.toNat, (Int.toNat_of_nonneg s0).symm⟩
        obtain ⟨Pd, ed⟩ := P3.made (o := .tup [.str "tell", .int (rn : Int), v]) hr3
        exact ⟨_, .tell rn t, _, _, _, rfl, eb.trans ed, Pd.le (by omega), .tell upd_same (hT.ex ed), ⟨by omega, hok⟩, by show t.depth + 1 ≤ _; omega, by show t.size + 1 ≤ _; omega⟩
      · refine ⟨_, rfl, _, rfl, by show 1 ≤ sizeLine; decide, fun t1 ht1 => ?_⟩
        obtain ⟨P3, e3⟩ := P2.made (o := .tup [v]) ht1
        have g1 : (L2.upd Hb t1 (.tup [v])) t1 = some (.tup [v]) := upd_same
        generalize (L2.upd Hb t1 (.tup [v])) = B3 at P3 e3 g1
        generalize (L2.upd H2 t1 (.tup [v])) = H3 at P3 ⊢
        refine ⟨_, rfl, _, rfl, _, rfl, sz_of (by rw [tx_len]; omega), ?_⟩
        rw [cutS_from]
        refine ⟨_, rfl, fun D hD => ?_⟩
        have d1 := fresh_ne P3 hD
        have d2 := fresh_nc P3 hD
        have d0 := fresh0 P3 hD
        refine lc_str (x := tx (L.drop 1)) (g := gName 6) (tt := tYes) (vs := [6]) (fun j H4 => ∃ (B4 : Hp) (zs : List V), Ex B3 B4 ∧ PenAt p B4 H4 (n + 2 * i + 1) ∧ B4 D = some (.lst zs) ∧ Kids true B4 zs (gos j)) ⟨_, [], Ex.new d0, P3.both d1 d2, upd_same, .nil⟩ (fun j c H4 hj hw => ?_) (fun H4 hw => ?_)
        · obtain ⟨B4, zs, e4, P4, hz, Z⟩ := hw
          have hjl := (List.getElem?_eq_some_iff.mp (tx_at hj)).1
          rw [List.length_drop] at hjl
          have lz := Z.len
          rw [show (gos j).length = j from List.length_replicate] at lz
          refine ⟨rfl, by show 3 ≤ sizeLine; decide, fun r hr => ?_⟩
          obtain ⟨P5, e5⟩ := P4.made (o := .tup [.str "go", .int 1, .int 0]) hr
          have hz5 := P5.1 _ _ (e5 _ _ hz)
          refine ⟨zs, hz5, sz_lt (by omega), L2.upd (L2.upd B4 r (.tup [.str "go", .int 1, .int 0])) D (.lst (zs ++ [.ref r])), _, (e4.trans e5).mut d0, P5.both d1 d2, upd_same, ?_⟩
          rw [gos_succ]
          refine Kids.upd (fun ys hh => ?_) ((Z.ex e5).snoc (.go (s := 1) (q := 0) upd_same))
          rw [e5 _ _ hz] at hh
          cases hh
        · obtain ⟨B4, zs, e4, P4, hz, Z⟩ := hw
          rw [tx_size, List.length_drop] at Z
          have lz := Z.len
          rw [show (gos (L.length - 1)).length = L.length - 1 from List.length_replicate] at lz
          refine ⟨D, zs, rfl, .inl ⟨sq_of (P4.1 _ _ hz), fun t2 ht2 => ?_⟩⟩
          obtain ⟨P5, e5⟩ := P4.made (o := .tup zs) ht2
          have g5 : (L2.upd B4 t2 (.tup zs)) t2 = some (.tup zs) := upd_same
          generalize (L2.upd B4 t2 (.tup zs)) = B5 at P5 e5 g5
          generalize (L2.upd H4 t2 (.tup zs)) = H5 at P5 ⊢
          refine ⟨t1, t2, _, _, rfl, rfl, P5.1 _ _ (e5 _ _ (e4 _ _ g1)), P5.1 _ _ g5, sz_of (by show 1 + zs.length ≤ 100000; omega), fun p1 H6 e6 hp1 => ?_⟩
          have P6 := P5.ex e6
          obtain ⟨P7, e7⟩ := P6.keepE hp1 (tup_nd P6 hp1)
          have g7 : (L2.upd B5 p1 (.tup ([v] ++ zs))) p1 = some (.tup ([v] ++ zs)) := upd_same
          generalize (L2.upd B5 p1 (.tup ([v] ++ zs))) = B7 at P7 e7 g7
          refine ⟨by show 3 ≤ sizeLine; decide, fun r8 hr8 => ?_⟩
          obtain ⟨P8, e8⟩ := P7.made (o := .tup [.str "read", .int (wd : Int), .ref p1]) hr8
          have eAll := (((e3.trans e4).trans e5).trans e7).trans e8
          have KX : Kids true (L2.upd B7 r8 (.tup [.str "read", .int (wd : Int), .ref p1])) (v :: zs) (t :: gos (L.length - 1)) := .cons (hT.ex eAll) (Z.ex ((e5.trans e7).trans e8))
          refine ⟨_, .read wd (Trs.of (t :: gos (L.length - 1))), _, _, _, rfl, eb.trans eAll, P8.le (by omega), .read upd_same (e8 _ _ g7) (Kids.tas (by rw [Trs.of_list]; exact KX)), ⟨Nat.le_refl _, ?_, Trs.ok_of fun x hx => ?_⟩, ?_, ?_⟩
          · rw [Trs.of_list, List.length_cons, show (gos (L.length - 1)).length = L.length - 1 from List.length_replicate]
            omega
          · rcases List.mem_cons.mp hx with h | h
            · rw [h]
              exact hok
            · exact (gos_ok m1 w1 _ x h).1
          · refine Nat.succ_le_succ (Trs.depth_of fun x hx => ?_)
            rcases List.mem_cons.mp hx with h | h
            · rw [h]
              exact hdp
            · have := (gos_ok (l := L.length) m1 w1 _ x h).2.1
              omega
          · have h1 := gos_total (L.length - 1)
            show (Trs.of (t :: gos (L.length - 1))).size + 1 ≤ _
            rw [← Trs.total, Trs.of_list]
            show t.size + TR.total (gos (L.length - 1)) + 1 ≤ _
            omega
    · obtain ⟨v, t, Hb, y5, y6, rfl, eb, Pb, hT, hok, hdp, hsz⟩ := hw
      exact ⟨_, rfl, q Hb H' v t eb (Pb.le (by omega)) hT hok (by omega) (by omega)⟩
end
end Law

namespace TT
open PySem PySem.Spec PyProof.Rows L2 TR
def tokl (L : List Nat) : List Nat → List Tr → List (List Nat)
  | c :: l, t :: r => [c] :: (toks L t ++ tokl L l r)
  | _, _ => []
theorem tokss_eq (L : List Nat) : ∀ (l : List Nat) (ts : Trs), tokss L l ts = tokl L l ts.list
  | [], ts => by
    unfold tokss tokl
    cases ts <;> rfl
  | _ :: _, .nil => by
    unfold tokss
    rfl
  | c :: l, .cons t r => by
    unfold tokss
    show _ = [c] :: (toks L t ++ tokl L l r.list)
    rw [tokss_eq L l r]
theorem tokl_at {L l : List Nat} {rs : List Tr} {i c : Nat} {t : Tr} (h1 : l[i]? = some c) (h2 : rs[i]? = some t) : tokl L (l.drop i) (rs.drop i) = [c] :: (toks L t ++ tokl L (l.drop (i + 1)) (rs.drop (i + 1))) := by
  obtain ⟨g1, e1⟩ := List.getElem?_eq_some_iff.mp h1
  obtain ⟨g2, e2⟩ := List.getElem?_eq_some_iff.mp h2
  rw [List.drop_eq_getElem_cons g1, List.drop_eq_getElem_cons g2, e1, e2]
  rfl
theorem num_dec {n : Nat} (h : n < 100) : Txt.isdecimal (S (num n)) = true := by
  have : ∀ n < 100, Txt.isdecimal (S (num n)) = true := by decide +kernel
  exact this n h
theorem num_int {n : Nat} (h : n < 100) : PySem.intText? (S (num n)) = some (n : Int) := by
  rw [← num_S]
  exact TL.int_num (by have := num_len h; show (num n).length ≤ _; omega)
/-- the words that are left, the next one at the end -/
def wl (ws : List (List Nat)) : List V := (ws.reverse.map S).map V.str
theorem wl_cons (w : List Nat) (ws : List (List Nat)) : wl (w :: ws) = wl ws ++ [.str (S w)] := by
  unfold wl
  rw [List.reverse_cons, List.map_append, List.map_append]
  rfl
end TT
namespace Law
open PySem PySem.Spec PyProof.Rows L2 Evl TR
def WAt (a : Addr) (H0 H : Hp) (ws : List (List Nat)) : Prop := Ex H0 H ∧ H0 a = none ∧ H a = some (.lst (TT.wl ws))
theorem WAt.ex {a : Addr} {H0 H H1 : Hp} {ws : List (List Nat)} (W : WAt a H0 H ws) (e : Ex H H1) : WAt a H0 H1 ws := ⟨W.1.trans e, W.2.1, e _ _ W.2.2⟩
theorem WAt.ne {a b : Addr} {H0 H : Hp} {ws : List (List Nat)} (W : WAt a H0 H ws) (h : H b = none) : b ≠ a := fun e => by
  rw [e, W.2.2] at h
  cases h
theorem WAt.fresh {a b : Addr} {H0 H : Hp} {ws : List (List Nat)} (W : WAt a H0 H ws) (h : H b = none) : H0 b = none := by
  cases e : H0 b with
  | none => rfl
  | some o =>
    rw [W.1 _ _ e] at h
    cases h
theorem WAt.both {a b : Addr} {H0 H : Hp} {ws : List (List Nat)} {o : HO} (W : WAt a H0 H ws) (h : b ≠ a) : WAt a (L2.upd H0 b o) (L2.upd H b o) ws := by
  refine ⟨fun c u e => ?_, by rw [upd_ne h.symm]; exact W.2.1, by rw [upd_ne h.symm]; exact W.2.2⟩
  by_cases q : c = b
  · subst q
    rw [upd_same] at e ⊢
    exact e
  · rw [upd_ne q] at e ⊢
    exact W.1 _ _ e
theorem WAt.made {a b : Addr} {H0 H : Hp} {ws : List (List Nat)} {o : HO} (W : WAt a H0 H ws) (h : H b = none) : WAt a (L2.upd H0 b o) (L2.upd H b o) ws ∧ Ex H0 (L2.upd H0 b o) := ⟨W.both (W.ne h), Ex.new (W.fresh h)⟩
theorem WAt.pop {a : Addr} {H0 H : Hp} {w : List Nat} {ws : List (List Nat)} (W : WAt a H0 H (w :: ws)) : WAt a H0 (L2.upd H a (.lst (TT.wl ws))) ws := ⟨W.1.mut W.2.1, W.2.1, upd_same⟩
theorem for_strX {x : Str} {g : TG} {tb : TS} {D : Ends} {σ : L2.St} {H : Hp} (Pv : Nat → L2.St → Hp → Prop) (h0 : Pv 0 σ H)
    (hs : ∀ i c σ H, x.cps[i]? = some c → Pv i σ H → g (.str ⟨#[c]⟩) σ H fun σ2 H2 => tb { D with nx := Pv (i + 1), ct := Pv (i + 1), bk := D.nx } σ2 H2) (hd : ∀ σ H, Pv x.cps.size σ H → D.nx σ H) :
    ∃ W : Nat → Nat → L2.St → Hp → Prop, (∃ m, W 0 m σ H) ∧ ∀ i m σ H, W i m σ H →
      ((Its x).stop i H ∧ D.nx σ H) ∨ ((Its x).go i H ∧ ∃ N : L2.St → Hp → Prop, (∀ σ' H', N σ' H' → ∃ m', m' < m ∧ W (i + 1) m' σ' H') ∧ ∀ v H', (Its x).yld i H v H' → g v σ H' fun σ2 H2 => tb { D with nx := N, ct := N, bk := D.nx } σ2 H2) := by
  refine ⟨fun i m σ H => i + m = x.cps.size ∧ Pv i σ H, ⟨_, Nat.zero_add _, h0⟩, ?_⟩
  rintro i m σ H ⟨e, p⟩
  by_cases hm : m = 0
  · have e2 : i = x.cps.size := by omega
    refine .inl ⟨by show x.cps.size ≤ i; omega, hd σ H ?_⟩
    rw [← e2]
    exact p
  · refine .inr ⟨by show i < x.cps.size; omega, Pv (i + 1), fun σ' H' p' => ⟨m - 1, by omega, by omega, p'⟩, ?_⟩
    rintro v H' ⟨rfl, c, hc, rfl⟩
    exact hs i c σ _ hc p
def spTaken : Sp := fun vs H Q _ => ∃ (a : Addr) (w : List Nat) (ws : List (List Nat)) (H0 : Hp), vs = [.ref a] ∧ WAt a H0 H (w :: ws) ∧ ∀ H', WAt a H0 H' ws → Q (.str (tx w)) H'
def spTakNum : Sp := fun vs H Q _ => ∃ (a : Addr) (n : Nat) (ws : List (List Nat)) (H0 : Hp), vs = [.ref a] ∧ n < 100 ∧ WAt a H0 H (TT.num n :: ws) ∧ ∀ H', WAt a H0 H' ws → Q (.int (n : Nat)) H'
def spTake (k : Nat) : Sp := fun vs H Q _ => ∃ (a : Addr) (t : Tr) (L : List Nat) (w n d : Nat) (ws : List (List Nat)) (H0 : Hp), vs = [.str (tx L), .ref a, .int (d : Int)] ∧ t.depth ≤ k ∧ d + t.depth ≤ 41 ∧ t.ok L.length w n ∧ TT.small t ∧ L.length ≤ 4 ∧ WAt a H0 H (TT.toks L t ++ ws) ∧
  ∀ H1 H' v, Ex H0 H1 → WAt a H1 H' ws → TR.TA true H1 v t → Q v H'
def spTakeB (k : Nat) : Sp := fun vs H Q _ => ∃ (a : Addr) (ts : Trs) (L : List Nat) (w n d : Nat) (ws : List (List Nat)) (H0 : Hp), vs = [.str (tx L), .ref a, .int (d : Int)] ∧ ts.depth ≤ k ∧ d + ts.depth ≤ 41 ∧ ts.list.length = L.length ∧ ts.ok L.length w n ∧ TT.smalls ts ∧ L.length ≤ 4 ∧ WAt a H0 H (TT.tokss L L ts ++ ws) ∧
  ∀ H1 H' b vs', Ex H0 H1 → WAt a H1 H' ws → H1 b = some (.tup vs') → TAs true H1 vs' ts → Q (.ref b) H'
theorem w_go : tx TT.wGo = Str.ofString "go" := by decide +kernel
theorem w_tell : tx TT.wTell = Str.ofString "tell" := by decide +kernel
theorem w_read : tx TT.wRead = Str.ofString "read" := by decide +kernel
section
variable {P : Program} {w : World} {K : PySem.W.Frag} {mg : Str → Option Value} {base : Heap}
theorem ok_taken {f : Addr} {fd : FuncData} (F : Fun K "_taken" "_taken" s_taken f fd) (T : Tx mg) : FnOk P w K mg base CX0 1 f fd ["words"] spTaken := by
  refine F.ok sc_taken (fun vs H Q E h => ?_) (fun cdv A outer s H vs Q E hr h => ?_)
  · obtain ⟨a, wd, ws, H0, rfl, _⟩ := h
    rfl
  · obtain ⟨a, wd, ws, H0, rfl, W, q⟩ := h
    refine ⟨_, (pss_one (ps_ret (pe_ifExp (pt_truth (pv 0) (by intro _; rfl)) (pe_bm0 PySem.F.plainAttrs_list PySem.F.slot_list_pop PySem.F.type_list_pop mt_pop (pv 0)) pe_str))), ?_⟩
    have hl := W.2.2
    rw [TT.wl_cons] at hl
    refine ⟨_, rfl, true, .inl ⟨_, sq_of hl, ?_⟩, iteT ?_⟩
    · simp
    refine ⟨_, rfl, .inl ⟨rfl, _, sq_of hl⟩, a, _, _, rfl, rfl, hl, pop_last _ _, ?_⟩
    rw [List.dropLast_concat]
    exact q _ W.pop
theorem ok_taknum {f : Addr} {fd : FuncData} (F : Fun K "_taken_number" "_taken_number" s_taken_number f fd) (T : Tx mg) (c_taken : Kn P w K mg base "_taken" ["words"] 1 spTaken) : FnOk P w K mg base CX0 2 f fd ["words"] spTakNum := by
  refine F.ok sc_taken_number (fun vs H Q E h => ?_) (fun cdv A outer s H vs Q E hr h => ?_)
  · obtain ⟨a, n, ws, H0, rfl, _⟩ := h
    rfl
  · obtain ⟨a, n, ws, H0, rfl, hn, W, q⟩ := h
    refine ⟨_, (pss_cons (ps_set (i := 1) sc_taken_number.nd rfl (Or.inl rfl) (pe_call c_taken.ok (hr.mono (by decide)) (by rfl) c_taken.g c_taken.kp c_taken.b .nil pass0 (pa_cons (pv 0) pa_nil)))
      (pss_one (ps_ret (pe_ifExp (PW.pt (pw_and (pt_val (pe_bm0 PySem.F.plainAttrs_str PySem.F.slot_str_isdecimal PySem.F.type_str_isdecimal mt_isdecimal (pv 1))) (pw_and1 (pt_cmpR op_le (pe_callB call_len_str (by rfl) T.len PySem.boot_len (pa_cons (pv 1) pa_nil)) pe_int (nomark _))))) (pe_callTy call_int_str (by rfl) T.int PyProof.Rows.boot_int (pa_cons (pv 1) pa_nil)) (pe_un un_neg pe_int))))), ?_⟩
    have hl := TT.num_len hn
    refine ⟨_, rfl, a, _, ws, H0, rfl, W, fun H1 W1 => ?_⟩
    refine ⟨_, rfl, rfl, _, rfl, rfl, trivial, true, congrArg V.bl (TT.num_dec hn), iteT ?_⟩
    refine ⟨_, rfl, _, rfl, tx_le (by omega), _, _, rfl, rfl, _, rfl, ite2 (fun _ => ?_) (fun hb => absurd (decide_eq_true (by rw [tx_len]; omega)) hb)⟩
    exact ⟨_, rfl, _, _, rfl, TT.num_int hn, by rw [tx_len]; omega, q _ W1⟩
theorem ok_take {f fb : Addr} {fd fdb : FuncData} (F : Fun K "_taken_tree" "_taken_tree" s_taken_tree f fd) (FB : Fun K "_taken_branches" "_taken_branches" s_taken_branches fb fdb) (T : Tx mg) (g : mg "_taken_tree" = some (.ref f)) (b : Binds K fd ["letters", "words", "depth"] [])
    (gb : mg "_taken_branches" = some (.ref fb)) (bb : Binds K fdb ["letters", "words", "depth"] []) (c_taken : Kn P w K mg base "_taken" ["words"] 1 spTaken) (c_taken_number : Kn P w K mg base "_taken_number" ["words"] 2 spTakNum) :
    ∀ k : Nat, FnOk P w K mg base CX0 (2 * k + 3) f fd ["letters", "words", "depth"] (spTake k)
  | 0 => by
    refine F.ok sc_taken_tree (fun vs H Q E h => ?_) (fun cdv A outer s H vs Q E hr h => ?_)
    · obtain ⟨a, t, L, wd, n, d, ws, H0, rfl, _⟩ := h
      rfl
    · obtain ⟨a, t, L, wd, n, d, ws, H0, rfl, hd, _⟩ := h
      exfalso
      cases t
      · exact absurd hd (by show ¬ (1 ≤ 0); omega)
      · exact absurd hd (by show ¬ (_ + 1 ≤ 0); omega)
      · exact absurd hd (by show ¬ (_ + 1 ≤ 0); omega)
  | k + 1 => by
    have c_taken_tree : Kn P w K mg base "_taken_tree" ["letters", "words", "depth"] (2 * k + 3) (spTake k) := ⟨f, fd, ok_take F FB T g b gb bb c_taken c_taken_number k, g, F.kp, b⟩
    have okB : FnOk P w K mg base CX0 (2 * k + 4) fb fdb ["letters", "words", "depth"] (spTakeB k) := by
      refine FB.ok sc_taken_branches (fun vs H Q E h => ?_) (fun cdv A outer s H vs Q E hr h => ?_)
      · obtain ⟨a, ts, L, wd, n, d, ws, H0, rfl, _⟩ := h
        rfl
      · obtain ⟨a, ts, L, wd, n, d, ws, H0, rfl, hd, hd2, hlen, hok, hsm, hL, W, q⟩ := h
        refine ⟨_, (pss_cons (ps_set (i := 3) sc_taken_branches.nd rfl (Or.inl rfl) (pe_lst pa_nil))
      (pss_cons (ps_for PassesOwn.never rfl (pi_str (pv 0)) (pg_name (i := 4) sc_taken_branches.nd rfl (Or.inl rfl)) (pss_cons (ps_expr (pe_call c_taken.ok (hr.mono (by omega)) (by rfl) c_taken.g c_taken.kp c_taken.b .nil pass0 (pa_cons (pv 1) pa_nil)))
      (pss_one (ps_expr (pe_bm PySem.F.plainAttrs_list PySem.F.slot_list_append PySem.F.type_list_append mt_append (pv 3) (pa_cons (pe_call c_taken_tree.ok (hr.mono (by omega)) (by rfl) c_taken_tree.g c_taken_tree.kp c_taken_tree.b .nil pass0 (pa_cons (pv 0) (pa_cons (pv 1) (pa_cons (pv 2) pa_nil)))) pa_nil))))))
      (pss_one (ps_ret (pe_callTy call_tuple_of (by rfl) T.tuple PyProof.Rows.boot_tuple (pa_cons (pv 3) pa_nil)))))), ?_⟩
        rw [TT.tokss_eq] at W
        refine ⟨Nat.zero_le _, fun D hD => ?_⟩
        have d0 := W.fresh hD
        have d1 := W.ne hD
        refine ⟨_, rfl, _, rfl, for_strX (x := tx L) (fun i σ H' => ∃ (Hb : Hp) (zs : List V) (y4 : Option V), σ = [some (.str (tx L)), some (.ref a), some (.int (d : Int)), some (.ref D), y4] ∧ Ex H0 Hb ∧ WAt a Hb H' (TT.tokl L (L.drop i) (ts.list.drop i) ++ ws) ∧ Hb D = some (.lst zs) ∧ Kids true Hb zs (ts.list.take i))
          ⟨_, [], none, rfl, Ex.new d0, W.both d1, upd_same, .nil⟩ (fun i c σ H' hc hw => ?_) (fun σ H' hw => ?_)⟩
        · obtain ⟨Hb, zs, y4, rfl, eb, Wb, hz, Z⟩ := hw
          have hcL := tx_at hc
          have hi := (List.getElem?_eq_some_iff.mp hcL).1
          obtain ⟨t, ht⟩ : ∃ t, ts.list[i]? = some t := ⟨_, List.getElem?_eq_getElem (by omega)⟩
          have mem := List.mem_of_getElem? ht
          have dk := Trs.depth_mem t mem
          have lz := Z.len
          rw [List.length_take] at lz
          rw [TT.tokl_at hcL ht, List.cons_append, List.append_assoc] at Wb
          refine ⟨_, rfl, a, _, _, Hb, rfl, Wb, fun H2 W2 => ?_⟩
          refine ⟨_, rfl, .inl ⟨rfl, _, sq_of (W2.1 _ _ hz)⟩, _, rfl, _, rfl, _, rfl, a, t, L, wd, n, d, _, Hb, rfl, by omega, by omega, Trs.ok_mem hok t mem, TT.smalls_mem hsm t mem, hL, W2, fun H3 H4 v e3 W3 hv => ?_⟩
          refine ⟨D, _, _, rfl, rfl, W3.1 _ _ (e3 _ _ hz), sz_lt (by omega), ?_⟩
          refine ⟨L2.upd H3 D (.lst (zs ++ [v])), zs ++ [v], _, rfl, (eb.trans e3).mut d0, W3.both d1, upd_same, ?_⟩
          rw [take_next' ht]
          refine Kids.upd (fun ys hh => ?_) ((Z.ex e3).snoc hv)
          rw [e3 _ _ hz] at hh
          cases hh
        · obtain ⟨Hb, zs, y4, rfl, eb, Wb, hz, Z⟩ := hw
          rw [tx_size, List.drop_length, ← hlen, List.drop_length] at Wb
          rw [tx_size, ← hlen, List.take_length] at Z
          refine ⟨_, rfl, D, zs, rfl, .inl ⟨sq_of (Wb.1 _ _ hz), fun t2 ht2 => ?_⟩⟩
          obtain ⟨W5, e5⟩ := Wb.made (o := .tup zs) ht2
          exact q _ _ _ _ (eb.trans e5) W5 upd_same (Z.ex e5).tas
    have c_taken_branches : Kn P w K mg base "_taken_branches" ["letters", "words", "depth"] (2 * k + 4) (spTakeB k) := ⟨fb, fdb, okB, gb, FB.kp, bb⟩
    refine F.ok sc_taken_tree (fun vs H Q E h => ?_) (fun cdv A outer s H vs Q E hr h => ?_)
    · obtain ⟨a, t, L, wd, n, d, ws, H0, rfl, _⟩ := h
      rfl
    · obtain ⟨a, t, L, wd, n, d, ws, H0, rfl, hd, hd2, hok, hsm, hL, W, q⟩ := h
      refine ⟨_, (pss_cons (ps_set (i := 3) sc_taken_tree.nd rfl (Or.inl rfl) (pe_call c_taken.ok (hr.mono (by omega)) (by rfl) c_taken.g c_taken.kp c_taken.b .nil pass0 (pa_cons (pv 1) pa_nil)))
      (pss_cons (ps_if (pt_cmpR op_gt (pv 2) (pe_glob (v := .int 40) rfl T.m_DEEPEST ⟨_, rfl⟩) (nomark _)) (pss_one (ps_ret pe_non)) pss_nil)
      (pss_cons (ps_if (pt_cmpR op_eq (pv 3) pe_str (nomark _)) (pss_cons (ps_set (i := 4) sc_taken_tree.nd rfl (Or.inl rfl) (pe_call c_taken_number.ok (hr.mono (by omega)) (by rfl) c_taken_number.g c_taken_number.kp c_taken_number.b .nil pass0 (pa_cons (pv 1) pa_nil)))
      (pss_one (ps_ret (pe_tup (pa_cons pe_str (pa_cons (pv 4) (pa_cons (pe_call c_taken_number.ok (hr.mono (by omega)) (by rfl) c_taken_number.g c_taken_number.kp c_taken_number.b .nil pass0 (pa_cons (pv 1) pa_nil)) pa_nil))))))) pss_nil)
      (pss_cons (ps_if (pt_cmpR op_eq (pv 3) pe_str (nomark _)) (pss_cons (ps_set (i := 5) sc_taken_tree.nd rfl (Or.inl rfl) (pe_call c_taken_number.ok (hr.mono (by omega)) (by rfl) c_taken_number.g c_taken_number.kp c_taken_number.b .nil pass0 (pa_cons (pv 1) pa_nil)))
      (pss_one (ps_ret (pe_tup (pa_cons pe_str (pa_cons (pv 5) (pa_cons (pe_call c_taken_tree.ok (hr.mono (by omega)) (by rfl) c_taken_tree.g c_taken_tree.kp c_taken_tree.b .nil pass0 (pa_cons (pv 0) (pa_cons (pv 1) (pa_cons (pe_op op_add (pv 2) pe_int) pa_nil)))) pa_nil))))))) pss_nil)
      (pss_cons (ps_if (pt_cmpR op_eq (pv 3) pe_str (nomark _)) (pss_cons (ps_set (i := 6) sc_taken_tree.nd rfl (Or.inl rfl) (pe_call c_taken_number.ok (hr.mono (by omega)) (by rfl) c_taken_number.g c_taken_number.kp c_taken_number.b .nil pass0 (pa_cons (pv 1) pa_nil)))
      (pss_one (ps_ret (pe_tup (pa_cons pe_str (pa_cons (pv 6) (pa_cons (pe_call c_taken_branches.ok (hr.mono (by omega)) (by rfl) c_taken_branches.g c_taken_branches.kp c_taken_branches.b .nil pass0 (pa_cons (pv 0) (pa_cons (pv 1) (pa_cons (pe_op op_add (pv 2) pe_int) pa_nil)))) pa_nil))))))) pss_nil)
      (pss_one (ps_ret pe_non))))))), ?_⟩
      cases t with
      | go s' q' =>
        unfold TT.toks at W
        have hdd : d ≤ 40 := by
          have : d + 1 ≤ 41 := hd2
          omega
        refine ⟨_, rfl, a, _, _, H0, rfl, W, fun H1 W1 => ?_⟩
        refine ⟨_, rfl, _, _, rfl, rfl, _, rfl, ite2 (fun hb => absurd (of_decide_eq_true hb) (by omega)) (fun _ => ?_)⟩
        refine ⟨_, rfl, rfl, _, rfl, iteD (congrArg V.str w_go) ?_⟩
        refine ⟨_, rfl, a, s', _, H0, rfl, hsm.1, W1, fun H2 W2 => ?_⟩
        refine ⟨_, rfl, _, rfl, a, q', ws, H0, rfl, hsm.2, W2, fun H3 W3 => ⟨by show 3 ≤ sizeLine; decide, fun r hr => ?_⟩⟩
        obtain ⟨W5, e5⟩ := W3.made (o := .tup [.str "go", .int (s' : Nat), .int (q' : Nat)]) hr
        exact q _ _ _ e5 W5 (.go upd_same)
      | tell n' t' =>
        unfold TT.toks at W
        have hdd : d + t'.depth + 1 ≤ 41 := by
          have : d + (t'.depth + 1) ≤ 41 := hd2
          omega
        have hk : t'.depth ≤ k := by
          have : t'.depth + 1 ≤ k + 1 := hd
          omega
        refine ⟨_, rfl, a, _, _, H0, rfl, W, fun H1 W1 => ?_⟩
        refine ⟨_, rfl, _, _, rfl, rfl, _, rfl, ite2 (fun hb => absurd (of_decide_eq_true hb) (by omega)) (fun _ => ?_)⟩
        refine ⟨_, rfl, rfl, _, rfl, iteDn (by rw [w_tell]; exact tell_ne_go) ?_⟩
        refine ⟨_, rfl, rfl, _, rfl, iteD (congrArg V.str w_tell) ?_⟩
        refine ⟨_, rfl, a, n', _, H0, rfl, hsm.1, W1, fun H2 W2 => ?_⟩
        refine ⟨_, rfl, _, rfl, _, rfl, _, rfl, _, _, rfl, rfl, a, t', L, wd, n, d + 1, ws, H0, rfl, hk, by omega, hok.2, hsm.2, hL, W2, fun H3 H4 v e3 W3 hv => ⟨by show 3 ≤ sizeLine; decide, fun r hr => ?_⟩⟩
        obtain ⟨W5, e5⟩ := W3.made (o := .tup [.str "tell", .int (n' : Nat), v]) hr
        exact q _ _ _ (e3.trans e5) W5 (.tell upd_same (hv.ex e5))
      | read p' ts =>
        unfold TT.toks at W
        have hdd : d + ts.depth + 1 ≤ 41 := by
          have : d + (ts.depth + 1) ≤ 41 := hd2
          omega
        have hk : ts.depth ≤ k := by
          have : ts.depth + 1 ≤ k + 1 := hd
          omega
        refine ⟨_, rfl, a, _, _, H0, rfl, W, fun H1 W1 => ?_⟩
        refine ⟨_, rfl, _, _, rfl, rfl, _, rfl, ite2 (fun hb => absurd (of_decide_eq_true hb) (by omega)) (fun _ => ?_)⟩
        refine ⟨_, rfl, rfl, _, rfl, iteDn (by rw [w_read]; exact read_ne_go) ?_⟩
        refine ⟨_, rfl, rfl, _, rfl, iteDn (by rw [w_read]; exact read_ne_tell) ?_⟩
        refine ⟨_, rfl, rfl, _, rfl, iteD (congrArg V.str w_read) ?_⟩
        refine ⟨_, rfl, a, p', _, H0, rfl, hsm.1, W1, fun H2 W2 => ?_⟩
        refine ⟨_, rfl, _, rfl, _, rfl, _, rfl, _, _, rfl, rfl, a, ts, L, wd, n, d + 1, ws, H0, rfl, hk, by omega, hok.2.1, hok.2.2, hsm.2, hL, W2, fun H3 H4 b' vs' e3 W3 hb' hvs => ⟨by show 3 ≤ sizeLine; decide, fun r hr => ?_⟩⟩
        obtain ⟨W5, e5⟩ := W3.made (o := .tup [.str "read", .int (p' : Nat), .ref b']) hr
        exact q _ _ _ (e3.trans e5) W5 (.read upd_same (e5 _ _ hb') (hvs.ex e5))
end
end Law

namespace EK
open PySem PySem.Spec L2
theorem pe_fldK {X : Cx} {K : PySem.W.Frag} {e : Expr} {f : Str} {ta : TE} {pos : Pos} (hK : X.K = K) (he : PE X e ta) (hb : attributeBase e f X.env (eval e X.env) = eval e X.env) : PE X (.Attribute e f pos) (tFld K ta f) := by
  subst hK
  exact pe_fld he hb
end EK
namespace TT
open PySem PySem.Spec PyProof.Rows L2 TR
theorem low_ne {L : List Nat} (h : 2 ≤ L.length) : L ≠ [] := fun e => by
  rw [e] at h
  simp at h
def headL (L : List Nat) (w : Nat) : List Nat := L ++ 32 :: num w
/-- a searcher's lines -/
def lines (L : List Nat) (w : Nat) (ts : List Tr) : List Str := S (headL L w) :: ts.map fun t => S (txt L t)
def whole (L : List Nat) (w : Nat) (ts : List Tr) : Str := Txt.join (Str.ofString "\n") (lines L w ts)
theorem head_out (L : List Nat) (w : Nat) : Str.empty ++ S L ++ Str.ofString " " ++ Str.ofString (toString ((w : Nat) : Int)) = S (headL L w) := by
  refine TL.ext_tl ?_
  simp only [TL.tl_append, TL.tl_num, tl_S]
  rw [show TL.tl Str.empty = [] from rfl, show TL.tl (Str.ofString " ") = [32] by decide +kernel]
  unfold headL num
  simp
theorem cut_len : ∀ l : List Nat, (cut l).length ≤ l.length + 1
  | [] => Nat.le_refl _
  | c :: r => by
    have h := cut_len r
    by_cases hc : c = 32
    · subst hc
      rw [cut_hit, List.length_cons, List.length_cons]
      omega
    · obtain ⟨w, ws, e1, e2⟩ := cut_miss (r := r) hc
      rw [e2, List.length_cons]
      rw [e1, List.length_cons] at h
      show ws.length + 1 ≤ r.length + 1 + 1
      omega
theorem cut_part : ∀ {l w : List Nat}, w ∈ cut l → w.length ≤ l.length
  | [], w, h => by
    rw [List.mem_singleton.mp h]
    exact Nat.le_refl _
  | c :: r, w, h => by
    by_cases hc : c = 32
    · subst hc
      rw [cut_hit] at h
      rcases List.mem_cons.mp h with q | q
      · rw [q]
        exact Nat.zero_le _
      · have := cut_part q
        show w.length ≤ r.length + 1
        omega
    · obtain ⟨u, us, e1, e2⟩ := cut_miss (r := r) hc
      rw [e2] at h
      rcases List.mem_cons.mp h with q | q
      · have := cut_part (l := r) (w := u) (by rw [e1]; exact List.mem_cons_self)
        rw [q]
        show u.length + 1 ≤ r.length + 1
        omega
      · have := cut_part (l := r) (w := w) (by rw [e1]; exact List.mem_cons_of_mem _ q)
        show w.length ≤ r.length + 1
        omega
end TT
namespace Law
open PySem PySem.Spec PyProof.Rows L2 Evl TR
def rStripC : V → List V → Hp → VK → Prop := fun x xs H Q => ∃ a b, x = .str a ∧ xs = [.str b] ∧ a.length ≤ sizeLine ∧ Q (.str (Txt.stripChars a b)) H
theorem lit_blank : Str.ofString " " = TT.S [32] := by decide +kernel
theorem lit_marks : Str.ofString "[],:" = TT.S [91, 93, 44, 58] := by decide +kernel
def spRough : Sp := fun vs H Q _ => ∃ (t : Tr) (L : List Nat) (w n : Nat), vs = [.str (tx L), .str (tx (TT.txt L t))] ∧ LG L ∧ t.ok L.length w n ∧ TT.small t ∧ t.depth ≤ 40 ∧ t.size ≤ 2000 ∧ ∀ H' v, Ex H H' → TR.TA true H' v t → Q v H'
def spWid : Sp := fun vs H Q _ => ∃ w : Nat, vs = [.str (tx (TT.num w))] ∧ 1 ≤ w ∧ w ≤ 8 ∧ ∀ H', Ex H H' → Q (.bl true) H'
def Good (L : List Nat) (w : Nat) (ts : List Tr) : Prop := LG L ∧ 1 ≤ w ∧ w ≤ 8 ∧ 1 ≤ ts.length ∧ ts.length ≤ 64 ∧ (∀ t ∈ ts, t.ok L.length w ts.length ∧ t.depth ≤ 40 ∧ t.size ≤ 2000) ∧ total ts ≤ 3000
def spWritten (C : Addr) : Sp := fun vs H Q _ => ∃ (o : Addr) (L : List Nat) (w : Nat) (ts : List Tr), vs = [.ref o] ∧ SObj C H o L w ts ∧ Good L w ts ∧ ∀ H', Ex H H' → Q (.str (TT.whole L w ts)) H'
theorem sumL {n : Nat} : ∀ {ys : List Str}, (∀ y ∈ ys, y.length ≤ n) → (ys.map (·.length)).sum ≤ ys.length * n
  | [], _ => Nat.zero_le _
  | y :: r, h => by
    have h1 := h y List.mem_cons_self
    have h2 := sumL (ys := r) fun z hz => h z (List.mem_cons_of_mem _ hz)
    show y.length + (r.map (·.length)).sum ≤ (r.length + 1) * n
    rw [Nat.succ_mul]
    omega
section
variable {P : Program} {w : World} {K : PySem.W.Frag} {mg : Str → Option Value} {base : Heap}
theorem ok_rough {f : Addr} {fd : FuncData} (F : Fun K "rough_tree" "rough_tree" s_rough_tree f fd) (T : Tx mg) (c_taken_tree : Kn P w K mg base "_taken_tree" ["letters", "words", "depth"] 83 (spTake 40)) : FnOk P w K mg base CX0 84 f fd ["letters", "line"] spRough := by
  refine F.ok sc_rough_tree (fun vs H Q E h => ?_) (fun cdv A outer s H vs Q E hr h => ?_)
  · obtain ⟨t, L, wd, n, rfl, _⟩ := h
    rfl
  · obtain ⟨t, L, wd, n, rfl, hLG, hok, hsm, hd, hsz, q⟩ := h
    refine ⟨_, (pss_cons (ps_setLc (i := 2) (own := [("word", 3)]) (g := gName 3) (tt := tYes) rfl sc_rough_tree.nd rfl rfl (sw_true rfl rfl rfl (by decide +kernel)) (pi_list (pe_split (pv 1) pe_str)) (blkOk_by (N := N_rough_tree) (sc := defScope s_rough_tree) (by decide +kernel)) (fun _ _ _ _ _ => (pg_name (i := 3) sc_rough_tree.nd rfl (Or.inl rfl))) (fun _ _ _ _ _ => pts_nil) (fun _ _ _ _ _ => (pe_m1 PySem.F.slot_str_strip PySem.F.type_str_strip mt_stripChars (pv 3) pe_str)))
      (pss_cons (ps_expr (pe_bm0 PySem.F.plainAttrs_list PySem.F.slot_list_reverse PySem.F.type_list_reverse mt_reverse (pv 2)))
      (pss_one (ps_ret (pe_call c_taken_tree.ok (hr.mono (by decide)) (by rfl) c_taken_tree.g c_taken_tree.kp c_taken_tree.b .nil pass0 (pa_cons (pv 0) (pa_cons (pv 2) (pa_cons pe_int pa_nil)))))))), ?_⟩
    have hlen := TT.txt_len L hsm
    have hL4 := hLG.hi
    have hcl := TT.cut_len (TT.txt L t)
    rw [lit_blank, lit_marks]
    refine ⟨_, rfl, ⟨_, rfl⟩, _, _, rfl, rfl, by decide, sz_of (by rw [tx_len]; omega), fun p hp => ?_⟩
    rw [show Txt.split (tx (TT.txt L t)) (TT.S [32]) = (TT.cut (TT.txt L t)).map TT.S from TT.split_cut _]
    refine ⟨p, rfl, ⟨_, sq_of upd_same⟩, fun D hD => ?_⟩
    have e0 : Ex H (L2.upd H p (.lst (((TT.cut (TT.txt L t)).map TT.S).map V.str))) := Ex.new hp
    have g0 : (L2.upd H p (.lst (((TT.cut (TT.txt L t)).map TT.S).map V.str))) p = some (.lst (((TT.cut (TT.txt L t)).map TT.S).map V.str)) := upd_same
    generalize (L2.upd H p (.lst (((TT.cut (TT.txt L t)).map TT.S).map V.str))) = H1 at e0 g0 hD ⊢
    refine lc_list (g := gName 3) (tt := tYes) (vs := [3]) (fun i H' => Ex H1 H' ∧ H' D = some (.lst ((((TT.tok (TT.txt L t)).take i).map TT.S).map V.str))) ⟨Ex.new hD, upd_same⟩ (fun i H' _ pp => sq_of (pp.1 _ _ g0)) (fun i x H' hx pp => ?_) (fun H' pp => ?_)
    · obtain ⟨e6, hz⟩ := pp
      obtain ⟨u, hu, rfl⟩ : ∃ u, (TT.cut (TT.txt L t))[i]? = some u ∧ x = .str (TT.S u) := by
        rw [List.getElem?_map, List.getElem?_map] at hx
        cases hc : (TT.cut (TT.txt L t))[i]? with
        | none => rw [hc] at hx; cases hx
        | some u =>
          rw [hc] at hx
          exact ⟨u, rfl, (Option.some.inj hx).symm⟩
      have lu := TT.cut_part (List.mem_of_getElem? hu)
      have hi := (List.getElem?_eq_some_iff.mp hu).1
      have hk : (TT.tok (TT.txt L t))[i]? = some (TT.strip u) := by
        unfold TT.tok
        rw [List.getElem?_map, hu]
        rfl
      refine ⟨rfl, _, rfl, ⟨_, rfl⟩, _, _, rfl, rfl, sz_of (by rw [TT.S_len]; omega), ?_⟩
      rw [TT.strip_S]
      refine ⟨_, hz, ?_, e6.mut hD, ?_⟩
      · rw [List.length_map, List.length_map, List.length_take]
        exact sz_lt (by omega)
      · rw [upd_same, take_next' hk, List.map_append, List.map_append]
        rfl
    · obtain ⟨e6, hz⟩ := pp
      rw [show (((TT.cut (TT.txt L t)).map TT.S).map V.str).length = (TT.tok (TT.txt L t)).length by unfold TT.tok; simp, List.take_length] at hz
      refine ⟨_, rfl, .inl ⟨rfl, _, sq_of hz⟩, D, _, rfl, rfl, hz, ?_⟩
      refine ⟨_, rfl, _, rfl, D, t, L, wd, n, 1, [], H1, rfl, hd, by omega, hok, hsm, hL4, ⟨e6.mut hD, hD, ?_⟩, fun H2 H3 v e2 W3 hv => ?_⟩
      · rw [upd_same, TT.tok_txt hLG.az (TT.low_ne hLG.lo) hok hsm, List.append_nil]
        unfold TT.wl
        rw [List.map_reverse, List.map_reverse]
      · exact q _ _ ((e0.trans e2).trans W3.1) (hv.ex W3.1)
theorem ok_wid {f : Addr} {fd : FuncData} (F : Fun K "_is_width" "_is_width" s_is_width f fd) (T : Tx mg) : FnOk P w K mg base CX0 1 f fd ["text"] spWid := by
  refine F.ok sc_is_width (fun vs H Q E h => ?_) (fun cdv A outer s H vs Q E hr h => ?_)
  · obtain ⟨n, rfl, _⟩ := h
    rfl
  · obtain ⟨n, rfl, w1, w8, q⟩ := h
    refine ⟨_, (pss_one (ps_ret (pe_and (pe_cmpR op_eq (pe_callB call_len_str (by rfl) T.len PySem.boot_len (pa_cons (pv 0) pa_nil)) pe_int (nomark _)) (pe_one (pe_chain op_le_str op_le_str pe_str (pv 0) (pe_callTy call_str_int (by rfl) T.str PyProof.Rows.boot_str (pa_cons (pe_glob (v := .int 8) rfl T.m_MOST_WIDTH ⟨_, rfl⟩) pa_nil))))))), ?_⟩
    have k1 : ∀ n : Nat, n ≤ 8 → 1 ≤ n → (tx (TT.num n)).length = 1 ∧ (!decide ((tx (TT.num n)).cps.toList < (Str.ofString "1").cps.toList)) = true ∧ (!decide ((Str.ofString (toString (8 : Int))).cps.toList < (tx (TT.num n)).cps.toList)) = true := by decide +kernel
    obtain ⟨a1, a2, a3⟩ := k1 n w8 w1
    have hnl := TT.num_len (show n < 100 by omega)
    refine ⟨_, rfl, _, rfl, tx_le (by omega), rfl, true, ?_, ?_⟩
    · rw [a1]
      rfl
    refine ⟨_, rfl, _, _, rfl, rfl, _, rfl, ite2 (fun _ => ?_) (fun hn => absurd a2 hn)⟩
    refine ⟨_, rfl, by decide, _, _, rfl, rfl, ?_⟩
    rw [a3]
    exact q H (Ex.refl _)
theorem ok_written {f C_Searcher : Addr} {fd : FuncData} (F : Fun K "written" "Searcher.written" s_Searcher_written f fd) (T : Tx mg) (S : SC K C_Searcher) (c_tree_text : Kn P w K mg base "tree_text" ["letters", "tree"] 41 (spTxt 40)) :
    FnOk P w K mg base CX0 42 f fd ["self"] (spWritten C_Searcher) := by
  refine F.ok sc_Searcher_written (fun vs H Q E h => ?_) (fun cdv A outer s H vs Q E hr h => ?_)
  · obtain ⟨o, L, wd, ts, rfl, _⟩ := h
    rfl
  · obtain ⟨o, L, wd, ts, rfl, SO, G, q⟩ := h
    obtain ⟨hLG, w1, w8, n1, n64, hall, htot⟩ := G
    obtain ⟨dx, st, us, s1, s2, KK⟩ := SO.ex
    have lks := KK.len
    have hL4 := hLG.hi
    have nl := TT.numS_len (show wd < 100 by omega)
    have nm := TT.num_len (show wd < 100 by omega)
    refine ⟨_, (pss_cons (ps_set (i := 1) sc_Searcher_written.nd rfl (Or.inl rfl) (pe_lst (pa_cons (pe_joined (PJ.cons (pe_fmt (pe_fld (pv 0) rfl)) (PJ.cons pe_str (PJ.cons (pe_fmt (pe_fld (pv 0) rfl)) PJ.nil)))) pa_nil)))
      (pss_cons (ps_expr (pe_bm PySem.F.plainAttrs_list PySem.F.slot_list_extend PySem.F.type_list_extend mt_extend (pv 1) (pa_cons (pe_lc (own := [("tree", 2)]) (g := gName 2) (tt := tYes) rfl sc_Searcher_written.nd (TR.pi_seq (pe_fld (pv 0) rfl)) (blkOk_by (N := N_Searcher_written) (sc := defScope s_Searcher_written) (by decide +kernel)) (fun _ _ _ _ _ => (pg_name (i := 2) sc_Searcher_written.nd rfl (Or.inl rfl))) (fun _ _ _ _ _ => pts_nil) (fun _ _ _ _ _ => (pe_call c_tree_text.ok (hr.mono (by decide)) (by rfl) c_tree_text.g c_tree_text.kp c_tree_text.b .nil pass0 (pa_cons (EK.pe_fldK (K := K) rfl (pv 0) rfl) (pa_cons (pv 2) pa_nil))))) pa_nil)))
      (pss_one (ps_ret (pe_join pe_str (pv 1)))))), ?_⟩
    refine ⟨_, rfl, o, _, dx, _, _, rfl, s1, S.cl, S.nl, sFs_l _ _ _ _, .inl ⟨_, rfl, sz_of (by rw [tx_len]; omega), _, rfl, ?_, ?_⟩⟩
    · refine sz_of ?_
      rw [TT.app_len, emp_len, tx_len]
      omega
    refine ⟨_, rfl, ?_, ?_⟩
    · refine sz_of ?_
      rw [TT.app_len, TT.app_len, emp_len, tx_len, lit_sp]
      omega
    refine ⟨_, rfl, o, _, dx, _, _, rfl, s1, S.cl, S.nw, sFs_w _ _ _ _, .inr ⟨_, rfl, TT.num_log (by omega), _, rfl, ?_, ?_⟩⟩
    · refine sz_of ?_
      rw [TT.app_len, TT.app_len, TT.app_len, emp_len, tx_len, lit_sp]
      omega
    rw [show Str.empty ++ tx L ++ Str.ofString " " ++ Str.ofString (toString ((wd : Nat) : Int)) = TT.S (TT.headL L wd) from TT.head_out L wd]
    refine ⟨by show 1 ≤ sizeLine; decide, fun r hr1 => ?_⟩
    have e1 : Ex H (L2.upd H r (.lst [.str (TT.S (TT.headL L wd))])) := Ex.new hr1
    have g1 : (L2.upd H r (.lst [.str (TT.S (TT.headL L wd))])) r = some (.lst [.str (TT.S (TT.headL L wd))]) := upd_same
    generalize (L2.upd H r (.lst [.str (TT.S (TT.headL L wd))])) = H1 at e1 g1 ⊢
    refine ⟨_, rfl, .inl ⟨rfl, _, sq_of g1⟩, ?_⟩
    refine lcq (k := true) (e1 _ _ s2) (fun R h => ⟨_, rfl, o, _, dx, _, _, rfl, e1 _ _ s1, S.cl, S.ns, sFs_s _ _ _ _, h⟩) (fun D i H' => Ex H1 H' ∧ H' D = some (.lst ((((ts.take i).map fun t => TT.S (TT.txt L t)).map V.str)))) (fun D hD => ⟨Ex.new hD, upd_same⟩) (fun D i H' _ p => p.1) (fun D i x H' hD hx p => ?_) (fun D H' hD p => ?_)
    · obtain ⟨e6, hz⟩ := p
      obtain ⟨t, ht, hta⟩ := KK.get hx
      have mem := List.mem_of_getElem? ht
      have hi := (List.getElem?_eq_some_iff.mp ht).1
      obtain ⟨tok, tdp, tsz⟩ := hall t mem
      have e16 := e1.trans e6
      refine ⟨rfl, _, rfl, o, _, dx, _, _, rfl, e16 _ _ s1, S.cl, S.nl, sFs_l _ _ _ _, _, rfl, t, x, L, wd, ts.length, rfl, hta.ex e16, tok, TT.small_of w8 n64 tok, hL4, tdp, tsz, fun H8 e8 => ?_⟩
      refine ⟨_, e8 _ _ hz, ?_, (e6.trans e8).mut hD, ?_⟩
      · rw [List.length_map, List.length_map, List.length_take]
        exact sz_lt (by omega)
      · rw [upd_same, take_next' ht, List.map_append, List.map_append]
        rfl
    · obtain ⟨e6, hz⟩ := p
      rw [lks, List.take_length] at hz
      refine ⟨r, D, _, _, rfl, rfl, e6 _ _ g1, hz, ?_, ?_⟩
      · rw [List.length_map, List.length_map]
        exact sz_of (by show 1 + ts.length ≤ 100000; omega)
      refine ⟨⟨_, rfl⟩, _, rfl, _, r, TT.lines L wd ts, rfl, rfl, .inl (sq_of upd_same), ?_, ?_⟩
      · have ll : (TT.lines L wd ts).length = ts.length + 1 := by
          unfold TT.lines
          rw [List.length_cons, List.length_map]
        have hs := sumL (n := 80000) (ys := TT.lines L wd ts) fun y hy => by
          rcases List.mem_cons.mp hy with h | h
          · rw [h, TT.S_len]
            unfold TT.headL
            rw [List.length_append, List.length_cons]
            omega
          · obtain ⟨t, ht, rfl⟩ := List.mem_map.mp h
            obtain ⟨tok, tdp, tsz⟩ := hall t ht
            have := TT.txt_len L (TT.small_of w8 n64 tok)
            rw [TT.S_len]
            omega
        rw [show (Str.ofString "\n").length = 1 by decide +kernel, ll]
        rw [ll] at hs
        have : (ts.length + 1) * 80000 ≤ 65 * 80000 := Nat.mul_le_mul_right _ (by omega)
        omega
      · exact q _ ((e1.trans e6).mut hr1)
end
end Law

namespace TR
open PySem PySem.Spec L2 Evl
theorem room70 {k : Nat} {A : Around} (r : Room k A) : A.units + 70 < cLine := by
  have := r.un
  omega
/-- what can't change of a heap, beside a base -/
def fz (B H : Hp) : Hp := fun a => match H a with
  | some (.tup xs) => some (.tup xs)
  | some (.ins C d fs) => some (.ins C d fs)
  | _ => B a
theorem fz_tup {B H : Hp} {a : Addr} {xs : List V} (h : H a = some (.tup xs)) : fz B H a = some (.tup xs) := by
  unfold fz
  rw [h]
theorem fz_ins {B H : Hp} {a C d : Addr} {fs : List (Str × V)} (h : H a = some (.ins C d fs)) : fz B H a = some (.ins C d fs) := by
  unfold fz
  rw [h]
theorem fz_lst {B H : Hp} {a : Addr} {xs : List V} (h : H a = some (.lst xs)) : fz B H a = B a := by
  unfold fz
  rw [h]
theorem fz_dk {B H : Hp} {a : Addr} {xs : List (Key × V)} (h : H a = some (.dK xs)) : fz B H a = B a := by
  unfold fz
  rw [h]
theorem fz_sub {B H : Hp} (e : Ex B H) : Ex B (fz B H) := fun a o h => by
  have h2 := e _ _ h
  unfold fz
  rw [h2]
  cases o <;> first | rfl | exact h
theorem fz_sup {B H : Hp} (e : Ex B H) : Ex (fz B H) H := fun a o h => by
  unfold fz at h
  split at h
  · next q => rw [q, ← h]
  · next q => rw [q, ← h]
  · exact e _ _ h
mutual
theorem TA.fz {B H : Hp} : ∀ {t : Tr} {v : V}, TA true H v t → TA true (TR.fz B H) v t
  | _, _, .go h => .go (fz_tup h)
  | _, _, .tell h r => .tell (fz_tup h) (TA.fz r)
  | _, _, .read h hb r => .read (fz_tup h) (fz_tup hb) (TAs.fz r)
theorem TAs.fz {B H : Hp} : ∀ {ts : Trs} {vs : List V}, TAs true H vs ts → TAs true (TR.fz B H) vs ts
  | _, _, .nil => .nil
  | _, _, .cons h r => .cons (TA.fz h) (TAs.fz r)
end
theorem Kids.fz {B H : Hp} : ∀ {ts : List Tr} {vs : List V}, Kids true H vs ts → Kids true (TR.fz B H) vs ts
  | _, _, .nil => .nil
  | _, _, .cons h r => .cons h.fz (Kids.fz r)
mutual
theorem Tr.wide {l w w' n n' : Nat} (hw : w ≤ w') (hn : n ≤ n') : ∀ {t : Tr}, t.ok l w n → t.ok l w' n'
  | .go _ _, h => ⟨h.1, Nat.le_trans h.2.1 (Nat.succ_le_succ hw), Nat.lt_of_lt_of_le h.2.2 hn⟩
  | .tell _ t, h => ⟨h.1, Tr.wide hw hn h.2⟩
  | .read _ ts, h => ⟨Nat.le_trans h.1 hw, h.2.1, Trs.wide hw hn h.2.2⟩
theorem Trs.wide {l w w' n n' : Nat} (hw : w ≤ w') (hn : n ≤ n') : ∀ {ts : Trs}, ts.ok l w n → ts.ok l w' n'
  | .nil, _ => True.intro
  | .cons t r, h => ⟨Tr.wide hw hn h.1, Trs.wide hw hn h.2⟩
end
end TR
namespace Law
open PySem PySem.Spec PyProof.Rows L2 Evl TR
theorem SObj.up {C o : Addr} {H H' : Hp} {L : List Nat} {w : Nat} {ts : List Tr} (S : SObj C H o L w ts) (e : Ex H H') : SObj C H' o L w ts := by
  obtain ⟨dx, st, us, h1, h2, h3⟩ := S.ex
  exact ⟨dx, st, us, e _ _ h1, e _ _ h2, h3.ex e⟩
theorem SObj.fz {C o : Addr} {B H : Hp} {L : List Nat} {w : Nat} {ts : List Tr} (S : SObj C H o L w ts) : SObj C (TR.fz B H) o L w ts := by
  obtain ⟨dx, st, us, h1, h2, h3⟩ := S.ex
  exact ⟨dx, st, us, fz_ins h1, fz_tup h2, h3.fz⟩
theorem PenAt.fz {p : PenI} {B H : Hp} {n : Nat} (P : PenAt p B H n) : PenAt p (TR.fz B H) H n := by
  obtain ⟨e, h0, hc, hl, op, lf, ho, hd⟩ := P
  exact ⟨fz_sup e, by rw [fz_dk hd]; exact h0, fz_sub e _ _ hc, hl, op, lf, ho, hd⟩
theorem PenAt.base {p : PenI} {H0 H1 B H : Hp} {n m : Nat} (P : PenAt p B H n) (P0 : PenAt p H0 H1 m) (e : Ex H0 B) : PenAt p H0 H n :=
  ⟨e.trans P.1, P0.2.1, P0.2.2.1, P.2.2.2⟩
theorem LG.rev {L : List Nat} (h : LG L) : LG L.reverse := ⟨by rw [List.length_reverse]; exact h.lo, by rw [List.length_reverse]; exact h.hi, fun c hc => h.az c (List.mem_reverse.mp hc), List.pairwise_reverse.mpr (List.Pairwise.imp (fun q => Ne.symm q) h.nd)⟩
theorem LG.ne_rev {L : List Nat} (h : LG L) : L ≠ L.reverse := by
  have lo := h.lo
  have hi := h.hi
  have nd := h.nd
  match L, lo, hi with
  | [a, b], _, _ =>
    intro e
    simp at e nd
    exact nd e.1
  | [a, b, c], _, _ =>
    intro e
    simp at e nd
    omega
  | [a, b, c, d], _, _ =>
    intro e
    simp at e nd
    omega
theorem mk_sp {C x dx sa : Addr} {H1 : Hp} {L : List Nat} {w : Nat} {kt k : Bool} {xs : List V} {ts : List Tr} {Q : VK} {E : XK} (hx : H1 x = none) (hd : H1 dx = none) (ne : dx ≠ x) (hsa : H1 sa = some (ob kt xs)) (KK : Kids k H1 xs ts) (hL : LG L) (w1 : 1 ≤ w) (w8 : w ≤ 8)
    (n1 : 1 ≤ ts.length) (n64 : ts.length ≤ 64) (hall : ∀ t ∈ ts, t.ok L.length w ts.length ∧ t.depth ≤ 40) (tot : TR.total ts ≤ 3000) (q : ∀ H2, Ex H1 H2 → SObj C H2 x L w ts → Q .non H2) :
    spInit C [.ref x, .str (tx L), .int (w : Int), .ref sa] (L2.upd (L2.upd H1 dx (.own x)) x (.ins C dx [])) Q E :=
  ⟨x, dx, sa, L, w, kt, k, xs, ts, H1, rfl, (Ex.new hd).trans (Ex.new (by rw [upd_ne ne.symm]; exact hx)), hx, upd_same, hsa, KK, hL, w1, w8, n1, n64, hall, tot, q⟩
end Law

namespace TT
open PySem PySem.Spec PyProof.Rows L2 TR
/-- no sign below the blank -/
def Vis (l : List Nat) : Prop := ∀ c ∈ l, 32 ≤ c
theorem Vis.app {a b : List Nat} (h : Vis a) (k : Vis b) : Vis (a ++ b) := fun c hc => by
  rcases List.mem_append.mp hc with q | q
  · exact h c q
  · exact k c q
theorem Vis.cons {c : Nat} {b : List Nat} (h : 32 ≤ c) (k : Vis b) : Vis (c :: b) := fun d hd => by
  rcases List.mem_cons.mp hd with q | q
  · rw [q]
    exact h
  · exact k d q
theorem vis_of {l : List Nat} (h : l.all (fun c => decide (32 ≤ c)) = true) : Vis l := fun c hc => of_decide_eq_true (List.all_eq_true.mp h c hc)
theorem num_vis {n : Nat} (h : n < 100) : Vis (num n) := by
  have : ∀ n < 100, (num n).all (fun c => decide (32 ≤ c)) = true := by decide +kernel
  exact vis_of (this n h)
theorem low_vis {L : List Nat} (h : Low L) : Vis L := fun c hc => by
  have := (h c hc).1
  omega
theorem join_vis : ∀ {ps : List (List Nat)}, (∀ p ∈ ps, Vis p) → Vis (TL.joinL [44, 32] ps)
  | [], _ => fun c hc => nomatch hc
  | [p], h => h p List.mem_cons_self
  | p :: q :: r, h => (h p List.mem_cons_self).app ((vis_of (by decide)).app (join_vis fun x hx => h x (List.mem_cons_of_mem _ hx)))
mutual
theorem txt_vis {L : List Nat} (hL : Low L) : ∀ {t : Tr}, small t → Vis (txt L t)
  | .go s q, h => by
    unfold txt
    exact (vis_of (by decide)).app (.cons (by decide) ((num_vis h.1).app (.cons (by decide) (num_vis h.2))))
  | .tell n t, h => by
    unfold txt
    exact (vis_of (by decide)).app (.cons (by decide) ((num_vis h.1).app (.cons (by decide) (txt_vis hL h.2))))
  | .read p ts, h => by
    unfold txt
    exact (vis_of (by decide)).app (.cons (by decide) ((num_vis h.1).app (.cons (by decide) (.cons (by decide) ((join_vis (txts_vis hL hL h.2)).app (vis_of (by decide)))))))
theorem txts_vis {L : List Nat} (hL : Low L) : ∀ {l : List Nat} {ts : Trs}, Low l → smalls ts → ∀ p ∈ txts L l ts, Vis p
  | [], _, _, _, p, hp => by
    unfold txts at hp
    cases hp
  | _ :: _, .nil, _, _, p, hp => by
    unfold txts at hp
    cases hp
  | c :: l, .cons t r, hl, h, p, hp => by
    unfold txts at hp
    rcases List.mem_cons.mp hp with q | q
    · rw [q]
      exact .cons (by have := (hl c List.mem_cons_self).1; omega) (.cons (by decide) (.cons (by decide) (txt_vis hL h.1)))
    · exact txts_vis hL (fun d hd => hl d (List.mem_cons_of_mem _ hd)) h.2 p q
end
theorem vis_no {l : List Nat} (h : Vis l) : 10 ∉ l := fun z => by
  have := h _ z
  omega
theorem split_whole {L : List Nat} {w : Nat} {ts : List Tr} (hL : Low L) (hw : w < 100) (h : ∀ t ∈ ts, small t) : Txt.split (whole L w ts) (Str.ofString "\n") = lines L w ts := by
  unfold whole
  refine TL.split_join (show TL.tl (Str.ofString "\n") = [10] by decide +kernel) (by decide +kernel) (by unfold lines; simp) fun p hp => ?_
  rcases List.mem_cons.mp hp with q | q
  · rw [q, tl_S]
    exact vis_no ((low_vis hL).app (.cons (by decide) (num_vis hw)))
  · obtain ⟨t, ht, rfl⟩ := List.mem_map.mp q
    rw [tl_S]
    exact vis_no (txt_vis hL (h t ht))
theorem part_head {L : List Nat} {w : Nat} (hL : Low L) : Txt.partition (S (headL L w)) (Str.ofString " ") = (S L, Str.ofString " ", S (num w)) := by
  have e : S (headL L w) = S L ++ Str.ofString " " ++ S (num w) := by
    refine TL.ext_tl ?_
    simp only [TL.tl_append, tl_S]
    rw [show TL.tl (Str.ofString " ") = [32] by decide +kernel]
    unfold headL
    simp
  rw [e]
  refine TL.partition_app (show TL.tl (Str.ofString " ") = [32] by decide +kernel) ?_
  rw [tl_S]
  intro z
  have := (hL _ z).1
  omega
theorem joinL_len (X : List Nat) : ∀ ps : List (List Nat), (TL.joinL X ps).length ≤ (ps.map List.length).sum + ps.length * X.length
  | [] => Nat.zero_le _
  | [p] => by
    show p.length ≤ p.length + 0 + 1 * X.length
    omega
  | p :: q :: r => by
    have := joinL_len X (q :: r)
    show (p ++ (X ++ TL.joinL X (q :: r))).length ≤ (p.length + ((q :: r).map List.length).sum) + ((q :: r).length + 1) * X.length
    rw [List.length_append, List.length_append, Nat.succ_mul]
    omega
theorem whole_len {L : List Nat} {w : Nat} {ts : List Tr} (hl : L.length ≤ 4) (hw : w < 100) (n64 : ts.length ≤ 64) (h : ∀ t ∈ ts, small t ∧ t.size ≤ 2000) : (whole L w ts).length ≤ 6000000 := by
  unfold whole
  rw [TL.len_tl, TL.join_eq, TL.tl_join, show TL.tl (Str.ofString "\n") = [10] by decide +kernel]
  have h1 := joinL_len [10] ((lines L w ts).map TL.tl)
  have e1 : ((lines L w ts).map TL.tl) = headL L w :: ts.map fun t => txt L t := by
    unfold lines
    rw [List.map_cons, tl_S, List.map_map]
    exact congrArg (headL L w :: ·) (List.map_congr_left fun t _ => tl_S _)
  rw [e1] at h1 ⊢
  have h2 : ∀ us : List Tr, (∀ t ∈ us, small t ∧ t.size ≤ 2000) → ((us.map fun t => txt L t).map List.length).sum ≤ us.length * 80000 := by
    intro us
    induction us with
    | nil => intro _; exact Nat.zero_le _
    | cons t r ih =>
      intro hu
      have i1 := ih fun x hx => hu x (List.mem_cons_of_mem _ hx)
      have i2 := hu t List.mem_cons_self
      have i3 := txt_len L i2.1
      show (txt L t).length + ((r.map fun t => txt L t).map List.length).sum ≤ (r.length + 1) * 80000
      rw [Nat.succ_mul]
      omega
  have h3 := h2 ts h
  have h4 : (headL L w).length ≤ 10 := by
    have := num_len hw
    unfold headL
    rw [List.length_append, List.length_cons]
    omega
  have h5 : ts.length * 80000 ≤ 64 * 80000 := Nat.mul_le_mul_right _ n64
  rw [List.map_cons, List.sum_cons, List.length_cons, List.length_map] at h1
  simp only [List.length_singleton, Nat.mul_one] at h1
  omega
end TT
namespace Law
open PySem PySem.Spec PyProof.Rows L2 Evl TR
theorem sz_big {n : Nat} (h : n ≤ 6000002) : n ≤ sizeLine := Nat.le_trans h (by decide)
def spRead (C : Addr) : Sp := fun vs H Q _ => ∃ (L : List Nat) (w : Nat) (ts : List Tr), vs = [.ref C, .str (TT.whole L w ts)] ∧ Good L w ts ∧ ∀ H' o, Ex H H' → SObj C H' o L w ts → Q (.ref o) H'
section
variable {P : Program} {w : World} {K : PySem.W.Frag} {mg : Str → Option Value} {base : Heap}
theorem ok_read {f fI C_Searcher : Addr} {fd fdI : FuncData} (F : Fun K "read" "Searcher.read" s_Searcher_read f fd) (T : Tx mg) (S : SC K C_Searcher) (M_Searcher : Mk K C_Searcher fI) (F_Searcher : FnOk P w K mg base CX0 42 fI fdI ["self", "letters", "width", "states"] (spInit C_Searcher))
    (b_Searcher : Binds K fdI ["self", "letters", "width", "states"] []) (c_are_letters : Kn P w K mg base "are_letters" ["value"] 1 spAreL) (c_is_width : Kn P w K mg base "_is_width" ["text"] 1 spWid) (c_rough_tree : Kn P w K mg base "rough_tree" ["letters", "line"] 84 spRough)
    (c_first_wrong : Kn P w K mg base "first_wrong" ["tree", "letters", "width", "states"] 4 spFW) (c_tree_text : Kn P w K mg base "tree_text" ["letters", "tree"] 41 (spTxt 40)) :
    FnOk P w K mg base CX0 85 f fd ["cls", "text"] (spRead C_Searcher) := by
  refine F.ok sc_Searcher_read (fun vs H Q E h => ?_) (fun cdv A outer s H vs Q E hr h => ?_)
  · obtain ⟨L, wd, ts, rfl, _⟩ := h
    rfl
  · obtain ⟨L, wd, ts, rfl, G, q⟩ := h
    obtain ⟨hLG, w1, w8, n1, n64, hall, htot⟩ := G
    have hL4 := hLG.hi
    have hsm : ∀ t ∈ ts, TT.small t := fun t ht => TT.small_of w8 n64 (hall t ht).1
    have hwl := TT.whole_len (L := L) (w := wd) (ts := ts) hL4 (by omega) n64 fun t ht => ⟨hsm t ht, (hall t ht).2.2⟩
    have nm := TT.num_len (show wd < 100 by omega)
    refine ⟨_, (pss_cons (ps_if (pt_not (pt_val (pe_callB call_isi (by rfl) T.isinstance PyProof.Rows.boot_isinstance (pa_cons (pv 1) (pa_cons (pe_bltn (v := .ty "str") (by rfl) T.str PyProof.Rows.boot_str rfl) pa_nil))))) (pss_one ps_never) pss_nil)
      (pss_cons (ps_asg (pe_split (pv 1) pe_str) (SL.pg_starL rfl (pg_name (i := 2) sc_Searcher_read.nd rfl (Or.inl rfl)) (pg_name (i := 3) sc_Searcher_read.nd rfl (Or.inl rfl))))
      (pss_cons (ps_asg (pe_partition (pv 2) pe_str) (pg_tup (by rfl) (pgs_cons (pg_name (i := 4) sc_Searcher_read.nd rfl (Or.inl rfl)) (pgs_cons (pg_name (i := 5) sc_Searcher_read.nd rfl (Or.inl rfl)) (pgs_cons (pg_name (i := 6) sc_Searcher_read.nd rfl (Or.inl rfl)) pgs_nil)))))
      (pss_cons (ps_if (PW.pt (pw_or (pt_not (pt_val (pe_call c_are_letters.ok (hr.mono (by decide)) (by rfl) c_are_letters.g c_are_letters.kp c_are_letters.b .nil pass0 (pa_cons (pv 4) pa_nil)))) (pw_or1 (pt_not (pt_val (pe_call c_is_width.ok (hr.mono (by decide)) (by rfl) c_is_width.g c_is_width.kp c_is_width.b .nil pass0 (pa_cons (pv 6) pa_nil))))))) (pss_one ps_never) pss_nil)
      (pss_cons (ps_set (i := 7) sc_Searcher_read.nd rfl (Or.inl rfl) (pe_callTy call_int_str (by rfl) T.int PyProof.Rows.boot_int (pa_cons (pv 6) pa_nil)))
      (pss_cons (ps_if (pt_cmpR op_gt (pe_callB call_len_seq (by rfl) T.len PySem.boot_len (pa_cons (pv 3) pa_nil)) (pe_glob (v := .int 64) rfl T.m_MOST_STATES ⟨_, rfl⟩) (nomark _)) (pss_one ps_never) pss_nil)
      (pss_cons (ps_if (pt_cmpR op_eq (pe_callB call_len_seq (by rfl) T.len PySem.boot_len (pa_cons (pv 3) pa_nil)) pe_int (nomark _)) (pss_one ps_never) pss_nil)
      (pss_cons (ps_set (i := 8) sc_Searcher_read.nd rfl (Or.inl rfl) (pe_lst pa_nil))
      (pss_cons (ps_for PassesOwn.never rfl (pi_enum (by rfl) T.enumerate (pa_cons (pv 3) pa_nil)) (pg_tup (by rfl) (pgs_cons (pg_name (i := 9) sc_Searcher_read.nd rfl (Or.inl rfl)) (pgs_cons (pg_name (i := 10) sc_Searcher_read.nd rfl (Or.inl rfl)) pgs_nil))) (pss_cons (ps_set (i := 11) sc_Searcher_read.nd rfl (Or.inl rfl) (pe_call c_rough_tree.ok (hr.mono (by decide)) (by rfl) c_rough_tree.g c_rough_tree.kp c_rough_tree.b .nil pass0 (pa_cons (pv 4) (pa_cons (pv 10) pa_nil))))
      (pss_cons (ps_if (PW.pt (pw_or (pt_cmpR op_notN (pe_call c_first_wrong.ok (hr.mono (by decide)) (by rfl) c_first_wrong.g c_first_wrong.kp c_first_wrong.b .nil pass0 (pa_cons (pv 11) (pa_cons (pv 4) (pa_cons (pv 7) (pa_cons (pe_callB call_len_seq (by rfl) T.len PySem.boot_len (pa_cons (pv 3) pa_nil)) pa_nil))))) pe_non (nomark _)) (pw_or1 (pt_cmpR op_ne (pe_call c_tree_text.ok (hr.mono (by decide)) (by rfl) c_tree_text.g c_tree_text.kp c_tree_text.b .nil pass0 (pa_cons (pv 4) (pa_cons (pv 11) pa_nil))) (pv 10) (nomark _))))) (pss_one ps_never) pss_nil)
      (pss_one (ps_expr (pe_bm PySem.F.plainAttrs_list PySem.F.slot_list_append PySem.F.type_list_append mt_append (pv 8) (pa_cons (pv 11) pa_nil)))))))
      (pss_one (ps_ret (MV.pe_makeV (pv 0) M_Searcher F_Searcher (hr.mono (by decide)) b_Searcher pass0 (pa_cons (pv 4) (pa_cons (pv 7) (pa_cons (pv 8) pa_nil))))))))))))))), ?_⟩
    refine ⟨_, rfl, _, _, _, _, true, rfl, .ty _, .base (.str _), kit_ss, true, rfl, ?_⟩
    refine ⟨_, rfl, ⟨_, rfl⟩, _, _, rfl, rfl, by decide +kernel, sz_big (by omega), fun p hp => ?_⟩
    rw [TT.split_whole hLG.az (by omega) hsm]
    refine ⟨p, .str (TT.S (TT.headL L wd)), ((ts.map fun t => TT.S (TT.txt L t)).map V.str), rfl, upd_same, fun p2 hp2 => ?_⟩
    have e1 : Ex H (L2.upd (L2.upd H p (.lst ((TT.lines L wd ts).map V.str))) p2 (.lst ((ts.map fun t => TT.S (TT.txt L t)).map V.str))) := (Ex.new hp).trans (Ex.new hp2)
    have g1 : (L2.upd (L2.upd H p (.lst ((TT.lines L wd ts).map V.str))) p2 (.lst ((ts.map fun t => TT.S (TT.txt L t)).map V.str))) p2 = some (.lst ((ts.map fun t => TT.S (TT.txt L t)).map V.str)) := upd_same
    generalize (L2.upd (L2.upd H p (.lst ((TT.lines L wd ts).map V.str))) p2 (.lst ((ts.map fun t => TT.S (TT.txt L t)).map V.str))) = H1 at e1 g1 ⊢
    refine ⟨_, rfl, ⟨_, rfl⟩, _, _, rfl, rfl, by decide +kernel, sz_of (by rw [TT.S_len]; unfold TT.headL; rw [List.length_append, List.length_cons]; omega), fun p3 hp3 => ?_⟩
    rw [TT.part_head hLG.az]
    have e2 := e1.trans (Ex.new (o := .tup [.str (TT.S L), .str (Str.ofString " "), .str (TT.S (TT.num wd))]) hp3)
    have g2 := (Ex.new (o := .tup [.str (TT.S L), .str (Str.ofString " "), .str (TT.S (TT.num wd))]) hp3) _ _ g1
    refine ⟨p3, _, rfl, st_of upd_same, rfl, _, _, rfl, _, _, rfl, _, _, rfl, rfl, ?_⟩
    generalize (L2.upd H1 p3 (.tup [.str (TT.S L), .str (Str.ofString " "), .str (TT.S (TT.num wd))])) = H2 at e2 g2 ⊢
    refine ⟨_, rfl, L, rfl, hLG, fun H3 e3 => ⟨true, rfl, ite2 (fun hb => absurd hb (by simp)) fun _ => ?_⟩⟩
    refine ⟨_, rfl, wd, rfl, w1, w8, fun H4 e4 => ⟨true, rfl, ite2 (fun hb => absurd hb (by simp)) fun _ => ?_⟩⟩
    have e34 := (e2.trans e3).trans e4
    have g4 := e4 _ _ (e3 _ _ g2)
    have hxl : ((ts.map fun t => TT.S (TT.txt L t)).map V.str).length = ts.length := by simp
    have hxi : ∀ (i : Nat) (x : V), ((ts.map fun t => TT.S (TT.txt L t)).map V.str)[i]? = some x → ∃ t, ts[i]? = some t ∧ x = .str (TT.S (TT.txt L t)) := fun i x hx => by
      rw [List.getElem?_map, List.getElem?_map] at hx
      cases hc : ts[i]? with
      | none => rw [hc] at hx; cases hx
      | some u =>
        rw [hc] at hx
        exact ⟨u, rfl, (Option.some.inj hx).symm⟩
    generalize ((ts.map fun t => TT.S (TT.txt L t)).map V.str) = xs at g4 hxl hxi
    refine ⟨_, rfl, _, _, rfl, TT.num_int (show wd < 100 by omega), by show (tx (TT.num wd)).length ≤ 640; rw [tx_len]; omega, ?_⟩
    refine ⟨_, rfl, p2, xs, rfl, .inl (sq_of g4), _, _, rfl, rfl, _, rfl, ite2 (fun hb => absurd (of_decide_eq_true hb) (by omega)) fun _ => ?_⟩
    refine ⟨_, rfl, p2, xs, rfl, .inl (sq_of g4), rfl, _, rfl, ite2 (fun hb => absurd (V.int.inj (of_decide_eq_true hb)) (by omega)) fun _ => ?_⟩
    refine ⟨Nat.zero_le _, fun D hD => ?_⟩
    refine ⟨_, rfl, p2, xs, rfl, sq_of ((Ex.new hD) _ _ g4), EN.for_enumL (xs := xs) (fun i σ H' => ∃ (zs : List V) (y9 y10 y11 : Option V), σ = [some (.ref C_Searcher), some (.str (TT.whole L wd ts)), some (.str (TT.S (TT.headL L wd))), some (.ref p2), some (.str (TT.S L)), some (.str (Str.ofString " ")), some (.str (TT.S (TT.num wd))), some (.int (wd : Int)), some (.ref D), y9, y10, y11] ∧ Ex H4 H' ∧ H' D = some (.lst zs) ∧ Kids true H' zs (ts.take i))
      ⟨[], none, none, none, rfl, Ex.new hD, upd_same, .nil⟩ (fun i σ H' hw => ?_) (fun i x T' σ H' hx hw hT => ?_) (fun σ H' hw => ?_)⟩
    · obtain ⟨zs, y9, y10, y11, rfl, e5, hz, Z⟩ := hw
      exact sq_of (e5 _ _ g4)
    · obtain ⟨zs, y9, y10, y11, rfl, e5, hz, Z⟩ := hw
      obtain ⟨t, ht, rfl⟩ := hxi i x hx
      have mem := List.mem_of_getElem? ht
      obtain ⟨tok, tdp, tsz⟩ := hall t mem
      have lz := Z.len
      rw [List.length_take] at lz
      have e6 := e5.trans (Ex.new (o := .tup [.int (i : Nat), .str (TT.S (TT.txt L t))]) hT)
      have hz6 := (Ex.new (o := .tup [.int (i : Nat), .str (TT.S (TT.txt L t))]) hT) _ _ hz
      have Z6 := Z.ex (Ex.new (o := .tup [.int (i : Nat), .str (TT.S (TT.txt L t))]) hT)
      refine ⟨T', _, rfl, st_of upd_same, rfl, _, _, rfl, _, _, rfl, rfl, ?_⟩
      generalize (L2.upd H' T' (.tup [.int (i : Nat), .str (TT.S (TT.txt L t))])) = H6 at e6 hz6 Z6 ⊢
      refine ⟨_, rfl, _, rfl, t, L, wd, ts.length, rfl, hLG, tok, hsm t mem, tdp, tsz, fun H7 v e7 hv => ?_⟩
      have e47 := e6.trans e7
      refine ⟨_, rfl, _, rfl, _, rfl, _, rfl, p2, xs, rfl, .inl (sq_of (e47 _ _ g4)), t, v, true, L, wd, ts.length, by rw [hxl]; rfl, hv, tok, by omega, tdp, by omega, fun H8 e8 => ?_⟩
      refine ⟨rfl, _, rfl, ite2 (fun hb => by cases hb) fun _ => ?_⟩
      refine ⟨_, rfl, _, rfl, t, v, L, wd, ts.length, rfl, hv.ex e8, tok, hsm t mem, hL4, tdp, tsz, fun H9 e9 => ?_⟩
      refine ⟨_, rfl, rfl, _, rfl, ite2 (fun hb => absurd hb (by simp; rfl)) fun _ => ?_⟩
      have e89 := e8.trans e9
      have hz9 := e89 _ _ (e7 _ _ hz6)
      refine ⟨_, rfl, .inl ⟨rfl, _, sq_of hz9⟩, _, rfl, D, _, _, rfl, rfl, hz9, sz_lt (by omega), ?_⟩
      refine ⟨zs ++ [v], _, _, _, rfl, (e47.trans e89).mut hD, upd_same, ?_⟩
      rw [take_next' ht]
      refine Kids.upd (fun ys hh => ?_) ((Z6.ex (e7.trans e89)).snoc (hv.ex e89))
      rw [hz9] at hh
      cases hh
    · obtain ⟨zs, y9, y10, y11, rfl, e5, hz, Z⟩ := hw
      rw [hxl, List.take_length] at Z
      refine ⟨_, rfl, rfl, _, rfl, _, rfl, _, rfl, fun o dx ho hdx hne => mk_sp (kt := false) ho hdx hne hz Z hLG w1 w8 n1 n64 (fun t ht => ⟨(hall t ht).1, (hall t ht).2.1⟩) htot fun H12 e12 SO => ⟨rfl, ?_⟩⟩
      exact q _ _ ((e34.trans e5).trans e12) SO
end
end Law

namespace TR
open PySem PySem.Spec L2 Evl
theorem Kids.set {k : Bool} {H : Hp} {v : V} {t : Tr} (h : TA k H v t) : ∀ {vs : List V} {ts : List Tr} (j : Nat), Kids k H vs ts → Kids k H (vs.set j v) (ts.set j t)
  | _, _, _, .nil => .nil
  | _, _, 0, .cons _ r => .cons h r
  | _, _, j + 1, .cons h1 r => .cons h1 (Kids.set h j r)
end TR
namespace Law
open PySem PySem.Spec PyProof.Rows L2 Evl TR
theorem cut2 {A : Prop} {N : L2.St → Hp → Prop} (Pv : L2.St → Hp → Prop) (hA : (∀ σ' H', Pv σ' H' → N σ' H') → A) (rest : ∀ σ' H', Pv σ' H' → N σ' H') : A := hA rest
def spLaw (K : PySem.W.Frag) : Sp := fun vs H Q _ => ∃ (a : Addr) (ns : List Int), vs = [.ref a] ∧ SqL K H a (ns.map V.int) ∧ ns.length ≤ 63 ∧ ∀ H', Q (.bl true) H'
theorem ixN_last {n : Nat} (h : 1 ≤ n) : ixN n ((n : Int) - 1) = some (n - 1) := by
  unfold ixN
  rw [if_pos (by omega), if_pos (by omega)]
  exact congrArg some (by omega)
theorem ne_no {x y : V} (h : x = y) : ¬ ((!decide (x = y)) = true) := by simp [h]
theorem lines_fit {L : List Nat} {wd : Nat} {ts : List Tr} (G : Good L wd ts) : ((TT.lines L wd ts).map (·.length)).sum + (TT.lines L wd ts).length * (Str.ofString "\n").length ≤ 16777216 := by
  obtain ⟨hLG, w1, w8, n1, n64, hall, htot⟩ := G
  have hL4 := hLG.hi
  have nm := TT.num_len (show wd < 100 by omega)
  have ll : (TT.lines L wd ts).length = ts.length + 1 := by
    unfold TT.lines
    rw [List.length_cons, List.length_map]
  have hs := sumL (n := 80000) (ys := TT.lines L wd ts) fun y hy => by
    rcases List.mem_cons.mp hy with h | h
    · rw [h, TT.S_len]
      unfold TT.headL
      rw [List.length_append, List.length_cons]
      omega
    · obtain ⟨t, ht, rfl⟩ := List.mem_map.mp h
      obtain ⟨tok, tdp, tsz⟩ := hall t ht
      have := TT.txt_len L (TT.small_of w8 n64 tok)
      rw [TT.S_len]
      omega
  rw [show (Str.ofString "\n").length = 1 by decide +kernel, ll]
  rw [ll] at hs
  have : (ts.length + 1) * 80000 ≤ 65 * 80000 := Nat.mul_le_mul_right _ (by omega)
  omega
section
variable {P : Program} {w : World} {K : PySem.W.Frag} {mg : Str → Option Value} {base : Heap}
theorem ok_law {f C_Searcher fi fe fw fr pr : Addr} {fd fdi fde fdw : FuncData} (F : Fun K "law" "law" s_law f fd) (T : Tx mg) (M_Searcher : Mk K C_Searcher fi) (F_Searcher : FnOk P w K mg base CX0 42 fi fdi ["self", "letters", "width", "states"] (spInit C_Searcher)) (g_Searcher : mg "Searcher" = some (.ref C_Searcher))
    (b_Searcher : Binds K fdi ["self", "letters", "width", "states"] []) (O_Searcher : OE.Own K C_Searcher fe) (F_eq : FnOk P w K mg base CX0 1 fe fde ["self", "other"] (spEqO C_Searcher)) (b_eq : Binds K fde ["self", "other"] []) (S : SC K C_Searcher)
    (Me_written : Meth K C_Searcher "written" fw) (F_written : FnOk P w K mg base CX0 42 fw fdw ["self"] (spWritten C_Searcher)) (b_written : Binds K fdw ["self"] [])
    (R_Searcher : ClX.CRead K C_Searcher (.type "type")) (CM_read : ClX.CMet K C_Searcher (.type "type") "read" pr fr) (FR_read : FnR P w K mg base CX0 85 fr (fun vs H Q E => spRead C_Searcher (vs ++ []) H Q E))
    (c_lpen : Kn P w K mg base "_law_pen" ["_law_script"] 1 (spPen K)) (c_ldraw : Kn P w K mg base "_law_draw" ["_law_pen_here", "_law_many"] 1 spDraw) (c_lletters : Kn P w K mg base "_law_letters" ["_law_pen_here"] 3 spLetters)
    (c_ltrees : Kn P w K mg base "_law_trees" ["_law_pen_here", "_law_letters_here", "_law_width", "_law_many", "_law_depth"] 7 spTrees) (c_ldeep_tree : Kn P w K mg base "_law_deep_tree" ["_law_pen_here", "_law_letters_here", "_law_width", "_law_states"] 2 spDeep)
    (c_lline : Kn P w K mg base "_law_line" ["_law_tree_here", "_law_letters_here"] 41 (spLine 40)) :
    FnOk P w K mg base CX0 86 f fd ["_law_script"] (spLaw K) := by
  refine F.ok sc_law (fun vs H Q E h => ?_) (fun cdv A outer s H vs Q E hr h => ?_)
  · obtain ⟨a, ns, rfl, _⟩ := h
    rfl
  · obtain ⟨a, ns, rfl, hS, hl, q⟩ := h
    refine ⟨_, (pss_cons (ps_set (i := 1) sc_law.nd rfl (Or.inl rfl) (pe_call c_lpen.ok (hr.mono (by decide)) (by rfl) c_lpen.g c_lpen.kp c_lpen.b .nil pass0 (pa_cons (pv 0) pa_nil)))
      (pss_cons (ps_for PassesOwn.never rfl (pi_range1 (by rfl) T.range (pa_cons (pe_op op_add pe_int (pe_callB (call_min2 rfl) (by rfl) T.min (by decide +kernel) (pa_cons pe_int (pa_cons (pe_callB call_len_seq (by rfl) T.len PySem.boot_len (pa_cons (pv 0) pa_nil)) pa_nil)))) pa_nil)) (pg_name (i := 2) sc_law.nd rfl (Or.inl rfl)) (pss_cons (ps_asg (pe_tup (pa_cons (pe_call c_lletters.ok (hr.mono (by decide)) (by rfl) c_lletters.g c_lletters.kp c_lletters.b .nil pass0 (pa_cons (pv 1) pa_nil)) (pa_cons (pe_op op_add pe_int (pe_call c_ldraw.ok (hr.mono (by decide)) (by rfl) c_ldraw.g c_ldraw.kp c_ldraw.b .nil pass0 (pa_cons (pv 1) (pa_cons pe_int pa_nil)))) (pa_cons (pe_op op_add pe_int (pe_call c_ldraw.ok (hr.mono (by decide)) (by rfl) c_ldraw.g c_ldraw.kp c_ldraw.b .nil pass0 (pa_cons (pv 1) (pa_cons pe_int pa_nil)))) pa_nil)))) (pg_tup (by rfl) (pgs_cons (pg_name (i := 3) sc_law.nd rfl (Or.inr rfl)) (pgs_cons (pg_name (i := 4) sc_law.nd rfl (Or.inl rfl)) (pgs_cons (pg_name (i := 5) sc_law.nd rfl (Or.inl rfl)) pgs_nil)))))
      (pss_cons (ps_set (i := 6) sc_law.nd rfl (Or.inl rfl) (pe_call c_ltrees.ok (hr.mono (by decide)) (by rfl) c_ltrees.g c_ltrees.kp c_ltrees.b .nil pass0 (pa_cons (pv 1) (pa_cons (pv 3) (pa_cons (pv 4) (pa_cons (pv 5) (pa_cons pe_int pa_nil)))))))
      (pss_cons (ps_if (pt_cmpR op_eq (pe_call c_ldraw.ok (hr.mono (by decide)) (by rfl) c_ldraw.g c_ldraw.kp c_ldraw.b .nil pass0 (pa_cons (pv 1) (pa_cons pe_int pa_nil))) pe_int (nomark _)) (pss_one (ps_asg (pe_call c_ldeep_tree.ok (hr.mono (by decide)) (by rfl) c_ldeep_tree.g c_ldeep_tree.kp c_ldeep_tree.b .nil pass0 (pa_cons (pv 1) (pa_cons (pv 3) (pa_cons (pv 4) (pa_cons (pv 5) pa_nil))))) (pg_sub (pv 6) (pe_op op_sub (pv 5) pe_int) set_list))) pss_nil)
      (pss_cons (ps_set (i := 7) sc_law.nd rfl (Or.inl rfl) (pe_make M_Searcher F_Searcher (hr.mono (by decide)) (by rfl) g_Searcher b_Searcher .nil pass0 (pa_cons (pv 3) (pa_cons (pv 4) (pa_cons (pv 6) pa_nil)))))
      (pss_cons (ps_set (i := 8) sc_law.nd rfl (Or.inl rfl) (pe_join pe_str (pe_op op_cat (pe_lst (pa_cons (pe_op op_add_str (pe_op op_add_str (pv 3) pe_str) (pe_callTy call_str_int (by rfl) T.str PyProof.Rows.boot_str (pa_cons (pv 4) pa_nil))) pa_nil)) (pe_lc (own := [("_law_tree_here", 9)]) (g := gName 9) (tt := tYes) rfl sc_law.nd (pi_list (pv 6)) (blkOk_by (N := N_law) (sc := defScope s_law) (by decide +kernel)) (fun _ _ _ _ _ => (pg_name (i := 9) sc_law.nd rfl (Or.inl rfl))) (fun _ _ _ _ _ => pts_nil) (fun _ _ _ _ _ => (pe_call c_lline.ok (hr.mono (by decide)) (by rfl) c_lline.g c_lline.kp c_lline.b .nil pass0 (pa_cons (pv 9) (pa_cons (pv 3) pa_nil))))))))
      (pss_cons (ps_if (PW.pt (pw_or (pt_cmpR op_ne (pe_meth0 (pv 7) S.cl Me_written F_written (hr.mono (by decide)) b_written .nil pass0) (pv 8) (nomark _)) (pw_or (pt_cmpR (OE.op_ownN O_Searcher F_eq b_eq (hr.mono (by decide))) (ClX.pe_cmeth (pe_glob (v := .ref C_Searcher) rfl g_Searcher rfl) R_Searcher CM_read FR_read (hr.mono (by decide)) pass0 (pa_cons (pv 8) pa_nil)) (pv 7) (nomark _)) (pw_or1 (pt_cmpR (TR.op_neDD hr) (pe_fld (ClX.pe_cmeth (pe_glob (v := .ref C_Searcher) rfl g_Searcher rfl) R_Searcher CM_read FR_read (hr.mono (by decide)) pass0 (pa_cons (pv 8) pa_nil)) rfl) (pe_callTy call_tuple_of (by rfl) T.tuple PyProof.Rows.boot_tuple (pa_cons (pv 6) pa_nil)) (nomark _)))))) (pss_one (ps_ret pe_bl)) pss_nil)
      (pss_one (ps_if (PW.pt (pw_or (pt_cmpR op_ne (pe_meth0 (ClX.pe_cmeth (pe_glob (v := .ref C_Searcher) rfl g_Searcher rfl) R_Searcher CM_read FR_read (hr.mono (by decide)) pass0 (pa_cons (pe_meth0 (pv 7) S.cl Me_written F_written (hr.mono (by decide)) b_written .nil pass0) pa_nil)) S.cl Me_written F_written (hr.mono (by decide)) b_written .nil pass0) (pv 8) (nomark _)) (pw_or1 (pt_cmpR op_ne (pe_meth0 (pv 7) S.cl Me_written F_written (hr.mono (by decide)) b_written .nil pass0) (pv 8) (nomark _))))) (pss_one (ps_ret pe_bl)) pss_nil)))))))))
      (pss_one (ps_ret pe_bl)))), ?_⟩
    refine ⟨_, rfl, a, ns, rfl, hS, hl, fun p H0 H1 eH P0 => ?_⟩
    have hS1 : SqL K H1 a (ns.map V.int) := ex_l (eH.trans P0.1) hS
    have hm10 : 0 ≤ (4 : Int) + (if ((ns.map V.int).length : Int) < 6 then ((ns.map V.int).length : Int) else 6) ∧ (4 : Int) + (if ((ns.map V.int).length : Int) < 6 then ((ns.map V.int).length : Int) else 6) ≤ 10 := by
      by_cases q : ((ns.map V.int).length : Int) < 6
      · rw [if_pos q]; omega
      · rw [if_neg q]; omega
    refine ⟨_, rfl, a, _, rfl, .inl hS1, _, _, rfl, _, _, rfl, rfl, _, rfl, by omega, by omega, ?_⟩
    obtain ⟨m, hm⟩ : ∃ m : Nat, ((4 : Int) + (if ((ns.map V.int).length : Int) < 6 then ((ns.map V.int).length : Int) else 6)).toNat = m := ⟨_, rfl⟩
    rw [hm]
    have hm2 : m ≤ 10 := by omega
    refine for_range (lo := 0) (n := m) (fun i σ H' => ∃ y2 y3 y4 y5 y6 y7 y8 y9 : Option V, σ = [some (.ref a), some (.ref p.d), y2, y3, y4, y5, y6, y7, y8, y9] ∧ PenAt p H0 H' (2000 * i))
      ⟨none, none, none, none, none, none, none, none, rfl, P0⟩ (fun i σ H' hi hw => ?_) (fun σ H' hw => ?_)
    · obtain ⟨y2, y3, y4, y5, y6, y7, y8, y9, rfl, P1⟩ := hw
      refine ⟨_, rfl, p, H0, _, rfl, P1, by omega, fun H2 lf lq lm P2 b1 b2 b3 b4 => ?_⟩
      have hLG := lets_good b1 b2 b3 b4
      obtain ⟨L, hLe⟩ : ∃ L, lets lf lq lm = L := ⟨_, rfl⟩
      rw [hLe] at hLG ⊢
      have L2' := hLG.lo
      have L4 := hLG.hi
      refine ⟨_, rfl, p, H0, _, 8, rfl, P2, by omega, by decide, by decide, fun H3 r3 P3 r30 r31 => ⟨_, _, rfl, rfl, ?_⟩⟩
      obtain ⟨wd, hwd⟩ : ∃ wd : Nat, (1 : Int) + r3 = (wd : Int) := ⟨(1 + r3).toNat, (Int.toNat_of_nonneg (by omega)).symm⟩
      dsimp only
      rw [hwd]
      refine ⟨_, rfl, p, H0, _, 5, rfl, P3, by omega, by decide, by decide, fun H4 r4 P4 r40 r41 => ⟨_, _, rfl, rfl, ?_⟩⟩
      obtain ⟨mn, hmn⟩ : ∃ mn : Nat, (1 : Int) + r4 = (mn : Int) := ⟨(1 + r4).toNat, (Int.toNat_of_nonneg (by omega)).symm⟩
      dsimp only
      rw [hmn]
      refine ⟨by show 3 ≤ sizeLine; decide, fun tt htt => ?_⟩
      have PT := P4.ex (Ex.new (o := .tup [.str (tx L), .int (wd : Int), .int (mn : Int)]) htt)
      refine ⟨tt, _, rfl, st_of upd_same, rfl, _, _, rfl, _, _, rfl, _, _, rfl, rfl, ?_⟩
      generalize (L2.upd H4 tt (.tup [.str (tx L), .int (wd : Int), .int (mn : Int)])) = HT at PT ⊢
      refine ⟨_, rfl, _, rfl, _, rfl, _, rfl, p, H0, _, L, wd, mn, rfl, PT, by omega, L2', L4, by omega, by omega, by omega, by omega, fun B1 H5 r us ts d1 P5 hr0 hr1 KK hlen hall => ?_⟩
      have r_d := P5.lst_ne (P5.1 _ _ hr1)
      have r_c : r ≠ p.c := fun e => by
        rw [e, P0.2.2.1] at hr0
        cases hr0
      have lus := KK.len
      refine' cut2 (fun σ6 H6 => ∃ (B : Hp) (us : List V) (ts : List Tr) (z2 z7 z8 z9 : Option V), σ6 = [some (.ref a), some (.ref p.d), z2, some (.str (tx L)), some (.int (wd : Int)), some (.int (mn : Int)), some (.ref r), z7, z8, z9] ∧ Ex H0 B ∧ PenAt p B H6 (2000 * i + 1500) ∧ B r = some (.lst us) ∧ Kids true B us ts ∧ ts.length = mn ∧ ∀ t ∈ ts, t.ok L.length wd mn ∧ t.depth ≤ 40 ∧ t.size ≤ 200) (fun rest => ?_) ?_
      rotate_left
      · refine ⟨_, rfl, p, B1, _, 4, rfl, P5, by omega, by decide, by decide, fun H6 r6 P6 z0 z1 => ⟨rfl, _, rfl, ite2 (fun hb => ?_) (fun hb => ?_)⟩⟩
        · refine ⟨_, rfl, _, rfl, _, rfl, _, rfl, p, B1, _, L, wd, mn, rfl, P6, by omega, L2', L4, by omega, by omega, by omega, by omega, fun B2 H7 v t e2 P7 hv tok tdp tsz => ?_⟩
          refine ⟨_, rfl, _, rfl, _, _, rfl, rfl, r, us, _, mn - 1, rfl, rfl, P7.1 _ _ (e2 _ _ hr1), ?_, ?_⟩
          · rw [lus, hlen]
            exact ixN_last (by omega)
          refine rest _ _ ⟨L2.upd B2 r (.lst (us.set (mn - 1) v)), us.set (mn - 1) v, ts.set (mn - 1) t, _, _, _, _, rfl, (d1.trans e2).mut hr0, (P7.both r_d r_c).le (by omega), upd_same, ?_, ?_, fun x hx => ?_⟩
          · refine Kids.upd (fun ys hh => ?_) (Kids.set hv _ (KK.ex e2))
            rw [e2 _ _ hr1] at hh
            cases hh
          · rw [List.length_set]
            exact hlen
          · rcases List.mem_or_eq_of_mem_set hx with h | h
            · have := hall x h
              exact ⟨this.1, by omega, by omega⟩
            · rw [h]
              exact ⟨tok, tdp, tsz⟩
        · refine rest _ _ ⟨B1, us, ts, _, _, _, _, rfl, d1, P6.le (by omega), hr1, KK, hlen, fun x hx => ?_⟩
          have := hall x hx
          exact ⟨this.1, by omega, by omega⟩
      · rintro σ6 H6 ⟨B, us, ts, z2, z7, z8, z9, rfl, d1, P6, hr1, KK, hlen, hall⟩
        have lus := KK.len
        have hr6 := P6.1 _ _ hr1
        have KK6 := KK.ex P6.1
        have htot : TR.total ts ≤ 1000 := by
          have := total_le (s := 200) fun t ht => (hall t ht).2.2
          omega
        have hall2 : ∀ t ∈ ts, t.ok L.length wd ts.length ∧ t.depth ≤ 40 ∧ t.size ≤ 2000 := fun t ht => ⟨by rw [hlen]; exact (hall t ht).1, (hall t ht).2.1, by have := (hall t ht).2.2; omega⟩
        have G : Good L wd ts := ⟨hLG, by omega, by omega, by omega, by omega, hall2, by omega⟩
        have hdp : ∀ t ∈ ts, t.depth ≤ 40 := fun t ht => (hall t ht).2.1
        have nl := TT.numS_len (show wd < 100 by omega)
        -- the searcher
        refine ⟨_, rfl, _, rfl, _, rfl, fun o dx ho hdx hne => mk_sp (kt := false) ho hdx hne hr6 KK6 hLG (by omega) (by omega) (by omega) (by omega) (fun t ht => ⟨(hall2 t ht).1, hdp t ht⟩) (by omega) fun H7 e7 SO => ⟨rfl, ?_⟩⟩
        have hr7 := e7 _ _ hr6
        -- its text
        refine ⟨⟨_, rfl⟩, _, rfl, _, _, rfl, rfl, ?_, _, rfl, _, rfl, TT.num_log (by omega), _, _, rfl, rfl, ?_, by show 1 ≤ sizeLine; decide, fun l1 hl1 => ?_⟩
        · refine sz_of ?_
          rw [tx_len, lit_sp]
          omega
        · refine sz_of ?_
          rw [TT.app_len, tx_len, lit_sp]
          omega
        have hd := TT.head_out L wd
        rw [TT.emp_l] at hd
        rw [show tx L ++ Str.ofString " " ++ Str.ofString (toString ((wd : Nat) : Int)) = TT.S (TT.headL L wd) from hd]
        have e8 : Ex H7 (L2.upd H7 l1 (.lst [.str (TT.S (TT.headL L wd))])) := Ex.new hl1
        have g8 : (L2.upd H7 l1 (.lst [.str (TT.S (TT.headL L wd))])) l1 = some (.lst [.str (TT.S (TT.headL L wd))]) := upd_same
        generalize (L2.upd H7 l1 (.lst [.str (TT.S (TT.headL L wd))])) = H8 at e8 g8 ⊢
        have KK8 := KK6.ex (e7.trans e8)
        refine ⟨_, rfl, r, rfl, ⟨us, sq_of (e8 _ _ hr7)⟩, fun D hD => ?_⟩
        refine lc_list (g := gName 9) (tt := tYes) (vs := [9]) (fun i H' => Ex H8 H' ∧ H' D = some (.lst ((((ts.take i).map fun t => TT.S (TT.txt L t)).map V.str)))) ⟨Ex.new hD, upd_same⟩ (fun i H' _ p => sq_of (p.1 _ _ (e8 _ _ hr7))) (fun i x H' hx p => ?_) (fun H9 p => ?_)
        · obtain ⟨e9, hz⟩ := p
          obtain ⟨t, ht, hta⟩ := KK8.get hx
          have mem := List.mem_of_getElem? ht
          have hi := (List.getElem?_eq_some_iff.mp ht).1
          obtain ⟨tok, tdp, tsz⟩ := hall2 t mem
          refine ⟨rfl, _, rfl, _, rfl, t, x, L, wd, ts.length, rfl, hta.ex e9, tok, TT.small_of (by omega) (by omega) tok, L4, tdp, tsz, fun H10 e10 => ?_⟩
          refine ⟨_, e10 _ _ hz, ?_, (e9.trans e10).mut hD, ?_⟩
          · rw [List.length_map, List.length_map, List.length_take]
            exact sz_lt (by omega)
          · rw [upd_same, take_next' ht, List.map_append, List.map_append]
            rfl
        obtain ⟨e9, hz⟩ := p
        rw [lus, List.take_length] at hz
        refine ⟨l1, D, _, _, rfl, rfl, e9 _ _ g8, hz, ?_, fun l3 hl3 => ?_⟩
        · rw [List.length_map, List.length_map]
          exact sz_of (by show 1 + ts.length ≤ 100000; omega)
        have eA := (e8.trans e9).trans (Ex.new (o := .lst ([.str (TT.S (TT.headL L wd))] ++ ((ts.map fun t => TT.S (TT.txt L t)).map V.str))) hl3)
        have gA : (L2.upd H9 l3 (.lst ([.str (TT.S (TT.headL L wd))] ++ ((ts.map fun t => TT.S (TT.txt L t)).map V.str)))) l3 = some (.lst ((TT.lines L wd ts).map V.str)) := upd_same
        generalize (L2.upd H9 l3 (.lst ([.str (TT.S (TT.headL L wd))] ++ ((ts.map fun t => TT.S (TT.txt L t)).map V.str)))) = HA at eA gA ⊢
        refine ⟨_, l3, TT.lines L wd ts, rfl, rfl, .inl (sq_of gA), lines_fit G, ?_⟩
        have SOA := SO.up eA
        have hrA := eA _ _ hr7
        have KKA := KK6.ex (e7.trans eA)
        have PA6 := (P6.ex e7).ex eA
        obtain ⟨dA, sA, uA, a1, a2, a3⟩ := SOA.ex
        refine ⟨_, rfl, o, dA, _, rfl, a1, rfl, o, L, wd, ts, rfl, SOA, G, fun HB eB => ⟨_, rfl, rfl, _, rfl, ite2 (fun hb => absurd hb (ne_no rfl)) fun _ => ?_⟩⟩
        have SOB := SOA.up eB
        refine ⟨rfl, _, rfl, L, wd, ts, rfl, G, fun HC o9 eC SO9 => ?_⟩
        obtain ⟨d9, s9, u9, c1, c2, c3⟩ := SO9.ex
        have SOC := SOB.up eC
        obtain ⟨dC, sC, uC, f1, f2, f3⟩ := SOC.ex
        refine ⟨_, rfl, o9, o, d9, _, rfl, rfl, c1, .inl ⟨_, _, f1⟩, .inl ⟨o9, o, L, L, wd, wd, ts, ts, true, rfl, SO9, SOC, hdp, hdp, ⟨fun _ => ⟨rfl, rfl, rfl⟩, fun _ => rfl⟩, fun HD eD => ⟨true, rfl, _, rfl, ite2 (fun hb => absurd hb (by simp)) fun _ => ?_⟩⟩⟩
        refine ⟨rfl, _, rfl, L, wd, ts, rfl, G, fun HE o11 eE SO11 => ?_⟩
        obtain ⟨d11, s11, u11, h1, h2, h3⟩ := SO11.ex
        have eAE := ((eB.trans eC).trans eD).trans eE
        refine ⟨o11, _, d11, _, _, rfl, h1, S.cl, S.ns, sFs_s _ _ _ _, _, rfl, r, us, rfl, .inl ⟨sq_of (eAE _ _ hrA), fun t2 ht2 => ?_⟩⟩
        have e2 := Ex.new (H := HE) (o := .tup us) ht2
        refine ⟨sdata ts, sdata ts, .tup (st_of (e2 _ _ h2)) (h3.ex e2).dp, .tup (st_of upd_same) (KKA.ex (eAE.trans e2)).dp, sd_cl ts, sd_cl ts, (by have := sd_dp hdp; omega), _, rfl, ite2 (fun hb => ?_) fun _ => ?_⟩
        · rw [sd_eqv true ⟨fun _ => rfl, fun _ => rfl⟩] at hb
          cases hb
        have SOF := SOA.up (eAE.trans e2)
        have PF := PA6.ex (eAE.trans e2)
        generalize (L2.upd HE t2 (.tup us)) = HF at SOF PF ⊢
        obtain ⟨dF, sF, uF, i1, i2, i3⟩ := SOF.ex
        refine ⟨rfl, _, rfl, o, dF, _, rfl, i1, rfl, o, L, wd, ts, rfl, SOF, G, fun HG eG => ⟨L, wd, ts, rfl, G, fun HH o12 eH SO12 => ?_⟩⟩
        obtain ⟨d12, s12, u12, j1, j2, j3⟩ := SO12.ex
        refine ⟨o12, d12, _, rfl, j1, rfl, o12, L, wd, ts, rfl, SO12, G, fun HI eI => ⟨_, rfl, rfl, _, rfl, ite2 (fun hb => absurd hb (ne_no rfl)) fun _ => ?_⟩⟩
        have eFI := (eG.trans eH).trans eI
        have SOI := SOF.up eFI
        obtain ⟨dI, sI, uI, k1, k2, k3⟩ := SOI.ex
        refine ⟨_, rfl, o, dI, _, rfl, k1, rfl, o, L, wd, ts, rfl, SOI, G, fun HJ eJ => ⟨_, rfl, rfl, _, rfl, ite2 (fun hb => absurd hb (ne_no rfl)) fun _ => ?_⟩⟩
        exact ⟨_, _, _, _, _, _, _, _, rfl, ((PF.ex (eFI.trans eJ)).base P0 d1).le (by omega)⟩
    · obtain ⟨y2, y3, y4, y5, y6, y7, y8, y9, rfl, _⟩ := hw
      exact q _
end
end Law

namespace Law
open PySem PySem.Spec PyProof.Rows L2 Evl TR
theorem all_mk {l : PySem.W.OpenLaw} {w : World} {K : PySem.W.Frag} {h : Heap} {mg : Str → Option Value} {fa C pR f1 f2 f3 f4 f5 f6 f7 f8 f9 f10 f11 f12 f13 f14 f15 f16 f17 f18 f19 f20 f21 f22 f23 f24 f25 fI fE fW fR : Addr} {restR : List Value} (X : K.In h) (G : h.Ns mainGlobals mg) (hfa : mg "law" = some (.ref fa))
    {od1 an1 od2 an2 od3 an3 od4 an4 od5 an5 od6 an6 od7 an7 od8 an8 od9 an9 od10 an10 od11 an11 od12 an12 od13 an13 od14 an14 od15 an15 od16 an16 od17 an17 od18 an18 od19 an19 od20 an20 od21 an21 od22 an22 od23 an23 od24 an24 od25 an25 odI anI odE anE odW anW odR anR : Option Addr} {sl1 sl2 sl3 sl4 sl5 sl6 sl7 sl8 sl9 sl10 sl11 sl12 sl13 sl14 sl15 sl16 sl17 sl18 sl19 sl20 sl21 sl22 sl23 sl24 sl25 slI slE slW slR : Array (Option Value)} {oc1 kV1 dc1 pm1 cd1 ct1 oc2 kV2 dc2 pm2 cd2 ct2 oc3 kV3 dc3 pm3 cd3 ct3 oc4 kV4 dc4 pm4 cd4 ct4 oc5 kV5 dc5 pm5 cd5 ct5 oc6 kV6 dc6 pm6 cd6 ct6 oc7 kV7 dc7 pm7 cd7 ct7 oc8 kV8 dc8 pm8 cd8 ct8 oc9 kV9 dc9 pm9 cd9 ct9 oc10 kV10 dc10 pm10 cd10 ct10 oc11 kV11 dc11 pm11 cd11 ct11 oc12 kV12 dc12 pm12 cd12 ct12 oc13 kV13 dc13 pm13 cd13 ct13 oc14 kV14 dc14 pm14 cd14 ct14 oc15 kV15 dc15 pm15 cd15 ct15 oc16 kV16 dc16 pm16 cd16 ct16 oc17 kV17 dc17 pm17 cd17 ct17 oc18 kV18 dc18 pm18 cd18 ct18 oc19 kV19 dc19 pm19 cd19 ct19 oc20 kV20 dc20 pm20 cd20 ct20 oc21 kV21 dc21 pm21 cd21 ct21 oc22 kV22 dc22 pm22 cd22 ct22 oc23 kV23 dc23 pm23 cd23 ct23 oc24 kV24 dc24 pm24 cd24 ct24 oc25 kV25 dc25 pm25 cd25 ct25 ocI kVI dcI pmI cdI ctI ocE kVE dcE pmE cdE ctE ocW kVW dcW pmW cdW ctW ocR kVR dcR pmR cdR ctR : Value} {t0 t1 t2 t3 : Tok}
    (a1 : PySem.W.nsIn K mainGlobals "law" = some (some (.ref f1))) (l1 : K.lookup f1 = some ⟨oc1, od1, .func (PySem.W.fnOf "law" "law" (defArgs s_law) (defBody s_law) (defScope s_law) .none kV1 dc1 pm1 an1 cd1 ct1), sl1⟩) (c1 : PySem.W.codeIn K cd1 "law" = true) (k1 : PySem.W.keepIn K (.ref f1) = true)
    (a2 : PySem.W.nsIn K mainGlobals "_law_pen" = some (some (.ref f2))) (l2 : K.lookup f2 = some ⟨oc2, od2, .func (PySem.W.fnOf "_law_pen" "_law_pen" (defArgs s_lpen) (defBody s_lpen) (defScope s_lpen) .none kV2 dc2 pm2 an2 cd2 ct2), sl2⟩) (c2 : PySem.W.codeIn K cd2 "_law_pen" = true) (k2 : PySem.W.keepIn K (.ref f2) = true)
    (a3 : PySem.W.nsIn K mainGlobals "_law_draw" = some (some (.ref f3))) (l3 : K.lookup f3 = some ⟨oc3, od3, .func (PySem.W.fnOf "_law_draw" "_law_draw" (defArgs s_ldraw) (defBody s_ldraw) (defScope s_ldraw) .none kV3 dc3 pm3 an3 cd3 ct3), sl3⟩) (c3 : PySem.W.codeIn K cd3 "_law_draw" = true) (k3 : PySem.W.keepIn K (.ref f3) = true)
    (a4 : PySem.W.nsIn K mainGlobals "_law_pick" = some (some (.ref f4))) (l4 : K.lookup f4 = some ⟨oc4, od4, .func (PySem.W.fnOf "_law_pick" "_law_pick" (defArgs s_lpick) (defBody s_lpick) (defScope s_lpick) .none kV4 dc4 pm4 an4 cd4 ct4), sl4⟩) (c4 : PySem.W.codeIn K cd4 "_law_pick" = true) (k4 : PySem.W.keepIn K (.ref f4) = true)
    (a5 : PySem.W.nsIn K mainGlobals "_law_letters" = some (some (.ref f5))) (l5 : K.lookup f5 = some ⟨oc5, od5, .func (PySem.W.fnOf "_law_letters" "_law_letters" (defArgs s_lletters) (defBody s_lletters) (defScope s_lletters) .none kV5 dc5 pm5 an5 cd5 ct5), sl5⟩) (c5 : PySem.W.codeIn K cd5 "_law_letters" = true) (k5 : PySem.W.keepIn K (.ref f5) = true)
    (a6 : PySem.W.nsIn K mainGlobals "is_list" = some (some (.ref f6))) (l6 : K.lookup f6 = some ⟨oc6, od6, .func (PySem.W.fnOf "is_list" "is_list" (defArgs s_is_list) (defBody s_is_list) (defScope s_is_list) .none kV6 dc6 pm6 an6 cd6 ct6), sl6⟩) (c6 : PySem.W.codeIn K cd6 "is_list" = true) (k6 : PySem.W.keepIn K (.ref f6) = true)
    (a7 : PySem.W.nsIn K mainGlobals "is_integer" = some (some (.ref f7))) (l7 : K.lookup f7 = some ⟨oc7, od7, .func (PySem.W.fnOf "is_integer" "is_integer" (defArgs s_is_integer) (defBody s_is_integer) (defScope s_is_integer) .none kV7 dc7 pm7 an7 cd7 ct7), sl7⟩) (c7 : PySem.W.codeIn K cd7 "is_integer" = true) (k7 : PySem.W.keepIn K (.ref f7) = true)
    (a8 : PySem.W.nsIn K mainGlobals "is_whole" = some (some (.ref f8))) (l8 : K.lookup f8 = some ⟨oc8, od8, .func (PySem.W.fnOf "is_whole" "is_whole" (defArgs s_is_whole) (defBody s_is_whole) (defScope s_is_whole) .none kV8 dc8 pm8 an8 cd8 ct8), sl8⟩) (c8 : PySem.W.codeIn K cd8 "is_whole" = true) (k8 : PySem.W.keepIn K (.ref f8) = true)
    (a9 : PySem.W.nsIn K mainGlobals "are_letters" = some (some (.ref f9))) (l9 : K.lookup f9 = some ⟨oc9, od9, .func (PySem.W.fnOf "are_letters" "are_letters" (defArgs s_are_letters) (defBody s_are_letters) (defScope s_are_letters) .none kV9 dc9 pm9 an9 cd9 ct9), sl9⟩) (c9 : PySem.W.codeIn K cd9 "are_letters" = true) (k9 : PySem.W.keepIn K (.ref f9) = true)
    (a10 : PySem.W.nsIn K mainGlobals "_is_part" = some (some (.ref f10))) (l10 : K.lookup f10 = some ⟨oc10, od10, .func (PySem.W.fnOf "_is_part" "_is_part" (defArgs s_is_part) (defBody s_is_part) (defScope s_is_part) .none kV10 dc10 pm10 an10 cd10 ct10), sl10⟩) (c10 : PySem.W.codeIn K cd10 "_is_part" = true) (k10 : PySem.W.keepIn K (.ref f10) = true)
    (a11 : PySem.W.nsIn K mainGlobals "_within" = some (some (.ref f11))) (l11 : K.lookup f11 = some ⟨oc11, od11, .func (PySem.W.fnOf "_within" "_within" (defArgs s_within) (defBody s_within) (defScope s_within) .none kV11 dc11 pm11 an11 cd11 ct11), sl11⟩) (c11 : PySem.W.codeIn K cd11 "_within" = true) (k11 : PySem.W.keepIn K (.ref f11) = true)
    (a12 : PySem.W.nsIn K mainGlobals "first_wrong" = some (some (.ref f12))) (l12 : K.lookup f12 = some ⟨oc12, od12, .func (PySem.W.fnOf "first_wrong" "first_wrong" (defArgs s_first_wrong) (defBody s_first_wrong) (defScope s_first_wrong) .none kV12 dc12 pm12 an12 cd12 ct12), sl12⟩) (c12 : PySem.W.codeIn K cd12 "first_wrong" = true) (k12 : PySem.W.keepIn K (.ref f12) = true)
    (a13 : PySem.W.nsIn K mainGlobals "all_parts" = some (some (.ref f13))) (l13 : K.lookup f13 = some ⟨oc13, od13, .func (PySem.W.fnOf "all_parts" "all_parts" (defArgs s_all_parts) (defBody s_all_parts) (defScope s_all_parts) .none kV13 dc13 pm13 an13 cd13 ct13), sl13⟩) (c13 : PySem.W.codeIn K cd13 "all_parts" = true) (k13 : PySem.W.keepIn K (.ref f13) = true)
    (a14 : PySem.W.nsIn K mainGlobals "renamed" = some (some (.ref f14))) (l14 : K.lookup f14 = some ⟨oc14, od14, .func (PySem.W.fnOf "renamed" "renamed" (defArgs s_renamed) (defBody s_renamed) (defScope s_renamed) .none kV14 dc14 pm14 an14 cd14 ct14), sl14⟩) (c14 : PySem.W.codeIn K cd14 "renamed" = true) (k14 : PySem.W.keepIn K (.ref f14) = true)
    (a15 : PySem.W.nsIn K mainGlobals "tree_text" = some (some (.ref f15))) (l15 : K.lookup f15 = some ⟨oc15, od15, .func (PySem.W.fnOf "tree_text" "tree_text" (defArgs s_tree_text) (defBody s_tree_text) (defScope s_tree_text) .none kV15 dc15 pm15 an15 cd15 ct15), sl15⟩) (c15 : PySem.W.codeIn K cd15 "tree_text" = true) (k15 : PySem.W.keepIn K (.ref f15) = true)
    (a16 : PySem.W.nsIn K mainGlobals "_taken" = some (some (.ref f16))) (l16 : K.lookup f16 = some ⟨oc16, od16, .func (PySem.W.fnOf "_taken" "_taken" (defArgs s_taken) (defBody s_taken) (defScope s_taken) .none kV16 dc16 pm16 an16 cd16 ct16), sl16⟩) (c16 : PySem.W.codeIn K cd16 "_taken" = true) (k16 : PySem.W.keepIn K (.ref f16) = true)
    (a17 : PySem.W.nsIn K mainGlobals "_taken_number" = some (some (.ref f17))) (l17 : K.lookup f17 = some ⟨oc17, od17, .func (PySem.W.fnOf "_taken_number" "_taken_number" (defArgs s_taken_number) (defBody s_taken_number) (defScope s_taken_number) .none kV17 dc17 pm17 an17 cd17 ct17), sl17⟩) (c17 : PySem.W.codeIn K cd17 "_taken_number" = true) (k17 : PySem.W.keepIn K (.ref f17) = true)
    (a18 : PySem.W.nsIn K mainGlobals "_taken_tree" = some (some (.ref f18))) (l18 : K.lookup f18 = some ⟨oc18, od18, .func (PySem.W.fnOf "_taken_tree" "_taken_tree" (defArgs s_taken_tree) (defBody s_taken_tree) (defScope s_taken_tree) .none kV18 dc18 pm18 an18 cd18 ct18), sl18⟩) (c18 : PySem.W.codeIn K cd18 "_taken_tree" = true) (k18 : PySem.W.keepIn K (.ref f18) = true)
    (a19 : PySem.W.nsIn K mainGlobals "rough_tree" = some (some (.ref f19))) (l19 : K.lookup f19 = some ⟨oc19, od19, .func (PySem.W.fnOf "rough_tree" "rough_tree" (defArgs s_rough_tree) (defBody s_rough_tree) (defScope s_rough_tree) .none kV19 dc19 pm19 an19 cd19 ct19), sl19⟩) (c19 : PySem.W.codeIn K cd19 "rough_tree" = true) (k19 : PySem.W.keepIn K (.ref f19) = true)
    (a20 : PySem.W.nsIn K mainGlobals "_is_width" = some (some (.ref f20))) (l20 : K.lookup f20 = some ⟨oc20, od20, .func (PySem.W.fnOf "_is_width" "_is_width" (defArgs s_is_width) (defBody s_is_width) (defScope s_is_width) .none kV20 dc20 pm20 an20 cd20 ct20), sl20⟩) (c20 : PySem.W.codeIn K cd20 "_is_width" = true) (k20 : PySem.W.keepIn K (.ref f20) = true)
    (a21 : PySem.W.nsIn K mainGlobals "_law_tree" = some (some (.ref f21))) (l21 : K.lookup f21 = some ⟨oc21, od21, .func (PySem.W.fnOf "_law_tree" "_law_tree" (defArgs s_ltree) (defBody s_ltree) (defScope s_ltree) .none kV21 dc21 pm21 an21 cd21 ct21), sl21⟩) (c21 : PySem.W.codeIn K cd21 "_law_tree" = true) (k21 : PySem.W.keepIn K (.ref f21) = true)
    (a22 : PySem.W.nsIn K mainGlobals "_law_trees" = some (some (.ref f22))) (l22 : K.lookup f22 = some ⟨oc22, od22, .func (PySem.W.fnOf "_law_trees" "_law_trees" (defArgs s_ltrees) (defBody s_ltrees) (defScope s_ltrees) .none kV22 dc22 pm22 an22 cd22 ct22), sl22⟩) (c22 : PySem.W.codeIn K cd22 "_law_trees" = true) (k22 : PySem.W.keepIn K (.ref f22) = true)
    (a23 : PySem.W.nsIn K mainGlobals "_law_line" = some (some (.ref f23))) (l23 : K.lookup f23 = some ⟨oc23, od23, .func (PySem.W.fnOf "_law_line" "_law_line" (defArgs s_lline) (defBody s_lline) (defScope s_lline) .none kV23 dc23 pm23 an23 cd23 ct23), sl23⟩) (c23 : PySem.W.codeIn K cd23 "_law_line" = true) (k23 : PySem.W.keepIn K (.ref f23) = true)
    (a24 : PySem.W.nsIn K mainGlobals "_law_deep_tree" = some (some (.ref f24))) (l24 : K.lookup f24 = some ⟨oc24, od24, .func (PySem.W.fnOf "_law_deep_tree" "_law_deep_tree" (defArgs s_ldeep_tree) (defBody s_ldeep_tree) (defScope s_ldeep_tree) .none kV24 dc24 pm24 an24 cd24 ct24), sl24⟩) (c24 : PySem.W.codeIn K cd24 "_law_deep_tree" = true) (k24 : PySem.W.keepIn K (.ref f24) = true)
    (a25 : PySem.W.nsIn K mainGlobals "_taken_branches" = some (some (.ref f25))) (l25 : K.lookup f25 = some ⟨oc25, od25, .func (PySem.W.fnOf "_taken_branches" "_taken_branches" (defArgs s_taken_branches) (defBody s_taken_branches) (defScope s_taken_branches) .none kV25 dc25 pm25 an25 cd25 ct25), sl25⟩) (c25 : PySem.W.codeIn K cd25 "_taken_branches" = true) (k25 : PySem.W.keepIn K (.ref f25) = true)
    (aC : PySem.W.nsIn K mainGlobals "Searcher" = some (some (.ref C)))
    (aI : PySem.W.findIn K (.ref C) "__init__" = some (some (.ref fI))) (lI : K.lookup fI = some ⟨ocI, odI, .func (PySem.W.fnOf "__init__" "Searcher.__init__" (defArgs s_Searcher_init) (defBody s_Searcher_init) (defScope s_Searcher_init) .none kVI dcI pmI anI cdI ctI), slI⟩) (cI : PySem.W.codeIn K cdI "Searcher.__init__" = true) (kI : PySem.W.keepIn K (.ref fI) = true) (nI : PySem.W.isFn K (.ref fI) = true)
    (aE : PySem.W.findIn K (.ref C) "__eq__" = some (some (.ref fE))) (lE : K.lookup fE = some ⟨ocE, odE, .func (PySem.W.fnOf "__eq__" "Searcher.__eq__" (defArgs s_Searcher_eq) (defBody s_Searcher_eq) (defScope s_Searcher_eq) .none kVE dcE pmE anE cdE ctE), slE⟩) (cE : PySem.W.codeIn K cdE "Searcher.__eq__" = true) (kE : PySem.W.keepIn K (.ref fE) = true) (nE : PySem.W.isFn K (.ref fE) = true)
    (aW : PySem.W.findIn K (.ref C) "written" = some (some (.ref fW))) (lW : K.lookup fW = some ⟨ocW, odW, .func (PySem.W.fnOf "written" "Searcher.written" (defArgs s_Searcher_written) (defBody s_Searcher_written) (defScope s_Searcher_written) .none kVW dcW pmW anW cdW ctW), slW⟩) (cW : PySem.W.codeIn K cdW "Searcher.written" = true) (kW : PySem.W.keepIn K (.ref fW) = true) (nW : PySem.W.isFn K (.ref fW) = true)
    (p1 : PySem.W.findCls K (.ref C) (.type "type") "read" = some (.get (.builtin "classmethod.__get__") (.ref pR) .none (.ref C))) (p2 : PySem.W.recIn K pR "classmethod" = some (.ref fR :: restR)) (p3 : PySem.W.fnIn K fR = true) (p4 : PySem.W.readsIn K C (.type "type") = true) (p5 : PySem.W.specialIn K (.ref C) "__getattribute__" = some (some (.builtin "type.__getattribute__"))) (lR : K.lookup fR = some ⟨ocR, odR, .func (PySem.W.fnOf "read" "Searcher.read" (defArgs s_Searcher_read) (defBody s_Searcher_read) (defScope s_Searcher_read) .none kVR dcR pmR anR cdR ctR), slR⟩) (cR : PySem.W.codeIn K cdR "Searcher.read" = true) (kR : PySem.W.keepIn K (.ref fR) = true)
    (m1 : PySem.W.makesIn K C = true) (m2 : PySem.W.keepIn K (.ref C) = true) (g1 : PySem.W.plainGet K C Str.empty = true) (g2 : PySem.W.hasDictIn K C = true) (g3 : PySem.W.plainOver K C = true) (g4 : PySem.W.findIn K (.ref C) "__setattr__" = some (some (.builtin "object.__setattr__"))) (u1 : PySem.W.findIn K (.ref C) "letters" = some none) (u2 : PySem.W.findIn K (.ref C) "width" = some none) (u3 : PySem.W.findIn K (.ref C) "states" = some none) (u4 : PySem.W.findIn K (.ref C) "nodes" = some none) (i1 : PySem.W.findIn K (.ref C) "__class__" = some (some (.builtin "object.__class__"))) (i2 : PySem.W.specialIn K (.builtin "object.__class__") "__get__" = some (some (.builtin "getset_descriptor.__get__"))) (i3 : PySem.W.takesIn K (.builtin "object.__class__") = some true) (i4 : PySem.W.mroIn K C (.type "object") = some true) (j1 : PySem.W.isClsIn K C = true) (j2 : PySem.W.typeIn K (.ref C) = some (.type "type")) (i7 : PySem.W.findIn K (.ref C) "__ne__" = some (some (.builtin "object.__ne__")))
    (v0 : PySem.W.nsIn K mainGlobals "DEEPEST" = some (some (.int 40 t0))) (v1 : PySem.W.nsIn K mainGlobals "MOST_WIDTH" = some (some (.int 8 t1))) (v2 : PySem.W.nsIn K mainGlobals "MOST_STATES" = some (some (.int 64 t2))) (v3 : PySem.W.nsIn K mainGlobals "MOST_NODES" = some (some (.int 3000 t3)))
    (z0 : PySem.W.nsIn K mainGlobals "len" = some none) (z1 : PySem.W.nsIn K mainGlobals "int" = some none) (z2 : PySem.W.nsIn K mainGlobals "bool" = some none) (z3 : PySem.W.nsIn K mainGlobals "abs" = some none) (z4 : PySem.W.nsIn K mainGlobals "min" = some none) (z5 : PySem.W.nsIn K mainGlobals "list" = some none) (z6 : PySem.W.nsIn K mainGlobals "all" = some none) (z7 : PySem.W.nsIn K mainGlobals "range" = some none) (z8 : PySem.W.nsIn K mainGlobals "isinstance" = some none) (z9 : PySem.W.nsIn K mainGlobals "str" = some none) (z10 : PySem.W.nsIn K mainGlobals "set" = some none) (z11 : PySem.W.nsIn K mainGlobals "tuple" = some none) (z12 : PySem.W.nsIn K mainGlobals "enumerate" = some none) (z13 : PySem.W.nsIn K mainGlobals "reversed" = some none) (z14 : PySem.W.nsIn K mainGlobals "sum" = some none) (z15 : PySem.W.nsIn K mainGlobals "zip" = some none) :
    ∃ fd : FuncData, (∀ (s : Shared) (v : Value), BindsTo s fd ⟨[v], []⟩ [("_law_script", v)]) ∧ ∀ base : Heap, K.In base → base.Ns mainGlobals mg → FnOk l.prog w K mg base CX0 86 fa fd ["_law_script"] (spLaw K) := by
  have e := hfa.symm.trans (PySem.W.mg_of X G a1)
  cases e
  have F1 := fun_mk (st := s_law) l1 c1 k1
  have F2 := fun_mk (st := s_lpen) l2 c2 k2
  have b2 := F2.binds (ps := ["_law_script"]) fun _ _ _ _ _ _ us hl => match us, hl with | [_], _ => rfl
  have F3 := fun_mk (st := s_ldraw) l3 c3 k3
  have b3 := F3.binds (ps := ["_law_pen_here", "_law_many"]) fun _ _ _ _ _ _ us hl => match us, hl with | [_, _], _ => rfl
  have F4 := fun_mk (st := s_lpick) l4 c4 k4
  have b4 := F4.binds (ps := ["_law_pen_here", "_law_some"]) fun _ _ _ _ _ _ us hl => match us, hl with | [_, _], _ => rfl
  have F5 := fun_mk (st := s_lletters) l5 c5 k5
  have b5 := F5.binds (ps := ["_law_pen_here"]) fun _ _ _ _ _ _ us hl => match us, hl with | [_], _ => rfl
  have F6 := fun_mk (st := s_is_list) l6 c6 k6
  have b6 := F6.binds (ps := ["value"]) fun _ _ _ _ _ _ us hl => match us, hl with | [_], _ => rfl
  have F7 := fun_mk (st := s_is_integer) l7 c7 k7
  have b7 := F7.binds (ps := ["value"]) fun _ _ _ _ _ _ us hl => match us, hl with | [_], _ => rfl
  have F8 := fun_mk (st := s_is_whole) l8 c8 k8
  have b8 := F8.binds (ps := ["value", "low", "high"]) fun _ _ _ _ _ _ us hl => match us, hl with | [_, _, _], _ => rfl
  have F9 := fun_mk (st := s_are_letters) l9 c9 k9
  have b9 := F9.binds (ps := ["value"]) fun _ _ _ _ _ _ us hl => match us, hl with | [_], _ => rfl
  have F10 := fun_mk (st := s_is_part) l10 c10 k10
  have b10 := F10.binds (ps := ["part", "letters", "width", "states"]) fun _ _ _ _ _ _ us hl => match us, hl with | [_, _, _, _], _ => rfl
  have F11 := fun_mk (st := s_within) l11 c11 k11
  have b11 := F11.binds (ps := ["part"]) fun _ _ _ _ _ _ us hl => match us, hl with | [_], _ => rfl
  have F12 := fun_mk (st := s_first_wrong) l12 c12 k12
  have b12 := F12.binds (ps := ["tree", "letters", "width", "states"]) fun _ _ _ _ _ _ us hl => match us, hl with | [_, _, _, _], _ => rfl
  have F13 := fun_mk (st := s_all_parts) l13 c13 k13
  have b13 := F13.binds (ps := ["tree"]) fun _ _ _ _ _ _ us hl => match us, hl with | [_], _ => rfl
  have F14 := fun_mk (st := s_renamed) l14 c14 k14
  have b14 := F14.binds (ps := ["tree", "names"]) fun _ _ _ _ _ _ us hl => match us, hl with | [_, _], _ => rfl
  have F15 := fun_mk (st := s_tree_text) l15 c15 k15
  have b15 := F15.binds (ps := ["letters", "tree"]) fun _ _ _ _ _ _ us hl => match us, hl with | [_, _], _ => rfl
  have F16 := fun_mk (st := s_taken) l16 c16 k16
  have b16 := F16.binds (ps := ["words"]) fun _ _ _ _ _ _ us hl => match us, hl with | [_], _ => rfl
  have F17 := fun_mk (st := s_taken_number) l17 c17 k17
  have b17 := F17.binds (ps := ["words"]) fun _ _ _ _ _ _ us hl => match us, hl with | [_], _ => rfl
  have F18 := fun_mk (st := s_taken_tree) l18 c18 k18
  have b18 := F18.binds (ps := ["letters", "words", "depth"]) fun _ _ _ _ _ _ us hl => match us, hl with | [_, _, _], _ => rfl
  have F19 := fun_mk (st := s_rough_tree) l19 c19 k19
  have b19 := F19.binds (ps := ["letters", "line"]) fun _ _ _ _ _ _ us hl => match us, hl with | [_, _], _ => rfl
  have F20 := fun_mk (st := s_is_width) l20 c20 k20
  have b20 := F20.binds (ps := ["text"]) fun _ _ _ _ _ _ us hl => match us, hl with | [_], _ => rfl
  have F21 := fun_mk (st := s_ltree) l21 c21 k21
  have b21 := F21.binds (ps := ["_law_pen_here", "_law_letters_here", "_law_width", "_law_states", "_law_depth"]) fun _ _ _ _ _ _ us hl => match us, hl with | [_, _, _, _, _], _ => rfl
  have F22 := fun_mk (st := s_ltrees) l22 c22 k22
  have b22 := F22.binds (ps := ["_law_pen_here", "_law_letters_here", "_law_width", "_law_many", "_law_depth"]) fun _ _ _ _ _ _ us hl => match us, hl with | [_, _, _, _, _], _ => rfl
  have F23 := fun_mk (st := s_lline) l23 c23 k23
  have b23 := F23.binds (ps := ["_law_tree_here", "_law_letters_here"]) fun _ _ _ _ _ _ us hl => match us, hl with | [_, _], _ => rfl
  have F24 := fun_mk (st := s_ldeep_tree) l24 c24 k24
  have b24 := F24.binds (ps := ["_law_pen_here", "_law_letters_here", "_law_width", "_law_states"]) fun _ _ _ _ _ _ us hl => match us, hl with | [_, _, _, _], _ => rfl
  have F25 := fun_mk (st := s_taken_branches) l25 c25 k25
  have b25 := F25.binds (ps := ["letters", "words", "depth"]) fun _ _ _ _ _ _ us hl => match us, hl with | [_, _, _], _ => rfl
  have FI := fun_mk (x := "__init__") (qual := "Searcher.__init__") (st := s_Searcher_init) lI cI kI
  have bI := FI.binds (ps := ["self", "letters", "width", "states"]) fun _ _ _ _ _ _ us hl => match us, hl with | [_, _, _, _], _ => rfl
  have FE := fun_mk (x := "__eq__") (qual := "Searcher.__eq__") (st := s_Searcher_eq) lE cE kE
  have bE := FE.binds (ps := ["self", "other"]) fun _ _ _ _ _ _ us hl => match us, hl with | [_, _], _ => rfl
  have FW := fun_mk (x := "written") (qual := "Searcher.written") (st := s_Searcher_written) lW cW kW
  have bW := FW.binds (ps := ["self"]) fun _ _ _ _ _ _ us hl => match us, hl with | [_], _ => rfl
  have FR := fun_mk (x := "read") (qual := "Searcher.read") (st := s_Searcher_read) lR cR kR
  have bR := FR.binds (ps := ["cls", "text"]) fun _ _ _ _ _ _ us hl => match us, hl with | [_, _], _ => rfl
  have T : Tx mg := { len := PySem.W.mg_none_of X G z0, int := PySem.W.mg_none_of X G z1, bool := PySem.W.mg_none_of X G z2, abs := PySem.W.mg_none_of X G z3, min := PySem.W.mg_none_of X G z4, list := PySem.W.mg_none_of X G z5, all := PySem.W.mg_none_of X G z6, range := PySem.W.mg_none_of X G z7, isinstance := PySem.W.mg_none_of X G z8, str := PySem.W.mg_none_of X G z9, set := PySem.W.mg_none_of X G z10, tuple := PySem.W.mg_none_of X G z11, enumerate := PySem.W.mg_none_of X G z12, reversed := PySem.W.mg_none_of X G z13, sum := PySem.W.mg_none_of X G z14, zip := PySem.W.mg_none_of X G z15, k_DEEPEST := _, m_DEEPEST := PySem.W.mg_of X G v0, k_MOST_WIDTH := _, m_MOST_WIDTH := PySem.W.mg_of X G v1, k_MOST_STATES := _, m_MOST_STATES := PySem.W.mg_of X G v2, k_MOST_NODES := _, m_MOST_NODES := PySem.W.mg_of X G v3 }
  have S : SC K C := ⟨⟨g1, g2, g3, g4⟩, u1, u2, u3, u4⟩
  have i5 : PySem.W.kitOne K (.ref C) (.ref C) = some true := by
    unfold PySem.W.kitOne
    rw [if_pos (by simp)]
  have i6 : PySem.W.kitOne K (.type "tuple") (.ref C) = some false := by
    unfold PySem.W.kitOne PySem.W.kitCls
    rw [if_neg (by simp)]
    show (if ((PySem.W.clsIn K C).isSome && PySem.W.typeIn K (.ref C) == some (.type "type")) = true then PySem.W.subIn K (.type "tuple") (.ref C) else none) = some false
    rw [if_pos (by rw [Bool.and_eq_true]; exact ⟨j1, by rw [j2]; simp⟩)]
    exact OE.sub_tup
  have S2 : SE K C := ⟨⟨⟨g1, g2, g3, g4⟩, i1, i2, i3, i4, i5⟩, i6⟩
  have mC := PySem.W.mg_of X G aC
  refine ⟨PySem.W.fnOf "law" "law" (defArgs s_law) (defBody s_law) (defScope s_law) .none kV1 dc1 pm1 an1 cd1 ct1, fun s v => .of_eq rfl, fun base _ _ => ?_⟩
  have c_lpen : Kn l.prog w K mg base "_law_pen" ["_law_script"] 1 (spPen K) := ⟨f2, _, ok_pen F2 T , PySem.W.mg_of X G a2, F2.kp, b2⟩
  have c_ldraw : Kn l.prog w K mg base "_law_draw" ["_law_pen_here", "_law_many"] 1 spDraw := ⟨f3, _, ok_draw F3 T , PySem.W.mg_of X G a3, F3.kp, b3⟩
  have c_pickL : Kn l.prog w K mg base "_law_pick" ["_law_pen_here", "_law_some"] 2 spPickL := ⟨f4, _, ok_pickL F4 T c_ldraw, PySem.W.mg_of X G a4, F4.kp, b4⟩
  have c_lletters : Kn l.prog w K mg base "_law_letters" ["_law_pen_here"] 3 spLetters := ⟨f5, _, ok_letters F5 T c_ldraw c_pickL, PySem.W.mg_of X G a5, F5.kp, b5⟩
  have c_is_list : Kn l.prog w K mg base "is_list" ["value"] 1 spIsQ := ⟨f6, _, ok_isQ F6 T , PySem.W.mg_of X G a6, F6.kp, b6⟩
  have c_is_integer : Kn l.prog w K mg base "is_integer" ["value"] 1 spIsInt := ⟨f7, _, ok_integer F7 T , PySem.W.mg_of X G a7, F7.kp, b7⟩
  have c_is_whole : Kn l.prog w K mg base "is_whole" ["value", "low", "high"] 2 spWhole := ⟨f8, _, ok_whole F8 T c_is_integer, PySem.W.mg_of X G a8, F8.kp, b8⟩
  have c_are_letters : Kn l.prog w K mg base "are_letters" ["value"] 1 spAreL := ⟨f9, _, ok_areL F9 T , PySem.W.mg_of X G a9, F9.kp, b9⟩
  have c_is_part : Kn l.prog w K mg base "_is_part" ["part", "letters", "width", "states"] 3 spIsPart := ⟨f10, _, ok_ispart F10 T c_is_list c_is_whole, PySem.W.mg_of X G a10, F10.kp, b10⟩
  have c_within : Kn l.prog w K mg base "_within" ["part"] 1 spWithin := ⟨f11, _, ok_within F11 T , PySem.W.mg_of X G a11, F11.kp, b11⟩
  have c_first_wrong : Kn l.prog w K mg base "first_wrong" ["tree", "letters", "width", "states"] 4 spFW := ⟨f12, _, ok_fw F12 T c_is_part c_within, PySem.W.mg_of X G a12, F12.kp, b12⟩
  have c_all_parts : Kn l.prog w K mg base "all_parts" ["tree"] 2 spAll := ⟨f13, _, ok_all F13 T c_within, PySem.W.mg_of X G a13, F13.kp, b13⟩
  have c_renamed : Kn l.prog w K mg base "renamed" ["tree", "names"] 41 (spRen 40) := ⟨f14, _, ok_ren0 F14 T (PySem.W.mg_of X G a14) b14 40, PySem.W.mg_of X G a14, F14.kp, b14⟩
  have c_tree_text : Kn l.prog w K mg base "tree_text" ["letters", "tree"] 41 (spTxt 40) := ⟨f15, _, ok_txt F15 T (PySem.W.mg_of X G a15) b15 40, PySem.W.mg_of X G a15, F15.kp, b15⟩
  have c_taken : Kn l.prog w K mg base "_taken" ["words"] 1 spTaken := ⟨f16, _, ok_taken F16 T , PySem.W.mg_of X G a16, F16.kp, b16⟩
  have c_taken_number : Kn l.prog w K mg base "_taken_number" ["words"] 2 spTakNum := ⟨f17, _, ok_taknum F17 T c_taken, PySem.W.mg_of X G a17, F17.kp, b17⟩
  have c_taken_tree : Kn l.prog w K mg base "_taken_tree" ["letters", "words", "depth"] 83 (spTake 40) := ⟨f18, _, ok_take F18 F25 T (PySem.W.mg_of X G a18) b18 (PySem.W.mg_of X G a25) b25 c_taken c_taken_number 40, PySem.W.mg_of X G a18, F18.kp, b18⟩
  have c_rough_tree : Kn l.prog w K mg base "rough_tree" ["letters", "line"] 84 spRough := ⟨f19, _, ok_rough F19 T c_taken_tree, PySem.W.mg_of X G a19, F19.kp, b19⟩
  have c_is_width : Kn l.prog w K mg base "_is_width" ["text"] 1 spWid := ⟨f20, _, ok_wid F20 T , PySem.W.mg_of X G a20, F20.kp, b20⟩
  have c_ltree : Kn l.prog w K mg base "_law_tree" ["_law_pen_here", "_law_letters_here", "_law_width", "_law_states", "_law_depth"] 6 (spTree 4) := ⟨f21, _, ok_tree F21 T (PySem.W.mg_of X G a21) b21 c_ldraw 4, PySem.W.mg_of X G a21, F21.kp, b21⟩
  have c_ltrees : Kn l.prog w K mg base "_law_trees" ["_law_pen_here", "_law_letters_here", "_law_width", "_law_many", "_law_depth"] 7 spTrees := ⟨f22, _, ok_trees F22 T c_ltree, PySem.W.mg_of X G a22, F22.kp, b22⟩
  have c_lline : Kn l.prog w K mg base "_law_line" ["_law_tree_here", "_law_letters_here"] 41 (spLine 40) := ⟨f23, _, ok_lline F23 T (PySem.W.mg_of X G a23) b23 40, PySem.W.mg_of X G a23, F23.kp, b23⟩
  have c_ldeep_tree : Kn l.prog w K mg base "_law_deep_tree" ["_law_pen_here", "_law_letters_here", "_law_width", "_law_states"] 2 spDeep := ⟨f24, _, ok_deep F24 T c_ldraw, PySem.W.mg_of X G a24, F24.kp, b24⟩
  have I0 := ok_init FI T S c_are_letters c_is_whole c_is_list c_first_wrong c_all_parts c_renamed
  have MI : Mk K C fI := ⟨m1, aI, nI, m2⟩
  have RR := ok_read FR T S MI I0 bI c_are_letters c_is_width c_rough_tree c_first_wrong c_tree_text
  exact ok_law F1 T MI I0 mC bI ⟨aE, nE, i7, i4⟩ (ok_eq FE T mC S S2) bE S ⟨aW, nW, kW⟩ (ok_written FW T S c_tree_text) bW ⟨p4, p5⟩ ⟨p1, ⟨_, p2⟩, p3⟩ (RR.raw bR .nil) c_lpen c_ldraw c_lletters c_ltrees c_ldeep_tree c_lline
end Law
open PySem PySem.W PyProof.Rows
set_option maxHeartbeats 0 in
theorem PySem.Challenge.cw_wordskips_k07_whole_texts_of_searchers_holds : PySem.Challenge.rw_wordskips_k07_whole_texts_of_searchers.Holds := by
  w_on; o_law; k_head; (case hw => w_witness2)
  k_fill
  refine L2.walk_of (l := PySem.Challenge.rw_wordskips_k07_whole_texts_of_searchers) (n := 63) (k := 86) (x := "_law_script") (CX := fun _ => L2.CX0) (sp := fun w => Law.spLaw _) rfl (by decide) rfl ⟨rfl, by decide, by decide⟩ (fun w h Y => PySem.W.kIn_of Y) ?F (fun _ _ a ns hl _ hS => ⟨a, ns, rfl, hS, hl, fun _ => rfl⟩) (fun _ _ _ _ _ h => h)
  case F =>
    intro w mg fa h KX G hmg
    refine' Law.all_mk KX G hmg (a1 := ?a1) (l1 := ?l1) (c1 := ?c1) (k1 := ?k1) (a2 := ?a2) (l2 := ?l2) (c2 := ?c2) (k2 := ?k2) (a3 := ?a3) (l3 := ?l3) (c3 := ?c3) (k3 := ?k3) (a4 := ?a4) (l4 := ?l4) (c4 := ?c4) (k4 := ?k4) (a5 := ?a5) (l5 := ?l5) (c5 := ?c5) (k5 := ?k5) (a6 := ?a6) (l6 := ?l6) (c6 := ?c6) (k6 := ?k6) (a7 := ?a7) (l7 := ?l7) (c7 := ?c7) (k7 := ?k7) (a8 := ?a8) (l8 := ?l8) (c8 := ?c8) (k8 := ?k8) (a9 := ?a9) (l9 := ?l9) (c9 := ?c9) (k9 := ?k9) (a10 := ?a10) (l10 := ?l10) (c10 := ?c10) (k10 := ?k10) (a11 := ?a11) (l11 := ?l11) (c11 := ?c11) (k11 := ?k11) (a12 := ?a12) (l12 := ?l12) (c12 := ?c12) (k12 := ?k12) (a13 := ?a13) (l13 := ?l13) (c13 := ?c13) (k13 := ?k13) (a14 := ?a14) (l14 := ?l14) (c14 := ?c14) (k14 := ?k14) (a15 := ?a15) (l15 := ?l15) (c15 := ?c15) (k15 := ?k15) (a16 := ?a16) (l16 := ?l16) (c16 := ?c16) (k16 := ?k16) (a17 := ?a17) (l17 := ?l17) (c17 := ?c17) (k17 := ?k17) (a18 := ?a18) (l18 := ?l18) (c18 := ?c18) (k18 := ?k18) (a19 := ?a19) (l19 := ?l19) (c19 := ?c19) (k19 := ?k19) (a20 := ?a20) (l20 := ?l20) (c20 := ?c20) (k20 := ?k20) (a21 := ?a21) (l21 := ?l21) (c21 := ?c21) (k21 := ?k21) (a22 := ?a22) (l22 := ?l22) (c22 := ?c22) (k22 := ?k22) (a23 := ?a23) (l23 := ?l23) (c23 := ?c23) (k23 := ?k23) (a24 := ?a24) (l24 := ?l24) (c24 := ?c24) (k24 := ?k24) (a25 := ?a25) (l25 := ?l25) (c25 := ?c25) (k25 := ?k25) (aC := ?aC) (aI := ?aI) (lI := ?lI) (cI := ?cI) (kI := ?kI) (nI := ?nI) (aE := ?aE) (lE := ?lE) (cE := ?cE) (kE := ?kE) (nE := ?nE) (aW := ?aW) (lW := ?lW) (cW := ?cW) (kW := ?kW) (nW := ?nW) (p1 := ?p1) (p2 := ?p2) (lR := ?lR) (cR := ?cR) (kR := ?kR) (p3 := ?p3) (p4 := ?p4) (p5 := ?p5) (m1 := ?m1) (m2 := ?m2) (g1 := ?g1) (g2 := ?g2) (g3 := ?g3) (g4 := ?g4) (u1 := ?u1) (u2 := ?u2) (u3 := ?u3) (u4 := ?u4) (i1 := ?i1) (i2 := ?i2) (i3 := ?i3) (i4 := ?i4) (j1 := ?j1) (j2 := ?j2) (i7 := ?i7) (v0 := ?v0) (v1 := ?v1) (v2 := ?v2) (v3 := ?v3) (z0 := ?z0) (z1 := ?z1) (z2 := ?z2) (z3 := ?z3) (z4 := ?z4) (z5 := ?z5) (z6 := ?z6) (z7 := ?z7) (z8 := ?z8) (z9 := ?z9) (z10 := ?z10) (z11 := ?z11) (z12 := ?z12) (z13 := ?z13) (z14 := ?z14) (z15 := ?z15)
    (case a1 => k_is); (case l1 => k_is); (case c1 => k_is); (case k1 => k_is); (case a2 => k_is); (case l2 => k_is); (case c2 => k_is); (case k2 => k_is); (case a3 => k_is); (case l3 => k_is); (case c3 => k_is); (case k3 => k_is); (case a4 => k_is); (case l4 => k_is); (case c4 => k_is); (case k4 => k_is); (case a5 => k_is); (case l5 => k_is); (case c5 => k_is); (case k5 => k_is); (case a6 => k_is); (case l6 => k_is); (case c6 => k_is); (case k6 => k_is); (case a7 => k_is); (case l7 => k_is); (case c7 => k_is); (case k7 => k_is); (case a8 => k_is); (case l8 => k_is); (case c8 => k_is); (case k8 => k_is); (case a9 => k_is); (case l9 => k_is); (case c9 => k_is); (case k9 => k_is); (case a10 => k_is); (case l10 => k_is); (case c10 => k_is); (case k10 => k_is); (case a11 => k_is); (case l11 => k_is); (case c11 => k_is); (case k11 => k_is); (case a12 => k_is); (case l12 => k_is); (case c12 => k_is); (case k12 => k_is); (case a13 => k_is); (case l13 => k_is); (case c13 => k_is); (case k13 => k_is); (case a14 => k_is); (case l14 => k_is); (case c14 => k_is); (case k14 => k_is); (case a15 => k_is); (case l15 => k_is); (case c15 => k_is); (case k15 => k_is); (case a16 => k_is); (case l16 => k_is); (case c16 => k_is); (case k16 => k_is); (case a17 => k_is); (case l17 => k_is); (case c17 => k_is); (case k17 => k_is); (case a18 => k_is); (case l18 => k_is); (case c18 => k_is); (case k18 => k_is); (case a19 => k_is); (case l19 => k_is); (case c19 => k_is); (case k19 => k_is); (case a20 => k_is); (case l20 => k_is); (case c20 => k_is); (case k20 => k_is); (case a21 => k_is); (case l21 => k_is); (case c21 => k_is); (case k21 => k_is); (case a22 => k_is); (case l22 => k_is); (case c22 => k_is); (case k22 => k_is); (case a23 => k_is); (case l23 => k_is); (case c23 => k_is); (case k23 => k_is); (case a24 => k_is); (case l24 => k_is); (case c24 => k_is); (case k24 => k_is); (case a25 => k_is); (case l25 => k_is); (case c25 => k_is); (case k25 => k_is); (case aC => k_is); (case aI => k_is); (case lI => k_is); (case cI => k_is); (case kI => k_is); (case nI => k_is); (case aE => k_is); (case lE => k_is); (case cE => k_is); (case kE => k_is); (case nE => k_is); (case aW => k_is); (case lW => k_is); (case cW => k_is); (case kW => k_is); (case nW => k_is); (case p1 => k_is); (case p2 => k_is); (case lR => k_is); (case cR => k_is); (case kR => k_is); (case p3 => k_is); (case p4 => k_is); (case p5 => k_is); (case m1 => k_is); (case m2 => k_is); (case g1 => k_is); (case g2 => k_is); (case g3 => k_is); (case g4 => k_is); (case u1 => k_is); (case u2 => k_is); (case u3 => k_is); (case u4 => k_is); (case i1 => k_is); (case i2 => k_is); (case i3 => k_is); (case i4 => k_is); (case j1 => k_is); (case j2 => k_is); (case i7 => k_is); (case v0 => k_is); (case v1 => k_is); (case v2 => k_is); (case v3 => k_is); (case z0 => k_is); (case z1 => k_is); (case z2 => k_is); (case z3 => k_is); (case z4 => k_is); (case z5 => k_is); (case z6 => k_is); (case z7 => k_is); (case z8 => k_is); (case z9 => k_is); (case z10 => k_is); (case z11 => k_is); (case z12 => k_is); (case z13 => k_is); (case z14 => k_is); (case z15 => k_is)


import PyProof.Rows.All
import Wide.All
import OpenK.AllK
import Wide.FinOn
import HandS.ForMost
import HandS.Evl
import KE.GoesZip
import PyProof.EnumMake
import PySem.Challenge.RW_wordskips_k03_knowns
set_option Elab.async false
set_option linter.all false
set_option maxRecDepth 100000
set_option maxHeartbeats 4000000
namespace ZS
open PySem PySem.Spec PyProof.Rows L2

/-- two texts side by side: a new pair of signs at each turn -/
def ItzS (x y : Str) : It :=
  ⟨fun i _ => i < x.cps.size ∧ i < y.cps.size,
   fun i H v H' => ∃ T c d, v = .ref T ∧ H T = none ∧ H' = upd H T (.tup [.str ⟨#[c]⟩, .str ⟨#[d]⟩]) ∧ x.cps[i]? = some c ∧ y.cps[i]? = some d,
   fun i _ => i = min x.cps.size y.cps.size⟩
theorem drawsS {prog : Program} {w : World} {A : Around} (hh : A.handled = none) (it : Addr) (x : Str) (t : Tok) :
    Draws prog w A it [it] x.cps.size (fun i v => ∃ c u, x.cps[i]? = some c ∧ v = .str ⟨#[c]⟩ u) (fun i h => h.IsStrIter it (strIterType x) x t i) := by
  unfold strIterType
  cases x.cps.all (· < 128)
  · exact Draws.strWide hh it x t
  · exact Draws.strAscii hh it x t
def StZ (x y : Str) (t u : Tok) (z TI TO i1 i2 : Addr) (i : Nat) (h : Heap) : Prop :=
  IsZip h z TI TO .none ∧ IsTupOf2 h TI (.ref i1) (.ref i2) ∧ (∃ a1 a2, IsTupOf2 h TO a1 a2) ∧ h.IsStrIter i1 (strIterType x) x t i ∧ h.IsStrIter i2 (strIterType y) y u i
theorem walkS {prog : Program} {w : World} {A : Around} (hh : A.handled = none) {z TI TO i1 i2 : Addr} (S : ZipSep2 z TI TO i1 i2 [i1] [i2]) (x y : Str) (t u : Tok) :
    WalksT prog w A z (z :: TI :: TO :: ([i1] ++ [i2])) [z, TO, i1, i2] (min x.cps.size y.cps.size)
      (fun i vals => ∃ v1 v2, (∃ c u, x.cps[i]? = some c ∧ v1 = .str ⟨#[c]⟩ u) ∧ (∃ c u, y.cps[i]? = some c ∧ v2 = .str ⟨#[c]⟩ u) ∧ vals = #[v1, v2])
      (StZ x y t u z TI TO i1 i2)
      (fun i T h => IsZip h z TI TO (rawInt T) ∧ IsTupOf2 h TI (.ref i1) (.ref i2) ∧ (∃ a1 a2, IsTupOf2 h TO a1 a2) ∧ h.IsStrIter i1 (strIterType x) x t (i + 1) ∧ h.IsStrIter i2 (strIterType y) y u (i + 1) ∧ T ≠ z ∧ T ≠ TO ∧ T ≠ i1 ∧ T ≠ i2) :=
  WalksT.zipD2 S (drawsS (A := A.in1) hh i1 x t) (drawsS (A := A.in1) hh i2 y u)
theorem fp5 {z TI TO i1 i2 c : Addr} (h : c ∈ [z, TI, TO, i1, i2]) : c = z ∨ c = TI ∨ c = TO ∨ c = i1 ∨ c = i2 := by simpa using h
theorem turn_zipS {P : Program} {w : World} {K : PySem.W.Frag} {elts : List Expr} {kk : Nat} {tpos : Pos} {z TI TO i1 i2 : Addr} (S : ZipSep2 z TI TO i1 i2 [i1] [i2]) (x y : Str) (t u : Tok) :
    Turn P w K (.Tuple elts kk tpos) (ItzS x y) [z, TI, TO, i1, i2] z (StZ x y t u z TI TO i1 i2) where
  mem := List.mem_cons_self
  obj := fun i h st c hc => by
    obtain ⟨q1, q2, ⟨a1, a2, q3⟩, ⟨o1, e1, _, d1⟩, ⟨o2, e2, _, d2⟩⟩ := st
    rcases fp5 hc with q | q | q | q | q
    all_goals subst q
    · exact ⟨_, q1, fun v q => nomatch q⟩
    · exact ⟨_, q2, fun v q => nomatch q⟩
    · exact ⟨_, q3, fun v q => nomatch q⟩
    · exact ⟨o1, e1, fun v q => by rw [d1] at q; cases q⟩
    · exact ⟨o2, e2, fun v q => by rw [d2] at q; cases q⟩
  keep := fun i h h' st k => by
    obtain ⟨q1, q2, ⟨a1, a2, q3⟩, ⟨o1, e1, r1⟩, ⟨o2, e2, r2⟩⟩ := st
    exact ⟨k z (by simp) _ q1, k TI (by simp) _ q2, ⟨a1, a2, k TO (by simp) _ q3⟩, ⟨o1, k i1 (by simp) _ e1, r1⟩, ⟨o2, k i2 (by simp) _ e2, r2⟩⟩
  item := by
    intro X hP hw hK hc i pins s σ H E I hf st hg
    subst hP hw hK
    have W := walkS (prog := X.prog) (w := X.w) (A := X.A) (I.ok.hd hc) S x y t u
    have hlt : i < min x.cps.size y.cps.size := by
      have h1 := hg.1
      have h2 := hg.2
      omega
    refine W.item i s _ _ hlt st fun T vals h' tk hv hT hIs hm hk => ?_
    refine ⟨.ref T, rfl, ?_⟩
    refine W.go elts kk tpos i T { s with heap := h', toks := tk } _ _ hm fun h2 st2 hk2 => ?_
    obtain ⟨v1, v2, ⟨c, u1, hc1, rfl⟩, ⟨d, u2, hd1, rfl⟩, rfl⟩ := hv
    have ap : T ∉ [z, TO, i1, i2] := W.apart i T h' hm
    have up : ∀ b o, b ∉ [z, TO, i1, i2] → s.heap.get? b = some o → h2.get? b = some o := fun b o hb e => hk2 b o hb (hk b o hb e)
    have hT2 : h2.IsTuple T #[.str ⟨#[c]⟩ u1, .str ⟨#[d]⟩ u2] := hIs.at fun o e => hk2 T o ap e
    obtain ⟨oT, eT, cT, nT, dT⟩ := hT2
    have new : ObjOk X.prog X.w (upd H T (.tup [.str ⟨#[c]⟩, .str ⟨#[d]⟩])) h2 T (.tup [.str ⟨#[c]⟩, .str ⟨#[d]⟩]) :=
      ⟨by show 2 ≤ sizeLine; decide, [.str ⟨#[c]⟩ u1, .str ⟨#[d]⟩ u2], .cons ⟨u1, rfl⟩ (.cons ⟨u2, rfl⟩ .nil), ⟨oT, eT, cT, nT, dT⟩⟩
    have sub : ∀ b, b ∉ [z, TI, TO, i1, i2] → b ∉ [z, TO, i1, i2] := fun b hb hb2 => hb (by
      have q : b = z ∨ b = TO ∨ b = i1 ∨ b = i2 := by simpa using hb2
      rcases q with q | q | q | q <;> simp [q])
    have I1 := I.turnedNew (t' := tk) (ch := [z, TI, TO, i1, i2]) (fun b o hb e => up b o (sub b hb) e) hf hT new
    refine ⟨.ref T, _, I1, rfl, ⟨T, c, d, rfl, I.hok.fresh hT, rfl, hc1, hd1⟩, st2, fun b hb => ?_⟩
    have hlb : b < s.heap.objs.size := by
      obtain ⟨q1, q2, ⟨a1, a2, q3⟩, ⟨o1, e1, r1⟩, ⟨o2, e2, r2⟩⟩ := st
      rcases fp5 hb with q | q | q | q | q
      · rw [q]; exact Heap.lt_size q1
      · rw [q]; exact Heap.lt_size q2
      · rw [q]; exact Heap.lt_size q3
      · rw [q]; exact Heap.lt_size e1
      · rw [q]; exact Heap.lt_size e2
    rw [upd_ne (show b ≠ T from fun e => absurd hT (by rw [← e]; exact Nat.not_le.mpr hlb))]
    exact (hf b hb).1
  done := by
    intro X hP hw hK hc i pins s σ H E I hf st hg
    subst hP hw hK
    have W := walkS (prog := X.prog) (w := X.w) (A := X.A) (I.ok.hd hc) S x y t u
    have hg : i = min x.cps.size y.cps.size := hg
    subst hg
    refine W.done s _ _ st fun h' tk hk => ⟨rfl, ?_⟩
    refine I.turnedL (t' := tk) (ch := [z, TI, TO, i1, i2]) (fun b o hb e => hk b o (fun hb2 => hb ?_) e) hf
    have q : b = z ∨ b = TO ∨ b = i1 ∨ b = i2 := by simpa using hb2
    rcases q with q | q | q | q <;> simp [q]
  self := fun A i s Q E st h => wpAny_pyIter_zip st.1 h

abbrev g1 (h : Heap) (x : Str) (t : Tok) : Heap := h.push { cls := .type (strIterType x), data := .fields #[.str x t, .int 0 0] }
abbrev g3 (h : Heap) (x y : Str) (t u : Tok) : Heap := (g1 (g1 h x t) y u).push { cls := .type "tuple", data := .seq #[.ref h.objs.size, .ref (g1 h x t).objs.size] }
abbrev g4 (h : Heap) (x y : Str) (t u : Tok) : Heap := (g3 h x y t u).push { cls := .type "tuple", data := .seq #[.none, .none] }
abbrev g5 (h : Heap) (x y : Str) (t u : Tok) : Heap := (g4 h x y t u).push { cls := .type "zip", data := .fields #[.none, .bool false, .bool false, .ref (g1 (g1 h x t) y u).objs.size, .ref (g3 h x y t u).objs.size] }
theorem meets_zipS (x y : Str) (t u : Tok) :
    Meets (Builtin.«zip.__new__» ⟨[.type "zip", .str x t, .str y u], []⟩) (fun _ R s => R (.ok (.ret (.ref (g4 s.heap x y t u).objs.size))) { s with heap := g5 s.heap x y t u }) :=
  .of_wp fun prog w A R s h => by
    obtain ⟨hp, gg, d, tk, os⟩ := s
    have hsub := sub_zip
    wp_walk using wpAny_pyIter_strU
    exact ⟨_, rfl, h⟩
theorem call_zipS {prog : Program} {w : World} {A : Around} {E : Value → Shared → Prop} {s : Shared} {x y : Str} {t u : Tok} {Q : Value → Shared → Prop}
    (h : ∀ h', StZ x y t u (s.heap.objs.size + 4) (s.heap.objs.size + 2) (s.heap.objs.size + 3) s.heap.objs.size (s.heap.objs.size + 1) 0 h' → (∀ c o, s.heap.get? c = some o → h'.get? c = some o) → Q (.ref (s.heap.objs.size + 4)) { s with heap := h' }) :
    wpAny (model prog w) A (call (.type "zip") [.str x t, .str y u]) Q E s := by
  refine callType_new F.called_zip (by decide) (F.typeCall_zip_2 _ _) (F.newCall_zip_2 _ _) (fun obj => F.args_object_init_3 obj _ _) F.entry_zip_new (meets_zipS x y t u) ?_
  have n1 : (g1 s.heap x t).objs.size = s.heap.objs.size + 1 := Heap.size_push ..
  have n2 : (g1 (g1 s.heap x t) y u).objs.size = s.heap.objs.size + 2 := by rw [Heap.size_push, n1]
  have n3 : (g3 s.heap x y t u).objs.size = s.heap.objs.size + 3 := by rw [Heap.size_push, n2]
  have n4 : (g4 s.heap x y t u).objs.size = s.heap.objs.size + 4 := by rw [Heap.size_push, n3]
  have k5 : (g5 s.heap x y t u).get? (g4 s.heap x y t u).objs.size = some _ := Heap.get?_push_size _ rfl
  have k4 : (g5 s.heap x y t u).get? (g3 s.heap x y t u).objs.size = some _ := Heap.get?_push_of_some _ (Heap.get?_push_size _ rfl)
  have k3 : (g5 s.heap x y t u).get? (g1 (g1 s.heap x t) y u).objs.size = some _ := Heap.get?_push_of_some _ (Heap.get?_push_of_some _ (Heap.get?_push_size _ rfl))
  have k2 : (g5 s.heap x y t u).get? (g1 s.heap x t).objs.size = some _ := Heap.get?_push_of_some _ (Heap.get?_push_of_some _ (Heap.get?_push_of_some _ (Heap.get?_push_size _ rfl)))
  have k1 : (g5 s.heap x y t u).get? s.heap.objs.size = some _ := Heap.get?_push_of_some _ (Heap.get?_push_of_some _ (Heap.get?_push_of_some _ (Heap.get?_push_of_some _ (Heap.get?_push_size _ rfl))))
  show _ ∧ _
  rw [n2, n3, n4] at k5
  rw [n1, n2] at k3
  rw [n3] at k4
  rw [n1] at k2
  rw [n4]
  exact ⟨⟨_, k5, rfl⟩, h _ ⟨k5, k3, ⟨_, _, k4⟩, ⟨_, k1, rfl, rfl⟩, ⟨_, k2, rfl, rfl⟩⟩ fun c o e =>
    Heap.get?_push_of_some _ (Heap.get?_push_of_some _ (Heap.get?_push_of_some _ (Heap.get?_push_of_some _ (Heap.get?_push_of_some _ e))))⟩
theorem sepS (n : Nat) : ZipSep2 (n + 4) (n + 2) (n + 3) n (n + 1) [n] [n + 1] := by
  constructor <;> first | omega | (simp <;> omega) | simp
def iZipS (ta : TA) : TI := fun σ H R => ta σ H fun vs H1 => ∃ x y, vs = [.str x, .str y] ∧ R (ItzS x y) H1
theorem pi_zipS {X : Cx} {e e2 : Expr} {ta : TA} {p pos tpos : Pos} {elts : List Expr} {kk : Nat} (hg : Gl X "zip") (hm : X.mg "zip" = none) (ha : PA X [e, e2] ta)
    (hs : starEach [e, e2] X.env = (false, eval e X.env) :: starEach [e2] X.env := by rfl) (hpl : (backTo pos (starEach [e2] X.env)).any (·.1) = false := by rfl) :
    PI X (.Tuple elts kk tpos) (.Call (.Name "zip" p) [e, e2] [] pos) (iZipS ta) := by
  refine ⟨fun pins s σ H R I h => ?_⟩
  refine Call_ (ld_blt I hg hm boot_zip (callWith_type1 (thn (ha.run pos pins s σ H _ I h) fun us s1 ⟨vs, H1, I1, r1, q1⟩ => ?_) hs hpl))
  obtain ⟨x, y, ex, q⟩ := q1
  subst ex
  cases r1 with
  | cons r rr =>
    cases rr with
    | cons r' rr =>
      cases rr
      obtain ⟨t, rfl⟩ := r
      obtain ⟨u, rfl⟩ := r'
      refine call_zipS fun h' st hk => wpAny_pyIter_zip st.1 ?_
      have I2 : Inv X pins σ H1 { s1 with heap := h' } := I1.kept (t' := s1.toks) hk
      refine ⟨s1.heap.objs.size + 4, _, _, _, H1, rfl, I2, turn_zipS (sepS _) x y t u, st, fun c hcm => ?_, q⟩
      have hle : s1.heap.objs.size ≤ c := by
        rcases fp5 hcm with z | z | z | z | z <;> rw [z] <;> first | exact Nat.le_add_right _ _ | exact Nat.le_refl _
      exact I1.fpOk hle (I1.hok.fresh hle)
/-- a comprehension over it -/
theorem lc_zipS {x y : Str} {g : TG} {tt : TT} {te : TE} {vs : List Nat} {σ : L2.St} {H1 : Hp} {D : Addr} {Qd : Hp → Prop} (Pv : Nat → Hp → Prop) (h0 : Pv 0 (upd H1 D (.lst [])))
    (hs : ∀ i c d T H, x.cps[i]? = some c → y.cps[i]? = some d → Pv i H → H T = none → g (.ref T) (wipe σ vs) (upd H T (.tup [.str ⟨#[c]⟩, .str ⟨#[d]⟩])) fun σ2 H2 => wipe σ2 vs = wipe σ vs ∧ tt σ2 H2 fun b H3 =>
      if b = true then te σ2 H3 fun z H4 => ∃ acc, H4 D = some (.lst acc) ∧ acc.length < sizeLine ∧ Pv (i + 1) (upd H4 D (.lst (acc ++ [z]))) else Pv (i + 1) H3) (hd : ∀ H, Pv (min x.cps.size y.cps.size) H → Qd H) :
    ∃ W : Nat → Nat → Hp → Prop, (∃ m, W 0 m (upd H1 D (.lst []))) ∧ ∀ i m H, W i m H →
      ((ItzS x y).stop i H ∧ Qd H) ∨ ((ItzS x y).go i H ∧ ∃ Nx : Hp → Prop, (∀ H', Nx H' → ∃ m', m' < m ∧ W (i + 1) m' H') ∧ ∀ v H', (ItzS x y).yld i H v H' → g v (wipe σ vs) H' fun σ2 H2 => wipe σ2 vs = wipe σ vs ∧ tt σ2 H2 fun b H3 =>
        if b = true then te σ2 H3 fun z H4 => ∃ acc, H4 D = some (.lst acc) ∧ acc.length < sizeLine ∧ Nx (upd H4 D (.lst (acc ++ [z]))) else Nx H3) := by
  refine ⟨fun i m H => i + m = min x.cps.size y.cps.size ∧ Pv i H, ⟨_, Nat.zero_add _, h0⟩, ?_⟩
  rintro i m H ⟨e, p⟩
  by_cases hm : m = 0
  · have e2 : i = min x.cps.size y.cps.size := by omega
    refine .inl ⟨e2, hd H ?_⟩
    rw [← e2]
    exact p
  · refine .inr ⟨⟨by omega, by omega⟩, Pv (i + 1), fun H' p' => ⟨m - 1, by omega, by omega, p'⟩, ?_⟩
    rintro v H' ⟨T, c, d, rfl, hT, rfl, hc, hd'⟩
    exact hs i c d T H hc hd' p hT
theorem op_mulS {X : Cx} : OpR X (binaryOp .Mult) (fun x y H Q => ∃ z n, x = .str z ∧ y = .int n ∧ MulOk z n ∧ Q (.str (Txt.mul z n)) H) := by
  intro pins s σ H x y v u Q I rx ry h
  obtain ⟨z, n, rfl, rfl, hz, q⟩ := h
  obtain ⟨t, rfl⟩ := rx
  obtain ⟨t', rfl⟩ := ry
  exact SB.mul hz (fun t' tk => ⟨.str (Txt.mul z n), H, I.tok _, ⟨_, rfl⟩, q⟩)
end ZS

namespace Law
open PySem PySem.Spec PyProof.Rows L2 Evl
def top (i : Nat) : Stmt := PySem.Challenge.pw_wordskips_k03_knowns.main.body.getD i (.Pass ⟨0, 0, 0, 0⟩)
abbrev s_fits : Stmt := top 1
abbrev N_fits : List Str := ["known", "word", "offset", "signs", "sign", "letter"]
theorem sc_fits : FnScope N_fits ["known", "word", "offset"] (defScope s_fits) := ⟨rfl, rfl, rfl, by decide +kernel, rfl, by decide +kernel, by decide +kernel⟩
abbrev s_slid : Stmt := top 2
abbrev N_slid : List Str := ["known", "by"]
theorem sc_slid : FnScope N_slid ["known", "by"] (defScope s_slid) := ⟨rfl, rfl, rfl, by decide +kernel, rfl, by decide +kernel, by decide +kernel⟩
abbrev s_lpen : Stmt := top 4
abbrev N_lpen : List Str := ["_law_script"]
theorem sc_lpen : FnScope N_lpen ["_law_script"] (defScope s_lpen) := ⟨rfl, rfl, rfl, by decide +kernel, rfl, by decide +kernel, by decide +kernel⟩
abbrev s_ldraw : Stmt := top 5
abbrev N_ldraw : List Str := ["_law_pen_here", "_law_many", "_law_digit", "_law_k", "_law_cells", "_law_cell", "_law_mix"]
theorem sc_ldraw : FnScope N_ldraw ["_law_pen_here", "_law_many"] (defScope s_ldraw) := ⟨rfl, rfl, rfl, by decide +kernel, rfl, by decide +kernel, by decide +kernel⟩
abbrev s_lpick : Stmt := top 6
abbrev N_lpick : List Str := ["_law_pen_here", "_law_some"]
theorem sc_lpick : FnScope N_lpick ["_law_pen_here", "_law_some"] (defScope s_lpick) := ⟨rfl, rfl, rfl, by decide +kernel, rfl, by decide +kernel, by decide +kernel⟩
abbrev s_lletters : Stmt := top 7
abbrev N_lletters : List Str := ["_law_pen_here", "_law_small", "_law_first", "_law_pace", "_law_k"]
theorem sc_lletters : FnScope N_lletters ["_law_pen_here"] (defScope s_lletters) := ⟨rfl, rfl, rfl, by decide +kernel, rfl, by decide +kernel, by decide +kernel⟩
abbrev s_lword : Stmt := top 8
abbrev N_lword : List Str := ["_law_pen_here", "_law_letters_here", "_law_width", "_law_way", "_law_at", "_law_piece", "_law_k", "_law_word_here"]
theorem sc_lword : FnScope N_lword ["_law_pen_here", "_law_letters_here", "_law_width"] (defScope s_lword) := ⟨rfl, rfl, rfl, by decide +kernel, rfl, by decide +kernel, by decide +kernel⟩
abbrev s_lfits : Stmt := top 9
abbrev N_lfits : List Str := ["_law_known", "_law_word_here", "_law_offset", "_law_k"]
theorem sc_lfits : FnScope N_lfits ["_law_known", "_law_word_here", "_law_offset"] (defScope s_lfits) := ⟨rfl, rfl, rfl, by decide +kernel, rfl, by decide +kernel, by decide +kernel⟩
abbrev s_lslid : Stmt := top 10
abbrev N_lslid : List Str := ["_law_known", "_law_by", "_law_found", "_law_k"]
theorem sc_lslid : FnScope N_lslid ["_law_known", "_law_by"] (defScope s_lslid) := ⟨rfl, rfl, rfl, by decide +kernel, rfl, by decide +kernel, by decide +kernel⟩
abbrev s_law : Stmt := top 11
abbrev N_law : List Str := ["_law_script", "_law_pen_here", "_law_turn", "_law_letters_here", "_law_width", "_law_word_here", "_law_known", "_law_k", "_law_at", "_law_near", "_law_sign", "_law_offset", "_law_by"]
theorem sc_law : FnScope N_law ["_law_script"] (defScope s_law) := ⟨rfl, rfl, rfl, by decide +kernel, rfl, by decide +kernel, by decide +kernel⟩

/-! ### the pen -/
def penK (c : Addr) (op lf : Int) : List (Key × V) := [(.inr "cells", .ref c), (.inr "opened", .int op), (.inr "left", .int lf)]
structure PenI where
  d : Addr
  c : Addr
  ns : List Int
def PenAt (p : PenI) (H0 H : Hp) (n : Nat) : Prop := Ex H0 H ∧ H0 p.d = none ∧ H0 p.c = some (.lst (p.ns.map V.int)) ∧ p.ns.length ≤ 63 ∧
  ∃ (op : Nat) (lf : Int), op ≤ n ∧ H p.d = some (.dK (penK p.c op lf))
theorem PenAt.ex {p : PenI} {H0 H H1 : Hp} {n : Nat} (P : PenAt p H0 H n) (e : Ex H H1) : PenAt p H0 H1 n := by
  obtain ⟨e0, h0, hc, hl, op, lf, ho, hd⟩ := P
  exact ⟨e0.trans e, h0, hc, hl, op, lf, ho, e p.d _ hd⟩
theorem PenAt.le {p : PenI} {H0 H : Hp} {n m : Nat} (P : PenAt p H0 H n) (h : n ≤ m) : PenAt p H0 H m := by
  obtain ⟨e0, h0, hc, hl, op, lf, ho, hd⟩ := P
  exact ⟨e0, h0, hc, hl, op, lf, Nat.le_trans ho h, hd⟩
theorem PenAt.dict {p : PenI} {H0 H : Hp} {n : Nat} (P : PenAt p H0 H n) : ∃ kvs, H p.d = some (.dK kvs) := by
  obtain ⟨_, _, _, _, op, lf, _, h⟩ := P
  exact ⟨_, h⟩
theorem PenAt.lst_ne {p : PenI} {H0 H : Hp} {a : Addr} {n : Nat} {xs : List V} (P : PenAt p H0 H n) (h : H a = some (.lst xs)) : a ≠ p.d := by
  obtain ⟨kvs, h2⟩ := P.dict
  exact ne_of h h2 (by intro z; cases z)
/-- an object made meanwhile may change -/
theorem PenAt.upd {p : PenI} {H0 H : Hp} {a : Addr} {n : Nat} {o : HO} (P : PenAt p H0 H n) (h : H0 a = none) (hd : a ≠ p.d) : PenAt p H0 (upd H a o) n := by
  obtain ⟨e0, h0, hc, hl, op, lf, ho, hd'⟩ := P
  exact ⟨e0.mut h, h0, hc, hl, op, lf, ho, by rw [upd_ne hd.symm]; exact hd'⟩
/-- one more object kept, and let go again -/
theorem PenAt.keep {p : PenI} {H0 H : Hp} {a : Addr} {n : Nat} {o : HO} (P : PenAt p H0 H n) (h : H a = some o) (hd : a ≠ p.d) : PenAt p (L2.upd H0 a o) H n := by
  obtain ⟨e0, h0, hc, r⟩ := P
  refine ⟨fun b u e => ?_, by rw [upd_ne hd.symm]; exact h0, ?_, r⟩
  · by_cases q : b = a
    · subst q
      rw [upd_same] at e
      rw [h, e]
    · rw [upd_ne q] at e
      exact e0 b u e
  · by_cases q : p.c = a
    · have e2 := e0 _ _ hc
      rw [q, h] at e2
      rw [q, upd_same, e2]
    · rw [upd_ne q]
      exact hc
theorem PenAt.drop {p : PenI} {H0 H H' : Hp} {a : Addr} {n m : Nat} {o : HO} (P : PenAt p H0 H n) (h : H a = some o) (P' : PenAt p (L2.upd H0 a o) H' m) : PenAt p H0 H' m := by
  refine ⟨fun b u e => ?_, P.2.1, P.2.2.1, P'.2.2.2⟩
  by_cases q : b = a
  · subst q
    have e2 := P.1 _ _ e
    rw [h] at e2
    exact P'.1 _ _ (by rw [upd_same, e2])
  · exact P'.1 _ _ (by rw [upd_ne q]; exact e)
theorem cells_opened : ¬ (("cells" : Str) = "opened") := by decide +kernel
theorem cells_left : ¬ (("cells" : Str) = "left") := by decide +kernel
theorem opened_left : ¬ (("opened" : Str) = "left") := by decide +kernel
theorem get_cells (c : Addr) (op lf : Int) : valV (penK c op lf) (.inr "cells") = some (.ref c) := by
  unfold valV penK
  rw [List.find?_cons_of_pos (by simp)]
  rfl
theorem get_opened (c : Addr) (op lf : Int) : valV (penK c op lf) (.inr "opened") = some (.int op) := by
  unfold valV penK
  rw [List.find?_cons_of_neg (by simpa using cells_opened), List.find?_cons_of_pos (by simp)]
  rfl
theorem get_left (c : Addr) (op lf : Int) : valV (penK c op lf) (.inr "left") = some (.int lf) := by
  unfold valV penK
  rw [List.find?_cons_of_neg (by simpa using cells_left), List.find?_cons_of_neg (by simpa using opened_left), List.find?_cons_of_pos (by simp)]
  rfl
theorem put_opened (c : Addr) (op lf x : Int) : putK (penK c op lf) (.inr "opened") (.int x) = penK c x lf := by
  unfold putK penK
  simp [cells_opened, opened_left, cells_left, Ne.symm opened_left]
theorem put_left (c : Addr) (op lf x : Int) : putK (penK c op lf) (.inr "left") (.int x) = penK c op x := by
  unfold putK penK
  simp [cells_opened, opened_left, cells_left]
theorem dget_of {H : Hp} {d : Addr} {kvs : List (Key × V)} {k : Str} {v : V} (e : H d = some (.dK kvs)) (h : valV kvs (.inr k) = some v) : DGet H d (.str k) (some v) := by
  rw [← h]
  exact DGet.k (k := .inr k) e
theorem dput_of {H : Hp} {d : Addr} {kvs kvs' : List (Key × V)} {k : Str} {v : V} (e : H d = some (.dK kvs)) (hl : kvs.length < 100) (h : putK kvs (.inr k) v = kvs') : DPut H d (.str k) v (upd H d (.dK kvs')) := by
  rw [← h]
  exact DPut.k (k := .inr k) e (Nat.lt_of_lt_of_le hl (by decide))

/-! ### lists of ints as data -/
theorem lay_ints : ∀ ns : List Int, PyData.canLayAll0 (ns.map PyData.int) = true
  | [] => rfl
  | n :: r => by
    show (PyData.canLay0 (.int n) && PyData.canLayAll0 (r.map PyData.int)) = true
    rw [lay_ints r]
    rfl
theorem depth_ints : ∀ ns : List Int, PyData.depthAll (ns.map PyData.int) = 0
  | [] => rfl
  | n :: r => by
    show max (PyData.depth (.int n)) (PyData.depthAll (r.map PyData.int)) = 0
    rw [depth_ints r]
    rfl
theorem shaped_ints (ns : List Int) : SeqAt.shaped (.list (ns.map PyData.int)) = true := by
  unfold SeqAt.shaped
  have e1 : (PyData.list (ns.map PyData.int)).canLay0 = true := lay_ints ns
  have e2 : (PyData.list (ns.map PyData.int)).depth = 1 := by
    show PyData.depthAll (ns.map PyData.int) + 1 = 1
    rw [depth_ints]
  rw [e1, e2]
  rfl
theorem dp_ints {K : PySem.W.Frag} {H : Hp} : ∀ ns : List Int, DpAll K H (ns.map V.int) (ns.map PyData.int)
  | [] => .nil
  | n :: r => .cons (.int n) (dp_ints r)
theorem eqv_nil (ns : List Int) : PyData.eqv (.list (ns.map PyData.int)) (.list []) = ns.isEmpty := by
  cases ns <;> rfl

/-! ### what is known of a def that is called -/
structure Kn (P : Program) (w : World) (K : PySem.W.Frag) (mg : Str → Option Value) (base : Heap) (x : Str) (ps : List Str) (k : Nat) (sp : Sp) where
  f : Addr
  fd : FuncData
  ok : FnOk P w K mg base CX0 k f fd ps sp
  g : mg x = some (.ref f)
  kp : PySem.W.keepIn K (.ref f) = true
  b : Binds K fd ps []
structure Tx (mg : Str → Option Value) : Prop where
  len : mg "len" = none
  int : mg "int" = none
  abs : mg "abs" = none
  min : mg "min" = none
  list : mg "list" = none
  all : mg "all" = none
  zip : mg "zip" = none
  range : mg "range" = none

def spPen (K : PySem.W.Frag) : Sp := fun vs H Q _ => ∃ (a : Addr) (ns : List Int), vs = [.ref a] ∧ SqL K H a (ns.map V.int) ∧ ns.length ≤ 63 ∧ ∀ p H0 H', Ex H H0 → PenAt p H0 H' 0 → Q (.ref p.d) H'
def spDraw : Sp := fun vs H Q _ => ∃ (p : PenI) (H0 : Hp) (n : Nat) (m : Int), vs = [.ref p.d, .int m] ∧ PenAt p H0 H n ∧ n < 1000000 ∧ 0 < m ∧ m < 1000 ∧ ∀ H' r, PenAt p H0 H' (n + 1) → 0 ≤ r → r < m → Q (.int r) H'

section
variable {P : Program} {w : World} {K : PySem.W.Frag} {mg : Str → Option Value} {base : Heap}
theorem ok_pen {f : Addr} {fd : FuncData} (F : Fun K "_law_pen" "_law_pen" s_lpen f fd) (T : Tx mg) : FnOk P w K mg base CX0 1 f fd ["_law_script"] (spPen K) := by
  refine F.ok sc_lpen (fun vs H Q E h => ?_) (fun cdv A outer s H vs Q E hr h => ?_)
  · obtain ⟨a, ns, rfl, _⟩ := h
    rfl
  · obtain ⟨a, ns, rfl, hS, hl, q⟩ := h
    refine ⟨_, (pss_one (ps_ret (pe_disp (pps_cons pe_str (pe_callTy call_list_of (by rfl) T.list PyProof.Rows.boot_list (pa_cons (pe_slice sl_list (pv 0) po_none (po_some pe_int)) pa_nil)) (pps_cons pe_str pe_int (pps_cons pe_str pe_int pps_nil))) (by rfl) (by rfl) (fun z => by cases z) (by decide)))), ?_⟩
    intro d hd
    have e1 : Ex H (upd H d (.dK [])) := Ex.new hd
    refine ⟨.ref a, rfl, 63, rfl, a, _, rfl, ex_l e1 hS, fun c hc => ?_⟩
    have e2 := e1.trans (Ex.new (o := .lst (cutV (ns.map V.int) none (some 63))) hc)
    refine ⟨c, _, rfl, .inl (.inl (.inl upd_same)), fun c2 hc2 => ?_⟩
    have e3 := e2.trans (Ex.new (o := .lst (cutV (ns.map V.int) none (some 63))) hc2)
    have ncd : c ≠ d := fun z => by rw [z, upd_same] at hc; cases hc
    have nc2c : c2 ≠ c := fun z => by rw [z, upd_same] at hc2; cases hc2
    have nc2d : c2 ≠ d := fun z => by rw [z, upd_ne ncd.symm, upd_same] at hc2; cases hc2
    refine ⟨by rw [upd_ne nc2d.symm, upd_ne ncd.symm, upd_same], penK c2 0 0, rfl, (by show 3 ≤ 15; decide), ?_⟩
    have em : mergeK [] (penK c2 0 0) = penK c2 0 0 := by
      unfold mergeK penK
      simp [putK, cells_opened, opened_left, cells_left]
    rw [em]
    have el : ((cutV (ns.map V.int) none (some 63)) : List V) = ((ns.drop (HT.sIx ns.length 0 none)).take (HT.sIx ns.length ns.length (some 63) - HT.sIx ns.length 0 none)).map V.int := by
      unfold cutV
      rw [List.length_map, List.map_take, List.map_drop]
    have hn2 : H c2 = none := by
      rw [upd_ne nc2c, upd_ne nc2d] at hc2
      exact hc2
    refine q ⟨d, c2, (ns.drop (HT.sIx ns.length 0 none)).take (HT.sIx ns.length ns.length (some 63) - HT.sIx ns.length 0 none)⟩ (upd H c2 (.lst (cutV (ns.map V.int) none (some 63)))) _ (Ex.new hn2) ⟨fun b u e => ?_, ?_, ?_, ?_, 0, 0, Nat.le_refl _, upd_same⟩
    · have nbd : b ≠ d := fun z => by
        rw [z, upd_ne nc2d.symm, hd] at e
        cases e
      rw [upd_ne nbd]
      by_cases z : b = c2
      · subst z
        rw [upd_same] at e ⊢
        exact e
      · rw [upd_ne z] at e ⊢
        exact (e1.trans (Ex.new hc)) _ _ e
    · exact (upd_ne nc2d.symm).trans hd
    · show upd H c2 _ c2 = _
      rw [upd_same, el]
    · rw [List.length_take, List.length_drop]
      omega
theorem ok_draw {f : Addr} {fd : FuncData} (F : Fun K "_law_draw" "_law_draw" s_ldraw f fd) (T : Tx mg) : FnOk P w K mg base CX0 1 f fd ["_law_pen_here", "_law_many"] spDraw := by
  refine F.ok sc_ldraw (fun vs H Q E h => ?_) (fun cdv A outer s H vs Q E hr h => ?_)
  · obtain ⟨p, H0, n, m, rfl, _⟩ := h
    rfl
  · obtain ⟨⟨d, c, ns⟩, H0, n, m, rfl, ⟨e0, h0, hc0, hl, op, lf, ho, hd⟩, hn, hm0, hm1, q⟩ := h
    have hc : H c = some (.lst (ns.map V.int)) := e0 _ _ hc0
    dsimp only at h0 hl hd q ⊢
    have ncd : c ≠ d := ne_of hc hd (by intro z; cases z)
    have fin : ∀ (o2 : Nat) (l2 : Int) (H' : Hp), Ex H0 H' → H' c = some (.lst (ns.map V.int)) → H' d = some (.dK (penK c o2 l2)) → o2 ≤ n + 1 → PenAt ⟨d, c, ns⟩ H0 H' (n + 1) :=
      fun o2 l2 H' x1 x2 x3 x4 => ⟨x1, h0, hc0, hl, o2, l2, x4, x3⟩
    refine ⟨_, (pss_cons (ps_if (pt_cmpR op_gt (pe_dget (hu_of hr) (pv 0) pe_str (fun _ _ => rfl)) pe_int (nomark _)) (pss_cons (ps_set (i := 2) sc_ldraw.nd rfl (Or.inl rfl) (pe_op op_mod (pe_callTy call_int1 (by rfl) T.int PyProof.Rows.boot_int (pa_cons (pe_dget (hu_of hr) (pv 0) pe_str (fun _ _ => rfl)) pa_nil)) (pv 1)))
      (pss_cons (ps_dput (hu_of hr) (pv 0) pe_str (pe_op op_fdivN (pe_dget (hu_of hr) (pv 0) pe_str (fun _ _ => rfl)) (pv 1)) rfl)
      (pss_one (ps_ret (pv 2))))) pss_nil)
      (pss_cons (ps_par (i := 3) (j := 4) (by rfl) sc_ldraw.nd rfl rfl (by decide) rfl rfl (pa_cons (pe_dget (hu_of hr) (pv 0) pe_str (fun _ _ => rfl)) (pa_cons (pe_dget (hu_of hr) (pv 0) pe_str (fun _ _ => rfl)) pa_nil)) (by rfl))
      (pss_cons (ps_dput (hu_of hr) (pv 0) pe_str (pe_op op_add (pv 3) pe_int) rfl)
      (pss_cons (ps_if (pt_cmpR (op_eqD hr.units) (pv 4) (pe_lst pa_nil) (nomark _)) (pss_one (ps_ret (pe_op op_mod (pe_callTy call_int1 (by rfl) T.int PyProof.Rows.boot_int (pa_cons (pe_op op_add (pe_op op_mul pe_int (pv 3)) pe_int) pa_nil)) (pv 1)))) pss_nil)
      (pss_cons (ps_set (i := 5) sc_ldraw.nd rfl (Or.inl rfl) (pe_ix ix_list (pv 4) (pe_op op_mod (pe_callTy call_int1 (by rfl) T.int PyProof.Rows.boot_int (pa_cons (pv 3) pa_nil)) (pe_callB call_len_seq (by rfl) T.len PySem.boot_len (pa_cons (pv 4) pa_nil))) (fun _ _ => rfl)))
      (pss_cons (ps_if (PW.pt (pw_and (pt_cmpR op_lt (pv 3) (pe_callB call_len_seq (by rfl) T.len PySem.boot_len (pa_cons (pv 4) pa_nil)) (nomark _)) (pw_and1 (pt_cmpR op_ge (pe_callB call_abs (by rfl) T.abs (by decide +kernel) (pa_cons (pv 5) pa_nil)) (pe_op op_pow pe_int pe_int) (nomark _))))) (pss_cons (ps_dput (hu_of hr) (pv 0) pe_str (pe_op op_fdivN (pe_op op_sub (pe_callB call_abs (by rfl) T.abs (by decide +kernel) (pa_cons (pv 5) pa_nil)) (pe_op op_pow pe_int pe_int)) (pv 1)) rfl)
      (pss_one (ps_ret (pe_op op_mod (pe_callTy call_int1 (by rfl) T.int PyProof.Rows.boot_int (pa_cons (pe_op op_sub (pe_callB call_abs (by rfl) T.abs (by decide +kernel) (pa_cons (pv 5) pa_nil)) (pe_op op_pow pe_int pe_int)) pa_nil)) (pv 1))))) pss_nil)
      (pss_cons (ps_set (i := 6) sc_ldraw.nd rfl (Or.inl rfl) (pe_op op_mod (pe_callTy call_int1 (by rfl) T.int PyProof.Rows.boot_int (pa_cons (pe_op op_add (pe_op op_add (pe_op op_add (pe_op op_mul (pe_op op_mod (pe_callTy call_int1 (by rfl) T.int PyProof.Rows.boot_int (pa_cons (pv 5) pa_nil)) pe_int) pe_int) (pe_op op_mul (pe_op op_mul pe_int (pv 3)) (pv 3))) (pe_op op_mul pe_int (pv 3))) pe_int) pa_nil)) pe_int))
      (pss_cons (ps_set (i := 6) sc_ldraw.nd rfl (Or.inl rfl) (pe_op op_mod (pe_callTy call_int1 (by rfl) T.int PyProof.Rows.boot_int (pa_cons (pe_op op_add (pe_op op_add (pe_op op_mul (pv 6) (pv 6)) (pe_op op_mul pe_int (pv 6))) (pe_op op_mul pe_int (pv 3))) pa_nil)) pe_int))
      (pss_one (ps_ret (pe_op op_mod (pe_callTy call_int1 (by rfl) T.int PyProof.Rows.boot_int (pa_cons (pe_op op_fdivN (pe_op op_mod (pe_callTy call_int1 (by rfl) T.int PyProof.Rows.boot_int (pa_cons (pe_op op_mul (pv 6) (pe_op op_add (pv 6) pe_int)) pa_nil)) pe_int) pe_int) pa_nil)) (pv 1)))))))))))), ?_⟩
    refine ⟨_, rfl, d, .int lf, rfl, dget_of hd (get_left _ _ _), _, _, rfl, rfl, _, rfl, ite2 (fun hp => ?_) (fun hp => ?_)⟩
    · refine ⟨_, rfl, d, .int lf, rfl, dget_of hd (get_left _ _ _), .inl ⟨_, rfl, ?_⟩⟩
      refine ⟨_, rfl, _, _, rfl, rfl, hm0, ?_⟩
      refine ⟨_, rfl, d, .int lf, rfl, dget_of hd (get_left _ _ _), _, rfl, _, _, rfl, rfl, ⟨by omega, by omega⟩, ?_⟩
      refine ⟨_, rfl, d, _, rfl, dput_of hd (by show 3 < 100; decide) (put_left _ _ _ _), ?_⟩
      refine ⟨_, rfl, ?_⟩
      exact q _ _ (fin op _ _ (e0.mut h0) (by rw [upd_ne ncd]; exact hc) upd_same (by omega)) (Int.emod_nonneg _ (by omega)) (Int.emod_lt_of_pos _ hm0)
    · refine ⟨_, rfl, d, _, rfl, dget_of hd (get_opened _ _ _), _, rfl, d, _, rfl, dget_of hd (get_cells _ _ _), _, _, rfl, ?_⟩
      refine ⟨_, rfl, _, _, rfl, rfl, _, rfl, d, _, rfl, dput_of hd (by show 3 < 100; decide) (put_opened _ _ _ _), ?_⟩
      have x1 : Ex H0 (upd H d (.dK (penK c ((op : Int) + 1) lf))) := e0.mut h0
      have hc1 : (upd H d (.dK (penK c ((op : Int) + 1) lf))) c = some (.lst (ns.map V.int)) := by
        rw [upd_ne ncd]
        exact hc
      have hd1 : (upd H d (.dK (penK c ((op : Int) + 1) lf))) d = some (.dK (penK c ((op + 1 : Nat) : Int) lf)) := upd_same
      generalize (upd H d (.dK (penK c ((op : Int) + 1) lf))) = H1 at x1 hc1 hd1 ⊢
      -- if cells == []
      refine ⟨_, rfl, Nat.zero_le _, fun el hel => ?_⟩
      have x2 := x1.trans (Ex.new (o := .lst []) hel)
      have hc2 : (upd H1 el (.lst [])) c = some (.lst (ns.map V.int)) := Ex.new hel _ _ hc1
      have hd2 : (upd H1 el (.lst [])) d = some (.dK (penK c ((op + 1 : Nat) : Int) lf)) := Ex.new hel _ _ hd1
      refine ⟨.list (ns.map PyData.int), .list [], .lst (sq_of hc2) (dp_ints ns), .lst (xs := []) (sq_of upd_same) .nil, shaped_ints ns, rfl, _, rfl, ?_⟩
      rw [eqv_nil]
      generalize (upd H1 el (.lst [])) = H2 at x2 hc2 hd2 ⊢
      cases hns : ns.isEmpty with
      | true =>
        refine iteT ?_
        refine ⟨_, rfl, _, _, rfl, rfl, .inl (by decide), _, _, rfl, rfl, .inl ⟨_, rfl, _, rfl, _, _, rfl, rfl, hm0, ?_⟩⟩
        exact q _ _ (fin _ _ _ x2 hc2 hd2 (by omega)) (Int.emod_nonneg _ (by omega)) (Int.emod_lt_of_pos _ hm0)
      | false =>
        refine iteF ?_
        have hpos : 0 < ns.length := by
          cases ns with
          | nil => cases hns
          | cons x r => exact Nat.succ_pos _
        have hL : (0 : Int) < ((ns.map V.int).length : Int) := by
          rw [List.length_map]
          omega
        -- cell = cells[int(k) % len(cells)]
        obtain ⟨i, hi⟩ : ∃ i : Nat, (op : Int) % ((ns.map V.int).length : Int) = (i : Int) := ⟨((op : Int) % ((ns.map V.int).length : Int)).toNat, (Int.toNat_of_nonneg (Int.emod_nonneg _ (by omega))).symm⟩
        have hi2 : i < ns.length := by
          have := Int.emod_lt_of_pos (op : Int) hL
          rw [hi, List.length_map] at this
          omega
        have hat : atI (ns.map V.int) ((op : Int) % ((ns.map V.int).length : Int)) = some (V.int ns[i]) := by
          rw [hi]
          exact atI_nat (by rw [List.getElem?_map, List.getElem?_eq_getElem hi2]; rfl)
        refine ⟨_, rfl, _, rfl, .inl ⟨_, rfl, _, rfl, c, _, rfl, .inl (sq_of hc2), _, _, rfl, rfl, hL, c, _, _, _, rfl, rfl, sq_of hc2, hat, ?_⟩⟩
        generalize ns[i] = x
        -- the test
        have hcell : ∀ {σ : L2.St} {H' : Hp}, σ[5]? = some (some (V.int x)) → Ev (tVar 5) σ H' (V.int x) := fun h => ev_var h
        dsimp only [gName]
        refine q_when (b := decide ((op : Int) < ((ns.map V.int).length : Int)) && decide ((10 : Int) ^ (18 : Int).toNat ≤ (if x < 0 then -x else x)))
          (et_and (fun H4 e4 Q4 q4 => ?_) (fun _ H4 e4 Q4 q4 => ?_)) (fun hb H3 e3 => ?_) (fun hb H3 e3 => ?_)
        · exact ⟨_, rfl, _, rfl, c, _, rfl, .inl (sq_of (e4 _ _ hc2)), _, _, rfl, rfl, _, rfl, q4 _ (Ex.refl _)⟩
        · exact ⟨_, rfl, _, rfl, _, _, rfl, rfl, ⟨by decide, by decide, by decide⟩, _, _, rfl, rfl, _, rfl, q4 _ (Ex.refl _)⟩
        · have x3 := x2.trans e3
          refine ⟨_, rfl, _, rfl, _, _, rfl, rfl, ⟨by decide, by decide, by decide⟩, _, _, rfl, rfl, _, rfl, _, _, rfl, rfl, ⟨by omega, by omega⟩, ?_⟩
          refine ⟨_, rfl, d, _, rfl, dput_of (e3 _ _ hd2) (by show 3 < 100; decide) (put_left _ _ _ _), ?_⟩
          refine ⟨_, rfl, _, rfl, _, _, rfl, rfl, ⟨by decide, by decide, by decide⟩, _, _, rfl, rfl, .inl ⟨_, rfl, _, rfl, _, _, rfl, rfl, hm0, ?_⟩⟩
          exact q _ _ (fin _ _ _ (x3.mut h0) (by rw [upd_ne ncd]; exact e3 _ _ hc2) upd_same (by omega)) (Int.emod_nonneg _ (by omega)) (Int.emod_lt_of_pos _ hm0)
        · have x3 := x2.trans e3
          have b1 : (0 : Int) ≤ x % 4294965521 := Int.emod_nonneg _ (by decide)
          have b2 : x % 4294965521 < 4294965521 := Int.emod_lt_of_pos _ (by decide)
          refine ⟨_, rfl, .inl ⟨_, rfl, _, _, rfl, rfl, (by show (0 : Int) < _; decide), _, _, rfl, rfl, .inr ⟨by decide, by decide⟩, ?_⟩⟩
          refine ⟨_, rfl, _, _, rfl, rfl, .inl ⟨by decide, by decide⟩, _, rfl, _, _, rfl, rfl, .inr ⟨by omega, by omega⟩, _, _, rfl, rfl, ?_⟩
          refine ⟨_, rfl, _, _, rfl, rfl, .inl ⟨by decide, by decide⟩, _, _, rfl, rfl, _, _, rfl, rfl, .inl ⟨_, rfl, _, _, rfl, rfl, (by show (0 : Int) < _; decide), ?_⟩⟩
          generalize hy : (x % 4294965521 * 43793 + 25999 * (op : Int) * (op : Int) + 839 * (op : Int) + 67) % 4294965583 = y
          have b3 : 0 ≤ y := by rw [← hy]; exact Int.emod_nonneg _ (by decide)
          have b4 : y < 4294965583 := by rw [← hy]; exact Int.emod_lt_of_pos _ (by decide)
          refine ⟨_, rfl, _, rfl, _, _, rfl, rfl, .inl ⟨by omega, by omega⟩, _, rfl, _, _, rfl, rfl, .inl ⟨by decide, by decide⟩, _, _, rfl, rfl, ?_⟩
          refine ⟨_, rfl, _, _, rfl, rfl, .inl ⟨by decide, by decide⟩, _, _, rfl, rfl, .inl ⟨_, rfl, _, _, rfl, rfl, (by show (0 : Int) < _; decide), ?_⟩⟩
          generalize hz : (y * y + 40163 * y + 31 * (op : Int)) % 4294965511 = z
          have b5 : 0 ≤ z := by rw [← hz]; exact Int.emod_nonneg _ (by decide)
          have b6 : z < 4294965511 := by rw [← hz]; exact Int.emod_lt_of_pos _ (by decide)
          refine ⟨_, rfl, _, rfl, _, _, rfl, rfl, _, _, rfl, rfl, .inl ⟨by omega, by omega⟩, .inl ⟨_, rfl, _, _, rfl, rfl, (by show (0 : Int) < _; decide), _, _, rfl, rfl, ⟨by decide, by decide⟩, .inl ⟨_, rfl, _, rfl, _, _, rfl, rfl, hm0, ?_⟩⟩⟩
          exact q _ _ (fin _ _ _ x3 (e3 _ _ hc2) (e3 _ _ hd2) (by omega)) (Int.emod_nonneg _ (by omega)) (Int.emod_lt_of_pos _ hm0)
end
end Law

namespace Law
open PySem PySem.Spec PyProof.Rows L2 Evl
theorem sz_le {n : Nat} (h : n < 1000) : n ≤ sizeLine := Nat.le_trans (Nat.le_of_lt h) (by decide)
theorem at_draw {α : Type} {xs : List α} {r : Int} (h0 : 0 ≤ r) (h1 : r < (xs.length : Int)) : ∃ v, v ∈ xs ∧ atI xs r = some v := by
  obtain ⟨j, rfl⟩ : ∃ j : Nat, r = (j : Int) := ⟨r.toNat, (Int.toNat_of_nonneg h0).symm⟩
  have hj : j < xs.length := by omega
  exact ⟨xs[j], List.getElem_mem hj, atI_nat (List.getElem?_eq_getElem hj)⟩
def spPickS : Sp := fun vs H Q _ => ∃ (p : PenI) (H0 : Hp) (n : Nat) (z : Str), vs = [.ref p.d, .str z] ∧ PenAt p H0 H n ∧ n < 1000000 ∧ 0 < z.length ∧ z.length < 1000 ∧ ∀ H' c, PenAt p H0 H' (n + 1) → c ∈ z.cps.toList → Q (.str ⟨#[c]⟩) H'
def spPickL : Sp := fun vs H Q _ => ∃ (p : PenI) (H0 : Hp) (a : Addr) (n : Nat) (xs : List V), vs = [.ref p.d, .ref a] ∧ PenAt p H0 H n ∧ n < 1000000 ∧ H a = some (.lst xs) ∧ 0 < xs.length ∧ xs.length < 1000 ∧ ∀ H' v, PenAt p H0 H' (n + 1) → v ∈ xs → Q v H'
section
variable {P : Program} {w : World} {K : PySem.W.Frag} {mg : Str → Option Value} {base : Heap}
theorem ok_pickS {f : Addr} {fd : FuncData} (F : Fun K "_law_pick" "_law_pick" s_lpick f fd) (T : Tx mg) (c_ldraw : Kn P w K mg base "_law_draw" ["_law_pen_here", "_law_many"] 1 spDraw) : FnOk P w K mg base CX0 2 f fd ["_law_pen_here", "_law_some"] spPickS := by
  refine F.ok sc_lpick (fun vs H Q E h => ?_) (fun cdv A outer s H vs Q E hr h => ?_)
  · obtain ⟨p, H0, n, z, rfl, _⟩ := h
    rfl
  · obtain ⟨p, H0, n, z, rfl, P0, hn, hz0, hz1, q⟩ := h
    have ez : z.length = z.cps.toList.length := by simp [Str.length]
    refine ⟨_, (pss_one (ps_ret (pe_ix ix_str (pv 1) (pe_call c_ldraw.ok (hr.mono (by decide)) (by rfl) c_ldraw.g c_ldraw.kp c_ldraw.b .nil pass0 (pa_cons (pv 0) (pa_cons (pe_callB call_len_str (by rfl) T.len PySem.boot_len (pa_cons (pv 1) pa_nil)) pa_nil))) (fun _ _ => rfl)))), ?_⟩
    refine ⟨_, rfl, _, rfl, _, rfl, z, rfl, sz_le hz1, p, H0, n, _, rfl, P0, hn, by omega, by omega, fun H' r P1 r0 r1 => ?_⟩
    obtain ⟨c, hc, ha⟩ := at_draw (xs := z.cps.toList) r0 (by rw [← ez]; exact r1)
    exact ⟨z, r, c, rfl, rfl, sz_le hz1, ha, q _ _ P1 hc⟩
theorem ok_pickL {f : Addr} {fd : FuncData} (F : Fun K "_law_pick" "_law_pick" s_lpick f fd) (T : Tx mg) (c_ldraw : Kn P w K mg base "_law_draw" ["_law_pen_here", "_law_many"] 1 spDraw) : FnOk P w K mg base CX0 2 f fd ["_law_pen_here", "_law_some"] spPickL := by
  refine F.ok sc_lpick (fun vs H Q E h => ?_) (fun cdv A outer s H vs Q E hr h => ?_)
  · obtain ⟨p, H0, a, n, xs, rfl, _⟩ := h
    rfl
  · obtain ⟨p, H0, a, n, xs, rfl, P0, hn, hx, hz0, hz1, q⟩ := h
    refine ⟨_, (pss_one (ps_ret (pe_ix ix_list (pv 1) (pe_call c_ldraw.ok (hr.mono (by decide)) (by rfl) c_ldraw.g c_ldraw.kp c_ldraw.b .nil pass0 (pa_cons (pv 0) (pa_cons (pe_callB call_len_seq (by rfl) T.len PySem.boot_len (pa_cons (pv 1) pa_nil)) pa_nil))) (fun _ _ => rfl)))), ?_⟩
    refine ⟨_, rfl, _, rfl, _, rfl, a, xs, rfl, .inl (sq_of hx), p, upd H0 a (.lst xs), n, _, rfl, P0.keep hx (P0.lst_ne hx), hn, by omega, by omega, fun H' r P1 r0 r1 => ?_⟩
    obtain ⟨v, hv, ha⟩ := at_draw (xs := xs) r0 r1
    exact ⟨a, xs, r, v, rfl, rfl, sq_of (P1.1 _ _ upd_same), ha, q _ _ (P0.drop hx P1) hv⟩
end
end Law

namespace Law
open PySem PySem.Spec PyProof.Rows L2 Evl
def sg (c : Nat) : Str := ⟨#[c]⟩
def tx (l : List Nat) : Str := ⟨l.toArray⟩
theorem tx_len (l : List Nat) : (tx l).length = l.length := by simp [tx, Str.length]
theorem tx_list (l : List Nat) : (tx l).cps.toList = l := rfl
theorem tx_of (z : Str) : tx z.cps.toList = z := TL.ext_tl rfl
theorem sg_len (c : Nat) : (sg c).length = 1 := rfl
theorem joinL_nil : ∀ cs : List Nat, TL.joinL [] (cs.map fun c => [c]) = cs
  | [] => rfl
  | [c] => rfl
  | c :: d :: r => by
    show [c] ++ ([] ++ TL.joinL [] ((d :: r).map fun c => [c])) = c :: d :: r
    rw [joinL_nil (d :: r)]
    rfl
theorem join_sg (cs : List Nat) : Txt.join (Str.ofString "") (cs.map sg) = tx cs := by
  refine TL.ext_tl ?_
  rw [TL.join_eq, TL.tl_join, List.map_map, show TL.tl (Str.ofString "") = [] by decide +kernel]
  exact joinL_nil cs
theorem join_size (cs : List Nat) : ((cs.map sg).map (·.length)).sum = cs.length := by
  induction cs with
  | nil => rfl
  | cons c r ih =>
    show 1 + ((r.map sg).map (·.length)).sum = r.length + 1
    rw [ih, Nat.add_comm]
/-- the signs joined -/
theorem join_done {K : PySem.W.Frag} {H : Hp} {D : Addr} {cs : List Nat} {Q : VK} (hD : H D = some (.lst ((cs.map sg).map V.str))) (hl : cs.length ≤ 1000000) (q : Q (.str (tx cs)) H) :
    ∃ (a : Str) (p : Addr), ∃ ys : List Str, V.str (Str.ofString "") = .str a ∧ [V.ref D] = [.ref p] ∧ (SqL K H p (ys.map V.str) ∨ SqT K H p (ys.map V.str)) ∧ (ys.map (·.length)).sum + ys.length * a.length ≤ 16777216 ∧ Q (.str (Txt.join a ys)) H := by
  refine ⟨_, D, cs.map sg, rfl, rfl, .inl (sq_of hD), ?_, ?_⟩
  · rw [join_size, show (Str.ofString "").length = 0 from rfl]
    omega
  · rw [join_sg]
    exact q
def lets (f p n : Nat) : List Nat := (List.range n).map fun k => 97 + (f + p * k) % 26
def paces : List Nat := [1, 3, 5, 7, 9, 11, 15, 17, 19, 21, 23, 25]
def spLetters : Sp := fun vs H Q _ => ∃ (p : PenI) (H0 : Hp) (n : Nat), vs = [.ref p.d] ∧ PenAt p H0 H n ∧ n < 900000 ∧ ∀ H' f q m, PenAt p H0 H' (n + 3) → f < 26 → q ∈ paces → 2 ≤ m → m ≤ 4 → Q (.str (tx (lets f q m))) H'
theorem abc_at (r : Int) : ∃ c, atI (Str.ofString "abcdefghijklmnopqrstuvwxyz").cps.toList (r % 26) = some c ∧ c = 97 + (r % 26).toNat := by
  have h0 : 0 ≤ r % 26 := Int.emod_nonneg _ (by decide)
  have h1 : r % 26 < 26 := Int.emod_lt_of_pos _ (by decide)
  generalize hi : (r % 26) = i at h0 h1
  obtain ⟨j, rfl⟩ : ∃ j : Nat, i = (j : Int) := ⟨i.toNat, (Int.toNat_of_nonneg h0).symm⟩
  have hj : j < 26 := by omega
  have key : ∀ j : Nat, j < 26 → (Str.ofString "abcdefghijklmnopqrstuvwxyz").cps.toList[j]? = some (97 + j) := by decide +kernel
  exact ⟨97 + j, atI_nat (key j hj), by simp⟩
theorem paces_le : ∀ x ∈ paces, x ≤ 25 := by decide
theorem lets_succ (f p n : Nat) : lets f p (n + 1) = lets f p n ++ [97 + (f + p * n) % 26] := by
  unfold lets
  rw [List.range_succ, List.map_append]
  rfl
theorem lets_len (f p n : Nat) : (lets f p n).length = n := by
  unfold lets
  rw [List.length_map, List.length_range]
theorem sg_snoc (cs : List Nat) (c : Nat) : ((cs.map sg).map V.str) ++ [.str (sg c)] = ((cs ++ [c]).map sg).map V.str := by
  rw [List.map_append, List.map_append]
  rfl
theorem fresh0 {p : PenI} {H0 H : Hp} {n : Nat} {a : Addr} (P : PenAt p H0 H n) (h : H a = none) : H0 a = none := fresh_back P.1 h
theorem fresh_ne {p : PenI} {H0 H : Hp} {n : Nat} {a : Addr} (P : PenAt p H0 H n) (h : H a = none) : a ≠ p.d := by
  obtain ⟨kvs, h2⟩ := P.dict
  intro e
  rw [e, h2] at h
  cases h
section
variable {P : Program} {w : World} {K : PySem.W.Frag} {mg : Str → Option Value} {base : Heap}
theorem ok_letters {f : Addr} {fd : FuncData} (F : Fun K "_law_letters" "_law_letters" s_lletters f fd) (T : Tx mg) (c_ldraw : Kn P w K mg base "_law_draw" ["_law_pen_here", "_law_many"] 1 spDraw)
    (c_pickL : Kn P w K mg base "_law_pick" ["_law_pen_here", "_law_some"] 2 spPickL) : FnOk P w K mg base CX0 3 f fd ["_law_pen_here"] spLetters := by
  refine F.ok sc_lletters (fun vs H Q E h => ?_) (fun cdv A outer s H vs Q E hr h => ?_)
  · obtain ⟨p, H0, n, rfl, _⟩ := h
    rfl
  · obtain ⟨p, H0, n, rfl, P0, hn, q⟩ := h
    refine ⟨_, (pss_cons (ps_asg (pe_tup (pa_cons pe_str (pa_cons (pe_call c_ldraw.ok (hr.mono (by decide)) (by rfl) c_ldraw.g c_ldraw.kp c_ldraw.b .nil pass0 (pa_cons (pv 0) (pa_cons pe_int pa_nil))) pa_nil))) (pg_tup (by rfl) (pgs_cons (pg_name (i := 1) sc_lletters.nd rfl (Or.inr rfl)) (pgs_cons (pg_name (i := 2) sc_lletters.nd rfl (Or.inr rfl)) pgs_nil))))
      (pss_cons (ps_set (i := 3) sc_lletters.nd rfl (Or.inr rfl) (pe_call c_pickL.ok (hr.mono (by decide)) (by rfl) c_pickL.g c_pickL.kp c_pickL.b .nil pass0 (pa_cons (pv 0) (pa_cons (pe_lst (pa_cons pe_int (pa_cons pe_int (pa_cons pe_int (pa_cons pe_int (pa_cons pe_int (pa_cons pe_int (pa_cons pe_int (pa_cons pe_int (pa_cons pe_int (pa_cons pe_int (pa_cons pe_int (pa_cons pe_int pa_nil))))))))))))) pa_nil))))
      (pss_one (ps_ret (pe_join pe_str (pe_lc (own := [("_law_k", 4)]) (g := gName 4) (tt := tYes) rfl sc_lletters.nd (pi_range1 (by rfl) T.range (pa_cons (pe_op op_add pe_int (pe_call c_ldraw.ok (hr.mono (by decide)) (by rfl) c_ldraw.g c_ldraw.kp c_ldraw.b .nil pass0 (pa_cons (pv 0) (pa_cons pe_int pa_nil)))) pa_nil)) (blkOk_by (N := N_lletters) (sc := defScope s_lletters) (by decide +kernel)) (fun _ _ _ _ _ => (pg_name (i := 4) sc_lletters.nd rfl (Or.inl rfl))) (fun _ _ _ _ _ => pts_nil) (fun _ _ _ _ _ => (pe_ix ix_str (pv 1) (pe_op op_mod (pe_callTy call_int1 (by rfl) T.int PyProof.Rows.boot_int (pa_cons (pe_op op_add (pv 2) (pe_op op_mul (pv 3) (pv 4))) pa_nil)) pe_int) (fun _ _ => rfl))))))))), ?_⟩
    refine ⟨_, rfl, p, H0, n, 26, rfl, P0, by omega, by decide, by decide, fun H1 r P1 r0 r1 => ⟨by show 2 ≤ sizeLine; decide, fun t ht => ?_⟩⟩
    refine ⟨t, _, rfl, .inl (.inl upd_same), rfl, _, _, rfl, _, _, rfl, rfl, ?_⟩
    have P2 := P1.ex (Ex.new (o := .tup [V.str (Str.ofString "abcdefghijklmnopqrstuvwxyz"), V.int r]) ht)
    generalize (upd H1 t (.tup [V.str (Str.ofString "abcdefghijklmnopqrstuvwxyz"), V.int r])) = H2 at P2 ⊢
    refine ⟨_, rfl, by show 12 ≤ sizeLine; decide, fun l hl => ⟨p, H0, l, n + 1, _, rfl, P2.ex (Ex.new hl), by omega, upd_same, by show 0 < 12; decide, by show 12 < 1000; decide, fun H3 v P3 hv => ?_⟩⟩
    obtain ⟨pc, hpc, rfl⟩ : ∃ pc : Nat, pc ∈ paces ∧ v = .int pc := by
      have hv2 : v ∈ paces.map fun pc => V.int ((pc : Nat) : Int) := hv
      obtain ⟨x, h1, h2⟩ := List.mem_map.mp hv2
      exact ⟨x, h1, h2.symm⟩
    refine ⟨⟨_, rfl⟩, _, rfl, p, H0, n + 2, 3, rfl, P3, by omega, by decide, by decide, fun H4 r2 P4 s0 s1 => ⟨_, _, rfl, rfl, _, rfl, by omega, by omega, fun D hD => ?_⟩⟩
    obtain ⟨m, hm⟩ : ∃ m : Nat, (2 + r2).toNat = m := ⟨_, rfl⟩
    obtain ⟨fr, rfl⟩ : ∃ fr : Nat, r = (fr : Int) := ⟨r.toNat, (Int.toNat_of_nonneg r0).symm⟩
    rw [hm]
    have pc1 := paces_le pc hpc
    have d0 := fresh0 P4 hD
    have d1 := fresh_ne P4 hD
    refine lc_range (lo := 0) (n := m) (fun i H => PenAt p H0 H (n + 3) ∧ H D = some (.lst (((lets fr pc i).map sg).map V.str))) ⟨(P4.upd d0 d1).le (by omega), upd_same⟩ (fun i H hi hw => ?_) (fun H hw => ?_)
    · refine ⟨rfl, _, rfl, _, rfl, _, rfl, _, rfl, _, _, rfl, rfl, .inl ⟨by omega, by omega⟩, _, _, rfl, rfl, .inl ⟨_, rfl, _, _, rfl, rfl, (by show (0 : Int) < 26; decide), ?_⟩⟩
      obtain ⟨c, hc1, hc2⟩ := abc_at ((fr : Int) + (pc : Int) * ((0 : Int) + (i : Int)))
      refine ⟨_, _, c, rfl, rfl, by decide +kernel, hc1, _, hw.2, ?_, hw.1.upd d0 d1, ?_⟩
      · rw [List.length_map, List.length_map, lets_len]
        exact Nat.lt_of_lt_of_le (show i < 100 by omega) (by decide)
      · rw [upd_same]
        refine congrArg (fun l => some (HO.lst l)) ?_
        rw [lets_succ, ← sg_snoc]
        have e : c = 97 + (fr + pc * i) % 26 := by
          rw [hc2]
          have e1 : ((fr : Int) + (pc : Int) * ((0 : Int) + (i : Int))) = ((fr + pc * i : Nat) : Int) := by
            rw [Int.zero_add]
            simp
          rw [e1]
          omega
        rw [e]
        rfl
    · exact join_done hw.2 (by unfold lets; rw [List.length_map, List.length_range]; omega) (q _ _ _ _ hw.1 (by omega) hpc (by omega) (by omega))
end
end Law

namespace Law
open PySem PySem.Spec PyProof.Rows L2 Evl
theorem fold_app (l : List (Array Nat)) : ∀ a : Array Nat, (l.foldl (· ++ ·) a).toList = a.toList ++ (l.map Array.toList).flatten := by
  induction l with
  | nil => intro a; simp
  | cons x r ih =>
    intro a
    rw [List.foldl_cons, ih, List.map_cons, List.flatten_cons, Array.toList_append, List.append_assoc]
theorem mul_tx (l : List Nat) {n : Int} (h : 1 ≤ n) : Txt.mul (tx l) n = tx (List.replicate n.toNat l).flatten := by
  refine TL.ext_tl ?_
  unfold Txt.mul
  rw [if_neg (by omega)]
  by_cases q : (n == 1 || (tx l).length == 0) = true
  · rw [if_pos q]
    rw [Bool.or_eq_true, beq_iff_eq, beq_iff_eq] at q
    rcases q with q | q
    · subst q
      show l = (List.replicate 1 l).flatten
      simp
    · rw [tx_len] at q
      have e : l = [] := List.length_eq_zero_iff.mp q
      subst e
      show ([] : List Nat) = (List.replicate n.toNat []).flatten
      simp
  · rw [if_neg q]
    show (List.foldl (· ++ ·) #[] (List.replicate n.toNat (tx l).cps)).toList = (List.replicate n.toNat l).flatten
    rw [fold_app, List.map_replicate]
    rfl
theorem rep_len (n : Nat) (l : List Nat) : (List.replicate n l).flatten.length = n * l.length := by
  induction n with
  | zero => simp
  | succ k ih => rw [List.replicate_succ, List.flatten_cons, List.length_append, ih, Nat.succ_mul, Nat.add_comm]
theorem cut_to (l : List Nat) (k : Nat) : cutS (tx l) none (some (k : Int)) = tx (l.take k) := by
  refine TL.ext_tl ?_
  show (List.take _ (List.drop _ l)) = l.take k
  rw [HT.sIx_none, HT.sIx_nat, tx_len, Nat.sub_zero, List.drop_zero]
  rw [List.take_eq_take_iff]
  omega
theorem cut_from (l : List Nat) (k : Nat) : cutS (tx l) (some (k : Int)) none = tx (l.drop k) := by
  refine TL.ext_tl ?_
  show (List.take _ (List.drop _ l)) = l.drop k
  rw [HT.sIx_none, HT.sIx_nat, tx_len]
  by_cases h : k ≤ l.length
  · rw [Nat.min_eq_left h, List.take_of_length_le (by rw [List.length_drop]; omega)]
  · rw [Nat.min_eq_right (by omega), Nat.sub_self, List.take_zero, List.drop_eq_nil_of_le (by omega)]
theorem cut_mid (l : List Nat) (a b : Nat) : cutS (tx l) (some (a : Int)) (some ((a : Int) + (b : Int))) = tx ((l.drop a).take b) := by
  refine TL.ext_tl ?_
  show (List.take _ (List.drop _ l)) = (l.drop a).take b
  rw [show (a : Int) + (b : Int) = ((a + b : Nat) : Int) by omega, HT.sIx_nat, HT.sIx_nat, tx_len]
  by_cases h : a ≤ l.length
  · rw [Nat.min_eq_left h, List.take_eq_take_iff, List.length_drop]
    omega
  · have x1 : min a l.length = l.length := by omega
    have x2 : min (a + b) l.length = l.length := by omega
    rw [x1, x2, List.drop_length, List.drop_eq_nil_of_le (show l.length ≤ a by omega), List.take_nil, List.take_nil]
theorem join_bound (cs : List Nat) (h : cs.length ≤ 1000000) : ((cs.map sg).map (·.length)).sum + (cs.map sg).length * (Str.ofString "").length ≤ 16777216 := by
  rw [join_size, show (Str.ofString "").length = 0 from rfl]
  omega
theorem tx_le {l : List Nat} (h : l.length < 1000) : (tx l).length ≤ sizeLine := by
  rw [tx_len]
  exact sz_le h
theorem sg_tx (c : Nat) : sg c = tx [c] := rfl
theorem mem_rep {n : Nat} {l : List Nat} {c : Nat} (h : c ∈ (List.replicate n l).flatten) : c ∈ l := by
  obtain ⟨m, hm, hc⟩ := List.mem_flatten.mp h
  rw [List.eq_of_mem_replicate hm] at hc
  exact hc
theorem tx_app (l m : List Nat) : tx l ++ tx m = tx (l ++ m) := by
  refine TL.ext_tl ?_
  rw [TL.tl_append]
  rfl
def spWord : Sp := fun vs H Q _ => ∃ (p : PenI) (H0 : Hp) (n wd : Nat) (z : Str), vs = [.ref p.d, .str z, .int (wd : Int)] ∧ PenAt p H0 H n ∧ n < 800000 ∧ 0 < z.length ∧ z.length < 1000 ∧ 1 ≤ wd ∧ wd ≤ 8 ∧
  ∀ H' cs, PenAt p H0 H' (n + 15) → cs.length = wd → (∀ c ∈ cs, c ∈ z.cps.toList) → Q (.str (tx cs)) H'
/-- signs picked one by one -/
def Picks (p : PenI) (H0 : Hp) (n : Nat) (z : Str) (D : Addr) (i : Nat) (H : Hp) : Prop := PenAt p H0 H (n + i) ∧ ∃ cs : List Nat, cs.length = i ∧ (∀ c ∈ cs, c ∈ z.cps.toList) ∧ H D = some (.lst ((cs.map sg).map V.str))
section
variable {P : Program} {w : World} {K : PySem.W.Frag} {mg : Str → Option Value} {base : Heap}
theorem ok_word {f : Addr} {fd : FuncData} (F : Fun K "_law_word" "_law_word" s_lword f fd) (T : Tx mg) (c_ldraw : Kn P w K mg base "_law_draw" ["_law_pen_here", "_law_many"] 1 spDraw)
    (c_pickS : Kn P w K mg base "_law_pick" ["_law_pen_here", "_law_some"] 2 spPickS) : FnOk P w K mg base CX0 3 f fd ["_law_pen_here", "_law_letters_here", "_law_width"] spWord := by
  refine F.ok sc_lword (fun vs H Q E h => ?_) (fun cdv A outer s H vs Q E hr h => ?_)
  · obtain ⟨p, H0, n, wd, z, rfl, _⟩ := h
    rfl
  · obtain ⟨p, H0, n, wd, z, rfl, P0, hn, hz0, hz1, hw0, hw1, q⟩ := h
    refine ⟨_, (pss_cons (ps_par (i := 3) (j := 4) (by rfl) sc_lword.nd rfl rfl (by decide) rfl rfl (pa_cons (pe_call c_ldraw.ok (hr.mono (by decide)) (by rfl) c_ldraw.g c_ldraw.kp c_ldraw.b .nil pass0 (pa_cons (pv 0) (pa_cons pe_int pa_nil))) (pa_cons (pe_call c_ldraw.ok (hr.mono (by decide)) (by rfl) c_ldraw.g c_ldraw.kp c_ldraw.b .nil pass0 (pa_cons (pv 0) (pa_cons (pv 2) pa_nil))) pa_nil)) (by rfl))
      (pss_cons (ps_set (i := 5) sc_lword.nd rfl (Or.inl rfl) (pe_join pe_str (pe_lc (own := [("_law_k", 6)]) (g := gName 6) (tt := tYes) rfl sc_lword.nd (pi_range1 (by rfl) T.range (pa_cons (pe_op op_add pe_int (pe_call c_ldraw.ok (hr.mono (by decide)) (by rfl) c_ldraw.g c_ldraw.kp c_ldraw.b .nil pass0 (pa_cons (pv 0) (pa_cons pe_int pa_nil)))) pa_nil)) (blkOk_by (N := N_lword) (sc := defScope s_lword) (by decide +kernel)) (fun _ _ _ _ _ => (pg_name (i := 6) sc_lword.nd rfl (Or.inl rfl))) (fun _ _ _ _ _ => pts_nil) (fun _ _ _ _ _ => (pe_call c_pickS.ok (hr.mono (by decide)) (by rfl) c_pickS.g c_pickS.kp c_pickS.b .nil pass0 (pa_cons (pv 0) (pa_cons (pv 1) pa_nil)))))))
      (pss_cons (ps_set (i := 7) sc_lword.nd rfl (Or.inl rfl) (pe_slice sl_str (pe_op ZS.op_mulS (pv 5) (pv 2)) po_none (po_some (pv 2))))
      (pss_cons (ps_if (pt_cmpR op_eq (pv 3) pe_int (nomark _)) (pss_one (ps_ret (pe_join pe_str (pe_lc (own := [("_law_k", 6)]) (g := gName 6) (tt := tYes) rfl sc_lword.nd (pi_range1 (by rfl) T.range (pa_cons (pv 2) pa_nil)) (blkOk_by (N := N_lword) (sc := defScope s_lword) (by decide +kernel)) (fun _ _ _ _ _ => (pg_name (i := 6) sc_lword.nd rfl (Or.inl rfl))) (fun _ _ _ _ _ => pts_nil) (fun _ _ _ _ _ => (pe_call c_pickS.ok (hr.mono (by decide)) (by rfl) c_pickS.g c_pickS.kp c_pickS.b .nil pass0 (pa_cons (pv 0) (pa_cons (pv 1) pa_nil)))))))) pss_nil)
      (pss_one (ps_ret (pe_ifExp (pt_cmpR op_eq (pv 3) pe_int (nomark _)) (pe_op op_add_str (pe_op op_add_str (pe_slice sl_str (pv 7) po_none (po_some (pv 4))) (pe_call c_pickS.ok (hr.mono (by decide)) (by rfl) c_pickS.g c_pickS.kp c_pickS.b .nil pass0 (pa_cons (pv 0) (pa_cons (pv 1) pa_nil)))) (pe_slice sl_str (pv 7) (po_some (pe_op op_add (pv 4) pe_int)) po_none)) (pv 7)))))))), ?_⟩
    refine ⟨_, rfl, p, H0, n, 4, rfl, P0, by omega, by decide, by decide, fun H1 r1 P1 r10 r11 => ?_⟩
    refine ⟨_, rfl, _, rfl, p, H0, n + 1, wd, rfl, P1, by omega, by omega, by omega, fun H2 r2 P2 r20 r21 => ⟨_, _, rfl, ?_⟩⟩
    obtain ⟨at_, rfl⟩ : ∃ k : Nat, r2 = (k : Int) := ⟨r2.toNat, (Int.toNat_of_nonneg r20).symm⟩
    refine ⟨⟨_, rfl⟩, _, rfl, p, H0, n + 2, 3, rfl, P2, by omega, by decide, by decide, fun H3 r3 P3 r30 r31 => ⟨_, _, rfl, rfl, _, rfl, by omega, by omega, fun D hD => ?_⟩⟩
    obtain ⟨m, hm⟩ : ∃ m : Nat, (1 + r3).toNat = m := ⟨_, rfl⟩
    rw [hm]
    have d0 := fresh0 P3 hD
    have d1 := fresh_ne P3 hD
    refine lc_range (lo := 0) (n := m) (Picks p H0 (n + 3) z D) ⟨P3.upd d0 d1, [], rfl, (fun c h => nomatch h), upd_same⟩ (fun i H hi hw => ?_) (fun H hw => ?_)
    · obtain ⟨Q1, cs, hcs, hcz, hL⟩ := hw
      refine ⟨rfl, _, rfl, _, rfl, p, upd H0 D (.lst ((cs.map sg).map V.str)), n + 3 + i, z, rfl, Q1.keep hL d1, by omega, hz0, hz1, fun H5 c P5 hc => ?_⟩
      have hL5 := P5.1 _ _ upd_same
      refine ⟨_, hL5, ?_, (Q1.drop hL P5).upd d0 d1, cs ++ [c], by rw [List.length_append, hcs]; rfl, fun x hx => ?_, ?_⟩
      · rw [List.length_map, List.length_map, hcs]
        exact Nat.lt_of_lt_of_le (show i < 100 by omega) (by decide)
      · rcases List.mem_append.mp hx with h | h
        · exact hcz x h
        · rw [List.mem_singleton.mp h]
          exact hc
      · rw [upd_same, ← sg_snoc]
        rfl
    · obtain ⟨Q1, cs, hcs, hcz, hL⟩ := hw
      refine ⟨_, D, cs.map sg, rfl, rfl, .inl (sq_of hL), join_bound cs (by omega), ?_⟩
      rw [join_sg]
      refine ⟨_, rfl, _, rfl, _, _, rfl, rfl, mulOk_of 16 16 (by rw [tx_len]; omega) (by omega) (by omega) (by decide) (by decide), _, rfl, _, rfl, _, rfl, ?_, ?_⟩
      · rw [mul_tx cs (by omega), tx_len, rep_len, hcs]
        have b : (wd : Int).toNat * m ≤ 8 * 3 := Nat.mul_le_mul (by omega) (by omega)
        exact sz_le (by omega)
      rw [mul_tx cs (by omega), cut_to]
      obtain ⟨W, hW⟩ : ∃ W, (List.replicate (wd : Int).toNat cs).flatten.take wd = W := ⟨_, rfl⟩
      have lW : W.length = wd := by
        rw [← hW, List.length_take, rep_len, hcs, show (wd : Int).toNat = wd by omega]
        have b : wd * 1 ≤ wd * m := Nat.mul_le_mul_left _ (by omega)
        omega
      have mW : ∀ c ∈ W, c ∈ z.cps.toList := fun c hc => by
        rw [← hW] at hc
        exact hcz c (mem_rep (List.mem_of_mem_take hc))
      rw [hW]
      refine ⟨_, rfl, rfl, _, rfl, ite2 (fun hway => ?_) (fun hway => ?_)⟩
      · refine ⟨⟨_, rfl⟩, _, rfl, _, rfl, by omega, by omega, fun D2 hD2 => ?_⟩
        have g0 := fresh0 Q1 hD2
        have g1 := fresh_ne Q1 hD2
        rw [show (wd : Int).toNat = wd by omega]
        refine lc_range (lo := 0) (n := wd) (Picks p H0 (n + 6) z D2) ⟨(Q1.le (by omega)).upd g0 g1, [], rfl, (fun c h => nomatch h), upd_same⟩ (fun i H hi hw => ?_) (fun H hw => ?_)
        · obtain ⟨Q1, cs, hcs, hcz, hL⟩ := hw
          refine ⟨rfl, _, rfl, _, rfl, p, upd H0 D2 (.lst ((cs.map sg).map V.str)), n + 6 + i, z, rfl, Q1.keep hL g1, by omega, hz0, hz1, fun H5 c P5 hc => ?_⟩
          have hL5 := P5.1 _ _ upd_same
          refine ⟨_, hL5, ?_, (Q1.drop hL P5).upd g0 g1, cs ++ [c], by rw [List.length_append, hcs]; rfl, fun x hx => ?_, ?_⟩
          · rw [List.length_map, List.length_map, hcs]
            exact Nat.lt_of_lt_of_le (show i < 100 by omega) (by decide)
          · rcases List.mem_append.mp hx with h | h
            · exact hcz x h
            · rw [List.mem_singleton.mp h]
              exact hc
          · rw [upd_same, ← sg_snoc]
            rfl
        · obtain ⟨Q2, cs2, hcs2, hcz2, hL2⟩ := hw
          refine ⟨_, D2, cs2.map sg, rfl, rfl, .inl (sq_of hL2), join_bound cs2 (by omega), ?_⟩
          rw [join_sg]
          exact q _ _ (Q2.le (by omega)) hcs2 hcz2
      · refine ⟨_, rfl, rfl, _, rfl, ite2 (fun hw1 => ?_) (fun hw1 => ?_)⟩
        · refine ⟨_, rfl, _, rfl, _, rfl, _, rfl, tx_le (by omega), _, rfl, _, rfl, p, H0, n + 6, z, rfl, Q1.le (by omega), by omega, hz0, hz1, fun H6 c P6 hc => ?_⟩
          rw [cut_to]
          refine ⟨_, _, rfl, rfl, ?_, _, rfl, _, rfl, _, _, rfl, rfl, _, rfl, _, rfl, tx_le (by omega), ?_⟩
          · rw [tx_len, List.length_take]
            exact sz_le (show min at_ W.length + 1 < 1000 by omega)
          rw [show (at_ : Int) + 1 = ((at_ + 1 : Nat) : Int) by omega, cut_from]
          have e1 : tx (W.take at_) ++ (⟨#[c]⟩ : Str) = tx (W.take at_ ++ [c]) := tx_app _ [c]
          rw [e1]
          refine ⟨_, _, rfl, rfl, ?_, ?_⟩
          · rw [tx_len, tx_len, List.length_append, List.length_take, List.length_drop]
            exact sz_le (show (min at_ W.length + 1) + (W.length - (at_ + 1)) < 1000 by omega)
          rw [tx_app]
          refine q _ _ (P6.le (by omega)) ?_ ?_
          · rw [List.length_append, List.length_append, List.length_take, List.length_drop]
            show (min at_ W.length + 1) + (W.length - (at_ + 1)) = wd
            omega
          · intro x hx
            rcases List.mem_append.mp hx with h | h
            · rcases List.mem_append.mp h with h | h
              · exact mW x (List.mem_of_mem_take h)
              · rw [List.mem_singleton.mp h]
                exact hc
            · exact mW x (List.mem_of_mem_drop h)
        · refine ⟨_, rfl, ?_⟩
          exact q _ _ (Q1.le (by omega)) lW mW
end
end Law

namespace Law
open PySem PySem.Spec PyProof.Rows L2 Evl
theorem dot_sg : Str.ofString "." = sg 46 := by decide +kernel
theorem sg_inj {c d : Nat} : V.str (sg c) = V.str (sg d) ↔ c = d := by
  constructor
  · intro h
    have h1 : sg c = sg d := V.str.inj h
    have h2 : (sg c).cps.toList = (sg d).cps.toList := by rw [h1]
    exact List.head_eq_of_cons_eq h2
  · intro h
    rw [h]
/-- does the k-th sign of z stand there -/
def okAt (K z : List Nat) (o k : Nat) : Bool := decide (K.length ≤ o + k) || (K.getD (o + k) 0 == 46 || K.getD (o + k) 0 == z.getD k 0)
def fitsF (K z : List Nat) (o : Nat) : Bool := (List.range z.length).all (okAt K z o)
def slidF (K : List Nat) (b : Nat) : List Nat := K.drop b ++ List.replicate (min b K.length) 46
theorem getD_at {l : List Nat} {i : Nat} (h : i < l.length) : l[i]? = some (l.getD i 0) := by
  rw [List.getD_eq_getElem?_getD, List.getElem?_eq_getElem h]
  rfl
theorem at_of_lt {l : List Nat} {i : Nat} (h : i < l.length) : atI l (i : Int) = some (l.getD i 0) := atI_nat (getD_at h)
def sgn (S z : List Nat) (n : Nat) : List Bool := (List.range n).map fun i => S.getD i 0 == 46 || S.getD i 0 == z.getD i 0
theorem sgn_succ (S z : List Nat) (n : Nat) : sgn S z (n + 1) = sgn S z n ++ [S.getD n 0 == 46 || S.getD n 0 == z.getD n 0] := by
  unfold sgn
  rw [List.range_succ, List.map_append]
  rfl
theorem sgn_len (S z : List Nat) (n : Nat) : (sgn S z n).length = n := by
  unfold sgn
  rw [List.length_map, List.length_range]
theorem bl_snoc (bs : List Bool) (b : Bool) : bs.map V.bl ++ [.bl b] = (bs ++ [b]).map V.bl := by
  rw [List.map_append]
  rfl
theorem fits_eq (K z : List Nat) (o : Nat) : (sgn ((K.drop o).take z.length) z (min ((K.drop o).take z.length).length z.length)).all id = fitsF K z o := by
  have hn : min ((K.drop o).take z.length).length z.length = min (K.length - o) z.length := by
    rw [List.length_take, List.length_drop]
    omega
  rw [hn, Bool.eq_iff_iff]
  unfold sgn fitsF
  rw [List.all_map, List.all_eq_true, List.all_eq_true]
  have get : ∀ k, k < min (K.length - o) z.length → ((K.drop o).take z.length).getD k 0 = K.getD (o + k) 0 := fun k hk => by
    rw [List.getD_eq_getElem?_getD, List.getD_eq_getElem?_getD, List.getElem?_take_of_lt (by omega), List.getElem?_drop]
  constructor
  · intro h k hk
    rw [List.mem_range] at hk
    unfold okAt
    by_cases q : K.length ≤ o + k
    · rw [decide_eq_true q]
      rfl
    · have h1 := h k (List.mem_range.mpr (by omega))
      have h1 : (((K.drop o).take z.length).getD k 0 == 46 || ((K.drop o).take z.length).getD k 0 == z.getD k 0) = true := h1
      rw [get k (by omega)] at h1
      rw [h1, Bool.or_true]
  · intro h k hk
    rw [List.mem_range] at hk
    have h1 := h k (List.mem_range.mpr (by omega))
    unfold okAt at h1
    rw [decide_eq_false (by omega), Bool.false_or] at h1
    show (((K.drop o).take z.length).getD k 0 == 46 || ((K.drop o).take z.length).getD k 0 == z.getD k 0) = true
    rw [get k hk]
    exact h1
theorem mul_dot (m : Nat) : Txt.mul (sg 46) (m : Int) = tx (List.replicate m 46) := by
  by_cases h : m = 0
  · subst h
    rfl
  · rw [sg_tx, mul_tx [46] (by omega), show (m : Int).toNat = m by omega]
    refine congrArg tx ?_
    clear h
    induction m with
    | zero => rfl
    | succ k ih => rw [List.replicate_succ, List.flatten_cons, ih]; rfl
def slidL (K : List Nat) (b i : Nat) : List Nat := (List.range i).map fun j => if j + b < K.length then K.getD (j + b) 0 else 46
theorem slidL_succ (K : List Nat) (b i : Nat) : slidL K b (i + 1) = slidL K b i ++ [if i + b < K.length then K.getD (i + b) 0 else 46] := by
  unfold slidL
  rw [List.range_succ, List.map_append]
  rfl
theorem slidL_len (K : List Nat) (b i : Nat) : (slidL K b i).length = i := by
  unfold slidL
  rw [List.length_map, List.length_range]
theorem slidF_len (K : List Nat) (b : Nat) : (slidF K b).length = K.length := by
  unfold slidF
  rw [List.length_append, List.length_drop, List.length_replicate]
  omega
theorem slidF_get (K : List Nat) (b i : Nat) (h : i < K.length) : (slidF K b)[i]? = some (if i + b < K.length then K.getD (i + b) 0 else 46) := by
  unfold slidF
  by_cases q : i + b < K.length
  · rw [if_pos q, List.getElem?_append_left (by rw [List.length_drop]; omega), List.getElem?_drop, Nat.add_comm b i]
    exact getD_at q
  · rw [if_neg q, List.getElem?_append_right (by rw [List.length_drop]; omega), List.length_drop, List.getElem?_replicate, if_pos (by omega)]
theorem slidL_get (K : List Nat) (b n i : Nat) (h : i < n) : (slidL K b n)[i]? = some (if i + b < K.length then K.getD (i + b) 0 else 46) := by
  unfold slidL
  rw [List.getElem?_map, List.getElem?_range h]
  rfl
theorem slidL_eq (K : List Nat) (b : Nat) : slidL K b K.length = slidF K b := by
  refine List.ext_getElem? fun i => ?_
  by_cases h : i < K.length
  · rw [slidL_get K b _ i h, slidF_get K b i h]
  · rw [List.getElem?_eq_none (by rw [slidL_len]; omega), List.getElem?_eq_none (by rw [slidF_len]; omega)]
def spFits : Sp := fun vs H Q _ => ∃ (k z : List Nat) (o : Nat), vs = [.str (tx k), .str (tx z), .int (o : Int)] ∧ k.length < 500 ∧ z.length < 500 ∧ o < 1000 ∧ ∀ H', Ex H H' → Q (.bl (fitsF k z o)) H'
def spSlid : Sp := fun vs H Q _ => ∃ (k : List Nat) (b : Nat), vs = [.str (tx k), .int (b : Int)] ∧ k.length < 500 ∧ ∀ H', Ex H H' → Q (.str (tx (slidF k b))) H'
section
variable {P : Program} {w : World} {K : PySem.W.Frag} {mg : Str → Option Value} {base : Heap}
theorem ok_fits {f : Addr} {fd : FuncData} (F : Fun K "fits" "fits" s_fits f fd) (T : Tx mg) : FnOk P w K mg base CX0 1 f fd ["known", "word", "offset"] spFits := by
  refine F.ok sc_fits (fun vs H Q E h => ?_) (fun cdv A outer s H vs Q E hr h => ?_)
  · obtain ⟨k, z, o, rfl, _⟩ := h
    rfl
  · obtain ⟨k, z, o, rfl, hk, hz, ho, q⟩ := h
    refine ⟨_, (pss_cons (ps_set (i := 3) sc_fits.nd rfl (Or.inl rfl) (pe_slice sl_str (pv 0) (po_some (pv 2)) (po_some (pe_op op_add (pv 2) (pe_callB call_len_str (by rfl) T.len PySem.boot_len (pa_cons (pv 1) pa_nil))))))
      (pss_one (ps_ret (pe_callB (cr_all rfl) (by rfl) T.all PyProof.Rows.boot_all (pa_cons (pe_lc (own := [("sign", 4), ("letter", 5)]) (g := gTup K 2 (gCons (gName 4) (gCons (gName 5) gNil))) (tt := tYes) rfl sc_fits.nd (ZS.pi_zipS (by rfl) T.zip (pa_cons (pv 3) (pa_cons (pv 1) pa_nil))) (blkOk_by (N := N_fits) (sc := defScope s_fits) (by decide +kernel)) (fun _ _ _ _ _ => (pg_tup (by rfl) (pgs_cons (pg_name (i := 4) sc_fits.nd rfl (Or.inl rfl)) (pgs_cons (pg_name (i := 5) sc_fits.nd rfl (Or.inl rfl)) pgs_nil)))) (fun _ _ _ _ _ => pts_nil) (fun _ _ _ _ _ => (pe_or (pe_cmpR op_eq (pv 4) pe_str (nomark _)) (pe_one (pe_cmpR op_eq (pv 4) (pv 5) (nomark _)))))) pa_nil))))), ?_⟩
    refine ⟨_, rfl, _, rfl, _, rfl, _, rfl, _, rfl, _, rfl, tx_le (by omega), _, _, rfl, rfl, _, rfl, _, rfl, tx_le (by omega), ?_⟩
    rw [tx_len, cut_mid]
    obtain ⟨S, hS⟩ : ∃ S, (k.drop o).take z.length = S := ⟨_, rfl⟩
    have hSl : S.length ≤ z.length := by
      rw [← hS, List.length_take]
      omega
    rw [hS]
    refine ⟨_, rfl, _, rfl, _, _, rfl, fun D hD => ?_⟩
    refine ZS.lc_zipS (x := tx S) (y := tx z) (fun i H' => Ex H H' ∧ H' D = some (.lst ((sgn S z i).map V.bl))) ⟨Ex.new hD, upd_same⟩ (fun i c d T' H1 hc hd hw hT => ?_) (fun H1 hw => ?_)
    · obtain ⟨e1, hL⟩ := hw
      have hc : S[i]? = some c := by
        rw [← hc]
        simp [tx]
      have hd : z[i]? = some d := by
        rw [← hd]
        simp [tx]
      have hi := (List.getElem?_eq_some_iff.mp hc).1
      have ec : S.getD i 0 = c := by rw [List.getD_eq_getElem?_getD, hc]; rfl
      have ed : z.getD i 0 = d := by rw [List.getD_eq_getElem?_getD, hd]; rfl
      have e2 : Ex H (upd H1 T' (.tup [.str (sg c), .str (sg d)])) := e1.trans (Ex.new hT)
      have hL2 : (upd H1 T' (.tup [.str (sg c), .str (sg d)])) D = some (.lst ((sgn S z i).map V.bl)) := Ex.new hT _ _ hL
      have done : ∀ b : Bool, b = (c == 46 || c == d) → ∃ acc, (upd H1 T' (.tup [.str (sg c), .str (sg d)])) D = some (.lst acc) ∧ acc.length < sizeLine ∧ (Ex H (upd (upd H1 T' (.tup [.str (sg c), .str (sg d)])) D (.lst (acc ++ [.bl b]))) ∧ (upd (upd H1 T' (.tup [.str (sg c), .str (sg d)])) D (.lst (acc ++ [.bl b]))) D = some (.lst ((sgn S z (i + 1)).map V.bl))) := fun b hb => by
        refine ⟨_, hL2, ?_, e2.mut hD, ?_⟩
        · rw [List.length_map, sgn_len]
          exact sz_lt (by omega)
        · rw [upd_same, sgn_succ, ← bl_snoc, ec, ed, hb]
      refine ⟨T', [.str (sg c), .str (sg d)], rfl, .inl (.inl upd_same), rfl, .str (sg c), [.str (sg d)], rfl, .str (sg d), [], rfl, rfl, rfl, _, rfl, rfl, _, rfl, ?_⟩
      by_cases h46 : c = 46
      · have x1 : decide (V.str (sg c) = V.str (Str.ofString ".")) = true := decide_eq_true (by rw [dot_sg, h46])
        rw [x1]
        exact done true (by rw [h46]; rfl)
      · have x1 : decide (V.str (sg c) = V.str (Str.ofString ".")) = false := decide_eq_false (by rw [dot_sg, sg_inj]; exact h46)
        rw [x1]
        refine ⟨_, rfl, _, rfl, rfl, ?_⟩
        have x2 : (c == 46) = false := by simpa using h46
        refine done _ ?_
        rw [x2, Bool.false_or]
        by_cases hcd : c = d
        · rw [hcd]
          simp
        · have x3 : (c == d) = false := by simpa using hcd
          rw [x3]
          exact decide_eq_false (by rw [sg_inj]; exact hcd)
    · obtain ⟨e1, hL⟩ := hw
      refine ⟨D, _, rfl, sq_of hL, ?_⟩
      have x : min (tx S).cps.size (tx z).cps.size = min S.length z.length := by simp [tx]
      rw [x, ← hS, fits_eq]
      exact q _ e1
theorem ok_slid {f : Addr} {fd : FuncData} (F : Fun K "slid" "slid" s_slid f fd) (T : Tx mg) : FnOk P w K mg base CX0 1 f fd ["known", "by"] spSlid := by
  refine F.ok sc_slid (fun vs H Q E h => ?_) (fun cdv A outer s H vs Q E hr h => ?_)
  · obtain ⟨k, b, rfl, _⟩ := h
    rfl
  · obtain ⟨k, b, rfl, hk, q⟩ := h
    refine ⟨_, (pss_one (ps_ret (pe_op op_add_str (pe_slice sl_str (pv 0) (po_some (pv 1)) po_none) (pe_op ZS.op_mulS pe_str (pe_callB (call_min2 rfl) (by rfl) T.min (by decide +kernel) (pa_cons (pv 1) (pa_cons (pe_callB call_len_str (by rfl) T.len PySem.boot_len (pa_cons (pv 0) pa_nil)) pa_nil))))))), ?_⟩
    refine ⟨_, rfl, _, rfl, _, rfl, _, rfl, tx_le (by omega), ?_⟩
    refine ⟨_, rfl, _, rfl, tx k, rfl, tx_le (by omega), _, _, rfl, ?_⟩
    have em : (if ((tx k).length : Int) < (b : Int) then ((tx k).length : Int) else (b : Int)) = ((min b k.length : Nat) : Int) := by
      rw [tx_len]
      by_cases q : (k.length : Int) < (b : Int)
      · rw [if_pos q]
        omega
      · rw [if_neg q]
        omega
    rw [em]
    refine ⟨_, _, rfl, rfl, ?_, ?_⟩
    · rw [dot_sg]
      exact mulOk_of 1 1000 (by rw [sg_len]; omega) (by omega) (by omega) (by decide) (by decide)
    rw [cut_from, dot_sg, mul_dot]
    refine ⟨_, _, rfl, rfl, ?_, ?_⟩
    · rw [tx_len, tx_len, List.length_drop, List.length_replicate]
      exact sz_le (by omega)
    · rw [tx_app]
      exact q _ (Ex.refl _)
theorem ok_lslid {f : Addr} {fd : FuncData} (F : Fun K "_law_slid" "_law_slid" s_lslid f fd) (T : Tx mg) : FnOk P w K mg base CX0 1 f fd ["_law_known", "_law_by"] spSlid := by
  refine F.ok sc_lslid (fun vs H Q E h => ?_) (fun cdv A outer s H vs Q E hr h => ?_)
  · obtain ⟨k, b, rfl, _⟩ := h
    rfl
  · obtain ⟨k, b, rfl, hk, q⟩ := h
    refine ⟨_, (pss_cons (ps_set (i := 2) sc_lslid.nd rfl (Or.inl rfl) pe_str)
      (pss_cons (ps_for PassesOwn.never rfl (pi_range1 (by rfl) T.range (pa_cons (pe_callB call_len_str (by rfl) T.len PySem.boot_len (pa_cons (pv 0) pa_nil)) pa_nil)) (pg_name (i := 3) sc_lslid.nd rfl (Or.inl rfl)) (pss_one (ps_set (i := 2) sc_lslid.nd rfl (Or.inl rfl) (pe_op op_add_str (pv 2) (pe_ifExp (pt_cmpR op_lt (pe_op op_add (pv 3) (pv 1)) (pe_callB call_len_str (by rfl) T.len PySem.boot_len (pa_cons (pv 0) pa_nil)) (nomark _)) (pe_ix ix_str (pv 0) (pe_op op_add (pv 3) (pv 1)) (fun _ _ => rfl)) pe_str)))))
      (pss_one (ps_ret (pv 2))))), ?_⟩
    refine ⟨_, rfl, _, rfl, tx_le (by omega), _, rfl, by rw [tx_len]; omega, by rw [tx_len]; omega, ?_⟩
    rw [tx_len, show ((k.length : Nat) : Int).toNat = k.length by omega]
    refine for_range (lo := 0) (n := k.length) (fun i σ H' => ∃ y, σ = [some (.str (tx k)), some (.int (b : Int)), some (.str (tx (slidL k b i))), y] ∧ Ex H H') ⟨none, ?_, Ex.refl _⟩ (fun i σ H' hi hw => ?_) (fun σ H' hw => ?_)
    · show [some (V.str (tx k)), some (.int (b : Int)), some (.str (Str.ofString "")), none] = _
      rw [show Str.ofString "" = tx [] by decide +kernel]
      rfl
    · obtain ⟨y, rfl, e⟩ := hw
      rw [Int.zero_add]
      refine ⟨_, rfl, _, rfl, _, rfl, _, _, rfl, rfl, _, rfl, _, rfl, tx_le (by omega), _, _, rfl, rfl, _, rfl, ?_⟩
      have done : ∀ c : Nat, c = (if i + b < k.length then k.getD (i + b) 0 else 46) → ∃ z1 z2, V.str (tx (slidL k b i)) = .str z1 ∧ V.str (sg c) = .str z2 ∧ z1.length + z2.length ≤ sizeLine ∧ (∃ y, [some (V.str (tx k)), some (.int (b : Int)), some (.str (z1 ++ z2)), some (V.int (i : Int))] = [some (.str (tx k)), some (.int (b : Int)), some (.str (tx (slidL k b (i + 1)))), y] ∧ Ex H H') := fun c hc => by
        refine ⟨_, _, rfl, rfl, ?_, some (V.int (i : Int)), ?_, e⟩
        · rw [tx_len, slidL_len]
          exact sz_le (show i + 1 < 1000 by omega)
        · rw [slidL_succ, ← hc, sg_tx, tx_app]
      rw [tx_len]
      by_cases hlt : i + b < k.length
      · rw [decide_eq_true (by omega)]
        refine ⟨_, rfl, _, rfl, _, rfl, _, _, rfl, rfl, _, _, k.getD (i + b) 0, rfl, rfl, tx_le (by omega), ?_, done _ (by rw [if_pos hlt])⟩
        rw [show (i : Int) + (b : Int) = ((i + b : Nat) : Int) by omega]
        exact at_of_lt hlt
      · rw [decide_eq_false (by omega)]
        exact done 46 (by rw [if_neg hlt])
    · obtain ⟨y, rfl, e⟩ := hw
      refine ⟨_, rfl, ?_⟩
      rw [slidL_eq]
      exact q _ e
theorem ok_lfits {f : Addr} {fd : FuncData} (F : Fun K "_law_fits" "_law_fits" s_lfits f fd) (T : Tx mg) : FnOk P w K mg base CX0 1 f fd ["_law_known", "_law_word_here", "_law_offset"] spFits := by
  refine F.ok sc_lfits (fun vs H Q E h => ?_) (fun cdv A outer s H vs Q E hr h => ?_)
  · obtain ⟨k, z, o, rfl, _⟩ := h
    rfl
  · obtain ⟨k, z, o, rfl, hk, hz, ho, q⟩ := h
    refine ⟨_, (pss_cons (ps_for PassesOwn.never rfl (pi_range1 (by rfl) T.range (pa_cons (pe_callB call_len_str (by rfl) T.len PySem.boot_len (pa_cons (pv 1) pa_nil)) pa_nil)) (pg_name (i := 3) sc_lfits.nd rfl (Or.inl rfl)) (pss_one (ps_if (PW.pt (pw_and (pt_cmpR op_lt (pe_op op_add (pv 2) (pv 3)) (pe_callB call_len_str (by rfl) T.len PySem.boot_len (pa_cons (pv 0) pa_nil)) (nomark _)) (pw_and (pt_cmpR op_ne (pe_ix ix_str (pv 0) (pe_op op_add (pv 2) (pv 3)) (fun _ _ => rfl)) pe_str (nomark _)) (pw_and1 (pt_cmpR op_ne (pe_ix ix_str (pv 0) (pe_op op_add (pv 2) (pv 3)) (fun _ _ => rfl)) (pe_ix ix_str (pv 1) (pv 3) (fun _ _ => rfl)) (nomark _)))))) (pss_one (ps_ret pe_bl)) pss_nil)))
      (pss_one (ps_ret pe_bl))), ?_⟩
    refine ⟨_, rfl, _, rfl, tx_le (by omega), _, rfl, by rw [tx_len]; omega, by rw [tx_len]; omega, ?_⟩
    rw [tx_len, show ((z.length : Nat) : Int).toNat = z.length by omega]
    refine for_range (lo := 0) (n := z.length) (fun i σ H' => ∃ y, σ = [some (.str (tx k)), some (.str (tx z)), some (.int (o : Int)), y] ∧ Ex H H' ∧ ∀ j, j < i → okAt k z o j = true) ⟨none, rfl, Ex.refl _, fun j hj => absurd hj (Nat.not_lt_zero _)⟩ (fun i σ H' hi hw => ?_) (fun σ H' hw => ?_)
    · obtain ⟨y, rfl, e, hall⟩ := hw
      rw [Int.zero_add]
      have step : okAt k z o i = true → ∃ y, [some (V.str (tx k)), some (.str (tx z)), some (.int (o : Int)), some (V.int (i : Int))] = [some (.str (tx k)), some (.str (tx z)), some (.int (o : Int)), y] ∧ Ex H H' ∧ ∀ j, j < i + 1 → okAt k z o j = true := fun hok => ⟨_, rfl, e, fun j hj => by
        by_cases q : j = i
        · rw [q]
          exact hok
        · exact hall j (by omega)⟩
      refine ⟨_, rfl, _, rfl, _, _, rfl, rfl, _, rfl, _, rfl, tx_le (by omega), _, _, rfl, rfl, _, rfl, ?_⟩
      rw [tx_len]
      by_cases hlt : o + i < k.length
      · rw [decide_eq_true (by omega)]
        have ea : (o : Int) + (i : Int) = ((o + i : Nat) : Int) := by omega
        refine ⟨_, rfl, _, rfl, _, rfl, _, _, rfl, rfl, _, _, k.getD (o + i) 0, rfl, rfl, tx_le (by omega), by rw [ea]; exact at_of_lt hlt, rfl, _, rfl, ?_⟩
        by_cases h46 : k.getD (o + i) 0 = 46
        · have x1 : decide (V.str (sg (k.getD (o + i) 0)) = V.str (Str.ofString ".")) = true := decide_eq_true (by rw [dot_sg, h46])
          show if (!decide (V.str (sg (k.getD (o + i) 0)) = V.str (Str.ofString "."))) = true then _ else _
          rw [x1]
          refine step ?_
          unfold okAt
          rw [h46]
          simp
        · have x1 : decide (V.str (sg (k.getD (o + i) 0)) = V.str (Str.ofString ".")) = false := decide_eq_false (by rw [dot_sg, sg_inj]; exact h46)
          show if (!decide (V.str (sg (k.getD (o + i) 0)) = V.str (Str.ofString "."))) = true then _ else _
          rw [x1]
          refine ⟨_, rfl, _, rfl, _, rfl, _, _, rfl, rfl, _, _, k.getD (o + i) 0, rfl, rfl, tx_le (by omega), by rw [ea]; exact at_of_lt hlt, _, rfl, _, rfl, _, _, z.getD i 0, rfl, rfl, tx_le (by omega), at_of_lt hi, rfl, _, rfl, ?_⟩
          by_cases hcd : k.getD (o + i) 0 = z.getD i 0
          · have x2 : decide (V.str (sg (k.getD (o + i) 0)) = V.str (sg (z.getD i 0))) = true := decide_eq_true (by rw [hcd])
            show if (!decide (V.str (sg (k.getD (o + i) 0)) = V.str (sg (z.getD i 0)))) = true then _ else _
            rw [x2]
            refine step ?_
            unfold okAt
            rw [hcd]
            simp
          · have x2 : decide (V.str (sg (k.getD (o + i) 0)) = V.str (sg (z.getD i 0))) = false := decide_eq_false (by rw [sg_inj]; exact hcd)
            show if (!decide (V.str (sg (k.getD (o + i) 0)) = V.str (sg (z.getD i 0)))) = true then _ else _
            rw [x2]
            have hno : fitsF k z o = false := by
              unfold fitsF
              rw [Bool.eq_false_iff]
              intro hall
              have h1 := (List.all_eq_true.mp hall) i (List.mem_range.mpr hi)
              unfold okAt at h1
              rw [decide_eq_false (show ¬ k.length ≤ o + i by omega), Bool.false_or, Bool.or_eq_true, beq_iff_eq, beq_iff_eq] at h1
              rcases h1 with h1 | h1
              · exact h46 h1
              · exact hcd h1
            have q2 := q H' e
            rw [hno] at q2
            exact q2
      · rw [decide_eq_false (by omega)]
        refine step ?_
        unfold okAt
        rw [decide_eq_true (by omega)]
        rfl
    · obtain ⟨y, rfl, e, hall⟩ := hw
      have hyes : fitsF k z o = true := by
        unfold fitsF
        exact List.all_eq_true.mpr fun j hj => hall j (List.mem_range.mp hj)
      have q2 := q H' e
      rw [hyes] at q2
      exact q2
end
end Law

namespace Law
open PySem PySem.Spec PyProof.Rows L2 Evl
theorem slid_twice (K : List Nat) : slidF (slidF K 1) 2 = slidF K 3 := by
  refine List.ext_getElem? fun i => ?_
  by_cases h : i < K.length
  · rw [slidF_get K 3 i h, slidF_get (slidF K 1) 2 i (by rw [slidF_len]; exact h), slidF_len]
    refine congrArg some ?_
    by_cases q : i + 2 < K.length
    · rw [if_pos q, List.getD_eq_getElem?_getD, slidF_get K 1 (i + 2) q]
      rfl
    · rw [if_neg q, if_neg (by omega)]
  · rw [List.getElem?_eq_none (by rw [slidF_len, slidF_len]; omega), List.getElem?_eq_none (by rw [slidF_len]; omega)]
def spLaw (K : PySem.W.Frag) : Sp := fun vs H Q _ => ∃ (a : Addr) (ns : List Int), vs = [.ref a] ∧ SqL K H a (ns.map V.int) ∧ ns.length ≤ 63 ∧ ∀ H', Q (.bl true) H'
def Known (p : PenI) (H0 : Hp) (n : Nat) (D : Addr) (i : Nat) (H : Hp) : Prop := PenAt p H0 H (n + 2 * i) ∧ ∃ cs : List Nat, cs.length = i ∧ H D = some (.lst ((cs.map sg).map V.str))
section
variable {P : Program} {w : World} {K : PySem.W.Frag} {mg : Str → Option Value} {base : Heap}
theorem ok_law {f : Addr} {fd : FuncData} (F : Fun K "law" "law" s_law f fd) (T : Tx mg)
    (c_lpen : Kn P w K mg base "_law_pen" ["_law_script"] 1 (spPen K))
    (c_ldraw : Kn P w K mg base "_law_draw" ["_law_pen_here", "_law_many"] 1 spDraw)
    (c_pickS : Kn P w K mg base "_law_pick" ["_law_pen_here", "_law_some"] 2 spPickS)
    (c_pickL : Kn P w K mg base "_law_pick" ["_law_pen_here", "_law_some"] 2 spPickL)
    (c_lletters : Kn P w K mg base "_law_letters" ["_law_pen_here"] 3 spLetters)
    (c_lword : Kn P w K mg base "_law_word" ["_law_pen_here", "_law_letters_here", "_law_width"] 3 spWord)
    (c_fits : Kn P w K mg base "fits" ["known", "word", "offset"] 1 spFits)
    (c_slid : Kn P w K mg base "slid" ["known", "by"] 1 spSlid)
    (c_lfits : Kn P w K mg base "_law_fits" ["_law_known", "_law_word_here", "_law_offset"] 1 spFits)
    (c_lslid : Kn P w K mg base "_law_slid" ["_law_known", "_law_by"] 1 spSlid) : FnOk P w K mg base CX0 4 f fd ["_law_script"] (spLaw K) := by
  refine F.ok sc_law (fun vs H Q E h => ?_) (fun cdv A outer s H vs Q E hr h => ?_)
  · obtain ⟨a, ns, rfl, _⟩ := h
    rfl
  · obtain ⟨a, ns, rfl, hS, hl, q⟩ := h
    refine ⟨_, (pss_cons (ps_set (i := 1) sc_law.nd rfl (Or.inr rfl) (pe_call c_lpen.ok (hr.mono (by decide)) (by rfl) c_lpen.g c_lpen.kp c_lpen.b .nil pass0 (pa_cons (pv 0) pa_nil)))
      (pss_cons (ps_for PassesOwn.never rfl (pi_range1 (by rfl) T.range (pa_cons (pe_op op_add pe_int (pe_callB (call_min2 rfl) (by rfl) T.min (by decide +kernel) (pa_cons pe_int (pa_cons (pe_callB call_len_seq (by rfl) T.len PySem.boot_len (pa_cons (pv 0) pa_nil)) pa_nil)))) pa_nil)) (pg_name (i := 2) sc_law.nd rfl (Or.inl rfl)) (pss_cons (ps_asg (pe_tup (pa_cons (pe_call c_lletters.ok (hr.mono (by decide)) (by rfl) c_lletters.g c_lletters.kp c_lletters.b .nil pass0 (pa_cons (pv 1) pa_nil)) (pa_cons (pe_op op_add pe_int (pe_call c_ldraw.ok (hr.mono (by decide)) (by rfl) c_ldraw.g c_ldraw.kp c_ldraw.b .nil pass0 (pa_cons (pv 1) (pa_cons pe_int pa_nil)))) pa_nil))) (pg_tup (by rfl) (pgs_cons (pg_name (i := 3) sc_law.nd rfl (Or.inr rfl)) (pgs_cons (pg_name (i := 4) sc_law.nd rfl (Or.inl rfl)) pgs_nil))))
      (pss_cons (ps_set (i := 5) sc_law.nd rfl (Or.inl rfl) (pe_call c_lword.ok (hr.mono (by decide)) (by rfl) c_lword.g c_lword.kp c_lword.b .nil pass0 (pa_cons (pv 1) (pa_cons (pv 3) (pa_cons (pv 4) pa_nil)))))
      (pss_cons (ps_set (i := 6) sc_law.nd rfl (Or.inl rfl) (pe_join pe_str (pe_lc (own := [("_law_k", 7)]) (g := gName 7) (tt := tYes) rfl sc_law.nd (pi_range1 (by rfl) T.range (pa_cons (pe_op op_add (pv 4) pe_int) pa_nil)) (blkOk_by (N := N_law) (sc := defScope s_law) (by decide +kernel)) (fun _ _ _ _ _ => (pg_name (i := 7) sc_law.nd rfl (Or.inl rfl))) (fun _ _ _ _ _ => pts_nil) (fun _ _ _ _ _ => (pe_call c_pickL.ok (hr.mono (by decide)) (by rfl) c_pickL.g c_pickL.kp c_pickL.b .nil pass0 (pa_cons (pv 1) (pa_cons (pe_lst (pa_cons pe_str (pa_cons (pe_call c_pickS.ok (hr.mono (by decide)) (by rfl) c_pickS.g c_pickS.kp c_pickS.b .nil pass0 (pa_cons (pv 1) (pa_cons (pv 3) pa_nil))) pa_nil))) pa_nil)))))))
      (pss_cons (ps_set (i := 8) sc_law.nd rfl (Or.inl rfl) (pe_call c_ldraw.ok (hr.mono (by decide)) (by rfl) c_ldraw.g c_ldraw.kp c_ldraw.b .nil pass0 (pa_cons (pv 1) (pa_cons (pv 4) pa_nil))))
      (pss_cons (ps_set (i := 9) sc_law.nd rfl (Or.inl rfl) (pe_op op_add_str (pe_op op_add_str (pe_slice sl_str (pv 6) po_none (po_some (pv 8))) (pe_slice sl_str (pv 5) po_none (po_some (pe_op op_sub (pv 4) (pv 8))))) pe_str))
      (pss_one (ps_for PassesOwn.never rfl (pi_list (pe_lst (pa_cons (pv 6) (pa_cons (pv 9) (pa_cons (pe_op ZS.op_mulS pe_str (pe_op op_add (pv 4) pe_int)) pa_nil))))) (pg_name (i := 10) sc_law.nd rfl (Or.inl rfl)) (pss_cons (ps_for PassesOwn.never rfl (pi_range1 (by rfl) T.range (pa_cons (pe_op op_add (pv 4) pe_int) pa_nil)) (pg_name (i := 11) sc_law.nd rfl (Or.inl rfl)) (pss_cons (ps_if (pt_cmpR op_ne (pe_call c_fits.ok (hr.mono (by decide)) (by rfl) c_fits.g c_fits.kp c_fits.b .nil pass0 (pa_cons (pv 10) (pa_cons (pv 5) (pa_cons (pv 11) pa_nil)))) (pe_call c_lfits.ok (hr.mono (by decide)) (by rfl) c_lfits.g c_lfits.kp c_lfits.b .nil pass0 (pa_cons (pv 10) (pa_cons (pv 5) (pa_cons (pv 11) pa_nil)))) (nomark _)) (pss_one (ps_ret pe_bl)) pss_nil)
      (pss_one (ps_if (pt_cmpR op_ne (pe_call c_fits.ok (hr.mono (by decide)) (by rfl) c_fits.g c_fits.kp c_fits.b .nil pass0 (pa_cons (pv 10) (pa_cons (pe_slice sl_str (pv 5) po_none (po_some (pe_op op_add pe_int (pv 8)))) (pa_cons (pv 11) pa_nil)))) (pe_call c_lfits.ok (hr.mono (by decide)) (by rfl) c_lfits.g c_lfits.kp c_lfits.b .nil pass0 (pa_cons (pv 10) (pa_cons (pe_slice sl_str (pv 5) po_none (po_some (pe_op op_add pe_int (pv 8)))) (pa_cons (pv 11) pa_nil)))) (nomark _)) (pss_one (ps_ret pe_bl)) pss_nil))))
      (pss_cons (ps_for PassesOwn.never rfl (pi_list (pe_lst (pa_cons pe_int (pa_cons pe_int (pa_cons (pv 4) (pa_cons (pe_op op_add (pv 4) pe_int) (pa_cons (pe_op op_add (pv 4) pe_int) (pa_cons (pe_op op_pow pe_int pe_int) pa_nil)))))))) (pg_name (i := 12) sc_law.nd rfl (Or.inl rfl)) (pss_one (ps_if (PW.pt (pw_or (pt_cmpR op_ne (pe_call c_slid.ok (hr.mono (by decide)) (by rfl) c_slid.g c_slid.kp c_slid.b .nil pass0 (pa_cons (pv 10) (pa_cons (pv 12) pa_nil))) (pe_call c_lslid.ok (hr.mono (by decide)) (by rfl) c_lslid.g c_lslid.kp c_lslid.b .nil pass0 (pa_cons (pv 10) (pa_cons (pv 12) pa_nil))) (nomark _)) (pw_or1 (pt_cmpR op_ne (pe_callB call_len_str (by rfl) T.len PySem.boot_len (pa_cons (pe_call c_slid.ok (hr.mono (by decide)) (by rfl) c_slid.g c_slid.kp c_slid.b .nil pass0 (pa_cons (pv 10) (pa_cons (pv 12) pa_nil))) pa_nil)) (pe_callB call_len_str (by rfl) T.len PySem.boot_len (pa_cons (pv 10) pa_nil)) (nomark _))))) (pss_one (ps_ret pe_bl)) pss_nil)))
      (pss_one (ps_if (pt_cmpR op_ne (pe_call c_slid.ok (hr.mono (by decide)) (by rfl) c_slid.g c_slid.kp c_slid.b .nil pass0 (pa_cons (pe_call c_slid.ok (hr.mono (by decide)) (by rfl) c_slid.g c_slid.kp c_slid.b .nil pass0 (pa_cons (pv 10) (pa_cons pe_int pa_nil))) (pa_cons pe_int pa_nil))) (pe_call c_slid.ok (hr.mono (by decide)) (by rfl) c_slid.g c_slid.kp c_slid.b .nil pass0 (pa_cons (pv 10) (pa_cons pe_int pa_nil))) (nomark _)) (pss_one (ps_ret pe_bl)) pss_nil))))))))))))
      (pss_one (ps_ret pe_bl)))), ?_⟩
    refine ⟨_, rfl, a, ns, rfl, hS, hl, fun p H0 H1 eH P0 => ?_⟩
    have hS1 : SqL K H1 a (ns.map V.int) := ex_l (eH.trans P0.1) hS
    obtain ⟨m, hm⟩ : ∃ m : Nat, (8 : Int) + (if ((ns.map V.int).length : Int) < 8 then ((ns.map V.int).length : Int) else 8) = (m : Int) := ⟨((8 : Int) + (if ((ns.map V.int).length : Int) < 8 then ((ns.map V.int).length : Int) else 8)).toNat, by
      refine (Int.toNat_of_nonneg ?_).symm
      by_cases q : ((ns.map V.int).length : Int) < 8
      · rw [if_pos q]; omega
      · rw [if_neg q]; omega⟩
    have hm16 : m ≤ 16 := by
      by_cases q : ((ns.map V.int).length : Int) < 8
      · rw [if_pos q] at hm; omega
      · rw [if_neg q] at hm; omega
    refine ⟨_, rfl, a, _, rfl, .inl hS1, _, _, rfl, _, _, rfl, rfl, _, rfl, by rw [hm]; omega, by rw [hm]; omega, ?_⟩
    rw [hm, show ((m : Nat) : Int).toNat = m by omega]
    refine for_range (lo := 0) (n := m) (fun i σ H' => ∃ y2 y3 y4 y5 y6 y7 y8 y9 y10 y11 y12 : Option V, σ = [some (.ref a), some (.ref p.d), y2, y3, y4, y5, y6, y7, y8, y9, y10, y11, y12] ∧ PenAt p H0 H' (50 * i))
      ⟨none, none, none, none, none, none, none, none, none, none, none, rfl, P0⟩ (fun i σ H' hi hw => ?_) (fun σ H' hw => ?_)
    · obtain ⟨y2, y3, y4, y5, y6, y7, y8, y9, y10, y11, y12, rfl, P1⟩ := hw
      -- letters, width
      refine ⟨_, rfl, p, H0, _, rfl, P1, by omega, fun H2 lf lq lm P2 b1 b2 b3 b4 => ?_⟩
      obtain ⟨z, hz⟩ : ∃ z, tx (lets lf lq lm) = z := ⟨_, rfl⟩
      have hzl : z.length = lm := by rw [← hz, tx_len, lets_len]
      rw [hz]
      refine ⟨_, rfl, p, H0, _, 8, rfl, P2, by omega, by decide, by decide, fun H3 r3 P3 r30 r31 => ⟨_, _, rfl, rfl, by show 2 ≤ sizeLine; decide, fun t ht => ?_⟩⟩
      obtain ⟨wd, hwd⟩ : ∃ wd : Nat, (1 : Int) + r3 = (wd : Int) := ⟨(1 + r3).toNat, (Int.toNat_of_nonneg (by omega)).symm⟩
      dsimp only
      rw [hwd]
      have w1 : 1 ≤ wd := by omega
      have w8 : wd ≤ 8 := by omega
      have P4 := P3.ex (Ex.new (o := .tup [V.str z, V.int (wd : Int)]) ht)
      refine ⟨t, _, rfl, .inl (.inl upd_same), rfl, _, _, rfl, _, _, rfl, rfl, ?_⟩
      generalize (upd H3 t (.tup [V.str z, V.int (wd : Int)])) = H4 at P4 ⊢
      -- word
      refine ⟨_, rfl, _, rfl, _, rfl, p, H0, _, wd, z, rfl, P4, by omega, by omega, by omega, w1, w8, fun H5 W P5 lW mW => ?_⟩
      -- known
      refine ⟨⟨_, rfl⟩, _, rfl, _, _, rfl, rfl, _, rfl, by omega, by omega, fun D hD => ?_⟩
      have d0 := fresh0 P5 hD
      have d1 := fresh_ne P5 hD
      rw [show ((wd : Int) + 1).toNat = wd + 1 by omega]
      refine lc_range (lo := 0) (n := wd + 1) (Known p H0 (50 * i + 3 + 1 + 15) D) ⟨(P5.upd d0 d1).le (by omega), [], rfl, upd_same⟩ (fun j H hj hw => ?_) (fun H6 hw => ?_)
      · obtain ⟨Q1, cs, hcs, hL⟩ := hw
        refine ⟨rfl, _, rfl, _, rfl, _, rfl, p, upd H0 D (.lst ((cs.map sg).map V.str)), _, z, rfl, Q1.keep hL d1, by omega, by omega, by omega, fun Ha c Pa hc => ⟨by show 2 ≤ sizeLine; decide, fun l hl => ?_⟩⟩
        refine ⟨p, upd H0 D (.lst ((cs.map sg).map V.str)), l, _, _, rfl, Pa.ex (Ex.new hl), by omega, upd_same, by show 0 < 2; decide, by show 2 < 1000; decide, fun Hb v Pb hv => ?_⟩
        have hLb := Pb.1 _ _ upd_same
        obtain ⟨c2, rfl⟩ : ∃ c2, v = .str (sg c2) := by
          rcases List.mem_cons.mp hv with h | h
          · exact ⟨46, by rw [h, dot_sg]⟩
          · exact ⟨c, List.mem_singleton.mp h⟩
        refine ⟨_, hLb, ?_, ((Q1.drop hL Pb).upd d0 d1).le (by omega), cs ++ [c2], by rw [List.length_append, hcs]; rfl, ?_⟩
        · rw [List.length_map, List.length_map, hcs]
          exact sz_lt (by omega)
        · rw [upd_same, ← sg_snoc]
      obtain ⟨Q1, kn, hkn, hL⟩ := hw
      refine ⟨_, D, kn.map sg, rfl, rfl, .inl (sq_of hL), join_bound kn (by omega), ?_⟩
      rw [join_sg]
      -- at
      refine ⟨_, rfl, _, rfl, p, H0, _, wd, rfl, Q1, by omega, by omega, by omega, fun H7 r7 P7 r70 r71 => ?_⟩
      obtain ⟨at_, rfl⟩ : ∃ k : Nat, r7 = (k : Int) := ⟨r7.toNat, (Int.toNat_of_nonneg r70).symm⟩
      -- near
      refine ⟨_, rfl, _, rfl, _, rfl, _, rfl, tx_le (by omega), _, rfl, _, rfl, _, rfl, _, _, rfl, rfl, _, rfl, _, rfl, tx_le (by omega), ?_⟩
      rw [cut_to, show (wd : Int) - (at_ : Int) = ((wd - at_ : Nat) : Int) by omega, cut_to]
      refine ⟨_, _, rfl, rfl, ?_, _, _, rfl, rfl, ?_, ?_⟩
      · rw [tx_len, tx_len, List.length_take, List.length_take]
        exact sz_le (by omega)
      · rw [tx_app, tx_len, List.length_append, List.length_take, List.length_take]
        exact sz_le (show _ + 1 < 1000 by omega)
      rw [dot_sg, sg_tx, tx_app, tx_app]
      obtain ⟨nr, hnr⟩ : ∃ nr, kn.take at_ ++ W.take (wd - at_) ++ [46] = nr := ⟨_, rfl⟩
      have lnr : nr.length ≤ 30 := by
        rw [← hnr, List.length_append, List.length_append, List.length_take, List.length_take]
        show _ + 1 ≤ 30
        omega
      rw [hnr]
      -- the three knowns
      refine ⟨_, rfl, _, rfl, _, rfl, _, _, rfl, rfl, _, _, rfl, rfl, ?_, ?_⟩
      · rw [← sg_tx]
        exact mulOk_of 1 1000 (by rw [sg_len]; omega) (by omega) (by omega) (by decide) (by decide)
      rw [← sg_tx, show (wd : Int) + 1 = ((wd + 1 : Nat) : Int) by omega, mul_dot]
      obtain ⟨dt, hdt⟩ : ∃ dt, List.replicate (wd + 1) 46 = dt := ⟨_, rfl⟩
      have ldt : dt.length ≤ 30 := by
        rw [← hdt, List.length_replicate]
        omega
      rw [hdt]
      refine ⟨by show 3 ≤ sizeLine; decide, fun l hl => ⟨l, rfl, ⟨_, sq_of upd_same⟩, ?_⟩⟩
      have P8 := P7.ex (Ex.new (o := .lst [V.str (tx kn), V.str (tx nr), V.str (tx dt)]) hl)
      have hl8 : (upd H7 l (.lst [V.str (tx kn), V.str (tx nr), V.str (tx dt)])) l = some (.lst [V.str (tx kn), V.str (tx nr), V.str (tx dt)]) := upd_same
      generalize (upd H7 l (.lst [V.str (tx kn), V.str (tx nr), V.str (tx dt)])) = H8 at P8 hl8 ⊢
      refine for_list (K := K) (a := l) (xs := [V.str (tx kn), V.str (tx nr), V.str (tx dt)]) (fun j σ H' => ∃ y7 y10 y11 y12 : Option V, σ = [some (.ref a), some (.ref p.d), some (.int ((0 : Int) + (i : Int))), some (.str z), some (.int (wd : Int)), some (.str (tx W)), some (.str (tx kn)), y7, some (.int (at_ : Int)), some (.str (tx nr)), y10, y11, y12] ∧ Ex H8 H')
        ⟨_, _, _, _, rfl, Ex.refl _⟩ (fun j σ H' _ hw => ?_) (fun j x σ H' hx hw => ?_) (fun σ H' hw => ?_)
      · obtain ⟨_, _, _, _, _, e⟩ := hw
        exact sq_of (e _ _ hl8)
      · obtain ⟨z7, z10, z11, z12, rfl, e8⟩ := hw
        obtain ⟨S, rfl, lS⟩ : ∃ S : List Nat, x = .str (tx S) ∧ S.length ≤ 30 := by
          have hx2 := List.mem_of_getElem? hx
          rcases List.mem_cons.mp hx2 with h | h
          · exact ⟨kn, h, by omega⟩
          rcases List.mem_cons.mp h with h | h
          · exact ⟨nr, h, lnr⟩
          · exact ⟨dt, List.mem_singleton.mp h, ldt⟩
        refine ⟨_, rfl, _, _, rfl, rfl, _, rfl, by omega, by omega, ?_⟩
        rw [show ((wd : Int) + 3).toNat = wd + 3 by omega]
        refine for_range (lo := 0) (n := wd + 3) (fun o σ H' => ∃ y11 y12 : Option V, σ = [some (.ref a), some (.ref p.d), some (.int ((0 : Int) + (i : Int))), some (.str z), some (.int (wd : Int)), some (.str (tx W)), some (.str (tx kn)), z7, some (.int (at_ : Int)), some (.str (tx nr)), some (.str (tx S)), y11, y12] ∧ Ex H8 H')
          ⟨_, _, rfl, e8⟩ (fun o σ H' ho hw => ?_) (fun σ H' hw => ?_)
        · obtain ⟨u11, u12, rfl, e9⟩ := hw
          rw [Int.zero_add]
          refine ⟨_, rfl, _, rfl, _, rfl, S, W, o, rfl, by omega, by omega, by omega, fun Ha ea => ?_⟩
          refine ⟨_, rfl, _, rfl, _, rfl, S, W, o, rfl, by omega, by omega, by omega, fun Hb eb => ⟨rfl, _, rfl, iteNS rfl ?_⟩⟩
          have ec : (1 : Int) + (at_ : Int) = ((1 + at_ : Nat) : Int) := by omega
          have lc2 : (W.take (1 + at_)).length < 500 := by
            rw [List.length_take]
            omega
          refine ⟨_, rfl, _, rfl, _, rfl, _, _, rfl, rfl, _, rfl, _, rfl, tx_le (by omega), _, rfl, ?_⟩
          rw [ec, cut_to]
          refine ⟨S, W.take (1 + at_), o, rfl, by omega, lc2, by omega, fun Hc ec2 => ?_⟩
          refine ⟨_, rfl, _, rfl, _, rfl, _, _, rfl, rfl, _, rfl, _, rfl, tx_le (by omega), _, rfl, ?_⟩
          rw [ec, cut_to]
          refine ⟨S, W.take (1 + at_), o, rfl, by omega, lc2, by omega, fun Hd ed => ⟨rfl, _, rfl, iteNS rfl ?_⟩⟩
          exact ⟨_, _, rfl, (((e9.trans ea).trans eb).trans ec2).trans ed⟩
        · obtain ⟨u11, u12, rfl, e9⟩ := hw
          -- the slides
          refine ⟨_, rfl, _, rfl, _, _, rfl, rfl, _, rfl, _, _, rfl, rfl, _, _, rfl, rfl, ⟨by decide, by decide, by decide⟩, by show 6 ≤ sizeLine; decide, fun l2 hl2 => ⟨l2, rfl, ⟨_, sq_of upd_same⟩, ?_⟩⟩
          have e10 := e9.trans (Ex.new (o := .lst [V.int 1, V.int 2, V.int (wd : Int), V.int ((wd : Int) + 1), V.int ((wd : Int) + 5), V.int ((10 : Int) ^ (30 : Int).toNat)]) hl2)
          have hb : (upd H' l2 (.lst [V.int 1, V.int 2, V.int (wd : Int), V.int ((wd : Int) + 1), V.int ((wd : Int) + 5), V.int ((10 : Int) ^ (30 : Int).toNat)])) l2 = some (.lst [V.int 1, V.int 2, V.int (wd : Int), V.int ((wd : Int) + 1), V.int ((wd : Int) + 5), V.int ((10 : Int) ^ (30 : Int).toNat)]) := upd_same
          refine for_list (K := K) (a := l2) (xs := [V.int 1, V.int 2, V.int (wd : Int), V.int ((wd : Int) + 1), V.int ((wd : Int) + 5), V.int ((10 : Int) ^ (30 : Int).toNat)]) (fun o σ H9 => ∃ y12 : Option V, σ = [some (.ref a), some (.ref p.d), some (.int ((0 : Int) + (i : Int))), some (.str z), some (.int (wd : Int)), some (.str (tx W)), some (.str (tx kn)), z7, some (.int (at_ : Int)), some (.str (tx nr)), some (.str (tx S)), u11, y12] ∧ Ex H8 H9 ∧ Ex (upd H' l2 (.lst [V.int 1, V.int 2, V.int (wd : Int), V.int ((wd : Int) + 1), V.int ((wd : Int) + 5), V.int ((10 : Int) ^ (30 : Int).toNat)])) H9)
            ⟨_, rfl, e10, Ex.refl _⟩ (fun o σ H9 _ hw => ?_) (fun o x σ H9 hx hw => ?_) (fun σ H9 hw => ?_)
          · obtain ⟨_, _, _, e⟩ := hw
            exact sq_of (e _ _ hb)
          · obtain ⟨u12, rfl, e11, e12⟩ := hw
            obtain ⟨b, rfl⟩ : ∃ b : Nat, x = .int (b : Int) := by
              have hx2 := List.mem_of_getElem? hx
              rcases List.mem_cons.mp hx2 with h | h
              · exact ⟨1, h⟩
              rcases List.mem_cons.mp h with h | h
              · exact ⟨2, h⟩
              rcases List.mem_cons.mp h with h | h
              · exact ⟨wd, h⟩
              rcases List.mem_cons.mp h with h | h
              · exact ⟨wd + 1, h⟩
              rcases List.mem_cons.mp h with h | h
              · exact ⟨wd + 5, h⟩
              · exact ⟨10 ^ 30, (List.mem_singleton.mp h).trans (by decide)⟩
            refine ⟨_, rfl, _, rfl, S, b, rfl, by omega, fun Ha ea => ?_⟩
            refine ⟨_, rfl, _, rfl, S, b, rfl, by omega, fun Hb eb => ⟨rfl, _, rfl, iteNS rfl ?_⟩⟩
            refine ⟨_, rfl, _, rfl, S, b, rfl, by omega, fun Hc ec => ⟨_, rfl, tx_le (by rw [slidF_len]; omega), _, rfl, _, rfl, tx_le (by omega), rfl, _, rfl, iteNS ?_ ?_⟩⟩
            · rw [tx_len, tx_len, slidF_len]
            · exact ⟨_, rfl, ((e11.trans ea).trans eb).trans ec, ((e12.trans ea).trans eb).trans ec⟩
          · obtain ⟨u12, rfl, e11, e12⟩ := hw
            refine ⟨_, rfl, S, 1, rfl, by omega, fun Ha ea => ?_⟩
            refine ⟨slidF S 1, 2, rfl, by rw [slidF_len]; omega, fun Hb eb => ?_⟩
            refine ⟨_, rfl, S, 3, rfl, by omega, fun Hc ec => ⟨rfl, _, rfl, iteNS ?_ ?_⟩⟩
            · rw [slid_twice]
            · exact ⟨_, _, _, _, rfl, ((e11.trans ea).trans eb).trans ec⟩
      · obtain ⟨z7, z10, z11, z12, rfl, e8⟩ := hw
        exact ⟨_, _, _, _, _, _, _, _, _, _, _, rfl, (P8.ex e8).le (by omega)⟩
    · obtain ⟨y2, y3, y4, y5, y6, y7, y8, y9, y10, y11, y12, rfl, P1⟩ := hw
      exact q _
end
end Law

namespace Law
open PySem PySem.Spec PyProof.Rows L2 Evl
theorem all_mk {l : PySem.W.OpenLaw} {w : World} {K : PySem.W.Frag} {h : Heap} {mg : Str → Option Value} {fa f1 f2 f3 f4 f5 f6 f7 f8 f9 f10 : Addr} (X : K.In h) (G : h.Ns mainGlobals mg) (hfa : mg "law" = some (.ref fa))
    {od1 an1 od2 an2 od3 an3 od4 an4 od5 an5 od6 an6 od7 an7 od8 an8 od9 an9 od10 an10 : Option Addr} {sl1 sl2 sl3 sl4 sl5 sl6 sl7 sl8 sl9 sl10 : Array (Option Value)} {oc1 kV1 dc1 pm1 cd1 ct1 oc2 kV2 dc2 pm2 cd2 ct2 oc3 kV3 dc3 pm3 cd3 ct3 oc4 kV4 dc4 pm4 cd4 ct4 oc5 kV5 dc5 pm5 cd5 ct5 oc6 kV6 dc6 pm6 cd6 ct6 oc7 kV7 dc7 pm7 cd7 ct7 oc8 kV8 dc8 pm8 cd8 ct8 oc9 kV9 dc9 pm9 cd9 ct9 oc10 kV10 dc10 pm10 cd10 ct10 : Value}
    (a1 : PySem.W.nsIn K mainGlobals "fits" = some (some (.ref f1))) (l1 : K.lookup f1 = some ⟨oc1, od1, .func (PySem.W.fnOf "fits" "fits" (defArgs s_fits) (defBody s_fits) (defScope s_fits) .none kV1 dc1 pm1 an1 cd1 ct1), sl1⟩) (c1 : PySem.W.codeIn K cd1 "fits" = true) (k1 : PySem.W.keepIn K (.ref f1) = true)
    (a2 : PySem.W.nsIn K mainGlobals "slid" = some (some (.ref f2))) (l2 : K.lookup f2 = some ⟨oc2, od2, .func (PySem.W.fnOf "slid" "slid" (defArgs s_slid) (defBody s_slid) (defScope s_slid) .none kV2 dc2 pm2 an2 cd2 ct2), sl2⟩) (c2 : PySem.W.codeIn K cd2 "slid" = true) (k2 : PySem.W.keepIn K (.ref f2) = true)
    (a3 : PySem.W.nsIn K mainGlobals "_law_pen" = some (some (.ref f3))) (l3 : K.lookup f3 = some ⟨oc3, od3, .func (PySem.W.fnOf "_law_pen" "_law_pen" (defArgs s_lpen) (defBody s_lpen) (defScope s_lpen) .none kV3 dc3 pm3 an3 cd3 ct3), sl3⟩) (c3 : PySem.W.codeIn K cd3 "_law_pen" = true) (k3 : PySem.W.keepIn K (.ref f3) = true)
    (a4 : PySem.W.nsIn K mainGlobals "_law_draw" = some (some (.ref f4))) (l4 : K.lookup f4 = some ⟨oc4, od4, .func (PySem.W.fnOf "_law_draw" "_law_draw" (defArgs s_ldraw) (defBody s_ldraw) (defScope s_ldraw) .none kV4 dc4 pm4 an4 cd4 ct4), sl4⟩) (c4 : PySem.W.codeIn K cd4 "_law_draw" = true) (k4 : PySem.W.keepIn K (.ref f4) = true)
    (a5 : PySem.W.nsIn K mainGlobals "_law_pick" = some (some (.ref f5))) (l5 : K.lookup f5 = some ⟨oc5, od5, .func (PySem.W.fnOf "_law_pick" "_law_pick" (defArgs s_lpick) (defBody s_lpick) (defScope s_lpick) .none kV5 dc5 pm5 an5 cd5 ct5), sl5⟩) (c5 : PySem.W.codeIn K cd5 "_law_pick" = true) (k5 : PySem.W.keepIn K (.ref f5) = true)
    (a6 : PySem.W.nsIn K mainGlobals "_law_letters" = some (some (.ref f6))) (l6 : K.lookup f6 = some ⟨oc6, od6, .func (PySem.W.fnOf "_law_letters" "_law_letters" (defArgs s_lletters) (defBody s_lletters) (defScope s_lletters) .none kV6 dc6 pm6 an6 cd6 ct6), sl6⟩) (c6 : PySem.W.codeIn K cd6 "_law_letters" = true) (k6 : PySem.W.keepIn K (.ref f6) = true)
    (a7 : PySem.W.nsIn K mainGlobals "_law_word" = some (some (.ref f7))) (l7 : K.lookup f7 = some ⟨oc7, od7, .func (PySem.W.fnOf "_law_word" "_law_word" (defArgs s_lword) (defBody s_lword) (defScope s_lword) .none kV7 dc7 pm7 an7 cd7 ct7), sl7⟩) (c7 : PySem.W.codeIn K cd7 "_law_word" = true) (k7 : PySem.W.keepIn K (.ref f7) = true)
    (a8 : PySem.W.nsIn K mainGlobals "_law_fits" = some (some (.ref f8))) (l8 : K.lookup f8 = some ⟨oc8, od8, .func (PySem.W.fnOf "_law_fits" "_law_fits" (defArgs s_lfits) (defBody s_lfits) (defScope s_lfits) .none kV8 dc8 pm8 an8 cd8 ct8), sl8⟩) (c8 : PySem.W.codeIn K cd8 "_law_fits" = true) (k8 : PySem.W.keepIn K (.ref f8) = true)
    (a9 : PySem.W.nsIn K mainGlobals "_law_slid" = some (some (.ref f9))) (l9 : K.lookup f9 = some ⟨oc9, od9, .func (PySem.W.fnOf "_law_slid" "_law_slid" (defArgs s_lslid) (defBody s_lslid) (defScope s_lslid) .none kV9 dc9 pm9 an9 cd9 ct9), sl9⟩) (c9 : PySem.W.codeIn K cd9 "_law_slid" = true) (k9 : PySem.W.keepIn K (.ref f9) = true)
    (a10 : PySem.W.nsIn K mainGlobals "law" = some (some (.ref f10))) (l10 : K.lookup f10 = some ⟨oc10, od10, .func (PySem.W.fnOf "law" "law" (defArgs s_law) (defBody s_law) (defScope s_law) .none kV10 dc10 pm10 an10 cd10 ct10), sl10⟩) (c10 : PySem.W.codeIn K cd10 "law" = true) (k10 : PySem.W.keepIn K (.ref f10) = true)
    (z0 : PySem.W.nsIn K mainGlobals "len" = some none) (z1 : PySem.W.nsIn K mainGlobals "int" = some none) (z2 : PySem.W.nsIn K mainGlobals "abs" = some none) (z3 : PySem.W.nsIn K mainGlobals "min" = some none) (z4 : PySem.W.nsIn K mainGlobals "list" = some none) (z5 : PySem.W.nsIn K mainGlobals "all" = some none) (z6 : PySem.W.nsIn K mainGlobals "zip" = some none) (z7 : PySem.W.nsIn K mainGlobals "range" = some none) :
    ∃ fd : FuncData, (∀ (s : Shared) (v : Value), BindsTo s fd ⟨[v], []⟩ [("_law_script", v)]) ∧ ∀ base : Heap, K.In base → base.Ns mainGlobals mg → FnOk l.prog w K mg base CX0 4 fa fd ["_law_script"] (spLaw K) := by
  have e := hfa.symm.trans (PySem.W.mg_of X G a10)
  cases e
  have F1 := fun_mk (st := s_fits) l1 c1 k1
  have b1 := F1.binds (ps := ["known", "word", "offset"]) fun _ _ _ _ _ _ us hl => match us, hl with | [_, _, _], _ => rfl
  have F2 := fun_mk (st := s_slid) l2 c2 k2
  have b2 := F2.binds (ps := ["known", "by"]) fun _ _ _ _ _ _ us hl => match us, hl with | [_, _], _ => rfl
  have F3 := fun_mk (st := s_lpen) l3 c3 k3
  have b3 := F3.binds (ps := ["_law_script"]) fun _ _ _ _ _ _ us hl => match us, hl with | [_], _ => rfl
  have F4 := fun_mk (st := s_ldraw) l4 c4 k4
  have b4 := F4.binds (ps := ["_law_pen_here", "_law_many"]) fun _ _ _ _ _ _ us hl => match us, hl with | [_, _], _ => rfl
  have F5 := fun_mk (st := s_lpick) l5 c5 k5
  have b5 := F5.binds (ps := ["_law_pen_here", "_law_some"]) fun _ _ _ _ _ _ us hl => match us, hl with | [_, _], _ => rfl
  have F6 := fun_mk (st := s_lletters) l6 c6 k6
  have b6 := F6.binds (ps := ["_law_pen_here"]) fun _ _ _ _ _ _ us hl => match us, hl with | [_], _ => rfl
  have F7 := fun_mk (st := s_lword) l7 c7 k7
  have b7 := F7.binds (ps := ["_law_pen_here", "_law_letters_here", "_law_width"]) fun _ _ _ _ _ _ us hl => match us, hl with | [_, _, _], _ => rfl
  have F8 := fun_mk (st := s_lfits) l8 c8 k8
  have b8 := F8.binds (ps := ["_law_known", "_law_word_here", "_law_offset"]) fun _ _ _ _ _ _ us hl => match us, hl with | [_, _, _], _ => rfl
  have F9 := fun_mk (st := s_lslid) l9 c9 k9
  have b9 := F9.binds (ps := ["_law_known", "_law_by"]) fun _ _ _ _ _ _ us hl => match us, hl with | [_, _], _ => rfl
  have F10 := fun_mk (st := s_law) l10 c10 k10
  have T : Tx mg := { len := PySem.W.mg_none_of X G z0, int := PySem.W.mg_none_of X G z1, abs := PySem.W.mg_none_of X G z2, min := PySem.W.mg_none_of X G z3, list := PySem.W.mg_none_of X G z4, all := PySem.W.mg_none_of X G z5, zip := PySem.W.mg_none_of X G z6, range := PySem.W.mg_none_of X G z7 }
  refine ⟨PySem.W.fnOf "law" "law" (defArgs s_law) (defBody s_law) (defScope s_law) .none kV10 dc10 pm10 an10 cd10 ct10, fun s v => .of_eq rfl, fun base _ _ => ?_⟩
  have c_lpen : Kn l.prog w K mg base "_law_pen" ["_law_script"] 1 (spPen K) := ⟨f3, _, ok_pen F3 T , PySem.W.mg_of X G a3, F3.kp, b3⟩
  have c_ldraw : Kn l.prog w K mg base "_law_draw" ["_law_pen_here", "_law_many"] 1 spDraw := ⟨f4, _, ok_draw F4 T , PySem.W.mg_of X G a4, F4.kp, b4⟩
  have c_pickS : Kn l.prog w K mg base "_law_pick" ["_law_pen_here", "_law_some"] 2 spPickS := ⟨f5, _, ok_pickS F5 T c_ldraw, PySem.W.mg_of X G a5, F5.kp, b5⟩
  have c_pickL : Kn l.prog w K mg base "_law_pick" ["_law_pen_here", "_law_some"] 2 spPickL := ⟨f5, _, ok_pickL F5 T c_ldraw, PySem.W.mg_of X G a5, F5.kp, b5⟩
  have c_lletters : Kn l.prog w K mg base "_law_letters" ["_law_pen_here"] 3 spLetters := ⟨f6, _, ok_letters F6 T c_ldraw c_pickL, PySem.W.mg_of X G a6, F6.kp, b6⟩
  have c_lword : Kn l.prog w K mg base "_law_word" ["_law_pen_here", "_law_letters_here", "_law_width"] 3 spWord := ⟨f7, _, ok_word F7 T c_ldraw c_pickS, PySem.W.mg_of X G a7, F7.kp, b7⟩
  have c_fits : Kn l.prog w K mg base "fits" ["known", "word", "offset"] 1 spFits := ⟨f1, _, ok_fits F1 T , PySem.W.mg_of X G a1, F1.kp, b1⟩
  have c_slid : Kn l.prog w K mg base "slid" ["known", "by"] 1 spSlid := ⟨f2, _, ok_slid F2 T , PySem.W.mg_of X G a2, F2.kp, b2⟩
  have c_lfits : Kn l.prog w K mg base "_law_fits" ["_law_known", "_law_word_here", "_law_offset"] 1 spFits := ⟨f8, _, ok_lfits F8 T , PySem.W.mg_of X G a8, F8.kp, b8⟩
  have c_lslid : Kn l.prog w K mg base "_law_slid" ["_law_known", "_law_by"] 1 spSlid := ⟨f9, _, ok_lslid F9 T , PySem.W.mg_of X G a9, F9.kp, b9⟩
  exact ok_law F10 T c_lpen c_ldraw c_pickS c_pickL c_lletters c_lword c_fits c_slid c_lfits c_lslid
end Law
open PySem PySem.W PyProof.Rows
set_option maxHeartbeats 0 in
theorem PySem.Challenge.cw_wordskips_k03_knowns_holds : PySem.Challenge.rw_wordskips_k03_knowns.Holds := by
  w_on; o_law; k_head; (case hw => w_witness2)
  k_fill
  refine L2.walk_of (l := PySem.Challenge.rw_wordskips_k03_knowns) (n := 63) (k := 4) (x := "_law_script") (CX := fun _ => L2.CX0) (sp := fun w => Law.spLaw _) rfl (by decide) rfl ⟨rfl, by decide, by decide⟩ (fun w h Y => PySem.W.kIn_of Y) ?F (fun _ _ a ns hl _ hS => ⟨a, ns, rfl, hS, hl, fun _ => rfl⟩) (fun _ _ _ _ _ h => h)
  case F =>
    intro w mg fa h KX G hmg
    refine' Law.all_mk KX G hmg ?a1 ?l1 ?c1 ?k1 ?a2 ?l2 ?c2 ?k2 ?a3 ?l3 ?c3 ?k3 ?a4 ?l4 ?c4 ?k4 ?a5 ?l5 ?c5 ?k5 ?a6 ?l6 ?c6 ?k6 ?a7 ?l7 ?c7 ?k7 ?a8 ?l8 ?c8 ?k8 ?a9 ?l9 ?c9 ?k9 ?a10 ?l10 ?c10 ?k10 ?z0 ?z1 ?z2 ?z3 ?z4 ?z5 ?z6 ?z7
    (case a1 => k_is); (case l1 => k_is); (case c1 => k_is); (case k1 => k_is); (case a2 => k_is); (case l2 => k_is); (case c2 => k_is); (case k2 => k_is); (case a3 => k_is); (case l3 => k_is); (case c3 => k_is); (case k3 => k_is); (case a4 => k_is); (case l4 => k_is); (case c4 => k_is); (case k4 => k_is); (case a5 => k_is); (case l5 => k_is); (case c5 => k_is); (case k5 => k_is); (case a6 => k_is); (case l6 => k_is); (case c6 => k_is); (case k6 => k_is); (case a7 => k_is); (case l7 => k_is); (case c7 => k_is); (case k7 => k_is); (case a8 => k_is); (case l8 => k_is); (case c8 => k_is); (case k8 => k_is); (case a9 => k_is); (case l9 => k_is); (case c9 => k_is); (case k9 => k_is); (case a10 => k_is); (case l10 => k_is); (case c10 => k_is); (case k10 => k_is); (case z0 => k_is); (case z1 => k_is); (case z2 => k_is); (case z3 => k_is); (case z4 => k_is); (case z5 => k_is); (case z6 => k_is); (case z7 => k_is)


import PyProof.Rows.All
import Wide.All
import OpenK.AllK
import Wide.FinOn
import PySem.Challenge.RW_nolunch_k15_histories
import HandS.Style
import HandS.ForExc
import HandS.Wide
import HandS.Gcd
import HandS.IsInst
import HandS.ExcIs
import HandS.Iter
import HandS.Evl
import HandS.SortRule
import HandS.SortInts
import HandS.TupAny
import HandS.More
import HandS.HeadHook3
import HandS.MapJoin
import HandS.Rev
import HandS.StrMore
import KE.KIntText
import PyProof.Rows.Digits
import HandS.Deep
import HandS.WideBits
import HandS.ForMost
import HandS.Codes
import HandS.Steps
import HandS.Walk
import HandS.Zip
import KE.GoesNew
import KE.GoesMore
import HandS.DictComp
import HandS.TupLe
import HandS.ForList
import HandS.Nested
import HandS.EndTab
import HandS.Exc
set_option Elab.async false
set_option linter.all false
set_option maxRecDepth 100000
set_option maxHeartbeats 4000000
namespace Nl
open PySem PySem.Spec PyProof.Rows L2
/-! ### where a history leads -/
def PlSAt (K : PySem.W.Frag) (C : Addr) (H : Hp) (a : Addr) (h : List Int) (s : PlS) : Prop := PlAt K C H a h s.pt s.n s.c s.given
section
variable {P : Program} {w : World} {K : PySem.W.Frag} {mg : Str → Option Value} {base : Heap}
theorem mk0 {C : Addr} {H3 : Hp} {x dxx : Addr} (nx : H3 x = none) (ndx : H3 dxx = none) (nex : dxx ≠ x) : Same H3 (upd (upd H3 dxx (.own x)) x (.ins C dxx [])) := (same_new ndx).trans (same_new (by
  show upd H3 dxx (.own x) x = none
  rw [upd_ne (Ne.symm nex)]
  exact nx))
def sp_first (K : PySem.W.Frag) (C : Addr) : Sp := fun vs H Q _ => ∃ (vm vc : V) (g : Int) (n : Node) (c : Part) (k : Nat), vs = [vm, vc] ∧ DT K H vm (marketD g n) ∧ DT K H vc c.D ∧ PlNum g k n c (zeroF g.toNat) ∧
  ∀ q H', Same H H' → H q = none → PlSAt K C H' q [] ⟨[], n, c, zeroF g.toNat⟩ → Q (.ref q) H'
theorem ok_first_place (T : Top w K mg) : FnOk P w K mg base CX0 47 T.a_first_place T.d_first_place ["market", "contract"] (sp_first K T.c_Place) := by
  refine T.first_place_F.ok sc_first_place (fun vs H Q E h => ?_) (fun cdv A outer s H vs Q E hr h => ?_)
  · obtain ⟨_, _, _, _, _, _, rfl, _⟩ := h
    rfl
  · obtain ⟨vm, vc, g, n, c, k, rfl, dm, dc, N, fin⟩ := h
    obtain ⟨am, vn, rfl, ham, dn⟩ := id dm.market_inv
    have g1 := N.g1
    have g4 := N.g4
    refine ⟨_, (pss_cons (ps_asg (pv 0) (pg_tup rfl (pgs_cons (pg_name (i := 2) sc_first_place.nd rfl (Or.inl rfl)) (pgs_cons (pg_name (i := 3) sc_first_place.nd rfl (Or.inl rfl)) pgs_nil))))
      (pss_one (ps_ret (pe_make T.M_Place (ok_Place_init T) (hr.mono (by decide : 46 ≤ 46)) (by rfl) T.g_Place T.Place_init_b .nil pass0 (pa_cons (pe_tup pa_nil) (pa_cons (pe_tup pa_nil) (pa_cons (pv 3) (pa_cons (pv 1) (pa_cons (pe_op op_repK (pe_tup (pa_cons (pe_tup (pa_cons pe_int (pa_cons pe_int pa_nil))) pa_nil)) (pv 2)) pa_nil))))))))), ?_⟩
    refine ⟨_, rfl, _, _, rfl, ham.sq, rfl, _, _, rfl, _, _, rfl, rfl, ?_⟩
    refine ⟨Nat.zero_le _, fun p1 h1 => ⟨Nat.zero_le _, fun p2 h2 => ?_⟩⟩
    have t1 := same_new (o := .tup []) h1
    have t2 := t1.trans (same_new (o := .tup []) h2)
    refine ⟨_, rfl, _, rfl, two_le, fun p3 h3 => ⟨(by decide : 1 ≤ sizeLine), fun p4 h4 => ?_⟩⟩
    have s3 := same_new (o := .tup [V.int 0, V.int 1]) h3
    have s4 := same_new (o := .tup [V.ref p3]) h4
    have d0 := DT.fr (K := K) (q := (0, 1)) (Tp.of (s4 _ _ (upd_same (a := p3) (o := .tup [V.int 0, V.int 1]))))
    refine ⟨_, rfl, p4, _, _, rfl, rfl, Tp.of upd_same, by simp, by omega, by omega, (by decide : 1 ≤ 1000), fun q H5 s5 hq => ?_⟩
    have er : (List.replicate g.toNat [V.ref p3]).flatten = List.replicate g.toNat (V.ref p3) := by simp
    rw [er] at hq
    intro x dxx nx ndx nex
    have s0 := mk0 (C := T.c_Place) nx ndx nex
    have s35 := (s3.trans s4).trans s5
    have sB : Same H H5 := t2.trans s35
    have sA := sB.trans s0
    have dz : DT K (upd (upd H5 dxx (.own x)) x (.ins T.c_Place dxx [])) (.ref q) (amD (zeroF g.toNat)) := by
      refine .tup (tp_same s0 hq) ?_
      unfold zeroF
      rw [List.map_replicate]
      exact dts_rep ((d0.same s5).same s0) _
    refine ⟨x, dxx, .ref p1, .ref p2, vn, vc, .ref q, [], [], n, c, zeroF g.toNat, g, k, rfl, upd_same, N.mk' (DT.path (p := []) (tp_same (s35.trans s0) (same_new h2 _ _ upd_same))) (DT.path (p := []) (tp_same (s35.trans s0) upd_same)) (dn.same sA) (dc.same sA) dz, fun H' xt pl' => ⟨rfl, ?_⟩⟩
    exact fin x H' (fun b u e => xt b u (ne_of_none (sB b u e) nx) (sA b u e)) (sB.free nx) pl'
def sp_at (K : PySem.W.Frag) (C Z HE : Addr) : Sp := fun vs H Q E => ∃ (vm vc vh : V) (g : Int) (n : Node) (c : Part) (hist : List Int), vs = [vm, vc, vh] ∧ Mk K H vm g n ∧ Good g n ∧ DT K H vc c.D ∧ c.WF ∧ DT K H vh (pathD hist) ∧ hist.length ≤ 800 ∧
  (Part.Bad g c → ∀ H', Same H H' → E (.ref Z) none H') ∧ (¬ Part.Bad g c → (∃ k, PlNum g k n c (zeroF g.toNat)) ∧ AllNum ⟨[], n, c, zeroF g.toNat⟩ ∧ (goF ⟨[], n, c, zeroF g.toNat⟩ hist = none → ∀ H', Same H H' → E (.ref HE) none H') ∧
    ∀ s, goF ⟨[], n, c, zeroF g.toNat⟩ hist = some s → ∀ q H', Same H H' → PlSAt K C H' q hist s → Q (.ref q) H')
theorem ok__place_at (T : Top w K mg) : FnOk P w K mg base (L2.CX P w) 48 T.a__place_at T.d__place_at ["market", "contract", "history"] (sp_at K T.c_Place T.c_ContractError T.c_HistoryError) := by
  refine T._place_at_F.okX sc__place_at (fun vs H Q E h => ?_) (fun cdv A outer s H vs Q E hr h => ?_)
  · obtain ⟨_, _, _, _, _, _, _, rfl, _⟩ := h
    rfl
  · obtain ⟨vm, vc, vh, g, n, c, hist, rfl, M, G, dc, wf, dh, hl, kZ, kQ⟩ := h
    have g14 : 1 ≤ g ∧ g ≤ 4 := Decidable.byContradiction fun z => G.1 (.inl z)
    obtain ⟨am, vn, rfl, ham, dn⟩ := id M.d.market_inv
    obtain ⟨ah, rfl, hah⟩ := id dh.path_inv
    refine ⟨_, (pss_cons (ps_expr (pe_callS (ok_check_market T) (hr.mono (by decide : 3 ≤ 47)) rfl T.g_check_market T.check_market_F.kp T.check_market_b (fun σ => passAt (takes_of rfl rfl rfl rfl) σ) (pa_cons (pv 0) pa_nil)))
      (pss_cons (ps_expr (pe_callS (ok_check_contract T) (hr.mono (by decide : 3 ≤ 47)) rfl T.g_check_contract T.check_contract_F.kp T.check_contract_b (fun σ => passAt (takes_of rfl rfl rfl rfl) σ) (pa_cons (pe_ix ix_tup (pv 0) pe_int (fun _ _ => rfl)) (pa_cons (pv 1) pa_nil))))
      (pss_cons (ps_set (i := 3) sc__place_at.nd rfl (Or.inl rfl) (pe_call (ok_first_place T) (hr.mono (by decide : 47 ≤ 47)) (by rfl) T.g_first_place T.first_place_F.kp T.first_place_b .nil pass0 (pa_cons (pv 0) (pa_cons (pv 1) pa_nil))))
      (pss_cons (ps_for (passes_of rfl) rfl (pi_tup (pv 2)) (pg_name (i := 4) sc__place_at.nd rfl (Or.inl rfl)) (pss_one (ps_set (i := 3) sc__place_at.nd rfl (Or.inl rfl) (pe_methX (pv 3) T.cl_Place T.m_Place_next_place (ok_Place_next_place T) (hr.mono (by decide : 47 ≤ 47)) T.Place_next_place_b (fun σ => passAt (takes_of rfl rfl rfl rfl) σ) (pa_cons (pv 4) pa_nil)))))
      (pss_one (ps_ret (pv 3))))))), ?_⟩
    refine ⟨_, rfl, .ref am, g, n, rfl, M.d, M.b, M.l, fun z => (G.1 z).elim, fun _ z => (G.2 z).elim, fun _ _ H1 s1 => ?_⟩
    refine ⟨_, rfl, _, _, _, _, rfl, rfl, (tp_same s1 ham).sq, atI_nat (j := 0) rfl, _, rfl, g, vc, c, rfl, dc.same s1, wf, fun z H2 s2 => kZ z _ (s1.trans s2), fun nb H2 s2 => ?_⟩
    obtain ⟨⟨k0, N0⟩, AN, kH, kF⟩ := kQ nb
    have s12 := s1.trans s2
    refine ⟨_, rfl, _, rfl, .ref am, vc, g, n, c, k0, rfl, (M.same s12).d, dc.same s12, N0, fun q H3 s3 hq pl => ?_⟩
    have s13 := s12.trans s3
    refine ⟨_, rfl, ah, rfl, ⟨_, (tp_same s13 hah).sq⟩, for_tup (K := K) (a := ah) (xs := hist.map V.int) (fun i σ H' => ∃ (q : Addr) (s : PlS) (y : Option V), σ = [some (.ref am), some vc, some (.ref ah), some (.ref q), y] ∧ Same H H' ∧ PlSAt K T.c_Place H' q (hist.take i) s ∧ goF ⟨[], n, c, zeroF g.toNat⟩ (hist.take i) = some s) ⟨q, _, _, rfl, s13, pl, rfl⟩ (fun i σ H' _ ⟨_, _, _, _, sm, _⟩ => (tp_same sm hah).sq) ?_ ?_⟩
    · rintro i x σ H' hi ⟨q, s, y, rfl, sm, pl, eg⟩
      rw [List.getElem?_map] at hi
      obtain ⟨j, hj, rfl⟩ := Option.map_eq_some_iff.mp hi
      obtain ⟨dx, vh', vp', vn', vc', vs', va', vg', vl', vb', h0, _⟩ := id pl
      have et : hist.take (i + 1) = hist.take i ++ [j] := take_next hj
      have ekid : goF ⟨[], n, c, zeroF g.toNat⟩ (hist.take (i + 1)) = s.kid j := by
        rw [et, goF_app, eg]
        exact goF_one s j
      refine ⟨_, rfl, q, dx, _, rfl, h0, (by rfl), _, rfl, q, j, hist.take i, s.pt, s.n, s.c, s.given, rfl, pl, by rw [List.length_take]; omega, (AN _ _ eg).2, fun z H4 s4 => kH ?_ H4 (sm.trans s4), fun pt' m c' ek => ?_⟩
      · have z' : s.kid j = none := by
          unfold PlS.kid
          rw [show kidF s.pt s.n j s.told = none from z]
          rfl
        have := goF_app (hist.take (i + 1)) ⟨[], n, c, zeroF g.toNat⟩ (hist.drop (i + 1))
        rw [List.take_append_drop, ekid, z'] at this
        exact this
      · have ek' : s.kid j = some ⟨pt', m, c', s.given⟩ := by
          unfold PlS.kid
          rw [show kidF s.pt s.n j s.told = some (pt', m, c') from ek]
          rfl
        obtain ⟨⟨g', k', N⟩, _⟩ := AN (hist.take (i + 1)) _ (ekid.trans ek')
        refine ⟨g', k', N, fun q2 H4 s4 hq2 pl2 => ⟨q2, ⟨pt', m, c', s.given⟩, _, rfl, sm.trans s4, ?_, ekid.trans ek'⟩⟩
        rw [et]
        exact pl2
    · rintro σ H' ⟨q, s, y, rfl, sm, pl, eg⟩
      rw [List.length_map, List.take_length] at pl eg
      exact ⟨_, rfl, kF s eg q H' sm pl⟩
def sp_atG (K : PySem.W.Frag) (Z HE : Addr) (R : PlS → PyData) : Sp := fun vs H Q E => ∃ (vm vc vh : V) (g : Int) (n : Node) (c : Part) (hist : List Int), vs = [vm, vc, vh] ∧ Mk K H vm g n ∧ Good g n ∧ DT K H vc c.D ∧ c.WF ∧ DT K H vh (pathD hist) ∧ hist.length ≤ 800 ∧
  (Part.Bad g c → ∀ H', Same H H' → E (.ref Z) none H') ∧ (¬ Part.Bad g c → (∃ k, PlNum g k n c (zeroF g.toNat)) ∧ AllNum ⟨[], n, c, zeroF g.toNat⟩ ∧ (goF ⟨[], n, c, zeroF g.toNat⟩ hist = none → ∀ H', Same H H' → E (.ref HE) none H') ∧
    ∀ s, goF ⟨[], n, c, zeroF g.toNat⟩ hist = some s → ∀ v H', Same H H' → DT K H' v (R s) → Q v H')
theorem ok_place_of (T : Top w K mg) : FnOk P w K mg base (L2.CX P w) 49 T.a_place_of T.d_place_of ["market", "contract", "history"] (sp_atG K T.c_ContractError T.c_HistoryError fun s => .tuple [pathD s.pt, s.c.D]) := by
  refine T.place_of_F.okX sc_place_of (fun vs H Q E h => ?_) (fun cdv A outer s H vs Q E hr h => ?_)
  · obtain ⟨_, _, _, _, _, _, _, rfl, _⟩ := h
    rfl
  · obtain ⟨vm, vc, vh, g, n, c, hist, rfl, M, G, dc, wf, dh, hl, kZ, kQ⟩ := h
    refine ⟨_, (pss_cons (ps_set (i := 3) sc_place_of.nd rfl (Or.inl rfl) (pe_callS (ok__place_at T) (hr.mono (by decide : 48 ≤ 48)) rfl T.g__place_at T._place_at_F.kp T._place_at_b (fun σ => passAt (takes_of rfl rfl rfl rfl) σ) (pa_cons (pv 0) (pa_cons (pv 1) (pa_cons (pv 2) pa_nil)))))
      (pss_one (ps_ret (pe_tup (pa_cons (pe_fld (pv 3) rfl) (pa_cons (pe_fld (pv 3) rfl) pa_nil)))))), ?_⟩
    refine ⟨_, rfl, _, rfl, _, rfl, vm, vc, vh, g, n, c, hist, rfl, M, G, dc, wf, dh, hl, kZ, fun nb => ⟨(kQ nb).1, (kQ nb).2.1, (kQ nb).2.2.1, fun s es q H1 s1 pl => ?_⟩⟩
    obtain ⟨dx, vh', vp', vn', vc', vs', va', vg', vl', vb', h0, d1, d2, d3, d4, d5, d6⟩ := id pl
    refine ⟨_, rfl, q, T.c_Place, dx, _, _, rfl, h0, T.cl_Place, T.na_Place_path, plF_path .., _, rfl, q, T.c_Place, dx, _, _, rfl, h0, T.cl_Place, T.na_Place_contract, plF_contract .., two_le, fun p2 h2 => ?_⟩
    have t2 := same_new (o := .tup [vp', vc']) h2
    exact (kQ nb).2.2.2 s es _ _ (s1.trans t2) (.mk2 (Tp.of upd_same) (d2.same t2) (d4.same t2))
theorem ok_paid (T : Top w K mg) : FnOk P w K mg base (L2.CX P w) 49 T.a_paid T.d_paid ["market", "contract", "history"] (sp_atG K T.c_ContractError T.c_HistoryError fun s => amD s.given) := by
  refine T.paid_F.okX sc_paid (fun vs H Q E h => ?_) (fun cdv A outer s H vs Q E hr h => ?_)
  · obtain ⟨_, _, _, _, _, _, _, rfl, _⟩ := h
    rfl
  · obtain ⟨vm, vc, vh, g, n, c, hist, rfl, M, G, dc, wf, dh, hl, kZ, kQ⟩ := h
    refine ⟨_, (pss_one (ps_ret (pe_fld (pe_callS (ok__place_at T) (hr.mono (by decide : 48 ≤ 48)) rfl T.g__place_at T._place_at_F.kp T._place_at_b (fun σ => passAt (takes_of rfl rfl rfl rfl) σ) (pa_cons (pv 0) (pa_cons (pv 1) (pa_cons (pv 2) pa_nil)))) rfl))), ?_⟩
    refine ⟨_, rfl, _, rfl, _, rfl, vm, vc, vh, g, n, c, hist, rfl, M, G, dc, wf, dh, hl, kZ, fun nb => ⟨(kQ nb).1, (kQ nb).2.1, (kQ nb).2.2.1, fun s es q H1 s1 pl => ?_⟩⟩
    obtain ⟨dx, vh', vp', vn', vc', vs', va', vg', vl', vb', h0, d1, d2, d3, d4, d5, d6⟩ := id pl
    exact ⟨q, T.c_Place, dx, _, _, rfl, h0, T.cl_Place, T.na_Place_given, plF_given .., (kQ nb).2.2.2 s es _ _ s1 d5⟩
end
end Nl

namespace Nl
open PySem PySem.Spec PyProof.Rows L2
theorem All2.app {β : Type} {P : V → β → Prop} {xs ys : List V} {cs ds : List β} (h : All2 P xs cs) (g : All2 P ys ds) : All2 P (xs ++ ys) (cs ++ ds) := by
  refine ⟨by rw [List.length_append, List.length_append, h.1, g.1], fun i x e => ?_⟩
  by_cases hi : i < xs.length
  · rw [List.getElem?_append_left hi] at e
    obtain ⟨c, e1, e2⟩ := h.2 i x e
    exact ⟨c, by rw [List.getElem?_append_left (by rw [← h.1]; exact hi)]; exact e1, e2⟩
  · rw [List.getElem?_append_right (by omega)] at e
    obtain ⟨c, e1, e2⟩ := g.2 _ x e
    exact ⟨c, by rw [List.getElem?_append_right (by rw [← h.1]; omega), ← h.1]; exact e1, e2⟩
theorem All2.rev {β : Type} {P : V → β → Prop} {xs : List V} {cs : List β} (h : All2 P xs cs) : All2 P xs.reverse cs.reverse := by
  refine ⟨by rw [List.length_reverse, List.length_reverse, h.1], fun i x e => ?_⟩
  have hi := (List.getElem?_eq_some_iff.mp e).1
  rw [List.length_reverse] at hi
  rw [List.getElem?_reverse hi] at e
  obtain ⟨c, e1, e2⟩ := h.2 _ x e
  exact ⟨c, by rw [List.getElem?_reverse (by rw [← h.1]; exact hi), ← h.1]; exact e1, e2⟩
theorem All2.last {β : Type} {P : V → β → Prop} {xs : List V} {cs : List β} {c : β} (h : All2 P xs (cs ++ [c])) : ∃ ys y, xs = ys ++ [y] ∧ All2 P ys cs ∧ P y c := by
  have hl := h.1
  rw [List.length_append, List.length_singleton] at hl
  rcases List.eq_nil_or_concat xs with rfl | ⟨ys, y, rfl⟩
  · simp at hl
  · rw [List.concat_eq_append] at h hl ⊢
    rw [List.length_append, List.length_singleton] at hl
    refine ⟨ys, y, rfl, ⟨by omega, fun i x e => ?_⟩, ?_⟩
    · have hi := (List.getElem?_eq_some_iff.mp e).1
      obtain ⟨c', e1, e2⟩ := h.2 i x (by rw [List.getElem?_append_left hi]; exact e)
      rw [List.getElem?_append_left (by omega)] at e1
      exact ⟨c', e1, e2⟩
    · obtain ⟨c', e1, e2⟩ := h.2 ys.length y (by rw [List.getElem?_concat_length])
      rw [show ys.length = cs.length by omega, List.getElem?_concat_length] at e1
      cases e1
      exact e2
def cntS (sa : Bool) (l : List Row) : Nat := (l.filter fun r => r.2.told.pays || !sa).length
theorem cntS_app (sa : Bool) (l l' : List Row) : cntS sa (l ++ l') = cntS sa l + cntS sa l' := by
  unfold cntS
  rw [List.filter_append, List.length_append]
/-- a place that is new, in memory -/
def RowN (K : PySem.W.Frag) (C : Addr) (H H' : Hp) (v : V) (r : Row) : Prop := ∃ q, v = .ref q ∧ H q = none ∧ PlSAt K C H' q r.1 r.2
theorem RowN.pk {K : PySem.W.Frag} {C : Addr} {H H' H'' : Hp} {v : V} {r : Row} (h : RowN K C H H' v r) (k : Pk C H' H'') : RowN K C H H'' v r := by
  obtain ⟨q, e, n, p⟩ := h
  exact ⟨q, e, n, PlAt.pk p k⟩
section
variable {P : Program} {w : World} {K : PySem.W.Frag} {mg : Str → Option Value} {base : Heap}
def sp_all (K : PySem.W.Frag) (C Z : Addr) : Sp := fun vs H Q E => ∃ (vm vc : V) (lim : Int) (sa : Bool) (g : Int) (n : Node) (c : Part) (m B : Nat), vs = [vm, vc, .int lim, .bl sa] ∧ 0 ≤ lim ∧ DT K H vm (marketD g n) ∧ DT K H vc c.D ∧ PV g m B 5 m ⟨[], n, c, zeroF g.toNat⟩ ∧
  (lim < cntS sa (preR 7 ([], ⟨[], n, c, zeroF g.toNat⟩)) → ∀ H', Same H H' → E (.ref Z) none H') ∧
  ((cntS sa (preR 7 ([], ⟨[], n, c, zeroF g.toNat⟩)) : Int) ≤ lim → ∀ l xs H', Same H H' → H l = none → H' l = some (.lst xs) → All2 (RowN K C H H') xs (preR 7 ([], ⟨[], n, c, zeroF g.toNat⟩)) → Q (.ref l) H')
theorem ok_all_places (T : Top w K mg) : FnOk P w K mg base (L2.CX P w) 49 T.a_all_places T.d_all_places ["market", "contract", "limit", "settled_alone"] (sp_all K T.c_Place T.c_TooLarge) := by
  refine T.all_places_F.okX sc_all_places (fun vs H Q E h => ?_) (fun cdv A outer s H vs Q E hr h => ?_)
  · obtain ⟨_, _, _, _, _, _, _, _, _, rfl, _⟩ := h
    rfl
  · obtain ⟨vm, vc, lim, sa, g, n, c, m, B, rfl, hz, dm, dc, hpv, kZ, kQ⟩ := h
    refine ⟨_, (pss_cons (ps_set (i := 4) sc_all_places.nd rfl (Or.inl rfl) (pe_lst pa_nil))
      (pss_cons (ps_set (i := 5) sc_all_places.nd rfl (Or.inl rfl) pe_int)
      (pss_cons (ps_set (i := 6) sc_all_places.nd rfl (Or.inl rfl) (pe_lst (pa_cons (pe_call (ok_first_place T) (hr.mono (by decide : 47 ≤ 48)) (by rfl) T.g_first_place T.first_place_F.kp T.first_place_b .nil pass0 (pa_cons (pv 0) (pa_cons (pv 1) pa_nil))) pa_nil)))
      (pss_cons (ps_while (passes_of rfl) (pt_truth (pv 6) (by intro _; rfl)) (pss_cons (ps_set (i := 7) sc_all_places.nd rfl (Or.inl rfl) (pe_bm0 PySem.F.plainAttrs_list PySem.F.slot_list_pop PySem.F.type_list_pop mt_pop (pv 6)))
      (pss_cons (ps_expr (pe_bm PySem.F.plainAttrs_list PySem.F.slot_list_append PySem.F.type_list_append mt_append (pv 4) (pa_cons (pv 7) pa_nil)))
      (Evl.pss_cut (ps_if (PW.pt (pw_or (pt_cmpR op_isN (pe_fld (pv 7) rfl) pe_non (nomark _)) (pw_or1 (pt_not (pt_truth (pv 3) (by intro _; rfl)))))) (pss_one (ps_aug (i := 5) sc_all_places.nd rfl (Or.inl rfl) pe_int ip_add)) pss_nil)
      (Evl.pss_cut (ps_if (pt_cmpR op_gt (pv 5) (pv 2) (nomark _)) (pss_one (ps_raise rfl (takes_of rfl rfl rfl rfl) (pmk_own PySem.F.excBase_ValueError T.x_TooLarge T.g_TooLarge T.k_TooLarge (raises_own T.b_TooLarge T.t_TooLarge) rfl))) pss_nil)
      (pss_one (ps_expr (pe_bm PySem.F.plainAttrs_list PySem.F.slot_list_extend PySem.F.type_list_extend mt_extend (pv 6) (pa_cons (pe_revL (pe_meth0 (pv 7) T.cl_Place T.m_Place_look_ahead (ok_Place_look_ahead T) (hr.mono (by decide : 48 ≤ 48)) T.Place_look_ahead_b .nil pass0 )) pa_nil)))))))))
      (pss_one (ps_ret (pv 4))))))), ?_⟩
    generalize hroot : (([], ⟨[], n, c, zeroF g.toNat⟩) : Row) = root at *
    have hpr : PV g m B 5 m root.2 := by rw [← hroot]; exact hpv
    have m2 : m ≤ 2 := hpv.M2
    have few : (preR 7 root).length ≤ 383 := hpr.count400 (by omega) (Nat.le_refl _)
    refine ⟨Nat.zero_le _, fun pf hf => ?_⟩
    have s1 := same_new (o := .lst []) hf
    refine ⟨_, rfl, _, rfl, vm, vc, g, n, c, _, rfl, dm.same s1, dc.same s1, hpv.num, fun q H2 s2 hq pl => ⟨(by decide : 1 ≤ sizeLine), fun pw hw => ?_⟩⟩
    have s12 := s1.trans s2
    have hF2 : H2 pf = some (.lst []) := s2 _ _ upd_same
    have s3 := same_new (o := .lst [.ref q]) hw
    have fw : pf ≠ pw := ne_of_none hF2 hw
    have hq0 := s1.free hq
    have pl0 : PlSAt K T.c_Place H2 q root.1 root.2 := by rw [← hroot]; exact pl
    refine ⟨fun k σ H' => ∃ (fs ws : List Row) (xf xw : List V) (y7 : Option V), σ = [some vm, some vc, some (.int lim), some (.bl sa), some (.ref pf), some (.int (cntS sa fs : Int)), some (.ref pw), y7] ∧ Same H H' ∧ H' pf = some (.lst xf) ∧ H' pw = some (.lst xw) ∧ All2 (RowN K T.c_Place H H') xf fs ∧ All2 (RowN K T.c_Place H H') xw ws ∧ (∀ r ∈ ws, ∃ A' m', PV g m B A' m' r.2 ∧ A' + m' + r.1.length ≤ 7) ∧ fs ++ ws.reverse.flatMap (preR 7) = preR 7 root ∧ (cntS sa fs : Int) ≤ lim ∧ k = (ws.reverse.flatMap (preR 7)).length, ?_, ?_⟩
    · refine ⟨_, [], [root], [], [.ref q], none, rfl, s12.trans s3, s3 _ _ hF2, upd_same, .nil, ?_, ?_, ?_, hz, rfl⟩
      · exact All2.snoc .nil ⟨q, rfl, hq0, PlAt.same pl0 s3⟩
      · intro r hr
        rw [List.mem_singleton.mp hr]
        refine ⟨5, m, hpr, ?_⟩
        rw [← hroot]
        show 5 + m + 0 ≤ 7
        omega
      · simp
    · rintro k σ H' ⟨fs, ws, xf, xw, y7, rfl, sm, hF, hW, aF, aW, pW, eq, cl, rfl⟩
      refine ⟨_, rfl, _, .inl ⟨xw, SqL.of hW, rfl⟩, ?_⟩
      rcases List.eq_nil_or_concat ws with rfl | ⟨ws0, r, rfl⟩
      · have : xw = [] := List.eq_nil_of_length_eq_zero aW.1
        subst this
        refine iteF ?_
        rw [List.reverse_nil, List.flatMap_nil, List.append_nil] at eq
        rw [eq] at aF cl
        exact ⟨_, rfl, kQ cl pf xf H' sm hf hF aF⟩
      · rw [List.concat_eq_append] at *
        obtain ⟨xw0, x, rfl, aW0, p, rfl, hp0, plp⟩ := aW.last
        have ne : (!(xw0 ++ [V.ref p]).isEmpty) = true := by simp
        refine if_true_of' ne ?_
        obtain ⟨A', m', pr, hlr⟩ := pW r (by simp)
        have m'2 : m' ≤ 2 := by have := pr.mM; omega
        have eqn : (ws0 ++ [r]).reverse.flatMap (preR 7) = r :: ((kidR r).flatMap (preR 7) ++ ws0.reverse.flatMap (preR 7)) := by
          rw [List.reverse_append, List.reverse_singleton, List.flatMap_append, List.flatMap_singleton, pr.pre_eq (f := 7) (by omega)]
          rfl
        have lens : fs.length + (1 + ((kidR r).flatMap (preR 7)).length + (ws0.reverse.flatMap (preR 7)).length) ≤ 383 := by
          have := congrArg List.length eq
          rw [List.length_append, eqn] at this
          simp only [List.length_cons, List.length_append] at this
          omega
        refine ⟨fun σ2 H2 => ∃ k', k' < ((ws0 ++ [r]).reverse.flatMap (preR 7)).length ∧ ∃ (fs ws : List Row) (xf xw : List V) (y7 : Option V), σ2 = [some vm, some vc, some (.int lim), some (.bl sa), some (.ref pf), some (.int (cntS sa fs : Int)), some (.ref pw), y7] ∧ Same H H2 ∧ H2 pf = some (.lst xf) ∧ H2 pw = some (.lst xw) ∧ All2 (RowN K T.c_Place H H2) xf fs ∧ All2 (RowN K T.c_Place H H2) xw ws ∧ (∀ r ∈ ws, ∃ A' m', PV g m B A' m' r.2 ∧ A' + m' + r.1.length ≤ 7) ∧ fs ++ ws.reverse.flatMap (preR 7) = preR 7 root ∧ (cntS sa fs : Int) ≤ lim ∧ k' = (ws.reverse.flatMap (preR 7)).length, fun σ2 H2 z => z, ?_⟩
        refine ⟨_, rfl, .inl ⟨rfl, _, SqL.of hW⟩, _, _, _, rfl, rfl, hW, (by simp : (xw0 ++ [V.ref p])[(xw0 ++ [V.ref p]).length - 1]? = some (V.ref p)), ?_⟩
        rw [List.dropLast_concat]
        have k1 : Pk T.c_Place H' (upd H' pw (.lst xw0)) := .lst hW Xt.upd
        have hF1 : (upd H' pw (.lst xw0)) pf = some (.lst xf) := by rw [upd_ne fw]; exact hF
        refine ⟨_, rfl, .inl ⟨rfl, _, SqL.of hF1⟩, _, rfl, _, _, _, rfl, rfl, hF1, ?_, ?_⟩
        · rw [aF.1]
          exact small1000 (by omega)
        have k2 : Pk T.c_Place (upd H' pw (.lst xw0)) (upd (upd H' pw (.lst xw0)) pf (.lst (xf ++ [V.ref p]))) := .lst hF1 Xt.upd
        have k12 := k1.trans k2
        have sm2 : Same H (upd (upd H' pw (.lst xw0)) pf (.lst (xf ++ [V.ref p]))) := same_mut (same_mut sm (s12.free hw)) hf
        have hF2' : (upd (upd H' pw (.lst xw0)) pf (.lst (xf ++ [V.ref p]))) pf = some (.lst (xf ++ [V.ref p])) := upd_same
        have hW2 : (upd (upd H' pw (.lst xw0)) pf (.lst (xf ++ [V.ref p]))) pw = some (.lst xw0) := by rw [upd_ne (Ne.symm fw)]; exact upd_same
        have plp2 := PlAt.pk plp k12
        have aF2 : All2 (RowN K T.c_Place H (upd (upd H' pw (.lst xw0)) pf (.lst (xf ++ [V.ref p])))) (xf ++ [V.ref p]) (fs ++ [r]) := All2.snoc (aF.imp fun v c h => h.pk k12) ⟨p, rfl, hp0, plp2⟩
        have aW2 : All2 (RowN K T.c_Place H (upd (upd H' pw (.lst xw0)) pf (.lst (xf ++ [V.ref p])))) xw0 ws0 := aW0.imp fun v c h => h.pk k12
        generalize (upd (upd H' pw (.lst xw0)) pf (.lst (xf ++ [V.ref p]))) = Hc at *
        obtain ⟨dx, vh, vp, vn, vc', vs, va, vg, vl, vb, h0, d1, d2, d3, d4, d5, d6⟩ := id plp2
        have cnt1 : cntS sa (fs ++ [r]) = cntS sa fs + (if (r.2.told.pays || !sa) = true then 1 else 0) := by
          rw [cntS_app]
          congr 1
          unfold cntS
          rw [List.filter_cons]
          split
          · rfl
          · rfl
        refine ⟨fun σ' H4 => σ' = [some vm, some vc, some (.int lim), some (.bl sa), some (.ref pf), some (.int (cntS sa (fs ++ [r]) : Int)), some (.ref pw), some (.ref p)] ∧ H4 = Hc, ?_, ?_⟩
        · refine ⟨_, rfl, p, T.c_Place, dx, _, _, rfl, h0, T.cl_Place, T.na_Place_side, plF_side .., rfl, _, rfl, ?_⟩
          have yes : (r.2.told.pays || !sa) = true → ((cntS sa fs : Nat) : Int) + 1 = (cntS sa (fs ++ [r]) : Int) := fun z => by rw [cnt1, if_pos z]; rfl
          have no : ¬ (r.2.told.pays || !sa) = true → ((cntS sa fs : Nat) : Int) = (cntS sa (fs ++ [r]) : Int) := fun z => by rw [cnt1, if_neg z]; rfl
          have et : r.2.told = faceF r.2.n.ps (r.2.pt.length : Int) r.2.c := rfl
          cases hT : faceF r.2.n.ps (r.2.pt.length : Int) r.2.c with
          | ask sd x y =>
            rw [et, hT] at yes no
            rw [hT] at d6
            obtain ⟨rfl, _⟩ := d6
            refine if_false_of' (decide_eq_false (show ¬ V.str _ = V.non from fun z => by cases z)) ?_
            refine ⟨_, rfl, sa, rfl, ?_⟩
            cases sa with
            | true => exact iteF ⟨by rw [← no (fun z => by cases z)]; rfl, rfl⟩
            | false => exact iteT ⟨_, rfl, _, _, rfl, rfl, by rw [← yes rfl]; rfl, rfl⟩
          | pay am l =>
            rw [et, hT] at yes no
            rw [hT] at d6
            obtain ⟨rfl, _⟩ := d6
            refine if_true_of' (decide_eq_true rfl) ?_
            refine iteT ?_
            refine ⟨_, rfl, ?_⟩
            refine ⟨_, _, rfl, rfl, ?_, rfl⟩
            rw [← yes rfl]
            rfl
        · rintro σ' H4 ⟨rfl, e4⟩
          rw [e4]
          clear e4 H4
          refine ⟨fun σ' H4 => σ' = [some vm, some vc, some (.int lim), some (.bl sa), some (.ref pf), some (.int (cntS sa (fs ++ [r]) : Int)), some (.ref pw), some (.ref p)] ∧ H4 = Hc ∧ (cntS sa (fs ++ [r]) : Int) ≤ lim, ?_, ?_⟩
          · refine ⟨_, rfl, _, rfl, _, _, rfl, rfl, _, rfl, ite2 (fun e => ?_) (fun e => ?_)⟩
            · have e1 : lim < (cntS sa (fs ++ [r]) : Int) := of_decide_eq_true e
              refine kZ ?_ Hc sm2
              rw [← eq, eqn, show fs ++ r :: ((kidR r).flatMap (preR 7) ++ ws0.reverse.flatMap (preR 7)) = (fs ++ [r]) ++ ((kidR r).flatMap (preR 7) ++ ws0.reverse.flatMap (preR 7)) by simp, cntS_app]
              omega
            · have e1 : ¬ lim < (cntS sa (fs ++ [r]) : Int) := fun z => e (decide_eq_true z)
              exact ⟨rfl, rfl, by omega⟩
          · rintro σ' H4 ⟨rfl, e4, cl2⟩
            rw [e4]
            clear e4 H4
            have kd : ∀ (i : Nat) pt' m'' c', kidF r.2.pt r.2.n (i : Int) (faceF r.2.n.ps (r.2.pt.length : Int) r.2.c) = some (pt', m'', c') → r.2.kid (i : Int) = some ⟨pt', m'', c', r.2.given⟩ := fun i pt' m'' c' ek => by
              unfold PlS.kid
              rw [show kidF r.2.pt r.2.n (i : Int) r.2.told = some (pt', m'', c') from ek]
              rfl
            have pvl := pr.pl
            refine ⟨_, rfl, .inl ⟨rfl, _, SqL.of hW2⟩, _, rfl, p, dx, _, rfl, h0, (by rfl), p, r.1, r.2.pt, r.2.n, r.2.c, r.2.given, rfl, plp2, by omega, by have := pr.M2; omega, by have := pr.nv.ks3.1; omega, fun i pt' m'' c' ek => ?_, fun l xs H5 k5 x5 hl0 hL lx ax => ⟨l, xs, rfl, SqL.of hL, fun p2 hp2 => ?_⟩⟩
            · rcases pr.kid (kd i pt' m'' c' ek) with ⟨A1, _, h1, _⟩ | ⟨m1, _, h1, _⟩
              · exact ⟨g, _, h1.num⟩
              · exact ⟨g, _, h1.num⟩
            · have hF5 : H5 pf = some (.lst (xf ++ [V.ref p])) := x5 _ _ (ne_of hF2' h0 (by intro z; cases z)) hF2'
              have hW5 : H5 pw = some (.lst xw0) := x5 _ _ (ne_of hW2 h0 (by intro z; cases z)) hW2
              have sm5 : Same H H5 := fun a u ha => x5 a u (ne_of_none ha hp0) (sm2 a u ha)
              have s6 := same_new (o := .lst xs.reverse) hp2
              have lxs : xs.length = (kidR r).length := by rw [lx, kidR_len]; rfl
              have lfm : ∀ l : List Row, l.length ≤ (l.flatMap (preR 7)).length := by
                intro l
                induction l with
                | nil => exact Nat.le_refl _
                | cons a l ih =>
                  have : 1 ≤ (preR 7 a).length := by simp [preR]
                  rw [List.flatMap_cons, List.length_append, List.length_cons]
                  omega
              have lw0 : xw0.length ≤ (ws0.reverse.flatMap (preR 7)).length := by
                have := lfm ws0.reverse
                rw [List.length_reverse] at this
                rw [aW2.1]
                exact this
              have lkd := lfm (kidR r)
              refine ⟨_, _, _, _, rfl, rfl, s6 _ _ hW5, upd_same, ?_, ?_⟩
              · rw [List.length_reverse, lxs]
                exact len1000 (by omega)
              · have k56 : Pk T.c_Place Hc (upd (upd H5 p2 (.lst xs.reverse)) pw (.lst (xw0 ++ xs.reverse))) := (k5.trans (.same s6)).trans (.lst (s6 _ _ hW5) Xt.upd)
                have k67 : Pk T.c_Place H5 (upd (upd H5 p2 (.lst xs.reverse)) pw (.lst (xw0 ++ xs.reverse))) := (Pk.same s6).trans (.lst (s6 _ _ hW5) Xt.upd)
                have aK : All2 (RowN K T.c_Place H H5) xs (kidR r) := ⟨lxs, fun i x hx => by
                  obtain ⟨q, pt', m'', c', e1, e0, e2, e3⟩ := ax i x hx
                  have hi : i < r.2.kids := by
                    have := (List.getElem?_eq_some_iff.mp hx).1
                    rw [lxs, kidR_len] at this
                    exact this
                  exact ⟨_, kidR_at r hi (kd i pt' m'' c' e2), q, e1, sm2.free e0, e3⟩⟩
                refine ⟨((ws0 ++ (kidR r).reverse).reverse.flatMap (preR 7)).length, ?_, fs ++ [r], ws0 ++ (kidR r).reverse, _, _, _, rfl, same_mut (sm5.trans s6) (s12.free hw), ?_, upd_same, aF2.imp fun v c h => h.pk k56, All2.app (aW2.imp fun v c h => h.pk k56) ((aK.imp fun v c h => h.pk k67).rev), ?_, ?_, cl2, rfl⟩
                · rw [eqn, List.reverse_append, List.reverse_reverse, List.flatMap_append]
                  simp
                · rw [upd_ne fw]
                  exact s6 _ _ hF5
                · intro r' hr'
                  rcases List.mem_append.mp hr' with hr' | hr'
                  · exact pW r' (List.mem_append_left _ hr')
                  · have hr' := List.mem_reverse.mp hr'
                    obtain ⟨A2, m2', h2, e2, _⟩ := pr.kidR hr'
                    obtain ⟨i, _, e3, _⟩ := kidR_mem.mp hr'
                    refine ⟨A2, m2', h2, ?_⟩
                    rw [e3, List.length_append, List.length_singleton]
                    omega
                · rw [← eq, eqn, List.reverse_append, List.reverse_reverse, List.flatMap_append]
                  simp
end
end Nl

namespace Nl
open PySem PySem.Spec PyProof.Rows L2
def isWh (r : Row) : Bool := r.2.told.pays && r.2.n.ks.isEmpty
def wholeF (root : Row) : List (List Int) := ((preR 7 root).filter isWh).map (·.1)
section
variable {P : Program} {w : World} {K : PySem.W.Frag} {mg : Str → Option Value} {base : Heap}
def sp_wh (K : PySem.W.Frag) (Z : Addr) : Sp := fun vs H Q E => ∃ (vm vc : V) (g : Int) (n : Node) (c : Part), vs = [vm, vc] ∧ Mk K H vm g n ∧ Good g n ∧ DT K H vc c.D ∧ c.WF ∧
  (Part.Bad g c → ∀ H', Same H H' → E (.ref Z) none H') ∧ (¬ Part.Bad g c → (∃ m B, PV g m B 5 m ⟨[], n, c, zeroF g.toNat⟩) ∧
    ∀ v H', Same H H' → DT K H' v (.tuple ((wholeF ([], ⟨[], n, c, zeroF g.toNat⟩)).map pathD)) → Q v H')
theorem ok_whole_histories (T : Top w K mg) : FnOk P w K mg base (L2.CX P w) 50 T.a_whole_histories T.d_whole_histories ["market", "contract"] (sp_wh K T.c_ContractError) := by
  refine T.whole_histories_F.okX sc_whole_histories (fun vs H Q E h => ?_) (fun cdv A outer s H vs Q E hr h => ?_)
  · obtain ⟨_, _, _, _, _, rfl, _⟩ := h
    rfl
  · obtain ⟨vm, vc, g, n, c, rfl, M, G, dc, wf, kZ, kQ⟩ := h
    have g14 : 1 ≤ g ∧ g ≤ 4 := Decidable.byContradiction fun z => G.1 (.inl z)
    obtain ⟨am, vn, rfl, ham, dn⟩ := id M.d.market_inv
    refine ⟨_, (pss_cons (ps_expr (pe_callS (ok_check_market T) (hr.mono (by decide : 3 ≤ 49)) rfl T.g_check_market T.check_market_F.kp T.check_market_b (fun σ => passAt (takes_of rfl rfl rfl rfl) σ) (pa_cons (pv 0) pa_nil)))
      (pss_cons (ps_expr (pe_callS (ok_check_contract T) (hr.mono (by decide : 3 ≤ 49)) rfl T.g_check_contract T.check_contract_F.kp T.check_contract_b (fun σ => passAt (takes_of rfl rfl rfl rfl) σ) (pa_cons (pe_ix ix_tup (pv 0) pe_int (fun _ _ => rfl)) (pa_cons (pv 1) pa_nil))))
      (pss_cons (ps_set (i := 2) sc_whole_histories.nd rfl (Or.inl rfl) (pe_callS (ok_all_places T) (hr.mono (by decide : 49 ≤ 49)) rfl T.g_all_places T.all_places_F.kp T.all_places_b (fun σ => passAt (takes_of rfl rfl rfl rfl) σ) (pa_cons (pv 0) (pa_cons (pv 1) (pa_cons (pe_glob (v := .int 400) (by rfl) T.g_HISTORY_LIMIT ⟨_, rfl⟩) (pa_cons pe_bl pa_nil))))))
      (pss_one (ps_ret (pe_callTy call_tupL (by rfl) T.n_tuple (by decide +kernel) (pa_cons (pe_lc (own := [("place", 3)]) (g := (gName 3)) (tt := tB (tMeth T.c_Place (Str.ofString "is_whole") (sp_isw K T.c_Place) [] E0 (tVar 3) tNil)) (by rfl) sc_whole_histories.nd (pi_list (pv 2)) (blkOk_by (own := [("place", 3)]) (N := ["market", "contract", "places", "place"]) (sc := defScope s_whole_histories) (by decide +kernel)) (fun _ _ _ _ _ => (pg_name (i := 3) sc_whole_histories.nd rfl (Or.inl rfl))) (fun _ _ _ _ _ => (pts_one (pt_val (pe_meth0 (pv 3) T.cl_Place T.m_Place_is_whole (ok_Place_is_whole T) (hr.mono (by decide : 1 ≤ 49)) T.Place_is_whole_b .nil pass0 )))) (fun _ _ _ _ _ => (show PE _ _ (tFld K (tVar 3) (Str.ofString "history")) from pe_fld (pv 3) rfl))) pa_nil))))))), ?_⟩
    refine ⟨_, rfl, .ref am, g, n, rfl, M.d, M.b, M.l, fun z => (G.1 z).elim, fun _ z => (G.2 z).elim, fun _ _ H1 s1 => ?_⟩
    refine ⟨_, rfl, _, _, _, _, rfl, rfl, (tp_same s1 ham).sq, atI_nat (j := 0) rfl, _, rfl, g, vc, c, rfl, dc.same s1, wf, fun z H2 s2 => kZ z _ (s1.trans s2), fun nb H2 s2 => ?_⟩
    obtain ⟨⟨m, B, hpv⟩, fin⟩ := kQ nb
    have s12 := s1.trans s2
    have few : (preR 7 (([], ⟨[], n, c, zeroF g.toNat⟩) : Row)).length ≤ 383 := PV.count400 (r := ([], ⟨[], n, c, zeroF g.toNat⟩)) hpv (by have := hpv.M2; omega) (Nat.le_refl _)
    have cn : (cntS false (preR 7 (([], ⟨[], n, c, zeroF g.toNat⟩) : Row)) : Int) ≤ 400 := by
      have := List.length_filter_le (fun r : Row => r.2.told.pays || !false) (preR 7 (([], ⟨[], n, c, zeroF g.toNat⟩) : Row))
      have e : cntS false (preR 7 (([], ⟨[], n, c, zeroF g.toNat⟩) : Row)) ≤ 383 := Nat.le_trans this few
      omega
    refine ⟨_, rfl, _, rfl, .ref am, vc, 400, false, g, n, c, m, B, rfl, by decide, (M.same s12).d, dc.same s12, hpv, fun z => ?_, fun _ l xs H3 s3 nl hl ax => ?_⟩
    · omega
    · unfold wholeF at fin
      generalize (preR 7 (([], ⟨[], n, c, zeroF g.toNat⟩) : Row)) = rows at *
      refine ⟨_, rfl, l, rfl, ⟨_, SqL.of hl⟩, fun D hD => lc_list (K := K) (a := l) (xs := xs) (fun i H' => ∃ o, Same H3 H' ∧ H' D = some (.lst o) ∧ DTs K H' o ((((rows.take i).filter isWh).map (·.1)).map pathD)) ⟨[], same_new hD, upd_same, .nil⟩ (fun i H' _ ⟨_, sm, _⟩ => SqL.of (sm _ _ hl)) ?_ ?_⟩
      · rintro i x H' hi ⟨o, sm, hO, dO⟩
        obtain ⟨r, hr', q, rfl, hq0, pl⟩ := ax.2 i x hi
        have plq := PlAt.same pl sm
        obtain ⟨dx, vh, vp, vn', vc', vs, va, vg, vl, vb, h0, d1, d2, d3, d4, d5, d6⟩ := id plq
        refine ⟨rfl, ?_⟩
        refine ⟨_, rfl, q, dx, _, rfl, h0, (by rfl), q, r.1, r.2.pt, r.2.n, r.2.c, r.2.given, rfl, plq, _, rfl, ?_⟩
        have il := (List.getElem?_eq_some_iff.mp hi).1
        have lo : o.length ≤ 383 := by
          rw [dO.len, List.length_map, List.length_map]
          refine Nat.le_trans (List.length_filter_le _ _) ?_
          rw [List.length_take]
          omega
        refine ite2 (fun e => ?_) (fun e => ?_)
        · have e' : isWh r = true := e
          refine ⟨_, rfl, q, T.c_Place, dx, _, _, rfl, h0, T.cl_Place, T.na_Place_history, plF_history .., ?_⟩
          refine ⟨o, hO, small1000 (by omega), _, same_mut sm hD, upd_same, ?_⟩
          rw [take_next hr', List.filter_append, List.filter_cons_of_pos e', List.filter_nil, List.map_append, List.map_append]
          have iD : IsL H' D := ⟨_, hO⟩
          exact (dO.xt iD Xt.upd).snoc (d1.xt iD Xt.upd)
        · have e' : ¬ isWh r = true := e
          refine ⟨o, sm, hO, ?_⟩
          rw [take_next hr', List.filter_append, List.filter_cons_of_neg e', List.filter_nil, List.append_nil]
          exact dO
      · rintro H4 ⟨o, s4, hO, dO⟩
        rw [List.take_of_length_le (by rw [ax.1]; exact Nat.le_refl _)] at dO
        refine ⟨_, _, rfl, SqL.of hO, fun p hp => ?_⟩
        have s5 := same_new (o := .tup o) hp
        exact fin _ _ ((((s12.trans s3).trans s4).trans s5)) (.tup (Tp.of upd_same) (dO.same s5))
end
end Nl

namespace Nl
/-- a size in bits -/
def Bd (k : Nat) (x : Int) : Prop := x.natAbs < 2 ^ k
theorem Bd.mono {k m : Nat} {x : Int} (h : Bd k x) (e : k ≤ m) : Bd m x := Nat.lt_of_lt_of_le h (Nat.pow_le_pow_right (by decide) e)
theorem Bd.mul {k m : Nat} {x y : Int} (h : Bd k x) (g : Bd m y) : Bd (k + m) (x * y) := by
  unfold Bd at *
  rw [Int.natAbs_mul, Nat.pow_add]
  exact Nat.mul_lt_mul'' h g
theorem Bd.add {k m : Nat} {x y : Int} (h : Bd k x) (g : Bd m y) : Bd (max k m + 1) (x + y) := by
  have h1 := h.mono (Nat.le_max_left k m)
  have g1 := g.mono (Nat.le_max_right k m)
  unfold Bd at *
  have := Int.natAbs_add_le x y
  rw [Nat.pow_succ]
  omega
theorem Bd.neg {k : Nat} {x : Int} (h : Bd k x) : Bd k (-x) := by
  unfold Bd at *
  rw [Int.natAbs_neg]
  exact h
theorem Bd.sub {k m : Nat} {x y : Int} (h : Bd k x) (g : Bd m y) : Bd (max k m + 1) (x - y) := by
  rw [Int.sub_eq_add_neg]
  exact h.add g.neg
theorem Bd.le {k : Nat} {x y : Int} (h : Bd k y) (e : x.natAbs ≤ y.natAbs) : Bd k x := Nat.lt_of_le_of_lt e h

/-- lowest terms -/
structure Low (q : Int × Int) : Prop where
  pos : 0 < q.2
  cop : Int.gcd q.1 q.2 = 1
/-- the greatest common divisor, with the sign of b -/
def sg (a b : Int) : Int := if b < 0 then -(Int.gcd a b : Int) else (Int.gcd a b : Int)
def frac (a b : Int) : Int × Int := (a.fdiv (sg a b), b.fdiv (sg a b))
theorem gcd_pos {a b : Int} (h : b ≠ 0) : 0 < Int.gcd a b := Int.gcd_pos_of_ne_zero_right a h
theorem sg_ne {a b : Int} (h : b ≠ 0) : sg a b ≠ 0 := by
  have := gcd_pos (a := a) h
  unfold sg
  split <;> omega
theorem sg_abs (a b : Int) : (sg a b).natAbs = Int.gcd a b := by
  unfold sg
  split <;> simp
theorem sg_dvd1 (a b : Int) : sg a b ∣ a := by
  have h : (Int.gcd a b : Int) ∣ a := Int.gcd_dvd_left a b
  unfold sg
  split
  · exact Int.neg_dvd.mpr h
  · exact h
theorem sg_dvd2 (a b : Int) : sg a b ∣ b := by
  have h : (Int.gcd a b : Int) ∣ b := Int.gcd_dvd_right a b
  unfold sg
  split
  · exact Int.neg_dvd.mpr h
  · exact h
theorem frac_e1 {a b : Int} (_ : b ≠ 0) : (frac a b).1 * sg a b = a := Int.fdiv_mul_cancel (sg_dvd1 a b)
theorem frac_e2 {a b : Int} (_ : b ≠ 0) : (frac a b).2 * sg a b = b := Int.fdiv_mul_cancel (sg_dvd2 a b)
theorem frac_low {a b : Int} (h : b ≠ 0) : Low (frac a b) := by
  have e1 := frac_e1 (a := a) h
  have e2 := frac_e2 (a := a) h
  have g0 := gcd_pos (a := a) h
  have hs := sg_ne (a := a) h
  generalize hx : frac a b = q at *
  obtain ⟨n, d⟩ := q
  simp only at e1 e2
  refine ⟨?_, ?_⟩
  · show 0 < d
    have hd : d ≠ 0 := fun z => by
      rw [z, Int.zero_mul] at e2
      exact h e2.symm
    by_cases hb : b < 0
    · have s0 : sg a b < 0 := by
        unfold sg
        rw [if_pos hb]
        omega
      by_cases q : d < 0
      · have := Int.mul_pos_of_neg_of_neg q s0
        omega
      · omega
    · have s0 : 0 < sg a b := by
        unfold sg
        rw [if_neg hb]
        omega
      by_cases q : d < 0
      · have := Int.mul_neg_of_neg_of_pos q s0
        omega
      · omega
  · show Int.gcd n d = 1
    have hg : Int.gcd (n * sg a b) (d * sg a b) = Int.gcd n d * (sg a b).natAbs := Int.gcd_mul_right n (sg a b) d
    rw [e1, e2, sg_abs] at hg
    exact Nat.eq_of_mul_eq_mul_right g0 (by rw [← hg, Nat.one_mul])
theorem frac_cross {a b : Int} (h : b ≠ 0) : (frac a b).1 * b = a * (frac a b).2 := by
  have e1 := frac_e1 (a := a) h
  have e2 := frac_e2 (a := a) h
  generalize hx : frac a b = q at *
  obtain ⟨n, d⟩ := q
  simp only at e1 e2 ⊢
  generalize sg a b = s at *
  rw [← e1, ← e2, Int.mul_assoc, Int.mul_comm d s]
theorem abs_of_mul {x s y : Int} (e : x * s = y) (h : s ≠ 0) : x.natAbs ≤ y.natAbs := by
  rw [← e, Int.natAbs_mul]
  exact Nat.le_mul_of_pos_right _ (by omega)
theorem frac_b1 {a b : Int} {k : Nat} (h : b ≠ 0) (g : Bd k a) : Bd k (frac a b).1 := g.le (abs_of_mul (frac_e1 h) (sg_ne h))
theorem frac_b2 {a b : Int} {k : Nat} (h : b ≠ 0) (g : Bd k b) : Bd k (frac a b).2 := g.le (abs_of_mul (frac_e2 h) (sg_ne h))
theorem dvd_cop {a b d : Int} (h : b ∣ a * d) (g : Int.gcd a b = 1) : b ∣ d := by
  have h1 : b.natAbs ∣ a.natAbs * d.natAbs := by
    rw [← Int.natAbs_mul]
    exact Int.natAbs_dvd_natAbs.mpr h
  have h2 : Nat.Coprime b.natAbs a.natAbs := (Nat.gcd_comm _ _).trans g
  exact Int.natAbs_dvd_natAbs.mp (h2.dvd_of_dvd_mul_left h1)
theorem low_uniq {p q : Int × Int} (hp : Low p) (hq : Low q) (e : p.1 * q.2 = q.1 * p.2) : p = q := by
  obtain ⟨a, b⟩ := p
  obtain ⟨c, d⟩ := q
  obtain ⟨pb, cb⟩ := hp
  obtain ⟨pd, cd⟩ := hq
  simp only at *
  have d1 : b ∣ d := by
    have h : b ∣ a * d := ⟨c, by rw [e, Int.mul_comm]⟩
    exact dvd_cop h cb
  have d2 : d ∣ b := by
    have h : d ∣ c * b := ⟨a, by rw [← e, Int.mul_comm]⟩
    exact dvd_cop h cd
  have ebd : b = d := Int.dvd_antisymm (by omega) (by omega) d1 d2
  subst ebd
  have : a = c := Int.eq_of_mul_eq_mul_right (by omega) e
  rw [this]
/-- a fraction of at most k bits -/
structure Ok (k : Nat) (q : Int × Int) : Prop where
  low : Low q
  b1 : Bd k q.1
  b2 : Bd k q.2
theorem Ok.pos {k : Nat} {q : Int × Int} (h : Ok k q) : 0 < q.2 := h.low.pos
theorem Ok.mono {k m : Nat} {q : Int × Int} (h : Ok k q) (e : k ≤ m) : Ok m q := ⟨h.low, h.b1.mono e, h.b2.mono e⟩
theorem frac_ok {a b : Int} {k : Nat} (h : b ≠ 0) (g : Bd k a) (f : Bd k b) : Ok k (frac a b) := ⟨frac_low h, frac_b1 h g, frac_b2 h f⟩
def addF (p q : Int × Int) : Int × Int := frac (p.1 * q.2 + q.1 * p.2) (p.2 * q.2)
def subF (p q : Int × Int) : Int × Int := frac (p.1 * q.2 - q.1 * p.2) (p.2 * q.2)
def mulF (p q : Int × Int) : Int × Int := frac (p.1 * q.1) (p.2 * q.2)
def divF (p q : Int × Int) : Int × Int := frac (p.1 * q.2) (p.2 * q.1)
theorem pos_ne {x y : Int} (h : 0 < x) (g : 0 < y) : x * y ≠ 0 := by
  have := Int.mul_pos h g
  omega
theorem addF_ok {k m n : Nat} {p q : Int × Int} (hp : Ok k p) (hq : Ok m q) (e : k + m + 1 ≤ n) : Ok n (addF p q) :=
  frac_ok (pos_ne hp.pos hq.pos) (((hp.b1.mul hq.b2).add (hq.b1.mul hp.b2)).mono (by omega)) ((hp.b2.mul hq.b2).mono (by omega))
theorem subF_ok {k m n : Nat} {p q : Int × Int} (hp : Ok k p) (hq : Ok m q) (e : k + m + 1 ≤ n) : Ok n (subF p q) :=
  frac_ok (pos_ne hp.pos hq.pos) (((hp.b1.mul hq.b2).sub (hq.b1.mul hp.b2)).mono (by omega)) ((hp.b2.mul hq.b2).mono (by omega))
theorem mulF_ok {k m n : Nat} {p q : Int × Int} (hp : Ok k p) (hq : Ok m q) (e : k + m ≤ n) : Ok n (mulF p q) :=
  frac_ok (pos_ne hp.pos hq.pos) ((hp.b1.mul hq.b1).mono (by omega)) ((hp.b2.mul hq.b2).mono (by omega))
theorem divF_ok {k m n : Nat} {p q : Int × Int} (hp : Ok k p) (hq : Ok m q) (h0 : q.1 ≠ 0) (e : k + m ≤ n) : Ok n (divF p q) := by
  have h : p.2 * q.1 ≠ 0 := Int.mul_ne_zero (by have := hp.pos; omega) h0
  exact frac_ok h ((hp.b1.mul hq.b2).mono (by omega)) ((hp.b2.mul hq.b1).mono (by omega))
/-- the law's own normal form -/
def fracL (a b : Int) : Int × Int :=
  let a' := if b < 0 then 0 - a else a
  let b' := if b < 0 then 0 - b else b
  (a' / (Int.gcd a' b' : Int), b' / (Int.gcd a' b' : Int))
theorem fracL_eq {a b : Int} (h : b ≠ 0) : fracL a b = frac a b := by
  have g0 := gcd_pos (a := a) h
  have key : ∀ x : Int, (sg a b ∣ x) → (if b < 0 then 0 - x else x) / (Int.gcd a b : Int) = x.fdiv (sg a b) := fun x hx => by
    obtain ⟨c, rfl⟩ := hx
    have hs := sg_ne (a := a) h
    rw [Int.mul_fdiv_cancel_left c hs]
    unfold sg
    split
    · have e : 0 - -(Int.gcd a b : Int) * c = (Int.gcd a b : Int) * c := by rw [Int.neg_mul]; omega
      rw [e]
      exact Int.mul_ediv_cancel_left c (by omega)
    · exact Int.mul_ediv_cancel_left c (by omega)
  have eg : Int.gcd (if b < 0 then 0 - a else a) (if b < 0 then 0 - b else b) = Int.gcd a b := by
    split
    · rw [Int.zero_sub, Int.zero_sub, Int.neg_gcd, Int.gcd_neg]
    · rfl
  unfold fracL frac
  simp only [eg]
  rw [key a (sg_dvd1 a b), key b (sg_dvd2 a b)]
theorem List.reverseRecOn' {α : Type} {P : List α → Prop} (l : List α) (nil : P []) (snoc : ∀ l x, P l → P (l ++ [x])) : P l := by
  have : ∀ n (l : List α), l.length = n → P l := by
    intro n
    induction n with
    | zero => intro l h; rw [List.eq_nil_of_length_eq_zero h]; exact nil
    | succ n ih =>
      intro l h
      have hne : l ≠ [] := fun e => by rw [e] at h; cases h
      rw [← List.dropLast_concat_getLast hne]
      exact snoc _ _ (ih _ (by rw [List.length_dropLast]; omega))
  exact this _ l rfl
def totF (l : List (Int × Int)) : Int × Int := l.foldl addF (0, 1)
theorem totF_add (l : List (Int × Int)) (q : Int × Int) : totF (l ++ [q]) = addF (totF l) q := by
  unfold totF
  rw [List.foldl_append]
  rfl
theorem ok_zero : Ok 1 (0, 1) := ⟨⟨by decide, by decide⟩, by unfold Bd; decide, by unfold Bd; decide⟩
theorem totF_ok {k : Nat} : ∀ (l : List (Int × Int)), (∀ q ∈ l, Ok k q) → Ok ((k + 1) * l.length + 1) (totF l) := by
  intro l
  induction l using Nl.List.reverseRecOn' with
  | nil => exact fun _ => ok_zero
  | snoc l q ih =>
      intro h
      rw [totF_add]
      have h1 := ih fun z hz => h z (List.mem_append_left _ hz)
      have h2 := h q (by simp)
      refine addF_ok h1 h2 ?_
      rw [List.length_append, List.length_singleton, Nat.mul_add]
      omega
end Nl
namespace Nl
open PySem PySem.Spec PyProof.Rows L2
def CDivX (_ j : Int) : Prop := j ≠ 0 ∧ j.natAbs.log2 < 9000
theorem op_fdivX {X : Cx} : OpR X (binaryOp .FloorDiv) (rI CDivX fun i j => .int (i.fdiv j)) := opI fun _ _ _ _ _ _ _ hc q => floordiv_int hc.1 q (.inl (PyProof.noPylong_of_log2 hc.2))
theorem divX {i j : Int} {b : Nat} (h : j ≠ 0) (hb : Bd b j) (h0 : 0 < b := by decide) (h9 : b ≤ 9000 := by decide) : CDivX i j := ⟨h, Nat.lt_of_lt_of_le (PySem.Flt.log2_lt_of h0 hb) h9⟩
theorem mulX {i j : Int} {a b : Nat} (ha : Bd a i) (hb : Bd b j) (h0 : 0 < a := by decide) (h1 : 0 < b := by decide) (h : a + b ≤ 1000000 := by decide) : CMulW i j := wide_mul ha hb h0 h1 h
/-- all that was tracked is as it was, but for what stands at d -/
def Xt (d : Addr) (H H' : Hp) : Prop := ∀ b o, b ≠ d → H b = some o → H' b = some o
theorem Xt.refl {d : Addr} (H : Hp) : Xt d H H := fun _ _ _ h => h
theorem Xt.trans {d : Addr} {H H1 H2 : Hp} (a : Xt d H H1) (b : Xt d H1 H2) : Xt d H H2 := fun c o n h => b c o n (a c o n h)
theorem Xt.of {d : Addr} {H H' : Hp} (s : Same H H') : Xt d H H' := fun b o _ h => s b o h
theorem Xt.upd {d : Addr} {H : Hp} {o : HO} : Xt d H (upd H d o) := fun b u n h => by
  rw [upd_ne n]
  exact h
theorem same_new {H : Hp} {p : Addr} {o : HO} (h : H p = none) : Same H (upd H p o) := fun b x e => by
  rw [upd_ne (ne_of_none e h)]
  exact e
/-- v is the fraction q -/
def Fr (H : Hp) (v : V) (q : Int × Int) : Prop := ∃ p, v = .ref p ∧ H p = some (.tup [.int q.1, .int q.2])
theorem Fr.same {H H' : Hp} {v : V} {q : Int × Int} (h : Fr H v q) (s : Same H H') : Fr H' v q := by
  obtain ⟨p, e, hp⟩ := h
  exact ⟨p, e, s _ _ hp⟩
theorem ne_tl {H : Hp} {a d : Addr} {xs ys : List V} (h : H a = some (.tup xs)) (g : H d = some (.lst ys)) : a ≠ d := ne_of h g (by intro z; cases z)
theorem Fr.xt {H H' : Hp} {d : Addr} {ys : List V} {v : V} {q : Int × Int} (h : Fr H v q) (g : H d = some (.lst ys)) (s : Xt d H H') : Fr H' v q := by
  obtain ⟨p, e, hp⟩ := h
  exact ⟨p, e, s _ _ (ne_tl hp g) hp⟩
theorem two_le : ([a, b] : List V).length ≤ sizeLine := (by decide : 2 ≤ sizeLine)
section
variable {X : Cx}
theorem CallR.imp {f : Value} {r r' : List V → Hp → VK → Prop} (h : CallR X f r) (hi : ∀ xs H Q, r' xs H Q → r xs H Q) : CallR X f r' := fun pins s σ H vs us Q I rr q => h pins s σ H vs us Q I rr (hi _ _ _ q)
def rInt : List V → Hp → VK → Prop := fun xs H Q => ∃ i, xs = [.int i] ∧ Q (.int i) H
theorem call_intI : CallR X (.type "int") rInt := CallR.imp call_int1 fun _ _ _ h => .inl h
def rLenL (K : PySem.W.Frag) : List V → Hp → VK → Prop := fun xs H Q => ∃ p ys, xs = [.ref p] ∧ SqL K H p ys ∧ Q (.int (ys.length : Int)) H
theorem call_lenL : CallR X (.builtin "len") (rLenL X.K) := CallR.imp call_len_seq fun _ _ _ ⟨p, ys, e, h, q⟩ => ⟨p, ys, e, .inl h, q⟩
def rLenT (K : PySem.W.Frag) : List V → Hp → VK → Prop := fun xs H Q => ∃ p ys, xs = [.ref p] ∧ SqT K H p ys ∧ Q (.int (ys.length : Int)) H
theorem call_lenT : CallR X (.builtin "len") (rLenT X.K) := CallR.imp call_len_seq fun _ _ _ ⟨p, ys, e, h, q⟩ => ⟨p, ys, e, .inr h, q⟩
def rListL (K : PySem.W.Frag) : List V → Hp → VK → Prop := fun xs H Q => ∃ p ys, xs = [.ref p] ∧ SqL K H p ys ∧ ∀ l, H l = none → Q (.ref l) (upd H l (.lst ys))
theorem call_listL : CallR X (.type "list") (rListL X.K) := CallR.imp call_list_of fun _ _ _ ⟨p, ys, e, h, q⟩ => ⟨p, ys, e, .inl h, q⟩
def rTupL (K : PySem.W.Frag) : List V → Hp → VK → Prop := fun xs H Q => ∃ p ys, xs = [.ref p] ∧ SqL K H p ys ∧ ∀ l, H l = none → Q (.ref l) (upd H l (.tup ys))
theorem call_tupL : CallR X (.type "tuple") (rTupL X.K) := CallR.imp call_tuple_of fun _ _ _ ⟨p, ys, e, h, q⟩ => ⟨p, ys, e, .inl ⟨h, q⟩⟩
/-- where something is known of what is raised -/
theorem pe_hyp {e : Expr} {t : TE} {p : Prop} (h : p → PE X e t) : PE X e (fun σ H Q => p ∧ t σ H Q) := ⟨fun pins s σ H Q I hw => (h hw.1).run pins s σ H Q I hw.2⟩
end
theorem mulC {i j : Int} (h : -(2 ^ 64) < j ∧ j < 2 ^ 64) : CMul i j := .inr h
theorem mulC' {i j : Int} (h : -(2 ^ 64) < i ∧ i < 2 ^ 64) : CMul i j := .inl h
/-- the state that the law's draws go on: [its script, a place, a rest, a seed] -/
structure DstI (H : Hp) (pd ps : Addr) (i r : Int) (ns : List Int) : Prop where
  at_d : ∃ s : Int, H pd = some (.lst [.ref ps, .int i, .int r, .int s])
  at_s : H ps = some (.lst (ns.map V.int))
  ne : ps ≠ pd
  i0 : 0 ≤ i
  r0 : 0 ≤ r
def Dst (H : Hp) (pd ps : Addr) : Prop := ∃ i r ns, DstI H pd ps i r ns
theorem Dst.same {H H' : Hp} {pd ps : Addr} (h : Dst H pd ps) (s : Same H H') : Dst H' pd ps := by
  obtain ⟨i, r, ns, ⟨⟨sd, h1⟩, h2, h3, h4, h5⟩⟩ := h
  exact ⟨i, r, ns, ⟨⟨sd, s _ _ h1⟩, s _ _ h2, h3, h4, h5⟩⟩
theorem Dst.xt {H H' : Hp} {pd ps x : Addr} (h : Dst H pd ps) (n1 : x ≠ pd) (n2 : x ≠ ps) (s : Xt x H H') : Dst H' pd ps := by
  obtain ⟨i, r, ns, ⟨⟨sd, h1⟩, h2, h3, h4, h5⟩⟩ := h
  exact ⟨i, r, ns, ⟨⟨sd, s _ _ (Ne.symm n1) h1⟩, s _ _ (Ne.symm n2) h2, h3, h4, h5⟩⟩
theorem Dst.fresh {H : Hp} {pd ps x : Addr} (h : Dst H pd ps) (n : H x = none) : x ≠ pd ∧ x ≠ ps := by
  obtain ⟨i, r, ns, ⟨⟨sd, h1⟩, h2, h3, h4, h5⟩⟩ := h
  exact ⟨fun e => (by rw [e, h1] at n; cases n), fun e => (by rw [e, h2] at n; cases n)⟩
theorem Dst.lst {H : Hp} {pd ps : Addr} (h : Dst H pd ps) : ∃ ys, H pd = some (.lst ys) := by
  obtain ⟨i, r, ns, ⟨⟨sd, h1⟩, _⟩⟩ := h
  exact ⟨_, h1⟩
theorem Fr.dst {H H' : Hp} {pd ps : Addr} {v : V} {q : Int × Int} (h : Fr H v q) (g : Dst H pd ps) (s : Xt pd H H') : Fr H' v q := by
  obtain ⟨ys, e⟩ := g.lst
  exact h.xt e s
theorem DstI.set {H : Hp} {pd ps : Addr} {i r i' r' s' : Int} {ns : List Int} (h : DstI H pd ps i r ns) (hi : 0 ≤ i') (hr : 0 ≤ r') : DstI (upd H pd (.lst [.ref ps, .int i', .int r', .int s'])) pd ps i' r' ns :=
  ⟨⟨s', upd_same⟩, by rw [upd_ne h.ne]; exact h.at_s, h.ne, hi, hr⟩
theorem DstI.upd2 {H : Hp} {pd ps : Addr} {i r i' r' s' : Int} {ns : List Int} {o : HO} (h : DstI H pd ps i r ns) (hi : 0 ≤ i') (hr : 0 ≤ r') : DstI (upd (upd H pd o) pd (.lst [.ref ps, .int i', .int r', .int s'])) pd ps i' r' ns := by
  rw [upd_upd]
  exact h.set hi hr
theorem dec_eq {a b : V} (h : a = b) : decide (a = b) = true := decide_eq_true h
def FrAll (H : Hp) (xs : List V) (qs : List (Int × Int)) : Prop := xs.length = qs.length ∧ ∀ (i : Nat) (x : V), xs[i]? = some x → ∃ q, qs[i]? = some q ∧ Fr H x q
theorem FrAll.same {H H' : Hp} {xs : List V} {qs : List (Int × Int)} (h : FrAll H xs qs) (s : Same H H') : FrAll H' xs qs := ⟨h.1, fun i x e => by
  obtain ⟨q, h1, h2⟩ := h.2 i x e
  exact ⟨q, h1, h2.same s⟩⟩
theorem FrAll.xt {H H' : Hp} {d : Addr} {ys xs : List V} {qs : List (Int × Int)} (h : FrAll H xs qs) (g : H d = some (.lst ys)) (s : Xt d H H') : FrAll H' xs qs := ⟨h.1, fun i x e => by
  obtain ⟨q, h1, h2⟩ := h.2 i x e
  exact ⟨q, h1, h2.xt g s⟩⟩
theorem FrAll.add {H : Hp} {xs : List V} {qs : List (Int × Int)} {v : V} {q : Int × Int} (h : FrAll H xs qs) (g : Fr H v q) : FrAll H (xs ++ [v]) (qs ++ [q]) := by
  refine ⟨by simp [h.1], fun i x e => ?_⟩
  by_cases hi : i < xs.length
  · rw [List.getElem?_append_left hi] at e
    obtain ⟨z, h1, h2⟩ := h.2 i x e
    exact ⟨z, by rw [List.getElem?_append_left (by rw [← h.1]; exact hi)]; exact h1, h2⟩
  · have hl := (List.getElem?_eq_some_iff.mp e).1
    rw [List.length_append, List.length_singleton] at hl
    have ei : i = xs.length := by omega
    subst ei
    rw [List.getElem?_concat_length] at e
    cases e
    exact ⟨q, by rw [h.1, List.getElem?_concat_length], g⟩
theorem take_next {α : Type} {l : List α} {i : Nat} {x : α} (h : l[i]? = some x) : l.take (i + 1) = l.take i ++ [x] := by
  rw [List.take_add_one, h]
  rfl
theorem gcd_step (x y : Int) (hx : 0 ≤ x) (hy : 0 ≤ y) : Int.gcd y (x % y) = Int.gcd x y := by
  obtain ⟨a, rfl⟩ := Int.eq_ofNat_of_zero_le hx
  obtain ⟨b, rfl⟩ := Int.eq_ofNat_of_zero_le hy
  rw [← Int.natCast_emod]
  show Nat.gcd b (a % b) = Nat.gcd a b
  rw [Nat.gcd_comm b, ← Nat.gcd_rec b a, Nat.gcd_comm]
theorem if_true_of' {c : Bool} {A B : Prop} (hc : c = true) (h : A) : if c = true then A else B := by
  rw [if_pos hc]
  exact h
theorem if_false_of' {c : Bool} {A B : Prop} (hc : c = false) (h : B) : if c = true then A else B := by
  rw [hc, if_neg Bool.false_ne_true]
  exact h
def frD (q : Int × Int) : PyData := .tuple [.int q.1, .int q.2]
theorem Fr.dp {K : PySem.W.Frag} {H : Hp} {v : V} {q : Int × Int} (h : Fr H v q) : Dp K H v (frD q) := by
  obtain ⟨p, rfl, hp⟩ := h
  exact .tup (SqT.of hp) (.cons (.int _) (.cons (.int _) .nil))
theorem frD_shaped (q : Int × Int) : SeqAt.shaped (frD q) = true := rfl
theorem frD_eqv (q : Int × Int) : PyData.eqv (frD q) (frD q) = true := SeqAt.eqv_refl _ rfl
theorem kit_self {K : PySem.W.Frag} {C : Addr} : PySem.W.kitOne K (.ref C) (.ref C) = some true := by
  unfold PySem.W.kitOne
  simp
theorem pow38 : Bd 127 (10 ^ 38) := by unfold Bd; decide
end Nl

namespace Nl
/-! ### sorted of tuples of ints of any lengths, the first of which is empty -/
section
open PySem PySem.W PySem.Calls PyProof.Rows SrtO
theorem lex_asym : ∀ a b : List Int, HT.lexLt a b = true → HT.lexLt b a = false
  | [], [], h => by simp [HT.lexLt] at h
  | [], _ :: _, _ => rfl
  | _ :: _, [], h => by simp [HT.lexLt] at h
  | x :: a, y :: b, h => by
    rw [HT.lexLt_cons] at h ⊢
    by_cases e : x = y
    · rw [if_pos e] at h
      rw [if_pos e.symm]
      exact lex_asym a b h
    · rw [if_neg e] at h
      rw [if_neg (Ne.symm e)]
      have := of_decide_eq_true h
      exact decide_eq_false (by omega)
theorem lex_tr : ∀ a b c : List Int, HT.lexLt b a = false → HT.lexLt c b = false → HT.lexLt c a = false
  | _, _, [], _, h => by
    rename_i a b h0
    cases b with
    | nil => exact h0
    | cons y b => simp [HT.lexLt] at h
  | _, [], z :: c, h1, h2 => by
    rename_i a
    cases a with
    | nil => rfl
    | cons x a => simp [HT.lexLt] at h1
  | [], y :: b, z :: c, _, _ => rfl
  | x :: a, y :: b, z :: c, h1, h2 => by
    rw [HT.lexLt_cons] at h1 h2 ⊢
    by_cases e : y = x
    · rw [if_pos e] at h1
      by_cases e2 : z = y
      · rw [if_pos e2] at h2
        rw [if_pos (e2.trans e)]
        exact lex_tr a b c h1 h2
      · rw [if_neg e2] at h2
        rw [if_neg (fun q => e2 (q.trans e.symm))]
        have := of_decide_eq_false h2
        exact decide_eq_false (by omega)
    · rw [if_neg e] at h1
      have q1 := of_decide_eq_false h1
      by_cases e2 : z = y
      · rw [if_neg (fun q => e (e2.symm.trans q))]
        exact decide_eq_false (by omega)
      · rw [if_neg e2] at h2
        have q2 := of_decide_eq_false h2
        rw [if_neg (by omega)]
        exact decide_eq_false (by omega)
theorem swo_path {α : Type} (k : α → List Int) : Swo fun v u => HT.lexLt (k v) (k u) := ⟨fun x y h => lex_asym _ _ h, fun x y z h1 h2 => lex_tr _ _ _ h1 h2⟩
section
variable {prog : Program} {w : World} {A : Around} {E : Value → Shared → Prop} {s : Shared}
theorem keyLt_tup {l b : Addr} {items items2 : Array Value} {ns ms : List Int} {Q : Bool → Shared → Prop} (hl : IsTup s.heap l items) (hb : IsTup s.heap b items2) (hi : IntsAre items.toList ns) (hj : IntsAre items2.toList ms)
    (hu : A.units < cLine) (h : Q (HT.lexLt ns ms) s) : wpAny (model prog w) A (keyLt' oneType' (.ref l) (.ref b)) Q E s := by
  obtain ⟨⟨cls, dd, data, sl⟩, ho, hc, n, hd⟩ := id hl
  obtain ⟨⟨cls2, dd2, data2, sl2⟩, ho2, hc2, n2, hd2⟩ := id hb
  simp only at hc hd hc2 hd2
  subst hc hd hc2 hd2
  rw [keyLt'_oneType, oneLt'_eq]
  simp only [if_true]
  refine wpAny_bind (wpAny_cRoomFor hu ?_)
  have hT : s.TypeIs (.ref l) "tuple" := ⟨_, ho, rfl⟩
  refine wpAny_bind (wpAny_callSpecialIfBound?_slot hT PySem.F.slot_tuple_lt (call_meets PySem.F.slot_tuple_lt hT PySem.F.entry_tuple_lt (PySem.F.args_tuple_lt_2 _ _) (HT.tuple_lt_ints l b items items2 n n2 dd dd2 sl sl2 ns ms hi hj) ⟨ho, ho2, ?_⟩))
  exact wpAny_truthy_bool h
/-- what firstOfTuple gives -/
theorem firsts_any : ∀ (vs : List Value) {Q : List (Option Value) → Shared → Prop}, (∀ v ∈ vs, ∃ a xs, v = .ref a ∧ IsTup s.heap a xs) →
    (∀ fs : List (Option Value), (∀ (v : Value) (r : List Value) (a : Addr) (xs : Array Value), vs = v :: r → v = .ref a → IsTup s.heap a xs → fs[0]? = some xs[0]?) → Q fs s) → wpAny (model prog w) A (vs.mapM firstOfTuple') Q E s
  | [], Q, _, h => by
    rw [List.mapM_nil]
    exact wpAny_pure (h [] fun _ _ _ _ e => by cases e)
  | v :: vs, Q, hv, h => by
    obtain ⟨a, xs, rfl, ht⟩ := hv v (List.mem_cons_self ..)
    obtain ⟨o, ho, hc, n, hd⟩ := id ht
    rw [List.mapM_cons]
    refine wpAny_bind ?_
    rw [kas_first_eq]
    refine wpAny_bind (Looks.here (show Looks (model prog w) s.heap (typeOf (.ref a)) o.cls from (Looks.ld ho).andThen .now) ?_)
    rw [hc, if_neg (by first | decide | simp)]
    refine wpAny_bind (listItems_at ho hd (wpAny_pure ?_))
    refine wpAny_bind (firsts_any vs (fun u hu => hv u (List.mem_cons_of_mem _ hu)) fun fs _ => wpAny_pure (h _ fun v' r a' xs' e1 e2 ht' => ?_))
    cases e1
    cases e2
    obtain ⟨o', ho', hc', n', hd'⟩ := ht'
    rw [ho] at ho'
    cases ho'
    rw [hd] at hd'
    cases hd'
    rfl
theorem kind_paths {vs : List Value} {Q : SortKind → Shared → Prop} (h2 : 2 ≤ vs.length) (hv : ∀ v ∈ vs, ∃ a xs, v = .ref a ∧ IsTup s.heap a xs) (h0 : ∀ (v : Value) (r : List Value), vs = v :: r → ∃ a xs, v = .ref a ∧ IsTup s.heap a xs ∧ xs[0]? = none)
    (h : Q oneType' s) : wpAny (model prog w) A (keyKind' vs.toArray) Q E s := by
  obtain ⟨v₁, v₂, rest, rfl⟩ : ∃ v₁ v₂ rest, vs = v₁ :: v₂ :: rest := by
    match vs, h2 with
    | [], h2 => simp at h2
    | [_], h2 => simp at h2
    | v₁ :: v₂ :: rest, _ => exact ⟨v₁, v₂, rest, rfl⟩
  rw [keyKind'_eq, List.mapM_toArray, map_eq_pure_bind]
  refine wpAny_bind (wpAny_bind (firsts_any _ hv fun fs hf => wpAny_pure ?_))
  obtain ⟨a, xs, ev, ht, hx⟩ := h0 v₁ (v₂ :: rest) rfl
  have f0 := hf v₁ (v₂ :: rest) a xs rfl ev ht
  rw [hx] at f0
  have hall : ¬ ((fs.toArray.all fun x => x.isSome) = true) := by
    cases fs with
    | nil => simp at f0
    | cons f fs =>
      have e : f = none := by simpa using f0
      subst e
      simp
  have h1 : (fs.toArray[0]?.bind id) = none := by
    have e : fs.toArray[0]? = some none := by simpa using f0
    rw [e]
    rfl
  rw [if_neg hall, h1]
  rw [if_neg (by simp)]
  rw [oneTypeOnly'_eq, List.mapM_toArray, map_eq_pure_bind]
  refine wpAny_bind (wpAny_bind (wpAny_bind (kas_mapM (r := Value.type "tuple") _ (fun v hm Q' hq => ?_) (wpAny_pure ?_))))
  · obtain ⟨a, xs, rfl, o, ho, hc, n, hd⟩ := hv v hm
    exact Looks.here (show Looks (model prog w) s.heap (typeOf (.ref a)) (.type "tuple") from hc ▸ (Looks.ld ho).andThen .now) hq
  · have hall : ((List.map (fun _ => Value.type "tuple") (v₁ :: v₂ :: rest)).toArray.all fun x => x == Value.type "tuple") = true := by
      simp only [List.all_toArray, List.all_map, List.all_eq_true]
      intro _ _
      simp
    have h0 : (List.map (fun _ => Value.type "tuple") (v₁ :: v₂ :: rest)).toArray[0]? = some (Value.type "tuple") := by simp
    rw [h0]
    simp only [hall, if_true]
    exact wpAny_pure (wpAny_pure h)
end
end
section
open PySem PySem.Spec PyProof.Rows L2
variable {X : Cx}
abbrev ltK (k : V → List Int) (x y : V) : Bool := HT.lexLt (k x) (k y)
def rSortP (K : PySem.W.Frag) : List V → Hp → VK → Prop := fun vs H Q => ∃ (a : Addr) (xs : List V) (k : V → List Int), vs = [V.ref a] ∧ SqL K H a xs ∧ (∀ x ∈ xs, ∃ t, x = V.ref t ∧ SqT K H t ((k x).map V.int)) ∧ (∀ x, xs[0]? = some x → k x = []) ∧
  ∀ ys p, ys.Perm xs → SrtO.Srtd (ltK k) ys → H p = none → Q (.ref p) (upd H p (.lst ys))
theorem cr_sortP (hr : Room 2 X.A) : CallR X (.builtin "sorted") (rSortP X.K) := by
  intro pins s σ H vs us Q I r h
  obtain ⟨a, xs, k, rfl, hs, hx, hx0, q⟩ := h
  obtain ⟨its, rv, hl, hz⟩ := I.list hs
  obtain ⟨u, rfl, ru⟩ := vals1 r
  obtain rfl : u = Value.ref a := ru
  obtain ⟨e1, e2⟩ := refs_back rv fun x m => by
    obtain ⟨t, e, _⟩ := hx x m
    exact ⟨t, e⟩
  have hu : X.A.in1.in1.units < cLine := by
    have h1 : Room 0 X.A.in1.in1 := Room.in1 (k := 0) (Room.in1 (k := 1) hr)
    exact h1.units0
  have tup : ∀ v ∈ its, ∃ t ws, v = Value.ref t ∧ IsTup s.heap t ws ∧ IntsAre ws.toList (k (backV v)) := fun v hv => by
    obtain ⟨t, rfl⟩ := e2 v hv
    have hm : V.ref t ∈ xs := by rw [e1]; exact List.mem_map.mpr ⟨_, hv, rfl⟩
    obtain ⟨t', e, ht⟩ := hx _ hm
    cases e
    obtain ⟨ws, rw', hw, _⟩ := I.tuple ht
    exact ⟨t, ws.toArray, rfl, hw, (show IntsAre ws (k (V.ref t)) from Vals.ints rw')⟩
  refine SrtO.sorted_ord (swo_path fun v => k (backV v)) hl.isList (by rw [← rv.length]; exact hz) (fun h2 h₁ a' ha kk => ?_) fun out h1 h2 => ?_
  · intro h' hk
    have keep : ∀ b o, s.heap.get? b = some o → h'.get? b = some o := fun b o e => hk b o (kk b o e).1 (kk b o e).2
    have tk : ∀ {t : Addr} {ws : Array Value}, IsTup s.heap t ws → IsTup h' t ws := fun ⟨o, ho, hc⟩ => ⟨o, keep _ _ ho, hc⟩
    refine ⟨oneType', fun Q' E hq => ?_, fun p q hm hm' => ?_⟩
    · refine kind_paths h2 (fun v hv => ?_) (fun v r e => ?_) hq
      · obtain ⟨t, ws, e, hw, _⟩ := tup v hv
        exact ⟨t, ws, e, tk hw⟩
      · have hv : v ∈ its := by rw [e]; exact List.mem_cons_self ..
        obtain ⟨t, ws, e', hw, hi⟩ := tup v hv
        refine ⟨t, ws, e', tk hw, ?_⟩
        have ex : xs[0]? = some (backV v) := by rw [e1, e]; rfl
        rw [hx0 _ ex] at hi
        have : ws.toList = [] := by
          generalize ws.toList = l at hi
          cases hi
          rfl
        obtain ⟨l⟩ := ws
        simp only at this
        subst this
        rfl
    · obtain ⟨t, ws, ev, hw, hi⟩ := tup _ hm
      obtain ⟨t', ws', ev', hw', hi'⟩ := tup _ hm'
      show wpAny (model X.prog X.w) X.A.in1.in1 (keyLt' oneType' p.1 q.1) (fun r s' => s' = _ ∧ r = HT.lexLt (k (backV p.1)) (k (backV q.1))) (fun _ _ => False) _
      rw [ev, ev'] at *
      exact keyLt_tup (tk hw) (tk hw') hi hi' hu ⟨rfl, rfl⟩
  · obtain ⟨ep, he'⟩ := PyProof.Rows.sortedAll_at s.heap its out.toArray
    have h3 : ∀ u ∈ out, ∃ a, u = Value.ref a := fun u hu => e2 u (h2.perm.mem_iff.mp hu)
    have hp : (out.map backV).Perm xs := by
      rw [e1]
      exact h2.perm.map backV
    refine ⟨.ref (s.heap.objs.size + 1), upd H (s.heap.objs.size + 1) (.lst (out.map backV)), I.laid (t' := s.toks) (fun _ _ => PyProof.Rows.sortedAll_old) (Nat.le_succ _) ⟨?_, out, ep, vals_back h3, he'⟩, rfl, q _ _ hp (SrtO.srtd_map h1) (I.hok.fresh (Nat.le_succ _))⟩
    rw [hp.length_eq]
    exact hz
end
end Nl

namespace Nl
open PySem PySem.Spec PyProof.Rows L2
/-! ### data that never changes: numbers, texts, None and tuples of such -/
/-- a tuple that was made, at a -/
def Tp (H : Hp) (a : Addr) (xs : List V) : Prop := H a = some (.tup xs)
mutual
inductive DT (K : PySem.W.Frag) (H : Hp) : V → PyData → Prop
  | non : DT K H .non .none
  | bl (b : Bool) : DT K H (.bl b) (.bool b)
  | int (i : Int) : DT K H (.int i) (.int i)
  | str (x : Str) : DT K H (.str x) (.str x)
  | tup {a : Addr} {xs : List V} {ds : List PyData} : Tp H a xs → DTs K H xs ds → DT K H (.ref a) (.tuple ds)
inductive DTs (K : PySem.W.Frag) (H : Hp) : List V → List PyData → Prop
  | nil : DTs K H [] []
  | cons {v : V} {vs : List V} {d : PyData} {ds : List PyData} : DT K H v d → DTs K H vs ds → DTs K H (v :: vs) (d :: ds)
end
section
variable {K : PySem.W.Frag} {H H' : Hp}
theorem Tp.of {a : Addr} {xs : List V} (h : H a = some (.tup xs)) : Tp H a xs := h
theorem Tp.sq {a : Addr} {xs : List V} (h : Tp H a xs) : SqT K H a xs := SqT.of h
instance instTpSq {a : Addr} {xs : List V} : Coe (Tp H a xs) (SqT K H a xs) := ⟨Tp.sq⟩
mutual
theorem DT.mono (hs : ∀ a xs, Tp H a xs → Tp H' a xs) : ∀ (d : PyData) (v : V), DT K H v d → DT K H' v d
  | .none, _, h => by cases h; exact .non
  | .bool _, _, h => by cases h; exact .bl _
  | .int _, _, h => by cases h; exact .int _
  | .str _, _, h => by cases h; exact .str _
  | .tuple ds, _, h => by
    cases h with
    | tup h1 h2 => exact .tup (hs _ _ h1) (DTs.mono hs ds _ h2)
  | .list _, _, h => by cases h
  | .dict _, _, h => by cases h
theorem DTs.mono (hs : ∀ a xs, Tp H a xs → Tp H' a xs) : ∀ (ds : List PyData) (vs : List V), DTs K H vs ds → DTs K H' vs ds
  | [], _, h => by cases h; exact .nil
  | d :: ds, _, h => by
    cases h with
    | cons h1 h2 => exact .cons (DT.mono hs d _ h1) (DTs.mono hs ds _ h2)
end
mutual
theorem DT.dp : ∀ (d : PyData) (v : V), DT K H v d → Dp K H v d
  | .none, _, h => by cases h; exact .non
  | .bool _, _, h => by cases h; exact .bl _
  | .int _, _, h => by cases h; exact .int _
  | .str _, _, h => by cases h; exact .str _
  | .tuple ds, _, h => by
    cases h with
    | tup h1 h2 => exact .tup h1 (DTs.dp ds _ h2)
  | .list _, _, h => by cases h
  | .dict _, _, h => by cases h
theorem DTs.dp : ∀ (ds : List PyData) (vs : List V), DTs K H vs ds → DpAll K H vs ds
  | [], _, h => by cases h; exact .nil
  | d :: ds, _, h => by
    cases h with
    | cons h1 h2 => exact .cons (DT.dp d _ h1) (DTs.dp ds _ h2)
end
theorem tp_same {a : Addr} {xs : List V} (s : Same H H') (h : Tp H a xs) : Tp H' a xs := s _ _ h
/-- what stands at d is a list -/
def IsL (H : Hp) (d : Addr) : Prop := ∃ ys, H d = some (.lst ys)
theorem tp_xt {d a : Addr} {xs : List V} (g : IsL H d) (s : Xt d H H') (h : Tp H a xs) : Tp H' a xs := by
  obtain ⟨ys, g⟩ := g
  exact s _ _ (ne_of h g (by intro z; cases z)) h
theorem DT.same {v : V} {d : PyData} (h : DT K H v d) (s : Same H H') : DT K H' v d := DT.mono (fun _ _ => tp_same s) d v h
theorem DTs.same {v : List V} {d : List PyData} (h : DTs K H v d) (s : Same H H') : DTs K H' v d := DTs.mono (fun _ _ => tp_same s) d v h
theorem DT.xt {v : V} {d : PyData} {p : Addr} (h : DT K H v d) (g : IsL H p) (s : Xt p H H') : DT K H' v d := DT.mono (fun _ _ => tp_xt g s) d v h
theorem DTs.xt {v : List V} {d : List PyData} {p : Addr} (h : DTs K H v d) (g : IsL H p) (s : Xt p H H') : DTs K H' v d := DTs.mono (fun _ _ => tp_xt g s) d v h
theorem DT.inv {v : V} {ds : List PyData} (h : DT K H v (.tuple ds)) : ∃ a xs, v = .ref a ∧ Tp H a xs ∧ DTs K H xs ds := by
  cases h with
  | tup h1 h2 => exact ⟨_, _, rfl, h1, h2⟩
theorem DTs.len : ∀ {xs : List V} {ds : List PyData}, DTs K H xs ds → xs.length = ds.length
  | _, _, .nil => rfl
  | _, _, .cons _ t => congrArg (· + 1) (DTs.len t)
theorem DTs.inv1 {xs : List V} {d : PyData} (h : DTs K H xs [d]) : ∃ x, xs = [x] ∧ DT K H x d := by
  cases h with
  | cons h1 h2 =>
    cases h2
    exact ⟨_, rfl, h1⟩
theorem DTs.inv2 {xs : List V} {d e : PyData} (h : DTs K H xs [d, e]) : ∃ x y, xs = [x, y] ∧ DT K H x d ∧ DT K H y e := by
  cases h with
  | cons h1 h2 =>
    obtain ⟨y, rfl, h3⟩ := h2.inv1
    exact ⟨_, _, rfl, h1, h3⟩
theorem DT.inv2 {v : V} {d e : PyData} (h : DT K H v (.tuple [d, e])) : ∃ a x y, v = .ref a ∧ Tp H a [x, y] ∧ DT K H x d ∧ DT K H y e := by
  obtain ⟨a, xs, rfl, h1, h2⟩ := h.inv
  obtain ⟨x, y, rfl, h3, h4⟩ := h2.inv2
  exact ⟨a, x, y, rfl, h1, h3, h4⟩
theorem DT.mk2 {a : Addr} {x y : V} {d e : PyData} (h : Tp H a [x, y]) (h1 : DT K H x d) (h2 : DT K H y e) : DT K H (.ref a) (.tuple [d, e]) := .tup h (.cons h1 (.cons h2 .nil))
theorem DT.int_inv {v : V} {i : Int} (h : DT K H v (.int i)) : v = .int i := by cases h; rfl
theorem DTs.get : ∀ {xs : List V} {ds : List PyData} {i : Nat} {x : V}, DTs K H xs ds → xs[i]? = some x → ∃ d, ds[i]? = some d ∧ DT K H x d
  | _, _, _, _, .nil, e => by simp at e
  | _, _, 0, _, .cons r _, e => by simp at e; subst e; exact ⟨_, rfl, r⟩
  | _, _, i + 1, x, .cons _ t, e => by
    obtain ⟨u, h1, h2⟩ := DTs.get (i := i) (x := x) t (by simpa using e)
    exact ⟨u, by simpa using h1, h2⟩
theorem DTs.at_ : ∀ {xs : List V} {ds : List PyData} {i : Nat} {d : PyData}, DTs K H xs ds → ds[i]? = some d → ∃ x, xs[i]? = some x ∧ DT K H x d
  | _, _, _, _, .nil, e => by simp at e
  | _, _, 0, _, .cons r _, e => by simp at e; subst e; exact ⟨_, rfl, r⟩
  | _, _, i + 1, x, .cons _ t, e => by
    obtain ⟨u, h1, h2⟩ := DTs.at_ (i := i) (d := x) t (by simpa using e)
    exact ⟨u, by simpa using h1, h2⟩
theorem DTs.app : ∀ {xs ys : List V} {ds es : List PyData}, DTs K H xs ds → DTs K H ys es → DTs K H (xs ++ ys) (ds ++ es)
  | _, _, _, _, .nil, h => h
  | _, _, _, _, .cons a t, h => .cons a (t.app h)
theorem DTs.snoc {xs : List V} {ds : List PyData} {x : V} {d : PyData} (h : DTs K H xs ds) (g : DT K H x d) : DTs K H (xs ++ [x]) (ds ++ [d]) := h.app (.cons g .nil)
theorem DTs.drop : ∀ {xs : List V} {ds : List PyData} (n : Nat), DTs K H xs ds → DTs K H (xs.drop n) (ds.drop n)
  | _, _, 0, h => h
  | _, _, _ + 1, .nil => .nil
  | _, _, n + 1, .cons _ t => t.drop n
theorem DTs.take : ∀ {xs : List V} {ds : List PyData} (n : Nat), DTs K H xs ds → DTs K H (xs.take n) (ds.take n)
  | _, _, 0, _ => .nil
  | _, _, _ + 1, .nil => .nil
  | _, _, n + 1, .cons h t => .cons h (t.take n)
theorem DTs.ints {ns : List Int} : ∀ {xs : List V}, DTs K H xs (ns.map PyData.int) → xs = ns.map V.int := by
  induction ns with
  | nil =>
    intro xs h
    cases h
    rfl
  | cons n ns ih =>
    intro xs h
    cases h with
    | cons h1 h2 => rw [h1.int_inv, ih h2]; rfl
theorem DTs.of_ints : ∀ (ns : List Int), DTs K H (ns.map V.int) (ns.map PyData.int)
  | [] => .nil
  | _ :: r => .cons (.int _) (DTs.of_ints r)
/-- a fraction -/
theorem DT.fr_inv {v : V} {q : Int × Int} (h : DT K H v (frD q)) : ∃ p, v = .ref p ∧ Tp H p [.int q.1, .int q.2] := by
  obtain ⟨a, x, y, rfl, h1, h2, h3⟩ := h.inv2
  rw [h2.int_inv, h3.int_inv] at h1
  exact ⟨a, rfl, h1⟩
theorem DT.fr {p : Addr} {q : Int × Int} (h : Tp H p [.int q.1, .int q.2]) : DT K H (.ref p) (frD q) := .mk2 h (.int _) (.int _)
/-- a path -/
def pathD (p : List Int) : PyData := .tuple (p.map PyData.int)
theorem DT.path_inv {v : V} {p : List Int} (h : DT K H v (pathD p)) : ∃ a, v = .ref a ∧ Tp H a (p.map V.int) := by
  obtain ⟨a, xs, rfl, h1, h2⟩ := h.inv
  rw [h2.ints] at h1
  exact ⟨a, rfl, h1⟩
theorem DT.path {a : Addr} {p : List Int} (h : Tp H a (p.map V.int)) : DT K H (.ref a) (pathD p) := .tup h (.of_ints p)
end
/-! ### trees -/
abbrev Pr := (Int × Int) × (Int × Int)
inductive Node where
  | mk (ps : List Pr) (ks : List Node)
def Node.ps : Node → List Pr
  | .mk ps _ => ps
def Node.ks : Node → List Node
  | .mk _ ks => ks
def prD (p : Pr) : PyData := .tuple [frD p.1, frD p.2]
def pricesD (ps : List Pr) : PyData := .tuple (ps.map prD)
mutual
def nodeD : Node → PyData
  | .mk ps ks => .tuple [pricesD ps, .tuple (nodesD ks)]
def nodesD : List Node → List PyData
  | [] => []
  | n :: r => nodeD n :: nodesD r
end
theorem nodesD_map : ∀ ks : List Node, nodesD ks = ks.map nodeD
  | [] => rfl
  | n :: r => by rw [nodesD, nodesD_map r]; rfl
theorem nodeD_eq (n : Node) : nodeD n = .tuple [pricesD n.ps, .tuple (n.ks.map nodeD)] := by
  cases n
  rw [nodeD, nodesD_map]
  rfl
abbrev PN := List Int × Node
def entD (e : PN) : PyData := .tuple [pathD e.1, nodeD e.2]
def kidsOf (e : PN) : List PN := e.2.ks.mapIdx fun i k => (e.1 ++ [(i : Int)], k)
mutual
def pre (p : List Int) : Node → List PN
  | .mk ps ks => (p, .mk ps ks) :: pres p 0 ks
def pres (p : List Int) (i : Nat) : List Node → List PN
  | [] => []
  | n :: r => pre (p ++ [(i : Int)]) n ++ pres p (i + 1) r
end
def preE (e : PN) : List PN := pre e.1 e.2
theorem pres_eq (p : List Int) : ∀ (ks : List Node) (i : Nat), pres p i ks = (ks.mapIdx fun j k => (p ++ [((i + j : Nat) : Int)], k)).flatMap preE
  | [], i => rfl
  | n :: r, i => by
    rw [pres, List.mapIdx_cons, List.flatMap_cons, pres_eq p r (i + 1)]
    have e : ∀ j : Nat, i + 1 + j = i + (j + 1) := fun j => by omega
    simp only [Nat.add_zero, e]
    rfl
theorem preE_eq (e : PN) : preE e = e :: (kidsOf e).flatMap preE := by
  obtain ⟨p, n⟩ := e
  cases n with
  | mk ps ks =>
    show pre p (.mk ps ks) = _
    rw [pre, pres_eq]
    simp only [Nat.zero_add]
    rfl
theorem le_sum {x : Nat} : ∀ {l : List Nat}, x ∈ l → x ≤ l.sum
  | [], h => by cases h
  | y :: l, h => by
    rw [List.sum_cons]
    rcases List.mem_cons.mp h with rfl | h
    · omega
    · have := le_sum h
      omega
/-- paths behind p -/
theorem pre_ext : ∀ (n : Nat) (e x : PN), (preE e).length ≤ n → x ∈ preE e → ∃ r, x.1 = e.1 ++ r
  | 0, e, x, hl, hx => by
    rw [preE_eq] at hl
    simp at hl
  | n + 1, e, x, hl, hx => by
    rw [preE_eq] at hl hx
    rcases List.mem_cons.mp hx with rfl | hx
    · exact ⟨[], by simp⟩
    · obtain ⟨k, hk, hxk⟩ := List.mem_flatMap.mp hx
      have hlen : (preE k).length ≤ n := by
        have h1 : (preE k).length ≤ ((kidsOf e).flatMap preE).length := by
          rw [List.length_flatMap]
          exact le_sum (List.mem_map.mpr ⟨k, hk, rfl⟩)
        rw [List.length_cons] at hl
        omega
      obtain ⟨r, hr⟩ := pre_ext n k x hlen hxk
      obtain ⟨i, hi, rfl⟩ := List.mem_mapIdx.mp hk
      exact ⟨(i : Int) :: r, by rw [hr]; simp⟩
theorem pre_len : ∀ (n : Nat) (e x : PN), (preE e).length ≤ n → x ∈ preE e → x.1.length < e.1.length + (preE e).length
  | 0, e, x, hl, hx => by
    rw [preE_eq] at hl
    simp at hl
  | n + 1, e, x, hl, hx => by
    rw [preE_eq] at hl hx
    rcases List.mem_cons.mp hx with rfl | hx
    · have : 0 < (preE x).length := by rw [preE_eq]; simp
      omega
    · obtain ⟨k, hk, hxk⟩ := List.mem_flatMap.mp hx
      have h1 : (preE k).length ≤ ((kidsOf e).flatMap preE).length := by
        rw [List.length_flatMap]
        exact le_sum (List.mem_map.mpr ⟨k, hk, rfl⟩)
      rw [List.length_cons] at hl
      have h2 := pre_len n k x (by omega) hxk
      obtain ⟨i, hi, rfl⟩ := List.mem_mapIdx.mp hk
      have h3 : (preE e).length = 1 + ((kidsOf e).flatMap preE).length := by rw [preE_eq]; simp; omega
      simp only [List.length_append, List.length_singleton] at h2
      omega
section
variable {X : Cx}
theorem OpR.imp {f : Value → Value → Sem Value} {r r' : R2} (h : OpR X f r) (hi : ∀ x y H Q, r' x y H Q → r x y H Q) : OpR X f r' := fun pins s σ H x y v u Q I rx ry q => h pins s σ H x y v u Q I rx ry (hi _ _ _ _ q)
def rCatP (K : PySem.W.Frag) : R2 := fun x y H Q => ∃ a b xs ys, x = .ref a ∧ y = .ref b ∧ Tp H a xs ∧ Tp H b ys ∧ xs.length + ys.length ≤ sizeLine ∧ ∀ p H', Same H H' → Tp H' p (xs ++ ys) → Q (.ref p) H'
theorem op_catP : OpR X (binaryOp .Add) (rCatP X.K) := OpR.imp op_catA fun x y H Q ⟨a, b, xs, ys, ex, ey, ha, hb, hl, q⟩ => ⟨a, b, xs, ys, ex, ey, ha, hb, hl,
  fun e => q b H (Same.refl H) (by rw [e]; exact hb), fun _ e => q a H (Same.refl H) (by rw [e, List.append_nil]; exact ha), fun _ _ p hp => q p _ (same_new hp) (Tp.of upd_same)⟩
theorem SlR.imp {r r' : V → Option Int → Option Int → Hp → VK → Prop} (h : SlR X r) (hi : ∀ x lo u H Q, r' x lo u H Q → r x lo u H Q) : SlR X r' := fun pins s σ H x v vl vu lo u sl Q I rx hs pl pu q => h pins s σ H x v vl vu lo u sl Q I rx hs pl pu (hi _ _ _ _ _ q)
def rSlP (K : PySem.W.Frag) : V → Option Int → Option Int → Hp → VK → Prop := fun x lo u H Q => ∃ a xs, x = .ref a ∧ Tp H a xs ∧ ∀ p H', Same H H' → Tp H' p (cutV xs lo u) → Q (.ref p) H'
theorem cut_whole {xs : List V} {lo u : Option Int} (h : HT.sIx xs.length 0 lo = 0 ∧ HT.sIx xs.length xs.length u = xs.length) : cutV xs lo u = xs := by
  unfold cutV
  rw [h.1, h.2]
  simp
theorem sl_tupP : SlR X (rSlP X.K) := SlR.imp sl_tupA fun x lo u H Q ⟨a, xs, e, ha, q⟩ => ⟨a, xs, e, ha, fun h => q a H (Same.refl H) (by rw [cut_whole h]; exact ha), fun _ p hp => q p _ (same_new hp) (Tp.of upd_same)⟩
end
def tTruK (K : PySem.W.Frag) (ta : TE) : TT := fun σ H Q => ta σ H fun x H' => ∃ k, TruV K x H' k ∧ Q k H'
theorem same_mut {H H' : Hp} {p : Addr} {o : HO} (e : Same H H') (h : H p = none) : Same H (upd H' p o) := fun a u ha => by
  rw [upd_ne (ne_of_none ha h)]
  exact e a u ha
def cmpF (p q : Int × Int) : Int := if p.1 * q.2 < q.1 * p.2 then -1 else if q.1 * p.2 < p.1 * q.2 then 1 else 0
def FB (p : Int × Int) : Prop := Bd 4000 p.1 ∧ Bd 4000 p.2
theorem FB.of {k : Nat} {p : Int × Int} (h : Ok k p) (hk : k ≤ 4000) : FB p := ⟨h.b1.mono hk, h.b2.mono hk⟩
theorem fb_zero : FB (0, 1) := FB.of ok_zero (by decide)
theorem mulF3 {i j : Int} (ha : Bd 4000 i) (hb : Bd 4000 j) : CMulW i j := mulX ha hb
def PrK (k : Nat) (p : Pr) : Prop := Ok k p.1 ∧ Ok k p.2
theorem PrK.mono {k m : Nat} {p : Pr} (h : PrK k p) (e : k ≤ m) : PrK m p := ⟨h.1.mono e, h.2.mono e⟩
abbrev PrB (p : Pr) : Prop := PrK 3400 p
def badPr (p : Pr) : Prop := cmpF p.2 (0, 1) < 0 ∨ cmpF p.1 p.2 < 0
def badPs (g : Int) (ps : List Pr) : Prop := (ps.length : Int) ≠ g - 1 ∨ ∃ p ∈ ps, badPr p
def marketD (g : Int) (n : Node) : PyData := .tuple [.int g, nodeD n]
def NodeB (n : Node) : Prop := ∀ e ∈ pre [] n, ∀ p ∈ e.2.ps, PrB p
theorem len1000 {n : Nat} (h : n ≤ 1000) : n ≤ sizeLine := Nat.le_trans h (by decide)
theorem kids_get {e : PN} {i : Nat} {k : Node} (h : e.2.ks[i]? = some k) : (kidsOf e)[i]? = some (e.1 ++ [(i : Int)], k) := by
  unfold kidsOf
  rw [List.getElem?_mapIdx, h]
  rfl
theorem kids_len (e : PN) : (kidsOf e).length = e.2.ks.length := List.length_mapIdx
theorem preE_pos (e : PN) : 0 < (preE e).length := by
  rw [preE_eq]
  simp
theorem kids_le (e : PN) : (kidsOf e).length < (preE e).length := by
  rw [preE_eq, List.length_cons, List.length_flatMap]
  have : ∀ l : List PN, l.length ≤ (l.map fun a => (preE a).length).sum := by
    intro l
    induction l with
    | nil => simp
    | cons a l ih =>
      have := preE_pos a
      simp only [List.map_cons, List.sum_cons, List.length_cons]
      omega
  have := this (kidsOf e)
  omega
theorem DT.entD_inv {K : PySem.W.Frag} {H : Hp} {v : V} {e : PN} (h : DT K H v (entD e)) : ∃ a x y, v = .ref a ∧ Tp H a [x, y] ∧ DT K H x (pathD e.1) ∧ DT K H y (nodeD e.2) := h.inv2
theorem DT.node_inv {K : PySem.W.Frag} {H : Hp} {v : V} {n : Node} (h : DT K H v (nodeD n)) : ∃ a x y, v = .ref a ∧ Tp H a [x, y] ∧ DT K H x (pricesD n.ps) ∧ DT K H y (.tuple (n.ks.map nodeD)) := by
  rw [nodeD_eq] at h
  exact h.inv2
theorem DT.market_inv {K : PySem.W.Frag} {H : Hp} {v : V} {g : Int} {n : Node} (h : DT K H v (marketD g n)) : ∃ a y, v = .ref a ∧ Tp H a [.int g, y] ∧ DT K H y (nodeD n) := by
  obtain ⟨a, x, y, rfl, h1, h2, h3⟩ := h.inv2
  rw [h2.int_inv] at h1
  exact ⟨a, y, rfl, h1, h3⟩
theorem len_le_flat : ∀ l : List PN, l.length ≤ (l.flatMap preE).length
  | [] => by simp
  | a :: l => by
    have := preE_pos a
    have := len_le_flat l
    simp only [List.flatMap_cons, List.length_append, List.length_cons]
    omega
/-- the node at a path -/
def find : Node → List Int → Option Node
  | n, [] => some n
  | n, i :: r => if 0 ≤ i then (n.ks[i.toNat]?).bind fun k => find k r else none
theorem find_cons (n : Node) (i : Nat) (r : List Int) : find n ((i : Int) :: r) = (n.ks[i]?).bind fun k => find k r := by
  rw [find, if_pos (by omega)]
  rfl
theorem find_out {n : Node} {i : Int} {r : List Int} (h : ¬ (0 ≤ i ∧ i < (n.ks.length : Int))) : find n (i :: r) = none := by
  rw [find]
  by_cases h0 : 0 ≤ i
  · rw [if_pos h0, List.getElem?_eq_none (by omega)]
    rfl
  · rw [if_neg h0]
theorem pre_find : ∀ (n : Nat) (e x : PN), (preE e).length ≤ n → x ∈ preE e → ∃ r, x.1 = e.1 ++ r ∧ find e.2 r = some x.2
  | 0, e, x, hl, hx => by
    rw [preE_eq] at hl
    simp at hl
  | n + 1, e, x, hl, hx => by
    rw [preE_eq] at hl hx
    rcases List.mem_cons.mp hx with rfl | hx
    · exact ⟨[], by simp, rfl⟩
    · obtain ⟨k, hk, hxk⟩ := List.mem_flatMap.mp hx
      have h1 : (preE k).length ≤ ((kidsOf e).flatMap preE).length := by
        rw [List.length_flatMap]
        exact le_sum (List.mem_map.mpr ⟨k, hk, rfl⟩)
      rw [List.length_cons] at hl
      obtain ⟨r, hr, hf⟩ := pre_find n k x (by omega) hxk
      obtain ⟨i, hi, rfl⟩ := List.mem_mapIdx.mp hk
      refine ⟨(i : Int) :: r, by rw [hr]; simp, ?_⟩
      rw [find_cons, List.getElem?_eq_getElem hi]
      exact hf
/-- the times of the ends -/
def endLens (n : Node) : List Nat := ((pre [] n).filter fun e => e.2.ks.isEmpty).map fun e => e.1.length
theorem some_end : ∀ (n : Nat) (e : PN), (preE e).length ≤ n → ∃ x ∈ preE e, x.2.ks = []
  | 0, e, hl => by
    rw [preE_eq] at hl
    simp at hl
  | n + 1, e, hl => by
    cases hk : e.2.ks with
    | nil => exact ⟨e, by rw [preE_eq]; exact List.mem_cons_self .., hk⟩
    | cons k ks =>
      have h0 : (kidsOf e)[0]? = some (e.1 ++ [((0 : Nat) : Int)], k) := kids_get (by rw [hk]; rfl)
      have hm := List.mem_of_getElem? h0
      have h1 : (preE (e.1 ++ [((0 : Nat) : Int)], k)).length ≤ ((kidsOf e).flatMap preE).length := by
        rw [List.length_flatMap]
        exact le_sum (List.mem_map.mpr ⟨_, hm, rfl⟩)
      rw [preE_eq, List.length_cons] at hl
      obtain ⟨x, hx, hz⟩ := some_end n _ (Nat.le_trans h1 (by omega))
      refine ⟨x, ?_, hz⟩
      rw [preE_eq]
      exact List.mem_cons_of_mem _ (List.mem_flatMap.mpr ⟨_, hm, hx⟩)
theorem ends_pos (n : Node) : 0 < (endLens n).length := by
  obtain ⟨x, hx, hz⟩ := some_end _ ([], n) (Nat.le_refl _)
  unfold endLens
  rw [List.length_map]
  exact List.length_pos_of_mem (List.mem_filter.mpr ⟨hx, by rw [hz]; rfl⟩)
def BadM (g : Int) (n : Node) : Prop := ¬ (1 ≤ g ∧ g ≤ 4) ∨ (∃ e ∈ pre [] n, badPs g e.2.ps) ∨ ∃ a ∈ endLens n, ∃ b ∈ endLens n, a ≠ b
def BigM (n : Node) : Prop := 40 < (pre [] n).length ∨ ∃ a ∈ endLens n, 5 < a
theorem tru_tup {K : PySem.W.Frag} {H : Hp} {a : Addr} {xs : List V} (h : Tp H a xs) : TruV K (.ref a) H (!xs.isEmpty) := .inr (.inl ⟨xs, h, rfl⟩)
theorem tru_tup' {K : PySem.W.Frag} {H : Hp} {a : Addr} {xs : List V} {b : Bool} (h : Tp H a xs) (e : xs.isEmpty = b) : TruV K (.ref a) H (!b) := .inr (.inl ⟨xs, h, by rw [e]⟩)
theorem tru_lst {K : PySem.W.Frag} {H : Hp} {a : Addr} {xs : List V} (h : SqL K H a xs) : TruV K (.ref a) H (!xs.isEmpty) := .inl ⟨xs, h, rfl⟩
theorem filter_next {α : Type} {l : List α} {i : Nat} {x : α} {p : α → Bool} (h : l[i]? = some x) : (l.take (i + 1)).filter p = (l.take i).filter p ++ (if p x then [x] else []) := by
  rw [take_next h, List.filter_append]
  congr 1
  by_cases hp : p x
  · simp [hp]
  · simp [hp]
theorem find_preE : ∀ (r : List Int) (e : PN) (m : Node), find e.2 r = some m → (e.1 ++ r, m) ∈ preE e
  | [], e, m, h => by
    have : e.2 = m := Option.some.inj h
    rw [preE_eq, List.append_nil, ← this]
    exact List.mem_cons_self ..
  | i :: r, e, m, h => by
    by_cases hi : 0 ≤ i ∧ i < (e.2.ks.length : Int)
    · obtain ⟨j, rfl⟩ := Int.eq_ofNat_of_zero_le hi.1
      have hk : e.2.ks[j]? = some e.2.ks[j] := List.getElem?_eq_getElem (by omega)
      rw [find_cons, hk] at h
      have ih := find_preE r (e.1 ++ [(j : Int)], e.2.ks[j]) m h
      rw [preE_eq]
      refine List.mem_cons_of_mem _ (List.mem_flatMap.mpr ⟨_, List.mem_of_getElem? (kids_get hk), ?_⟩)
      simpa using ih
    · rw [find_out hi] at h
      cases h
theorem find_pre (n : Node) (p : List Int) (m : Node) (h : find n p = some m) : ∃ e ∈ pre [] n, e.2 = m := ⟨_, find_preE p ([], n) m h, rfl⟩
/-! ### drawn markets -/
def leF (p q : Int × Int) : Prop := p.1 * q.2 ≤ q.1 * p.2
theorem frac_nonneg {a b : Int} (ha : 0 ≤ a) (hb : 0 < b) : 0 ≤ (frac a b).1 := by
  have c := frac_cross (a := a) (show b ≠ 0 by omega)
  have l := (frac_low (a := a) (show b ≠ 0 by omega)).pos
  by_cases h : 0 ≤ (frac a b).1
  · exact h
  · have h1 := Int.mul_neg_of_neg_of_pos (show (frac a b).1 < 0 by omega) hb
    have h2 := Int.mul_nonneg ha (Int.le_of_lt l)
    omega
theorem frac_le {a b c : Int} (hb : 0 < b) (h : a ≤ c) : leF (frac a b) (frac c b) := by
  have h1 := frac_cross (a := a) (show b ≠ 0 by omega)
  have h2 := frac_cross (a := c) (show b ≠ 0 by omega)
  have l1 := (frac_low (a := a) (show b ≠ 0 by omega)).pos
  have l2 := (frac_low (a := c) (show b ≠ 0 by omega)).pos
  unfold leF
  generalize frac a b = x at *
  generalize frac c b = y at *
  have e1 : x.1 * y.2 * b = a * (x.2 * y.2) := by
    rw [Int.mul_assoc, Int.mul_comm y.2 b, ← Int.mul_assoc, h1, Int.mul_assoc]
  have e2 : y.1 * x.2 * b = c * (x.2 * y.2) := by
    rw [Int.mul_assoc, Int.mul_comm x.2 b, ← Int.mul_assoc, h2, Int.mul_assoc, Int.mul_comm y.2 x.2]
  have h3 : x.1 * y.2 * b ≤ y.1 * x.2 * b := by
    rw [e1, e2]
    exact Int.mul_le_mul_of_nonneg_right h (Int.le_of_lt (Int.mul_pos l1 l2))
  exact Int.le_of_mul_le_mul_right h3 hb
theorem cmp_le {p q : Int × Int} (h : leF q p) : ¬ cmpF p q < 0 := by
  unfold leF at h
  unfold cmpF
  rw [if_neg (by omega)]
  split <;> omega
theorem cmp_zero {p : Int × Int} (h : 0 ≤ p.1) : ¬ cmpF p (0, 1) < 0 := cmp_le (by
  unfold leF
  simp
  exact h)
theorem good_pair {m s : Int × Int} (hm : 0 ≤ m.1) (pm : 0 < m.2) (hs : 0 ≤ s.1) (ps : 0 < s.2) (low : Int × Int) (hl : low = subF m s ∧ 0 ≤ low.1 ∨ low = (0, 1)) : ¬ badPr (addF m s, low) := by
  have den := Int.mul_pos pm ps
  rintro (h | h)
  · rcases hl with ⟨rfl, h0⟩ | rfl
    · exact cmp_zero h0 h
    · exact cmp_zero (p := (0, 1)) (by decide) h
  · have h1 : 0 ≤ m.1 * s.2 := Int.mul_nonneg hm (Int.le_of_lt ps)
    have h2 : 0 ≤ s.1 * m.2 := Int.mul_nonneg hs (Int.le_of_lt pm)
    rcases hl with ⟨rfl, h0⟩ | rfl
    · exact cmp_le (frac_le den (by omega)) h
    · exact cmp_zero (frac_nonneg (by omega) den) h
structure PsOk (g : Int) (ps : List Pr) : Prop where
  len : (ps.length : Int) = g - 1
  good : ∀ p ∈ ps, ¬ badPr p
  b : ∀ p ∈ ps, PrK 201 p
theorem PsOk.bad {g : Int} {ps : List Pr} (h : PsOk g ps) : ¬ badPs g ps := by
  rintro (z | ⟨p, hp, z⟩)
  · exact z h.len
  · exact h.good p hp z
def NV (g : Int) : Nat → Node → Prop
  | 0, n => PsOk g n.ps ∧ n.ks = []
  | m + 1, n => PsOk g n.ps ∧ 0 < n.ks.length ∧ n.ks.length ≤ 3 ∧ ∀ k ∈ n.ks, NV g m k
def cnt : Nat → Nat
  | 0 => 1
  | m + 1 => 1 + 3 * cnt m
theorem NV.ps {g : Int} : ∀ {m : Nat} {n : Node}, NV g m n → PsOk g n.ps
  | 0, _, h => h.1
  | _ + 1, _, h => h.1
theorem nv_pre {g : Int} : ∀ (m : Nat) (e : PN), NV g m e.2 → (∀ x ∈ preE e, PsOk g x.2.ps ∧ x.2.ks.length ≤ 3 ∧ x.1.length ≤ e.1.length + m ∧ (x.2.ks = [] → x.1.length = e.1.length + m)) ∧ (preE e).length ≤ cnt m
  | 0, e, h => by
    have hk : kidsOf e = [] := by
      unfold kidsOf
      rw [h.2]
      rfl
    rw [preE_eq, hk]
    refine ⟨fun x hx => ?_, by simp [cnt]⟩
    simp at hx
    subst hx
    exact ⟨h.1, by rw [h.2]; simp, by simp, fun _ => rfl⟩
  | m + 1, e, h => by
    obtain ⟨h1, h2, h3, h4⟩ := h
    have ih : ∀ k ∈ kidsOf e, (∀ x ∈ preE k, PsOk g x.2.ps ∧ x.2.ks.length ≤ 3 ∧ x.1.length ≤ e.1.length + (m + 1) ∧ (x.2.ks = [] → x.1.length = e.1.length + (m + 1))) ∧ (preE k).length ≤ cnt m := by
      intro k hk
      obtain ⟨i, hi, rfl⟩ := List.mem_mapIdx.mp hk
      obtain ⟨a, b⟩ := nv_pre m (e.1 ++ [(i : Int)], e.2.ks[i]) (h4 _ (List.getElem_mem hi))
      refine ⟨fun x hx => ?_, b⟩
      obtain ⟨q1, q2, q3, q4⟩ := a x hx
      simp only [List.length_append, List.length_singleton] at q3 q4
      exact ⟨q1, q2, by omega, fun z => by have := q4 z; omega⟩
    rw [preE_eq]
    refine ⟨fun x hx => ?_, ?_⟩
    · rcases List.mem_cons.mp hx with rfl | hx
      · exact ⟨h1, h3, by omega, fun z => by rw [z] at h2; simp at h2⟩
      · obtain ⟨k, hk, hx⟩ := List.mem_flatMap.mp hx
        exact (ih k hk).1 x hx
    · have : ∀ l : List PN, (∀ k ∈ l, (preE k).length ≤ cnt m) → (l.flatMap preE).length ≤ l.length * cnt m := by
        intro l
        induction l with
        | nil => simp
        | cons a l ih =>
          intro hl
          have a1 := hl a (by simp)
          have a2 := ih fun k hk => hl k (by simp [hk])
          simp only [List.flatMap_cons, List.length_append, List.length_cons, Nat.add_mul]
          omega
      have q := this (kidsOf e) fun k hk => (ih k hk).2
      rw [kids_len] at q
      have q2 := Nat.mul_le_mul_right (cnt m) h3
      simp only [List.length_cons, cnt]
      omega
theorem nv_good {g : Int} {m : Nat} {n : Node} (h : NV g m n) (hm : m ≤ 2) (h1 : 1 ≤ g) (h4 : g ≤ 4) : (¬ BadM g n ∧ ¬ BigM n) ∧ NodeB n ∧ (pre [] n).length ≤ 13 := by
  obtain ⟨a, b⟩ := nv_pre m ([], n) h
  have c13 : cnt m ≤ 13 := by
    match m, hm with
    | 0, _ => decide
    | 1, _ => decide
    | 2, _ => decide
  have lens : ∀ x ∈ endLens n, x = m := by
    intro x hx
    obtain ⟨e, he, rfl⟩ := List.mem_map.mp hx
    obtain ⟨he1, he2⟩ := List.mem_filter.mp he
    have := (a e he1).2.2.2 (List.isEmpty_iff.mp he2)
    simpa using this
  refine ⟨⟨?_, ?_⟩, fun e he p hp => ((a e he).1.b p hp).mono (by decide), Nat.le_trans b c13⟩
  · rintro (z | ⟨e, he, z⟩ | ⟨x, hx, y, hy, z⟩)
    · exact z ⟨h1, h4⟩
    · exact (a e he).1.bad z
    · exact z ((lens x hx).trans (lens y hy).symm)
  · rintro (z | ⟨x, hx, z⟩)
    · have : (pre [] n).length ≤ 13 := Nat.le_trans b c13
      omega
    · have := lens x hx
      omega
def kb : Nat → Nat
  | 0 => 4
  | m + 1 => 3 * kb m + 14
theorem xt_mut {H H' : Hp} {d p : Addr} {o : HO} (e : Xt d H H') (h : H p = none) : Xt d H (upd H' p o) := fun a u na ha => by
  rw [upd_ne (ne_of_none ha h)]
  exact e a u na ha
theorem xt_free {H H' : Hp} {d p : Addr} (e : Xt d H H') (hd : p ≠ d) (h : H' p = none) : H p = none := by
  cases q : H p with
  | none => rfl
  | some o =>
    rw [e p o hd q] at h
    cases h
/-- a drawn node with its mids -/
def ChildP (K : PySem.W.Frag) (ex : List Addr) (H : Hp) (v : V) (c : Node × List (Int × Int)) : Prop := ∃ a vn pm xs, v = .ref a ∧ Tp H a [vn, .ref pm] ∧ DT K H vn (nodeD c.1) ∧ H pm = some (.lst xs) ∧ DTs K H xs (c.2.map frD) ∧ ∀ x ∈ ex, pm ≠ x
theorem ChildP.xt {K : PySem.W.Frag} {ex : List Addr} {H H' : Hp} {v : V} {c : Node × List (Int × Int)} {p : Addr} (h : ChildP K ex H v c) (hp : p ∈ ex) (g : IsL H p) (s : Xt p H H') : ChildP K ex H' v c := by
  obtain ⟨a, vn, pm, xs, rfl, h1, h2, h3, h4, h5⟩ := h
  exact ⟨a, vn, pm, xs, rfl, tp_xt g s h1, h2.xt g s, s _ _ (h5 p hp) h3, h4.xt g s, h5⟩
theorem Dst.isL {H : Hp} {pd ps : Addr} (h : Dst H pd ps) : IsL H pd := h.lst
def All2 {β : Type} (P : V → β → Prop) (xs : List V) (cs : List β) : Prop := xs.length = cs.length ∧ ∀ (i : Nat) (x : V), xs[i]? = some x → ∃ c, cs[i]? = some c ∧ P x c
theorem All2.nil {β : Type} {P : V → β → Prop} : All2 P [] [] := ⟨rfl, fun i x e => by simp at e⟩
theorem All2.imp {β : Type} {P Q : V → β → Prop} {xs : List V} {cs : List β} (h : All2 P xs cs) (f : ∀ x c, P x c → Q x c) : All2 Q xs cs := ⟨h.1, fun i x e => by
  obtain ⟨c, h1, h2⟩ := h.2 i x e
  exact ⟨c, h1, f _ _ h2⟩⟩
theorem All2.snoc {β : Type} {P : V → β → Prop} {xs : List V} {cs : List β} {v : V} {q : β} (h : All2 P xs cs) (g : P v q) : All2 P (xs ++ [v]) (cs ++ [q]) := by
  refine ⟨by simp [h.1], fun i x e => ?_⟩
  by_cases hi : i < xs.length
  · rw [List.getElem?_append_left hi] at e
    obtain ⟨z, h1, h2⟩ := h.2 i x e
    exact ⟨z, by rw [List.getElem?_append_left (by rw [← h.1]; exact hi)]; exact h1, h2⟩
  · have hl := (List.getElem?_eq_some_iff.mp e).1
    rw [List.length_append, List.length_singleton] at hl
    have ei : i = xs.length := by omega
    subst ei
    rw [List.getElem?_concat_length] at e
    cases e
    exact ⟨q, by rw [h.1, List.getElem?_concat_length], g⟩
theorem All2.at_ {β : Type} {P : V → β → Prop} {xs : List V} {cs : List β} {i : Nat} {c : β} (h : All2 P xs cs) (e : cs[i]? = some c) : ∃ x, xs[i]? = some x ∧ P x c := by
  have il := (List.getElem?_eq_some_iff.mp e).1
  obtain ⟨c', h1, h2⟩ := h.2 i _ (List.getElem?_eq_getElem (by rw [h.1]; exact il))
  rw [e] at h1
  cases h1
  exact ⟨_, List.getElem?_eq_getElem (by rw [h.1]; exact il), h2⟩
/-! ### sorted paths -/
section
variable {X : Cx}
def rSortQ (K : PySem.W.Frag) : List V → Hp → VK → Prop := fun vs H Q => ∃ (a : Addr) (xs : List V) (ps : List (List Int)), vs = [V.ref a] ∧ SqL K H a xs ∧ DTs K H xs (ps.map pathD) ∧ (∀ p, ps[0]? = some p → p = []) ∧
  ∀ (ys : List V) (k : V → List Int) (p : Addr), ys.Perm xs → xs.map k = ps → SrtO.Srtd (ltK k) ys → H p = none → Q (.ref p) (upd H p (.lst ys))
theorem map_int_inj : ∀ {a b : List Int}, a.map V.int = b.map V.int → a = b
  | [], [], _ => rfl
  | [], _ :: _, h => by cases h
  | _ :: _, [], h => by cases h
  | x :: a, y :: b, h => by
    simp only [List.map_cons, List.cons.injEq, V.int.injEq] at h
    rw [h.1, map_int_inj h.2]
open Classical in
theorem cr_sortQ (hr : Room 2 X.A) : CallR X (.builtin "sorted") (rSortQ X.K) := by
  intro pins s σ H vs us Q I r h
  obtain ⟨a, xs, ps, rfl, hs, hd, h0, q⟩ := h
  let k : V → List Int := fun x => if h : ∃ p : List Int, ∃ t, x = V.ref t ∧ Tp H t (p.map V.int) then h.choose else []
  have lx : xs.length = ps.length := by rw [hd.len, List.length_map]
  have key : ∀ (i : Nat) (x : V), xs[i]? = some x → ∃ t, x = V.ref t ∧ Tp H t ((k x).map V.int) ∧ ps[i]? = some (k x) := by
    intro i x hx
    obtain ⟨d, hd1, hd2⟩ := hd.get hx
    rw [List.getElem?_map] at hd1
    obtain ⟨p, hp, rfl⟩ := Option.map_eq_some_iff.mp hd1
    obtain ⟨t, rfl, ht⟩ := hd2.path_inv
    have ex : ∃ p : List Int, ∃ t', V.ref t = V.ref t' ∧ Tp H t' (p.map V.int) := ⟨p, t, rfl, ht⟩
    have ek : k (V.ref t) = ex.choose := dif_pos ex
    obtain ⟨t', e', ht'⟩ := ex.choose_spec
    cases e'
    rw [← ek] at ht'
    have := map_int_inj (I.tuple_inj ht'.sq ht.sq)
    exact ⟨t, rfl, ht', by rw [this]; exact hp⟩
  refine cr_sortP hr pins s σ H _ us Q I r ⟨a, xs, k, rfl, hs, fun x hx => ?_, fun x hx => ?_, fun ys p hp hq hf => q ys k p hp ?_ hq hf⟩
  · obtain ⟨i, hi, rfl⟩ := List.mem_iff_getElem.mp hx
    obtain ⟨t, e, ht, _⟩ := key i _ (List.getElem?_eq_getElem hi)
    exact ⟨t, e, ht⟩
  · obtain ⟨t, e, ht, hp⟩ := key 0 x hx
    exact h0 _ hp
  · refine List.ext_getElem? fun i => ?_
    rw [List.getElem?_map]
    cases hx : xs[i]? with
    | none =>
      rw [List.getElem?_eq_none_iff] at hx
      rw [List.getElem?_eq_none (by omega)]
      rfl
    | some x =>
      obtain ⟨t, e, ht, hp⟩ := key i x hx
      rw [hp]
      rfl
end
theorem lex_pre (p a b : List Int) : HT.lexLt (p ++ a) (p ++ b) = HT.lexLt a b := by
  induction p with
  | nil => rfl
  | cons x p ih =>
    rw [List.cons_append, List.cons_append, HT.lexLt_cons, if_pos rfl]
    exact ih
theorem lex_anti : ∀ a b : List Int, HT.lexLt a b = false → HT.lexLt b a = false → a = b
  | [], [], _, _ => rfl
  | [], _ :: _, h, _ => by simp [HT.lexLt] at h
  | _ :: _, [], _, h => by simp [HT.lexLt] at h
  | x :: a, y :: b, h1, h2 => by
    rw [HT.lexLt_cons] at h1 h2
    by_cases e : x = y
    · rw [if_pos e] at h1
      rw [if_pos e.symm] at h2
      rw [e, lex_anti a b h1 h2]
    · rw [if_neg e] at h1
      rw [if_neg (Ne.symm e)] at h2
      have q1 := of_decide_eq_false h1
      have q2 := of_decide_eq_false h2
      exact absurd (show x = y by omega) e
theorem uniq_srt : ∀ {l m : List (List Int)}, l.Perm m → (l.Pairwise fun a b => HT.lexLt b a = false) → (m.Pairwise fun a b => HT.lexLt b a = false) → l = m
  | [], m, h, _, _ => (List.Perm.nil_eq h)
  | x :: l, [], h, _, _ => absurd h.length_eq (by simp)
  | x :: l, y :: m, h, h1, h2 => by
    have e : x = y := by
      rcases List.mem_cons.mp (h.mem_iff.mp (List.mem_cons_self (a := x) (l := l))) with e | hx
      · exact e
      · rcases List.mem_cons.mp (h.mem_iff.mpr (List.mem_cons_self (a := y) (l := m))) with e | hy
        · exact e.symm
        · exact lex_anti x y ((List.pairwise_cons.mp h2).1 x hx) ((List.pairwise_cons.mp h1).1 y hy)
    subst e
    rw [uniq_srt h.cons_inv (List.pairwise_cons.mp h1).2 (List.pairwise_cons.mp h2).2]
theorem pre_sorted : ∀ (n : Nat) (e : PN), (preE e).length ≤ n → (preE e).Pairwise fun a b => HT.lexLt a.1 b.1 = true
  | 0, e, h => by
    rw [preE_eq] at h
    simp at h
  | n + 1, e, h => by
    have hk : ∀ k ∈ kidsOf e, (preE k).length ≤ n := by
      intro k hk
      have h1 : (preE k).length ≤ ((kidsOf e).flatMap preE).length := by
        rw [List.length_flatMap]
        exact le_sum (List.mem_map.mpr ⟨_, hk, rfl⟩)
      rw [preE_eq, List.length_cons] at h
      omega
    rw [preE_eq]
    refine List.pairwise_cons.mpr ⟨fun x hx => ?_, List.pairwise_flatMap.mpr ⟨fun k hk' => pre_sorted n k (hk k hk'), ?_⟩⟩
    · obtain ⟨k, hk', hx⟩ := List.mem_flatMap.mp hx
      obtain ⟨r, hr⟩ := pre_ext n k x (hk k hk') hx
      obtain ⟨i, hi, rfl⟩ := List.mem_mapIdx.mp hk'
      rw [hr, List.append_assoc]
      have := lex_pre e.1 [] ([(i : Int)] ++ r)
      rw [List.append_nil] at this
      rw [this]
      rfl
    · rw [List.pairwise_iff_getElem]
      intro i j hi hj hij x hx y hy
      have ei : (kidsOf e)[i] = (e.1 ++ [(i : Int)], e.2.ks[i]'(by rw [kids_len] at hi; exact hi)) := Option.some.inj ((List.getElem?_eq_getElem hi).symm.trans (kids_get (List.getElem?_eq_getElem _)))
      have ej : (kidsOf e)[j] = (e.1 ++ [(j : Int)], e.2.ks[j]'(by rw [kids_len] at hj; exact hj)) := Option.some.inj ((List.getElem?_eq_getElem hj).symm.trans (kids_get (List.getElem?_eq_getElem _)))
      obtain ⟨r, hr⟩ := pre_ext n _ x (hk _ (List.getElem_mem hi)) hx
      obtain ⟨q, hq⟩ := pre_ext n _ y (hk _ (List.getElem_mem hj)) hy
      rw [ei] at hr
      rw [ej] at hq
      rw [hr, hq, List.append_assoc, List.append_assoc, lex_pre]
      show HT.lexLt ((i : Int) :: r) ((j : Int) :: q) = true
      rw [HT.lexLt_cons, if_neg (by omega)]
      exact decide_eq_true (by omega)
theorem flat_perm : ∀ F : List PN, (F.flatMap preE).Perm (F ++ (F.flatMap kidsOf).flatMap preE)
  | [] => by simp
  | e :: F => by
    have ih := flat_perm F
    rw [List.flatMap_cons, preE_eq, List.flatMap_cons, List.flatMap_append, List.cons_append, List.cons_append]
    refine List.Perm.cons e ?_
    refine (List.Perm.append_left _ ih).trans ?_
    rw [← List.append_assoc, ← List.append_assoc]
    exact List.Perm.append_right _ List.perm_append_comm
def lv (n : Node) : Nat → List PN
  | 0 => [([], n)]
  | t + 1 => (lv n t).flatMap kidsOf
def rowsN (n : Node) : Nat → List PN
  | 0 => []
  | t + 1 => rowsN n t ++ lv n t
theorem rows_perm (n : Node) : ∀ t, (pre [] n).Perm (rowsN n t ++ (lv n t).flatMap preE)
  | 0 => by
    show (pre [] n).Perm ([] ++ [([], n)].flatMap preE)
    simp [preE]
  | t + 1 => by
    refine (rows_perm n t).trans ?_
    show (rowsN n t ++ (lv n t).flatMap preE).Perm (rowsN n t ++ lv n t ++ ((lv n t).flatMap kidsOf).flatMap preE)
    rw [List.append_assoc]
    exact List.Perm.append_left _ (flat_perm (lv n t))
theorem lv_len (n : Node) : ∀ t, ∀ x ∈ lv n t, x.1.length = t
  | 0, x, h => by
    rw [List.mem_singleton.mp h]
    rfl
  | t + 1, x, h => by
    obtain ⟨y, hy, hx⟩ := List.mem_flatMap.mp h
    obtain ⟨i, hi, rfl⟩ := List.mem_mapIdx.mp hx
    simp [lv_len n t y hy]
theorem lv_mem (n : Node) (t : Nat) (x : PN) (h : x ∈ lv n t) : x ∈ pre [] n := by
  refine (rows_perm n (t + 1)).mem_iff.mpr (List.mem_append_left _ (List.mem_append_right _ h))
theorem rows_all {n : Node} (h : ∀ x ∈ pre [] n, x.1.length ≤ 6) : (pre [] n).Perm (rowsN n 7) := by
  have e : lv n 7 = [] := by
    cases q : lv n 7 with
    | nil => rfl
    | cons x l =>
      have hm : x ∈ lv n 7 := by rw [q]; exact List.mem_cons_self ..
      have h1 := lv_len n 7 x hm
      have h2 := h x (lv_mem n 7 x hm)
      omega
  have := rows_perm n 7
  rw [e] at this
  simpa using this
theorem paths_sorted (n : Node) : ((pre [] n).map (·.1)).Pairwise fun a b => HT.lexLt b a = false := by
  rw [List.pairwise_map]
  exact (pre_sorted _ ([], n) (Nat.le_refl _)).imp fun h => lex_asym _ _ h
/-! ### isinstance of a caught error whose class is told by what was wished -/
section
variable {X : Cx}
def rIsX (K : PySem.W.Frag) (cls : Value) (a : Addr) : List V → Hp → VK → Prop := fun xs H Q => ∃ (c : V) (cv : Value) (b : Bool), xs = [.ref a, c] ∧ (∀ u, RelV c u → u = cv) ∧ PySem.W.kitOne K cls cv = some b ∧ Q (.bl b) H
theorem call_isX {a : Addr} {oe : Obj} {cls : Value} {d : Option Addr} {pn : List (Addr × Obj)} (z : ∃ D, cls = .ref D ∧ d = none ∧ ExcC X.K D) (hz : Zc cls d oe) (hf : ∃ vs, oe.data = .fields vs) : CallR (X.suite a ((a, oe) :: pn)) (.builtin "isinstance") (rIsX X.K cls a) := by
  obtain ⟨D, rfl, rfl, C⟩ := z
  exact call_isE C hz hf
end
theorem kit_ref {K : PySem.W.Frag} {D C : Addr} {b : Bool} (h : PySem.W.hasDictIn K C = true) (t : PySem.W.typeIn K (.ref C) = some (.type "type")) (s : PySem.W.subIn K (.ref D) (.ref C) = some b) (r : PySem.W.subIn K (.ref D) (.ref D) = some true) : PySem.W.kitOne K (.ref D) (.ref C) = some b := by
  unfold PySem.W.kitOne
  by_cases e : D = C
  · subst e
    rw [r] at s
    cases s
    simp
  · have e1 : (Value.ref D == Value.ref C) = false := by simp [e]
    rw [e1]
    obtain ⟨cd, hc, _⟩ := PySem.W.any_some h
    have e2 : ((PySem.W.clsIn K C).isSome && PySem.W.typeIn K (.ref C) == some (.type "type")) = true := by rw [hc, t] <;> rfl
    show (if false = true then some true else PySem.W.kitCls K (.ref D) (.ref C)) = some b
    rw [if_neg (by decide)]
    unfold PySem.W.kitCls
    simp only [e2, if_true]
    exact s
theorem rows_head (n : Node) : ∀ t, (rowsN n (t + 1))[0]? = some ([], n)
  | 0 => rfl
  | t + 1 => by
    show (rowsN n (t + 1) ++ lv n (t + 1))[0]? = _
    have h := rows_head n t
    have l := (List.getElem?_eq_some_iff.mp h).1
    rw [List.getElem?_append_left l]
    exact h
theorem rows_len (n : Node) (t : Nat) : (rowsN n t).length ≤ (pre [] n).length := by
  have := (rows_perm n t).length_eq
  rw [List.length_append] at this
  omega
theorem lv_le (n : Node) (t : Nat) : (lv n t).length ≤ (pre [] n).length := by
  have := rows_len n (t + 1)
  have e : (rowsN n (t + 1)).length = (rowsN n t).length + (lv n t).length := by
    show (rowsN n t ++ lv n t).length = _
    rw [List.length_append]
  omega
theorem kids_mem_le {n : Node} {e : PN} (h : e ∈ pre [] n) : e.2.ks.length < (pre [] n).length := by
  obtain ⟨r, _, hf⟩ := pre_find _ ([], n) e (Nat.le_refl _) h
  have h1 := kids_le e
  rw [kids_len] at h1
  have h2 : ∀ (k : Nat) (a x : PN), (preE a).length ≤ k → x ∈ preE a → (preE x).length ≤ (preE a).length := by
    intro k
    induction k with
    | zero =>
      intro a x hl
      rw [preE_eq] at hl
      simp at hl
    | succ k ih =>
      intro a x hl hx
      rw [preE_eq] at hx
      rcases List.mem_cons.mp hx with rfl | hx
      · exact Nat.le_refl _
      · obtain ⟨c, hc, hx⟩ := List.mem_flatMap.mp hx
        have h1 : (preE c).length ≤ ((kidsOf a).flatMap preE).length := by
          rw [List.length_flatMap]
          exact le_sum (List.mem_map.mpr ⟨_, hc, rfl⟩)
        have h3 : (preE a).length = 1 + ((kidsOf a).flatMap preE).length := by rw [preE_eq]; simp; omega
        have := ih c x (by omega) hx
        omega
  have := h2 _ ([], n) e (Nat.le_refl _) h
  have e3 : (preE ([], n)).length = (pre [] n).length := rfl
  omega
/-! ### nodes of bounded height all of whose prices are P -/
def HP (P : List Pr → Prop) : Nat → Node → Prop
  | 0, n => P n.ps ∧ n.ks = []
  | m + 1, n => P n.ps ∧ ∀ k ∈ n.ks, HP P m k
theorem HP.ps {P : List Pr → Prop} : ∀ {m : Nat} {n : Node}, HP P m n → P n.ps
  | 0, _, h => h.1
  | _ + 1, _, h => h.1
theorem HP.up {P Q : List Pr → Prop} (f : ∀ l, P l → Q l) : ∀ {m : Nat} {n : Node}, HP P m n → HP Q (m + 1) n
  | 0, _, h => ⟨f _ h.1, fun k hk => by rw [h.2] at hk; cases hk⟩
  | _ + 1, _, h => ⟨f _ h.1, fun k hk => HP.up f (h.2 k hk)⟩
theorem HP.pre {P : List Pr → Prop} : ∀ {m : Nat} {e : PN}, HP P m e.2 → ∀ x ∈ preE e, P x.2.ps ∧ x.1.length ≤ e.1.length + m
  | 0, e, h, x, hx => by
    have hk : kidsOf e = [] := by
      unfold kidsOf
      rw [h.2]
      rfl
    rw [preE_eq, hk] at hx
    simp at hx
    subst hx
    exact ⟨h.1, by omega⟩
  | m + 1, e, h, x, hx => by
    rw [preE_eq] at hx
    rcases List.mem_cons.mp hx with rfl | hx
    · exact ⟨h.1, by omega⟩
    · obtain ⟨k, hk, hx⟩ := List.mem_flatMap.mp hx
      obtain ⟨i, hi, rfl⟩ := List.mem_mapIdx.mp hk
      have := HP.pre (e := (e.1 ++ [(i : Int)], e.2.ks[i])) (h.2 _ (List.getElem_mem hi)) x hx
      simp only [List.length_append, List.length_singleton] at this
      exact ⟨this.1, by omega⟩
mutual
def nsz : Node → Nat
  | .mk _ ks => 1 + nszs ks
def nszs : List Node → Nat
  | [] => 0
  | k :: r => nsz k + nszs r
end
theorem nsz_eq (n : Node) : nsz n = 1 + nszs n.ks := by
  cases n
  rw [nsz]
  rfl
theorem nszs_app : ∀ a b : List Node, nszs (a ++ b) = nszs a + nszs b
  | [], b => by simp [nszs]
  | x :: a, b => by
    rw [List.cons_append, nszs, nszs, nszs_app a b]
    omega
mutual
theorem pre_nsz (p : List Int) : ∀ n : Node, (pre p n).length = nsz n
  | .mk ps ks => by
    rw [pre, nsz, List.length_cons, pres_nsz p 0 ks]
    omega
theorem pres_nsz (p : List Int) (i : Nat) : ∀ ks : List Node, (pres p i ks).length = nszs ks
  | [] => rfl
  | n :: r => by
    rw [pres, nszs, List.length_append, pre_nsz _ n, pres_nsz p (i + 1) r]
end
theorem nv_hp {g : Int} (h4 : g ≤ 4) : ∀ {m : Nat} {n : Node}, NV g m n → HP (fun l => (∀ p ∈ l, PrK 201 p) ∧ l.length ≤ 3) m n
  | 0, n, h => ⟨⟨h.1.b, by have := h.1.len; omega⟩, h.2⟩
  | m + 1, n, h => ⟨⟨h.1.b, by have := h.1.len; omega⟩, fun k hk => nv_hp h4 (h.2.2.2 k hk)⟩
theorem find_app : ∀ (p q : List Int) (n m : Node), find n p = some m → find n (p ++ q) = find m q
  | [], q, n, m, h => by
    cases h
    rfl
  | i :: p, q, n, m, h => by
    by_cases hi : 0 ≤ i ∧ i < (n.ks.length : Int)
    · obtain ⟨j, rfl⟩ := Int.eq_ofNat_of_zero_le hi.1
      have hk : n.ks[j]? = some n.ks[j] := List.getElem?_eq_getElem (by omega)
      rw [find_cons, hk] at h
      rw [List.cons_append, find_cons, hk]
      exact find_app p q _ m h
    · rw [find_out hi] at h
      cases h
theorem cut_drop (xs : List V) (k : Nat) : cutV xs (some (k : Int)) none = xs.drop k := by
  unfold cutV
  rw [HT.sIx_nat xs.length 0 k, HT.sIx_none]
  by_cases h : k ≤ xs.length
  · rw [Nat.min_eq_left h]
    exact List.take_of_length_le (by rw [List.length_drop]; omega)
  · rw [Nat.min_eq_right (by omega), List.drop_length, List.drop_eq_nil_of_le (by omega)]
    simp
theorem cut_take (xs : List V) (k : Nat) : cutV xs none (some (k : Int)) = xs.take k := by
  unfold cutV
  rw [HT.sIx_nat xs.length xs.length k, HT.sIx_none, List.drop_zero, Nat.sub_zero]
  by_cases h : k ≤ xs.length
  · rw [Nat.min_eq_left h]
  · rw [Nat.min_eq_right (by omega), List.take_length, List.take_of_length_le (by omega)]
theorem cmp_neg {p q : Int × Int} : cmpF p q < 0 ↔ p.1 * q.2 < q.1 * p.2 := by
  unfold cmpF
  constructor
  · intro h
    by_cases c : p.1 * q.2 < q.1 * p.2
    · exact c
    · rw [if_neg c] at h
      split at h <;> omega
  · intro h
    rw [if_pos h]
    decide
theorem bad_iff (p : Pr) : badPr p ↔ p.2.1 < 0 ∨ p.1.1 * p.2.2 < p.2.1 * p.1.2 := by
  unfold badPr
  rw [cmp_neg, cmp_neg]
  simp
end Nl

namespace Nl
open PySem PySem.Spec PyProof.Rows L2
def Sh (k : Nat) (d : PyData) : Prop := d.canLay0 = true ∧ d.depth ≤ k
theorem Sh.shaped {k : Nat} {d : PyData} (h : Sh k d) (hk : k ≤ 64 := by decide) : SeqAt.shaped d = true := by
  unfold SeqAt.shaped
  rw [h.1, decide_eq_true (Nat.le_trans h.2 hk)]
  rfl
theorem Sh.int {i : Int} {k : Nat} : Sh k (.int i) := ⟨rfl, Nat.zero_le _⟩
theorem Sh.non {k : Nat} : Sh k .none := ⟨rfl, Nat.zero_le _⟩
theorem sh_all {k : Nat} : ∀ {ds : List PyData}, (∀ d ∈ ds, Sh k d) → PyData.canLayAll0 ds = true ∧ PyData.depthAll ds ≤ k
  | [], _ => ⟨rfl, Nat.zero_le _⟩
  | d :: ds, h => by
    have h1 := h d (by simp)
    have h2 := sh_all (ds := ds) fun x hx => h x (List.mem_cons_of_mem _ hx)
    refine ⟨?_, ?_⟩
    · rw [PyData.canLayAll0, h1.1, h2.1]
      rfl
    · rw [PyData.depthAll]
      exact Nat.max_le.mpr ⟨h1.2, h2.2⟩
theorem Sh.tup {k : Nat} {ds : List PyData} (h : ∀ d ∈ ds, Sh k d) : Sh (k + 1) (.tuple ds) := by
  obtain ⟨h1, h2⟩ := sh_all h
  refine ⟨?_, ?_⟩
  · rw [PyData.canLay0]
    exact h1
  · rw [PyData.depth]
    omega
theorem Sh.ne {k : Nat} {d : PyData} (h : Sh k d) : (!PyData.eqv d d) = false := by
  rw [SeqAt.eqv_refl d h.1]
  rfl
theorem Sh.eq {k : Nat} {d : PyData} (h : Sh k d) : PyData.eqv d d = true := SeqAt.eqv_refl d h.1
theorem sh_path (p : List Int) : Sh 1 (pathD p) := Sh.tup (k := 0) fun d hd => by
  obtain ⟨i, _, rfl⟩ := List.mem_map.mp hd
  exact .int
theorem sh_fr (q : Int × Int) : Sh 1 (frD q) := Sh.tup (k := 0) fun d hd => by
  rcases List.mem_cons.mp hd with rfl | hd
  · exact .int
  · rw [List.mem_singleton.mp hd]
    exact .int
theorem sh_pr (p : Pr) : Sh 2 (prD p) := Sh.tup (k := 1) fun d hd => by
  rcases List.mem_cons.mp hd with rfl | hd
  · exact sh_fr _
  · rw [List.mem_singleton.mp hd]
    exact sh_fr _
theorem sh_paths {α : Type} (l : List α) (f : α → List Int) : Sh 2 (.tuple (l.map fun e => pathD (f e))) := Sh.tup (k := 1) fun d hd => by
  obtain ⟨e, _, rfl⟩ := List.mem_map.mp hd
  exact sh_path _
/-! ### nodes all of whose ends have one time -/
def UD : Nat → Node → Prop
  | 0, n => n.ks = []
  | m + 1, n => n.ks ≠ [] ∧ ∀ k ∈ n.ks, UD m k
theorem ud_ends : ∀ (m : Nat) (e : PN), UD m e.2 → ∀ x ∈ preE e, x.2.ks = [] → x.1.length = e.1.length + m
  | 0, e, h, x, hx, _ => by
    have hk : kidsOf e = [] := by
      unfold kidsOf
      rw [show e.2.ks = [] from h]
      rfl
    rw [preE_eq, hk] at hx
    simp at hx
    subst hx
    rfl
  | m + 1, e, h, x, hx, hz => by
    rw [preE_eq] at hx
    rcases List.mem_cons.mp hx with rfl | hx
    · exact (h.1 hz).elim
    · obtain ⟨k, hk, hx⟩ := List.mem_flatMap.mp hx
      obtain ⟨i, hi, rfl⟩ := List.mem_mapIdx.mp hk
      have := ud_ends m (e.1 ++ [(i : Int)], e.2.ks[i]) (h.2 _ (List.getElem_mem hi)) x hx hz
      simp only [List.length_append, List.length_singleton] at this
      omega
theorem ud_lens {m : Nat} {n : Node} (h : UD m n) : ∀ a ∈ endLens n, a = m := by
  intro x hx
  obtain ⟨e, he, rfl⟩ := List.mem_map.mp hx
  obtain ⟨he1, he2⟩ := List.mem_filter.mp he
  have := ud_ends m ([], n) h e he1 (List.isEmpty_iff.mp he2)
  simpa using this
/-- nodes without goods -/
theorem bare_ok {m : Nat} {n : Node} (h : HP (fun l => l = []) m n) (u : UD m n) : ¬ BadM 1 n := by
  rintro (z | ⟨e, he, z⟩ | ⟨x, hx, y, hy, z⟩)
  · exact z (by decide)
  · have := (HP.pre (e := ([], n)) h e he).1
    rw [this] at z
    rcases z with z | ⟨p, hp, _⟩
    · simp at z
    · cases hp
  · exact z ((ud_lens u x hx).trans (ud_lens u y hy).symm)
theorem bare_small {m : Nat} {n : Node} (u : UD m n) (hs : nsz n ≤ 40) (hm : m ≤ 5) : ¬ BigM n := by
  rintro (z | ⟨x, hx, z⟩)
  · rw [pre_nsz] at z
    omega
  · have := ud_lens u x hx
    omega
theorem bare_b {m : Nat} {n : Node} (h : HP (fun l => l = []) m n) : NodeB n := fun e he p hp => by
  have := (HP.pre (e := ([], n)) h e he).1
  rw [this] at hp
  cases hp
theorem big_count {n : Node} (h : 40 < nsz n) : BigM n := .inl (by rw [pre_nsz]; exact h)
theorem big_time {m : Nat} {n : Node} (u : UD m n) (h : 5 < m) : BigM n := by
  have hp := ends_pos n
  refine .inr ⟨(endLens n)[0], List.getElem_mem hp, ?_⟩
  rw [ud_lens u _ (List.getElem_mem hp)]
  exact h
def rowN : Nat → Node
  | 0 => .mk [] []
  | k + 1 => .mk [] [rowN k]
theorem row_hp : ∀ k, HP (fun l => l = []) k (rowN k)
  | 0 => ⟨rfl, rfl⟩
  | k + 1 => ⟨rfl, fun x hx => by rw [List.mem_singleton.mp hx]; exact row_hp k⟩
theorem row_ud : ∀ k, UD k (rowN k)
  | 0 => rfl
  | k + 1 => ⟨(by intro h; cases h), fun x hx => (by rw [List.mem_singleton.mp hx]; exact row_ud k)⟩
theorem row_sz : ∀ k, nsz (rowN k) = k + 1
  | 0 => rfl
  | k + 1 => by
    rw [rowN, nsz, nszs, nszs, row_sz k]
    omega
def wideN (k : Nat) : Node := .mk [] (List.replicate k (rowN 0))
theorem wide_hp (k : Nat) : HP (fun l => l = []) 1 (wideN k) := ⟨rfl, fun x hx => by rw [(List.mem_replicate.mp hx).2]; exact row_hp 0⟩
theorem wide_ud {k : Nat} (h : 0 < k) : UD 1 (wideN k) := ⟨fun z => by
  have : (List.replicate k (rowN 0)).length = 0 := by rw [show List.replicate k (rowN 0) = [] from z]; rfl
  rw [List.length_replicate] at this
  omega, fun x hx => by rw [(List.mem_replicate.mp hx).2]; exact row_ud 0⟩
theorem wide_sz (k : Nat) : nsz (wideN k) = k + 1 := by
  have : ∀ k, nszs (List.replicate k (rowN 0)) = k := by
    intro k
    induction k with
    | zero => rfl
    | succ k ih => rw [List.replicate_succ, nszs, ih]; show 1 + k = k + 1; omega
  rw [wideN, nsz, this]
  omega
theorem find_neg (n : Node) : find n [-1] = none := find_out fun z => by omega
theorem find_end {n m : Node} {p : List Int} (h : find n p = some m) : find n (p ++ [(m.ks.length : Int)]) = none := by
  rw [find_app p _ n m h]
  exact find_out fun z => by omega
end Nl

namespace Nl
open PySem PySem.Spec PyProof.Rows L2
/-! ### contracts, values and conditions -/
inductive Wd where
  | number | buy | sell | plus | minus | times | least | greatest | less | same | not_ | and_ | nothing | one | scale | both | give | or_ | at_ | when_ | until_ | early | later
deriving DecidableEq
inductive Kn where
  | size | good | time | value | condition | contract
deriving DecidableEq
def Wd.s : Wd → String
  | .number => "number" | .buy => "buy" | .sell => "sell" | .plus => "plus" | .minus => "minus" | .times => "times" | .least => "least" | .greatest => "greatest"
  | .less => "less" | .same => "same" | .not_ => "not" | .and_ => "and" | .nothing => "nothing" | .one => "one" | .scale => "scale" | .both => "both" | .give => "give"
  | .or_ => "or" | .at_ => "at" | .when_ => "when" | .until_ => "until" | .early => "early" | .later => "later"
def Kn.s : Kn → String
  | .size => "size" | .good => "good" | .time => "time" | .value => "value" | .condition => "condition" | .contract => "contract"
abbrev Wd.str (w : Wd) : Str := Str.ofString w.s
abbrev Kn.str (k : Kn) : Str := Str.ofString k.s
def Wd.all : List Wd := [.number, .buy, .sell, .plus, .minus, .times, .least, .greatest, .less, .same, .not_, .and_, .nothing, .one, .scale, .both, .give, .or_, .at_, .when_, .until_, .early, .later]
def Kn.all : List Kn := [.size, .good, .time, .value, .condition, .contract]
theorem Wd.mem_all (w : Wd) : w ∈ Wd.all := by cases w <;> decide
theorem Kn.mem_all (k : Kn) : k ∈ Kn.all := by cases k <;> decide
theorem wd_key : ∀ a ∈ Wd.all, ∀ b ∈ Wd.all, a.str = b.str → a = b := by decide +kernel
theorem kn_key : ∀ a ∈ Kn.all, ∀ b ∈ Kn.all, a.str = b.str → a = b := by decide +kernel
theorem Wd.inj {a b : Wd} (h : a.str = b.str) : a = b := wd_key a a.mem_all b b.mem_all h
theorem Kn.inj {a b : Kn} (h : a.str = b.str) : a = b := kn_key a a.mem_all b b.mem_all h
theorem wd_dec (a b : Wd) : decide (V.str a.str = V.str b.str) = decide (a = b) := by
  by_cases h : a = b
  · rw [decide_eq_true h, decide_eq_true (by rw [h])]
  · rw [decide_eq_false h, decide_eq_false fun z => h (Wd.inj (V.str.inj z))]
theorem kn_dec (a b : Kn) : decide (V.str a.str = V.str b.str) = decide (a = b) := by
  by_cases h : a = b
  · rw [decide_eq_true h, decide_eq_true (by rw [h])]
  · rw [decide_eq_false h, decide_eq_false fun z => h (Kn.inj (V.str.inj z))]
/-- the kind of the part that begins with a word -/
def Wd.cls : Wd → Kn
  | .number => .value | .buy => .value | .sell => .value | .plus => .value | .minus => .value | .times => .value | .least => .value | .greatest => .value
  | .less => .condition | .same => .condition | .not_ => .condition | .and_ => .condition
  | _ => .contract
/-- the kinds of what stands behind a word -/
def Wd.kn : Wd → List Kn
  | .number => [.size] | .buy => [.good] | .sell => [.good]
  | .plus => [.value, .value] | .minus => [.value, .value] | .times => [.value, .value] | .least => [.value, .value] | .greatest => [.value, .value]
  | .less => [.value, .value] | .same => [.value, .value] | .not_ => [.condition] | .and_ => [.condition, .condition]
  | .nothing => [] | .one => [.good] | .scale => [.value, .contract] | .both => [.contract, .contract] | .give => [.contract] | .or_ => [.contract, .contract]
  | .at_ => [.time, .contract] | .when_ => [.condition, .contract] | .until_ => [.condition, .contract] | .early => [.time, .contract] | .later => [.contract]
inductive Lit where
  | non | size (q : Int × Int) | good (i : Int) | time (i : Int)
def Lit.kn : Lit → List Kn
  | .non => [] | .size _ => [.size] | .good _ => [.good] | .time _ => [.time]
def Lit.ds : Lit → List PyData
  | .non => [] | .size q => [frD q] | .good i => [.int i] | .time i => [.int i]
theorem Lit.len (l : Lit) : l.kn.length = l.ds.length := by cases l <;> rfl
inductive Part where
  | p0 (w : Wd) (l : Lit)
  | p1 (w : Wd) (l : Lit) (a : Part)
  | p2 (w : Wd) (l : Lit) (a b : Part)
namespace Part
def wd : Part → Wd
  | p0 w _ => w | p1 w _ _ => w | p2 w _ _ _ => w
def lit : Part → Lit
  | p0 _ l => l | p1 _ l _ => l | p2 _ l _ _ => l
def ks : Part → List Part
  | p0 _ _ => [] | p1 _ _ a => [a] | p2 _ _ a b => [a, b]
def size : Part → Nat
  | p0 _ _ => 1 | p1 _ _ a => 1 + a.size | p2 _ _ a b => 1 + (a.size + b.size)
def depth : Part → Nat
  | p0 _ _ => 1 | p1 _ _ a => 1 + a.depth | p2 _ _ a b => 1 + max a.depth b.depth
def D : Part → PyData
  | p0 w l => .tuple (.str w.str :: l.ds)
  | p1 w l a => .tuple (.str w.str :: (l.ds ++ [a.D]))
  | p2 w l a b => .tuple (.str w.str :: (l.ds ++ [a.D, b.D]))
theorem D_eq (p : Part) : p.D = .tuple (.str p.wd.str :: (p.lit.ds ++ p.ks.map D)) := by
  cases p <;> simp [D, wd, lit, ks]
/-- the form of a contract, a value, a condition -/
def WF : Part → Prop
  | p0 w l => w.kn = l.kn
  | p1 w l a => w.kn = l.kn ++ [a.wd.cls] ∧ a.WF
  | p2 w l a b => w.kn = l.kn ++ [a.wd.cls, b.wd.cls] ∧ a.WF ∧ b.WF
theorem WF.kn {p : Part} (h : p.WF) : p.wd.kn = p.lit.kn ++ p.ks.map (·.wd.cls) := by
  cases p with
  | p0 w l => simpa [ks, wd, lit, WF] using h
  | p1 w l a => exact h.1
  | p2 w l a b => exact h.1
theorem WF.kid {p k : Part} (h : p.WF) (hk : k ∈ p.ks) : k.WF := by
  cases p with
  | p0 w l => cases hk
  | p1 w l a => 
    rw [List.mem_singleton.mp hk]
    exact h.2
  | p2 w l a b =>
    rcases List.mem_cons.mp hk with rfl | hk
    · exact h.2.1
    · rw [List.mem_singleton.mp hk]
      exact h.2.2
/-- a part and all in it, from the left, with how deep they are -/
def pre (n : Nat) : Part → List (Part × Nat)
  | p0 w l => [(p0 w l, n)]
  | p1 w l a => (p1 w l a, n) :: a.pre (n + 1)
  | p2 w l a b => (p2 w l a b, n) :: (a.pre (n + 1) ++ b.pre (n + 1))
theorem pre_eq (n : Nat) (p : Part) : p.pre n = (p, n) :: p.ks.flatMap (fun k => k.pre (n + 1)) := by
  cases p <;> simp [pre, ks]
theorem pre_len (p : Part) : ∀ n : Nat, (p.pre n).length = p.size := by
  induction p with
  | p0 w l => intro n; rfl
  | p1 w l a ih => intro n; simp only [pre, size, List.length_cons, ih]; omega
  | p2 w l a b iha ihb => intro n; simp only [pre, size, List.length_cons, List.length_append, iha, ihb]; omega
theorem size_pos (p : Part) : 0 < p.size := by cases p <;> simp only [size] <;> omega
theorem depth_pos (p : Part) : 0 < p.depth := by cases p <;> simp only [depth] <;> omega
theorem size_eq (p : Part) : p.size = 1 + (p.ks.map size).sum := by
  cases p <;> simp [size, ks]
theorem depth_le_size (p : Part) : p.depth ≤ p.size := by
  induction p with
  | p0 w l => simp [depth, size]
  | p1 w l a ih => simp only [depth, size]; omega
  | p2 w l a b iha ihb => simp only [depth, size]; omega
theorem ks_len (p : Part) : p.ks.length ≤ 2 := by cases p <;> simp [ks]
theorem kid_depth {p k : Part} (h : k ∈ p.ks) : k.depth < p.depth := by
  cases p with
  | p0 w l => cases h
  | p1 w l a => rw [List.mem_singleton.mp h]; simp only [depth]; omega
  | p2 w l a b =>
    simp only [depth]
    rcases List.mem_cons.mp h with rfl | h
    · omega
    · rw [List.mem_singleton.mp h]; omega
theorem pre_depth (p : Part) : ∀ (n : Nat), (∀ x ∈ p.pre n, n ≤ x.2 ∧ x.2 < n + p.depth) ∧ ∃ x ∈ p.pre n, x.2 + 1 = n + p.depth := by
  induction p with
  | p0 w l => intro n; simp [pre, depth]
  | p1 w l a ih =>
    intro n
    obtain ⟨h1, x, hx, e⟩ := ih (n + 1)
    constructor
    · intro y hy
      simp only [depth]
      rcases List.mem_cons.mp hy with rfl | hy
      · exact ⟨Nat.le_refl _, by show n < n + _; omega⟩
      · have := h1 y hy
        omega
    · exact ⟨x, List.mem_cons_of_mem _ hx, by simp only [depth]; omega⟩
  | p2 w l a b iha ihb =>
    intro n
    obtain ⟨h1, x, hx, e⟩ := iha (n + 1)
    obtain ⟨h2, y, hy, e2⟩ := ihb (n + 1)
    constructor
    · intro z hz
      simp only [depth]
      rcases List.mem_cons.mp hz with rfl | hz
      · exact ⟨Nat.le_refl _, by show n < n + _; omega⟩
      · rcases List.mem_append.mp hz with hz | hz
        · have := h1 z hz
          omega
        · have := h2 z hz
          omega
    · by_cases c : a.depth ≤ b.depth
      · exact ⟨y, List.mem_cons_of_mem _ (List.mem_append_right _ hy), by simp only [depth]; omega⟩
      · exact ⟨x, List.mem_cons_of_mem _ (List.mem_append_left _ hx), by simp only [depth]; omega⟩
theorem WF.pre {p : Part} (h : p.WF) : ∀ (n : Nat), ∀ x ∈ p.pre n, x.1.WF := by
  induction p with
  | p0 w l => intro n x hx; rw [List.mem_singleton.mp hx]; exact h
  | p1 w l a ih =>
    intro n x hx
    rcases List.mem_cons.mp hx with rfl | hx
    · exact h
    · exact ih h.2 (n + 1) x hx
  | p2 w l a b iha ihb =>
    intro n x hx
    rcases List.mem_cons.mp hx with rfl | hx
    · exact h
    · rcases List.mem_append.mp hx with hx | hx
      · exact iha h.2.1 (n + 1) x hx
      · exact ihb h.2.2 (n + 1) x hx
/-- all numbers of a part -/
def All (P : Wd → Lit → Prop) (p : Part) : Prop := ∀ x ∈ p.pre 1, P x.1.wd x.1.lit
theorem pre_fst (p : Part) : ∀ n m : Nat, (p.pre n).map (·.1) = (p.pre m).map (·.1) := by
  induction p with
  | p0 w l => intro n m; rfl
  | p1 w l a ih => intro n m; simp only [Part.pre, List.map_cons, ih (n + 1) (m + 1)]
  | p2 w l a b iha ihb => intro n m; simp only [Part.pre, List.map_cons, List.map_append, iha (n + 1) (m + 1), ihb (n + 1) (m + 1)]
theorem all_iff (P : Wd → Lit → Prop) (p : Part) (n : Nat) : p.All P ↔ ∀ x ∈ p.pre n, P x.1.wd x.1.lit := by
  have e := pre_fst p n 1
  constructor
  · intro h x hx
    have : x.1 ∈ (p.pre 1).map (·.1) := by rw [← e]; exact List.mem_map.mpr ⟨x, hx, rfl⟩
    obtain ⟨y, hy, q⟩ := List.mem_map.mp this
    rw [← q]
    exact h y hy
  · intro h x hx
    have : x.1 ∈ (p.pre n).map (·.1) := by rw [e]; exact List.mem_map.mpr ⟨x, hx, rfl⟩
    obtain ⟨y, hy, q⟩ := List.mem_map.mp this
    rw [← q]
    exact h y hy
theorem All.here {P : Wd → Lit → Prop} {p : Part} (h : p.All P) : P p.wd p.lit := h (p, 1) (by rw [pre_eq]; simp)
theorem All.kid {P : Wd → Lit → Prop} {p k : Part} (h : p.All P) (hk : k ∈ p.ks) : k.All P := by
  rw [all_iff P k 2]
  intro x hx
  refine h x ?_
  rw [pre_eq]
  exact List.mem_cons_of_mem _ (List.mem_flatMap.mpr ⟨k, hk, hx⟩)
theorem all_mk {P : Wd → Lit → Prop} {p : Part} (h : P p.wd p.lit) (hk : ∀ k ∈ p.ks, k.All P) : p.All P := by
  intro x hx
  rw [pre_eq] at hx
  rcases List.mem_cons.mp hx with rfl | hx
  · exact h
  · obtain ⟨k, kk, hx⟩ := List.mem_flatMap.mp hx
    exact (all_iff P k 2).mp (hk k kk) x hx
/-- a number that does not fit -/
def BadL (g : Int) : Lit → Prop
  | .good i => ¬ (0 ≤ i ∧ i < g)
  | .time i => i < 0
  | _ => False
instance (g : Int) (l : Lit) : Decidable (BadL g l) := by cases l <;> unfold BadL <;> infer_instance
def Bad (g : Int) (p : Part) : Prop := 40 < p.size ∨ 20 < p.depth ∨ ∃ x ∈ p.pre 1, BadL g x.1.lit
end Part
/-! ### in memory -/
theorem DT.part_inv {K : PySem.W.Frag} {H : Hp} {v : V} {p : Part} (h : DT K H v p.D) : ∃ a ls kv, v = .ref a ∧ Tp H a (.str p.wd.str :: (ls ++ kv)) ∧ DTs K H ls p.lit.ds ∧ DTs K H kv (p.ks.map Part.D) := by
  rw [p.D_eq] at h
  obtain ⟨a, xs, rfl, ha, hd⟩ := h.inv
  cases hd with
  | cons h1 h2 =>
    cases h1
    have hl := h2.take p.lit.ds.length
    have hr := h2.drop p.lit.ds.length
    rw [List.take_left] at hl
    rw [List.drop_left] at hr
    exact ⟨a, _, _, rfl, by rw [List.take_append_drop]; exact ha, hl, hr⟩
theorem DT.part {K : PySem.W.Frag} {H : Hp} {a : Addr} {p : Part} {ls kv : List V} (h : Tp H a (.str p.wd.str :: (ls ++ kv))) (hl : DTs K H ls p.lit.ds) (hk : DTs K H kv (p.ks.map Part.D)) : DT K H (.ref a) p.D := by
  rw [p.D_eq]
  exact .tup h (.cons (.str _) (hl.app hk))
end Nl

namespace Nl
open PySem PySem.Spec PyProof.Rows L2
/-! ### dicts of the top, with texts as keys and tuples of texts as values -/
section
variable {X : Cx}
theorem op_in_kdE {d : Addr} (D : ∃ es n, KDict X.K X.w d es n) : OpR X (compareOp .In) (fun x y H Q => ∃ (z : Str) (r : Option Value), x = .str z ∧ y = .ref d ∧ PySem.W.nsIn X.K d z = some r ∧ Q (.bl r.isSome) H) := by
  obtain ⟨es, n, D⟩ := D
  exact op_in_kd D
end
/-- a written tuple of texts -/
def tupW (K : PySem.W.Frag) (a : Addr) (ss : List Str) : Bool := match K.lookup a with
  | some ⟨.type c, _, .seq its _, _⟩ => decide (c = "tuple") && decide (its.size ≤ sizeLine) && decide (its.toList.map (fun v => match v with | .str x _ => some x | _ => none) = ss.map some)
  | _ => false
theorem vals_strs : ∀ (us : List Value) (ss : List Str), us.map (fun v => match v with | .str x _ => some x | _ => none) = ss.map some → Vals (ss.map V.str) us
  | [], [], _ => .nil
  | [], s :: r, h => by simp at h
  | u :: r, [], h => by simp at h
  | u :: r, s :: q, h => by
    rw [List.map_cons, List.map_cons] at h
    obtain ⟨h1, h2⟩ := List.cons.inj h
    cases u with
    | str x t =>
      have : x = s := Option.some.inj h1
      subst this
      exact .cons ⟨t, rfl⟩ (vals_strs r q h2)
    | _ => cases h1
theorem tupW_ok {K : PySem.W.Frag} {a : Addr} {ss : List Str} (h : tupW K a ss = true) (H : Hp) : SqT K H a (ss.map V.str) := by
  unfold tupW at h
  split at h
  · rename_i c od its n sl e
    simp only [Bool.and_eq_true, decide_eq_true_eq] at h
    obtain ⟨⟨h1, h2⟩, h3⟩ := h
    exact .inr ⟨_, its, n, e, by rw [h1], rfl, h2, vals_strs _ _ h3⟩
  · cases h
theorem kdct_of {K : PySem.W.Frag} {w : World} {d t : Addr} {x : Str} (D : ∃ es n, KDict K w d es n) (h : PySem.W.nsIn K d x = some (some (.ref t))) : KDct K w d x (.ref t) := by
  obtain ⟨es, n, D⟩ := D
  exact ⟨es, n, _, D.at_, D.lit, h, rfl⟩
end Nl

namespace Nl
open PySem PySem.Spec PyProof.Rows L2
section
variable {prog : Program} {w : World} {A : Around} {E : Value → Shared → Prop} {s : Shared}
theorem join_rev {x : Str} {t : Tok} {it l : Addr} {items : Array Value} {ys : List Str} {Q : Value → Shared → Prop} (hh : A.handled = none)
    (hit : s.heap.IsRevIter it l ((items.size : Int) - 1)) (hl : s.heap.IsList l items) (hne : l ≠ it) (hn : items.size ≤ sizeLine)
    (hP : ∀ acc : Array Value, ItemsOf (fun i v => items[items.size - 1 - i]? = some v) acc items.size → StrsAre acc.toList ys)
    (hok : (ys.map (·.length)).sum + ys.length * x.length ≤ 16777216)
    (hq : ∀ h' t' k, (∀ b o, b ≠ it → s.heap.get? b = some o → h'.get? b = some o) → Q (.str (Txt.join x ys) t') { s with heap := h', toks := k }) :
    wpAny (model prog w) A (call (.builtin "str.join") [.str x t, .ref it]) Q E s := by
  refine wpAny_call (codeAny_call_builtin F.slot_str_join.plain F.entry_str_join (F.slot_str_join.check _ _ _ _ _ _ _ _ (typeIs_str _ _ _) (F.args_str_join_2 _ _) ?_))
  rw [join_tree_other]
  refine wpAny_bind (wpAny_typeOf hit.typeIs ?_)
  show wpAny _ A.in1 ((pyIter (.ref it)).tryCatch _ >>= fun it => collect it >>= fun items => joinTail x items) _ _ s
  refine wpAny_bind (wpAny_tryCatch (wpAny_pyIter_revIter hit ?_))
  refine wpAny_bind (RT.collect_rev hh hit hl hne hn fun h' tk acc hk hacc => ?_)
  obtain ⟨l, hl, ht⟩ := strsAre_values (hP acc hacc)
  subst ht
  rw [hl]
  have ok := joinOk_of hok
  unfold JoinOk at ok
  rw [Bool.not_eq_true'] at ok
  have g : Gives (joinTail x (strValues l)) (joinMade x l) := by
    have g0 := gives_joinTail x l ok
    cases l with
    | nil => exact g0
    | cons p r =>
      cases r with
      | nil => exact g0
      | cons q r' => exact g0
  exact g prog w A (wants Q E) _ (post_join l ⟨joinFit_length ok, fun t' k => hq h' t' k hk⟩)
end
section
variable {X : Cx}
/-- sep.join(reversed(xs)), xs a list of texts -/
def tJoinRev (K : PySem.W.Frag) (to te : TE) : TE := fun σ H Q => to σ H fun x H1 => (∃ a, x = .str a) ∧ te σ H1 fun v H2 => ∃ (a : Str) (q : Addr) (ys : List Str),
  x = .str a ∧ v = .ref q ∧ SqL K H2 q (ys.map V.str) ∧ (ys.map (·.length)).sum + ys.length * a.length ≤ 16777216 ∧ Q (.str (Txt.join a ys.reverse)) H2
theorem pe_joinRev {o e : Expr} {to te : TE} {apos pos p pos2 : Pos} (hc : X.calm = true) (ho : PE X o to) (hg : Gl X "reversed") (hm : X.mg "reversed" = none) (he : PE X e te)
    (hs1 : starEach [.Call (.Name "reversed" p) [e] [] pos2] X.env = [(false, eval (.Call (.Name "reversed" p) [e] [] pos2) X.env)] := by rfl)
    (hs : starEach [e] X.env = (false, eval e X.env) :: starEach [] X.env := by rfl)
    (hbase : attributeBase o "join" X.env (eval o X.env) = eval o X.env := by rfl) (hline : (apos.endLine == pos.line) = true := by rfl) :
    PE X (.Call (.Attribute o "join" apos) [.Call (.Name "reversed" p) [e] [] pos2] [] pos) (tJoinRev X.K to te) := by
  refine ⟨fun pins s σ H Q I h => ?_⟩
  refine PySem.Call_method1 hbase hs1 hline (thn (ho.run pins s σ H _ I h) fun v s1 ⟨x, H1, I1, r1, q1⟩ => ?_)
  obtain ⟨⟨a, rfl⟩, q1⟩ := q1
  obtain ⟨t, rfl⟩ := _root_.id r1
  refine ⟨"str", _, F.plainAttrs_str, F.slot_str_join, F.type_str_join, typeIs_str _ _ _, (fun _ e => nomatch e), Calls.callWith_builtin rfl (Calls.evalArgs_plain (Calls.spliced_cons ?_))⟩
  refine Call_ (ld_blt I1 hg hm PyProof.Rows.boot_reversed (PyProof.Rows.callWith_type1 (args_cons (thn (he.run pins s1 σ H1 _ I1 q1) fun u s2 ⟨v, H2, I2, r2, q2⟩ => args_nil ?_) hs) hs rfl))
  obtain ⟨a', q, ys, ea, rfl, hq, hz, q3⟩ := q2
  cases ea
  obtain rfl : u = Value.ref q := r2
  obtain ⟨its, rv, p', hsz⟩ := I2.list hq
  refine call_reversed_list p'.isList (Calls.spliced_nil ?_)
  have hl := p'.isList
  obtain ⟨ol, hol, _⟩ := id hl
  have hne : q ≠ s2.heap.objs.size := Nat.ne_of_lt (Heap.lt_size hol)
  have hn : its.toArray.size ≤ sizeLine := by rw [List.size_toArray, ← rv.length]; exact hsz
  have k0 : ∀ b o, s2.heap.get? b = some o → (s2.heap.push (revObj q ((its.toArray.size : Int) - 1))).get? b = some o := fun b o e => Heap.get?_push_of_some _ e
  have J2 : Inv X pins σ H2 { s2 with heap := s2.heap.push (revObj q ((its.toArray.size : Int) - 1)) } := I2.kept (t' := s2.toks) k0
  obtain ⟨f0, f1, f2, f3, f4, f5⟩ := I2.fpOk (H' := H2) (b := s2.heap.objs.size) (Nat.le_refl _) (I2.hok.fresh (Nat.le_refl _))
  refine join_rev (s := { s2 with heap := s2.heap.push (revObj q ((its.toArray.size : Int) - 1)) }) (ys := ys.reverse) (Q := EP X pins σ Q) (E := X.xe) (I1.ok.hd hc) ⟨_, Heap.get?_push_size _ rfl, rfl, rfl⟩ (hl.push _) hne hn (fun acc hacc => ?_) ?_ fun h' t' k hk => ?_
  · have r := RT.vals_rev rv hacc
    rw [← List.map_reverse] at r
    exact Vals.strs r
  · rw [List.map_reverse, List.sum_reverse, List.length_reverse]
    exact hz
  · have J3 : Inv X pins σ H2 { s2 with heap := h', toks := k } := J2.turned (t' := k) (fun b o hb e => hk b o hb e) f0 f1 f3 f4 f5
    exact ⟨.str _, H2, J3, ⟨t', rfl⟩, q3⟩
end
end Nl

namespace Nl
open PySem PySem.Spec PyProof.Rows L2
open PySem.NumText
theorem wp_big {M : Model} {A : Around} {E : Value → Shared → Prop} {s : Shared} {Q : Value → Shared → Prop} {v : Value} {text : List Nat} {n : Int}
    (nd : s.heap.NoDigits) (hs : ¬ (text.takeWhile (· != 0)).length ≤ 640)
    (hr : (int_private% "readNumeral") 4300 10 (text.takeWhile (· != 0)) = (int_private% "Numeral.value") n)
    (ha : ((text.takeWhile (· != 0)).length == text.length) = true)
    (h : Q (.int n s.toks) { s with toks := s.toks + 1 }) :
    wpAny M A ((int_private% "intFromText") v text 10) Q E s := by
  obtain ⟨mc, hns, hnone⟩ := nd
  obtain ⟨hp, g, d, tk, os⟩ := s
  repeat (any_goals (first
    | assumption
    | (with_reducible refine wpAny_ite_false (decide_eq_false hs) ?_)
    | (with_reducible refine wpAny_nsGet hns ?_)
    | wp_step))
  rw [hnone]
  refine wpAny_pure ?_
  dsimp only
  rw [hr]
  dsimp only
  rw [if_pos ha]
  exact wpAny_mkInt h
theorem meets_big {x : PySem.Str} {u : Tok} {n : Int} (hl : ¬ x.length ≤ 640) (hx : x.length ≤ 4300) (hk : (numSeenOf x).length = x.length) (hn : PySem.intText? x = some n) :
    Meets (Builtin.«int.__new__» ⟨[.type "int", .str x u], []⟩) (fun _ R s => s.heap.NoDigits ∧ R (.ok (.ret (.int n s.toks))) { s with toks := s.toks + 1 }) := by
  intro prog w A R s hs
  obtain ⟨nd, h⟩ := hs
  have f1 := F.conv_sub_int
  have f2 := F.madeHere_int
  have f3 := PySem.W.KIN.str_int
  have f4 := PySem.W.KIN.str_idx
  have f5 := PySem.W.KIN.str_trunc
  have f6 : typeOf (.str x u) = pure (.type "str") := rfl
  have hs : ¬ (numSeenOf x).length ≤ 640 := by rw [hk]; exact hl
  have hr : (int_private% "readNumeral") 4300 10 (numSeenOf x) = (int_private% "Numeral.value") n ∧ ((numSeenOf x).length == (numTextOf x).length) = true := by
    rcases read4300 x (Nat.le_trans hx (by decide)) with ⟨m, h1, h2, h3⟩ | ⟨h1, _⟩
    · rw [hn] at h1
      cases h1
      exact ⟨h3, h2⟩
    · rw [hn] at h1
      cases h1
  have q := PySem.W.KIN.Hid.mk (And.intro nd (And.intro hs hr))
  clear hs hr hl hx hk hn nd
  obtain ⟨hp, g, d, tk, os⟩ := s
  repeat (any_goals (first
    | assumption
    | ((with_reducible show wpAny _ _ ((int_private% "intFromText") _ _ _) _ _ _); refine wp_big q.out.1 q.out.2.1 q.out.2.2.1 q.out.2.2.2 ?_)
    | wp_step))
  all_goals trace_state
  all_goals first | exact h | skip
/-- int(text), of up to 4300 digits -/
def NoDig (X : Cx) : Prop := X.base.NoDigits
theorem call_int_long {X : Cx} (nd : X.base.NoDigits) : CallR X (.type "int") (fun xs H Q => ∃ a n, xs = [.str a] ∧ PySem.intText? a = some n ∧ a.length ≤ 4300 ∧ (numSeenOf a).length = a.length ∧ Q (.int n) H) := by
  intro pins s σ H xs us Q I rs h
  obtain ⟨a, n, rfl, hn, hl, hk, h⟩ := h
  cases rs with
  | cons r1 rs =>
    cases rs
    obtain ⟨t, rfl⟩ := r1
    by_cases hs : a.length ≤ 640
    · exact PySem.W.KIN.call_text hn hs ⟨.int n, H, I.tok _, ⟨_, rfl⟩, h⟩
    · exact call_int_1 (meets_big hs hl hk hn) ⟨nd.keeps fun b o e => (I.bk b o e), rfl, .int n, H, I.tok _, ⟨_, rfl⟩, h⟩
end Nl

namespace Nl
open PySem PySem.Spec PyProof.Rows L2
section
variable {X : Cx}
def rInT (K : PySem.W.Frag) : R2 := fun x y H Q => ∃ d ds, Dp K H x d ∧ Dp K H y (.tuple ds) ∧ SeqAt.shaped d = true ∧ SeqAt.shaped (.tuple ds) = true ∧ Q (.bl (ds.any fun z => PyData.eqv z d)) H
theorem op_inT (hu : X.A.units + 65 < cLine) : OpR X (compareOp .In) (rInT X.K) := by
  intro pins s σ H x y v u Q I rx ry h
  obtain ⟨d, ds, hd, he, sd, se, q⟩ := h
  obtain ⟨as, r1⟩ := Dp.reads I d x v hd rx
  obtain ⟨bs, r2⟩ := Dp.reads I (.tuple ds) y u he ry
  refine SeqAt.in_tuple_reads r2 r1 (SeqAt.canLay_of_shaped (d := .tuple ds) se) (SeqAt.canLay_of_shaped sd) (room_in_shaped sd hu) ⟨.bl _, H, I, rfl, q⟩
/-- text * number -/
def rMulS : R2 := fun x y H Q => ∃ (a : Str) (n : Int), x = .str a ∧ y = .int n ∧ 2 ≤ n ∧ n ≤ 2000 ∧ 0 < a.length ∧ a.length ≤ 100 ∧ Q (.str (Txt.mul a n)) H
theorem op_mulS : OpR X (binaryOp .Mult) rMulS := by
  intro pins s σ H x y v u Q I rx ry h
  obtain ⟨a, n, rfl, rfl, n2, n3, h0, h1, q⟩ := h
  obtain ⟨t, rfl⟩ := rx
  obtain ⟨t', rfl⟩ := ry
  refine SB.mul ⟨?_, fun _ _ => ?_, fun _ _ => ?_⟩ fun k' k => ⟨.str _, H, I.tok _, ⟨_, rfl⟩, q⟩
  · rw [decide_eq_false (by omega), decide_eq_false (by omega)]
    rfl
  · have : (4611686018427387 : Int) ≤ (2 ^ 63 - 1) / n := Int.le_ediv_of_mul_le (by omega) (by omega)
    omega
  · have : a.length * n.toNat ≤ 100 * 2000 := Nat.mul_le_mul h1 (by omega)
    unfold Builtin.Str.tooLong
    rw [decide_eq_false_iff_not, sizeLine_eq]
    omega
end
end Nl

namespace Nl
open PySem PySem.Spec PyProof.Rows L2
section
variable {X : Cx}
def rNotInT (K : PySem.W.Frag) : R2 := fun x y H Q => ∃ d ds, Dp K H x d ∧ Dp K H y (.tuple ds) ∧ SeqAt.shaped d = true ∧ SeqAt.shaped (.tuple ds) = true ∧ Q (.bl (!(ds.any fun z => PyData.eqv z d))) H
theorem op_notInT (hu : X.A.units + 65 < cLine) : OpR X (compareOp .NotIn) (rNotInT X.K) := by
  intro pins s σ H x y v u Q I rx ry h
  obtain ⟨d, ds, hd, he, sd, se, q⟩ := h
  obtain ⟨as, r1⟩ := Dp.reads I d x v hd rx
  obtain ⟨bs, r2⟩ := Dp.reads I (.tuple ds) y u he ry
  refine SeqAt.notIn_tuple_reads r2 r1 (SeqAt.canLay_of_shaped (d := .tuple ds) se) (SeqAt.canLay_of_shaped sd) (room_in_shaped sd hu) ⟨.bl _, H, I, rfl, q⟩
end
end Nl

namespace Nl
open PySem PySem.Spec PyProof.Rows L2
theorem walk_zipT {K : PySem.W.Frag} {a b : Addr} {xs ys : List V} {n : Nat} (hn : n = min xs.length ys.length) : Walk (RZ.ItzT K a b) n (fun H => SqT K H a xs ∧ SqT K H b ys) (YPair (fun i => xs[i]?) (fun i => ys[i]?)) := by
  subst hn
  refine ⟨fun i _ hi q => ?_, fun _ q => ⟨xs, ys, q.1, q.2, by omega⟩, fun i H v H' _ q y => ?_⟩
  · have h1 : i < xs.length := by omega
    have h2 : i < ys.length := by omega
    exact ⟨xs, ys, xs[i], ys[i], q.1, q.2, by simp [h1], by simp [h2]⟩
  · obtain ⟨T, x, z, h1, h2, h3, h4, h5⟩ := y
    exact ⟨T, x, z, h1, h2, h3, h4 xs q.1, h5 ys q.2⟩
theorem eqv_str (a b : Str) : PyData.eqv (.str a) (.str b) = decide (a = b) := by
  show (a == b) = _
  by_cases h : a = b
  · subst h
    rw [decide_eq_true rfl, beq_self_eq_true]
  · rw [decide_eq_false h]
    exact beq_eq_false_iff_ne.mpr h
theorem any_wd (l : List Wd) (w : Wd) : (l.map fun k => PyData.str k.str).any (fun z => PyData.eqv z (.str w.str)) = decide (w ∈ l) := by
  induction l with
  | nil => rfl
  | cons a l ih =>
    rw [List.map_cons, List.any_cons, ih, eqv_str]
    by_cases h : w = a
    · subst h
      simp
    · have : ¬ a.str = w.str := fun z => h (Wd.inj z).symm
      rw [decide_eq_false this]
      simp [h]
theorem any_kn (l : List Kn) (w : Kn) : (l.map fun k => PyData.str k.str).any (fun z => PyData.eqv z (.str w.str)) = decide (w ∈ l) := by
  induction l with
  | nil => rfl
  | cons a l ih =>
    rw [List.map_cons, List.any_cons, ih, eqv_str]
    by_cases h : w = a
    · subst h
      simp
    · have : ¬ a.str = w.str := fun z => h (Kn.inj z).symm
      rw [decide_eq_false this]
      simp [h]
end Nl
namespace Nl
open PySem PySem.Spec PyProof.Rows L2
abbrev PD := Part × Nat
def entP (e : PD) : PyData := .tuple [e.1.D, .int e.2]
def preP (e : PD) : List PD := e.1.pre e.2
def kidsP (e : PD) : List PD := e.1.ks.map fun k => (k, e.2 + 1)
theorem preP_eq (e : PD) : preP e = e :: (kidsP e).flatMap preP := by
  unfold preP kidsP
  rw [Part.pre_eq, List.flatMap_map]
theorem preP_pos (e : PD) : 0 < (preP e).length := by rw [preP_eq]; simp
theorem kidsP_len (e : PD) : (kidsP e).length = e.1.ks.length := List.length_map _
theorem len_le_flatP : ∀ l : List PD, l.length ≤ (l.flatMap preP).length
  | [] => Nat.le_refl _
  | a :: l => by
    rw [List.flatMap_cons, List.length_append, List.length_cons]
    have := len_le_flatP l
    have := preP_pos a
    omega
theorem DT.entP_inv {K : PySem.W.Frag} {H : Hp} {v : V} {e : PD} (h : DT K H v (entP e)) : ∃ a x, v = .ref a ∧ Tp H a [x, .int e.2] ∧ DT K H x e.1.D := by
  obtain ⟨a, x, y, rfl, ha, hx, hy⟩ := h.inv2
  rw [hy.int_inv] at ha
  exact ⟨a, x, rfl, ha, hx⟩
end Nl
namespace Nl
open PySem PySem.Spec PyProof.Rows L2
/-! ### what the law draws -/
def LG (g : Int) : Lit → Prop
  | .non => True
  | .size q => Ok 10 q
  | .good i => 0 ≤ i ∧ i < g
  | .time i => 0 ≤ i ∧ i ≤ 3
structure PG (g : Int) (c : Kn) (sz dp : Nat) (p : Part) : Prop where
  wf : p.WF
  cls : p.wd.cls = c
  size : p.size ≤ sz
  depth : p.depth ≤ dp
  lits : p.All fun _ l => LG g l
theorem PG.mono {g : Int} {c : Kn} {s d s' d' : Nat} {p : Part} (h : PG g c s d p) (hs : s ≤ s') (hd : d ≤ d') : PG g c s' d' p := ⟨h.wf, h.cls, Nat.le_trans h.size hs, Nat.le_trans h.depth hd, h.lits⟩
theorem pg0 {g : Int} {x : Wd} {l : Lit} (hk : x.kn = l.kn) (hl : LG g l) : PG g x.cls 1 1 (.p0 x l) :=
  ⟨hk, rfl, Nat.le_refl _, Nat.le_refl _, Part.all_mk hl fun k hk => by cases hk⟩
theorem pg1 {g : Int} {x : Wd} {l : Lit} {c : Kn} {s d : Nat} {a : Part} (hk : x.kn = l.kn ++ [c]) (hl : LG g l) (ha : PG g c s d a) : PG g x.cls (1 + s) (1 + d) (.p1 x l a) :=
  ⟨⟨by rw [ha.cls]; exact hk, ha.wf⟩, rfl, Nat.add_le_add_left ha.size 1, Nat.add_le_add_left ha.depth 1, Part.all_mk hl fun k hk => by
    rw [List.mem_singleton.mp hk]
    exact ha.lits⟩
theorem pg2 {g : Int} {x : Wd} {l : Lit} {c c' : Kn} {s d s' d' : Nat} {a b : Part} (hk : x.kn = l.kn ++ [c, c']) (hl : LG g l) (ha : PG g c s d a) (hb : PG g c' s' d' b) : PG g x.cls (1 + (s + s')) (1 + max d d') (.p2 x l a b) :=
  ⟨⟨by rw [ha.cls, hb.cls]; exact hk, ha.wf, hb.wf⟩, rfl, Nat.add_le_add_left (Nat.add_le_add ha.size hb.size) 1, Nat.add_le_add_left (by have := ha.depth; have := hb.depth; omega) 1, Part.all_mk hl fun k hk => by
    rcases List.mem_cons.mp hk with rfl | hk
    · exact ha.lits
    · rw [List.mem_singleton.mp hk]
      exact hb.lits⟩
theorem DT.p0n {K : PySem.W.Frag} {H : Hp} {a : Addr} {x : Wd} (h : Tp H a [.str x.str]) : DT K H (.ref a) (Part.p0 x .non).D := DT.part (p := .p0 x .non) (ls := []) (kv := []) h .nil .nil
theorem DT.p0s {K : PySem.W.Frag} {H : Hp} {a : Addr} {x : Wd} {v : V} {q : Int × Int} (h : Tp H a [.str x.str, v]) (d : DT K H v (frD q)) : DT K H (.ref a) (Part.p0 x (.size q)).D := DT.part (p := .p0 x (.size q)) (ls := [v]) (kv := []) h (.cons d .nil) .nil
theorem DT.p0g {K : PySem.W.Frag} {H : Hp} {a : Addr} {x : Wd} {i : Int} (h : Tp H a [.str x.str, .int i]) : DT K H (.ref a) (Part.p0 x (.good i)).D := DT.part (p := .p0 x (.good i)) (ls := [.int i]) (kv := []) h (.cons (.int i) .nil) .nil
theorem DT.p1n {K : PySem.W.Frag} {H : Hp} {a : Addr} {x : Wd} {v : V} {p : Part} (h : Tp H a [.str x.str, v]) (d : DT K H v p.D) : DT K H (.ref a) (Part.p1 x .non p).D := DT.part (p := .p1 x .non p) (ls := []) (kv := [v]) h .nil (.cons d .nil)
theorem DT.p1t {K : PySem.W.Frag} {H : Hp} {a : Addr} {x : Wd} {v : V} {i : Int} {p : Part} (h : Tp H a [.str x.str, .int i, v]) (d : DT K H v p.D) : DT K H (.ref a) (Part.p1 x (.time i) p).D := DT.part (p := .p1 x (.time i) p) (ls := [.int i]) (kv := [v]) h (.cons (.int i) .nil) (.cons d .nil)
theorem DT.p2n {K : PySem.W.Frag} {H : Hp} {a : Addr} {x : Wd} {v u : V} {p q : Part} (h : Tp H a [.str x.str, v, u]) (d : DT K H v p.D) (e : DT K H u q.D) : DT K H (.ref a) (Part.p2 x .non p q).D := DT.part (p := .p2 x .non p q) (ls := []) (kv := [v, u]) h .nil (.cons d (.cons e .nil))
def szV : Nat → Nat
  | 0 => 1
  | m + 1 => 1 + (szV m + szV m)
def szC : Nat → Nat
  | 0 => 5
  | m + 1 => 1 + (szC m + szC m)
def szK : Nat → Nat
  | 0 => 1
  | m + 1 => 12 + (szK m + szK m)
theorem szV_pos : ∀ m, 1 ≤ szV m
  | 0 => Nat.le_refl _
  | m + 1 => by unfold szV; omega
theorem szC_pos : ∀ m, 5 ≤ szC m
  | 0 => Nat.le_refl _
  | m + 1 => by have := szC_pos m; unfold szC; omega
theorem szK_pos : ∀ m, 1 ≤ szK m
  | 0 => Nat.le_refl _
  | m + 1 => by unfold szK; omega
end Nl
namespace Nl
open PySem PySem.Spec PyProof.Rows L2
def K3 : List Kn := [.value, .condition, .contract]
theorem cls_k3 (x : Wd) : x.cls ∈ K3 := by cases x <;> decide
theorem litkn_k3 (l : Lit) : ∀ k ∈ l.kn, k ∉ K3 := by cases l <;> simp [Lit.kn, K3]
theorem Part.WF.lit_kn {p : Part} (h : p.WF) : p.lit.kn = p.wd.kn.filter (fun k => decide (k ∉ K3)) := by
  rw [h.kn, List.filter_append, List.filter_eq_self.mpr fun k hk => decide_eq_true (litkn_k3 _ k hk)]
  rw [List.filter_eq_nil_iff.mpr fun k hk => by
    obtain ⟨q, _, rfl⟩ := List.mem_map.mp hk
    rw [decide_eq_false fun z => z (cls_k3 _)]
    decide]
  rw [List.append_nil]
theorem Part.WF.ks_kn {p : Part} (h : p.WF) : p.ks.map (·.wd.cls) = p.wd.kn.filter (fun k => decide (k ∈ K3)) := by
  rw [h.kn, List.filter_append, List.filter_eq_nil_iff.mpr fun k hk => by
    rw [decide_eq_false (litkn_k3 _ k hk)]
    decide]
  rw [List.filter_eq_self.mpr fun k hk => by
    obtain ⟨q, _, rfl⟩ := List.mem_map.mp hk
    exact decide_eq_true (cls_k3 _)]
  rfl
def L5 : List Wd := [.one, .buy, .sell, .number, .nothing]
def L2' : List Wd := [.at_, .early]
theorem wf_l5 {p : Part} (h : p.WF) (hw : p.wd ∈ L5) : p.ks = [] := by
  have e := h.ks_kn
  have : ∀ x ∈ L5, x.kn.filter (fun k => decide (k ∈ K3)) = [] := by decide
  rw [this _ hw] at e
  exact List.map_eq_nil_iff.mp e
theorem wf_l2 {p : Part} (h : p.WF) (hw : p.wd ∈ L2') : p.lit.ds.length = 1 := by
  have e := h.lit_kn
  have : ∀ x ∈ L2', (x.kn.filter (fun k => decide (k ∉ K3))).length = 1 := by decide
  rw [← Lit.len, e, this _ hw]
theorem wf_l0 {p : Part} (h : p.WF) (h5 : p.wd ∉ L5) (h2 : p.wd ∉ L2') : p.lit.ds.length = 0 := by
  have e := h.lit_kn
  have : ∀ x ∈ Wd.all, x ∉ L5 → x ∉ L2' → (x.kn.filter (fun k => decide (k ∉ K3))).length = 0 := by decide
  rw [← Lit.len, e, this _ (Wd.mem_all _) h5 h2]
theorem sh_wd (x : Wd) : SeqAt.shaped (.str x.str) = true := by cases x <;> decide +kernel
theorem sh_l5 : SeqAt.shaped (.tuple (L5.map fun k => .str k.str)) = true := by decide +kernel
theorem sh_l2 : SeqAt.shaped (.tuple (L2'.map fun k => .str k.str)) = true := by decide +kernel
theorem sh_knd (k : Kn) : SeqAt.shaped (.str k.str) = true := by cases k <;> decide +kernel
theorem sh_k3 : SeqAt.shaped (.tuple (K3.map fun k => .str k.str)) = true := by decide +kernel
def partsP (p : Part) : List Part := (p.pre 1).map (·.1)
theorem partsP_eq (p : Part) : partsP p = p :: p.ks.flatMap partsP := by
  unfold partsP
  rw [Part.pre_eq, List.map_cons, List.map_flatMap]
  have : ∀ l : List Part, (l.flatMap fun k => (k.pre (1 + 1)).map (·.1)) = l.flatMap fun p => (p.pre 1).map (·.1) := fun l => by
    induction l with
    | nil => rfl
    | cons a l ih => rw [List.flatMap_cons, List.flatMap_cons, ih, Part.pre_fst a (1 + 1) 1]
  rw [this]
theorem partsP_len (p : Part) : (partsP p).length = p.size := by rw [partsP, List.length_map, p.pre_len]
theorem dts_l5 {K : PySem.W.Frag} {H : Hp} {a : Addr} (l : List Wd) (h : H a = some (.tup (l.map fun x => V.str x.str))) : Dp K H (.ref a) (.tuple (l.map fun x => PyData.str x.str)) := by
  refine .tup (SqT.of h) ?_
  clear h
  induction l with
  | nil => exact .nil
  | cons x l ih => exact .cons (.str _) ih
end Nl

namespace Nl
open PySem PySem.Spec PyProof.Rows L2
/-! ### zip of three tuples -/
def It3 (K : PySem.W.Frag) (a b c : Addr) : It :=
  ⟨fun i H => ∃ xs ys zs : List V, SqT K H a xs ∧ SqT K H b ys ∧ SqT K H c zs ∧ i < min (min xs.length ys.length) zs.length,
    fun i H v H' => ∃ T x y z, v = .ref T ∧ H T = none ∧ H' = upd H T (.tup [x, y, z]) ∧ (∀ xs, SqT K H a xs → xs[i]? = some x) ∧ (∀ ys, SqT K H b ys → ys[i]? = some y) ∧ ∀ zs, SqT K H c zs → zs[i]? = some z,
    fun i H => ∃ xs ys zs : List V, SqT K H a xs ∧ SqT K H b ys ∧ SqT K H c zs ∧ i = min (min xs.length ys.length) zs.length⟩
theorem neA {x y : Nat} (h : x ≠ y) : @Ne Addr x y := h
theorem nin2 {x y z : Nat} (h1 : x ≠ y) (h2 : x ≠ z) : ¬ ((x : Addr) ∈ ([y, z] : List Addr)) := fun h => by
  rcases List.mem_cons.mp h with e | h
  · exact h1 e
  · exact h2 (List.mem_singleton.mp h)
def fp3 (I : Addr) : List Addr := [I + 5, I + 3, I + 4, I, I + 1, I + 2]
theorem fp3_cases {I d : Nat} (h : d ∈ fp3 I) : d = I + 5 ∨ d = I + 3 ∨ d = I + 4 ∨ d = I ∨ d = I + 1 ∨ d = I + 2 := by simpa [fp3] using h
theorem fp3_lt {I d n : Nat} (h : d ∈ fp3 I) (hn : I + 5 < n) : d < n := by
  rcases fp3_cases h with rfl | rfl | rfl | rfl | rfl | rfl <;> omega
theorem fp3_le {I d : Nat} (h : d ∈ fp3 I) : I ≤ d := by
  rcases fp3_cases h with rfl | rfl | rfl | rfl | rfl | rfl <;> omega
theorem fp3_nin {I d : Nat} (h : ¬ d ∈ fp3 I) : ¬ d ∈ ([I + 5, I + 4, I, I + 1, I + 2] : List Addr) := fun z => h (by
  simp only [fp3, List.mem_cons, List.not_mem_nil, or_false] at z ⊢
  rcases z with z | z | z | z | z
  · exact .inl z
  · exact .inr (.inr (.inl z))
  · exact .inr (.inr (.inr (.inl z)))
  · exact .inr (.inr (.inr (.inr (.inl z))))
  · exact .inr (.inr (.inr (.inr (.inr z)))))
theorem sep3 {I a b c : Nat} (h1 : a < I) (h2 : b < I) (h3 : c < I) : ZipSep3 (I + 5) (I + 3) (I + 4) I (I + 1) (I + 2) [I, a] [I + 1, b] [I + 2, c] := by
  constructor <;> first | exact neA (by omega) | exact nin2 (by omega) (by omega) | exact List.mem_cons_self
structure St3 (I a b c : Addr) (i : Nat) (h : Heap) : Prop where
  z : IsZip h (I + 5) (I + 3) (I + 4) .none
  ti : IsTupOf3 h (I + 3) (.ref I) (.ref (I + 1)) (.ref (I + 2))
  to : ∃ x y u, IsTupOf3 h (I + 4) x y u
  i1 : h.IsTupleIter I a i
  i2 : h.IsTupleIter (I + 1) b i
  i3 : h.IsTupleIter (I + 2) c i
theorem vals_at {xs : List V} {us : List Value} {i : Nat} {u : Value} (r : Vals xs us) (h : us.toArray[i]? = some u) : ∃ x, xs[i]? = some x ∧ RelV x u := by
  have hl := r.length
  have hlt : i < xs.length := by
    rcases Nat.lt_or_ge i xs.length with z | z
    · exact z
    · rw [Array.getElem?_eq_none (by rw [List.size_toArray]; omega)] at h
      cases h
  obtain ⟨u', e, rv⟩ := r.get (List.getElem?_eq_getElem hlt)
  have : us.toArray[i]? = us[i]? := by simp
  rw [this, e] at h
  cases h
  exact ⟨_, List.getElem?_eq_getElem hlt, rv⟩
theorem turn3 {P : Program} {w : World} {K : PySem.W.Frag} {elts : List Expr} {kk : Nat} {tpos : Pos} {I a b c : Addr} (ha : a < I) (hb : b < I) (hc : c < I) :
    Turn P w K (.Tuple elts kk tpos) (It3 K a b c) (fp3 I) (I + 5) (St3 I a b c) where
  mem := by simp [fp3]
  obj := fun i h st d hd => by
    obtain ⟨hz, hti, ⟨x, y, u, hto⟩, ⟨o1, e1, _, d1⟩, ⟨o2, e2, _, d2⟩, ⟨o3, e3, _, d3⟩⟩ := st
    have e' := fp3_cases hd
    rcases e' with rfl | rfl | rfl | rfl | rfl | rfl
    · exact ⟨_, hz, fun v q => nomatch q⟩
    · exact ⟨_, hti, fun v q => nomatch q⟩
    · exact ⟨_, hto, fun v q => nomatch q⟩
    · exact ⟨o1, e1, fun v q => by rw [d1] at q; cases q⟩
    · exact ⟨o2, e2, fun v q => by rw [d2] at q; cases q⟩
    · exact ⟨o3, e3, fun v q => by rw [d3] at q; cases q⟩
  keep := fun i h h' st k => by
    obtain ⟨hz, hti, ⟨x, y, u, hto⟩, h1, h2, h3⟩ := st
    exact ⟨k _ (by simp [fp3]) _ hz, k _ (by simp [fp3]) _ hti, ⟨x, y, u, k _ (by simp [fp3]) _ hto⟩, h1.at fun o q => k _ (by simp [fp3]) o q, h2.at fun o q => k _ (by simp [fp3]) o q, h3.at fun o q => k _ (by simp [fp3]) o q⟩
  item := by
    intro X hP hw hK hcalm i pins s σ H E J hf st hg
    subst hP hw hK
    obtain ⟨xs, ys, zs, qa, qb, qc, hlt⟩ := hg
    obtain ⟨ia, ra, pa, _⟩ := J.tuple qa
    obtain ⟨ib, rb, pb, _⟩ := J.tuple qb
    obtain ⟨ic, rc, pc, _⟩ := J.tuple qc
    have la := ra.length
    have lb := rb.length
    have lc := rc.length
    have hh : X.A.in1.handled = none := J.ok.hd hcalm
    have W := GoesN.zip3 (prog := X.prog) (w := X.w) (A := X.A) (elts := elts) (x1 := kk) (pos := tpos) (sep3 ha hb hc) (Draws.tuple hh I a (Nat.ne_of_lt ha) ia.toArray) (Draws.tuple hh (I + 1) b (Nat.ne_of_lt (Nat.lt_succ_of_lt hb)) ib.toArray) (Draws.tuple hh (I + 2) c (Nat.ne_of_lt (Nat.lt_succ_of_lt (Nat.lt_succ_of_lt hc))) ic.toArray)
    obtain ⟨hz, hti, hto, h1, h2, h3⟩ := st
    have old : ∀ d ∈ fp3 I, d < s.heap.objs.size := fun d hd => fp3_lt hd (Heap.lt_size hz)
    refine W.goes i s _ _ (by simp only [List.size_toArray]; omega) ⟨hz, hti, hto, ⟨h1, pa⟩, ⟨h2, pb⟩, h3, pc⟩ fun v h' tk y st' hk htk => ?_
    obtain ⟨T, x, y, u, rfl, hT, hx, hy, hu, hTup⟩ := y
    obtain ⟨vx, ex, rx⟩ := vals_at ra hx
    obtain ⟨vy, ey, ry⟩ := vals_at rb hy
    obtain ⟨vu, eu, ru⟩ := vals_at rc hu
    obtain ⟨hz', hti', hto', ⟨h1', _⟩, ⟨h2', _⟩, h3', _⟩ := st'
    have new : ObjOk X.prog X.w (upd H T (.tup [vx, vy, vu])) h' T (.tup [vx, vy, vu]) :=
      ⟨by show 3 ≤ sizeLine; decide, [x, y, u], .cons rx (.cons ry (.cons ru .nil)), hTup⟩
    have J1 := J.turnedNew (t' := tk) (ch := fp3 I) (T := T) (fun d o hd q => hk d o (fp3_nin hd) q) hf hT new
    refine ⟨.ref T, _, J1, rfl, ⟨T, vx, vy, vu, rfl, J.hok.fresh hT, rfl, fun l hl => by rw [J.tuple_inj hl qa]; exact ex, fun l hl => by rw [J.tuple_inj hl qb]; exact ey, fun l hl => by rw [J.tuple_inj hl qc]; exact eu⟩, ⟨hz', hti', hto', h1', h2', h3'⟩, fun d hd => ?_⟩
    rw [upd_ne (Nat.ne_of_lt (Nat.lt_of_lt_of_le (old d hd) hT))]
    exact (hf d hd).1
  done := by
    intro X hP hw hK hcalm i pins s σ H E J hf st hg
    subst hP hw hK
    obtain ⟨xs, ys, zs, qa, qb, qc, he⟩ := hg
    obtain ⟨ia, ra, pa, _⟩ := J.tuple qa
    obtain ⟨ib, rb, pb, _⟩ := J.tuple qb
    obtain ⟨ic, rc, pc, _⟩ := J.tuple qc
    have la := ra.length
    have lb := rb.length
    have lc := rc.length
    have hh : X.A.in1.handled = none := J.ok.hd hcalm
    have W := GoesN.zip3 (prog := X.prog) (w := X.w) (A := X.A) (elts := elts) (x1 := kk) (pos := tpos) (sep3 ha hb hc) (Draws.tuple hh I a (Nat.ne_of_lt ha) ia.toArray) (Draws.tuple hh (I + 1) b (Nat.ne_of_lt (Nat.lt_succ_of_lt hb)) ib.toArray) (Draws.tuple hh (I + 2) c (Nat.ne_of_lt (Nat.lt_succ_of_lt (Nat.lt_succ_of_lt hc))) ic.toArray)
    obtain ⟨hz, hti, hto, h1, h2, h3⟩ := st
    have ei : i = min (min ia.toArray.size ib.toArray.size) ic.toArray.size := by simp only [List.size_toArray]; omega
    refine W.stops s _ _ (by rw [← ei]; exact ⟨hz, hti, hto, ⟨h1, pa⟩, ⟨h2, pb⟩, h3, pc⟩) fun h' tk hk htk => ?_
    exact J.turnedL (t' := tk) (ch := fp3 I) (fun d o hd q => hk d o (fp3_nin hd) q) hf
  self := fun A i s Q E st h => wpAny_pyIter_zip st.z h
def iZip3 (K : PySem.W.Frag) (ta : TA) : TI := fun σ H R => ta σ H fun vs H1 => ∃ a b c xs ys zs, vs = [.ref a, .ref b, .ref c] ∧ SqT K H1 a xs ∧ SqT K H1 b ys ∧ SqT K H1 c zs ∧ R (It3 K a b c) H1
theorem pi_zip3 {X : Cx} {e e2 e3 : Expr} {ta : TA} {p pos tpos : Pos} {elts : List Expr} {kk : Nat} (hg : Gl X "zip") (hm : X.mg "zip" = none) (ha : PA X [e, e2, e3] ta)
    (hs : starEach [e, e2, e3] X.env = (false, eval e X.env) :: starEach [e2, e3] X.env := by rfl) (hpl : (backTo pos (starEach [e2, e3] X.env)).any (·.1) = false := by rfl) :
    PI X (.Tuple elts kk tpos) (.Call (.Name "zip" p) [e, e2, e3] [] pos) (iZip3 X.K ta) := by
  refine ⟨fun pins s σ H R I h => ?_⟩
  refine Call_ (ld_blt I hg hm PyProof.Rows.boot_zip (PyProof.Rows.callWith_type1 (thn (ha.run pos pins s σ H _ I h) fun us s1 ⟨vs, H1, J, r1, a, b, c, xs, ys, zs, ex, qa, qb, qc, q⟩ => ?_) hs hpl))
  subst ex
  cases r1 with
  | cons r rr =>
    cases rr with
    | cons r' rr =>
      cases rr with
      | cons r'' rr =>
        cases rr
        cases r
        cases r'
        cases r''
        obtain ⟨ia, ra, pa, _⟩ := J.tuple qa
        obtain ⟨ib, rb, pb, _⟩ := J.tuple qb
        obtain ⟨ic, rc, pc, _⟩ := J.tuple qc
        obtain ⟨o1, ho1, _⟩ := id pa
        obtain ⟨o2, ho2, _⟩ := id pb
        obtain ⟨o3, ho3, _⟩ := id pc
        refine zip_begins3 (begins_tuple a ia.toArray) (begins_tuple b ib.toArray) (begins_tuple c ic.toArray) pa pb pc fun h' hz hti hto g1 g2 g3 hsz hk => wpAny_pyIter_zip hz ?_
        have J2 : Inv X pins σ H1 { s1 with heap := h' } := J.kept (t' := s1.toks) hk
        refine ⟨s1.heap.objs.size + 5, fp3 s1.heap.objs.size, _, _, H1, rfl, J2, turn3 (Heap.lt_size ho1) (Heap.lt_size ho2) (Heap.lt_size ho3), ⟨hz, hti, ⟨_, _, _, hto⟩, ⟨_, g1, rfl, rfl⟩, ⟨_, g2, rfl, rfl⟩, ⟨_, g3, rfl, rfl⟩⟩, fun d hd => ?_, q⟩
        have hle : s1.heap.objs.size ≤ d := fp3_le hd
        exact J.fpOk hle (J.hok.fresh hle)
theorem for_zip3 {K : PySem.W.Frag} {a b c : Addr} {xs ys zs : List V} {g : TG} {tb : TS} {D : Ends} {σ : L2.St} {H : Hp} (l1 : ys.length = xs.length) (l2 : zs.length = xs.length) (Pv : Nat → L2.St → Hp → Prop) (h0 : Pv 0 σ H) (hq : ∀ i σ H, Pv i σ H → SqT K H a xs ∧ SqT K H b ys ∧ SqT K H c zs)
    (hs : ∀ (i : Nat) (x y z : V) (T : Addr) (σ : L2.St) (H : Hp), xs[i]? = some x → ys[i]? = some y → zs[i]? = some z → Pv i σ H → H T = none → g (.ref T) σ (upd H T (.tup [x, y, z])) fun σ2 H2 => tb { D with nx := Pv (i + 1), ct := Pv (i + 1), bk := D.nx } σ2 H2)
    (hd : ∀ σ H, Pv xs.length σ H → D.nx σ H) :
    ∃ W : Nat → Nat → L2.St → Hp → Prop, (∃ m, W 0 m σ H) ∧ ∀ i m σ H, W i m σ H →
      ((It3 K a b c).stop i H ∧ D.nx σ H) ∨ ((It3 K a b c).go i H ∧ ∃ N : L2.St → Hp → Prop, (∀ σ' H', N σ' H' → ∃ m', m' < m ∧ W (i + 1) m' σ' H') ∧ ∀ v H', (It3 K a b c).yld i H v H' → g v σ H' fun σ2 H2 => tb { D with nx := N, ct := N, bk := D.nx } σ2 H2) := by
  refine ⟨fun i m σ H => m + i = xs.length ∧ Pv i σ H, ⟨xs.length, rfl, h0⟩, ?_⟩
  rintro i m σ H ⟨em, p⟩
  obtain ⟨qa, qb, qc⟩ := hq i σ H p
  by_cases hlt : i < xs.length
  · refine .inr ⟨⟨xs, ys, zs, qa, qb, qc, by omega⟩, Pv (i + 1), fun σ' H' p' => ⟨m - 1, by omega, by omega, p'⟩, ?_⟩
    rintro v H' ⟨T, x, y, z, rfl, hT, rfl, f1, f2, f3⟩
    exact hs i x y z T σ H (f1 xs qa) (f2 ys qb) (f3 zs qc) p hT
  · have e : i = xs.length := by omega
    subst e
    exact .inl ⟨⟨xs, ys, zs, qa, qb, qc, by omega⟩, hd σ H p⟩
end Nl

namespace Nl
open PySem PySem.Spec PyProof.Rows L2
/-! ### dicts whose keys are tuples, by a comprehension without tests -/
theorem put_tup {X : Cx} {pins : List (Addr × Obj)} {τ : L2.St} {H : Hp} {t : Shared} {F : Value → Shared → Prop} {D b : Addr} {kvs : List (List Key × V)} {k : List Key} {v : V} {r : Value} {R : Unit → Shared → Prop} (hu : X.A.units < cLine) (I : Inv X pins τ H t)
    (hD : H D = some (.dT kvs)) (hb : H b = some (.tup (k.map kV))) (hl : kvs.length < sizeLine) (rv : RelV v r) (fin : ∀ t', Inv X pins τ (upd H D (.dT (putK kvs k v))) t' → R () t') : wpAny (model X.prog X.w) X.A (dictSet D (.ref b) r) R F t := by
  obtain ⟨big, sys, xs, rel, dd⟩ := dt_of I.hok hD
  have hxs : xs.length ≤ sizeLine := by rw [← Paired.length rel]; exact big
  have grown := length_putK kvs k v
  refine wpAny_dictSet_heap (hsz := hxs) hu (key_of I.hok hb) dd (fun h' dd' sb => fin _ ?_)
  obtain ⟨q, es, ep, hq, a2, a3, a4, _, a5⟩ := dd'
  have kept : KT (upd H D (.dT (putK kvs k v))) (putK kvs k v) _ := (rel.put k hb rv).keeps fun c ys ec => by
    rw [upd_ne (ne_of ec hD (fun z => nomatch z))]
    exact ec
  exact d_write I (by rw [hD]; exact True.intro) sb ⟨q, hq⟩ ⟨by omega, sys, _, kept, q, es, ep, hq, a2, a3, a4, a5⟩
/-- {k: v for target in iter}: D the new dict -/
def tDcT (wi : TI) (g : TG) (tk tv : TE) (vs : List Nat) : TE := fun σ H Q => wi σ H fun J H1 => ∀ D, H1 D = none → ∃ W : Nat → Nat → Hp → Prop, (∃ m, W 0 m (upd H1 D (.dT []))) ∧ ∀ i m H, W i m H →
  (J.stop i H ∧ Q (.ref D) H) ∨ (J.go i H ∧ ∃ Nx : Hp → Prop, (∀ H', Nx H' → ∃ m', m' < m ∧ W (i + 1) m' H') ∧ ∀ x H', J.yld i H x H' → g x (wipe σ vs) H' fun σ2 H2 => wipe σ2 vs = wipe σ vs ∧
    tk σ2 H2 fun y H4 => tv σ2 H4 fun z H5 => ∃ kvs k b, y = .ref b ∧ H5 D = some (.dT kvs) ∧ H5 b = some (.tup (k.map kV)) ∧ kvs.length < sizeLine ∧ Nx (upd H5 D (.dT (putK kvs k z))))
theorem dcT_core {X : Cx} {pins : List (Addr × Obj)} {t0 : Shared} {τ : L2.St} {G : Hp} {Q : VK} {kx vx tg iter : Expr} {scope : Scope} {own : List (Str × Nat)} {pos pos' : Pos} {wi : TI} {g : TG} {tk tv : TE} {use : Option (Value → Sem Unit)} {Qf : Value → Shared → Prop}
    (calm : X.calm = true) (hu : X.A.units < cLine) (nd : X.N.Nodup) (I : Inv X pins τ G t0) (src : PI X tg iter wi) (ok : BlkOk X.N X.env.scope scope own)
    (ptg : ∀ (s : Shared) (H : Hp) (C : Addr) (cl : List (Str × Addr)) (fp : List Addr), PG (X.blk s H scope (compEnvC scope cl C X.env) fp) tg g)
    (pkey : ∀ (s : Shared) (H : Hp) (C : Addr) (cl : List (Str × Addr)) (fp : List Addr), PE (X.blk s H scope (compEnvC scope cl C X.env) fp) kx tk)
    (pval : ∀ (s : Shared) (H : Hp) (C : Addr) (cl : List (Str × Addr)) (fp : List Addr), PE (X.blk s H scope (compEnvC scope cl C X.env) fp) vx tv) (fold : ∀ x, foldedSetIterable iter X.env x = pure x)
    (goal : tDcT wi g tk tv (own.map (·.2)) τ G Q)
    (post : ∀ D C s' m H', Inv X pins τ H' s' → Q (.ref D) H' → s'.heap.Ns C m → FpOk X pins H' C → compPost (model X.prog X.w) X.A X.xe use Qf (.ref D) C (.ok .next) s') :
    wpAny (model X.prog X.w) X.A (comprehension (.DictComp kx vx [⟨tg, iter, [], 0⟩] scope pos) scope X.env pos' newDict false (eval iter X.env) use) Qf X.xe t0 := by
  have clos : ∀ y ∈ scope.names, y.2 = .free → ∃ c, X.env.cells.lookup y.1 = some c := fun y hy e => (ok.free y hy e).elim (fun k => I.ok.has _ (.inl k)) fun k => I.ok.has _ (.inr k)
  refine wpAny_comprehension_free (use := use) rfl fold (closure_ok clos) ok.kind (fun y hy e => by rw [ok.uniq y hy, e]) (thn (src.run pins t0 τ G _ I goal) fun itv t1 h1 => thn h1 fun itw t2 h2 => ?_)
  obtain ⟨it, fp, tn, J, G2, rfl, I2, turn, st2, f2, q⟩ := h2
  refine wpAny_newObj_type (newEnv_comp ?_)
  generalize eD : t2.heap.objs.size = D
  have newD : G2 D = none := I2.hok.fresh (Nat.le_of_eq eD)
  obtain ⟨W, ⟨m0, w0⟩, steps⟩ := q D newD
  generalize e3 : ({ t2 with heap := t2.heap.push { cls := .type "dict", data := .dict #[] } } : Shared) = t3
  have h3 : t3.heap = t2.heap.push { cls := .type "dict", data := .dict #[] } := by rw [← e3]
  have I3 : Inv X pins τ (upd G2 D (.dT [])) t3 := by
    subst e3 eD
    exact I2.laid (t' := t2.toks) (fun b o e => Heap.get?_push_of_some _ e) (Nat.le_refl _) (dt_empty t2.heap I2.big)
  have below : ∀ b ∈ fp, b < t2.heap.objs.size := fun b hb => (turn.obj _ _ st2 b hb).elim fun o e => Heap.lt_size e.1
  have f3 : ∀ b ∈ fp, FpOk X pins (upd G2 D (.dT [])) b ∧ b < t3.heap.objs.size := fun b hb => by
    refine ⟨⟨?_, (f2 b hb).2⟩, ?_⟩
    · rw [upd_ne (by rw [← eD]; exact Nat.ne_of_lt (below b hb))]
      exact (f2 b hb).1
    · rw [h3, Heap.size_push]
      exact Nat.lt_succ_of_lt (below b hb)
  have st3 : tn 0 t3.heap := turn.keep _ _ _ st2 fun b _ o e => by rw [h3]; exact Heap.get?_push_of_some _ e
  have I4 := block_start I3 ok nd f3
  have pt := ptg t3 (upd G2 D (.dT [])) t3.heap.objs.size (cellsFrom (t3.heap.objs.size + 1) scope.names (cloFrom X.env.cells scope.names [])) fp
  have pk := pkey t3 (upd G2 D (.dT [])) t3.heap.objs.size (cellsFrom (t3.heap.objs.size + 1) scope.names (cloFrom X.env.cells scope.names [])) fp
  have pv' := pval t3 (upd G2 D (.dT [])) t3.heap.objs.size (cellsFrom (t3.heap.objs.size + 1) scope.names (cloFrom X.env.cells scope.names [])) fp
  show codeAny _ _ (.compStart (.DictComp kx vx [⟨tg, iter, [], 0⟩] scope pos) 0 (.ref it) (.ref D) (compEnvC scope (cellsFrom (t3.heap.objs.size + 1) scope.names (cloFrom X.env.cells scope.names [])) t3.heap.objs.size X.env)) (compPost (model X.prog X.w) X.A X.xe use Qf (.ref D) t3.heap.objs.size) { t3 with heap := pushCells (t3.heap.push { cls := .type "dict", data := .dict #[] }) scope.names }
  have none3 : ∀ b ∈ fp, (upd G2 D (.dT [])) b = none := fun b hb => (f3 b hb).1.1
  generalize eC : compEnvC scope (cellsFrom (t3.heap.objs.size + 1) scope.names (cloFrom X.env.cells scope.names [])) t3.heap.objs.size X.env = ce at I4 pt pk pv' ⊢
  have loc : ce.locals = t3.heap.objs.size := by subst eC; rfl
  generalize eG : upd G2 D (.dT []) = G3 at I3 I4 pt pk pv' w0 none3 f3
  generalize e4 : ({ t3 with heap := pushCells (t3.heap.push { cls := .type "dict", data := .dict #[] }) scope.names } : Shared) = t4 at I4 ⊢
  have st4 : tn 0 t4.heap := turn.keep _ _ _ st3 fun b _ o e => by rw [← e4]; exact pushCells_keeps _ _ _ _ (Heap.get?_push_of_some _ e)
  have live : ∀ {τ' : L2.St} {H' : Hp} {s' : Shared}, Inv (X.blk t3 G3 scope ce fp) [] τ' H' s' → (∀ b ∈ fp, H' b = none) → ∀ b ∈ fp, FpOk (X.blk t3 G3 scope ce fp) [] H' b := fun {τ' H' s'} K' n b hb => by
    refine ⟨n b hb, (K'.ok.exf b hb).1, K'.ok.exfs b hb, .inl hb, fun x c e => (K'.ok.exf b hb).2 x c e, ?_⟩
    intro p hp
    exact absurd (show p ∈ ([] : List (Addr × Obj)) ++ [] from hp) (by simp)
  have loop : codeAny (model X.prog X.w) X.A (.compLoop (.DictComp kx vx [⟨tg, iter, [], 0⟩] scope pos) 0 (.ref it) (.ref D) ce) (compPost (model X.prog X.w) X.A X.xe use Qf (.ref D) t3.heap.objs.size) t4 := by
    refine compLoop_anyD (fun n s' => ∃ i H', Inv (X.blk t3 G3 scope ce fp) [] (wipe τ (own.map (·.2))) H' s' ∧ tn i s'.heap ∧ (∀ b ∈ fp, H' b = none) ∧ W i n H') ?_ m0 ⟨0, G3, I4, st4, none3, w0⟩
    rintro n s5 ⟨i, H5, I5, st5, n5, w5⟩
    rcases steps i n H5 w5 with ⟨stop, qq⟩ | ⟨go, Nx, hNx, step⟩
    · refine thnF (turn.done (X.blk t3 G3 scope ce fp) rfl rfl rfl calm i [] s5 _ H5 (fun _ _ => False) I5 (live I5 n5) st5 stop) fun r s6 ⟨er, I6⟩ => ?_
      subst er
      have back : Inv X pins τ H5 s6 := I3.call' (ch := fp) I6.os I6.base I6.hok I6.bare fun b hb => ⟨(f3 b hb).1.2.2.2.1, (f3 b hb).1.2.1, (f3 b hb).1.2.2.2.2.1, (f3 b hb).1.2.2.2.2.2⟩
      have nC : H5 t3.heap.objs.size = none := by rw [← loc]; exact I6.free
      obtain ⟨m, hn, _⟩ := I6.loc
      refine post D t3.heap.objs.size s6 m H5 back qq ?_ (I3.fpOk (Nat.le_refl _) nC)
      rw [← loc]
      exact hn
    · refine thnF (turn.item (X.blk t3 G3 scope ce fp) rfl rfl rfl calm i [] s5 _ H5 (fun _ _ => False) I5 (live I5 n5) st5 go) fun r s6 ⟨u, er, h6⟩ => ?_
      subst er
      refine thnF h6 fun _ s7 ⟨x, H7, I7, r7, y7, st7, n7⟩ => ?_
      have I7p := I7.pinned (live I7 n7) (turn.obj _ _ st7)
      refine thnF (pt.run _ s7 _ H7 x u _ I7p r7 (step x H7 y7)) fun _ s8 ⟨τ8, H8, I8, hw8, q8⟩ => ?_
      have fin : ∀ {s' : Shared} {H' : Hp}, Inv (X.blk t3 G3 scope ce fp) ([] ++ pinsAt fp s7.heap) τ8 H' s' → Nx H' → ∃ m, m < n ∧ ∃ i H', Inv (X.blk t3 G3 scope ce fp) [] (wipe τ (own.map (·.2))) H' s' ∧ tn i s'.heap ∧ (∀ b ∈ fp, H' b = none) ∧ W i m H' := fun {s' H'} I' nx => by
        obtain ⟨m', hm, w'⟩ := hNx H' nx
        have pin : ∀ b ∈ fp, ∀ o, s7.heap.get? b = some o → s'.heap.get? b = some o ∧ H' b = none := fun b hb o e => by
          have z := I'.pin (b, o) (List.mem_append_right _ (List.mem_append_right _ (mem_pinsAt hb e)))
          exact ⟨z.1, z.2.1⟩
        refine ⟨m', hm, i + 1, H', (I'.unpinned (pins := [])).weak (by rw [← hw8, wipe_length]) (fun j v e => ?_), turn.keep _ _ _ st7 fun b hb o e => (pin b hb o e).1, fun b hb => ?_, w'⟩
        · rw [← hw8] at e
          exact (wipe_some e).1
        · exact (turn.obj _ _ st7 b hb).elim fun o e => (pin b hb o e.1).2
      refine wpAny_pure ?_
      simp only [if_true]
      refine thnF (pk.run _ s8 τ8 H8 _ I8 q8) fun kv s10 ⟨yk, H10, I10, r10, q10⟩ => ?_
      refine thnF (pv'.run _ s10 τ8 H10 _ I10 q10) fun vv s11 ⟨yv, H11, I11, r11, kvs, k, b, ek, hD11, hb11, hz11, nx⟩ => ?_
      subst ek
      cases (show kv = Value.ref b from r10)
      exact put_tup (X := X.blk t3 G3 scope ce fp) hu I11 hD11 hb11 hz11 r11 fun s12 I12 => fin I12 nx
  exact codeAny_compStart_dict loop (turn.self X.A 0 _ _ _ st4 loop)
theorem pe_dcT {X : Cx} {kx vx tg iter : Expr} {scope : Scope} {own : List (Str × Nat)} {pos : Pos} {wi : TI} {g : TG} {tk tv : TE} (calm : X.calm = true) (hu : X.A.units < cLine) (nd : X.N.Nodup) (src : PI X tg iter wi) (ok : BlkOk X.N X.env.scope scope own)
    (ptg : ∀ (s : Shared) (H : Hp) (C : Addr) (cl : List (Str × Addr)) (fp : List Addr), PG (X.blk s H scope (compEnvC scope cl C X.env) fp) tg g)
    (pkey : ∀ (s : Shared) (H : Hp) (C : Addr) (cl : List (Str × Addr)) (fp : List Addr), PE (X.blk s H scope (compEnvC scope cl C X.env) fp) kx tk)
    (pval : ∀ (s : Shared) (H : Hp) (C : Addr) (cl : List (Str × Addr)) (fp : List Addr), PE (X.blk s H scope (compEnvC scope cl C X.env) fp) vx tv) (fold : ∀ x, foldedSetIterable iter X.env x = pure x := by intro _; rfl) :
    PE X (.DictComp kx vx [⟨tg, iter, [], 0⟩] scope pos) (tDcT wi g tk tv (own.map (·.2))) := by
  refine ⟨fun pins s τ H Q I goal => ?_⟩
  rw [arm_eval_DictComp]
  refine dcT_core calm hu nd I src ok ptg pkey pval fold goal fun D C s' m H' J q hn f => ⟨m, hn, fun h'' sb => ?_⟩
  obtain ⟨f0, f1, f2, f3, f4, f5⟩ := f
  exact ⟨.ref D, H', J.turned (t' := s'.toks) (fun b o hb e => (sb.2 b hb).trans e) f0 f1 f3 f4 f5, rfl, q⟩
/-- name = {..} on one line, the name a local -/
theorem ps_setDcT {X : Cx} {i : Nat} {y : Str} {py : Pos} {kx vx tg iter : Expr} {scope : Scope} {own : List (Str × Nat)} {pos spos : Pos} {wi : TI} {g : TG} {tk tv : TE} (calm : X.calm = true) (hu : X.A.units < cLine) (nd : X.N.Nodup) (at_ : X.N[i]? = some y) (kind : X.env.scope.names.lookup y = some .local)
    (sw : swapsWith (.DictComp kx vx [⟨tg, iter, [], 0⟩] scope pos) (some (.Name y py)) spos.line X.env = pure true) (src : PI X tg iter wi) (ok : BlkOk X.N X.env.scope scope own)
    (ptg : ∀ (s : Shared) (H : Hp) (C : Addr) (cl : List (Str × Addr)) (fp : List Addr), PG (X.blk s H scope (compEnvC scope cl C X.env) fp) tg g)
    (pkey : ∀ (s : Shared) (H : Hp) (C : Addr) (cl : List (Str × Addr)) (fp : List Addr), PE (X.blk s H scope (compEnvC scope cl C X.env) fp) kx tk)
    (pval : ∀ (s : Shared) (H : Hp) (C : Addr) (cl : List (Str × Addr)) (fp : List Addr), PE (X.blk s H scope (compEnvC scope cl C X.env) fp) vx tv) (fold : ∀ x, foldedSetIterable iter X.env x = pure x := by intro _; rfl) :
    PS X (.Assign [.Name y py] (.DictComp kx vx [⟨tg, iter, [], 0⟩] scope pos) spos) (tAsg (tDcT wi g tk tv (own.map (·.2))) (gName i)) := by
  refine ⟨fun pins s τ H D I goal => ?_⟩
  rw [exec_Assign_Name_used _ _ _ _ sw]
  refine wpAny_bind (wpAny_standAt (wpAny_bind ?_))
  show wpAny _ X.A (do let _ ← comprehension (.DictComp kx vx [⟨tg, iter, [], 0⟩] scope pos) scope X.env (firstIterPos [⟨tg, iter, [], 0⟩] pos) newDict false (eval iter X.env) (some (assign (.Name y py) X.env))) _ _ s
  have goal : tDcT wi g tk tv (own.map (·.2)) τ H (fun x H1 => gName i x τ H1 D.nx) := goal
  refine wpAny_bind (thn (dcT_core (Qf := fun _ s' => SP X pins D .next s') calm hu nd I src ok ptg pkey pval fold goal fun L C s' m H' J q hn f => ?_) fun _ s' hq => wpAny_pure (wpAny_pure hq))
  show wpAny _ _ (assign (.Name y py) X.env (.ref L)) _ _ _
  refine wpAny_assign_Name (store_ok2 (v := V.ref L) J nd at_ (.inl kind) rfl (fun s2 J2 ⟨a, sb, ha⟩ => ?_) (.inr kind))
  obtain ⟨f0, f1, f2, f3, f4, f5⟩ := f
  have apart : C ≠ a := by
    rcases ha with z | z
    · rw [z]
      exact f1
    · exact fun e => f4 y a z e.symm
  refine ⟨m, hn.sameBut sb apart, fun h3 sb3 => ?_⟩
  exact ⟨_, H', J2.turned (t' := s2.toks) (fun b o hb e => (sb3.2 b hb).trans e) f0 f1 f3 f4 f5, q⟩
theorem sw_dict {kx vx : Expr} {gs : List Comprehension} {scope : Scope} {pos py : Pos} {y : Str} {l : Nat} {env : Env} (kind : env.scope.kind = .function) (loc : env.scope.names.lookup y = some .local) (line : (py.line == pos.line) = true)
    (other : (scope.names.any fun (n, k) => n == y && (k == .local || k == .cell)) = false) : swapsWith (.DictComp kx vx gs scope pos) (some (.Name y py)) l env = pure true := by
  have k1 : env.kindOf y = some .local := loc
  have k2 : env.blockKind = .function := by
    unfold Env.blockKind
    rw [kind]
    rfl
  unfold swapsWith
  simp only [k2, k1, other, Expr.pos, line]
  rfl
end Nl

namespace Nl
open PySem PySem.Spec PyProof.Rows L2
/-! ### keys -/
def keyP (p : List Int) : List Key := p.map Sum.inl
theorem keyP_v (p : List Int) : (keyP p).map kV = p.map V.int := by
  unfold keyP
  rw [List.map_map]
  rfl
theorem keyP_inj {p q : List Int} (h : keyP p = keyP q) : p = q := by
  induction p generalizing q with
  | nil =>
    cases q with
    | nil => rfl
    | cons y ys => cases h
  | cons x xs ih =>
    cases q with
    | nil => cases h
    | cons y ys =>
      have h : (Sum.inl x :: keyP xs : List Key) = Sum.inl y :: keyP ys := h
      injection h with h1 h2
      cases h1
      rw [ih h2]
theorem tp_key {H : Hp} {a : Addr} {p : List Int} (h : Tp H a (p.map V.int)) : H a = some (.tup ((keyP p).map kV)) := by
  rw [keyP_v]
  exact h
/-- the dict at a tells of each path what f tells -/
def DictP (H : Hp) (a : Addr) (m : Nat) (f : List Int → Option V) : Prop := ∃ kvs, H a = some (.dT kvs) ∧ kvs.length ≤ m ∧ ∀ p, valV kvs (keyP p) = f p
theorem DictP.get {H : Hp} {a b : Addr} {m : Nat} {f : List Int → Option V} {p : List Int} (h : DictP H a m f) (hb : Tp H b (p.map V.int)) : DGet H a (.ref b) (f p) := by
  obtain ⟨kvs, e, _, g⟩ := h
  rw [← g p]
  exact DGet.t e (tp_key hb)
theorem DictP.same {H H' : Hp} {a : Addr} {m : Nat} {f : List Int → Option V} (h : DictP H a m f) (s : Same H H') : DictP H' a m f := by
  obtain ⟨kvs, e, g⟩ := h
  exact ⟨kvs, s _ _ e, g⟩
theorem DictP.nil {H : Hp} {a : Addr} (h : H a = some (.dT [])) : DictP H a 0 fun _ => none := ⟨[], h, Nat.le_refl _, fun _ => rfl⟩
theorem DictP.put {H : Hp} {D b : Addr} {m : Nat} {f : List Int → Option V} {p : List Int} {v : V} (h : DictP H D m f) (hl : m < 1000) (hb : Tp H b (p.map V.int)) :
    ∃ kvs k c, V.ref b = .ref c ∧ H D = some (.dT kvs) ∧ H c = some (.tup (k.map kV)) ∧ kvs.length < sizeLine ∧ DictP (upd H D (.dT (putK kvs k v))) D (m + 1) fun q => if q = p then some v else f q := by
  obtain ⟨kvs, e, l, g⟩ := h
  refine ⟨kvs, keyP p, b, rfl, e, tp_key hb, Nat.lt_of_le_of_lt l (Nat.lt_of_lt_of_le hl (by decide)), _, upd_same, ?_, fun q => ?_⟩
  · have := length_putK kvs (keyP p) v
    omega
  · rw [valV_put, g q]
    show _ = if q = p then some v else f q
    by_cases eq : q = p
    · rw [if_pos eq, if_pos (by rw [eq])]
    · rw [if_neg eq, if_neg (fun z => eq (keyP_inj z))]
/-! ### a dict comprehension over a list, over a tuple -/
section
variable {K : PySem.W.Frag} {a D : Addr} {xs : List V} {g : TG} {tk tv : TE} {vs : List Nat} {τ : L2.St} {H1 : Hp} {R : Hp → Prop}
def dcTurn (J : It) (D : Addr) (g : TG) (tk tv : TE) (vs : List Nat) (τ : L2.St) (R : Hp → Prop) (W : Nat → Nat → Hp → Prop) : Prop := ∀ i m H, W i m H →
  (J.stop i H ∧ R H) ∨ (J.go i H ∧ ∃ Nx : Hp → Prop, (∀ H', Nx H' → ∃ m', m' < m ∧ W (i + 1) m' H') ∧ ∀ x H', J.yld i H x H' → g x (wipe τ vs) H' fun σ2 H2 => wipe σ2 vs = wipe τ vs ∧
    tk σ2 H2 fun y H4 => tv σ2 H4 fun z H5 => ∃ kvs k b, y = .ref b ∧ H5 D = some (.dT kvs) ∧ H5 b = some (.tup (k.map kV)) ∧ kvs.length < sizeLine ∧ Nx (upd H5 D (.dT (putK kvs k z))))
theorem dcT_list (Pv : Nat → Hp → Prop) (h0 : Pv 0 (upd H1 D (.dT []))) (hl : ∀ i H, Pv i H → SqL K H a xs)
    (hs : ∀ i x H, xs[i]? = some x → Pv i H → g x (wipe τ vs) H fun σ2 H2 => wipe σ2 vs = wipe τ vs ∧
      tk σ2 H2 fun y H4 => tv σ2 H4 fun z H5 => ∃ kvs k b, y = .ref b ∧ H5 D = some (.dT kvs) ∧ H5 b = some (.tup (k.map kV)) ∧ kvs.length < sizeLine ∧ Pv (i + 1) (upd H5 D (.dT (putK kvs k z))))
    (hd : ∀ H, Pv xs.length H → R H) : ∃ W : Nat → Nat → Hp → Prop, (∃ m, W 0 m (upd H1 D (.dT []))) ∧ dcTurn (Itl K a) D g tk tv vs τ R W := by
  refine ⟨fun i m H => m + i = xs.length ∧ Pv i H, ⟨xs.length, rfl, h0⟩, fun i m H ⟨em, p⟩ => ?_⟩
  by_cases hlt : i < xs.length
  · exact .inr ⟨⟨xs, xs[i], hl i H p, List.getElem?_eq_getElem hlt⟩, Pv (i + 1), fun H' p' => ⟨m - 1, by omega, by omega, p'⟩, fun x H' ⟨e, y⟩ => by
      subst e
      exact hs i x _ (y xs (hl i _ p)) p⟩
  · have e : i = xs.length := by omega
    subst e
    exact .inl ⟨⟨xs, hl _ H p, Nat.le_refl _⟩, hd H p⟩
theorem dcT_tup (Pv : Nat → Hp → Prop) (h0 : Pv 0 (upd H1 D (.dT []))) (hl : ∀ i H, Pv i H → SqT K H a xs)
    (hs : ∀ i x H, xs[i]? = some x → Pv i H → g x (wipe τ vs) H fun σ2 H2 => wipe σ2 vs = wipe τ vs ∧
      tk σ2 H2 fun y H4 => tv σ2 H4 fun z H5 => ∃ kvs k b, y = .ref b ∧ H5 D = some (.dT kvs) ∧ H5 b = some (.tup (k.map kV)) ∧ kvs.length < sizeLine ∧ Pv (i + 1) (upd H5 D (.dT (putK kvs k z))))
    (hd : ∀ H, Pv xs.length H → R H) : ∃ W : Nat → Nat → Hp → Prop, (∃ m, W 0 m (upd H1 D (.dT []))) ∧ dcTurn (Itt K a) D g tk tv vs τ R W := by
  refine ⟨fun i m H => m + i = xs.length ∧ Pv i H, ⟨xs.length, rfl, h0⟩, fun i m H ⟨em, p⟩ => ?_⟩
  by_cases hlt : i < xs.length
  · exact .inr ⟨⟨xs, xs[i], hl i H p, List.getElem?_eq_getElem hlt⟩, Pv (i + 1), fun H' p' => ⟨m - 1, by omega, by omega, p'⟩, fun x H' ⟨e, y⟩ => by
      subst e
      exact hs i x _ (y xs (hl i _ p)) p⟩
  · have e : i = xs.length := by omega
    subst e
    exact .inl ⟨⟨xs, hl _ H p, Nat.le_refl _⟩, hd H p⟩
end
/-! ### order of paths -/
theorem lexAt_le (a b : List Int) : ∀ (xs ys : List Int) (i : Nat), i = a.length → a.length = b.length →
    Ob.lexAt (fun j => decide ((a ++ xs).getD j 0 = (b ++ ys).getD j 0)) (fun j => decide ((a ++ xs).getD j 0 ≤ (b ++ ys).getD j 0)) (decide ((a ++ xs).length ≤ (b ++ ys).length)) i (min xs.length ys.length) = !HT.lexLt ys xs := by
  intro xs
  induction xs generalizing a b with
  | nil =>
    intro ys i hi hab
    have hm : min ([] : List Int).length ys.length = 0 := by simp
    rw [hm, Ob.lexAt_zero]
    cases ys with
    | nil => simp [HT.lexLt, hab]
    | cons y ys => simp [HT.lexLt, hab]
  | cons x xs ih =>
    intro ys i hi hab
    cases ys with
    | nil =>
      have hm : min (x :: xs).length ([] : List Int).length = 0 := by simp
      rw [hm, Ob.lexAt_zero]
      simp [HT.lexLt, hab]
    | cons y ys =>
      have hm : min (x :: xs).length (y :: ys).length = min xs.length ys.length + 1 := by simp
      have e1 : (a ++ x :: xs).getD i 0 = x := by subst hi; simp
      have e2 : (b ++ y :: ys).getD i 0 = y := by rw [hi, hab]; simp
      rw [hm, Ob.lexAt_succ, e1, e2, HT.lexLt_cons]
      by_cases e : x = y
      · have h := ih (a ++ [x]) (b ++ [y]) ys (i + 1) (by simp [hi]) (by simp [hab])
        simp only [List.append_assoc, List.singleton_append] at h
        rw [if_pos (decide_eq_true e), if_pos e.symm]
        exact h
      · rw [if_neg (by simpa using e), if_neg (fun z => e z.symm)]
        by_cases l : x ≤ y
        · rw [decide_eq_true l, decide_eq_false (by omega)]
          rfl
        · rw [decide_eq_false l, decide_eq_true (by omega)]
          rfl
def rLeP (K : PySem.W.Frag) : R2 := fun x y H Q => ∃ (a b : Addr) (p q : List Int), x = .ref a ∧ y = .ref b ∧ SqT K H a (p.map V.int) ∧ SqT K H b (q.map V.int) ∧ Q (.bl (!HT.lexLt q p)) H
theorem op_leP {X : Cx} (hu : X.A.units < cLine) : OpR X (compareOp .LtE) (rLeP X.K) := OpR.imp (op_leT hu) fun x y H Q ⟨a, b, p, q, ex, ey, ha, hb, h⟩ => ⟨a, b, p, q, ex, ey, ha, hb, by
  have := lexAt_le [] [] p q 0 rfl rfl
  simp only [List.nil_append] at this
  rw [this]
  exact h⟩
/-! ### plans -/
abbrev Q2 := Int × Int
def fracsD (l : List Q2) : PyData := .tuple (l.map frD)
abbrev PE2 := List Int × List Q2
def pentD (e : PE2) : PyData := .tuple [pathD e.1, fracsD e.2]
def planD (l : List PE2) : PyData := .tuple (l.map pentD)
/-- the j-th pair of a plan is as it must be -/
def okAt (n : Node) (g : Int) (l : List PE2) (j : Nat) : Prop := ∀ e, l[j]? = some e →
  (∃ x ∈ pre [] n, x.1 = e.1) ∧ (∀ i f, j = i + 1 → l[i]? = some f → HT.lexLt f.1 e.1 = true) ∧ (e.2.length : Int) = g - 1
def PlanOk (n : Node) (g : Int) (l : List PE2) : Prop := ∀ j, okAt n g l j
def pick (a : Q2) (p : Pr) : Q2 := if 0 < a.1 then p.1 else p.2
def moneyF (m : Q2) (l : List (Q2 × Pr)) : Q2 := l.foldl (fun m x => subF m (mulF x.1 (pick x.1 x.2))) m
def tradeF (h : List Q2) (ps : List Pr) (am : List Q2) : List Q2 := moneyF (h.headD (0, 1)) (am.zip ps) :: List.zipWith addF h.tail am
theorem cmp_pos (a : Q2) : 0 < cmpF a (0, 1) ↔ 0 < a.1 := by
  unfold cmpF
  simp only [Int.mul_one, Int.zero_mul]
  by_cases h : a.1 < 0
  · rw [if_pos h]
    omega
  · rw [if_neg h]
    by_cases h' : 0 < a.1
    · rw [if_pos h']
      omega
    · rw [if_neg h']
      omega
theorem pick_ok {a : Q2} {p : Pr} {k : Nat} (h : PrK k p) : Ok k (pick a p) := by
  unfold pick
  split
  · exact h.1
  · exact h.2
theorem moneyF_ok {k : Nat} : ∀ (l : List (Q2 × Pr)) (m : Q2), Ok k m → (∀ x ∈ l, Ok 10 x.1 ∧ PrK 201 x.2) → Ok (k + 212 * l.length) (moneyF m l)
  | [], m, h, _ => h
  | x :: l, m, h, hl => by
    have h0 := hl x (by simp)
    have h1 := subF_ok h (mulF_ok h0.1 (pick_ok h0.2 (a := x.1)) (Nat.le_refl _)) (n := k + 212) (by omega)
    have := moneyF_ok (k := k + 212) l _ h1 fun y hy => hl y (List.mem_cons_of_mem _ hy)
    refine Ok.mono (show Ok (k + 212 + 212 * l.length) (moneyF m (x :: l)) from this) ?_
    simp only [List.length_cons]
    omega
theorem moneyF_snoc (m : Q2) (l : List (Q2 × Pr)) (x : Q2 × Pr) : moneyF m (l ++ [x]) = subF (moneyF m l) (mulF x.1 (pick x.1 x.2)) := by
  unfold moneyF
  rw [List.foldl_append]
  rfl
theorem tradeF_ok {k : Nat} {h : List Q2} {ps : List Pr} {am : List Q2} (hh : ∀ x ∈ h, Ok k x) (h0 : 0 < h.length) (hp : ∀ p ∈ ps, PrK 201 p) (ha : ∀ a ∈ am, Ok 10 a) (hl : am.length ≤ 3) : ∀ x ∈ tradeF h ps am, Ok (k + 636) x := by
  intro x hx
  rcases List.mem_cons.mp hx with rfl | hx
  · have hd : Ok k (h.headD (0, 1)) := by
      cases h with
      | nil => simp at h0
      | cons a r => exact hh a (by simp)
    have := moneyF_ok (am.zip ps) _ hd fun y hy => ⟨ha _ (List.of_mem_zip hy).1, hp _ (List.of_mem_zip hy).2⟩
    refine this.mono ?_
    have : (am.zip ps).length ≤ am.length := by simp; omega
    omega
  · obtain ⟨i, hi, rfl⟩ := List.mem_iff_getElem.mp hx
    rw [List.getElem_zipWith]
    refine addF_ok (hh _ (List.mem_of_mem_tail (List.getElem_mem _))) (ha _ (List.getElem_mem _)) (by omega)
theorem tradeF_len {h : List Q2} {ps : List Pr} {am : List Q2} (hl : h.length = am.length + 1) : (tradeF h ps am).length = am.length + 1 := by
  unfold tradeF
  simp
  omega
/-! ### what is held at an end -/
def psAt (n : Node) (p : List Int) : List Pr := ((find n p).map Node.ps).getD []
def look (l : List PE2) (p : List Int) : Option (List Q2) := (l.find? fun e => decide (e.1 = p)).map (·.2)
def stepT (n : Node) (l : List PE2) (e : List Int) (h : List Q2) (t : Nat) : List Q2 := match look l (e.take t) with
  | some am => tradeF h (psAt n (e.take t)) am
  | none => h
def heldF (n : Node) (l : List PE2) (e : List Int) (h : List Q2) : Nat → List Q2
  | 0 => h
  | t + 1 => stepT n l e (heldF n l e h t) t
def stepL (n : Node) (e : List Int) (h : List Q2) (x : PE2) : List Q2 := if e.take x.1.length = x.1 then tradeF h (psAt n x.1) x.2 else h
theorem lex_take (e : List Int) : ∀ (a b : Nat), HT.lexLt (e.take a) (e.take b) = true → a < b := by
  induction e with
  | nil => intro a b h; simp [HT.lexLt] at h
  | cons x e ih =>
    intro a b h
    cases a with
    | zero =>
      cases b with
      | zero => simp [HT.lexLt] at h
      | succ b => omega
    | succ a =>
      cases b with
      | zero => simp [HT.lexLt] at h
      | succ b =>
        rw [List.take_succ_cons, List.take_succ_cons, HT.lexLt_cons, if_pos rfl] at h
        have := ih a b h
        omega
theorem filt_step {α : Type} (f : α → Nat) (T : Nat) : ∀ L : List α, (L.Pairwise fun a b => f a < f b) → L.filter (fun x => decide (f x < T + 1)) = L.filter (fun x => decide (f x < T)) ++ L.filter (fun x => decide (f x = T))
  | [], _ => rfl
  | x :: L, h => by
    obtain ⟨h1, h2⟩ := List.pairwise_cons.mp h
    have ih := filt_step f T L h2
    rcases Nat.lt_trichotomy (f x) T with c | c | c
    · rw [List.filter_cons_of_pos (by simpa using by omega), List.filter_cons_of_pos (by simpa using c), List.filter_cons_of_neg (by simpa using by omega), ih]
      rfl
    · have e1 : L.filter (fun x => decide (f x < T + 1)) = [] := List.filter_eq_nil_iff.mpr fun y hy => by have := h1 y hy; simp; omega
      have e2 : L.filter (fun x => decide (f x < T)) = [] := List.filter_eq_nil_iff.mpr fun y hy => by have := h1 y hy; simp; omega
      have e3 : L.filter (fun x => decide (f x = T)) = [] := List.filter_eq_nil_iff.mpr fun y hy => by have := h1 y hy; simp; omega
      rw [List.filter_cons_of_pos (by simpa using by omega), List.filter_cons_of_neg (by simpa using by omega), List.filter_cons_of_pos (by simpa using c), e1, e2, e3]
      rfl
    · rw [List.filter_cons_of_neg (by simpa using by omega), List.filter_cons_of_neg (by simpa using by omega), List.filter_cons_of_neg (by simpa using by omega), ih]
theorem lex_irr : ∀ p : List Int, HT.lexLt p p = false
  | [] => rfl
  | x :: p => by
    rw [HT.lexLt_cons, if_pos rfl]
    exact lex_irr p
def Sorted (l : List PE2) : Prop := l.Pairwise fun a b => HT.lexLt a.1 b.1 = true
theorem look_filter (p : List Int) : ∀ l : List PE2, Sorted l → l.filter (fun x => decide (x.1 = p)) = ((look l p).map fun am => (p, am)).toList
  | [], _ => rfl
  | x :: l, h => by
    obtain ⟨h1, h2⟩ := List.pairwise_cons.mp h
    by_cases e : x.1 = p
    · have e2 : l.filter (fun x => decide (x.1 = p)) = [] := List.filter_eq_nil_iff.mpr fun y hy => by
        have z := h1 y hy
        intro c
        rw [of_decide_eq_true c, e, lex_irr] at z
        cases z
      have e3 : look (x :: l) p = some x.2 := by simp [look, List.find?_cons, e]
      rw [List.filter_cons_of_pos (by simpa using e), e2, e3]
      cases x
      cases e
      rfl
    · have e3 : look (x :: l) p = look l p := by simp [look, List.find?_cons, e]
      rw [List.filter_cons_of_neg (by simpa using e), e3, look_filter p l h2]
theorem foldl_if {α β : Type} (g : β → α → β) (c : α → Prop) [DecidablePred c] : ∀ (l : List α) (b : β), l.foldl (fun b x => if c x then g b x else b) b = (l.filter fun x => decide (c x)).foldl g b
  | [], _ => rfl
  | x :: l, b => by
    by_cases h : c x
    · rw [List.filter_cons_of_pos (by simpa using h), List.foldl_cons, List.foldl_cons, if_pos h]
      exact foldl_if g c l _
    · rw [List.filter_cons_of_neg (by simpa using h), List.foldl_cons, if_neg h]
      exact foldl_if g c l _
theorem held_eq {n : Node} {l : List PE2} {e : List Int} {h : List Q2} (hs : Sorted l) : heldF n l e h (e.length + 1) = l.foldl (stepL n e) h := by
  have e1 : l.foldl (stepL n e) h = (l.filter fun x => decide (e.take x.1.length = x.1)).foldl (fun h x => tradeF h (psAt n x.1) x.2) h := foldl_if _ _ l h
  rw [e1]
  have hL : (l.filter fun x => decide (e.take x.1.length = x.1)).Pairwise fun a b => a.1.length < b.1.length := by
    refine List.Pairwise.imp_of_mem ?_ (List.Pairwise.filter _ hs)
    intro a b ha hb hab
    have ea : e.take a.1.length = a.1 := of_decide_eq_true (List.mem_filter.mp ha).2
    have eb : e.take b.1.length = b.1 := of_decide_eq_true (List.mem_filter.mp hb).2
    refine lex_take e _ _ ?_
    rw [ea, eb]
    exact hab
  have key : ∀ T, T ≤ e.length + 1 → heldF n l e h T = ((l.filter fun x => decide (e.take x.1.length = x.1)).filter fun x => decide (x.1.length < T)).foldl (fun h x => tradeF h (psAt n x.1) x.2) h := by
    intro T
    induction T with
    | zero =>
      intro _
      rw [List.filter_eq_nil_iff.mpr (fun y _ => by simp)]
      rfl
    | succ T ih =>
      intro hT
      have hlen : (e.take T).length = T := by rw [List.length_take]; omega
      have e2 : (l.filter fun x => decide (e.take x.1.length = x.1)).filter (fun x => decide (x.1.length = T)) = l.filter fun x => decide (x.1 = e.take T) := by
        rw [List.filter_filter]
        refine List.filter_congr fun x _ => ?_
        rw [← Bool.decide_and]
        refine decide_eq_decide.mpr ⟨fun ⟨a, b⟩ => ?_, fun a => ?_⟩
        · rw [← a, b]
        · rw [a, hlen]
          exact ⟨rfl, rfl⟩
      rw [filt_step (fun x : PE2 => x.1.length) T _ hL, e2, look_filter _ _ hs, List.foldl_append, ← ih (by omega)]
      show stepT n l e (heldF n l e h T) T = _
      unfold stepT
      cases look l (e.take T) <;> rfl
  rw [key _ (Nat.le_refl _), List.filter_eq_self.mpr]
  intro x hx
  have ex : e.take x.1.length = x.1 := of_decide_eq_true (List.mem_filter.mp hx).2
  have := congrArg List.length ex
  rw [List.length_take] at this
  exact decide_eq_true (by omega)
theorem heldF_ok {n : Node} {l : List PE2} {e : List Int} {h : List Q2} {k g : Nat} (hh : ∀ x ∈ h, Ok k x) (hg : h.length = g) (g1 : 1 ≤ g) (g4 : g ≤ 4) (hp : ∀ x ∈ pre [] n, ∀ p ∈ x.2.ps, PrK 201 p) (ha : ∀ x ∈ l, x.2.length + 1 = g ∧ ∀ a ∈ x.2, Ok 10 a) :
    ∀ T, (∀ x ∈ heldF n l e h T, Ok (k + 636 * T) x) ∧ (heldF n l e h T).length = g
  | 0 => ⟨hh, hg⟩
  | T + 1 => by
    obtain ⟨i1, i2⟩ := heldF_ok (e := e) hh hg g1 g4 hp ha T
    show (∀ x ∈ stepT n l e (heldF n l e h T) T, _) ∧ (stepT n l e (heldF n l e h T) T).length = g
    unfold stepT
    cases hl : look l (e.take T) with
    | none => exact ⟨fun x hx => (i1 x hx).mono (by omega), i2⟩
    | some am =>
      obtain ⟨x, hx, rfl⟩ := Option.map_eq_some_iff.mp hl
      have hm := ha x (List.mem_of_find?_eq_some hx)
      have hps : ∀ p ∈ psAt n (e.take T), PrK 201 p := by
        intro p hpp
        unfold psAt at hpp
        cases hf : find n (e.take T) with
        | none => rw [hf] at hpp; simp at hpp
        | some m =>
          rw [hf] at hpp
          obtain ⟨y, hy, rfl⟩ := find_pre n _ _ hf
          exact hp y hy p hpp
      refine ⟨fun y hy => (tradeF_ok i1 (by omega) hps hm.2 (by omega) y hy).mono (by omega), ?_⟩
      show (tradeF (heldF n l e h T) (psAt n (e.take T)) x.2).length = g
      rw [tradeF_len (by omega)]
      omega
theorem eqv_path (p q : List Int) : PyData.eqv (pathD p) (pathD q) = decide (p = q) := by
  have all : ∀ p q : List Int, PyData.eqvAll (p.map PyData.int) (q.map PyData.int) = decide (p = q) := by
    intro p
    induction p with
    | nil =>
      intro q
      cases q with
      | nil => simp [PyData.eqvAll]
      | cons y q => simp [PyData.eqvAll]
    | cons x p ih =>
      intro q
      cases q with
      | nil => simp [PyData.eqvAll]
      | cons y q =>
        rw [List.map_cons, List.map_cons, PyData.eqvAll, PyData.eqv, ih q]
        by_cases e : x = y
        · simp [e]
        · simp [e]
  unfold pathD
  rw [PyData.eqv, all]
theorem lex_trans : ∀ a b c : List Int, HT.lexLt a b = true → HT.lexLt b c = true → HT.lexLt a c = true
  | a, [], c, h, _ => by cases a <;> simp [HT.lexLt] at h
  | [], y :: b, [], _, g => by simp [HT.lexLt] at g
  | [], y :: b, z :: c, _, _ => rfl
  | x :: a, y :: b, [], _, g => by simp [HT.lexLt] at g
  | x :: a, y :: b, z :: c, h, g => by
    rw [HT.lexLt_cons] at h g ⊢
    by_cases e1 : x = y
    · rw [if_pos e1] at h
      subst e1
      by_cases e2 : x = z
      · rw [if_pos e2] at g ⊢
        exact lex_trans a b c h g
      · rw [if_neg e2] at g ⊢
        exact g
    · rw [if_neg e1] at h
      have l1 : x < y := of_decide_eq_true h
      by_cases e2 : y = z
      · subst e2
        rw [if_neg e1]
        exact h
      · rw [if_neg e2] at g
        have l2 : y < z := of_decide_eq_true g
        rw [if_neg (by omega)]
        exact decide_eq_true (by omega)
theorem PlanOk.sorted {n : Node} {g : Int} {l : List PE2} (h : PlanOk n g l) : Sorted l := by
  have key : ∀ d i (h1 : i + d + 1 < l.length), HT.lexLt l[i].1 l[i + d + 1].1 = true := by
    intro d
    induction d with
    | zero =>
      intro i h1
      exact (h (i + 1) _ (List.getElem?_eq_getElem h1)).2.1 i _ rfl (List.getElem?_eq_getElem (by omega))
    | succ d ih =>
      intro i h1
      have h2 := ih i (by omega)
      have h3 := (h (i + d + 1 + 1) _ (List.getElem?_eq_getElem (by omega))).2.1 (i + d + 1) _ rfl (List.getElem?_eq_getElem (by omega))
      exact lex_trans _ _ _ h2 h3
  refine List.pairwise_iff_getElem.mpr fun i j hi hj hij => ?_
  have := key (j - i - 1) i (by omega)
  have e : i + (j - i - 1) + 1 = j := by omega
  simp only [e] at this
  exact this
end Nl

namespace Nl
open PySem PySem.Spec PyProof.Rows L2
/-! ### what values and conditions are -/
def prF (ps : List Pr) (x : Wd) (j : Int) : Int × Int := if j = 0 then (1, 1) else
  match ps[(j - 1).toNat]? with
  | some r => if x = .buy then r.1 else r.2
  | none => (1, 1)
def minF (a b : Int × Int) : Int × Int := if cmpF a b < 0 then a else b
def maxF (a b : Int × Int) : Int × Int := if cmpF a b > 0 then a else b
def jnV (x : Wd) (a b : Int × Int) : Int × Int := match x with
  | .plus => addF a b
  | .minus => subF a b
  | .times => mulF a b
  | .least => minF a b
  | .greatest => maxF a b
  | _ => (0, 1)
def jnC (x : Wd) (a b : Int × Int) : Bool := match x with
  | .less => decide (cmpF a b < 0)
  | .same => decide (a = b)
  | _ => false
def evV (ps : List Pr) : Part → Int × Int
  | .p0 x (.size q) => q
  | .p0 x (.good j) => prF ps x j
  | .p2 x _ a b => jnV x (evV ps a) (evV ps b)
  | _ => (0, 1)
def evC (ps : List Pr) : Part → Bool
  | .p1 _ _ a => !evC ps a
  | .p2 x _ a b => if x = .and_ then evC ps a && evC ps b else jnC x (evV ps a) (evV ps b)
  | _ => false
def evD (ps : List Pr) (p : Part) : PyData := if p.wd.cls = .value then frD (evV ps p) else .bool (evC ps p)
namespace Part
def lv : Part → Nat
  | p0 _ _ => 1
  | p1 _ _ a => a.lv
  | p2 _ _ a b => a.lv + b.lv
theorem lv_pos (p : Part) : 0 < p.lv := by
  induction p with
  | p0 w l => exact Nat.zero_lt_one
  | p1 w l a ih => exact ih
  | p2 w l a b iha ihb => simp only [lv]; omega
theorem lv_size (p : Part) : 2 * p.lv ≤ p.size + 1 := by
  induction p with
  | p0 w l => simp [lv, size]
  | p1 w l a ih => simp only [lv, size]; omega
  | p2 w l a b iha ihb => simp only [lv, size]; omega
theorem lv_pre (p : Part) : ∀ (n : Nat), ∀ x ∈ p.pre n, x.1.lv ≤ p.lv := by
  induction p with
  | p0 w l => intro n x hx; rw [List.mem_singleton.mp hx]; exact Nat.le_refl _
  | p1 w l a ih =>
    intro n x hx
    rcases List.mem_cons.mp hx with rfl | hx
    · exact Nat.le_refl _
    · exact ih (n + 1) x hx
  | p2 w l a b iha ihb =>
    intro n x hx
    simp only [lv]
    rcases List.mem_cons.mp hx with rfl | hx
    · exact Nat.le_refl _
    · rcases List.mem_append.mp hx with hx | hx
      · have := iha (n + 1) x hx; omega
      · have := ihb (n + 1) x hx; omega
/-- no contract in it -/
theorem not_con {p : Part} (h : p.WF) (hc : p.wd.cls ≠ .contract) : ∀ k ∈ p.ks, k.wd.cls ≠ .contract := by
  intro k hk e
  have h1 : k.wd.cls ∈ p.wd.kn := by
    rw [h.kn]
    exact List.mem_append_right _ (List.mem_map.mpr ⟨k, hk, rfl⟩)
  rw [e] at h1
  have : ∀ x ∈ Wd.all, x.cls ≠ .contract → Kn.contract ∉ x.kn := by decide
  exact this _ (Wd.mem_all _) hc h1
theorem not_con_pre {p : Part} (h : p.WF) (hc : p.wd.cls ≠ .contract) : ∀ (n : Nat), ∀ x ∈ p.pre n, x.1.wd.cls ≠ .contract := by
  induction p with
  | p0 w l => intro n x hx; rw [List.mem_singleton.mp hx]; exact hc
  | p1 w l a ih =>
    intro n x hx
    rcases List.mem_cons.mp hx with rfl | hx
    · exact hc
    · exact ih h.2 (not_con h hc a (by simp [ks])) (n + 1) x hx
  | p2 w l a b iha ihb =>
    intro n x hx
    rcases List.mem_cons.mp hx with rfl | hx
    · exact hc
    · rcases List.mem_append.mp hx with hx | hx
      · exact iha h.2.1 (not_con h hc a (by simp [ks])) (n + 1) x hx
      · exact ihb h.2.2 (not_con h hc b (by simp [ks])) (n + 1) x hx
end Part
/-- every number of a part has at most k bits -/
def LK (k : Nat) (l : Lit) : Prop := ∀ q, l = .size q → Ok k q
def PsK (k : Nat) (ps : List Pr) : Prop := ∀ r ∈ ps, PrK k r
theorem ok_one {k : Nat} (h : 1 ≤ k) : Ok k (1, 1) := Ok.mono (k := 1) ⟨⟨by decide, by decide⟩, by unfold Bd; decide, by unfold Bd; decide⟩ h
theorem prF_ok {k : Nat} {ps : List Pr} (hk : 1 ≤ k) (h : PsK k ps) (x : Wd) (j : Int) : Ok k (prF ps x j) := by
  unfold prF
  split
  · exact ok_one hk
  · cases e : ps[(j - 1).toNat]? with
    | none => exact ok_one hk
    | some r =>
      have := h r (List.mem_of_getElem? e)
      dsimp only
      split
      · exact this.1
      · exact this.2
theorem minF_ok {k m n : Nat} {a b : Int × Int} (ha : Ok k a) (hb : Ok m b) (h1 : k ≤ n) (h2 : m ≤ n) : Ok n (minF a b) := by
  unfold minF
  split
  · exact ha.mono h1
  · exact hb.mono h2
theorem maxF_ok {k m n : Nat} {a b : Int × Int} (ha : Ok k a) (hb : Ok m b) (h1 : k ≤ n) (h2 : m ≤ n) : Ok n (maxF a b) := by
  unfold maxF
  split
  · exact ha.mono h1
  · exact hb.mono h2
theorem jnV_ok {k m n : Nat} {a b : Int × Int} (x : Wd) (ha : Ok k a) (hb : Ok m b) (h : k + m + 1 ≤ n) : Ok n (jnV x a b) := by
  unfold jnV
  split
  · exact addF_ok ha hb h
  · exact subF_ok ha hb h
  · exact mulF_ok ha hb (by omega)
  · exact minF_ok ha hb (by omega) (by omega)
  · exact maxF_ok ha hb (by omega) (by omega)
  · exact ok_zero.mono (by omega)
theorem evV_ok {k : Nat} {ps : List Pr} (hk : 1 ≤ k) (h : PsK k ps) : ∀ p : Part, (p.All fun _ l => LK k l) → ∃ n, n + 1 ≤ (k + 1) * p.lv ∧ Ok n (evV ps p)
  | .p0 x .non, _ => ⟨1, by simp [Part.lv]; omega, ok_zero⟩
  | .p0 x (.time _), _ => ⟨1, by simp [Part.lv]; omega, ok_zero⟩
  | .p0 x (.size q), hl => ⟨k, by simp [Part.lv], hl.here q rfl⟩
  | .p0 x (.good j), hl => ⟨k, by simp [Part.lv], prF_ok hk h x j⟩
  | .p1 x l a, hl => by
    have := a.lv_pos
    refine ⟨1, ?_, ok_zero⟩
    have : (k + 1) * 1 ≤ (k + 1) * (Part.p1 x l a).lv := Nat.mul_le_mul_left _ this
    omega
  | .p2 x l a b, hl => by
    obtain ⟨n1, h1, o1⟩ := evV_ok hk h a (hl.kid (by simp [Part.ks]))
    obtain ⟨n2, h2, o2⟩ := evV_ok hk h b (hl.kid (by simp [Part.ks]))
    refine ⟨n1 + n2 + 1, ?_, jnV_ok x o1 o2 (Nat.le_refl _)⟩
    simp only [Part.lv, Nat.mul_add]
    omega
theorem evV_3000 {k : Nat} {ps : List Pr} {p : Part} (hk : 1 ≤ k) (h : PsK k ps) (hl : p.All fun _ l => LK k l) (hb : (k + 1) * p.lv ≤ 3000) : Ok 2999 (evV ps p) := by
  obtain ⟨n, h1, o⟩ := evV_ok hk h p hl
  exact o.mono (by omega)
/-! ### from the last part back -/
def stepF : List PD → List PD
  | [] => []
  | e :: r => kidsP e ++ r
def sufF (F : List PD) : Nat → List PD
  | 0 => F
  | j + 1 => stepF (sufF F j)
theorem step_flat (G : List PD) : (stepF G).flatMap preP = (G.flatMap preP).tail := by
  cases G with
  | nil => rfl
  | cons e r =>
    rw [List.flatMap_cons, preP_eq]
    simp [stepF]
theorem suf_flat (F : List PD) : ∀ j, (sufF F j).flatMap preP = (F.flatMap preP).drop j
  | 0 => rfl
  | j + 1 => by
    rw [sufF, step_flat, suf_flat F j, List.tail_drop]
theorem suf_at {F : List PD} {j : Nat} {e : PD} (h : (F.flatMap preP)[j]? = some e) : ∃ r, sufF F j = e :: r ∧ sufF F (j + 1) = kidsP e ++ r := by
  have h1 := suf_flat F j
  have h2 : ((F.flatMap preP).drop j).head? = some e := by rw [List.head?_drop]; exact h
  rw [← h1] at h2
  cases hs : sufF F j with
  | nil => rw [hs] at h2; simp at h2
  | cons x r =>
    rw [hs, List.flatMap_cons, preP_eq] at h2
    have : x = e := by simpa using h2
    subst this
    exact ⟨r, rfl, by rw [sufF, hs]; rfl⟩
theorem suf_end {F : List PD} {n : Nat} (h : (F.flatMap preP).length ≤ n) : sufF F n = [] := by
  have h1 := suf_flat F n
  rw [List.drop_eq_nil_iff.mpr h] at h1
  cases hs : sufF F n with
  | nil => rfl
  | cons x r =>
    rw [hs, List.flatMap_cons, preP_eq] at h1
    simp at h1
theorem eqv_int (a b : Int) : PyData.eqv (.int a) (.int b) = decide (a = b) := by
  show (a == b) = _
  by_cases h : a = b
  · subst h
    rw [decide_eq_true rfl, beq_self_eq_true]
  · rw [decide_eq_false h]
    exact beq_eq_false_iff_ne.mpr h
theorem eqv_fr (a b : Int × Int) : PyData.eqv (frD a) (frD b) = decide (a = b) := by
  show (PyData.eqv (.int a.1) (.int b.1) && (PyData.eqv (.int a.2) (.int b.2) && true)) = _
  rw [eqv_int, eqv_int, Bool.and_true]
  by_cases h : a = b
  · subst h
    simp
  · rw [decide_eq_false h]
    by_cases h1 : a.1 = b.1
    · have h2 : a.2 ≠ b.2 := fun z => h (Prod.ext h1 z)
      rw [decide_eq_false h2, Bool.and_false]
    · rw [decide_eq_false h1, Bool.false_and]
end Nl
namespace Nl
open PySem PySem.Spec PyProof.Rows L2
theorem nc_p0 {x : Wd} {l : Lit} (h : x.kn = l.kn) (hc : x.cls ≠ .contract) : (x = .number ∧ ∃ q, l = .size q) ∨ (x ∈ [Wd.buy, Wd.sell] ∧ ∃ j, l = .good j) := by
  cases x <;> cases l <;> simp_all [Wd.kn, Lit.kn, Wd.cls]
theorem nc_p1 {x : Wd} {l : Lit} {c : Kn} (h : x.kn = l.kn ++ [c]) (hc : x.cls ≠ .contract) (h3 : c ∈ K3) : x = .not_ ∧ l = .non ∧ c = .condition := by
  cases x <;> cases l <;> simp [Wd.kn, Lit.kn, Wd.cls, K3] at h hc h3 ⊢ <;> subst h <;> simp at h3 ⊢
theorem nc_p2 {x : Wd} {l : Lit} {c c' : Kn} (h : x.kn = l.kn ++ [c, c']) (hc : x.cls ≠ .contract) : (x.kn = [.value, .value] ∧ x ≠ .and_ ∧ c = .value ∧ c' = .value ∧ l = .non) ∨ (x = .and_ ∧ c = .condition ∧ c' = .condition ∧ l = .non) := by
  cases x <;> cases l <;> simp [Wd.kn, Lit.kn, Wd.cls] at h hc ⊢ <;> obtain ⟨rfl, rfl⟩ := h <;> exact ⟨rfl, rfl⟩
structure WO (ps : List Pr) (p : Part) : Prop where
  wf : p.WF
  nc : p.wd.cls ≠ .contract
  size : p.size ≤ 1000
  goods : ∀ x ∈ p.pre 1, ∀ j, x.1.lit = .good j → 0 ≤ j ∧ j ≤ ps.length
  bits : ∃ k, 1 ≤ k ∧ PsK k ps ∧ (p.All fun _ l => LK k l) ∧ (k + 1) * p.lv ≤ 3000
theorem WO.val {ps : List Pr} {p : Part} (h : WO ps p) {x : PD} (hx : x ∈ p.pre 1) : Ok 2999 (evV ps x.1) := by
  obtain ⟨k, hk, hp, hl, hb⟩ := h.bits
  refine evV_3000 hk hp ?_ (Nat.le_trans (Nat.mul_le_mul_left _ (p.lv_pre 1 x hx)) hb)
  have key : ∀ (q : Part) (n : Nat), (∀ y ∈ q.pre n, LK k y.1.lit) → ∀ y ∈ q.pre n, y.1.All fun _ l => LK k l := by
    intro q
    induction q with
    | p0 w l => intro n h y hy; rw [List.mem_singleton.mp hy]; exact (Part.all_iff (fun _ l => LK k l) _ n).mpr h
    | p1 w l a ih =>
      intro n h y hy
      rcases List.mem_cons.mp hy with rfl | hy
      · exact (Part.all_iff (fun _ l => LK k l) _ n).mpr h
      · exact ih (n + 1) (fun z hz => h z (List.mem_cons_of_mem _ hz)) y hy
    | p2 w l a b iha ihb =>
      intro n h y hy
      rcases List.mem_cons.mp hy with rfl | hy
      · exact (Part.all_iff (fun _ l => LK k l) _ n).mpr h
      · rcases List.mem_append.mp hy with hy | hy
        · exact iha (n + 1) (fun z hz => h z (List.mem_cons_of_mem _ (List.mem_append_left _ hz))) y hy
        · exact ihb (n + 1) (fun z hz => h z (List.mem_cons_of_mem _ (List.mem_append_right _ hz))) y hy
  exact key p 1 hl x hx
theorem evD_val {ps : List Pr} {p : Part} (h : p.wd.cls = .value) : evD ps p = frD (evV ps p) := if_pos h
theorem evD_con {ps : List Pr} {p : Part} (h : p.wd.cls = .condition) : evD ps p = .bool (evC ps p) := if_neg (by rw [h]; decide)
def B2 : List Wd := [.buy, .sell]
theorem sh_b2 : SeqAt.shaped (.tuple (B2.map fun k => .str k.str)) = true := by decide +kernel
end Nl
namespace Nl
open PySem PySem.Spec PyProof.Rows L2
theorem DTs.snoc_inv {K : PySem.W.Frag} {H : Hp} {xs : List V} {ds : List PyData} {d : PyData} (h : DTs K H xs (ds ++ [d])) : ∃ zs v, xs = zs ++ [v] ∧ DTs K H zs ds ∧ DT K H v d := by
  have h1 := h.take ds.length
  have h2 := h.drop ds.length
  rw [List.take_left' rfl] at h1
  rw [List.drop_left' rfl] at h2
  obtain ⟨x, ex, dx⟩ := h2.inv1
  exact ⟨_, x, by rw [← ex, List.take_append_drop], h1, dx⟩
theorem DT.bool_inv {K : PySem.W.Frag} {H : Hp} {v : V} {b : Bool} (h : DT K H v (.bool b)) : v = .bl b := by cases h; rfl
end Nl
namespace Nl
open PySem PySem.Spec PyProof.Rows L2
theorem kid_pre {p k : Part} (h : k ∈ p.ks) : ∀ x ∈ k.pre 2, x ∈ p.pre 1 := fun x hx => by
  rw [Part.pre_eq]
  exact List.mem_cons_of_mem _ (List.mem_flatMap.mpr ⟨k, h, hx⟩)
theorem kid_one {p k : Part} (h : k ∈ p.ks) : ∀ x ∈ k.pre 1, ∃ y ∈ p.pre 1, y.1 = x.1 := fun x hx => by
  have : x.1 ∈ (k.pre 2).map (·.1) := by rw [Part.pre_fst k 2 1]; exact List.mem_map.mpr ⟨x, hx, rfl⟩
  obtain ⟨y, hy, e⟩ := List.mem_map.mp this
  exact ⟨y, kid_pre h y hy, e⟩
theorem kid_size {p k : Part} (h : k ∈ p.ks) : k.size < p.size := by
  have : k.size ≤ (p.ks.map Part.size).sum := le_sum (List.mem_map.mpr ⟨k, h, rfl⟩)
  have := p.size_eq
  omega
theorem kid_lv {p k : Part} (h : k ∈ p.ks) : k.lv ≤ p.lv := p.lv_pre 1 (k, 2) (kid_pre h _ (by rw [Part.pre_eq]; exact List.mem_cons_self ..))
theorem WO.kid {ps : List Pr} {p k : Part} (h : WO ps p) (hk : k ∈ p.ks) : WO ps k := by
  obtain ⟨b, h1, h2, h3, h4⟩ := h.bits
  refine ⟨h.wf.kid hk, Part.not_con h.wf h.nc k hk, by have := kid_size hk; have := h.size; omega, fun x hx j e => ?_, ⟨b, h1, h2, h3.kid hk, Nat.le_trans (Nat.mul_le_mul_left _ (kid_lv hk)) h4⟩⟩
  obtain ⟨y, hy, e2⟩ := kid_one hk x hx
  exact h.goods y hy j (by rw [e2]; exact e)
theorem WO.val0 {ps : List Pr} {p : Part} (h : WO ps p) : Ok 2999 (evV ps p) := h.val (x := (p, 1)) (by rw [Part.pre_eq]; exact List.mem_cons_self ..)
theorem WO.good0 {ps : List Pr} {x : Wd} {j : Int} (h : WO ps (.p0 x (.good j))) : 0 ≤ j ∧ j ≤ ps.length := h.goods (.p0 x (.good j), 1) (by rw [Part.pre_eq]; exact List.mem_cons_self ..) j rfl
theorem cmp_lt {a b : Int × Int} : cmpF a b < 0 ↔ a.1 * b.2 < b.1 * a.2 := by
  unfold cmpF
  split
  · rename_i h
    exact ⟨fun _ => h, fun _ => by decide⟩
  · rename_i h
    split
    · exact ⟨fun z => absurd z (by decide), fun z => (h z).elim⟩
    · exact ⟨fun z => absurd z (by decide), fun z => (h z).elim⟩
theorem cmp_gt {a b : Int × Int} : cmpF a b > 0 ↔ b.1 * a.2 < a.1 * b.2 := by
  unfold cmpF
  split
  · rename_i h
    exact ⟨fun z => absurd z (by decide), fun z => by omega⟩
  · rename_i h
    split
    · rename_i h2
      exact ⟨fun _ => h2, fun _ => by decide⟩
    · rename_i h2
      exact ⟨fun z => absurd z (by decide), fun z => (h2 z).elim⟩
theorem minF_law {a b : Int × Int} (ha : Low a) (hb : Low b) : minF a b = if b.1 * a.2 < a.1 * b.2 then b else a := by
  unfold minF
  by_cases h : cmpF a b < 0
  · rw [if_pos h, if_neg (by have := cmp_lt.mp h; omega)]
  · rw [if_neg h]
    split
    · rfl
    · rename_i h2
      have h3 : ¬ a.1 * b.2 < b.1 * a.2 := fun z => h (cmp_lt.mpr z)
      exact (low_uniq ha hb (by omega)).symm
theorem maxF_law {a b : Int × Int} (ha : Low a) (hb : Low b) : maxF a b = if a.1 * b.2 < b.1 * a.2 then b else a := by
  unfold maxF
  by_cases h : cmpF a b > 0
  · rw [if_pos h, if_neg (by have := cmp_gt.mp h; omega)]
  · rw [if_neg h]
    split
    · rfl
    · rename_i h2
      have h3 : ¬ b.1 * a.2 < a.1 * b.2 := fun z => h (cmp_gt.mpr z)
      exact (low_uniq ha hb (by omega)).symm
theorem jnC_less (a b : Int × Int) : jnC .less a b = decide (a.1 * b.2 < b.1 * a.2) := by
  show decide (cmpF a b < 0) = _
  exact decide_eq_decide.mpr cmp_lt
end Nl
namespace Nl
open PySem PySem.Spec PyProof.Rows L2
theorem prF_at {ps : List Pr} (x : Wd) {j : Nat} (h : j ≤ ps.length) : ∃ r : Pr, (prD ((1, 1), (1, 1)) :: ps.map prD)[j]? = some (prD r) ∧ prF ps x (j : Int) = if x = .buy then r.1 else r.2 := by
  cases j with
  | zero => exact ⟨((1, 1), (1, 1)), rfl, by unfold prF; rw [if_pos (by rfl)]; split <;> rfl⟩
  | succ i =>
    have hr : ps[i]? = some ps[i] := List.getElem?_eq_getElem (by omega)
    refine ⟨ps[i], by rw [List.getElem?_cons_succ, List.getElem?_map, hr]; rfl, ?_⟩
    unfold prF
    rw [if_neg (by omega), show (((i + 1 : Nat) : Int) - 1).toNat = i by omega, hr]
end Nl
namespace Nl
open PySem PySem.Spec PyProof.Rows L2
theorem wo_of {g : Int} {c : Kn} {sz dp : Nat} {p : Part} {ps : List Pr} (h : PG g c sz dp p) (hc : c ≠ .contract) (po : PsOk g ps) (hs : p.size ≤ 28) : WO ps p := by
  refine ⟨h.wf, by rw [h.cls]; exact hc, by omega, fun x hx j e => ?_, 201, by decide, fun r hr => po.b r hr, fun x hx q e => ?_, ?_⟩
  · have h1 := h.lits x hx
    rw [e] at h1
    have := po.len
    have h2 : 0 ≤ j ∧ j < g := h1
    omega
  · have h1 := h.lits x hx
    rw [e] at h1
    have h2 : Ok 10 q := h1
    exact h2.mono (by decide)
  · have := p.lv_size
    have : p.lv ≤ 14 := by omega
    exact Nat.le_trans (Nat.mul_le_mul_left _ this) (by decide)
def BadG (g : Int) (p : Part) : Prop := ∃ x ∈ p.pre 1, Part.BadL g x.1.lit
theorem pg_good {g : Int} {c : Kn} {sz dp : Nat} {p : Part} (h : PG g c sz dp p) : ¬ BadG g p := by
  rintro ⟨x, hx, z⟩
  have h1 := h.lits x hx
  cases e : x.1.lit with
  | good j => rw [e] at h1 z; exact z h1
  | time j =>
    rw [e] at h1 z
    have h2 : 0 ≤ j ∧ j ≤ 3 := h1
    have h3 : j < 0 := z
    omega
  | non => rw [e] at z; exact z
  | size q => rw [e] at z; exact z
theorem badG_kid {g : Int} {p k : Part} (h : k ∈ p.ks) (hb : BadG g k) : BadG g p := by
  obtain ⟨x, hx, z⟩ := hb
  obtain ⟨y, hy, e⟩ := kid_one h x hx
  exact ⟨y, hy, by rw [e]; exact z⟩
end Nl
namespace Nl
open PySem PySem.Spec PyProof.Rows L2
theorem mulB8 {i j : Int} (ha : Bd 8000 i) (hb : Bd 8000 j) : CMulW i j := mulX ha hb
end Nl

namespace Nl
open PySem PySem.Spec PyProof.Rows L2
/-! ### what a contract asks or pays -/
inductive Told where
  | ask (holder : Bool) (c d : Part)
  | pay (am : List (Int × Int)) (left : Part)
def Told.map (f : Part → Part) : Told → Told
  | .ask h c d => .ask h (f c) (f d)
  | .pay am l => .pay am (f l)
def zeroF (n : Nat) : List (Int × Int) := List.replicate n (0, 1)
def oneF (n : Nat) (j : Int) : List (Int × Int) := (zeroF n).set j.toNat (1, 1)
def negF (q : Int × Int) : Int × Int := mulF q (-1, 1)
def noth : Part := .p0 .nothing .non
def faceF (ps : List Pr) (t : Int) : Part → Told
  | .p0 x l => match l with
    | .good j => .pay (oneF (ps.length + 1) j) noth
    | _ => .pay (zeroF (ps.length + 1)) (.p0 x l)
  | .p1 x l a => match x with
    | .give => match faceF ps t a with
      | .ask h c d => .ask (!h) (.p1 .give .non c) (.p1 .give .non d)
      | .pay am r => .pay (am.map negF) (.p1 .give .non r)
    | .at_ => match l with
      | .time b => if t = b then faceF ps t a else if t < b then .pay (zeroF (ps.length + 1)) (.p1 .at_ l a) else .pay (zeroF (ps.length + 1)) noth
      | _ => .pay (zeroF (ps.length + 1)) noth
    | .early => match l with
      | .time b => if t > b then .pay (zeroF (ps.length + 1)) noth else .ask true a (.p1 .later .non (.p1 .early l a))
      | _ => .pay (zeroF (ps.length + 1)) noth
    | .later => .pay (zeroF (ps.length + 1)) a
    | _ => .pay (zeroF (ps.length + 1)) noth
  | .p2 x l a b => match x with
    | .scale => match faceF ps t b with
      | .ask h c d => .ask h (.p2 .scale .non a c) (.p2 .scale .non a d)
      | .pay am r => .pay (am.map fun q => mulF q (evV ps a)) (.p2 .scale .non (.p0 .number (.size (evV ps a))) r)
    | .both => match faceF ps t a with
      | .ask h c d => .ask h (.p2 .both .non c b) (.p2 .both .non d b)
      | .pay am r => match faceF ps t b with
        | .ask h c d => .ask h (.p2 .both .non a c) (.p2 .both .non a d)
        | .pay am' r' => .pay (List.zipWith addF am am') (.p2 .both .non r r')
    | .or_ => .ask true a b
    | .when_ => if evC ps a then faceF ps t b else .pay (zeroF (ps.length + 1)) (.p2 .when_ l a b)
    | .until_ => if evC ps a then .pay (zeroF (ps.length + 1)) noth else (faceF ps t b).map fun r => .p2 .until_ .non a r
    | _ => .pay (zeroF (ps.length + 1)) noth
def sideS (h : Bool) : Str := if h then "holder" else "giver"
def Told.D : Told → PyData
  | .ask h c d => .tuple [.str "ask", .str (sideS h), c.D, d.D]
  | .pay am l => .tuple [.str "pay", .tuple (am.map frD), l.D]
/-- a value within a contract: an early one, or a number that it was -/
def ValG (g : Int) (v : Part) : Prop := v.WF ∧ v.wd.cls = .value ∧ v.size ≤ 3 ∧ (v.All fun _ l => LG g l) ∨ ∃ q, v = .p0 .number (.size q) ∧ Ok 404 q
def CndG (g : Int) (v : Part) : Prop := v.WF ∧ v.wd.cls = .condition ∧ v.size ≤ 11 ∧ v.depth ≤ 6 ∧ v.All fun _ l => LG g l
/-- a contract whose values are small and whose goods are there -/
def FC (g : Int) : Part → Prop
  | .p0 x l => x.kn = l.kn ∧ x.cls = .contract ∧ ∀ j, l = .good j → 0 ≤ j ∧ j < g
  | .p1 x l a => x.kn = l.kn ++ [.contract] ∧ FC g a
  | .p2 x l a b => (x = .scale ∧ l = .non ∧ ValG g a ∧ FC g b) ∨ ((x = .when_ ∨ x = .until_) ∧ l = .non ∧ CndG g a ∧ FC g b) ∨ ((x = .both ∨ x = .or_) ∧ l = .non ∧ FC g a ∧ FC g b)
theorem ValG.cls {g : Int} {v : Part} (h : ValG g v) : v.wd.cls = .value := by
  rcases h with h | ⟨q, rfl, _⟩
  · exact h.2.1
  · rfl
theorem ValG.wf {g : Int} {v : Part} (h : ValG g v) : v.WF := by
  rcases h with h | ⟨q, rfl, _⟩
  · exact h.1
  · rfl
theorem FC.wf {g : Int} : ∀ {c : Part}, FC g c → c.WF ∧ c.wd.cls = .contract
  | .p0 x l, h => ⟨h.1, h.2.1⟩
  | .p1 x l a, h => by
    have ih := FC.wf h.2
    refine ⟨⟨by rw [ih.2]; exact h.1, ih.1⟩, ?_⟩
    have h1 := h.1
    show x.cls = .contract
    cases x <;> cases l <;> simp [Wd.kn, Lit.kn, Wd.cls] at h1 ⊢
  | .p2 x l a b, h => by
    rcases h with ⟨rfl, rfl, ha, hb⟩ | ⟨hx, rfl, ha, hb⟩ | ⟨hx, rfl, ha, hb⟩
    · have ih := FC.wf hb
      exact ⟨⟨by rw [ha.cls, ih.2]; rfl, ha.wf, ih.1⟩, rfl⟩
    · have ih := FC.wf hb
      refine ⟨⟨?_, ha.1, ih.1⟩, ?_⟩
      · rw [ha.2.1, ih.2]
        rcases hx with rfl | rfl <;> rfl
      · rcases hx with rfl | rfl <;> rfl
    · have ia := FC.wf ha
      have ih := FC.wf hb
      refine ⟨⟨?_, ia.1, ih.1⟩, ?_⟩
      · rw [ia.2, ih.2]
        rcases hx with rfl | rfl <;> rfl
      · rcases hx with rfl | rfl <;> rfl
def tb : Part → Nat
  | .p0 _ _ => 1
  | .p1 _ _ a => tb a
  | .p2 x _ a b => if x = .scale then tb b + 404 else if x = .both ∨ x = .or_ then tb a + tb b + 1 else tb b
theorem tb_pos : ∀ c : Part, 1 ≤ tb c
  | .p0 _ _ => Nat.le_refl _
  | .p1 _ _ a => tb_pos a
  | .p2 x _ a b => by
    have := tb_pos b
    unfold tb
    split
    · omega
    · split <;> omega
theorem tb_size : ∀ c : Part, tb c + 201 ≤ 202 * c.size
  | .p0 _ _ => by simp [tb, Part.size]
  | .p1 _ _ a => by have := tb_size a; simp only [tb, Part.size]; omega
  | .p2 x _ a b => by
    have h1 := tb_size a
    have h2 := tb_size b
    have := a.size_pos
    simp only [tb, Part.size]
    split
    · omega
    · split <;> omega
structure ToldOk (g : Int) (n : Nat) (k : Nat) (t : Told) : Prop where
  fc : match t with
    | .ask _ c d => FC g c ∧ FC g d ∧ tb c ≤ k ∧ tb d ≤ k
    | .pay am l => am.length = n ∧ (∀ q ∈ am, Ok k q) ∧ FC g l ∧ tb l ≤ k
theorem fc_noth (g : Int) : FC g noth := ⟨rfl, rfl, fun j h => nomatch h⟩
theorem zeroF_len (n : Nat) : (zeroF n).length = n := List.length_replicate
theorem zeroF_ok {k n : Nat} (hk : 1 ≤ k) : ∀ q ∈ zeroF n, Ok k q := fun q hq => by
  rw [(List.mem_replicate.mp hq).2]
  exact ok_zero.mono hk
theorem oneF_ok {k n : Nat} (hk : 1 ≤ k) (j : Int) : ∀ q ∈ oneF n j, Ok k q := fun q hq => by
  rcases List.mem_or_eq_of_mem_set hq with hq | rfl
  · exact zeroF_ok hk q hq
  · exact ok_one hk
theorem ok_m1 {k : Nat} (h : 1 ≤ k) : Ok k (-1, 1) := Ok.mono (k := 1) ⟨⟨by decide, by decide⟩, by unfold Bd; decide, by unfold Bd; decide⟩ h
theorem negF_eq {q : Int × Int} (h : Low q) : negF q = (-q.1, q.2) := by
  refine low_uniq (frac_low ?_) ⟨h.pos, by rw [Int.neg_gcd]; exact h.cop⟩ ?_
  · have := h.pos
    show q.2 * 1 ≠ 0
    omega
  · have e := frac_cross (a := q.1 * -1) (b := q.2 * 1) (by have := h.pos; omega)
    show (frac (q.1 * -1) (q.2 * 1)).1 * q.2 = -q.1 * (frac (q.1 * -1) (q.2 * 1)).2
    rw [Int.mul_one] at e ⊢
    rw [show -q.1 = q.1 * -1 by omega]
    exact e
theorem negF_ok {k : Nat} {q : Int × Int} (h : Ok k q) : Ok k (negF q) := by
  rw [negF_eq h.low]
  refine ⟨⟨h.low.pos, by rw [Int.neg_gcd]; exact h.low.cop⟩, h.b1.neg, h.b2⟩
theorem wo_val {g : Int} {v : Part} {ps : List Pr} (h : ValG g v) (po : PsOk g ps) : WO ps v ∧ Ok 404 (evV ps v) := by
  rcases h with ⟨wf, hc, hs, hl⟩ | ⟨q, rfl, hq⟩
  · have h1 : WO ps v := wo_of (sz := 3) (dp := v.depth) ⟨wf, hc, hs, Nat.le_refl _, hl⟩ (by decide) po (by omega)
    refine ⟨h1, ?_⟩
    have hl2 : v.All fun _ l => LK 201 l := fun x hx q e => by
      have h1 := hl x hx
      rw [e] at h1
      have h2 : Ok 10 q := h1
      exact h2.mono (by decide)
    obtain ⟨n, hn, o⟩ := evV_ok (k := 201) (by decide) (fun r hr => po.b r hr) v hl2
    have := v.lv_size
    have hlv : v.lv ≤ 2 := by omega
    have : 202 * v.lv ≤ 404 := by omega
    exact o.mono (by omega)
  · refine ⟨⟨rfl, (by decide : Kn.value ≠ Kn.contract), (by decide : 1 ≤ 1000), fun x hx j e => ?_, 404, by decide, fun r hr => (po.b r hr).mono (by decide), fun x hx q' e => ?_, (by decide : (404 + 1) * 1 ≤ 3000)⟩, hq⟩
    · rw [List.mem_singleton.mp hx] at e
      cases e
    · rw [List.mem_singleton.mp hx] at e
      cases e
      exact hq
theorem wo_cnd {g : Int} {v : Part} {ps : List Pr} (h : CndG g v) (po : PsOk g ps) : WO ps v := 
  wo_of (sz := 11) (dp := v.depth) ⟨h.1, h.2.1, h.2.2.1, Nat.le_refl _, h.2.2.2.2⟩ (by decide) po (by have := h.2.2.1; omega)
theorem ToldOk.map_ok {g : Int} {n k k' : Nat} {t : Told} {f : Part → Part} (h : ToldOk g n k t) (hk : k ≤ k') (hf : ∀ c, FC g c → tb c ≤ k → FC g (f c) ∧ tb (f c) ≤ k') : ToldOk g n k' (t.map f) := by
  cases t with
  | ask s c d =>
    obtain ⟨h1, h2, h3, h4⟩ := h.fc
    exact ⟨⟨(hf c h1 h3).1, (hf d h2 h4).1, (hf c h1 h3).2, (hf d h2 h4).2⟩⟩
  | pay am l =>
    obtain ⟨h1, h2, h3, h4⟩ := h.fc
    exact ⟨⟨h1, fun q hq => (h2 q hq).mono hk, (hf l h3 h4).1, (hf l h3 h4).2⟩⟩
theorem face_ok {g : Int} {ps : List Pr} (po : PsOk g ps) (t : Int) : ∀ c : Part, FC g c → ToldOk g (ps.length + 1) (tb c) (faceF ps t c)
  | .p0 x l, h => by
    have hz : ToldOk g (ps.length + 1) (tb (.p0 x l)) (.pay (zeroF (ps.length + 1)) (.p0 x l)) := ⟨⟨zeroF_len _, zeroF_ok (Nat.le_refl _), h, Nat.le_refl _⟩⟩
    cases l with
    | good j => exact ⟨⟨by unfold oneF; rw [List.length_set, zeroF_len], oneF_ok (Nat.le_refl _) j, fc_noth g, Nat.le_refl _⟩⟩
    | non => exact hz
    | size q => exact hz
    | time i => exact hz
  | .p1 x l a, h => by
    have ih := face_ok po t a h.2
    have pa := tb_pos a
    have zn : ToldOk g (ps.length + 1) (tb (.p1 x l a)) (.pay (zeroF (ps.length + 1)) noth) := ⟨⟨zeroF_len _, zeroF_ok pa, fc_noth g, pa⟩⟩
    unfold faceF
    split
    · have hl : l = .non := by have := h.1; cases l <;> simp [Wd.kn, Lit.kn] at this ⊢
      cases e : faceF ps t a with
      | ask s c d =>
        rw [e] at ih
        obtain ⟨h1, h2, h3, h4⟩ := ih.fc
        exact ⟨⟨⟨rfl, h1⟩, ⟨rfl, h2⟩, h3, h4⟩⟩
      | pay am r =>
        rw [e] at ih
        obtain ⟨h1, h2, h3, h4⟩ := ih.fc
        refine ⟨⟨by rw [List.length_map, h1], fun q hq => ?_, ⟨rfl, h3⟩, h4⟩⟩
        obtain ⟨q', hq', rfl⟩ := List.mem_map.mp hq
        exact negF_ok (h2 q' hq')
    · split
      · split
        · exact ih
        · split
          · exact ⟨⟨zeroF_len _, zeroF_ok pa, h, Nat.le_refl _⟩⟩
          · exact zn
      · exact zn
    · split
      · split
        · exact zn
        · exact ⟨⟨h.2, ⟨rfl, h⟩, Nat.le_refl _, Nat.le_refl _⟩⟩
      · exact zn
    · exact ⟨⟨zeroF_len _, zeroF_ok pa, h.2, Nat.le_refl _⟩⟩
    · exact zn
  | .p2 x l a b, h => by
    have pb := tb_pos b
    rcases h with ⟨rfl, rfl, ha, hb⟩ | ⟨hx, rfl, ha, hb⟩ | ⟨hx, rfl, ha, hb⟩
    · have ih := face_ok po t b hb
      have et : tb (.p2 .scale .non a b) = tb b + 404 := rfl
      rw [et]
      unfold faceF
      have es : ∀ c, tb (.p2 .scale .non a c) = tb c + 404 := fun c => rfl
      cases e : faceF ps t b with
      | ask s c d =>
        rw [e] at ih
        obtain ⟨h1, h2, h3, h4⟩ := ih.fc
        exact ⟨⟨.inl ⟨rfl, rfl, ha, h1⟩, .inl ⟨rfl, rfl, ha, h2⟩, by rw [es]; omega, by rw [es]; omega⟩⟩
      | pay am r =>
        rw [e] at ih
        obtain ⟨h1, h2, h3, h4⟩ := ih.fc
        have ov := (wo_val ha po).2
        refine ⟨⟨by rw [List.length_map, h1], fun q hq => ?_, .inl ⟨rfl, rfl, .inr ⟨_, rfl, ov⟩, h3⟩, by show tb r + 404 ≤ _; omega⟩⟩
        obtain ⟨q', hq', rfl⟩ := List.mem_map.mp hq
        exact mulF_ok (h2 q' hq') ov (Nat.le_refl _)
    · have ih := face_ok po t b hb
      have et : tb (.p2 x .non a b) = tb b := by rcases hx with rfl | rfl <;> rfl
      have zn : ToldOk g (ps.length + 1) (tb b) (.pay (zeroF (ps.length + 1)) noth) := ⟨⟨zeroF_len _, zeroF_ok pb, fc_noth g, pb⟩⟩
      rw [et]
      rcases hx with rfl | rfl
      · unfold faceF
        dsimp only
        split
        · exact ih
        · exact ⟨⟨zeroF_len _, zeroF_ok pb, .inr (.inl ⟨.inl rfl, rfl, ha, hb⟩), by rw [et]; exact Nat.le_refl _⟩⟩
      · unfold faceF
        dsimp only
        split
        · exact zn
        · exact ih.map_ok (Nat.le_refl _) fun c hc hk => ⟨.inr (.inl ⟨.inr rfl, rfl, ha, hc⟩), hk⟩
    · have et : tb (.p2 x .non a b) = tb a + tb b + 1 := by rcases hx with rfl | rfl <;> rfl
      rw [et]
      rcases hx with rfl | rfl
      · have ia := face_ok po t a ha
        have ib := face_ok po t b hb
        have es : ∀ c d, tb (.p2 .both .non c d) = tb c + tb d + 1 := fun c d => rfl
        have fb : ∀ c d, FC g c → FC g d → FC g (.p2 .both .non c d) := fun c d h1 h2 => .inr (.inr ⟨.inl rfl, rfl, h1, h2⟩)
        unfold faceF
        dsimp only
        cases e : faceF ps t a with
        | ask s c d =>
          rw [e] at ia
          obtain ⟨h1, h2, h3, h4⟩ := ia.fc
          exact ⟨⟨fb _ _ h1 hb, fb _ _ h2 hb, by rw [es]; omega, by rw [es]; omega⟩⟩
        | pay am r =>
          rw [e] at ia
          obtain ⟨h1, h2, h3, h4⟩ := ia.fc
          dsimp only
          cases e' : faceF ps t b with
          | ask s c d =>
            rw [e'] at ib
            obtain ⟨k1, k2, k3, k4⟩ := ib.fc
            exact ⟨⟨fb _ _ ha k1, fb _ _ ha k2, by rw [es]; omega, by rw [es]; omega⟩⟩
          | pay am' r' =>
            rw [e'] at ib
            obtain ⟨k1, k2, k3, k4⟩ := ib.fc
            refine ⟨⟨by rw [List.length_zipWith, h1, k1, Nat.min_self], fun q hq => ?_, fb _ _ h3 k3, by rw [es]; omega⟩⟩
            obtain ⟨i, hi⟩ := List.getElem?_of_mem hq
            rw [List.getElem?_zipWith] at hi
            cases ea : am[i]? with
            | none => rw [ea] at hi; cases hi
            | some q1 =>
              cases eb : am'[i]? with
              | none => rw [ea, eb] at hi; cases hi
              | some q2 =>
                rw [ea, eb] at hi
                cases hi
                exact addF_ok (h2 q1 (List.mem_of_getElem? ea)) (k2 q2 (List.mem_of_getElem? eb)) (Nat.le_refl _)
      · exact ⟨⟨ha, hb, by omega, by omega⟩⟩
end Nl

namespace Nl
open PySem PySem.Spec PyProof.Rows L2
/-! ### what stays true of a contract from turn to turn: its literals, its size, its depth -/
def TAll (F : Part → Prop) : Told → Prop
  | .ask _ c d => F c ∧ F d
  | .pay _ l => F l
def NBL (g : Int) (p : Part) : Prop := p.All fun _ l => ¬ Part.BadL g l
theorem nb_0 {g : Int} {x : Wd} {l : Lit} (h : ¬ Part.BadL g l) : NBL g (.p0 x l) := Part.all_mk h fun k hk => by cases hk
theorem nb_1 {g : Int} {x : Wd} {l : Lit} {a : Part} (h : ¬ Part.BadL g l) (ha : NBL g a) : NBL g (.p1 x l a) := Part.all_mk h fun k hk => by
  rw [List.mem_singleton.mp hk]
  exact ha
theorem nb_2 {g : Int} {x : Wd} {l : Lit} {a b : Part} (h : ¬ Part.BadL g l) (ha : NBL g a) (hb : NBL g b) : NBL g (.p2 x l a b) := Part.all_mk h fun k hk => by
  rcases List.mem_cons.mp hk with rfl | hk
  · exact ha
  · rw [List.mem_singleton.mp hk]
    exact hb
theorem nb_non {g : Int} : ¬ Part.BadL g .non := fun z => z
theorem nb_noth {g : Int} : NBL g noth := nb_0 nb_non
theorem NBL.k1 {g : Int} {x : Wd} {l : Lit} {a : Part} (h : NBL g (.p1 x l a)) : NBL g a := Part.All.kid h (by simp [Part.ks])
theorem NBL.k2a {g : Int} {x : Wd} {l : Lit} {a b : Part} (h : NBL g (.p2 x l a b)) : NBL g a := Part.All.kid h (by simp [Part.ks])
theorem NBL.k2b {g : Int} {x : Wd} {l : Lit} {a b : Part} (h : NBL g (.p2 x l a b)) : NBL g b := Part.All.kid h (by simp [Part.ks])
theorem tall_map {F G : Part → Prop} {f : Part → Part} {t : Told} (h : TAll F t) (hf : ∀ c, F c → G (f c)) : TAll G (t.map f) := by
  cases t with
  | ask s c d => exact ⟨hf c h.1, hf d h.2⟩
  | pay am l => exact hf l h
theorem face_nb {g : Int} (ps : List Pr) (t : Int) : ∀ c : Part, NBL g c → TAll (NBL g) (faceF ps t c)
  | .p0 x l, h => by
    cases l with
    | good j => exact nb_noth
    | non => exact h
    | size q => exact h
    | time i => exact h
  | .p1 x l a, h => by
    have ih := face_nb ps t a h.k1
    unfold faceF
    split
    · cases e : faceF ps t a with
      | ask s c d =>
        rw [e] at ih
        exact ⟨nb_1 nb_non ih.1, nb_1 nb_non ih.2⟩
      | pay am r =>
        rw [e] at ih
        exact nb_1 nb_non ih
    · split
      · split
        · exact ih
        · split
          · exact h
          · exact nb_noth
      · exact nb_noth
    · split
      · split
        · exact nb_noth
        · exact ⟨h.k1, nb_1 nb_non h⟩
      · exact nb_noth
    · exact h.k1
    · exact nb_noth
  | .p2 x l a b, h => by
    have ia := face_nb ps t a h.k2a
    have ib := face_nb ps t b h.k2b
    unfold faceF
    split
    · cases e : faceF ps t b with
      | ask s c d =>
        rw [e] at ib
        exact ⟨nb_2 nb_non h.k2a ib.1, nb_2 nb_non h.k2a ib.2⟩
      | pay am r =>
        rw [e] at ib
        exact nb_2 nb_non (nb_0 fun z => z) ib
    · cases e : faceF ps t a with
      | ask s c d =>
        rw [e] at ia
        exact ⟨nb_2 nb_non ia.1 h.k2b, nb_2 nb_non ia.2 h.k2b⟩
      | pay am r =>
        rw [e] at ia
        cases e' : faceF ps t b with
        | ask s c d =>
          rw [e'] at ib
          exact ⟨nb_2 nb_non h.k2a ib.1, nb_2 nb_non h.k2a ib.2⟩
        | pay am' r' =>
          rw [e'] at ib
          exact nb_2 nb_non ia ib
    · exact ⟨h.k2a, h.k2b⟩
    · split
      · exact ib
      · exact h
    · split
      · exact nb_noth
      · exact tall_map ib fun c hc => nb_2 nb_non h.k2a hc
    · exact nb_noth
def TSz (s d : Nat) : Told → Prop
  | .ask _ x y => (x.size ≤ s + 1 ∧ x.depth ≤ d + 1) ∧ (y.size ≤ s + 1 ∧ y.depth ≤ d + 1)
  | .pay _ l => l.size ≤ s ∧ l.depth ≤ d
theorem face_sz (ps : List Pr) (t : Int) : ∀ c : Part, TSz c.size c.depth (faceF ps t c)
  | .p0 x l => by
    cases l <;> exact ⟨Nat.le_refl _, Nat.le_refl _⟩
  | .p1 x l a => by
    have ih := face_sz ps t a
    have p1 := a.size_pos
    have p2 := a.depth_pos
    have zn : ∀ z, TSz (Part.p1 x l a).size (Part.p1 x l a).depth (.pay z noth) := fun z => ⟨show 1 ≤ 1 + a.size by omega, show 1 ≤ 1 + a.depth by omega⟩
    unfold faceF
    split
    · cases e : faceF ps t a with
      | ask s c d =>
        rw [e] at ih
        obtain ⟨⟨h1, h2⟩, h3, h4⟩ := ih
        refine ⟨⟨?_, ?_⟩, ?_, ?_⟩ <;> simp only [Part.size, Part.depth] <;> omega
      | pay am r =>
        rw [e] at ih
        obtain ⟨h1, h2⟩ := ih
        refine ⟨?_, ?_⟩ <;> simp only [Part.size, Part.depth] <;> omega
    · split
      · split
        · revert ih
          cases faceF ps t a with
          | ask s c d =>
            rintro ⟨⟨h1, h2⟩, h3, h4⟩
            refine ⟨⟨?_, ?_⟩, ?_, ?_⟩ <;> simp only [Part.size, Part.depth] <;> omega
          | pay am r =>
            rintro ⟨h1, h2⟩
            refine ⟨?_, ?_⟩ <;> simp only [Part.size, Part.depth] <;> omega
        · split
          · exact ⟨Nat.le_refl _, Nat.le_refl _⟩
          · exact zn _
      · exact zn _
    · split
      · split
        · exact zn _
        · refine ⟨⟨?_, ?_⟩, ?_, ?_⟩ <;> simp only [Part.size, Part.depth] <;> omega
      · exact zn _
    · refine ⟨?_, ?_⟩ <;> simp only [Part.size, Part.depth] <;> omega
    · exact zn _
  | .p2 x l a b => by
    have ia := face_sz ps t a
    have ib := face_sz ps t b
    have p1 := a.size_pos
    have p2 := a.depth_pos
    have p3 := b.size_pos
    have p4 := b.depth_pos
    have zn : ∀ z, TSz (Part.p2 x l a b).size (Part.p2 x l a b).depth (.pay z noth) := fun z => ⟨show 1 ≤ 1 + (a.size + b.size) by omega, show 1 ≤ 1 + max a.depth b.depth by omega⟩
    unfold faceF
    split
    · cases e : faceF ps t b with
      | ask s c d =>
        rw [e] at ib
        obtain ⟨⟨h1, h2⟩, h3, h4⟩ := ib
        refine ⟨⟨?_, ?_⟩, ?_, ?_⟩ <;> simp only [Part.size, Part.depth] <;> omega
      | pay am r =>
        rw [e] at ib
        obtain ⟨h1, h2⟩ := ib
        refine ⟨?_, ?_⟩ <;> simp only [Part.size, Part.depth] <;> omega
    · cases e : faceF ps t a with
      | ask s c d =>
        rw [e] at ia
        obtain ⟨⟨h1, h2⟩, h3, h4⟩ := ia
        refine ⟨⟨?_, ?_⟩, ?_, ?_⟩ <;> simp only [Part.size, Part.depth] <;> omega
      | pay am r =>
        rw [e] at ia
        obtain ⟨k1, k2⟩ := ia
        cases e' : faceF ps t b with
        | ask s c d =>
          rw [e'] at ib
          obtain ⟨⟨h1, h2⟩, h3, h4⟩ := ib
          refine ⟨⟨?_, ?_⟩, ?_, ?_⟩ <;> simp only [Part.size, Part.depth] <;> omega
        | pay am' r' =>
          rw [e'] at ib
          obtain ⟨h1, h2⟩ := ib
          refine ⟨?_, ?_⟩ <;> simp only [Part.size, Part.depth] <;> omega
    · refine ⟨⟨?_, ?_⟩, ?_, ?_⟩ <;> simp only [Part.size, Part.depth] <;> omega
    · split
      · revert ib
        cases faceF ps t b with
        | ask s c d =>
          rintro ⟨⟨h1, h2⟩, h3, h4⟩
          refine ⟨⟨?_, ?_⟩, ?_, ?_⟩ <;> simp only [Part.size, Part.depth] <;> omega
        | pay am r =>
          rintro ⟨h1, h2⟩
          refine ⟨?_, ?_⟩ <;> simp only [Part.size, Part.depth] <;> omega
      · exact ⟨Nat.le_refl _, Nat.le_refl _⟩
    · split
      · exact zn _
      · revert ib
        cases faceF ps t b with
        | ask s c d =>
          rintro ⟨⟨h1, h2⟩, h3, h4⟩
          refine ⟨⟨?_, ?_⟩, ?_, ?_⟩ <;> simp only [Part.size, Part.depth] <;> omega
        | pay am r =>
          rintro ⟨h1, h2⟩
          refine ⟨?_, ?_⟩ <;> simp only [Part.size, Part.depth] <;> omega
    · exact zn _
/-! ### they can be compared -/
theorem Sh.mono {k k' : Nat} {d : PyData} (h : Sh k d) (hk : k ≤ k') : Sh k' d := ⟨h.1, Nat.le_trans h.2 hk⟩
theorem sh_word {x : Wd} {k : Nat} : Sh k (.str x.str) := ⟨by cases x <;> decide +kernel, Nat.zero_le _⟩
theorem sh_ask {k : Nat} : Sh k (.str "ask") := ⟨by decide +kernel, Nat.zero_le _⟩
theorem sh_pay {k : Nat} : Sh k (.str "pay") := ⟨by decide +kernel, Nat.zero_le _⟩
theorem sh_side {k : Nat} {b : Bool} : Sh k (.str (sideS b)) := ⟨by cases b <;> decide +kernel, Nat.zero_le _⟩
theorem sh_lit : ∀ (l : Lit), ∀ d ∈ l.ds, Sh 1 d
  | .non, d, hd => by cases hd
  | .size q, d, hd => by rw [List.mem_singleton.mp hd]; exact sh_fr q
  | .good j, d, hd => by rw [List.mem_singleton.mp hd]; exact .int
  | .time j, d, hd => by rw [List.mem_singleton.mp hd]; exact .int
theorem sh_part : ∀ p : Part, Sh (p.depth + 1) p.D
  | .p0 x l => by
    rw [Part.D_eq]
    refine Sh.tup fun d hd => ?_
    rcases List.mem_cons.mp hd with rfl | hd
    · exact sh_word
    · rcases List.mem_append.mp hd with hd | hd
      · exact sh_lit _ d hd
      · cases hd
  | .p1 x l a => by
    have ih := sh_part a
    rw [Part.D_eq]
    refine Sh.tup fun d hd => ?_
    rcases List.mem_cons.mp hd with rfl | hd
    · exact sh_word
    · rcases List.mem_append.mp hd with hd | hd
      · exact (sh_lit _ d hd).mono (by show 1 ≤ 1 + a.depth; omega)
      · rw [List.mem_singleton.mp hd]
        exact ih.mono (by show a.depth + 1 ≤ 1 + a.depth; omega)
  | .p2 x l a b => by
    have ia := sh_part a
    have ib := sh_part b
    rw [Part.D_eq]
    refine Sh.tup fun d hd => ?_
    rcases List.mem_cons.mp hd with rfl | hd
    · exact sh_word
    · rcases List.mem_append.mp hd with hd | hd
      · exact (sh_lit _ d hd).mono (by show 1 ≤ 1 + max a.depth b.depth; omega)
      · rcases List.mem_cons.mp hd with rfl | hd
        · exact ia.mono (by show a.depth + 1 ≤ 1 + max a.depth b.depth; omega)
        · rw [List.mem_singleton.mp hd]
          exact ib.mono (by show b.depth + 1 ≤ 1 + max a.depth b.depth; omega)
theorem sh_told {s d k : Nat} {t : Told} (h : TSz s d t) (hk : d + 2 ≤ k) : Sh (k + 1) t.D := by
  cases t with
  | ask sd x y =>
    refine Sh.tup fun e he => ?_
    simp only [List.mem_cons, List.not_mem_nil, or_false] at he
    rcases he with rfl | rfl | rfl | rfl
    · exact sh_ask
    · exact sh_side
    · exact (sh_part _).mono (by have := h.1.2; omega)
    · exact (sh_part _).mono (by have := h.2.2; omega)
  | pay am l =>
    refine Sh.tup fun e he => ?_
    simp only [List.mem_cons, List.not_mem_nil, or_false] at he
    rcases he with rfl | rfl | rfl
    · exact sh_pay
    · refine Sh.mono (k := 2) (Sh.tup fun e he => ?_) (by omega)
      obtain ⟨q, _, rfl⟩ := List.mem_map.mp he
      exact sh_fr q
    · exact (sh_part _).mono (by have := h.2; omega)
end Nl

namespace Nl
open PySem PySem.Spec PyProof.Rows L2
def placeD (x : List Int × Part) : PyData := .tuple [pathD x.1, x.2.D]
def placesF (pt : List Int) (k : Nat) : Told → List (List Int × Part)
  | .ask _ c d => [(pt, c), (pt, d)]
  | .pay _ l => (List.range k).map fun i : Nat => (pt ++ [Int.ofNat i], l)
theorem placesF_len (pt : List Int) (k : Nat) (t : Told) : (placesF pt k t).length ≤ max 2 k := by
  cases t with
  | ask s c d => exact Nat.le_max_left ..
  | pay am l =>
    show ((List.range k).map fun i : Nat => (pt ++ [Int.ofNat i], l)).length ≤ _
    rw [List.length_map, List.length_range]
    exact Nat.le_max_right ..
theorem tall_of_ok {g : Int} {n k : Nat} {t : Told} (h : ToldOk g n k t) : TAll (FC g) t := by
  cases t with
  | ask s c d => exact ⟨h.fc.1, h.fc.2.1⟩
  | pay am l => exact h.fc.2.2.1
theorem placesF_get {pt : List Int} {n m : Node} {told : Told} {s d : Nat} {F G : Part → Prop} (fe : find n pt = some m) (h1 : TAll F told) (h2 : TAll G told) (h3 : TSz s d told) {x : List Int × Part} (hx : x ∈ placesF pt m.ks.length told) :
    (∃ m', find n x.1 = some m') ∧ F x.2 ∧ G x.2 ∧ x.2.size ≤ s + 1 ∧ x.2.depth ≤ d + 1 := by
  cases told with
  | ask sd a b =>
    rcases List.mem_cons.mp hx with rfl | hx
    · exact ⟨⟨m, fe⟩, h1.1, h2.1, h3.1.1, h3.1.2⟩
    · rw [List.mem_singleton.mp hx]
      exact ⟨⟨m, fe⟩, h1.2, h2.2, h3.2.1, h3.2.2⟩
  | pay am l =>
    obtain ⟨i, hi, rfl⟩ := List.mem_map.mp hx
    have hi := List.mem_range.mp hi
    refine ⟨⟨m.ks[i], ?_⟩, h1, h2, Nat.le_succ_of_le h3.1, Nat.le_succ_of_le h3.2⟩
    rw [find_app _ _ _ _ fe, show [Int.ofNat i] = [(i : Int)] from rfl, find_cons, List.getElem?_eq_getElem hi]
    unfold find
    rfl
section
variable {P : Program} {w : World} {K : PySem.W.Frag} {mg : Str → Option Value} {base : Heap}
/-! ### where a contract's parts go -/
def sp_lbr (K : PySem.W.Frag) : Sp := fun vs H Q _ => ∃ (v va vt : V) (g : Int) (n m : Node) (pt : List Int) (told : Told), vs = [v, va, vt] ∧ DT K H v (marketD g n) ∧ DT K H va (pathD pt) ∧ DT K H vt told.D ∧ find n pt = some m ∧ pt.length ≤ 20 ∧ m.ks.length ≤ 100 ∧
  ∀ l xs H', Same H H' → H l = none → H' l = some (.lst xs) → DTs K H' xs ((placesF pt m.ks.length told).map placeD) → Q (.ref l) H'
theorem ok__law_branches (T : Top w K mg) : FnOk P w K mg base CX0 2 T.a__law_branches T.d__law_branches ["market", "path", "found"] (sp_lbr K) := by
  refine T._law_branches_F.ok sc__law_branches (fun vs H Q E h => ?_) (fun cdv A outer s H vs Q E hr h => ?_)
  · obtain ⟨_, _, _, _, _, _, _, _, rfl, _⟩ := h
    rfl
  · obtain ⟨v, va, vt, g, n, m, pt, told, rfl, dm, dp, dt, fe, lp, lk, fin⟩ := h
    refine ⟨_, (pss_cons (ps_if (pt_cmpR op_eq (pe_ix ix_tup (pv 2) pe_int (fun _ _ => rfl)) pe_str (nomark _)) (pss_one (ps_ret (pe_lst (pa_cons (pe_tup (pa_cons (pv 1) (pa_cons (pe_ix ix_tup (pv 2) pe_int (fun _ _ => rfl)) pa_nil))) (pa_cons (pe_tup (pa_cons (pv 1) (pa_cons (pe_ix ix_tup (pv 2) pe_int (fun _ _ => rfl)) pa_nil))) pa_nil))))) pss_nil)
      (pss_one (ps_ret (pe_lc (own := [("k", 3)]) (g := (gName 3)) (tt := tYes) (by rfl) sc__law_branches.nd (pi_range1 rfl T.n_range (pa_cons (pe_callB call_lenT (by rfl) T.n_len (by decide +kernel) (pa_cons (pe_ix ix_tup (pe_call (ok__law_find T) (hr.mono (by decide : 1 ≤ 1)) (by rfl) T.g__law_find T._law_find_F.kp T._law_find_b .nil pass0 (pa_cons (pv 0) (pa_cons (pv 1) pa_nil))) pe_int (fun _ _ => rfl)) pa_nil)) pa_nil)) (blkOk_by (own := [("k", 3)]) (N := ["market", "path", "found", "k"]) (sc := defScope s__law_branches) (by decide +kernel)) (fun _ _ _ _ _ => (pg_name (i := 3) sc__law_branches.nd rfl (Or.inl rfl))) (fun _ _ _ _ _ => pts_nil) (fun _ _ _ _ _ => (pe_tup (pa_cons (pe_op (r := rCatP K) op_catP (pv 1) (pe_tup (pa_cons (pv 3) pa_nil))) (pa_cons (pe_ix (r := rIxT K) ix_tup (pv 2) pe_int (fun _ _ => rfl)) pa_nil)))))))), ?_⟩
    obtain ⟨ap, rfl, hap⟩ := id dp.path_inv
    cases told with
    | ask sd c d =>
      obtain ⟨at', x, y, rfl, hat, dx, dy⟩ := dt.ask_inv
      refine ⟨_, rfl, _, _, _, _, rfl, rfl, hat.sq, atI_nat (j := 0) rfl, rfl, _, rfl, if_true_of' ask_ask ?_⟩
      refine ⟨_, rfl, _, rfl, _, _, _, _, rfl, rfl, hat.sq, atI_nat (j := 2) rfl, two_le, fun p1 h1 => ?_⟩
      have t1 := same_new (o := .tup [V.ref ap, x]) h1
      refine ⟨_, rfl, _, rfl, _, _, _, _, rfl, rfl, (tp_same t1 hat).sq, atI_nat (j := 3) rfl, two_le, fun p2 h2 => ⟨two_le, fun l hl => ?_⟩⟩
      have t2 := same_new (o := .tup [V.ref ap, y]) h2
      have t3 := same_new (o := .lst [V.ref p1, V.ref p2]) hl
      have t123 := (t1.trans t2).trans t3
      exact fin l [.ref p1, .ref p2] _ t123 ((t1.trans t2).free hl) upd_same (.cons (.mk2 (Tp.of (t3 _ _ (t2 _ _ upd_same))) (dp.same t123) (dx.same t123)) (.cons (.mk2 (Tp.of (t3 _ _ upd_same)) (dp.same t123) (dy.same t123)) .nil))
    | pay am r =>
      obtain ⟨at', x, y, rfl, hat, dx, dy⟩ := dt.pay_inv
      refine ⟨_, rfl, _, _, _, _, rfl, rfl, hat.sq, atI_nat (j := 0) rfl, rfl, _, rfl, if_false_of' pay_ask ?_⟩
      refine ⟨_, rfl, _, rfl, v, .ref ap, g, n, pt, rfl, dm, dp, fun z => absurd (fe.symm.trans z) (Option.some_ne_none _), fun m' hm' v' dv' => ?_⟩
      rw [fe] at hm'
      cases hm'
      obtain ⟨an, vps, vks, rfl, han, dps, dks⟩ := dv'.node_inv
      obtain ⟨ak, xk, rfl, hak, dxk⟩ := id dks.inv
      have lxk : xk.length = m.ks.length := by rw [dxk.len, List.length_map]
      refine ⟨_, _, _, _, rfl, rfl, han.sq, atI_nat (j := 1) rfl, ak, xk, rfl, hak.sq, ?_⟩
      rw [lxk]
      refine ⟨_, rfl, by omega, by omega, fun D hD => lc_range (lo := 0) (n := ((m.ks.length : Nat) : Int).toNat) (fun i H' => Same H H' ∧ ∃ o, H' D = some (.lst o) ∧ DTs K H' o (((placesF pt m.ks.length (.pay am r)).take i).map placeD)) ⟨same_new hD, [], upd_same, .nil⟩ ?_ ?_⟩
      · rintro i H' hi ⟨sm, o, hO, dO⟩
        refine ⟨rfl, ?_⟩
        dsimp only [tYes]
        rw [if_pos rfl]
        have hi' : i < m.ks.length := by omega
        have ho : (placesF pt m.ks.length (.pay am r))[i]? = some (pt ++ [Int.ofNat i], r) := by
          show ((List.range m.ks.length).map fun i : Nat => (pt ++ [Int.ofNat i], r))[i]? = _
          rw [List.getElem?_map, List.getElem?_range hi']
          rfl
        have lo : o.length ≤ 100 := by
          rw [dO.len, List.length_map, List.length_take]
          omega
        refine ⟨_, rfl, _, rfl, (by decide : 1 ≤ sizeLine), fun p1 h1 => ?_⟩
        have t1 := same_new (o := .tup [V.int (0 + (i : Int))]) h1
        have sm1 := sm.trans t1
        refine ⟨ap, p1, pt.map V.int, [V.int (0 + (i : Int))], rfl, rfl, tp_same sm1 hap, Tp.of upd_same, len1000 (by simp; omega), fun q H2 s2 hq => ?_⟩
        have sm2 := sm1.trans s2
        refine ⟨_, rfl, _, _, _, _, rfl, rfl, (tp_same sm2 hat).sq, atI_nat (j := 2) rfl, two_le, fun p3 h3 => ?_⟩
        have t3 := same_new (o := .tup [V.ref q, y]) h3
        have sm3 := sm2.trans t3
        have hO3 := t3 _ _ (s2 _ _ (t1 _ _ hO))
        have hq' : Tp H2 q ((pt ++ [Int.ofNat i]).map V.int) := by simpa using hq
        refine ⟨o, hO3, small1000 (by omega), same_mut sm3 hD, _, upd_same, ?_⟩
        rw [take_next ho, List.map_append]
        exact ((((dO.same t1).same s2).same t3).snoc (.mk2 (Tp.of upd_same) (DT.path (tp_same t3 hq')) (dy.same sm3))).xt ⟨_, hO3⟩ Xt.upd
      · rintro H' ⟨sm, o, hO, dO⟩
        rw [List.take_of_length_le (by show ((List.range m.ks.length).map fun i : Nat => (pt ++ [Int.ofNat i], r)).length ≤ _; rw [List.length_map, List.length_range]; omega)] at dO
        exact fin D o H' sm hD hO dO
end
end Nl

namespace Nl
open PySem PySem.Spec PyProof.Rows L2
def rowD (r : Row) : PyData := .tuple [pathD r.1, pathD r.2.pt, r.2.c.D, r.2.told.D, amD r.2.given]
def levD (r : Row) : PyData := .tuple [pathD r.1, pathD r.2.pt, r.2.c.D, amD r.2.gv]
def accL (l : List Row) : Nat → List Row
  | 0 => []
  | k + 1 => accL l k ++ lvlR l k
theorem lvl_next (l : List Row) : ∀ k, lvlR l (k + 1) = lvlR (l.flatMap kidR) k
  | 0 => rfl
  | k + 1 => by
    show (lvlR l (k + 1)).flatMap kidR = (lvlR (l.flatMap kidR) k).flatMap kidR
    rw [lvl_next l k]
theorem acc_next (l : List Row) : ∀ k, accL l (k + 1) = l ++ accL (l.flatMap kidR) k
  | 0 => by simp [accL, lvlR]
  | k + 1 => by
    show accL l (k + 1) ++ lvlR l (k + 1) = l ++ (accL (l.flatMap kidR) k ++ lvlR (l.flatMap kidR) k)
    rw [acc_next l k, lvl_next, List.append_assoc]
theorem acc_bfs : ∀ (f : Nat) (l : List Row), accL l (f + 1) = bfsR f l
  | 0, l => by simp [accL, lvlR, bfsR]
  | f + 1, l => by
    rw [acc_next, acc_bfs f]
    rfl
theorem lvl_nil {l : List Row} {k : Nat} (h : lvlR l k = []) : ∀ j, k ≤ j → lvlR l j = []
  | 0, hj => by
    obtain rfl : k = 0 := by omega
    exact h
  | j + 1, hj => by
    by_cases e : k = j + 1
    · rw [← e]; exact h
    · show (lvlR l j).flatMap kidR = []
      rw [lvl_nil h j (by omega)]
      rfl
theorem acc_stop {l : List Row} {k : Nat} (h : lvlR l k = []) : ∀ j, k ≤ j → accL l j = accL l k
  | 0, hj => by
    obtain rfl : k = 0 := by omega
    rfl
  | j + 1, hj => by
    by_cases e : k = j + 1
    · rw [← e]
    · show accL l j ++ lvlR l j = _
      rw [acc_stop h j (by omega), lvl_nil h j (by omega), List.append_nil]
theorem goF_find {n : Node} : ∀ (r : List Int) {s s' : PlS}, goF s r = some s' → find n s.pt = some s.n → find n s'.pt = some s'.n
  | [], s, s', e, h => by
    cases e
    exact h
  | i :: r, s, s', e, h => by
    have e : (s.kid i).bind (fun s' => goF s' r) = some s' := e
    cases hk : s.kid i with
    | none => rw [hk] at e; cases e
    | some k =>
      rw [hk] at e
      refine goF_find r (show goF k r = some s' from e) ?_
      obtain ⟨i0, i1⟩ := kid_lt hk
      obtain ⟨j, rfl⟩ := Int.eq_ofNat_of_zero_le i0
      cases hT : s.told with
      | ask sd x y =>
        obtain ⟨k0, k1, k2⟩ := kid_ask hT
        rcases (by omega : j = 0 ∨ j = 1) with rfl | rfl
        · rw [show ((0 : Nat) : Int) = 0 from rfl, k0] at hk
          cases hk
          exact h
        · rw [show ((1 : Nat) : Int) = 1 from rfl, k1] at hk
          cases hk
          exact h
      | pay am l =>
        obtain ⟨k1, k2⟩ := kid_pay hT
        have hj : s.n.ks[j]? = some s.n.ks[j] := List.getElem?_eq_getElem (by omega)
        rw [k2 j _ hj] at hk
        cases hk
        show find n (s.pt ++ [(j : Int)]) = some s.n.ks[j]
        rw [find_app _ _ _ _ h, find_cons, hj]
        unfold find
        rfl
/-- a row is what its history leads to -/
def RV (root r : Row) : Prop := root.1 = [] ∧ goF root.2 r.1 = some r.2
theorem RV.kid {root r x : Row} (h : RV root r) (hx : x ∈ kidR r) : RV root x := by
  obtain ⟨i, _, e1, e2⟩ := kidR_mem.mp hx
  refine ⟨h.1, ?_⟩
  rw [e1, goF_app, h.2]
  show goF r.2 [(i : Int)] = _
  rw [goF_one]
  exact e2
theorem lvl_rv {root : Row} (h : root.1 = []) : ∀ k, ∀ r ∈ lvlR [root] k, RV root r ∧ r.1.length = k
  | 0, r, hr => by
    rw [List.mem_singleton.mp hr]
    refine ⟨⟨h, ?_⟩, ?_⟩ <;> rw [h]
    · rfl
    · rfl
  | k + 1, r, hr => by
    obtain ⟨x, hx, hr⟩ := List.mem_flatMap.mp hr
    obtain ⟨h1, h2⟩ := lvl_rv h k x hx
    refine ⟨h1.kid hr, ?_⟩
    obtain ⟨i, _, e1, _⟩ := kidR_mem.mp hr
    rw [e1, List.length_append, h2]
    rfl
theorem lvl_end {g : Int} {M B A m : Nat} {root : Row} (h : root.1 = []) (p : PV g M B A m root.2) : ∀ k, A + m < k → lvlR [root] k = [] := fun k hk => by
  cases e : lvlR [root] k with
  | nil => rfl
  | cons r l =>
    obtain ⟨⟨_, h1⟩, h2⟩ := lvl_rv h k r (by rw [e]; exact List.mem_cons_self ..)
    obtain ⟨A', m', _, h3⟩ := p.all _ h1
    omega
theorem places_kid {r : Row} {k : Nat} (h : k < r.2.kids) : ∃ s, r.2.kid (k : Int) = some s ∧ (placesF r.2.pt r.2.n.ks.length r.2.told)[k]? = some (s.pt, s.c) ∧ s.gv = r.2.given := by
  cases hT : r.2.told with
  | ask sd x y =>
    obtain ⟨k0, k1, k2⟩ := kid_ask hT
    have e : r.2.given = r.2.gv := by unfold PlS.given; rw [hT]; rfl
    rw [e]
    rcases (by omega : k = 0 ∨ k = 1) with rfl | rfl
    · exact ⟨_, k0, rfl, rfl⟩
    · exact ⟨_, k1, rfl, rfl⟩
  | pay am l =>
    obtain ⟨k1, k2⟩ := kid_pay hT
    have e : r.2.given = List.zipWith addF r.2.gv am := by unfold PlS.given; rw [hT]; rfl
    rw [e]
    have hk : k < r.2.n.ks.length := by omega
    refine ⟨_, k2 k _ (List.getElem?_eq_getElem hk), ?_, rfl⟩
    show ((List.range r.2.n.ks.length).map fun i : Nat => (r.2.pt ++ [Int.ofNat i], l))[k]? = _
    rw [List.getElem?_map, List.getElem?_range hk]
    rfl
theorem places_len (r : Row) : (placesF r.2.pt r.2.n.ks.length r.2.told).length = r.2.kids := by
  cases hT : r.2.told with
  | ask sd x y =>
    obtain ⟨k0, k1, k2⟩ := kid_ask hT
    rw [k2]
    rfl
  | pay am l =>
    obtain ⟨k1, k2⟩ := kid_pay hT
    rw [k1]
    show ((List.range r.2.n.ks.length).map fun i : Nat => (r.2.pt ++ [Int.ofNat i], l)).length = _
    rw [List.length_map, List.length_range]
theorem DT.levD_inv {K : PySem.W.Frag} {H : Hp} {v : V} {r : Row} (h : DT K H v (levD r)) : ∃ a v1 v2 v3 v4, v = .ref a ∧ Tp H a [v1, v2, v3, v4] ∧ DT K H v1 (pathD r.1) ∧ DT K H v2 (pathD r.2.pt) ∧ DT K H v3 r.2.c.D ∧ DT K H v4 (amD r.2.gv) := by
  obtain ⟨a, xs, rfl, ha, hd⟩ := DT.inv h
  cases hd with
  | cons h1 t =>
    cases t with
    | cons h2 t =>
      cases t with
      | cons h3 t =>
        cases t with
        | cons h4 t =>
          cases t
          exact ⟨a, _, _, _, _, rfl, ha, h1, h2, h3, h4⟩
section
variable {P : Program} {w : World} {K : PySem.W.Frag} {mg : Str → Option Value} {base : Heap}
def sp_lall (K : PySem.W.Frag) : Sp := fun vs H Q _ => ∃ (vm vc : V) (g : Int) (n : Node) (c : Part) (m B : Nat), vs = [vm, vc] ∧ DT K H vm (marketD g n) ∧ DT K H vc c.D ∧ PV g m B 5 m ⟨[], n, c, zeroF g.toNat⟩ ∧
  ∀ l xs H', Same H H' → H l = none → H' l = some (.lst xs) → DTs K H' xs ((bfsR 7 [(([], ⟨[], n, c, zeroF g.toNat⟩) : Row)]).map rowD) → Q (.ref l) H'
theorem ok__law_all (T : Top w K mg) : FnOk P w K mg base CX0 38 T.a__law_all T.d__law_all ["market", "contract"] (sp_lall K) := by
  refine T._law_all_F.ok sc__law_all (fun vs H Q E h => ?_) (fun cdv A outer s H vs Q E hr h => ?_)
  · obtain ⟨_, _, _, _, _, _, _, rfl, _⟩ := h
    rfl
  · obtain ⟨vm, vc, g, n, c, m, B, rfl, dm, dc, hpv, fin⟩ := h
    refine ⟨_, (pss_cons (ps_set (i := 2) sc__law_all.nd rfl (Or.inl rfl) (pe_lst pa_nil))
      (pss_cons (ps_set (i := 3) sc__law_all.nd rfl (Or.inl rfl) (pe_lst (pa_cons (pe_tup (pa_cons (pe_tup pa_nil) (pa_cons (pe_tup pa_nil) (pa_cons (pv 1) (pa_cons (pe_op op_repK (pe_tup (pa_cons (pe_tup (pa_cons pe_int (pa_cons pe_int pa_nil))) pa_nil)) (pe_ix ix_tup (pv 0) pe_int (fun _ _ => rfl))) pa_nil))))) pa_nil)))
      (pss_cons (ps_for PassesOwn.never rfl (pi_range1 rfl T.n_range (pa_cons pe_int pa_nil)) (pg_name (i := 4) sc__law_all.nd rfl (Or.inl rfl)) (pss_cons (ps_set (i := 5) sc__law_all.nd rfl (Or.inl rfl) (pe_lst pa_nil))
      (pss_cons (ps_for PassesOwn.never rfl (pi_list (pv 3)) (pg_tup rfl (pgs_cons (pg_name (i := 6) sc__law_all.nd rfl (Or.inl rfl)) (pgs_cons (pg_name (i := 7) sc__law_all.nd rfl (Or.inl rfl)) (pgs_cons (pg_name (i := 8) sc__law_all.nd rfl (Or.inl rfl)) (pgs_cons (pg_name (i := 9) sc__law_all.nd rfl (Or.inr rfl)) pgs_nil))))) (pss_cons (ps_set (i := 10) sc__law_all.nd rfl (Or.inr rfl) (pe_call (ok__law_faced T) (hr.mono (by omega)) (by rfl) T.g__law_faced T._law_faced_F.kp T._law_faced_b .nil pass0 (pa_cons (pe_call (ok__law_prices T) (hr.mono (by omega)) (by rfl) T.g__law_prices T._law_prices_F.kp T._law_prices_b .nil pass0 (pa_cons (pv 0) (pa_cons (pv 7) pa_nil))) (pa_cons (pe_callB call_lenT (by rfl) T.n_len (by decide +kernel) (pa_cons (pv 7) pa_nil)) (pa_cons (pv 8) pa_nil)))))
      (Evl.pss_cut (ps_if (pt_cmpR op_eq (pe_ix ix_tup (pv 10) pe_int (fun _ _ => rfl)) pe_str (nomark _)) (pss_one (ps_set (i := 9) sc__law_all.nd rfl (Or.inr rfl) (pe_callTy call_tupL (by rfl) T.n_tuple (by decide +kernel) (pa_cons (pe_lc (own := [("k", 11)]) (g := (gName 11)) (tt := tYes) (by rfl) sc__law_all.nd (pi_range1 rfl T.n_range (pa_cons (pe_ix ix_tup (pv 0) pe_int (fun _ _ => rfl)) pa_nil)) (blkOk_by (own := [("k", 11)]) (N := ["market", "contract", "rows", "level", "turn", "fresh", "history", "path", "here", "amounts", "found", "k", "places"]) (sc := defScope s__law_all) (by decide +kernel)) (fun _ _ _ _ _ => (pg_name (i := 11) sc__law_all.nd rfl (Or.inl rfl))) (fun _ _ _ _ _ => pts_nil) (fun _ _ _ _ _ => (pe_call (ok__law_plusW T) (hr.mono (by omega)) (by rfl) T.g__law_plus T._law_plus_F.kp T._law_plus_b .nil pass0 (pa_cons (pe_ix (r := rIxT K) ix_tup (pv 9) (pv 11) (fun _ _ => rfl)) (pa_cons (pe_ix (r := rIxT K) ix_tup (pe_ix (r := rIxT K) ix_tup (pv 10) pe_int (fun _ _ => rfl)) (pv 11) (fun _ _ => rfl)) pa_nil))))) pa_nil)))) pss_nil)
      (pss_cons (ps_expr (pe_bm PySem.F.plainAttrs_list PySem.F.slot_list_append PySem.F.type_list_append mt_append (pv 2) (pa_cons (pe_tup (pa_cons (pv 6) (pa_cons (pv 7) (pa_cons (pv 8) (pa_cons (pv 10) (pa_cons (pv 9) pa_nil)))))) pa_nil)))
      (pss_cons (ps_set (i := 12) sc__law_all.nd rfl (Or.inl rfl) (pe_call (ok__law_branches T) (hr.mono (by omega)) (by rfl) T.g__law_branches T._law_branches_F.kp T._law_branches_b .nil pass0 (pa_cons (pv 0) (pa_cons (pv 7) (pa_cons (pv 10) pa_nil)))))
      (pss_one (ps_for PassesOwn.never rfl (pi_range1 rfl T.n_range (pa_cons (pe_callB call_lenL (by rfl) T.n_len (by decide +kernel) (pa_cons (pv 12) pa_nil)) pa_nil)) (pg_name (i := 11) sc__law_all.nd rfl (Or.inl rfl)) (pss_one (ps_expr (pe_bm PySem.F.plainAttrs_list PySem.F.slot_list_append PySem.F.type_list_append mt_append (pv 5) (pa_cons (pe_tup (pa_cons (pe_op op_catP (pv 6) (pe_tup (pa_cons (pv 11) pa_nil))) (pa_cons (pe_ix ix_tup (pe_ix ix_list (pv 12) (pv 11) (fun _ _ => rfl)) pe_int (fun _ _ => rfl)) (pa_cons (pe_ix ix_tup (pe_ix ix_list (pv 12) (pv 11) (fun _ _ => rfl)) pe_int (fun _ _ => rfl)) (pa_cons (pv 9) pa_nil))))) pa_nil)))))))))))
      (pss_cons (ps_set (i := 3) sc__law_all.nd rfl (Or.inl rfl) (pv 5))
      (pss_one (ps_if (PW.pt (pw_or (pt_cmpR op_eq (pe_callB call_lenL (by rfl) T.n_len (by decide +kernel) (pa_cons (pv 3) pa_nil)) pe_int (nomark _)) (pw_or1 (pt_cmpR op_gt (pe_callB call_lenL (by rfl) T.n_len (by decide +kernel) (pa_cons (pv 2) pa_nil)) pe_int (nomark _))))) (pss_one ps_break) pss_nil))))))
      (pss_one (ps_ret (pv 2)))))), ?_⟩
    have m2 := hpv.M2
    have g1 := hpv.g1
    have g4 := hpv.g4
    generalize hroot : (([], ⟨[], n, c, zeroF g.toNat⟩) : Row) = root at *
    have hr1 : root.1 = [] := by rw [← hroot]
    have hpr : PV g m B 5 m root.2 := by rw [← hroot]; exact hpv
    have fnd : find n root.2.pt = some root.2.n := by rw [← hroot]; unfold find; rfl
    have few : (bfsR 7 [root]).length ≤ 383 := by
      rw [(bfs_perm 7 [root]).length_eq]
      simpa using hpr.count400 (f := 7) (by omega) (Nat.le_refl _)
    have e8 : accL [root] 8 = bfsR 7 [root] := acc_bfs 7 _
    have lv8 : lvlR [root] 8 = [] := lvl_end hr1 hpr 8 (by omega)
    have acc8 : ∀ i, i ≤ 8 → (accL [root] i).length ≤ (accL [root] 8).length := by
      have st : ∀ i j, i ≤ j → (accL [root] i).length ≤ (accL [root] j).length := by
        intro i j hij
        induction j with
        | zero => obtain rfl : i = 0 := by omega
                  exact Nat.le_refl _
        | succ j ih =>
          by_cases e : i = j + 1
          · rw [e]; exact Nat.le_refl _
          · show _ ≤ (accL [root] j ++ lvlR [root] j).length
            rw [List.length_append]
            have := ih (by omega)
            omega
      exact fun i hi => st i 8 hi
    obtain ⟨am, vn, rfl, ham, dn⟩ := id dm.market_inv
    refine ⟨Nat.zero_le _, fun pr hr0 => ?_⟩
    have s1 := same_new (o := .lst []) hr0
    refine ⟨Nat.zero_le _, fun p1 h1 => ⟨Nat.zero_le _, fun p2 h2 => ?_⟩⟩
    have s2 := same_new (o := .tup []) h1
    have s3 := same_new (o := .tup []) h2
    refine ⟨_, rfl, two_le, fun p3 h3 => ⟨(by decide : 1 ≤ sizeLine), fun p4 h4 => ?_⟩⟩
    have s4 := same_new (o := .tup [V.int 0, V.int 1]) h3
    have s5 := same_new (o := .tup [V.ref p3]) h4
    have d0 := DT.fr (K := K) (q := (0, 1)) (Tp.of (s5 _ _ (upd_same (a := p3) (o := .tup [V.int 0, V.int 1]))))
    have s15 := (((s1.trans s2).trans s3).trans s4).trans s5
    refine ⟨_, rfl, _, _, _, _, rfl, rfl, (tp_same s15 ham).sq, atI_nat (j := 0) rfl, p4, _, _, rfl, rfl, Tp.of upd_same, by simp, by omega, by omega, (by decide : 1 ≤ 1000), fun q H5 s6 hq => ⟨(by decide : 4 ≤ sizeLine), fun p5 h5 => ⟨(by decide : 1 ≤ sizeLine), fun pl hl => ?_⟩⟩⟩
    have er : (List.replicate g.toNat [V.ref p3]).flatten = List.replicate g.toNat (V.ref p3) := by simp
    rw [er] at hq
    have s7 := same_new (o := .tup [V.ref p1, V.ref p2, vc, V.ref q]) h5
    have s8 := same_new (o := .lst [V.ref p5]) hl
    have sA := ((s15.trans s6).trans s7).trans s8
    have hl0 : H pl = none := ((s15.trans s6).trans s7).free hl
    have hR : (upd (upd H5 p5 (.tup [V.ref p1, V.ref p2, vc, V.ref q])) pl (.lst [V.ref p5])) pr = some (.lst []) := s8 _ _ (s7 _ _ (s6 _ _ (s5 _ _ (s4 _ _ (s3 _ _ (s2 _ _ upd_same))))))
    have npl : pr ≠ pl := fun z => by
      have := s7 _ _ (s6 _ _ (s5 _ _ (s4 _ _ (s3 _ _ (s2 _ _ (upd_same (a := pr) (o := .lst [])))))))
      rw [z, hl] at this
      cases this
    have dq : DT K (upd (upd H5 p5 (.tup [V.ref p1, V.ref p2, vc, V.ref q])) pl (.lst [V.ref p5])) (.ref q) (amD (zeroF g.toNat)) := by
      refine .tup (tp_same (s7.trans s8) hq) ?_
      unfold zeroF
      rw [List.map_replicate]
      exact dts_rep ((d0.same s6).same (s7.trans s8)) _
    have dL : DT K (upd (upd H5 p5 (.tup [V.ref p1, V.ref p2, vc, V.ref q])) pl (.lst [V.ref p5])) (.ref p5) (levD root) := by
      rw [← hroot]
      have sB := (((s4.trans s5).trans s6).trans s7).trans s8
      exact .tup (Tp.of (s8 _ _ upd_same)) (.cons (DT.path (p := []) (tp_same (s3.trans sB) upd_same)) (.cons (DT.path (p := []) (tp_same sB upd_same)) (.cons (dc.same sA) (.cons dq .nil))))
    have hL9 : (upd (upd H5 p5 (.tup [V.ref p1, V.ref p2, vc, V.ref q])) pl (.lst [V.ref p5])) pl = some (.lst [V.ref p5]) := upd_same
    generalize (upd (upd H5 p5 (.tup [V.ref p1, V.ref p2, vc, V.ref q])) pl (.lst [V.ref p5])) = H9 at *
    have dm9 := dm.same sA
    refine ⟨40, rfl, by decide, by decide, for_rangeB (lo := 0) (n := (40 : Int).toNat) (fun i σ H' => ∃ (pl : Addr) (xr xl : List V) (y4 y5 y6 y7 y8 y9 y10 y11 y12 : Option V), σ = [some (.ref am), some vc, some (.ref pr), some (.ref pl), y4, y5, y6, y7, y8, y9, y10, y11, y12] ∧ Same H H' ∧ H' pr = some (.lst xr) ∧ H' pl = some (.lst xl) ∧ pr ≠ pl ∧ H pl = none ∧ DTs K H' xr ((accL [root] i).map rowD) ∧ DTs K H' xl ((lvlR [root] i).map levD) ∧ i ≤ 7)
      (fun σ H' => ∃ (xr : List V) (y3 y4 y5 y6 y7 y8 y9 y10 y11 y12 : Option V), σ = [some (.ref am), some vc, some (.ref pr), y3, y4, y5, y6, y7, y8, y9, y10, y11, y12] ∧ Same H H' ∧ H' pr = some (.lst xr) ∧ DTs K H' xr ((bfsR 7 [root]).map rowD)) ?_ ⟨pl, [], [.ref p5], _, _, _, _, _, _, _, _, _, rfl, sA, hR, hL9, npl, hl0, .nil, .cons dL .nil, by decide⟩ ?_ ?_⟩
    · rintro σ H' ⟨xr, y3, y4, y5, y6, y7, y8, y9, y10, y11, y12, rfl, sm, hr', dr⟩
      exact ⟨_, rfl, fin pr xr H' sm hr0 hr' dr⟩
    · rintro hz i σ H' hi ⟨pl, xr, xl, y4, y5, y6, y7, y8, y9, y10, y11, y12, rfl, sm, hR, hL, npl, hl0, dR, dL, i7⟩
      refine ⟨Nat.zero_le _, fun pf hf => ?_⟩
      have t1 := same_new (o := .lst []) hf
      have hf0 := sm.free hf
      have nrf : pr ≠ pf := ne_of_none hR hf
      have nlf : pl ≠ pf := ne_of_none hL hf
      have lxl : xl.length = (lvlR [root] i).length := by rw [dL.len, List.length_map]
      have accn : (accL [root] i).length + (lvlR [root] i).length ≤ 383 := by
        have := acc8 (i + 1) (by omega)
        rw [e8, show accL [root] (i + 1) = accL [root] i ++ lvlR [root] i from rfl, List.length_append] at this
        omega
      have lvn : (lvlR [root] (i + 1)).length ≤ 383 := by
        by_cases z : i = 7
        · rw [z, lv8]; decide
        · have := acc8 (i + 2) (by omega)
          rw [e8, show accL [root] (i + 2) = accL [root] (i + 1) ++ lvlR [root] (i + 1) from rfl, List.length_append] at this
          omega
      have rvs := lvl_rv (root := root) hr1 i
      have elv : lvlR [root] (i + 1) = (lvlR [root] i).flatMap kidR := rfl
      rw [elv] at lvn
      have eac : accL [root] (i + 1) = accL [root] i ++ lvlR [root] i := rfl
      refine ⟨_, rfl, pl, rfl, ⟨_, SqL.of (t1 _ _ hL)⟩, for_list (K := K) (a := pl) (xs := xl) (fun j σ H' => ∃ (xr xf : List V) (y6 y7 y8 y9 y10 y11 y12 : Option V), σ = [some (.ref am), some vc, some (.ref pr), some (.ref pl), some (.int (0 + (i : Int))), some (.ref pf), y6, y7, y8, y9, y10, y11, y12] ∧ Same H H' ∧ H' pr = some (.lst xr) ∧ H' pl = some (.lst xl) ∧ H' pf = some (.lst xf) ∧ DTs K H' xr ((accL [root] i ++ (lvlR [root] i).take j).map rowD) ∧ DTs K H' xl ((lvlR [root] i).map levD) ∧ DTs K H' xf ((((lvlR [root] i).take j).flatMap kidR).map levD))
        ⟨xr, [], _, _, _, _, _, _, _, rfl, sm.trans t1, t1 _ _ hR, t1 _ _ hL, upd_same, ?_, dL.same t1, .nil⟩ (fun j σ H' _ ⟨_, _, _, _, _, _, _, _, _, _, _, _, h, _⟩ => SqL.of h) ?_ ?_⟩
      · rw [List.take_zero, List.append_nil]
        exact dR.same t1
      · rintro j x σ H2 hj ⟨xr, xf, y6, y7, y8, y9, y10, y11, y12, rfl, sm2, hR2, hL2, hF2, dR2, dL2, dF2⟩
        obtain ⟨d, hd, dx⟩ := dL2.get hj
        rw [List.getElem?_map] at hd
        obtain ⟨r, hr', rfl⟩ := Option.map_eq_some_iff.mp hd
        obtain ⟨b, vh, vp, vc', va, rfl, hb, dh, dp, dcc, da⟩ := dx.levD_inv
        obtain ⟨⟨_, rv⟩, rl⟩ := rvs r (List.mem_of_getElem? hr')
        obtain ⟨A', m', pvr, pvl⟩ := hpr.all _ rv
        have fr := goF_find _ rv fnd
        have po := pvr.nv.ps
        have plen : (r.2.n.ps.length : Int) = g - 1 := po.len
        have ppl := pvr.pl
        have hM2 := pvr.M2
        have dep := pvr.dep
        have tbc := pvr.tbc
        have hB4 := pvr.B4
        obtain ⟨ap, rfl, hap⟩ := id dp.path_inv
        refine ⟨_, _, rfl, hb.sq, rfl, _, _, rfl, _, _, rfl, _, _, rfl, _, _, rfl, rfl, ?_⟩
        refine ⟨_, rfl, _, rfl, .ref am, .ref ap, g, n, r.2.n, r.2.pt, rfl, dm.same sm2, dp, fr, by omega, fun vps H10 s10 dps => ?_⟩
        refine ⟨_, rfl, ap, _, rfl, (tp_same s10 hap).sq, _, rfl, ?_⟩
        rw [List.length_map]
        refine ⟨(r.2.pt.length : Int), vps, vc', g, r.2.n.ps, r.2.c, ⟨rfl, dps, dcc.same s10, po, g1, g4, pvr.fc, by omega, by omega, fun vd H11 s11 dd => ?_⟩⟩
        have s211 := s10.trans s11
        have fo := face_ok po (r.2.pt.length : Int) r.2.c pvr.fc
        have hT0 : faceF r.2.n.ps (r.2.pt.length : Int) r.2.c = r.2.told := rfl
        rw [hT0] at fo dd
        refine ⟨fun σ' H4 => ∃ va, σ' = [some (.ref am), some vc, some (.ref pr), some (.ref pl), some (.int (0 + (i : Int))), some (.ref pf), some vh, some (.ref ap), some vc', some va, some vd, y11, y12] ∧ Same H11 H4 ∧ DT K H4 va (amD r.2.given), ?_, ?_⟩
        · cases hT : r.2.told with
          | ask sd x y =>
            rw [hT] at dd
            obtain ⟨at', x', y', rfl, hat, dx', dy'⟩ := id dd.ask_inv
            refine ⟨_, rfl, _, _, _, _, rfl, rfl, hat.sq, atI_nat (j := 0) rfl, rfl, _, rfl, if_false_of' ask_pay ?_⟩
            refine ⟨va, rfl, Same.refl _, ?_⟩
            have e : r.2.given = r.2.gv := by unfold PlS.given; rw [hT]; rfl
            rw [e]
            exact da.same s211
          | pay am' l =>
            rw [hT] at dd fo
            obtain ⟨at', x', y', rfl, hat, dx', dy'⟩ := id dd.pay_inv
            obtain ⟨f1, f2, f3, f4⟩ := fo.fc
            obtain ⟨aa, xa, rfl, hxa, dxa⟩ := id (da.same s211).inv
            obtain ⟨ax, xx, rfl, hxx, dxx⟩ := id dx'.inv
            have la : xa.length = r.2.gv.length := by rw [dxa.len, List.length_map]
            have lx : xx.length = am'.length := by rw [dxx.len, List.length_map]
            have gl := pvr.gl
            have eg : r.2.given = List.zipWith addF r.2.gv am' := by unfold PlS.given; rw [hT]; rfl
            refine ⟨_, rfl, _, _, _, _, rfl, rfl, hat.sq, atI_nat (j := 0) rfl, rfl, _, rfl, if_true_of' pay_pay ?_⟩
            refine ⟨_, rfl, _, _, _, _, rfl, rfl, (tp_same (sm2.trans s211) ham).sq, atI_nat (j := 0) rfl, g, rfl, by omega, by omega, fun D hD => lc_range (lo := 0) (n := g.toNat) (fun k H' => Same H11 H' ∧ ∃ o, H' D = some (.lst o) ∧ DTs K H' o (((List.zipWith addF r.2.gv am').take k).map frD)) ⟨same_new hD, [], upd_same, .nil⟩ ?_ ?_⟩
            · rintro k H' hk ⟨sm, o, hO, dO⟩
              refine ⟨rfl, ?_⟩
              dsimp only [tYes]
              rw [if_pos rfl]
              have g1' : r.2.gv[k]? = some r.2.gv[k] := List.getElem?_eq_getElem (by omega)
              have g2' : am'[k]? = some am'[k] := List.getElem?_eq_getElem (by omega)
              obtain ⟨u1, hu1, du1⟩ := dxa.at_ (i := k) (d := frD r.2.gv[k]) (by rw [List.getElem?_map, g1']; rfl)
              obtain ⟨u2, hu2, du2⟩ := dxx.at_ (i := k) (d := frD am'[k]) (by rw [List.getElem?_map, g2']; rfl)
              have mul := pvr.mul
              refine ⟨_, rfl, _, rfl, _, _, _, _, rfl, rfl, (tp_same sm hxa).sq, (by rw [Int.zero_add]; exact atI_nat hu1), _, rfl, _, _, _, _, rfl, rfl, (tp_same sm hat).sq, atI_nat (j := 1) rfl, _, rfl, _, _, _, _, rfl, rfl, (tp_same sm hxx).sq, (by rw [Int.zero_add]; exact atI_nat hu2), ?_⟩
              refine ⟨u1, u2, r.2.gv[k], am'[k], _, _, rfl, du1.same sm, du2.same sm, pvr.gk _ (List.mem_of_getElem? g1'), f2 _ (List.mem_of_getElem? g2'), by omega, fun v H5 s5 dv => ?_⟩
              have hO5 := s5 _ _ hO
              have lo : o.length ≤ 10 := by
                rw [dO.len, List.length_map, List.length_take]
                omega
              refine ⟨o, hO5, small1000 (by omega), same_mut (sm.trans s5) hD, o ++ [v], upd_same, ?_⟩
              have gz : (List.zipWith addF r.2.gv am')[k]? = some (addF r.2.gv[k] am'[k]) := by rw [List.getElem?_zipWith, g1', g2']
              rw [take_next gz, List.map_append]
              exact ((dO.same s5).snoc dv).xt ⟨_, hO5⟩ Xt.upd
            · rintro H' ⟨sm, o, hO, dO⟩
              rw [List.take_of_length_le (by rw [List.length_zipWith]; omega)] at dO
              refine ⟨D, o, rfl, SqL.of hO, fun q hq => ⟨_, rfl, sm.trans (same_new hq), ?_⟩⟩
              rw [eg]
              exact .tup (Tp.of upd_same) (dO.same (same_new hq))
        · rintro σ' H4 ⟨va', rfl, s4, dg⟩
          have s24 := s211.trans s4
          have hR4 := s24 _ _ hR2
          refine ⟨_, rfl, .inl ⟨rfl, _, SqL.of hR4⟩, _, rfl, _, rfl, _, rfl, _, rfl, _, rfl, (by decide : 5 ≤ sizeLine), fun p5 h5 => ?_⟩
          have s5 := same_new (o := .tup [vh, V.ref ap, vc', vd, va']) h5
          have s25 := s24.trans s5
          have hR5 := s5 _ _ hR4
          have jl := (List.getElem?_eq_some_iff.mp hr').1
          refine ⟨_, _, _, rfl, rfl, hR5, ?_, ?_⟩
          · rw [dR2.len, List.length_map, List.length_append, List.length_take]
            exact small1000 (by omega)
          have iR5 : IsL (upd H4 p5 (.tup [vh, V.ref ap, vc', vd, va'])) pr := ⟨_, hR5⟩
          have x6 : Xt pr (upd H4 p5 (.tup [vh, V.ref ap, vc', vd, va'])) (upd (upd H4 p5 (.tup [vh, V.ref ap, vc', vd, va'])) pr (.lst (xr ++ [V.ref p5]))) := Xt.upd
          have dRow : DT K (upd H4 p5 (.tup [vh, V.ref ap, vc', vd, va'])) (.ref p5) (rowD r) := .tup (Tp.of upd_same) (.cons (dh.same s25) (.cons (dp.same s25) (.cons (dcc.same s25) (.cons (dd.same (s4.trans s5)) (.cons (dg.same s5) .nil)))))
          have k6 : Tk H2 (upd (upd H4 p5 (.tup [vh, V.ref ap, vc', vd, va'])) pr (.lst (xr ++ [V.ref p5]))) := (Tk.same s25).trans (.lst hR5)
          have k46 : Tk H4 (upd (upd H4 p5 (.tup [vh, V.ref ap, vc', vd, va'])) pr (.lst (xr ++ [V.ref p5]))) := (Tk.same s5).trans (.lst hR5)
          have sm6 : Same H (upd (upd H4 p5 (.tup [vh, V.ref ap, vc', vd, va'])) pr (.lst (xr ++ [V.ref p5]))) := same_mut (sm2.trans s25) hr0
          have hR6 : (upd (upd H4 p5 (.tup [vh, V.ref ap, vc', vd, va'])) pr (.lst (xr ++ [V.ref p5]))) pr = some (.lst (xr ++ [V.ref p5])) := upd_same
          have hL6 := x6 _ _ (Ne.symm npl) (s25 _ _ hL2)
          have hF6 := x6 _ _ (Ne.symm nrf) (s25 _ _ hF2)
          have dR6 : DTs K (upd (upd H4 p5 (.tup [vh, V.ref ap, vc', vd, va'])) pr (.lst (xr ++ [V.ref p5]))) (xr ++ [V.ref p5]) ((accL [root] i ++ (lvlR [root] i).take (j + 1)).map rowD) := by
            rw [take_next hr', ← List.append_assoc, List.map_append]
            exact ((dR2.same s25).snoc dRow).xt iR5 x6
          generalize (upd (upd H4 p5 (.tup [vh, V.ref ap, vc', vd, va'])) pr (.lst (xr ++ [V.ref p5]))) = H6 at *
          refine ⟨_, rfl, _, rfl, _, rfl, .ref am, .ref ap, vd, g, n, r.2.n, r.2.pt, r.2.told, rfl, dm.same sm6, dp.tk k6, (dd.same s4).tk k46, fr, by omega, by have := pvr.nv.ks3.1; omega, fun l xs H7 s7 nl hl dxs => ?_⟩
          have hR7 := s7 _ _ hR6
          have hL7 := s7 _ _ hL6
          have hF7 := s7 _ _ hF6
          have sm7 := sm6.trans s7
          have k7 : Tk H2 H7 := k6.trans (.same s7)
          have k47 : Tk H4 H7 := k46.trans (.same s7)
          have lxs : xs.length = r.2.kids := by rw [dxs.len, List.length_map, places_len]
          have nfl : l ≠ pf := Ne.symm (ne_of_none hF6 nl)
          have nrl : l ≠ pr := Ne.symm (ne_of_none hR6 nl)
          have kl : r.2.kids ≤ 3 := by
            unfold PlS.kids kidsN
            cases r.2.told with
            | ask sd x y => exact (by decide : 2 ≤ 3)
            | pay am' l' => exact pvr.nv.ks3.1
          have il : IsL H7 pf := ⟨_, hF7⟩
          have dh7 := dh.tk k7
          obtain ⟨ah, rfl, hah⟩ := id dh7.path_inv
          have dF7 := dF2.tk k7
          have dG7 := dg.tk k47
          have lfr : (((lvlR [root] i).take j).flatMap kidR).length + (kidR r).length ≤ 383 := by
            have e1 : (((lvlR [root] i).take (j + 1)).flatMap kidR).length ≤ ((lvlR [root] i).flatMap kidR).length := by
              have : (lvlR [root] i).flatMap kidR = ((lvlR [root] i).take (j + 1)).flatMap kidR ++ ((lvlR [root] i).drop (j + 1)).flatMap kidR := by
                rw [← List.flatMap_append, List.take_append_drop]
              rw [this, List.length_append]
              omega
            rw [take_next hr', List.flatMap_append, List.flatMap_singleton, List.length_append] at e1
            omega
          refine ⟨_, rfl, l, xs, rfl, SqL.of hl, (xs.length : Int), rfl, by omega, by omega, for_range (lo := 0) (n := (xs.length : Int).toNat) (fun k σ H' => ∃ (xf' : List V) (y11 : Option V), σ = [some (.ref am), some vc, some (.ref pr), some (.ref pl), some (.int (0 + (i : Int))), some (.ref pf), some (.ref ah), some (.ref ap), some vc', some va', some vd, y11, some (.ref l)] ∧ Xt pf H7 H' ∧ H' pf = some (.lst xf') ∧ DTs K H' xf' ((((lvlR [root] i).take j).flatMap kidR ++ (kidR r).take k).map levD)) ⟨xf, _, rfl, Xt.refl _, hF7, ?_⟩ ?_ ?_⟩
          · rw [List.take_zero, List.append_nil]
            exact dF7
          · rintro k σ H8 hk ⟨xf', y11', rfl, x8, hF8, dF8⟩
            have hk' : k < r.2.kids := by omega
            obtain ⟨s', e1, e2, e3⟩ := places_kid hk'
            have ek : (kidR r)[k]? = some (r.1 ++ [(k : Int)], s') := kidR_at r hk' e1
            obtain ⟨u, hu, du⟩ := dxs.at_ (i := k) (d := placeD (s'.pt, s'.c)) (by rw [List.getElem?_map, e2]; rfl)
            have du8 := du.xt il x8
            obtain ⟨b8, w1, w2, rfl, hb8, dw1, dw2⟩ := DT.inv2 (show DT K _ _ (.tuple [pathD s'.pt, s'.c.D]) from du8)
            have hl8 := x8 _ _ nfl hl
            have hah8 := tp_xt il x8 hah
            refine ⟨_, rfl, .inl ⟨rfl, _, SqL.of hF8⟩, _, rfl, _, rfl, (by decide : 1 ≤ sizeLine), fun p6 h6 => ?_⟩
            have s9 := same_new (o := .tup [V.int (0 + (k : Int))]) h6
            refine ⟨ah, p6, r.1.map V.int, [V.int (0 + (k : Int))], rfl, rfl, tp_same s9 hah8, Tp.of upd_same, len1000 (by simp; omega), fun q9 H9 s10 hq9 => ?_⟩
            have s810 := s9.trans s10
            have hq9' : Tp H9 q9 ((r.1 ++ [(k : Int)]).map V.int) := by simpa using hq9
            refine ⟨_, rfl, _, rfl, _, _, _, _, rfl, rfl, SqL.of (s810 _ _ hl8), (by rw [Int.zero_add]; exact atI_nat hu), _, _, _, _, rfl, rfl, (tp_same s810 hb8).sq, atI_nat (j := 0) rfl, ?_⟩
            refine ⟨_, rfl, _, rfl, _, _, _, _, rfl, rfl, SqL.of (s810 _ _ hl8), (by rw [Int.zero_add]; exact atI_nat hu), _, _, _, _, rfl, rfl, (tp_same s810 hb8).sq, atI_nat (j := 1) rfl, _, rfl, (by decide : 4 ≤ sizeLine), fun p10 h10 => ?_⟩
            have s11 := same_new (o := .tup [V.ref q9, w1, w2, va']) h10
            have hF11 := s11 _ _ (s810 _ _ hF8)
            refine ⟨_, _, _, rfl, rfl, hF11, ?_, ?_⟩
            · rw [dF8.len, List.length_map, List.length_append, List.length_take]
              exact small1000 (by rw [kidR_len] at lfr ⊢; omega)
            · have x12 : Xt pf H8 (upd (upd H9 p10 (.tup [V.ref q9, w1, w2, va'])) pf (.lst (xf' ++ [V.ref p10]))) := (Xt.of (s810.trans s11)).trans Xt.upd
              have i8 : IsL H8 pf := ⟨_, hF8⟩
              have i11 : IsL (upd H9 p10 (.tup [V.ref q9, w1, w2, va'])) pf := ⟨_, hF11⟩
              refine ⟨xf' ++ [V.ref p10], _, rfl, x8.trans x12, upd_same, ?_⟩
              rw [take_next ek, ← List.append_assoc, List.map_append]
              refine ((dF8.same (s810.trans s11)).snoc ?_).xt i11 Xt.upd
              have dg8 : DT K H8 va' (amD s'.gv) := by rw [e3]; exact dG7.xt il x8
              exact .tup (Tp.of upd_same) (.cons (DT.path (tp_same s11 hq9')) (.cons (dw1.same (s810.trans s11)) (.cons (dw2.same (s810.trans s11)) (.cons (dg8.same (s810.trans s11)) .nil))))
          · rintro σ H8 ⟨xf', y11', rfl, x8, hF8, dF8⟩
            rw [List.take_of_length_le (l := kidR r) (by rw [kidR_len]; omega)] at dF8
            refine ⟨_, xf', _, _, _, _, _, _, _, rfl, fun a u ha => x8 a u (ne_of_none ha hf0) (sm7 a u ha), x8 _ _ nrf hR7, x8 _ _ nlf hL7, hF8, (dR6.same s7).xt il x8, (dL2.tk k7).xt il x8, ?_⟩
            rw [take_next hr', List.flatMap_append, List.flatMap_singleton]
            exact dF8
      · rintro σ H2 ⟨xr, xf, y6, y7, y8, y9, y10, y11, y12, rfl, sm2, hR2, hL2, hF2, dR2, dL2, dF2⟩
        rw [List.take_of_length_le (by omega)] at dR2 dF2
        rw [← eac] at dR2
        rw [← elv] at dF2
        have stop : lvlR [root] (i + 1) = [] → accL [root] (i + 1) = bfsR 7 [root] := fun z => by
          rw [← e8]
          exact (acc_stop z 8 (by omega)).symm
        have lxf : xf.length = (lvlR [root] (i + 1)).length := by rw [dF2.len, List.length_map]
        have lxr : xr.length ≤ 383 := by
          rw [dR2.len, List.length_map, eac, List.length_append]
          omega
        refine ⟨_, rfl, _, rfl, pf, xf, rfl, SqL.of hF2, rfl, _, rfl, ite2 (fun e => ?_) (fun e => ?_)⟩
        · have e0 : xf.length = 0 := by
            have := V.int.inj (of_decide_eq_true e)
            omega
          refine iteT (hz _ _ ⟨xr, _, _, _, _, _, _, _, _, _, _, rfl, sm2, hR2, ?_⟩)
          rw [← stop (List.eq_nil_of_length_eq_zero (by omega))]
          exact dR2
        · refine ⟨_, rfl, pr, xr, rfl, SqL.of hR2, _, _, rfl, rfl, _, rfl, ite2 (fun e2 => ?_) (fun e2 => ?_)⟩
          · have : (500 : Int) < xr.length := of_decide_eq_true e2
            omega
          · refine ⟨pf, xr, xf, _, _, _, _, _, _, _, _, _, rfl, sm2, hR2, hF2, nrf, hf0, dR2, dF2, ?_⟩
            by_cases z : i = 7
            · exfalso
              refine e (decide_eq_true ?_)
              rw [z, lv8] at lxf
              rw [lxf]
              rfl
            · omega
    · rintro σ H' ⟨pl, xr, xl, y4, y5, y6, y7, y8, y9, y10, y11, y12, rfl, sm, hR, hL, npl, hl0, dR, dL, i7⟩
      exact absurd i7 (by decide)
end
end Nl

namespace Nl
open PySem PySem.Spec PyProof.Rows L2
theorem DT.rowD_inv {K : PySem.W.Frag} {H : Hp} {v : V} {r : Row} (h : DT K H v (rowD r)) : ∃ a v1 v2 v3 v4 v5, v = .ref a ∧ Tp H a [v1, v2, v3, v4, v5] ∧ DT K H v1 (pathD r.1) ∧ DT K H v2 (pathD r.2.pt) ∧ DT K H v3 r.2.c.D ∧ DT K H v4 r.2.told.D ∧ DT K H v5 (amD r.2.given) := by
  obtain ⟨a, xs, rfl, ha, hd⟩ := DT.inv h
  cases hd with
  | cons h1 t =>
    cases t with
    | cons h2 t =>
      cases t with
      | cons h3 t =>
        cases t with
        | cons h4 t =>
          cases t with
          | cons h5 t =>
            cases t
            exact ⟨a, _, _, _, _, _, rfl, ha, h1, h2, h3, h4, h5⟩
section
variable {P : Program} {w : World} {K : PySem.W.Frag} {mg : Str → Option Value} {base : Heap}
def sp_lwhole (K : PySem.W.Frag) : Sp := fun vs H Q _ => ∃ (v vr : V) (g : Int) (n : Node) (r : Row), vs = [v, vr] ∧ DT K H v (marketD g n) ∧ DT K H vr (rowD r) ∧ find n r.2.pt = some r.2.n ∧ ∀ H', Same H H' → Q (.bl (isWh r)) H'
theorem ok__law_whole (T : Top w K mg) : FnOk P w K mg base CX0 2 T.a__law_whole T.d__law_whole ["market", "row"] (sp_lwhole K) := by
  refine T._law_whole_F.ok sc__law_whole (fun vs H Q E h => ?_) (fun cdv A outer s H vs Q E hr h => ?_)
  · obtain ⟨_, _, _, _, _, rfl, _⟩ := h
    rfl
  · obtain ⟨v, vr, g, n, r, rfl, dm, dr, fr, fin⟩ := h
    refine ⟨_, (pss_one (ps_ret (pe_and (pe_cmpR op_eq (pe_ix ix_tup (pe_ix ix_tup (pv 1) pe_int (fun _ _ => rfl)) pe_int (fun _ _ => rfl)) pe_str (nomark _)) (pe_one (pe_cmpR op_eq (pe_callB call_lenT (by rfl) T.n_len (by decide +kernel) (pa_cons (pe_ix ix_tup (pe_call (ok__law_find T) (hr.mono (by decide : 1 ≤ 1)) (by rfl) T.g__law_find T._law_find_F.kp T._law_find_b .nil pass0 (pa_cons (pv 0) (pa_cons (pe_ix ix_tup (pv 1) pe_int (fun _ _ => rfl)) pa_nil))) pe_int (fun _ _ => rfl)) pa_nil)) pe_int (nomark _)))))), ?_⟩
    obtain ⟨a, v1, v2, v3, v4, v5, rfl, ha, d1, d2, d3, d4, d5⟩ := dr.rowD_inv
    obtain ⟨ap, rfl, hap⟩ := id d2.path_inv
    cases hT : r.2.told with
    | ask sd x y =>
      have ew : isWh r = false := by unfold isWh; rw [hT]; rfl
      rw [hT] at d4
      obtain ⟨at', x', y', rfl, hat, dx', dy'⟩ := d4.ask_inv
      refine ⟨_, rfl, _, _, _, _, rfl, rfl, ha.sq, atI_nat (j := 3) rfl, _, _, _, _, rfl, rfl, hat.sq, atI_nat (j := 0) rfl, rfl, _, rfl, ?_⟩
      refine if_false_of' ask_pay ?_
      rw [← ew]
      exact fin H (Same.refl _)
    | pay am l =>
      rw [hT] at d4
      obtain ⟨at', x', y', rfl, hat, dx', dy'⟩ := d4.pay_inv
      refine ⟨_, rfl, _, _, _, _, rfl, rfl, ha.sq, atI_nat (j := 3) rfl, _, _, _, _, rfl, rfl, hat.sq, atI_nat (j := 0) rfl, rfl, _, rfl, if_true_of' pay_pay ?_⟩
      refine ⟨_, rfl, _, rfl, _, _, _, _, rfl, rfl, ha.sq, atI_nat (j := 1) rfl, v, .ref ap, g, n, r.2.pt, rfl, dm, d2, fun z => absurd (fr.symm.trans z) (Option.some_ne_none _), fun m' hm' v' dv' => ?_⟩
      rw [fr] at hm'
      cases hm'
      obtain ⟨an, vps, vks, rfl, han, dps, dks⟩ := dv'.node_inv
      obtain ⟨ak, xk, rfl, hak, dxk⟩ := id dks.inv
      have lxk : xk.length = r.2.n.ks.length := by rw [dxk.len, List.length_map]
      refine ⟨_, _, _, _, rfl, rfl, han.sq, atI_nat (j := 1) rfl, ak, xk, rfl, hak.sq, rfl, ?_⟩
      have ew : isWh r = decide (V.int (xk.length : Int) = V.int 0) := by
        unfold isWh
        rw [hT, lxk]
        show (true && r.2.n.ks.isEmpty) = _
        rw [Bool.true_and]
        cases r.2.n.ks with
        | nil => exact (decide_eq_true rfl).symm
        | cons z zs => exact (decide_eq_false fun e => by have := V.int.inj e; simp at this; omega).symm
      rw [← ew]
      exact fin H (Same.refl _)
def sp_lt15 (K : PySem.W.Frag) : Sp := fun vs H Q _ => ∃ (wh : Int) (v vc vh : V) (g : Int) (n : Node) (c : Part) (m B : Nat), vs = [.int wh, v, vc, vh] ∧ Mk K H v g n ∧ Good g n ∧ DT K H vc c.D ∧ c.WF ∧ ¬ Part.Bad g c ∧ PV g m B 5 m ⟨[], n, c, zeroF g.toNat⟩ ∧
  ((wh = 2 ∧ ∀ v H', Same H H' → DT K H' v (.tuple ((wholeF ([], ⟨[], n, c, zeroF g.toNat⟩)).map pathD)) → Q v H') ∨
   ((wh = 0 ∨ wh = 1) ∧ ∃ hist : List Int, DT K H vh (pathD hist) ∧ hist.length ≤ 800 ∧ (goF ⟨[], n, c, zeroF g.toNat⟩ hist = none → ∀ H', Same H H' → Q (.str (Str.ofString "history")) H') ∧
    ∀ s, goF ⟨[], n, c, zeroF g.toNat⟩ hist = some s → ∀ v H', Same H H' → DT K H' v (if wh = 0 then .tuple [pathD s.pt, s.c.D] else amD s.given) → Q v H'))
theorem ok__law_told (T : Top w K mg) : FnOk P w K mg base CX0 51 T.a__law_told T.d__law_told ["which", "market", "contract", "history"] (sp_lt15 K) := by
  refine T._law_told_F.ok sc__law_told (fun vs H Q E h => ?_) (fun cdv A outer s H vs Q E hr h => ?_)
  · obtain ⟨_, _, _, _, _, _, _, _, _, rfl, _⟩ := h
    rfl
  · obtain ⟨wh, v, vc, vh, g, n, c, m, B, rfl, M, G, dc, wf, nb, hpv, k⟩ := h
    refine ⟨_, (pss_cons (ps_try_as (i := 5) rfl rfl sc__law_told.nd rfl rfl ⟨rfl, by decide, .inl T.g_MarketplaceError⟩ takes0 (fun W pn xe tk _ => (pss_one (ps_if (pt_cmpR op_eq (pv 0) pe_int (nomark _)) (pss_one (ps_set (i := 4) sc__law_told.nd rfl (Or.inl rfl) (pe_callS (ok_place_of T) (hr.mono (by decide : 49 ≤ 50)) rfl T.g_place_of T.place_of_F.kp T.place_of_b (fun σ => passAt tk σ) (pa_cons (pv 1) (pa_cons (pv 2) (pa_cons (pv 3) pa_nil)))))) (pss_one (ps_if (pt_cmpR op_eq (pv 0) pe_int (nomark _)) (pss_one (ps_set (i := 4) sc__law_told.nd rfl (Or.inl rfl) (pe_callS (ok_paid T) (hr.mono (by decide : 49 ≤ 50)) rfl T.g_paid T.paid_F.kp T.paid_b (fun σ => passAt tk σ) (pa_cons (pv 1) (pa_cons (pv 2) (pa_cons (pv 3) pa_nil)))))) (pss_one (ps_set (i := 4) sc__law_told.nd rfl (Or.inl rfl) (pe_callS (ok_whole_histories T) (hr.mono (by decide : 50 ≤ 50)) rfl T.g_whole_histories T.whole_histories_F.kp T.whole_histories_b (fun σ => passAt tk σ) (pa_cons (pv 1) (pa_cons (pv 2) pa_nil))))))))))
      (fun a oe cls d pn hz hf => (pss_one (ps_ret (pe_op op_add_str (pe_ifExp (pt_val (pe_hyp (p := ∃ D, cls = .ref D ∧ d = none ∧ ExcC K D) (fun z => pe_callB (r := rIsX K cls a) (call_isX z hz hf) (by rfl) T.n_isinstance (by decide +kernel) (pa_cons (pv 5) (pa_cons (pe_glob (v := .ref T.c_HistoryError) (by rfl) T.g_HistoryError rfl) pa_nil))))) pe_str pe_str) (pe_ifExp (pt_val (pe_hyp (p := ∃ D, cls = .ref D ∧ d = none ∧ ExcC K D) (fun z => pe_callB (r := rIsX K cls a) (call_isX z hz hf) (by rfl) T.n_isinstance (by decide +kernel) (pa_cons (pv 5) (pa_cons (pe_glob (v := .ref T.c_TooLarge) (by rfl) T.g_TooLarge rfl) pa_nil))))) pe_str pe_str))))))
      (pss_one (ps_ret (pv 4)))), ?_⟩
    have hw : ∀ i j : Int, decide (V.int i = V.int j) = decide (i = j) := fun i j => by
      by_cases z : i = j
      · rw [decide_eq_true z, decide_eq_true (by rw [z])]
      · rw [decide_eq_false z, decide_eq_false fun e => z (V.int.inj e)]
    rcases k with ⟨rfl, fin⟩ | ⟨h01, hist, dh, hl, kH, fin⟩
    · refine ⟨_, rfl, rfl, _, rfl, if_false_of' (hw 2 0) ?_⟩
      refine ⟨_, rfl, rfl, _, rfl, if_false_of' (hw 2 1) ?_⟩
      exact ⟨_, rfl, _, rfl, v, vc, g, n, c, rfl, M, G, dc, wf, fun z => (nb z).elim, fun _ => ⟨⟨m, B, hpv⟩, fun v' H' s d => ⟨_, rfl, fin v' H' s d⟩⟩⟩
    · have ex : ∀ H1, Same H H1 → goF ⟨[], n, c, zeroF g.toNat⟩ hist = none → Q (.str (Str.ofString "history")) H1 := fun H1 s1 z => kH z H1 s1
      rcases h01 with rfl | rfl
      · refine ⟨_, rfl, rfl, _, rfl, if_true_of' (hw 0 0) ?_⟩
        refine ⟨_, rfl, _, rfl, _, rfl, v, vc, vh, g, n, c, hist, rfl, M, G, dc, wf, dh, hl, fun z => (nb z).elim, fun _ => ⟨⟨_, hpv.num⟩, hpv.allNum, fun hn H1 s1 => ?_, fun st hs v' H1 s1 d => ⟨_, rfl, ?_⟩⟩⟩
        · exact ⟨true, PySem.W.exm_ref T.b_MarketplaceError T.h_MarketplaceError T.t_MarketplaceError T.s_HistoryError_MarketplaceError, fun _ x hx => ⟨⟨_, rfl, rfl, T.e_HistoryError⟩, _, rfl, _, _, true, rfl, fun _ u => u, (kit_ref T.h_HistoryError T.t_HistoryError T.s_HistoryError_HistoryError T.s_HistoryError_HistoryError), _, rfl, iteT ⟨⟨_, rfl, rfl, T.e_HistoryError⟩, _, rfl, _, _, false, rfl, fun _ u => u, (kit_ref T.h_TooLarge T.t_TooLarge T.s_HistoryError_TooLarge T.s_HistoryError_HistoryError), _, rfl, iteF ⟨_, _, rfl, rfl, by decide, ex H1 s1 hn⟩⟩⟩, fun z => nomatch z⟩
        · exact fin st hs v' H1 s1 d
      · refine ⟨_, rfl, rfl, _, rfl, if_false_of' (hw 1 0) ?_⟩
        refine ⟨_, rfl, rfl, _, rfl, if_true_of' (hw 1 1) ?_⟩
        refine ⟨_, rfl, _, rfl, _, rfl, v, vc, vh, g, n, c, hist, rfl, M, G, dc, wf, dh, hl, fun z => (nb z).elim, fun _ => ⟨⟨_, hpv.num⟩, hpv.allNum, fun hn H1 s1 => ?_, fun st hs v' H1 s1 d => ⟨_, rfl, ?_⟩⟩⟩
        · exact ⟨true, PySem.W.exm_ref T.b_MarketplaceError T.h_MarketplaceError T.t_MarketplaceError T.s_HistoryError_MarketplaceError, fun _ x hx => ⟨⟨_, rfl, rfl, T.e_HistoryError⟩, _, rfl, _, _, true, rfl, fun _ u => u, (kit_ref T.h_HistoryError T.t_HistoryError T.s_HistoryError_HistoryError T.s_HistoryError_HistoryError), _, rfl, iteT ⟨⟨_, rfl, rfl, T.e_HistoryError⟩, _, rfl, _, _, false, rfl, fun _ u => u, (kit_ref T.h_TooLarge T.t_TooLarge T.s_HistoryError_TooLarge T.s_HistoryError_HistoryError), _, rfl, iteF ⟨_, _, rfl, rfl, by decide, ex H1 s1 hn⟩⟩⟩, fun z => nomatch z⟩
        · exact fin st hs v' H1 s1 d
end
end Nl

namespace Nl
open PySem PySem.Spec PyProof.Rows L2
theorem rows_go {root : Row} (h : root.1 = []) {r : Row} (hr : r ∈ bfsR 7 [root]) : goF root.2 r.1 = some r.2 := by
  have := (bfs_perm 7 [root]).mem_iff.mp hr
  rw [List.flatMap_singleton] at this
  obtain ⟨q, e1, e2⟩ := pre_go 7 root r this
  rw [h, List.nil_append] at e1
  rw [e1]
  exact e2
theorem whole_perm (root : Row) : (((bfsR 7 [root]).filter isWh).map (·.1)).Perm (wholeF root) := by
  have h := bfs_perm 7 [root]
  rw [List.flatMap_singleton] at h
  exact (h.filter isWh).map (·.1)
theorem whole_sorted (root : Row) : (wholeF root).Pairwise fun a b => HT.lexLt b a = false := by
  unfold wholeF
  rw [List.pairwise_map]
  exact ((preR_sorted 7 root).filter isWh).imp fun h => lex_asym _ _ h
theorem whole_first {g : Int} {M B : Nat} {root : Row} (h : root.1 = []) {A m : Nat} (p : PV g M B A m root.2) (hf : A + m ≤ 7) : (∀ q ∈ wholeF root, q ≠ []) ∨ wholeF root = [[]] := by
  by_cases z : isWh root = true
  · right
    have hT : root.2.told.pays = true ∧ root.2.n.ks = [] := by
      unfold isWh at z
      rw [Bool.and_eq_true] at z
      exact ⟨z.1, List.isEmpty_iff.mp z.2⟩
    have hk : kidR root = [] := List.eq_nil_of_length_eq_zero (by
      rw [kidR_len]
      unfold PlS.kids
      cases e : root.2.told with
      | ask sd x y => rw [e] at hT; cases hT.1
      | pay am l => show root.2.n.ks.length = 0; rw [hT.2]; rfl)
    unfold wholeF
    rw [p.pre_eq (f := 7) hf, hk, List.flatMap_nil, List.filter_cons_of_pos z, List.filter_nil, List.map_cons, h, List.map_nil]
  · left
    intro q hq
    unfold wholeF at hq
    obtain ⟨r, hr, rfl⟩ := List.mem_map.mp hq
    obtain ⟨hr, hw⟩ := List.mem_filter.mp hr
    obtain ⟨q, e1, e2⟩ := pre_go 7 root r hr
    rw [h, List.nil_append] at e1
    intro e
    rw [e] at e1
    subst e1
    have e2 : root.2 = r.2 := Option.some.inj e2
    have : isWh root = isWh r := by unfold isWh; rw [e2]
    exact z (this.trans hw)
theorem dts_keyed {K : PySem.W.Frag} {H : Hp} {k : V → List Int} : ∀ ys : List V, (∀ y ∈ ys, DT K H y (pathD (k y))) → DTs K H ys ((ys.map k).map pathD)
  | [], _ => .nil
  | y :: ys, h => .cons (h y (by simp)) (dts_keyed ys fun x hx => h x (by simp [hx]))
theorem dts_key {K : PySem.W.Frag} {H : Hp} {k : V → List Int} {xs : List V} {ps : List (List Int)} (h : DTs K H xs (ps.map pathD)) (e : xs.map k = ps) : ∀ x ∈ xs, DT K H x (pathD (k x)) := fun x hx => by
  obtain ⟨i, hi⟩ := List.getElem?_of_mem hx
  obtain ⟨d, h1, h2⟩ := h.get hi
  rw [← e, List.map_map, List.getElem?_map, hi] at h1
  cases h1
  exact h2
theorem askK3 {m : Nat} (h : m ≤ 2) : askK 3 (m + 1) ≤ 5 := by
  unfold askK
  rw [if_neg (by decide)]
  have : (3 - 1 : Int).toNat = 2 := by decide
  omega
theorem root_pv {g : Int} {m : Nat} {n : Node} {c : Part} (nv : NV g m n) (tw : m = 2 → n.ks.length ≤ 2) (g1 : 1 ≤ g) (g4 : g ≤ 4) (m2 : m ≤ 2) (fc : FC g c) (dep : c.depth ≤ 9) (dr : Dr 4 3 c) : PV g m 3247 5 m ⟨[], n, c, zeroF g.toNat⟩ :=
  { nv := nv, g1 := g1, g4 := g4, two := tw, fc := fc, dep := by show c.depth + 5 ≤ 20; omega, tbc := Nat.le_trans dr.tb (by decide), ask := Nat.le_trans (dr.ask _) (askK3 m2), gl := by show ((zeroF g.toNat).length : Int) = g; rw [zeroF_len]; omega, gk := zeroF_ok (by omega), mM := Nat.le_refl _, M2 := m2, B4 := by decide, pl := Nat.zero_add _ }
section
variable {P : Program} {w : World} {K : PySem.W.Frag} {mg : Str → Option Value} {base : Heap}
def sp_law (K : PySem.W.Frag) : Sp := fun vs H Q _ => ∃ (a : Addr) (ns : List Int), vs = [.ref a] ∧ SqL K H a (ns.map V.int) ∧ ns.length ≤ 63 ∧ ∀ H', Q (.bl true) H'
theorem ok_law {f : Addr} {fd : FuncData} (T : Top w K mg) (F : Fun K "law" "law" s_law f fd) : FnOk P w K mg base CX0 52 f fd ["script"] (sp_law K) := by
  refine F.ok sc_law (fun vs H Q E h => ?_) (fun cdv A outer s H vs Q E hr h => ?_)
  · obtain ⟨_, _, rfl, _⟩ := h
    rfl
  · obtain ⟨a, ns, rfl, hS, _, fin⟩ := h
    refine ⟨_, (pss_cons (ps_set (i := 1) sc_law.nd rfl (Or.inl rfl) (pe_call (ok__law_begin T) (hr.mono (by decide : 1 ≤ 51)) (by rfl) T.g__law_begin T._law_begin_F.kp T._law_begin_b .nil pass0 (pa_cons (pv 0) pa_nil)))
      (pss_cons (ps_set (i := 2) sc_law.nd rfl (Or.inr rfl) (pe_call (ok__law_marketN T) (hr.mono (by omega)) (by rfl) T.g__law_market T._law_market_F.kp T._law_market_b .nil pass0 (pa_cons (pv 1) (pa_cons pe_int pa_nil))))
      (pss_cons (ps_set (i := 3) sc_law.nd rfl (Or.inl rfl) (pe_call (ok__law_contract T) (hr.mono (by decide : 18 ≤ 51)) (by rfl) T.g__law_contract T._law_contract_F.kp T._law_contract_b .nil pass0 (pa_cons (pv 1) (pa_cons (pe_ix ix_tup (pv 2) pe_int (fun _ _ => rfl)) (pa_cons pe_int (pa_cons pe_int pa_nil))))))
      (Evl.pss_cut (ps_if (pt_cmpR op_gt (pe_callB call_lenL (by rfl) T.n_len (by decide +kernel) (pa_cons (pe_call (ok__law_parts T) (hr.mono (by decide : 26 ≤ 51)) (by rfl) T.g__law_parts T._law_parts_F.kp T._law_parts_b .nil pass0 (pa_cons (pv 3) pa_nil)) pa_nil)) pe_int (nomark _)) (pss_one (ps_set (i := 3) sc_law.nd rfl (Or.inl rfl) (pe_tup (pa_cons pe_str (pa_cons pe_int pa_nil))))) pss_nil)
      (pss_cons (ps_set (i := 4) sc_law.nd rfl (Or.inl rfl) (pe_call (ok__law_all T) (hr.mono (by decide : 38 ≤ 51)) (by rfl) T.g__law_all T._law_all_F.kp T._law_all_b .nil pass0 (pa_cons (pv 2) (pa_cons (pv 3) pa_nil))))
      (pss_cons (ps_if (pt_cmpR op_gt (pe_callB call_lenL (by rfl) T.n_len (by decide +kernel) (pa_cons (pv 4) pa_nil)) pe_int (nomark _)) (pss_one (ps_ret (pe_cmpR op_eq (pe_call (ok__law_told T) (hr.mono (by decide : 51 ≤ 51)) (by rfl) T.g__law_told T._law_told_F.kp T._law_told_b .nil pass0 (pa_cons pe_int (pa_cons (pv 2) (pa_cons (pv 3) (pa_cons (pe_tup pa_nil) pa_nil))))) pe_str (nomark _)))) pss_nil)
      (pss_cons (ps_set (i := 5) sc_law.nd rfl (Or.inl rfl) (pe_callB (cr_sortM (hr.mono (by decide))) (by rfl) T.n_sorted (by decide +kernel) (pa_cons (pe_lc (own := [("row", 14)]) (g := (gName 14)) (tt := tB (tCall (sp_lwhole K) [] E0 (tCons (tVar 2) (tCons (tVar 14) tNil)))) (by rfl) sc_law.nd (pi_list (pv 4)) (blkOk_by (own := [("row", 14)]) (N := ["script", "d", "market", "contract", "rows", "whole", "turn", "history", "path", "here", "found", "amounts", "many", "bad", "row"]) (sc := defScope s_law) (by decide +kernel)) (fun _ _ _ _ _ => (pg_name (i := 14) sc_law.nd rfl (Or.inl rfl))) (fun _ _ _ _ _ => (pts_one (pt_val (pe_call (ok__law_whole T) (hr.mono (by decide : 2 ≤ 51)) (by rfl) T.g__law_whole T._law_whole_F.kp T._law_whole_b .nil pass0 (pa_cons (pv 2) (pa_cons (pv 14) pa_nil)))))) (fun _ _ _ _ _ => (pe_ix (r := rIxT K) ix_tup (pv 14) pe_int (fun _ _ => rfl)))) pa_nil)))
      (pss_cons (ps_if (pt_cmpR (op_neD hr.units) (pe_call (ok__law_told T) (hr.mono (by decide : 51 ≤ 51)) (by rfl) T.g__law_told T._law_told_F.kp T._law_told_b .nil pass0 (pa_cons pe_int (pa_cons (pv 2) (pa_cons (pv 3) (pa_cons (pe_tup pa_nil) pa_nil))))) (pe_callTy call_tupL (by rfl) T.n_tuple (by decide +kernel) (pa_cons (pv 5) pa_nil)) (nomark _)) (pss_one (ps_ret pe_bl)) pss_nil)
      (pss_cons (ps_for PassesOwn.never rfl (pi_range1 rfl T.n_range (pa_cons pe_int pa_nil)) (pg_name (i := 6) sc_law.nd rfl (Or.inl rfl)) (pss_cons (ps_asg (pe_ix ix_list (pv 4) (pe_call (ok__law_take T) (hr.mono (by decide : 1 ≤ 51)) (by rfl) T.g__law_take T._law_take_F.kp T._law_take_b .nil pass0 (pa_cons (pv 1) (pa_cons (pe_callB call_lenL (by rfl) T.n_len (by decide +kernel) (pa_cons (pv 4) pa_nil)) pa_nil))) (fun _ _ => rfl)) (pg_tup rfl (pgs_cons (pg_name (i := 7) sc_law.nd rfl (Or.inl rfl)) (pgs_cons (pg_name (i := 8) sc_law.nd rfl (Or.inl rfl)) (pgs_cons (pg_name (i := 9) sc_law.nd rfl (Or.inl rfl)) (pgs_cons (pg_name (i := 10) sc_law.nd rfl (Or.inl rfl)) (pgs_cons (pg_name (i := 11) sc_law.nd rfl (Or.inl rfl)) pgs_nil)))))))
      (pss_cons (ps_if (PW.pt (pw_or (pt_cmpR (op_neD hr.units) (pe_call (ok__law_told T) (hr.mono (by decide : 51 ≤ 51)) (by rfl) T.g__law_told T._law_told_F.kp T._law_told_b .nil pass0 (pa_cons pe_int (pa_cons (pv 2) (pa_cons (pv 3) (pa_cons (pv 7) pa_nil))))) (pe_tup (pa_cons (pv 8) (pa_cons (pv 9) pa_nil))) (nomark _)) (pw_or1 (pt_cmpR (op_neD hr.units) (pe_call (ok__law_told T) (hr.mono (by decide : 51 ≤ 51)) (by rfl) T.g__law_told T._law_told_F.kp T._law_told_b .nil pass0 (pa_cons pe_int (pa_cons (pv 2) (pa_cons (pv 3) (pa_cons (pv 7) pa_nil))))) (pv 11) (nomark _))))) (pss_one (ps_ret pe_bl)) pss_nil)
      (pss_cons (ps_set (i := 12) sc_law.nd rfl (Or.inl rfl) (pe_callB call_lenL (by rfl) T.n_len (by decide +kernel) (pa_cons (pe_call (ok__law_branches T) (hr.mono (by decide : 2 ≤ 51)) (by rfl) T.g__law_branches T._law_branches_F.kp T._law_branches_b .nil pass0 (pa_cons (pv 2) (pa_cons (pv 8) (pa_cons (pv 10) pa_nil)))) pa_nil)))
      (pss_cons (ps_set (i := 13) sc_law.nd rfl (Or.inl rfl) (pe_op op_catP (pv 7) (pe_slice sl_tupP (pe_tup (pa_cons (pv 12) (pa_cons pe_int pa_nil))) po_none (po_some (pe_op op_add pe_int (pe_call (ok__law_take T) (hr.mono (by decide : 1 ≤ 51)) (by rfl) T.g__law_take T._law_take_F.kp T._law_take_b .nil pass0 (pa_cons (pv 1) (pa_cons pe_int pa_nil))))))))
      (pss_one (ps_if (PW.pt (pw_or (pt_cmpR op_ne (pe_call (ok__law_told T) (hr.mono (by decide : 51 ≤ 51)) (by rfl) T.g__law_told T._law_told_F.kp T._law_told_b .nil pass0 (pa_cons pe_int (pa_cons (pv 2) (pa_cons (pv 3) (pa_cons (pv 13) pa_nil))))) pe_str (nomark _)) (pw_or1 (pt_cmpR op_ne (pe_call (ok__law_told T) (hr.mono (by decide : 51 ≤ 51)) (by rfl) T.g__law_told T._law_told_F.kp T._law_told_b .nil pass0 (pa_cons pe_int (pa_cons (pv 2) (pa_cons (pv 3) (pa_cons (pe_op op_catP (pv 7) (pe_tup (pa_cons (pe_op op_sub pe_int pe_int) pa_nil))) pa_nil))))) pe_str (nomark _))))) (pss_one (ps_ret pe_bl)) pss_nil)))))))
      (pss_one (ps_ret pe_bl))))))))))), ?_⟩
    have b8 : ∀ {x : Int}, 0 ≤ x → x ≤ 511 → Bd 8000 x := fun h0 h1 => Bd.mono (k := 9) (by unfold Bd; omega) (by decide)
    refine ⟨_, rfl, a, ns, rfl, hS, fun pd ps H1 s1 n1 n2 D1 => ?_⟩
    refine ⟨_, rfl, pd, ps, 3, rfl, by decide, by decide, D1, fun v g n m H2 x2 D2 dm g1 g4 m2 nv tw => ?_⟩
    obtain ⟨G, hB, hL⟩ := nv_good nv m2 g1 g4
    obtain ⟨am, vn, rfl, ham, dn⟩ := id dm.market_inv
    refine ⟨_, rfl, _, rfl, _, _, _, _, rfl, rfl, ham.sq, atI_nat (j := 0) rfl, 4, by decide, pd, ps, g, 4, 3, rfl, rfl, by decide, D2, g1, by omega, fun vc c H3 x3 D3 dc pg fc0 dr => ?_⟩
    have dm3 := dm.xt D2.isL' x3
    have wf := fc0.wf.1
    have dz : c.depth ≤ 9 := pg.depth
    have szc := pg.size
    have sz4 : szK 4 ≤ 900 := by decide
    refine ⟨fun σ' H4 => ∃ (vc : V) (c : Part), σ' = [some (.ref a), some (.ref pd), some (.ref am), some vc, none, none, none, none, none, none, none, none, none, none, none] ∧ Same H3 H4 ∧ DT K H4 vc c.D ∧ c.WF ∧ ¬ Part.Bad g c ∧ c.depth ≤ 9 ∧ PV g m 3247 5 m ⟨[], n, c, zeroF g.toNat⟩, ?_, ?_⟩
    · refine ⟨_, rfl, vc, c, rfl, dc, wf, by omega, by omega, fun l xs H4 s4 nl hl dxs => ⟨l, xs, rfl, SqL.of hl, ?_⟩⟩
      have lxs : xs.length = c.size := by rw [dxs.len, List.length_map, partsP_len]
      refine ⟨_, _, rfl, rfl, _, rfl, ite2 (fun e => ?_) (fun e => ?_)⟩
      · refine ⟨two_le, fun p hp => ⟨_, .p0 .one (.good 0), rfl, s4.trans (same_new hp), DT.p0g (x := .one) (Tp.of upd_same), rfl, ?_, by decide, root_pv nv tw g1 g4 m2 ⟨rfl, rfl, fun j h => by cases h; exact ⟨by decide, by omega⟩⟩ (by decide) dr_0⟩⟩
        rintro (z | z | ⟨x, hx, z⟩)
        · simp [Part.size] at z
        · simp [Part.depth] at z
        · simp only [Part.pre, List.mem_singleton] at hx
          subst hx
          exact z ⟨by decide, by omega⟩
      · have e1 : ¬ (40 : Int) < xs.length := fun z => e (decide_eq_true z)
        refine ⟨_, c, rfl, s4, dc.same s4, wf, ?_, dz, root_pv nv tw g1 g4 m2 fc0 dz dr⟩
        rintro (z | z | ⟨x, hx, z⟩)
        · omega
        · omega
        · have h := pg.lits x hx
          revert h z
          cases x.1.lit with
          | non => exact fun z _ => z
          | size q => exact fun z _ => z
          | good j => exact fun z h => z h
          | time j => exact fun z h => by have h0 : 0 ≤ j ∧ j ≤ 3 := h; have z0 : j < 0 := z; omega
    · rintro σ' H4 ⟨vc, c, rfl, s4, dc4, wf, nb, dz, hpv⟩
      have D4 := D3.same s4
      have dm4 := dm3.same s4
      generalize hroot : (([], ⟨[], n, c, zeroF g.toNat⟩) : Row) = root at *
      have hr1 : root.1 = [] := by rw [← hroot]
      have er2 : root.2 = ⟨[], n, c, zeroF g.toNat⟩ := by rw [← hroot]
      have hpr : PV g m 3247 5 m root.2 := by rw [er2]; exact hpv
      have fnd : find n root.2.pt = some root.2.n := by rw [er2]; unfold find; rfl
      have few : (bfsR 7 [root]).length ≤ 383 := by
        rw [(bfs_perm 7 [root]).length_eq]
        simpa using hpr.count400 (f := 7) (by omega) (Nat.le_refl _)
      refine ⟨_, rfl, _, rfl, .ref am, vc, g, n, c, m, 3247, rfl, dm4, dc4, hpv, fun lr xr H5 s5 nlr hlr dR => ?_⟩
      rw [hroot] at dR
      have lxr : xr.length = (bfsR 7 [root]).length := by rw [dR.len, List.length_map]
      have M5 : Mk K H5 (.ref am) g n := ⟨dm4.same s5, hB, by omega⟩
      have dc5 := dc4.same s5
      refine ⟨_, rfl, lr, xr, rfl, SqL.of hlr, _, _, rfl, rfl, _, rfl, ite2 (fun e => ?_) (fun e => ?_)⟩
      · have : (400 : Int) < xr.length := of_decide_eq_true e
        omega
      · refine ⟨_, rfl, lr, rfl, ⟨_, SqL.of hlr⟩, fun D hD => lc_list (K := K) (a := lr) (xs := xr) (fun i H' => ∃ o, Same H5 H' ∧ H' D = some (.lst o) ∧ DTs K H' o (((((bfsR 7 [root]).take i).filter isWh).map (·.1)).map pathD)) ⟨[], same_new hD, upd_same, .nil⟩ (fun i H' _ ⟨_, sm, _⟩ => SqL.of (sm _ _ hlr)) ?_ ?_⟩
        · rintro i x H' hi ⟨o, sm, hO, dO⟩
          obtain ⟨d, hd, dx⟩ := dR.get hi
          rw [List.getElem?_map] at hd
          obtain ⟨r, hr', rfl⟩ := Option.map_eq_some_iff.mp hd
          have gr := rows_go hr1 (List.mem_of_getElem? hr')
          have dx' := dx.same sm
          refine ⟨rfl, ?_⟩
          refine ⟨_, rfl, _, rfl, .ref am, x, g, n, r, rfl, M5.d.same sm, dx', goF_find _ gr fnd, fun H6 s6 => ⟨_, rfl, ?_⟩⟩
          obtain ⟨b, v1, v2, v3, v4, v5, rfl, hb, d1, d2, d3, d4, d5⟩ := (dx'.same s6).rowD_inv
          have hO6 := s6 _ _ hO
          have il := (List.getElem?_eq_some_iff.mp hi).1
          have lo : o.length ≤ 383 := by
            rw [dO.len, List.length_map, List.length_map]
            refine Nat.le_trans (List.length_filter_le _ _) ?_
            rw [List.length_take]
            omega
          refine ite2 (fun e => ?_) (fun e => ?_)
          · refine ⟨_, rfl, _, _, _, _, rfl, rfl, hb.sq, atI_nat (j := 0) rfl, ?_⟩
            refine ⟨o, hO6, small1000 (by omega), _, same_mut (sm.trans s6) hD, upd_same, ?_⟩
            rw [take_next hr', List.filter_append, List.filter_cons_of_pos e, List.filter_nil, List.map_append, List.map_append]
            have iD : IsL H6 D := ⟨_, hO6⟩
            exact ((dO.same s6).xt iD Xt.upd).snoc (d1.xt iD Xt.upd)
          · refine ⟨o, sm.trans s6, hO6, ?_⟩
            rw [take_next hr', List.filter_append, List.filter_cons_of_neg e, List.filter_nil, List.append_nil]
            exact dO.same s6
        · rintro H6 ⟨o, s6, hO, dO⟩
          rw [List.take_of_length_le (by omega)] at dO
          have hwf := whole_first hr1 hpr (by omega)
          have hwp := whole_perm root
          refine ⟨D, o, _, rfl, SqL.of hO, dO, ?_, fun ys k pw pm hk srt hpw => ?_⟩
          · rcases hwf with h | h
            · exact .inl fun q hq => h q (hwp.mem_iff.mp hq)
            · right
              rw [h] at hwp
              exact List.perm_singleton.mp hwp
          · have ek : ys.map k = wholeF root := by
              refine paths_eq ?_ (whole_sorted root) (((pm.map k).trans (by rw [hk])).trans hwp)
              rw [List.pairwise_map]
              exact srt.imp fun h => h
            have s7 := same_new (o := .lst ys) hpw
            have dys := (dts_keyed ys fun y hy => dts_key dO hk y (pm.mem_iff.mp hy)).same s7
            rw [ek] at dys
            have hW : (upd H6 pw (.lst ys)) pw = some (.lst ys) := upd_same
            have s57 := s6.trans s7
            generalize (upd H6 pw (.lst ys)) = H7 at *
            refine ⟨_, rfl, _, rfl, Nat.zero_le _, fun p0 h0 => ?_⟩
            have s8 := same_new (o := .tup []) h0
            have M8 := M5.same (s57.trans s8)
            refine ⟨2, .ref am, vc, .ref p0, g, n, c, m, 3247, rfl, M8, G, dc5.same (s57.trans s8), wf, nb, hpv, .inl ⟨rfl, fun v' H9 s9 dv => ?_⟩⟩
            rw [hroot] at dv
            refine ⟨_, rfl, pw, ys, rfl, SqL.of (s9 _ _ (s8 _ _ hW)), fun pt hpt => ?_⟩
            have s10 := same_new (o := .tup ys) hpt
            have st : Sh 2 (.tuple ((wholeF root).map pathD)) := by
              have := sh_paths (wholeF root) id
              exact this
            have dwt : DT K (upd H9 pt (.tup ys)) (.ref pt) (.tuple ((wholeF root).map pathD)) := .tup (Tp.of upd_same) ((dys.same (s8.trans s9)).same s10)
            refine ⟨_, _, (dv.same s10).dp, dwt.dp, st.shaped, st.shaped, _, rfl, if_false_of' st.ne ?_⟩
            have sb : Same H5 (upd H9 pt (.tup ys)) := ((s57.trans s8).trans s9).trans s10
            generalize (upd H9 pt (.tup ys)) = Hb at *
            have hlb := sb _ _ hlr
            have Db : Dst Hb pd ps := (D4.same s5).same sb
            have Mb := M5.same sb
            have dcb := dc5.same sb
            have dRb := dR.same sb
            have lrd : lr ≠ pd := (D4.fresh nlr).1
            have ilb := Db.isL'
            refine ⟨6, rfl, by decide, by decide, for_range (lo := 0) (n := (6 : Int).toNat) (fun i σ H' => ∃ (y6 y7 y8 y9 y10 y11 y12 y13 : Option V), σ = [some (.ref a), some (.ref pd), some (.ref am), some vc, some (.ref lr), some (.ref pw), y6, y7, y8, y9, y10, y11, y12, y13, none] ∧ Xt pd Hb H' ∧ Dst H' pd ps) ⟨_, _, _, _, _, _, _, _, rfl, Xt.refl _, Db⟩ ?_ ?_⟩
            · rintro i σ H' hi ⟨y6, y7, y8, y9, y10, y11, y12, y13, rfl, x', D'⟩
              have hpos : 0 < xr.length := by
                rw [lxr]
                refine List.length_pos_of_mem (a := root) ?_
                refine (bfs_perm 7 [root]).mem_iff.mpr ?_
                rw [List.flatMap_singleton]
                exact List.mem_cons_self ..
              refine ⟨_, rfl, _, rfl, _, rfl, lr, xr, rfl, SqL.of (x' _ _ lrd hlb), pd, ps, (xr.length : Int), rfl, D', by omega, b8 (by omega) (by omega), fun q H10 x10 D10 q0 q1 => ?_⟩
              obtain ⟨j, rfl⟩ := Int.eq_ofNat_of_zero_le q0
              have hj : j < xr.length := by omega
              have hx : xr[j]? = some xr[j] := List.getElem?_eq_getElem hj
              obtain ⟨d, hd, dx⟩ := dRb.get hx
              rw [List.getElem?_map] at hd
              obtain ⟨r, hr', rfl⟩ := Option.map_eq_some_iff.mp hd
              have xb := x'.trans x10
              have gr := rows_go hr1 (List.mem_of_getElem? hr')
              have gr2 := gr
              rw [er2] at gr2
              have frow := goF_find _ gr fnd
              obtain ⟨A', m', pvr, pvl⟩ := hpr.all _ gr
              obtain ⟨b, v1, v2, v3, v4, v5, eb, hb, d1, d2, d3, d4, d5⟩ := (dx.xt ilb xb).rowD_inv
              obtain ⟨ah, rfl, hah⟩ := id d1.path_inv
              rw [eb] at hx
              have dm10 : DT K H10 (.ref am) (marketD g n) := Mb.d.xt ilb xb
              have M10 : Mk K H10 (.ref am) g n := ⟨dm10, hB, by omega⟩
              have dc10 : DT K H10 vc c.D := dcb.xt ilb xb
              have ppl := pvr.pl
              have hM2 := pvr.M2
              have dep := pvr.dep
              refine ⟨_, _, _, _, rfl, rfl, SqL.of (x10 _ _ lrd (x' _ _ lrd hlb)), atI_nat hx, ?_⟩
              refine ⟨_, _, rfl, hb.sq, rfl, _, _, rfl, _, _, rfl, _, _, rfl, _, _, rfl, _, _, rfl, rfl, ?_⟩
              refine ⟨_, rfl, _, rfl, _, rfl, 0, .ref am, vc, V.ref ah, g, n, c, m, 3247, rfl, M10, G, dc10, wf, nb, hpv, .inr ⟨.inl rfl, r.1, d1, by omega, fun z => absurd (gr2.symm.trans z) (Option.some_ne_none _), fun s' hs' v' H11 s11 dv' => ?_⟩⟩
              rw [gr2] at hs'
              cases hs'
              rw [if_pos rfl] at dv'
              refine ⟨_, rfl, _, rfl, two_le, fun p12 h12 => ?_⟩
              have s12 := same_new (o := .tup [v2, v3]) h12
              have s112 := s11.trans s12
              have st0 : Sh 23 (.tuple [pathD r.2.pt, r.2.c.D]) := Sh.tup fun e he => by
                simp only [List.mem_cons, List.not_mem_nil, or_false] at he
                rcases he with rfl | rfl
                · exact (sh_path _).mono (by decide)
                · exact (sh_part _).mono (by omega)
              have dt2 : DT K (upd H11 p12 (.tup [v2, v3])) (.ref p12) (.tuple [pathD r.2.pt, r.2.c.D]) := .mk2 (Tp.of upd_same) (d2.same s112) (d3.same s112)
              refine ⟨_, _, (dv'.same s12).dp, dt2.dp, st0.shaped, st0.shaped, _, rfl, if_false_of' st0.ne ?_⟩
              generalize (upd H11 p12 (.tup [v2, v3])) = H12 at *
              refine ⟨_, rfl, _, rfl, _, rfl, 1, .ref am, vc, V.ref ah, g, n, c, m, 3247, rfl, M10.same s112, G, dc10.same s112, wf, nb, hpv, .inr ⟨.inr rfl, r.1, d1.same s112, by omega, fun z => absurd (gr2.symm.trans z) (Option.some_ne_none _), fun s' hs' v' H13 s13 dv13 => ?_⟩⟩
              rw [gr2] at hs'
              cases hs'
              rw [if_neg (by decide)] at dv13
              have st1 : Sh 2 (amD r.2.given) := Sh.tup fun e he => by
                obtain ⟨q, _, rfl⟩ := List.mem_map.mp he
                exact sh_fr q
              have s113 := s112.trans s13
              refine ⟨_, rfl, _, _, dv13.dp, (d5.same s113).dp, st1.shaped, st1.shaped, _, rfl, if_false_of' st1.ne ?_⟩
              have kx : ∀ (z : Int) (q : List Int), ¬ (0 ≤ z ∧ z < (r.2.kids : Int)) → goF ⟨[], n, c, zeroF g.toNat⟩ (r.1 ++ z :: q) = none := fun z q hz => by
                rw [goF_app, gr2]
                show (r.2.kid z).bind _ = none
                rw [kid_none hz]
                rfl
              refine ⟨_, rfl, _, rfl, _, rfl, .ref am, v2, v4, g, n, r.2.n, r.2.pt, r.2.told, rfl, dm10.same s113, d2.same s113, d4.same s113, frow, by omega, by have := pvr.nv.ks3.1; omega, fun l xs H14 s14 nl hl dxs => ⟨l, xs, rfl, SqL.of hl, ?_⟩⟩
              have lxs : xs.length = r.2.kids := by rw [dxs.len, List.length_map, places_len]
              rw [lxs]
              refine ⟨_, rfl, _, rfl, two_le, fun p15 h15 => ?_⟩
              have s15 := same_new (o := .tup [V.int (r.2.kids : Int), V.int 0]) h15
              have s1015 := (s113.trans s14).trans s15
              refine ⟨_, rfl, pd, ps, 2, rfl, D10.same s1015, by decide, b8 (by decide) (by decide), fun q16 H16 x16 D16 q160 q161 => ?_⟩
              refine ⟨_, _, rfl, rfl, _, rfl, ?_⟩
              have xall : Xt pd Hb H16 := (xb.trans (Xt.of s1015)).trans x16
              have s10_15 := s1015
              have hah16 : Tp H16 ah (r.1.map V.int) := tp_xt (D10.same s1015).isL' x16 (tp_same s1015 hah)
              have h1516 : Tp H16 p15 [V.int (r.2.kids : Int), V.int 0] := tp_xt (D10.same s1015).isL' x16 (Tp.of upd_same)
              have dm16 : DT K H16 (.ref am) (marketD g n) := Mb.d.xt ilb xall
              have M16 : Mk K H16 (.ref am) g n := ⟨dm16, hB, by omega⟩
              have dc16 : DT K H16 vc c.D := dcb.xt ilb xall
              refine ⟨p15, _, rfl, h1516, fun p17 H17 s17 hp17 => ?_⟩
              have ecut : ∃ q : List Int, cutV [V.int (r.2.kids : Int), V.int 0] none (some (1 + q16)) = (((r.2.kids : Int) :: q).map V.int) ∧ q.length ≤ 1 := by
                rcases (by omega : q16 = 0 ∨ q16 = 1) with rfl | rfl
                · exact ⟨[], cut_take _ 1, by decide⟩
                · exact ⟨[0], cut_take _ 2, by decide⟩
              obtain ⟨q, ecut, lq⟩ := ecut
              rw [ecut] at hp17
              refine ⟨ah, p17, _, _, rfl, rfl, tp_same s17 hah16, hp17, len1000 (by simp; omega), fun p18 H18 s18 hp18 => ?_⟩
              rw [← List.map_append] at hp18
              have s1618 := s17.trans s18
              refine ⟨_, rfl, _, rfl, _, rfl, 0, .ref am, vc, .ref p18, g, n, c, m, 3247, rfl, M16.same s1618, G, dc16.same s1618, wf, nb, hpv, .inr ⟨.inl rfl, _, DT.path hp18, by rw [List.length_append, List.length_cons]; omega, fun _ H19 s19 => ?_, fun s' hs' => ?_⟩⟩
              · refine ⟨rfl, ?_⟩
                have eh : (!decide (V.str (Str.ofString "history") = V.str (Str.ofString "history"))) = false := by rw [decide_eq_true rfl]; rfl
                refine ⟨_, rfl, if_false_of' eh ?_⟩
                have s1619 := s1618.trans s19
                refine ⟨_, rfl, _, rfl, _, rfl, _, _, rfl, rfl, (by decide : 1 ≤ sizeLine), fun p20 h20 => ?_⟩
                have s20 := same_new (o := .tup [V.int (0 - 1)]) h20
                refine ⟨ah, p20, _, _, rfl, rfl, tp_same (s1619.trans s20) hah16, Tp.of upd_same, len1000 (by simp; omega), fun p21 H21 s21 hp21 => ?_⟩
                have hp21' : Tp H21 p21 ((r.1 ++ [(0 - 1 : Int)]).map V.int) := by simpa using hp21
                have s1621 := (s1619.trans s20).trans s21
                refine ⟨1, .ref am, vc, .ref p21, g, n, c, m, 3247, rfl, M16.same s1621, G, dc16.same s1621, wf, nb, hpv, .inr ⟨.inr rfl, _, DT.path hp21', by rw [List.length_append, List.length_singleton]; omega, fun _ H22 s22 => ?_, fun s' hs' => ?_⟩⟩
                · refine ⟨rfl, _, rfl, if_false_of' eh ?_⟩
                  exact ⟨_, _, _, _, _, _, _, _, rfl, xall.trans (Xt.of (s1621.trans s22)), D16.same (s1621.trans s22)⟩
                · rw [kx _ _ (by omega)] at hs'
                  cases hs'
              · rw [kx _ _ (by omega)] at hs'
                cases hs'
            · rintro σ H' _
              exact fin _
end
end Nl

namespace Nl
open PySem PySem.Spec PyProof.Rows L2 LamX NdefX
/-! ### a function that is handed on: its captured cell stands still while the call runs -/
theorem mod_up {K : PySem.W.Frag} {mg : Str → Option Value} {h h' : Heap} (m : Mod K mg h) (k : ∀ b o, h.get? b = some o → h'.get? b = some o) : Mod K mg h' :=
  ⟨m.kin.keeps k, m.glob.keeps k, let ⟨mb, n, e⟩ := m.blt; ⟨mb, n.keeps k, e⟩, m.nolimit.keeps k⟩
section
variable {X : Cx} {pins : List (Addr × Obj)} {τ : L2.St} {H : Hp} {s : Shared} {x : Str} {c : Addr} {u : Option Value}
theorem cell_noframe (I : Inv X pins τ H s) (hfn : X.fn x = true) (hc : X.env.cells.lookup x = some c) : c ∉ frs X.stack := fun hm => by
  rcases List.mem_cons.mp (I.stkSub c hm) with e | hb
  · exact I.cne x c hc e
  · obtain ⟨_, o, ho, _⟩ := I.ok.funs.mem hb
    exact absurd (Nat.lt_of_lt_of_le (Heap.lt_size ho) (I.ok.cab x c hfn hc)) (Nat.lt_irrefl _)
theorem env0_cell (I : Inv X pins τ H s) (hfn : X.fn x = true) (hc : X.env.cells.lookup x = some c) (hu : s.heap.IsCell c u) :
    ∃ B : Heap, (∀ b o, X.base.get? b = some o → B.get? b = some o) ∧ B.IsCell c u ∧ Env0 X.prog X.w X.K X.mg B X.A X.stack s H := by
  obtain ⟨l, hl⟩ : ∃ l : List Addr, l = (List.range s.heap.objs.size).filter fun b => !((X.base.get? b).isSome || decide (b = c)) := ⟨_, rfl⟩
  have out : ∀ b, ((X.base.get? b).isSome || decide (b = c)) = true → b ∉ l := fun b hb hm => by
    rw [hl] at hm
    have z := (List.mem_filter.mp hm).2
    rw [hb] at z
    cases z
  have keep : ∀ b o, X.base.get? b = some o → (PySem.W.hideAll s.heap l).get? b = some o := fun b o e => PySem.W.hideAll_get l (I.bk b o e) (out b (by rw [e]; rfl))
  obtain ⟨oc, hoc, hd⟩ := id hu
  have inn : ∀ b o, (PySem.W.hideAll s.heap l).get? b = some o → s.heap.get? b = some o ∧ ((X.base.get? b).isSome = true ∨ b = c) := fun b o e => by
    have z := PySem.W.of_hideAll l e
    refine ⟨z, ?_⟩
    cases q : (X.base.get? b).isSome with
    | true => exact .inl rfl
    | false =>
      refine .inr (Decidable.byContradiction fun ne => ?_)
      rw [PySem.W.hideAll_none l (by
        rw [hl]
        exact List.mem_filter.mpr ⟨List.mem_range.mpr (Heap.lt_size z), by rw [q, decide_eq_false ne]; rfl⟩)] at e
      cases e
  refine ⟨PySem.W.hideAll s.heap l, keep, ⟨oc, PySem.W.hideAll_get l hoc (out c (by simp)), hd⟩, ?_⟩
  have e0 := I.env0
  refine ⟨e0.frames, mod_up e0.mod keep, fun b o e => ?_, Nat.le_of_eq (PySem.W.hideAll_size l s.heap), funFrames_none e0.funs fun L hL => ?_, e0.frf, e0.hok, e0.bare⟩
  · obtain ⟨h1, h2 | h2⟩ := inn b o e
    · obtain ⟨o', ho'⟩ := Option.isSome_iff_exists.mp h2
      exact ⟨h1, (I.bs b o' ho').2⟩
    · subst h2
      exact ⟨h1, I.freeC x _ hc⟩
  · cases e : (PySem.W.hideAll s.heap l).get? L with
    | none => rfl
    | some o =>
      obtain ⟨_, h2 | h2⟩ := inn L o e
      · rw [(e0.funs.mem hL).1] at h2
        cases h2
      · subst h2
        exact (cell_noframe I hfn hc hL).elim
end
/-- the promise of a function value, its captured cells being what they are -/
structure HeldF (P : Program) (w : World) (K : PySem.W.Frag) (mg : Str → Option Value) (base : Heap) (k : Nat) (F : NF) (n : Nat) (sp : Sp) : Prop where
  len : ∀ vs H Q E, sp vs H Q E → vs.length = n
  run : ∀ (f : Addr) (A : Around) (outer : List Env) (s : Shared) (H : Hp) (us : List Value) (vs : List V) (Q : VK) (E : XK), Room k A → Env0 P w K mg base A outer s H → H f = some (FnO f F) → H F.c = some (CodeO F.c F.qual) → Vals vs us → sp vs H Q E →
    codeAny (model P w) A (.call (.ref f) ⟨us, []⟩) (CR CX0 outer P w H s Q E) s
/-- .. of a nested def with one captured name, whose cell stands in the ground -/
theorem held_of {P : Program} {w : World} {K : PySem.W.Frag} {mg : Str → Option Value} {base : Heap} {k : Nat} {F : NF} {ps : List Str} {y : Str} {c : Addr} {v : V} {u : Value} {sp : List (Option V) → Sp} (N : ∀ f, NOk P w K mg base CX0 k f F ps [y] sp) (hy : F.cl.lookup y = some c) (one : ∀ z d, F.cl.lookup z = some d → z = y)
    (hc : base.IsCell c (some u)) (rv : RelV v u) : HeldF P w K mg base k F ps.length (sp [some v]) where
  len := fun vs H Q E h => (N 0).len [some v] vs H Q E h
  run := fun f A outer s H us vs Q E hr e0 hf hco rr h => by
    obtain ⟨o, ho, hd⟩ := hc
    obtain ⟨h1, h2⟩ := e0.bs c o ho
    refine (N f).run A outer s H us vs [some v] Q E hr e0 hf hco ⟨rfl, fun z d e => ?_, fun z z' d e e' => ?_, fun i z e => ?_⟩ rr h
    · obtain rfl := one z d e
      rw [hy] at e
      cases e
      exact ⟨h2, _, o, h1, hd⟩
    · rw [one z d e, one z' d e']
    · cases i with
      | succ i => simp at e
      | zero =>
        have e : some y = some z := e
        cases e
        refine ⟨c, hy, fun v' e' => ?_⟩
        have e' : some (some v) = some (some v') := e'
        cases e'
        exact ⟨u, rv, o, h1, hd⟩
/-- f(..), f a name that holds such a function -/
def tCallH (i : Nat) (F : NF) (sp : Sp) (t : TA) : TE := fun σ H Q => ∃ f, σ[i]? = some (some (.ref f)) ∧ H f = some (FnO f F) ∧ t σ H fun vs H1 => H1 f = some (FnO f F) ∧ H1 F.c = some (CodeO F.c F.qual) ∧ sp vs H1 Q E0
theorem pe_callH {X : Cx} {k j i n : Nat} {F : NF} {sp : Sp} {x : Str} {e : Expr} {es : List Expr} {t : TA} {p pos : Pos} (Hd : HeldF X.prog X.w X.K X.mg X.base k F n sp) (hr : Room j X.A) (hk : k ≤ j) (at_ : X.N[i]? = some x) (vis : Vis X.env.scope x) (ha : PA X (e :: es) t)
    (d1 : (x == ("__debug__" : Str)) = false := by decide) (d2 : (x == ("__classdict__" : Str)) = false := by decide)
    (he : starEach (e :: es) X.env = (false, eval e X.env) :: starEach es X.env := by rfl) (hpl : (backTo pos (starEach es X.env)).any (·.1) = false := by rfl) : PE X (.Call (.Name x p) (e :: es) [] pos) (tCallH i F sp t) := by
  refine ⟨fun pins s τ H Q I h => ?_⟩
  obtain ⟨f, hs, hf, ht⟩ := h
  refine wpAny_Call_Name_kw (thn ((pe_var (pos := p) at_ vis d1 d2).run pins s τ H (fun v H1 => v = .ref f ∧ H1 = H) I ⟨.ref f, hs, rfl, rfl⟩) fun u s1 ⟨v, H1, J, r1, q1⟩ => ?_)
  obtain ⟨rfl, rfl⟩ := q1
  obtain rfl : u = Value.ref f := r1
  refine PySem.W.callWith_F (first := []) (fnAt_of J hf) (thn (ha.run pos pins s1 τ _ _ J ht) fun us s2 ⟨vs, H2, J2, r, h1, h2, q⟩ => ⟨fnAt_of J2 h1, ?_⟩) he hpl
  show wpAny _ _ (call (.ref f) us) _ _ _
  refine wpAny_call (codeAny_mono (Hd.run f X.A X.stack s2 H2 us vs Q E0 (hr.mono hk) J2.env0 h1 h2 r q) fun r s' hq => ?_)
  cases r with
  | error e => exact pass0 pins τ H2 s2 e s' J2 hq
  | ok fl =>
    cases fl with
    | ret u => exact J2.after hq
    | next => exact False.elim hq
    | brk => exact False.elim hq
    | cont => exact False.elim hq
end Nl

namespace Nl
open PySem PySem.Spec PyProof.Rows L2 LamX NdefX
/-! ### a nested def with one captured name and one parameter, which a comprehension captures -/
abbrev cellO : Obj := { cls := .type "cell", data := .cell none }
structure OneCell (N : List Str) (x y : Str) (sc : Scope) : Prop where
  kind : sc.kind = .function
  co : sc.isCoroutine = false
  gen : sc.isGenerator = false
  nd : N.Nodup
  at0 : N[0]? = some x
  at1 : N[1]? = some y
  kx : sc.names.lookup x = some .cell
  ky : sc.names.lookup y = some .free
  cells : ∀ n acc, cellsFrom n sc.names acc = (x, n) :: acc
  push : ∀ h : Heap, pushCells h sc.names = h.push cellO
  free : ∀ z ∈ sc.names, z.2 = .free → z.1 = y
  cell : ∀ z ∈ sc.names, z.2 = .cell → z.1 = x
abbrev envD (F : NF) (x : Str) (f L : Addr) : Env := PySem.W.envX F.qual F.scope L f (.ref F.c) ((x, L + 1) :: F.cl)
def dcx (CX : CXT) (P : Program) (w : World) (K : PySem.W.Frag) (mg : Str → Option Value) (base : Heap) (N : List Str) (F : NF) (x : Str) (f : Addr) (A : Around) (outer : List Env) (s : Shared) (H : Hp) (E : XK) : Cx where
  prog := P
  w := w
  K := K
  mg := mg
  base := base
  A := A.deeper (envD F x f s.heap.objs.size)
  N := N
  s_0 := s
  H_0 := H
  env := envD F x f s.heap.objs.size
  outer := outer
  stack := envD F x f s.heap.objs.size :: outer
  ex := []
  calm := true
  fn := fun _ => false
  pn := []
  xe := fun e s' => wpAny (model P w) (A.deeper (envD F x f s.heap.objs.size)) (leaving (envD F x f s.heap.objs.size) e) (fun _ s'' => CX outer H s E e s'') (fun e' s'' => CX outer H s E e' s'') s'
theorem newEnv_one {M : Model} {A : Around} {E : Value → Shared → Prop} {s : Shared} {sc : Scope} {N : List Str} {x y : Str} {globals : Addr} {cl : List (Str × Addr)} {v : Value} {qual : Str} {func : Option Addr} {code : Value} {builtins : Addr} {Q : Env → Shared → Prop} (S : OneCell N x y sc)
    (hQ : ∀ h' tk, h'.Ns s.heap.objs.size (fun _ => none) → h'.IsCell (s.heap.objs.size + 1) (some v) → (∀ b o, s.heap.get? b = some o → h'.get? b = some o) → Q (newEnv sc s.heap.objs.size globals ((x, s.heap.objs.size + 1) :: cl) qual func code none builtins) { s with heap := h', toks := tk }) :
    wpAny M A (newFunctionEnv sc globals cl [(x, v)] qual func code none builtins) Q E s := by
  simp only [newFunctionEnv, Option.isSome_none, Bool.false_eq_true, if_false]
  refine wpAny_bind (wpAny_alloc ?_)
  refine wpAny_bind (wpAny_layCells _ (fun name kind cells => by cases q : kind == NameKind.cell <;> simp [q]) _ _ _ _ ?_)
  rw [show ({ s with heap := s.heap.push { cls := .type "frame", data := .dict #[] } } : Shared).heap.objs.size = s.heap.objs.size + 1 from Heap.size_push .., S.cells, S.push]
  simp only [List.forIn_cons, List.forIn_nil]
  have c0 : ((s.heap.push { cls := .type "frame", data := .dict #[] }).push cellO).IsCell (s.heap.objs.size + 1) none := by
    refine ⟨cellO, ?_, rfl⟩
    have := Heap.get?_push_size (s.heap.push { cls := .type "frame", data := .dict #[] }) (o := cellO) rfl
    rw [Heap.size_push] at this
    exact this
  have n0 := ((Heap.Ns.new s.heap (.type "frame")).keeps fun b o e => Heap.get?_push_of_some cellO e)
  refine wpAny_bind (wpAny_bind (wpAny_bind (wpAny_storeName_cell (c := s.heap.objs.size + 1) S.kind S.kx (List.lookup_cons_self ..) c0 fun h' hc sb => wpAny_pure (wpAny_pure (wpAny_pure ?_)))))
  refine hQ h' _ (n0.sameBut sb (Nat.ne_of_lt (Nat.lt_succ_self _))) hc fun b o e => ?_
  have hlt := Heap.lt_size e
  exact (sb.2 b (Nat.ne_of_lt (Nat.lt_succ_of_lt hlt))).trans (Heap.get?_push_of_some _ (Heap.get?_push_of_some _ e))
section
variable {CX : CXT} {P : Program} {w : World} {K : PySem.W.Frag} {mg : Str → Option Value} {base : Heap} {N : List Str} {x y : Str} {F : NF} {f : Addr} {k : Nat} {sp : List (Option V) → Sp}
theorem inv_startD {A : Around} {outer : List Env} {s : Shared} {H : Hp} {E : XK} {v : V} {u : Value} {o : Option V} {h₁ : Heap} {tk : Nat} (S : OneCell N x y F.scope) (hd : A.handled = none) (e0 : Env0 P w K mg base A outer s H) (r : RelV v u) (C : CellsAt F.cl [y] [o] s.heap H)
    (hns : h₁.Ns s.heap.objs.size fun _ => none) (hc : h₁.IsCell (s.heap.objs.size + 1) (some u)) (kp : ∀ b o, s.heap.get? b = some o → h₁.get? b = some o) :
    Inv (dcx CX P w K mg base N F x f A outer s H E) [] (some v :: o :: List.replicate (N.length - 2) none) H { s with heap := h₁, toks := tk } := by
  have hN : 2 ≤ N.length := by
    have := (List.getElem?_eq_some_iff.mp S.at1).1
    omega
  have noA : ∀ b : Addr, ¬ b ∈ (dcx CX P w K mg base N F x f A outer s H E).ex := fun b z => absurd (show b ∈ ([] : List Addr) from z) (by simp)
  have cellK : ∀ {c : Addr} {v : Option Value}, s.heap.IsCell c v → h₁.IsCell c v := fun {c v} ⟨o, ho, hd⟩ => ⟨o, kp _ _ ho, hd⟩
  have old : ∀ z c, F.cl.lookup z = some c → c < s.heap.objs.size := fun z c e => by
    obtain ⟨_, v, q⟩ := C.all z c e
    exact q.lt
  have split : ∀ z c, (((x, s.heap.objs.size + 1) :: F.cl) : List (Str × Addr)).lookup z = some c → (z = x ∧ c = s.heap.objs.size + 1) ∨ (z ≠ x ∧ F.cl.lookup z = some c) := fun z c e => by
    rw [List.lookup_cons] at e
    by_cases q : z = x
    · rw [beq_iff_eq.mpr q] at e
      cases e
      exact .inl ⟨q, rfl⟩
    · rw [beq_eq_false_iff_ne.mpr q] at e
      exact .inr ⟨q, e⟩
  have apart : ∀ z z' c, (((x, s.heap.objs.size + 1) :: F.cl) : List (Str × Addr)).lookup z = some c → (((x, s.heap.objs.size + 1) :: F.cl) : List (Str × Addr)).lookup z' = some c → z = z' := fun z z' c e e' => by
    rcases split z c e with ⟨a, b⟩ | ⟨a, b⟩ <;> rcases split z' c e' with ⟨a', b'⟩ | ⟨a', b'⟩
    · rw [a, a']
    · have := old z' c b'
      rw [b] at this
      exact absurd this (Nat.not_lt.mpr (Nat.le_succ _))
    · have := old z c b
      rw [b'] at this
      exact absurd this (Nat.not_lt.mpr (Nat.le_succ _))
    · exact C.inj z z' c b b'
  have ne_xy : y ≠ x := fun z => by
    have := S.kx
    rw [← z, S.ky] at this
    cases this
  obtain ⟨cy, hcy, hvy⟩ := C.has 0 y rfl
  have hy' : (((x, s.heap.objs.size + 1) :: F.cl) : List (Str × Addr)).lookup y = some cy := by
    rw [List.lookup_cons, beq_eq_false_iff_ne.mpr ne_xy]
    exact hcy
  refine ⟨⟨e0.mod, S.kind, rfl, rfl, Nat.le_refl _, fun z z' c => apart z z' c, fun z hz => ?_, fun z c q _ => ?_, fun _ => hd, Around.frames_deeper e0.frames, .inr ⟨rfl, rfl⟩, fun b z => absurd z (noA b), e0.bs, e0.bsz, fun b _ _ => noA b,
      fun b z => absurd z (noA b), e0.funs, e0.frf⟩,
    rfl, e0.bare, Un.kept kp, ⟨_, hns, fun i z v' e1 e2 e3 => ?_⟩, fun z c e => ?_, e0.hok.fresh (Nat.le_refl _), fun z c e => ?_, fun q hq => absurd (show q ∈ ([] : List (Addr × Obj)) ++ [] from hq) (by simp), e0.hok.kept kp, ?_⟩
  · have hz : F.scope.names.lookup z = some .cell ∨ F.scope.names.lookup z = some .free := hz
    rcases hz with hz | hz
    · obtain rfl : z = x := S.cell _ (PySem.mem_of_lookup hz) rfl
      exact ⟨_, List.lookup_cons_self ..⟩
    · obtain rfl : z = y := S.free _ (PySem.mem_of_lookup hz) rfl
      exact ⟨cy, hy'⟩
  · have q : false = true := q
    cases q
  · have e1 : N[i]? = some z := e1
    match i, e1, e2 with
    | 0, e1, e2 =>
      rw [S.at0] at e1
      cases e1
      have e2 : some (some v) = some (some v') := e2
      cases e2
      exact ⟨u, r, .inr ⟨.inl S.kx, _, List.lookup_cons_self .., hc⟩⟩
    | 1, e1, e2 =>
      rw [S.at1] at e1
      cases e1
      have e2 : some o = some (some v') := e2
      cases e2
      obtain ⟨uy, ry, iy⟩ := hvy v' rfl
      exact ⟨uy, ry, .inr ⟨.inr S.ky, cy, hy', cellK iy⟩⟩
    | i + 2, e1, e2 =>
      rw [List.getElem?_cons_succ, List.getElem?_cons_succ, List.getElem?_replicate] at e2
      split at e2 <;> cases e2
  · rcases split z c e with ⟨_, rfl⟩ | ⟨_, b⟩
    · exact ⟨_, hc⟩
    · obtain ⟨v', q⟩ := (C.all z c b).2
      exact ⟨v', cellK q⟩
  · rcases split z c e with ⟨_, rfl⟩ | ⟨_, b⟩
    · exact e0.hok.fresh (Nat.le_succ _)
    · exact (C.all z c b).1
  · show _ = N.length
    rw [List.length_cons, List.length_cons, List.length_replicate]
    omega
theorem nokD_of (S : OneCell N x y F.scope) (hb : ∀ (doc pm ctv : Value) (us : List Value), us.length = 1 → bindArgs (F.fd doc pm ctv) ⟨us, []⟩ = pure ([x].zip us)) (len : ∀ ws vs H Q E, sp ws vs H Q E → vs.length = 1)
    (hbody : ∀ (A : Around) (outer : List Env) (s : Shared) (H : Hp) (v : V) (o : Option V) (Q : VK) (E : XK), Room k (A.deeper (envD F x f s.heap.objs.size)) → sp [o] [v] H Q E →
      ∃ t, PSs (dcx CX P w K mg base N F x f A outer s H E) F.body t ∧ t { nx := fun _ H' => Q .non H', rt := Q } (some v :: o :: List.replicate (N.length - 2) none) H) :
    NOk P w K mg base CX (k + 1) f F [x] [y] sp := by
  refine ⟨len, fun A outer s H us vs ws Q E hr e0 hf hc C r hsp => ?_⟩
  have hl := len _ _ _ _ _ hsp
  have lim : s.heap.NoLimit := e0.mod.nolimit.keeps fun b o e => (e0.bs b o e).1
  obtain ⟨od, sl, doc, pm, ctv, ho⟩ := fnO_at e0.hok hf
  obtain ⟨v, rfl⟩ : ∃ v, vs = [v] := by
    match vs, hl with
    | [v], _ => exact ⟨v, rfl⟩
  obtain ⟨o, rfl⟩ : ∃ o, ws = [o] := by
    match ws, C.len with
    | [o], _ => exact ⟨o, rfl⟩
  cases r with
  | cons r0 rr =>
    cases rr
    rename_i u
    refine codeAny_call_function hr.depth ho rfl S.co S.gen rfl (codeO_at e0.hok hc) ?_
    rw [hb doc pm ctv [u] rfl]
    refine wpAny_pure (newEnv_one S fun h₁ tk hns hcell kp => ⟨lim.keeps kp, ?_⟩)
    show codeAny _ _ (.func F.body (envD F x f s.heap.objs.size)) _ _
    refine codeAny_func ?_
    obtain ⟨t, ht, hq⟩ := hbody A outer s H v o Q E (hr.deeper _) hsp
    have I : Inv (dcx CX P w K mg base N F x f A outer s H E) [] (some v :: o :: List.replicate (N.length - 2) none) H { s with heap := h₁, toks := tk } := inv_startD S hr.hd e0 r0 C hns hcell kp
    refine wpAny_mono (ht.run [] _ _ H _ I hq) (fun fl s' hs => ?_) fun e s' hs => hs
    have fin : ∀ {σ' : L2.St} {H' : Hp} {v : V} {u : Value}, Inv (dcx CX P w K mg base N F x f A outer s H E) [] σ' H' s' → L2.RelV v u → Q v H' → CE outer P w H s Q u s' :=
      fun {σ' H' v u} J rv q => ⟨v, H', J.os, J.bare, J.base, J.hok, rv, q⟩
    cases fl with
    | ret u =>
      obtain ⟨v, σ', H', J, rv, q⟩ := hs
      exact fin J rv q
    | next =>
      obtain ⟨σ', H', J, q⟩ := hs
      exact fin (v := V.non) (u := Value.none) J rfl q
    | brk =>
      obtain ⟨_, _, _, q⟩ := hs
      exact False.elim q
    | cont =>
      obtain ⟨_, _, _, q⟩ := hs
      exact False.elim q
end
/-- a def of the text whose code object is at c -/
structure FunC (K : PySem.W.Frag) (x qual : Str) (st : Stmt) (f : Addr) (fd : FuncData) (c : Addr) : Prop where
  ex : ∃ (oc : Value) (od : Option Addr) (kV doc pm : Value) (an : Option Addr) (ct : Value) (osl : Array (Option Value)),
    fd = PySem.W.fnOf x qual (defArgs st) (defBody st) (defScope st) .none kV doc pm an (.ref c) ct ∧ K.lookup f = some ⟨oc, od, .func fd, osl⟩ ∧ PySem.W.codeIn K (.ref c) qual = true
theorem FunC.okX {P : Program} {w : World} {K : PySem.W.Frag} {mg : Str → Option Value} {base : Heap} {x qual : Str} {st : Stmt} {f c : Addr} {fd : FuncData} {N ps : List Str} {k : Nat} {sp : Sp} (F : FunC K x qual st f fd c) (S : FnScope N ps (defScope st)) (len : ∀ vs H Q E, sp vs H Q E → vs.length = ps.length)
    (body : ∀ (A : Around) (outer : List Env) (s : Shared) (H : Hp) (vs : List V) (Q : VK) (E : XK), Room k (A.deeper (envOfC qual (defScope st) s.heap.objs.size f (.ref c))) → sp vs H Q E →
      ∃ t, PSs (cxOf (L2.CX P w) P w K mg base N qual (defScope st) f (.ref c) A outer s H E) (defBody st) t ∧ t { nx := fun _ H' => Q .non H', rt := Q } (L2.start N vs) H) : FnOk P w K mg base (L2.CX P w) (k + 1) f fd ps sp := by
  obtain ⟨oc, od, kV, doc, pm, an, ct, osl, rfl, lk, hcd⟩ := F.ex
  exact fn_of lk hcd S len fun A outer s H vs Q E hr hsp => body A outer s H vs Q E hr hsp
/-- a call of a def of the text, in the ground with one cell more -/
def tCallG (i : Nat) (sp : Addr → V → Sp) (t : TA) : TE := fun σ H Q => ∃ z v, σ[i]? = some (some v) ∧ t σ H fun vs H1 => sp z v vs H1 Q E0
theorem pe_callG {X : Cx} {i k j : Nat} {f : Addr} {fd : FuncData} {ps : List Str} {x y : Str} {sp : Addr → V → Sp} {e : Expr} {es : List Expr} {t : TA} {p pos : Pos}
    (F : ∀ (z : Addr) (B : Heap) (c : Addr) (u : Value) (v : V), X.env.cells.lookup y = some c → RelV v u → B.IsCell c (some u) → (∀ b o, X.base.get? b = some o → B.get? b = some o) → FnOk X.prog X.w X.K X.mg B CX0 k f fd ps (sp z v))
    (hr : Room j X.A) (hk : k ≤ j) (hg : Gl X x) (hm : X.mg x = some (.ref f)) (hkp : PySem.W.keepIn X.K (.ref f) = true) (hb : Binds X.K fd ps []) (at_ : X.N[i]? = some y) (kind : X.env.scope.names.lookup y = some .cell) (hfn : X.fn y = true) (ha : PA X (e :: es) t)
    (hdb : (x == ("__debug__" : Str)) = false := by decide) (he : starEach (e :: es) X.env = (false, eval e X.env) :: starEach es X.env := by rfl) (hpl : (backTo pos (starEach es X.env)).any (·.1) = false := by rfl) :
    PE X (.Call (.Name x p) (e :: es) [] pos) (tCallG i sp t) := by
  refine ⟨fun pins s τ H Q I h => ?_⟩
  obtain ⟨z, v, hv, ht⟩ := h
  refine wpAny_Call_Name_kw (ld_glob I hg hm ?_ hdb)
  refine PySem.W.callWith_K (h₀ := X.base) I.ok.mod.kin hkp (thn (ha.run pos pins s τ H _ I ht) fun us s1 ⟨vs, H1, J, r, q⟩ => ⟨J.kIn, ?_⟩) he hpl
  obtain ⟨m, _, hl⟩ := J.loc
  obtain ⟨u, rv, look⟩ := hl i y v at_ hv (.inr (.inl kind))
  rcases look with ⟨z, _⟩ | ⟨_, c, hc, hcell⟩
  · have z : X.env.scope.names.lookup y = some .local := z
    rw [kind] at z
    cases z
  · obtain ⟨B, keep, hB, e0⟩ := env0_cell J hfn hc hcell
    have G := F z B c u v hc rv hB keep
    have hl : us.length = ps.length := by rw [← r.length]; exact G.len _ _ _ _ q
    refine wpAny_call (codeAny_mono (G.run X.A X.stack s1 H1 ⟨us, []⟩ us vs Q E0 (hr.mono hk) e0 (by have := hb s1 us J.kIn (by simpa using hl); simpa using this) r q) fun rr s' hq => ?_)
    cases rr with
    | error e => exact pass0 pins τ H1 s1 e s' J hq
    | ok fl =>
      cases fl with
      | ret u => exact J.after hq
      | next => exact False.elim hq
      | brk => exact False.elim hq
      | cont => exact False.elim hq
theorem HeldF.imp {P : Program} {w : World} {K : PySem.W.Frag} {mg : Str → Option Value} {base : Heap} {k n : Nat} {F : NF} {sp sp' : Sp} (h : HeldF P w K mg base k F n sp) (g : ∀ vs H Q E, sp' vs H Q E → sp vs H Q E) : HeldF P w K mg base k F n sp' :=
  ⟨fun vs H Q E q => h.len vs H Q E (g _ _ _ _ q), fun f A outer s H us vs Q E hr e0 hf hc r q => h.run f A outer s H us vs Q E hr e0 hf hc r (g _ _ _ _ q)⟩
/-- what a closure with one captured name holds -/
theorem clo_one {cells : List (Str × Addr)} {names : List (Str × NameKind)} {y : Str} {c : Addr} (only : ∀ z ∈ names, z.2 = .free → z.1 = y) (hy : (y, NameKind.free) ∈ names) (hc : cells.lookup y = some c) :
    (cloFrom cells names []).lookup y = some c ∧ ∀ z d, (cloFrom cells names []).lookup z = some d → z = y := by
  refine ⟨clo_has (fun z hz e => ⟨c, by rw [only z hz e]; exact hc⟩) hy hc, fun z d e => ?_⟩
  rcases cloFrom_mem (PySem.mem_of_lookup e) with hm | ⟨h1, _⟩
  · cases hm
  · exact only _ h1 rfl
theorem tp_ext {H H' : Hp} {a : Addr} {xs : List V} (s : ExtN H H') (h : Tp H a xs) : Tp H' a xs := s _ _ h fun _ z => nomatch z
theorem DT.ext {K : PySem.W.Frag} {H H' : Hp} {v : V} {d : PyData} (h : DT K H v d) (s : ExtN H H') : DT K H' v d := DT.mono (fun _ _ => tp_ext s) d v h
theorem DTs.ext {K : PySem.W.Frag} {H H' : Hp} {v : List V} {d : List PyData} (h : DTs K H v d) (s : ExtN H H') : DTs K H' v d := DTs.mono (fun _ _ => tp_ext s) d v h
theorem Same.ext {H H' : Hp} (s : Same H H') : ExtN H H' := fun b o h _ => s b o h
theorem TabsN.same {T : List NTab} {H H' : Hp} (h : TabsN T H) (s : Same H H') : TabsN T H' := h.ext s
end Nl

namespace Nl
open PySem PySem.Spec PyProof.Rows L2 LamX NdefX
theorem xt_keep {d b : Addr} {H H' : Hp} {o : HO} (i : IsL H d) (s : Xt d H H') (e : H b = some o) (n : ∀ ys, o ≠ .lst ys) : H' b = some o := s b o (fun z => by
  obtain ⟨ys, h⟩ := i
  rw [z, h] at e
  cases e
  exact n _ rfl) e
theorem TabN.xt {d P : Addr} {nm : Nat → Nat → Str} {H H' : Hp} (t : TabN H P nm) (i : IsL H d) (s : Xt d H H') : TabN H' P nm := by
  obtain ⟨ps, h1, h2, h3⟩ := t
  refine ⟨ps, xt_keep i s h1 (fun _ z => nomatch z), h2, fun pos cv hc => ?_⟩
  obtain ⟨c, e, h⟩ := h3 pos cv hc
  exact ⟨c, e, xt_keep i s h (fun _ z => nomatch z)⟩
theorem TabsN.xt {d : Addr} {T : List NTab} {H H' : Hp} (t : TabsN T H) (i : IsL H d) (s : Xt d H H') : TabsN T H' := fun p hp => TabN.xt (t p hp) i s
theorem Dst.ext {H H' : Hp} {pd ps : Addr} (h : Dst H pd ps) (s : ExtN H H') : Dst H' pd ps := by
  obtain ⟨i, r, ns, ⟨⟨sd, h1⟩, h2, h3, h4, h5⟩⟩ := h
  exact ⟨i, r, ns, ⟨⟨sd, s _ _ h1 fun _ z => nomatch z⟩, s _ _ h2 (fun _ z => nomatch z), h3, h4, h5⟩⟩
theorem Dst.isL' {H : Hp} {pd ps : Addr} (h : Dst H pd ps) : IsL H pd := by
  obtain ⟨i, r, ns, ⟨⟨sd, h1⟩, h2, h3, h4, h5⟩⟩ := h
  exact ⟨_, h1⟩
theorem Sh.lst {k : Nat} {ds : List PyData} (h : ∀ d ∈ ds, Sh k d) : Sh (k + 1) (.list ds) := by
  obtain ⟨h1, h2⟩ := sh_all h
  refine ⟨?_, ?_⟩
  · rw [PyData.canLay0]
    exact h1
  · rw [PyData.depth]
    omega
theorem walk_ofTabs {l : PySem.W.OpenLaw} {n k : Nat} {q : Program} {loose : List Str} {XP : (Str → Option Value) → Heap → Prop} {YP : World → Heap → Prop} {d : DefRec} {K : Params → PySem.W.Frag} {CX : World → CXT} {x : Str} (xs : List Str)
    (hn : l.most = some n) (hn2 : n ≤ sizeLine) (hdf : d.params.defaults = []) (hr : Room k callerA) (hrec : ∀ y ∈ xs, ((recsOf q).find? fun e => e.name == y).isSome = true) (hY : ∀ (w : World) (h : Heap), YP w h → (K w.params).In h)
    (F : ∀ (w : World) (mg : Str → Option Value) (fa : Addr) (h : Heap), YP w h → (K w.params).In h → h.Ns mainGlobals mg → mg d.name = some (.ref fa) →
      (∀ y ∈ xs, ∀ c P, PySem.W.tabIn (K w.params) y = some (c, P) → PySem.W.CodeHd h c P ∧ h.get? P = some { cls := .none, data := .fields #[] }) → LawAtS l w (K w.params) (CX w) k n x mg fa h)
    (hCX : ∀ (w : World) (H : Hp) (s : Shared) (e : Value) (s' : Shared), CX w [] H s (fun _ _ _ => False) e s' → False) :
    PySem.W.WalkO q loose XP YP l.row.toRowW d [] (fun f vs => PySem.call f vs) := by
  refine Att.attach_callB hn hdf fun w s₀ s₁ mg mb fa o pm cd doc a vs ns G Y ho hd hcd hmg hobj hints hlen hbits hg => ?_
  have KX := hY w _ Y
  have own : ∀ y ∈ xs, ∀ c P, PySem.W.tabIn (K w.params) y = some (c, P) → PySem.W.CodeHd s₁.heap c P ∧ s₁.heap.get? P = some { cls := .none, data := .fields #[] } := fun y hy c P ht => by
    obtain ⟨dd, hdd⟩ := Option.isSome_iff_exists.mp (hrec y hy)
    exact PySem.W.tab_of G.T KX hdd ht
  obtain ⟨fd, cs, sp, hT, nT, C, hb, hsp, hF⟩ := F w mg fa _ Y KX G.T.g hmg own
  exact law_callTs KX G.T.g G.T.b G.T.builtins G.T.nolimit hg hT nT C G.T.bmain hobj hints (Nat.le_trans hlen hn2) hr hF hb (fun H hH hS => hsp H a ns hlen hbits hH hS) fun H e s' => hCX w H s₁ e s'
/-- no table stands in the fragment -/
theorem notab_look {K : PySem.W.Frag} {h : Heap} (X : K.In h) (nt : PySem.W.noTabs K = true) {P : Addr} (e : h.get? P = some { cls := .none, data := .fields #[] }) : K.lookup P = none := by
  cases q : K.lookup P with
  | none => rfl
  | some o =>
    have e2 := X _ _ q
    rw [e] at e2
    cases e2
    have h2 := List.all_eq_true.mp nt (P, _) (PySem.W.mem_of_lookupK q)
    exact absurd (show false = true from h2) Bool.false_ne_true
end Nl

namespace Nl
open PySem PySem.Spec PyProof.Rows L2 LamX NdefX
theorem nodig_base {K : PySem.W.Frag} {h base : Heap} (X : K.In h) (XB : K.In base) (nd : h.NoDigits)
    (e : PySem.W.nsIn K cStatics "sys.int_max_str_digits" = some none) : base.NoDigits := by
  obtain ⟨mc, ⟨o, es, ep, ho, r⟩, hn⟩ := nd
  refine ⟨mc, ⟨o, es, ep, ?_, r⟩, hn⟩
  unfold PySem.W.nsIn at e
  cases hk : K.lookup cStatics with
  | none =>
    rw [hk] at e
    cases e
  | some ob =>
    have h2 := X _ _ hk
    rw [ho] at h2
    cases h2
    exact XB _ _ hk
/-- the end of a law row: tables of code objects, and the limit of digits as it is at first -/
theorem walk_ofTD {l : PySem.W.OpenLaw} {n k : Nat} {q : Program} {loose : List Str}
    {XP : (Str → Option Value) → Heap → Prop} {YP : World → Heap → Prop} {d : DefRec}
    {K : Params → PySem.W.Frag} {CX : World → CXT} {x : Str} (xs : List Str)
    (hn : l.most = some n) (hn2 : n ≤ sizeLine) (hdf : d.params.defaults = []) (hr : Room k callerA)
    (hrec : ∀ y ∈ xs, ((recsOf q).find? fun e => e.name == y).isSome = true)
    (hY : ∀ (w : World) (h : Heap), YP w h → (K w.params).In h)
    (F : ∀ (w : World) (mg : Str → Option Value) (fa : Addr) (h : Heap), YP w h → (K w.params).In h →
      h.Ns mainGlobals mg → mg d.name = some (.ref fa) → h.NoDigits →
      (∀ y ∈ xs, ∀ c P, PySem.W.tabIn (K w.params) y = some (c, P) →
        PySem.W.CodeHd h c P ∧ h.get? P = some { cls := .none, data := .fields #[] }) →
      LawAtS l w (K w.params) (CX w) k n x mg fa h)
    (hCX : ∀ (w : World) (H : Hp) (s : Shared) (e : Value) (s' : Shared),
      CX w [] H s (fun _ _ _ => False) e s' → False) :
    PySem.W.WalkO q loose XP YP l.row.toRowW d []
      (fun f vs => PySem.call f vs) := by
  refine Att.attach_callB hn hdf fun w s₀ s₁ mg mb fa o pm cd doc a vs ns G Y ho hd hcd hmg hobj hints hlen hbits hg => ?_
  have KX := hY w _ Y
  have own : ∀ y ∈ xs, ∀ c P, PySem.W.tabIn (K w.params) y = some (c, P) → PySem.W.CodeHd s₁.heap c P ∧ s₁.heap.get? P = some { cls := .none, data := .fields #[] } := fun y hy c P ht => by
    obtain ⟨dd, hdd⟩ := Option.isSome_iff_exists.mp (hrec y hy)
    exact PySem.W.tab_of G.T KX hdd ht
  obtain ⟨fd, cs, sp, hT, nT, C, hb, hsp, hF⟩ := F w mg fa _ Y KX G.T.g hmg G.T.nodigits own
  exact law_callTs KX G.T.g G.T.b G.T.builtins G.T.nolimit hg hT nT C G.T.bmain hobj hints
    (Nat.le_trans hlen hn2) hr hF hb (fun H hH hS => hsp H a ns hlen hbits hH hS) fun H e s' => hCX w H s₁ e s'
end Nl

namespace Nl
open PySem PySem.Spec PyProof.Rows L2
theorem all_mk {P : Program} {w : World} {K : PySem.W.Frag} {h : Heap} {mg : Str → Option Value} {fa : Addr} (X : K.In h) (G : h.Ns mainGlobals mg) (hfa : mg "law" = some (.ref fa))
    {C_Place : Addr}
    {f_kinds_behind : Addr} {od_kinds_behind an_kinds_behind : Option Addr} {sl_kinds_behind : Array (Option Value)} {oc_kinds_behind kV_kinds_behind dc_kinds_behind pm_kinds_behind cd_kinds_behind ct_kinds_behind : Value}
    {f_parts_behind : Addr} {od_parts_behind an_parts_behind : Option Addr} {sl_parts_behind : Array (Option Value)} {oc_parts_behind kV_parts_behind dc_parts_behind pm_parts_behind cd_parts_behind ct_parts_behind : Value}
    {f_walk_parts : Addr} {od_walk_parts an_walk_parts : Option Addr} {sl_walk_parts : Array (Option Value)} {oc_walk_parts kV_walk_parts dc_walk_parts pm_walk_parts cd_walk_parts ct_walk_parts : Value}
    {f_check_contract : Addr} {od_check_contract an_check_contract : Option Addr} {sl_check_contract : Array (Option Value)} {oc_check_contract kV_check_contract dc_check_contract pm_check_contract cd_check_contract ct_check_contract : Value}
    {f_check_numbers : Addr} {od_check_numbers an_check_numbers : Option Addr} {sl_check_numbers : Array (Option Value)} {oc_check_numbers kV_check_numbers dc_check_numbers pm_check_numbers cd_check_numbers ct_check_numbers : Value}
    {f_fraction : Addr} {od_fraction an_fraction : Option Addr} {sl_fraction : Array (Option Value)} {oc_fraction kV_fraction dc_fraction pm_fraction cd_fraction ct_fraction : Value}
    {f_plus : Addr} {od_plus an_plus : Option Addr} {sl_plus : Array (Option Value)} {oc_plus kV_plus dc_plus pm_plus cd_plus ct_plus : Value}
    {f_minus : Addr} {od_minus an_minus : Option Addr} {sl_minus : Array (Option Value)} {oc_minus kV_minus dc_minus pm_minus cd_minus ct_minus : Value}
    {f_times : Addr} {od_times an_times : Option Addr} {sl_times : Array (Option Value)} {oc_times kV_times dc_times pm_times cd_times ct_times : Value}
    {f_compare : Addr} {od_compare an_compare : Option Addr} {sl_compare : Array (Option Value)} {oc_compare kV_compare dc_compare pm_compare cd_compare ct_compare : Value}
    {f_added : Addr} {od_added an_added : Option Addr} {sl_added : Array (Option Value)} {oc_added kV_added dc_added pm_added cd_added ct_added : Value}
    {f_multiplied : Addr} {od_multiplied an_multiplied : Option Addr} {sl_multiplied : Array (Option Value)} {oc_multiplied kV_multiplied dc_multiplied pm_multiplied cd_multiplied ct_multiplied : Value}
    {f_check_market : Addr} {od_check_market an_check_market : Option Addr} {sl_check_market : Array (Option Value)} {oc_check_market kV_check_market dc_check_market pm_check_market cd_check_market ct_check_market : Value}
    {f__check_prices : Addr} {od__check_prices an__check_prices : Option Addr} {sl__check_prices : Array (Option Value)} {oc__check_prices kV__check_prices dc__check_prices pm__check_prices cd__check_prices ct__check_prices : Value}
    {f_walk : Addr} {od_walk an_walk : Option Addr} {sl_walk : Array (Option Value)} {oc_walk kV_walk dc_walk pm_walk cd_walk ct_walk : Value}
    {f__worked_out : Addr} {od__worked_out an__worked_out : Option Addr} {sl__worked_out : Array (Option Value)} {oc__worked_out kV__worked_out dc__worked_out pm__worked_out cd__worked_out ct__worked_out : Value}
    {f__price : Addr} {od__price an__price : Option Addr} {sl__price : Array (Option Value)} {oc__price kV__price dc__price pm__price cd__price ct__price : Value}
    {f__joined : Addr} {od__joined an__joined : Option Addr} {sl__joined : Array (Option Value)} {oc__joined kV__joined dc__joined pm__joined cd__joined ct__joined : Value}
    {f_face : Addr} {od_face an_face : Option Addr} {sl_face : Array (Option Value)} {oc_face kV_face dc_face pm_face cd_face ct_face : Value}
    {f__idle : Addr} {od__idle an__idle : Option Addr} {sl__idle : Array (Option Value)} {oc__idle kV__idle dc__idle pm__idle cd__idle ct__idle : Value}
    {f__face_nothing : Addr} {od__face_nothing an__face_nothing : Option Addr} {sl__face_nothing : Array (Option Value)} {oc__face_nothing kV__face_nothing dc__face_nothing pm__face_nothing cd__face_nothing ct__face_nothing : Value}
    {f__face_one : Addr} {od__face_one an__face_one : Option Addr} {sl__face_one : Array (Option Value)} {oc__face_one kV__face_one dc__face_one pm__face_one cd__face_one ct__face_one : Value}
    {f__face_scale : Addr} {od__face_scale an__face_scale : Option Addr} {sl__face_scale : Array (Option Value)} {oc__face_scale kV__face_scale dc__face_scale pm__face_scale cd__face_scale ct__face_scale : Value}
    {f__face_both : Addr} {od__face_both an__face_both : Option Addr} {sl__face_both : Array (Option Value)} {oc__face_both kV__face_both dc__face_both pm__face_both cd__face_both ct__face_both : Value}
    {f__face_give : Addr} {od__face_give an__face_give : Option Addr} {sl__face_give : Array (Option Value)} {oc__face_give kV__face_give dc__face_give pm__face_give cd__face_give ct__face_give : Value}
    {f__face_or : Addr} {od__face_or an__face_or : Option Addr} {sl__face_or : Array (Option Value)} {oc__face_or kV__face_or dc__face_or pm__face_or cd__face_or ct__face_or : Value}
    {f__face_at : Addr} {od__face_at an__face_at : Option Addr} {sl__face_at : Array (Option Value)} {oc__face_at kV__face_at dc__face_at pm__face_at cd__face_at ct__face_at : Value}
    {f__face_when : Addr} {od__face_when an__face_when : Option Addr} {sl__face_when : Array (Option Value)} {oc__face_when kV__face_when dc__face_when pm__face_when cd__face_when ct__face_when : Value}
    {f__face_until : Addr} {od__face_until an__face_until : Option Addr} {sl__face_until : Array (Option Value)} {oc__face_until kV__face_until dc__face_until pm__face_until cd__face_until ct__face_until : Value}
    {f__face_early : Addr} {od__face_early an__face_early : Option Addr} {sl__face_early : Array (Option Value)} {oc__face_early kV__face_early dc__face_early pm__face_early cd__face_early ct__face_early : Value}
    {f__face_later : Addr} {od__face_later an__face_later : Option Addr} {sl__face_later : Array (Option Value)} {oc__face_later kV__face_later dc__face_later pm__face_later cd__face_later ct__face_later : Value}
    {f_Place_init : Addr} {od_Place_init an_Place_init : Option Addr} {sl_Place_init : Array (Option Value)} {oc_Place_init kV_Place_init dc_Place_init pm_Place_init cd_Place_init ct_Place_init : Value}
    {f_Place_is_whole : Addr} {od_Place_is_whole an_Place_is_whole : Option Addr} {sl_Place_is_whole : Array (Option Value)} {oc_Place_is_whole kV_Place_is_whole dc_Place_is_whole pm_Place_is_whole cd_Place_is_whole ct_Place_is_whole : Value}
    {f_Place_next_place : Addr} {od_Place_next_place an_Place_next_place : Option Addr} {sl_Place_next_place : Array (Option Value)} {oc_Place_next_place kV_Place_next_place dc_Place_next_place pm_Place_next_place cd_Place_next_place ct_Place_next_place : Value}
    {f_Place_look_ahead : Addr} {od_Place_look_ahead an_Place_look_ahead : Option Addr} {sl_Place_look_ahead : Array (Option Value)} {oc_Place_look_ahead kV_Place_look_ahead dc_Place_look_ahead pm_Place_look_ahead cd_Place_look_ahead ct_Place_look_ahead : Value}
    {f_first_place : Addr} {od_first_place an_first_place : Option Addr} {sl_first_place : Array (Option Value)} {oc_first_place kV_first_place dc_first_place pm_first_place cd_first_place ct_first_place : Value}
    {f_all_places : Addr} {od_all_places an_all_places : Option Addr} {sl_all_places : Array (Option Value)} {oc_all_places kV_all_places dc_all_places pm_all_places cd_all_places ct_all_places : Value}
    {f_place_of : Addr} {od_place_of an_place_of : Option Addr} {sl_place_of : Array (Option Value)} {oc_place_of kV_place_of dc_place_of pm_place_of cd_place_of ct_place_of : Value}
    {f_paid : Addr} {od_paid an_paid : Option Addr} {sl_paid : Array (Option Value)} {oc_paid kV_paid dc_paid pm_paid cd_paid ct_paid : Value}
    {f__place_at : Addr} {od__place_at an__place_at : Option Addr} {sl__place_at : Array (Option Value)} {oc__place_at kV__place_at dc__place_at pm__place_at cd__place_at ct__place_at : Value}
    {f_whole_histories : Addr} {od_whole_histories an_whole_histories : Option Addr} {sl_whole_histories : Array (Option Value)} {oc_whole_histories kV_whole_histories dc_whole_histories pm_whole_histories cd_whole_histories ct_whole_histories : Value}
    {f__law_begin : Addr} {od__law_begin an__law_begin : Option Addr} {sl__law_begin : Array (Option Value)} {oc__law_begin kV__law_begin dc__law_begin pm__law_begin cd__law_begin ct__law_begin : Value}
    {f__law_take : Addr} {od__law_take an__law_take : Option Addr} {sl__law_take : Array (Option Value)} {oc__law_take kV__law_take dc__law_take pm__law_take cd__law_take ct__law_take : Value}
    {f__law_signed : Addr} {od__law_signed an__law_signed : Option Addr} {sl__law_signed : Array (Option Value)} {oc__law_signed kV__law_signed dc__law_signed pm__law_signed cd__law_signed ct__law_signed : Value}
    {f__law_gcd : Addr} {od__law_gcd an__law_gcd : Option Addr} {sl__law_gcd : Array (Option Value)} {oc__law_gcd kV__law_gcd dc__law_gcd pm__law_gcd cd__law_gcd ct__law_gcd : Value}
    {f__law_f : Addr} {od__law_f an__law_f : Option Addr} {sl__law_f : Array (Option Value)} {oc__law_f kV__law_f dc__law_f pm__law_f cd__law_f ct__law_f : Value}
    {f__law_plus : Addr} {od__law_plus an__law_plus : Option Addr} {sl__law_plus : Array (Option Value)} {oc__law_plus kV__law_plus dc__law_plus pm__law_plus cd__law_plus ct__law_plus : Value}
    {f__law_minus : Addr} {od__law_minus an__law_minus : Option Addr} {sl__law_minus : Array (Option Value)} {oc__law_minus kV__law_minus dc__law_minus pm__law_minus cd__law_minus ct__law_minus : Value}
    {f__law_times : Addr} {od__law_times an__law_times : Option Addr} {sl__law_times : Array (Option Value)} {oc__law_times kV__law_times dc__law_times pm__law_times cd__law_times ct__law_times : Value}
    {f__law_less : Addr} {od__law_less an__law_less : Option Addr} {sl__law_less : Array (Option Value)} {oc__law_less kV__law_less dc__law_less pm__law_less cd__law_less ct__law_less : Value}
    {f__law_min : Addr} {od__law_min an__law_min : Option Addr} {sl__law_min : Array (Option Value)} {oc__law_min kV__law_min dc__law_min pm__law_min cd__law_min ct__law_min : Value}
    {f__law_max : Addr} {od__law_max an__law_max : Option Addr} {sl__law_max : Array (Option Value)} {oc__law_max kV__law_max dc__law_max pm__law_max cd__law_max ct__law_max : Value}
    {f__law_part : Addr} {od__law_part an__law_part : Option Addr} {sl__law_part : Array (Option Value)} {oc__law_part kV__law_part dc__law_part pm__law_part cd__law_part ct__law_part : Value}
    {f__law_spread : Addr} {od__law_spread an__law_spread : Option Addr} {sl__law_spread : Array (Option Value)} {oc__law_spread kV__law_spread dc__law_spread pm__law_spread cd__law_spread ct__law_spread : Value}
    {f__law_node : Addr} {od__law_node an__law_node : Option Addr} {sl__law_node : Array (Option Value)} {oc__law_node kV__law_node dc__law_node pm__law_node cd__law_node ct__law_node : Value}
    {f__law_market : Addr} {od__law_market an__law_market : Option Addr} {sl__law_market : Array (Option Value)} {oc__law_market kV__law_market dc__law_market pm__law_market cd__law_market ct__law_market : Value}
    {f__law_find : Addr} {od__law_find an__law_find : Option Addr} {sl__law_find : Array (Option Value)} {oc__law_find kV__law_find dc__law_find pm__law_find cd__law_find ct__law_find : Value}
    {f__law_prices : Addr} {od__law_prices an__law_prices : Option Addr} {sl__law_prices : Array (Option Value)} {oc__law_prices kV__law_prices dc__law_prices pm__law_prices cd__law_prices ct__law_prices : Value}
    {f__law_number : Addr} {od__law_number an__law_number : Option Addr} {sl__law_number : Array (Option Value)} {oc__law_number kV__law_number dc__law_number pm__law_number cd__law_number ct__law_number : Value}
    {f__law_value : Addr} {od__law_value an__law_value : Option Addr} {sl__law_value : Array (Option Value)} {oc__law_value kV__law_value dc__law_value pm__law_value cd__law_value ct__law_value : Value}
    {f__law_condition : Addr} {od__law_condition an__law_condition : Option Addr} {sl__law_condition : Array (Option Value)} {oc__law_condition kV__law_condition dc__law_condition pm__law_condition cd__law_condition ct__law_condition : Value}
    {f__law_contract : Addr} {od__law_contract an__law_contract : Option Addr} {sl__law_contract : Array (Option Value)} {oc__law_contract kV__law_contract dc__law_contract pm__law_contract cd__law_contract ct__law_contract : Value}
    {f__law_parts : Addr} {od__law_parts an__law_parts : Option Addr} {sl__law_parts : Array (Option Value)} {oc__law_parts kV__law_parts dc__law_parts pm__law_parts cd__law_parts ct__law_parts : Value}
    {f__law_worth : Addr} {od__law_worth an__law_worth : Option Addr} {sl__law_worth : Array (Option Value)} {oc__law_worth kV__law_worth dc__law_worth pm__law_worth cd__law_worth ct__law_worth : Value}
    {f__law_so : Addr} {od__law_so an__law_so : Option Addr} {sl__law_so : Array (Option Value)} {oc__law_so kV__law_so dc__law_so pm__law_so cd__law_so ct__law_so : Value}
    {f__law_into : Addr} {od__law_into an__law_into : Option Addr} {sl__law_into : Array (Option Value)} {oc__law_into kV__law_into dc__law_into pm__law_into cd__law_into ct__law_into : Value}
    {f__law_idle : Addr} {od__law_idle an__law_idle : Option Addr} {sl__law_idle : Array (Option Value)} {oc__law_idle kV__law_idle dc__law_idle pm__law_idle cd__law_idle ct__law_idle : Value}
    {f__law_faced : Addr} {od__law_faced an__law_faced : Option Addr} {sl__law_faced : Array (Option Value)} {oc__law_faced kV__law_faced dc__law_faced pm__law_faced cd__law_faced ct__law_faced : Value}
    {f__law_branches : Addr} {od__law_branches an__law_branches : Option Addr} {sl__law_branches : Array (Option Value)} {oc__law_branches kV__law_branches dc__law_branches pm__law_branches cd__law_branches ct__law_branches : Value}
    {f__law_all : Addr} {od__law_all an__law_all : Option Addr} {sl__law_all : Array (Option Value)} {oc__law_all kV__law_all dc__law_all pm__law_all cd__law_all ct__law_all : Value}
    {f__law_whole : Addr} {od__law_whole an__law_whole : Option Addr} {sl__law_whole : Array (Option Value)} {oc__law_whole kV__law_whole dc__law_whole pm__law_whole cd__law_whole ct__law_whole : Value}
    {f__law_told : Addr} {od__law_told an__law_told : Option Addr} {sl__law_told : Array (Option Value)} {oc__law_told kV__law_told dc__law_told pm__law_told cd__law_told ct__law_told : Value}
    {f_law : Addr} {od_law an_law : Option Addr} {sl_law : Array (Option Value)} {oc_law kV_law dc_law pm_law cd_law ct_law : Value}
    {tk_PART_LIMIT : Tok}
    {tk_DEPTH_LIMIT : Tok}
    {tk_GOODS_LIMIT : Tok}
    {tk_MOMENT_LIMIT : Tok}
    {tk_TIME_LIMIT : Tok}
    {tk_HISTORY_LIMIT : Tok}
    {A_VALUES : Addr}
    {t_VALUES_number : Addr}
    {t_VALUES_buy : Addr}
    {t_VALUES_sell : Addr}
    {t_VALUES_plus : Addr}
    {t_VALUES_minus : Addr}
    {t_VALUES_times : Addr}
    {t_VALUES_least : Addr}
    {t_VALUES_greatest : Addr}
    {A_CONDITIONS : Addr}
    {t_CONDITIONS_less : Addr}
    {t_CONDITIONS_same : Addr}
    {t_CONDITIONS_not : Addr}
    {t_CONDITIONS_and : Addr}
    {A_CONTRACTS : Addr}
    {t_CONTRACTS_nothing : Addr}
    {t_CONTRACTS_one : Addr}
    {t_CONTRACTS_scale : Addr}
    {t_CONTRACTS_both : Addr}
    {t_CONTRACTS_give : Addr}
    {t_CONTRACTS_or : Addr}
    {t_CONTRACTS_at : Addr}
    {t_CONTRACTS_when : Addr}
    {t_CONTRACTS_until : Addr}
    {t_CONTRACTS_early : Addr}
    {t_CONTRACTS_later : Addr}
    {A_STEPS : Addr}
    {C_MarketplaceError : Addr}
    {C_ZeroDenominator : Addr}
    {C_MarketError : Addr}
    {C_TooLarge : Addr}
    {C_ContractError : Addr}
    {C_HistoryError : Addr}
    (ca_Place : PySem.W.nsIn K mainGlobals "Place" = some (some (.ref C_Place))) (pg_Place : PySem.W.plainGet K C_Place Str.empty = true) (hd_Place : PySem.W.hasDictIn K C_Place = true) (po_Place : PySem.W.plainOver K C_Place = true) (sa_Place : PySem.W.findIn K (.ref C_Place) "__setattr__" = some (some (.builtin "object.__setattr__"))) (mk_Place : PySem.W.makesIn K C_Place = true) (kc_Place : PySem.W.keepIn K (.ref C_Place) = true)
    (na_Place_history : PySem.W.findIn K (.ref C_Place) "history" = some none)
    (na_Place_path : PySem.W.findIn K (.ref C_Place) "path" = some none)
    (na_Place_node : PySem.W.findIn K (.ref C_Place) "node" = some none)
    (na_Place_contract : PySem.W.findIn K (.ref C_Place) "contract" = some none)
    (na_Place_side : PySem.W.findIn K (.ref C_Place) "side" = some none)
    (na_Place_amounts : PySem.W.findIn K (.ref C_Place) "amounts" = some none)
    (na_Place_given : PySem.W.findIn K (.ref C_Place) "given" = some none)
    (na_Place_left : PySem.W.findIn K (.ref C_Place) "left" = some none)
    (na_Place_branches : PySem.W.findIn K (.ref C_Place) "branches" = some none)
    (a_kinds_behind : PySem.W.nsIn K mainGlobals "kinds_behind" = some (some (.ref f_kinds_behind))) (l_kinds_behind : K.lookup f_kinds_behind = some ⟨oc_kinds_behind, od_kinds_behind, .func (PySem.W.fnOf "kinds_behind" "kinds_behind" (defArgs s_kinds_behind) (defBody s_kinds_behind) (defScope s_kinds_behind) .none kV_kinds_behind dc_kinds_behind pm_kinds_behind an_kinds_behind cd_kinds_behind ct_kinds_behind), sl_kinds_behind⟩) (c_kinds_behind : PySem.W.codeIn K cd_kinds_behind "kinds_behind" = true) (k_kinds_behind : PySem.W.keepIn K (.ref f_kinds_behind) = true)
    (a_parts_behind : PySem.W.nsIn K mainGlobals "parts_behind" = some (some (.ref f_parts_behind))) (l_parts_behind : K.lookup f_parts_behind = some ⟨oc_parts_behind, od_parts_behind, .func (PySem.W.fnOf "parts_behind" "parts_behind" (defArgs s_parts_behind) (defBody s_parts_behind) (defScope s_parts_behind) .none kV_parts_behind dc_parts_behind pm_parts_behind an_parts_behind cd_parts_behind ct_parts_behind), sl_parts_behind⟩) (c_parts_behind : PySem.W.codeIn K cd_parts_behind "parts_behind" = true) (k_parts_behind : PySem.W.keepIn K (.ref f_parts_behind) = true)
    (a_walk_parts : PySem.W.nsIn K mainGlobals "walk_parts" = some (some (.ref f_walk_parts))) (l_walk_parts : K.lookup f_walk_parts = some ⟨oc_walk_parts, od_walk_parts, .func (PySem.W.fnOf "walk_parts" "walk_parts" (defArgs s_walk_parts) (defBody s_walk_parts) (defScope s_walk_parts) .none kV_walk_parts dc_walk_parts pm_walk_parts an_walk_parts cd_walk_parts ct_walk_parts), sl_walk_parts⟩) (c_walk_parts : PySem.W.codeIn K cd_walk_parts "walk_parts" = true) (k_walk_parts : PySem.W.keepIn K (.ref f_walk_parts) = true)
    (a_check_contract : PySem.W.nsIn K mainGlobals "check_contract" = some (some (.ref f_check_contract))) (l_check_contract : K.lookup f_check_contract = some ⟨oc_check_contract, od_check_contract, .func (PySem.W.fnOf "check_contract" "check_contract" (defArgs s_check_contract) (defBody s_check_contract) (defScope s_check_contract) .none kV_check_contract dc_check_contract pm_check_contract an_check_contract cd_check_contract ct_check_contract), sl_check_contract⟩) (c_check_contract : PySem.W.codeIn K cd_check_contract "check_contract" = true) (k_check_contract : PySem.W.keepIn K (.ref f_check_contract) = true)
    (a_check_numbers : PySem.W.nsIn K mainGlobals "check_numbers" = some (some (.ref f_check_numbers))) (l_check_numbers : K.lookup f_check_numbers = some ⟨oc_check_numbers, od_check_numbers, .func (PySem.W.fnOf "check_numbers" "check_numbers" (defArgs s_check_numbers) (defBody s_check_numbers) (defScope s_check_numbers) .none kV_check_numbers dc_check_numbers pm_check_numbers an_check_numbers cd_check_numbers ct_check_numbers), sl_check_numbers⟩) (c_check_numbers : PySem.W.codeIn K cd_check_numbers "check_numbers" = true) (k_check_numbers : PySem.W.keepIn K (.ref f_check_numbers) = true)
    (a_fraction : PySem.W.nsIn K mainGlobals "fraction" = some (some (.ref f_fraction))) (l_fraction : K.lookup f_fraction = some ⟨oc_fraction, od_fraction, .func (PySem.W.fnOf "fraction" "fraction" (defArgs s_fraction) (defBody s_fraction) (defScope s_fraction) .none kV_fraction dc_fraction pm_fraction an_fraction cd_fraction ct_fraction), sl_fraction⟩) (c_fraction : PySem.W.codeIn K cd_fraction "fraction" = true) (k_fraction : PySem.W.keepIn K (.ref f_fraction) = true)
    (a_plus : PySem.W.nsIn K mainGlobals "plus" = some (some (.ref f_plus))) (l_plus : K.lookup f_plus = some ⟨oc_plus, od_plus, .func (PySem.W.fnOf "plus" "plus" (defArgs s_plus) (defBody s_plus) (defScope s_plus) .none kV_plus dc_plus pm_plus an_plus cd_plus ct_plus), sl_plus⟩) (c_plus : PySem.W.codeIn K cd_plus "plus" = true) (k_plus : PySem.W.keepIn K (.ref f_plus) = true)
    (a_minus : PySem.W.nsIn K mainGlobals "minus" = some (some (.ref f_minus))) (l_minus : K.lookup f_minus = some ⟨oc_minus, od_minus, .func (PySem.W.fnOf "minus" "minus" (defArgs s_minus) (defBody s_minus) (defScope s_minus) .none kV_minus dc_minus pm_minus an_minus cd_minus ct_minus), sl_minus⟩) (c_minus : PySem.W.codeIn K cd_minus "minus" = true) (k_minus : PySem.W.keepIn K (.ref f_minus) = true)
    (a_times : PySem.W.nsIn K mainGlobals "times" = some (some (.ref f_times))) (l_times : K.lookup f_times = some ⟨oc_times, od_times, .func (PySem.W.fnOf "times" "times" (defArgs s_times) (defBody s_times) (defScope s_times) .none kV_times dc_times pm_times an_times cd_times ct_times), sl_times⟩) (c_times : PySem.W.codeIn K cd_times "times" = true) (k_times : PySem.W.keepIn K (.ref f_times) = true)
    (a_compare : PySem.W.nsIn K mainGlobals "compare" = some (some (.ref f_compare))) (l_compare : K.lookup f_compare = some ⟨oc_compare, od_compare, .func (PySem.W.fnOf "compare" "compare" (defArgs s_compare) (defBody s_compare) (defScope s_compare) .none kV_compare dc_compare pm_compare an_compare cd_compare ct_compare), sl_compare⟩) (c_compare : PySem.W.codeIn K cd_compare "compare" = true) (k_compare : PySem.W.keepIn K (.ref f_compare) = true)
    (a_added : PySem.W.nsIn K mainGlobals "added" = some (some (.ref f_added))) (l_added : K.lookup f_added = some ⟨oc_added, od_added, .func (PySem.W.fnOf "added" "added" (defArgs s_added) (defBody s_added) (defScope s_added) .none kV_added dc_added pm_added an_added cd_added ct_added), sl_added⟩) (c_added : PySem.W.codeIn K cd_added "added" = true) (k_added : PySem.W.keepIn K (.ref f_added) = true)
    (a_multiplied : PySem.W.nsIn K mainGlobals "multiplied" = some (some (.ref f_multiplied))) (l_multiplied : K.lookup f_multiplied = some ⟨oc_multiplied, od_multiplied, .func (PySem.W.fnOf "multiplied" "multiplied" (defArgs s_multiplied) (defBody s_multiplied) (defScope s_multiplied) .none kV_multiplied dc_multiplied pm_multiplied an_multiplied cd_multiplied ct_multiplied), sl_multiplied⟩) (c_multiplied : PySem.W.codeIn K cd_multiplied "multiplied" = true) (k_multiplied : PySem.W.keepIn K (.ref f_multiplied) = true)
    (a_check_market : PySem.W.nsIn K mainGlobals "check_market" = some (some (.ref f_check_market))) (l_check_market : K.lookup f_check_market = some ⟨oc_check_market, od_check_market, .func (PySem.W.fnOf "check_market" "check_market" (defArgs s_check_market) (defBody s_check_market) (defScope s_check_market) .none kV_check_market dc_check_market pm_check_market an_check_market cd_check_market ct_check_market), sl_check_market⟩) (c_check_market : PySem.W.codeIn K cd_check_market "check_market" = true) (k_check_market : PySem.W.keepIn K (.ref f_check_market) = true)
    (a__check_prices : PySem.W.nsIn K mainGlobals "_check_prices" = some (some (.ref f__check_prices))) (l__check_prices : K.lookup f__check_prices = some ⟨oc__check_prices, od__check_prices, .func (PySem.W.fnOf "_check_prices" "_check_prices" (defArgs s__check_prices) (defBody s__check_prices) (defScope s__check_prices) .none kV__check_prices dc__check_prices pm__check_prices an__check_prices cd__check_prices ct__check_prices), sl__check_prices⟩) (c__check_prices : PySem.W.codeIn K cd__check_prices "_check_prices" = true) (k__check_prices : PySem.W.keepIn K (.ref f__check_prices) = true)
    (a_walk : PySem.W.nsIn K mainGlobals "walk" = some (some (.ref f_walk))) (l_walk : K.lookup f_walk = some ⟨oc_walk, od_walk, .func (PySem.W.fnOf "walk" "walk" (defArgs s_walk) (defBody s_walk) (defScope s_walk) .none kV_walk dc_walk pm_walk an_walk cd_walk ct_walk), sl_walk⟩) (c_walk : PySem.W.codeIn K cd_walk "walk" = true) (k_walk : PySem.W.keepIn K (.ref f_walk) = true)
    (a__worked_out : PySem.W.nsIn K mainGlobals "_worked_out" = some (some (.ref f__worked_out))) (l__worked_out : K.lookup f__worked_out = some ⟨oc__worked_out, od__worked_out, .func (PySem.W.fnOf "_worked_out" "_worked_out" (defArgs s__worked_out) (defBody s__worked_out) (defScope s__worked_out) .none kV__worked_out dc__worked_out pm__worked_out an__worked_out cd__worked_out ct__worked_out), sl__worked_out⟩) (c__worked_out : PySem.W.codeIn K cd__worked_out "_worked_out" = true) (k__worked_out : PySem.W.keepIn K (.ref f__worked_out) = true)
    (a__price : PySem.W.nsIn K mainGlobals "_price" = some (some (.ref f__price))) (l__price : K.lookup f__price = some ⟨oc__price, od__price, .func (PySem.W.fnOf "_price" "_price" (defArgs s__price) (defBody s__price) (defScope s__price) .none kV__price dc__price pm__price an__price cd__price ct__price), sl__price⟩) (c__price : PySem.W.codeIn K cd__price "_price" = true) (k__price : PySem.W.keepIn K (.ref f__price) = true)
    (a__joined : PySem.W.nsIn K mainGlobals "_joined" = some (some (.ref f__joined))) (l__joined : K.lookup f__joined = some ⟨oc__joined, od__joined, .func (PySem.W.fnOf "_joined" "_joined" (defArgs s__joined) (defBody s__joined) (defScope s__joined) .none kV__joined dc__joined pm__joined an__joined cd__joined ct__joined), sl__joined⟩) (c__joined : PySem.W.codeIn K cd__joined "_joined" = true) (k__joined : PySem.W.keepIn K (.ref f__joined) = true)
    (a_face : PySem.W.nsIn K mainGlobals "face" = some (some (.ref f_face))) (l_face : K.lookup f_face = some ⟨oc_face, od_face, .func (PySem.W.fnOf "face" "face" (defArgs s_face) (defBody s_face) (defScope s_face) .none kV_face dc_face pm_face an_face cd_face ct_face), sl_face⟩) (c_face : PySem.W.codeIn K cd_face "face" = true) (k_face : PySem.W.keepIn K (.ref f_face) = true)
    (a__idle : PySem.W.nsIn K mainGlobals "_idle" = some (some (.ref f__idle))) (l__idle : K.lookup f__idle = some ⟨oc__idle, od__idle, .func (PySem.W.fnOf "_idle" "_idle" (defArgs s__idle) (defBody s__idle) (defScope s__idle) .none kV__idle dc__idle pm__idle an__idle cd__idle ct__idle), sl__idle⟩) (c__idle : PySem.W.codeIn K cd__idle "_idle" = true) (k__idle : PySem.W.keepIn K (.ref f__idle) = true)
    (a__face_nothing : PySem.W.nsIn K mainGlobals "_face_nothing" = some (some (.ref f__face_nothing))) (l__face_nothing : K.lookup f__face_nothing = some ⟨oc__face_nothing, od__face_nothing, .func (PySem.W.fnOf "_face_nothing" "_face_nothing" (defArgs s__face_nothing) (defBody s__face_nothing) (defScope s__face_nothing) .none kV__face_nothing dc__face_nothing pm__face_nothing an__face_nothing cd__face_nothing ct__face_nothing), sl__face_nothing⟩) (c__face_nothing : PySem.W.codeIn K cd__face_nothing "_face_nothing" = true) (k__face_nothing : PySem.W.keepIn K (.ref f__face_nothing) = true)
    (a__face_one : PySem.W.nsIn K mainGlobals "_face_one" = some (some (.ref f__face_one))) (l__face_one : K.lookup f__face_one = some ⟨oc__face_one, od__face_one, .func (PySem.W.fnOf "_face_one" "_face_one" (defArgs s__face_one) (defBody s__face_one) (defScope s__face_one) .none kV__face_one dc__face_one pm__face_one an__face_one cd__face_one ct__face_one), sl__face_one⟩) (c__face_one : PySem.W.codeIn K cd__face_one "_face_one" = true) (k__face_one : PySem.W.keepIn K (.ref f__face_one) = true)
    (a__face_scale : PySem.W.nsIn K mainGlobals "_face_scale" = some (some (.ref f__face_scale))) (l__face_scale : K.lookup f__face_scale = some ⟨oc__face_scale, od__face_scale, .func (PySem.W.fnOf "_face_scale" "_face_scale" (defArgs s__face_scale) (defBody s__face_scale) (defScope s__face_scale) .none kV__face_scale dc__face_scale pm__face_scale an__face_scale cd__face_scale ct__face_scale), sl__face_scale⟩) (c__face_scale : PySem.W.codeIn K cd__face_scale "_face_scale" = true) (k__face_scale : PySem.W.keepIn K (.ref f__face_scale) = true)
    (a__face_both : PySem.W.nsIn K mainGlobals "_face_both" = some (some (.ref f__face_both))) (l__face_both : K.lookup f__face_both = some ⟨oc__face_both, od__face_both, .func (PySem.W.fnOf "_face_both" "_face_both" (defArgs s__face_both) (defBody s__face_both) (defScope s__face_both) .none kV__face_both dc__face_both pm__face_both an__face_both cd__face_both ct__face_both), sl__face_both⟩) (c__face_both : PySem.W.codeIn K cd__face_both "_face_both" = true) (k__face_both : PySem.W.keepIn K (.ref f__face_both) = true)
    (a__face_give : PySem.W.nsIn K mainGlobals "_face_give" = some (some (.ref f__face_give))) (l__face_give : K.lookup f__face_give = some ⟨oc__face_give, od__face_give, .func (PySem.W.fnOf "_face_give" "_face_give" (defArgs s__face_give) (defBody s__face_give) (defScope s__face_give) .none kV__face_give dc__face_give pm__face_give an__face_give cd__face_give ct__face_give), sl__face_give⟩) (c__face_give : PySem.W.codeIn K cd__face_give "_face_give" = true) (k__face_give : PySem.W.keepIn K (.ref f__face_give) = true)
    (a__face_or : PySem.W.nsIn K mainGlobals "_face_or" = some (some (.ref f__face_or))) (l__face_or : K.lookup f__face_or = some ⟨oc__face_or, od__face_or, .func (PySem.W.fnOf "_face_or" "_face_or" (defArgs s__face_or) (defBody s__face_or) (defScope s__face_or) .none kV__face_or dc__face_or pm__face_or an__face_or cd__face_or ct__face_or), sl__face_or⟩) (c__face_or : PySem.W.codeIn K cd__face_or "_face_or" = true) (k__face_or : PySem.W.keepIn K (.ref f__face_or) = true)
    (a__face_at : PySem.W.nsIn K mainGlobals "_face_at" = some (some (.ref f__face_at))) (l__face_at : K.lookup f__face_at = some ⟨oc__face_at, od__face_at, .func (PySem.W.fnOf "_face_at" "_face_at" (defArgs s__face_at) (defBody s__face_at) (defScope s__face_at) .none kV__face_at dc__face_at pm__face_at an__face_at cd__face_at ct__face_at), sl__face_at⟩) (c__face_at : PySem.W.codeIn K cd__face_at "_face_at" = true) (k__face_at : PySem.W.keepIn K (.ref f__face_at) = true)
    (a__face_when : PySem.W.nsIn K mainGlobals "_face_when" = some (some (.ref f__face_when))) (l__face_when : K.lookup f__face_when = some ⟨oc__face_when, od__face_when, .func (PySem.W.fnOf "_face_when" "_face_when" (defArgs s__face_when) (defBody s__face_when) (defScope s__face_when) .none kV__face_when dc__face_when pm__face_when an__face_when cd__face_when ct__face_when), sl__face_when⟩) (c__face_when : PySem.W.codeIn K cd__face_when "_face_when" = true) (k__face_when : PySem.W.keepIn K (.ref f__face_when) = true)
    (a__face_until : PySem.W.nsIn K mainGlobals "_face_until" = some (some (.ref f__face_until))) (l__face_until : K.lookup f__face_until = some ⟨oc__face_until, od__face_until, .func (PySem.W.fnOf "_face_until" "_face_until" (defArgs s__face_until) (defBody s__face_until) (defScope s__face_until) .none kV__face_until dc__face_until pm__face_until an__face_until cd__face_until ct__face_until), sl__face_until⟩) (c__face_until : PySem.W.codeIn K cd__face_until "_face_until" = true) (k__face_until : PySem.W.keepIn K (.ref f__face_until) = true)
    (a__face_early : PySem.W.nsIn K mainGlobals "_face_early" = some (some (.ref f__face_early))) (l__face_early : K.lookup f__face_early = some ⟨oc__face_early, od__face_early, .func (PySem.W.fnOf "_face_early" "_face_early" (defArgs s__face_early) (defBody s__face_early) (defScope s__face_early) .none kV__face_early dc__face_early pm__face_early an__face_early cd__face_early ct__face_early), sl__face_early⟩) (c__face_early : PySem.W.codeIn K cd__face_early "_face_early" = true) (k__face_early : PySem.W.keepIn K (.ref f__face_early) = true)
    (a__face_later : PySem.W.nsIn K mainGlobals "_face_later" = some (some (.ref f__face_later))) (l__face_later : K.lookup f__face_later = some ⟨oc__face_later, od__face_later, .func (PySem.W.fnOf "_face_later" "_face_later" (defArgs s__face_later) (defBody s__face_later) (defScope s__face_later) .none kV__face_later dc__face_later pm__face_later an__face_later cd__face_later ct__face_later), sl__face_later⟩) (c__face_later : PySem.W.codeIn K cd__face_later "_face_later" = true) (k__face_later : PySem.W.keepIn K (.ref f__face_later) = true)
    (a_Place_init : PySem.W.findIn K (.ref C_Place) "__init__" = some (some (.ref f_Place_init))) (i_Place_init : PySem.W.isFn K (.ref f_Place_init) = true) (l_Place_init : K.lookup f_Place_init = some ⟨oc_Place_init, od_Place_init, .func (PySem.W.fnOf "__init__" "Place.__init__" (defArgs s_Place_init) (defBody s_Place_init) (defScope s_Place_init) .none kV_Place_init dc_Place_init pm_Place_init an_Place_init cd_Place_init ct_Place_init), sl_Place_init⟩) (c_Place_init : PySem.W.codeIn K cd_Place_init "Place.__init__" = true) (k_Place_init : PySem.W.keepIn K (.ref f_Place_init) = true)
    (a_Place_is_whole : PySem.W.findIn K (.ref C_Place) "is_whole" = some (some (.ref f_Place_is_whole))) (i_Place_is_whole : PySem.W.isFn K (.ref f_Place_is_whole) = true) (l_Place_is_whole : K.lookup f_Place_is_whole = some ⟨oc_Place_is_whole, od_Place_is_whole, .func (PySem.W.fnOf "is_whole" "Place.is_whole" (defArgs s_Place_is_whole) (defBody s_Place_is_whole) (defScope s_Place_is_whole) .none kV_Place_is_whole dc_Place_is_whole pm_Place_is_whole an_Place_is_whole cd_Place_is_whole ct_Place_is_whole), sl_Place_is_whole⟩) (c_Place_is_whole : PySem.W.codeIn K cd_Place_is_whole "Place.is_whole" = true) (k_Place_is_whole : PySem.W.keepIn K (.ref f_Place_is_whole) = true)
    (a_Place_next_place : PySem.W.findIn K (.ref C_Place) "next_place" = some (some (.ref f_Place_next_place))) (i_Place_next_place : PySem.W.isFn K (.ref f_Place_next_place) = true) (l_Place_next_place : K.lookup f_Place_next_place = some ⟨oc_Place_next_place, od_Place_next_place, .func (PySem.W.fnOf "next_place" "Place.next_place" (defArgs s_Place_next_place) (defBody s_Place_next_place) (defScope s_Place_next_place) .none kV_Place_next_place dc_Place_next_place pm_Place_next_place an_Place_next_place cd_Place_next_place ct_Place_next_place), sl_Place_next_place⟩) (c_Place_next_place : PySem.W.codeIn K cd_Place_next_place "Place.next_place" = true) (k_Place_next_place : PySem.W.keepIn K (.ref f_Place_next_place) = true)
    (a_Place_look_ahead : PySem.W.findIn K (.ref C_Place) "look_ahead" = some (some (.ref f_Place_look_ahead))) (i_Place_look_ahead : PySem.W.isFn K (.ref f_Place_look_ahead) = true) (l_Place_look_ahead : K.lookup f_Place_look_ahead = some ⟨oc_Place_look_ahead, od_Place_look_ahead, .func (PySem.W.fnOf "look_ahead" "Place.look_ahead" (defArgs s_Place_look_ahead) (defBody s_Place_look_ahead) (defScope s_Place_look_ahead) .none kV_Place_look_ahead dc_Place_look_ahead pm_Place_look_ahead an_Place_look_ahead cd_Place_look_ahead ct_Place_look_ahead), sl_Place_look_ahead⟩) (c_Place_look_ahead : PySem.W.codeIn K cd_Place_look_ahead "Place.look_ahead" = true) (k_Place_look_ahead : PySem.W.keepIn K (.ref f_Place_look_ahead) = true)
    (a_first_place : PySem.W.nsIn K mainGlobals "first_place" = some (some (.ref f_first_place))) (l_first_place : K.lookup f_first_place = some ⟨oc_first_place, od_first_place, .func (PySem.W.fnOf "first_place" "first_place" (defArgs s_first_place) (defBody s_first_place) (defScope s_first_place) .none kV_first_place dc_first_place pm_first_place an_first_place cd_first_place ct_first_place), sl_first_place⟩) (c_first_place : PySem.W.codeIn K cd_first_place "first_place" = true) (k_first_place : PySem.W.keepIn K (.ref f_first_place) = true)
    (a_all_places : PySem.W.nsIn K mainGlobals "all_places" = some (some (.ref f_all_places))) (l_all_places : K.lookup f_all_places = some ⟨oc_all_places, od_all_places, .func (PySem.W.fnOf "all_places" "all_places" (defArgs s_all_places) (defBody s_all_places) (defScope s_all_places) .none kV_all_places dc_all_places pm_all_places an_all_places cd_all_places ct_all_places), sl_all_places⟩) (c_all_places : PySem.W.codeIn K cd_all_places "all_places" = true) (k_all_places : PySem.W.keepIn K (.ref f_all_places) = true)
    (a_place_of : PySem.W.nsIn K mainGlobals "place_of" = some (some (.ref f_place_of))) (l_place_of : K.lookup f_place_of = some ⟨oc_place_of, od_place_of, .func (PySem.W.fnOf "place_of" "place_of" (defArgs s_place_of) (defBody s_place_of) (defScope s_place_of) .none kV_place_of dc_place_of pm_place_of an_place_of cd_place_of ct_place_of), sl_place_of⟩) (c_place_of : PySem.W.codeIn K cd_place_of "place_of" = true) (k_place_of : PySem.W.keepIn K (.ref f_place_of) = true)
    (a_paid : PySem.W.nsIn K mainGlobals "paid" = some (some (.ref f_paid))) (l_paid : K.lookup f_paid = some ⟨oc_paid, od_paid, .func (PySem.W.fnOf "paid" "paid" (defArgs s_paid) (defBody s_paid) (defScope s_paid) .none kV_paid dc_paid pm_paid an_paid cd_paid ct_paid), sl_paid⟩) (c_paid : PySem.W.codeIn K cd_paid "paid" = true) (k_paid : PySem.W.keepIn K (.ref f_paid) = true)
    (a__place_at : PySem.W.nsIn K mainGlobals "_place_at" = some (some (.ref f__place_at))) (l__place_at : K.lookup f__place_at = some ⟨oc__place_at, od__place_at, .func (PySem.W.fnOf "_place_at" "_place_at" (defArgs s__place_at) (defBody s__place_at) (defScope s__place_at) .none kV__place_at dc__place_at pm__place_at an__place_at cd__place_at ct__place_at), sl__place_at⟩) (c__place_at : PySem.W.codeIn K cd__place_at "_place_at" = true) (k__place_at : PySem.W.keepIn K (.ref f__place_at) = true)
    (a_whole_histories : PySem.W.nsIn K mainGlobals "whole_histories" = some (some (.ref f_whole_histories))) (l_whole_histories : K.lookup f_whole_histories = some ⟨oc_whole_histories, od_whole_histories, .func (PySem.W.fnOf "whole_histories" "whole_histories" (defArgs s_whole_histories) (defBody s_whole_histories) (defScope s_whole_histories) .none kV_whole_histories dc_whole_histories pm_whole_histories an_whole_histories cd_whole_histories ct_whole_histories), sl_whole_histories⟩) (c_whole_histories : PySem.W.codeIn K cd_whole_histories "whole_histories" = true) (k_whole_histories : PySem.W.keepIn K (.ref f_whole_histories) = true)
    (a__law_begin : PySem.W.nsIn K mainGlobals "_law_begin" = some (some (.ref f__law_begin))) (l__law_begin : K.lookup f__law_begin = some ⟨oc__law_begin, od__law_begin, .func (PySem.W.fnOf "_law_begin" "_law_begin" (defArgs s__law_begin) (defBody s__law_begin) (defScope s__law_begin) .none kV__law_begin dc__law_begin pm__law_begin an__law_begin cd__law_begin ct__law_begin), sl__law_begin⟩) (c__law_begin : PySem.W.codeIn K cd__law_begin "_law_begin" = true) (k__law_begin : PySem.W.keepIn K (.ref f__law_begin) = true)
    (a__law_take : PySem.W.nsIn K mainGlobals "_law_take" = some (some (.ref f__law_take))) (l__law_take : K.lookup f__law_take = some ⟨oc__law_take, od__law_take, .func (PySem.W.fnOf "_law_take" "_law_take" (defArgs s__law_take) (defBody s__law_take) (defScope s__law_take) .none kV__law_take dc__law_take pm__law_take an__law_take cd__law_take ct__law_take), sl__law_take⟩) (c__law_take : PySem.W.codeIn K cd__law_take "_law_take" = true) (k__law_take : PySem.W.keepIn K (.ref f__law_take) = true)
    (a__law_signed : PySem.W.nsIn K mainGlobals "_law_signed" = some (some (.ref f__law_signed))) (l__law_signed : K.lookup f__law_signed = some ⟨oc__law_signed, od__law_signed, .func (PySem.W.fnOf "_law_signed" "_law_signed" (defArgs s__law_signed) (defBody s__law_signed) (defScope s__law_signed) .none kV__law_signed dc__law_signed pm__law_signed an__law_signed cd__law_signed ct__law_signed), sl__law_signed⟩) (c__law_signed : PySem.W.codeIn K cd__law_signed "_law_signed" = true) (k__law_signed : PySem.W.keepIn K (.ref f__law_signed) = true)
    (a__law_gcd : PySem.W.nsIn K mainGlobals "_law_gcd" = some (some (.ref f__law_gcd))) (l__law_gcd : K.lookup f__law_gcd = some ⟨oc__law_gcd, od__law_gcd, .func (PySem.W.fnOf "_law_gcd" "_law_gcd" (defArgs s__law_gcd) (defBody s__law_gcd) (defScope s__law_gcd) .none kV__law_gcd dc__law_gcd pm__law_gcd an__law_gcd cd__law_gcd ct__law_gcd), sl__law_gcd⟩) (c__law_gcd : PySem.W.codeIn K cd__law_gcd "_law_gcd" = true) (k__law_gcd : PySem.W.keepIn K (.ref f__law_gcd) = true)
    (a__law_f : PySem.W.nsIn K mainGlobals "_law_f" = some (some (.ref f__law_f))) (l__law_f : K.lookup f__law_f = some ⟨oc__law_f, od__law_f, .func (PySem.W.fnOf "_law_f" "_law_f" (defArgs s__law_f) (defBody s__law_f) (defScope s__law_f) .none kV__law_f dc__law_f pm__law_f an__law_f cd__law_f ct__law_f), sl__law_f⟩) (c__law_f : PySem.W.codeIn K cd__law_f "_law_f" = true) (k__law_f : PySem.W.keepIn K (.ref f__law_f) = true)
    (a__law_plus : PySem.W.nsIn K mainGlobals "_law_plus" = some (some (.ref f__law_plus))) (l__law_plus : K.lookup f__law_plus = some ⟨oc__law_plus, od__law_plus, .func (PySem.W.fnOf "_law_plus" "_law_plus" (defArgs s__law_plus) (defBody s__law_plus) (defScope s__law_plus) .none kV__law_plus dc__law_plus pm__law_plus an__law_plus cd__law_plus ct__law_plus), sl__law_plus⟩) (c__law_plus : PySem.W.codeIn K cd__law_plus "_law_plus" = true) (k__law_plus : PySem.W.keepIn K (.ref f__law_plus) = true)
    (a__law_minus : PySem.W.nsIn K mainGlobals "_law_minus" = some (some (.ref f__law_minus))) (l__law_minus : K.lookup f__law_minus = some ⟨oc__law_minus, od__law_minus, .func (PySem.W.fnOf "_law_minus" "_law_minus" (defArgs s__law_minus) (defBody s__law_minus) (defScope s__law_minus) .none kV__law_minus dc__law_minus pm__law_minus an__law_minus cd__law_minus ct__law_minus), sl__law_minus⟩) (c__law_minus : PySem.W.codeIn K cd__law_minus "_law_minus" = true) (k__law_minus : PySem.W.keepIn K (.ref f__law_minus) = true)
    (a__law_times : PySem.W.nsIn K mainGlobals "_law_times" = some (some (.ref f__law_times))) (l__law_times : K.lookup f__law_times = some ⟨oc__law_times, od__law_times, .func (PySem.W.fnOf "_law_times" "_law_times" (defArgs s__law_times) (defBody s__law_times) (defScope s__law_times) .none kV__law_times dc__law_times pm__law_times an__law_times cd__law_times ct__law_times), sl__law_times⟩) (c__law_times : PySem.W.codeIn K cd__law_times "_law_times" = true) (k__law_times : PySem.W.keepIn K (.ref f__law_times) = true)
    (a__law_less : PySem.W.nsIn K mainGlobals "_law_less" = some (some (.ref f__law_less))) (l__law_less : K.lookup f__law_less = some ⟨oc__law_less, od__law_less, .func (PySem.W.fnOf "_law_less" "_law_less" (defArgs s__law_less) (defBody s__law_less) (defScope s__law_less) .none kV__law_less dc__law_less pm__law_less an__law_less cd__law_less ct__law_less), sl__law_less⟩) (c__law_less : PySem.W.codeIn K cd__law_less "_law_less" = true) (k__law_less : PySem.W.keepIn K (.ref f__law_less) = true)
    (a__law_min : PySem.W.nsIn K mainGlobals "_law_min" = some (some (.ref f__law_min))) (l__law_min : K.lookup f__law_min = some ⟨oc__law_min, od__law_min, .func (PySem.W.fnOf "_law_min" "_law_min" (defArgs s__law_min) (defBody s__law_min) (defScope s__law_min) .none kV__law_min dc__law_min pm__law_min an__law_min cd__law_min ct__law_min), sl__law_min⟩) (c__law_min : PySem.W.codeIn K cd__law_min "_law_min" = true) (k__law_min : PySem.W.keepIn K (.ref f__law_min) = true)
    (a__law_max : PySem.W.nsIn K mainGlobals "_law_max" = some (some (.ref f__law_max))) (l__law_max : K.lookup f__law_max = some ⟨oc__law_max, od__law_max, .func (PySem.W.fnOf "_law_max" "_law_max" (defArgs s__law_max) (defBody s__law_max) (defScope s__law_max) .none kV__law_max dc__law_max pm__law_max an__law_max cd__law_max ct__law_max), sl__law_max⟩) (c__law_max : PySem.W.codeIn K cd__law_max "_law_max" = true) (k__law_max : PySem.W.keepIn K (.ref f__law_max) = true)
    (a__law_part : PySem.W.nsIn K mainGlobals "_law_part" = some (some (.ref f__law_part))) (l__law_part : K.lookup f__law_part = some ⟨oc__law_part, od__law_part, .func (PySem.W.fnOf "_law_part" "_law_part" (defArgs s__law_part) (defBody s__law_part) (defScope s__law_part) .none kV__law_part dc__law_part pm__law_part an__law_part cd__law_part ct__law_part), sl__law_part⟩) (c__law_part : PySem.W.codeIn K cd__law_part "_law_part" = true) (k__law_part : PySem.W.keepIn K (.ref f__law_part) = true)
    (a__law_spread : PySem.W.nsIn K mainGlobals "_law_spread" = some (some (.ref f__law_spread))) (l__law_spread : K.lookup f__law_spread = some ⟨oc__law_spread, od__law_spread, .func (PySem.W.fnOf "_law_spread" "_law_spread" (defArgs s__law_spread) (defBody s__law_spread) (defScope s__law_spread) .none kV__law_spread dc__law_spread pm__law_spread an__law_spread cd__law_spread ct__law_spread), sl__law_spread⟩) (c__law_spread : PySem.W.codeIn K cd__law_spread "_law_spread" = true) (k__law_spread : PySem.W.keepIn K (.ref f__law_spread) = true)
    (a__law_node : PySem.W.nsIn K mainGlobals "_law_node" = some (some (.ref f__law_node))) (l__law_node : K.lookup f__law_node = some ⟨oc__law_node, od__law_node, .func (PySem.W.fnOf "_law_node" "_law_node" (defArgs s__law_node) (defBody s__law_node) (defScope s__law_node) .none kV__law_node dc__law_node pm__law_node an__law_node cd__law_node ct__law_node), sl__law_node⟩) (c__law_node : PySem.W.codeIn K cd__law_node "_law_node" = true) (k__law_node : PySem.W.keepIn K (.ref f__law_node) = true)
    (a__law_market : PySem.W.nsIn K mainGlobals "_law_market" = some (some (.ref f__law_market))) (l__law_market : K.lookup f__law_market = some ⟨oc__law_market, od__law_market, .func (PySem.W.fnOf "_law_market" "_law_market" (defArgs s__law_market) (defBody s__law_market) (defScope s__law_market) .none kV__law_market dc__law_market pm__law_market an__law_market cd__law_market ct__law_market), sl__law_market⟩) (c__law_market : PySem.W.codeIn K cd__law_market "_law_market" = true) (k__law_market : PySem.W.keepIn K (.ref f__law_market) = true)
    (a__law_find : PySem.W.nsIn K mainGlobals "_law_find" = some (some (.ref f__law_find))) (l__law_find : K.lookup f__law_find = some ⟨oc__law_find, od__law_find, .func (PySem.W.fnOf "_law_find" "_law_find" (defArgs s__law_find) (defBody s__law_find) (defScope s__law_find) .none kV__law_find dc__law_find pm__law_find an__law_find cd__law_find ct__law_find), sl__law_find⟩) (c__law_find : PySem.W.codeIn K cd__law_find "_law_find" = true) (k__law_find : PySem.W.keepIn K (.ref f__law_find) = true)
    (a__law_prices : PySem.W.nsIn K mainGlobals "_law_prices" = some (some (.ref f__law_prices))) (l__law_prices : K.lookup f__law_prices = some ⟨oc__law_prices, od__law_prices, .func (PySem.W.fnOf "_law_prices" "_law_prices" (defArgs s__law_prices) (defBody s__law_prices) (defScope s__law_prices) .none kV__law_prices dc__law_prices pm__law_prices an__law_prices cd__law_prices ct__law_prices), sl__law_prices⟩) (c__law_prices : PySem.W.codeIn K cd__law_prices "_law_prices" = true) (k__law_prices : PySem.W.keepIn K (.ref f__law_prices) = true)
    (a__law_number : PySem.W.nsIn K mainGlobals "_law_number" = some (some (.ref f__law_number))) (l__law_number : K.lookup f__law_number = some ⟨oc__law_number, od__law_number, .func (PySem.W.fnOf "_law_number" "_law_number" (defArgs s__law_number) (defBody s__law_number) (defScope s__law_number) .none kV__law_number dc__law_number pm__law_number an__law_number cd__law_number ct__law_number), sl__law_number⟩) (c__law_number : PySem.W.codeIn K cd__law_number "_law_number" = true) (k__law_number : PySem.W.keepIn K (.ref f__law_number) = true)
    (a__law_value : PySem.W.nsIn K mainGlobals "_law_value" = some (some (.ref f__law_value))) (l__law_value : K.lookup f__law_value = some ⟨oc__law_value, od__law_value, .func (PySem.W.fnOf "_law_value" "_law_value" (defArgs s__law_value) (defBody s__law_value) (defScope s__law_value) .none kV__law_value dc__law_value pm__law_value an__law_value cd__law_value ct__law_value), sl__law_value⟩) (c__law_value : PySem.W.codeIn K cd__law_value "_law_value" = true) (k__law_value : PySem.W.keepIn K (.ref f__law_value) = true)
    (a__law_condition : PySem.W.nsIn K mainGlobals "_law_condition" = some (some (.ref f__law_condition))) (l__law_condition : K.lookup f__law_condition = some ⟨oc__law_condition, od__law_condition, .func (PySem.W.fnOf "_law_condition" "_law_condition" (defArgs s__law_condition) (defBody s__law_condition) (defScope s__law_condition) .none kV__law_condition dc__law_condition pm__law_condition an__law_condition cd__law_condition ct__law_condition), sl__law_condition⟩) (c__law_condition : PySem.W.codeIn K cd__law_condition "_law_condition" = true) (k__law_condition : PySem.W.keepIn K (.ref f__law_condition) = true)
    (a__law_contract : PySem.W.nsIn K mainGlobals "_law_contract" = some (some (.ref f__law_contract))) (l__law_contract : K.lookup f__law_contract = some ⟨oc__law_contract, od__law_contract, .func (PySem.W.fnOf "_law_contract" "_law_contract" (defArgs s__law_contract) (defBody s__law_contract) (defScope s__law_contract) .none kV__law_contract dc__law_contract pm__law_contract an__law_contract cd__law_contract ct__law_contract), sl__law_contract⟩) (c__law_contract : PySem.W.codeIn K cd__law_contract "_law_contract" = true) (k__law_contract : PySem.W.keepIn K (.ref f__law_contract) = true)
    (a__law_parts : PySem.W.nsIn K mainGlobals "_law_parts" = some (some (.ref f__law_parts))) (l__law_parts : K.lookup f__law_parts = some ⟨oc__law_parts, od__law_parts, .func (PySem.W.fnOf "_law_parts" "_law_parts" (defArgs s__law_parts) (defBody s__law_parts) (defScope s__law_parts) .none kV__law_parts dc__law_parts pm__law_parts an__law_parts cd__law_parts ct__law_parts), sl__law_parts⟩) (c__law_parts : PySem.W.codeIn K cd__law_parts "_law_parts" = true) (k__law_parts : PySem.W.keepIn K (.ref f__law_parts) = true)
    (a__law_worth : PySem.W.nsIn K mainGlobals "_law_worth" = some (some (.ref f__law_worth))) (l__law_worth : K.lookup f__law_worth = some ⟨oc__law_worth, od__law_worth, .func (PySem.W.fnOf "_law_worth" "_law_worth" (defArgs s__law_worth) (defBody s__law_worth) (defScope s__law_worth) .none kV__law_worth dc__law_worth pm__law_worth an__law_worth cd__law_worth ct__law_worth), sl__law_worth⟩) (c__law_worth : PySem.W.codeIn K cd__law_worth "_law_worth" = true) (k__law_worth : PySem.W.keepIn K (.ref f__law_worth) = true)
    (a__law_so : PySem.W.nsIn K mainGlobals "_law_so" = some (some (.ref f__law_so))) (l__law_so : K.lookup f__law_so = some ⟨oc__law_so, od__law_so, .func (PySem.W.fnOf "_law_so" "_law_so" (defArgs s__law_so) (defBody s__law_so) (defScope s__law_so) .none kV__law_so dc__law_so pm__law_so an__law_so cd__law_so ct__law_so), sl__law_so⟩) (c__law_so : PySem.W.codeIn K cd__law_so "_law_so" = true) (k__law_so : PySem.W.keepIn K (.ref f__law_so) = true)
    (a__law_into : PySem.W.nsIn K mainGlobals "_law_into" = some (some (.ref f__law_into))) (l__law_into : K.lookup f__law_into = some ⟨oc__law_into, od__law_into, .func (PySem.W.fnOf "_law_into" "_law_into" (defArgs s__law_into) (defBody s__law_into) (defScope s__law_into) .none kV__law_into dc__law_into pm__law_into an__law_into cd__law_into ct__law_into), sl__law_into⟩) (c__law_into : PySem.W.codeIn K cd__law_into "_law_into" = true) (k__law_into : PySem.W.keepIn K (.ref f__law_into) = true)
    (a__law_idle : PySem.W.nsIn K mainGlobals "_law_idle" = some (some (.ref f__law_idle))) (l__law_idle : K.lookup f__law_idle = some ⟨oc__law_idle, od__law_idle, .func (PySem.W.fnOf "_law_idle" "_law_idle" (defArgs s__law_idle) (defBody s__law_idle) (defScope s__law_idle) .none kV__law_idle dc__law_idle pm__law_idle an__law_idle cd__law_idle ct__law_idle), sl__law_idle⟩) (c__law_idle : PySem.W.codeIn K cd__law_idle "_law_idle" = true) (k__law_idle : PySem.W.keepIn K (.ref f__law_idle) = true)
    (a__law_faced : PySem.W.nsIn K mainGlobals "_law_faced" = some (some (.ref f__law_faced))) (l__law_faced : K.lookup f__law_faced = some ⟨oc__law_faced, od__law_faced, .func (PySem.W.fnOf "_law_faced" "_law_faced" (defArgs s__law_faced) (defBody s__law_faced) (defScope s__law_faced) .none kV__law_faced dc__law_faced pm__law_faced an__law_faced cd__law_faced ct__law_faced), sl__law_faced⟩) (c__law_faced : PySem.W.codeIn K cd__law_faced "_law_faced" = true) (k__law_faced : PySem.W.keepIn K (.ref f__law_faced) = true)
    (a__law_branches : PySem.W.nsIn K mainGlobals "_law_branches" = some (some (.ref f__law_branches))) (l__law_branches : K.lookup f__law_branches = some ⟨oc__law_branches, od__law_branches, .func (PySem.W.fnOf "_law_branches" "_law_branches" (defArgs s__law_branches) (defBody s__law_branches) (defScope s__law_branches) .none kV__law_branches dc__law_branches pm__law_branches an__law_branches cd__law_branches ct__law_branches), sl__law_branches⟩) (c__law_branches : PySem.W.codeIn K cd__law_branches "_law_branches" = true) (k__law_branches : PySem.W.keepIn K (.ref f__law_branches) = true)
    (a__law_all : PySem.W.nsIn K mainGlobals "_law_all" = some (some (.ref f__law_all))) (l__law_all : K.lookup f__law_all = some ⟨oc__law_all, od__law_all, .func (PySem.W.fnOf "_law_all" "_law_all" (defArgs s__law_all) (defBody s__law_all) (defScope s__law_all) .none kV__law_all dc__law_all pm__law_all an__law_all cd__law_all ct__law_all), sl__law_all⟩) (c__law_all : PySem.W.codeIn K cd__law_all "_law_all" = true) (k__law_all : PySem.W.keepIn K (.ref f__law_all) = true)
    (a__law_whole : PySem.W.nsIn K mainGlobals "_law_whole" = some (some (.ref f__law_whole))) (l__law_whole : K.lookup f__law_whole = some ⟨oc__law_whole, od__law_whole, .func (PySem.W.fnOf "_law_whole" "_law_whole" (defArgs s__law_whole) (defBody s__law_whole) (defScope s__law_whole) .none kV__law_whole dc__law_whole pm__law_whole an__law_whole cd__law_whole ct__law_whole), sl__law_whole⟩) (c__law_whole : PySem.W.codeIn K cd__law_whole "_law_whole" = true) (k__law_whole : PySem.W.keepIn K (.ref f__law_whole) = true)
    (a__law_told : PySem.W.nsIn K mainGlobals "_law_told" = some (some (.ref f__law_told))) (l__law_told : K.lookup f__law_told = some ⟨oc__law_told, od__law_told, .func (PySem.W.fnOf "_law_told" "_law_told" (defArgs s__law_told) (defBody s__law_told) (defScope s__law_told) .none kV__law_told dc__law_told pm__law_told an__law_told cd__law_told ct__law_told), sl__law_told⟩) (c__law_told : PySem.W.codeIn K cd__law_told "_law_told" = true) (k__law_told : PySem.W.keepIn K (.ref f__law_told) = true)
    (a_law : PySem.W.nsIn K mainGlobals "law" = some (some (.ref f_law))) (l_law : K.lookup f_law = some ⟨oc_law, od_law, .func (PySem.W.fnOf "law" "law" (defArgs s_law) (defBody s_law) (defScope s_law) .none kV_law dc_law pm_law an_law cd_law ct_law), sl_law⟩) (c_law : PySem.W.codeIn K cd_law "law" = true) (k_law : PySem.W.keepIn K (.ref f_law) = true)
    (z_abs : PySem.W.nsIn K mainGlobals "abs" = some none)
    (z_int : PySem.W.nsIn K mainGlobals "int" = some none)
    (z_isinstance : PySem.W.nsIn K mainGlobals "isinstance" = some none)
    (z_len : PySem.W.nsIn K mainGlobals "len" = some none)
    (z_list : PySem.W.nsIn K mainGlobals "list" = some none)
    (z_max : PySem.W.nsIn K mainGlobals "max" = some none)
    (z_min : PySem.W.nsIn K mainGlobals "min" = some none)
    (z_range : PySem.W.nsIn K mainGlobals "range" = some none)
    (z_reversed : PySem.W.nsIn K mainGlobals "reversed" = some none)
    (z_sorted : PySem.W.nsIn K mainGlobals "sorted" = some none)
    (z_sum : PySem.W.nsIn K mainGlobals "sum" = some none)
    (z_tuple : PySem.W.nsIn K mainGlobals "tuple" = some none)
    (z_zip : PySem.W.nsIn K mainGlobals "zip" = some none)
    (i_gcd : PySem.W.nsIn K mainGlobals "gcd" = some (some (.builtin "math.gcd")))
    (j_PART_LIMIT : PySem.W.nsIn K mainGlobals "PART_LIMIT" = some (some (.int 40 tk_PART_LIMIT)))
    (j_DEPTH_LIMIT : PySem.W.nsIn K mainGlobals "DEPTH_LIMIT" = some (some (.int 20 tk_DEPTH_LIMIT)))
    (j_GOODS_LIMIT : PySem.W.nsIn K mainGlobals "GOODS_LIMIT" = some (some (.int 4 tk_GOODS_LIMIT)))
    (j_MOMENT_LIMIT : PySem.W.nsIn K mainGlobals "MOMENT_LIMIT" = some (some (.int 40 tk_MOMENT_LIMIT)))
    (j_TIME_LIMIT : PySem.W.nsIn K mainGlobals "TIME_LIMIT" = some (some (.int 5 tk_TIME_LIMIT)))
    (j_HISTORY_LIMIT : PySem.W.nsIn K mainGlobals "HISTORY_LIMIT" = some (some (.int 400 tk_HISTORY_LIMIT)))
    (ja_VALUES : PySem.W.nsIn K mainGlobals "VALUES" = some (some (.ref A_VALUES))) (jd_VALUES : He.dicW K A_VALUES = some (He.keysIn w.params ["number", "buy", "sell", "plus", "minus", "times", "least", "greatest"]))
    (jn_VALUES_number : PySem.W.nsIn K A_VALUES "number" = some (some (.ref t_VALUES_number))) (jq_VALUES_number : tupW K t_VALUES_number ["size"] = true)
    (jn_VALUES_buy : PySem.W.nsIn K A_VALUES "buy" = some (some (.ref t_VALUES_buy))) (jq_VALUES_buy : tupW K t_VALUES_buy ["good"] = true)
    (jn_VALUES_sell : PySem.W.nsIn K A_VALUES "sell" = some (some (.ref t_VALUES_sell))) (jq_VALUES_sell : tupW K t_VALUES_sell ["good"] = true)
    (jn_VALUES_plus : PySem.W.nsIn K A_VALUES "plus" = some (some (.ref t_VALUES_plus))) (jq_VALUES_plus : tupW K t_VALUES_plus ["value", "value"] = true)
    (jn_VALUES_minus : PySem.W.nsIn K A_VALUES "minus" = some (some (.ref t_VALUES_minus))) (jq_VALUES_minus : tupW K t_VALUES_minus ["value", "value"] = true)
    (jn_VALUES_times : PySem.W.nsIn K A_VALUES "times" = some (some (.ref t_VALUES_times))) (jq_VALUES_times : tupW K t_VALUES_times ["value", "value"] = true)
    (jn_VALUES_least : PySem.W.nsIn K A_VALUES "least" = some (some (.ref t_VALUES_least))) (jq_VALUES_least : tupW K t_VALUES_least ["value", "value"] = true)
    (jn_VALUES_greatest : PySem.W.nsIn K A_VALUES "greatest" = some (some (.ref t_VALUES_greatest))) (jq_VALUES_greatest : tupW K t_VALUES_greatest ["value", "value"] = true)
    (jn_VALUES_less : PySem.W.nsIn K A_VALUES "less" = some none)
    (jn_VALUES_same : PySem.W.nsIn K A_VALUES "same" = some none)
    (jn_VALUES_not : PySem.W.nsIn K A_VALUES "not" = some none)
    (jn_VALUES_and : PySem.W.nsIn K A_VALUES "and" = some none)
    (jn_VALUES_nothing : PySem.W.nsIn K A_VALUES "nothing" = some none)
    (jn_VALUES_one : PySem.W.nsIn K A_VALUES "one" = some none)
    (jn_VALUES_scale : PySem.W.nsIn K A_VALUES "scale" = some none)
    (jn_VALUES_both : PySem.W.nsIn K A_VALUES "both" = some none)
    (jn_VALUES_give : PySem.W.nsIn K A_VALUES "give" = some none)
    (jn_VALUES_or : PySem.W.nsIn K A_VALUES "or" = some none)
    (jn_VALUES_at : PySem.W.nsIn K A_VALUES "at" = some none)
    (jn_VALUES_when : PySem.W.nsIn K A_VALUES "when" = some none)
    (jn_VALUES_until : PySem.W.nsIn K A_VALUES "until" = some none)
    (jn_VALUES_early : PySem.W.nsIn K A_VALUES "early" = some none)
    (jn_VALUES_later : PySem.W.nsIn K A_VALUES "later" = some none)
    (ja_CONDITIONS : PySem.W.nsIn K mainGlobals "CONDITIONS" = some (some (.ref A_CONDITIONS))) (jd_CONDITIONS : He.dicW K A_CONDITIONS = some (He.keysIn w.params ["less", "same", "not", "and"]))
    (jn_CONDITIONS_number : PySem.W.nsIn K A_CONDITIONS "number" = some none)
    (jn_CONDITIONS_buy : PySem.W.nsIn K A_CONDITIONS "buy" = some none)
    (jn_CONDITIONS_sell : PySem.W.nsIn K A_CONDITIONS "sell" = some none)
    (jn_CONDITIONS_plus : PySem.W.nsIn K A_CONDITIONS "plus" = some none)
    (jn_CONDITIONS_minus : PySem.W.nsIn K A_CONDITIONS "minus" = some none)
    (jn_CONDITIONS_times : PySem.W.nsIn K A_CONDITIONS "times" = some none)
    (jn_CONDITIONS_least : PySem.W.nsIn K A_CONDITIONS "least" = some none)
    (jn_CONDITIONS_greatest : PySem.W.nsIn K A_CONDITIONS "greatest" = some none)
    (jn_CONDITIONS_less : PySem.W.nsIn K A_CONDITIONS "less" = some (some (.ref t_CONDITIONS_less))) (jq_CONDITIONS_less : tupW K t_CONDITIONS_less ["value", "value"] = true)
    (jn_CONDITIONS_same : PySem.W.nsIn K A_CONDITIONS "same" = some (some (.ref t_CONDITIONS_same))) (jq_CONDITIONS_same : tupW K t_CONDITIONS_same ["value", "value"] = true)
    (jn_CONDITIONS_not : PySem.W.nsIn K A_CONDITIONS "not" = some (some (.ref t_CONDITIONS_not))) (jq_CONDITIONS_not : tupW K t_CONDITIONS_not ["condition"] = true)
    (jn_CONDITIONS_and : PySem.W.nsIn K A_CONDITIONS "and" = some (some (.ref t_CONDITIONS_and))) (jq_CONDITIONS_and : tupW K t_CONDITIONS_and ["condition", "condition"] = true)
    (jn_CONDITIONS_nothing : PySem.W.nsIn K A_CONDITIONS "nothing" = some none)
    (jn_CONDITIONS_one : PySem.W.nsIn K A_CONDITIONS "one" = some none)
    (jn_CONDITIONS_scale : PySem.W.nsIn K A_CONDITIONS "scale" = some none)
    (jn_CONDITIONS_both : PySem.W.nsIn K A_CONDITIONS "both" = some none)
    (jn_CONDITIONS_give : PySem.W.nsIn K A_CONDITIONS "give" = some none)
    (jn_CONDITIONS_or : PySem.W.nsIn K A_CONDITIONS "or" = some none)
    (jn_CONDITIONS_at : PySem.W.nsIn K A_CONDITIONS "at" = some none)
    (jn_CONDITIONS_when : PySem.W.nsIn K A_CONDITIONS "when" = some none)
    (jn_CONDITIONS_until : PySem.W.nsIn K A_CONDITIONS "until" = some none)
    (jn_CONDITIONS_early : PySem.W.nsIn K A_CONDITIONS "early" = some none)
    (jn_CONDITIONS_later : PySem.W.nsIn K A_CONDITIONS "later" = some none)
    (ja_CONTRACTS : PySem.W.nsIn K mainGlobals "CONTRACTS" = some (some (.ref A_CONTRACTS))) (jd_CONTRACTS : He.dicW K A_CONTRACTS = some (He.keysIn w.params ["nothing", "one", "scale", "both", "give", "or", "at", "when", "until", "early", "later"]))
    (jn_CONTRACTS_number : PySem.W.nsIn K A_CONTRACTS "number" = some none)
    (jn_CONTRACTS_buy : PySem.W.nsIn K A_CONTRACTS "buy" = some none)
    (jn_CONTRACTS_sell : PySem.W.nsIn K A_CONTRACTS "sell" = some none)
    (jn_CONTRACTS_plus : PySem.W.nsIn K A_CONTRACTS "plus" = some none)
    (jn_CONTRACTS_minus : PySem.W.nsIn K A_CONTRACTS "minus" = some none)
    (jn_CONTRACTS_times : PySem.W.nsIn K A_CONTRACTS "times" = some none)
    (jn_CONTRACTS_least : PySem.W.nsIn K A_CONTRACTS "least" = some none)
    (jn_CONTRACTS_greatest : PySem.W.nsIn K A_CONTRACTS "greatest" = some none)
    (jn_CONTRACTS_less : PySem.W.nsIn K A_CONTRACTS "less" = some none)
    (jn_CONTRACTS_same : PySem.W.nsIn K A_CONTRACTS "same" = some none)
    (jn_CONTRACTS_not : PySem.W.nsIn K A_CONTRACTS "not" = some none)
    (jn_CONTRACTS_and : PySem.W.nsIn K A_CONTRACTS "and" = some none)
    (jn_CONTRACTS_nothing : PySem.W.nsIn K A_CONTRACTS "nothing" = some (some (.ref t_CONTRACTS_nothing))) (jq_CONTRACTS_nothing : tupW K t_CONTRACTS_nothing [] = true)
    (jn_CONTRACTS_one : PySem.W.nsIn K A_CONTRACTS "one" = some (some (.ref t_CONTRACTS_one))) (jq_CONTRACTS_one : tupW K t_CONTRACTS_one ["good"] = true)
    (jn_CONTRACTS_scale : PySem.W.nsIn K A_CONTRACTS "scale" = some (some (.ref t_CONTRACTS_scale))) (jq_CONTRACTS_scale : tupW K t_CONTRACTS_scale ["value", "contract"] = true)
    (jn_CONTRACTS_both : PySem.W.nsIn K A_CONTRACTS "both" = some (some (.ref t_CONTRACTS_both))) (jq_CONTRACTS_both : tupW K t_CONTRACTS_both ["contract", "contract"] = true)
    (jn_CONTRACTS_give : PySem.W.nsIn K A_CONTRACTS "give" = some (some (.ref t_CONTRACTS_give))) (jq_CONTRACTS_give : tupW K t_CONTRACTS_give ["contract"] = true)
    (jn_CONTRACTS_or : PySem.W.nsIn K A_CONTRACTS "or" = some (some (.ref t_CONTRACTS_or))) (jq_CONTRACTS_or : tupW K t_CONTRACTS_or ["contract", "contract"] = true)
    (jn_CONTRACTS_at : PySem.W.nsIn K A_CONTRACTS "at" = some (some (.ref t_CONTRACTS_at))) (jq_CONTRACTS_at : tupW K t_CONTRACTS_at ["time", "contract"] = true)
    (jn_CONTRACTS_when : PySem.W.nsIn K A_CONTRACTS "when" = some (some (.ref t_CONTRACTS_when))) (jq_CONTRACTS_when : tupW K t_CONTRACTS_when ["condition", "contract"] = true)
    (jn_CONTRACTS_until : PySem.W.nsIn K A_CONTRACTS "until" = some (some (.ref t_CONTRACTS_until))) (jq_CONTRACTS_until : tupW K t_CONTRACTS_until ["condition", "contract"] = true)
    (jn_CONTRACTS_early : PySem.W.nsIn K A_CONTRACTS "early" = some (some (.ref t_CONTRACTS_early))) (jq_CONTRACTS_early : tupW K t_CONTRACTS_early ["time", "contract"] = true)
    (jn_CONTRACTS_later : PySem.W.nsIn K A_CONTRACTS "later" = some (some (.ref t_CONTRACTS_later))) (jq_CONTRACTS_later : tupW K t_CONTRACTS_later ["contract"] = true)
    (ja_STEPS : PySem.W.nsIn K mainGlobals "STEPS" = some (some (.ref A_STEPS))) (jd_STEPS : He.dicW K A_STEPS = some (He.keysIn w.params ["nothing", "one", "scale", "both", "give", "or", "at", "when", "until", "early", "later"]))
    (jn_STEPS_nothing : PySem.W.nsIn K A_STEPS "nothing" = some (some (.ref f__face_nothing)))
    (jn_STEPS_one : PySem.W.nsIn K A_STEPS "one" = some (some (.ref f__face_one)))
    (jn_STEPS_scale : PySem.W.nsIn K A_STEPS "scale" = some (some (.ref f__face_scale)))
    (jn_STEPS_both : PySem.W.nsIn K A_STEPS "both" = some (some (.ref f__face_both)))
    (jn_STEPS_give : PySem.W.nsIn K A_STEPS "give" = some (some (.ref f__face_give)))
    (jn_STEPS_or : PySem.W.nsIn K A_STEPS "or" = some (some (.ref f__face_or)))
    (jn_STEPS_at : PySem.W.nsIn K A_STEPS "at" = some (some (.ref f__face_at)))
    (jn_STEPS_when : PySem.W.nsIn K A_STEPS "when" = some (some (.ref f__face_when)))
    (jn_STEPS_until : PySem.W.nsIn K A_STEPS "until" = some (some (.ref f__face_until)))
    (jn_STEPS_early : PySem.W.nsIn K A_STEPS "early" = some (some (.ref f__face_early)))
    (jn_STEPS_later : PySem.W.nsIn K A_STEPS "later" = some (some (.ref f__face_later)))
    (ca_MarketplaceError : PySem.W.nsIn K mainGlobals "MarketplaceError" = some (some (.ref C_MarketplaceError)))
    (cx_MarketplaceError : PySem.W.excIn K C_MarketplaceError [.type "ValueError", .type "Exception", .type "BaseException", .type "object"] "ValueError.__new__" = true)
    (ck_MarketplaceError : PySem.W.keepIn K (.ref C_MarketplaceError) = true) (cb_MarketplaceError : PySem.W.subIn K (.ref C_MarketplaceError) (.type "BaseException") = some true) (ct0_MarketplaceError : PySem.W.typeIn K (.ref C_MarketplaceError) = some (.type "type")) (ch_MarketplaceError : PySem.W.hasDictIn K C_MarketplaceError = true)
    (e1_MarketplaceError : PySem.W.findIn K (.ref C_MarketplaceError) "__getattribute__" = some (some (.builtin "BaseException.__getattribute__"))) (e2_MarketplaceError : PySem.W.findIn K (.ref C_MarketplaceError) "__getattr__" = some none) (e3_MarketplaceError : PySem.W.findIn K (.ref C_MarketplaceError) "__class__" = some (some (.builtin "object.__class__"))) (e4_MarketplaceError : PySem.W.mroIn K C_MarketplaceError (.type "object") = some true)
    (ca_ZeroDenominator : PySem.W.nsIn K mainGlobals "ZeroDenominator" = some (some (.ref C_ZeroDenominator)))
    (cx_ZeroDenominator : PySem.W.excIn K C_ZeroDenominator [.type "ValueError", .type "Exception", .type "BaseException", .type "object"] "ValueError.__new__" = true)
    (ck_ZeroDenominator : PySem.W.keepIn K (.ref C_ZeroDenominator) = true) (cb_ZeroDenominator : PySem.W.subIn K (.ref C_ZeroDenominator) (.type "BaseException") = some true) (ct0_ZeroDenominator : PySem.W.typeIn K (.ref C_ZeroDenominator) = some (.type "type")) (ch_ZeroDenominator : PySem.W.hasDictIn K C_ZeroDenominator = true)
    (e1_ZeroDenominator : PySem.W.findIn K (.ref C_ZeroDenominator) "__getattribute__" = some (some (.builtin "BaseException.__getattribute__"))) (e2_ZeroDenominator : PySem.W.findIn K (.ref C_ZeroDenominator) "__getattr__" = some none) (e3_ZeroDenominator : PySem.W.findIn K (.ref C_ZeroDenominator) "__class__" = some (some (.builtin "object.__class__"))) (e4_ZeroDenominator : PySem.W.mroIn K C_ZeroDenominator (.type "object") = some true)
    (ca_MarketError : PySem.W.nsIn K mainGlobals "MarketError" = some (some (.ref C_MarketError)))
    (cx_MarketError : PySem.W.excIn K C_MarketError [.type "ValueError", .type "Exception", .type "BaseException", .type "object"] "ValueError.__new__" = true)
    (ck_MarketError : PySem.W.keepIn K (.ref C_MarketError) = true) (cb_MarketError : PySem.W.subIn K (.ref C_MarketError) (.type "BaseException") = some true) (ct0_MarketError : PySem.W.typeIn K (.ref C_MarketError) = some (.type "type")) (ch_MarketError : PySem.W.hasDictIn K C_MarketError = true)
    (e1_MarketError : PySem.W.findIn K (.ref C_MarketError) "__getattribute__" = some (some (.builtin "BaseException.__getattribute__"))) (e2_MarketError : PySem.W.findIn K (.ref C_MarketError) "__getattr__" = some none) (e3_MarketError : PySem.W.findIn K (.ref C_MarketError) "__class__" = some (some (.builtin "object.__class__"))) (e4_MarketError : PySem.W.mroIn K C_MarketError (.type "object") = some true)
    (ca_TooLarge : PySem.W.nsIn K mainGlobals "TooLarge" = some (some (.ref C_TooLarge)))
    (cx_TooLarge : PySem.W.excIn K C_TooLarge [.type "ValueError", .type "Exception", .type "BaseException", .type "object"] "ValueError.__new__" = true)
    (ck_TooLarge : PySem.W.keepIn K (.ref C_TooLarge) = true) (cb_TooLarge : PySem.W.subIn K (.ref C_TooLarge) (.type "BaseException") = some true) (ct0_TooLarge : PySem.W.typeIn K (.ref C_TooLarge) = some (.type "type")) (ch_TooLarge : PySem.W.hasDictIn K C_TooLarge = true)
    (e1_TooLarge : PySem.W.findIn K (.ref C_TooLarge) "__getattribute__" = some (some (.builtin "BaseException.__getattribute__"))) (e2_TooLarge : PySem.W.findIn K (.ref C_TooLarge) "__getattr__" = some none) (e3_TooLarge : PySem.W.findIn K (.ref C_TooLarge) "__class__" = some (some (.builtin "object.__class__"))) (e4_TooLarge : PySem.W.mroIn K C_TooLarge (.type "object") = some true)
    (ca_ContractError : PySem.W.nsIn K mainGlobals "ContractError" = some (some (.ref C_ContractError)))
    (cx_ContractError : PySem.W.excIn K C_ContractError [.type "ValueError", .type "Exception", .type "BaseException", .type "object"] "ValueError.__new__" = true)
    (ck_ContractError : PySem.W.keepIn K (.ref C_ContractError) = true) (cb_ContractError : PySem.W.subIn K (.ref C_ContractError) (.type "BaseException") = some true) (ct0_ContractError : PySem.W.typeIn K (.ref C_ContractError) = some (.type "type")) (ch_ContractError : PySem.W.hasDictIn K C_ContractError = true)
    (e1_ContractError : PySem.W.findIn K (.ref C_ContractError) "__getattribute__" = some (some (.builtin "BaseException.__getattribute__"))) (e2_ContractError : PySem.W.findIn K (.ref C_ContractError) "__getattr__" = some none) (e3_ContractError : PySem.W.findIn K (.ref C_ContractError) "__class__" = some (some (.builtin "object.__class__"))) (e4_ContractError : PySem.W.mroIn K C_ContractError (.type "object") = some true)
    (ca_HistoryError : PySem.W.nsIn K mainGlobals "HistoryError" = some (some (.ref C_HistoryError)))
    (cx_HistoryError : PySem.W.excIn K C_HistoryError [.type "ValueError", .type "Exception", .type "BaseException", .type "object"] "ValueError.__new__" = true)
    (ck_HistoryError : PySem.W.keepIn K (.ref C_HistoryError) = true) (cb_HistoryError : PySem.W.subIn K (.ref C_HistoryError) (.type "BaseException") = some true) (ct0_HistoryError : PySem.W.typeIn K (.ref C_HistoryError) = some (.type "type")) (ch_HistoryError : PySem.W.hasDictIn K C_HistoryError = true)
    (e1_HistoryError : PySem.W.findIn K (.ref C_HistoryError) "__getattribute__" = some (some (.builtin "BaseException.__getattribute__"))) (e2_HistoryError : PySem.W.findIn K (.ref C_HistoryError) "__getattr__" = some none) (e3_HistoryError : PySem.W.findIn K (.ref C_HistoryError) "__class__" = some (some (.builtin "object.__class__"))) (e4_HistoryError : PySem.W.mroIn K C_HistoryError (.type "object") = some true)
    (e5 : PySem.W.specialIn K (.builtin "object.__class__") "__get__" = some (some (.builtin "getset_descriptor.__get__"))) (e6 : PySem.W.takesIn K (.builtin "object.__class__") = some true)
    (s_HistoryError_MarketplaceError : PySem.W.subIn K (.ref C_HistoryError) (.ref C_MarketplaceError) = some true)
    (s_HistoryError_HistoryError : PySem.W.subIn K (.ref C_HistoryError) (.ref C_HistoryError) = some true)
    (s_HistoryError_TooLarge : PySem.W.subIn K (.ref C_HistoryError) (.ref C_TooLarge) = some false)
    : ∃ fd : FuncData, (∀ (s : Shared) (v : Value), BindsTo s fd ⟨[v], []⟩ [("script", v)]) ∧ ∀ base : Heap, K.In base → base.Ns mainGlobals mg → FnOk P w K mg base L2.CX0 52 fa fd ["script"] (sp_law K) := by
  have e := hfa.symm.trans (PySem.W.mg_of X G a_law)
  cases e
  have F_kinds_behind := fun_mk (st := s_kinds_behind) l_kinds_behind c_kinds_behind k_kinds_behind
  have F_parts_behind := fun_mk (st := s_parts_behind) l_parts_behind c_parts_behind k_parts_behind
  have F_walk_parts := fun_mk (st := s_walk_parts) l_walk_parts c_walk_parts k_walk_parts
  have F_check_contract := fun_mk (st := s_check_contract) l_check_contract c_check_contract k_check_contract
  have F_check_numbers := fun_mk (st := s_check_numbers) l_check_numbers c_check_numbers k_check_numbers
  have F_fraction := fun_mk (st := s_fraction) l_fraction c_fraction k_fraction
  have F_plus := fun_mk (st := s_plus) l_plus c_plus k_plus
  have F_minus := fun_mk (st := s_minus) l_minus c_minus k_minus
  have F_times := fun_mk (st := s_times) l_times c_times k_times
  have F_compare := fun_mk (st := s_compare) l_compare c_compare k_compare
  have F_added := fun_mk (st := s_added) l_added c_added k_added
  have F_multiplied := fun_mk (st := s_multiplied) l_multiplied c_multiplied k_multiplied
  have F_check_market := fun_mk (st := s_check_market) l_check_market c_check_market k_check_market
  have F__check_prices := fun_mk (st := s__check_prices) l__check_prices c__check_prices k__check_prices
  have F_walk := fun_mk (st := s_walk) l_walk c_walk k_walk
  have F__worked_out := fun_mk (st := s__worked_out) l__worked_out c__worked_out k__worked_out
  have F__price := fun_mk (st := s__price) l__price c__price k__price
  have F__joined := fun_mk (st := s__joined) l__joined c__joined k__joined
  have F_face := fun_mk (st := s_face) l_face c_face k_face
  have F__idle := fun_mk (st := s__idle) l__idle c__idle k__idle
  have F__face_nothing := fun_mk (st := s__face_nothing) l__face_nothing c__face_nothing k__face_nothing
  have F__face_one := fun_mk (st := s__face_one) l__face_one c__face_one k__face_one
  have F__face_scale := fun_mk (st := s__face_scale) l__face_scale c__face_scale k__face_scale
  have F__face_both := fun_mk (st := s__face_both) l__face_both c__face_both k__face_both
  have F__face_give := fun_mk (st := s__face_give) l__face_give c__face_give k__face_give
  have F__face_or := fun_mk (st := s__face_or) l__face_or c__face_or k__face_or
  have F__face_at := fun_mk (st := s__face_at) l__face_at c__face_at k__face_at
  have F__face_when := fun_mk (st := s__face_when) l__face_when c__face_when k__face_when
  have F__face_until := fun_mk (st := s__face_until) l__face_until c__face_until k__face_until
  have F__face_early := fun_mk (st := s__face_early) l__face_early c__face_early k__face_early
  have F__face_later := fun_mk (st := s__face_later) l__face_later c__face_later k__face_later
  have F_Place_init := fun_mk (st := s_Place_init) l_Place_init c_Place_init k_Place_init
  have F_Place_is_whole := fun_mk (st := s_Place_is_whole) l_Place_is_whole c_Place_is_whole k_Place_is_whole
  have F_Place_next_place := fun_mk (st := s_Place_next_place) l_Place_next_place c_Place_next_place k_Place_next_place
  have F_Place_look_ahead := fun_mk (st := s_Place_look_ahead) l_Place_look_ahead c_Place_look_ahead k_Place_look_ahead
  have F_first_place := fun_mk (st := s_first_place) l_first_place c_first_place k_first_place
  have F_all_places := fun_mk (st := s_all_places) l_all_places c_all_places k_all_places
  have F_place_of := fun_mk (st := s_place_of) l_place_of c_place_of k_place_of
  have F_paid := fun_mk (st := s_paid) l_paid c_paid k_paid
  have F__place_at := fun_mk (st := s__place_at) l__place_at c__place_at k__place_at
  have F_whole_histories := fun_mk (st := s_whole_histories) l_whole_histories c_whole_histories k_whole_histories
  have F__law_begin := fun_mk (st := s__law_begin) l__law_begin c__law_begin k__law_begin
  have F__law_take := fun_mk (st := s__law_take) l__law_take c__law_take k__law_take
  have F__law_signed := fun_mk (st := s__law_signed) l__law_signed c__law_signed k__law_signed
  have F__law_gcd := fun_mk (st := s__law_gcd) l__law_gcd c__law_gcd k__law_gcd
  have F__law_f := fun_mk (st := s__law_f) l__law_f c__law_f k__law_f
  have F__law_plus := fun_mk (st := s__law_plus) l__law_plus c__law_plus k__law_plus
  have F__law_minus := fun_mk (st := s__law_minus) l__law_minus c__law_minus k__law_minus
  have F__law_times := fun_mk (st := s__law_times) l__law_times c__law_times k__law_times
  have F__law_less := fun_mk (st := s__law_less) l__law_less c__law_less k__law_less
  have F__law_min := fun_mk (st := s__law_min) l__law_min c__law_min k__law_min
  have F__law_max := fun_mk (st := s__law_max) l__law_max c__law_max k__law_max
  have F__law_part := fun_mk (st := s__law_part) l__law_part c__law_part k__law_part
  have F__law_spread := fun_mk (st := s__law_spread) l__law_spread c__law_spread k__law_spread
  have F__law_node := fun_mk (st := s__law_node) l__law_node c__law_node k__law_node
  have F__law_market := fun_mk (st := s__law_market) l__law_market c__law_market k__law_market
  have F__law_find := fun_mk (st := s__law_find) l__law_find c__law_find k__law_find
  have F__law_prices := fun_mk (st := s__law_prices) l__law_prices c__law_prices k__law_prices
  have F__law_number := fun_mk (st := s__law_number) l__law_number c__law_number k__law_number
  have F__law_value := fun_mk (st := s__law_value) l__law_value c__law_value k__law_value
  have F__law_condition := fun_mk (st := s__law_condition) l__law_condition c__law_condition k__law_condition
  have F__law_contract := fun_mk (st := s__law_contract) l__law_contract c__law_contract k__law_contract
  have F__law_parts := fun_mk (st := s__law_parts) l__law_parts c__law_parts k__law_parts
  have F__law_worth := fun_mk (st := s__law_worth) l__law_worth c__law_worth k__law_worth
  have F__law_so := fun_mk (st := s__law_so) l__law_so c__law_so k__law_so
  have F__law_into := fun_mk (st := s__law_into) l__law_into c__law_into k__law_into
  have F__law_idle := fun_mk (st := s__law_idle) l__law_idle c__law_idle k__law_idle
  have F__law_faced := fun_mk (st := s__law_faced) l__law_faced c__law_faced k__law_faced
  have F__law_branches := fun_mk (st := s__law_branches) l__law_branches c__law_branches k__law_branches
  have F__law_all := fun_mk (st := s__law_all) l__law_all c__law_all k__law_all
  have F__law_whole := fun_mk (st := s__law_whole) l__law_whole c__law_whole k__law_whole
  have F__law_told := fun_mk (st := s__law_told) l__law_told c__law_told k__law_told
  have F_law := fun_mk (st := s_law) l_law c_law k_law
  have T : Top w K mg := {
    c_Place := C_Place, g_Place := PySem.W.mg_of X G ca_Place, cl_Place := ⟨pg_Place, hd_Place, po_Place, sa_Place⟩, na_Place_history := na_Place_history, na_Place_path := na_Place_path, na_Place_node := na_Place_node, na_Place_contract := na_Place_contract, na_Place_side := na_Place_side, na_Place_amounts := na_Place_amounts, na_Place_given := na_Place_given, na_Place_left := na_Place_left, na_Place_branches := na_Place_branches,
    a_kinds_behind := f_kinds_behind, d_kinds_behind := _, kinds_behind_F := F_kinds_behind, kinds_behind_b := F_kinds_behind.binds (ps := ["word"]) fun _ _ _ _ _ _ us hl => match us, hl with | [_], _ => rfl, g_kinds_behind := PySem.W.mg_of X G a_kinds_behind,
    a_parts_behind := f_parts_behind, d_parts_behind := _, parts_behind_F := F_parts_behind, parts_behind_b := F_parts_behind.binds (ps := ["part"]) fun _ _ _ _ _ _ us hl => match us, hl with | [_], _ => rfl, g_parts_behind := PySem.W.mg_of X G a_parts_behind,
    a_walk_parts := f_walk_parts, d_walk_parts := _, walk_parts_F := F_walk_parts, walk_parts_b := F_walk_parts.binds (ps := ["part"]) fun _ _ _ _ _ _ us hl => match us, hl with | [_], _ => rfl, g_walk_parts := PySem.W.mg_of X G a_walk_parts,
    a_check_contract := f_check_contract, d_check_contract := _, check_contract_F := F_check_contract, check_contract_b := F_check_contract.binds (ps := ["goods", "contract"]) fun _ _ _ _ _ _ us hl => match us, hl with | [_, _], _ => rfl, g_check_contract := PySem.W.mg_of X G a_check_contract,
    a_check_numbers := f_check_numbers, d_check_numbers := _, check_numbers_F := F_check_numbers, check_numbers_b := F_check_numbers.binds (ps := ["goods", "part"]) fun _ _ _ _ _ _ us hl => match us, hl with | [_, _], _ => rfl, g_check_numbers := PySem.W.mg_of X G a_check_numbers,
    a_fraction := f_fraction, d_fraction := _, fraction_F := F_fraction, fraction_b := F_fraction.binds (ps := ["numerator", "denominator"]) fun _ _ _ _ _ _ us hl => match us, hl with | [_, _], _ => rfl, g_fraction := PySem.W.mg_of X G a_fraction,
    a_plus := f_plus, d_plus := _, plus_F := F_plus, plus_b := F_plus.binds (ps := ["a", "b"]) fun _ _ _ _ _ _ us hl => match us, hl with | [_, _], _ => rfl, g_plus := PySem.W.mg_of X G a_plus,
    a_minus := f_minus, d_minus := _, minus_F := F_minus, minus_b := F_minus.binds (ps := ["a", "b"]) fun _ _ _ _ _ _ us hl => match us, hl with | [_, _], _ => rfl, g_minus := PySem.W.mg_of X G a_minus,
    a_times := f_times, d_times := _, times_F := F_times, times_b := F_times.binds (ps := ["a", "b"]) fun _ _ _ _ _ _ us hl => match us, hl with | [_, _], _ => rfl, g_times := PySem.W.mg_of X G a_times,
    a_compare := f_compare, d_compare := _, compare_F := F_compare, compare_b := F_compare.binds (ps := ["a", "b"]) fun _ _ _ _ _ _ us hl => match us, hl with | [_, _], _ => rfl, g_compare := PySem.W.mg_of X G a_compare,
    a_added := f_added, d_added := _, added_F := F_added, added_b := F_added.binds (ps := ["a", "b"]) fun _ _ _ _ _ _ us hl => match us, hl with | [_, _], _ => rfl, g_added := PySem.W.mg_of X G a_added,
    a_multiplied := f_multiplied, d_multiplied := _, multiplied_F := F_multiplied, multiplied_b := F_multiplied.binds (ps := ["row", "factor"]) fun _ _ _ _ _ _ us hl => match us, hl with | [_, _], _ => rfl, g_multiplied := PySem.W.mg_of X G a_multiplied,
    a_check_market := f_check_market, d_check_market := _, check_market_F := F_check_market, check_market_b := F_check_market.binds (ps := ["market"]) fun _ _ _ _ _ _ us hl => match us, hl with | [_], _ => rfl, g_check_market := PySem.W.mg_of X G a_check_market,
    a__check_prices := f__check_prices, d__check_prices := _, _check_prices_F := F__check_prices, _check_prices_b := F__check_prices.binds (ps := ["goods", "prices"]) fun _ _ _ _ _ _ us hl => match us, hl with | [_, _], _ => rfl, g__check_prices := PySem.W.mg_of X G a__check_prices,
    a_walk := f_walk, d_walk := _, walk_F := F_walk, walk_b := F_walk.binds (ps := ["market"]) fun _ _ _ _ _ _ us hl => match us, hl with | [_], _ => rfl, g_walk := PySem.W.mg_of X G a_walk,
    a__worked_out := f__worked_out, d__worked_out := _, _worked_out_F := F__worked_out, _worked_out_b := F__worked_out.binds (ps := ["prices", "part"]) fun _ _ _ _ _ _ us hl => match us, hl with | [_, _], _ => rfl, g__worked_out := PySem.W.mg_of X G a__worked_out,
    a__price := f__price, d__price := _, _price_F := F__price, _price_b := F__price.binds (ps := ["prices", "word", "good"]) fun _ _ _ _ _ _ us hl => match us, hl with | [_, _, _], _ => rfl, g__price := PySem.W.mg_of X G a__price,
    a__joined := f__joined, d__joined := _, _joined_F := F__joined, _joined_b := F__joined.binds (ps := ["word", "first", "second"]) fun _ _ _ _ _ _ us hl => match us, hl with | [_, _, _], _ => rfl, g__joined := PySem.W.mg_of X G a__joined,
    a_face := f_face, d_face := _, face_F := F_face, face_b := F_face.binds (ps := ["time", "prices", "contract"]) fun _ _ _ _ _ _ us hl => match us, hl with | [_, _, _], _ => rfl, g_face := PySem.W.mg_of X G a_face,
    a__idle := f__idle, d__idle := _, _idle_F := F__idle, _idle_b := F__idle.binds (ps := ["prices", "left"]) fun _ _ _ _ _ _ us hl => match us, hl with | [_, _], _ => rfl, g__idle := PySem.W.mg_of X G a__idle,
    a__face_nothing := f__face_nothing, d__face_nothing := _, _face_nothing_F := F__face_nothing, _face_nothing_b := F__face_nothing.binds (ps := ["_", "prices", "contract"]) fun _ _ _ _ _ _ us hl => match us, hl with | [_, _, _], _ => rfl, g__face_nothing := PySem.W.mg_of X G a__face_nothing,
    a__face_one := f__face_one, d__face_one := _, _face_one_F := F__face_one, _face_one_b := F__face_one.binds (ps := ["_", "prices", "contract"]) fun _ _ _ _ _ _ us hl => match us, hl with | [_, _, _], _ => rfl, g__face_one := PySem.W.mg_of X G a__face_one,
    a__face_scale := f__face_scale, d__face_scale := _, _face_scale_F := F__face_scale, _face_scale_b := F__face_scale.binds (ps := ["time", "prices", "contract"]) fun _ _ _ _ _ _ us hl => match us, hl with | [_, _, _], _ => rfl, g__face_scale := PySem.W.mg_of X G a__face_scale,
    a__face_both := f__face_both, d__face_both := _, _face_both_F := F__face_both, _face_both_b := F__face_both.binds (ps := ["time", "prices", "contract"]) fun _ _ _ _ _ _ us hl => match us, hl with | [_, _, _], _ => rfl, g__face_both := PySem.W.mg_of X G a__face_both,
    a__face_give := f__face_give, d__face_give := _, _face_give_F := F__face_give, _face_give_b := F__face_give.binds (ps := ["time", "prices", "contract"]) fun _ _ _ _ _ _ us hl => match us, hl with | [_, _, _], _ => rfl, g__face_give := PySem.W.mg_of X G a__face_give,
    a__face_or := f__face_or, d__face_or := _, _face_or_F := F__face_or, _face_or_b := F__face_or.binds (ps := ["_", "prices", "contract"]) fun _ _ _ _ _ _ us hl => match us, hl with | [_, _, _], _ => rfl, g__face_or := PySem.W.mg_of X G a__face_or,
    a__face_at := f__face_at, d__face_at := _, _face_at_F := F__face_at, _face_at_b := F__face_at.binds (ps := ["time", "prices", "contract"]) fun _ _ _ _ _ _ us hl => match us, hl with | [_, _, _], _ => rfl, g__face_at := PySem.W.mg_of X G a__face_at,
    a__face_when := f__face_when, d__face_when := _, _face_when_F := F__face_when, _face_when_b := F__face_when.binds (ps := ["time", "prices", "contract"]) fun _ _ _ _ _ _ us hl => match us, hl with | [_, _, _], _ => rfl, g__face_when := PySem.W.mg_of X G a__face_when,
    a__face_until := f__face_until, d__face_until := _, _face_until_F := F__face_until, _face_until_b := F__face_until.binds (ps := ["time", "prices", "contract"]) fun _ _ _ _ _ _ us hl => match us, hl with | [_, _, _], _ => rfl, g__face_until := PySem.W.mg_of X G a__face_until,
    a__face_early := f__face_early, d__face_early := _, _face_early_F := F__face_early, _face_early_b := F__face_early.binds (ps := ["time", "prices", "contract"]) fun _ _ _ _ _ _ us hl => match us, hl with | [_, _, _], _ => rfl, g__face_early := PySem.W.mg_of X G a__face_early,
    a__face_later := f__face_later, d__face_later := _, _face_later_F := F__face_later, _face_later_b := F__face_later.binds (ps := ["_", "prices", "contract"]) fun _ _ _ _ _ _ us hl => match us, hl with | [_, _, _], _ => rfl, g__face_later := PySem.W.mg_of X G a__face_later,
    a_Place_init := f_Place_init, d_Place_init := _, Place_init_F := F_Place_init, Place_init_b := F_Place_init.binds (ps := ["self", "history", "path", "node", "contract", "given"]) fun _ _ _ _ _ _ us hl => match us, hl with | [_, _, _, _, _, _], _ => rfl, M_Place := ⟨mk_Place, a_Place_init, i_Place_init, kc_Place⟩,
    a_Place_is_whole := f_Place_is_whole, d_Place_is_whole := _, Place_is_whole_F := F_Place_is_whole, Place_is_whole_b := F_Place_is_whole.binds (ps := ["self"]) fun _ _ _ _ _ _ us hl => match us, hl with | [_], _ => rfl, m_Place_is_whole := ⟨a_Place_is_whole, i_Place_is_whole, k_Place_is_whole⟩,
    a_Place_next_place := f_Place_next_place, d_Place_next_place := _, Place_next_place_F := F_Place_next_place, Place_next_place_b := F_Place_next_place.binds (ps := ["self", "number"]) fun _ _ _ _ _ _ us hl => match us, hl with | [_, _], _ => rfl, m_Place_next_place := ⟨a_Place_next_place, i_Place_next_place, k_Place_next_place⟩,
    a_Place_look_ahead := f_Place_look_ahead, d_Place_look_ahead := _, Place_look_ahead_F := F_Place_look_ahead, Place_look_ahead_b := F_Place_look_ahead.binds (ps := ["self"]) fun _ _ _ _ _ _ us hl => match us, hl with | [_], _ => rfl, m_Place_look_ahead := ⟨a_Place_look_ahead, i_Place_look_ahead, k_Place_look_ahead⟩,
    a_first_place := f_first_place, d_first_place := _, first_place_F := F_first_place, first_place_b := F_first_place.binds (ps := ["market", "contract"]) fun _ _ _ _ _ _ us hl => match us, hl with | [_, _], _ => rfl, g_first_place := PySem.W.mg_of X G a_first_place,
    a_all_places := f_all_places, d_all_places := _, all_places_F := F_all_places, all_places_b := F_all_places.binds (ps := ["market", "contract", "limit", "settled_alone"]) fun _ _ _ _ _ _ us hl => match us, hl with | [_, _, _, _], _ => rfl, g_all_places := PySem.W.mg_of X G a_all_places,
    a_place_of := f_place_of, d_place_of := _, place_of_F := F_place_of, place_of_b := F_place_of.binds (ps := ["market", "contract", "history"]) fun _ _ _ _ _ _ us hl => match us, hl with | [_, _, _], _ => rfl, g_place_of := PySem.W.mg_of X G a_place_of,
    a_paid := f_paid, d_paid := _, paid_F := F_paid, paid_b := F_paid.binds (ps := ["market", "contract", "history"]) fun _ _ _ _ _ _ us hl => match us, hl with | [_, _, _], _ => rfl, g_paid := PySem.W.mg_of X G a_paid,
    a__place_at := f__place_at, d__place_at := _, _place_at_F := F__place_at, _place_at_b := F__place_at.binds (ps := ["market", "contract", "history"]) fun _ _ _ _ _ _ us hl => match us, hl with | [_, _, _], _ => rfl, g__place_at := PySem.W.mg_of X G a__place_at,
    a_whole_histories := f_whole_histories, d_whole_histories := _, whole_histories_F := F_whole_histories, whole_histories_b := F_whole_histories.binds (ps := ["market", "contract"]) fun _ _ _ _ _ _ us hl => match us, hl with | [_, _], _ => rfl, g_whole_histories := PySem.W.mg_of X G a_whole_histories,
    a__law_begin := f__law_begin, d__law_begin := _, _law_begin_F := F__law_begin, _law_begin_b := F__law_begin.binds (ps := ["script"]) fun _ _ _ _ _ _ us hl => match us, hl with | [_], _ => rfl, g__law_begin := PySem.W.mg_of X G a__law_begin,
    a__law_take := f__law_take, d__law_take := _, _law_take_F := F__law_take, _law_take_b := F__law_take.binds (ps := ["d", "many"]) fun _ _ _ _ _ _ us hl => match us, hl with | [_, _], _ => rfl, g__law_take := PySem.W.mg_of X G a__law_take,
    a__law_signed := f__law_signed, d__law_signed := _, _law_signed_F := F__law_signed, _law_signed_b := F__law_signed.binds (ps := ["d", "most"]) fun _ _ _ _ _ _ us hl => match us, hl with | [_, _], _ => rfl, g__law_signed := PySem.W.mg_of X G a__law_signed,
    a__law_gcd := f__law_gcd, d__law_gcd := _, _law_gcd_F := F__law_gcd, _law_gcd_b := F__law_gcd.binds (ps := ["a", "b"]) fun _ _ _ _ _ _ us hl => match us, hl with | [_, _], _ => rfl, g__law_gcd := PySem.W.mg_of X G a__law_gcd,
    a__law_f := f__law_f, d__law_f := _, _law_f_F := F__law_f, _law_f_b := F__law_f.binds (ps := ["a", "b"]) fun _ _ _ _ _ _ us hl => match us, hl with | [_, _], _ => rfl, g__law_f := PySem.W.mg_of X G a__law_f,
    a__law_plus := f__law_plus, d__law_plus := _, _law_plus_F := F__law_plus, _law_plus_b := F__law_plus.binds (ps := ["a", "b"]) fun _ _ _ _ _ _ us hl => match us, hl with | [_, _], _ => rfl, g__law_plus := PySem.W.mg_of X G a__law_plus,
    a__law_minus := f__law_minus, d__law_minus := _, _law_minus_F := F__law_minus, _law_minus_b := F__law_minus.binds (ps := ["a", "b"]) fun _ _ _ _ _ _ us hl => match us, hl with | [_, _], _ => rfl, g__law_minus := PySem.W.mg_of X G a__law_minus,
    a__law_times := f__law_times, d__law_times := _, _law_times_F := F__law_times, _law_times_b := F__law_times.binds (ps := ["a", "b"]) fun _ _ _ _ _ _ us hl => match us, hl with | [_, _], _ => rfl, g__law_times := PySem.W.mg_of X G a__law_times,
    a__law_less := f__law_less, d__law_less := _, _law_less_F := F__law_less, _law_less_b := F__law_less.binds (ps := ["a", "b"]) fun _ _ _ _ _ _ us hl => match us, hl with | [_, _], _ => rfl, g__law_less := PySem.W.mg_of X G a__law_less,
    a__law_min := f__law_min, d__law_min := _, _law_min_F := F__law_min, _law_min_b := F__law_min.binds (ps := ["a", "b"]) fun _ _ _ _ _ _ us hl => match us, hl with | [_, _], _ => rfl, g__law_min := PySem.W.mg_of X G a__law_min,
    a__law_max := f__law_max, d__law_max := _, _law_max_F := F__law_max, _law_max_b := F__law_max.binds (ps := ["a", "b"]) fun _ _ _ _ _ _ us hl => match us, hl with | [_, _], _ => rfl, g__law_max := PySem.W.mg_of X G a__law_max,
    a__law_part := f__law_part, d__law_part := _, _law_part_F := F__law_part, _law_part_b := F__law_part.binds (ps := ["d", "most"]) fun _ _ _ _ _ _ us hl => match us, hl with | [_, _], _ => rfl, g__law_part := PySem.W.mg_of X G a__law_part,
    a__law_spread := f__law_spread, d__law_spread := _, _law_spread_F := F__law_spread, _law_spread_b := F__law_spread.binds (ps := ["d", "mid"]) fun _ _ _ _ _ _ us hl => match us, hl with | [_, _], _ => rfl, g__law_spread := PySem.W.mg_of X G a__law_spread,
    a__law_node := f__law_node, d__law_node := _, _law_node_F := F__law_node, _law_node_b := F__law_node.binds (ps := ["d", "goods", "time", "last", "wild"]) fun _ _ _ _ _ _ us hl => match us, hl with | [_, _, _, _, _], _ => rfl, g__law_node := PySem.W.mg_of X G a__law_node,
    a__law_market := f__law_market, d__law_market := _, _law_market_F := F__law_market, _law_market_b := F__law_market.binds (ps := ["d", "most"]) fun _ _ _ _ _ _ us hl => match us, hl with | [_, _], _ => rfl, g__law_market := PySem.W.mg_of X G a__law_market,
    a__law_find := f__law_find, d__law_find := _, _law_find_F := F__law_find, _law_find_b := F__law_find.binds (ps := ["market", "path"]) fun _ _ _ _ _ _ us hl => match us, hl with | [_, _], _ => rfl, g__law_find := PySem.W.mg_of X G a__law_find,
    a__law_prices := f__law_prices, d__law_prices := _, _law_prices_F := F__law_prices, _law_prices_b := F__law_prices.binds (ps := ["market", "path"]) fun _ _ _ _ _ _ us hl => match us, hl with | [_, _], _ => rfl, g__law_prices := PySem.W.mg_of X G a__law_prices,
    a__law_number := f__law_number, d__law_number := _, _law_number_F := F__law_number, _law_number_b := F__law_number.binds (ps := ["d"]) fun _ _ _ _ _ _ us hl => match us, hl with | [_], _ => rfl, g__law_number := PySem.W.mg_of X G a__law_number,
    a__law_value := f__law_value, d__law_value := _, _law_value_F := F__law_value, _law_value_b := F__law_value.binds (ps := ["d", "goods", "deep"]) fun _ _ _ _ _ _ us hl => match us, hl with | [_, _, _], _ => rfl, g__law_value := PySem.W.mg_of X G a__law_value,
    a__law_condition := f__law_condition, d__law_condition := _, _law_condition_F := F__law_condition, _law_condition_b := F__law_condition.binds (ps := ["d", "goods", "deep"]) fun _ _ _ _ _ _ us hl => match us, hl with | [_, _, _], _ => rfl, g__law_condition := PySem.W.mg_of X G a__law_condition,
    a__law_contract := f__law_contract, d__law_contract := _, _law_contract_F := F__law_contract, _law_contract_b := F__law_contract.binds (ps := ["d", "goods", "deep", "asks"]) fun _ _ _ _ _ _ us hl => match us, hl with | [_, _, _, _], _ => rfl, g__law_contract := PySem.W.mg_of X G a__law_contract,
    a__law_parts := f__law_parts, d__law_parts := _, _law_parts_F := F__law_parts, _law_parts_b := F__law_parts.binds (ps := ["part"]) fun _ _ _ _ _ _ us hl => match us, hl with | [_], _ => rfl, g__law_parts := PySem.W.mg_of X G a__law_parts,
    a__law_worth := f__law_worth, d__law_worth := _, _law_worth_F := F__law_worth, _law_worth_b := F__law_worth.binds (ps := ["prices", "value"]) fun _ _ _ _ _ _ us hl => match us, hl with | [_, _], _ => rfl, g__law_worth := PySem.W.mg_of X G a__law_worth,
    a__law_so := f__law_so, d__law_so := _, _law_so_F := F__law_so, _law_so_b := F__law_so.binds (ps := ["prices", "condition"]) fun _ _ _ _ _ _ us hl => match us, hl with | [_, _], _ => rfl, g__law_so := PySem.W.mg_of X G a__law_so,
    a__law_into := f__law_into, d__law_into := _, _law_into_F := F__law_into, _law_into_b := F__law_into.binds (ps := ["found", "before", "behind"]) fun _ _ _ _ _ _ us hl => match us, hl with | [_, _, _], _ => rfl, g__law_into := PySem.W.mg_of X G a__law_into,
    a__law_idle := f__law_idle, d__law_idle := _, _law_idle_F := F__law_idle, _law_idle_b := F__law_idle.binds (ps := ["goods", "contract"]) fun _ _ _ _ _ _ us hl => match us, hl with | [_, _], _ => rfl, g__law_idle := PySem.W.mg_of X G a__law_idle,
    a__law_faced := f__law_faced, d__law_faced := _, _law_faced_F := F__law_faced, _law_faced_b := F__law_faced.binds (ps := ["prices", "time", "contract"]) fun _ _ _ _ _ _ us hl => match us, hl with | [_, _, _], _ => rfl, g__law_faced := PySem.W.mg_of X G a__law_faced,
    a__law_branches := f__law_branches, d__law_branches := _, _law_branches_F := F__law_branches, _law_branches_b := F__law_branches.binds (ps := ["market", "path", "found"]) fun _ _ _ _ _ _ us hl => match us, hl with | [_, _, _], _ => rfl, g__law_branches := PySem.W.mg_of X G a__law_branches,
    a__law_all := f__law_all, d__law_all := _, _law_all_F := F__law_all, _law_all_b := F__law_all.binds (ps := ["market", "contract"]) fun _ _ _ _ _ _ us hl => match us, hl with | [_, _], _ => rfl, g__law_all := PySem.W.mg_of X G a__law_all,
    a__law_whole := f__law_whole, d__law_whole := _, _law_whole_F := F__law_whole, _law_whole_b := F__law_whole.binds (ps := ["market", "row"]) fun _ _ _ _ _ _ us hl => match us, hl with | [_, _], _ => rfl, g__law_whole := PySem.W.mg_of X G a__law_whole,
    a__law_told := f__law_told, d__law_told := _, _law_told_F := F__law_told, _law_told_b := F__law_told.binds (ps := ["which", "market", "contract", "history"]) fun _ _ _ _ _ _ us hl => match us, hl with | [_, _, _, _], _ => rfl, g__law_told := PySem.W.mg_of X G a__law_told,
    n_abs := PySem.W.mg_none_of X G z_abs,
    n_int := PySem.W.mg_none_of X G z_int,
    n_isinstance := PySem.W.mg_none_of X G z_isinstance,
    n_len := PySem.W.mg_none_of X G z_len,
    n_list := PySem.W.mg_none_of X G z_list,
    n_max := PySem.W.mg_none_of X G z_max,
    n_min := PySem.W.mg_none_of X G z_min,
    n_range := PySem.W.mg_none_of X G z_range,
    n_reversed := PySem.W.mg_none_of X G z_reversed,
    n_sorted := PySem.W.mg_none_of X G z_sorted,
    n_sum := PySem.W.mg_none_of X G z_sum,
    n_tuple := PySem.W.mg_none_of X G z_tuple,
    n_zip := PySem.W.mg_none_of X G z_zip,
    g_gcd := PySem.W.mg_of X G i_gcd,
    t_PART_LIMIT := tk_PART_LIMIT, g_PART_LIMIT := PySem.W.mg_of X G j_PART_LIMIT,
    t_DEPTH_LIMIT := tk_DEPTH_LIMIT, g_DEPTH_LIMIT := PySem.W.mg_of X G j_DEPTH_LIMIT,
    t_GOODS_LIMIT := tk_GOODS_LIMIT, g_GOODS_LIMIT := PySem.W.mg_of X G j_GOODS_LIMIT,
    t_MOMENT_LIMIT := tk_MOMENT_LIMIT, g_MOMENT_LIMIT := PySem.W.mg_of X G j_MOMENT_LIMIT,
    t_TIME_LIMIT := tk_TIME_LIMIT, g_TIME_LIMIT := PySem.W.mg_of X G j_TIME_LIMIT,
    t_HISTORY_LIMIT := tk_HISTORY_LIMIT, g_HISTORY_LIMIT := PySem.W.mg_of X G j_HISTORY_LIMIT,
    a_VALUES := A_VALUES, g_VALUES := PySem.W.mg_of X G ja_VALUES, D_VALUES := He.dicW_ok jd_VALUES,
    t_VALUES_number := t_VALUES_number, n_VALUES_number := jn_VALUES_number, q_VALUES_number := jq_VALUES_number,
    t_VALUES_buy := t_VALUES_buy, n_VALUES_buy := jn_VALUES_buy, q_VALUES_buy := jq_VALUES_buy,
    t_VALUES_sell := t_VALUES_sell, n_VALUES_sell := jn_VALUES_sell, q_VALUES_sell := jq_VALUES_sell,
    t_VALUES_plus := t_VALUES_plus, n_VALUES_plus := jn_VALUES_plus, q_VALUES_plus := jq_VALUES_plus,
    t_VALUES_minus := t_VALUES_minus, n_VALUES_minus := jn_VALUES_minus, q_VALUES_minus := jq_VALUES_minus,
    t_VALUES_times := t_VALUES_times, n_VALUES_times := jn_VALUES_times, q_VALUES_times := jq_VALUES_times,
    t_VALUES_least := t_VALUES_least, n_VALUES_least := jn_VALUES_least, q_VALUES_least := jq_VALUES_least,
    t_VALUES_greatest := t_VALUES_greatest, n_VALUES_greatest := jn_VALUES_greatest, q_VALUES_greatest := jq_VALUES_greatest,
    n_VALUES_less := jn_VALUES_less,
    n_VALUES_same := jn_VALUES_same,
    n_VALUES_not := jn_VALUES_not,
    n_VALUES_and := jn_VALUES_and,
    n_VALUES_nothing := jn_VALUES_nothing,
    n_VALUES_one := jn_VALUES_one,
    n_VALUES_scale := jn_VALUES_scale,
    n_VALUES_both := jn_VALUES_both,
    n_VALUES_give := jn_VALUES_give,
    n_VALUES_or := jn_VALUES_or,
    n_VALUES_at := jn_VALUES_at,
    n_VALUES_when := jn_VALUES_when,
    n_VALUES_until := jn_VALUES_until,
    n_VALUES_early := jn_VALUES_early,
    n_VALUES_later := jn_VALUES_later,
    a_CONDITIONS := A_CONDITIONS, g_CONDITIONS := PySem.W.mg_of X G ja_CONDITIONS, D_CONDITIONS := He.dicW_ok jd_CONDITIONS,
    n_CONDITIONS_number := jn_CONDITIONS_number,
    n_CONDITIONS_buy := jn_CONDITIONS_buy,
    n_CONDITIONS_sell := jn_CONDITIONS_sell,
    n_CONDITIONS_plus := jn_CONDITIONS_plus,
    n_CONDITIONS_minus := jn_CONDITIONS_minus,
    n_CONDITIONS_times := jn_CONDITIONS_times,
    n_CONDITIONS_least := jn_CONDITIONS_least,
    n_CONDITIONS_greatest := jn_CONDITIONS_greatest,
    t_CONDITIONS_less := t_CONDITIONS_less, n_CONDITIONS_less := jn_CONDITIONS_less, q_CONDITIONS_less := jq_CONDITIONS_less,
    t_CONDITIONS_same := t_CONDITIONS_same, n_CONDITIONS_same := jn_CONDITIONS_same, q_CONDITIONS_same := jq_CONDITIONS_same,
    t_CONDITIONS_not := t_CONDITIONS_not, n_CONDITIONS_not := jn_CONDITIONS_not, q_CONDITIONS_not := jq_CONDITIONS_not,
    t_CONDITIONS_and := t_CONDITIONS_and, n_CONDITIONS_and := jn_CONDITIONS_and, q_CONDITIONS_and := jq_CONDITIONS_and,
    n_CONDITIONS_nothing := jn_CONDITIONS_nothing,
    n_CONDITIONS_one := jn_CONDITIONS_one,
    n_CONDITIONS_scale := jn_CONDITIONS_scale,
    n_CONDITIONS_both := jn_CONDITIONS_both,
    n_CONDITIONS_give := jn_CONDITIONS_give,
    n_CONDITIONS_or := jn_CONDITIONS_or,
    n_CONDITIONS_at := jn_CONDITIONS_at,
    n_CONDITIONS_when := jn_CONDITIONS_when,
    n_CONDITIONS_until := jn_CONDITIONS_until,
    n_CONDITIONS_early := jn_CONDITIONS_early,
    n_CONDITIONS_later := jn_CONDITIONS_later,
    a_CONTRACTS := A_CONTRACTS, g_CONTRACTS := PySem.W.mg_of X G ja_CONTRACTS, D_CONTRACTS := He.dicW_ok jd_CONTRACTS,
    n_CONTRACTS_number := jn_CONTRACTS_number,
    n_CONTRACTS_buy := jn_CONTRACTS_buy,
    n_CONTRACTS_sell := jn_CONTRACTS_sell,
    n_CONTRACTS_plus := jn_CONTRACTS_plus,
    n_CONTRACTS_minus := jn_CONTRACTS_minus,
    n_CONTRACTS_times := jn_CONTRACTS_times,
    n_CONTRACTS_least := jn_CONTRACTS_least,
    n_CONTRACTS_greatest := jn_CONTRACTS_greatest,
    n_CONTRACTS_less := jn_CONTRACTS_less,
    n_CONTRACTS_same := jn_CONTRACTS_same,
    n_CONTRACTS_not := jn_CONTRACTS_not,
    n_CONTRACTS_and := jn_CONTRACTS_and,
    t_CONTRACTS_nothing := t_CONTRACTS_nothing, n_CONTRACTS_nothing := jn_CONTRACTS_nothing, q_CONTRACTS_nothing := jq_CONTRACTS_nothing,
    t_CONTRACTS_one := t_CONTRACTS_one, n_CONTRACTS_one := jn_CONTRACTS_one, q_CONTRACTS_one := jq_CONTRACTS_one,
    t_CONTRACTS_scale := t_CONTRACTS_scale, n_CONTRACTS_scale := jn_CONTRACTS_scale, q_CONTRACTS_scale := jq_CONTRACTS_scale,
    t_CONTRACTS_both := t_CONTRACTS_both, n_CONTRACTS_both := jn_CONTRACTS_both, q_CONTRACTS_both := jq_CONTRACTS_both,
    t_CONTRACTS_give := t_CONTRACTS_give, n_CONTRACTS_give := jn_CONTRACTS_give, q_CONTRACTS_give := jq_CONTRACTS_give,
    t_CONTRACTS_or := t_CONTRACTS_or, n_CONTRACTS_or := jn_CONTRACTS_or, q_CONTRACTS_or := jq_CONTRACTS_or,
    t_CONTRACTS_at := t_CONTRACTS_at, n_CONTRACTS_at := jn_CONTRACTS_at, q_CONTRACTS_at := jq_CONTRACTS_at,
    t_CONTRACTS_when := t_CONTRACTS_when, n_CONTRACTS_when := jn_CONTRACTS_when, q_CONTRACTS_when := jq_CONTRACTS_when,
    t_CONTRACTS_until := t_CONTRACTS_until, n_CONTRACTS_until := jn_CONTRACTS_until, q_CONTRACTS_until := jq_CONTRACTS_until,
    t_CONTRACTS_early := t_CONTRACTS_early, n_CONTRACTS_early := jn_CONTRACTS_early, q_CONTRACTS_early := jq_CONTRACTS_early,
    t_CONTRACTS_later := t_CONTRACTS_later, n_CONTRACTS_later := jn_CONTRACTS_later, q_CONTRACTS_later := jq_CONTRACTS_later,
    a_STEPS := A_STEPS, g_STEPS := PySem.W.mg_of X G ja_STEPS, D_STEPS := He.dicW_ok jd_STEPS,
    n_STEPS_nothing := jn_STEPS_nothing,
    n_STEPS_one := jn_STEPS_one,
    n_STEPS_scale := jn_STEPS_scale,
    n_STEPS_both := jn_STEPS_both,
    n_STEPS_give := jn_STEPS_give,
    n_STEPS_or := jn_STEPS_or,
    n_STEPS_at := jn_STEPS_at,
    n_STEPS_when := jn_STEPS_when,
    n_STEPS_until := jn_STEPS_until,
    n_STEPS_early := jn_STEPS_early,
    n_STEPS_later := jn_STEPS_later,
    c_MarketplaceError := C_MarketplaceError, g_MarketplaceError := PySem.W.mg_of X G ca_MarketplaceError, x_MarketplaceError := cx_MarketplaceError, k_MarketplaceError := ck_MarketplaceError, b_MarketplaceError := cb_MarketplaceError, t_MarketplaceError := ct0_MarketplaceError, h_MarketplaceError := ch_MarketplaceError, e_MarketplaceError := ⟨e1_MarketplaceError, e2_MarketplaceError, cb_MarketplaceError, ch_MarketplaceError, e3_MarketplaceError, e5, e6, e4_MarketplaceError⟩,
    c_ZeroDenominator := C_ZeroDenominator, g_ZeroDenominator := PySem.W.mg_of X G ca_ZeroDenominator, x_ZeroDenominator := cx_ZeroDenominator, k_ZeroDenominator := ck_ZeroDenominator, b_ZeroDenominator := cb_ZeroDenominator, t_ZeroDenominator := ct0_ZeroDenominator, h_ZeroDenominator := ch_ZeroDenominator, e_ZeroDenominator := ⟨e1_ZeroDenominator, e2_ZeroDenominator, cb_ZeroDenominator, ch_ZeroDenominator, e3_ZeroDenominator, e5, e6, e4_ZeroDenominator⟩,
    c_MarketError := C_MarketError, g_MarketError := PySem.W.mg_of X G ca_MarketError, x_MarketError := cx_MarketError, k_MarketError := ck_MarketError, b_MarketError := cb_MarketError, t_MarketError := ct0_MarketError, h_MarketError := ch_MarketError, e_MarketError := ⟨e1_MarketError, e2_MarketError, cb_MarketError, ch_MarketError, e3_MarketError, e5, e6, e4_MarketError⟩,
    c_TooLarge := C_TooLarge, g_TooLarge := PySem.W.mg_of X G ca_TooLarge, x_TooLarge := cx_TooLarge, k_TooLarge := ck_TooLarge, b_TooLarge := cb_TooLarge, t_TooLarge := ct0_TooLarge, h_TooLarge := ch_TooLarge, e_TooLarge := ⟨e1_TooLarge, e2_TooLarge, cb_TooLarge, ch_TooLarge, e3_TooLarge, e5, e6, e4_TooLarge⟩,
    c_ContractError := C_ContractError, g_ContractError := PySem.W.mg_of X G ca_ContractError, x_ContractError := cx_ContractError, k_ContractError := ck_ContractError, b_ContractError := cb_ContractError, t_ContractError := ct0_ContractError, h_ContractError := ch_ContractError, e_ContractError := ⟨e1_ContractError, e2_ContractError, cb_ContractError, ch_ContractError, e3_ContractError, e5, e6, e4_ContractError⟩,
    c_HistoryError := C_HistoryError, g_HistoryError := PySem.W.mg_of X G ca_HistoryError, x_HistoryError := cx_HistoryError, k_HistoryError := ck_HistoryError, b_HistoryError := cb_HistoryError, t_HistoryError := ct0_HistoryError, h_HistoryError := ch_HistoryError, e_HistoryError := ⟨e1_HistoryError, e2_HistoryError, cb_HistoryError, ch_HistoryError, e3_HistoryError, e5, e6, e4_HistoryError⟩,
    s_HistoryError_MarketplaceError := s_HistoryError_MarketplaceError,
    s_HistoryError_HistoryError := s_HistoryError_HistoryError,
    s_HistoryError_TooLarge := s_HistoryError_TooLarge }
  exact ⟨_, fun s v => .of_eq rfl, fun base _ _ => ok_law T F_law⟩
end Nl

open PySem PySem.W PyProof.Rows
set_option maxHeartbeats 0 in
theorem PySem.Challenge.cw_nolunch_k15_histories_holds : PySem.Challenge.rw_nolunch_k15_histories.Holds := by
  w_on; o_law; k_head; (case hw => w_witness2)
  k_fill
  refine L2.walk_of (l := PySem.Challenge.rw_nolunch_k15_histories) (n := 63) (k := 52) (x := "script") (CX := fun _ => L2.CX0) (sp := fun w => Nl.sp_law _) rfl (by decide) rfl ⟨rfl, by decide, by decide⟩ (fun w h Y => PySem.W.kIn_of Y) ?F (fun _ _ a ns hl _ hS => ⟨a, ns, rfl, hS, hl, fun _ => rfl⟩) (fun _ _ _ _ _ h => h)
  case F =>
    intro w mg fa h KX G hmg
    refine' Nl.all_mk KX G hmg ?ca_Place ?pg_Place ?hd_Place ?po_Place ?sa_Place ?mk_Place ?kc_Place ?na_Place_history ?na_Place_path ?na_Place_node ?na_Place_contract ?na_Place_side ?na_Place_amounts ?na_Place_given ?na_Place_left ?na_Place_branches ?a_kinds_behind ?l_kinds_behind ?c_kinds_behind ?k_kinds_behind ?a_parts_behind ?l_parts_behind ?c_parts_behind ?k_parts_behind ?a_walk_parts ?l_walk_parts ?c_walk_parts ?k_walk_parts ?a_check_contract ?l_check_contract ?c_check_contract ?k_check_contract ?a_check_numbers ?l_check_numbers ?c_check_numbers ?k_check_numbers ?a_fraction ?l_fraction ?c_fraction ?k_fraction ?a_plus ?l_plus ?c_plus ?k_plus ?a_minus ?l_minus ?c_minus ?k_minus ?a_times ?l_times ?c_times ?k_times ?a_compare ?l_compare ?c_compare ?k_compare ?a_added ?l_added ?c_added ?k_added ?a_multiplied ?l_multiplied ?c_multiplied ?k_multiplied ?a_check_market ?l_check_market ?c_check_market ?k_check_market ?a__check_prices ?l__check_prices ?c__check_prices ?k__check_prices ?a_walk ?l_walk ?c_walk ?k_walk ?a__worked_out ?l__worked_out ?c__worked_out ?k__worked_out ?a__price ?l__price ?c__price ?k__price ?a__joined ?l__joined ?c__joined ?k__joined ?a_face ?l_face ?c_face ?k_face ?a__idle ?l__idle ?c__idle ?k__idle ?a__face_nothing ?l__face_nothing ?c__face_nothing ?k__face_nothing ?a__face_one ?l__face_one ?c__face_one ?k__face_one ?a__face_scale ?l__face_scale ?c__face_scale ?k__face_scale ?a__face_both ?l__face_both ?c__face_both ?k__face_both ?a__face_give ?l__face_give ?c__face_give ?k__face_give ?a__face_or ?l__face_or ?c__face_or ?k__face_or ?a__face_at ?l__face_at ?c__face_at ?k__face_at ?a__face_when ?l__face_when ?c__face_when ?k__face_when ?a__face_until ?l__face_until ?c__face_until ?k__face_until ?a__face_early ?l__face_early ?c__face_early ?k__face_early ?a__face_later ?l__face_later ?c__face_later ?k__face_later ?a_Place_init ?i_Place_init ?l_Place_init ?c_Place_init ?k_Place_init ?a_Place_is_whole ?i_Place_is_whole ?l_Place_is_whole ?c_Place_is_whole ?k_Place_is_whole ?a_Place_next_place ?i_Place_next_place ?l_Place_next_place ?c_Place_next_place ?k_Place_next_place ?a_Place_look_ahead ?i_Place_look_ahead ?l_Place_look_ahead ?c_Place_look_ahead ?k_Place_look_ahead ?a_first_place ?l_first_place ?c_first_place ?k_first_place ?a_all_places ?l_all_places ?c_all_places ?k_all_places ?a_place_of ?l_place_of ?c_place_of ?k_place_of ?a_paid ?l_paid ?c_paid ?k_paid ?a__place_at ?l__place_at ?c__place_at ?k__place_at ?a_whole_histories ?l_whole_histories ?c_whole_histories ?k_whole_histories ?a__law_begin ?l__law_begin ?c__law_begin ?k__law_begin ?a__law_take ?l__law_take ?c__law_take ?k__law_take ?a__law_signed ?l__law_signed ?c__law_signed ?k__law_signed ?a__law_gcd ?l__law_gcd ?c__law_gcd ?k__law_gcd ?a__law_f ?l__law_f ?c__law_f ?k__law_f ?a__law_plus ?l__law_plus ?c__law_plus ?k__law_plus ?a__law_minus ?l__law_minus ?c__law_minus ?k__law_minus ?a__law_times ?l__law_times ?c__law_times ?k__law_times ?a__law_less ?l__law_less ?c__law_less ?k__law_less ?a__law_min ?l__law_min ?c__law_min ?k__law_min ?a__law_max ?l__law_max ?c__law_max ?k__law_max ?a__law_part ?l__law_part ?c__law_part ?k__law_part ?a__law_spread ?l__law_spread ?c__law_spread ?k__law_spread ?a__law_node ?l__law_node ?c__law_node ?k__law_node ?a__law_market ?l__law_market ?c__law_market ?k__law_market ?a__law_find ?l__law_find ?c__law_find ?k__law_find ?a__law_prices ?l__law_prices ?c__law_prices ?k__law_prices ?a__law_number ?l__law_number ?c__law_number ?k__law_number ?a__law_value ?l__law_value ?c__law_value ?k__law_value ?a__law_condition ?l__law_condition ?c__law_condition ?k__law_condition ?a__law_contract ?l__law_contract ?c__law_contract ?k__law_contract ?a__law_parts ?l__law_parts ?c__law_parts ?k__law_parts ?a__law_worth ?l__law_worth ?c__law_worth ?k__law_worth ?a__law_so ?l__law_so ?c__law_so ?k__law_so ?a__law_into ?l__law_into ?c__law_into ?k__law_into ?a__law_idle ?l__law_idle ?c__law_idle ?k__law_idle ?a__law_faced ?l__law_faced ?c__law_faced ?k__law_faced ?a__law_branches ?l__law_branches ?c__law_branches ?k__law_branches ?a__law_all ?l__law_all ?c__law_all ?k__law_all ?a__law_whole ?l__law_whole ?c__law_whole ?k__law_whole ?a__law_told ?l__law_told ?c__law_told ?k__law_told ?a_law ?l_law ?c_law ?k_law ?z_abs ?z_int ?z_isinstance ?z_len ?z_list ?z_max ?z_min ?z_range ?z_reversed ?z_sorted ?z_sum ?z_tuple ?z_zip ?i_gcd ?j_PART_LIMIT ?j_DEPTH_LIMIT ?j_GOODS_LIMIT ?j_MOMENT_LIMIT ?j_TIME_LIMIT ?j_HISTORY_LIMIT ?ja_VALUES ?jd_VALUES ?jn_VALUES_number ?jq_VALUES_number ?jn_VALUES_buy ?jq_VALUES_buy ?jn_VALUES_sell ?jq_VALUES_sell ?jn_VALUES_plus ?jq_VALUES_plus ?jn_VALUES_minus ?jq_VALUES_minus ?jn_VALUES_times ?jq_VALUES_times ?jn_VALUES_least ?jq_VALUES_least ?jn_VALUES_greatest ?jq_VALUES_greatest ?jn_VALUES_less ?jn_VALUES_same ?jn_VALUES_not ?jn_VALUES_and ?jn_VALUES_nothing ?jn_VALUES_one ?jn_VALUES_scale ?jn_VALUES_both ?jn_VALUES_give ?jn_VALUES_or ?jn_VALUES_at ?jn_VALUES_when ?jn_VALUES_until ?jn_VALUES_early ?jn_VALUES_later ?ja_CONDITIONS ?jd_CONDITIONS ?jn_CONDITIONS_number ?jn_CONDITIONS_buy ?jn_CONDITIONS_sell ?jn_CONDITIONS_plus ?jn_CONDITIONS_minus ?jn_CONDITIONS_times ?jn_CONDITIONS_least ?jn_CONDITIONS_greatest ?jn_CONDITIONS_less ?jq_CONDITIONS_less ?jn_CONDITIONS_same ?jq_CONDITIONS_same ?jn_CONDITIONS_not ?jq_CONDITIONS_not ?jn_CONDITIONS_and ?jq_CONDITIONS_and ?jn_CONDITIONS_nothing ?jn_CONDITIONS_one ?jn_CONDITIONS_scale ?jn_CONDITIONS_both ?jn_CONDITIONS_give ?jn_CONDITIONS_or ?jn_CONDITIONS_at ?jn_CONDITIONS_when ?jn_CONDITIONS_until ?jn_CONDITIONS_early ?jn_CONDITIONS_later ?ja_CONTRACTS ?jd_CONTRACTS ?jn_CONTRACTS_number ?jn_CONTRACTS_buy ?jn_CONTRACTS_sell ?jn_CONTRACTS_plus ?jn_CONTRACTS_minus ?jn_CONTRACTS_times ?jn_CONTRACTS_least ?jn_CONTRACTS_greatest ?jn_CONTRACTS_less ?jn_CONTRACTS_same ?jn_CONTRACTS_not ?jn_CONTRACTS_and ?jn_CONTRACTS_nothing ?jq_CONTRACTS_nothing ?jn_CONTRACTS_one ?jq_CONTRACTS_one ?jn_CONTRACTS_scale ?jq_CONTRACTS_scale ?jn_CONTRACTS_both ?jq_CONTRACTS_both ?jn_CONTRACTS_give ?jq_CONTRACTS_give ?jn_CONTRACTS_or ?jq_CONTRACTS_or ?jn_CONTRACTS_at ?jq_CONTRACTS_at ?jn_CONTRACTS_when ?jq_CONTRACTS_when ?jn_CONTRACTS_until ?jq_CONTRACTS_until ?jn_CONTRACTS_early ?jq_CONTRACTS_early ?jn_CONTRACTS_later ?jq_CONTRACTS_later ?ja_STEPS ?jd_STEPS ?jn_STEPS_nothing ?jn_STEPS_one ?jn_STEPS_scale ?jn_STEPS_both ?jn_STEPS_give ?jn_STEPS_or ?jn_STEPS_at ?jn_STEPS_when ?jn_STEPS_until ?jn_STEPS_early ?jn_STEPS_later ?ca_MarketplaceError ?cx_MarketplaceError ?ck_MarketplaceError ?cb_MarketplaceError ?ct0_MarketplaceError ?ch_MarketplaceError ?e1_MarketplaceError ?e2_MarketplaceError ?e3_MarketplaceError ?e4_MarketplaceError ?ca_ZeroDenominator ?cx_ZeroDenominator ?ck_ZeroDenominator ?cb_ZeroDenominator ?ct0_ZeroDenominator ?ch_ZeroDenominator ?e1_ZeroDenominator ?e2_ZeroDenominator ?e3_ZeroDenominator ?e4_ZeroDenominator ?ca_MarketError ?cx_MarketError ?ck_MarketError ?cb_MarketError ?ct0_MarketError ?ch_MarketError ?e1_MarketError ?e2_MarketError ?e3_MarketError ?e4_MarketError ?ca_TooLarge ?cx_TooLarge ?ck_TooLarge ?cb_TooLarge ?ct0_TooLarge ?ch_TooLarge ?e1_TooLarge ?e2_TooLarge ?e3_TooLarge ?e4_TooLarge ?ca_ContractError ?cx_ContractError ?ck_ContractError ?cb_ContractError ?ct0_ContractError ?ch_ContractError ?e1_ContractError ?e2_ContractError ?e3_ContractError ?e4_ContractError ?ca_HistoryError ?cx_HistoryError ?ck_HistoryError ?cb_HistoryError ?ct0_HistoryError ?ch_HistoryError ?e1_HistoryError ?e2_HistoryError ?e3_HistoryError ?e4_HistoryError ?e5 ?e6 ?s_HistoryError_MarketplaceError ?s_HistoryError_HistoryError ?s_HistoryError_TooLarge
    (case ca_Place => k_is); (case pg_Place => k_is); (case hd_Place => k_is); (case po_Place => k_is); (case sa_Place => k_is); (case mk_Place => k_is)
    (case kc_Place => k_is); (case na_Place_history => k_is); (case na_Place_path => k_is); (case na_Place_node => k_is); (case na_Place_contract => k_is); (case na_Place_side => k_is)
    (case na_Place_amounts => k_is); (case na_Place_given => k_is); (case na_Place_left => k_is); (case na_Place_branches => k_is); (case a_kinds_behind => k_is); (case l_kinds_behind => k_is)
    (case c_kinds_behind => k_is); (case k_kinds_behind => k_is); (case a_parts_behind => k_is); (case l_parts_behind => k_is); (case c_parts_behind => k_is); (case k_parts_behind => k_is)
    (case a_walk_parts => k_is); (case l_walk_parts => k_is); (case c_walk_parts => k_is); (case k_walk_parts => k_is); (case a_check_contract => k_is); (case l_check_contract => k_is)
    (case c_check_contract => k_is); (case k_check_contract => k_is); (case a_check_numbers => k_is); (case l_check_numbers => k_is); (case c_check_numbers => k_is); (case k_check_numbers => k_is)
    (case a_fraction => k_is); (case l_fraction => k_is); (case c_fraction => k_is); (case k_fraction => k_is); (case a_plus => k_is); (case l_plus => k_is)
    (case c_plus => k_is); (case k_plus => k_is); (case a_minus => k_is); (case l_minus => k_is); (case c_minus => k_is); (case k_minus => k_is)
    (case a_times => k_is); (case l_times => k_is); (case c_times => k_is); (case k_times => k_is); (case a_compare => k_is); (case l_compare => k_is)
    (case c_compare => k_is); (case k_compare => k_is); (case a_added => k_is); (case l_added => k_is); (case c_added => k_is); (case k_added => k_is)
    (case a_multiplied => k_is); (case l_multiplied => k_is); (case c_multiplied => k_is); (case k_multiplied => k_is); (case a_check_market => k_is); (case l_check_market => k_is)
    (case c_check_market => k_is); (case k_check_market => k_is); (case a__check_prices => k_is); (case l__check_prices => k_is); (case c__check_prices => k_is); (case k__check_prices => k_is)
    (case a_walk => k_is); (case l_walk => k_is); (case c_walk => k_is); (case k_walk => k_is); (case a__worked_out => k_is); (case l__worked_out => k_is)
    (case c__worked_out => k_is); (case k__worked_out => k_is); (case a__price => k_is); (case l__price => k_is); (case c__price => k_is); (case k__price => k_is)
    (case a__joined => k_is); (case l__joined => k_is); (case c__joined => k_is); (case k__joined => k_is); (case a_face => k_is); (case l_face => k_is)
    (case c_face => k_is); (case k_face => k_is); (case a__idle => k_is); (case l__idle => k_is); (case c__idle => k_is); (case k__idle => k_is)
    (case a__face_nothing => k_is); (case l__face_nothing => k_is); (case c__face_nothing => k_is); (case k__face_nothing => k_is); (case a__face_one => k_is); (case l__face_one => k_is)
    (case c__face_one => k_is); (case k__face_one => k_is); (case a__face_scale => k_is); (case l__face_scale => k_is); (case c__face_scale => k_is); (case k__face_scale => k_is)
    (case a__face_both => k_is); (case l__face_both => k_is); (case c__face_both => k_is); (case k__face_both => k_is); (case a__face_give => k_is); (case l__face_give => k_is)
    (case c__face_give => k_is); (case k__face_give => k_is); (case a__face_or => k_is); (case l__face_or => k_is); (case c__face_or => k_is); (case k__face_or => k_is)
    (case a__face_at => k_is); (case l__face_at => k_is); (case c__face_at => k_is); (case k__face_at => k_is); (case a__face_when => k_is); (case l__face_when => k_is)
    (case c__face_when => k_is); (case k__face_when => k_is); (case a__face_until => k_is); (case l__face_until => k_is); (case c__face_until => k_is); (case k__face_until => k_is)
    (case a__face_early => k_is); (case l__face_early => k_is); (case c__face_early => k_is); (case k__face_early => k_is); (case a__face_later => k_is); (case l__face_later => k_is)
    (case c__face_later => k_is); (case k__face_later => k_is); (case a_Place_init => k_is); (case i_Place_init => k_is); (case l_Place_init => k_is); (case c_Place_init => k_is)
    (case k_Place_init => k_is); (case a_Place_is_whole => k_is); (case i_Place_is_whole => k_is); (case l_Place_is_whole => k_is); (case c_Place_is_whole => k_is); (case k_Place_is_whole => k_is)
    (case a_Place_next_place => k_is); (case i_Place_next_place => k_is); (case l_Place_next_place => k_is); (case c_Place_next_place => k_is); (case k_Place_next_place => k_is); (case a_Place_look_ahead => k_is)
    (case i_Place_look_ahead => k_is); (case l_Place_look_ahead => k_is); (case c_Place_look_ahead => k_is); (case k_Place_look_ahead => k_is); (case a_first_place => k_is); (case l_first_place => k_is)
    (case c_first_place => k_is); (case k_first_place => k_is); (case a_all_places => k_is); (case l_all_places => k_is); (case c_all_places => k_is); (case k_all_places => k_is)
    (case a_place_of => k_is); (case l_place_of => k_is); (case c_place_of => k_is); (case k_place_of => k_is); (case a_paid => k_is); (case l_paid => k_is)
    (case c_paid => k_is); (case k_paid => k_is); (case a__place_at => k_is); (case l__place_at => k_is); (case c__place_at => k_is); (case k__place_at => k_is)
    (case a_whole_histories => k_is); (case l_whole_histories => k_is); (case c_whole_histories => k_is); (case k_whole_histories => k_is); (case a__law_begin => k_is); (case l__law_begin => k_is)
    (case c__law_begin => k_is); (case k__law_begin => k_is); (case a__law_take => k_is); (case l__law_take => k_is); (case c__law_take => k_is); (case k__law_take => k_is)
    (case a__law_signed => k_is); (case l__law_signed => k_is); (case c__law_signed => k_is); (case k__law_signed => k_is); (case a__law_gcd => k_is); (case l__law_gcd => k_is)
    (case c__law_gcd => k_is); (case k__law_gcd => k_is); (case a__law_f => k_is); (case l__law_f => k_is); (case c__law_f => k_is); (case k__law_f => k_is)
    (case a__law_plus => k_is); (case l__law_plus => k_is); (case c__law_plus => k_is); (case k__law_plus => k_is); (case a__law_minus => k_is); (case l__law_minus => k_is)
    (case c__law_minus => k_is); (case k__law_minus => k_is); (case a__law_times => k_is); (case l__law_times => k_is); (case c__law_times => k_is); (case k__law_times => k_is)
    (case a__law_less => k_is); (case l__law_less => k_is); (case c__law_less => k_is); (case k__law_less => k_is); (case a__law_min => k_is); (case l__law_min => k_is)
    (case c__law_min => k_is); (case k__law_min => k_is); (case a__law_max => k_is); (case l__law_max => k_is); (case c__law_max => k_is); (case k__law_max => k_is)
    (case a__law_part => k_is); (case l__law_part => k_is); (case c__law_part => k_is); (case k__law_part => k_is); (case a__law_spread => k_is); (case l__law_spread => k_is)
    (case c__law_spread => k_is); (case k__law_spread => k_is); (case a__law_node => k_is); (case l__law_node => k_is); (case c__law_node => k_is); (case k__law_node => k_is)
    (case a__law_market => k_is); (case l__law_market => k_is); (case c__law_market => k_is); (case k__law_market => k_is); (case a__law_find => k_is); (case l__law_find => k_is)
    (case c__law_find => k_is); (case k__law_find => k_is); (case a__law_prices => k_is); (case l__law_prices => k_is); (case c__law_prices => k_is); (case k__law_prices => k_is)
    (case a__law_number => k_is); (case l__law_number => k_is); (case c__law_number => k_is); (case k__law_number => k_is); (case a__law_value => k_is); (case l__law_value => k_is)
    (case c__law_value => k_is); (case k__law_value => k_is); (case a__law_condition => k_is); (case l__law_condition => k_is); (case c__law_condition => k_is); (case k__law_condition => k_is)
    (case a__law_contract => k_is); (case l__law_contract => k_is); (case c__law_contract => k_is); (case k__law_contract => k_is); (case a__law_parts => k_is); (case l__law_parts => k_is)
    (case c__law_parts => k_is); (case k__law_parts => k_is); (case a__law_worth => k_is); (case l__law_worth => k_is); (case c__law_worth => k_is); (case k__law_worth => k_is)
    (case a__law_so => k_is); (case l__law_so => k_is); (case c__law_so => k_is); (case k__law_so => k_is); (case a__law_into => k_is); (case l__law_into => k_is)
    (case c__law_into => k_is); (case k__law_into => k_is); (case a__law_idle => k_is); (case l__law_idle => k_is); (case c__law_idle => k_is); (case k__law_idle => k_is)
    (case a__law_faced => k_is); (case l__law_faced => k_is); (case c__law_faced => k_is); (case k__law_faced => k_is); (case a__law_branches => k_is); (case l__law_branches => k_is)
    (case c__law_branches => k_is); (case k__law_branches => k_is); (case a__law_all => k_is); (case l__law_all => k_is); (case c__law_all => k_is); (case k__law_all => k_is)
    (case a__law_whole => k_is); (case l__law_whole => k_is); (case c__law_whole => k_is); (case k__law_whole => k_is); (case a__law_told => k_is); (case l__law_told => k_is)
    (case c__law_told => k_is); (case k__law_told => k_is); (case a_law => k_is); (case l_law => k_is); (case c_law => k_is); (case k_law => k_is)
    (case z_abs => k_is); (case z_int => k_is); (case z_isinstance => k_is); (case z_len => k_is); (case z_list => k_is); (case z_max => k_is)
    (case z_min => k_is); (case z_range => k_is); (case z_reversed => k_is); (case z_sorted => k_is); (case z_sum => k_is); (case z_tuple => k_is)
    (case z_zip => k_is); (case i_gcd => k_is); (case j_PART_LIMIT => k_is); (case j_DEPTH_LIMIT => k_is); (case j_GOODS_LIMIT => k_is); (case j_MOMENT_LIMIT => k_is)
    (case j_TIME_LIMIT => k_is); (case j_HISTORY_LIMIT => k_is); (case ja_VALUES => k_is); (case jd_VALUES => exact rfl); (case jn_VALUES_number => k_is); (case jq_VALUES_number => kernel_rfl)
    (case jn_VALUES_buy => k_is); (case jq_VALUES_buy => kernel_rfl); (case jn_VALUES_sell => k_is); (case jq_VALUES_sell => kernel_rfl); (case jn_VALUES_plus => k_is); (case jq_VALUES_plus => kernel_rfl)
    (case jn_VALUES_minus => k_is); (case jq_VALUES_minus => kernel_rfl); (case jn_VALUES_times => k_is); (case jq_VALUES_times => kernel_rfl); (case jn_VALUES_least => k_is); (case jq_VALUES_least => kernel_rfl)
    (case jn_VALUES_greatest => k_is); (case jq_VALUES_greatest => kernel_rfl); (case jn_VALUES_less => k_is); (case jn_VALUES_same => k_is); (case jn_VALUES_not => k_is); (case jn_VALUES_and => k_is)
    (case jn_VALUES_nothing => k_is); (case jn_VALUES_one => k_is); (case jn_VALUES_scale => k_is); (case jn_VALUES_both => k_is); (case jn_VALUES_give => k_is); (case jn_VALUES_or => k_is)
    (case jn_VALUES_at => k_is); (case jn_VALUES_when => k_is); (case jn_VALUES_until => k_is); (case jn_VALUES_early => k_is); (case jn_VALUES_later => k_is); (case ja_CONDITIONS => k_is)
    (case jd_CONDITIONS => exact rfl); (case jn_CONDITIONS_number => k_is); (case jn_CONDITIONS_buy => k_is); (case jn_CONDITIONS_sell => k_is); (case jn_CONDITIONS_plus => k_is); (case jn_CONDITIONS_minus => k_is)
    (case jn_CONDITIONS_times => k_is); (case jn_CONDITIONS_least => k_is); (case jn_CONDITIONS_greatest => k_is); (case jn_CONDITIONS_less => k_is); (case jq_CONDITIONS_less => kernel_rfl); (case jn_CONDITIONS_same => k_is)
    (case jq_CONDITIONS_same => kernel_rfl); (case jn_CONDITIONS_not => k_is); (case jq_CONDITIONS_not => kernel_rfl); (case jn_CONDITIONS_and => k_is); (case jq_CONDITIONS_and => kernel_rfl); (case jn_CONDITIONS_nothing => k_is)
    (case jn_CONDITIONS_one => k_is); (case jn_CONDITIONS_scale => k_is); (case jn_CONDITIONS_both => k_is); (case jn_CONDITIONS_give => k_is); (case jn_CONDITIONS_or => k_is); (case jn_CONDITIONS_at => k_is)
    (case jn_CONDITIONS_when => k_is); (case jn_CONDITIONS_until => k_is); (case jn_CONDITIONS_early => k_is); (case jn_CONDITIONS_later => k_is); (case ja_CONTRACTS => k_is); (case jd_CONTRACTS => exact rfl)
    (case jn_CONTRACTS_number => k_is); (case jn_CONTRACTS_buy => k_is); (case jn_CONTRACTS_sell => k_is); (case jn_CONTRACTS_plus => k_is); (case jn_CONTRACTS_minus => k_is); (case jn_CONTRACTS_times => k_is)
    (case jn_CONTRACTS_least => k_is); (case jn_CONTRACTS_greatest => k_is); (case jn_CONTRACTS_less => k_is); (case jn_CONTRACTS_same => k_is); (case jn_CONTRACTS_not => k_is); (case jn_CONTRACTS_and => k_is)
    (case jn_CONTRACTS_nothing => k_is); (case jq_CONTRACTS_nothing => kernel_rfl); (case jn_CONTRACTS_one => k_is); (case jq_CONTRACTS_one => kernel_rfl); (case jn_CONTRACTS_scale => k_is); (case jq_CONTRACTS_scale => kernel_rfl)
    (case jn_CONTRACTS_both => k_is); (case jq_CONTRACTS_both => kernel_rfl); (case jn_CONTRACTS_give => k_is); (case jq_CONTRACTS_give => kernel_rfl); (case jn_CONTRACTS_or => k_is); (case jq_CONTRACTS_or => kernel_rfl)
    (case jn_CONTRACTS_at => k_is); (case jq_CONTRACTS_at => kernel_rfl); (case jn_CONTRACTS_when => k_is); (case jq_CONTRACTS_when => kernel_rfl); (case jn_CONTRACTS_until => k_is); (case jq_CONTRACTS_until => kernel_rfl)
    (case jn_CONTRACTS_early => k_is); (case jq_CONTRACTS_early => kernel_rfl); (case jn_CONTRACTS_later => k_is); (case jq_CONTRACTS_later => kernel_rfl); (case ja_STEPS => k_is); (case jd_STEPS => exact rfl)
    (case jn_STEPS_nothing => k_is); (case jn_STEPS_one => k_is); (case jn_STEPS_scale => k_is); (case jn_STEPS_both => k_is); (case jn_STEPS_give => k_is); (case jn_STEPS_or => k_is)
    (case jn_STEPS_at => k_is); (case jn_STEPS_when => k_is); (case jn_STEPS_until => k_is); (case jn_STEPS_early => k_is); (case jn_STEPS_later => k_is); (case ca_MarketplaceError => k_is)
    (case cx_MarketplaceError => k_exc); (case ck_MarketplaceError => k_is); (case cb_MarketplaceError => k_is); (case ct0_MarketplaceError => k_is); (case ch_MarketplaceError => k_is); (case e1_MarketplaceError => k_is)
    (case e2_MarketplaceError => k_is); (case e3_MarketplaceError => k_is); (case e4_MarketplaceError => k_is); (case ca_ZeroDenominator => k_is); (case cx_ZeroDenominator => k_exc); (case ck_ZeroDenominator => k_is)
    (case cb_ZeroDenominator => k_is); (case ct0_ZeroDenominator => k_is); (case ch_ZeroDenominator => k_is); (case e1_ZeroDenominator => k_is); (case e2_ZeroDenominator => k_is); (case e3_ZeroDenominator => k_is)
    (case e4_ZeroDenominator => k_is); (case ca_MarketError => k_is); (case cx_MarketError => k_exc); (case ck_MarketError => k_is); (case cb_MarketError => k_is); (case ct0_MarketError => k_is)
    (case ch_MarketError => k_is); (case e1_MarketError => k_is); (case e2_MarketError => k_is); (case e3_MarketError => k_is); (case e4_MarketError => k_is); (case ca_TooLarge => k_is)
    (case cx_TooLarge => k_exc); (case ck_TooLarge => k_is); (case cb_TooLarge => k_is); (case ct0_TooLarge => k_is); (case ch_TooLarge => k_is); (case e1_TooLarge => k_is)
    (case e2_TooLarge => k_is); (case e3_TooLarge => k_is); (case e4_TooLarge => k_is); (case ca_ContractError => k_is); (case cx_ContractError => k_exc); (case ck_ContractError => k_is)
    (case cb_ContractError => k_is); (case ct0_ContractError => k_is); (case ch_ContractError => k_is); (case e1_ContractError => k_is); (case e2_ContractError => k_is); (case e3_ContractError => k_is)
    (case e4_ContractError => k_is); (case ca_HistoryError => k_is); (case cx_HistoryError => k_exc); (case ck_HistoryError => k_is); (case cb_HistoryError => k_is); (case ct0_HistoryError => k_is)
    (case ch_HistoryError => k_is); (case e1_HistoryError => k_is); (case e2_HistoryError => k_is); (case e3_HistoryError => k_is); (case e4_HistoryError => k_is); (case e5 => k_is)
    (case e6 => k_is); (case s_HistoryError_MarketplaceError => k_is); (case s_HistoryError_HistoryError => k_is); (case s_HistoryError_TooLarge => k_is)

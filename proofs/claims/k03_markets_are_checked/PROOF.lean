import PyProof.Rows.All
import Wide.All
import OpenK.AllK
import Wide.FinOn
import PySem.Challenge.RW_nolunch_k03_markets_are_checked
import HandS.ForExc
import HandS.Wide
import HandS.Gcd
import HandS.IsInst
import HandS.ExcIs
import HandS.Iter
import HandS.Evl
import HandS.SortRule
import HandS.SortInts
import HandS.TupAny
import HandS.ForMost
import HandS.RevRange
import HandS.TupMul
set_option Elab.async false
set_option linter.all false
set_option maxRecDepth 100000
set_option maxHeartbeats 4000000
namespace Nl
/-- a size in bits -/
def Bd (k : Nat) (x : Int) : Prop := x.natAbs < 2 ^ k
theorem Bd.mono {k m : Nat} {x : Int} (h : Bd k x) (e : k ≤ m) : Bd m x := Nat.lt_of_lt_of_le h (Nat.pow_le_pow_right (by decide) e)
theorem Bd.mul {k m : Nat} {x y : Int} (h : Bd k x) (g : Bd m y) : Bd (k + m) (x * y) := by
  unfold Bd at *
  rw [Int.natAbs_mul, Nat.pow_add]
  exact Nat.mul_lt_mul'' h g
theorem Bd.add {k m : Nat} {x y : Int} (h : Bd k x) (g : Bd m y) : Bd (max k m + 1) (x + y) := by
  have h1 := h.mono (Nat.le_max_left k m)
  have g1 := g.mono (Nat.le_max_right k m)
  unfold Bd at *
  have := Int.natAbs_add_le x y
  rw [Nat.pow_succ]
  omega
theorem Bd.neg {k : Nat} {x : Int} (h : Bd k x) : Bd k (-x) := by
  unfold Bd at *
  rw [Int.natAbs_neg]
  exact h
theorem Bd.sub {k m : Nat} {x y : Int} (h : Bd k x) (g : Bd m y) : Bd (max k m + 1) (x - y) := by
  rw [Int.sub_eq_add_neg]
  exact h.add g.neg
theorem Bd.le {k : Nat} {x y : Int} (h : Bd k y) (e : x.natAbs ≤ y.natAbs) : Bd k x := Nat.lt_of_le_of_lt e h

/-- lowest terms -/
structure Low (q : Int × Int) : Prop where
  pos : 0 < q.2
  cop : Int.gcd q.1 q.2 = 1
/-- the greatest common divisor, with the sign of b -/
def sg (a b : Int) : Int := if b < 0 then -(Int.gcd a b : Int) else (Int.gcd a b : Int)
def frac (a b : Int) : Int × Int := (a.fdiv (sg a b), b.fdiv (sg a b))
theorem gcd_pos {a b : Int} (h : b ≠ 0) : 0 < Int.gcd a b := Int.gcd_pos_of_ne_zero_right a h
theorem sg_ne {a b : Int} (h : b ≠ 0) : sg a b ≠ 0 := by
  have := gcd_pos (a := a) h
  unfold sg
  split <;> omega
theorem sg_abs (a b : Int) : (sg a b).natAbs = Int.gcd a b := by
  unfold sg
  split <;> simp
theorem sg_dvd1 (a b : Int) : sg a b ∣ a := by
  have h : (Int.gcd a b : Int) ∣ a := Int.gcd_dvd_left a b
  unfold sg
  split
  · exact Int.neg_dvd.mpr h
  · exact h
theorem sg_dvd2 (a b : Int) : sg a b ∣ b := by
  have h : (Int.gcd a b : Int) ∣ b := Int.gcd_dvd_right a b
  unfold sg
  split
  · exact Int.neg_dvd.mpr h
  · exact h
theorem frac_e1 {a b : Int} (_ : b ≠ 0) : (frac a b).1 * sg a b = a := Int.fdiv_mul_cancel (sg_dvd1 a b)
theorem frac_e2 {a b : Int} (_ : b ≠ 0) : (frac a b).2 * sg a b = b := Int.fdiv_mul_cancel (sg_dvd2 a b)
theorem frac_low {a b : Int} (h : b ≠ 0) : Low (frac a b) := by
  have e1 := frac_e1 (a := a) h
  have e2 := frac_e2 (a := a) h
  have g0 := gcd_pos (a := a) h
  have hs := sg_ne (a := a) h
  generalize hx : frac a b = q at *
  obtain ⟨n, d⟩ := q
  simp only at e1 e2
  refine ⟨?_, ?_⟩
  · show 0 < d
    have hd : d ≠ 0 := fun z => by
      rw [z, Int.zero_mul] at e2
      exact h e2.symm
    by_cases hb : b < 0
    · have s0 : sg a b < 0 := by
        unfold sg
        rw [if_pos hb]
        omega
      by_cases q : d < 0
      · have := Int.mul_pos_of_neg_of_neg q s0
        omega
      · omega
    · have s0 : 0 < sg a b := by
        unfold sg
        rw [if_neg hb]
        omega
      by_cases q : d < 0
      · have := Int.mul_neg_of_neg_of_pos q s0
        omega
      · omega
  · show Int.gcd n d = 1
    have hg : Int.gcd (n * sg a b) (d * sg a b) = Int.gcd n d * (sg a b).natAbs := Int.gcd_mul_right n (sg a b) d
    rw [e1, e2, sg_abs] at hg
    exact Nat.eq_of_mul_eq_mul_right g0 (by rw [← hg, Nat.one_mul])
theorem frac_cross {a b : Int} (h : b ≠ 0) : (frac a b).1 * b = a * (frac a b).2 := by
  have e1 := frac_e1 (a := a) h
  have e2 := frac_e2 (a := a) h
  generalize hx : frac a b = q at *
  obtain ⟨n, d⟩ := q
  simp only at e1 e2 ⊢
  generalize sg a b = s at *
  rw [← e1, ← e2, Int.mul_assoc, Int.mul_comm d s]
theorem abs_of_mul {x s y : Int} (e : x * s = y) (h : s ≠ 0) : x.natAbs ≤ y.natAbs := by
  rw [← e, Int.natAbs_mul]
  exact Nat.le_mul_of_pos_right _ (by omega)
theorem frac_b1 {a b : Int} {k : Nat} (h : b ≠ 0) (g : Bd k a) : Bd k (frac a b).1 := g.le (abs_of_mul (frac_e1 h) (sg_ne h))
theorem frac_b2 {a b : Int} {k : Nat} (h : b ≠ 0) (g : Bd k b) : Bd k (frac a b).2 := g.le (abs_of_mul (frac_e2 h) (sg_ne h))
theorem dvd_cop {a b d : Int} (h : b ∣ a * d) (g : Int.gcd a b = 1) : b ∣ d := by
  have h1 : b.natAbs ∣ a.natAbs * d.natAbs := by
    rw [← Int.natAbs_mul]
    exact Int.natAbs_dvd_natAbs.mpr h
  have h2 : Nat.Coprime b.natAbs a.natAbs := (Nat.gcd_comm _ _).trans g
  exact Int.natAbs_dvd_natAbs.mp (h2.dvd_of_dvd_mul_left h1)
theorem low_uniq {p q : Int × Int} (hp : Low p) (hq : Low q) (e : p.1 * q.2 = q.1 * p.2) : p = q := by
  obtain ⟨a, b⟩ := p
  obtain ⟨c, d⟩ := q
  obtain ⟨pb, cb⟩ := hp
  obtain ⟨pd, cd⟩ := hq
  simp only at *
  have d1 : b ∣ d := by
    have h : b ∣ a * d := ⟨c, by rw [e, Int.mul_comm]⟩
    exact dvd_cop h cb
  have d2 : d ∣ b := by
    have h : d ∣ c * b := ⟨a, by rw [← e, Int.mul_comm]⟩
    exact dvd_cop h cd
  have ebd : b = d := Int.dvd_antisymm (by omega) (by omega) d1 d2
  subst ebd
  have : a = c := Int.eq_of_mul_eq_mul_right (by omega) e
  rw [this]
/-- a fraction of at most k bits -/
structure Ok (k : Nat) (q : Int × Int) : Prop where
  low : Low q
  b1 : Bd k q.1
  b2 : Bd k q.2
theorem Ok.pos {k : Nat} {q : Int × Int} (h : Ok k q) : 0 < q.2 := h.low.pos
theorem Ok.mono {k m : Nat} {q : Int × Int} (h : Ok k q) (e : k ≤ m) : Ok m q := ⟨h.low, h.b1.mono e, h.b2.mono e⟩
theorem frac_ok {a b : Int} {k : Nat} (h : b ≠ 0) (g : Bd k a) (f : Bd k b) : Ok k (frac a b) := ⟨frac_low h, frac_b1 h g, frac_b2 h f⟩
def addF (p q : Int × Int) : Int × Int := frac (p.1 * q.2 + q.1 * p.2) (p.2 * q.2)
def subF (p q : Int × Int) : Int × Int := frac (p.1 * q.2 - q.1 * p.2) (p.2 * q.2)
def mulF (p q : Int × Int) : Int × Int := frac (p.1 * q.1) (p.2 * q.2)
def divF (p q : Int × Int) : Int × Int := frac (p.1 * q.2) (p.2 * q.1)
theorem pos_ne {x y : Int} (h : 0 < x) (g : 0 < y) : x * y ≠ 0 := by
  have := Int.mul_pos h g
  omega
theorem addF_ok {k m n : Nat} {p q : Int × Int} (hp : Ok k p) (hq : Ok m q) (e : k + m + 1 ≤ n) : Ok n (addF p q) :=
  frac_ok (pos_ne hp.pos hq.pos) (((hp.b1.mul hq.b2).add (hq.b1.mul hp.b2)).mono (by omega)) ((hp.b2.mul hq.b2).mono (by omega))
theorem subF_ok {k m n : Nat} {p q : Int × Int} (hp : Ok k p) (hq : Ok m q) (e : k + m + 1 ≤ n) : Ok n (subF p q) :=
  frac_ok (pos_ne hp.pos hq.pos) (((hp.b1.mul hq.b2).sub (hq.b1.mul hp.b2)).mono (by omega)) ((hp.b2.mul hq.b2).mono (by omega))
theorem mulF_ok {k m n : Nat} {p q : Int × Int} (hp : Ok k p) (hq : Ok m q) (e : k + m ≤ n) : Ok n (mulF p q) :=
  frac_ok (pos_ne hp.pos hq.pos) ((hp.b1.mul hq.b1).mono (by omega)) ((hp.b2.mul hq.b2).mono (by omega))
theorem divF_ok {k m n : Nat} {p q : Int × Int} (hp : Ok k p) (hq : Ok m q) (h0 : q.1 ≠ 0) (e : k + m ≤ n) : Ok n (divF p q) := by
  have h : p.2 * q.1 ≠ 0 := Int.mul_ne_zero (by have := hp.pos; omega) h0
  exact frac_ok h ((hp.b1.mul hq.b2).mono (by omega)) ((hp.b2.mul hq.b1).mono (by omega))
/-- the law's own normal form -/
def fracL (a b : Int) : Int × Int :=
  let a' := if b < 0 then 0 - a else a
  let b' := if b < 0 then 0 - b else b
  (a' / (Int.gcd a' b' : Int), b' / (Int.gcd a' b' : Int))
theorem fracL_eq {a b : Int} (h : b ≠ 0) : fracL a b = frac a b := by
  have g0 := gcd_pos (a := a) h
  have key : ∀ x : Int, (sg a b ∣ x) → (if b < 0 then 0 - x else x) / (Int.gcd a b : Int) = x.fdiv (sg a b) := fun x hx => by
    obtain ⟨c, rfl⟩ := hx
    have hs := sg_ne (a := a) h
    rw [Int.mul_fdiv_cancel_left c hs]
    unfold sg
    split
    · have e : 0 - -(Int.gcd a b : Int) * c = (Int.gcd a b : Int) * c := by rw [Int.neg_mul]; omega
      rw [e]
      exact Int.mul_ediv_cancel_left c (by omega)
    · exact Int.mul_ediv_cancel_left c (by omega)
  have eg : Int.gcd (if b < 0 then 0 - a else a) (if b < 0 then 0 - b else b) = Int.gcd a b := by
    split
    · rw [Int.zero_sub, Int.zero_sub, Int.neg_gcd, Int.gcd_neg]
    · rfl
  unfold fracL frac
  simp only [eg]
  rw [key a (sg_dvd1 a b), key b (sg_dvd2 a b)]
theorem List.reverseRecOn' {α : Type} {P : List α → Prop} (l : List α) (nil : P []) (snoc : ∀ l x, P l → P (l ++ [x])) : P l := by
  have : ∀ n (l : List α), l.length = n → P l := by
    intro n
    induction n with
    | zero => intro l h; rw [List.eq_nil_of_length_eq_zero h]; exact nil
    | succ n ih =>
      intro l h
      have hne : l ≠ [] := fun e => by rw [e] at h; cases h
      rw [← List.dropLast_concat_getLast hne]
      exact snoc _ _ (ih _ (by rw [List.length_dropLast]; omega))
  exact this _ l rfl
def totF (l : List (Int × Int)) : Int × Int := l.foldl addF (0, 1)
theorem totF_add (l : List (Int × Int)) (q : Int × Int) : totF (l ++ [q]) = addF (totF l) q := by
  unfold totF
  rw [List.foldl_append]
  rfl
theorem ok_zero : Ok 1 (0, 1) := ⟨⟨by decide, by decide⟩, by unfold Bd; decide, by unfold Bd; decide⟩
theorem totF_ok {k : Nat} : ∀ (l : List (Int × Int)), (∀ q ∈ l, Ok k q) → Ok ((k + 1) * l.length + 1) (totF l) := by
  intro l
  induction l using Nl.List.reverseRecOn' with
  | nil => exact fun _ => ok_zero
  | snoc l q ih =>
      intro h
      rw [totF_add]
      have h1 := ih fun z hz => h z (List.mem_append_left _ hz)
      have h2 := h q (by simp)
      refine addF_ok h1 h2 ?_
      rw [List.length_append, List.length_singleton, Nat.mul_add]
      omega
end Nl
namespace Nl
open PySem PySem.Spec PyProof.Rows L2
def CDivX (_ j : Int) : Prop := j ≠ 0 ∧ j.natAbs.log2 < 9000
theorem op_fdivX {X : Cx} : OpR X (binaryOp .FloorDiv) (rI CDivX fun i j => .int (i.fdiv j)) := opI fun _ _ _ _ _ _ _ hc q => floordiv_int hc.1 q (.inl (PyProof.noPylong_of_log2 hc.2))
theorem divX {i j : Int} {b : Nat} (h : j ≠ 0) (hb : Bd b j) (h0 : 0 < b := by decide) (h9 : b ≤ 9000 := by decide) : CDivX i j := ⟨h, Nat.lt_of_lt_of_le (PySem.Flt.log2_lt_of h0 hb) h9⟩
theorem mulX {i j : Int} {a b : Nat} (ha : Bd a i) (hb : Bd b j) (h0 : 0 < a := by decide) (h1 : 0 < b := by decide) (h : a + b ≤ 1000000 := by decide) : CMulW i j := wide_mul ha hb h0 h1 h
/-- all that was tracked is as it was, but for what stands at d -/
def Xt (d : Addr) (H H' : Hp) : Prop := ∀ b o, b ≠ d → H b = some o → H' b = some o
theorem Xt.refl {d : Addr} (H : Hp) : Xt d H H := fun _ _ _ h => h
theorem Xt.trans {d : Addr} {H H1 H2 : Hp} (a : Xt d H H1) (b : Xt d H1 H2) : Xt d H H2 := fun c o n h => b c o n (a c o n h)
theorem Xt.of {d : Addr} {H H' : Hp} (s : Same H H') : Xt d H H' := fun b o _ h => s b o h
theorem Xt.upd {d : Addr} {H : Hp} {o : HO} : Xt d H (upd H d o) := fun b u n h => by
  rw [upd_ne n]
  exact h
theorem same_new {H : Hp} {p : Addr} {o : HO} (h : H p = none) : Same H (upd H p o) := fun b x e => by
  rw [upd_ne (ne_of_none e h)]
  exact e
/-- v is the fraction q -/
def Fr (H : Hp) (v : V) (q : Int × Int) : Prop := ∃ p, v = .ref p ∧ H p = some (.tup [.int q.1, .int q.2])
theorem Fr.same {H H' : Hp} {v : V} {q : Int × Int} (h : Fr H v q) (s : Same H H') : Fr H' v q := by
  obtain ⟨p, e, hp⟩ := h
  exact ⟨p, e, s _ _ hp⟩
theorem ne_tl {H : Hp} {a d : Addr} {xs ys : List V} (h : H a = some (.tup xs)) (g : H d = some (.lst ys)) : a ≠ d := ne_of h g (by intro z; cases z)
theorem Fr.xt {H H' : Hp} {d : Addr} {ys : List V} {v : V} {q : Int × Int} (h : Fr H v q) (g : H d = some (.lst ys)) (s : Xt d H H') : Fr H' v q := by
  obtain ⟨p, e, hp⟩ := h
  exact ⟨p, e, s _ _ (ne_tl hp g) hp⟩
theorem two_le : ([a, b] : List V).length ≤ sizeLine := (by decide : 2 ≤ sizeLine)
section
variable {X : Cx}
theorem CallR.imp {f : Value} {r r' : List V → Hp → VK → Prop} (h : CallR X f r) (hi : ∀ xs H Q, r' xs H Q → r xs H Q) : CallR X f r' := fun pins s σ H vs us Q I rr q => h pins s σ H vs us Q I rr (hi _ _ _ q)
def rInt : List V → Hp → VK → Prop := fun xs H Q => ∃ i, xs = [.int i] ∧ Q (.int i) H
theorem call_intI : CallR X (.type "int") rInt := CallR.imp call_int1 fun _ _ _ h => .inl h
def rLenL (K : PySem.W.Frag) : List V → Hp → VK → Prop := fun xs H Q => ∃ p ys, xs = [.ref p] ∧ SqL K H p ys ∧ Q (.int (ys.length : Int)) H
theorem call_lenL : CallR X (.builtin "len") (rLenL X.K) := CallR.imp call_len_seq fun _ _ _ ⟨p, ys, e, h, q⟩ => ⟨p, ys, e, .inl h, q⟩
def rLenT (K : PySem.W.Frag) : List V → Hp → VK → Prop := fun xs H Q => ∃ p ys, xs = [.ref p] ∧ SqT K H p ys ∧ Q (.int (ys.length : Int)) H
theorem call_lenT : CallR X (.builtin "len") (rLenT X.K) := CallR.imp call_len_seq fun _ _ _ ⟨p, ys, e, h, q⟩ => ⟨p, ys, e, .inr h, q⟩
def rListL (K : PySem.W.Frag) : List V → Hp → VK → Prop := fun xs H Q => ∃ p ys, xs = [.ref p] ∧ SqL K H p ys ∧ ∀ l, H l = none → Q (.ref l) (upd H l (.lst ys))
theorem call_listL : CallR X (.type "list") (rListL X.K) := CallR.imp call_list_of fun _ _ _ ⟨p, ys, e, h, q⟩ => ⟨p, ys, e, .inl h, q⟩
def rTupL (K : PySem.W.Frag) : List V → Hp → VK → Prop := fun xs H Q => ∃ p ys, xs = [.ref p] ∧ SqL K H p ys ∧ ∀ l, H l = none → Q (.ref l) (upd H l (.tup ys))
theorem call_tupL : CallR X (.type "tuple") (rTupL X.K) := CallR.imp call_tuple_of fun _ _ _ ⟨p, ys, e, h, q⟩ => ⟨p, ys, e, .inl ⟨h, q⟩⟩
/-- where something is known of what is raised -/
theorem pe_hyp {e : Expr} {t : TE} {p : Prop} (h : p → PE X e t) : PE X e (fun σ H Q => p ∧ t σ H Q) := ⟨fun pins s σ H Q I hw => (h hw.1).run pins s σ H Q I hw.2⟩
end
theorem mulC {i j : Int} (h : -(2 ^ 64) < j ∧ j < 2 ^ 64) : CMul i j := .inr h
theorem mulC' {i j : Int} (h : -(2 ^ 64) < i ∧ i < 2 ^ 64) : CMul i j := .inl h
/-- the state that the law's draws go on: [its script, a place, a rest, a seed] -/
structure DstI (H : Hp) (pd ps : Addr) (i r : Int) (ns : List Int) : Prop where
  at_d : ∃ s : Int, H pd = some (.lst [.ref ps, .int i, .int r, .int s])
  at_s : H ps = some (.lst (ns.map V.int))
  ne : ps ≠ pd
  i0 : 0 ≤ i
  r0 : 0 ≤ r
def Dst (H : Hp) (pd ps : Addr) : Prop := ∃ i r ns, DstI H pd ps i r ns
theorem Dst.same {H H' : Hp} {pd ps : Addr} (h : Dst H pd ps) (s : Same H H') : Dst H' pd ps := by
  obtain ⟨i, r, ns, ⟨⟨sd, h1⟩, h2, h3, h4, h5⟩⟩ := h
  exact ⟨i, r, ns, ⟨⟨sd, s _ _ h1⟩, s _ _ h2, h3, h4, h5⟩⟩
theorem Dst.xt {H H' : Hp} {pd ps x : Addr} (h : Dst H pd ps) (n1 : x ≠ pd) (n2 : x ≠ ps) (s : Xt x H H') : Dst H' pd ps := by
  obtain ⟨i, r, ns, ⟨⟨sd, h1⟩, h2, h3, h4, h5⟩⟩ := h
  exact ⟨i, r, ns, ⟨⟨sd, s _ _ (Ne.symm n1) h1⟩, s _ _ (Ne.symm n2) h2, h3, h4, h5⟩⟩
theorem Dst.fresh {H : Hp} {pd ps x : Addr} (h : Dst H pd ps) (n : H x = none) : x ≠ pd ∧ x ≠ ps := by
  obtain ⟨i, r, ns, ⟨⟨sd, h1⟩, h2, h3, h4, h5⟩⟩ := h
  exact ⟨fun e => (by rw [e, h1] at n; cases n), fun e => (by rw [e, h2] at n; cases n)⟩
theorem Dst.lst {H : Hp} {pd ps : Addr} (h : Dst H pd ps) : ∃ ys, H pd = some (.lst ys) := by
  obtain ⟨i, r, ns, ⟨⟨sd, h1⟩, _⟩⟩ := h
  exact ⟨_, h1⟩
theorem Fr.dst {H H' : Hp} {pd ps : Addr} {v : V} {q : Int × Int} (h : Fr H v q) (g : Dst H pd ps) (s : Xt pd H H') : Fr H' v q := by
  obtain ⟨ys, e⟩ := g.lst
  exact h.xt e s
theorem DstI.set {H : Hp} {pd ps : Addr} {i r i' r' s' : Int} {ns : List Int} (h : DstI H pd ps i r ns) (hi : 0 ≤ i') (hr : 0 ≤ r') : DstI (upd H pd (.lst [.ref ps, .int i', .int r', .int s'])) pd ps i' r' ns :=
  ⟨⟨s', upd_same⟩, by rw [upd_ne h.ne]; exact h.at_s, h.ne, hi, hr⟩
theorem DstI.upd2 {H : Hp} {pd ps : Addr} {i r i' r' s' : Int} {ns : List Int} {o : HO} (h : DstI H pd ps i r ns) (hi : 0 ≤ i') (hr : 0 ≤ r') : DstI (upd (upd H pd o) pd (.lst [.ref ps, .int i', .int r', .int s'])) pd ps i' r' ns := by
  rw [upd_upd]
  exact h.set hi hr
theorem dec_eq {a b : V} (h : a = b) : decide (a = b) = true := decide_eq_true h
def FrAll (H : Hp) (xs : List V) (qs : List (Int × Int)) : Prop := xs.length = qs.length ∧ ∀ (i : Nat) (x : V), xs[i]? = some x → ∃ q, qs[i]? = some q ∧ Fr H x q
theorem FrAll.same {H H' : Hp} {xs : List V} {qs : List (Int × Int)} (h : FrAll H xs qs) (s : Same H H') : FrAll H' xs qs := ⟨h.1, fun i x e => by
  obtain ⟨q, h1, h2⟩ := h.2 i x e
  exact ⟨q, h1, h2.same s⟩⟩
theorem FrAll.xt {H H' : Hp} {d : Addr} {ys xs : List V} {qs : List (Int × Int)} (h : FrAll H xs qs) (g : H d = some (.lst ys)) (s : Xt d H H') : FrAll H' xs qs := ⟨h.1, fun i x e => by
  obtain ⟨q, h1, h2⟩ := h.2 i x e
  exact ⟨q, h1, h2.xt g s⟩⟩
theorem FrAll.add {H : Hp} {xs : List V} {qs : List (Int × Int)} {v : V} {q : Int × Int} (h : FrAll H xs qs) (g : Fr H v q) : FrAll H (xs ++ [v]) (qs ++ [q]) := by
  refine ⟨by simp [h.1], fun i x e => ?_⟩
  by_cases hi : i < xs.length
  · rw [List.getElem?_append_left hi] at e
    obtain ⟨z, h1, h2⟩ := h.2 i x e
    exact ⟨z, by rw [List.getElem?_append_left (by rw [← h.1]; exact hi)]; exact h1, h2⟩
  · have hl := (List.getElem?_eq_some_iff.mp e).1
    rw [List.length_append, List.length_singleton] at hl
    have ei : i = xs.length := by omega
    subst ei
    rw [List.getElem?_concat_length] at e
    cases e
    exact ⟨q, by rw [h.1, List.getElem?_concat_length], g⟩
theorem take_next {α : Type} {l : List α} {i : Nat} {x : α} (h : l[i]? = some x) : l.take (i + 1) = l.take i ++ [x] := by
  rw [List.take_add_one, h]
  rfl
theorem gcd_step (x y : Int) (hx : 0 ≤ x) (hy : 0 ≤ y) : Int.gcd y (x % y) = Int.gcd x y := by
  obtain ⟨a, rfl⟩ := Int.eq_ofNat_of_zero_le hx
  obtain ⟨b, rfl⟩ := Int.eq_ofNat_of_zero_le hy
  rw [← Int.natCast_emod]
  show Nat.gcd b (a % b) = Nat.gcd a b
  rw [Nat.gcd_comm b, ← Nat.gcd_rec b a, Nat.gcd_comm]
theorem if_true_of' {c : Bool} {A B : Prop} (hc : c = true) (h : A) : if c = true then A else B := by
  rw [if_pos hc]
  exact h
theorem if_false_of' {c : Bool} {A B : Prop} (hc : c = false) (h : B) : if c = true then A else B := by
  rw [hc, if_neg Bool.false_ne_true]
  exact h
def frD (q : Int × Int) : PyData := .tuple [.int q.1, .int q.2]
theorem Fr.dp {K : PySem.W.Frag} {H : Hp} {v : V} {q : Int × Int} (h : Fr H v q) : Dp K H v (frD q) := by
  obtain ⟨p, rfl, hp⟩ := h
  exact .tup (SqT.of hp) (.cons (.int _) (.cons (.int _) .nil))
theorem frD_shaped (q : Int × Int) : SeqAt.shaped (frD q) = true := rfl
theorem frD_eqv (q : Int × Int) : PyData.eqv (frD q) (frD q) = true := SeqAt.eqv_refl _ rfl
theorem kit_self {K : PySem.W.Frag} {C : Addr} : PySem.W.kitOne K (.ref C) (.ref C) = some true := by
  unfold PySem.W.kitOne
  simp
theorem pow38 : Bd 127 (10 ^ 38) := by unfold Bd; decide
end Nl

namespace Nl
/-! ### sorted of tuples of ints of any lengths, the first of which is empty -/
section
open PySem PySem.W PySem.Calls PyProof.Rows SrtO
theorem lex_asym : ∀ a b : List Int, HT.lexLt a b = true → HT.lexLt b a = false
  | [], [], h => by simp [HT.lexLt] at h
  | [], _ :: _, _ => rfl
  | _ :: _, [], h => by simp [HT.lexLt] at h
  | x :: a, y :: b, h => by
    rw [HT.lexLt_cons] at h ⊢
    by_cases e : x = y
    · rw [if_pos e] at h
      rw [if_pos e.symm]
      exact lex_asym a b h
    · rw [if_neg e] at h
      rw [if_neg (Ne.symm e)]
      have := of_decide_eq_true h
      exact decide_eq_false (by omega)
theorem lex_tr : ∀ a b c : List Int, HT.lexLt b a = false → HT.lexLt c b = false → HT.lexLt c a = false
  | _, _, [], _, h => by
    rename_i a b h0
    cases b with
    | nil => exact h0
    | cons y b => simp [HT.lexLt] at h
  | _, [], z :: c, h1, h2 => by
    rename_i a
    cases a with
    | nil => rfl
    | cons x a => simp [HT.lexLt] at h1
  | [], y :: b, z :: c, _, _ => rfl
  | x :: a, y :: b, z :: c, h1, h2 => by
    rw [HT.lexLt_cons] at h1 h2 ⊢
    by_cases e : y = x
    · rw [if_pos e] at h1
      by_cases e2 : z = y
      · rw [if_pos e2] at h2
        rw [if_pos (e2.trans e)]
        exact lex_tr a b c h1 h2
      · rw [if_neg e2] at h2
        rw [if_neg (fun q => e2 (q.trans e.symm))]
        have := of_decide_eq_false h2
        exact decide_eq_false (by omega)
    · rw [if_neg e] at h1
      have q1 := of_decide_eq_false h1
      by_cases e2 : z = y
      · rw [if_neg (fun q => e (e2.symm.trans q))]
        exact decide_eq_false (by omega)
      · rw [if_neg e2] at h2
        have q2 := of_decide_eq_false h2
        rw [if_neg (by omega)]
        exact decide_eq_false (by omega)
theorem swo_path {α : Type} (k : α → List Int) : Swo fun v u => HT.lexLt (k v) (k u) := ⟨fun x y h => lex_asym _ _ h, fun x y z h1 h2 => lex_tr _ _ _ h1 h2⟩
section
variable {prog : Program} {w : World} {A : Around} {E : Value → Shared → Prop} {s : Shared}
theorem keyLt_tup {l b : Addr} {items items2 : Array Value} {ns ms : List Int} {Q : Bool → Shared → Prop} (hl : IsTup s.heap l items) (hb : IsTup s.heap b items2) (hi : IntsAre items.toList ns) (hj : IntsAre items2.toList ms)
    (hu : A.units < cLine) (h : Q (HT.lexLt ns ms) s) : wpAny (model prog w) A (keyLt' oneType' (.ref l) (.ref b)) Q E s := by
  obtain ⟨⟨cls, dd, data, sl⟩, ho, hc, n, hd⟩ := id hl
  obtain ⟨⟨cls2, dd2, data2, sl2⟩, ho2, hc2, n2, hd2⟩ := id hb
  simp only at hc hd hc2 hd2
  subst hc hd hc2 hd2
  rw [keyLt'_oneType, oneLt'_eq]
  simp only [if_true]
  refine wpAny_bind (wpAny_cRoomFor hu ?_)
  have hT : s.TypeIs (.ref l) "tuple" := ⟨_, ho, rfl⟩
  refine wpAny_bind (wpAny_callSpecialIfBound?_slot hT PySem.F.slot_tuple_lt (call_meets PySem.F.slot_tuple_lt hT PySem.F.entry_tuple_lt (PySem.F.args_tuple_lt_2 _ _) (HT.tuple_lt_ints l b items items2 n n2 dd dd2 sl sl2 ns ms hi hj) ⟨ho, ho2, ?_⟩))
  exact wpAny_truthy_bool h
/-- what firstOfTuple gives -/
theorem firsts_any : ∀ (vs : List Value) {Q : List (Option Value) → Shared → Prop}, (∀ v ∈ vs, ∃ a xs, v = .ref a ∧ IsTup s.heap a xs) →
    (∀ fs : List (Option Value), (∀ (v : Value) (r : List Value) (a : Addr) (xs : Array Value), vs = v :: r → v = .ref a → IsTup s.heap a xs → fs[0]? = some xs[0]?) → Q fs s) → wpAny (model prog w) A (vs.mapM firstOfTuple') Q E s
  | [], Q, _, h => by
    rw [List.mapM_nil]
    exact wpAny_pure (h [] fun _ _ _ _ e => by cases e)
  | v :: vs, Q, hv, h => by
    obtain ⟨a, xs, rfl, ht⟩ := hv v (List.mem_cons_self ..)
    obtain ⟨o, ho, hc, n, hd⟩ := id ht
    rw [List.mapM_cons]
    refine wpAny_bind ?_
    rw [kas_first_eq]
    refine wpAny_bind (Looks.here (show Looks (model prog w) s.heap (typeOf (.ref a)) o.cls from (Looks.ld ho).andThen .now) ?_)
    rw [hc, if_neg (by first | decide | simp)]
    refine wpAny_bind (listItems_at ho hd (wpAny_pure ?_))
    refine wpAny_bind (firsts_any vs (fun u hu => hv u (List.mem_cons_of_mem _ hu)) fun fs _ => wpAny_pure (h _ fun v' r a' xs' e1 e2 ht' => ?_))
    cases e1
    cases e2
    obtain ⟨o', ho', hc', n', hd'⟩ := ht'
    rw [ho] at ho'
    cases ho'
    rw [hd] at hd'
    cases hd'
    rfl
theorem kind_paths {vs : List Value} {Q : SortKind → Shared → Prop} (h2 : 2 ≤ vs.length) (hv : ∀ v ∈ vs, ∃ a xs, v = .ref a ∧ IsTup s.heap a xs) (h0 : ∀ (v : Value) (r : List Value), vs = v :: r → ∃ a xs, v = .ref a ∧ IsTup s.heap a xs ∧ xs[0]? = none)
    (h : Q oneType' s) : wpAny (model prog w) A (keyKind' vs.toArray) Q E s := by
  obtain ⟨v₁, v₂, rest, rfl⟩ : ∃ v₁ v₂ rest, vs = v₁ :: v₂ :: rest := by
    match vs, h2 with
    | [], h2 => simp at h2
    | [_], h2 => simp at h2
    | v₁ :: v₂ :: rest, _ => exact ⟨v₁, v₂, rest, rfl⟩
  rw [keyKind'_eq, List.mapM_toArray, map_eq_pure_bind]
  refine wpAny_bind (wpAny_bind (firsts_any _ hv fun fs hf => wpAny_pure ?_))
  obtain ⟨a, xs, ev, ht, hx⟩ := h0 v₁ (v₂ :: rest) rfl
  have f0 := hf v₁ (v₂ :: rest) a xs rfl ev ht
  rw [hx] at f0
  have hall : ¬ ((fs.toArray.all fun x => x.isSome) = true) := by
    cases fs with
    | nil => simp at f0
    | cons f fs =>
      have e : f = none := by simpa using f0
      subst e
      simp
  have h1 : (fs.toArray[0]?.bind id) = none := by
    have e : fs.toArray[0]? = some none := by simpa using f0
    rw [e]
    rfl
  rw [if_neg hall, h1]
  rw [if_neg (by simp)]
  rw [oneTypeOnly'_eq, List.mapM_toArray, map_eq_pure_bind]
  refine wpAny_bind (wpAny_bind (wpAny_bind (kas_mapM (r := Value.type "tuple") _ (fun v hm Q' hq => ?_) (wpAny_pure ?_))))
  · obtain ⟨a, xs, rfl, o, ho, hc, n, hd⟩ := hv v hm
    exact Looks.here (show Looks (model prog w) s.heap (typeOf (.ref a)) (.type "tuple") from hc ▸ (Looks.ld ho).andThen .now) hq
  · have hall : ((List.map (fun _ => Value.type "tuple") (v₁ :: v₂ :: rest)).toArray.all fun x => x == Value.type "tuple") = true := by
      simp only [List.all_toArray, List.all_map, List.all_eq_true]
      intro _ _
      simp
    have h0 : (List.map (fun _ => Value.type "tuple") (v₁ :: v₂ :: rest)).toArray[0]? = some (Value.type "tuple") := by simp
    rw [h0]
    simp only [hall, if_true]
    exact wpAny_pure (wpAny_pure h)
end
end
section
open PySem PySem.Spec PyProof.Rows L2
variable {X : Cx}
abbrev ltK (k : V → List Int) (x y : V) : Bool := HT.lexLt (k x) (k y)
def rSortP (K : PySem.W.Frag) : List V → Hp → VK → Prop := fun vs H Q => ∃ (a : Addr) (xs : List V) (k : V → List Int), vs = [V.ref a] ∧ SqL K H a xs ∧ (∀ x ∈ xs, ∃ t, x = V.ref t ∧ SqT K H t ((k x).map V.int)) ∧ (∀ x, xs[0]? = some x → k x = []) ∧
  ∀ ys p, ys.Perm xs → SrtO.Srtd (ltK k) ys → H p = none → Q (.ref p) (upd H p (.lst ys))
theorem cr_sortP (hr : Room 2 X.A) : CallR X (.builtin "sorted") (rSortP X.K) := by
  intro pins s σ H vs us Q I r h
  obtain ⟨a, xs, k, rfl, hs, hx, hx0, q⟩ := h
  obtain ⟨its, rv, hl, hz⟩ := I.list hs
  obtain ⟨u, rfl, ru⟩ := vals1 r
  obtain rfl : u = Value.ref a := ru
  obtain ⟨e1, e2⟩ := refs_back rv fun x m => by
    obtain ⟨t, e, _⟩ := hx x m
    exact ⟨t, e⟩
  have hu : X.A.in1.in1.units < cLine := by
    have h1 : Room 0 X.A.in1.in1 := Room.in1 (k := 0) (Room.in1 (k := 1) hr)
    exact h1.units0
  have tup : ∀ v ∈ its, ∃ t ws, v = Value.ref t ∧ IsTup s.heap t ws ∧ IntsAre ws.toList (k (backV v)) := fun v hv => by
    obtain ⟨t, rfl⟩ := e2 v hv
    have hm : V.ref t ∈ xs := by rw [e1]; exact List.mem_map.mpr ⟨_, hv, rfl⟩
    obtain ⟨t', e, ht⟩ := hx _ hm
    cases e
    obtain ⟨ws, rw', hw, _⟩ := I.tuple ht
    exact ⟨t, ws.toArray, rfl, hw, (show IntsAre ws (k (V.ref t)) from Vals.ints rw')⟩
  refine SrtO.sorted_ord (swo_path fun v => k (backV v)) hl.isList (by rw [← rv.length]; exact hz) (fun h2 h₁ a' ha kk => ?_) fun out h1 h2 => ?_
  · intro h' hk
    have keep : ∀ b o, s.heap.get? b = some o → h'.get? b = some o := fun b o e => hk b o (kk b o e).1 (kk b o e).2
    have tk : ∀ {t : Addr} {ws : Array Value}, IsTup s.heap t ws → IsTup h' t ws := fun ⟨o, ho, hc⟩ => ⟨o, keep _ _ ho, hc⟩
    refine ⟨oneType', fun Q' E hq => ?_, fun p q hm hm' => ?_⟩
    · refine kind_paths h2 (fun v hv => ?_) (fun v r e => ?_) hq
      · obtain ⟨t, ws, e, hw, _⟩ := tup v hv
        exact ⟨t, ws, e, tk hw⟩
      · have hv : v ∈ its := by rw [e]; exact List.mem_cons_self ..
        obtain ⟨t, ws, e', hw, hi⟩ := tup v hv
        refine ⟨t, ws, e', tk hw, ?_⟩
        have ex : xs[0]? = some (backV v) := by rw [e1, e]; rfl
        rw [hx0 _ ex] at hi
        have : ws.toList = [] := by
          generalize ws.toList = l at hi
          cases hi
          rfl
        obtain ⟨l⟩ := ws
        simp only at this
        subst this
        rfl
    · obtain ⟨t, ws, ev, hw, hi⟩ := tup _ hm
      obtain ⟨t', ws', ev', hw', hi'⟩ := tup _ hm'
      show wpAny (model X.prog X.w) X.A.in1.in1 (keyLt' oneType' p.1 q.1) (fun r s' => s' = _ ∧ r = HT.lexLt (k (backV p.1)) (k (backV q.1))) (fun _ _ => False) _
      rw [ev, ev'] at *
      exact keyLt_tup (tk hw) (tk hw') hi hi' hu ⟨rfl, rfl⟩
  · obtain ⟨ep, he'⟩ := PyProof.Rows.sortedAll_at s.heap its out.toArray
    have h3 : ∀ u ∈ out, ∃ a, u = Value.ref a := fun u hu => e2 u (h2.perm.mem_iff.mp hu)
    have hp : (out.map backV).Perm xs := by
      rw [e1]
      exact h2.perm.map backV
    refine ⟨.ref (s.heap.objs.size + 1), upd H (s.heap.objs.size + 1) (.lst (out.map backV)), I.laid (t' := s.toks) (fun _ _ => PyProof.Rows.sortedAll_old) (Nat.le_succ _) ⟨?_, out, ep, vals_back h3, he'⟩, rfl, q _ _ hp (SrtO.srtd_map h1) (I.hok.fresh (Nat.le_succ _))⟩
    rw [hp.length_eq]
    exact hz
end
end Nl

namespace Nl
open PySem PySem.Spec PyProof.Rows L2
/-! ### data that never changes: numbers, texts, None and tuples of such -/
mutual
inductive DT (K : PySem.W.Frag) (H : Hp) : V → PyData → Prop
  | non : DT K H .non .none
  | bl (b : Bool) : DT K H (.bl b) (.bool b)
  | int (i : Int) : DT K H (.int i) (.int i)
  | str (x : Str) : DT K H (.str x) (.str x)
  | tup {a : Addr} {xs : List V} {ds : List PyData} : SqT K H a xs → DTs K H xs ds → DT K H (.ref a) (.tuple ds)
inductive DTs (K : PySem.W.Frag) (H : Hp) : List V → List PyData → Prop
  | nil : DTs K H [] []
  | cons {v : V} {vs : List V} {d : PyData} {ds : List PyData} : DT K H v d → DTs K H vs ds → DTs K H (v :: vs) (d :: ds)
end
section
variable {K : PySem.W.Frag} {H H' : Hp}
mutual
theorem DT.mono (hs : ∀ a xs, SqT K H a xs → SqT K H' a xs) : ∀ (d : PyData) (v : V), DT K H v d → DT K H' v d
  | .none, _, h => by cases h; exact .non
  | .bool _, _, h => by cases h; exact .bl _
  | .int _, _, h => by cases h; exact .int _
  | .str _, _, h => by cases h; exact .str _
  | .tuple ds, _, h => by
    cases h with
    | tup h1 h2 => exact .tup (hs _ _ h1) (DTs.mono hs ds _ h2)
  | .list _, _, h => by cases h
  | .dict _, _, h => by cases h
theorem DTs.mono (hs : ∀ a xs, SqT K H a xs → SqT K H' a xs) : ∀ (ds : List PyData) (vs : List V), DTs K H vs ds → DTs K H' vs ds
  | [], _, h => by cases h; exact .nil
  | d :: ds, _, h => by
    cases h with
    | cons h1 h2 => exact .cons (DT.mono hs d _ h1) (DTs.mono hs ds _ h2)
end
mutual
theorem DT.dp : ∀ (d : PyData) (v : V), DT K H v d → Dp K H v d
  | .none, _, h => by cases h; exact .non
  | .bool _, _, h => by cases h; exact .bl _
  | .int _, _, h => by cases h; exact .int _
  | .str _, _, h => by cases h; exact .str _
  | .tuple ds, _, h => by
    cases h with
    | tup h1 h2 => exact .tup h1 (DTs.dp ds _ h2)
  | .list _, _, h => by cases h
  | .dict _, _, h => by cases h
theorem DTs.dp : ∀ (ds : List PyData) (vs : List V), DTs K H vs ds → DpAll K H vs ds
  | [], _, h => by cases h; exact .nil
  | d :: ds, _, h => by
    cases h with
    | cons h1 h2 => exact .cons (DT.dp d _ h1) (DTs.dp ds _ h2)
end
theorem sqt_same {a : Addr} {xs : List V} (s : Same H H') (h : SqT K H a xs) : SqT K H' a xs := by
  rcases h with (h | ⟨o, h⟩) | h
  · exact .inl (.inl (s _ _ h))
  · exact .inl (.inr ⟨o, s _ _ h⟩)
  · exact .inr h
/-- what stands at d is a list -/
def IsL (H : Hp) (d : Addr) : Prop := ∃ ys, H d = some (.lst ys)
theorem sqt_xt {d a : Addr} {xs : List V} (g : IsL H d) (s : Xt d H H') (h : SqT K H a xs) : SqT K H' a xs := by
  obtain ⟨ys, g⟩ := g
  rcases h with (h | ⟨o, h⟩) | h
  · exact .inl (.inl (s _ _ (ne_of h g (by intro z; cases z)) h))
  · exact .inl (.inr ⟨o, s _ _ (ne_of h g (by intro z; cases z)) h⟩)
  · exact .inr h
theorem DT.same {v : V} {d : PyData} (h : DT K H v d) (s : Same H H') : DT K H' v d := DT.mono (fun _ _ => sqt_same s) d v h
theorem DTs.same {v : List V} {d : List PyData} (h : DTs K H v d) (s : Same H H') : DTs K H' v d := DTs.mono (fun _ _ => sqt_same s) d v h
theorem DT.xt {v : V} {d : PyData} {p : Addr} (h : DT K H v d) (g : IsL H p) (s : Xt p H H') : DT K H' v d := DT.mono (fun _ _ => sqt_xt g s) d v h
theorem DTs.xt {v : List V} {d : List PyData} {p : Addr} (h : DTs K H v d) (g : IsL H p) (s : Xt p H H') : DTs K H' v d := DTs.mono (fun _ _ => sqt_xt g s) d v h
theorem DT.inv {v : V} {ds : List PyData} (h : DT K H v (.tuple ds)) : ∃ a xs, v = .ref a ∧ SqT K H a xs ∧ DTs K H xs ds := by
  cases h with
  | tup h1 h2 => exact ⟨_, _, rfl, h1, h2⟩
theorem DTs.len : ∀ {xs : List V} {ds : List PyData}, DTs K H xs ds → xs.length = ds.length
  | _, _, .nil => rfl
  | _, _, .cons _ t => congrArg (· + 1) (DTs.len t)
theorem DTs.inv1 {xs : List V} {d : PyData} (h : DTs K H xs [d]) : ∃ x, xs = [x] ∧ DT K H x d := by
  cases h with
  | cons h1 h2 =>
    cases h2
    exact ⟨_, rfl, h1⟩
theorem DTs.inv2 {xs : List V} {d e : PyData} (h : DTs K H xs [d, e]) : ∃ x y, xs = [x, y] ∧ DT K H x d ∧ DT K H y e := by
  cases h with
  | cons h1 h2 =>
    obtain ⟨y, rfl, h3⟩ := h2.inv1
    exact ⟨_, _, rfl, h1, h3⟩
theorem DT.inv2 {v : V} {d e : PyData} (h : DT K H v (.tuple [d, e])) : ∃ a x y, v = .ref a ∧ SqT K H a [x, y] ∧ DT K H x d ∧ DT K H y e := by
  obtain ⟨a, xs, rfl, h1, h2⟩ := h.inv
  obtain ⟨x, y, rfl, h3, h4⟩ := h2.inv2
  exact ⟨a, x, y, rfl, h1, h3, h4⟩
theorem DT.mk2 {a : Addr} {x y : V} {d e : PyData} (h : SqT K H a [x, y]) (h1 : DT K H x d) (h2 : DT K H y e) : DT K H (.ref a) (.tuple [d, e]) := .tup h (.cons h1 (.cons h2 .nil))
theorem DT.int_inv {v : V} {i : Int} (h : DT K H v (.int i)) : v = .int i := by cases h; rfl
theorem DTs.get : ∀ {xs : List V} {ds : List PyData} {i : Nat} {x : V}, DTs K H xs ds → xs[i]? = some x → ∃ d, ds[i]? = some d ∧ DT K H x d
  | _, _, _, _, .nil, e => by simp at e
  | _, _, 0, _, .cons r _, e => by simp at e; subst e; exact ⟨_, rfl, r⟩
  | _, _, i + 1, x, .cons _ t, e => by
    obtain ⟨u, h1, h2⟩ := DTs.get (i := i) (x := x) t (by simpa using e)
    exact ⟨u, by simpa using h1, h2⟩
theorem DTs.at_ : ∀ {xs : List V} {ds : List PyData} {i : Nat} {d : PyData}, DTs K H xs ds → ds[i]? = some d → ∃ x, xs[i]? = some x ∧ DT K H x d
  | _, _, _, _, .nil, e => by simp at e
  | _, _, 0, _, .cons r _, e => by simp at e; subst e; exact ⟨_, rfl, r⟩
  | _, _, i + 1, x, .cons _ t, e => by
    obtain ⟨u, h1, h2⟩ := DTs.at_ (i := i) (d := x) t (by simpa using e)
    exact ⟨u, by simpa using h1, h2⟩
theorem DTs.app : ∀ {xs ys : List V} {ds es : List PyData}, DTs K H xs ds → DTs K H ys es → DTs K H (xs ++ ys) (ds ++ es)
  | _, _, _, _, .nil, h => h
  | _, _, _, _, .cons a t, h => .cons a (t.app h)
theorem DTs.snoc {xs : List V} {ds : List PyData} {x : V} {d : PyData} (h : DTs K H xs ds) (g : DT K H x d) : DTs K H (xs ++ [x]) (ds ++ [d]) := h.app (.cons g .nil)
theorem DTs.drop : ∀ {xs : List V} {ds : List PyData} (n : Nat), DTs K H xs ds → DTs K H (xs.drop n) (ds.drop n)
  | _, _, 0, h => h
  | _, _, _ + 1, .nil => .nil
  | _, _, n + 1, .cons _ t => t.drop n
theorem DTs.take : ∀ {xs : List V} {ds : List PyData} (n : Nat), DTs K H xs ds → DTs K H (xs.take n) (ds.take n)
  | _, _, 0, _ => .nil
  | _, _, _ + 1, .nil => .nil
  | _, _, n + 1, .cons h t => .cons h (t.take n)
theorem DTs.ints {ns : List Int} : ∀ {xs : List V}, DTs K H xs (ns.map PyData.int) → xs = ns.map V.int := by
  induction ns with
  | nil =>
    intro xs h
    cases h
    rfl
  | cons n ns ih =>
    intro xs h
    cases h with
    | cons h1 h2 => rw [h1.int_inv, ih h2]; rfl
theorem DTs.of_ints : ∀ (ns : List Int), DTs K H (ns.map V.int) (ns.map PyData.int)
  | [] => .nil
  | _ :: r => .cons (.int _) (DTs.of_ints r)
/-- a fraction -/
theorem DT.fr_inv {v : V} {q : Int × Int} (h : DT K H v (frD q)) : ∃ p, v = .ref p ∧ SqT K H p [.int q.1, .int q.2] := by
  obtain ⟨a, x, y, rfl, h1, h2, h3⟩ := h.inv2
  rw [h2.int_inv, h3.int_inv] at h1
  exact ⟨a, rfl, h1⟩
theorem DT.fr {p : Addr} {q : Int × Int} (h : SqT K H p [.int q.1, .int q.2]) : DT K H (.ref p) (frD q) := .mk2 h (.int _) (.int _)
/-- a path -/
def pathD (p : List Int) : PyData := .tuple (p.map PyData.int)
theorem DT.path_inv {v : V} {p : List Int} (h : DT K H v (pathD p)) : ∃ a, v = .ref a ∧ SqT K H a (p.map V.int) := by
  obtain ⟨a, xs, rfl, h1, h2⟩ := h.inv
  rw [h2.ints] at h1
  exact ⟨a, rfl, h1⟩
theorem DT.path {a : Addr} {p : List Int} (h : SqT K H a (p.map V.int)) : DT K H (.ref a) (pathD p) := .tup h (.of_ints p)
end
/-! ### trees -/
abbrev Pr := (Int × Int) × (Int × Int)
inductive Node where
  | mk (ps : List Pr) (ks : List Node)
def Node.ps : Node → List Pr
  | .mk ps _ => ps
def Node.ks : Node → List Node
  | .mk _ ks => ks
def prD (p : Pr) : PyData := .tuple [frD p.1, frD p.2]
def pricesD (ps : List Pr) : PyData := .tuple (ps.map prD)
mutual
def nodeD : Node → PyData
  | .mk ps ks => .tuple [pricesD ps, .tuple (nodesD ks)]
def nodesD : List Node → List PyData
  | [] => []
  | n :: r => nodeD n :: nodesD r
end
theorem nodesD_map : ∀ ks : List Node, nodesD ks = ks.map nodeD
  | [] => rfl
  | n :: r => by rw [nodesD, nodesD_map r]; rfl
theorem nodeD_eq (n : Node) : nodeD n = .tuple [pricesD n.ps, .tuple (n.ks.map nodeD)] := by
  cases n
  rw [nodeD, nodesD_map]
  rfl
abbrev PN := List Int × Node
def entD (e : PN) : PyData := .tuple [pathD e.1, nodeD e.2]
def kidsOf (e : PN) : List PN := e.2.ks.mapIdx fun i k => (e.1 ++ [(i : Int)], k)
mutual
def pre (p : List Int) : Node → List PN
  | .mk ps ks => (p, .mk ps ks) :: pres p 0 ks
def pres (p : List Int) (i : Nat) : List Node → List PN
  | [] => []
  | n :: r => pre (p ++ [(i : Int)]) n ++ pres p (i + 1) r
end
def preE (e : PN) : List PN := pre e.1 e.2
theorem pres_eq (p : List Int) : ∀ (ks : List Node) (i : Nat), pres p i ks = (ks.mapIdx fun j k => (p ++ [((i + j : Nat) : Int)], k)).flatMap preE
  | [], i => rfl
  | n :: r, i => by
    rw [pres, List.mapIdx_cons, List.flatMap_cons, pres_eq p r (i + 1)]
    have e : ∀ j : Nat, i + 1 + j = i + (j + 1) := fun j => by omega
    simp only [Nat.add_zero, e]
    rfl
theorem preE_eq (e : PN) : preE e = e :: (kidsOf e).flatMap preE := by
  obtain ⟨p, n⟩ := e
  cases n with
  | mk ps ks =>
    show pre p (.mk ps ks) = _
    rw [pre, pres_eq]
    simp only [Nat.zero_add]
    rfl
theorem le_sum {x : Nat} : ∀ {l : List Nat}, x ∈ l → x ≤ l.sum
  | [], h => by cases h
  | y :: l, h => by
    rw [List.sum_cons]
    rcases List.mem_cons.mp h with rfl | h
    · omega
    · have := le_sum h
      omega
/-- paths behind p -/
theorem pre_ext : ∀ (n : Nat) (e x : PN), (preE e).length ≤ n → x ∈ preE e → ∃ r, x.1 = e.1 ++ r
  | 0, e, x, hl, hx => by
    rw [preE_eq] at hl
    simp at hl
  | n + 1, e, x, hl, hx => by
    rw [preE_eq] at hl hx
    rcases List.mem_cons.mp hx with rfl | hx
    · exact ⟨[], by simp⟩
    · obtain ⟨k, hk, hxk⟩ := List.mem_flatMap.mp hx
      have hlen : (preE k).length ≤ n := by
        have h1 : (preE k).length ≤ ((kidsOf e).flatMap preE).length := by
          rw [List.length_flatMap]
          exact le_sum (List.mem_map.mpr ⟨k, hk, rfl⟩)
        rw [List.length_cons] at hl
        omega
      obtain ⟨r, hr⟩ := pre_ext n k x hlen hxk
      obtain ⟨i, hi, rfl⟩ := List.mem_mapIdx.mp hk
      exact ⟨(i : Int) :: r, by rw [hr]; simp⟩
theorem pre_len : ∀ (n : Nat) (e x : PN), (preE e).length ≤ n → x ∈ preE e → x.1.length < e.1.length + (preE e).length
  | 0, e, x, hl, hx => by
    rw [preE_eq] at hl
    simp at hl
  | n + 1, e, x, hl, hx => by
    rw [preE_eq] at hl hx
    rcases List.mem_cons.mp hx with rfl | hx
    · have : 0 < (preE x).length := by rw [preE_eq]; simp
      omega
    · obtain ⟨k, hk, hxk⟩ := List.mem_flatMap.mp hx
      have h1 : (preE k).length ≤ ((kidsOf e).flatMap preE).length := by
        rw [List.length_flatMap]
        exact le_sum (List.mem_map.mpr ⟨k, hk, rfl⟩)
      rw [List.length_cons] at hl
      have h2 := pre_len n k x (by omega) hxk
      obtain ⟨i, hi, rfl⟩ := List.mem_mapIdx.mp hk
      have h3 : (preE e).length = 1 + ((kidsOf e).flatMap preE).length := by rw [preE_eq]; simp; omega
      simp only [List.length_append, List.length_singleton] at h2
      omega
section
variable {X : Cx}
theorem OpR.imp {f : Value → Value → Sem Value} {r r' : R2} (h : OpR X f r) (hi : ∀ x y H Q, r' x y H Q → r x y H Q) : OpR X f r' := fun pins s σ H x y v u Q I rx ry q => h pins s σ H x y v u Q I rx ry (hi _ _ _ _ q)
def rCatP (K : PySem.W.Frag) : R2 := fun x y H Q => ∃ a b xs ys, x = .ref a ∧ y = .ref b ∧ SqT K H a xs ∧ SqT K H b ys ∧ xs.length + ys.length ≤ sizeLine ∧ ∀ p H', Same H H' → SqT K H' p (xs ++ ys) → Q (.ref p) H'
theorem op_catP : OpR X (binaryOp .Add) (rCatP X.K) := OpR.imp op_catA fun x y H Q ⟨a, b, xs, ys, ex, ey, ha, hb, hl, q⟩ => ⟨a, b, xs, ys, ex, ey, ha, hb, hl,
  fun e => q b H (Same.refl H) (by rw [e]; exact hb), fun _ e => q a H (Same.refl H) (by rw [e, List.append_nil]; exact ha), fun _ _ p hp => q p _ (same_new hp) (SqT.of upd_same)⟩
theorem SlR.imp {r r' : V → Option Int → Option Int → Hp → VK → Prop} (h : SlR X r) (hi : ∀ x lo u H Q, r' x lo u H Q → r x lo u H Q) : SlR X r' := fun pins s σ H x v vl vu lo u sl Q I rx hs pl pu q => h pins s σ H x v vl vu lo u sl Q I rx hs pl pu (hi _ _ _ _ _ q)
def rSlP (K : PySem.W.Frag) : V → Option Int → Option Int → Hp → VK → Prop := fun x lo u H Q => ∃ a xs, x = .ref a ∧ SqT K H a xs ∧ ∀ p H', Same H H' → SqT K H' p (cutV xs lo u) → Q (.ref p) H'
theorem cut_whole {xs : List V} {lo u : Option Int} (h : HT.sIx xs.length 0 lo = 0 ∧ HT.sIx xs.length xs.length u = xs.length) : cutV xs lo u = xs := by
  unfold cutV
  rw [h.1, h.2]
  simp
theorem sl_tupP : SlR X (rSlP X.K) := SlR.imp sl_tupA fun x lo u H Q ⟨a, xs, e, ha, q⟩ => ⟨a, xs, e, ha, fun h => q a H (Same.refl H) (by rw [cut_whole h]; exact ha), fun _ p hp => q p _ (same_new hp) (SqT.of upd_same)⟩
end
def tTruK (K : PySem.W.Frag) (ta : TE) : TT := fun σ H Q => ta σ H fun x H' => ∃ k, TruV K x H' k ∧ Q k H'
theorem same_mut {H H' : Hp} {p : Addr} {o : HO} (e : Same H H') (h : H p = none) : Same H (upd H' p o) := fun a u ha => by
  rw [upd_ne (ne_of_none ha h)]
  exact e a u ha
def cmpF (p q : Int × Int) : Int := if p.1 * q.2 < q.1 * p.2 then -1 else if q.1 * p.2 < p.1 * q.2 then 1 else 0
def FB (p : Int × Int) : Prop := Bd 3000 p.1 ∧ Bd 3000 p.2
theorem FB.of {k : Nat} {p : Int × Int} (h : Ok k p) (hk : k ≤ 3000) : FB p := ⟨h.b1.mono hk, h.b2.mono hk⟩
theorem fb_zero : FB (0, 1) := FB.of ok_zero (by decide)
theorem mulF3 {i j : Int} (ha : Bd 3000 i) (hb : Bd 3000 j) : CMulW i j := mulX ha hb
def PrK (k : Nat) (p : Pr) : Prop := Ok k p.1 ∧ Ok k p.2
theorem PrK.mono {k m : Nat} {p : Pr} (h : PrK k p) (e : k ≤ m) : PrK m p := ⟨h.1.mono e, h.2.mono e⟩
abbrev PrB (p : Pr) : Prop := PrK 2000 p
def badPr (p : Pr) : Prop := cmpF p.2 (0, 1) < 0 ∨ cmpF p.1 p.2 < 0
def badPs (g : Int) (ps : List Pr) : Prop := (ps.length : Int) ≠ g - 1 ∨ ∃ p ∈ ps, badPr p
def marketD (g : Int) (n : Node) : PyData := .tuple [.int g, nodeD n]
def NodeB (n : Node) : Prop := ∀ e ∈ pre [] n, ∀ p ∈ e.2.ps, PrB p
theorem len1000 {n : Nat} (h : n ≤ 1000) : n ≤ sizeLine := Nat.le_trans h (by decide)
theorem kids_get {e : PN} {i : Nat} {k : Node} (h : e.2.ks[i]? = some k) : (kidsOf e)[i]? = some (e.1 ++ [(i : Int)], k) := by
  unfold kidsOf
  rw [List.getElem?_mapIdx, h]
  rfl
theorem kids_len (e : PN) : (kidsOf e).length = e.2.ks.length := List.length_mapIdx
theorem preE_pos (e : PN) : 0 < (preE e).length := by
  rw [preE_eq]
  simp
theorem kids_le (e : PN) : (kidsOf e).length < (preE e).length := by
  rw [preE_eq, List.length_cons, List.length_flatMap]
  have : ∀ l : List PN, l.length ≤ (l.map fun a => (preE a).length).sum := by
    intro l
    induction l with
    | nil => simp
    | cons a l ih =>
      have := preE_pos a
      simp only [List.map_cons, List.sum_cons, List.length_cons]
      omega
  have := this (kidsOf e)
  omega
theorem DT.entD_inv {K : PySem.W.Frag} {H : Hp} {v : V} {e : PN} (h : DT K H v (entD e)) : ∃ a x y, v = .ref a ∧ SqT K H a [x, y] ∧ DT K H x (pathD e.1) ∧ DT K H y (nodeD e.2) := h.inv2
theorem DT.node_inv {K : PySem.W.Frag} {H : Hp} {v : V} {n : Node} (h : DT K H v (nodeD n)) : ∃ a x y, v = .ref a ∧ SqT K H a [x, y] ∧ DT K H x (pricesD n.ps) ∧ DT K H y (.tuple (n.ks.map nodeD)) := by
  rw [nodeD_eq] at h
  exact h.inv2
theorem DT.market_inv {K : PySem.W.Frag} {H : Hp} {v : V} {g : Int} {n : Node} (h : DT K H v (marketD g n)) : ∃ a y, v = .ref a ∧ SqT K H a [.int g, y] ∧ DT K H y (nodeD n) := by
  obtain ⟨a, x, y, rfl, h1, h2, h3⟩ := h.inv2
  rw [h2.int_inv] at h1
  exact ⟨a, y, rfl, h1, h3⟩
theorem len_le_flat : ∀ l : List PN, l.length ≤ (l.flatMap preE).length
  | [] => by simp
  | a :: l => by
    have := preE_pos a
    have := len_le_flat l
    simp only [List.flatMap_cons, List.length_append, List.length_cons]
    omega
/-- the node at a path -/
def find : Node → List Int → Option Node
  | n, [] => some n
  | n, i :: r => if 0 ≤ i then (n.ks[i.toNat]?).bind fun k => find k r else none
theorem find_cons (n : Node) (i : Nat) (r : List Int) : find n ((i : Int) :: r) = (n.ks[i]?).bind fun k => find k r := by
  rw [find, if_pos (by omega)]
  rfl
theorem find_out {n : Node} {i : Int} {r : List Int} (h : ¬ (0 ≤ i ∧ i < (n.ks.length : Int))) : find n (i :: r) = none := by
  rw [find]
  by_cases h0 : 0 ≤ i
  · rw [if_pos h0, List.getElem?_eq_none (by omega)]
    rfl
  · rw [if_neg h0]
theorem pre_find : ∀ (n : Nat) (e x : PN), (preE e).length ≤ n → x ∈ preE e → ∃ r, x.1 = e.1 ++ r ∧ find e.2 r = some x.2
  | 0, e, x, hl, hx => by
    rw [preE_eq] at hl
    simp at hl
  | n + 1, e, x, hl, hx => by
    rw [preE_eq] at hl hx
    rcases List.mem_cons.mp hx with rfl | hx
    · exact ⟨[], by simp, rfl⟩
    · obtain ⟨k, hk, hxk⟩ := List.mem_flatMap.mp hx
      have h1 : (preE k).length ≤ ((kidsOf e).flatMap preE).length := by
        rw [List.length_flatMap]
        exact le_sum (List.mem_map.mpr ⟨k, hk, rfl⟩)
      rw [List.length_cons] at hl
      obtain ⟨r, hr, hf⟩ := pre_find n k x (by omega) hxk
      obtain ⟨i, hi, rfl⟩ := List.mem_mapIdx.mp hk
      refine ⟨(i : Int) :: r, by rw [hr]; simp, ?_⟩
      rw [find_cons, List.getElem?_eq_getElem hi]
      exact hf
/-- the times of the ends -/
def endLens (n : Node) : List Nat := ((pre [] n).filter fun e => e.2.ks.isEmpty).map fun e => e.1.length
theorem some_end : ∀ (n : Nat) (e : PN), (preE e).length ≤ n → ∃ x ∈ preE e, x.2.ks = []
  | 0, e, hl => by
    rw [preE_eq] at hl
    simp at hl
  | n + 1, e, hl => by
    cases hk : e.2.ks with
    | nil => exact ⟨e, by rw [preE_eq]; exact List.mem_cons_self .., hk⟩
    | cons k ks =>
      have h0 : (kidsOf e)[0]? = some (e.1 ++ [((0 : Nat) : Int)], k) := kids_get (by rw [hk]; rfl)
      have hm := List.mem_of_getElem? h0
      have h1 : (preE (e.1 ++ [((0 : Nat) : Int)], k)).length ≤ ((kidsOf e).flatMap preE).length := by
        rw [List.length_flatMap]
        exact le_sum (List.mem_map.mpr ⟨_, hm, rfl⟩)
      rw [preE_eq, List.length_cons] at hl
      obtain ⟨x, hx, hz⟩ := some_end n _ (Nat.le_trans h1 (by omega))
      refine ⟨x, ?_, hz⟩
      rw [preE_eq]
      exact List.mem_cons_of_mem _ (List.mem_flatMap.mpr ⟨_, hm, hx⟩)
theorem ends_pos (n : Node) : 0 < (endLens n).length := by
  obtain ⟨x, hx, hz⟩ := some_end _ ([], n) (Nat.le_refl _)
  unfold endLens
  rw [List.length_map]
  exact List.length_pos_of_mem (List.mem_filter.mpr ⟨hx, by rw [hz]; rfl⟩)
def BadM (g : Int) (n : Node) : Prop := ¬ (1 ≤ g ∧ g ≤ 4) ∨ (∃ e ∈ pre [] n, badPs g e.2.ps) ∨ ∃ a ∈ endLens n, ∃ b ∈ endLens n, a ≠ b
def BigM (n : Node) : Prop := 40 < (pre [] n).length ∨ ∃ a ∈ endLens n, 5 < a
theorem tru_tup {K : PySem.W.Frag} {H : Hp} {a : Addr} {xs : List V} (h : SqT K H a xs) : TruV K (.ref a) H (!xs.isEmpty) := .inr (.inl ⟨xs, h, rfl⟩)
theorem tru_tup' {K : PySem.W.Frag} {H : Hp} {a : Addr} {xs : List V} {b : Bool} (h : SqT K H a xs) (e : xs.isEmpty = b) : TruV K (.ref a) H (!b) := .inr (.inl ⟨xs, h, by rw [e]⟩)
theorem tru_lst {K : PySem.W.Frag} {H : Hp} {a : Addr} {xs : List V} (h : SqL K H a xs) : TruV K (.ref a) H (!xs.isEmpty) := .inl ⟨xs, h, rfl⟩
theorem filter_next {α : Type} {l : List α} {i : Nat} {x : α} {p : α → Bool} (h : l[i]? = some x) : (l.take (i + 1)).filter p = (l.take i).filter p ++ (if p x then [x] else []) := by
  rw [take_next h, List.filter_append]
  congr 1
  by_cases hp : p x
  · simp [hp]
  · simp [hp]
theorem find_preE : ∀ (r : List Int) (e : PN) (m : Node), find e.2 r = some m → (e.1 ++ r, m) ∈ preE e
  | [], e, m, h => by
    have : e.2 = m := Option.some.inj h
    rw [preE_eq, List.append_nil, ← this]
    exact List.mem_cons_self ..
  | i :: r, e, m, h => by
    by_cases hi : 0 ≤ i ∧ i < (e.2.ks.length : Int)
    · obtain ⟨j, rfl⟩ := Int.eq_ofNat_of_zero_le hi.1
      have hk : e.2.ks[j]? = some e.2.ks[j] := List.getElem?_eq_getElem (by omega)
      rw [find_cons, hk] at h
      have ih := find_preE r (e.1 ++ [(j : Int)], e.2.ks[j]) m h
      rw [preE_eq]
      refine List.mem_cons_of_mem _ (List.mem_flatMap.mpr ⟨_, List.mem_of_getElem? (kids_get hk), ?_⟩)
      simpa using ih
    · rw [find_out hi] at h
      cases h
theorem find_pre (n : Node) (p : List Int) (m : Node) (h : find n p = some m) : ∃ e ∈ pre [] n, e.2 = m := ⟨_, find_preE p ([], n) m h, rfl⟩
/-! ### drawn markets -/
def leF (p q : Int × Int) : Prop := p.1 * q.2 ≤ q.1 * p.2
theorem frac_nonneg {a b : Int} (ha : 0 ≤ a) (hb : 0 < b) : 0 ≤ (frac a b).1 := by
  have c := frac_cross (a := a) (show b ≠ 0 by omega)
  have l := (frac_low (a := a) (show b ≠ 0 by omega)).pos
  by_cases h : 0 ≤ (frac a b).1
  · exact h
  · have h1 := Int.mul_neg_of_neg_of_pos (show (frac a b).1 < 0 by omega) hb
    have h2 := Int.mul_nonneg ha (Int.le_of_lt l)
    omega
theorem frac_le {a b c : Int} (hb : 0 < b) (h : a ≤ c) : leF (frac a b) (frac c b) := by
  have h1 := frac_cross (a := a) (show b ≠ 0 by omega)
  have h2 := frac_cross (a := c) (show b ≠ 0 by omega)
  have l1 := (frac_low (a := a) (show b ≠ 0 by omega)).pos
  have l2 := (frac_low (a := c) (show b ≠ 0 by omega)).pos
  unfold leF
  generalize frac a b = x at *
  generalize frac c b = y at *
  have e1 : x.1 * y.2 * b = a * (x.2 * y.2) := by
    rw [Int.mul_assoc, Int.mul_comm y.2 b, ← Int.mul_assoc, h1, Int.mul_assoc]
  have e2 : y.1 * x.2 * b = c * (x.2 * y.2) := by
    rw [Int.mul_assoc, Int.mul_comm x.2 b, ← Int.mul_assoc, h2, Int.mul_assoc, Int.mul_comm y.2 x.2]
  have h3 : x.1 * y.2 * b ≤ y.1 * x.2 * b := by
    rw [e1, e2]
    exact Int.mul_le_mul_of_nonneg_right h (Int.le_of_lt (Int.mul_pos l1 l2))
  exact Int.le_of_mul_le_mul_right h3 hb
theorem cmp_le {p q : Int × Int} (h : leF q p) : ¬ cmpF p q < 0 := by
  unfold leF at h
  unfold cmpF
  rw [if_neg (by omega)]
  split <;> omega
theorem cmp_zero {p : Int × Int} (h : 0 ≤ p.1) : ¬ cmpF p (0, 1) < 0 := cmp_le (by
  unfold leF
  simp
  exact h)
theorem good_pair {m s : Int × Int} (hm : 0 ≤ m.1) (pm : 0 < m.2) (hs : 0 ≤ s.1) (ps : 0 < s.2) (low : Int × Int) (hl : low = subF m s ∧ 0 ≤ low.1 ∨ low = (0, 1)) : ¬ badPr (addF m s, low) := by
  have den := Int.mul_pos pm ps
  rintro (h | h)
  · rcases hl with ⟨rfl, h0⟩ | rfl
    · exact cmp_zero h0 h
    · exact cmp_zero (p := (0, 1)) (by decide) h
  · have h1 : 0 ≤ m.1 * s.2 := Int.mul_nonneg hm (Int.le_of_lt ps)
    have h2 : 0 ≤ s.1 * m.2 := Int.mul_nonneg hs (Int.le_of_lt pm)
    rcases hl with ⟨rfl, h0⟩ | rfl
    · exact cmp_le (frac_le den (by omega)) h
    · exact cmp_zero (frac_nonneg (by omega) den) h
structure PsOk (g : Int) (ps : List Pr) : Prop where
  len : (ps.length : Int) = g - 1
  good : ∀ p ∈ ps, ¬ badPr p
  b : ∀ p ∈ ps, PrK 1001 p
theorem PsOk.bad {g : Int} {ps : List Pr} (h : PsOk g ps) : ¬ badPs g ps := by
  rintro (z | ⟨p, hp, z⟩)
  · exact z h.len
  · exact h.good p hp z
def NV (g : Int) : Nat → Node → Prop
  | 0, n => PsOk g n.ps ∧ n.ks = []
  | m + 1, n => PsOk g n.ps ∧ 0 < n.ks.length ∧ n.ks.length ≤ 3 ∧ ∀ k ∈ n.ks, NV g m k
def cnt : Nat → Nat
  | 0 => 1
  | m + 1 => 1 + 3 * cnt m
theorem NV.ps {g : Int} : ∀ {m : Nat} {n : Node}, NV g m n → PsOk g n.ps
  | 0, _, h => h.1
  | _ + 1, _, h => h.1
theorem nv_pre {g : Int} : ∀ (m : Nat) (e : PN), NV g m e.2 → (∀ x ∈ preE e, PsOk g x.2.ps ∧ x.2.ks.length ≤ 3 ∧ x.1.length ≤ e.1.length + m ∧ (x.2.ks = [] → x.1.length = e.1.length + m)) ∧ (preE e).length ≤ cnt m
  | 0, e, h => by
    have hk : kidsOf e = [] := by
      unfold kidsOf
      rw [h.2]
      rfl
    rw [preE_eq, hk]
    refine ⟨fun x hx => ?_, by simp [cnt]⟩
    simp at hx
    subst hx
    exact ⟨h.1, by rw [h.2]; simp, by simp, fun _ => rfl⟩
  | m + 1, e, h => by
    obtain ⟨h1, h2, h3, h4⟩ := h
    have ih : ∀ k ∈ kidsOf e, (∀ x ∈ preE k, PsOk g x.2.ps ∧ x.2.ks.length ≤ 3 ∧ x.1.length ≤ e.1.length + (m + 1) ∧ (x.2.ks = [] → x.1.length = e.1.length + (m + 1))) ∧ (preE k).length ≤ cnt m := by
      intro k hk
      obtain ⟨i, hi, rfl⟩ := List.mem_mapIdx.mp hk
      obtain ⟨a, b⟩ := nv_pre m (e.1 ++ [(i : Int)], e.2.ks[i]) (h4 _ (List.getElem_mem hi))
      refine ⟨fun x hx => ?_, b⟩
      obtain ⟨q1, q2, q3, q4⟩ := a x hx
      simp only [List.length_append, List.length_singleton] at q3 q4
      exact ⟨q1, q2, by omega, fun z => by have := q4 z; omega⟩
    rw [preE_eq]
    refine ⟨fun x hx => ?_, ?_⟩
    · rcases List.mem_cons.mp hx with rfl | hx
      · exact ⟨h1, h3, by omega, fun z => by rw [z] at h2; simp at h2⟩
      · obtain ⟨k, hk, hx⟩ := List.mem_flatMap.mp hx
        exact (ih k hk).1 x hx
    · have : ∀ l : List PN, (∀ k ∈ l, (preE k).length ≤ cnt m) → (l.flatMap preE).length ≤ l.length * cnt m := by
        intro l
        induction l with
        | nil => simp
        | cons a l ih =>
          intro hl
          have a1 := hl a (by simp)
          have a2 := ih fun k hk => hl k (by simp [hk])
          simp only [List.flatMap_cons, List.length_append, List.length_cons, Nat.add_mul]
          omega
      have q := this (kidsOf e) fun k hk => (ih k hk).2
      rw [kids_len] at q
      have q2 := Nat.mul_le_mul_right (cnt m) h3
      simp only [List.length_cons, cnt]
      omega
theorem nv_good {g : Int} {m : Nat} {n : Node} (h : NV g m n) (hm : m ≤ 2) (h1 : 1 ≤ g) (h4 : g ≤ 4) : (¬ BadM g n ∧ ¬ BigM n) ∧ NodeB n ∧ (pre [] n).length ≤ 13 := by
  obtain ⟨a, b⟩ := nv_pre m ([], n) h
  have c13 : cnt m ≤ 13 := by
    match m, hm with
    | 0, _ => decide
    | 1, _ => decide
    | 2, _ => decide
  have lens : ∀ x ∈ endLens n, x = m := by
    intro x hx
    obtain ⟨e, he, rfl⟩ := List.mem_map.mp hx
    obtain ⟨he1, he2⟩ := List.mem_filter.mp he
    have := (a e he1).2.2.2 (List.isEmpty_iff.mp he2)
    simpa using this
  refine ⟨⟨?_, ?_⟩, fun e he p hp => ((a e he).1.b p hp).mono (by decide), Nat.le_trans b c13⟩
  · rintro (z | ⟨e, he, z⟩ | ⟨x, hx, y, hy, z⟩)
    · exact z ⟨h1, h4⟩
    · exact (a e he).1.bad z
    · exact z ((lens x hx).trans (lens y hy).symm)
  · rintro (z | ⟨x, hx, z⟩)
    · have : (pre [] n).length ≤ 13 := Nat.le_trans b c13
      omega
    · have := lens x hx
      omega
def kb : Nat → Nat
  | 0 => 4
  | m + 1 => 3 * kb m + 14
theorem xt_mut {H H' : Hp} {d p : Addr} {o : HO} (e : Xt d H H') (h : H p = none) : Xt d H (upd H' p o) := fun a u na ha => by
  rw [upd_ne (ne_of_none ha h)]
  exact e a u na ha
theorem xt_free {H H' : Hp} {d p : Addr} (e : Xt d H H') (hd : p ≠ d) (h : H' p = none) : H p = none := by
  cases q : H p with
  | none => rfl
  | some o =>
    rw [e p o hd q] at h
    cases h
/-- a drawn node with its mids -/
def ChildP (K : PySem.W.Frag) (ex : List Addr) (H : Hp) (v : V) (c : Node × List (Int × Int)) : Prop := ∃ a vn pm xs, v = .ref a ∧ SqT K H a [vn, .ref pm] ∧ DT K H vn (nodeD c.1) ∧ H pm = some (.lst xs) ∧ DTs K H xs (c.2.map frD) ∧ ∀ x ∈ ex, pm ≠ x
theorem ChildP.xt {K : PySem.W.Frag} {ex : List Addr} {H H' : Hp} {v : V} {c : Node × List (Int × Int)} {p : Addr} (h : ChildP K ex H v c) (hp : p ∈ ex) (g : IsL H p) (s : Xt p H H') : ChildP K ex H' v c := by
  obtain ⟨a, vn, pm, xs, rfl, h1, h2, h3, h4, h5⟩ := h
  exact ⟨a, vn, pm, xs, rfl, sqt_xt g s h1, h2.xt g s, s _ _ (h5 p hp) h3, h4.xt g s, h5⟩
theorem Dst.isL {H : Hp} {pd ps : Addr} (h : Dst H pd ps) : IsL H pd := h.lst
def All2 {β : Type} (P : V → β → Prop) (xs : List V) (cs : List β) : Prop := xs.length = cs.length ∧ ∀ (i : Nat) (x : V), xs[i]? = some x → ∃ c, cs[i]? = some c ∧ P x c
theorem All2.nil {β : Type} {P : V → β → Prop} : All2 P [] [] := ⟨rfl, fun i x e => by simp at e⟩
theorem All2.imp {β : Type} {P Q : V → β → Prop} {xs : List V} {cs : List β} (h : All2 P xs cs) (f : ∀ x c, P x c → Q x c) : All2 Q xs cs := ⟨h.1, fun i x e => by
  obtain ⟨c, h1, h2⟩ := h.2 i x e
  exact ⟨c, h1, f _ _ h2⟩⟩
theorem All2.snoc {β : Type} {P : V → β → Prop} {xs : List V} {cs : List β} {v : V} {q : β} (h : All2 P xs cs) (g : P v q) : All2 P (xs ++ [v]) (cs ++ [q]) := by
  refine ⟨by simp [h.1], fun i x e => ?_⟩
  by_cases hi : i < xs.length
  · rw [List.getElem?_append_left hi] at e
    obtain ⟨z, h1, h2⟩ := h.2 i x e
    exact ⟨z, by rw [List.getElem?_append_left (by rw [← h.1]; exact hi)]; exact h1, h2⟩
  · have hl := (List.getElem?_eq_some_iff.mp e).1
    rw [List.length_append, List.length_singleton] at hl
    have ei : i = xs.length := by omega
    subst ei
    rw [List.getElem?_concat_length] at e
    cases e
    exact ⟨q, by rw [h.1, List.getElem?_concat_length], g⟩
theorem All2.at_ {β : Type} {P : V → β → Prop} {xs : List V} {cs : List β} {i : Nat} {c : β} (h : All2 P xs cs) (e : cs[i]? = some c) : ∃ x, xs[i]? = some x ∧ P x c := by
  have il := (List.getElem?_eq_some_iff.mp e).1
  obtain ⟨c', h1, h2⟩ := h.2 i _ (List.getElem?_eq_getElem (by rw [h.1]; exact il))
  rw [e] at h1
  cases h1
  exact ⟨_, List.getElem?_eq_getElem (by rw [h.1]; exact il), h2⟩
/-! ### sorted paths -/
section
variable {X : Cx}
def rSortQ (K : PySem.W.Frag) : List V → Hp → VK → Prop := fun vs H Q => ∃ (a : Addr) (xs : List V) (ps : List (List Int)), vs = [V.ref a] ∧ SqL K H a xs ∧ DTs K H xs (ps.map pathD) ∧ (∀ p, ps[0]? = some p → p = []) ∧
  ∀ (ys : List V) (k : V → List Int) (p : Addr), ys.Perm xs → xs.map k = ps → SrtO.Srtd (ltK k) ys → H p = none → Q (.ref p) (upd H p (.lst ys))
theorem map_int_inj : ∀ {a b : List Int}, a.map V.int = b.map V.int → a = b
  | [], [], _ => rfl
  | [], _ :: _, h => by cases h
  | _ :: _, [], h => by cases h
  | x :: a, y :: b, h => by
    simp only [List.map_cons, List.cons.injEq, V.int.injEq] at h
    rw [h.1, map_int_inj h.2]
open Classical in
theorem cr_sortQ (hr : Room 2 X.A) : CallR X (.builtin "sorted") (rSortQ X.K) := by
  intro pins s σ H vs us Q I r h
  obtain ⟨a, xs, ps, rfl, hs, hd, h0, q⟩ := h
  let k : V → List Int := fun x => if h : ∃ p : List Int, ∃ t, x = V.ref t ∧ SqT X.K H t (p.map V.int) then h.choose else []
  have lx : xs.length = ps.length := by rw [hd.len, List.length_map]
  have key : ∀ (i : Nat) (x : V), xs[i]? = some x → ∃ t, x = V.ref t ∧ SqT X.K H t ((k x).map V.int) ∧ ps[i]? = some (k x) := by
    intro i x hx
    obtain ⟨d, hd1, hd2⟩ := hd.get hx
    rw [List.getElem?_map] at hd1
    obtain ⟨p, hp, rfl⟩ := Option.map_eq_some_iff.mp hd1
    obtain ⟨t, rfl, ht⟩ := hd2.path_inv
    have ex : ∃ p : List Int, ∃ t', V.ref t = V.ref t' ∧ SqT X.K H t' (p.map V.int) := ⟨p, t, rfl, ht⟩
    have ek : k (V.ref t) = ex.choose := dif_pos ex
    obtain ⟨t', e', ht'⟩ := ex.choose_spec
    cases e'
    rw [← ek] at ht'
    have := map_int_inj (I.tuple_inj ht' ht)
    exact ⟨t, rfl, ht', by rw [this]; exact hp⟩
  refine cr_sortP hr pins s σ H _ us Q I r ⟨a, xs, k, rfl, hs, fun x hx => ?_, fun x hx => ?_, fun ys p hp hq hf => q ys k p hp ?_ hq hf⟩
  · obtain ⟨i, hi, rfl⟩ := List.mem_iff_getElem.mp hx
    obtain ⟨t, e, ht, _⟩ := key i _ (List.getElem?_eq_getElem hi)
    exact ⟨t, e, ht⟩
  · obtain ⟨t, e, ht, hp⟩ := key 0 x hx
    exact h0 _ hp
  · refine List.ext_getElem? fun i => ?_
    rw [List.getElem?_map]
    cases hx : xs[i]? with
    | none =>
      rw [List.getElem?_eq_none_iff] at hx
      rw [List.getElem?_eq_none (by omega)]
      rfl
    | some x =>
      obtain ⟨t, e, ht, hp⟩ := key i x hx
      rw [hp]
      rfl
end
theorem lex_pre (p a b : List Int) : HT.lexLt (p ++ a) (p ++ b) = HT.lexLt a b := by
  induction p with
  | nil => rfl
  | cons x p ih =>
    rw [List.cons_append, List.cons_append, HT.lexLt_cons, if_pos rfl]
    exact ih
theorem lex_anti : ∀ a b : List Int, HT.lexLt a b = false → HT.lexLt b a = false → a = b
  | [], [], _, _ => rfl
  | [], _ :: _, h, _ => by simp [HT.lexLt] at h
  | _ :: _, [], _, h => by simp [HT.lexLt] at h
  | x :: a, y :: b, h1, h2 => by
    rw [HT.lexLt_cons] at h1 h2
    by_cases e : x = y
    · rw [if_pos e] at h1
      rw [if_pos e.symm] at h2
      rw [e, lex_anti a b h1 h2]
    · rw [if_neg e] at h1
      rw [if_neg (Ne.symm e)] at h2
      have q1 := of_decide_eq_false h1
      have q2 := of_decide_eq_false h2
      exact absurd (show x = y by omega) e
theorem uniq_srt : ∀ {l m : List (List Int)}, l.Perm m → (l.Pairwise fun a b => HT.lexLt b a = false) → (m.Pairwise fun a b => HT.lexLt b a = false) → l = m
  | [], m, h, _, _ => (List.Perm.nil_eq h)
  | x :: l, [], h, _, _ => absurd h.length_eq (by simp)
  | x :: l, y :: m, h, h1, h2 => by
    have e : x = y := by
      rcases List.mem_cons.mp (h.mem_iff.mp (List.mem_cons_self (a := x) (l := l))) with e | hx
      · exact e
      · rcases List.mem_cons.mp (h.mem_iff.mpr (List.mem_cons_self (a := y) (l := m))) with e | hy
        · exact e.symm
        · exact lex_anti x y ((List.pairwise_cons.mp h2).1 x hx) ((List.pairwise_cons.mp h1).1 y hy)
    subst e
    rw [uniq_srt h.cons_inv (List.pairwise_cons.mp h1).2 (List.pairwise_cons.mp h2).2]
theorem pre_sorted : ∀ (n : Nat) (e : PN), (preE e).length ≤ n → (preE e).Pairwise fun a b => HT.lexLt a.1 b.1 = true
  | 0, e, h => by
    rw [preE_eq] at h
    simp at h
  | n + 1, e, h => by
    have hk : ∀ k ∈ kidsOf e, (preE k).length ≤ n := by
      intro k hk
      have h1 : (preE k).length ≤ ((kidsOf e).flatMap preE).length := by
        rw [List.length_flatMap]
        exact le_sum (List.mem_map.mpr ⟨_, hk, rfl⟩)
      rw [preE_eq, List.length_cons] at h
      omega
    rw [preE_eq]
    refine List.pairwise_cons.mpr ⟨fun x hx => ?_, List.pairwise_flatMap.mpr ⟨fun k hk' => pre_sorted n k (hk k hk'), ?_⟩⟩
    · obtain ⟨k, hk', hx⟩ := List.mem_flatMap.mp hx
      obtain ⟨r, hr⟩ := pre_ext n k x (hk k hk') hx
      obtain ⟨i, hi, rfl⟩ := List.mem_mapIdx.mp hk'
      rw [hr, List.append_assoc]
      have := lex_pre e.1 [] ([(i : Int)] ++ r)
      rw [List.append_nil] at this
      rw [this]
      rfl
    · rw [List.pairwise_iff_getElem]
      intro i j hi hj hij x hx y hy
      have ei : (kidsOf e)[i] = (e.1 ++ [(i : Int)], e.2.ks[i]'(by rw [kids_len] at hi; exact hi)) := Option.some.inj ((List.getElem?_eq_getElem hi).symm.trans (kids_get (List.getElem?_eq_getElem _)))
      have ej : (kidsOf e)[j] = (e.1 ++ [(j : Int)], e.2.ks[j]'(by rw [kids_len] at hj; exact hj)) := Option.some.inj ((List.getElem?_eq_getElem hj).symm.trans (kids_get (List.getElem?_eq_getElem _)))
      obtain ⟨r, hr⟩ := pre_ext n _ x (hk _ (List.getElem_mem hi)) hx
      obtain ⟨q, hq⟩ := pre_ext n _ y (hk _ (List.getElem_mem hj)) hy
      rw [ei] at hr
      rw [ej] at hq
      rw [hr, hq, List.append_assoc, List.append_assoc, lex_pre]
      show HT.lexLt ((i : Int) :: r) ((j : Int) :: q) = true
      rw [HT.lexLt_cons, if_neg (by omega)]
      exact decide_eq_true (by omega)
theorem flat_perm : ∀ F : List PN, (F.flatMap preE).Perm (F ++ (F.flatMap kidsOf).flatMap preE)
  | [] => by simp
  | e :: F => by
    have ih := flat_perm F
    rw [List.flatMap_cons, preE_eq, List.flatMap_cons, List.flatMap_append, List.cons_append, List.cons_append]
    refine List.Perm.cons e ?_
    refine (List.Perm.append_left _ ih).trans ?_
    rw [← List.append_assoc, ← List.append_assoc]
    exact List.Perm.append_right _ List.perm_append_comm
def lv (n : Node) : Nat → List PN
  | 0 => [([], n)]
  | t + 1 => (lv n t).flatMap kidsOf
def rowsN (n : Node) : Nat → List PN
  | 0 => []
  | t + 1 => rowsN n t ++ lv n t
theorem rows_perm (n : Node) : ∀ t, (pre [] n).Perm (rowsN n t ++ (lv n t).flatMap preE)
  | 0 => by
    show (pre [] n).Perm ([] ++ [([], n)].flatMap preE)
    simp [preE]
  | t + 1 => by
    refine (rows_perm n t).trans ?_
    show (rowsN n t ++ (lv n t).flatMap preE).Perm (rowsN n t ++ lv n t ++ ((lv n t).flatMap kidsOf).flatMap preE)
    rw [List.append_assoc]
    exact List.Perm.append_left _ (flat_perm (lv n t))
theorem lv_len (n : Node) : ∀ t, ∀ x ∈ lv n t, x.1.length = t
  | 0, x, h => by
    rw [List.mem_singleton.mp h]
    rfl
  | t + 1, x, h => by
    obtain ⟨y, hy, hx⟩ := List.mem_flatMap.mp h
    obtain ⟨i, hi, rfl⟩ := List.mem_mapIdx.mp hx
    simp [lv_len n t y hy]
theorem lv_mem (n : Node) (t : Nat) (x : PN) (h : x ∈ lv n t) : x ∈ pre [] n := by
  refine (rows_perm n (t + 1)).mem_iff.mpr (List.mem_append_left _ (List.mem_append_right _ h))
theorem rows_all {n : Node} (h : ∀ x ∈ pre [] n, x.1.length ≤ 6) : (pre [] n).Perm (rowsN n 7) := by
  have e : lv n 7 = [] := by
    cases q : lv n 7 with
    | nil => rfl
    | cons x l =>
      have hm : x ∈ lv n 7 := by rw [q]; exact List.mem_cons_self ..
      have h1 := lv_len n 7 x hm
      have h2 := h x (lv_mem n 7 x hm)
      omega
  have := rows_perm n 7
  rw [e] at this
  simpa using this
theorem paths_sorted (n : Node) : ((pre [] n).map (·.1)).Pairwise fun a b => HT.lexLt b a = false := by
  rw [List.pairwise_map]
  exact (pre_sorted _ ([], n) (Nat.le_refl _)).imp fun h => lex_asym _ _ h
/-! ### isinstance of a caught error whose class is told by what was wished -/
section
variable {X : Cx}
def rIsX (K : PySem.W.Frag) (cls : Value) (a : Addr) : List V → Hp → VK → Prop := fun xs H Q => ∃ (c : V) (cv : Value) (b : Bool), xs = [.ref a, c] ∧ (∀ u, RelV c u → u = cv) ∧ PySem.W.kitOne K cls cv = some b ∧ Q (.bl b) H
theorem call_isX {a : Addr} {oe : Obj} {cls : Value} {d : Option Addr} {pn : List (Addr × Obj)} (z : ∃ D, cls = .ref D ∧ d = none ∧ ExcC X.K D) (hz : Zc cls d oe) (hf : ∃ vs, oe.data = .fields vs) : CallR (X.suite a ((a, oe) :: pn)) (.builtin "isinstance") (rIsX X.K cls a) := by
  obtain ⟨D, rfl, rfl, C⟩ := z
  exact call_isE C hz hf
end
theorem kit_ref {K : PySem.W.Frag} {D C : Addr} {b : Bool} (h : PySem.W.hasDictIn K C = true) (t : PySem.W.typeIn K (.ref C) = some (.type "type")) (s : PySem.W.subIn K (.ref D) (.ref C) = some b) (r : PySem.W.subIn K (.ref D) (.ref D) = some true) : PySem.W.kitOne K (.ref D) (.ref C) = some b := by
  unfold PySem.W.kitOne
  by_cases e : D = C
  · subst e
    rw [r] at s
    cases s
    simp
  · have e1 : (Value.ref D == Value.ref C) = false := by simp [e]
    rw [e1]
    obtain ⟨cd, hc, _⟩ := PySem.W.any_some h
    have e2 : ((PySem.W.clsIn K C).isSome && PySem.W.typeIn K (.ref C) == some (.type "type")) = true := by rw [hc, t] <;> rfl
    show (if false = true then some true else PySem.W.kitCls K (.ref D) (.ref C)) = some b
    rw [if_neg (by decide)]
    unfold PySem.W.kitCls
    simp only [e2, if_true]
    exact s
theorem rows_head (n : Node) : ∀ t, (rowsN n (t + 1))[0]? = some ([], n)
  | 0 => rfl
  | t + 1 => by
    show (rowsN n (t + 1) ++ lv n (t + 1))[0]? = _
    have h := rows_head n t
    have l := (List.getElem?_eq_some_iff.mp h).1
    rw [List.getElem?_append_left l]
    exact h
theorem rows_len (n : Node) (t : Nat) : (rowsN n t).length ≤ (pre [] n).length := by
  have := (rows_perm n t).length_eq
  rw [List.length_append] at this
  omega
theorem lv_le (n : Node) (t : Nat) : (lv n t).length ≤ (pre [] n).length := by
  have := rows_len n (t + 1)
  have e : (rowsN n (t + 1)).length = (rowsN n t).length + (lv n t).length := by
    show (rowsN n t ++ lv n t).length = _
    rw [List.length_append]
  omega
theorem kids_mem_le {n : Node} {e : PN} (h : e ∈ pre [] n) : e.2.ks.length < (pre [] n).length := by
  obtain ⟨r, _, hf⟩ := pre_find _ ([], n) e (Nat.le_refl _) h
  have h1 := kids_le e
  rw [kids_len] at h1
  have h2 : ∀ (k : Nat) (a x : PN), (preE a).length ≤ k → x ∈ preE a → (preE x).length ≤ (preE a).length := by
    intro k
    induction k with
    | zero =>
      intro a x hl
      rw [preE_eq] at hl
      simp at hl
    | succ k ih =>
      intro a x hl hx
      rw [preE_eq] at hx
      rcases List.mem_cons.mp hx with rfl | hx
      · exact Nat.le_refl _
      · obtain ⟨c, hc, hx⟩ := List.mem_flatMap.mp hx
        have h1 : (preE c).length ≤ ((kidsOf a).flatMap preE).length := by
          rw [List.length_flatMap]
          exact le_sum (List.mem_map.mpr ⟨_, hc, rfl⟩)
        have h3 : (preE a).length = 1 + ((kidsOf a).flatMap preE).length := by rw [preE_eq]; simp; omega
        have := ih c x (by omega) hx
        omega
  have := h2 _ ([], n) e (Nat.le_refl _) h
  have e3 : (preE ([], n)).length = (pre [] n).length := rfl
  omega
/-! ### nodes of bounded height all of whose prices are P -/
def HP (P : List Pr → Prop) : Nat → Node → Prop
  | 0, n => P n.ps ∧ n.ks = []
  | m + 1, n => P n.ps ∧ ∀ k ∈ n.ks, HP P m k
theorem HP.ps {P : List Pr → Prop} : ∀ {m : Nat} {n : Node}, HP P m n → P n.ps
  | 0, _, h => h.1
  | _ + 1, _, h => h.1
theorem HP.up {P Q : List Pr → Prop} (f : ∀ l, P l → Q l) : ∀ {m : Nat} {n : Node}, HP P m n → HP Q (m + 1) n
  | 0, _, h => ⟨f _ h.1, fun k hk => by rw [h.2] at hk; cases hk⟩
  | _ + 1, _, h => ⟨f _ h.1, fun k hk => HP.up f (h.2 k hk)⟩
theorem HP.pre {P : List Pr → Prop} : ∀ {m : Nat} {e : PN}, HP P m e.2 → ∀ x ∈ preE e, P x.2.ps ∧ x.1.length ≤ e.1.length + m
  | 0, e, h, x, hx => by
    have hk : kidsOf e = [] := by
      unfold kidsOf
      rw [h.2]
      rfl
    rw [preE_eq, hk] at hx
    simp at hx
    subst hx
    exact ⟨h.1, by omega⟩
  | m + 1, e, h, x, hx => by
    rw [preE_eq] at hx
    rcases List.mem_cons.mp hx with rfl | hx
    · exact ⟨h.1, by omega⟩
    · obtain ⟨k, hk, hx⟩ := List.mem_flatMap.mp hx
      obtain ⟨i, hi, rfl⟩ := List.mem_mapIdx.mp hk
      have := HP.pre (e := (e.1 ++ [(i : Int)], e.2.ks[i])) (h.2 _ (List.getElem_mem hi)) x hx
      simp only [List.length_append, List.length_singleton] at this
      exact ⟨this.1, by omega⟩
mutual
def nsz : Node → Nat
  | .mk _ ks => 1 + nszs ks
def nszs : List Node → Nat
  | [] => 0
  | k :: r => nsz k + nszs r
end
theorem nsz_eq (n : Node) : nsz n = 1 + nszs n.ks := by
  cases n
  rw [nsz]
  rfl
theorem nszs_app : ∀ a b : List Node, nszs (a ++ b) = nszs a + nszs b
  | [], b => by simp [nszs]
  | x :: a, b => by
    rw [List.cons_append, nszs, nszs, nszs_app a b]
    omega
mutual
theorem pre_nsz (p : List Int) : ∀ n : Node, (pre p n).length = nsz n
  | .mk ps ks => by
    rw [pre, nsz, List.length_cons, pres_nsz p 0 ks]
    omega
theorem pres_nsz (p : List Int) (i : Nat) : ∀ ks : List Node, (pres p i ks).length = nszs ks
  | [] => rfl
  | n :: r => by
    rw [pres, nszs, List.length_append, pre_nsz _ n, pres_nsz p (i + 1) r]
end
theorem nv_hp {g : Int} (h4 : g ≤ 4) : ∀ {m : Nat} {n : Node}, NV g m n → HP (fun l => (∀ p ∈ l, PrK 1001 p) ∧ l.length ≤ 3) m n
  | 0, n, h => ⟨⟨h.1.b, by have := h.1.len; omega⟩, h.2⟩
  | m + 1, n, h => ⟨⟨h.1.b, by have := h.1.len; omega⟩, fun k hk => nv_hp h4 (h.2.2.2 k hk)⟩
theorem find_app : ∀ (p q : List Int) (n m : Node), find n p = some m → find n (p ++ q) = find m q
  | [], q, n, m, h => by
    cases h
    rfl
  | i :: p, q, n, m, h => by
    by_cases hi : 0 ≤ i ∧ i < (n.ks.length : Int)
    · obtain ⟨j, rfl⟩ := Int.eq_ofNat_of_zero_le hi.1
      have hk : n.ks[j]? = some n.ks[j] := List.getElem?_eq_getElem (by omega)
      rw [find_cons, hk] at h
      rw [List.cons_append, find_cons, hk]
      exact find_app p q _ m h
    · rw [find_out hi] at h
      cases h
theorem cut_drop (xs : List V) (k : Nat) : cutV xs (some (k : Int)) none = xs.drop k := by
  unfold cutV
  rw [HT.sIx_nat xs.length 0 k, HT.sIx_none]
  by_cases h : k ≤ xs.length
  · rw [Nat.min_eq_left h]
    exact List.take_of_length_le (by rw [List.length_drop]; omega)
  · rw [Nat.min_eq_right (by omega), List.drop_length, List.drop_eq_nil_of_le (by omega)]
    simp
theorem cut_take (xs : List V) (k : Nat) : cutV xs none (some (k : Int)) = xs.take k := by
  unfold cutV
  rw [HT.sIx_nat xs.length xs.length k, HT.sIx_none, List.drop_zero, Nat.sub_zero]
  by_cases h : k ≤ xs.length
  · rw [Nat.min_eq_left h]
  · rw [Nat.min_eq_right (by omega), List.take_length, List.take_of_length_le (by omega)]
theorem cmp_neg {p q : Int × Int} : cmpF p q < 0 ↔ p.1 * q.2 < q.1 * p.2 := by
  unfold cmpF
  constructor
  · intro h
    by_cases c : p.1 * q.2 < q.1 * p.2
    · exact c
    · rw [if_neg c] at h
      split at h <;> omega
  · intro h
    rw [if_pos h]
    decide
theorem bad_iff (p : Pr) : badPr p ↔ p.2.1 < 0 ∨ p.1.1 * p.2.2 < p.2.1 * p.1.2 := by
  unfold badPr
  rw [cmp_neg, cmp_neg]
  simp
end Nl

namespace Nl
open PySem PySem.Spec PyProof.Rows L2
def top (i : Nat) : Stmt := PySem.Challenge.pw_nolunch_k03_markets_are_checked.main.body.getD i (.Pass ⟨0, 0, 0, 0⟩)
abbrev s_compare : Stmt := top 6
theorem sc_compare : FnScope ["a", "b", "left", "right"] ["a", "b"] (defScope s_compare) := ⟨rfl, rfl, rfl, by decide +kernel, rfl, by decide +kernel, by decide +kernel⟩
abbrev s_check_market : Stmt := top 11
theorem sc_check_market : FnScope ["market", "goods", "_", "nodes", "node", "end_times", "path"] ["market"] (defScope s_check_market) := ⟨rfl, rfl, rfl, by decide +kernel, rfl, by decide +kernel, by decide +kernel⟩
abbrev s__check_prices : Stmt := top 12
theorem sc__check_prices : FnScope ["goods", "prices", "pair", "buy", "sell"] ["goods", "prices"] (defScope s__check_prices) := ⟨rfl, rfl, rfl, by decide +kernel, rfl, by decide +kernel, by decide +kernel⟩
abbrev s_walk : Stmt := top 13
theorem sc_walk : FnScope ["market", "found", "waiting", "path", "node", "following", "index"] ["market"] (defScope s_walk) := ⟨rfl, rfl, rfl, by decide +kernel, rfl, by decide +kernel, by decide +kernel⟩
abbrev s_node_at : Stmt := top 14
theorem sc_node_at : FnScope ["market", "path", "node", "index", "following"] ["market", "path"] (defScope s_node_at) := ⟨rfl, rfl, rfl, by decide +kernel, rfl, by decide +kernel, by decide +kernel⟩
abbrev s_moments : Stmt := top 15
theorem sc_moments : FnScope ["market", "path", "_"] ["market"] (defScope s_moments) := ⟨rfl, rfl, rfl, by decide +kernel, rfl, by decide +kernel, by decide +kernel⟩
abbrev s_ends : Stmt := top 16
theorem sc_ends : FnScope ["market", "path", "node"] ["market"] (defScope s_ends) := ⟨rfl, rfl, rfl, by decide +kernel, rfl, by decide +kernel, by decide +kernel⟩
abbrev s_last_time : Stmt := top 17
theorem sc_last_time : FnScope ["market"] ["market"] (defScope s_last_time) := ⟨rfl, rfl, rfl, by decide +kernel, rfl, by decide +kernel, by decide +kernel⟩
abbrev s_price_of : Stmt := top 18
theorem sc_price_of : FnScope ["market", "path", "good", "goods", "_", "prices"] ["market", "path", "good"] (defScope s_price_of) := ⟨rfl, rfl, rfl, by decide +kernel, rfl, by decide +kernel, by decide +kernel⟩
abbrev s_nexts : Stmt := top 19
theorem sc_nexts : FnScope ["market", "path", "_", "following"] ["market", "path"] (defScope s_nexts) := ⟨rfl, rfl, rfl, by decide +kernel, rfl, by decide +kernel, by decide +kernel⟩
abbrev s__law_begin : Stmt := top 21
theorem sc__law_begin : FnScope ["script", "seed", "cell"] ["script"] (defScope s__law_begin) := ⟨rfl, rfl, rfl, by decide +kernel, rfl, by decide +kernel, by decide +kernel⟩
abbrev s__law_take : Stmt := top 22
theorem sc__law_take : FnScope ["d", "many", "small", "digit"] ["d", "many"] (defScope s__law_take) := ⟨rfl, rfl, rfl, by decide +kernel, rfl, by decide +kernel, by decide +kernel⟩
abbrev s__law_gcd : Stmt := top 23
theorem sc__law_gcd : FnScope ["a", "b"] ["a", "b"] (defScope s__law_gcd) := ⟨rfl, rfl, rfl, by decide +kernel, rfl, by decide +kernel, by decide +kernel⟩
abbrev s__law_f : Stmt := top 24
theorem sc__law_f : FnScope ["a", "b", "c"] ["a", "b"] (defScope s__law_f) := ⟨rfl, rfl, rfl, by decide +kernel, rfl, by decide +kernel, by decide +kernel⟩
abbrev s__law_plus : Stmt := top 25
theorem sc__law_plus : FnScope ["a", "b"] ["a", "b"] (defScope s__law_plus) := ⟨rfl, rfl, rfl, by decide +kernel, rfl, by decide +kernel, by decide +kernel⟩
abbrev s__law_minus : Stmt := top 26
theorem sc__law_minus : FnScope ["a", "b"] ["a", "b"] (defScope s__law_minus) := ⟨rfl, rfl, rfl, by decide +kernel, rfl, by decide +kernel, by decide +kernel⟩
abbrev s__law_times : Stmt := top 27
theorem sc__law_times : FnScope ["a", "b"] ["a", "b"] (defScope s__law_times) := ⟨rfl, rfl, rfl, by decide +kernel, rfl, by decide +kernel, by decide +kernel⟩
abbrev s__law_less : Stmt := top 28
theorem sc__law_less : FnScope ["a", "b"] ["a", "b"] (defScope s__law_less) := ⟨rfl, rfl, rfl, by decide +kernel, rfl, by decide +kernel, by decide +kernel⟩
abbrev s__law_spread : Stmt := top 29
theorem sc__law_spread : FnScope ["d", "mid", "s", "low"] ["d", "mid"] (defScope s__law_spread) := ⟨rfl, rfl, rfl, by decide +kernel, rfl, by decide +kernel, by decide +kernel⟩
abbrev s__law_node : Stmt := top 30
theorem sc__law_node : FnScope ["d", "goods", "time", "last", "wild", "many", "k", "children", "weights", "mids", "good", "mid", "total", "prices", "child"] ["d", "goods", "time", "last", "wild"] (defScope s__law_node) := ⟨rfl, rfl, rfl, by decide +kernel, rfl, by decide +kernel, by decide +kernel⟩
abbrev s__law_market : Stmt := top 31
theorem sc__law_market : FnScope ["d", "most", "goods", "wild"] ["d", "most"] (defScope s__law_market) := ⟨rfl, rfl, rfl, by decide +kernel, rfl, by decide +kernel, by decide +kernel⟩
abbrev s__law_nodes : Stmt := top 32
theorem sc__law_nodes : FnScope ["market", "rows", "level", "turn", "fresh", "path", "node", "k", "row"] ["market"] (defScope s__law_nodes) := ⟨rfl, rfl, rfl, by decide +kernel, rfl, by decide +kernel, by decide +kernel⟩
abbrev s__law_find : Stmt := top 33
theorem sc__law_find : FnScope ["market", "path", "node", "k"] ["market", "path"] (defScope s__law_find) := ⟨rfl, rfl, rfl, by decide +kernel, rfl, by decide +kernel, by decide +kernel⟩
abbrev s__law_prices : Stmt := top 34
theorem sc__law_prices : FnScope ["market", "path"] ["market", "path"] (defScope s__law_prices) := ⟨rfl, rfl, rfl, by decide +kernel, rfl, by decide +kernel, by decide +kernel⟩
abbrev s__law_ends : Stmt := top 35
theorem sc__law_ends : FnScope ["market", "path", "node"] ["market"] (defScope s__law_ends) := ⟨rfl, rfl, rfl, by decide +kernel, rfl, by decide +kernel, by decide +kernel⟩
abbrev s__law_told : Stmt := top 36
theorem sc__law_told : FnScope ["which", "market", "path", "good", "found", "e", "told"] ["which", "market", "path", "good"] (defScope s__law_told) := ⟨rfl, rfl, rfl, by decide +kernel, rfl, by decide +kernel, by decide +kernel⟩
abbrev s__law_bent_node : Stmt := top 37
theorem sc__law_bent_node : FnScope ["d", "node", "prices", "nodes", "menu", "at"] ["d", "node"] (defScope s__law_bent_node) := ⟨rfl, rfl, rfl, by decide +kernel, rfl, by decide +kernel, by decide +kernel⟩
abbrev s__law_due : Stmt := top 38
theorem sc__law_due : FnScope ["market", "times", "path", "node", "one"] ["market"] (defScope s__law_due) := ⟨rfl, rfl, rfl, by decide +kernel, rfl, by decide +kernel, by decide +kernel⟩
abbrev s_law : Stmt := top 39
theorem sc_law : FnScope ["script", "d", "market", "nodes", "path", "node", "paths", "good", "bent", "goods", "leaf", "row", "k", "wide", "many"] ["script"] (defScope s_law) := ⟨rfl, rfl, rfl, by decide +kernel, rfl, by decide +kernel, by decide +kernel⟩
structure Top (K : PySem.W.Frag) (mg : Str → Option Value) where
  a_compare : Addr
  d_compare : FuncData
  compare_F : Fun K "compare" "compare" s_compare a_compare d_compare
  compare_b : Binds K d_compare ["a", "b"] []
  g_compare : mg "compare" = some (.ref a_compare)
  a_check_market : Addr
  d_check_market : FuncData
  check_market_F : Fun K "check_market" "check_market" s_check_market a_check_market d_check_market
  check_market_b : Binds K d_check_market ["market"] []
  g_check_market : mg "check_market" = some (.ref a_check_market)
  a__check_prices : Addr
  d__check_prices : FuncData
  _check_prices_F : Fun K "_check_prices" "_check_prices" s__check_prices a__check_prices d__check_prices
  _check_prices_b : Binds K d__check_prices ["goods", "prices"] []
  g__check_prices : mg "_check_prices" = some (.ref a__check_prices)
  a_walk : Addr
  d_walk : FuncData
  walk_F : Fun K "walk" "walk" s_walk a_walk d_walk
  walk_b : Binds K d_walk ["market"] []
  g_walk : mg "walk" = some (.ref a_walk)
  a_node_at : Addr
  d_node_at : FuncData
  node_at_F : Fun K "node_at" "node_at" s_node_at a_node_at d_node_at
  node_at_b : Binds K d_node_at ["market", "path"] []
  g_node_at : mg "node_at" = some (.ref a_node_at)
  a_moments : Addr
  d_moments : FuncData
  moments_F : Fun K "moments" "moments" s_moments a_moments d_moments
  moments_b : Binds K d_moments ["market"] []
  g_moments : mg "moments" = some (.ref a_moments)
  a_ends : Addr
  d_ends : FuncData
  ends_F : Fun K "ends" "ends" s_ends a_ends d_ends
  ends_b : Binds K d_ends ["market"] []
  g_ends : mg "ends" = some (.ref a_ends)
  a_last_time : Addr
  d_last_time : FuncData
  last_time_F : Fun K "last_time" "last_time" s_last_time a_last_time d_last_time
  last_time_b : Binds K d_last_time ["market"] []
  g_last_time : mg "last_time" = some (.ref a_last_time)
  a_price_of : Addr
  d_price_of : FuncData
  price_of_F : Fun K "price_of" "price_of" s_price_of a_price_of d_price_of
  price_of_b : Binds K d_price_of ["market", "path", "good"] []
  g_price_of : mg "price_of" = some (.ref a_price_of)
  a_nexts : Addr
  d_nexts : FuncData
  nexts_F : Fun K "nexts" "nexts" s_nexts a_nexts d_nexts
  nexts_b : Binds K d_nexts ["market", "path"] []
  g_nexts : mg "nexts" = some (.ref a_nexts)
  a__law_begin : Addr
  d__law_begin : FuncData
  _law_begin_F : Fun K "_law_begin" "_law_begin" s__law_begin a__law_begin d__law_begin
  _law_begin_b : Binds K d__law_begin ["script"] []
  g__law_begin : mg "_law_begin" = some (.ref a__law_begin)
  a__law_take : Addr
  d__law_take : FuncData
  _law_take_F : Fun K "_law_take" "_law_take" s__law_take a__law_take d__law_take
  _law_take_b : Binds K d__law_take ["d", "many"] []
  g__law_take : mg "_law_take" = some (.ref a__law_take)
  a__law_gcd : Addr
  d__law_gcd : FuncData
  _law_gcd_F : Fun K "_law_gcd" "_law_gcd" s__law_gcd a__law_gcd d__law_gcd
  _law_gcd_b : Binds K d__law_gcd ["a", "b"] []
  g__law_gcd : mg "_law_gcd" = some (.ref a__law_gcd)
  a__law_f : Addr
  d__law_f : FuncData
  _law_f_F : Fun K "_law_f" "_law_f" s__law_f a__law_f d__law_f
  _law_f_b : Binds K d__law_f ["a", "b"] []
  g__law_f : mg "_law_f" = some (.ref a__law_f)
  a__law_plus : Addr
  d__law_plus : FuncData
  _law_plus_F : Fun K "_law_plus" "_law_plus" s__law_plus a__law_plus d__law_plus
  _law_plus_b : Binds K d__law_plus ["a", "b"] []
  g__law_plus : mg "_law_plus" = some (.ref a__law_plus)
  a__law_minus : Addr
  d__law_minus : FuncData
  _law_minus_F : Fun K "_law_minus" "_law_minus" s__law_minus a__law_minus d__law_minus
  _law_minus_b : Binds K d__law_minus ["a", "b"] []
  g__law_minus : mg "_law_minus" = some (.ref a__law_minus)
  a__law_times : Addr
  d__law_times : FuncData
  _law_times_F : Fun K "_law_times" "_law_times" s__law_times a__law_times d__law_times
  _law_times_b : Binds K d__law_times ["a", "b"] []
  g__law_times : mg "_law_times" = some (.ref a__law_times)
  a__law_less : Addr
  d__law_less : FuncData
  _law_less_F : Fun K "_law_less" "_law_less" s__law_less a__law_less d__law_less
  _law_less_b : Binds K d__law_less ["a", "b"] []
  g__law_less : mg "_law_less" = some (.ref a__law_less)
  a__law_spread : Addr
  d__law_spread : FuncData
  _law_spread_F : Fun K "_law_spread" "_law_spread" s__law_spread a__law_spread d__law_spread
  _law_spread_b : Binds K d__law_spread ["d", "mid"] []
  g__law_spread : mg "_law_spread" = some (.ref a__law_spread)
  a__law_node : Addr
  d__law_node : FuncData
  _law_node_F : Fun K "_law_node" "_law_node" s__law_node a__law_node d__law_node
  _law_node_b : Binds K d__law_node ["d", "goods", "time", "last", "wild"] []
  g__law_node : mg "_law_node" = some (.ref a__law_node)
  a__law_market : Addr
  d__law_market : FuncData
  _law_market_F : Fun K "_law_market" "_law_market" s__law_market a__law_market d__law_market
  _law_market_b : Binds K d__law_market ["d", "most"] []
  g__law_market : mg "_law_market" = some (.ref a__law_market)
  a__law_nodes : Addr
  d__law_nodes : FuncData
  _law_nodes_F : Fun K "_law_nodes" "_law_nodes" s__law_nodes a__law_nodes d__law_nodes
  _law_nodes_b : Binds K d__law_nodes ["market"] []
  g__law_nodes : mg "_law_nodes" = some (.ref a__law_nodes)
  a__law_find : Addr
  d__law_find : FuncData
  _law_find_F : Fun K "_law_find" "_law_find" s__law_find a__law_find d__law_find
  _law_find_b : Binds K d__law_find ["market", "path"] []
  g__law_find : mg "_law_find" = some (.ref a__law_find)
  a__law_prices : Addr
  d__law_prices : FuncData
  _law_prices_F : Fun K "_law_prices" "_law_prices" s__law_prices a__law_prices d__law_prices
  _law_prices_b : Binds K d__law_prices ["market", "path"] []
  g__law_prices : mg "_law_prices" = some (.ref a__law_prices)
  a__law_ends : Addr
  d__law_ends : FuncData
  _law_ends_F : Fun K "_law_ends" "_law_ends" s__law_ends a__law_ends d__law_ends
  _law_ends_b : Binds K d__law_ends ["market"] []
  g__law_ends : mg "_law_ends" = some (.ref a__law_ends)
  a__law_told : Addr
  d__law_told : FuncData
  _law_told_F : Fun K "_law_told" "_law_told" s__law_told a__law_told d__law_told
  _law_told_b : Binds K d__law_told ["which", "market", "path", "good"] []
  g__law_told : mg "_law_told" = some (.ref a__law_told)
  a__law_bent_node : Addr
  d__law_bent_node : FuncData
  _law_bent_node_F : Fun K "_law_bent_node" "_law_bent_node" s__law_bent_node a__law_bent_node d__law_bent_node
  _law_bent_node_b : Binds K d__law_bent_node ["d", "node"] []
  g__law_bent_node : mg "_law_bent_node" = some (.ref a__law_bent_node)
  a__law_due : Addr
  d__law_due : FuncData
  _law_due_F : Fun K "_law_due" "_law_due" s__law_due a__law_due d__law_due
  _law_due_b : Binds K d__law_due ["market"] []
  g__law_due : mg "_law_due" = some (.ref a__law_due)
  n_abs : mg "abs" = none
  n_int : mg "int" = none
  n_isinstance : mg "isinstance" = none
  n_len : mg "len" = none
  n_list : mg "list" = none
  n_max : mg "max" = none
  n_min : mg "min" = none
  n_range : mg "range" = none
  n_reversed : mg "reversed" = none
  n_sorted : mg "sorted" = none
  n_sum : mg "sum" = none
  n_tuple : mg "tuple" = none
  t_GOODS_LIMIT : Tok
  g_GOODS_LIMIT : mg "GOODS_LIMIT" = some (.int 4 t_GOODS_LIMIT)
  t_MOMENT_LIMIT : Tok
  g_MOMENT_LIMIT : mg "MOMENT_LIMIT" = some (.int 40 t_MOMENT_LIMIT)
  t_TIME_LIMIT : Tok
  g_TIME_LIMIT : mg "TIME_LIMIT" = some (.int 5 t_TIME_LIMIT)
  c_MarketplaceError : Addr
  g_MarketplaceError : mg "MarketplaceError" = some (.ref c_MarketplaceError)
  x_MarketplaceError : PySem.W.excIn K c_MarketplaceError [.type "ValueError", .type "Exception", .type "BaseException", .type "object"] "ValueError.__new__" = true
  k_MarketplaceError : PySem.W.keepIn K (.ref c_MarketplaceError) = true
  b_MarketplaceError : PySem.W.subIn K (.ref c_MarketplaceError) (.type "BaseException") = some true
  t_MarketplaceError : PySem.W.typeIn K (.ref c_MarketplaceError) = some (.type "type")
  h_MarketplaceError : PySem.W.hasDictIn K c_MarketplaceError = true
  e_MarketplaceError : ExcC K c_MarketplaceError
  c_MarketError : Addr
  g_MarketError : mg "MarketError" = some (.ref c_MarketError)
  x_MarketError : PySem.W.excIn K c_MarketError [.type "ValueError", .type "Exception", .type "BaseException", .type "object"] "ValueError.__new__" = true
  k_MarketError : PySem.W.keepIn K (.ref c_MarketError) = true
  b_MarketError : PySem.W.subIn K (.ref c_MarketError) (.type "BaseException") = some true
  t_MarketError : PySem.W.typeIn K (.ref c_MarketError) = some (.type "type")
  h_MarketError : PySem.W.hasDictIn K c_MarketError = true
  e_MarketError : ExcC K c_MarketError
  c_TooLarge : Addr
  g_TooLarge : mg "TooLarge" = some (.ref c_TooLarge)
  x_TooLarge : PySem.W.excIn K c_TooLarge [.type "ValueError", .type "Exception", .type "BaseException", .type "object"] "ValueError.__new__" = true
  k_TooLarge : PySem.W.keepIn K (.ref c_TooLarge) = true
  b_TooLarge : PySem.W.subIn K (.ref c_TooLarge) (.type "BaseException") = some true
  t_TooLarge : PySem.W.typeIn K (.ref c_TooLarge) = some (.type "type")
  h_TooLarge : PySem.W.hasDictIn K c_TooLarge = true
  e_TooLarge : ExcC K c_TooLarge
  c_MomentError : Addr
  g_MomentError : mg "MomentError" = some (.ref c_MomentError)
  x_MomentError : PySem.W.excIn K c_MomentError [.type "ValueError", .type "Exception", .type "BaseException", .type "object"] "ValueError.__new__" = true
  k_MomentError : PySem.W.keepIn K (.ref c_MomentError) = true
  b_MomentError : PySem.W.subIn K (.ref c_MomentError) (.type "BaseException") = some true
  t_MomentError : PySem.W.typeIn K (.ref c_MomentError) = some (.type "type")
  h_MomentError : PySem.W.hasDictIn K c_MomentError = true
  e_MomentError : ExcC K c_MomentError
  s_MarketError_MarketplaceError : PySem.W.subIn K (.ref c_MarketError) (.ref c_MarketplaceError) = some true
  s_MarketError_MarketError : PySem.W.subIn K (.ref c_MarketError) (.ref c_MarketError) = some true
  s_MarketError_TooLarge : PySem.W.subIn K (.ref c_MarketError) (.ref c_TooLarge) = some false
  s_MarketError_MomentError : PySem.W.subIn K (.ref c_MarketError) (.ref c_MomentError) = some false
  s_TooLarge_MarketplaceError : PySem.W.subIn K (.ref c_TooLarge) (.ref c_MarketplaceError) = some true
  s_TooLarge_MarketError : PySem.W.subIn K (.ref c_TooLarge) (.ref c_MarketError) = some false
  s_TooLarge_TooLarge : PySem.W.subIn K (.ref c_TooLarge) (.ref c_TooLarge) = some true
  s_TooLarge_MomentError : PySem.W.subIn K (.ref c_TooLarge) (.ref c_MomentError) = some false
  s_MomentError_MarketplaceError : PySem.W.subIn K (.ref c_MomentError) (.ref c_MarketplaceError) = some true
  s_MomentError_MarketError : PySem.W.subIn K (.ref c_MomentError) (.ref c_MarketError) = some false
  s_MomentError_TooLarge : PySem.W.subIn K (.ref c_MomentError) (.ref c_TooLarge) = some false
  s_MomentError_MomentError : PySem.W.subIn K (.ref c_MomentError) (.ref c_MomentError) = some true
section
variable {P : Program} {w : World} {K : PySem.W.Frag} {mg : Str → Option Value} {base : Heap}
def sp_compare (K : PySem.W.Frag) : Sp := fun vs H Q _ => ∃ (va vb : V) (p q : Int × Int), vs = [va, vb] ∧ DT K H va (frD p) ∧ DT K H vb (frD q) ∧ FB p ∧ FB q ∧ Q (.int (cmpF p q)) H
theorem ok_compare (T : Top K mg) : FnOk P w K mg base CX0 1 T.a_compare T.d_compare ["a", "b"] (sp_compare K) := by
  refine T.compare_F.ok sc_compare (fun vs H Q E h => ?_) (fun cdv A outer s H vs Q E hr h => ?_)
  · obtain ⟨_, _, _, _, rfl, _⟩ := h
    rfl
  · obtain ⟨_, _, p, q, rfl, da, db, ⟨p1, p2⟩, ⟨q1, q2⟩, fin⟩ := h
    obtain ⟨a, rfl, ha⟩ := da.fr_inv
    obtain ⟨b, rfl, hb⟩ := db.fr_inv
    refine ⟨_, (pss_cons (ps_set (i := 2) sc_compare.nd rfl (Or.inl rfl) (pe_op op_mulW (pe_ix ix_tup (pv 0) pe_int (fun _ _ => rfl)) (pe_ix ix_tup (pv 1) pe_int (fun _ _ => rfl))))
      (pss_cons (ps_set (i := 3) sc_compare.nd rfl (Or.inl rfl) (pe_op op_mulW (pe_ix ix_tup (pv 1) pe_int (fun _ _ => rfl)) (pe_ix ix_tup (pv 0) pe_int (fun _ _ => rfl))))
      (pss_cons (ps_if (pt_cmpR op_lt (pv 2) (pv 3) (nomark _)) (pss_one (ps_ret (pe_un un_neg pe_int))) pss_nil)
      (pss_one (ps_ret (pe_ifExp (pt_cmpR op_gt (pv 2) (pv 3) (nomark _)) pe_int pe_int)))))), ?_⟩
    refine ⟨_, rfl, _, _, _, _, rfl, rfl, ( ha), (atI_nat (j := 0) rfl), _, rfl, _, _, _, _, rfl, rfl, ( hb), (atI_nat (j := 1) rfl), _, _, rfl, rfl, (by first | exact mulK hk (by assumption) (by assumption) | exact mulF3 (by assumption) (by assumption)), _, rfl, _, _, _, _, rfl, rfl, ( hb), (atI_nat (j := 0) rfl), _, rfl, _, _, _, _, rfl, rfl, ( ha), (atI_nat (j := 1) rfl), _, _, rfl, rfl, (by first | exact mulK hk (by assumption) (by assumption) | exact mulF3 (by assumption) (by assumption)), ?_⟩
    refine ⟨_, rfl, _, rfl, _, _, rfl, rfl, _, rfl, ite2 (fun e => ?_) (fun e => ?_)⟩
    · have c : cmpF p q = -1 := if_pos (of_decide_eq_true e)
      rw [c] at fin
      exact ⟨_, rfl, fin⟩
    · have e0 : ¬ p.1 * q.2 < q.1 * p.2 := fun z => e (decide_eq_true z)
      refine ⟨_, rfl, _, rfl, _, _, rfl, rfl, _, rfl, ite2 (fun e => ?_) (fun e => ?_)⟩
      · have c : cmpF p q = 1 := (if_neg e0).trans (if_pos (of_decide_eq_true e))
        rw [c] at fin
        exact fin
      · have c : cmpF p q = 0 := (if_neg e0).trans (if_neg fun z => e (decide_eq_true z))
        rw [c] at fin
        exact fin
def sp_prices (K : PySem.W.Frag) (M : Addr) : Sp := fun vs H Q E => ∃ (g : Int) (v : V) (ps : List Pr), vs = [.int g, v] ∧ DT K H v (pricesD ps) ∧ (∀ p ∈ ps, PrB p) ∧ (badPs g ps → ∀ H', Same H H' → E (.ref M) none H') ∧ (¬ badPs g ps → ∀ H', Same H H' → Q .non H')
theorem ok__check_prices (T : Top K mg) : FnOk P w K mg base (L2.CX P w) 2 T.a__check_prices T.d__check_prices ["goods", "prices"] (sp_prices K T.c_MarketError) := by
  refine T._check_prices_F.okX sc__check_prices (fun vs H Q E h => ?_) (fun cdv A outer s H vs Q E hr h => ?_)
  · obtain ⟨_, _, _, rfl, _⟩ := h
    rfl
  · obtain ⟨g, v, ps, rfl, dv, hb, kE, kQ⟩ := h
    obtain ⟨a, xs, rfl, ha, hx⟩ := dv.inv
    have lx : xs.length = ps.length := by rw [hx.len, List.length_map]
    refine ⟨_, (pss_cons (ps_if (pt_cmpR op_ne (pe_callB call_lenT (by rfl) T.n_len (by decide +kernel) (pa_cons (pv 1) pa_nil)) (pe_op op_sub (pv 0) pe_int) (nomark _)) (pss_one (ps_raise rfl (takes_of rfl rfl rfl rfl) (pmk_own PySem.F.excBase_ValueError T.x_MarketError T.g_MarketError T.k_MarketError (raises_own T.b_MarketError T.t_MarketError) rfl))) pss_nil)
      (pss_one (ps_for (passes_of rfl) rfl (pi_tup (pv 1)) (pg_name (i := 2) sc__check_prices.nd rfl (Or.inl rfl)) (pss_cons (ps_if (pt_cmpR op_ne (pe_callB call_lenT (by rfl) T.n_len (by decide +kernel) (pa_cons (pv 2) pa_nil)) pe_int (nomark _)) (pss_one (ps_raise rfl (takes_of rfl rfl rfl rfl) (pmk_own PySem.F.excBase_ValueError T.x_MarketError T.g_MarketError T.k_MarketError (raises_own T.b_MarketError T.t_MarketError) rfl))) pss_nil)
      (pss_cons (ps_asg (pv 2) (pg_tup rfl (pgs_cons (pg_name (i := 3) sc__check_prices.nd rfl (Or.inl rfl)) (pgs_cons (pg_name (i := 4) sc__check_prices.nd rfl (Or.inl rfl)) pgs_nil))))
      (pss_one (ps_if (PW.pt (pw_or (pt_cmpR op_lt (pe_call (ok_compare T) (hr.mono (by decide : 1 ≤ 1)) (by rfl) T.g_compare T.compare_F.kp T.compare_b .nil pass0 (pa_cons (pv 4) (pa_cons (pe_tup (pa_cons pe_int (pa_cons pe_int pa_nil))) pa_nil))) pe_int (nomark _)) (pw_or1 (pt_cmpR op_lt (pe_call (ok_compare T) (hr.mono (by decide : 1 ≤ 1)) (by rfl) T.g_compare T.compare_F.kp T.compare_b .nil pass0 (pa_cons (pv 3) (pa_cons (pv 4) pa_nil))) pe_int (nomark _))))) (pss_one (ps_raise rfl (takes_of rfl rfl rfl rfl) (pmk_own PySem.F.excBase_ValueError T.x_MarketError T.g_MarketError T.k_MarketError (raises_own T.b_MarketError T.t_MarketError) rfl))) pss_nil))))))), ?_⟩
    refine ⟨_, rfl, _, _, rfl, ha, _, rfl, _, _, rfl, rfl, rfl, _, rfl, ite2 (fun e => ?_) (fun e => ?_)⟩
    · refine kE (.inl fun z => ?_) H (Same.refl H)
      rw [lx, z] at e
      simp at e
    · have hl : (ps.length : Int) = g - 1 := by
        rw [lx] at e
        simpa using e
      refine ⟨_, rfl, a, rfl, ⟨_, ha⟩, for_tup (fun i σ H' => ∃ (y z u : Option V), σ = [some (.int g), some (.ref a), y, z, u] ∧ Same H H' ∧ ∀ p ∈ ps.take i, ¬ badPr p) ⟨none, none, none, rfl, Same.refl H, fun p hp => by simp at hp⟩ (fun i σ H' _ ⟨_, _, _, _, sm, _⟩ => sqt_same sm ha) ?_ ?_⟩
      · rintro i x σ H' hi ⟨y, z, u, rfl, sm, hg⟩
        obtain ⟨d, hd, dx⟩ := hx.get hi
        rw [List.getElem?_map] at hd
        obtain ⟨p, hp, rfl⟩ := Option.map_eq_some_iff.mp hd
        have dx := dx.same sm
        obtain ⟨b, x1, x2, rfl, hb2, d1, d2⟩ := dx.inv2
        have pb := hb p (List.mem_of_getElem? hp)
        refine ⟨_, rfl, _, _, rfl, hb2, rfl, _, rfl, iteNS rfl ?_⟩
        refine ⟨_, rfl, _, _, rfl, hb2, rfl, _, _, rfl, _, _, rfl, rfl, ?_⟩
        refine ⟨_, rfl, two_le, fun pz hz => ?_⟩
        have s1 := same_new (o := .tup [.int 0, .int 1]) hz
        refine ⟨_, _, p.2, (0, 1), rfl, d2.same s1, DT.fr (SqT.of upd_same), FB.of pb.2 (by decide), fb_zero, _, _, rfl, rfl, _, rfl, ?_⟩
        by_cases c1 : cmpF p.2 (0, 1) < 0
        · refine if_true_of' (decide_eq_true c1) (iteT ?_)
          exact kE (.inr ⟨p, List.mem_of_getElem? hp, .inl c1⟩) _ (sm.trans s1)
        · refine if_false_of' (decide_eq_false c1) ?_
          refine ⟨_, rfl, _, rfl, _, _, p.1, p.2, rfl, d1.same s1, d2.same s1, FB.of pb.1 (by decide), FB.of pb.2 (by decide), _, _, rfl, rfl, _, rfl, ?_⟩
          by_cases c2 : cmpF p.1 p.2 < 0
          · refine if_true_of' (decide_eq_true c2) ?_
            exact kE (.inr ⟨p, List.mem_of_getElem? hp, .inr c2⟩) _ (sm.trans s1)
          · refine if_false_of' (decide_eq_false c2) ?_
            refine ⟨_, _, _, rfl, sm.trans s1, fun q hq => ?_⟩
            rw [take_next hp] at hq
            rcases List.mem_append.mp hq with hq | hq
            · exact hg q hq
            · rw [List.mem_singleton.mp hq]
              exact fun z => z.elim c1 c2
      · rintro σ H' ⟨y, z, u, rfl, sm, hg⟩
        refine kQ (fun z => ?_) H' sm
        rw [lx, List.take_length] at hg
        rcases z with z | ⟨p, hp, z⟩
        · exact z hl
        · exact hg p hp z
def sp_walk (K : PySem.W.Frag) : Sp := fun vs H Q _ => ∃ (v : V) (g : Int) (n : Node), vs = [v] ∧ DT K H v (marketD g n) ∧ (pre [] n).length ≤ 1000 ∧ ∀ p xs H', Same H H' → H p = none → H' p = some (.lst xs) → DTs K H' xs ((pre [] n).map entD) → Q (.ref p) H'
theorem ok_walk (T : Top K mg) : FnOk P w K mg base CX0 1 T.a_walk T.d_walk ["market"] (sp_walk K) := by
  refine T.walk_F.ok sc_walk (fun vs H Q E h => ?_) (fun cdv A outer s H vs Q E hr h => ?_)
  · obtain ⟨_, _, _, rfl, _⟩ := h
    rfl
  · obtain ⟨v, g, n, rfl, dm, hn, fin⟩ := h
    obtain ⟨m, vn, rfl, hm, dn⟩ := dm.market_inv
    refine ⟨_, (pss_cons (ps_set (i := 1) sc_walk.nd rfl (Or.inl rfl) (pe_lst pa_nil))
      (pss_cons (ps_set (i := 2) sc_walk.nd rfl (Or.inl rfl) (pe_lst (pa_cons (pe_tup (pa_cons (pe_tup pa_nil) (pa_cons (pe_ix ix_tup (pv 0) pe_int (fun _ _ => rfl)) pa_nil))) pa_nil)))
      (pss_cons (ps_while PassesOwn.never (pt_truth (pv 2) (by intro _; rfl)) (pss_cons (ps_asg (pe_bm0 PySem.F.plainAttrs_list PySem.F.slot_list_pop PySem.F.type_list_pop mt_pop (pv 2)) (pg_tup rfl (pgs_cons (pg_name (i := 3) sc_walk.nd rfl (Or.inl rfl)) (pgs_cons (pg_name (i := 4) sc_walk.nd rfl (Or.inl rfl)) pgs_nil))))
      (pss_cons (ps_expr (pe_bm PySem.F.plainAttrs_list PySem.F.slot_list_append PySem.F.type_list_append mt_append (pv 1) (pa_cons (pe_tup (pa_cons (pv 3) (pa_cons (pv 4) pa_nil))) pa_nil)))
      (pss_cons (ps_set (i := 5) sc_walk.nd rfl (Or.inl rfl) (pe_ix ix_tup (pv 4) pe_int (fun _ _ => rfl)))
      (pss_one (ps_for PassesOwn.never rfl (pi_revR (by rfl) T.n_reversed (prg_1 (by rfl) T.n_range (pe_callB call_lenT (by rfl) T.n_len (by decide +kernel) (pa_cons (pv 5) pa_nil)))) (pg_name (i := 6) sc_walk.nd rfl (Or.inl rfl)) (pss_one (ps_expr (pe_bm PySem.F.plainAttrs_list PySem.F.slot_list_append PySem.F.type_list_append mt_append (pv 2) (pa_cons (pe_tup (pa_cons (pe_op op_catP (pv 3) (pe_tup (pa_cons (pv 6) pa_nil))) (pa_cons (pe_ix ix_tup (pv 5) (pv 6) (fun _ _ => rfl)) pa_nil))) pa_nil))))))))))
      (pss_one (ps_ret (pv 1)))))), ?_⟩
    refine ⟨Nat.zero_le _, fun pf hf => ?_⟩
    have s1 := same_new (o := .lst []) hf
    refine ⟨Nat.zero_le _, fun pe he => ?_⟩
    have s2 := s1.trans (same_new (o := .tup []) he)
    refine ⟨_, rfl, _, _, _, _, rfl, rfl, sqt_same s2 hm, atI_nat (j := 1) rfl, two_le, fun pt ht => ⟨(by decide : 1 ≤ sizeLine), fun pw hw => ?_⟩⟩
    have s3 := s2.trans (same_new (o := .tup [.ref pe, vn]) ht)
    have s4 := s3.trans (same_new (o := .lst [.ref pt]) hw)
    have fw : pf ≠ pw := ne_of_none (show (upd (upd (upd H pf (.lst [])) pe (.tup [])) pt (.tup [.ref pe, vn])) pf = some (.lst []) from same_new ht _ _ (same_new he _ _ upd_same)) hw
    have hw0 := s3.free hw
    have dE : DT K (upd (upd (upd (upd H pf (.lst [])) pe (.tup [])) pt (.tup [.ref pe, vn])) pw (.lst [.ref pt])) (.ref pt) (entD ([], n)) := by
      refine .mk2 (SqT.of (same_new hw _ _ upd_same)) ?_ (dn.same s4)
      exact DT.path (SqT.of (same_new hw _ _ (same_new ht _ _ upd_same)))
    refine ⟨fun k σ H' => ∃ (fs ws : List PN) (xf xw : List V) (y3 y4 y5 y6 : Option V), σ = [some (.ref m), some (.ref pf), some (.ref pw), y3, y4, y5, y6] ∧ Same H H' ∧ H' pf = some (.lst xf) ∧ H' pw = some (.lst xw) ∧ DTs K H' xf (fs.map entD) ∧ DTs K H' xw (ws.map entD) ∧ fs ++ ws.reverse.flatMap preE = pre [] n ∧ k = (ws.reverse.flatMap preE).length, ⟨_, [], [([], n)], [], [.ref pt], none, none, none, none, rfl, s4, ?_, upd_same, .nil, .cons dE .nil, ?_, rfl⟩, ?_⟩
    · exact same_new hw _ _ (same_new ht _ _ (same_new he _ _ upd_same))
    · simp [preE]
    · rintro k σ H' ⟨fs, ws, xf, xw, y3, y4, y5, y6, rfl, sm, hF, hW, dF, dW, eq, rfl⟩
      refine ⟨_, rfl, _, .inl ⟨xw, SqL.of hW, rfl⟩, ?_⟩
      rcases List.eq_nil_or_concat ws with rfl | ⟨ws0, e, rfl⟩
      · cases dW
        refine iteF ?_
        rw [List.reverse_nil, List.flatMap_nil, List.append_nil] at eq
        rw [eq] at dF
        exact ⟨_, rfl, fin pf xf H' sm hf hF dF⟩
      · rw [List.concat_eq_append] at *
        obtain ⟨xw0, x, rfl, dW0, dx⟩ : ∃ xw0 x, xw = xw0 ++ [x] ∧ DTs K H' xw0 (ws0.map entD) ∧ DT K H' x (entD e) := by
          have hl := dW.len
          rw [List.map_append, List.length_append] at hl
          have h1 := dW.take (ws0.map entD).length
          have h2 := dW.drop (ws0.map entD).length
          rw [List.map_append, List.take_left' rfl] at h1
          rw [List.map_append, List.drop_left' rfl] at h2
          obtain ⟨x, ex, dx⟩ := h2.inv1
          exact ⟨_, x, by rw [← ex, List.take_append_drop], h1, dx⟩
        have ne : (!(xw0 ++ [x]).isEmpty) = true := by simp
        refine if_true_of' ne ?_
        obtain ⟨b, vp, vk, rfl, hb, dp, dk⟩ := dx.entD_inv
        obtain ⟨c, vq, vc, rfl, hc, dq, dc⟩ := dk.node_inv
        obtain ⟨cc, xk, rfl, hcc, dks⟩ := dc.inv
        have eqn : (ws0 ++ [e]).reverse.flatMap preE = e :: ((kidsOf e).flatMap preE ++ ws0.reverse.flatMap preE) := by
          rw [List.reverse_append, List.reverse_singleton, List.flatMap_append, List.flatMap_singleton, preE_eq]
          rfl
        have kl : e.2.ks.length ≤ 1000 := by
          have h1 := kids_le e
          have h2 : (preE e).length ≤ (pre [] n).length := by
            rw [← eq, List.length_append, eqn, ]
            have : (preE e).length = 1 + ((kidsOf e).flatMap preE).length := by rw [preE_eq]; simp; omega
            rw [this]
            simp
            omega
          rw [kids_len] at h1
          omega
        refine ⟨fun σ2 H2 => ∃ m', m' < ((ws0 ++ [e]).reverse.flatMap preE).length ∧ ∃ (fs ws : List PN) (xf xw : List V) (y3 y4 y5 y6 : Option V), σ2 = [some (.ref m), some (.ref pf), some (.ref pw), y3, y4, y5, y6] ∧ Same H H2 ∧ H2 pf = some (.lst xf) ∧ H2 pw = some (.lst xw) ∧ DTs K H2 xf (fs.map entD) ∧ DTs K H2 xw (ws.map entD) ∧ fs ++ ws.reverse.flatMap preE = pre [] n ∧ m' = (ws.reverse.flatMap preE).length, fun σ2 H2 z => z, ?_⟩
        refine ⟨_, rfl, .inl ⟨rfl, _, SqL.of hW⟩, _, _, _, rfl, rfl, hW, (by simp : (xw0 ++ [V.ref b])[(xw0 ++ [V.ref b]).length - 1]? = some (V.ref b)), ?_⟩
        have x1 : Xt pw H' (upd H' pw (.lst (xw0 ++ [V.ref b]).dropLast)) := Xt.upd
        have iw : IsL H' pw := ⟨_, hW⟩
        have sm1 := same_mut (o := .lst (xw0 ++ [V.ref b]).dropLast) sm hw0
        rw [List.dropLast_concat] at *
        refine ⟨_, _, rfl, sqt_xt iw x1 hb, rfl, _, _, rfl, _, _, rfl, rfl, ?_⟩
        have hF1 := x1 _ _ fw hF
        have hW1 : (upd H' pw (.lst xw0)) pw = some (.lst xw0) := upd_same
        refine ⟨_, rfl, .inl ⟨rfl, _, SqL.of hF1⟩, _, rfl, _, rfl, two_le, fun pu hu => ?_⟩
        have s5 := same_new (o := .tup [vp, V.ref c]) hu
        have hF2 := s5 _ _ hF1
        refine ⟨_, _, _, rfl, rfl, hF2, ?_, ?_⟩
        · have l1 : xf.length = fs.length := by rw [dF.len, List.length_map]
          have l2 : fs.length ≤ 1000 := by
            have := congrArg List.length eq
            rw [List.length_append] at this
            omega
          rw [l1]
          exact small1000 l2
        have if2 : IsL (upd (upd H' pw (.lst xw0)) pu (.tup [vp, V.ref c])) pf := ⟨_, hF2⟩
        have x2 : Xt pf (upd (upd H' pw (.lst xw0)) pu (.tup [vp, V.ref c])) (upd (upd (upd H' pw (.lst xw0)) pu (.tup [vp, V.ref c])) pf (.lst (xf ++ [.ref pu]))) := Xt.upd
        have sm2 := same_mut (o := .lst (xf ++ [.ref pu])) (sm1.trans s5) hf
        have up : ∀ {v : V} {d : PyData}, DT K H' v d → DT K (upd (upd (upd H' pw (.lst xw0)) pu (.tup [vp, V.ref c])) pf (.lst (xf ++ [.ref pu]))) v d := fun h => ((h.xt iw x1).same s5).xt if2 x2
        have ups : ∀ {v : List V} {d : List PyData}, DTs K H' v d → DTs K (upd (upd (upd H' pw (.lst xw0)) pu (.tup [vp, V.ref c])) pf (.lst (xf ++ [.ref pu]))) v d := fun h => ((h.xt iw x1).same s5).xt if2 x2
        have upq : ∀ {a : Addr} {xs : List V}, SqT K H' a xs → SqT K (upd (upd (upd H' pw (.lst xw0)) pu (.tup [vp, V.ref c])) pf (.lst (xf ++ [.ref pu]))) a xs := fun h => sqt_xt if2 x2 (sqt_same s5 (sqt_xt iw x1 h))
        have dU : DT K (upd (upd (upd H' pw (.lst xw0)) pu (.tup [vp, V.ref c])) pf (.lst (xf ++ [.ref pu]))) (.ref pu) (entD e) := .mk2 (sqt_xt if2 x2 (SqT.of upd_same)) (up dp) (up dk)
        refine ⟨_, rfl, _, _, _, _, rfl, rfl, upq hc, atI_nat (j := 1) rfl, ?_⟩
        refine ⟨_, rfl, _, _, rfl, upq hcc, _, rfl, by decide, by decide, by omega, ?_, ?_⟩
        · rw [dks.len, List.length_map]
          omega
        generalize hH3 : upd (upd (upd H' pw (.lst xw0)) pu (.tup [vp, V.ref c])) pf (.lst (xf ++ [.ref pu])) = H3 at *
        have hF3 : H3 pf = some (.lst (xf ++ [.ref pu])) := by rw [← hH3]; exact upd_same
        have hW3 : H3 pw = some (.lst xw0) := x2 _ _ (Ne.symm fw) (s5 _ _ hW1)
        have lk : xk.length = e.2.ks.length := by rw [dks.len, List.length_map]
        refine for_rangeC (fun i σ' H4 => ∃ (xw4 : List V) (y6 : Option V), σ' = [some (.ref m), some (.ref pf), some (.ref pw), some vp, some (.ref c), some (.ref cc), y6] ∧ Same H H4 ∧ Xt pw H3 H4 ∧ H4 pw = some (.lst xw4) ∧ DTs K H4 xw4 ((ws0 ++ (kidsOf e).reverse.take i).map entD)) ⟨xw0, y6, rfl, sm2, Xt.refl _, hW3, ?_⟩ ?_ ?_
        · simpa using ups dW0
        · rintro i σ' H4 hi ⟨xw4, y6, rfl, sm4, x4, hW4, dW4⟩
          have ia : i < e.2.ks.length := by
            rw [← lk]
            omega
          have iw3 : IsL H3 pw := ⟨_, hW3⟩
          have iw4 : IsL H4 pw := ⟨_, hW4⟩
          have ei : (0 : Int) + ((((xk.length : Int) - 0).toNat : Nat) : Int) - 1 + (i : Int) * (-1) = ((e.2.ks.length - 1 - i : Nat) : Int) := by
            rw [lk]
            omega
          have hk : e.2.ks[e.2.ks.length - 1 - i]? = some e.2.ks[e.2.ks.length - 1 - i] := List.getElem?_eq_getElem (by omega)
          obtain ⟨xx, hxx, dxx⟩ := (ups dks).at_ (i := e.2.ks.length - 1 - i) (d := nodeD e.2.ks[e.2.ks.length - 1 - i]) (by rw [List.getElem?_map, hk]; rfl)
          have dxx4 := dxx.xt iw3 x4
          obtain ⟨ap, rfl, hap⟩ := ((up dp).xt iw3 x4).path_inv
          have hsz : e.1.length ≤ 1000 := by
            have hm : e ∈ preE ([], n) := by
              show e ∈ pre [] n
              rw [← eq, eqn]
              simp
            have := pre_len _ ([], n) e (Nat.le_refl _) hm
            have h2 : (preE ([], n)).length ≤ 1000 := hn
            simp only [List.length_nil] at this
            omega
          refine ⟨_, rfl, .inl ⟨rfl, _, SqL.of hW4⟩, _, rfl, _, rfl, (by decide : 1 ≤ sizeLine), fun p1 hp1 => ?_⟩
          have s6 := same_new (o := .tup [.int ((0 : Int) + ((((xk.length : Int) - 0).toNat : Nat) : Int) - 1 + (i : Int) * (-1))]) hp1
          refine ⟨ap, p1, _, _, rfl, rfl, sqt_same s6 hap, SqT.of upd_same, ?_, fun p2 H5 s7 hp2 => ?_⟩
          · rw [List.length_map]
            exact Nat.le_trans (show e.1.length + 1 ≤ 2000 by omega) (by decide)
          rw [ei] at hp2
          have s67 := s6.trans s7
          have xkk : SqT K H5 cc xk := sqt_same s67 (sqt_xt iw3 x4 (upq hcc))
          refine ⟨_, rfl, _, rfl, _, _, _, _, rfl, rfl, xkk, by rw [ei]; exact atI_nat hxx, two_le, fun p3 hp3 => ?_⟩
          have s8 := same_new (o := .tup [.ref p2, xx]) hp3
          have s678 := s67.trans s8
          have hW5 := s678 _ _ hW4
          refine ⟨_, _, _, rfl, rfl, hW5, ?_, ?_⟩
          · rw [dW4.len, List.length_map]
            have h1 : ws0.length ≤ 1000 := by
              have h0 := len_le_flat ws0.reverse
              rw [List.length_reverse] at h0
              have := congrArg List.length eq
              rw [List.length_append, eqn] at this
              simp only [List.length_cons, List.length_append] at this
              omega
            rw [List.length_append, List.length_take]
            exact Nat.lt_of_le_of_lt (show _ ≤ 5000 by omega) (by decide)
          · have x5 : Xt pw H4 (upd (upd H5 p3 (.tup [.ref p2, xx])) pw (.lst (xw4 ++ [.ref p3]))) := (Xt.of s678).trans Xt.upd
            have x6 : Xt pw (upd H5 p3 (.tup [.ref p2, xx])) (upd (upd H5 p3 (.tup [.ref p2, xx])) pw (.lst (xw4 ++ [.ref p3]))) := Xt.upd
            have iw5 : IsL (upd H5 p3 (.tup [.ref p2, xx])) pw := ⟨_, hW5⟩
            refine ⟨xw4 ++ [.ref p3], _, rfl, same_mut (sm4.trans s678) hw0, x4.trans x5, upd_same, ?_⟩
            have hr : (kidsOf e).reverse[i]? = some (e.1 ++ [((e.2.ks.length - 1 - i : Nat) : Int)], e.2.ks[e.2.ks.length - 1 - i]) := by
              rw [List.getElem?_reverse (by rw [kids_len]; exact ia), kids_len]
              exact kids_get hk
            rw [take_next hr, ← List.append_assoc, List.map_append]
            refine (dW4.xt iw4 x5).snoc ?_
            refine .mk2 (sqt_xt iw5 x6 (SqT.of upd_same)) ?_ (((dxx4.same s67).same s8).xt iw5 x6)
            have hq : SqT K H5 p2 ((e.1 ++ [((e.2.ks.length - 1 - i : Nat) : Int)]).map V.int) := by
              rw [List.map_append]
              exact hp2
            exact ((DT.path hq).same s8).xt iw5 x6
        · rintro σ' H4 ⟨xw4, y6, rfl, sm4, x4, hW4, dW4⟩
          have iw3 : IsL H3 pw := ⟨_, hW3⟩
          have et : (kidsOf e).reverse.take (((xk.length : Int) - 0).toNat) = (kidsOf e).reverse := by
            refine List.take_of_length_le ?_
            rw [List.length_reverse, kids_len, lk]
            omega
          rw [et] at dW4
          have er : (ws0 ++ (kidsOf e).reverse).reverse.flatMap preE = (kidsOf e).flatMap preE ++ ws0.reverse.flatMap preE := by
            rw [List.reverse_append, List.reverse_reverse, List.flatMap_append]
          refine ⟨_, ?_, fs ++ [e], ws0 ++ (kidsOf e).reverse, xf ++ [.ref pu], xw4, _, _, _, _, rfl, sm4, x4 _ _ fw hF3, hW4, ?_, dW4, ?_, rfl⟩
          · rw [er, eqn]
            simp
          · rw [List.map_append]
            refine DTs.xt (DTs.snoc (ups dF) dU) iw3 x4
          · rw [er, ← eq, eqn]
            simp
def sp_check (K : PySem.W.Frag) (M L : Addr) : Sp := fun vs H Q E => ∃ (v : V) (g : Int) (n : Node), vs = [v] ∧ DT K H v (marketD g n) ∧ NodeB n ∧ (pre [] n).length ≤ 1000 ∧ (BadM g n → ∀ H', Same H H' → E (.ref M) none H') ∧ (¬ BadM g n → BigM n → ∀ H', Same H H' → E (.ref L) none H') ∧ (¬ BadM g n → ¬ BigM n → ∀ H', Same H H' → Q .non H')
theorem ok_check_market (T : Top K mg) : FnOk P w K mg base (L2.CX P w) 3 T.a_check_market T.d_check_market ["market"] (sp_check K T.c_MarketError T.c_TooLarge) := by
  refine T.check_market_F.okX sc_check_market (fun vs H Q E h => ?_) (fun cdv A outer s H vs Q E hr h => ?_)
  · obtain ⟨_, _, _, rfl, _⟩ := h
    rfl
  · obtain ⟨v, g, n, rfl, dm, hb, hn, kM, kL, kQ⟩ := h
    obtain ⟨m, vn, rfl, hm, dn⟩ := dm.market_inv
    refine ⟨_, (pss_cons (ps_asg (pv 0) (pg_tup rfl (pgs_cons (pg_name (i := 1) sc_check_market.nd rfl (Or.inl rfl)) (pgs_cons (pg_name (i := 2) sc_check_market.nd rfl (Or.inl rfl)) pgs_nil))))
      (pss_cons (ps_if (pt_not (pt_chain op_le op_le pe_int (pv 1) (pe_glob (v := .int 4) (by rfl) T.g_GOODS_LIMIT ⟨_, rfl⟩))) (pss_one (ps_raise rfl (takes_of rfl rfl rfl rfl) (pmk_own PySem.F.excBase_ValueError T.x_MarketError T.g_MarketError T.k_MarketError (raises_own T.b_MarketError T.t_MarketError) rfl))) pss_nil)
      (pss_cons (ps_set (i := 3) sc_check_market.nd rfl (Or.inl rfl) (pe_call (ok_walk T) (hr.mono (by decide : 1 ≤ 2)) (by rfl) T.g_walk T.walk_F.kp T.walk_b .nil pass0 (pa_cons (pv 0) pa_nil)))
      (pss_cons (ps_for (passes_of rfl) rfl (pi_list (pv 3)) (pg_tup rfl (pgs_cons (pg_name (i := 2) sc_check_market.nd rfl (Or.inl rfl)) (pgs_cons (pg_name (i := 4) sc_check_market.nd rfl (Or.inl rfl)) pgs_nil))) (pss_one (ps_expr (pe_callS (ok__check_prices T) (hr.mono (by decide : 2 ≤ 2)) rfl T.g__check_prices T._check_prices_F.kp T._check_prices_b (fun σ => passAt (takes_of rfl rfl rfl rfl) σ) (pa_cons (pv 1) (pa_cons (pe_ix ix_tup (pv 4) pe_int (fun _ _ => rfl)) pa_nil))))))
      (pss_cons (ps_setLc (i := 5) (own := [("path", 6), ("node", 4)]) (g := (gTup K 2 (gCons (gName 6) (gCons (gName 4) gNil)))) (tt := tNot (tTruK K (tOp (rIxT K) (tVar 4) (tC (.int 1))))) (by rfl) sc_check_market.nd rfl rfl (sw_true rfl rfl rfl (by decide +kernel)) (pi_list (pv 3)) (blkOk_by (own := [("path", 6), ("node", 4)]) (N := ["market", "goods", "_", "nodes", "node", "end_times", "path"]) (sc := defScope s_check_market) (by decide +kernel)) (fun _ _ _ _ _ => (pg_tup rfl (pgs_cons (pg_name (i := 6) sc_check_market.nd rfl (Or.inl rfl)) (pgs_cons (pg_name (i := 4) sc_check_market.nd rfl (Or.inl rfl)) pgs_nil)))) (fun _ _ _ _ _ => (pts_one (pt_not (pt_truth (pe_ix (r := rIxT K) ix_tup (pv 4) pe_int (fun _ _ => rfl)) (by intro _; rfl))))) (fun _ _ _ _ _ => (pe_callB (r := rLenT K) call_lenT (by rfl) T.n_len (by decide +kernel) (pa_cons (pv 6) pa_nil))))
      (pss_cons (ps_if (pt_cmpR op_ne (pe_callB (cr_min rfl) (by rfl) T.n_min (by decide +kernel) (pa_cons (pv 5) pa_nil)) (pe_callB (cr_max rfl) (by rfl) T.n_max (by decide +kernel) (pa_cons (pv 5) pa_nil)) (nomark _)) (pss_one (ps_raise rfl (takes_of rfl rfl rfl rfl) (pmk_own PySem.F.excBase_ValueError T.x_MarketError T.g_MarketError T.k_MarketError (raises_own T.b_MarketError T.t_MarketError) rfl))) pss_nil)
      (pss_one (ps_if (PW.pt (pw_or (pt_cmpR op_gt (pe_callB call_lenL (by rfl) T.n_len (by decide +kernel) (pa_cons (pv 3) pa_nil)) (pe_glob (v := .int 40) (by rfl) T.g_MOMENT_LIMIT ⟨_, rfl⟩) (nomark _)) (pw_or1 (pt_cmpR op_gt (pe_ix ix_list (pv 5) pe_int (fun _ _ => rfl)) (pe_glob (v := .int 5) (by rfl) T.g_TIME_LIMIT ⟨_, rfl⟩) (nomark _))))) (pss_one (ps_raise rfl (takes_of rfl rfl rfl rfl) (pmk_own PySem.F.excBase_ValueError T.x_TooLarge T.g_TooLarge T.k_TooLarge (raises_own T.b_TooLarge T.t_TooLarge) rfl))) pss_nil)))))))), ?_⟩
    refine ⟨_, rfl, _, _, rfl, hm, rfl, _, _, rfl, _, _, rfl, rfl, ?_⟩
    -- goods
    refine ⟨_, rfl, _, _, rfl, rfl, _, rfl, ite2 (fun e1 => ⟨_, _, rfl, rfl, _, rfl, ?_⟩) (fun e1 => ⟨_, rfl, iteT (kM (.inl fun z => e1 (decide_eq_true z.1)) H (Same.refl H))⟩)⟩
    have g1 : 1 ≤ g := of_decide_eq_true e1
    by_cases g4 : g ≤ 4
    · rw [decide_eq_true g4]
      refine iteF ?_
      -- nodes
      refine ⟨_, rfl, .ref m, g, n, rfl, dm, hn, fun pf xf H1 s1 hf hF dF => ?_⟩
      have lf : xf.length = (pre [] n).length := by rw [dF.len, List.length_map]
      refine ⟨_, rfl, pf, rfl, ⟨_, SqL.of hF⟩, for_list (K := K) (a := pf) (xs := xf) (fun i σ H' => ∃ (y2 y4 y5 y6 : Option V), σ = [some (.ref m), some (.int g), y2, some (.ref pf), y4, y5, y6] ∧ Same H1 H' ∧ ∀ e ∈ (pre [] n).take i, ¬ badPs g e.2.ps) ⟨_, _, _, _, rfl, Same.refl _, fun e he => by simp at he⟩ (fun i σ H' _ ⟨_, _, _, _, _, sm, _⟩ => SqL.of (sm _ _ hF)) ?_ ?_⟩
      · rintro i x σ H' hi ⟨y2, y4, y5, y6, rfl, sm, hg⟩
        obtain ⟨d, hd, dx⟩ := dF.get hi
        rw [List.getElem?_map] at hd
        obtain ⟨e, he, rfl⟩ := Option.map_eq_some_iff.mp hd
        obtain ⟨b, vp, vk, rfl, hb2, dp, dk⟩ := (dx.same sm).entD_inv
        obtain ⟨c, vq, vc, rfl, hc, dq, dc⟩ := dk.node_inv
        refine ⟨_, _, rfl, hb2, rfl, _, _, rfl, _, _, rfl, rfl, ?_⟩
        refine ⟨_, rfl, _, rfl, _, _, _, _, rfl, rfl, hc, atI_nat (j := 0) rfl, g, vq, e.2.ps, rfl, dq, hb e (List.mem_of_getElem? he), fun z H2 s2 => ?_, fun z H2 s2 => ?_⟩
        · exact kM (.inr (.inl ⟨e, List.mem_of_getElem? he, z⟩)) H2 ((s1.trans sm).trans s2)
        · refine ⟨_, _, _, _, rfl, sm.trans s2, fun q hq => ?_⟩
          rw [take_next he] at hq
          rcases List.mem_append.mp hq with hq | hq
          · exact hg q hq
          · rw [List.mem_singleton.mp hq]
            exact z
      · rintro σ H2 ⟨y2, y4, y5, y6, rfl, s2, hg⟩
        rw [lf, List.take_length] at hg
        have hF2 := s2 _ _ hF
        have dF2 := dF.same s2
        -- end_times
        refine ⟨_, rfl, pf, rfl, ⟨_, SqL.of hF2⟩, fun D hD => lc_list (K := K) (a := pf) (xs := xf) (fun i H' => ∃ o, Same H2 H' ∧ H' D = some (.lst o) ∧ o = (((pre [] n).take i).filter fun e => e.2.ks.isEmpty).map fun e => V.int (e.1.length : Int)) ⟨[], same_new hD, upd_same, rfl⟩ (fun i H' _ ⟨_, sm, _⟩ => SqL.of (sm _ _ hF2)) ?_ ?_⟩
        · rintro i x H' hi ⟨o, sm, hO, eO⟩
          obtain ⟨d, hd, dx⟩ := dF2.get hi
          rw [List.getElem?_map] at hd
          obtain ⟨e, he, rfl⟩ := Option.map_eq_some_iff.mp hd
          obtain ⟨b, vp, vk, rfl, hb2, dp, dk⟩ := (dx.same sm).entD_inv
          obtain ⟨c, vq, vc, rfl, hc, dq, dc⟩ := dk.node_inv
          obtain ⟨cc, xk, rfl, hcc, dks⟩ := dc.inv
          obtain ⟨ap, rfl, hap⟩ := dp.path_inv
          have lk : xk.length = e.2.ks.length := by rw [dks.len, List.length_map]
          have ek : xk.isEmpty = e.2.ks.isEmpty := by
            rw [Bool.eq_iff_iff, List.isEmpty_iff_length_eq_zero, List.isEmpty_iff_length_eq_zero, lk]
          refine ⟨_, _, rfl, hb2, rfl, _, _, rfl, _, _, rfl, rfl, rfl, ?_⟩
          cases hz : e.2.ks.isEmpty with
          | true =>
            refine ⟨_, rfl, _, _, _, _, rfl, rfl, hc, atI_nat (j := 1) rfl, _, tru_tup' hcc (ek.trans hz), ?_⟩
            refine iteT ⟨_, rfl, _, _, rfl, hap, o, hO, ?_, _, same_mut sm hD, upd_same, ?_⟩
            · rw [eO, List.length_map]
              refine Nat.lt_of_le_of_lt (List.length_filter_le _ _) (Nat.lt_of_le_of_lt (List.length_take_le' _ _) (small1000 hn))
            · rw [filter_next he, hz, eO]
              simp
          | false =>
            refine ⟨_, rfl, _, _, _, _, rfl, rfl, hc, atI_nat (j := 1) rfl, _, tru_tup' hcc (ek.trans hz), ?_⟩
            refine iteF ⟨o, sm, hO, ?_⟩
            rw [filter_next he, hz, eO]
            simp
        · rintro H3 ⟨o, s3, hO, eO⟩
          rw [lf, List.take_length] at eO
          have eO2 : o = ((endLens n).map fun a : Nat => (a : Int)).map V.int := by
            rw [eO]
            unfold endLens
            rw [List.map_map, List.map_map]
            rfl
          rw [eO2] at hO
          have lp : 0 < ((endLens n).map fun a : Nat => (a : Int)).length := by
            rw [List.length_map]
            exact ends_pos n
          have sAll := (s1.trans s2).trans s3
          have hF3 := s3 _ _ hF2
          refine ⟨_, rfl, D, _, rfl, SqL.of hO, lp, fun lo hlo hlo2 => ⟨_, rfl, D, _, rfl, SqL.of hO, lp, fun hi hhi hhi2 => ?_⟩⟩
          obtain ⟨la, hla, rfl⟩ := List.mem_map.mp hlo
          obtain ⟨lb, hlb, rfl⟩ := List.mem_map.mp hhi
          have same_iff : la = lb ↔ ∀ a ∈ endLens n, ∀ b ∈ endLens n, a = b := by
            constructor
            · intro e a ha b hb
              have h1 := hlo2 _ (List.mem_map.mpr ⟨a, ha, rfl⟩)
              have h2 := hhi2 _ (List.mem_map.mpr ⟨a, ha, rfl⟩)
              have h3 := hlo2 _ (List.mem_map.mpr ⟨b, hb, rfl⟩)
              have h4 := hhi2 _ (List.mem_map.mpr ⟨b, hb, rfl⟩)
              omega
            · exact fun h => h la hla lb hlb
          refine ⟨rfl, _, rfl, ite2 (fun e => ?_) (fun e => ?_)⟩
          · have hne : la ≠ lb := fun z => by
              rw [z] at e
              simp at e
            exact kM (.inr (.inr ⟨la, hla, lb, hlb, hne⟩)) H3 sAll
          · have heq : la = lb := by
              have : (V.int (la : Int)) = V.int (lb : Int) := by simpa using e
              have := V.int.inj this
              omega
            have good : ¬ BadM g n := by
              rintro (z | ⟨e, he, z⟩ | ⟨a, ha, b, hb', z⟩)
              · exact z ⟨g1, g4⟩
              · exact hg e he z
              · exact z (same_iff.mp heq a ha b hb')
            refine ⟨_, rfl, _, _, rfl, SqL.of hF3, _, _, rfl, rfl, _, rfl, ?_⟩
            have e0 : ∃ a0, (endLens n)[0]? = some a0 := ⟨_, List.getElem?_eq_getElem (ends_pos n)⟩
            obtain ⟨a0, h0⟩ := e0
            have hm0 := List.mem_of_getElem? h0
            have h0' : (((endLens n).map fun a : Nat => (a : Int)).map V.int)[0]? = some (.int (a0 : Int)) := by
              rw [List.getElem?_map, List.getElem?_map, h0]
              rfl
            by_cases c1 : (4 * 10 : Int) < (xf.length : Int)
            · refine if_true_of' (decide_eq_true c1) (iteT (kL good (.inl ?_) H3 sAll))
              omega
            · refine if_false_of' (decide_eq_false c1) ⟨_, rfl, _, _, _, _, rfl, rfl, SqL.of hO, atI_nat (j := 0) h0', _, _, rfl, rfl, _, rfl, ?_⟩
              by_cases c2 : (5 : Int) < (a0 : Int)
              · exact if_true_of' (decide_eq_true c2) (kL good (.inr ⟨a0, hm0, by omega⟩) H3 sAll)
              · refine if_false_of' (decide_eq_false c2) (kQ good ?_ H3 sAll)
                rintro (z | ⟨a, ha, z⟩)
                · omega
                · have := same_iff.mp heq a ha a0 hm0
                  omega
    · rw [decide_eq_false g4]
      exact iteT (kM (.inl fun z => g4 z.2) H (Same.refl H))
end
end Nl

namespace Nl
open PySem PySem.Spec PyProof.Rows L2
section
variable {P : Program} {w : World} {K : PySem.W.Frag} {mg : Str → Option Value} {base : Heap}
def sp_node_at (K : PySem.W.Frag) (M : Addr) : Sp := fun vs H Q E => ∃ (v va : V) (g : Int) (n : Node) (p : List Int), vs = [v, va] ∧ DT K H v (marketD g n) ∧ DT K H va (pathD p) ∧ (find n p = none → E (.ref M) none H) ∧ (∀ m, find n p = some m → ∀ v', DT K H v' (nodeD m) → Q v' H)
theorem ok_node_at (T : Top K mg) : FnOk P w K mg base (L2.CX P w) 1 T.a_node_at T.d_node_at ["market", "path"] (sp_node_at K T.c_MomentError) := by
  refine T.node_at_F.okX sc_node_at (fun vs H Q E h => ?_) (fun cdv A outer s H vs Q E hr h => ?_)
  · obtain ⟨_, _, _, _, _, rfl, _⟩ := h
    rfl
  · obtain ⟨_, _, g, n, p, rfl, dm, dp, kE, kQ⟩ := h
    obtain ⟨m, vn, rfl, hm, dn⟩ := dm.market_inv
    obtain ⟨a, rfl, ha⟩ := dp.path_inv
    refine ⟨_, (pss_cons (ps_set (i := 2) sc_node_at.nd rfl (Or.inl rfl) (pe_ix ix_tup (pv 0) pe_int (fun _ _ => rfl)))
      (pss_cons (ps_for (passes_of rfl) rfl (pi_tup (pv 1)) (pg_name (i := 3) sc_node_at.nd rfl (Or.inl rfl)) (pss_cons (ps_set (i := 4) sc_node_at.nd rfl (Or.inl rfl) (pe_ix ix_tup (pv 2) pe_int (fun _ _ => rfl)))
      (pss_cons (ps_if (pt_not (pt_chain op_le op_lt pe_int (pv 3) (pe_callB call_lenT (by rfl) T.n_len (by decide +kernel) (pa_cons (pv 4) pa_nil)))) (pss_one (ps_raise rfl (takes_of rfl rfl rfl rfl) (pmk_own PySem.F.excBase_ValueError T.x_MomentError T.g_MomentError T.k_MomentError (raises_own T.b_MomentError T.t_MomentError) rfl))) pss_nil)
      (pss_one (ps_set (i := 2) sc_node_at.nd rfl (Or.inl rfl) (pe_ix ix_tup (pv 4) (pv 3) (fun _ _ => rfl)))))))
      (pss_one (ps_ret (pv 2))))), ?_⟩
    refine ⟨_, rfl, _, _, _, _, rfl, rfl, hm, atI_nat (j := 1) rfl, ?_⟩
    refine ⟨_, rfl, a, rfl, ⟨_, ha⟩, for_tup (fun i σ H' => ∃ (vn : V) (m' : Node) (y z : Option V), σ = [some (.ref m), some (.ref a), some vn, y, z] ∧ H' = H ∧ DT K H vn (nodeD m') ∧ find n p = find m' (p.drop i)) ⟨vn, n, none, none, rfl, rfl, dn, rfl⟩ (fun i σ H' _ ⟨_, _, _, _, _, e, _⟩ => e ▸ ha) ?_ ?_⟩
    · rintro i x σ H' hi ⟨vn, m', y, z, rfl, rfl, dk, ef⟩
      rw [List.getElem?_map] at hi
      obtain ⟨j, hj, rfl⟩ := Option.map_eq_some_iff.mp hi
      obtain ⟨c, vq, vc, rfl, hc, dq, dc⟩ := dk.node_inv
      obtain ⟨cc, xk, rfl, hcc, dks⟩ := dc.inv
      have lk : xk.length = m'.ks.length := by rw [dks.len, List.length_map]
      have il := (List.getElem?_eq_some_iff.mp hj).1
      have ed : p.drop i = j :: p.drop (i + 1) := by
        rw [List.drop_eq_getElem_cons il]
        rw [List.getElem?_eq_getElem il] at hj
        rw [Option.some.inj hj]
      have out : ¬ (0 ≤ j ∧ j < (m'.ks.length : Int)) → find n p = none := fun z => by
        rw [ef, ed]
        exact find_out z
      refine ⟨_, rfl, _, _, _, _, rfl, rfl, hc, atI_nat (j := 1) rfl, ?_⟩
      refine ⟨_, rfl, _, _, rfl, rfl, _, rfl, ite2 (fun e1 => ⟨_, rfl, _, _, rfl, hcc, _, _, rfl, rfl, _, rfl, ?_⟩) (fun e1 => ⟨_, rfl, iteT (kE (out fun z => e1 (decide_eq_true z.1)))⟩)⟩
      have j0 : 0 ≤ j := of_decide_eq_true e1
      by_cases j1 : j < (xk.length : Int)
      · rw [decide_eq_true j1]
        refine iteF ?_
        obtain ⟨jn, rfl⟩ := Int.eq_ofNat_of_zero_le j0
        have hk : m'.ks[jn]? = some m'.ks[jn] := List.getElem?_eq_getElem (by omega)
        obtain ⟨xx, hxx, dxx⟩ := dks.at_ (i := jn) (d := nodeD m'.ks[jn]) (by rw [List.getElem?_map, hk]; rfl)
        refine ⟨_, rfl, _, rfl, _, _, _, _, rfl, rfl, hcc, atI_nat hxx, xx, _, _, _, rfl, rfl, dxx, ?_⟩
        rw [ef, ed, find_cons, hk]
        rfl
      · rw [decide_eq_false j1]
        exact iteT (kE (out fun z => j1 (by rw [lk]; exact z.2)))
    · rintro σ H' ⟨vn, m', y, z, rfl, rfl, dk, ef⟩
      rw [List.length_map, List.drop_length] at ef
      exact ⟨_, rfl, kQ m' ef _ dk⟩
def Good (g : Int) (n : Node) : Prop := ¬ BadM g n ∧ ¬ BigM n
/-- a market that is fine -/
structure Mk (K : PySem.W.Frag) (H : Hp) (v : V) (g : Int) (n : Node) : Prop where
  d : DT K H v (marketD g n)
  b : NodeB n
  l : (pre [] n).length ≤ 1000
theorem Mk.same {H H' : Hp} {v : V} {g : Int} {n : Node} (h : Mk K H v g n) (s : Same H H') : Mk K H' v g n := ⟨h.d.same s, h.b, h.l⟩
theorem Mk.xt {H H' : Hp} {v : V} {g : Int} {n : Node} {p : Addr} (h : Mk K H v g n) (i : IsL H p) (s : Xt p H H') : Mk K H' v g n := ⟨h.d.xt i s, h.b, h.l⟩
/-- what checks ahead of all -/
def spM (K : PySem.W.Frag) (M L : Addr) (vs : List V) (v : V) (H : Hp) (E : XK) (k : Hp → Prop) : Prop := ∃ (g : Int) (n : Node), Mk K H v g n ∧ (BadM g n → ∀ H', Same H H' → E (.ref M) none H') ∧ (¬ BadM g n → BigM n → ∀ H', Same H H' → E (.ref L) none H')
def sp_moments (K : PySem.W.Frag) : Sp := fun vs H Q _ => ∃ (v : V) (g : Int) (n : Node), vs = [v] ∧ Mk K H v g n ∧ Good g n ∧ ∀ v' H', Same H H' → DT K H' v' (.tuple ((pre [] n).map fun e => pathD e.1)) → Q v' H'
theorem ok_moments (T : Top K mg) : FnOk P w K mg base (L2.CX P w) 4 T.a_moments T.d_moments ["market"] (sp_moments K) := by
  refine T.moments_F.okX sc_moments (fun vs H Q E h => ?_) (fun cdv A outer s H vs Q E hr h => ?_)
  · obtain ⟨_, _, _, rfl, _⟩ := h
    rfl
  · obtain ⟨v, g, n, rfl, M, G, fin⟩ := h
    refine ⟨_, (pss_cons (ps_expr (pe_callS (ok_check_market T) (hr.mono (by decide : 3 ≤ 3)) rfl T.g_check_market T.check_market_F.kp T.check_market_b (fun σ => passAt (takes_of rfl rfl rfl rfl) σ) (pa_cons (pv 0) pa_nil)))
      (pss_one (ps_ret (pe_callTy call_tupL (by rfl) T.n_tuple (by decide +kernel) (pa_cons (pe_lc (own := [("path", 1), ("_", 2)]) (g := (gTup K 2 (gCons (gName 1) (gCons (gName 2) gNil)))) (tt := tYes) (by rfl) sc_moments.nd (pi_list (pe_call (ok_walk T) (hr.mono (by decide : 1 ≤ 3)) (by rfl) T.g_walk T.walk_F.kp T.walk_b .nil pass0 (pa_cons (pv 0) pa_nil))) (blkOk_by (own := [("path", 1), ("_", 2)]) (N := ["market", "path", "_"]) (sc := defScope s_moments) (by decide +kernel)) (fun _ _ _ _ _ => (pg_tup rfl (pgs_cons (pg_name (i := 1) sc_moments.nd rfl (Or.inl rfl)) (pgs_cons (pg_name (i := 2) sc_moments.nd rfl (Or.inl rfl)) pgs_nil)))) (fun _ _ _ _ _ => pts_nil) (fun _ _ _ _ _ => (pv 1))) pa_nil))))), ?_⟩
    refine ⟨_, rfl, v, g, n, rfl, M.d, M.b, M.l, fun z => (G.1 z).elim, fun _ z => (G.2 z).elim, fun _ _ H1 s1 => ?_⟩
    have M1 := M.same s1
    refine ⟨_, rfl, v, g, n, rfl, M1.d, M1.l, fun pf xf H2 s2 hf hF dF => ?_⟩
    have lf : xf.length = (pre [] n).length := by rw [dF.len, List.length_map]
    refine ⟨pf, rfl, ⟨_, SqL.of hF⟩, fun D hD => lc_list (K := K) (a := pf) (xs := xf) (fun i H' => ∃ o, Same H2 H' ∧ H' D = some (.lst o) ∧ DTs K H' o (((pre [] n).take i).map fun e => pathD e.1)) ⟨[], same_new hD, upd_same, .nil⟩ (fun i H' _ ⟨_, sm, _⟩ => SqL.of (sm _ _ hF)) ?_ ?_⟩
    · rintro i x H' hi ⟨o, sm, hO, dO⟩
      obtain ⟨d, hd, dx⟩ := dF.get hi
      rw [List.getElem?_map] at hd
      obtain ⟨e, he, rfl⟩ := Option.map_eq_some_iff.mp hd
      obtain ⟨b, vp, vk, rfl, hb2, dp, dk⟩ := (dx.same sm).entD_inv
      refine ⟨_, _, rfl, hb2, rfl, _, _, rfl, _, _, rfl, rfl, rfl, ?_⟩
      dsimp only [tYes]
      rw [if_pos rfl]
      refine ⟨_, rfl, o, hO, ?_, _, same_mut sm hD, upd_same, ?_⟩
      · rw [dO.len, List.length_map]
        exact Nat.lt_of_le_of_lt (List.length_take_le' _ _) (small1000 M.l)
      · rw [take_next he, List.map_append]
        have iD : IsL H' D := ⟨_, hO⟩
        exact (dO.xt iD Xt.upd).snoc (dp.xt iD Xt.upd)
    · rintro H3 ⟨o, s3, hO, dO⟩
      rw [lf, List.take_length] at dO
      refine ⟨_, _, rfl, SqL.of hO, fun l hl => ?_⟩
      have s4 := same_new (o := .tup o) hl
      exact fin _ _ (((s1.trans s2).trans s3).trans s4) (.tup (SqT.of upd_same) (dO.same s4))
def endsN (n : Node) : List PN := (pre [] n).filter fun e => e.2.ks.isEmpty
def sp_ends (K : PySem.W.Frag) : Sp := fun vs H Q _ => ∃ (v : V) (g : Int) (n : Node), vs = [v] ∧ Mk K H v g n ∧ Good g n ∧ ∀ v' H', Same H H' → DT K H' v' (.tuple ((endsN n).map fun e => pathD e.1)) → Q v' H'
theorem ok_ends (T : Top K mg) : FnOk P w K mg base (L2.CX P w) 4 T.a_ends T.d_ends ["market"] (sp_ends K) := by
  refine T.ends_F.okX sc_ends (fun vs H Q E h => ?_) (fun cdv A outer s H vs Q E hr h => ?_)
  · obtain ⟨_, _, _, rfl, _⟩ := h
    rfl
  · obtain ⟨v, g, n, rfl, M, G, fin⟩ := h
    refine ⟨_, (pss_cons (ps_expr (pe_callS (ok_check_market T) (hr.mono (by decide : 3 ≤ 3)) rfl T.g_check_market T.check_market_F.kp T.check_market_b (fun σ => passAt (takes_of rfl rfl rfl rfl) σ) (pa_cons (pv 0) pa_nil)))
      (pss_one (ps_ret (pe_callTy call_tupL (by rfl) T.n_tuple (by decide +kernel) (pa_cons (pe_lc (own := [("path", 1), ("node", 2)]) (g := (gTup K 2 (gCons (gName 1) (gCons (gName 2) gNil)))) (tt := tNot (tTruK K (tOp (rIxT K) (tVar 2) (tC (.int 1))))) (by rfl) sc_ends.nd (pi_list (pe_call (ok_walk T) (hr.mono (by decide : 1 ≤ 3)) (by rfl) T.g_walk T.walk_F.kp T.walk_b .nil pass0 (pa_cons (pv 0) pa_nil))) (blkOk_by (own := [("path", 1), ("node", 2)]) (N := ["market", "path", "node"]) (sc := defScope s_ends) (by decide +kernel)) (fun _ _ _ _ _ => (pg_tup rfl (pgs_cons (pg_name (i := 1) sc_ends.nd rfl (Or.inl rfl)) (pgs_cons (pg_name (i := 2) sc_ends.nd rfl (Or.inl rfl)) pgs_nil)))) (fun _ _ _ _ _ => (pts_one (pt_not (pt_truth (pe_ix (r := rIxT K) ix_tup (pv 2) pe_int (fun _ _ => rfl)) (by intro _; rfl))))) (fun _ _ _ _ _ => (pv 1))) pa_nil))))), ?_⟩
    refine ⟨_, rfl, v, g, n, rfl, M.d, M.b, M.l, fun z => (G.1 z).elim, fun _ z => (G.2 z).elim, fun _ _ H1 s1 => ?_⟩
    have M1 := M.same s1
    refine ⟨_, rfl, v, g, n, rfl, M1.d, M1.l, fun pf xf H2 s2 hf hF dF => ?_⟩
    have lf : xf.length = (pre [] n).length := by rw [dF.len, List.length_map]
    refine ⟨pf, rfl, ⟨_, SqL.of hF⟩, fun D hD => lc_list (K := K) (a := pf) (xs := xf) (fun i H' => ∃ o, Same H2 H' ∧ H' D = some (.lst o) ∧ DTs K H' o ((((pre [] n).take i).filter fun e => e.2.ks.isEmpty).map fun e => pathD e.1)) ⟨[], same_new hD, upd_same, .nil⟩ (fun i H' _ ⟨_, sm, _⟩ => SqL.of (sm _ _ hF)) ?_ ?_⟩
    · rintro i x H' hi ⟨o, sm, hO, dO⟩
      obtain ⟨d, hd, dx⟩ := dF.get hi
      rw [List.getElem?_map] at hd
      obtain ⟨e, he, rfl⟩ := Option.map_eq_some_iff.mp hd
      obtain ⟨b, vp, vk, rfl, hb2, dp, dk⟩ := (dx.same sm).entD_inv
      obtain ⟨c, vq, vc, rfl, hc, dq, dc⟩ := dk.node_inv
      obtain ⟨cc, xk, rfl, hcc, dks⟩ := dc.inv
      have lk : xk.length = e.2.ks.length := by rw [dks.len, List.length_map]
      have ek : xk.isEmpty = e.2.ks.isEmpty := by
        rw [Bool.eq_iff_iff, List.isEmpty_iff_length_eq_zero, List.isEmpty_iff_length_eq_zero, lk]
      refine ⟨_, _, rfl, hb2, rfl, _, _, rfl, _, _, rfl, rfl, rfl, ?_⟩
      cases hz : e.2.ks.isEmpty with
      | true =>
        refine ⟨_, rfl, _, _, _, _, rfl, rfl, hc, atI_nat (j := 1) rfl, _, tru_tup' hcc (ek.trans hz), ?_⟩
        refine iteT ⟨_, rfl, o, hO, ?_, _, same_mut sm hD, upd_same, ?_⟩
        · rw [dO.len, List.length_map]
          exact Nat.lt_of_le_of_lt (List.length_filter_le _ _) (Nat.lt_of_le_of_lt (List.length_take_le' _ _) (small1000 M.l))
        · rw [filter_next he, hz, List.map_append]
          have iD : IsL H' D := ⟨_, hO⟩
          exact (dO.xt iD Xt.upd).snoc (dp.xt iD Xt.upd)
      | false =>
        refine ⟨_, rfl, _, _, _, _, rfl, rfl, hc, atI_nat (j := 1) rfl, _, tru_tup' hcc (ek.trans hz), ?_⟩
        refine iteF ⟨o, sm, hO, ?_⟩
        rw [filter_next he, hz]
        simpa using dO
    · rintro H3 ⟨o, s3, hO, dO⟩
      rw [lf, List.take_length] at dO
      refine ⟨_, _, rfl, SqL.of hO, fun l hl => ?_⟩
      have s4 := same_new (o := .tup o) hl
      exact fin _ _ (((s1.trans s2).trans s3).trans s4) (.tup (SqT.of upd_same) (dO.same s4))
def sp_last (K : PySem.W.Frag) : Sp := fun vs H Q _ => ∃ (v : V) (g : Int) (n : Node), vs = [v] ∧ Mk K H v g n ∧ Good g n ∧ ∀ H' e, Same H H' → (endsN n)[0]? = some e → Q (.int (e.1.length : Int)) H'
theorem endsN_pos (n : Node) : 0 < (endsN n).length := by
  have := ends_pos n
  unfold endLens at this
  rw [List.length_map] at this
  exact this
theorem ok_last_time (T : Top K mg) : FnOk P w K mg base (L2.CX P w) 5 T.a_last_time T.d_last_time ["market"] (sp_last K) := by
  refine T.last_time_F.okX sc_last_time (fun vs H Q E h => ?_) (fun cdv A outer s H vs Q E hr h => ?_)
  · obtain ⟨_, _, _, rfl, _⟩ := h
    rfl
  · obtain ⟨v, g, n, rfl, M, G, fin⟩ := h
    refine ⟨_, (pss_one (ps_ret (pe_callB call_lenT (by rfl) T.n_len (by decide +kernel) (pa_cons (pe_ix ix_tup (pe_callS (ok_ends T) (hr.mono (by decide : 4 ≤ 4)) rfl T.g_ends T.ends_F.kp T.ends_b (fun σ => passAt (takes_of rfl rfl rfl rfl) σ) (pa_cons (pv 0) pa_nil)) pe_int (fun _ _ => rfl)) pa_nil)))), ?_⟩
    refine ⟨_, rfl, v, g, n, rfl, M, G, fun v' H' s1 d => ?_⟩
    obtain ⟨a, xs, rfl, ha, hx⟩ := d.inv
    obtain ⟨e0, h0⟩ : ∃ e0, (endsN n)[0]? = some e0 := ⟨_, List.getElem?_eq_getElem (endsN_pos n)⟩
    obtain ⟨x, hx0, dx⟩ := hx.at_ (i := 0) (d := pathD e0.1) (by rw [List.getElem?_map, h0]; rfl)
    obtain ⟨b, rfl, hb⟩ := dx.path_inv
    refine ⟨_, _, _, _, rfl, rfl, ha, atI_nat (j := 0) hx0, _, _, rfl, hb, ?_⟩
    have := fin H' _ s1 h0
    rw [List.length_map]
    exact this
def sp_price (K : PySem.W.Frag) (M L N : Addr) : Sp := fun vs H Q E => ∃ (v va : V) (g : Int) (n : Node) (p : List Int) (k : Int), vs = [v, va, .int k] ∧ Mk K H v g n ∧ DT K H va (pathD p) ∧ (BadM g n → ∀ H', Same H H' → E (.ref M) none H') ∧ (¬ BadM g n → BigM n → ∀ H', Same H H' → E (.ref L) none H') ∧
  (Good g n → (find n p = none ∨ ¬ (0 ≤ k ∧ k < g)) → ∀ H', Same H H' → E (.ref N) none H') ∧ (Good g n → ∀ m, find n p = some m → 0 ≤ k → k < g → ∀ v' H' d, Same H H' → (prD ((1, 1), (1, 1)) :: m.ps.map prD)[k.toNat]? = some d → DT K H' v' d → Q v' H')
theorem ok_price_of (T : Top K mg) : FnOk P w K mg base (L2.CX P w) 4 T.a_price_of T.d_price_of ["market", "path", "good"] (sp_price K T.c_MarketError T.c_TooLarge T.c_MomentError) := by
  refine T.price_of_F.okX sc_price_of (fun vs H Q E h => ?_) (fun cdv A outer s H vs Q E hr h => ?_)
  · obtain ⟨_, _, _, _, _, _, rfl, _⟩ := h
    rfl
  · obtain ⟨v, va, g, n, p, k, rfl, M, dp, kM, kL, kN, kQ⟩ := h
    refine ⟨_, (pss_cons (ps_expr (pe_callS (ok_check_market T) (hr.mono (by decide : 3 ≤ 3)) rfl T.g_check_market T.check_market_F.kp T.check_market_b (fun σ => passAt (takes_of rfl rfl rfl rfl) σ) (pa_cons (pv 0) pa_nil)))
      (pss_cons (ps_asg (pv 0) (pg_tup rfl (pgs_cons (pg_name (i := 3) sc_price_of.nd rfl (Or.inl rfl)) (pgs_cons (pg_name (i := 4) sc_price_of.nd rfl (Or.inl rfl)) pgs_nil))))
      (pss_cons (ps_asg (pe_callS (ok_node_at T) (hr.mono (by decide : 1 ≤ 3)) rfl T.g_node_at T.node_at_F.kp T.node_at_b (fun σ => passAt (takes_of rfl rfl rfl rfl) σ) (pa_cons (pv 0) (pa_cons (pv 1) pa_nil))) (pg_tup rfl (pgs_cons (pg_name (i := 5) sc_price_of.nd rfl (Or.inl rfl)) (pgs_cons (pg_name (i := 4) sc_price_of.nd rfl (Or.inl rfl)) pgs_nil))))
      (pss_cons (ps_if (pt_not (pt_chain op_le op_lt pe_int (pv 2) (pv 3))) (pss_one (ps_raise rfl (takes_of rfl rfl rfl rfl) (pmk_own PySem.F.excBase_ValueError T.x_MomentError T.g_MomentError T.k_MomentError (raises_own T.b_MomentError T.t_MomentError) rfl))) pss_nil)
      (pss_cons (ps_if (pt_cmpR op_eq (pv 2) pe_int (nomark _)) (pss_one (ps_ret (pe_tup (pa_cons (pe_tup (pa_cons pe_int (pa_cons pe_int pa_nil))) (pa_cons (pe_tup (pa_cons pe_int (pa_cons pe_int pa_nil))) pa_nil))))) pss_nil)
      (pss_one (ps_ret (pe_ix ix_tup (pv 5) (pe_op op_sub (pv 2) pe_int) (fun _ _ => rfl))))))))), ?_⟩
    refine ⟨_, rfl, v, g, n, rfl, M.d, M.b, M.l, kM, kL, fun g1 g2 H1 s1 => ?_⟩
    have G : Good g n := ⟨g1, g2⟩
    have M1 := M.same s1
    obtain ⟨m, vn, rfl, hm, dn⟩ := M1.d.market_inv
    refine ⟨_, rfl, _, _, rfl, hm, rfl, _, _, rfl, _, _, rfl, rfl, ?_⟩
    refine ⟨_, rfl, _, rfl, _, _, g, n, p, rfl, M1.d, dp.same s1, fun z => kN G (.inl z) H1 s1, fun m' em v' dv => ?_⟩
    obtain ⟨c, vq, vc, rfl, hc, dq, dc⟩ := dv.node_inv
    obtain ⟨b, xs, rfl, hb, hx⟩ := dq.inv
    refine ⟨_, _, rfl, hc, rfl, _, _, rfl, _, _, rfl, rfl, ?_⟩
    refine ⟨_, rfl, _, _, rfl, rfl, _, rfl, ite2 (fun e1 => ⟨_, rfl, _, _, rfl, rfl, _, rfl, ?_⟩) (fun e1 => ⟨_, rfl, iteT (kN G (.inr fun z => e1 (decide_eq_true z.1)) H1 s1)⟩)⟩
    have k0 : 0 ≤ k := of_decide_eq_true e1
    by_cases k1 : k < g
    · rw [decide_eq_true k1]
      refine iteF ?_
      refine ⟨_, rfl, rfl, _, rfl, ite2 (fun e => ?_) (fun e => ?_)⟩
      · have ek : k = 0 := V.int.inj (of_decide_eq_true e)
        subst ek
        refine ⟨two_le, fun p1 h1 => ⟨two_le, fun p2 h2 => ⟨two_le, fun p3 h3 => ?_⟩⟩⟩
        have s2 := same_new (o := .tup [.int 1, .int 1]) h1
        have s3 := same_new (o := .tup [.int 1, .int 1]) h2
        have s4 := same_new (o := .tup [.ref p1, .ref p2]) h3
        refine kQ G m' em (by decide) k1 _ _ _ (((s1.trans s2).trans s3).trans s4) rfl ?_
        exact .mk2 (SqT.of upd_same) (DT.fr (SqT.of (s4 _ _ (s3 _ _ upd_same)))) (DT.fr (SqT.of (s4 _ _ upd_same)))
      · have kn : k ≠ 0 := fun z => e (by rw [z]; exact decide_eq_true rfl)
        obtain ⟨j, ej⟩ := Int.eq_ofNat_of_zero_le (show 0 ≤ k - 1 by omega)
        have lp : (m'.ps.length : Int) = g - 1 := by
          by_cases q : (m'.ps.length : Int) = g - 1
          · exact q
          · obtain ⟨r, hr, hf⟩ : ∃ e ∈ pre [] n, e.2 = m' := by
              exact find_pre n p m' em
            exact (g1 (.inr (.inl ⟨r, hr, .inl (by rw [hf]; exact q)⟩))).elim
        have hj : m'.ps[j]? = some m'.ps[j] := List.getElem?_eq_getElem (by omega)
        obtain ⟨xx, hxx, dxx⟩ := hx.at_ (i := j) (d := prD m'.ps[j]) (by rw [List.getElem?_map, hj]; rfl)
        refine ⟨_, rfl, _, rfl, _, _, rfl, rfl, _, _, _, _, rfl, rfl, hb, by rw [ej]; exact atI_nat hxx, ?_⟩
        refine kQ G m' em k0 k1 _ _ _ s1 ?_ dxx
        have et : k.toNat = j + 1 := by omega
        rw [et, List.getElem?_cons_succ, List.getElem?_map, hj]
        rfl
    · rw [decide_eq_false k1]
      exact iteT (kN G (.inr fun z => k1 z.2) H1 s1)
def sp_nexts (K : PySem.W.Frag) (M L N : Addr) : Sp := fun vs H Q E => ∃ (v va : V) (g : Int) (n : Node) (p : List Int), vs = [v, va] ∧ Mk K H v g n ∧ DT K H va (pathD p) ∧ (BadM g n → ∀ H', Same H H' → E (.ref M) none H') ∧ (¬ BadM g n → BigM n → ∀ H', Same H H' → E (.ref L) none H') ∧
  (Good g n → find n p = none → ∀ H', Same H H' → E (.ref N) none H') ∧ (Good g n → ∀ m, find n p = some m → ∀ H', Same H H' → Q (.int (m.ks.length : Int)) H')
theorem ok_nexts (T : Top K mg) : FnOk P w K mg base (L2.CX P w) 4 T.a_nexts T.d_nexts ["market", "path"] (sp_nexts K T.c_MarketError T.c_TooLarge T.c_MomentError) := by
  refine T.nexts_F.okX sc_nexts (fun vs H Q E h => ?_) (fun cdv A outer s H vs Q E hr h => ?_)
  · obtain ⟨_, _, _, _, _, rfl, _⟩ := h
    rfl
  · obtain ⟨v, va, g, n, p, rfl, M, dp, kM, kL, kN, kQ⟩ := h
    refine ⟨_, (pss_cons (ps_expr (pe_callS (ok_check_market T) (hr.mono (by decide : 3 ≤ 3)) rfl T.g_check_market T.check_market_F.kp T.check_market_b (fun σ => passAt (takes_of rfl rfl rfl rfl) σ) (pa_cons (pv 0) pa_nil)))
      (pss_cons (ps_asg (pe_callS (ok_node_at T) (hr.mono (by decide : 1 ≤ 3)) rfl T.g_node_at T.node_at_F.kp T.node_at_b (fun σ => passAt (takes_of rfl rfl rfl rfl) σ) (pa_cons (pv 0) (pa_cons (pv 1) pa_nil))) (pg_tup rfl (pgs_cons (pg_name (i := 2) sc_nexts.nd rfl (Or.inl rfl)) (pgs_cons (pg_name (i := 3) sc_nexts.nd rfl (Or.inl rfl)) pgs_nil))))
      (pss_one (ps_ret (pe_callB call_lenT (by rfl) T.n_len (by decide +kernel) (pa_cons (pv 3) pa_nil)))))), ?_⟩
    refine ⟨_, rfl, v, g, n, rfl, M.d, M.b, M.l, kM, kL, fun g1 g2 H1 s1 => ?_⟩
    have G : Good g n := ⟨g1, g2⟩
    have M1 := M.same s1
    refine ⟨_, rfl, _, rfl, _, _, g, n, p, rfl, M1.d, dp.same s1, fun z => kN G z H1 s1, fun m' em v' dv => ?_⟩
    obtain ⟨c, vq, vc, rfl, hc, dq, dc⟩ := dv.node_inv
    obtain ⟨cc, xk, rfl, hcc, dks⟩ := dc.inv
    have lk : xk.length = m'.ks.length := by rw [dks.len, List.length_map]
    refine ⟨_, _, rfl, hc, rfl, _, _, rfl, _, _, rfl, rfl, _, rfl, _, _, rfl, hcc, ?_⟩
    rw [lk]
    exact kQ G m' em H1 s1
end
end Nl

namespace Nl
open PySem PySem.Spec PyProof.Rows L2
section
variable {P : Program} {w : World} {K : PySem.W.Frag} {mg : Str → Option Value} {base : Heap}
theorem mulK {k : Nat} {i j : Int} (hk : k ≤ 3000) (ha : Bd k i) (hb : Bd k j) : CMulW i j := mulX (ha.mono hk) (hb.mono hk)
def sp_begin (K : PySem.W.Frag) : Sp := fun vs H Q _ => ∃ (a : Addr) (ns : List Int), vs = [.ref a] ∧ SqL K H a (ns.map V.int) ∧ ∀ pd ps H', Same H H' → H pd = none → H ps = none → Dst H' pd ps → Q (.ref pd) H'
theorem ok__law_begin (T : Top K mg) : FnOk P w K mg base CX0 1 T.a__law_begin T.d__law_begin ["script"] (sp_begin K) := by
  refine T._law_begin_F.ok sc__law_begin (fun vs H Q E h => ?_) (fun cdv A outer s H vs Q E hr h => ?_)
  · obtain ⟨_, _, rfl, _⟩ := h
    rfl
  · obtain ⟨a, ns, rfl, hS, fin⟩ := h
    refine ⟨_, (pss_cons (ps_set (i := 1) sc__law_begin.nd rfl (Or.inl rfl) pe_int)
      (pss_cons (ps_for PassesOwn.never rfl (pi_list (pv 0)) (pg_name (i := 2) sc__law_begin.nd rfl (Or.inl rfl)) (pss_one (ps_set (i := 1) sc__law_begin.nd rfl (Or.inl rfl) (pe_op op_mod (pe_op op_add (pe_op op_add (pe_op op_mul (pv 1) pe_int) (pe_op op_mod (pe_callTy call_intI (by rfl) T.n_int (by decide +kernel) (pa_cons (pv 2) pa_nil)) pe_int)) pe_int) pe_int))))
      (pss_one (ps_ret (pe_lst (pa_cons (pe_callTy call_listL (by rfl) T.n_list (by decide +kernel) (pa_cons (pv 0) pa_nil)) (pa_cons pe_int (pa_cons pe_int (pa_cons (pv 1) pa_nil))))))))), ?_⟩
    refine ⟨_, rfl, a, rfl, ⟨_, hS⟩, for_list (K := K) (a := a) (xs := ns.map V.int) (fun i σ H' => ∃ (r : Int) (y : Option V), σ = [some (.ref a), some (.int r), y] ∧ H' = H) ⟨_, none, rfl, rfl⟩ (fun i σ H' _ ⟨_, _, _, e⟩ => e ▸ hS) ?_ ?_⟩
    · rintro i x σ H' hi ⟨r, y, rfl, rfl⟩
      obtain ⟨z, rfl⟩ : ∃ z, x = V.int z := by
        rw [List.getElem?_map] at hi
        cases e : ns[i]? with
        | none =>
          rw [e] at hi
          cases hi
        | some z =>
          rw [e] at hi
          exact ⟨z, (Option.some.inj hi).symm⟩
      exact ⟨_, rfl, _, _, rfl, rfl, mulC ⟨by decide, by decide⟩, _, rfl, _, rfl, _, _, rfl, rfl, (by show (0 : Int) < 2147483629; decide), _, _, rfl, rfl, _, _, rfl, rfl, _, _, rfl, rfl, (by show (0 : Int) < 2147483647; decide), _, _, rfl, rfl⟩
    · rintro σ H' ⟨r, y, rfl, rfl⟩
      refine ⟨_, rfl, _, _, rfl, hS, fun l hl => ⟨_, rfl, (by decide : 4 ≤ sizeLine), fun p hp => ?_⟩⟩
      have s1 := same_new (o := .lst (ns.map V.int)) hl
      have s2 := same_new (o := .lst [.ref l, .int 0, .int 0, .int r]) hp
      have nlp : l ≠ p := fun e => by
        rw [← e, upd_same] at hp
        cases hp
      exact fin p l _ (s1.trans s2) (s1.free hp) hl ⟨0, 0, ns, ⟨⟨_, upd_same⟩, by rw [upd_ne nlp, upd_same], nlp, by decide, by decide⟩⟩
def sp_take : Sp := fun vs H Q _ => ∃ (pd ps : Addr) (many : Int), vs = [.ref pd, .int many] ∧ Dst H pd ps ∧ 0 < many ∧ Bd 8000 many ∧ ∀ r H', Xt pd H H' → Dst H' pd ps → 0 ≤ r → r < many → Q (.int r) H'
theorem ok__law_take (T : Top K mg) : FnOk P w K mg base CX0 1 T.a__law_take T.d__law_take ["d", "many"] sp_take := by
  refine T._law_take_F.ok sc__law_take (fun vs H Q E h => ?_) (fun cdv A outer s H vs Q E hr h => ?_)
  · obtain ⟨_, _, _, rfl, _⟩ := h
    rfl
  · obtain ⟨pd, ps, many, rfl, ⟨i, r, ns, D⟩, hm, hM, fin⟩ := h
    have md : ∀ x H', Xt pd H H' → Dst H' pd ps → Q (.int (x % many)) H' := fun x H' h1 h2 => fin _ H' h1 h2 (Int.emod_nonneg x (by omega)) (Int.emod_lt_of_pos x hm)
    refine ⟨_, (Evl.pss_cut (ps_if (PW.pt (pw_and (pt_cmpR op_eq (pe_ix ix_list (pv 0) pe_int (fun _ _ => rfl)) pe_int (nomark _)) (pw_and1 (pt_cmpR op_lt (pe_ix ix_list (pv 0) pe_int (fun _ _ => rfl)) (pe_callB call_lenL (by rfl) T.n_len (by decide +kernel) (pa_cons (pe_ix ix_list (pv 0) pe_int (fun _ _ => rfl)) pa_nil)) (nomark _))))) (pss_cons (ps_asg (pe_callB call_abs (by rfl) T.n_abs (by decide +kernel) (pa_cons (pe_callTy call_intI (by rfl) T.n_int (by decide +kernel) (pa_cons (pe_ix ix_list (pe_ix ix_list (pv 0) pe_int (fun _ _ => rfl)) (pe_ix ix_list (pv 0) pe_int (fun _ _ => rfl)) (fun _ _ => rfl)) pa_nil)) pa_nil)) (pg_sub (pv 0) pe_int set_list))
      (pss_cons (ps_asg (pe_op op_add (pe_ix ix_list (pv 0) pe_int (fun _ _ => rfl)) pe_int) (pg_sub (pv 0) pe_int set_list))
      (pss_one (ps_if (pt_cmpR op_lt (pe_ix ix_list (pv 0) pe_int (fun _ _ => rfl)) (pe_op op_pow pe_int pe_int) (nomark _)) (pss_cons (ps_set (i := 2) sc__law_take.nd rfl (Or.inl rfl) (pe_callTy call_intI (by rfl) T.n_int (by decide +kernel) (pa_cons (pe_ix ix_list (pv 0) pe_int (fun _ _ => rfl)) pa_nil)))
      (pss_cons (ps_asg pe_int (pg_sub (pv 0) pe_int set_list))
      (pss_one (ps_ret (pe_op op_mod (pv 2) (pv 1)))))) pss_nil)))) pss_nil)
      (pss_cons (ps_if (pt_cmpR op_gt (pe_ix ix_list (pv 0) pe_int (fun _ _ => rfl)) pe_int (nomark _)) (pss_cons (ps_set (i := 3) sc__law_take.nd rfl (Or.inl rfl) (pe_op op_mod (pe_callTy call_intI (by rfl) T.n_int (by decide +kernel) (pa_cons (pe_ix ix_list (pv 0) pe_int (fun _ _ => rfl)) pa_nil)) (pv 1)))
      (pss_cons (ps_asg (pe_op op_fdivX (pe_callTy call_intI (by rfl) T.n_int (by decide +kernel) (pa_cons (pe_ix ix_list (pv 0) pe_int (fun _ _ => rfl)) pa_nil)) (pv 1)) (pg_sub (pv 0) pe_int set_list))
      (pss_one (ps_ret (pv 3))))) pss_nil)
      (pss_cons (ps_asg (pe_op op_mod (pe_callTy call_intI (by rfl) T.n_int (by decide +kernel) (pa_cons (pe_op op_add (pe_op op_mul (pe_ix ix_list (pv 0) pe_int (fun _ _ => rfl)) pe_int) pe_int) pa_nil)) pe_int) (pg_sub (pv 0) pe_int set_list))
      (pss_one (ps_ret (pe_op op_mod (pe_callTy call_intI (by rfl) T.n_int (by decide +kernel) (pa_cons (pe_op op_fdivX (pe_ix ix_list (pv 0) pe_int (fun _ _ => rfl)) pe_int) pa_nil)) (pv 1))))))), ?_⟩
    refine ⟨fun σ H' => ∃ y z r', σ = [some (.ref pd), some (.int many), y, z] ∧ Xt pd H H' ∧ ∃ i', DstI H' pd ps i' r' ns, ?_, ?_⟩
    · obtain ⟨sd, hd⟩ := D.at_d
      have stay : ∃ y z r', ([some (.ref pd), some (.int many), none, none] : List (Option V)) = [some (.ref pd), some (.int many), y, z] ∧ Xt pd H H ∧ ∃ i', DstI H pd ps i' r' ns := ⟨none, none, r, rfl, Xt.refl H, i, D⟩
      refine ⟨_, rfl, _, _, _, _, rfl, rfl, (SqL.of hd), (atI_nat (j := 2) rfl), rfl, _, rfl, ite2 (fun e => ?_) (fun e => iteF stay)⟩
      refine ⟨_, rfl, _, _, _, _, rfl, rfl, (SqL.of hd), (atI_nat (j := 1) rfl), _, rfl, _, _, _, _, rfl, rfl, (SqL.of hd), (atI_nat (j := 0) rfl), _, _, rfl, SqL.of D.at_s, _, _, rfl, rfl, _, rfl, ite2 (fun e1 => ?_) (fun e1 => stay)⟩
      have e2 : i < ((ns.map V.int).length : Int) := of_decide_eq_true e1
      rw [List.length_map] at e2
      obtain ⟨j, rfl⟩ := Int.eq_ofNat_of_zero_le D.i0
      have jl : j < ns.length := by omega
      have gj : (ns.map V.int)[j]? = some (.int ns[j]) := by
        rw [List.getElem?_map, List.getElem?_eq_getElem jl]
        rfl
      have ab : ∀ x : Int, 0 ≤ (if x < 0 then -x else x) := fun x => by split <;> omega
      refine ⟨_, rfl, _, _, _, _, rfl, rfl, (SqL.of hd), (atI_nat (j := 0) rfl), _, rfl, _, _, _, _, rfl, rfl, (SqL.of hd), (atI_nat (j := 1) rfl), _, _, _, _, rfl, rfl, SqL.of D.at_s, atI_nat gj, _, rfl, _, rfl, _, rfl, _, _, _, _, rfl, rfl, hd, rfl, ?_⟩
      have D1 := D.set (s' := sd) D.i0 (ab ns[j])
      obtain ⟨_, hd1⟩ := D1.at_d
      have hd1 : (upd H pd (.lst [.ref ps, .int (j : Int), .int (if ns[j] < 0 then -ns[j] else ns[j]), .int sd])) pd = _ := upd_same
      refine ⟨_, rfl, _, _, _, _, rfl, rfl, (SqL.of hd1), (atI_nat (j := 1) rfl), _, _, rfl, rfl, _, rfl, _, _, _, _, rfl, rfl, hd1, rfl, ?_⟩
      have D2 := D1.upd2 (i' := (j : Int) + 1) (r' := if ns[j] < 0 then -ns[j] else ns[j]) (s' := sd) (o := .lst [.ref ps, .int (j : Int), .int (if ns[j] < 0 then -ns[j] else ns[j]), .int sd]) (by omega) (ab ns[j])
      rw [upd_upd]
      have hd2 : (upd H pd (.lst [.ref ps, .int ((j : Int) + 1), .int (if ns[j] < 0 then -ns[j] else ns[j]), .int sd])) pd = _ := upd_same
      have D2 := D.set (i' := (j : Int) + 1) (r' := if ns[j] < 0 then -ns[j] else ns[j]) (s' := sd) (by omega) (ab ns[j])
      refine ⟨_, rfl, _, _, _, _, rfl, rfl, (SqL.of hd2), (atI_nat (j := 2) rfl), _, _, rfl, rfl, ⟨by decide, by decide, by decide⟩, _, _, rfl, rfl, _, rfl, ite2 (fun e3 => ?_) (fun e3 => ?_)⟩
      · refine ⟨_, rfl, _, _, _, _, rfl, rfl, (SqL.of hd2), (atI_nat (j := 2) rfl), _, rfl, _, rfl, _, _, _, _, rfl, rfl, hd2, rfl, _, rfl, _, rfl, _, _, rfl, rfl, hm, ?_⟩
        rw [upd_upd]
        exact md _ _ Xt.upd ⟨_, _, _, D.set (by omega) (by decide)⟩
      · exact ⟨none, none, _, rfl, Xt.upd, _, D2⟩
    · rintro σ H' ⟨y, z, r', rfl, hx, i', D'⟩
      obtain ⟨sd, hd⟩ := D'.at_d
      refine ⟨_, rfl, _, _, _, _, rfl, rfl, (SqL.of hd), (atI_nat (j := 2) rfl), _, _, rfl, rfl, _, rfl, ite2 (fun e => ?_) (fun e => ?_)⟩
      · refine ⟨_, rfl, _, _, _, _, rfl, rfl, (SqL.of hd), (atI_nat (j := 2) rfl), _, rfl, _, rfl, _, _, rfl, rfl, hm, _, rfl, _, _, _, _, rfl, rfl, (SqL.of hd), (atI_nat (j := 2) rfl), _, rfl, _, rfl, _, _, rfl, rfl, divX (by omega) hM, _, rfl, _, _, _, _, rfl, rfl, hd, rfl, _, rfl, ?_⟩
        refine md _ _ (hx.trans Xt.upd) ⟨_, _, _, D'.set D'.i0 ?_⟩
        rw [Int.fdiv_eq_ediv_of_nonneg _ (by omega)]
        exact Int.ediv_nonneg D'.r0 (by omega)
      · refine ⟨_, rfl, _, _, _, _, rfl, rfl, (SqL.of hd), (atI_nat (j := 3) rfl), _, _, rfl, rfl, mulC ⟨by decide, by decide⟩, _, _, rfl, rfl, _, rfl, _, _, rfl, rfl, (by show (0 : Int) < 2147483647; decide), _, rfl, _, _, _, _, rfl, rfl, hd, rfl, ?_⟩
        have D2 := D'.set (i' := i') (r' := r') (s' := (sd * 48271 + 11) % 2147483647) D'.i0 D'.r0
        have hd2 : (upd H' pd (.lst [.ref ps, .int i', .int r', .int ((sd * 48271 + 11) % 2147483647)])) pd = _ := upd_same
        exact ⟨_, rfl, _, _, _, _, rfl, rfl, (SqL.of hd2), (atI_nat (j := 3) rfl), _, _, rfl, rfl, ⟨by decide, by decide⟩, _, rfl, _, rfl, _, _, rfl, rfl, hm, md _ _ (hx.trans Xt.upd) ⟨_, _, _, D2⟩⟩
def sp_gcd : Sp := fun vs H Q _ => ∃ a b : Int, vs = [.int a, .int b] ∧ 0 ≤ a ∧ 0 ≤ b ∧ Q (.int (Int.gcd a b : Int)) H
theorem ok__law_gcd (T : Top K mg) : FnOk P w K mg base CX0 1 T.a__law_gcd T.d__law_gcd ["a", "b"] sp_gcd := by
  refine T._law_gcd_F.ok sc__law_gcd (fun vs H Q E h => ?_) (fun cdv A outer s H vs Q E hr h => ?_)
  · obtain ⟨_, _, rfl, _⟩ := h
    rfl
  · obtain ⟨a, b, rfl, ha, hb, fin⟩ := h
    refine ⟨_, (pss_cons (ps_while PassesOwn.never (pt_cmpR op_ne (pv 1) pe_int (nomark _)) (pss_one (ps_par (i := 0) (j := 1) (by rfl) sc__law_gcd.nd rfl rfl (by decide) rfl rfl (pa_cons (pv 1) (pa_cons (pe_op op_mod (pe_callTy call_intI (by rfl) T.n_int (by decide +kernel) (pa_cons (pv 0) pa_nil)) (pv 1)) pa_nil)) (by rfl))))
      (pss_one (ps_ret (pe_callB call_abs (by rfl) T.n_abs (by decide +kernel) (pa_cons (pv 0) pa_nil))))), ?_⟩
    refine ⟨fun m σ H' => ∃ x y : Int, σ = [some (.int x), some (.int y)] ∧ H' = H ∧ 0 ≤ x ∧ 0 ≤ y ∧ m = y.toNat ∧ Int.gcd x y = Int.gcd a b, ⟨_, a, b, rfl, rfl, ha, hb, rfl, rfl⟩, ?_⟩
    rintro m σ H' ⟨x, y, rfl, rfl, hx, hy, rfl, hg⟩
    refine ⟨_, rfl, rfl, _, rfl, ?_⟩
    by_cases e : y = 0
    · subst e
      refine iteNS rfl ?_
      have e1 : (if x < 0 then -x else x) = (Int.gcd a b : Int) := by
        rw [if_neg (by omega), ← hg, Int.gcd_zero_right]
        omega
      rw [← e1] at fin
      exact ⟨_, rfl, _, rfl, fin⟩
    · refine ite2 (fun _ => ?_) (fun z => (z (by simp [e])).elim)
      refine ⟨_, fun _ _ z => z, ?_⟩
      have hp : 0 < y := by omega
      refine ⟨_, rfl, _, rfl, _, rfl, _, rfl, _, _, rfl, rfl, hp, _, _, rfl, (x % y).toNat, ?_, y, x % y, rfl, rfl, hy, Int.emod_nonneg _ e, rfl, ?_⟩
      · have := Int.emod_lt_of_pos x hp
        have := Int.emod_nonneg x e
        omega
      · rw [gcd_step x y hx hy, hg]
def sp_f (K : PySem.W.Frag) : Sp := fun vs H Q _ => ∃ a b : Int, vs = [.int a, .int b] ∧ b ≠ 0 ∧ Bd 8000 b ∧ ∀ v H', Same H H' → DT K H' v (frD (frac a b)) → Q v H'
theorem ok__law_f (T : Top K mg) : FnOk P w K mg base CX0 2 T.a__law_f T.d__law_f ["a", "b"] (sp_f K) := by
  refine T._law_f_F.ok sc__law_f (fun vs H Q E h => ?_) (fun cdv A outer s H vs Q E hr h => ?_)
  · obtain ⟨_, _, rfl, _⟩ := h
    rfl
  · obtain ⟨a, b, rfl, hb, hB, fin⟩ := h
    have eL := fracL_eq (a := a) hb
    have ab : ∀ x : Int, 0 ≤ (if x < 0 then -x else x) := fun x => by split <;> omega
    have key : ∀ x y : Int, 0 < y → Bd 8000 y → (x / (Int.gcd x y : Int), y / (Int.gcd x y : Int)) = frac a b → ∀ p, H p = none → 
        CDivX x (Int.gcd (if x < 0 then -x else x) y : Int) ∧ CDivX y (Int.gcd (if x < 0 then -x else x) y : Int) ∧ Q (.ref p) (upd H p (.tup [.int (x.fdiv (Int.gcd (if x < 0 then -x else x) y : Int)), .int (y.fdiv (Int.gcd (if x < 0 then -x else x) y : Int))])) := by
      intro x y hy hY e p hp
      have eg : Int.gcd (if x < 0 then -x else x) y = Int.gcd x y := by
        split
        · exact Int.neg_gcd
        · rfl
      have g0 : 0 < Int.gcd x y := gcd_pos (by omega)
      have gB : Bd 8000 (Int.gcd x y : Int) := hY.le (by
        show Int.gcd x y ≤ y.natAbs
        exact Nat.le_of_dvd (by omega) (Nat.gcd_dvd_right _ _))
      rw [eg]
      refine ⟨divX (by omega) gB, divX (by omega) gB, fin _ _ (same_new hp) (DT.fr (SqT.of ?_))⟩
      rw [Int.fdiv_eq_ediv_of_nonneg _ (by omega), Int.fdiv_eq_ediv_of_nonneg _ (by omega), ← e]
      exact upd_same
    have go : ∀ x y : Int, 0 < y → Bd 8000 y → (x / (Int.gcd x y : Int), y / (Int.gcd x y : Int)) = frac a b → ∃ (u v : Int), u = (Int.gcd (if x < 0 then -x else x) y : Int) ∧ CDivX x u ∧ CDivX y u ∧ ∀ p, H p = none → Q (.ref p) (upd H p (.tup [.int (x.fdiv u), .int (y.fdiv u)])) := by
      intro x y hy hY e
      have eg : Int.gcd (if x < 0 then -x else x) y = Int.gcd x y := by
        split
        · exact Int.neg_gcd
        · rfl
      have g0 : 0 < Int.gcd x y := gcd_pos (by omega)
      have gB : Bd 8000 (Int.gcd x y : Int) := hY.le (by
        show Int.gcd x y ≤ y.natAbs
        exact Nat.le_of_dvd (by omega) (Nat.gcd_dvd_right _ _))
      refine ⟨_, 0, rfl, ?_, ?_, fun p hp => (key x y hy hY e p hp).2.2⟩
      · rw [eg]; exact divX (by omega) gB
      · rw [eg]; exact divX (by omega) gB
    refine ⟨_, (pss_cons (ps_if (pt_cmpR op_lt (pv 1) pe_int (nomark _)) (pss_cons (ps_set (i := 0) sc__law_f.nd rfl (Or.inl rfl) (pe_op op_sub pe_int (pv 0)))
      (pss_one (ps_set (i := 1) sc__law_f.nd rfl (Or.inl rfl) (pe_op op_sub pe_int (pv 1))))) pss_nil)
      (pss_cons (ps_set (i := 2) sc__law_f.nd rfl (Or.inl rfl) (pe_call (ok__law_gcd T) (hr.mono (by decide : 1 ≤ 1)) (by rfl) T.g__law_gcd T._law_gcd_F.kp T._law_gcd_b .nil pass0 (pa_cons (pe_callB call_abs (by rfl) T.n_abs (by decide +kernel) (pa_cons (pv 0) pa_nil)) (pa_cons (pv 1) pa_nil))))
      (pss_one (ps_ret (pe_tup (pa_cons (pe_op op_fdivX (pv 0) (pv 2)) (pa_cons (pe_op op_fdivX (pv 1) (pv 2)) pa_nil))))))), ?_⟩
    refine ⟨_, rfl, _, _, rfl, rfl, _, rfl, ite2 (fun e => ?_) (fun e => ?_)⟩
    · have e0 : b < 0 := of_decide_eq_true e
      obtain ⟨u, _, eu, c1, c2, k⟩ := go (0 - a) (0 - b) (by omega) (by rw [Int.zero_sub]; exact hB.neg) (by
        rw [← eL]
        unfold fracL
        simp only [if_pos e0])
      subst eu
      exact ⟨_, rfl, _, _, rfl, rfl, _, rfl, _, _, rfl, rfl, _, rfl, _, rfl, _, rfl, _, _, rfl, ab _, by omega, _, rfl, _, rfl, _, _, rfl, rfl, c1, _, rfl, _, rfl, _, _, rfl, rfl, c2, two_le, k⟩
    · have e0 : ¬ b < 0 := fun z => e (decide_eq_true z)
      obtain ⟨u, _, eu, c1, c2, k⟩ := go a b (by omega) hB (by
        rw [← eL]
        unfold fracL
        simp only [if_neg e0])
      subst eu
      exact ⟨_, rfl, _, rfl, _, rfl, _, _, rfl, ab _, by omega, _, rfl, _, rfl, _, _, rfl, rfl, c1, _, rfl, _, rfl, _, _, rfl, rfl, c2, two_le, k⟩
def sp2 (K : PySem.W.Frag) (R : Int × Int → Int × Int → Int × Int) : Sp := fun vs H Q _ => ∃ (va vb : V) (p q : Int × Int) (k : Nat), vs = [va, vb] ∧ DT K H va (frD p) ∧ DT K H vb (frD q) ∧ Ok k p ∧ Ok k q ∧ k ≤ 3000 ∧ ∀ v H', Same H H' → DT K H' v (frD (R p q)) → Q v H'
theorem ok__law_plus (T : Top K mg) : FnOk P w K mg base CX0 3 T.a__law_plus T.d__law_plus ["a", "b"] (sp2 K addF) := by
  refine T._law_plus_F.ok sc__law_plus (fun vs H Q E h => ?_) (fun cdv A outer s H vs Q E hr h => ?_)
  · obtain ⟨_, _, _, _, _, rfl, _⟩ := h
    rfl
  · obtain ⟨_, _, p, q, k, rfl, da, db, ⟨lp, p1, p2⟩, ⟨lq, q1, q2⟩, hk, fin⟩ := h
    obtain ⟨a, rfl, ha⟩ := da.fr_inv
    obtain ⟨b, rfl, hb⟩ := db.fr_inv
    have ne := pos_ne lp.pos lq.pos
    refine ⟨_, (pss_one (ps_ret (pe_call (ok__law_f T) (hr.mono (by decide : 2 ≤ 2)) (by rfl) T.g__law_f T._law_f_F.kp T._law_f_b .nil pass0 (pa_cons (pe_op op_add (pe_op op_mulW (pe_ix ix_tup (pv 0) pe_int (fun _ _ => rfl)) (pe_ix ix_tup (pv 1) pe_int (fun _ _ => rfl))) (pe_op op_mulW (pe_ix ix_tup (pv 1) pe_int (fun _ _ => rfl)) (pe_ix ix_tup (pv 0) pe_int (fun _ _ => rfl)))) (pa_cons (pe_op op_mulW (pe_ix ix_tup (pv 0) pe_int (fun _ _ => rfl)) (pe_ix ix_tup (pv 1) pe_int (fun _ _ => rfl))) pa_nil))))), ?_⟩
    exact ⟨_, rfl, _, _, _, _, rfl, rfl, ( ha), (atI_nat (j := 0) rfl), _, rfl, _, _, _, _, rfl, rfl, ( hb), (atI_nat (j := 1) rfl), _, _, rfl, rfl, (by first | exact mulK hk (by assumption) (by assumption) | exact mulF3 (by assumption) (by assumption)), _, rfl, _, _, _, _, rfl, rfl, ( hb), (atI_nat (j := 0) rfl), _, rfl, _, _, _, _, rfl, rfl, ( ha), (atI_nat (j := 1) rfl), _, _, rfl, rfl, (by first | exact mulK hk (by assumption) (by assumption) | exact mulF3 (by assumption) (by assumption)), _, _, rfl, rfl, _, rfl, _, _, _, _, rfl, rfl, ( ha), (atI_nat (j := 1) rfl), _, rfl, _, _, _, _, rfl, rfl, ( hb), (atI_nat (j := 1) rfl), _, _, rfl, rfl, (by first | exact mulK hk (by assumption) (by assumption) | exact mulF3 (by assumption) (by assumption)), _, _, rfl, ne, (p2.mul q2).mono (by omega), fun v H' s f => fin v H' s f⟩
theorem ok__law_minus (T : Top K mg) : FnOk P w K mg base CX0 3 T.a__law_minus T.d__law_minus ["a", "b"] (sp2 K subF) := by
  refine T._law_minus_F.ok sc__law_minus (fun vs H Q E h => ?_) (fun cdv A outer s H vs Q E hr h => ?_)
  · obtain ⟨_, _, _, _, _, rfl, _⟩ := h
    rfl
  · obtain ⟨_, _, p, q, k, rfl, da, db, ⟨lp, p1, p2⟩, ⟨lq, q1, q2⟩, hk, fin⟩ := h
    obtain ⟨a, rfl, ha⟩ := da.fr_inv
    obtain ⟨b, rfl, hb⟩ := db.fr_inv
    have ne := pos_ne lp.pos lq.pos
    refine ⟨_, (pss_one (ps_ret (pe_call (ok__law_f T) (hr.mono (by decide : 2 ≤ 2)) (by rfl) T.g__law_f T._law_f_F.kp T._law_f_b .nil pass0 (pa_cons (pe_op op_sub (pe_op op_mulW (pe_ix ix_tup (pv 0) pe_int (fun _ _ => rfl)) (pe_ix ix_tup (pv 1) pe_int (fun _ _ => rfl))) (pe_op op_mulW (pe_ix ix_tup (pv 1) pe_int (fun _ _ => rfl)) (pe_ix ix_tup (pv 0) pe_int (fun _ _ => rfl)))) (pa_cons (pe_op op_mulW (pe_ix ix_tup (pv 0) pe_int (fun _ _ => rfl)) (pe_ix ix_tup (pv 1) pe_int (fun _ _ => rfl))) pa_nil))))), ?_⟩
    exact ⟨_, rfl, _, _, _, _, rfl, rfl, ( ha), (atI_nat (j := 0) rfl), _, rfl, _, _, _, _, rfl, rfl, ( hb), (atI_nat (j := 1) rfl), _, _, rfl, rfl, (by first | exact mulK hk (by assumption) (by assumption) | exact mulF3 (by assumption) (by assumption)), _, rfl, _, _, _, _, rfl, rfl, ( hb), (atI_nat (j := 0) rfl), _, rfl, _, _, _, _, rfl, rfl, ( ha), (atI_nat (j := 1) rfl), _, _, rfl, rfl, (by first | exact mulK hk (by assumption) (by assumption) | exact mulF3 (by assumption) (by assumption)), _, _, rfl, rfl, _, rfl, _, _, _, _, rfl, rfl, ( ha), (atI_nat (j := 1) rfl), _, rfl, _, _, _, _, rfl, rfl, ( hb), (atI_nat (j := 1) rfl), _, _, rfl, rfl, (by first | exact mulK hk (by assumption) (by assumption) | exact mulF3 (by assumption) (by assumption)), _, _, rfl, ne, (p2.mul q2).mono (by omega), fun v H' s f => fin v H' s f⟩
theorem ok__law_times (T : Top K mg) : FnOk P w K mg base CX0 3 T.a__law_times T.d__law_times ["a", "b"] (sp2 K mulF) := by
  refine T._law_times_F.ok sc__law_times (fun vs H Q E h => ?_) (fun cdv A outer s H vs Q E hr h => ?_)
  · obtain ⟨_, _, _, _, _, rfl, _⟩ := h
    rfl
  · obtain ⟨_, _, p, q, k, rfl, da, db, ⟨lp, p1, p2⟩, ⟨lq, q1, q2⟩, hk, fin⟩ := h
    obtain ⟨a, rfl, ha⟩ := da.fr_inv
    obtain ⟨b, rfl, hb⟩ := db.fr_inv
    have ne := pos_ne lp.pos lq.pos
    refine ⟨_, (pss_one (ps_ret (pe_call (ok__law_f T) (hr.mono (by decide : 2 ≤ 2)) (by rfl) T.g__law_f T._law_f_F.kp T._law_f_b .nil pass0 (pa_cons (pe_op op_mulW (pe_ix ix_tup (pv 0) pe_int (fun _ _ => rfl)) (pe_ix ix_tup (pv 1) pe_int (fun _ _ => rfl))) (pa_cons (pe_op op_mulW (pe_ix ix_tup (pv 0) pe_int (fun _ _ => rfl)) (pe_ix ix_tup (pv 1) pe_int (fun _ _ => rfl))) pa_nil))))), ?_⟩
    exact ⟨_, rfl, _, _, _, _, rfl, rfl, ( ha), (atI_nat (j := 0) rfl), _, rfl, _, _, _, _, rfl, rfl, ( hb), (atI_nat (j := 0) rfl), _, _, rfl, rfl, (by first | exact mulK hk (by assumption) (by assumption) | exact mulF3 (by assumption) (by assumption)), _, rfl, _, _, _, _, rfl, rfl, ( ha), (atI_nat (j := 1) rfl), _, rfl, _, _, _, _, rfl, rfl, ( hb), (atI_nat (j := 1) rfl), _, _, rfl, rfl, (by first | exact mulK hk (by assumption) (by assumption) | exact mulF3 (by assumption) (by assumption)), _, _, rfl, ne, (p2.mul q2).mono (by omega), fun v H' s f => fin v H' s f⟩
def sp_less (K : PySem.W.Frag) : Sp := fun vs H Q _ => ∃ (va vb : V) (p q : Int × Int), vs = [va, vb] ∧ DT K H va (frD p) ∧ DT K H vb (frD q) ∧ FB p ∧ FB q ∧ Q (.bl (decide (p.1 * q.2 < q.1 * p.2))) H
theorem ok__law_less (T : Top K mg) : FnOk P w K mg base CX0 1 T.a__law_less T.d__law_less ["a", "b"] (sp_less K) := by
  refine T._law_less_F.ok sc__law_less (fun vs H Q E h => ?_) (fun cdv A outer s H vs Q E hr h => ?_)
  · obtain ⟨_, _, _, _, rfl, _⟩ := h
    rfl
  · obtain ⟨_, _, p, q, rfl, da, db, ⟨p1, p2⟩, ⟨q1, q2⟩, fin⟩ := h
    obtain ⟨a, rfl, ha⟩ := da.fr_inv
    obtain ⟨b, rfl, hb⟩ := db.fr_inv
    refine ⟨_, (pss_one (ps_ret (pe_cmpR op_lt (pe_op op_mulW (pe_ix ix_tup (pv 0) pe_int (fun _ _ => rfl)) (pe_ix ix_tup (pv 1) pe_int (fun _ _ => rfl))) (pe_op op_mulW (pe_ix ix_tup (pv 1) pe_int (fun _ _ => rfl)) (pe_ix ix_tup (pv 0) pe_int (fun _ _ => rfl))) (nomark _)))), ?_⟩
    exact ⟨_, rfl, _, _, _, _, rfl, rfl, ( ha), (atI_nat (j := 0) rfl), _, rfl, _, _, _, _, rfl, rfl, ( hb), (atI_nat (j := 1) rfl), _, _, rfl, rfl, (by first | exact mulK hk (by assumption) (by assumption) | exact mulF3 (by assumption) (by assumption)), _, rfl, _, _, _, _, rfl, rfl, ( hb), (atI_nat (j := 0) rfl), _, rfl, _, _, _, _, rfl, rfl, ( ha), (atI_nat (j := 1) rfl), _, _, rfl, rfl, (by first | exact mulK hk (by assumption) (by assumption) | exact mulF3 (by assumption) (by assumption)), _, _, rfl, rfl, fin⟩
def sp_spread (K : PySem.W.Frag) : Sp := fun vs H Q _ => ∃ (pd ps : Addr) (v : V) (m : Int × Int), vs = [.ref pd, v] ∧ Dst H pd ps ∧ DT K H v (frD m) ∧ Ok 500 m ∧ 0 ≤ m.1 ∧ ∀ v' pr H', Xt pd H H' → Dst H' pd ps → DT K H' v' (prD pr) → ¬ badPr pr → PrK 1001 pr → Q v' H'
theorem five {r : Int} (h0 : 0 ≤ r) (h1 : r < 5) : r = 0 ∨ r = 1 ∨ r = 2 ∨ r = 3 ∨ r = 4 := by omega
theorem ok__law_spread (T : Top K mg) : FnOk P w K mg base CX0 4 T.a__law_spread T.d__law_spread ["d", "mid"] (sp_spread K) := by
  refine T._law_spread_F.ok sc__law_spread (fun vs H Q E h => ?_) (fun cdv A outer s H vs Q E hr h => ?_)
  · obtain ⟨_, _, _, _, rfl, _⟩ := h
    rfl
  · obtain ⟨pd, ps, v, m, rfl, D, dv, om, m0, fin⟩ := h
    refine ⟨_, (Evl.pss_cut (ps_set (i := 2) sc__law_spread.nd rfl (Or.inl rfl) (pe_ix ix_tup (pe_tup (pa_cons (pe_tup (pa_cons pe_int (pa_cons pe_int pa_nil))) (pa_cons (pe_tup (pa_cons pe_int (pa_cons pe_int pa_nil))) (pa_cons (pe_tup (pa_cons pe_int (pa_cons pe_int pa_nil))) (pa_cons (pe_tup (pa_cons pe_int (pa_cons pe_int pa_nil))) (pa_cons (pe_tup (pa_cons pe_int (pa_cons pe_int pa_nil))) pa_nil)))))) (pe_call (ok__law_take T) (hr.mono (by decide : 1 ≤ 3)) (by rfl) T.g__law_take T._law_take_F.kp T._law_take_b .nil pass0 (pa_cons (pv 0) (pa_cons pe_int pa_nil))) (fun _ _ => rfl)))
      (pss_cons (ps_set (i := 3) sc__law_spread.nd rfl (Or.inl rfl) (pe_call (ok__law_minus T) (hr.mono (by decide : 3 ≤ 3)) (by rfl) T.g__law_minus T._law_minus_F.kp T._law_minus_b .nil pass0 (pa_cons (pv 1) (pa_cons (pv 2) pa_nil))))
      (pss_one (ps_ret (pe_tup (pa_cons (pe_call (ok__law_plus T) (hr.mono (by decide : 3 ≤ 3)) (by rfl) T.g__law_plus T._law_plus_F.kp T._law_plus_b .nil pass0 (pa_cons (pv 1) (pa_cons (pv 2) pa_nil))) (pa_cons (pe_ifExp (pt_cmpR op_ge (pe_ix ix_tup (pv 3) pe_int (fun _ _ => rfl)) pe_int (nomark _)) (pv 3) (pe_tup (pa_cons pe_int (pa_cons pe_int pa_nil)))) pa_nil))))))), ?_⟩
    refine ⟨fun σ' H1 => ∃ (vs : V) (s : Int × Int), σ' = [some (.ref pd), some v, some vs, none] ∧ Xt pd H H1 ∧ Dst H1 pd ps ∧ DT K H1 vs (frD s) ∧ Ok 3 s ∧ 0 ≤ s.1, ?_, ?_⟩
    · refine ⟨two_le, fun p1 h1 => ⟨two_le, fun p2 h2 => ⟨two_le, fun p3 h3 => ⟨two_le, fun p4 h4 => ⟨two_le, fun p5 h5 => ⟨(by decide : 5 ≤ sizeLine), fun p6 h6 => ?_⟩⟩⟩⟩⟩⟩
      have s1 := same_new (o := .tup [.int 0, .int 1]) h1
      have s2 := same_new (o := .tup [.int 0, .int 1]) h2
      have s3 := same_new (o := .tup [.int 1, .int 4]) h3
      have s4 := same_new (o := .tup [.int 1, .int 2]) h4
      have s5 := same_new (o := .tup [.int 1, .int 1]) h5
      have s6 := same_new (o := .tup [.ref p1, .ref p2, .ref p3, .ref p4, .ref p5]) h6
      have d1 : DT K _ (.ref p1) (frD (0, 1)) := DT.fr (SqT.of (s6 _ _ (s5 _ _ (s4 _ _ (s3 _ _ (s2 _ _ upd_same))))))
      have d2 : DT K _ (.ref p2) (frD (0, 1)) := DT.fr (SqT.of (s6 _ _ (s5 _ _ (s4 _ _ (s3 _ _ upd_same)))))
      have d3 : DT K _ (.ref p3) (frD (1, 4)) := DT.fr (SqT.of (s6 _ _ (s5 _ _ (s4 _ _ upd_same))))
      have d4 : DT K _ (.ref p4) (frD (1, 2)) := DT.fr (SqT.of (s6 _ _ (s5 _ _ upd_same)))
      have d5 : DT K _ (.ref p5) (frD (1, 1)) := DT.fr (SqT.of (s6 _ _ upd_same))
      have sm := ((((s1.trans s2).trans s3).trans s4).trans s5).trans s6
      have D6 := D.same sm
      generalize hH6 : (upd (upd (upd (upd (upd (upd H p1 (.tup [.int 0, .int 1])) p2 (.tup [.int 0, .int 1])) p3 (.tup [.int 1, .int 4])) p4 (.tup [.int 1, .int 2])) p5 (.tup [.int 1, .int 1])) p6 (.tup [.ref p1, .ref p2, .ref p3, .ref p4, .ref p5])) = H6 at *
      have h66 : H6 p6 = some (.tup [.ref p1, .ref p2, .ref p3, .ref p4, .ref p5]) := by rw [← hH6]; exact upd_same
      refine ⟨_, rfl, pd, ps, 5, rfl, D6, by decide, Bd.mono (k := 3) (by unfold Bd; decide) (by decide), fun r H7 x7 D7 r0 r1 => ?_⟩
      have q7 := sqt_xt (K := K) D6.isL x7 (SqT.of h66)
      have xx := (Xt.of sm).trans x7
      have o0 : Ok 3 (0, 1) := ok_zero.mono (by decide)
      have o1 : Ok 3 (1, 4) := ⟨⟨by decide, by decide⟩, by unfold Bd; decide, by unfold Bd; decide⟩
      have o2 : Ok 3 (1, 2) := ⟨⟨by decide, by decide⟩, by unfold Bd; decide, by unfold Bd; decide⟩
      have o3 : Ok 3 (1, 1) := ⟨⟨by decide, by decide⟩, by unfold Bd; decide, by unfold Bd; decide⟩
      rcases five r0 r1 with rfl | rfl | rfl | rfl | rfl
      · exact ⟨_, _, _, _, rfl, rfl, q7, atI_nat (j := 0) rfl, _, _, rfl, xx, D7, d1.xt D6.isL x7, o0, by decide⟩
      · exact ⟨_, _, _, _, rfl, rfl, q7, atI_nat (j := 1) rfl, _, _, rfl, xx, D7, d2.xt D6.isL x7, o0, by decide⟩
      · exact ⟨_, _, _, _, rfl, rfl, q7, atI_nat (j := 2) rfl, _, _, rfl, xx, D7, d3.xt D6.isL x7, o1, by decide⟩
      · exact ⟨_, _, _, _, rfl, rfl, q7, atI_nat (j := 3) rfl, _, _, rfl, xx, D7, d4.xt D6.isL x7, o2, by decide⟩
      · exact ⟨_, _, _, _, rfl, rfl, q7, atI_nat (j := 4) rfl, _, _, rfl, xx, D7, d5.xt D6.isL x7, o3, by decide⟩
    · rintro σ' H1 ⟨vs, s, rfl, x1, D1, ds, os, s0⟩
      have dv1 := dv.xt D.isL x1
      have os5 : Ok 500 s := os.mono (by decide)
      refine ⟨_, rfl, _, rfl, _, _, m, s, 500, rfl, dv1, ds, om, os5, by decide, fun vl H2 s2 dl => ?_⟩
      refine ⟨_, rfl, _, rfl, _, _, m, s, 500, rfl, dv1.same s2, ds.same s2, om, os5, by decide, fun vp H3 s3 dp => ?_⟩
      have dl3 := dl.same s3
      obtain ⟨pl, rfl, hl⟩ := dl3.fr_inv
      have oa := addF_ok om os5 (n := 1001) (by decide)
      have ol := subF_ok om os5 (n := 1001) (by decide)
      refine ⟨_, rfl, _, _, _, _, rfl, rfl, hl, atI_nat (j := 0) rfl, _, _, rfl, rfl, _, rfl, ite2 (fun e => ?_) (fun e => ?_)⟩
      · refine ⟨_, rfl, two_le, fun pt ht => ?_⟩
        have s4 := same_new (o := .tup [vp, .ref pl]) ht
        exact fin _ (addF m s, subF m s) _ (x1.trans (Xt.of ((s2.trans s3).trans s4))) (D1.same ((s2.trans s3).trans s4)) (.mk2 (SqT.of upd_same) (dp.same s4) (dl3.same s4)) (good_pair m0 om.pos s0 os.pos _ (.inl ⟨rfl, of_decide_eq_true e⟩)) ⟨oa, ol⟩
      · refine ⟨two_le, fun pz hz => ⟨two_le, fun pt ht => ?_⟩⟩
        have s4 := same_new (o := .tup [.int 0, .int 1]) hz
        have s5 := same_new (o := .tup [vp, .ref pz]) ht
        exact fin _ (addF m s, (0, 1)) _ (x1.trans (Xt.of (((s2.trans s3).trans s4).trans s5))) (D1.same (((s2.trans s3).trans s4).trans s5)) (.mk2 (SqT.of upd_same) ((dp.same s4).same s5) (DT.fr (SqT.of (s5 _ _ upd_same)))) (good_pair m0 om.pos s0 os.pos _ (.inr rfl)) ⟨oa, ok_zero.mono (by decide)⟩
end
end Nl

namespace Nl
open PySem PySem.Spec PyProof.Rows L2
section
variable {P : Program} {w : World} {K : PySem.W.Frag} {mg : Str → Option Value} {base : Heap}
/-- a node's mids -/
structure MsOk (g : Int) (m : Nat) (ms : List (Int × Int)) : Prop where
  len : (ms.length : Int) = g - 1
  ok : ∀ q ∈ ms, Ok (kb m) q ∧ 0 ≤ q.1
def sp_node (K : PySem.W.Frag) (m : Nat) : Sp := fun vs H Q _ => ∃ (pd ps : Addr) (g t : Int) (wild : Bool), vs = [.ref pd, .int g, .int t, .int (t + m), .bl wild] ∧ Dst H pd ps ∧ 1 ≤ g ∧ g ≤ 4 ∧
  ∀ H' (a : Addr) (vn : V) (pm : Addr) (xs : List V) (n : Node) (ms : List (Int × Int)), Xt pd H H' → Dst H' pd ps → SqT K H' a [vn, .ref pm] → DT K H' vn (nodeD n) → H' pm = some (.lst xs) → DTs K H' xs (ms.map frD) → H pm = none → NV g m n → MsOk g m ms → Q (.ref a) H'
def spPrev (K : PySem.W.Frag) : Nat → Sp
  | 0 => fun _ _ _ _ => False
  | m + 1 => sp_node K m
theorem kb_le {m : Nat} (h : m ≤ 2) : kb m ≤ 92 := by
  match m, h with
  | 0, _ => decide
  | 1, _ => decide
  | 2, _ => decide
theorem kb_ge : ∀ m : Nat, 4 ≤ kb m
  | 0 => by decide
  | m + 1 => by
    have := kb_ge m
    show 4 ≤ 3 * kb m + 14
    omega
theorem ok_wt {x : Int} (h0 : 1 ≤ x) (h1 : x ≤ 3) : Ok 2 (x, 1) := ⟨⟨(by show (0 : Int) < 1; decide), Int.gcd_one_right x⟩, (by unfold Bd; show x.natAbs < 4; omega), (by unfold Bd; show (1 : Int).natAbs < 4; decide)⟩
theorem frac_one_low {x : Int} (h : 0 < x) : Low (1, x) := ⟨h, Int.gcd_one_left x⟩
theorem addF_nn {p q : Int × Int} (hp : 0 ≤ p.1) (hq : 0 ≤ q.1) (lp : 0 < p.2) (lq : 0 < q.2) : 0 ≤ (addF p q).1 := by
  have h1 := Int.mul_nonneg hp (Int.le_of_lt lq)
  have h2 := Int.mul_nonneg hq (Int.le_of_lt lp)
  exact frac_nonneg (by omega) (Int.mul_pos lp lq)
theorem mulF_nn {p q : Int × Int} (hp : 0 ≤ p.1) (hq : 0 ≤ q.1) (lp : 0 < p.2) (lq : 0 < q.2) : 0 ≤ (mulF p q).1 := frac_nonneg (Int.mul_nonneg hp hq) (Int.mul_pos lp lq)
theorem sum_bd : ∀ ws : List Int, (∀ x ∈ ws, 1 ≤ x ∧ x ≤ 3) → (ws.length : Int) ≤ ws.sum ∧ ws.sum ≤ 3 * ws.length
  | [], _ => by simp
  | a :: l, h => by
    have h1 := h a (by simp)
    have h2 := sum_bd l fun x hx => h x (by simp [hx])
    simp only [List.sum_cons, List.length_cons]
    omega
theorem node_step (T : Top K mg) {k m : Nat} (hk : 4 ≤ k) (hm : m ≤ 2) (ih : FnOk P w K mg base CX0 k T.a__law_node T.d__law_node ["d", "goods", "time", "last", "wild"] (spPrev K m)) :
    FnOk P w K mg base CX0 (k + 1) T.a__law_node T.d__law_node ["d", "goods", "time", "last", "wild"] (sp_node K m) := by
  refine T._law_node_F.ok sc__law_node (fun vs H Q E h => ?_) (fun cdv A outer s H vs Q E hr h => ?_)
  · obtain ⟨_, _, _, _, _, rfl, _⟩ := h
    rfl
  · obtain ⟨pd, ps, g, t, wild, rfl, D0, g1, g4, fin⟩ := h
    refine ⟨_, (Evl.pss_cut (ps_set (i := 5) sc__law_node.nd rfl (Or.inl rfl) (pe_ifExp (pt_cmpR op_eq (pv 2) (pv 3) (nomark _)) pe_int (pe_op op_add pe_int (pe_call (ok__law_take T) (hr.mono (by omega)) (by rfl) T.g__law_take T._law_take_F.kp T._law_take_b .nil pass0 (pa_cons (pv 0) (pa_cons (pe_ifExp (pt_cmpR op_eq (pv 3) pe_int (nomark _)) pe_int pe_int) pa_nil))))))
      (pss_cons (ps_setLc (i := 7) (own := [("k", 6)]) (g := (gName 6)) (tt := tYes) (by rfl) sc__law_node.nd rfl rfl (sw_true rfl rfl rfl (by decide +kernel)) (pi_range1 rfl T.n_range (pa_cons (pv 5) pa_nil)) (blkOk_by (own := [("k", 6)]) (N := ["d", "goods", "time", "last", "wild", "many", "k", "children", "weights", "mids", "good", "mid", "total", "prices", "child"]) (sc := defScope s__law_node) (by decide +kernel)) (fun _ _ _ _ _ => (pg_name (i := 6) sc__law_node.nd rfl (Or.inl rfl))) (fun _ _ _ _ _ => pts_nil) (fun _ _ _ _ _ => (pe_call ih (hr.mono (by omega)) (by rfl) T.g__law_node T._law_node_F.kp T._law_node_b .nil pass0 (pa_cons (pv 0) (pa_cons (pv 1) (pa_cons (pe_op op_add (pv 2) pe_int) (pa_cons (pv 3) (pa_cons (pv 4) pa_nil))))))))
      (pss_cons (ps_setLc (i := 8) (own := [("k", 6)]) (g := (gName 6)) (tt := tYes) (by rfl) sc__law_node.nd rfl rfl (sw_true rfl rfl rfl (by decide +kernel)) (pi_range1 rfl T.n_range (pa_cons (pv 5) pa_nil)) (blkOk_by (own := [("k", 6)]) (N := ["d", "goods", "time", "last", "wild", "many", "k", "children", "weights", "mids", "good", "mid", "total", "prices", "child"]) (sc := defScope s__law_node) (by decide +kernel)) (fun _ _ _ _ _ => (pg_name (i := 6) sc__law_node.nd rfl (Or.inl rfl))) (fun _ _ _ _ _ => pts_nil) (fun _ _ _ _ _ => (pe_op op_add pe_int (pe_call (ok__law_take T) (hr.mono (by omega)) (by rfl) T.g__law_take T._law_take_F.kp T._law_take_b .nil pass0 (pa_cons (pv 0) (pa_cons pe_int pa_nil))))))
      (pss_cons (ps_set (i := 9) sc__law_node.nd rfl (Or.inl rfl) (pe_lst pa_nil))
      (pss_cons (ps_for PassesOwn.never rfl (pi_range1 rfl T.n_range (pa_cons (pe_op op_sub (pv 1) pe_int) pa_nil)) (pg_name (i := 10) sc__law_node.nd rfl (Or.inl rfl)) (pss_cons (ps_set (i := 11) sc__law_node.nd rfl (Or.inl rfl) (pe_call (ok__law_f T) (hr.mono (by omega)) (by rfl) T.g__law_f T._law_f_F.kp T._law_f_b .nil pass0 (pa_cons (pe_call (ok__law_take T) (hr.mono (by omega)) (by rfl) T.g__law_take T._law_take_F.kp T._law_take_b .nil pass0 (pa_cons (pv 0) (pa_cons pe_int pa_nil))) (pa_cons (pe_op op_add pe_int (pe_call (ok__law_take T) (hr.mono (by omega)) (by rfl) T.g__law_take T._law_take_F.kp T._law_take_b .nil pass0 (pa_cons (pv 0) (pa_cons pe_int pa_nil)))) pa_nil))))
      (Evl.pss_cut (ps_if (PW.pt (pw_and (pt_cmpR op_gt (pv 5) pe_int (nomark _)) (pw_and1 (pt_not (pt_truth (pv 4) (by intro _; rfl)))))) (pss_cons (ps_set (i := 12) sc__law_node.nd rfl (Or.inl rfl) (pe_tup (pa_cons pe_int (pa_cons pe_int pa_nil))))
      (pss_cons (ps_for PassesOwn.never rfl (pi_range1 rfl T.n_range (pa_cons (pv 5) pa_nil)) (pg_name (i := 6) sc__law_node.nd rfl (Or.inl rfl)) (pss_one (ps_set (i := 12) sc__law_node.nd rfl (Or.inl rfl) (pe_call (ok__law_plus T) (hr.mono (by omega)) (by rfl) T.g__law_plus T._law_plus_F.kp T._law_plus_b .nil pass0 (pa_cons (pv 12) (pa_cons (pe_call (ok__law_times T) (hr.mono (by omega)) (by rfl) T.g__law_times T._law_times_F.kp T._law_times_b .nil pass0 (pa_cons (pe_ix ix_list (pe_ix ix_tup (pe_ix ix_list (pv 7) (pv 6) (fun _ _ => rfl)) pe_int (fun _ _ => rfl)) (pv 10) (fun _ _ => rfl)) (pa_cons (pe_tup (pa_cons (pe_ix ix_list (pv 8) (pv 6) (fun _ _ => rfl)) (pa_cons pe_int pa_nil))) pa_nil))) pa_nil))))))
      (pss_one (ps_set (i := 11) sc__law_node.nd rfl (Or.inl rfl) (pe_call (ok__law_times T) (hr.mono (by omega)) (by rfl) T.g__law_times T._law_times_F.kp T._law_times_b .nil pass0 (pa_cons (pv 12) (pa_cons (pe_tup (pa_cons pe_int (pa_cons (pe_callB (cr_sum rfl) (by rfl) T.n_sum (by decide +kernel) (pa_cons (pv 8) pa_nil)) pa_nil))) pa_nil))))))) pss_nil)
      (pss_one (ps_expr (pe_bm PySem.F.plainAttrs_list PySem.F.slot_list_append PySem.F.type_list_append mt_append (pv 9) (pa_cons (pv 11) pa_nil)))))))
      (pss_cons (ps_set (i := 13) sc__law_node.nd rfl (Or.inl rfl) (pe_callTy call_tupL (by rfl) T.n_tuple (by decide +kernel) (pa_cons (pe_lc (own := [("mid", 11)]) (g := (gName 11)) (tt := tYes) (by rfl) sc__law_node.nd (pi_list (pv 9)) (blkOk_by (own := [("mid", 11)]) (N := ["d", "goods", "time", "last", "wild", "many", "k", "children", "weights", "mids", "good", "mid", "total", "prices", "child"]) (sc := defScope s__law_node) (by decide +kernel)) (fun _ _ _ _ _ => (pg_name (i := 11) sc__law_node.nd rfl (Or.inl rfl))) (fun _ _ _ _ _ => pts_nil) (fun _ _ _ _ _ => (pe_call (ok__law_spread T) (hr.mono (by omega)) (by rfl) T.g__law_spread T._law_spread_F.kp T._law_spread_b .nil pass0 (pa_cons (pv 0) (pa_cons (pv 11) pa_nil))))) pa_nil)))
      (pss_one (ps_ret (pe_tup (pa_cons (pe_tup (pa_cons (pv 13) (pa_cons (pe_callTy call_tupL (by rfl) T.n_tuple (by decide +kernel) (pa_cons (pe_lc (own := [("child", 14)]) (g := (gName 14)) (tt := tYes) (by rfl) sc__law_node.nd (pi_list (pv 7)) (blkOk_by (own := [("child", 14)]) (N := ["d", "goods", "time", "last", "wild", "many", "k", "children", "weights", "mids", "good", "mid", "total", "prices", "child"]) (sc := defScope s__law_node) (by decide +kernel)) (fun _ _ _ _ _ => (pg_name (i := 14) sc__law_node.nd rfl (Or.inl rfl))) (fun _ _ _ _ _ => pts_nil) (fun _ _ _ _ _ => (pe_ix (r := rIxT K) ix_tup (pv 14) pe_int (fun _ _ => rfl)))) pa_nil)) pa_nil))) (pa_cons (pv 9) pa_nil))))))))))), ?_⟩
    -- many
    refine ⟨fun σ' H1 => ∃ mm : Nat, σ' = [some (.ref pd), some (.int g), some (.int t), some (.int (t + m)), some (.bl wild), some (.int (mm : Int)), none, none, none, none, none, none, none, none, none] ∧ Xt pd H H1 ∧ Dst H1 pd ps ∧ mm ≤ 3 ∧ (m = 0 → mm = 0) ∧ (m ≠ 0 → 0 < mm), ?_, ?_⟩
    · refine ⟨_, rfl, _, rfl, rfl, _, rfl, ite2 (fun e => ?_) (fun e => ?_)⟩
      · have e0 : t = t + m := V.int.inj (of_decide_eq_true e)
        exact ⟨0, rfl, Xt.refl H, D0, by decide, fun _ => rfl, fun z => (z (by omega)).elim⟩
      · have e0 : m ≠ 0 := fun z => e (by rw [z]; exact decide_eq_true (by simp))
        have b3 : Bd 8000 3 := Bd.mono (k := 2) (by unfold Bd; decide) (by decide)
        have b2 : Bd 8000 2 := Bd.mono (k := 2) (by unfold Bd; decide) (by decide)
        refine ⟨_, rfl, _, rfl, rfl, _, rfl, ite2 (fun e2 => ?_) (fun e2 => ?_)⟩
        · refine ⟨pd, ps, 3, rfl, D0, by decide, b3, fun r H1 x1 D1 r0 r1 => ⟨_, _, rfl, rfl, 1 + r.toNat, ?_, x1, D1, by omega, fun z => (e0 z).elim, fun _ => by omega⟩⟩
          have : ((1 + r.toNat : Nat) : Int) = 1 + r := by omega
          rw [this]
          rfl
        · refine ⟨pd, ps, 2, rfl, D0, by decide, b2, fun r H1 x1 D1 r0 r1 => ⟨_, _, rfl, rfl, 1 + r.toNat, ?_, x1, D1, by omega, fun z => (e0 z).elim, fun _ => by omega⟩⟩
          have : ((1 + r.toNat : Nat) : Int) = 1 + r := by omega
          rw [this]
          rfl
    · rintro σ' H1 ⟨mm, rfl, x1, D1, mm3, mz, mp⟩
      -- children
      refine ⟨_, rfl, (mm : Int), rfl, by omega, by omega, fun Dc hDc => lc_range (lo := 0) (n := (mm : Int).toNat) (fun i H' => ∃ (xs : List V) (cs : List (Node × List (Int × Int))), Xt pd H1 H' ∧ Dst H' pd ps ∧ H' Dc = some (.lst xs) ∧ All2 (ChildP K [pd, Dc] H') xs cs ∧ cs.length = i ∧ ∀ c ∈ cs, ∃ m', m = m' + 1 ∧ NV g m' c.1 ∧ MsOk g m' c.2) ?_ ?_ ?_⟩
      · exact ⟨[], [], Xt.of (same_new hDc), D1.same (same_new hDc), upd_same, .nil, rfl, fun c hc => by cases hc⟩
      · rintro i H' hi ⟨xs, cs, xc, Dd, hxs, ac, lc, pc⟩
        refine ⟨rfl, ?_⟩
        dsimp only [tYes]
        rw [if_pos rfl]
        obtain ⟨m', rfl⟩ : ∃ m', m = m' + 1 := by
          cases m with
          | zero =>
            have := mz rfl
            omega
          | succ m' => exact ⟨m', rfl⟩
        have dn : Dc ≠ pd := (D1.fresh hDc).1
        have ds' : Dc ≠ ps := (D1.fresh hDc).2
        refine ⟨_, rfl, _, rfl, _, rfl, _, _, rfl, rfl, _, rfl, _, rfl, ?_⟩
        refine ⟨pd, ps, g, t + 1, wild, ?_, Dd, g1, g4, fun H2 a vn pm ys n ms x2 D2 ha dvn hpm dms npm nv mo => ?_⟩
        · have : t + ((m' + 1 : Nat) : Int) = t + 1 + (m' : Int) := by omega
          rw [this]
          rfl
        have hxs2 := x2 _ _ dn hxs
        have e1 : pm ≠ pd := fun z => by
          obtain ⟨ys, hy⟩ := Dd.lst
          rw [z, hy] at npm
          cases npm
        have e2 : pm ≠ Dc := fun z => by
          rw [z, hxs] at npm
          cases npm
        have il2 : IsL H2 Dc := ⟨_, hxs2⟩
        have xu : Xt Dc H2 (upd H2 Dc (.lst (xs ++ [.ref a]))) := Xt.upd
        refine ⟨xs, hxs2, ?_, xs ++ [.ref a], cs ++ [(n, ms)], xt_mut (xc.trans x2) hDc, D2.xt dn ds' xu, upd_same, ?_, by simp [lc], fun c hc => ?_⟩
        · rw [ac.1, lc]
          exact small1000 (by omega)
        · refine All2.snoc (ac.imp fun x c h => (h.xt (by simp) Dd.isL x2).xt (by simp) il2 xu) ?_
          refine ChildP.xt (p := Dc) ⟨a, vn, pm, ys, rfl, ha, dvn, hpm, dms, fun x hx => ?_⟩ (by simp) il2 xu
          rcases List.mem_cons.mp hx with rfl | hx
          · exact e1
          · rw [List.mem_singleton.mp hx]
            exact e2
        · rcases List.mem_append.mp hc with hc | hc
          · exact pc c hc
          · rw [List.mem_singleton.mp hc]
            exact ⟨m', rfl, nv, mo⟩
      · rintro H2 ⟨xs, cs, x2, D2, hxs, ac, lc, pc⟩
        have lcm : cs.length = mm := by omega
        have dn : Dc ≠ pd := (D1.fresh hDc).1
        -- weights
        refine ⟨_, rfl, (mm : Int), rfl, by omega, by omega, fun Dw hDw => lc_range (lo := 0) (n := (mm : Int).toNat) (fun i H' => ∃ (ws : List Int), Xt pd H2 H' ∧ Dst H' pd ps ∧ H' Dw = some (.lst (ws.map V.int)) ∧ ws.length = i ∧ ∀ x ∈ ws, 1 ≤ x ∧ x ≤ 3) ?_ ?_ ?_⟩
        · exact ⟨[], Xt.of (same_new hDw), D2.same (same_new hDw), upd_same, rfl, fun x hx => by cases hx⟩
        · rintro i H' hi ⟨ws, xc, Dd, hws, lw, pw⟩
          have wn := D2.fresh hDw
          refine ⟨rfl, ?_⟩
          dsimp only [tYes]
          rw [if_pos rfl]
          refine ⟨_, rfl, pd, ps, 3, rfl, Dd, by decide, Bd.mono (k := 2) (by unfold Bd; decide) (by decide), fun r H3 x3 D3 r0 r1 => ⟨_, _, rfl, rfl, ?_⟩⟩
          have hws3 := x3 _ _ wn.1 hws
          refine ⟨_, hws3, ?_, ws ++ [1 + r], xt_mut (xc.trans x3) hDw, D3.xt wn.1 wn.2 Xt.upd, ?_, by simp [lw], fun x hx => ?_⟩
          · rw [List.length_map, lw]
            exact small1000 (by omega)
          · rw [upd_same, List.map_append]
            rfl
          · rcases List.mem_append.mp hx with hx | hx
            · exact pw x hx
            · rw [List.mem_singleton.mp hx]
              omega
        · rintro H3 ⟨ws, x3, D3, hws, lw, pw⟩
          have lwm : ws.length = mm := by omega
          have wn := D2.fresh hDw
          have hxs3 := x3 _ _ dn hxs
          have ac3 := ac.imp fun x c h => h.xt (by simp) D2.isL x3
          -- mids
          refine ⟨Nat.zero_le _, fun Dm hDm => ?_⟩
          have mn := D3.fresh hDm
          refine ⟨_, rfl, _, _, rfl, rfl, _, rfl, by omega, by omega, for_range (lo := 0) (n := (g - 1).toNat) (fun i σ H' => ∃ (y6 y10 y11 y12 : Option V) (ms : List (Int × Int)) (xm : List V), σ = [some (.ref pd), some (.int g), some (.int t), some (.int (t + m)), some (.bl wild), some (.int (mm : Int)), y6, some (.ref Dc), some (.ref Dw), some (.ref Dm), y10, y11, y12, none, none] ∧ Xt pd H3 H' ∧ Dst H' pd ps ∧ H' Dm = some (.lst xm) ∧ DTs K H' xm (ms.map frD) ∧ ms.length = i ∧ ∀ q ∈ ms, Ok (kb m) q ∧ 0 ≤ q.1) ?_ ?_ ?_⟩
          · exact ⟨_, _, _, _, [], [], rfl, Xt.of (same_new hDm), D3.same (same_new hDm), upd_same, .nil, rfl, fun q hq => by cases hq⟩
          · rintro i σ H4 hi ⟨y6, y10, y11, y12, ms, xm, rfl, x4, D4, hxm, dxm, lm, pm⟩
            have b9 : Bd 8000 9 := Bd.mono (k := 4) (by unfold Bd; decide) (by decide)
            have b2 : Bd 8000 2 := Bd.mono (k := 2) (by unfold Bd; decide) (by decide)
            refine ⟨_, rfl, pd, ps, 9, rfl, D4, by decide, b9, fun a H5 x5 D5 a0 a1 => ⟨_, rfl, pd, ps, 2, rfl, D5, by decide, b2, fun b H6 x6 D6 b0 b1 => ⟨_, _, rfl, rfl, a, 1 + b, rfl, by omega, ?_, fun v H7 s7 dv => ?_⟩⟩⟩
            · refine Bd.mono (k := 2) ?_ (by decide)
              unfold Bd
              show (1 + b).natAbs < 4
              omega
            have okm : Ok 4 (frac a (1 + b)) := frac_ok (by omega) (by unfold Bd; show a.natAbs < 16; omega) (by unfold Bd; show (1 + b).natAbs < 16; omega)
            have nnm : 0 ≤ (frac a (1 + b)).1 := frac_nonneg a0 (by omega)
            have x37 : Xt pd H3 H7 := ((x4.trans x5).trans x6).trans (Xt.of s7)
            have D7 := D6.same s7
            have hxm7 : H7 Dm = some (.lst xm) := s7 _ _ (x6 _ _ mn.1 (x5 _ _ mn.1 hxm))
            have dxm7 := ((dxm.xt D4.isL x5).xt D5.isL x6).same s7
            -- the mean
            refine ⟨fun σ' H8 => ∃ (vm : V) (q : Int × Int) (y6 y12 : Option V), σ' = [some (.ref pd), some (.int g), some (.int t), some (.int (t + m)), some (.bl wild), some (.int (mm : Int)), y6, some (.ref Dc), some (.ref Dw), some (.ref Dm), some (.int (0 + (i : Int))), some vm, y12, none, none] ∧ Same H7 H8 ∧ DT K H8 vm (frD q) ∧ Ok (kb m) q ∧ 0 ≤ q.1, ?_, ?_⟩
            · have skip : ∃ (vm : V) (q : Int × Int) (y6' y12' : Option V), ([some (.ref pd), some (.int g), some (.int t), some (.int (t + m)), some (.bl wild), some (.int (mm : Int)), y6, some (.ref Dc), some (.ref Dw), some (.ref Dm), some (.int (0 + (i : Int))), some v, y12, none, none] : List (Option V)) = [some (.ref pd), some (.int g), some (.int t), some (.int (t + m)), some (.bl wild), some (.int (mm : Int)), y6', some (.ref Dc), some (.ref Dw), some (.ref Dm), some (.int (0 + (i : Int))), some vm, y12', none, none] ∧ Same H7 H7 ∧ DT K H7 vm (frD q) ∧ Ok (kb m) q ∧ 0 ≤ q.1 := ⟨v, _, _, _, rfl, Same.refl _, dv, okm.mono (kb_ge m), nnm⟩
              refine ⟨_, rfl, _, _, rfl, rfl, _, rfl, ite2 (fun e1 => ?_) (fun e1 => iteF skip)⟩
              have mpos : 0 < mm := by
                have : (0 : Int) < (mm : Int) := of_decide_eq_true e1
                omega
              obtain ⟨m', rfl⟩ : ∃ m', m = m' + 1 := by
                cases m with
                | zero =>
                  have := mz rfl
                  omega
                | succ m' => exact ⟨m', rfl⟩
              refine ⟨_, rfl, wild, rfl, ?_⟩
              cases wild with
              | true => exact iteF skip
              | false =>
                refine iteT ?_
                refine ⟨two_le, fun pz hz => ?_⟩
                have s8 := same_new (o := .tup [.int 0, .int 1]) hz
                have hxs7 := x37 _ _ dn hxs3
                have hws7 := x37 _ _ wn.1 hws
                have ac7 := ac3.imp fun x c h => h.xt (by simp) D3.isL x37
                have kl := kb_le hm
                have kl' : 3 * kb m' + 14 ≤ 92 := kl
                refine ⟨_, rfl, (mm : Int), rfl, by omega, by omega, for_range (lo := 0) (n := (mm : Int).toNat) (fun j σ H' => ∃ (vt : V) (q : Int × Int) (y6 : Option V), σ = [some (.ref pd), some (.int g), some (.int t), some (.int (t + (m' + 1 : Nat))), some (.bl false), some (.int (mm : Int)), y6, some (.ref Dc), some (.ref Dw), some (.ref Dm), some (.int (0 + (i : Int))), some v, some vt, none, none] ∧ Same H7 H' ∧ DT K H' vt (frD q) ∧ Ok (1 + j * (kb m' + 3)) q ∧ 0 ≤ q.1) ?_ ?_ ?_⟩
                · exact ⟨_, (0, 1), _, rfl, s8, DT.fr (SqT.of upd_same), ok_zero.mono (by omega), by decide⟩
                · rintro j σ H8 hj ⟨vt, q, y6', rfl, s78, dvt, oq, nq⟩
                  have jm : j < mm := by omega
                  have jc : cs[j]? = some cs[j] := List.getElem?_eq_getElem (by omega)
                  obtain ⟨xj, hxj, cp⟩ := ac7.at_ jc
                  obtain ⟨ca, cvn, cpm, cxs, rfl, hca, dcvn, hcpm, dcms, _⟩ := cp
                  obtain ⟨m2, em, nvc, moc⟩ := pc _ (List.mem_of_getElem? jc)
                  have em2 : m' = m2 := by omega
                  subst em2
                  have il : i < cs[j].2.length := by
                    have := moc.len
                    omega
                  have hq : cs[j].2[i]? = some cs[j].2[i] := List.getElem?_eq_getElem il
                  obtain ⟨xq, hxq, dxq⟩ := dcms.at_ (i := i) (d := frD cs[j].2[i]) (by rw [List.getElem?_map, hq]; rfl)
                  have okq := moc.ok _ (List.mem_of_getElem? hq)
                  have jw : ws[j]? = some ws[j] := List.getElem?_eq_getElem (by omega)
                  have pwj := pw _ (List.mem_of_getElem? jw)
                  have hw7 : (ws.map V.int)[j]? = some (.int ws[j]) := by
                    rw [List.getElem?_map, jw]
                    rfl
                  have e0 : ((0 : Int) + (j : Int)) = (j : Int) := Int.zero_add _
                  have e0i : ((0 : Int) + (i : Int)) = (i : Int) := Int.zero_add _
                  refine ⟨_, rfl, _, rfl, _, rfl, _, _, _, _, rfl, rfl, SqL.of (s78 _ _ hxs7), by rw [e0]; exact atI_nat hxj, _, _, _, _, rfl, rfl, sqt_same s78 hca, atI_nat (j := 1) rfl, _, rfl, _, _, _, _, rfl, rfl, SqL.of (s78 _ _ hcpm), by rw [e0i]; exact atI_nat hxq, ?_⟩
                  refine ⟨_, rfl, _, rfl, _, _, _, _, rfl, rfl, SqL.of (s78 _ _ hws7), by rw [e0]; exact atI_nat hw7, two_le, fun pw1 hw1 => ?_⟩
                  have s9 := same_new (o := .tup [.int ws[j], .int 1]) hw1
                  refine ⟨_, _, cs[j].2[i], (ws[j], 1), 200, rfl, (dxq.same s78).same s9, DT.fr (SqT.of upd_same), okq.1.mono (by omega), (ok_wt pwj.1 pwj.2).mono (by decide), by decide, fun v1 H9 s10 dv1 => ?_⟩
                  have ok1 : Ok (kb m' + 2) (mulF cs[j].2[i] (ws[j], 1)) := mulF_ok okq.1 (ok_wt pwj.1 pwj.2) (Nat.le_refl _)
                  have nn1 : 0 ≤ (mulF cs[j].2[i] (ws[j], 1)).1 := mulF_nn okq.2 (by show 0 ≤ ws[j]; omega) okq.1.pos (by show (0 : Int) < 1; decide)
                  have jb : j * (kb m' + 3) ≤ 2 * (kb m' + 3) := Nat.mul_le_mul_right _ (by omega)
                  refine ⟨_, _, q, mulF cs[j].2[i] (ws[j], 1), 500, rfl, (dvt.same s9).same s10, dv1, oq.mono (by omega), ok1.mono (by omega), by decide, fun v2 H10 s11 dv2 => ?_⟩
                  refine ⟨v2, _, _, rfl, ((s78.trans s9).trans s10).trans s11, dv2, addF_ok oq ok1 ?_, addF_nn nq nn1 oq.pos ok1.pos⟩
                  rw [Nat.add_mul]
                  omega
                · rintro σ H8 ⟨vt, q, y6', rfl, s78, dvt, oq, nq⟩
                  obtain ⟨b1, b2⟩ := sum_bd ws pw
                  have hs0 : 0 < ws.sum := by omega
                  have hs9 : ws.sum ≤ 9 := by omega
                  have os : Ok 4 (1, ws.sum) := ⟨frac_one_low hs0, (by unfold Bd; show (1 : Int).natAbs < 16; decide), (by unfold Bd; show ws.sum.natAbs < 16; omega)⟩
                  have jb : (mm : Int).toNat * (kb m' + 3) ≤ 3 * (kb m' + 3) := Nat.mul_le_mul_right _ (by omega)
                  refine ⟨_, rfl, _, rfl, Dw, ws, rfl, SqL.of (s78 _ _ hws7), two_le, fun ps1 hs1 => ?_⟩
                  have s9 := same_new (o := .tup [.int 1, .int ws.sum]) hs1
                  refine ⟨_, _, q, (1, ws.sum), 500, rfl, dvt.same s9, DT.fr (SqT.of upd_same), oq.mono (by omega), os.mono (by decide), by decide, fun v1 H9 s10 dv1 => ?_⟩
                  refine ⟨v1, _, _, _, rfl, (s78.trans s9).trans s10, dv1, mulF_ok oq os ?_, mulF_nn nq (by show (0 : Int) ≤ 1; decide) oq.pos hs0⟩
                  show _ ≤ 3 * kb m' + 14
                  omega
            · rintro σ' H8 ⟨vm, q, y6', y12', rfl, s78, dvm, oq, nq⟩
              have hxm8 := s78 _ _ hxm7
              have il8 : IsL H8 Dm := ⟨_, hxm8⟩
              have xu : Xt Dm H8 (upd H8 Dm (.lst (xm ++ [vm]))) := Xt.upd
              refine ⟨_, rfl, .inl ⟨rfl, _, SqL.of hxm8⟩, _, rfl, _, _, _, rfl, rfl, hxm8, ?_, ?_⟩
              · rw [dxm.len, List.length_map, lm]
                exact small1000 (by omega)
              · refine ⟨_, _, _, _, ms ++ [q], xm ++ [vm], rfl, xt_mut (x37.trans (Xt.of s78)) hDm, (D7.same s78).xt mn.1 mn.2 xu, upd_same, ?_, by simp [lm], fun z hz => ?_⟩
                · rw [List.map_append]
                  exact ((dxm7.same s78).xt il8 xu).snoc (dvm.xt il8 xu)
                · rcases List.mem_append.mp hz with hz | hz
                  · exact pm z hz
                  · rw [List.mem_singleton.mp hz]
                    exact ⟨oq, nq⟩
          · rintro σ H4 ⟨y6, y10, y11, y12, ms, xm, rfl, x4, D4, hxm, dxm, lm, pm⟩
            have mo : MsOk g m ms := ⟨by omega, pm⟩
            have kl := kb_le hm
            have lxm : xm.length = ms.length := by rw [dxm.len, List.length_map]
            -- prices
            refine ⟨_, rfl, Dm, rfl, ⟨_, SqL.of hxm⟩, fun Dp hDp => lc_list (K := K) (a := Dm) (xs := xm) (fun i H' => ∃ (prs : List Pr) (o : List V), Xt pd H4 H' ∧ Dst H' pd ps ∧ H' Dp = some (.lst o) ∧ DTs K H' o (prs.map prD) ∧ prs.length = i ∧ ∀ p ∈ prs, ¬ badPr p ∧ PrK 1001 p) ?_ ?_ ?_ ?_⟩
            · exact ⟨[], [], Xt.of (same_new hDp), D4.same (same_new hDp), upd_same, .nil, rfl, fun p hp => by cases hp⟩
            · rintro i H' _ ⟨_, _, xc, _⟩
              exact SqL.of (xc _ _ mn.1 hxm)
            · rintro i x H' hi ⟨prs, o, xc, Dd, hO, dO, lp, pp⟩
              have pn := D4.fresh hDp
              obtain ⟨d, hd, dx⟩ := dxm.get hi
              rw [List.getElem?_map] at hd
              obtain ⟨q, hq, rfl⟩ := Option.map_eq_some_iff.mp hd
              have oq := pm q (List.mem_of_getElem? hq)
              refine ⟨rfl, ?_⟩
              dsimp only [tYes]
              rw [if_pos rfl]
              refine ⟨_, rfl, _, rfl, pd, ps, x, q, rfl, Dd, dx.xt D4.isL xc, oq.1.mono (by omega), oq.2, fun v' pr H5 x5 D5 dv' nb pb => ?_⟩
              have hO5 := x5 _ _ pn.1 hO
              have il5 : IsL H5 Dp := ⟨_, hO5⟩
              have xu : Xt Dp H5 (upd H5 Dp (.lst (o ++ [v']))) := Xt.upd
              refine ⟨o, hO5, ?_, prs ++ [pr], o ++ [v'], xt_mut (xc.trans x5) hDp, D5.xt pn.1 pn.2 xu, upd_same, ?_, by simp [lp], fun z hz => ?_⟩
              · rw [dO.len, List.length_map, lp]
                have := (List.getElem?_eq_some_iff.mp hq).1
                exact small1000 (by omega)
              · rw [List.map_append]
                exact ((dO.xt Dd.isL x5).xt il5 xu).snoc (dv'.xt il5 xu)
              · rcases List.mem_append.mp hz with hz | hz
                · exact pp z hz
                · rw [List.mem_singleton.mp hz]
                  exact ⟨nb, pb⟩
            · rintro H5 ⟨prs, o, x5, D5, hO, dO, lp, pp⟩
              refine ⟨_, _, rfl, SqL.of hO, fun pt hpt => ?_⟩
              have s6 := same_new (o := .tup o) hpt
              have pso : PsOk g prs := ⟨by have := mo.len; omega, fun p hp => (pp p hp).1, fun p hp => (pp p hp).2⟩
              have x36 : Xt pd H3 _ := (x4.trans x5).trans (Xt.of s6)
              have D6 := D5.same s6
              have dP : DT K _ (.ref pt) (pricesD prs) := .tup (SqT.of upd_same) (dO.same s6)
              have hxs6 := x36 _ _ dn hxs3
              have ac6 := ac3.imp fun x c h => h.xt (by simp) D3.isL x36
              have hxm6 := s6 _ _ (x5 _ _ mn.1 hxm)
              have dxm6 := (dxm.xt D4.isL x5).same s6
              generalize (upd H5 pt (.tup o)) = H6 at *
              -- the children's nodes
              refine ⟨_, rfl, _, rfl, Dc, rfl, ⟨_, SqL.of hxs6⟩, fun De hDe => lc_list (K := K) (a := Dc) (xs := xs) (fun i H' => ∃ o2, Same H6 H' ∧ H' De = some (.lst o2) ∧ DTs K H' o2 (((cs.take i).map (·.1)).map nodeD)) ⟨[], same_new hDe, upd_same, .nil⟩ (fun i H' _ ⟨_, sm, _⟩ => SqL.of (sm _ _ hxs6)) ?_ ?_⟩
              · rintro i x H' hi ⟨o2, sm, hO2, dO2⟩
                obtain ⟨c, hc, cp⟩ := ac6.2 i x hi
                obtain ⟨ca, cvn, cpm, cxs, rfl, hca, dcvn, _⟩ := cp
                refine ⟨rfl, ?_⟩
                dsimp only [tYes]
                rw [if_pos rfl]
                have iD : IsL H' De := ⟨_, hO2⟩
                refine ⟨_, rfl, _, _, _, _, rfl, rfl, sqt_same sm hca, atI_nat (j := 0) rfl, o2, hO2, ?_, _, same_mut sm hDe, upd_same, ?_⟩
                · rw [dO2.len, List.length_map, List.length_map]
                  refine Nat.lt_of_le_of_lt (List.length_take_le' _ _) (small1000 (by omega))
                · rw [take_next hc, List.map_append, List.map_append]
                  exact (dO2.xt iD Xt.upd).snoc ((dcvn.same sm).xt iD Xt.upd)
              · rintro H7 ⟨o2, s7, hO2, dO2⟩
                rw [ac6.1, List.take_length] at dO2
                refine ⟨_, _, rfl, SqL.of hO2, fun pk hpk => ⟨two_le, fun pn hpn => ⟨_, rfl, two_le, fun pr hpr => ?_⟩⟩⟩
                have s8 := same_new (o := .tup o2) hpk
                have s9 := same_new (o := .tup [.ref pt, .ref pk]) hpn
                have s10 := same_new (o := .tup [.ref pn, .ref Dm]) hpr
                have sA := ((s7.trans s8).trans s9).trans s10
                have xA : Xt pd H (upd (upd (upd H7 pk (.tup o2)) pn (.tup [.ref pt, .ref pk])) pr (.tup [.ref pn, .ref Dm])) := (((x1.trans x2).trans x3).trans x36).trans (Xt.of sA)
                have dK : DT K _ (.ref pk) (.tuple ((cs.map (·.1)).map nodeD)) := .tup (SqT.of (s10 _ _ (s9 _ _ upd_same))) ((((dO2.same s8).same s9)).same s10)
                have dN : DT K (upd (upd (upd H7 pk (.tup o2)) pn (.tup [.ref pt, .ref pk])) pr (.tup [.ref pn, .ref Dm])) (.ref pn) (nodeD (.mk prs (cs.map (·.1)))) := by
                  rw [nodeD_eq]
                  exact .mk2 (SqT.of (s10 _ _ upd_same)) (dP.same sA) dK
                refine fin _ pr (.ref pn) Dm xm (.mk prs (cs.map (·.1))) ms xA (D6.same sA) (SqT.of upd_same) dN (sA _ _ hxm6) (dxm6.same sA) ?_ ?_ mo
                · have f3 : H3 Dm = none := hDm
                  have f2 := xt_free x3 mn.1 f3
                  have f1 := xt_free x2 mn.1 f2
                  exact xt_free x1 mn.1 f1
                · cases m with
                  | zero =>
                    refine ⟨pso, ?_⟩
                    have : cs = [] := List.eq_nil_of_length_eq_zero (by rw [lcm]; exact mz rfl)
                    rw [this]
                    rfl
                  | succ m' =>
                    refine ⟨pso, ?_, ?_, fun k hk => ?_⟩
                    · show 0 < (cs.map (·.1)).length
                      rw [List.length_map, lcm]
                      exact mp (by omega)
                    · show (cs.map (·.1)).length ≤ 3
                      rw [List.length_map, lcm]
                      exact mm3
                    · obtain ⟨c, hc, rfl⟩ := List.mem_map.mp hk
                      obtain ⟨m2, em, nv, _⟩ := pc c hc
                      have : m' = m2 := by omega
                      subst this
                      exact nv
def sp_nodeA (K : PySem.W.Frag) : Sp := fun vs H Q E => ∃ m : Nat, m ≤ 2 ∧ sp_node K m vs H Q E
theorem ok__law_node (T : Top K mg) : FnOk P w K mg base CX0 7 T.a__law_node T.d__law_node ["d", "goods", "time", "last", "wild"] (sp_nodeA K) := by
  have z : FnOk P w K mg base CX0 4 T.a__law_node T.d__law_node ["d", "goods", "time", "last", "wild"] (spPrev K 0) := ⟨fun _ _ _ _ h => h.elim, fun _ _ _ _ _ _ _ _ _ _ _ _ _ h => h.elim⟩
  have f0 := node_step T (k := 4) (m := 0) (by decide) (by decide) z
  have f1 := node_step T (k := 5) (m := 1) (by decide) (by decide) f0
  have f2 := node_step T (k := 6) (m := 2) (by decide) (by decide) f1
  refine ⟨fun vs H Q E h => ?_, fun A outer s H args us vs Q E hr e0 hb hv h => ?_⟩
  · obtain ⟨m, _, _, _, _, _, _, rfl, _⟩ := h
    rfl
  · obtain ⟨m, hm, h⟩ := h
    match m, hm, h with
    | 0, _, h => exact (f0.mono (by decide)).run A outer s H args us vs Q E hr e0 hb hv h
    | 1, _, h => exact (f1.mono (by decide)).run A outer s H args us vs Q E hr e0 hb hv h
    | 2, _, h => exact f2.run A outer s H args us vs Q E hr e0 hb hv h
def sp_market (K : PySem.W.Frag) : Sp := fun vs H Q _ => ∃ pd ps : Addr, vs = [.ref pd, .int 4] ∧ Dst H pd ps ∧ ∀ v g n m H', Xt pd H H' → Dst H' pd ps → DT K H' v (marketD g n) → 1 ≤ g → g ≤ 4 → m ≤ 2 → NV g m n → Q v H'
theorem ok__law_market (T : Top K mg) : FnOk P w K mg base CX0 8 T.a__law_market T.d__law_market ["d", "most"] (sp_market K) := by
  refine T._law_market_F.ok sc__law_market (fun vs H Q E h => ?_) (fun cdv A outer s H vs Q E hr h => ?_)
  · obtain ⟨_, _, rfl, _⟩ := h
    rfl
  · obtain ⟨pd, ps, rfl, D, fin⟩ := h
    have b5 : ∀ {x : Int}, 0 ≤ x → x ≤ 7 → Bd 8000 x := fun h0 h1 => Bd.mono (k := 3) (by unfold Bd; omega) (by decide)
    refine ⟨_, (pss_cons (ps_set (i := 2) sc__law_market.nd rfl (Or.inl rfl) (pe_op op_add pe_int (pe_call (ok__law_take T) (hr.mono (by decide : 1 ≤ 7)) (by rfl) T.g__law_take T._law_take_F.kp T._law_take_b .nil pass0 (pa_cons (pv 0) (pa_cons (pv 1) pa_nil)))))
      (Evl.pss_cut (ps_if (PW.pt (pw_and (pt_cmpR op_eq (pv 2) pe_int (nomark _)) (pw_and1 (pt_cmpR op_gt (pe_call (ok__law_take T) (hr.mono (by decide : 1 ≤ 7)) (by rfl) T.g__law_take T._law_take_F.kp T._law_take_b .nil pass0 (pa_cons (pv 0) (pa_cons pe_int pa_nil))) pe_int (nomark _))))) (pss_one (ps_set (i := 2) sc__law_market.nd rfl (Or.inl rfl) pe_int)) pss_nil)
      (pss_cons (ps_set (i := 3) sc__law_market.nd rfl (Or.inl rfl) (pe_cmpR op_eq (pe_call (ok__law_take T) (hr.mono (by decide : 1 ≤ 7)) (by rfl) T.g__law_take T._law_take_F.kp T._law_take_b .nil pass0 (pa_cons (pv 0) (pa_cons pe_int pa_nil))) pe_int (nomark _)))
      (pss_one (ps_ret (pe_tup (pa_cons (pv 2) (pa_cons (pe_ix ix_tup (pe_call (ok__law_node T) (hr.mono (by decide : 7 ≤ 7)) (by rfl) T.g__law_node T._law_node_F.kp T._law_node_b .nil pass0 (pa_cons (pv 0) (pa_cons (pv 2) (pa_cons pe_int (pa_cons (pe_call (ok__law_take T) (hr.mono (by decide : 1 ≤ 7)) (by rfl) T.g__law_take T._law_take_F.kp T._law_take_b .nil pass0 (pa_cons (pv 0) (pa_cons pe_int pa_nil))) (pa_cons (pv 3) pa_nil)))))) pe_int (fun _ _ => rfl)) pa_nil)))))))), ?_⟩
    refine ⟨_, rfl, _, rfl, pd, ps, 4, rfl, D, by decide, b5 (by decide) (by decide), fun r H1 x1 D1 r0 r1 => ⟨_, _, rfl, rfl, ?_⟩⟩
    refine ⟨fun σ' H2 => ∃ g : Int, σ' = [some (.ref pd), some (.int 4), some (.int g), none] ∧ Xt pd H H2 ∧ Dst H2 pd ps ∧ 1 ≤ g ∧ g ≤ 4, ?_, ?_⟩
    · refine ⟨_, rfl, rfl, _, rfl, ite2 (fun e => ?_) (fun e => iteF ⟨1 + r, rfl, x1, D1, by omega, by omega⟩)⟩
      refine ⟨_, rfl, pd, ps, 3, rfl, D1, by decide, b5 (by decide) (by decide), fun q H2 x2 D2 q0 q1 => ⟨_, _, rfl, rfl, _, rfl, ite2 (fun e2 => ?_) (fun e2 => ?_)⟩⟩
      · exact ⟨2, rfl, x1.trans x2, D2, by decide, by decide⟩
      · exact ⟨1 + r, rfl, x1.trans x2, D2, by omega, by omega⟩
    · rintro σ' H2 ⟨g, rfl, x2, D2, g1, g4⟩
      refine ⟨_, rfl, pd, ps, 5, rfl, D2, by decide, b5 (by decide) (by decide), fun q H3 x3 D3 q0 q1 => ⟨rfl, ?_⟩⟩
      refine ⟨_, rfl, _, rfl, _, rfl, _, rfl, pd, ps, 3, rfl, D3, by decide, b5 (by decide) (by decide), fun l H4 x4 D4 l0 l1 => ?_⟩
      refine ⟨_, rfl, l.toNat, by omega, pd, ps, g, 0, decide (V.int q = V.int 1), ?_, D4, g1, g4, fun H5 a vn pm xs n ms x5 D5 ha dvn _ _ _ nv _ => ?_⟩
      · have : (0 : Int) + (l.toNat : Int) = l := by omega
        rw [this]
        rfl
      · refine ⟨_, _, _, _, rfl, rfl, ha, atI_nat (j := 0) rfl, two_le, fun pt hpt => ?_⟩
        have s6 := same_new (o := .tup [.int g, vn]) hpt
        exact fin _ g n l.toNat _ ((((x2.trans x3).trans x4).trans x5).trans (Xt.of s6)) (D5.same s6) (.mk2 (SqT.of upd_same) (.int g) (dvn.same s6)) g1 g4 (by omega) nv
end
end Nl

namespace Nl
open PySem PySem.Spec PyProof.Rows L2
section
variable {P : Program} {w : World} {K : PySem.W.Frag} {mg : Str → Option Value} {base : Heap}
def sp_find (K : PySem.W.Frag) : Sp := fun vs H Q _ => ∃ (v va : V) (g : Int) (n : Node) (p : List Int), vs = [v, va] ∧ DT K H v (marketD g n) ∧ DT K H va (pathD p) ∧ (find n p = none → Q .non H) ∧ (∀ m, find n p = some m → ∀ v', DT K H v' (nodeD m) → Q v' H)
theorem ok__law_find (T : Top K mg) : FnOk P w K mg base CX0 1 T.a__law_find T.d__law_find ["market", "path"] (sp_find K) := by
  refine T._law_find_F.ok sc__law_find (fun vs H Q E h => ?_) (fun cdv A outer s H vs Q E hr h => ?_)
  · obtain ⟨_, _, _, _, _, rfl, _⟩ := h
    rfl
  · obtain ⟨_, _, g, n, p, rfl, dm, dp, kN, kQ⟩ := h
    obtain ⟨m, vn, rfl, hm, dn⟩ := dm.market_inv
    obtain ⟨a, rfl, ha⟩ := dp.path_inv
    refine ⟨_, (pss_cons (ps_set (i := 2) sc__law_find.nd rfl (Or.inl rfl) (pe_ix ix_tup (pv 0) pe_int (fun _ _ => rfl)))
      (pss_cons (ps_for PassesOwn.never rfl (pi_tup (pv 1)) (pg_name (i := 3) sc__law_find.nd rfl (Or.inl rfl)) (pss_cons (ps_if (PW.pt (pw_or (pt_cmpR op_lt (pv 3) pe_int (nomark _)) (pw_or1 (pt_cmpR op_ge (pv 3) (pe_callB call_lenT (by rfl) T.n_len (by decide +kernel) (pa_cons (pe_ix ix_tup (pv 2) pe_int (fun _ _ => rfl)) pa_nil)) (nomark _))))) (pss_one (ps_ret pe_non)) pss_nil)
      (pss_one (ps_set (i := 2) sc__law_find.nd rfl (Or.inl rfl) (pe_ix ix_tup (pe_ix ix_tup (pv 2) pe_int (fun _ _ => rfl)) (pv 3) (fun _ _ => rfl))))))
      (pss_one (ps_ret (pv 2))))), ?_⟩
    refine ⟨_, rfl, _, _, _, _, rfl, rfl, hm, atI_nat (j := 1) rfl, ?_⟩
    refine ⟨_, rfl, a, rfl, ⟨_, ha⟩, for_tup (fun i σ H' => ∃ (vn : V) (m' : Node) (y : Option V), σ = [some (.ref m), some (.ref a), some vn, y] ∧ H' = H ∧ DT K H vn (nodeD m') ∧ find n p = find m' (p.drop i)) ⟨vn, n, none, rfl, rfl, dn, rfl⟩ (fun i σ H' _ ⟨_, _, _, _, e, _⟩ => e ▸ ha) ?_ ?_⟩
    · rintro i x σ H' hi ⟨vn, m', y, rfl, rfl, dk, ef⟩
      rw [List.getElem?_map] at hi
      obtain ⟨j, hj, rfl⟩ := Option.map_eq_some_iff.mp hi
      obtain ⟨c, vq, vc, rfl, hc, dq, dc⟩ := dk.node_inv
      obtain ⟨cc, xk, rfl, hcc, dks⟩ := dc.inv
      have lk : xk.length = m'.ks.length := by rw [dks.len, List.length_map]
      have il := (List.getElem?_eq_some_iff.mp hj).1
      have ed : p.drop i = j :: p.drop (i + 1) := by
        rw [List.drop_eq_getElem_cons il]
        rw [List.getElem?_eq_getElem il] at hj
        rw [Option.some.inj hj]
      have out : ¬ (0 ≤ j ∧ j < (m'.ks.length : Int)) → find n p = none := fun z => by
        rw [ef, ed]
        exact find_out z
      refine ⟨_, rfl, _, _, rfl, rfl, _, rfl, ite2 (fun e1 => iteT (kN (out fun z => ?_))) (fun e1 => ⟨_, rfl, _, rfl, _, _, _, _, rfl, rfl, hc, atI_nat (j := 1) rfl, _, _, rfl, hcc, _, _, rfl, rfl, _, rfl, ite2 (fun e2 => ?_) (fun e2 => ?_)⟩)⟩
      · have : j < 0 := of_decide_eq_true e1
        omega
      · exact kN (out fun z => by
          have : (xk.length : Int) ≤ j := of_decide_eq_true e2
          omega)
      · have j0 : ¬ j < 0 := fun z => e1 (decide_eq_true z)
        have j1 : ¬ (xk.length : Int) ≤ j := fun z => e2 (decide_eq_true z)
        obtain ⟨jn, rfl⟩ := Int.eq_ofNat_of_zero_le (show 0 ≤ j by omega)
        have hk : m'.ks[jn]? = some m'.ks[jn] := List.getElem?_eq_getElem (by omega)
        obtain ⟨xx, hxx, dxx⟩ := dks.at_ (i := jn) (d := nodeD m'.ks[jn]) (by rw [List.getElem?_map, hk]; rfl)
        refine ⟨_, rfl, _, _, _, _, rfl, rfl, hc, atI_nat (j := 1) rfl, _, rfl, _, _, _, _, rfl, rfl, hcc, atI_nat hxx, xx, _, _, rfl, rfl, dxx, ?_⟩
        rw [ef, ed, find_cons, hk]
        rfl
    · rintro σ H' ⟨vn, m', y, rfl, rfl, dk, ef⟩
      rw [List.length_map, List.drop_length] at ef
      exact ⟨_, rfl, kQ m' ef _ dk⟩
def sp_nodes (K : PySem.W.Frag) : Sp := fun vs H Q _ => ∃ (v : V) (g : Int) (n : Node), vs = [v] ∧ DT K H v (marketD g n) ∧ (pre [] n).length ≤ 200 ∧ (∀ x ∈ pre [] n, x.1.length ≤ 6) ∧ ∀ p xs H', Same H H' → H p = none → H' p = some (.lst xs) → DTs K H' xs ((pre [] n).map entD) → Q (.ref p) H'
theorem ok__law_nodes (T : Top K mg) : FnOk P w K mg base CX0 4 T.a__law_nodes T.d__law_nodes ["market"] (sp_nodes K) := by
  refine T._law_nodes_F.ok sc__law_nodes (fun vs H Q E h => ?_) (fun cdv A outer s H vs Q E hr h => ?_)
  · obtain ⟨_, _, _, rfl, _⟩ := h
    rfl
  · obtain ⟨v, g, n, rfl, dm, hn, h6, fin⟩ := h
    obtain ⟨m, vn, rfl, hm, dn⟩ := id dm.market_inv
    refine ⟨_, (pss_cons (ps_set (i := 1) sc__law_nodes.nd rfl (Or.inl rfl) (pe_lst pa_nil))
      (pss_cons (ps_set (i := 2) sc__law_nodes.nd rfl (Or.inl rfl) (pe_lst (pa_cons (pe_tup (pa_cons (pe_tup pa_nil) (pa_cons (pe_ix ix_tup (pv 0) pe_int (fun _ _ => rfl)) pa_nil))) pa_nil)))
      (pss_cons (ps_for PassesOwn.never rfl (pi_range1 rfl T.n_range (pa_cons pe_int pa_nil)) (pg_name (i := 3) sc__law_nodes.nd rfl (Or.inl rfl)) (pss_cons (ps_set (i := 1) sc__law_nodes.nd rfl (Or.inl rfl) (pe_op op_cat (pv 1) (pv 2)))
      (pss_cons (ps_set (i := 4) sc__law_nodes.nd rfl (Or.inl rfl) (pe_lst pa_nil))
      (pss_cons (ps_for PassesOwn.never rfl (pi_list (pv 2)) (pg_tup rfl (pgs_cons (pg_name (i := 5) sc__law_nodes.nd rfl (Or.inr rfl)) (pgs_cons (pg_name (i := 6) sc__law_nodes.nd rfl (Or.inr rfl)) pgs_nil))) (pss_one (ps_set (i := 4) sc__law_nodes.nd rfl (Or.inl rfl) (pe_op op_cat (pv 4) (pe_lc (own := [("k", 7)]) (g := (gName 7)) (tt := tYes) (by rfl) sc__law_nodes.nd (pi_range1 rfl T.n_range (pa_cons (pe_callB call_lenT (by rfl) T.n_len (by decide +kernel) (pa_cons (pe_ix ix_tup (pv 6) pe_int (fun _ _ => rfl)) pa_nil)) pa_nil)) (blkOk_by (own := [("k", 7)]) (N := ["market", "rows", "level", "turn", "fresh", "path", "node", "k", "row"]) (sc := defScope s__law_nodes) (by decide +kernel)) (fun _ _ _ _ _ => (pg_name (i := 7) sc__law_nodes.nd rfl (Or.inl rfl))) (fun _ _ _ _ _ => pts_nil) (fun _ _ _ _ _ => (pe_tup (pa_cons (pe_op (r := rCatP K) op_catP (pv 5) (pe_tup (pa_cons (pv 7) pa_nil))) (pa_cons (pe_ix (r := rIxT K) ix_tup (pe_ix (r := rIxT K) ix_tup (pv 6) pe_int (fun _ _ => rfl)) (pv 7) (fun _ _ => rfl)) pa_nil)))))))))
      (pss_one (ps_set (i := 2) sc__law_nodes.nd rfl (Or.inl rfl) (pv 4)))))))
      (pss_one (ps_ret (pe_lc (own := [("path", 5)]) (g := (gName 5)) (tt := tYes) (by rfl) sc__law_nodes.nd (pi_list (pe_callB (cr_sortQ (hr.mono (by decide))) (by rfl) T.n_sorted (by decide +kernel) (pa_cons (pe_lc (own := [("row", 8)]) (g := (gName 8)) (tt := tYes) (by rfl) sc__law_nodes.nd (pi_list (pv 1)) (blkOk_by (own := [("row", 8)]) (N := ["market", "rows", "level", "turn", "fresh", "path", "node", "k", "row"]) (sc := defScope s__law_nodes) (by decide +kernel)) (fun _ _ _ _ _ => (pg_name (i := 8) sc__law_nodes.nd rfl (Or.inl rfl))) (fun _ _ _ _ _ => pts_nil) (fun _ _ _ _ _ => (pe_ix (r := rIxT K) ix_tup (pv 8) pe_int (fun _ _ => rfl)))) pa_nil))) (blkOk_by (own := [("path", 5)]) (N := ["market", "rows", "level", "turn", "fresh", "path", "node", "k", "row"]) (sc := defScope s__law_nodes) (by decide +kernel)) (fun _ _ _ _ _ => (pg_name (i := 5) sc__law_nodes.nd rfl (Or.inl rfl))) (fun _ _ _ _ _ => pts_nil) (fun _ _ _ _ _ => (pe_tup (pa_cons (pv 5) (pa_cons (pe_call (ok__law_find T) (hr.mono (by decide : 1 ≤ 3)) (by rfl) T.g__law_find T._law_find_F.kp T._law_find_b .nil pass0 (pa_cons (pv 0) (pa_cons (pv 5) pa_nil))) pa_nil)))))))))), ?_⟩
    refine ⟨Nat.zero_le _, fun pr hpr => ?_⟩
    have s1 := same_new (o := .lst []) hpr
    refine ⟨Nat.zero_le _, fun pe he => ?_⟩
    have s2 := s1.trans (same_new (o := .tup []) he)
    refine ⟨_, rfl, _, _, _, _, rfl, rfl, sqt_same s2 hm, atI_nat (j := 1) rfl, two_le, fun pt ht => ⟨(by decide : 1 ≤ sizeLine), fun pl hl => ?_⟩⟩
    have s3 := s2.trans (same_new (o := .tup [.ref pe, vn]) ht)
    have s4 := s3.trans (same_new (o := .lst [.ref pt]) hl)
    have dE : DT K (upd (upd (upd (upd H pr (.lst [])) pe (.tup [])) pt (.tup [.ref pe, vn])) pl (.lst [.ref pt])) (.ref pt) (entD ([], n)) := by
      refine .mk2 (SqT.of (same_new hl _ _ upd_same)) ?_ (dn.same s4)
      exact DT.path (SqT.of (same_new hl _ _ (same_new ht _ _ upd_same)))
    have hr0 : (upd (upd (upd (upd H pr (.lst [])) pe (.tup [])) pt (.tup [.ref pe, vn])) pl (.lst [.ref pt])) pr = some (.lst []) := same_new hl _ _ (same_new ht _ _ (same_new he _ _ upd_same))
    refine ⟨7, rfl, by decide, by decide, for_range (lo := 0) (n := (7 : Int).toNat) (fun t σ H' => ∃ (pr pl : Addr) (xr xl : List V) (y3 y4 y5 y6 : Option V), σ = [some (.ref m), some (.ref pr), some (.ref pl), y3, y4, y5, y6, none, none] ∧ Same H H' ∧ H' pr = some (.lst xr) ∧ DTs K H' xr ((rowsN n t).map entD) ∧ H' pl = some (.lst xl) ∧ DTs K H' xl ((lv n t).map entD)) ⟨pr, pl, [], [.ref pt], _, _, _, _, rfl, s4, hr0, .nil, upd_same, .cons dE .nil⟩ ?_ ?_⟩
    · rintro t σ H1 ht7 ⟨pr, pl, xr, xl, y3, y4, y5, y6, rfl, sm, hpr, dxr, hpl, dxl⟩
      have lr : xr.length = (rowsN n t).length := by rw [dxr.len, List.length_map]
      have ll : xl.length = (lv n t).length := by rw [dxl.len, List.length_map]
      have b1 := rows_len n t
      have b2 := lv_le n t
      refine ⟨_, rfl, _, rfl, _, _, _, _, rfl, rfl, hpr, hpl, len1000 (by omega), fun pr2 hp2 => ?_⟩
      have s5 := same_new (o := .lst (xr ++ xl)) hp2
      refine ⟨Nat.zero_le _, fun pf hpf => ?_⟩
      have s6 := s5.trans (same_new (o := .lst []) hpf)
      have hr2 : (upd (upd H1 pr2 (.lst (xr ++ xl))) pf (.lst [])) pr2 = some (.lst (xr ++ xl)) := same_new hpf _ _ upd_same
      have hl2 := s6 _ _ hpl
      have dl2 := dxl.same s6
      have dr2 : DTs K (upd (upd H1 pr2 (.lst (xr ++ xl))) pf (.lst [])) (xr ++ xl) ((rowsN n (t + 1)).map entD) := by
        show DTs K _ _ ((rowsN n t ++ lv n t).map entD)
        rw [List.map_append]
        exact (dxr.same s6).app dl2
      have hf0 : (upd (upd H1 pr2 (.lst (xr ++ xl))) pf (.lst [])) pf = some (.lst []) := upd_same
      generalize (upd (upd H1 pr2 (.lst (xr ++ xl))) pf (.lst [])) = H2 at *
      refine ⟨_, rfl, pl, rfl, ⟨_, SqL.of hl2⟩, for_list (K := K) (a := pl) (xs := xl) (fun j σ H' => ∃ (pf : Addr) (xf : List V) (y5 y6 : Option V), σ = [some (.ref m), some (.ref pr2), some (.ref pl), some (.int (0 + (t : Int))), some (.ref pf), y5, y6, none, none] ∧ Same H2 H' ∧ H' pf = some (.lst xf) ∧ DTs K H' xf ((((lv n t).take j).flatMap kidsOf).map entD)) ⟨pf, [], _, _, rfl, Same.refl _, hf0, .nil⟩ (fun i σ H' _ ⟨_, _, _, _, _, sm', _⟩ => SqL.of (sm' _ _ hl2)) ?_ ?_⟩
      · rintro j x σ H3 hj ⟨pf, xf, y5, y6, rfl, sm3, hf3, df3⟩
        obtain ⟨d, hd, dx⟩ := dl2.get hj
        rw [List.getElem?_map] at hd
        obtain ⟨e, he, rfl⟩ := Option.map_eq_some_iff.mp hd
        have em : e ∈ pre [] n := lv_mem n t e (List.mem_of_getElem? he)
        have ke := kids_mem_le em
        have e6 := h6 e em
        obtain ⟨b, vp, vk, rfl, hb2, dp, dk⟩ := (dx.same sm3).entD_inv
        obtain ⟨c, vq, vc, rfl, hc, dq, dc⟩ := dk.node_inv
        obtain ⟨cc, xk, rfl, hcc, dks⟩ := dc.inv
        obtain ⟨ap, rfl, hap⟩ := dp.path_inv
        have lk : xk.length = e.2.ks.length := by rw [dks.len, List.length_map]
        refine ⟨_, _, rfl, hb2, rfl, _, _, rfl, _, _, rfl, rfl, ?_⟩
        refine ⟨_, rfl, _, rfl, _, _, _, _, rfl, rfl, hc, atI_nat (j := 1) rfl, _, _, rfl, hcc, (xk.length : Int), rfl, by omega, by omega, fun D hD => lc_range (lo := 0) (n := (xk.length : Int).toNat) (fun i H' => ∃ o, Same H3 H' ∧ H' D = some (.lst o) ∧ DTs K H' o (((kidsOf e).take i).map entD)) ⟨[], same_new hD, upd_same, .nil⟩ ?_ ?_⟩
        · rintro i H4 hi ⟨o, s4', hO, dO⟩
          refine ⟨rfl, ?_⟩
          dsimp only [tYes]
          rw [if_pos rfl]
          have e0 : ((0 : Int) + (i : Int)) = (i : Int) := Int.zero_add _
          have hk : e.2.ks[i]? = some e.2.ks[i] := List.getElem?_eq_getElem (by omega)
          obtain ⟨xx, hxx, dxx⟩ := dks.at_ (i := i) (d := nodeD e.2.ks[i]) (by rw [List.getElem?_map, hk]; rfl)
          refine ⟨_, rfl, _, rfl, (by decide : 1 ≤ sizeLine), fun p1 hp1 => ?_⟩
          have s5' := same_new (o := .tup [.int ((0 : Int) + (i : Int))]) hp1
          refine ⟨ap, p1, _, _, rfl, rfl, sqt_same (s4'.trans s5') hap, SqT.of upd_same, ?_, fun p2 H5 s6' hp2 => ?_⟩
          · rw [List.length_map]
            exact len1000 (show e.1.length + 1 ≤ 1000 by omega)
          have s56 := s5'.trans s6'
          refine ⟨_, rfl, _, _, _, _, rfl, rfl, sqt_same (s4'.trans s56) hc, atI_nat (j := 1) rfl, _, rfl, _, _, _, _, rfl, rfl, sqt_same (s4'.trans s56) hcc, by rw [e0]; exact atI_nat hxx, two_le, fun p3 hp3 => ?_⟩
          have s7 := same_new (o := .tup [.ref p2, xx]) hp3
          have s567 := s56.trans s7
          refine ⟨o, s567 _ _ hO, ?_, _, same_mut (s4'.trans s567) hD, upd_same, ?_⟩
          · rw [dO.len, List.length_map]
            exact Nat.lt_of_le_of_lt (List.length_take_le' _ _) (small1000 (by rw [kids_len]; omega))
          · have iD : IsL (upd H5 p3 (.tup [.ref p2, xx])) D := ⟨_, s567 _ _ hO⟩
            rw [take_next (kids_get hk), List.map_append]
            refine ((dO.same s567).xt iD Xt.upd).snoc ?_
            rw [e0] at hp2
            have hq : SqT K H5 p2 ((e.1 ++ [(i : Int)]).map V.int) := by
              rw [List.map_append]
              exact hp2
            exact DT.xt (.mk2 (SqT.of upd_same) ((DT.path hq).same s7) ((dxx.same (s4'.trans s56)).same s7)) iD Xt.upd
        · rintro H4 ⟨o, s4', hO, dO⟩
          have et : (kidsOf e).take ((xk.length : Int).toNat) = kidsOf e := List.take_of_length_le (by rw [kids_len]; omega)
          rw [et] at dO
          have hf4 := s4' _ _ hf3
          refine ⟨_, _, _, _, rfl, rfl, hf4, hO, ?_, fun p hp => ?_⟩
          · rw [df3.len, dO.len, List.length_map, List.length_map, kids_len]
            have h1 : (((lv n t).take j).flatMap kidsOf).length ≤ (lv n (t + 1)).length := by
              show _ ≤ ((lv n t).flatMap kidsOf).length
              rw [← List.take_append_drop j (lv n t), List.flatMap_append, List.length_append, List.take_append_drop]
              omega
            have h2 := lv_le n (t + 1)
            exact len1000 (by omega)
          · have s8 := same_new (o := .lst (xf ++ o)) hp
            refine ⟨p, xf ++ o, _, _, rfl, (sm3.trans s4').trans s8, upd_same, ?_⟩
            rw [take_next he, List.flatMap_append, List.map_append]
            refine ((df3.same s4').same s8).app ?_
            rw [List.flatMap_singleton]
            exact dO.same s8
      · rintro σ H3 ⟨pf, xf, y5, y6, rfl, sm3, hf3, df3⟩
        rw [ll, List.take_length] at df3
        exact ⟨_, rfl, pr2, pf, _, _, _, _, _, _, rfl, (sm.trans s6).trans sm3, sm3 _ _ hr2, dr2.same sm3, hf3, df3⟩
    · rintro σ H1 ⟨pr, pl, xr, xl, y3, y4, y5, y6, rfl, sm, hpr, dxr, hpl, dxl⟩
      have dxr : DTs K H1 xr ((rowsN n 7).map entD) := dxr
      have lr : xr.length = (rowsN n 7).length := by rw [dxr.len, List.length_map]
      have b1 := rows_len n 7
      -- [row[0] for row in rows]
      refine ⟨_, rfl, pr, rfl, ⟨_, SqL.of hpr⟩, fun D hD => lc_list (K := K) (a := pr) (xs := xr) (fun i H' => ∃ o, Same H1 H' ∧ H' D = some (.lst o) ∧ DTs K H' o ((((rowsN n 7).take i).map (·.1)).map pathD)) ⟨[], same_new hD, upd_same, .nil⟩ (fun i H' _ ⟨_, sm', _⟩ => SqL.of (sm' _ _ hpr)) ?_ ?_⟩
      · rintro i x H' hi ⟨o, sm', hO, dO⟩
        obtain ⟨d, hd, dx⟩ := dxr.get hi
        rw [List.getElem?_map] at hd
        obtain ⟨e, he, rfl⟩ := Option.map_eq_some_iff.mp hd
        obtain ⟨b, vp, vk, rfl, hb2, dp, dk⟩ := (dx.same sm').entD_inv
        refine ⟨rfl, ?_⟩
        dsimp only [tYes]
        rw [if_pos rfl]
        have iD : IsL H' D := ⟨_, hO⟩
        refine ⟨_, rfl, _, _, _, _, rfl, rfl, hb2, atI_nat (j := 0) rfl, o, hO, ?_, _, same_mut sm' hD, upd_same, ?_⟩
        · rw [dO.len, List.length_map, List.length_map]
          exact Nat.lt_of_le_of_lt (List.length_take_le' _ _) (small1000 (by omega))
        · rw [take_next he, List.map_append, List.map_append]
          exact (dO.xt iD Xt.upd).snoc (dp.xt iD Xt.upd)
      · rintro H2 ⟨o, s2, hO, dO⟩
        rw [lr, List.take_length] at dO
        refine ⟨D, o, (rowsN n 7).map (fun e : PN => e.1), rfl, SqL.of hO, dO, fun p hp => ?_, fun ys k p2 hperm hk hs hp2 => ?_⟩
        · rw [List.getElem?_map, rows_head n 6] at hp
          exact (Option.some.inj hp).symm
        have s3 := same_new (o := .lst ys) hp2
        have hy2 : (upd H2 p2 (.lst ys)) p2 = some (.lst ys) := upd_same
        have dO3 := dO.same s3
        have yk : ys.map k = (pre [] n).map (·.1) := by
          refine uniq_srt (((hperm.map k).trans (by rw [hk])).trans ((rows_all h6).symm.map _)) ?_ (paths_sorted n)
          rw [List.pairwise_map]
          exact hs
        have dy : ∀ (i : Nat) (y : V), ys[i]? = some y → DT K (upd H2 p2 (.lst ys)) y (pathD (k y)) := by
          intro i y hy
          have hm := hperm.mem_iff.mp (List.mem_of_getElem? hy)
          obtain ⟨j, hj, rfl⟩ := List.mem_iff_getElem.mp hm
          obtain ⟨d, hd, dx⟩ := dO3.get (List.getElem?_eq_getElem hj)
          rw [List.getElem?_map] at hd
          obtain ⟨q, hq, rfl⟩ := Option.map_eq_some_iff.mp hd
          have : k o[j] = q := by
            have h1 := congrArg (·[j]?) hk
            simp only [List.getElem?_map, List.getElem?_eq_getElem hj] at h1
            rw [List.getElem?_map] at hq
            rw [hq] at h1
            exact Option.some.inj h1
          rw [this]
          exact dx
        have ly : ys.length = (pre [] n).length := by
          have := congrArg List.length yk
          simpa using this
        generalize (upd H2 p2 (.lst ys)) = H3 at *
        have dm3 := dm.same ((sm.trans s2).trans s3)
        refine ⟨p2, rfl, ⟨_, SqL.of hy2⟩, fun D2 hD2 => lc_list (K := K) (a := p2) (xs := ys) (fun i H' => ∃ o, Same H3 H' ∧ H' D2 = some (.lst o) ∧ DTs K H' o (((pre [] n).take i).map entD)) ⟨[], same_new hD2, upd_same, .nil⟩ (fun i H' _ ⟨_, sm', _⟩ => SqL.of (sm' _ _ hy2)) ?_ ?_⟩
        · rintro i y H' hi ⟨o2, sm', hO2, dO2⟩
          have il := (List.getElem?_eq_some_iff.mp hi).1
          have he : (pre [] n)[i]? = some (pre [] n)[i] := List.getElem?_eq_getElem (by omega)
          have ek : k y = (pre [] n)[i].1 := by
            have h1 := congrArg (·[i]?) yk
            simp only [List.getElem?_map, hi, he] at h1
            exact Option.some.inj h1
          have dyi := dy i y hi
          rw [ek] at dyi
          obtain ⟨r, er, hf⟩ := pre_find _ ([], n) _ (Nat.le_refl _) (List.mem_of_getElem? he)
          have er' : (pre [] n)[i].1 = r := er
          rw [← er'] at hf
          refine ⟨rfl, ?_⟩
          dsimp only [tYes]
          rw [if_pos rfl]
          refine ⟨_, rfl, _, rfl, _, rfl, _, _, g, n, _, rfl, dm3.same sm', dyi.same sm', fun z => (by rw [show find n (pre [] n)[i].1 = some (pre [] n)[i].2 from hf] at z; cases z), fun m' em v' dv => ⟨two_le, fun p3 hp3 => ?_⟩⟩
          have em2 : m' = (pre [] n)[i].2 := by
            rw [show find n (pre [] n)[i].1 = some (pre [] n)[i].2 from hf] at em
            exact (Option.some.inj em).symm
          subst em2
          have s4 := same_new (o := .tup [y, v']) hp3
          have iD : IsL (upd H' p3 (.tup [y, v'])) D2 := ⟨_, s4 _ _ hO2⟩
          refine ⟨o2, s4 _ _ hO2, ?_, _, same_mut (sm'.trans s4) hD2, upd_same, ?_⟩
          · rw [dO2.len, List.length_map]
            exact Nat.lt_of_le_of_lt (List.length_take_le' _ _) (small1000 (by omega))
          · rw [take_next he, List.map_append]
            refine ((dO2.same s4).xt iD Xt.upd).snoc ?_
            exact DT.xt (.mk2 (SqT.of upd_same) ((dyi.same sm').same s4) (dv.same s4)) iD Xt.upd
        · rintro H4 ⟨o2, s4, hO2, dO2⟩
          rw [ly, List.take_length] at dO2
          refine fin D2 o2 H4 (((sm.trans s2).trans s3).trans s4) ?_ hO2 dO2
          exact (((sm.trans s2).trans s3)).free hD2
def sp_lprices (K : PySem.W.Frag) : Sp := fun vs H Q _ => ∃ (v va : V) (g : Int) (n m : Node) (p : List Int), vs = [v, va] ∧ DT K H v (marketD g n) ∧ DT K H va (pathD p) ∧ find n p = some m ∧ m.ps.length ≤ 900 ∧ ∀ v' H', Same H H' → DT K H' v' (.tuple (prD ((1, 1), (1, 1)) :: m.ps.map prD)) → Q v' H'
theorem ok__law_prices (T : Top K mg) : FnOk P w K mg base CX0 2 T.a__law_prices T.d__law_prices ["market", "path"] (sp_lprices K) := by
  refine T._law_prices_F.ok sc__law_prices (fun vs H Q E h => ?_) (fun cdv A outer s H vs Q E hr h => ?_)
  · obtain ⟨_, _, _, _, _, _, rfl, _⟩ := h
    rfl
  · obtain ⟨_, _, g, n, m, p, rfl, dm, dp, em, lm, fin⟩ := h
    refine ⟨_, (pss_one (ps_ret (pe_op op_catP (pe_tup (pa_cons (pe_tup (pa_cons (pe_tup (pa_cons pe_int (pa_cons pe_int pa_nil))) (pa_cons (pe_tup (pa_cons pe_int (pa_cons pe_int pa_nil))) pa_nil))) pa_nil)) (pe_ix ix_tup (pe_call (ok__law_find T) (hr.mono (by decide : 1 ≤ 1)) (by rfl) T.g__law_find T._law_find_F.kp T._law_find_b .nil pass0 (pa_cons (pv 0) (pa_cons (pv 1) pa_nil))) pe_int (fun _ _ => rfl))))), ?_⟩
    refine ⟨two_le, fun p1 h1 => ⟨two_le, fun p2 h2 => ⟨two_le, fun p3 h3 => ⟨(by decide : 1 ≤ sizeLine), fun p4 h4 => ?_⟩⟩⟩⟩
    have s1 := same_new (o := .tup [.int 1, .int 1]) h1
    have s2 := same_new (o := .tup [.int 1, .int 1]) h2
    have s3 := same_new (o := .tup [.ref p1, .ref p2]) h3
    have s4 := same_new (o := .tup [.ref p3]) h4
    have sm := ((s1.trans s2).trans s3).trans s4
    have dO : DT K _ (.ref p3) (prD ((1, 1), (1, 1))) := .mk2 (SqT.of (s4 _ _ upd_same)) (DT.fr (SqT.of (s4 _ _ (s3 _ _ (s2 _ _ upd_same))))) (DT.fr (SqT.of (s4 _ _ (s3 _ _ upd_same))))
    refine ⟨_, rfl, _, rfl, _, _, g, n, p, rfl, dm.same sm, dp.same sm, fun z => (by rw [em] at z; cases z), fun m' em' v' dv => ?_⟩
    rw [em] at em'
    cases em'
    obtain ⟨c, vq, vc, rfl, hc, dq, dc⟩ := dv.node_inv
    obtain ⟨b, xs, rfl, hb, hx⟩ := dq.inv
    have lx : xs.length = m.ps.length := by rw [hx.len, List.length_map]
    refine ⟨_, _, _, _, rfl, rfl, hc, atI_nat (j := 0) rfl, _, _, _, _, rfl, rfl, SqT.of upd_same, hb, ?_, fun p5 H' s5 hp5 => ?_⟩
    · rw [lx]
      exact len1000 (show 1 + m.ps.length ≤ 1000 by omega)
    · refine fin _ H' (sm.trans s5) (.tup hp5 ?_)
      exact (DTs.cons dO hx).same s5
def sp_lends (K : PySem.W.Frag) : Sp := fun vs H Q _ => ∃ (v : V) (g : Int) (n : Node), vs = [v] ∧ DT K H v (marketD g n) ∧ (pre [] n).length ≤ 200 ∧ (∀ x ∈ pre [] n, x.1.length ≤ 6) ∧ ∀ p xs H', Same H H' → H p = none → H' p = some (.lst xs) → DTs K H' xs ((endsN n).map fun e => pathD e.1) → Q (.ref p) H'
theorem ok__law_ends (T : Top K mg) : FnOk P w K mg base CX0 5 T.a__law_ends T.d__law_ends ["market"] (sp_lends K) := by
  refine T._law_ends_F.ok sc__law_ends (fun vs H Q E h => ?_) (fun cdv A outer s H vs Q E hr h => ?_)
  · obtain ⟨_, _, _, rfl, _⟩ := h
    rfl
  · obtain ⟨v, g, n, rfl, dm, hn, h6, fin⟩ := h
    refine ⟨_, (pss_one (ps_ret (pe_lc (own := [("path", 1), ("node", 2)]) (g := (gTup K 2 (gCons (gName 1) (gCons (gName 2) gNil)))) (tt := tTest (tOp rEq (tCB (rLenT K) (tCons (tOp (rIxT K) (tVar 2) (tC (.int 1))) tNil)) (tC (.int 0)))) (by rfl) sc__law_ends.nd (pi_list (pe_call (ok__law_nodes T) (hr.mono (by decide : 4 ≤ 4)) (by rfl) T.g__law_nodes T._law_nodes_F.kp T._law_nodes_b .nil pass0 (pa_cons (pv 0) pa_nil))) (blkOk_by (own := [("path", 1), ("node", 2)]) (N := ["market", "path", "node"]) (sc := defScope s__law_ends) (by decide +kernel)) (fun _ _ _ _ _ => (pg_tup rfl (pgs_cons (pg_name (i := 1) sc__law_ends.nd rfl (Or.inl rfl)) (pgs_cons (pg_name (i := 2) sc__law_ends.nd rfl (Or.inl rfl)) pgs_nil)))) (fun _ _ _ _ _ => (pts_one (pt_cmpR op_eq (pe_callB (r := rLenT K) call_lenT (by rfl) T.n_len (by decide +kernel) (pa_cons (pe_ix (r := rIxT K) ix_tup (pv 2) pe_int (fun _ _ => rfl)) pa_nil)) pe_int (nomark _)))) (fun _ _ _ _ _ => (pv 1))))), ?_⟩
    refine ⟨_, rfl, v, g, n, rfl, dm, hn, h6, fun pf xf H2 s2 hf hF dF => ?_⟩
    have lf : xf.length = (pre [] n).length := by rw [dF.len, List.length_map]
    refine ⟨pf, rfl, ⟨_, SqL.of hF⟩, fun D hD => lc_list (K := K) (a := pf) (xs := xf) (fun i H' => ∃ o, Same H2 H' ∧ H' D = some (.lst o) ∧ DTs K H' o ((((pre [] n).take i).filter fun e => e.2.ks.isEmpty).map fun e => pathD e.1)) ⟨[], same_new hD, upd_same, .nil⟩ (fun i H' _ ⟨_, sm, _⟩ => SqL.of (sm _ _ hF)) ?_ ?_⟩
    · rintro i x H' hi ⟨o, sm, hO, dO⟩
      obtain ⟨d, hd, dx⟩ := dF.get hi
      rw [List.getElem?_map] at hd
      obtain ⟨e, he, rfl⟩ := Option.map_eq_some_iff.mp hd
      obtain ⟨b, vp, vk, rfl, hb2, dp, dk⟩ := (dx.same sm).entD_inv
      obtain ⟨c, vq, vc, rfl, hc, dq, dc⟩ := dk.node_inv
      obtain ⟨cc, xk, rfl, hcc, dks⟩ := dc.inv
      have lk : xk.length = e.2.ks.length := by rw [dks.len, List.length_map]
      refine ⟨_, _, rfl, hb2, rfl, _, _, rfl, _, _, rfl, rfl, rfl, ?_⟩
      refine ⟨_, rfl, _, _, _, _, rfl, rfl, hc, atI_nat (j := 1) rfl, _, _, rfl, hcc, rfl, _, rfl, ?_⟩
      cases hz : e.2.ks.isEmpty with
      | true =>
        have l0 : xk.length = 0 := by rw [lk, List.isEmpty_iff.mp hz]; rfl
        rw [l0]
        refine iteT ⟨_, rfl, o, hO, ?_, _, same_mut sm hD, upd_same, ?_⟩
        · rw [dO.len, List.length_map]
          exact Nat.lt_of_le_of_lt (List.length_filter_le _ _) (Nat.lt_of_le_of_lt (List.length_take_le' _ _) (small1000 (by omega)))
        · rw [filter_next he, hz, List.map_append]
          have iD : IsL H' D := ⟨_, hO⟩
          exact (dO.xt iD Xt.upd).snoc (dp.xt iD Xt.upd)
      | false =>
        have l0 : xk.length ≠ 0 := fun z => by
          rw [lk] at z
          rw [List.eq_nil_of_length_eq_zero z] at hz
          cases hz
        have dn : decide (V.int (xk.length : Int) = V.int 0) = false := decide_eq_false fun z => l0 (by have := V.int.inj z; omega)
        rw [dn]
        refine iteF ⟨o, sm, hO, ?_⟩
        rw [filter_next he, hz]
        simpa using dO
    · rintro H3 ⟨o, s3, hO, dO⟩
      rw [lf, List.take_length] at dO
      exact fin D o H3 (s2.trans s3) (s2.free hD) hO dO
end
end Nl

namespace Nl
open PySem PySem.Spec PyProof.Rows L2
section
variable {P : Program} {w : World} {K : PySem.W.Frag} {mg : Str → Option Value} {base : Heap}
def sp_told (K : PySem.W.Frag) : Sp := fun vs H Q _ => ∃ (v va : V) (g : Int) (n : Node) (p : List Int) (k which : Int), vs = [.int which, v, va, .int k] ∧ Mk K H v g n ∧ DT K H va (pathD p) ∧ (which = 0 ∨ which = 1 ∨ which = 2) ∧
  (BadM g n → ∀ H', Same H H' → Q (.str "market") H') ∧ (¬ BadM g n → BigM n → ∀ H', Same H H' → Q (.str "large") H') ∧
  (which = 0 → Good g n → ∀ H', Same H H' → Q .non H') ∧
  (which = 1 → Good g n → (find n p = none ∨ ¬ (0 ≤ k ∧ k < g)) → ∀ H', Same H H' → Q (.str "moment") H') ∧
  (which = 1 → Good g n → ∀ m, find n p = some m → 0 ≤ k → k < g → ∀ v' H' d, Same H H' → (prD ((1, 1), (1, 1)) :: m.ps.map prD)[k.toNat]? = some d → DT K H' v' d → Q v' H') ∧
  (which = 2 → Good g n → find n p = none → ∀ H', Same H H' → Q (.str "moment") H') ∧
  (which = 2 → Good g n → ∀ m, find n p = some m → ∀ H', Same H H' → Q (.int (m.ks.length : Int)) H')
theorem ok__law_told (T : Top K mg) : FnOk P w K mg base CX0 5 T.a__law_told T.d__law_told ["which", "market", "path", "good"] (sp_told K) := by
  refine T._law_told_F.ok sc__law_told (fun vs H Q E h => ?_) (fun cdv A outer s H vs Q E hr h => ?_)
  · obtain ⟨_, _, _, _, _, _, _, rfl, _⟩ := h
    rfl
  · obtain ⟨v, va, g, n, p, k, which, rfl, M, dp, hw, kM, kL, k0, k1, k1v, k2, k2v⟩ := h
    refine ⟨_, (pss_cons (ps_try_as (i := 5) rfl rfl sc__law_told.nd rfl rfl ⟨rfl, by decide, .inl T.g_MarketplaceError⟩ takes0 (fun W pn xe tk _ => (pss_one (ps_if (pt_cmpR op_eq (pv 0) pe_int (nomark _)) (pss_one (ps_set (i := 4) sc__law_told.nd rfl (Or.inl rfl) (pe_callS (ok_check_market T) (hr.mono (by decide : 3 ≤ 4)) rfl T.g_check_market T.check_market_F.kp T.check_market_b (fun σ => passAt tk σ) (pa_cons (pv 1) pa_nil)))) (pss_one (ps_if (pt_cmpR op_eq (pv 0) pe_int (nomark _)) (pss_one (ps_set (i := 4) sc__law_told.nd rfl (Or.inl rfl) (pe_callS (ok_price_of T) (hr.mono (by decide : 4 ≤ 4)) rfl T.g_price_of T.price_of_F.kp T.price_of_b (fun σ => passAt tk σ) (pa_cons (pv 1) (pa_cons (pv 2) (pa_cons (pv 3) pa_nil)))))) (pss_one (ps_set (i := 4) sc__law_told.nd rfl (Or.inl rfl) (pe_callS (ok_nexts T) (hr.mono (by decide : 4 ≤ 4)) rfl T.g_nexts T.nexts_F.kp T.nexts_b (fun σ => passAt tk σ) (pa_cons (pv 1) (pa_cons (pv 2) pa_nil))))))))))
      (fun a oe cls d pn hz hf => (pss_cons (ps_set (i := 6) sc__law_told.nd rfl (Or.inl rfl) (pe_op op_add_str (pe_ifExp (pt_val (pe_hyp (p := ∃ D, cls = .ref D ∧ d = none ∧ ExcC K D) (fun z => pe_callB (r := rIsX K cls a) (call_isX z hz hf) (by rfl) T.n_isinstance (by decide +kernel) (pa_cons (pv 5) (pa_cons (pe_glob (v := .ref T.c_MarketError) (by rfl) T.g_MarketError rfl) pa_nil))))) pe_str pe_str) (pe_ifExp (pt_val (pe_hyp (p := ∃ D, cls = .ref D ∧ d = none ∧ ExcC K D) (fun z => pe_callB (r := rIsX K cls a) (call_isX z hz hf) (by rfl) T.n_isinstance (by decide +kernel) (pa_cons (pv 5) (pa_cons (pe_glob (v := .ref T.c_TooLarge) (by rfl) T.g_TooLarge rfl) pa_nil))))) pe_str pe_str)))
      (pss_one (ps_ret (pe_op op_add_str (pv 6) (pe_ifExp (pt_val (pe_hyp (p := ∃ D, cls = .ref D ∧ d = none ∧ ExcC K D) (fun z => pe_callB (r := rIsX K cls a) (call_isX z hz hf) (by rfl) T.n_isinstance (by decide +kernel) (pa_cons (pv 5) (pa_cons (pe_glob (v := .ref T.c_MomentError) (by rfl) T.g_MomentError rfl) pa_nil))))) pe_str pe_str)))))))
      (pss_one (ps_ret (pv 4)))), ?_⟩
    rcases hw with rfl | rfl | rfl
    · refine ⟨_, rfl, rfl, _, rfl, iteT ?_⟩
      refine ⟨_, rfl, v, g, n, rfl, M.d, M.b, M.l, fun z H1 s1 => ?_, fun z1 z2 H1 s1 => ?_, fun z1 z2 H1 s1 => ?_⟩
      · exact ⟨true, PySem.W.exm_ref T.b_MarketplaceError T.h_MarketplaceError T.t_MarketplaceError T.s_MarketError_MarketplaceError, fun _ x hx => ⟨⟨_, rfl, rfl, T.e_MarketError⟩, _, rfl, _, _, true, rfl, fun _ u => u, (kit_ref T.h_MarketError T.t_MarketError T.s_MarketError_MarketError T.s_MarketError_MarketError), _, rfl, iteT ⟨⟨_, rfl, rfl, T.e_MarketError⟩, _, rfl, _, _, false, rfl, fun _ u => u, (kit_ref T.h_TooLarge T.t_TooLarge T.s_MarketError_TooLarge T.s_MarketError_MarketError), _, rfl, iteF ⟨_, _, rfl, rfl, by decide, _, rfl, ⟨_, rfl, rfl, T.e_MarketError⟩, _, rfl, _, _, false, rfl, fun _ u => u, (kit_ref T.h_MomentError T.t_MomentError T.s_MarketError_MomentError T.s_MarketError_MarketError), _, rfl, iteF ⟨_, _, rfl, rfl, by decide, kM z H1 s1⟩⟩⟩⟩, fun z => nomatch z⟩
      · exact ⟨true, PySem.W.exm_ref T.b_MarketplaceError T.h_MarketplaceError T.t_MarketplaceError T.s_TooLarge_MarketplaceError, fun _ x hx => ⟨⟨_, rfl, rfl, T.e_TooLarge⟩, _, rfl, _, _, false, rfl, fun _ u => u, (kit_ref T.h_MarketError T.t_MarketError T.s_TooLarge_MarketError T.s_TooLarge_TooLarge), _, rfl, iteF ⟨⟨_, rfl, rfl, T.e_TooLarge⟩, _, rfl, _, _, true, rfl, fun _ u => u, (kit_ref T.h_TooLarge T.t_TooLarge T.s_TooLarge_TooLarge T.s_TooLarge_TooLarge), _, rfl, iteT ⟨_, _, rfl, rfl, by decide, _, rfl, ⟨_, rfl, rfl, T.e_TooLarge⟩, _, rfl, _, _, false, rfl, fun _ u => u, (kit_ref T.h_MomentError T.t_MomentError T.s_TooLarge_MomentError T.s_TooLarge_TooLarge), _, rfl, iteF ⟨_, _, rfl, rfl, by decide, kL z1 z2 H1 s1⟩⟩⟩⟩, fun z => nomatch z⟩
      · exact ⟨_, rfl, k0 rfl ⟨z1, z2⟩ H1 s1⟩
    · refine ⟨_, rfl, rfl, _, rfl, iteF ⟨_, rfl, rfl, _, rfl, iteT ?_⟩⟩
      refine ⟨_, rfl, _, rfl, _, rfl, v, va, g, n, p, k, rfl, M, dp, fun z H1 s1 => ?_, fun z1 z2 H1 s1 => ?_, fun G z H1 s1 => ?_, fun G m em h0 h1 v' H1 d s1 ed dv => ?_⟩
      · exact ⟨true, PySem.W.exm_ref T.b_MarketplaceError T.h_MarketplaceError T.t_MarketplaceError T.s_MarketError_MarketplaceError, fun _ x hx => ⟨⟨_, rfl, rfl, T.e_MarketError⟩, _, rfl, _, _, true, rfl, fun _ u => u, (kit_ref T.h_MarketError T.t_MarketError T.s_MarketError_MarketError T.s_MarketError_MarketError), _, rfl, iteT ⟨⟨_, rfl, rfl, T.e_MarketError⟩, _, rfl, _, _, false, rfl, fun _ u => u, (kit_ref T.h_TooLarge T.t_TooLarge T.s_MarketError_TooLarge T.s_MarketError_MarketError), _, rfl, iteF ⟨_, _, rfl, rfl, by decide, _, rfl, ⟨_, rfl, rfl, T.e_MarketError⟩, _, rfl, _, _, false, rfl, fun _ u => u, (kit_ref T.h_MomentError T.t_MomentError T.s_MarketError_MomentError T.s_MarketError_MarketError), _, rfl, iteF ⟨_, _, rfl, rfl, by decide, kM z H1 s1⟩⟩⟩⟩, fun z => nomatch z⟩
      · exact ⟨true, PySem.W.exm_ref T.b_MarketplaceError T.h_MarketplaceError T.t_MarketplaceError T.s_TooLarge_MarketplaceError, fun _ x hx => ⟨⟨_, rfl, rfl, T.e_TooLarge⟩, _, rfl, _, _, false, rfl, fun _ u => u, (kit_ref T.h_MarketError T.t_MarketError T.s_TooLarge_MarketError T.s_TooLarge_TooLarge), _, rfl, iteF ⟨⟨_, rfl, rfl, T.e_TooLarge⟩, _, rfl, _, _, true, rfl, fun _ u => u, (kit_ref T.h_TooLarge T.t_TooLarge T.s_TooLarge_TooLarge T.s_TooLarge_TooLarge), _, rfl, iteT ⟨_, _, rfl, rfl, by decide, _, rfl, ⟨_, rfl, rfl, T.e_TooLarge⟩, _, rfl, _, _, false, rfl, fun _ u => u, (kit_ref T.h_MomentError T.t_MomentError T.s_TooLarge_MomentError T.s_TooLarge_TooLarge), _, rfl, iteF ⟨_, _, rfl, rfl, by decide, kL z1 z2 H1 s1⟩⟩⟩⟩, fun z => nomatch z⟩
      · exact ⟨true, PySem.W.exm_ref T.b_MarketplaceError T.h_MarketplaceError T.t_MarketplaceError T.s_MomentError_MarketplaceError, fun _ x hx => ⟨⟨_, rfl, rfl, T.e_MomentError⟩, _, rfl, _, _, false, rfl, fun _ u => u, (kit_ref T.h_MarketError T.t_MarketError T.s_MomentError_MarketError T.s_MomentError_MomentError), _, rfl, iteF ⟨⟨_, rfl, rfl, T.e_MomentError⟩, _, rfl, _, _, false, rfl, fun _ u => u, (kit_ref T.h_TooLarge T.t_TooLarge T.s_MomentError_TooLarge T.s_MomentError_MomentError), _, rfl, iteF ⟨_, _, rfl, rfl, by decide, _, rfl, ⟨_, rfl, rfl, T.e_MomentError⟩, _, rfl, _, _, true, rfl, fun _ u => u, (kit_ref T.h_MomentError T.t_MomentError T.s_MomentError_MomentError T.s_MomentError_MomentError), _, rfl, iteT ⟨_, _, rfl, rfl, by decide, k1 rfl G z H1 s1⟩⟩⟩⟩, fun z => nomatch z⟩
      · exact ⟨_, rfl, k1v rfl G m em h0 h1 v' H1 d s1 ed dv⟩
    · refine ⟨_, rfl, rfl, _, rfl, iteF ⟨_, rfl, rfl, _, rfl, iteF ?_⟩⟩
      refine ⟨_, rfl, _, rfl, v, va, g, n, p, rfl, M, dp, fun z H1 s1 => ?_, fun z1 z2 H1 s1 => ?_, fun G z H1 s1 => ?_, fun G m em H1 s1 => ?_⟩
      · exact ⟨true, PySem.W.exm_ref T.b_MarketplaceError T.h_MarketplaceError T.t_MarketplaceError T.s_MarketError_MarketplaceError, fun _ x hx => ⟨⟨_, rfl, rfl, T.e_MarketError⟩, _, rfl, _, _, true, rfl, fun _ u => u, (kit_ref T.h_MarketError T.t_MarketError T.s_MarketError_MarketError T.s_MarketError_MarketError), _, rfl, iteT ⟨⟨_, rfl, rfl, T.e_MarketError⟩, _, rfl, _, _, false, rfl, fun _ u => u, (kit_ref T.h_TooLarge T.t_TooLarge T.s_MarketError_TooLarge T.s_MarketError_MarketError), _, rfl, iteF ⟨_, _, rfl, rfl, by decide, _, rfl, ⟨_, rfl, rfl, T.e_MarketError⟩, _, rfl, _, _, false, rfl, fun _ u => u, (kit_ref T.h_MomentError T.t_MomentError T.s_MarketError_MomentError T.s_MarketError_MarketError), _, rfl, iteF ⟨_, _, rfl, rfl, by decide, kM z H1 s1⟩⟩⟩⟩, fun z => nomatch z⟩
      · exact ⟨true, PySem.W.exm_ref T.b_MarketplaceError T.h_MarketplaceError T.t_MarketplaceError T.s_TooLarge_MarketplaceError, fun _ x hx => ⟨⟨_, rfl, rfl, T.e_TooLarge⟩, _, rfl, _, _, false, rfl, fun _ u => u, (kit_ref T.h_MarketError T.t_MarketError T.s_TooLarge_MarketError T.s_TooLarge_TooLarge), _, rfl, iteF ⟨⟨_, rfl, rfl, T.e_TooLarge⟩, _, rfl, _, _, true, rfl, fun _ u => u, (kit_ref T.h_TooLarge T.t_TooLarge T.s_TooLarge_TooLarge T.s_TooLarge_TooLarge), _, rfl, iteT ⟨_, _, rfl, rfl, by decide, _, rfl, ⟨_, rfl, rfl, T.e_TooLarge⟩, _, rfl, _, _, false, rfl, fun _ u => u, (kit_ref T.h_MomentError T.t_MomentError T.s_TooLarge_MomentError T.s_TooLarge_TooLarge), _, rfl, iteF ⟨_, _, rfl, rfl, by decide, kL z1 z2 H1 s1⟩⟩⟩⟩, fun z => nomatch z⟩
      · exact ⟨true, PySem.W.exm_ref T.b_MarketplaceError T.h_MarketplaceError T.t_MarketplaceError T.s_MomentError_MarketplaceError, fun _ x hx => ⟨⟨_, rfl, rfl, T.e_MomentError⟩, _, rfl, _, _, false, rfl, fun _ u => u, (kit_ref T.h_MarketError T.t_MarketError T.s_MomentError_MarketError T.s_MomentError_MomentError), _, rfl, iteF ⟨⟨_, rfl, rfl, T.e_MomentError⟩, _, rfl, _, _, false, rfl, fun _ u => u, (kit_ref T.h_TooLarge T.t_TooLarge T.s_MomentError_TooLarge T.s_MomentError_MomentError), _, rfl, iteF ⟨_, _, rfl, rfl, by decide, _, rfl, ⟨_, rfl, rfl, T.e_MomentError⟩, _, rfl, _, _, true, rfl, fun _ u => u, (kit_ref T.h_MomentError T.t_MomentError T.s_MomentError_MomentError T.s_MomentError_MomentError), _, rfl, iteT ⟨_, _, rfl, rfl, by decide, k2 rfl G z H1 s1⟩⟩⟩⟩, fun z => nomatch z⟩
      · exact ⟨_, rfl, k2v rfl G m em H1 s1⟩
end
end Nl

namespace Nl
open PySem PySem.Spec PyProof.Rows L2
section
variable {P : Program} {w : World} {K : PySem.W.Frag} {mg : Str → Option Value} {base : Heap}
def P1 (l : List Pr) : Prop := (∀ p ∈ l, PrK 1001 p) ∧ l.length ≤ 3
def P2 (l : List Pr) : Prop := (∀ p ∈ l, PrB p) ∧ l.length ≤ 4
theorem P1.up {l : List Pr} (h : P1 l) : P2 l := ⟨fun p hp => (h.1 p hp).mono (by decide), by have := h.2; omega⟩
def sp_bent (K : PySem.W.Frag) (m : Nat) : Sp := fun vs H Q _ => ∃ (pd ps : Addr) (v : V) (n : Node), vs = [.ref pd, v] ∧ Dst H pd ps ∧ DT K H v (nodeD n) ∧ HP P1 m n ∧ nsz n ≤ 100 ∧ ∀ v' n' H', Xt pd H H' → Dst H' pd ps → DT K H' v' (nodeD n') → HP P2 (m + 1) n' → nsz n' ≤ nsz n + 1 → Q v' H'
def spBPrev (K : PySem.W.Frag) : Nat → Sp
  | 0 => fun _ _ _ _ => False
  | m + 1 => sp_bent K m
theorem HP.same_ks {P Q : List Pr → Prop} (f : ∀ l, P l → Q l) {m : Nat} {n : Node} (h : HP P m n) {ps : List Pr} (hp : Q ps) : HP Q (m + 1) (.mk ps n.ks) := ⟨hp, fun k hk => by
  cases m with
  | zero =>
    rw [h.2] at hk
    cases hk
  | succ m => exact HP.up f (h.2 k hk)⟩
theorem nszs_take (ks : List Node) {i : Nat} {k : Node} (h : ks[i]? = some k) (x : Node) : nszs (ks.take i ++ [x] ++ ks.drop (i + 1)) + nsz k = nszs ks + nsz x := by
  have il := (List.getElem?_eq_some_iff.mp h).1
  have e : ks = ks.take i ++ ks.drop i := (List.take_append_drop i ks).symm
  have e2 : ks.drop i = k :: ks.drop (i + 1) := by
    rw [List.drop_eq_getElem_cons il]
    rw [List.getElem?_eq_getElem il] at h
    rw [Option.some.inj h]
  have e3 : nszs ks = nszs (ks.take i) + (nsz k + nszs (ks.drop (i + 1))) := by
    conv => lhs; rw [e, e2, nszs_app, nszs]
  rw [e3, nszs_app, nszs_app, nszs, nszs]
  omega
theorem nsz_mem {k : Node} : ∀ {ks : List Node}, k ∈ ks → nsz k ≤ nszs ks
  | [], h => by cases h
  | x :: r, h => by
    rw [nszs]
    rcases List.mem_cons.mp h with rfl | h
    · omega
    · have := nsz_mem h
      omega
theorem ok_m15 : Ok 4 (-1, 5) := ⟨⟨by decide, by decide⟩, by unfold Bd; decide, by unfold Bd; decide⟩
theorem bent_step (T : Top K mg) {k m : Nat} (hk : 4 ≤ k) (ih : FnOk P w K mg base CX0 k T.a__law_bent_node T.d__law_bent_node ["d", "node"] (spBPrev K m)) :
    FnOk P w K mg base CX0 (k + 1) T.a__law_bent_node T.d__law_bent_node ["d", "node"] (sp_bent K m) := by
  refine T._law_bent_node_F.ok sc__law_bent_node (fun vs H Q E h => ?_) (fun cdv A outer s H vs Q E hr h => ?_)
  · obtain ⟨_, _, _, _, rfl, _⟩ := h
    rfl
  · obtain ⟨pd, ps, v, n, rfl, D0, dn, hp, hz, fin⟩ := h
    obtain ⟨c, vq, vc, rfl, hc, dq, dc⟩ := dn.node_inv
    refine ⟨_, (pss_cons (ps_asg (pv 1) (pg_tup rfl (pgs_cons (pg_name (i := 2) sc__law_bent_node.nd rfl (Or.inl rfl)) (pgs_cons (pg_name (i := 3) sc__law_bent_node.nd rfl (Or.inl rfl)) pgs_nil))))
      (pss_cons (ps_set (i := 4) sc__law_bent_node.nd rfl (Or.inl rfl) (pe_call (ok__law_take T) (hr.mono (by omega)) (by rfl) T.g__law_take T._law_take_F.kp T._law_take_b .nil pass0 (pa_cons (pv 0) (pa_cons pe_int pa_nil))))
      (Evl.pss_cut (ps_if (pt_cmpR op_eq (pv 4) pe_int (nomark _)) (pss_one (ps_set (i := 2) sc__law_bent_node.nd rfl (Or.inl rfl) (pe_op op_catP (pv 2) (pe_tup (pa_cons (pe_tup (pa_cons (pe_tup (pa_cons pe_int (pa_cons pe_int pa_nil))) (pa_cons (pe_tup (pa_cons pe_int (pa_cons pe_int pa_nil))) pa_nil))) pa_nil))))) (pss_one (ps_if (pt_cmpR op_eq (pv 4) pe_int (nomark _)) (pss_one (ps_set (i := 2) sc__law_bent_node.nd rfl (Or.inl rfl) (pe_slice sl_tupP (pv 2) (po_some pe_int) po_none))) (pss_one (ps_if (PW.pt (pw_and (pt_cmpR op_eq (pv 4) pe_int (nomark _)) (pw_and1 (pt_cmpR op_gt (pe_callB call_lenT (by rfl) T.n_len (by decide +kernel) (pa_cons (pv 2) pa_nil)) pe_int (nomark _))))) (pss_one (ps_set (i := 2) sc__law_bent_node.nd rfl (Or.inl rfl) (pe_op op_catP (pe_tup (pa_cons (pe_tup (pa_cons (pe_ix ix_tup (pe_ix ix_tup (pv 2) pe_int (fun _ _ => rfl)) pe_int (fun _ _ => rfl)) (pa_cons (pe_call (ok__law_plus T) (hr.mono (by omega)) (by rfl) T.g__law_plus T._law_plus_F.kp T._law_plus_b .nil pass0 (pa_cons (pe_ix ix_tup (pe_ix ix_tup (pv 2) pe_int (fun _ _ => rfl)) pe_int (fun _ _ => rfl)) (pa_cons (pe_tup (pa_cons pe_int (pa_cons pe_int pa_nil))) pa_nil))) pa_nil))) pa_nil)) (pe_slice sl_tupP (pv 2) (po_some pe_int) po_none)))) (pss_one (ps_if (PW.pt (pw_and (pt_cmpR op_eq (pv 4) pe_int (nomark _)) (pw_and1 (pt_cmpR op_gt (pe_callB call_lenT (by rfl) T.n_len (by decide +kernel) (pa_cons (pv 2) pa_nil)) pe_int (nomark _))))) (pss_one (ps_set (i := 2) sc__law_bent_node.nd rfl (Or.inl rfl) (pe_op op_catP (pe_tup (pa_cons (pe_tup (pa_cons (pe_ix ix_tup (pe_ix ix_tup (pv 2) pe_int (fun _ _ => rfl)) pe_int (fun _ _ => rfl)) (pa_cons (pe_tup (pa_cons (pe_op op_sub pe_int pe_int) (pa_cons pe_int pa_nil))) pa_nil))) pa_nil)) (pe_slice sl_tupP (pv 2) (po_some pe_int) po_none)))) (pss_one (ps_if (pt_cmpR op_eq (pv 4) pe_int (nomark _)) (pss_one (ps_set (i := 3) sc__law_bent_node.nd rfl (Or.inl rfl) (pe_op op_catP (pv 3) (pe_tup (pa_cons (pe_tup (pa_cons (pv 2) (pa_cons (pe_tup pa_nil) pa_nil))) pa_nil))))) (pss_one (ps_if (pt_cmpR op_gt (pe_callB call_lenT (by rfl) T.n_len (by decide +kernel) (pa_cons (pv 3) pa_nil)) pe_int (nomark _)) (pss_cons (ps_set (i := 5) sc__law_bent_node.nd rfl (Or.inl rfl) (pe_call (ok__law_take T) (hr.mono (by omega)) (by rfl) T.g__law_take T._law_take_F.kp T._law_take_b .nil pass0 (pa_cons (pv 0) (pa_cons (pe_callB call_lenT (by rfl) T.n_len (by decide +kernel) (pa_cons (pv 3) pa_nil)) pa_nil))))
      (pss_one (ps_ret (pe_tup (pa_cons (pv 2) (pa_cons (pe_op op_catP (pe_op op_catP (pe_slice sl_tupP (pv 3) po_none (po_some (pv 5))) (pe_tup (pa_cons (pe_call ih (hr.mono (by omega)) (by rfl) T.g__law_bent_node T._law_bent_node_F.kp T._law_bent_node_b .nil pass0 (pa_cons (pv 0) (pa_cons (pe_ix ix_tup (pv 3) (pv 5) (fun _ _ => rfl)) pa_nil))) pa_nil))) (pe_slice sl_tupP (pv 3) (po_some (pe_op op_add (pv 5) pe_int)) po_none)) pa_nil)))))) pss_nil)))))))))))
      (pss_one (ps_ret (pe_tup (pa_cons (pv 2) (pa_cons (pv 3) pa_nil)))))))), ?_⟩
    refine ⟨_, rfl, _, _, rfl, hc, rfl, _, _, rfl, _, _, rfl, rfl, ?_⟩
    refine ⟨_, rfl, pd, ps, 6, rfl, D0, by decide, Bd.mono (k := 3) (by unfold Bd; decide) (by decide), fun r H1 x1 D1 r0 r1 => ?_⟩
    obtain ⟨b, xs, rfl, hb, hx⟩ := (dq.xt D0.isL x1).inv
    obtain ⟨cc, xk, rfl, hcc, dks⟩ := (dc.xt D0.isL x1).inv
    have lx : xs.length = n.ps.length := by rw [hx.len, List.length_map]
    have lk : xk.length = n.ks.length := by rw [dks.len, List.length_map]
    have p1 := hp.ps
    have l3 := p1.2
    have szn := nsz_eq n
    have lks : n.ks.length ≤ nszs n.ks := by
      clear hz szn lk dks fin hp
      generalize n.ks = l
      induction l with
      | nil => simp
      | cons a l ih =>
        have := nsz_eq a
        rw [nszs, List.length_cons]
        omega
    have dP : DT K H1 (.ref b) (pricesD n.ps) := .tup hb hx
    have dK : DT K H1 (.ref cc) (.tuple (n.ks.map nodeD)) := .tup hcc dks
    have retv : ∀ (vp vk : V) (ps' : List Pr) (ks' : List Node) (H2 : Hp), Xt pd H1 H2 → Dst H2 pd ps → DT K H2 vp (pricesD ps') → DT K H2 vk (.tuple (ks'.map nodeD)) → HP P2 (m + 1) (.mk ps' ks') → nszs ks' ≤ nszs n.ks + 1 → ∀ p, H2 p = none → Q (.ref p) (upd H2 p (.tup [vp, vk])) := by
      intro vp vk ps' ks' H2 x2 D2 d1 d2 hh hs p hpn
      have s3 := same_new (o := .tup [vp, vk]) hpn
      refine fin _ (.mk ps' ks') _ ((x1.trans x2).trans (Xt.of s3)) (D2.same s3) ?_ hh ?_
      · rw [nodeD_eq]
        exact .mk2 (SqT.of upd_same) (d1.same s3) (d2.same s3)
      · rw [nsz_eq, nsz_eq n]
        show 1 + nszs ks' ≤ _
        omega
    -- the ways
    refine ⟨fun σ' H2 => ∃ (vp vk : V) (y5 : Option V) (ps' : List Pr) (ks' : List Node), σ' = [some (.ref pd), some (.ref c), some vp, some vk, some (.int r), y5] ∧ Same H1 H2 ∧ DT K H2 vp (pricesD ps') ∧ DT K H2 vk (.tuple (ks'.map nodeD)) ∧ HP P2 (m + 1) (.mk ps' ks') ∧ nszs ks' ≤ nszs n.ks + 1, ?_, ?_⟩
    · have ps_way : ∀ (σ' : List (Option V)) (p : Addr) (H2 : Hp) (ps' : List Pr), Same H1 H2 → DT K H2 (.ref p) (pricesD ps') → P2 ps' → σ' = [some (.ref pd), some (.ref c), some (.ref p), some (.ref cc), some (.int r), none] → ∃ (vp vk : V) (y5 : Option V) (ps' : List Pr) (ks' : List Node), σ' = [some (.ref pd), some (.ref c), some vp, some vk, some (.int r), y5] ∧ Same H1 H2 ∧ DT K H2 vp (pricesD ps') ∧ DT K H2 vk (.tuple (ks'.map nodeD)) ∧ HP P2 (m + 1) (.mk ps' ks') ∧ nszs ks' ≤ nszs n.ks + 1 := by
        intro σ' p H2 ps' s2 d hh e
        exact ⟨_, _, _, ps', n.ks, e, s2, d, dK.same s2, HP.same_ks (fun _ h => P1.up h) hp hh, by omega⟩
      refine ⟨_, rfl, rfl, _, rfl, ite2 (fun e0 => ?_) (fun e0 => ?_)⟩
      · -- one pair more
        refine ⟨_, rfl, two_le, fun p1' h1 => ⟨two_le, fun p2 h2 => ⟨two_le, fun p3 h3 => ⟨(by decide : 1 ≤ sizeLine), fun p4 h4 => ?_⟩⟩⟩⟩
        have s1 := same_new (o := .tup [.int 1, .int 1]) h1
        have s2 := same_new (o := .tup [.int 1, .int 1]) h2
        have s3 := same_new (o := .tup [.ref p1', .ref p2]) h3
        have s4 := same_new (o := .tup [.ref p3]) h4
        have sm := ((s1.trans s2).trans s3).trans s4
        have dO : DT K _ (.ref p3) (prD ((1, 1), (1, 1))) := .mk2 (SqT.of (s4 _ _ upd_same)) (DT.fr (SqT.of (s4 _ _ (s3 _ _ (s2 _ _ upd_same))))) (DT.fr (SqT.of (s4 _ _ (s3 _ _ upd_same))))
        refine ⟨_, _, _, _, rfl, rfl, sqt_same sm hb, SqT.of upd_same, ?_, fun p5 H2 s5 hp5 => ?_⟩
        · rw [lx]
          exact len1000 (show n.ps.length + 1 ≤ 1000 by omega)
        · have one : Ok 2000 (1, 1) := Ok.mono (k := 1) ⟨⟨by decide, by decide⟩, by unfold Bd; decide, by unfold Bd; decide⟩ (by decide)
          refine ps_way _ p5 H2 (n.ps ++ [((1, 1), (1, 1))]) (sm.trans s5) (.tup hp5 ?_) ⟨fun p hp' => ?_, by simp; omega⟩ rfl
          · rw [List.map_append]
            exact ((hx.same sm).app (.cons dO .nil)).same s5
          · rcases List.mem_append.mp hp' with h | h
            · exact (p1.1 p h).mono (by decide)
            · rw [List.mem_singleton.mp h]
              exact ⟨one, one⟩
      refine ⟨_, rfl, rfl, _, rfl, ite2 (fun e1 => ?_) (fun e1 => ?_)⟩
      · -- without the first
        refine ⟨_, rfl, 1, rfl, _, _, rfl, hb, fun p5 H2 s5 hp5 => ?_⟩
        rw [show (some (1 : Int)) = some ((1 : Nat) : Int) from rfl, cut_drop] at hp5
        refine ps_way _ p5 H2 (n.ps.drop 1) s5 (.tup hp5 ?_) ⟨fun p hp' => (p1.1 p (List.mem_of_mem_drop hp')).mono (by decide), by rw [List.length_drop]; omega⟩ rfl
        rw [List.map_drop]
        exact (hx.drop 1).same s5
      have rest : ∀ (σ' : List (Option V)), σ' = [some (.ref pd), some (.ref c), some (.ref b), some (.ref cc), some (.int r), none] → ∃ (vp vk : V) (y5 : Option V) (ps' : List Pr) (ks' : List Node), σ' = [some (.ref pd), some (.ref c), some vp, some vk, some (.int r), y5] ∧ Same H1 H1 ∧ DT K H1 vp (pricesD ps') ∧ DT K H1 vk (.tuple (ks'.map nodeD)) ∧ HP P2 (m + 1) (.mk ps' ks') ∧ nszs ks' ≤ nszs n.ks + 1 := fun σ' e => ⟨_, _, _, n.ps, n.ks, e, Same.refl _, dP, dK, HP.same_ks (fun _ h => P1.up h) hp p1.up, by omega⟩
      -- the way into the kids, and nothing
      have zero : (xs.length : Int) = 0 ∨ 0 < xs.length := by omega
      have first : 0 < xs.length → ∃ p0 x0 a0 y0 y1, n.ps[0]? = some p0 ∧ xs[0]? = some x0 ∧ x0 = .ref a0 ∧ SqT K H1 a0 [y0, y1] ∧ DT K H1 y0 (frD p0.1) ∧ DT K H1 y1 (frD p0.2) ∧ PrK 1001 p0 := by
        intro h
        have h0 : n.ps[0]? = some n.ps[0] := List.getElem?_eq_getElem (by omega)
        obtain ⟨x0, hx0, dx0⟩ := hx.at_ (i := 0) (d := prD n.ps[0]) (by rw [List.getElem?_map, h0]; rfl)
        obtain ⟨a0, y0, y1, e, h1, h2, h3⟩ := dx0.inv2
        exact ⟨_, x0, a0, y0, y1, h0, hx0, e, h1, h2, h3, p1.1 _ (List.mem_of_getElem? h0)⟩
      have r2 : r = 2 ∨ r = 3 ∨ r = 4 ∨ r = 5 := by
        have z0 : r ≠ 0 := fun z => e0 (by rw [z]; exact decide_eq_true rfl)
        have z1 : r ≠ 1 := fun z => e1 (by rw [z]; exact decide_eq_true rfl)
        omega
      rcases r2 with rfl | rfl | rfl | rfl
      · refine ⟨_, rfl, rfl, _, rfl, iteT ⟨_, rfl, _, _, rfl, hb, _, _, rfl, rfl, _, rfl, ite2 (fun el => ?_) (fun el => ⟨_, rfl, rfl, _, rfl, iteF (iteF ⟨_, rfl, rfl, _, rfl, iteF ?_⟩)⟩)⟩⟩
        · have lpos : (0 : Int) < (xs.length : Int) := of_decide_eq_true el
          obtain ⟨p0, x0, a0, y0, y1, h0, hx0, rfl, ha0, dy0, dy1, pk0⟩ := first (by omega)
          have o9 : Ok 1001 (1, 9) := Ok.mono (k := 4) ⟨⟨by decide, by decide⟩, by unfold Bd; decide, by unfold Bd; decide⟩ (by decide)
          refine ⟨_, rfl, _, _, _, _, rfl, rfl, hb, atI_nat (j := 0) hx0, _, _, _, _, rfl, rfl, ha0, atI_nat (j := 1) rfl, ?_⟩
          refine ⟨_, rfl, _, _, _, _, rfl, rfl, hb, atI_nat (j := 0) hx0, _, _, _, _, rfl, rfl, ha0, atI_nat (j := 0) rfl, two_le, fun p9 h9 => ?_⟩
          have s1 := same_new (o := .tup [.int 1, .int 9]) h9
          refine ⟨_, _, p0.1, (1, 9), 1001, rfl, dy0.same s1, DT.fr (SqT.of upd_same), pk0.1, o9, by decide, fun v1 H3 s3 dv1 => ⟨two_le, fun pp hpp => ⟨(by decide : 1 ≤ sizeLine), fun pq hpq => ?_⟩⟩⟩
          have s4 := same_new (o := .tup [y1, v1]) hpp
          have s5 := same_new (o := .tup [.ref pp]) hpq
          have sm := ((s1.trans s3).trans s4).trans s5
          have dpair : DT K _ (.ref pp) (prD (p0.2, addF p0.1 (1, 9))) := .mk2 (SqT.of (s5 _ _ upd_same)) (dy1.same sm) ((dv1.same s4).same s5)
          refine ⟨_, rfl, 1, rfl, _, _, rfl, sqt_same sm hb, fun p5 H6 s6 hp5 => ?_⟩
          rw [show (some (1 : Int)) = some ((1 : Nat) : Int) from rfl, cut_drop] at hp5
          refine ⟨_, _, _, _, rfl, rfl, sqt_same s6 (SqT.of upd_same), hp5, ?_, fun p7 H7 s7 hp7 => ?_⟩
          · exact len1000 (by simp only [List.length_singleton, List.length_drop]; omega)
          · refine ps_way _ p7 H7 ((p0.2, addF p0.1 (1, 9)) :: n.ps.drop 1) ((sm.trans s6).trans s7) (.tup hp7 ?_) ⟨fun p hp' => ?_, by simp; omega⟩ rfl
            · rw [List.map_cons, List.map_drop]
              exact DTs.cons ((dpair.same s6).same s7) ((hx.drop 1).same ((sm.trans s6).trans s7))
            · rcases List.mem_cons.mp hp' with rfl | h
              · exact ⟨pk0.2.mono (by decide), Ok.mono (addF_ok pk0.1 (Ok.mono (k := 4) (m := 900) ⟨⟨by decide, by decide⟩, by unfold Bd; decide, by unfold Bd; decide⟩ (by decide)) (n := 1902) (by decide)) (by decide)⟩
              · exact (p1.1 p (List.mem_of_mem_drop h)).mono (by decide)
        · refine ⟨_, rfl, _, _, rfl, hcc, _, _, rfl, rfl, _, rfl, ite2 (fun ek => ?_) (fun ek => rest _ rfl)⟩
          have kpos : (0 : Int) < (xk.length : Int) := of_decide_eq_true ek
          refine ⟨_, rfl, _, rfl, _, _, rfl, hcc, pd, ps, _, rfl, D1, kpos, Bd.mono (k := 7) (by unfold Bd; omega) (by decide), fun q H2 x2 D2 q0 q1 => ?_⟩
          obtain ⟨j, rfl⟩ := Int.eq_ofNat_of_zero_le q0
          have hkj : n.ks[j]? = some n.ks[j] := List.getElem?_eq_getElem (by omega)
          obtain ⟨m', rfl⟩ : ∃ m', m = m' + 1 := by
            cases m with
            | zero =>
              have := hp.2
              rw [this, List.length_nil] at lk
              omega
            | succ m' => exact ⟨m', rfl⟩
          have hkid := hp.2 _ (List.mem_of_getElem? hkj)
          have hcc2 := sqt_xt D1.isL x2 hcc
          have dks2 := dks.xt D1.isL x2
          obtain ⟨xx, hxx, dxx⟩ := dks2.at_ (i := j) (d := nodeD n.ks[j]) (by rw [List.getElem?_map, hkj]; rfl)
          refine ⟨_, rfl, _, rfl, _, rfl, _, rfl, _, _, rfl, hcc2, fun pa H3 s3 hpa => ?_⟩
          rw [cut_take] at hpa
          refine ⟨_, rfl, _, rfl, _, rfl, _, _, _, _, rfl, rfl, sqt_same s3 hcc2, atI_nat hxx, pd, ps, xx, n.ks[j], rfl, D2.same s3, dxx.same s3, hkid, ?_, fun v' n' H4 x4 D4 dv' hn' hz' => ?_⟩
          · exact Nat.le_trans (nsz_mem (List.mem_of_getElem? hkj)) (by omega)
          refine ⟨(by decide : 1 ≤ sizeLine), fun pb hpb => ?_⟩
          have s5 := same_new (o := .tup [v']) hpb
          have il3 : IsL H3 pd := (D2.same s3).isL
          have hpa5 := sqt_same s5 (sqt_xt il3 x4 hpa)
          refine ⟨_, _, _, _, rfl, rfl, hpa5, SqT.of upd_same, ?_, fun pc H6 s6 hpc => ?_⟩
          · exact len1000 (by rw [List.length_take]; simp only [List.length_singleton]; omega)
          have s56 := s5.trans s6
          have hcc6 := sqt_same s56 (sqt_xt il3 x4 (sqt_same s3 hcc2))
          refine ⟨_, rfl, _, rfl, _, _, rfl, rfl, _, rfl, _, _, rfl, hcc6, fun pd2 H7 s7 hpd => ?_⟩
          rw [show ((j : Int) + 1) = ((j + 1 : Nat) : Int) from rfl, cut_drop] at hpd
          refine ⟨_, _, _, _, rfl, rfl, sqt_same s7 hpc, hpd, ?_, fun pe H8 s8 hpe => ?_⟩
          · exact len1000 (by simp only [List.length_append, List.length_take, List.length_singleton, List.length_drop]; omega)
          have s68 := (s56.trans s7).trans s8
          have x28 : Xt pd H1 H8 := ((x2.trans (Xt.of s3)).trans x4).trans (Xt.of s68)
          refine ⟨two_le, retv _ _ n.ps (n.ks.take j ++ [n'] ++ n.ks.drop (j + 1)) H8 x28 (D4.same s68) (dP.xt D1.isL x28) (.tup hpe ?_) ⟨P1.up hp.ps, fun k hk => ?_⟩ ?_⟩
          · rw [List.map_append, List.map_append, List.map_take, List.map_drop]
            have dk4 := ((dks2.same s3).xt il3 x4).same s68
            exact ((dk4.take j).app (.cons (dv'.same s68) .nil)).app (dk4.drop (j + 1))
          · rcases List.mem_append.mp hk with hk | hk
            · rcases List.mem_append.mp hk with hk | hk
              · exact HP.up (fun _ h => P1.up h) (hp.2 k (List.mem_of_mem_take hk))
              · rw [List.mem_singleton.mp hk]
                exact hn'
            · exact HP.up (fun _ h => P1.up h) (hp.2 k (List.mem_of_mem_drop hk))
          · have := nszs_take n.ks hkj n'
            omega
      · refine ⟨_, rfl, rfl, _, rfl, iteF (iteF ⟨_, rfl, rfl, _, rfl, iteT ⟨_, rfl, _, _, rfl, hb, _, _, rfl, rfl, _, rfl, ite2 (fun el => ?_) (fun el => ⟨_, rfl, rfl, _, rfl, iteF ?_⟩)⟩⟩)⟩
        · have lpos : (0 : Int) < (xs.length : Int) := of_decide_eq_true el
          obtain ⟨p0, x0, a0, y0, y1, h0, hx0, rfl, ha0, dy0, dy1, pk0⟩ := first (by omega)
          refine ⟨_, rfl, _, _, _, _, rfl, rfl, hb, atI_nat (j := 0) hx0, _, _, _, _, rfl, rfl, ha0, atI_nat (j := 0) rfl, ?_⟩
          refine ⟨_, _, rfl, rfl, two_le, fun p9 h9 => ⟨two_le, fun pp hpp => ⟨(by decide : 1 ≤ sizeLine), fun pq hpq => ?_⟩⟩⟩
          have s1 := same_new (o := .tup [.int (0 - 1), .int 5]) h9
          have s4 := same_new (o := .tup [y0, .ref p9]) hpp
          have s5 := same_new (o := .tup [.ref pp]) hpq
          have sm := (s1.trans s4).trans s5
          have dpair : DT K _ (.ref pp) (prD (p0.1, (-1, 5))) := .mk2 (SqT.of (s5 _ _ upd_same)) (dy0.same sm) (DT.fr (SqT.of (s5 _ _ (s4 _ _ upd_same))))
          refine ⟨_, rfl, 1, rfl, _, _, rfl, sqt_same sm hb, fun p5 H6 s6 hp5 => ?_⟩
          rw [show (some (1 : Int)) = some ((1 : Nat) : Int) from rfl, cut_drop] at hp5
          refine ⟨_, _, _, _, rfl, rfl, sqt_same s6 (SqT.of upd_same), hp5, ?_, fun p7 H7 s7 hp7 => ?_⟩
          · exact len1000 (by simp only [List.length_singleton, List.length_drop]; omega)
          · refine ps_way _ p7 H7 ((p0.1, (-1, 5)) :: n.ps.drop 1) ((sm.trans s6).trans s7) (.tup hp7 ?_) ⟨fun p hp' => ?_, by simp; omega⟩ rfl
            · rw [List.map_cons, List.map_drop]
              exact DTs.cons ((dpair.same s6).same s7) ((hx.drop 1).same ((sm.trans s6).trans s7))
            · rcases List.mem_cons.mp hp' with rfl | h
              · exact ⟨pk0.1.mono (by decide), ok_m15.mono (by decide)⟩
              · exact (p1.1 p (List.mem_of_mem_drop h)).mono (by decide)
        · refine ⟨_, rfl, _, _, rfl, hcc, _, _, rfl, rfl, _, rfl, ite2 (fun ek => ?_) (fun ek => rest _ rfl)⟩
          have kpos : (0 : Int) < (xk.length : Int) := of_decide_eq_true ek
          refine ⟨_, rfl, _, rfl, _, _, rfl, hcc, pd, ps, _, rfl, D1, kpos, Bd.mono (k := 7) (by unfold Bd; omega) (by decide), fun q H2 x2 D2 q0 q1 => ?_⟩
          obtain ⟨j, rfl⟩ := Int.eq_ofNat_of_zero_le q0
          have hkj : n.ks[j]? = some n.ks[j] := List.getElem?_eq_getElem (by omega)
          obtain ⟨m', rfl⟩ : ∃ m', m = m' + 1 := by
            cases m with
            | zero =>
              have := hp.2
              rw [this, List.length_nil] at lk
              omega
            | succ m' => exact ⟨m', rfl⟩
          have hkid := hp.2 _ (List.mem_of_getElem? hkj)
          have hcc2 := sqt_xt D1.isL x2 hcc
          have dks2 := dks.xt D1.isL x2
          obtain ⟨xx, hxx, dxx⟩ := dks2.at_ (i := j) (d := nodeD n.ks[j]) (by rw [List.getElem?_map, hkj]; rfl)
          refine ⟨_, rfl, _, rfl, _, rfl, _, rfl, _, _, rfl, hcc2, fun pa H3 s3 hpa => ?_⟩
          rw [cut_take] at hpa
          refine ⟨_, rfl, _, rfl, _, rfl, _, _, _, _, rfl, rfl, sqt_same s3 hcc2, atI_nat hxx, pd, ps, xx, n.ks[j], rfl, D2.same s3, dxx.same s3, hkid, ?_, fun v' n' H4 x4 D4 dv' hn' hz' => ?_⟩
          · exact Nat.le_trans (nsz_mem (List.mem_of_getElem? hkj)) (by omega)
          refine ⟨(by decide : 1 ≤ sizeLine), fun pb hpb => ?_⟩
          have s5 := same_new (o := .tup [v']) hpb
          have il3 : IsL H3 pd := (D2.same s3).isL
          have hpa5 := sqt_same s5 (sqt_xt il3 x4 hpa)
          refine ⟨_, _, _, _, rfl, rfl, hpa5, SqT.of upd_same, ?_, fun pc H6 s6 hpc => ?_⟩
          · exact len1000 (by rw [List.length_take]; simp only [List.length_singleton]; omega)
          have s56 := s5.trans s6
          have hcc6 := sqt_same s56 (sqt_xt il3 x4 (sqt_same s3 hcc2))
          refine ⟨_, rfl, _, rfl, _, _, rfl, rfl, _, rfl, _, _, rfl, hcc6, fun pd2 H7 s7 hpd => ?_⟩
          rw [show ((j : Int) + 1) = ((j + 1 : Nat) : Int) from rfl, cut_drop] at hpd
          refine ⟨_, _, _, _, rfl, rfl, sqt_same s7 hpc, hpd, ?_, fun pe H8 s8 hpe => ?_⟩
          · exact len1000 (by simp only [List.length_append, List.length_take, List.length_singleton, List.length_drop]; omega)
          have s68 := (s56.trans s7).trans s8
          have x28 : Xt pd H1 H8 := ((x2.trans (Xt.of s3)).trans x4).trans (Xt.of s68)
          refine ⟨two_le, retv _ _ n.ps (n.ks.take j ++ [n'] ++ n.ks.drop (j + 1)) H8 x28 (D4.same s68) (dP.xt D1.isL x28) (.tup hpe ?_) ⟨P1.up hp.ps, fun k hk => ?_⟩ ?_⟩
          · rw [List.map_append, List.map_append, List.map_take, List.map_drop]
            have dk4 := ((dks2.same s3).xt il3 x4).same s68
            exact ((dk4.take j).app (.cons (dv'.same s68) .nil)).app (dk4.drop (j + 1))
          · rcases List.mem_append.mp hk with hk | hk
            · rcases List.mem_append.mp hk with hk | hk
              · exact HP.up (fun _ h => P1.up h) (hp.2 k (List.mem_of_mem_take hk))
              · rw [List.mem_singleton.mp hk]
                exact hn'
            · exact HP.up (fun _ h => P1.up h) (hp.2 k (List.mem_of_mem_drop hk))
          · have := nszs_take n.ks hkj n'
            omega
      · refine ⟨_, rfl, rfl, _, rfl, iteF (iteF ⟨_, rfl, rfl, _, rfl, iteF (iteF ⟨_, rfl, rfl, _, rfl, iteT ?_⟩)⟩)⟩
        refine ⟨_, rfl, _, rfl, Nat.zero_le _, fun p1' h1 => ⟨two_le, fun p2 h2 => ⟨(by decide : 1 ≤ sizeLine), fun p3 h3 => ?_⟩⟩⟩
        have s1 := same_new (o := .tup []) h1
        have s2 := same_new (o := .tup [.ref b, .ref p1']) h2
        have s3 := same_new (o := .tup [.ref p2]) h3
        have sm := (s1.trans s2).trans s3
        have dL : DT K (upd (upd (upd H1 p1' (.tup [])) p2 (.tup [.ref b, .ref p1'])) p3 (.tup [.ref p2])) (.ref p2) (nodeD (.mk n.ps [])) := by
          rw [nodeD_eq]
          exact .mk2 (SqT.of (s3 _ _ upd_same)) (dP.same sm) (.tup (SqT.of (s3 _ _ (s2 _ _ upd_same))) .nil)
        refine ⟨_, _, _, _, rfl, rfl, sqt_same sm hcc, SqT.of upd_same, ?_, fun p5 H5 s5 hp5 => ?_⟩
        · exact len1000 (by simp only [List.length_singleton]; omega)
        · refine ⟨_, _, _, n.ps, n.ks ++ [.mk n.ps []], rfl, sm.trans s5, dP.same (sm.trans s5), .tup hp5 ?_, ⟨P1.up p1, fun k hk => ?_⟩, ?_⟩
          · rw [List.map_append]
            exact ((dks.same sm).app (.cons dL .nil)).same s5
          · rcases List.mem_append.mp hk with hk | hk
            · cases m with
              | zero =>
                rw [hp.2] at hk
                cases hk
              | succ m => exact HP.up (fun _ h => P1.up h) (hp.2 k hk)
            · rw [List.mem_singleton.mp hk]
              cases m with
              | zero => exact ⟨P1.up p1, rfl⟩
              | succ m => exact ⟨P1.up p1, fun k hk => by cases hk⟩
          · rw [nszs_app]
            show nszs n.ks + (1 + 0 + 0) ≤ _
            omega
      · refine ⟨_, rfl, rfl, _, rfl, iteF (iteF ⟨_, rfl, rfl, _, rfl, iteF (iteF ⟨_, rfl, rfl, _, rfl, iteF ?_⟩)⟩)⟩
        refine ⟨_, rfl, _, _, rfl, hcc, _, _, rfl, rfl, _, rfl, ite2 (fun ek => ?_) (fun ek => rest _ rfl)⟩
        have kpos : (0 : Int) < (xk.length : Int) := of_decide_eq_true ek
        refine ⟨_, rfl, _, rfl, _, _, rfl, hcc, pd, ps, _, rfl, D1, kpos, Bd.mono (k := 7) (by unfold Bd; omega) (by decide), fun q H2 x2 D2 q0 q1 => ?_⟩
        obtain ⟨j, rfl⟩ := Int.eq_ofNat_of_zero_le q0
        have hkj : n.ks[j]? = some n.ks[j] := List.getElem?_eq_getElem (by omega)
        obtain ⟨m', rfl⟩ : ∃ m', m = m' + 1 := by
          cases m with
          | zero =>
            have := hp.2
            rw [this, List.length_nil] at lk
            omega
          | succ m' => exact ⟨m', rfl⟩
        have hkid := hp.2 _ (List.mem_of_getElem? hkj)
        have hcc2 := sqt_xt D1.isL x2 hcc
        have dks2 := dks.xt D1.isL x2
        obtain ⟨xx, hxx, dxx⟩ := dks2.at_ (i := j) (d := nodeD n.ks[j]) (by rw [List.getElem?_map, hkj]; rfl)
        refine ⟨_, rfl, _, rfl, _, rfl, _, rfl, _, _, rfl, hcc2, fun pa H3 s3 hpa => ?_⟩
        rw [cut_take] at hpa
        refine ⟨_, rfl, _, rfl, _, rfl, _, _, _, _, rfl, rfl, sqt_same s3 hcc2, atI_nat hxx, pd, ps, xx, n.ks[j], rfl, D2.same s3, dxx.same s3, hkid, ?_, fun v' n' H4 x4 D4 dv' hn' hz' => ?_⟩
        · exact Nat.le_trans (nsz_mem (List.mem_of_getElem? hkj)) (by omega)
        refine ⟨(by decide : 1 ≤ sizeLine), fun pb hpb => ?_⟩
        have s5 := same_new (o := .tup [v']) hpb
        have il3 : IsL H3 pd := (D2.same s3).isL
        have hpa5 := sqt_same s5 (sqt_xt il3 x4 hpa)
        refine ⟨_, _, _, _, rfl, rfl, hpa5, SqT.of upd_same, ?_, fun pc H6 s6 hpc => ?_⟩
        · exact len1000 (by rw [List.length_take]; simp only [List.length_singleton]; omega)
        have s56 := s5.trans s6
        have hcc6 := sqt_same s56 (sqt_xt il3 x4 (sqt_same s3 hcc2))
        refine ⟨_, rfl, _, rfl, _, _, rfl, rfl, _, rfl, _, _, rfl, hcc6, fun pd2 H7 s7 hpd => ?_⟩
        rw [show ((j : Int) + 1) = ((j + 1 : Nat) : Int) from rfl, cut_drop] at hpd
        refine ⟨_, _, _, _, rfl, rfl, sqt_same s7 hpc, hpd, ?_, fun pe H8 s8 hpe => ?_⟩
        · exact len1000 (by simp only [List.length_append, List.length_take, List.length_singleton, List.length_drop]; omega)
        have s68 := (s56.trans s7).trans s8
        have x28 : Xt pd H1 H8 := ((x2.trans (Xt.of s3)).trans x4).trans (Xt.of s68)
        refine ⟨two_le, retv _ _ n.ps (n.ks.take j ++ [n'] ++ n.ks.drop (j + 1)) H8 x28 (D4.same s68) (dP.xt D1.isL x28) (.tup hpe ?_) ⟨P1.up hp.ps, fun k hk => ?_⟩ ?_⟩
        · rw [List.map_append, List.map_append, List.map_take, List.map_drop]
          have dk4 := ((dks2.same s3).xt il3 x4).same s68
          exact ((dk4.take j).app (.cons (dv'.same s68) .nil)).app (dk4.drop (j + 1))
        · rcases List.mem_append.mp hk with hk | hk
          · rcases List.mem_append.mp hk with hk | hk
            · exact HP.up (fun _ h => P1.up h) (hp.2 k (List.mem_of_mem_take hk))
            · rw [List.mem_singleton.mp hk]
              exact hn'
          · exact HP.up (fun _ h => P1.up h) (hp.2 k (List.mem_of_mem_drop hk))
        · have := nszs_take n.ks hkj n'
          omega
    · rintro σ' H2 ⟨vp, vk, y5, ps', ks', rfl, s2, d1, d2, hh, hs⟩
      exact ⟨_, rfl, _, rfl, two_le, retv vp vk ps' ks' H2 (Xt.of s2) (D1.same s2) d1 d2 hh hs⟩
def sp_bentA (K : PySem.W.Frag) : Sp := fun vs H Q E => ∃ m : Nat, m ≤ 2 ∧ sp_bent K m vs H Q E
theorem ok__law_bent_node (T : Top K mg) : FnOk P w K mg base CX0 9 T.a__law_bent_node T.d__law_bent_node ["d", "node"] (sp_bentA K) := by
  have z : FnOk P w K mg base CX0 6 T.a__law_bent_node T.d__law_bent_node ["d", "node"] (spBPrev K 0) := ⟨fun _ _ _ _ h => h.elim, fun _ _ _ _ _ _ _ _ _ _ _ _ _ h => h.elim⟩
  have f0 := bent_step T (k := 6) (m := 0) (by decide) z
  have f1 := bent_step T (k := 7) (m := 1) (by decide) f0
  have f2 := bent_step T (k := 8) (m := 2) (by decide) f1
  refine ⟨fun vs H Q E h => ?_, fun A outer s H args us vs Q E hr e0 hb hv h => ?_⟩
  · obtain ⟨m, _, _, _, _, _, rfl, _⟩ := h
    rfl
  · obtain ⟨m, hm, h⟩ := h
    match m, hm, h with
    | 0, _, h => exact (f0.mono (by decide)).run A outer s H args us vs Q E hr e0 hb hv h
    | 1, _, h => exact (f1.mono (by decide)).run A outer s H args us vs Q E hr e0 hb hv h
    | 2, _, h => exact f2.run A outer s H args us vs Q E hr e0 hb hv h
end
end Nl

namespace Nl
open PySem PySem.Spec PyProof.Rows L2
section
variable {P : Program} {w : World} {K : PySem.W.Frag} {mg : Str → Option Value} {base : Heap}
structure Sm (n : Node) : Prop where
  len : (pre [] n).length ≤ 200
  lens : ∀ x ∈ pre [] n, x.1.length ≤ 6
  ps : ∀ x ∈ pre [] n, (∀ p ∈ x.2.ps, PrB p) ∧ x.2.ps.length ≤ 900
def sp_due (K : PySem.W.Frag) : Sp := fun vs H Q _ => ∃ (v : V) (g : Int) (n : Node), vs = [v] ∧ DT K H v (marketD g n) ∧ Sm n ∧ 1 ≤ g ∧ g ≤ 4 ∧ (BadM g n → ∀ H', Same H H' → Q (.str "market") H') ∧ (¬ BadM g n → ∀ H', Same H H' → Q .non H')
theorem ok__law_due (T : Top K mg) : FnOk P w K mg base CX0 5 T.a__law_due T.d__law_due ["market"] (sp_due K) := by
  refine T._law_due_F.ok sc__law_due (fun vs H Q E h => ?_) (fun cdv A outer s H vs Q E hr h => ?_)
  · obtain ⟨_, _, _, rfl, _⟩ := h
    rfl
  · obtain ⟨v, g, n, rfl, dm0, S, g1, g4, kB, kN⟩ := h
    refine ⟨_, (pss_cons (ps_set (i := 1) sc__law_due.nd rfl (Or.inl rfl) (pe_lst pa_nil))
      (pss_cons (ps_for PassesOwn.never rfl (pi_list (pe_call (ok__law_nodes T) (hr.mono (by decide : 4 ≤ 4)) (by rfl) T.g__law_nodes T._law_nodes_F.kp T._law_nodes_b .nil pass0 (pa_cons (pv 0) pa_nil))) (pg_tup rfl (pgs_cons (pg_name (i := 2) sc__law_due.nd rfl (Or.inl rfl)) (pgs_cons (pg_name (i := 3) sc__law_due.nd rfl (Or.inl rfl)) pgs_nil))) (Evl.pss_cut (ps_if (PW.pt (pw_or (pt_cmpR op_ne (pe_callB call_lenT (by rfl) T.n_len (by decide +kernel) (pa_cons (pe_ix ix_tup (pv 3) pe_int (fun _ _ => rfl)) pa_nil)) (pe_op op_sub (pe_ix ix_tup (pv 0) pe_int (fun _ _ => rfl)) pe_int) (nomark _)) (pw_or1 (pt_cmpR op_gt (pe_callB call_lenL (by rfl) T.n_len (by decide +kernel) (pa_cons (pe_lc (own := [("one", 4)]) (g := (gName 4)) (tt := tOr (tTest (tOp (rI0 fun i j => .bl (decide (i < j))) (tOp (rIxT K) (tOp (rIxT K) (tVar 4) (tC (.int 1))) (tC (.int 0))) (tC (.int 0)))) (tB (tCall (sp_less K) [] E0 (tCons (tOp (rIxT K) (tVar 4) (tC (.int 0))) (tCons (tOp (rIxT K) (tVar 4) (tC (.int 1))) tNil))))) (by rfl) sc__law_due.nd (pi_tup (pe_ix ix_tup (pv 3) pe_int (fun _ _ => rfl))) (blkOk_by (own := [("one", 4)]) (N := ["market", "times", "path", "node", "one"]) (sc := defScope s__law_due) (by decide +kernel)) (fun _ _ _ _ _ => (pg_name (i := 4) sc__law_due.nd rfl (Or.inl rfl))) (fun _ _ _ _ _ => (pts_one (PW.pt (pw_or (pt_cmpR op_lt (pe_ix (r := rIxT K) ix_tup (pe_ix (r := rIxT K) ix_tup (pv 4) pe_int (fun _ _ => rfl)) pe_int (fun _ _ => rfl)) pe_int (nomark _)) (pw_or1 (pt_val (pe_call (ok__law_less T) (hr.mono (by decide : 1 ≤ 4)) (by rfl) T.g__law_less T._law_less_F.kp T._law_less_b .nil pass0 (pa_cons (pe_ix (r := rIxT K) ix_tup (pv 4) pe_int (fun _ _ => rfl)) (pa_cons (pe_ix (r := rIxT K) ix_tup (pv 4) pe_int (fun _ _ => rfl)) pa_nil))))))))) (fun _ _ _ _ _ => (pv 4))) pa_nil)) pe_int (nomark _))))) (pss_one (ps_ret pe_str)) pss_nil)
      (pss_one (ps_if (pt_cmpR op_eq (pe_callB call_lenT (by rfl) T.n_len (by decide +kernel) (pa_cons (pe_ix ix_tup (pv 3) pe_int (fun _ _ => rfl)) pa_nil)) pe_int (nomark _)) (pss_one (ps_expr (pe_bm PySem.F.plainAttrs_list PySem.F.slot_list_append PySem.F.type_list_append mt_append (pv 1) (pa_cons (pe_callB call_lenT (by rfl) T.n_len (by decide +kernel) (pa_cons (pv 2) pa_nil)) pa_nil)))) pss_nil))))
      (pss_one (ps_ret (pe_ifExp (pt_cmpR op_eq (pe_callB (cr_min rfl) (by rfl) T.n_min (by decide +kernel) (pa_cons (pv 1) pa_nil)) (pe_callB (cr_max rfl) (by rfl) T.n_max (by decide +kernel) (pa_cons (pv 1) pa_nil)) (nomark _)) pe_non pe_str))))), ?_⟩
    refine ⟨Nat.zero_le _, fun pt hpt => ?_⟩
    have s1 := same_new (o := .lst []) hpt
    have ht1 : (upd H pt (.lst [])) pt = some (.lst []) := upd_same
    generalize (upd H pt (.lst [])) = H1 at *
    have dm := dm0.same s1
    refine ⟨_, rfl, v, g, n, rfl, dm, S.len, S.lens, fun pf xf H2 s2 hf hF dF => ?_⟩
    obtain ⟨m, vn, rfl, hm, dn⟩ := id (dm.same s2).market_inv
    have npt : pf ≠ pt := fun z => by
      rw [z, ht1] at hf
      cases hf
    have ht2 := s2 _ _ ht1
    have lf : xf.length = (pre [] n).length := by rw [dF.len, List.length_map]
    have il2 : IsL H2 pt := ⟨_, ht2⟩
    refine ⟨pf, rfl, ⟨_, SqL.of hF⟩, for_list (K := K) (a := pf) (xs := xf) (fun i σ H' => ∃ (y2 y3 : Option V) (ts : List Nat), σ = [some (.ref m), some (.ref pt), y2, y3, none] ∧ Same H H' ∧ Xt pt H2 H' ∧ H' pt = some (.lst (ts.map fun a : Nat => V.int (a : Int))) ∧ ts = (((pre [] n).take i).filter fun e => e.2.ks.isEmpty).map (fun e => e.1.length) ∧ ∀ e ∈ (pre [] n).take i, ¬ badPs g e.2.ps) ⟨none, none, [], rfl, s1.trans s2, Xt.refl _, ht2, rfl, fun e he => by simp at he⟩ (fun i σ H' _ ⟨_, _, _, _, _, x, _⟩ => SqL.of (x _ _ npt hF)) ?_ ?_⟩
    · rintro i x σ H3 hi ⟨y2, y3, ts, rfl, sm, x3, ht3, ets, hg⟩
      obtain ⟨d, hd, dx⟩ := dF.get hi
      rw [List.getElem?_map] at hd
      obtain ⟨e, he, rfl⟩ := Option.map_eq_some_iff.mp hd
      have em := List.mem_of_getElem? he
      have Sp := S.ps e em
      obtain ⟨b, vp, vk, rfl, hb2, dp, dk⟩ := (dx.xt il2 x3).entD_inv
      obtain ⟨c, vq, vc, rfl, hc, dq, dc⟩ := dk.node_inv
      obtain ⟨qa, xq, rfl, hqa, dqs⟩ := dq.inv
      obtain ⟨cc, xk, rfl, hcc, dks⟩ := dc.inv
      obtain ⟨ap, rfl, hap⟩ := dp.path_inv
      have lq : xq.length = e.2.ps.length := by rw [dqs.len, List.length_map]
      have lk : xk.length = e.2.ks.length := by rw [dks.len, List.length_map]
      have hm3 := sqt_xt il2 x3 hm
      have il3 : IsL H3 pt := ⟨_, ht3⟩
      refine ⟨_, _, rfl, hb2, rfl, _, _, rfl, _, _, rfl, rfl, ?_⟩
      refine ⟨fun σ' H4 => ¬ badPs g e.2.ps ∧ σ' = [some (.ref m), some (.ref pt), some (.ref ap), some (.ref c), none] ∧ Same H3 H4, ?_, ?_⟩
      · refine ⟨_, rfl, _, _, _, _, rfl, rfl, hc, atI_nat (j := 0) rfl, _, _, rfl, hqa, _, rfl, _, _, _, _, rfl, rfl, hm3, atI_nat (j := 0) rfl, _, _, rfl, rfl, rfl, _, rfl, ite2 (fun e1 => iteT (kB (.inr (.inl ⟨e, em, .inl fun z => ?_⟩)) H3 sm)) (fun e1 => ?_)⟩
        · rw [lq, z] at e1
          simp at e1
        · have hl : (e.2.ps.length : Int) = g - 1 := by
            rw [lq] at e1
            simpa using e1
          refine ⟨_, rfl, _, _, _, _, rfl, rfl, hc, atI_nat (j := 0) rfl, qa, rfl, ⟨_, hqa⟩, fun D hD => lc_tup (K := K) (a := qa) (xs := xq) (fun i H' => ∃ o, Same H3 H' ∧ H' D = some (.lst o) ∧ (o = [] ↔ ∀ p ∈ e.2.ps.take i, ¬ badPr p) ∧ o.length ≤ i) ⟨[], same_new hD, upd_same, by simp, Nat.le_refl _⟩ (fun i H' _ ⟨_, sm', _⟩ => sqt_same sm' hqa) ?_ ?_⟩
          · rintro j y H' hj ⟨o, sm', hO, eo, lo⟩
            obtain ⟨d2, hd2, dy⟩ := dqs.get hj
            rw [List.getElem?_map] at hd2
            obtain ⟨p, hp, rfl⟩ := Option.map_eq_some_iff.mp hd2
            have pb := Sp.1 p (List.mem_of_getElem? hp)
            have jl := (List.getElem?_eq_some_iff.mp hp).1
            obtain ⟨ya, y0, y1, rfl, hya, dy0, dy1⟩ := (dy.same sm').inv2
            obtain ⟨z1, rfl, hz1⟩ := dy1.fr_inv
            have size : o.length < sizeLine := small1000 (by omega)
            have bad : badPr p → ∃ o', Same H3 (upd H' D (.lst (o ++ [.ref ya]))) ∧ (upd H' D (.lst (o ++ [.ref ya]))) D = some (.lst o') ∧ (o' = [] ↔ ∀ p ∈ e.2.ps.take (j + 1), ¬ badPr p) ∧ o'.length ≤ j + 1 := fun hbad => ⟨_, same_mut sm' hD, upd_same, ⟨fun z => by simp at z, fun z => (z p (by rw [take_next hp]; simp) hbad).elim⟩, by simp; omega⟩
            refine ⟨rfl, ?_⟩
            refine ⟨_, rfl, _, _, _, _, rfl, rfl, hya, atI_nat (j := 1) rfl, _, _, _, _, rfl, rfl, hz1, atI_nat (j := 0) rfl, _, _, rfl, rfl, _, rfl, ?_⟩
            by_cases c1 : p.2.1 < 0
            · exact if_true_of' (decide_eq_true c1) (iteT ⟨_, rfl, o, hO, size, bad ((bad_iff p).mpr (.inl c1))⟩)
            · refine if_false_of' (decide_eq_false c1) ⟨_, rfl, _, _, _, _, rfl, rfl, hya, atI_nat (j := 0) rfl, _, rfl, _, _, _, _, rfl, rfl, hya, atI_nat (j := 1) rfl, _, _, p.1, p.2, rfl, dy0, DT.fr hz1, FB.of pb.1 (by decide), FB.of pb.2 (by decide), _, rfl, ?_⟩
              by_cases c2 : p.1.1 * p.2.2 < p.2.1 * p.1.2
              · exact if_true_of' (decide_eq_true c2) ⟨_, rfl, o, hO, size, bad ((bad_iff p).mpr (.inr c2))⟩
              · refine if_false_of' (decide_eq_false c2) ⟨o, sm', hO, ?_, by omega⟩
                rw [eo, take_next hp]
                have nb : ¬ badPr p := fun z => ((bad_iff p).mp z).elim c1 c2
                constructor
                · intro h q hq
                  rcases List.mem_append.mp hq with hq | hq
                  · exact h q hq
                  · rw [List.mem_singleton.mp hq]
                    exact nb
                · intro h q hq
                  exact h q (List.mem_append_left _ hq)
          · rintro H4 ⟨o, s4, hO, eo, lo⟩
            rw [lq, List.take_length] at eo
            refine ⟨D, o, rfl, SqL.of hO, _, _, rfl, rfl, _, rfl, ite2 (fun e2 => ?_) (fun e2 => ?_)⟩
            · have ol : (0 : Int) < (o.length : Int) := of_decide_eq_true e2
              refine kB (.inr (.inl ⟨e, em, .inr ?_⟩)) H4 (sm.trans s4)
              have ne : ¬ ∀ p ∈ e.2.ps, ¬ badPr p := fun z => by
                rw [eo.mpr z] at ol
                simp at ol
              exact Classical.byContradiction fun z => ne fun p hp hb => z ⟨p, hp, hb⟩
            · have ol : ¬ (0 : Int) < (o.length : Int) := fun z => e2 (decide_eq_true z)
              have oe : o = [] := List.eq_nil_of_length_eq_zero (by omega)
              refine ⟨?_, rfl, s4⟩
              rintro (z | ⟨p, hp, hb⟩)
              · exact z hl
              · exact eo.mp oe p hp hb
      · rintro σ' H4 ⟨nb, rfl, s4⟩
        have x24 := x3.trans (Xt.of s4)
        have ht4 := s4 _ _ ht3
        have il4 : IsL H4 pt := ⟨_, ht4⟩
        have bad' : ∀ e' ∈ (pre [] n).take (i + 1), ¬ badPs g e'.2.ps := fun q hq => by
          rw [take_next he] at hq
          rcases List.mem_append.mp hq with hq | hq
          · exact hg q hq
          · rw [List.mem_singleton.mp hq]
            exact nb
        refine ⟨_, rfl, _, _, _, _, rfl, rfl, sqt_same s4 hc, atI_nat (j := 1) rfl, _, _, rfl, sqt_same s4 hcc, rfl, _, rfl, ?_⟩
        cases hz : e.2.ks.isEmpty with
        | true =>
          have l0 : xk.length = 0 := by rw [lk, List.isEmpty_iff.mp hz]; rfl
          rw [l0]
          refine iteT ⟨_, rfl, .inl ⟨rfl, _, SqL.of ht4⟩, _, rfl, _, _, rfl, sqt_same s4 hap, _, _, _, rfl, rfl, ht4, ?_, ?_⟩
          · rw [List.length_map, ets, List.length_map]
            exact Nat.lt_of_le_of_lt (List.length_filter_le _ _) (Nat.lt_of_le_of_lt (List.length_take_le' _ _) (small1000 (by have := S.len; omega)))
          · refine ⟨_, _, ts ++ [e.1.length], rfl, same_mut (sm.trans s4) hpt, x24.trans Xt.upd, ?_, ?_, bad'⟩
            · rw [upd_same, List.map_append, List.length_map]
              rfl
            · rw [filter_next he, hz, ets]
              simp
        | false =>
          have l0 : xk.length ≠ 0 := fun z => by
            rw [lk] at z
            rw [List.eq_nil_of_length_eq_zero z] at hz
            cases hz
          have dn' : decide (V.int (xk.length : Int) = V.int 0) = false := decide_eq_false fun z => l0 (by have := V.int.inj z; omega)
          rw [dn']
          refine iteF ⟨_, _, ts, rfl, sm.trans s4, x24, ht4, ?_, bad'⟩
          rw [filter_next he, hz, ets]
          simp
    · rintro σ H3 ⟨y2, y3, ts, rfl, sm, x3, ht3, ets, hg⟩
      rw [lf, List.take_length] at ets hg
      have ets : ts = endLens n := ets
      subst ets
      have lp : 0 < ((endLens n).map fun a : Nat => (a : Int)).length := by
        rw [List.length_map]
        exact ends_pos n
      have hO : H3 pt = some (.lst (((endLens n).map fun a : Nat => (a : Int)).map V.int)) := by
        rw [ht3, List.map_map]
        rfl
      refine ⟨_, rfl, pt, _, rfl, SqL.of hO, lp, fun lo hlo hlo2 => ⟨_, rfl, pt, _, rfl, SqL.of hO, lp, fun hi hhi hhi2 => ?_⟩⟩
      obtain ⟨la, hla, rfl⟩ := List.mem_map.mp hlo
      obtain ⟨lb, hlb, rfl⟩ := List.mem_map.mp hhi
      have same_iff : la = lb ↔ ∀ a ∈ endLens n, ∀ b ∈ endLens n, a = b := by
        constructor
        · intro e a ha b hb
          have h1 := hlo2 _ (List.mem_map.mpr ⟨a, ha, rfl⟩)
          have h2 := hhi2 _ (List.mem_map.mpr ⟨a, ha, rfl⟩)
          have h3 := hlo2 _ (List.mem_map.mpr ⟨b, hb, rfl⟩)
          have h4 := hhi2 _ (List.mem_map.mpr ⟨b, hb, rfl⟩)
          omega
        · exact fun h => h la hla lb hlb
      refine ⟨rfl, _, rfl, ite2 (fun e => ?_) (fun e => ?_)⟩
      · have heq : la = lb := by
          have : (V.int (la : Int)) = V.int (lb : Int) := of_decide_eq_true e
          have := V.int.inj this
          omega
        refine kN ?_ H3 sm
        rintro (z | ⟨e, he, z⟩ | ⟨a, ha, b, hb', z⟩)
        · exact z ⟨g1, g4⟩
        · exact hg e he z
        · exact z (same_iff.mp heq a ha b hb')
      · have hne : la ≠ lb := fun z => by
          rw [z] at e
          simp at e
        exact kB (.inr (.inr ⟨la, hla, lb, hlb, hne⟩)) H3 sm
end
end Nl

namespace Nl
open PySem PySem.Spec PyProof.Rows L2
def Sh (k : Nat) (d : PyData) : Prop := d.canLay0 = true ∧ d.depth ≤ k
theorem Sh.shaped {k : Nat} {d : PyData} (h : Sh k d) (hk : k ≤ 64 := by decide) : SeqAt.shaped d = true := by
  unfold SeqAt.shaped
  rw [h.1, decide_eq_true (Nat.le_trans h.2 hk)]
  rfl
theorem Sh.int {i : Int} {k : Nat} : Sh k (.int i) := ⟨rfl, Nat.zero_le _⟩
theorem Sh.non {k : Nat} : Sh k .none := ⟨rfl, Nat.zero_le _⟩
theorem sh_all {k : Nat} : ∀ {ds : List PyData}, (∀ d ∈ ds, Sh k d) → PyData.canLayAll0 ds = true ∧ PyData.depthAll ds ≤ k
  | [], _ => ⟨rfl, Nat.zero_le _⟩
  | d :: ds, h => by
    have h1 := h d (by simp)
    have h2 := sh_all (ds := ds) fun x hx => h x (List.mem_cons_of_mem _ hx)
    refine ⟨?_, ?_⟩
    · rw [PyData.canLayAll0, h1.1, h2.1]
      rfl
    · rw [PyData.depthAll]
      exact Nat.max_le.mpr ⟨h1.2, h2.2⟩
theorem Sh.tup {k : Nat} {ds : List PyData} (h : ∀ d ∈ ds, Sh k d) : Sh (k + 1) (.tuple ds) := by
  obtain ⟨h1, h2⟩ := sh_all h
  refine ⟨?_, ?_⟩
  · rw [PyData.canLay0]
    exact h1
  · rw [PyData.depth]
    omega
theorem Sh.ne {k : Nat} {d : PyData} (h : Sh k d) : (!PyData.eqv d d) = false := by
  rw [SeqAt.eqv_refl d h.1]
  rfl
theorem Sh.eq {k : Nat} {d : PyData} (h : Sh k d) : PyData.eqv d d = true := SeqAt.eqv_refl d h.1
theorem sh_path (p : List Int) : Sh 1 (pathD p) := Sh.tup (k := 0) fun d hd => by
  obtain ⟨i, _, rfl⟩ := List.mem_map.mp hd
  exact .int
theorem sh_fr (q : Int × Int) : Sh 1 (frD q) := Sh.tup (k := 0) fun d hd => by
  rcases List.mem_cons.mp hd with rfl | hd
  · exact .int
  · rw [List.mem_singleton.mp hd]
    exact .int
theorem sh_pr (p : Pr) : Sh 2 (prD p) := Sh.tup (k := 1) fun d hd => by
  rcases List.mem_cons.mp hd with rfl | hd
  · exact sh_fr _
  · rw [List.mem_singleton.mp hd]
    exact sh_fr _
theorem sh_paths {α : Type} (l : List α) (f : α → List Int) : Sh 2 (.tuple (l.map fun e => pathD (f e))) := Sh.tup (k := 1) fun d hd => by
  obtain ⟨e, _, rfl⟩ := List.mem_map.mp hd
  exact sh_path _
/-! ### nodes all of whose ends have one time -/
def UD : Nat → Node → Prop
  | 0, n => n.ks = []
  | m + 1, n => n.ks ≠ [] ∧ ∀ k ∈ n.ks, UD m k
theorem ud_ends : ∀ (m : Nat) (e : PN), UD m e.2 → ∀ x ∈ preE e, x.2.ks = [] → x.1.length = e.1.length + m
  | 0, e, h, x, hx, _ => by
    have hk : kidsOf e = [] := by
      unfold kidsOf
      rw [show e.2.ks = [] from h]
      rfl
    rw [preE_eq, hk] at hx
    simp at hx
    subst hx
    rfl
  | m + 1, e, h, x, hx, hz => by
    rw [preE_eq] at hx
    rcases List.mem_cons.mp hx with rfl | hx
    · exact (h.1 hz).elim
    · obtain ⟨k, hk, hx⟩ := List.mem_flatMap.mp hx
      obtain ⟨i, hi, rfl⟩ := List.mem_mapIdx.mp hk
      have := ud_ends m (e.1 ++ [(i : Int)], e.2.ks[i]) (h.2 _ (List.getElem_mem hi)) x hx hz
      simp only [List.length_append, List.length_singleton] at this
      omega
theorem ud_lens {m : Nat} {n : Node} (h : UD m n) : ∀ a ∈ endLens n, a = m := by
  intro x hx
  obtain ⟨e, he, rfl⟩ := List.mem_map.mp hx
  obtain ⟨he1, he2⟩ := List.mem_filter.mp he
  have := ud_ends m ([], n) h e he1 (List.isEmpty_iff.mp he2)
  simpa using this
/-- nodes without goods -/
theorem bare_ok {m : Nat} {n : Node} (h : HP (fun l => l = []) m n) (u : UD m n) : ¬ BadM 1 n := by
  rintro (z | ⟨e, he, z⟩ | ⟨x, hx, y, hy, z⟩)
  · exact z (by decide)
  · have := (HP.pre (e := ([], n)) h e he).1
    rw [this] at z
    rcases z with z | ⟨p, hp, _⟩
    · simp at z
    · cases hp
  · exact z ((ud_lens u x hx).trans (ud_lens u y hy).symm)
theorem bare_small {m : Nat} {n : Node} (u : UD m n) (hs : nsz n ≤ 40) (hm : m ≤ 5) : ¬ BigM n := by
  rintro (z | ⟨x, hx, z⟩)
  · rw [pre_nsz] at z
    omega
  · have := ud_lens u x hx
    omega
theorem bare_b {m : Nat} {n : Node} (h : HP (fun l => l = []) m n) : NodeB n := fun e he p hp => by
  have := (HP.pre (e := ([], n)) h e he).1
  rw [this] at hp
  cases hp
theorem big_count {n : Node} (h : 40 < nsz n) : BigM n := .inl (by rw [pre_nsz]; exact h)
theorem big_time {m : Nat} {n : Node} (u : UD m n) (h : 5 < m) : BigM n := by
  have hp := ends_pos n
  refine .inr ⟨(endLens n)[0], List.getElem_mem hp, ?_⟩
  rw [ud_lens u _ (List.getElem_mem hp)]
  exact h
def rowN : Nat → Node
  | 0 => .mk [] []
  | k + 1 => .mk [] [rowN k]
theorem row_hp : ∀ k, HP (fun l => l = []) k (rowN k)
  | 0 => ⟨rfl, rfl⟩
  | k + 1 => ⟨rfl, fun x hx => by rw [List.mem_singleton.mp hx]; exact row_hp k⟩
theorem row_ud : ∀ k, UD k (rowN k)
  | 0 => rfl
  | k + 1 => ⟨(by intro h; cases h), fun x hx => (by rw [List.mem_singleton.mp hx]; exact row_ud k)⟩
theorem row_sz : ∀ k, nsz (rowN k) = k + 1
  | 0 => rfl
  | k + 1 => by
    rw [rowN, nsz, nszs, nszs, row_sz k]
    omega
def wideN (k : Nat) : Node := .mk [] (List.replicate k (rowN 0))
theorem wide_hp (k : Nat) : HP (fun l => l = []) 1 (wideN k) := ⟨rfl, fun x hx => by rw [(List.mem_replicate.mp hx).2]; exact row_hp 0⟩
theorem wide_ud {k : Nat} (h : 0 < k) : UD 1 (wideN k) := ⟨fun z => by
  have : (List.replicate k (rowN 0)).length = 0 := by rw [show List.replicate k (rowN 0) = [] from z]; rfl
  rw [List.length_replicate] at this
  omega, fun x hx => by rw [(List.mem_replicate.mp hx).2]; exact row_ud 0⟩
theorem wide_sz (k : Nat) : nsz (wideN k) = k + 1 := by
  have : ∀ k, nszs (List.replicate k (rowN 0)) = k := by
    intro k
    induction k with
    | zero => rfl
    | succ k ih => rw [List.replicate_succ, nszs, ih]; show 1 + k = k + 1; omega
  rw [wideN, nsz, this]
  omega
theorem find_neg (n : Node) : find n [-1] = none := find_out fun z => by omega
theorem find_end {n m : Node} {p : List Int} (h : find n p = some m) : find n (p ++ [(m.ks.length : Int)]) = none := by
  rw [find_app p _ n m h]
  exact find_out fun z => by omega
end Nl

namespace Nl
open PySem PySem.Spec PyProof.Rows L2
section
variable {K : PySem.W.Frag} {H : Hp} {v va : V} {g k : Int} {n : Node} {p : List Int} {Q : VK} {E : XK}
theorem told0 (M : Mk K H v g n) (G : Good g n) (dp : DT K H va (pathD p)) (q : ∀ H', Same H H' → Q .non H') : sp_told K [.int 0, v, va, .int k] H Q E :=
  ⟨v, va, g, n, p, k, 0, rfl, M, dp, .inl rfl, fun z => (G.1 z).elim, fun _ z => (G.2 z).elim, fun _ _ => q, fun z => absurd z (by decide), fun z => absurd z (by decide), fun z => absurd z (by decide), fun z => absurd z (by decide)⟩
theorem told1m (M : Mk K H v g n) (G : Good g n) (dp : DT K H va (pathD p)) (h : find n p = none ∨ ¬ (0 ≤ k ∧ k < g)) (q : ∀ H', Same H H' → Q (.str "moment") H') : sp_told K [.int 1, v, va, .int k] H Q E :=
  ⟨v, va, g, n, p, k, 1, rfl, M, dp, .inr (.inl rfl), fun z => (G.1 z).elim, fun _ z => (G.2 z).elim, fun z => absurd z (by decide), fun _ _ _ => q, fun _ _ m em k0 k1 => (h.elim (fun z => by rw [em] at z; cases z) fun z => (z ⟨k0, k1⟩).elim), fun z => absurd z (by decide), fun z => absurd z (by decide)⟩
theorem told1v {m : Node} (M : Mk K H v g n) (G : Good g n) (dp : DT K H va (pathD p)) (em : find n p = some m) (k0 : 0 ≤ k) (k1 : k < g) (q : ∀ v' H' d, Same H H' → (prD ((1, 1), (1, 1)) :: m.ps.map prD)[k.toNat]? = some d → DT K H' v' d → Q v' H') : sp_told K [.int 1, v, va, .int k] H Q E :=
  ⟨v, va, g, n, p, k, 1, rfl, M, dp, .inr (.inl rfl), fun z => (G.1 z).elim, fun _ z => (G.2 z).elim, fun z => absurd z (by decide), fun _ _ z => (z.elim (fun z => by rw [em] at z; cases z) fun z => (z ⟨k0, k1⟩).elim), fun _ _ m' em' _ _ => by rw [em] at em'; cases em'; exact q, fun z => absurd z (by decide), fun z => absurd z (by decide)⟩
theorem told2m (M : Mk K H v g n) (G : Good g n) (dp : DT K H va (pathD p)) (h : find n p = none) (q : ∀ H', Same H H' → Q (.str "moment") H') : sp_told K [.int 2, v, va, .int k] H Q E :=
  ⟨v, va, g, n, p, k, 2, rfl, M, dp, .inr (.inr rfl), fun z => (G.1 z).elim, fun _ z => (G.2 z).elim, fun z => absurd z (by decide), fun z => absurd z (by decide), fun z => absurd z (by decide), fun _ _ _ => q, fun _ _ m em => by rw [h] at em; cases em⟩
theorem told2v {m : Node} (M : Mk K H v g n) (G : Good g n) (dp : DT K H va (pathD p)) (em : find n p = some m) (q : ∀ H', Same H H' → Q (.int (m.ks.length : Int)) H') : sp_told K [.int 2, v, va, .int k] H Q E :=
  ⟨v, va, g, n, p, k, 2, rfl, M, dp, .inr (.inr rfl), fun z => (G.1 z).elim, fun _ z => (G.2 z).elim, fun z => absurd z (by decide), fun z => absurd z (by decide), fun z => absurd z (by decide), fun _ _ z => (by rw [em] at z; cases z), fun _ _ m' em' => by rw [em] at em'; cases em'; exact q⟩
theorem toldB {w : Int} (hw : w = 0 ∨ w = 1 ∨ w = 2) (M : Mk K H v g n) (B : BadM g n) (dp : DT K H va (pathD p)) (q : ∀ H', Same H H' → Q (.str "market") H') : sp_told K [.int w, v, va, .int k] H Q E :=
  ⟨v, va, g, n, p, k, w, rfl, M, dp, hw, fun _ => q, fun z => (z B).elim, fun _ G => (G.1 B).elim, fun _ G => (G.1 B).elim, fun _ G => (G.1 B).elim, fun _ G => (G.1 B).elim, fun _ G => (G.1 B).elim⟩
theorem toldL {w : Int} (hw : w = 0 ∨ w = 1 ∨ w = 2) (M : Mk K H v g n) (B : ¬ BadM g n) (L : BigM n) (dp : DT K H va (pathD p)) (q : ∀ H', Same H H' → Q (.str "large") H') : sp_told K [.int w, v, va, .int k] H Q E :=
  ⟨v, va, g, n, p, k, w, rfl, M, dp, hw, fun z => (B z).elim, fun _ _ => q, fun _ G => (G.2 L).elim, fun _ G => (G.2 L).elim, fun _ G => (G.2 L).elim, fun _ G => (G.2 L).elim, fun _ G => (G.2 L).elim⟩
theorem reps {x : V} {n : Node} (h : DT K H x (nodeD n)) : ∀ k : Nat, DTs K H (List.replicate k [x]).flatten ((List.replicate k n).map nodeD)
  | 0 => .nil
  | k + 1 => .cons h (reps h k)
theorem DT.path0 {a : Addr} (h : H a = some (.tup [])) : DT K H (.ref a) (pathD []) := DT.path (SqT.of h)
end
section
variable {P : Program} {w : World} {K : PySem.W.Frag} {mg : Str → Option Value} {base : Heap}
def sp_law (K : PySem.W.Frag) : Sp := fun vs H Q _ => ∃ (a : Addr) (ns : List Int), vs = [.ref a] ∧ SqL K H a (ns.map V.int) ∧ ns.length ≤ 63 ∧ ∀ H', Q (.bl true) H'
theorem ok_law {f : Addr} {fd : FuncData} (T : Top K mg) (F : Fun K "law" "law" s_law f fd) : FnOk P w K mg base CX0 10 f fd ["script"] (sp_law K) := by
  refine F.ok sc_law (fun vs H Q E h => ?_) (fun cdv A outer s H vs Q E hr h => ?_)
  · obtain ⟨_, _, rfl, _⟩ := h
    rfl
  · obtain ⟨a, ns, rfl, hS, _, fin⟩ := h
    refine ⟨_, (pss_cons (ps_set (i := 1) sc_law.nd rfl (Or.inl rfl) (pe_call (ok__law_begin T) (hr.mono (by decide : 1 ≤ 9)) (by rfl) T.g__law_begin T._law_begin_F.kp T._law_begin_b .nil pass0 (pa_cons (pv 0) pa_nil)))
      (pss_cons (ps_if (pt_cmpR (op_neD hr.units) (pe_tup (pa_cons (pe_glob (v := .int 4) (by rfl) T.g_GOODS_LIMIT ⟨_, rfl⟩) (pa_cons (pe_glob (v := .int 40) (by rfl) T.g_MOMENT_LIMIT ⟨_, rfl⟩) (pa_cons (pe_glob (v := .int 5) (by rfl) T.g_TIME_LIMIT ⟨_, rfl⟩) pa_nil)))) (pe_tup (pa_cons pe_int (pa_cons pe_int (pa_cons pe_int pa_nil)))) (nomark _)) (pss_one (ps_ret pe_bl)) pss_nil)
      (pss_cons (ps_set (i := 2) sc_law.nd rfl (Or.inl rfl) (pe_call (ok__law_market T) (hr.mono (by decide : 8 ≤ 9)) (by rfl) T.g__law_market T._law_market_F.kp T._law_market_b .nil pass0 (pa_cons (pv 1) (pa_cons pe_int pa_nil))))
      (pss_cons (ps_if (pt_cmpR op_notN (pe_call (ok__law_told T) (hr.mono (by decide : 5 ≤ 9)) (by rfl) T.g__law_told T._law_told_F.kp T._law_told_b .nil pass0 (pa_cons pe_int (pa_cons (pv 2) (pa_cons (pe_tup pa_nil) (pa_cons pe_int pa_nil))))) pe_non (nomark _)) (pss_one (ps_ret pe_bl)) pss_nil)
      (pss_cons (ps_set (i := 3) sc_law.nd rfl (Or.inl rfl) (pe_call (ok__law_nodes T) (hr.mono (by decide : 4 ≤ 9)) (by rfl) T.g__law_nodes T._law_nodes_F.kp T._law_nodes_b .nil pass0 (pa_cons (pv 2) pa_nil)))
      (pss_cons (ps_set (i := 6) sc_law.nd rfl (Or.inl rfl) (pe_callTy call_tupL (by rfl) T.n_tuple (by decide +kernel) (pa_cons (pe_lc (own := [("path", 4), ("node", 5)]) (g := (gTup K 2 (gCons (gName 4) (gCons (gName 5) gNil)))) (tt := tYes) (by rfl) sc_law.nd (pi_list (pv 3)) (blkOk_by (own := [("path", 4), ("node", 5)]) (N := ["script", "d", "market", "nodes", "path", "node", "paths", "good", "bent", "goods", "leaf", "row", "k", "wide", "many"]) (sc := defScope s_law) (by decide +kernel)) (fun _ _ _ _ _ => (pg_tup rfl (pgs_cons (pg_name (i := 4) sc_law.nd rfl (Or.inl rfl)) (pgs_cons (pg_name (i := 5) sc_law.nd rfl (Or.inl rfl)) pgs_nil)))) (fun _ _ _ _ _ => pts_nil) (fun _ _ _ _ _ => (pv 4))) pa_nil)))
      (pss_cons (ps_if (PW.pt (pw_or (pt_cmpR (op_neD hr.units) (pe_call (ok_moments T) (hr.mono (by decide : 4 ≤ 9)) (by rfl) T.g_moments T.moments_F.kp T.moments_b .nil passL (pa_cons (pv 2) pa_nil)) (pv 6) (nomark _)) (pw_or (pt_cmpR (op_neD hr.units) (pe_call (ok_ends T) (hr.mono (by decide : 4 ≤ 9)) (by rfl) T.g_ends T.ends_F.kp T.ends_b .nil passL (pa_cons (pv 2) pa_nil)) (pe_callTy call_tupL (by rfl) T.n_tuple (by decide +kernel) (pa_cons (pe_call (ok__law_ends T) (hr.mono (by decide : 5 ≤ 9)) (by rfl) T.g__law_ends T._law_ends_F.kp T._law_ends_b .nil pass0 (pa_cons (pv 2) pa_nil)) pa_nil)) (nomark _)) (pw_or1 (pt_cmpR op_ne (pe_call (ok_last_time T) (hr.mono (by decide : 5 ≤ 9)) (by rfl) T.g_last_time T.last_time_F.kp T.last_time_b .nil passL (pa_cons (pv 2) pa_nil)) (pe_callB call_lenT (by rfl) T.n_len (by decide +kernel) (pa_cons (pe_ix ix_list (pe_call (ok__law_ends T) (hr.mono (by decide : 5 ≤ 9)) (by rfl) T.g__law_ends T._law_ends_F.kp T._law_ends_b .nil pass0 (pa_cons (pv 2) pa_nil)) pe_int (fun _ _ => rfl)) pa_nil)) (nomark _)))))) (pss_one (ps_ret pe_bl)) pss_nil)
      (pss_cons (ps_for PassesOwn.never rfl (pi_list (pv 3)) (pg_tup rfl (pgs_cons (pg_name (i := 4) sc_law.nd rfl (Or.inl rfl)) (pgs_cons (pg_name (i := 5) sc_law.nd rfl (Or.inl rfl)) pgs_nil))) (pss_cons (ps_if (PW.pt (pw_or (pt_cmpR op_ne (pe_call (ok__law_told T) (hr.mono (by decide : 5 ≤ 9)) (by rfl) T.g__law_told T._law_told_F.kp T._law_told_b .nil pass0 (pa_cons pe_int (pa_cons (pv 2) (pa_cons (pv 4) (pa_cons pe_int pa_nil))))) (pe_callB call_lenT (by rfl) T.n_len (by decide +kernel) (pa_cons (pe_ix ix_tup (pv 5) pe_int (fun _ _ => rfl)) pa_nil)) (nomark _)) (pw_or1 (pt_cmpR op_ne (pe_call (ok__law_told T) (hr.mono (by decide : 5 ≤ 9)) (by rfl) T.g__law_told T._law_told_F.kp T._law_told_b .nil pass0 (pa_cons pe_int (pa_cons (pv 2) (pa_cons (pe_op op_catP (pv 4) (pe_tup (pa_cons (pe_callB call_lenT (by rfl) T.n_len (by decide +kernel) (pa_cons (pe_ix ix_tup (pv 5) pe_int (fun _ _ => rfl)) pa_nil)) pa_nil))) (pa_cons pe_int pa_nil))))) pe_str (nomark _))))) (pss_one (ps_ret pe_bl)) pss_nil)
      (pss_one (ps_for PassesOwn.never rfl (pi_range1 rfl T.n_range (pa_cons (pe_ix ix_tup (pv 2) pe_int (fun _ _ => rfl)) pa_nil)) (pg_name (i := 7) sc_law.nd rfl (Or.inl rfl)) (pss_one (ps_if (pt_cmpR (op_neD hr.units) (pe_call (ok__law_told T) (hr.mono (by decide : 5 ≤ 9)) (by rfl) T.g__law_told T._law_told_F.kp T._law_told_b .nil pass0 (pa_cons pe_int (pa_cons (pv 2) (pa_cons (pv 4) (pa_cons (pv 7) pa_nil))))) (pe_ix ix_tup (pe_call (ok__law_prices T) (hr.mono (by decide : 2 ≤ 9)) (by rfl) T.g__law_prices T._law_prices_F.kp T._law_prices_b .nil pass0 (pa_cons (pv 2) (pa_cons (pv 4) pa_nil))) (pv 7) (fun _ _ => rfl)) (nomark _)) (pss_one (ps_ret pe_bl)) pss_nil))))))
      (pss_cons (ps_if (PW.pt (pw_or (pt_cmpR op_ne (pe_call (ok__law_told T) (hr.mono (by decide : 5 ≤ 9)) (by rfl) T.g__law_told T._law_told_F.kp T._law_told_b .nil pass0 (pa_cons pe_int (pa_cons (pv 2) (pa_cons (pe_tup pa_nil) (pa_cons (pe_ix ix_tup (pv 2) pe_int (fun _ _ => rfl)) pa_nil))))) pe_str (nomark _)) (pw_or (pt_cmpR op_ne (pe_call (ok__law_told T) (hr.mono (by decide : 5 ≤ 9)) (by rfl) T.g__law_told T._law_told_F.kp T._law_told_b .nil pass0 (pa_cons pe_int (pa_cons (pv 2) (pa_cons (pe_tup (pa_cons (pe_op op_sub pe_int pe_int) pa_nil)) (pa_cons pe_int pa_nil))))) pe_str (nomark _)) (pw_or1 (pt_cmpR op_ne (pe_call (ok__law_told T) (hr.mono (by decide : 5 ≤ 9)) (by rfl) T.g__law_told T._law_told_F.kp T._law_told_b .nil pass0 (pa_cons pe_int (pa_cons (pv 2) (pa_cons (pe_tup pa_nil) (pa_cons (pe_op op_sub pe_int pe_int) pa_nil))))) pe_str (nomark _)))))) (pss_one (ps_ret pe_bl)) pss_nil)
      (pss_cons (ps_set (i := 8) sc_law.nd rfl (Or.inl rfl) (pe_tup (pa_cons (pe_ix ix_tup (pv 2) pe_int (fun _ _ => rfl)) (pa_cons (pe_call (ok__law_bent_node T) (hr.mono (by decide : 9 ≤ 9)) (by rfl) T.g__law_bent_node T._law_bent_node_F.kp T._law_bent_node_b .nil pass0 (pa_cons (pv 1) (pa_cons (pe_ix ix_tup (pv 2) pe_int (fun _ _ => rfl)) pa_nil))) pa_nil))))
      (Evl.pss_cut (ps_if (PW.pt (pw_or (pt_cmpR op_ne (pe_call (ok__law_told T) (hr.mono (by decide : 5 ≤ 9)) (by rfl) T.g__law_told T._law_told_F.kp T._law_told_b .nil pass0 (pa_cons pe_int (pa_cons (pv 8) (pa_cons (pe_tup pa_nil) (pa_cons pe_int pa_nil))))) (pe_call (ok__law_due T) (hr.mono (by decide : 5 ≤ 9)) (by rfl) T.g__law_due T._law_due_F.kp T._law_due_b .nil pass0 (pa_cons (pv 8) pa_nil)) (nomark _)) (pw_or1 (PW.pt (pw_and (pt_cmpR op_notN (pe_call (ok__law_due T) (hr.mono (by decide : 5 ≤ 9)) (by rfl) T.g__law_due T._law_due_F.kp T._law_due_b .nil pass0 (pa_cons (pv 8) pa_nil)) pe_non (nomark _)) (pw_and1 (pt_cmpR op_ne (pe_call (ok__law_told T) (hr.mono (by decide : 5 ≤ 9)) (by rfl) T.g__law_told T._law_told_F.kp T._law_told_b .nil pass0 (pa_cons pe_int (pa_cons (pv 8) (pa_cons (pe_tup (pa_cons pe_int pa_nil)) (pa_cons pe_int pa_nil))))) pe_str (nomark _)))))))) (pss_one (ps_ret pe_bl)) pss_nil)
      (Evl.pss_cut (ps_set (i := 9) sc_law.nd rfl (Or.inl rfl) (pe_ix ix_tup (pe_tup (pa_cons pe_int (pa_cons pe_int (pa_cons (pe_op op_sub pe_int pe_int) pa_nil)))) (pe_call (ok__law_take T) (hr.mono (by decide : 1 ≤ 9)) (by rfl) T.g__law_take T._law_take_F.kp T._law_take_b .nil pass0 (pa_cons (pv 1) (pa_cons pe_int pa_nil))) (fun _ _ => rfl)))
      (pss_cons (ps_if (pt_cmpR op_ne (pe_call (ok__law_told T) (hr.mono (by decide : 5 ≤ 9)) (by rfl) T.g__law_told T._law_told_F.kp T._law_told_b .nil pass0 (pa_cons pe_int (pa_cons (pe_tup (pa_cons (pv 9) (pa_cons (pe_ix ix_tup (pv 2) pe_int (fun _ _ => rfl)) pa_nil))) (pa_cons (pe_tup pa_nil) (pa_cons pe_int pa_nil))))) pe_str (nomark _)) (pss_one (ps_ret pe_bl)) pss_nil)
      (pss_cons (ps_set (i := 10) sc_law.nd rfl (Or.inr rfl) (pe_tup (pa_cons (pe_tup pa_nil) (pa_cons (pe_tup pa_nil) pa_nil))))
      (pss_cons (ps_set (i := 11) sc_law.nd rfl (Or.inl rfl) (pv 10))
      (pss_cons (ps_for PassesOwn.never rfl (pi_range1 rfl T.n_range (pa_cons pe_int pa_nil)) (pg_name (i := 12) sc_law.nd rfl (Or.inl rfl)) (pss_one (ps_set (i := 11) sc_law.nd rfl (Or.inl rfl) (pe_tup (pa_cons (pe_tup pa_nil) (pa_cons (pe_tup (pa_cons (pv 11) pa_nil)) pa_nil))))))
      (pss_cons (ps_setLc (i := 13) (own := [("many", 14)]) (g := (gName 14)) (tt := tYes) (by rfl) sc_law.nd rfl rfl (sw_true rfl rfl rfl (by decide +kernel)) (pi_tup (pe_tup (pa_cons pe_int (pa_cons pe_int pa_nil)))) (blkOk_by (own := [("many", 14)]) (N := ["script", "d", "market", "nodes", "path", "node", "paths", "good", "bent", "goods", "leaf", "row", "k", "wide", "many"]) (sc := defScope s_law) (by decide +kernel)) (fun _ _ _ _ _ => (pg_name (i := 14) sc_law.nd rfl (Or.inl rfl))) (fun _ _ _ _ _ => pts_nil) (fun _ _ _ _ _ => (pe_call (ok__law_told T) (hr.mono (by decide : 5 ≤ 9)) (by rfl) T.g__law_told T._law_told_F.kp T._law_told_b .nil pass0 (pa_cons pe_int (pa_cons (pe_tup (pa_cons pe_int (pa_cons (pe_tup (pa_cons (pe_tup pa_nil) (pa_cons (pe_op (r := rRepT K) op_repT (pe_tup (pa_cons (pv 10) pa_nil)) (pv 14)) pa_nil))) pa_nil))) (pa_cons (pe_tup pa_nil) (pa_cons pe_int pa_nil)))))))
      (pss_one (ps_ret (pe_and (pe_cmpR (op_eqD hr.units) (pv 13) (pe_lst (pa_cons pe_non (pa_cons pe_str pa_nil))) (nomark _)) (pe_and (pe_cmpR op_isN (pe_call (ok__law_told T) (hr.mono (by decide : 5 ≤ 9)) (by rfl) T.g__law_told T._law_told_F.kp T._law_told_b .nil pass0 (pa_cons pe_int (pa_cons (pe_tup (pa_cons pe_int (pa_cons (pv 11) pa_nil))) (pa_cons (pe_tup pa_nil) (pa_cons pe_int pa_nil))))) pe_non (nomark _)) (pe_one (pe_cmpR op_eq (pe_call (ok__law_told T) (hr.mono (by decide : 5 ≤ 9)) (by rfl) T.g__law_told T._law_told_F.kp T._law_told_b .nil pass0 (pa_cons pe_int (pa_cons (pe_tup (pa_cons pe_int (pa_cons (pe_tup (pa_cons (pe_tup pa_nil) (pa_cons (pe_tup (pa_cons (pv 11) pa_nil)) pa_nil))) pa_nil))) (pa_cons (pe_tup pa_nil) (pa_cons pe_int pa_nil))))) pe_str (nomark _)))))))))))))))))))))))), ?_⟩
    refine ⟨_, rfl, a, ns, rfl, hS, fun pd ps H1 s1 n1 n2 D1 => ?_⟩
    -- the constants
    refine ⟨(by decide : 3 ≤ sizeLine), fun p1 h1 => ⟨(by decide : 3 ≤ sizeLine), fun p2 h2 => ?_⟩⟩
    have u1 := same_new (o := .tup [.int 4, .int 40, .int 5]) h1
    have u2 := same_new (o := .tup [.int 4, .int 40, .int 5]) h2
    have c1 : DT K (upd (upd H1 p1 (.tup [.int 4, .int 40, .int 5])) p2 (.tup [.int 4, .int 40, .int 5])) (.ref p1) (pathD [4, 40, 5]) := DT.path (SqT.of (u2 _ _ upd_same))
    have c2 : DT K (upd (upd H1 p1 (.tup [.int 4, .int 40, .int 5])) p2 (.tup [.int 4, .int 40, .int 5])) (.ref p2) (pathD [4, 40, 5]) := DT.path (SqT.of upd_same)
    refine ⟨_, _, c1.dp, c2.dp, (sh_path _).shaped, (sh_path _).shaped, _, rfl, if_false_of' (sh_path _).ne ?_⟩
    have D2 := D1.same (u1.trans u2)
    generalize (upd (upd H1 p1 (.tup [.int 4, .int 40, .int 5])) p2 (.tup [.int 4, .int 40, .int 5])) = H2 at *
    -- the market
    refine ⟨_, rfl, pd, ps, rfl, D2, fun v g n m H3 x3 D3 dm g1 g4 m2 nv => ?_⟩
    obtain ⟨G, hB, hL⟩ := nv_good nv m2 g1 g4
    have M3 : Mk K H3 v g n := ⟨dm, hB, by omega⟩
    have np := (nv_pre m ([], n) nv).1
    have l6 : ∀ x ∈ pre [] n, x.1.length ≤ 6 := fun x hx => by
      have := (np x hx).2.2.1
      simp at this
      omega
    have l200 : (pre [] n).length ≤ 200 := by omega
    refine ⟨_, rfl, Nat.zero_le _, fun p3 h3 => ?_⟩
    have u3 := same_new (o := .tup []) h3
    dsimp only [tCons, tC, tNil, tCall]
    refine told0 (M3.same u3) G (DT.path0 upd_same) fun H4 s4 => ⟨rfl, _, rfl, iteNS rfl ?_⟩
    have M4 := (M3.same u3).same s4
    have D4 := (D3.same u3).same s4
    -- nodes, paths
    refine ⟨_, rfl, v, g, n, rfl, M4.d, l200, l6, fun pn xn H5 s5 _ hN dN => ?_⟩
    have M5 := M4.same s5
    have D5 := D4.same s5
    have ln : xn.length = (pre [] n).length := by rw [dN.len, List.length_map]
    refine ⟨_, rfl, pn, rfl, ⟨_, SqL.of hN⟩, fun D hD => lc_list (K := K) (a := pn) (xs := xn) (fun i H' => ∃ o, Same H5 H' ∧ H' D = some (.lst o) ∧ DTs K H' o (((pre [] n).take i).map fun e => pathD e.1)) ⟨[], same_new hD, upd_same, .nil⟩ (fun i H' _ ⟨_, sm, _⟩ => SqL.of (sm _ _ hN)) ?_ ?_⟩
    · rintro i x H' hi ⟨o, sm, hO, dO⟩
      obtain ⟨d, hd, dx⟩ := dN.get hi
      rw [List.getElem?_map] at hd
      obtain ⟨e, he, rfl⟩ := Option.map_eq_some_iff.mp hd
      obtain ⟨b, vp, vk, rfl, hb2, dp, dk⟩ := (dx.same sm).entD_inv
      refine ⟨_, _, rfl, hb2, rfl, _, _, rfl, _, _, rfl, rfl, rfl, ?_⟩
      dsimp only [tYes]
      rw [if_pos rfl]
      refine ⟨_, rfl, o, hO, ?_, _, same_mut sm hD, upd_same, ?_⟩
      · rw [dO.len, List.length_map]
        exact Nat.lt_of_le_of_lt (List.length_take_le' _ _) (small1000 (by omega))
      · rw [take_next he, List.map_append]
        have iD : IsL H' D := ⟨_, hO⟩
        exact (dO.xt iD Xt.upd).snoc (dp.xt iD Xt.upd)
    rintro H6 ⟨o6, s6, hO6, dO6⟩
    rw [ln, List.take_length] at dO6
    refine ⟨_, _, rfl, SqL.of hO6, fun pp hpp => ?_⟩
    have s7 := same_new (o := .tup o6) hpp
    have dPP : DT K (upd H6 pp (.tup o6)) (.ref pp) (.tuple ((pre [] n).map fun e => pathD e.1)) := .tup (SqT.of upd_same) (dO6.same s7)
    have s57 := s6.trans s7
    have M7 := M5.same s57
    have D7 := D5.same s57
    have hN7 := s57 _ _ hN
    have dN7 := dN.same s57
    generalize (upd H6 pp (.tup o6)) = H7 at *
    -- moments, ends, last_time
    refine ⟨_, rfl, v, g, n, rfl, M7, G, fun vm H8 s8 dvm => ⟨_, rfl, _, _, dvm.dp, (dPP.same s8).dp, (sh_paths _ _).shaped, (sh_paths _ _).shaped, _, rfl, if_false_of' (sh_paths _ _).ne ?_⟩⟩
    have M8 := M7.same s8
    refine ⟨_, rfl, v, g, n, rfl, M8, G, fun ve H9 s9 dve => ⟨_, rfl, v, g, n, rfl, (M8.same s9).d, l200, l6, fun pe xe H10 s10 _ hE dE => ⟨_, _, rfl, SqL.of hE, fun pt hpt => ?_⟩⟩⟩
    have u10 := same_new (o := .tup xe) hpt
    refine ⟨_, _, ((dve.same s10).same u10).dp, (DT.tup (SqT.of upd_same) (dE.same u10)).dp, (sh_paths _ _).shaped, (sh_paths _ _).shaped, _, rfl, if_false_of' (sh_paths _ _).ne ?_⟩
    have M10 := ((M8.same s9).same s10).same u10
    refine ⟨_, rfl, v, g, n, rfl, M10, G, fun H11 e0 s11 he0 => ⟨_, rfl, v, g, n, rfl, (M10.same s11).d, l200, l6, fun pe2 xe2 H12 s12 _ hE2 dE2 => ?_⟩⟩
    obtain ⟨x0, hx0, dx0⟩ := dE2.at_ (i := 0) (d := pathD e0.1) (by rw [List.getElem?_map, he0]; rfl)
    obtain ⟨a0, rfl, ha0⟩ := dx0.path_inv
    refine ⟨_, _, _, _, rfl, rfl, SqL.of hE2, atI_nat (j := 0) hx0, _, _, rfl, ha0, ?_⟩
    rw [List.length_map]
    refine ⟨rfl, _, rfl, iteNS rfl ?_⟩
    have s712 := ((((s8.trans s9).trans s10).trans u10).trans s11).trans s12
    have M12 := M7.same s712
    have D12 := D7.same s712
    have hN12 := s712 _ _ hN7
    have dN12 := dN7.same s712
    -- node by node
    refine ⟨_, rfl, pn, rfl, ⟨_, SqL.of hN12⟩, for_list (K := K) (a := pn) (xs := xn) (fun i σ H' => ∃ (y4 y5 y7 : Option V), σ = [some (.ref a), some (.ref pd), some v, some (.ref pn), y4, y5, some (.ref pp), y7, none, none, none, none, none, none, none] ∧ Same H12 H') ⟨_, _, _, rfl, Same.refl _⟩ (fun i σ H' _ ⟨_, _, _, _, sm⟩ => SqL.of (sm _ _ hN12)) ?_ ?_⟩
    · rintro i x σ H13 hi ⟨y4, y5, y7, rfl, s13⟩
      obtain ⟨d, hd, dx⟩ := dN12.get hi
      rw [List.getElem?_map] at hd
      obtain ⟨e, he, rfl⟩ := Option.map_eq_some_iff.mp hd
      have em := List.mem_of_getElem? he
      obtain ⟨b, vp, vk, rfl, hb2, dp, dk⟩ := (dx.same s13).entD_inv
      obtain ⟨c, vq, vc, rfl, hc, dq, dc⟩ := dk.node_inv
      obtain ⟨cc, xk, rfl, hcc, dks⟩ := dc.inv
      obtain ⟨ap, rfl, hap⟩ := dp.path_inv
      have lk : xk.length = e.2.ks.length := by rw [dks.len, List.length_map]
      obtain ⟨r, er, hf⟩ := pre_find _ ([], n) e (Nat.le_refl _) em
      have er' : e.1 = r := er
      subst er'
      have hf : find n e.1 = some e.2 := hf
      have M13 := M12.same s13
      refine ⟨_, _, rfl, hb2, rfl, _, _, rfl, _, _, rfl, rfl, ?_⟩
      refine ⟨_, rfl, _, rfl, ?_⟩
      dsimp only [tCons, tC, tNil, tCall]
      refine told2v M13 G dp hf fun H14 s14 => ?_
      refine ⟨_, rfl, _, _, _, _, rfl, rfl, sqt_same s14 hc, atI_nat (j := 1) rfl, _, _, rfl, sqt_same s14 hcc, ?_⟩
      rw [lk]
      refine ⟨rfl, _, rfl, iteNS rfl ?_⟩
      refine ⟨_, rfl, _, rfl, _, rfl, _, _, _, _, rfl, rfl, sqt_same s14 hc, atI_nat (j := 1) rfl, _, _, rfl, sqt_same s14 hcc, (by decide : 1 ≤ sizeLine), fun p5 h5 => ?_⟩
      have u5 := same_new (o := .tup [.int (xk.length : Int)]) h5
      have s145 := s14.trans u5
      refine ⟨_, _, _, _, rfl, rfl, sqt_same s145 hap, SqT.of upd_same, ?_, fun p6 H15 s15 hp6 => ?_⟩
      · rw [List.length_map]
        have := l6 e em
        exact len1000 (show e.1.length + 1 ≤ 1000 by omega)
      · rw [lk] at hp6
        have hq : SqT K H15 p6 ((e.1 ++ [(e.2.ks.length : Int)]).map V.int) := by
          rw [List.map_append]
          exact hp6
        dsimp only [tCons, tC, tNil, tCall]
        refine told2m ((M13.same s145).same s15) G (DT.path hq) (find_end hf) fun H16 s16 => ⟨rfl, _, rfl, iteNS rfl ?_⟩
        have sA := (s145.trans s15).trans s16
        have M16 := M13.same sA
        obtain ⟨mv, vn, rfl, hmv, _⟩ := id M16.d.market_inv
        refine ⟨_, rfl, _, _, _, _, rfl, rfl, hmv, atI_nat (j := 0) rfl, g, rfl, by omega, by omega, for_range (lo := 0) (n := g.toNat) (fun j σ H' => ∃ (y7 : Option V), σ = [some (.ref a), some (.ref pd), some (.ref mv), some (.ref pn), some (.ref ap), some (.ref c), some (.ref pp), y7, none, none, none, none, none, none, none] ∧ Same H16 H') ⟨_, rfl, Same.refl _⟩ ?_ ?_⟩
        · rintro j σ H17 hj ⟨y7, rfl, s17⟩
          have e0 : ((0 : Int) + (j : Int)) = (j : Int) := Int.zero_add _
          have M17 := M16.same s17
          have dp17 := (dp.same sA).same s17
          have po := (np e em).1
          refine ⟨_, rfl, _, rfl, _, rfl, ?_⟩
          dsimp only [tCons, tC, tNil, tCall]
          refine told1v M17 G dp17 hf (by omega) (by omega) fun v' H18 d s18 hd dv' => ?_
          refine ⟨_, rfl, _, rfl, _, _, g, n, e.2, e.1, rfl, (M17.same s18).d, dp17.same s18, hf, by have := po.len; omega, fun v2 H19 s19 dv2 => ?_⟩
          obtain ⟨t2, xs2, rfl, ht2, hx2⟩ := dv2.inv
          rw [show ((0 : Int) + (j : Int)).toNat = j by omega] at hd
          obtain ⟨z, hz, dz⟩ := hx2.at_ hd
          obtain ⟨pr, rfl⟩ : ∃ pr : Pr, d = prD pr := by
            cases j with
            | zero => exact ⟨_, (Option.some.inj hd).symm⟩
            | succ j =>
              rw [List.getElem?_cons_succ, List.getElem?_map] at hd
              obtain ⟨pr, _, h⟩ := Option.map_eq_some_iff.mp hd
              exact ⟨pr, h.symm⟩
          refine ⟨_, rfl, _, _, _, _, rfl, rfl, ht2, by rw [e0]; exact atI_nat hz, _, _, (dv'.same s19).dp, dz.dp, (sh_pr _).shaped, (sh_pr _).shaped, _, rfl, if_false_of' (sh_pr _).ne ?_⟩
          exact ⟨_, rfl, (s17.trans s18).trans s19⟩
        · rintro σ H17 ⟨y7, rfl, s17⟩
          exact ⟨_, _, _, rfl, (s13.trans sA).trans s17⟩
    · rintro σ H13 ⟨y4, y5, y7, rfl, s13⟩
      have M13 := M12.same s13
      have D13 := D12.same s13
      obtain ⟨mv, vn, rfl, hmv, _⟩ := id M13.d.market_inv
      -- no moments
      refine ⟨_, rfl, Nat.zero_le _, fun p5 h5 => ?_⟩
      have u5 := same_new (o := .tup []) h5
      refine ⟨_, rfl, _, _, _, _, rfl, rfl, sqt_same u5 hmv, atI_nat (j := 0) rfl, ?_⟩
      dsimp only [tCons, tC, tNil, tCall]
      refine told1m (M13.same u5) G (DT.path0 upd_same) (.inr (by omega)) fun H14 s14 => ⟨rfl, _, rfl, iteNS rfl ?_⟩
      have M14 := (M13.same u5).same s14
      refine ⟨_, rfl, _, _, rfl, rfl, (by decide : 1 ≤ sizeLine), fun p6 h6 => ?_⟩
      have u6 := same_new (o := .tup [.int (0 - 1)]) h6
      have d6 : DT K (upd H14 p6 (.tup [.int (0 - 1)])) (.ref p6) (pathD [-1]) := DT.path (SqT.of upd_same)
      dsimp only [tCons, tC, tNil, tCall]
      refine told1m (M14.same u6) G d6 (.inl (find_neg n)) fun H15 s15 => ⟨rfl, _, rfl, iteNS rfl ?_⟩
      have M15 := (M14.same u6).same s15
      refine ⟨_, rfl, Nat.zero_le _, fun p7 h7 => ?_⟩
      have u7 := same_new (o := .tup []) h7
      refine ⟨_, _, rfl, rfl, ?_⟩
      dsimp only [tCons, tC, tNil, tCall]
      refine told1m (M15.same u7) G (DT.path0 upd_same) (.inr (by omega)) fun H16 s16 => ⟨rfl, _, rfl, iteNS rfl ?_⟩
      have s1316 := ((((u5.trans s14).trans u6).trans s15).trans u7).trans s16
      have M16 := M13.same s1316
      have D16 := D13.same s1316
      obtain ⟨mv', vn', ev, hm16, dn16⟩ := id M16.d.market_inv
      cases ev
      -- bent
      refine ⟨_, rfl, _, _, _, _, rfl, rfl, hm16, atI_nat (j := 0) rfl, _, rfl, _, rfl, _, _, _, _, rfl, rfl, hm16, atI_nat (j := 1) rfl, ?_⟩
      have hsz : nsz n ≤ 13 := by
        rw [← pre_nsz []]
        exact hL
      refine ⟨m, m2, pd, ps, _, n, rfl, D16, dn16, nv_hp g4 nv, by omega, fun vb nb H17 x17 D17 dvb hb hbz => ⟨two_le, fun pb hpb => ?_⟩⟩
      have u17 := same_new (o := .tup [.int g, vb]) hpb
      have dB : DT K (upd H17 pb (.tup [.int g, vb])) (.ref pb) (marketD g nb) := .mk2 (SqT.of upd_same) (.int g) (dvb.same u17)
      have D18 := D17.same u17
      have hm18 := sqt_same u17 (sqt_xt D16.isL x17 hm16)
      have dn18 := (dn16.xt D16.isL x17).same u17
      generalize (upd H17 pb (.tup [.int g, vb])) = H18 at *
      have bsz : nsz nb ≤ 14 := by omega
      have hbp := HP.pre (e := ([], nb)) hb
      have MB : Mk K H18 (.ref pb) g nb := ⟨dB, fun e he p hp => (hbp e he).1.1 p hp, by rw [pre_nsz]; omega⟩
      have SB : Sm nb := ⟨by rw [pre_nsz]; omega, fun x hx => by have := (hbp x hx).2; simp at this; omega, fun x hx => ⟨(hbp x hx).1.1, by have := (hbp x hx).1.2; omega⟩⟩
      have notBig : ¬ BigM nb := by
        rintro (z | ⟨x, hx, z⟩)
        · rw [pre_nsz] at z
          omega
        · obtain ⟨e, he, rfl⟩ := List.mem_map.mp hx
          have := (hbp e (List.mem_filter.mp he).1).2
          simp at this
          omega
      -- goods that are none: what comes behind
      refine ⟨fun σ' H19 => σ' = [some (.ref a), some (.ref pd), some (.ref mv), some (.ref pn), y4, y5, some (.ref pp), y7, some (.ref pb), none, none, none, none, none, none] ∧ Same H18 H19, ?_, ?_⟩
      · refine ⟨_, rfl, Nat.zero_le _, fun p8 h8 => ?_⟩
        have u8 := same_new (o := .tup []) h8
        by_cases B : BadM g nb
        · dsimp only [tCons, tC, tNil, tCall]
          refine toldB (.inl rfl) (MB.same u8) B (DT.path0 upd_same) fun H19 s19 => ?_
          have s819 := u8.trans s19
          refine ⟨_, rfl, _, g, nb, rfl, dB.same s819, SB, g1, g4, fun _ H20 s20 => ⟨rfl, _, rfl, iteNS rfl ?_⟩, fun z => (z B).elim⟩
          have s820 := s819.trans s20
          refine ⟨_, rfl, _, g, nb, rfl, dB.same s820, SB, g1, g4, fun _ H21 s21 => ⟨rfl, _, rfl, iteT ?_⟩, fun z => (z B).elim⟩
          have s821 := s820.trans s21
          refine ⟨_, rfl, (by decide : 1 ≤ sizeLine), fun p9 h9 => ?_⟩
          have u9 := same_new (o := .tup [.int 9]) h9
          have d9 : DT K (upd H21 p9 (.tup [.int 9])) (.ref p9) (pathD [9]) := DT.path (SqT.of upd_same)
          dsimp only [tCons, tC, tNil, tCall]
          refine toldB (.inr (.inl rfl)) ((MB.same s821).same u9) B d9 fun H22 s22 => ⟨rfl, _, rfl, iteNS rfl ⟨rfl, (s821.trans u9).trans s22⟩⟩
        · dsimp only [tCons, tC, tNil, tCall]
          refine told0 (MB.same u8) ⟨B, notBig⟩ (DT.path0 upd_same) fun H19 s19 => ?_
          have s819 := u8.trans s19
          refine ⟨_, rfl, _, g, nb, rfl, dB.same s819, SB, g1, g4, fun z => (B z).elim, fun _ H20 s20 => ⟨rfl, _, rfl, iteNS rfl ?_⟩⟩
          have s820 := s819.trans s20
          refine ⟨_, rfl, _, g, nb, rfl, dB.same s820, SB, g1, g4, fun z => (B z).elim, fun _ H21 s21 => ⟨rfl, _, rfl, iteNS rfl ⟨rfl, s820.trans s21⟩⟩⟩
      · rintro σ' H19 ⟨rfl, s19⟩
        have D19 := D18.same s19
        have hm19 := sqt_same s19 hm18
        have dn19 := dn18.same s19
        -- goods
        refine ⟨fun σ' H20 => ∃ gg : Int, σ' = [some (.ref a), some (.ref pd), some (.ref mv), some (.ref pn), y4, y5, some (.ref pp), y7, some (.ref pb), some (.int gg), none, none, none, none, none] ∧ ¬ (1 ≤ gg ∧ gg ≤ 4) ∧ SqT K H20 mv [.int g, vn'] ∧ DT K H20 vn' (nodeD n), ?_, ?_⟩
        · refine ⟨_, _, rfl, rfl, (by decide : 3 ≤ sizeLine), fun p8 h8 => ?_⟩
          have u8 := same_new (o := .tup [.int 0, .int 5, .int (0 - 1)]) h8
          have D20 := D19.same u8
          refine ⟨_, rfl, pd, ps, 3, rfl, D20, by decide, Bd.mono (k := 2) (by unfold Bd; decide) (by decide), fun r H20 x20 D21 r0 r1 => ?_⟩
          have q20 := sqt_xt (K := K) D20.isL x20 (SqT.of upd_same)
          have hm20 := sqt_xt D20.isL x20 (sqt_same u8 hm19)
          have dn20 := (dn19.same u8).xt D20.isL x20
          have r3 : r = 0 ∨ r = 1 ∨ r = 2 := by omega
          rcases r3 with rfl | rfl | rfl
          · exact ⟨_, _, _, _, rfl, rfl, q20, atI_nat (j := 0) rfl, 0, rfl, by decide, hm20, dn20⟩
          · exact ⟨_, _, _, _, rfl, rfl, q20, atI_nat (j := 1) rfl, 5, rfl, by decide, hm20, dn20⟩
          · exact ⟨_, _, _, _, rfl, rfl, q20, atI_nat (j := 2) rfl, 0 - 1, rfl, by decide, hm20, dn20⟩
        · rintro σ' H20 ⟨gg, rfl, hgg, hm20, dn20⟩
          refine ⟨_, rfl, _, rfl, _, _, _, _, rfl, rfl, hm20, atI_nat (j := 1) rfl, two_le, fun p8 h8 => ⟨Nat.zero_le _, fun p9 h9 => ?_⟩⟩
          have u8 := same_new (o := .tup [.int gg, vn']) h8
          have u9 := same_new (o := .tup []) h9
          have dG : DT K (upd (upd H20 p8 (.tup [.int gg, vn'])) p9 (.tup [])) (.ref p8) (marketD gg n) := .mk2 (SqT.of (u9 _ _ upd_same)) (.int gg) ((dn20.same u8).same u9)
          dsimp only [tCons, tC, tNil, tCall]
          refine toldB (.inl rfl) ⟨dG, hB, by omega⟩ (.inl hgg) (DT.path0 upd_same) fun H21 s21 => ⟨rfl, _, rfl, iteNS rfl ?_⟩
          -- leaf, row
          refine ⟨Nat.zero_le _, fun q1 k1 => ⟨Nat.zero_le _, fun q2 k2 => ⟨two_le, fun q3 k3 => ?_⟩⟩⟩
          have w1 := same_new (o := .tup []) k1
          have w2 := same_new (o := .tup []) k2
          have w3 := same_new (o := .tup [.ref q1, .ref q2]) k3
          have dLeaf : DT K (upd (upd (upd H21 q1 (.tup [])) q2 (.tup [])) q3 (.tup [.ref q1, .ref q2])) (.ref q3) (nodeD (rowN 0)) := .mk2 (SqT.of upd_same) (.tup (SqT.of (w3 _ _ (w2 _ _ upd_same))) .nil) (.tup (SqT.of (w3 _ _ upd_same)) .nil)
          generalize (upd (upd (upd H21 q1 (.tup [])) q2 (.tup [])) q3 (.tup [.ref q1, .ref q2])) = H22 at *
          refine ⟨_, rfl, 5, rfl, by decide, by decide, for_range (lo := 0) (n := (5 : Int).toNat) (fun j σ H' => ∃ (vr : V) (y12 : Option V), σ = [some (.ref a), some (.ref pd), some (.ref mv), some (.ref pn), y4, y5, some (.ref pp), y7, some (.ref pb), some (.int gg), some (.ref q3), some vr, y12, none, none] ∧ Same H22 H' ∧ DT K H' vr (nodeD (rowN j))) ⟨_, _, rfl, Same.refl _, dLeaf⟩ ?_ ?_⟩
          · rintro j σ H23 hj ⟨vr, y12, rfl, s23, dr⟩
            refine ⟨Nat.zero_le _, fun q4 k4 => ⟨_, rfl, (by decide : 1 ≤ sizeLine), fun q5 k5 => ⟨two_le, fun q6 k6 => ?_⟩⟩⟩
            have w4 := same_new (o := .tup []) k4
            have w5 := same_new (o := .tup [vr]) k5
            have w6 := same_new (o := .tup [.ref q4, .ref q5]) k6
            refine ⟨_, _, rfl, ((s23.trans w4).trans w5).trans w6, ?_⟩
            exact .mk2 (SqT.of upd_same) (.tup (SqT.of (w6 _ _ (w5 _ _ upd_same))) .nil) (.tup (SqT.of (w6 _ _ upd_same)) (.cons (((dr.same w4).same w5).same w6) .nil))
          · rintro σ H23 ⟨vr, y12, rfl, s23, dr⟩
            have dr : DT K H23 vr (nodeD (rowN 5)) := dr
            have dl := dLeaf.same s23
            -- wide
            refine ⟨two_le, fun q4 k4 => ⟨q4, rfl, ⟨_, SqT.of upd_same⟩, fun D hD => lc_tup (K := K) (a := q4) (xs := [.int 39, .int 40]) (fun i H' => Same (upd H23 q4 (.tup [.int 39, .int 40])) H' ∧ H' D = some (.lst (([.non, .str "large"] : List V).take i))) ⟨same_new hD, upd_same⟩ (fun i H' _ ⟨sm, _⟩ => SqT.of (sm _ _ upd_same)) ?_ ?_⟩⟩
            · rintro i x H24 hi ⟨sm, hO⟩
              have w4 := same_new (o := .tup [.int 39, .int 40]) k4
              have dl24 := (dl.same w4).same sm
              refine ⟨rfl, ?_⟩
              dsimp only [tYes]
              rw [if_pos rfl]
              match i, hi, hO with
              | 0, hi, hO =>
                cases hi
                refine ⟨Nat.zero_le _, fun r1 l1 => ⟨_, rfl, (by decide : 1 ≤ sizeLine), fun r2 l2 => ⟨_, rfl, r2, 39, [.ref q3], rfl, rfl, SqT.of upd_same, by simp, by decide, by decide, by simp, fun r3 l3 => ⟨two_le, fun r4 l4 => ⟨two_le, fun r5 l5 => ⟨Nat.zero_le _, fun r6 l6 => ?_⟩⟩⟩⟩⟩⟩
                have v1 := same_new (o := .tup []) l1
                have v2 := same_new (o := .tup [.ref q3]) l2
                have v3 := same_new (o := .tup (List.replicate (39 : Int).toNat [V.ref q3]).flatten) l3
                have v4 := same_new (o := .tup [.ref r1, .ref r3]) l4
                have v5 := same_new (o := .tup [.int 1, .ref r4]) l5
                have v6 := same_new (o := .tup []) l6
                have vA := ((((v1.trans v2).trans v3).trans v4).trans v5).trans v6
                have dk := reps (dl24.same vA) (39 : Int).toNat
                have q1' := v6 _ _ (v5 _ _ (v4 _ _ (v3 _ _ (v2 _ _ (upd_same (H := H24) (a := r1) (o := .tup []))))))
                have q3' := v6 _ _ (v5 _ _ (v4 _ _ (upd_same (H := (upd (upd H24 r1 (.tup [])) r2 (.tup [.ref q3]))) (a := r3) (o := .tup (List.replicate (39 : Int).toNat [V.ref q3]).flatten))))
                have q4' := v6 _ _ (v5 _ _ (upd_same (H := (upd (upd (upd H24 r1 (.tup [])) r2 (.tup [.ref q3])) r3 (.tup (List.replicate (39 : Int).toNat [V.ref q3]).flatten))) (a := r4) (o := .tup [.ref r1, .ref r3])))
                have q5' := v6 _ _ (upd_same (H := (upd (upd (upd (upd H24 r1 (.tup [])) r2 (.tup [.ref q3])) r3 (.tup (List.replicate (39 : Int).toNat [V.ref q3]).flatten)) r4 (.tup [.ref r1, .ref r3]))) (a := r5) (o := .tup [.int 1, .ref r4]))
                have hO6 := vA _ _ hO
                have q6' : (upd (upd (upd (upd (upd (upd H24 r1 (.tup [])) r2 (.tup [.ref q3])) r3 (.tup (List.replicate (39 : Int).toNat [V.ref q3]).flatten)) r4 (.tup [.ref r1, .ref r3])) r5 (.tup [.int 1, .ref r4])) r6 (.tup [])) r6 = some (.tup []) := upd_same
                generalize (upd (upd (upd (upd (upd (upd H24 r1 (.tup [])) r2 (.tup [.ref q3])) r3 (.tup (List.replicate (39 : Int).toNat [V.ref q3]).flatten)) r4 (.tup [.ref r1, .ref r3])) r5 (.tup [.int 1, .ref r4])) r6 (.tup [])) = H25 at *
                have dW : DT K H25 (.ref r4) (nodeD (wideN 39)) := by
                  rw [nodeD_eq]
                  exact .mk2 (SqT.of q4') (.tup (SqT.of q1') .nil) (.tup (SqT.of q3') dk)
                have dM : DT K H25 (.ref r5) (marketD 1 (wideN 39)) := .mk2 (SqT.of q5') (.int 1) dW
                dsimp only [tCons, tC, tNil, tCall]
                refine told0 ⟨dM, bare_b (wide_hp 39), by rw [pre_nsz, wide_sz]; decide⟩ ⟨bare_ok (wide_hp 39) (wide_ud (by decide)), bare_small (wide_ud (by decide)) (by rw [wide_sz]; decide) (by decide)⟩ (DT.path0 q6') fun H26 s26 => ⟨_, s26 _ _ hO6, by decide, same_mut ((sm.trans vA).trans s26) hD, upd_same⟩
              | 1, hi, hO =>
                cases hi
                refine ⟨Nat.zero_le _, fun r1 l1 => ⟨_, rfl, (by decide : 1 ≤ sizeLine), fun r2 l2 => ⟨_, rfl, r2, 40, [.ref q3], rfl, rfl, SqT.of upd_same, by simp, by decide, by decide, by simp, fun r3 l3 => ⟨two_le, fun r4 l4 => ⟨two_le, fun r5 l5 => ⟨Nat.zero_le _, fun r6 l6 => ?_⟩⟩⟩⟩⟩⟩
                have v1 := same_new (o := .tup []) l1
                have v2 := same_new (o := .tup [.ref q3]) l2
                have v3 := same_new (o := .tup (List.replicate (40 : Int).toNat [V.ref q3]).flatten) l3
                have v4 := same_new (o := .tup [.ref r1, .ref r3]) l4
                have v5 := same_new (o := .tup [.int 1, .ref r4]) l5
                have v6 := same_new (o := .tup []) l6
                have vA := ((((v1.trans v2).trans v3).trans v4).trans v5).trans v6
                have dk := reps (dl24.same vA) (40 : Int).toNat
                have q1' := v6 _ _ (v5 _ _ (v4 _ _ (v3 _ _ (v2 _ _ (upd_same (H := H24) (a := r1) (o := .tup []))))))
                have q3' := v6 _ _ (v5 _ _ (v4 _ _ (upd_same (H := (upd (upd H24 r1 (.tup [])) r2 (.tup [.ref q3]))) (a := r3) (o := .tup (List.replicate (40 : Int).toNat [V.ref q3]).flatten))))
                have q4' := v6 _ _ (v5 _ _ (upd_same (H := (upd (upd (upd H24 r1 (.tup [])) r2 (.tup [.ref q3])) r3 (.tup (List.replicate (40 : Int).toNat [V.ref q3]).flatten))) (a := r4) (o := .tup [.ref r1, .ref r3])))
                have q5' := v6 _ _ (upd_same (H := (upd (upd (upd (upd H24 r1 (.tup [])) r2 (.tup [.ref q3])) r3 (.tup (List.replicate (40 : Int).toNat [V.ref q3]).flatten)) r4 (.tup [.ref r1, .ref r3]))) (a := r5) (o := .tup [.int 1, .ref r4]))
                have hO6 := vA _ _ hO
                have q6' : (upd (upd (upd (upd (upd (upd H24 r1 (.tup [])) r2 (.tup [.ref q3])) r3 (.tup (List.replicate (40 : Int).toNat [V.ref q3]).flatten)) r4 (.tup [.ref r1, .ref r3])) r5 (.tup [.int 1, .ref r4])) r6 (.tup [])) r6 = some (.tup []) := upd_same
                generalize (upd (upd (upd (upd (upd (upd H24 r1 (.tup [])) r2 (.tup [.ref q3])) r3 (.tup (List.replicate (40 : Int).toNat [V.ref q3]).flatten)) r4 (.tup [.ref r1, .ref r3])) r5 (.tup [.int 1, .ref r4])) r6 (.tup [])) = H25 at *
                have dW : DT K H25 (.ref r4) (nodeD (wideN 40)) := by
                  rw [nodeD_eq]
                  exact .mk2 (SqT.of q4') (.tup (SqT.of q1') .nil) (.tup (SqT.of q3') dk)
                have dM : DT K H25 (.ref r5) (marketD 1 (wideN 40)) := .mk2 (SqT.of q5') (.int 1) dW
                dsimp only [tCons, tC, tNil, tCall]
                refine toldL (.inl rfl) ⟨dM, bare_b (wide_hp 40), by rw [pre_nsz, wide_sz]; decide⟩ (bare_ok (wide_hp 40) (wide_ud (by decide))) (big_count (by rw [wide_sz]; decide)) (DT.path0 q6') fun H26 s26 => ⟨_, s26 _ _ hO6, by decide, same_mut ((sm.trans vA).trans s26) hD, upd_same⟩
              | i + 2, hi, hO => simp at hi
            · rintro H24 ⟨sm, hO⟩
              have hO : H24 D = some (.lst [.non, .str "large"]) := hO
              have w4 := same_new (o := .tup [.int 39, .int 40]) k4
              have dr24 := (dr.same w4).same sm
              have sl : Sh 1 (.list [.none, .str "large"]) := ⟨by simp only [PyData.canLay0, PyData.canLayAll0, Bool.and_true, Bool.true_and]; rw [Str.ofString_eq_toList]; simp [PyData.strOk], by simp only [PyData.depth, PyData.depthAll]; decide⟩
              refine ⟨_, rfl, two_le, fun r1 l1 => ?_⟩
              have v1 := same_new (o := .lst [.non, .str "large"]) l1
              have dA : Dp K (upd H24 r1 (.lst [.non, .str "large"])) (.ref D) (.list [.none, .str "large"]) := .lst (SqL.of (v1 _ _ hO)) (.cons .non (.cons (.str _) .nil))
              have dB2 : Dp K (upd H24 r1 (.lst [.non, .str "large"])) (.ref r1) (.list [.none, .str "large"]) := .lst (SqL.of upd_same) (.cons .non (.cons (.str _) .nil))
              refine ⟨_, _, dA, dB2, sl.shaped, sl.shaped, _, rfl, if_true_of' sl.eq ?_⟩
              have dr25 := dr24.same v1
              generalize (upd H24 r1 (.lst [.non, .str "large"])) = H25 at *
              refine ⟨_, rfl, two_le, fun r2 l2 => ⟨Nat.zero_le _, fun r3 l3 => ?_⟩⟩
              have v2 := same_new (o := .tup [.int 1, vr]) l2
              have v3 := same_new (o := .tup []) l3
              have dM5 : DT K (upd (upd H25 r2 (.tup [.int 1, vr])) r3 (.tup [])) (.ref r2) (marketD 1 (rowN 5)) := .mk2 (SqT.of (v3 _ _ upd_same)) (.int 1) ((dr25.same v2).same v3)
              dsimp only [tCons, tC, tNil, tCall]
              refine told0 ⟨dM5, bare_b (row_hp 5), by rw [pre_nsz, row_sz]; decide⟩ ⟨bare_ok (row_hp 5) (row_ud 5), bare_small (row_ud 5) (by rw [row_sz]; decide) (by decide)⟩ (DT.path0 upd_same) fun H26 s26 => ⟨rfl, _, rfl, iteT ?_⟩
              have dr26 := ((dr25.same v2).same v3).same s26
              refine ⟨Nat.zero_le _, fun r4 l4 => ⟨_, rfl, (by decide : 1 ≤ sizeLine), fun r5 l5 => ⟨two_le, fun r6 l6 => ⟨two_le, fun r7 l7 => ⟨Nat.zero_le _, fun r8 l8 => ?_⟩⟩⟩⟩⟩
              have v4 := same_new (o := .tup []) l4
              have v5 := same_new (o := .tup [vr]) l5
              have v6 := same_new (o := .tup [.ref r4, .ref r5]) l6
              have v7 := same_new (o := .tup [.int 1, .ref r6]) l7
              have v8 := same_new (o := .tup []) l8
              have dR6 : DT K (upd (upd (upd H26 r4 (.tup [])) r5 (.tup [vr])) r6 (.tup [.ref r4, .ref r5])) (.ref r6) (nodeD (rowN 6)) := .mk2 (SqT.of upd_same) (.tup (SqT.of (v6 _ _ (v5 _ _ upd_same))) .nil) (.tup (SqT.of (v6 _ _ upd_same)) (.cons (((dr26.same v4).same v5).same v6) .nil))
              have dM6 : DT K (upd (upd (upd (upd (upd H26 r4 (.tup [])) r5 (.tup [vr])) r6 (.tup [.ref r4, .ref r5])) r7 (.tup [.int 1, .ref r6])) r8 (.tup [])) (.ref r7) (marketD 1 (rowN 6)) := .mk2 (SqT.of (v8 _ _ upd_same)) (.int 1) ((dR6.same v7).same v8)
              dsimp only [tCons, tC, tNil, tCall]
              refine toldL (.inl rfl) ⟨dM6, bare_b (row_hp 6), by rw [pre_nsz, row_sz]; decide⟩ (bare_ok (row_hp 6) (row_ud 6)) (big_time (row_ud 6) (by decide)) (DT.path0 upd_same) fun H27 s27 => ⟨rfl, ?_⟩
              exact fin H27
end
end Nl

namespace Nl
open PySem PySem.Spec PyProof.Rows L2
theorem all_mk {P : Program} {w : World} {K : PySem.W.Frag} {h : Heap} {mg : Str → Option Value} {fa : Addr} (X : K.In h) (G : h.Ns mainGlobals mg) (hfa : mg "law" = some (.ref fa))
    {f_compare : Addr} {od_compare an_compare : Option Addr} {sl_compare : Array (Option Value)} {oc_compare kV_compare dc_compare pm_compare cd_compare ct_compare : Value}
    {f_check_market : Addr} {od_check_market an_check_market : Option Addr} {sl_check_market : Array (Option Value)} {oc_check_market kV_check_market dc_check_market pm_check_market cd_check_market ct_check_market : Value}
    {f__check_prices : Addr} {od__check_prices an__check_prices : Option Addr} {sl__check_prices : Array (Option Value)} {oc__check_prices kV__check_prices dc__check_prices pm__check_prices cd__check_prices ct__check_prices : Value}
    {f_walk : Addr} {od_walk an_walk : Option Addr} {sl_walk : Array (Option Value)} {oc_walk kV_walk dc_walk pm_walk cd_walk ct_walk : Value}
    {f_node_at : Addr} {od_node_at an_node_at : Option Addr} {sl_node_at : Array (Option Value)} {oc_node_at kV_node_at dc_node_at pm_node_at cd_node_at ct_node_at : Value}
    {f_moments : Addr} {od_moments an_moments : Option Addr} {sl_moments : Array (Option Value)} {oc_moments kV_moments dc_moments pm_moments cd_moments ct_moments : Value}
    {f_ends : Addr} {od_ends an_ends : Option Addr} {sl_ends : Array (Option Value)} {oc_ends kV_ends dc_ends pm_ends cd_ends ct_ends : Value}
    {f_last_time : Addr} {od_last_time an_last_time : Option Addr} {sl_last_time : Array (Option Value)} {oc_last_time kV_last_time dc_last_time pm_last_time cd_last_time ct_last_time : Value}
    {f_price_of : Addr} {od_price_of an_price_of : Option Addr} {sl_price_of : Array (Option Value)} {oc_price_of kV_price_of dc_price_of pm_price_of cd_price_of ct_price_of : Value}
    {f_nexts : Addr} {od_nexts an_nexts : Option Addr} {sl_nexts : Array (Option Value)} {oc_nexts kV_nexts dc_nexts pm_nexts cd_nexts ct_nexts : Value}
    {f__law_begin : Addr} {od__law_begin an__law_begin : Option Addr} {sl__law_begin : Array (Option Value)} {oc__law_begin kV__law_begin dc__law_begin pm__law_begin cd__law_begin ct__law_begin : Value}
    {f__law_take : Addr} {od__law_take an__law_take : Option Addr} {sl__law_take : Array (Option Value)} {oc__law_take kV__law_take dc__law_take pm__law_take cd__law_take ct__law_take : Value}
    {f__law_gcd : Addr} {od__law_gcd an__law_gcd : Option Addr} {sl__law_gcd : Array (Option Value)} {oc__law_gcd kV__law_gcd dc__law_gcd pm__law_gcd cd__law_gcd ct__law_gcd : Value}
    {f__law_f : Addr} {od__law_f an__law_f : Option Addr} {sl__law_f : Array (Option Value)} {oc__law_f kV__law_f dc__law_f pm__law_f cd__law_f ct__law_f : Value}
    {f__law_plus : Addr} {od__law_plus an__law_plus : Option Addr} {sl__law_plus : Array (Option Value)} {oc__law_plus kV__law_plus dc__law_plus pm__law_plus cd__law_plus ct__law_plus : Value}
    {f__law_minus : Addr} {od__law_minus an__law_minus : Option Addr} {sl__law_minus : Array (Option Value)} {oc__law_minus kV__law_minus dc__law_minus pm__law_minus cd__law_minus ct__law_minus : Value}
    {f__law_times : Addr} {od__law_times an__law_times : Option Addr} {sl__law_times : Array (Option Value)} {oc__law_times kV__law_times dc__law_times pm__law_times cd__law_times ct__law_times : Value}
    {f__law_less : Addr} {od__law_less an__law_less : Option Addr} {sl__law_less : Array (Option Value)} {oc__law_less kV__law_less dc__law_less pm__law_less cd__law_less ct__law_less : Value}
    {f__law_spread : Addr} {od__law_spread an__law_spread : Option Addr} {sl__law_spread : Array (Option Value)} {oc__law_spread kV__law_spread dc__law_spread pm__law_spread cd__law_spread ct__law_spread : Value}
    {f__law_node : Addr} {od__law_node an__law_node : Option Addr} {sl__law_node : Array (Option Value)} {oc__law_node kV__law_node dc__law_node pm__law_node cd__law_node ct__law_node : Value}
    {f__law_market : Addr} {od__law_market an__law_market : Option Addr} {sl__law_market : Array (Option Value)} {oc__law_market kV__law_market dc__law_market pm__law_market cd__law_market ct__law_market : Value}
    {f__law_nodes : Addr} {od__law_nodes an__law_nodes : Option Addr} {sl__law_nodes : Array (Option Value)} {oc__law_nodes kV__law_nodes dc__law_nodes pm__law_nodes cd__law_nodes ct__law_nodes : Value}
    {f__law_find : Addr} {od__law_find an__law_find : Option Addr} {sl__law_find : Array (Option Value)} {oc__law_find kV__law_find dc__law_find pm__law_find cd__law_find ct__law_find : Value}
    {f__law_prices : Addr} {od__law_prices an__law_prices : Option Addr} {sl__law_prices : Array (Option Value)} {oc__law_prices kV__law_prices dc__law_prices pm__law_prices cd__law_prices ct__law_prices : Value}
    {f__law_ends : Addr} {od__law_ends an__law_ends : Option Addr} {sl__law_ends : Array (Option Value)} {oc__law_ends kV__law_ends dc__law_ends pm__law_ends cd__law_ends ct__law_ends : Value}
    {f__law_told : Addr} {od__law_told an__law_told : Option Addr} {sl__law_told : Array (Option Value)} {oc__law_told kV__law_told dc__law_told pm__law_told cd__law_told ct__law_told : Value}
    {f__law_bent_node : Addr} {od__law_bent_node an__law_bent_node : Option Addr} {sl__law_bent_node : Array (Option Value)} {oc__law_bent_node kV__law_bent_node dc__law_bent_node pm__law_bent_node cd__law_bent_node ct__law_bent_node : Value}
    {f__law_due : Addr} {od__law_due an__law_due : Option Addr} {sl__law_due : Array (Option Value)} {oc__law_due kV__law_due dc__law_due pm__law_due cd__law_due ct__law_due : Value}
    {f_law : Addr} {od_law an_law : Option Addr} {sl_law : Array (Option Value)} {oc_law kV_law dc_law pm_law cd_law ct_law : Value}
    {tk_GOODS_LIMIT : Tok}
    {tk_MOMENT_LIMIT : Tok}
    {tk_TIME_LIMIT : Tok}
    {C_MarketplaceError : Addr}
    {C_MarketError : Addr}
    {C_TooLarge : Addr}
    {C_MomentError : Addr}
    (a_compare : PySem.W.nsIn K mainGlobals "compare" = some (some (.ref f_compare))) (l_compare : K.lookup f_compare = some ⟨oc_compare, od_compare, .func (PySem.W.fnOf "compare" "compare" (defArgs s_compare) (defBody s_compare) (defScope s_compare) .none kV_compare dc_compare pm_compare an_compare cd_compare ct_compare), sl_compare⟩) (c_compare : PySem.W.codeIn K cd_compare "compare" = true) (k_compare : PySem.W.keepIn K (.ref f_compare) = true)
    (a_check_market : PySem.W.nsIn K mainGlobals "check_market" = some (some (.ref f_check_market))) (l_check_market : K.lookup f_check_market = some ⟨oc_check_market, od_check_market, .func (PySem.W.fnOf "check_market" "check_market" (defArgs s_check_market) (defBody s_check_market) (defScope s_check_market) .none kV_check_market dc_check_market pm_check_market an_check_market cd_check_market ct_check_market), sl_check_market⟩) (c_check_market : PySem.W.codeIn K cd_check_market "check_market" = true) (k_check_market : PySem.W.keepIn K (.ref f_check_market) = true)
    (a__check_prices : PySem.W.nsIn K mainGlobals "_check_prices" = some (some (.ref f__check_prices))) (l__check_prices : K.lookup f__check_prices = some ⟨oc__check_prices, od__check_prices, .func (PySem.W.fnOf "_check_prices" "_check_prices" (defArgs s__check_prices) (defBody s__check_prices) (defScope s__check_prices) .none kV__check_prices dc__check_prices pm__check_prices an__check_prices cd__check_prices ct__check_prices), sl__check_prices⟩) (c__check_prices : PySem.W.codeIn K cd__check_prices "_check_prices" = true) (k__check_prices : PySem.W.keepIn K (.ref f__check_prices) = true)
    (a_walk : PySem.W.nsIn K mainGlobals "walk" = some (some (.ref f_walk))) (l_walk : K.lookup f_walk = some ⟨oc_walk, od_walk, .func (PySem.W.fnOf "walk" "walk" (defArgs s_walk) (defBody s_walk) (defScope s_walk) .none kV_walk dc_walk pm_walk an_walk cd_walk ct_walk), sl_walk⟩) (c_walk : PySem.W.codeIn K cd_walk "walk" = true) (k_walk : PySem.W.keepIn K (.ref f_walk) = true)
    (a_node_at : PySem.W.nsIn K mainGlobals "node_at" = some (some (.ref f_node_at))) (l_node_at : K.lookup f_node_at = some ⟨oc_node_at, od_node_at, .func (PySem.W.fnOf "node_at" "node_at" (defArgs s_node_at) (defBody s_node_at) (defScope s_node_at) .none kV_node_at dc_node_at pm_node_at an_node_at cd_node_at ct_node_at), sl_node_at⟩) (c_node_at : PySem.W.codeIn K cd_node_at "node_at" = true) (k_node_at : PySem.W.keepIn K (.ref f_node_at) = true)
    (a_moments : PySem.W.nsIn K mainGlobals "moments" = some (some (.ref f_moments))) (l_moments : K.lookup f_moments = some ⟨oc_moments, od_moments, .func (PySem.W.fnOf "moments" "moments" (defArgs s_moments) (defBody s_moments) (defScope s_moments) .none kV_moments dc_moments pm_moments an_moments cd_moments ct_moments), sl_moments⟩) (c_moments : PySem.W.codeIn K cd_moments "moments" = true) (k_moments : PySem.W.keepIn K (.ref f_moments) = true)
    (a_ends : PySem.W.nsIn K mainGlobals "ends" = some (some (.ref f_ends))) (l_ends : K.lookup f_ends = some ⟨oc_ends, od_ends, .func (PySem.W.fnOf "ends" "ends" (defArgs s_ends) (defBody s_ends) (defScope s_ends) .none kV_ends dc_ends pm_ends an_ends cd_ends ct_ends), sl_ends⟩) (c_ends : PySem.W.codeIn K cd_ends "ends" = true) (k_ends : PySem.W.keepIn K (.ref f_ends) = true)
    (a_last_time : PySem.W.nsIn K mainGlobals "last_time" = some (some (.ref f_last_time))) (l_last_time : K.lookup f_last_time = some ⟨oc_last_time, od_last_time, .func (PySem.W.fnOf "last_time" "last_time" (defArgs s_last_time) (defBody s_last_time) (defScope s_last_time) .none kV_last_time dc_last_time pm_last_time an_last_time cd_last_time ct_last_time), sl_last_time⟩) (c_last_time : PySem.W.codeIn K cd_last_time "last_time" = true) (k_last_time : PySem.W.keepIn K (.ref f_last_time) = true)
    (a_price_of : PySem.W.nsIn K mainGlobals "price_of" = some (some (.ref f_price_of))) (l_price_of : K.lookup f_price_of = some ⟨oc_price_of, od_price_of, .func (PySem.W.fnOf "price_of" "price_of" (defArgs s_price_of) (defBody s_price_of) (defScope s_price_of) .none kV_price_of dc_price_of pm_price_of an_price_of cd_price_of ct_price_of), sl_price_of⟩) (c_price_of : PySem.W.codeIn K cd_price_of "price_of" = true) (k_price_of : PySem.W.keepIn K (.ref f_price_of) = true)
    (a_nexts : PySem.W.nsIn K mainGlobals "nexts" = some (some (.ref f_nexts))) (l_nexts : K.lookup f_nexts = some ⟨oc_nexts, od_nexts, .func (PySem.W.fnOf "nexts" "nexts" (defArgs s_nexts) (defBody s_nexts) (defScope s_nexts) .none kV_nexts dc_nexts pm_nexts an_nexts cd_nexts ct_nexts), sl_nexts⟩) (c_nexts : PySem.W.codeIn K cd_nexts "nexts" = true) (k_nexts : PySem.W.keepIn K (.ref f_nexts) = true)
    (a__law_begin : PySem.W.nsIn K mainGlobals "_law_begin" = some (some (.ref f__law_begin))) (l__law_begin : K.lookup f__law_begin = some ⟨oc__law_begin, od__law_begin, .func (PySem.W.fnOf "_law_begin" "_law_begin" (defArgs s__law_begin) (defBody s__law_begin) (defScope s__law_begin) .none kV__law_begin dc__law_begin pm__law_begin an__law_begin cd__law_begin ct__law_begin), sl__law_begin⟩) (c__law_begin : PySem.W.codeIn K cd__law_begin "_law_begin" = true) (k__law_begin : PySem.W.keepIn K (.ref f__law_begin) = true)
    (a__law_take : PySem.W.nsIn K mainGlobals "_law_take" = some (some (.ref f__law_take))) (l__law_take : K.lookup f__law_take = some ⟨oc__law_take, od__law_take, .func (PySem.W.fnOf "_law_take" "_law_take" (defArgs s__law_take) (defBody s__law_take) (defScope s__law_take) .none kV__law_take dc__law_take pm__law_take an__law_take cd__law_take ct__law_take), sl__law_take⟩) (c__law_take : PySem.W.codeIn K cd__law_take "_law_take" = true) (k__law_take : PySem.W.keepIn K (.ref f__law_take) = true)
    (a__law_gcd : PySem.W.nsIn K mainGlobals "_law_gcd" = some (some (.ref f__law_gcd))) (l__law_gcd : K.lookup f__law_gcd = some ⟨oc__law_gcd, od__law_gcd, .func (PySem.W.fnOf "_law_gcd" "_law_gcd" (defArgs s__law_gcd) (defBody s__law_gcd) (defScope s__law_gcd) .none kV__law_gcd dc__law_gcd pm__law_gcd an__law_gcd cd__law_gcd ct__law_gcd), sl__law_gcd⟩) (c__law_gcd : PySem.W.codeIn K cd__law_gcd "_law_gcd" = true) (k__law_gcd : PySem.W.keepIn K (.ref f__law_gcd) = true)
    (a__law_f : PySem.W.nsIn K mainGlobals "_law_f" = some (some (.ref f__law_f))) (l__law_f : K.lookup f__law_f = some ⟨oc__law_f, od__law_f, .func (PySem.W.fnOf "_law_f" "_law_f" (defArgs s__law_f) (defBody s__law_f) (defScope s__law_f) .none kV__law_f dc__law_f pm__law_f an__law_f cd__law_f ct__law_f), sl__law_f⟩) (c__law_f : PySem.W.codeIn K cd__law_f "_law_f" = true) (k__law_f : PySem.W.keepIn K (.ref f__law_f) = true)
    (a__law_plus : PySem.W.nsIn K mainGlobals "_law_plus" = some (some (.ref f__law_plus))) (l__law_plus : K.lookup f__law_plus = some ⟨oc__law_plus, od__law_plus, .func (PySem.W.fnOf "_law_plus" "_law_plus" (defArgs s__law_plus) (defBody s__law_plus) (defScope s__law_plus) .none kV__law_plus dc__law_plus pm__law_plus an__law_plus cd__law_plus ct__law_plus), sl__law_plus⟩) (c__law_plus : PySem.W.codeIn K cd__law_plus "_law_plus" = true) (k__law_plus : PySem.W.keepIn K (.ref f__law_plus) = true)
    (a__law_minus : PySem.W.nsIn K mainGlobals "_law_minus" = some (some (.ref f__law_minus))) (l__law_minus : K.lookup f__law_minus = some ⟨oc__law_minus, od__law_minus, .func (PySem.W.fnOf "_law_minus" "_law_minus" (defArgs s__law_minus) (defBody s__law_minus) (defScope s__law_minus) .none kV__law_minus dc__law_minus pm__law_minus an__law_minus cd__law_minus ct__law_minus), sl__law_minus⟩) (c__law_minus : PySem.W.codeIn K cd__law_minus "_law_minus" = true) (k__law_minus : PySem.W.keepIn K (.ref f__law_minus) = true)
    (a__law_times : PySem.W.nsIn K mainGlobals "_law_times" = some (some (.ref f__law_times))) (l__law_times : K.lookup f__law_times = some ⟨oc__law_times, od__law_times, .func (PySem.W.fnOf "_law_times" "_law_times" (defArgs s__law_times) (defBody s__law_times) (defScope s__law_times) .none kV__law_times dc__law_times pm__law_times an__law_times cd__law_times ct__law_times), sl__law_times⟩) (c__law_times : PySem.W.codeIn K cd__law_times "_law_times" = true) (k__law_times : PySem.W.keepIn K (.ref f__law_times) = true)
    (a__law_less : PySem.W.nsIn K mainGlobals "_law_less" = some (some (.ref f__law_less))) (l__law_less : K.lookup f__law_less = some ⟨oc__law_less, od__law_less, .func (PySem.W.fnOf "_law_less" "_law_less" (defArgs s__law_less) (defBody s__law_less) (defScope s__law_less) .none kV__law_less dc__law_less pm__law_less an__law_less cd__law_less ct__law_less), sl__law_less⟩) (c__law_less : PySem.W.codeIn K cd__law_less "_law_less" = true) (k__law_less : PySem.W.keepIn K (.ref f__law_less) = true)
    (a__law_spread : PySem.W.nsIn K mainGlobals "_law_spread" = some (some (.ref f__law_spread))) (l__law_spread : K.lookup f__law_spread = some ⟨oc__law_spread, od__law_spread, .func (PySem.W.fnOf "_law_spread" "_law_spread" (defArgs s__law_spread) (defBody s__law_spread) (defScope s__law_spread) .none kV__law_spread dc__law_spread pm__law_spread an__law_spread cd__law_spread ct__law_spread), sl__law_spread⟩) (c__law_spread : PySem.W.codeIn K cd__law_spread "_law_spread" = true) (k__law_spread : PySem.W.keepIn K (.ref f__law_spread) = true)
    (a__law_node : PySem.W.nsIn K mainGlobals "_law_node" = some (some (.ref f__law_node))) (l__law_node : K.lookup f__law_node = some ⟨oc__law_node, od__law_node, .func (PySem.W.fnOf "_law_node" "_law_node" (defArgs s__law_node) (defBody s__law_node) (defScope s__law_node) .none kV__law_node dc__law_node pm__law_node an__law_node cd__law_node ct__law_node), sl__law_node⟩) (c__law_node : PySem.W.codeIn K cd__law_node "_law_node" = true) (k__law_node : PySem.W.keepIn K (.ref f__law_node) = true)
    (a__law_market : PySem.W.nsIn K mainGlobals "_law_market" = some (some (.ref f__law_market))) (l__law_market : K.lookup f__law_market = some ⟨oc__law_market, od__law_market, .func (PySem.W.fnOf "_law_market" "_law_market" (defArgs s__law_market) (defBody s__law_market) (defScope s__law_market) .none kV__law_market dc__law_market pm__law_market an__law_market cd__law_market ct__law_market), sl__law_market⟩) (c__law_market : PySem.W.codeIn K cd__law_market "_law_market" = true) (k__law_market : PySem.W.keepIn K (.ref f__law_market) = true)
    (a__law_nodes : PySem.W.nsIn K mainGlobals "_law_nodes" = some (some (.ref f__law_nodes))) (l__law_nodes : K.lookup f__law_nodes = some ⟨oc__law_nodes, od__law_nodes, .func (PySem.W.fnOf "_law_nodes" "_law_nodes" (defArgs s__law_nodes) (defBody s__law_nodes) (defScope s__law_nodes) .none kV__law_nodes dc__law_nodes pm__law_nodes an__law_nodes cd__law_nodes ct__law_nodes), sl__law_nodes⟩) (c__law_nodes : PySem.W.codeIn K cd__law_nodes "_law_nodes" = true) (k__law_nodes : PySem.W.keepIn K (.ref f__law_nodes) = true)
    (a__law_find : PySem.W.nsIn K mainGlobals "_law_find" = some (some (.ref f__law_find))) (l__law_find : K.lookup f__law_find = some ⟨oc__law_find, od__law_find, .func (PySem.W.fnOf "_law_find" "_law_find" (defArgs s__law_find) (defBody s__law_find) (defScope s__law_find) .none kV__law_find dc__law_find pm__law_find an__law_find cd__law_find ct__law_find), sl__law_find⟩) (c__law_find : PySem.W.codeIn K cd__law_find "_law_find" = true) (k__law_find : PySem.W.keepIn K (.ref f__law_find) = true)
    (a__law_prices : PySem.W.nsIn K mainGlobals "_law_prices" = some (some (.ref f__law_prices))) (l__law_prices : K.lookup f__law_prices = some ⟨oc__law_prices, od__law_prices, .func (PySem.W.fnOf "_law_prices" "_law_prices" (defArgs s__law_prices) (defBody s__law_prices) (defScope s__law_prices) .none kV__law_prices dc__law_prices pm__law_prices an__law_prices cd__law_prices ct__law_prices), sl__law_prices⟩) (c__law_prices : PySem.W.codeIn K cd__law_prices "_law_prices" = true) (k__law_prices : PySem.W.keepIn K (.ref f__law_prices) = true)
    (a__law_ends : PySem.W.nsIn K mainGlobals "_law_ends" = some (some (.ref f__law_ends))) (l__law_ends : K.lookup f__law_ends = some ⟨oc__law_ends, od__law_ends, .func (PySem.W.fnOf "_law_ends" "_law_ends" (defArgs s__law_ends) (defBody s__law_ends) (defScope s__law_ends) .none kV__law_ends dc__law_ends pm__law_ends an__law_ends cd__law_ends ct__law_ends), sl__law_ends⟩) (c__law_ends : PySem.W.codeIn K cd__law_ends "_law_ends" = true) (k__law_ends : PySem.W.keepIn K (.ref f__law_ends) = true)
    (a__law_told : PySem.W.nsIn K mainGlobals "_law_told" = some (some (.ref f__law_told))) (l__law_told : K.lookup f__law_told = some ⟨oc__law_told, od__law_told, .func (PySem.W.fnOf "_law_told" "_law_told" (defArgs s__law_told) (defBody s__law_told) (defScope s__law_told) .none kV__law_told dc__law_told pm__law_told an__law_told cd__law_told ct__law_told), sl__law_told⟩) (c__law_told : PySem.W.codeIn K cd__law_told "_law_told" = true) (k__law_told : PySem.W.keepIn K (.ref f__law_told) = true)
    (a__law_bent_node : PySem.W.nsIn K mainGlobals "_law_bent_node" = some (some (.ref f__law_bent_node))) (l__law_bent_node : K.lookup f__law_bent_node = some ⟨oc__law_bent_node, od__law_bent_node, .func (PySem.W.fnOf "_law_bent_node" "_law_bent_node" (defArgs s__law_bent_node) (defBody s__law_bent_node) (defScope s__law_bent_node) .none kV__law_bent_node dc__law_bent_node pm__law_bent_node an__law_bent_node cd__law_bent_node ct__law_bent_node), sl__law_bent_node⟩) (c__law_bent_node : PySem.W.codeIn K cd__law_bent_node "_law_bent_node" = true) (k__law_bent_node : PySem.W.keepIn K (.ref f__law_bent_node) = true)
    (a__law_due : PySem.W.nsIn K mainGlobals "_law_due" = some (some (.ref f__law_due))) (l__law_due : K.lookup f__law_due = some ⟨oc__law_due, od__law_due, .func (PySem.W.fnOf "_law_due" "_law_due" (defArgs s__law_due) (defBody s__law_due) (defScope s__law_due) .none kV__law_due dc__law_due pm__law_due an__law_due cd__law_due ct__law_due), sl__law_due⟩) (c__law_due : PySem.W.codeIn K cd__law_due "_law_due" = true) (k__law_due : PySem.W.keepIn K (.ref f__law_due) = true)
    (a_law : PySem.W.nsIn K mainGlobals "law" = some (some (.ref f_law))) (l_law : K.lookup f_law = some ⟨oc_law, od_law, .func (PySem.W.fnOf "law" "law" (defArgs s_law) (defBody s_law) (defScope s_law) .none kV_law dc_law pm_law an_law cd_law ct_law), sl_law⟩) (c_law : PySem.W.codeIn K cd_law "law" = true) (k_law : PySem.W.keepIn K (.ref f_law) = true)
    (z_abs : PySem.W.nsIn K mainGlobals "abs" = some none)
    (z_int : PySem.W.nsIn K mainGlobals "int" = some none)
    (z_isinstance : PySem.W.nsIn K mainGlobals "isinstance" = some none)
    (z_len : PySem.W.nsIn K mainGlobals "len" = some none)
    (z_list : PySem.W.nsIn K mainGlobals "list" = some none)
    (z_max : PySem.W.nsIn K mainGlobals "max" = some none)
    (z_min : PySem.W.nsIn K mainGlobals "min" = some none)
    (z_range : PySem.W.nsIn K mainGlobals "range" = some none)
    (z_reversed : PySem.W.nsIn K mainGlobals "reversed" = some none)
    (z_sorted : PySem.W.nsIn K mainGlobals "sorted" = some none)
    (z_sum : PySem.W.nsIn K mainGlobals "sum" = some none)
    (z_tuple : PySem.W.nsIn K mainGlobals "tuple" = some none)
    (j_GOODS_LIMIT : PySem.W.nsIn K mainGlobals "GOODS_LIMIT" = some (some (.int 4 tk_GOODS_LIMIT)))
    (j_MOMENT_LIMIT : PySem.W.nsIn K mainGlobals "MOMENT_LIMIT" = some (some (.int 40 tk_MOMENT_LIMIT)))
    (j_TIME_LIMIT : PySem.W.nsIn K mainGlobals "TIME_LIMIT" = some (some (.int 5 tk_TIME_LIMIT)))
    (ca_MarketplaceError : PySem.W.nsIn K mainGlobals "MarketplaceError" = some (some (.ref C_MarketplaceError)))
    (cx_MarketplaceError : PySem.W.excIn K C_MarketplaceError [.type "ValueError", .type "Exception", .type "BaseException", .type "object"] "ValueError.__new__" = true)
    (ck_MarketplaceError : PySem.W.keepIn K (.ref C_MarketplaceError) = true) (cb_MarketplaceError : PySem.W.subIn K (.ref C_MarketplaceError) (.type "BaseException") = some true) (ct0_MarketplaceError : PySem.W.typeIn K (.ref C_MarketplaceError) = some (.type "type")) (ch_MarketplaceError : PySem.W.hasDictIn K C_MarketplaceError = true)
    (e1_MarketplaceError : PySem.W.findIn K (.ref C_MarketplaceError) "__getattribute__" = some (some (.builtin "BaseException.__getattribute__"))) (e2_MarketplaceError : PySem.W.findIn K (.ref C_MarketplaceError) "__getattr__" = some none) (e3_MarketplaceError : PySem.W.findIn K (.ref C_MarketplaceError) "__class__" = some (some (.builtin "object.__class__"))) (e4_MarketplaceError : PySem.W.mroIn K C_MarketplaceError (.type "object") = some true)
    (ca_MarketError : PySem.W.nsIn K mainGlobals "MarketError" = some (some (.ref C_MarketError)))
    (cx_MarketError : PySem.W.excIn K C_MarketError [.type "ValueError", .type "Exception", .type "BaseException", .type "object"] "ValueError.__new__" = true)
    (ck_MarketError : PySem.W.keepIn K (.ref C_MarketError) = true) (cb_MarketError : PySem.W.subIn K (.ref C_MarketError) (.type "BaseException") = some true) (ct0_MarketError : PySem.W.typeIn K (.ref C_MarketError) = some (.type "type")) (ch_MarketError : PySem.W.hasDictIn K C_MarketError = true)
    (e1_MarketError : PySem.W.findIn K (.ref C_MarketError) "__getattribute__" = some (some (.builtin "BaseException.__getattribute__"))) (e2_MarketError : PySem.W.findIn K (.ref C_MarketError) "__getattr__" = some none) (e3_MarketError : PySem.W.findIn K (.ref C_MarketError) "__class__" = some (some (.builtin "object.__class__"))) (e4_MarketError : PySem.W.mroIn K C_MarketError (.type "object") = some true)
    (ca_TooLarge : PySem.W.nsIn K mainGlobals "TooLarge" = some (some (.ref C_TooLarge)))
    (cx_TooLarge : PySem.W.excIn K C_TooLarge [.type "ValueError", .type "Exception", .type "BaseException", .type "object"] "ValueError.__new__" = true)
    (ck_TooLarge : PySem.W.keepIn K (.ref C_TooLarge) = true) (cb_TooLarge : PySem.W.subIn K (.ref C_TooLarge) (.type "BaseException") = some true) (ct0_TooLarge : PySem.W.typeIn K (.ref C_TooLarge) = some (.type "type")) (ch_TooLarge : PySem.W.hasDictIn K C_TooLarge = true)
    (e1_TooLarge : PySem.W.findIn K (.ref C_TooLarge) "__getattribute__" = some (some (.builtin "BaseException.__getattribute__"))) (e2_TooLarge : PySem.W.findIn K (.ref C_TooLarge) "__getattr__" = some none) (e3_TooLarge : PySem.W.findIn K (.ref C_TooLarge) "__class__" = some (some (.builtin "object.__class__"))) (e4_TooLarge : PySem.W.mroIn K C_TooLarge (.type "object") = some true)
    (ca_MomentError : PySem.W.nsIn K mainGlobals "MomentError" = some (some (.ref C_MomentError)))
    (cx_MomentError : PySem.W.excIn K C_MomentError [.type "ValueError", .type "Exception", .type "BaseException", .type "object"] "ValueError.__new__" = true)
    (ck_MomentError : PySem.W.keepIn K (.ref C_MomentError) = true) (cb_MomentError : PySem.W.subIn K (.ref C_MomentError) (.type "BaseException") = some true) (ct0_MomentError : PySem.W.typeIn K (.ref C_MomentError) = some (.type "type")) (ch_MomentError : PySem.W.hasDictIn K C_MomentError = true)
    (e1_MomentError : PySem.W.findIn K (.ref C_MomentError) "__getattribute__" = some (some (.builtin "BaseException.__getattribute__"))) (e2_MomentError : PySem.W.findIn K (.ref C_MomentError) "__getattr__" = some none) (e3_MomentError : PySem.W.findIn K (.ref C_MomentError) "__class__" = some (some (.builtin "object.__class__"))) (e4_MomentError : PySem.W.mroIn K C_MomentError (.type "object") = some true)
    (e5 : PySem.W.specialIn K (.builtin "object.__class__") "__get__" = some (some (.builtin "getset_descriptor.__get__"))) (e6 : PySem.W.takesIn K (.builtin "object.__class__") = some true)
    (s_MarketError_MarketplaceError : PySem.W.subIn K (.ref C_MarketError) (.ref C_MarketplaceError) = some true)
    (s_MarketError_MarketError : PySem.W.subIn K (.ref C_MarketError) (.ref C_MarketError) = some true)
    (s_MarketError_TooLarge : PySem.W.subIn K (.ref C_MarketError) (.ref C_TooLarge) = some false)
    (s_MarketError_MomentError : PySem.W.subIn K (.ref C_MarketError) (.ref C_MomentError) = some false)
    (s_TooLarge_MarketplaceError : PySem.W.subIn K (.ref C_TooLarge) (.ref C_MarketplaceError) = some true)
    (s_TooLarge_MarketError : PySem.W.subIn K (.ref C_TooLarge) (.ref C_MarketError) = some false)
    (s_TooLarge_TooLarge : PySem.W.subIn K (.ref C_TooLarge) (.ref C_TooLarge) = some true)
    (s_TooLarge_MomentError : PySem.W.subIn K (.ref C_TooLarge) (.ref C_MomentError) = some false)
    (s_MomentError_MarketplaceError : PySem.W.subIn K (.ref C_MomentError) (.ref C_MarketplaceError) = some true)
    (s_MomentError_MarketError : PySem.W.subIn K (.ref C_MomentError) (.ref C_MarketError) = some false)
    (s_MomentError_TooLarge : PySem.W.subIn K (.ref C_MomentError) (.ref C_TooLarge) = some false)
    (s_MomentError_MomentError : PySem.W.subIn K (.ref C_MomentError) (.ref C_MomentError) = some true)
    : ∃ fd : FuncData, (∀ (s : Shared) (v : Value), BindsTo s fd ⟨[v], []⟩ [("script", v)]) ∧ ∀ base : Heap, K.In base → base.Ns mainGlobals mg → FnOk P w K mg base L2.CX0 10 fa fd ["script"] (sp_law K) := by
  have e := hfa.symm.trans (PySem.W.mg_of X G a_law)
  cases e
  have F_compare := fun_mk (st := s_compare) l_compare c_compare k_compare
  have F_check_market := fun_mk (st := s_check_market) l_check_market c_check_market k_check_market
  have F__check_prices := fun_mk (st := s__check_prices) l__check_prices c__check_prices k__check_prices
  have F_walk := fun_mk (st := s_walk) l_walk c_walk k_walk
  have F_node_at := fun_mk (st := s_node_at) l_node_at c_node_at k_node_at
  have F_moments := fun_mk (st := s_moments) l_moments c_moments k_moments
  have F_ends := fun_mk (st := s_ends) l_ends c_ends k_ends
  have F_last_time := fun_mk (st := s_last_time) l_last_time c_last_time k_last_time
  have F_price_of := fun_mk (st := s_price_of) l_price_of c_price_of k_price_of
  have F_nexts := fun_mk (st := s_nexts) l_nexts c_nexts k_nexts
  have F__law_begin := fun_mk (st := s__law_begin) l__law_begin c__law_begin k__law_begin
  have F__law_take := fun_mk (st := s__law_take) l__law_take c__law_take k__law_take
  have F__law_gcd := fun_mk (st := s__law_gcd) l__law_gcd c__law_gcd k__law_gcd
  have F__law_f := fun_mk (st := s__law_f) l__law_f c__law_f k__law_f
  have F__law_plus := fun_mk (st := s__law_plus) l__law_plus c__law_plus k__law_plus
  have F__law_minus := fun_mk (st := s__law_minus) l__law_minus c__law_minus k__law_minus
  have F__law_times := fun_mk (st := s__law_times) l__law_times c__law_times k__law_times
  have F__law_less := fun_mk (st := s__law_less) l__law_less c__law_less k__law_less
  have F__law_spread := fun_mk (st := s__law_spread) l__law_spread c__law_spread k__law_spread
  have F__law_node := fun_mk (st := s__law_node) l__law_node c__law_node k__law_node
  have F__law_market := fun_mk (st := s__law_market) l__law_market c__law_market k__law_market
  have F__law_nodes := fun_mk (st := s__law_nodes) l__law_nodes c__law_nodes k__law_nodes
  have F__law_find := fun_mk (st := s__law_find) l__law_find c__law_find k__law_find
  have F__law_prices := fun_mk (st := s__law_prices) l__law_prices c__law_prices k__law_prices
  have F__law_ends := fun_mk (st := s__law_ends) l__law_ends c__law_ends k__law_ends
  have F__law_told := fun_mk (st := s__law_told) l__law_told c__law_told k__law_told
  have F__law_bent_node := fun_mk (st := s__law_bent_node) l__law_bent_node c__law_bent_node k__law_bent_node
  have F__law_due := fun_mk (st := s__law_due) l__law_due c__law_due k__law_due
  have F_law := fun_mk (st := s_law) l_law c_law k_law
  have T : Top K mg := {
    a_compare := f_compare, d_compare := _, compare_F := F_compare, compare_b := F_compare.binds (ps := ["a", "b"]) fun _ _ _ _ _ _ us hl => match us, hl with | [_, _], _ => rfl, g_compare := PySem.W.mg_of X G a_compare,
    a_check_market := f_check_market, d_check_market := _, check_market_F := F_check_market, check_market_b := F_check_market.binds (ps := ["market"]) fun _ _ _ _ _ _ us hl => match us, hl with | [_], _ => rfl, g_check_market := PySem.W.mg_of X G a_check_market,
    a__check_prices := f__check_prices, d__check_prices := _, _check_prices_F := F__check_prices, _check_prices_b := F__check_prices.binds (ps := ["goods", "prices"]) fun _ _ _ _ _ _ us hl => match us, hl with | [_, _], _ => rfl, g__check_prices := PySem.W.mg_of X G a__check_prices,
    a_walk := f_walk, d_walk := _, walk_F := F_walk, walk_b := F_walk.binds (ps := ["market"]) fun _ _ _ _ _ _ us hl => match us, hl with | [_], _ => rfl, g_walk := PySem.W.mg_of X G a_walk,
    a_node_at := f_node_at, d_node_at := _, node_at_F := F_node_at, node_at_b := F_node_at.binds (ps := ["market", "path"]) fun _ _ _ _ _ _ us hl => match us, hl with | [_, _], _ => rfl, g_node_at := PySem.W.mg_of X G a_node_at,
    a_moments := f_moments, d_moments := _, moments_F := F_moments, moments_b := F_moments.binds (ps := ["market"]) fun _ _ _ _ _ _ us hl => match us, hl with | [_], _ => rfl, g_moments := PySem.W.mg_of X G a_moments,
    a_ends := f_ends, d_ends := _, ends_F := F_ends, ends_b := F_ends.binds (ps := ["market"]) fun _ _ _ _ _ _ us hl => match us, hl with | [_], _ => rfl, g_ends := PySem.W.mg_of X G a_ends,
    a_last_time := f_last_time, d_last_time := _, last_time_F := F_last_time, last_time_b := F_last_time.binds (ps := ["market"]) fun _ _ _ _ _ _ us hl => match us, hl with | [_], _ => rfl, g_last_time := PySem.W.mg_of X G a_last_time,
    a_price_of := f_price_of, d_price_of := _, price_of_F := F_price_of, price_of_b := F_price_of.binds (ps := ["market", "path", "good"]) fun _ _ _ _ _ _ us hl => match us, hl with | [_, _, _], _ => rfl, g_price_of := PySem.W.mg_of X G a_price_of,
    a_nexts := f_nexts, d_nexts := _, nexts_F := F_nexts, nexts_b := F_nexts.binds (ps := ["market", "path"]) fun _ _ _ _ _ _ us hl => match us, hl with | [_, _], _ => rfl, g_nexts := PySem.W.mg_of X G a_nexts,
    a__law_begin := f__law_begin, d__law_begin := _, _law_begin_F := F__law_begin, _law_begin_b := F__law_begin.binds (ps := ["script"]) fun _ _ _ _ _ _ us hl => match us, hl with | [_], _ => rfl, g__law_begin := PySem.W.mg_of X G a__law_begin,
    a__law_take := f__law_take, d__law_take := _, _law_take_F := F__law_take, _law_take_b := F__law_take.binds (ps := ["d", "many"]) fun _ _ _ _ _ _ us hl => match us, hl with | [_, _], _ => rfl, g__law_take := PySem.W.mg_of X G a__law_take,
    a__law_gcd := f__law_gcd, d__law_gcd := _, _law_gcd_F := F__law_gcd, _law_gcd_b := F__law_gcd.binds (ps := ["a", "b"]) fun _ _ _ _ _ _ us hl => match us, hl with | [_, _], _ => rfl, g__law_gcd := PySem.W.mg_of X G a__law_gcd,
    a__law_f := f__law_f, d__law_f := _, _law_f_F := F__law_f, _law_f_b := F__law_f.binds (ps := ["a", "b"]) fun _ _ _ _ _ _ us hl => match us, hl with | [_, _], _ => rfl, g__law_f := PySem.W.mg_of X G a__law_f,
    a__law_plus := f__law_plus, d__law_plus := _, _law_plus_F := F__law_plus, _law_plus_b := F__law_plus.binds (ps := ["a", "b"]) fun _ _ _ _ _ _ us hl => match us, hl with | [_, _], _ => rfl, g__law_plus := PySem.W.mg_of X G a__law_plus,
    a__law_minus := f__law_minus, d__law_minus := _, _law_minus_F := F__law_minus, _law_minus_b := F__law_minus.binds (ps := ["a", "b"]) fun _ _ _ _ _ _ us hl => match us, hl with | [_, _], _ => rfl, g__law_minus := PySem.W.mg_of X G a__law_minus,
    a__law_times := f__law_times, d__law_times := _, _law_times_F := F__law_times, _law_times_b := F__law_times.binds (ps := ["a", "b"]) fun _ _ _ _ _ _ us hl => match us, hl with | [_, _], _ => rfl, g__law_times := PySem.W.mg_of X G a__law_times,
    a__law_less := f__law_less, d__law_less := _, _law_less_F := F__law_less, _law_less_b := F__law_less.binds (ps := ["a", "b"]) fun _ _ _ _ _ _ us hl => match us, hl with | [_, _], _ => rfl, g__law_less := PySem.W.mg_of X G a__law_less,
    a__law_spread := f__law_spread, d__law_spread := _, _law_spread_F := F__law_spread, _law_spread_b := F__law_spread.binds (ps := ["d", "mid"]) fun _ _ _ _ _ _ us hl => match us, hl with | [_, _], _ => rfl, g__law_spread := PySem.W.mg_of X G a__law_spread,
    a__law_node := f__law_node, d__law_node := _, _law_node_F := F__law_node, _law_node_b := F__law_node.binds (ps := ["d", "goods", "time", "last", "wild"]) fun _ _ _ _ _ _ us hl => match us, hl with | [_, _, _, _, _], _ => rfl, g__law_node := PySem.W.mg_of X G a__law_node,
    a__law_market := f__law_market, d__law_market := _, _law_market_F := F__law_market, _law_market_b := F__law_market.binds (ps := ["d", "most"]) fun _ _ _ _ _ _ us hl => match us, hl with | [_, _], _ => rfl, g__law_market := PySem.W.mg_of X G a__law_market,
    a__law_nodes := f__law_nodes, d__law_nodes := _, _law_nodes_F := F__law_nodes, _law_nodes_b := F__law_nodes.binds (ps := ["market"]) fun _ _ _ _ _ _ us hl => match us, hl with | [_], _ => rfl, g__law_nodes := PySem.W.mg_of X G a__law_nodes,
    a__law_find := f__law_find, d__law_find := _, _law_find_F := F__law_find, _law_find_b := F__law_find.binds (ps := ["market", "path"]) fun _ _ _ _ _ _ us hl => match us, hl with | [_, _], _ => rfl, g__law_find := PySem.W.mg_of X G a__law_find,
    a__law_prices := f__law_prices, d__law_prices := _, _law_prices_F := F__law_prices, _law_prices_b := F__law_prices.binds (ps := ["market", "path"]) fun _ _ _ _ _ _ us hl => match us, hl with | [_, _], _ => rfl, g__law_prices := PySem.W.mg_of X G a__law_prices,
    a__law_ends := f__law_ends, d__law_ends := _, _law_ends_F := F__law_ends, _law_ends_b := F__law_ends.binds (ps := ["market"]) fun _ _ _ _ _ _ us hl => match us, hl with | [_], _ => rfl, g__law_ends := PySem.W.mg_of X G a__law_ends,
    a__law_told := f__law_told, d__law_told := _, _law_told_F := F__law_told, _law_told_b := F__law_told.binds (ps := ["which", "market", "path", "good"]) fun _ _ _ _ _ _ us hl => match us, hl with | [_, _, _, _], _ => rfl, g__law_told := PySem.W.mg_of X G a__law_told,
    a__law_bent_node := f__law_bent_node, d__law_bent_node := _, _law_bent_node_F := F__law_bent_node, _law_bent_node_b := F__law_bent_node.binds (ps := ["d", "node"]) fun _ _ _ _ _ _ us hl => match us, hl with | [_, _], _ => rfl, g__law_bent_node := PySem.W.mg_of X G a__law_bent_node,
    a__law_due := f__law_due, d__law_due := _, _law_due_F := F__law_due, _law_due_b := F__law_due.binds (ps := ["market"]) fun _ _ _ _ _ _ us hl => match us, hl with | [_], _ => rfl, g__law_due := PySem.W.mg_of X G a__law_due,
    n_abs := PySem.W.mg_none_of X G z_abs,
    n_int := PySem.W.mg_none_of X G z_int,
    n_isinstance := PySem.W.mg_none_of X G z_isinstance,
    n_len := PySem.W.mg_none_of X G z_len,
    n_list := PySem.W.mg_none_of X G z_list,
    n_max := PySem.W.mg_none_of X G z_max,
    n_min := PySem.W.mg_none_of X G z_min,
    n_range := PySem.W.mg_none_of X G z_range,
    n_reversed := PySem.W.mg_none_of X G z_reversed,
    n_sorted := PySem.W.mg_none_of X G z_sorted,
    n_sum := PySem.W.mg_none_of X G z_sum,
    n_tuple := PySem.W.mg_none_of X G z_tuple,
    t_GOODS_LIMIT := tk_GOODS_LIMIT, g_GOODS_LIMIT := PySem.W.mg_of X G j_GOODS_LIMIT,
    t_MOMENT_LIMIT := tk_MOMENT_LIMIT, g_MOMENT_LIMIT := PySem.W.mg_of X G j_MOMENT_LIMIT,
    t_TIME_LIMIT := tk_TIME_LIMIT, g_TIME_LIMIT := PySem.W.mg_of X G j_TIME_LIMIT,
    c_MarketplaceError := C_MarketplaceError, g_MarketplaceError := PySem.W.mg_of X G ca_MarketplaceError, x_MarketplaceError := cx_MarketplaceError, k_MarketplaceError := ck_MarketplaceError, b_MarketplaceError := cb_MarketplaceError, t_MarketplaceError := ct0_MarketplaceError, h_MarketplaceError := ch_MarketplaceError, e_MarketplaceError := ⟨e1_MarketplaceError, e2_MarketplaceError, cb_MarketplaceError, ch_MarketplaceError, e3_MarketplaceError, e5, e6, e4_MarketplaceError⟩,
    c_MarketError := C_MarketError, g_MarketError := PySem.W.mg_of X G ca_MarketError, x_MarketError := cx_MarketError, k_MarketError := ck_MarketError, b_MarketError := cb_MarketError, t_MarketError := ct0_MarketError, h_MarketError := ch_MarketError, e_MarketError := ⟨e1_MarketError, e2_MarketError, cb_MarketError, ch_MarketError, e3_MarketError, e5, e6, e4_MarketError⟩,
    c_TooLarge := C_TooLarge, g_TooLarge := PySem.W.mg_of X G ca_TooLarge, x_TooLarge := cx_TooLarge, k_TooLarge := ck_TooLarge, b_TooLarge := cb_TooLarge, t_TooLarge := ct0_TooLarge, h_TooLarge := ch_TooLarge, e_TooLarge := ⟨e1_TooLarge, e2_TooLarge, cb_TooLarge, ch_TooLarge, e3_TooLarge, e5, e6, e4_TooLarge⟩,
    c_MomentError := C_MomentError, g_MomentError := PySem.W.mg_of X G ca_MomentError, x_MomentError := cx_MomentError, k_MomentError := ck_MomentError, b_MomentError := cb_MomentError, t_MomentError := ct0_MomentError, h_MomentError := ch_MomentError, e_MomentError := ⟨e1_MomentError, e2_MomentError, cb_MomentError, ch_MomentError, e3_MomentError, e5, e6, e4_MomentError⟩,
    s_MarketError_MarketplaceError := s_MarketError_MarketplaceError,
    s_MarketError_MarketError := s_MarketError_MarketError,
    s_MarketError_TooLarge := s_MarketError_TooLarge,
    s_MarketError_MomentError := s_MarketError_MomentError,
    s_TooLarge_MarketplaceError := s_TooLarge_MarketplaceError,
    s_TooLarge_MarketError := s_TooLarge_MarketError,
    s_TooLarge_TooLarge := s_TooLarge_TooLarge,
    s_TooLarge_MomentError := s_TooLarge_MomentError,
    s_MomentError_MarketplaceError := s_MomentError_MarketplaceError,
    s_MomentError_MarketError := s_MomentError_MarketError,
    s_MomentError_TooLarge := s_MomentError_TooLarge,
    s_MomentError_MomentError := s_MomentError_MomentError }
  exact ⟨_, fun s v => .of_eq rfl, fun base _ _ => ok_law T F_law⟩
end Nl
open PySem PySem.W PyProof.Rows
set_option maxHeartbeats 0 in
theorem PySem.Challenge.cw_nolunch_k03_markets_are_checked_holds : PySem.Challenge.rw_nolunch_k03_markets_are_checked.Holds := by
  w_on; o_law; k_head; (case hw => w_witness2)
  k_fill
  refine L2.walk_of (l := PySem.Challenge.rw_nolunch_k03_markets_are_checked) (n := 63) (k := 10) (x := "script") (CX := fun _ => L2.CX0) (sp := fun w => Nl.sp_law _) rfl (by decide) rfl ⟨rfl, by decide, by decide⟩ (fun w h Y => PySem.W.kIn_of Y) ?F (fun _ _ a ns hl _ hS => ⟨a, ns, rfl, hS, hl, fun _ => rfl⟩) (fun _ _ _ _ _ h => h)
  case F =>
    intro w mg fa h KX G hmg
    refine' Nl.all_mk KX G hmg ?a_compare ?l_compare ?c_compare ?k_compare ?a_check_market ?l_check_market ?c_check_market ?k_check_market ?a__check_prices ?l__check_prices ?c__check_prices ?k__check_prices ?a_walk ?l_walk ?c_walk ?k_walk ?a_node_at ?l_node_at ?c_node_at ?k_node_at ?a_moments ?l_moments ?c_moments ?k_moments ?a_ends ?l_ends ?c_ends ?k_ends ?a_last_time ?l_last_time ?c_last_time ?k_last_time ?a_price_of ?l_price_of ?c_price_of ?k_price_of ?a_nexts ?l_nexts ?c_nexts ?k_nexts ?a__law_begin ?l__law_begin ?c__law_begin ?k__law_begin ?a__law_take ?l__law_take ?c__law_take ?k__law_take ?a__law_gcd ?l__law_gcd ?c__law_gcd ?k__law_gcd ?a__law_f ?l__law_f ?c__law_f ?k__law_f ?a__law_plus ?l__law_plus ?c__law_plus ?k__law_plus ?a__law_minus ?l__law_minus ?c__law_minus ?k__law_minus ?a__law_times ?l__law_times ?c__law_times ?k__law_times ?a__law_less ?l__law_less ?c__law_less ?k__law_less ?a__law_spread ?l__law_spread ?c__law_spread ?k__law_spread ?a__law_node ?l__law_node ?c__law_node ?k__law_node ?a__law_market ?l__law_market ?c__law_market ?k__law_market ?a__law_nodes ?l__law_nodes ?c__law_nodes ?k__law_nodes ?a__law_find ?l__law_find ?c__law_find ?k__law_find ?a__law_prices ?l__law_prices ?c__law_prices ?k__law_prices ?a__law_ends ?l__law_ends ?c__law_ends ?k__law_ends ?a__law_told ?l__law_told ?c__law_told ?k__law_told ?a__law_bent_node ?l__law_bent_node ?c__law_bent_node ?k__law_bent_node ?a__law_due ?l__law_due ?c__law_due ?k__law_due ?a_law ?l_law ?c_law ?k_law ?z_abs ?z_int ?z_isinstance ?z_len ?z_list ?z_max ?z_min ?z_range ?z_reversed ?z_sorted ?z_sum ?z_tuple ?j_GOODS_LIMIT ?j_MOMENT_LIMIT ?j_TIME_LIMIT ?ca_MarketplaceError ?cx_MarketplaceError ?ck_MarketplaceError ?cb_MarketplaceError ?ct0_MarketplaceError ?ch_MarketplaceError ?e1_MarketplaceError ?e2_MarketplaceError ?e3_MarketplaceError ?e4_MarketplaceError ?ca_MarketError ?cx_MarketError ?ck_MarketError ?cb_MarketError ?ct0_MarketError ?ch_MarketError ?e1_MarketError ?e2_MarketError ?e3_MarketError ?e4_MarketError ?ca_TooLarge ?cx_TooLarge ?ck_TooLarge ?cb_TooLarge ?ct0_TooLarge ?ch_TooLarge ?e1_TooLarge ?e2_TooLarge ?e3_TooLarge ?e4_TooLarge ?ca_MomentError ?cx_MomentError ?ck_MomentError ?cb_MomentError ?ct0_MomentError ?ch_MomentError ?e1_MomentError ?e2_MomentError ?e3_MomentError ?e4_MomentError ?e5 ?e6 ?s_MarketError_MarketplaceError ?s_MarketError_MarketError ?s_MarketError_TooLarge ?s_MarketError_MomentError ?s_TooLarge_MarketplaceError ?s_TooLarge_MarketError ?s_TooLarge_TooLarge ?s_TooLarge_MomentError ?s_MomentError_MarketplaceError ?s_MomentError_MarketError ?s_MomentError_TooLarge ?s_MomentError_MomentError
    (case a_compare => k_is); (case l_compare => k_is); (case c_compare => k_is); (case k_compare => k_is); (case a_check_market => k_is); (case l_check_market => k_is)
    (case c_check_market => k_is); (case k_check_market => k_is); (case a__check_prices => k_is); (case l__check_prices => k_is); (case c__check_prices => k_is); (case k__check_prices => k_is)
    (case a_walk => k_is); (case l_walk => k_is); (case c_walk => k_is); (case k_walk => k_is); (case a_node_at => k_is); (case l_node_at => k_is)
    (case c_node_at => k_is); (case k_node_at => k_is); (case a_moments => k_is); (case l_moments => k_is); (case c_moments => k_is); (case k_moments => k_is)
    (case a_ends => k_is); (case l_ends => k_is); (case c_ends => k_is); (case k_ends => k_is); (case a_last_time => k_is); (case l_last_time => k_is)
    (case c_last_time => k_is); (case k_last_time => k_is); (case a_price_of => k_is); (case l_price_of => k_is); (case c_price_of => k_is); (case k_price_of => k_is)
    (case a_nexts => k_is); (case l_nexts => k_is); (case c_nexts => k_is); (case k_nexts => k_is); (case a__law_begin => k_is); (case l__law_begin => k_is)
    (case c__law_begin => k_is); (case k__law_begin => k_is); (case a__law_take => k_is); (case l__law_take => k_is); (case c__law_take => k_is); (case k__law_take => k_is)
    (case a__law_gcd => k_is); (case l__law_gcd => k_is); (case c__law_gcd => k_is); (case k__law_gcd => k_is); (case a__law_f => k_is); (case l__law_f => k_is)
    (case c__law_f => k_is); (case k__law_f => k_is); (case a__law_plus => k_is); (case l__law_plus => k_is); (case c__law_plus => k_is); (case k__law_plus => k_is)
    (case a__law_minus => k_is); (case l__law_minus => k_is); (case c__law_minus => k_is); (case k__law_minus => k_is); (case a__law_times => k_is); (case l__law_times => k_is)
    (case c__law_times => k_is); (case k__law_times => k_is); (case a__law_less => k_is); (case l__law_less => k_is); (case c__law_less => k_is); (case k__law_less => k_is)
    (case a__law_spread => k_is); (case l__law_spread => k_is); (case c__law_spread => k_is); (case k__law_spread => k_is); (case a__law_node => k_is); (case l__law_node => k_is)
    (case c__law_node => k_is); (case k__law_node => k_is); (case a__law_market => k_is); (case l__law_market => k_is); (case c__law_market => k_is); (case k__law_market => k_is)
    (case a__law_nodes => k_is); (case l__law_nodes => k_is); (case c__law_nodes => k_is); (case k__law_nodes => k_is); (case a__law_find => k_is); (case l__law_find => k_is)
    (case c__law_find => k_is); (case k__law_find => k_is); (case a__law_prices => k_is); (case l__law_prices => k_is); (case c__law_prices => k_is); (case k__law_prices => k_is)
    (case a__law_ends => k_is); (case l__law_ends => k_is); (case c__law_ends => k_is); (case k__law_ends => k_is); (case a__law_told => k_is); (case l__law_told => k_is)
    (case c__law_told => k_is); (case k__law_told => k_is); (case a__law_bent_node => k_is); (case l__law_bent_node => k_is); (case c__law_bent_node => k_is); (case k__law_bent_node => k_is)
    (case a__law_due => k_is); (case l__law_due => k_is); (case c__law_due => k_is); (case k__law_due => k_is); (case a_law => k_is); (case l_law => k_is)
    (case c_law => k_is); (case k_law => k_is); (case z_abs => k_is); (case z_int => k_is); (case z_isinstance => k_is); (case z_len => k_is)
    (case z_list => k_is); (case z_max => k_is); (case z_min => k_is); (case z_range => k_is); (case z_reversed => k_is); (case z_sorted => k_is)
    (case z_sum => k_is); (case z_tuple => k_is); (case j_GOODS_LIMIT => k_is); (case j_MOMENT_LIMIT => k_is); (case j_TIME_LIMIT => k_is); (case ca_MarketplaceError => k_is)
    (case cx_MarketplaceError => k_exc); (case ck_MarketplaceError => k_is); (case cb_MarketplaceError => k_is); (case ct0_MarketplaceError => k_is); (case ch_MarketplaceError => k_is); (case e1_MarketplaceError => k_is)
    (case e2_MarketplaceError => k_is); (case e3_MarketplaceError => k_is); (case e4_MarketplaceError => k_is); (case ca_MarketError => k_is); (case cx_MarketError => k_exc); (case ck_MarketError => k_is)
    (case cb_MarketError => k_is); (case ct0_MarketError => k_is); (case ch_MarketError => k_is); (case e1_MarketError => k_is); (case e2_MarketError => k_is); (case e3_MarketError => k_is)
    (case e4_MarketError => k_is); (case ca_TooLarge => k_is); (case cx_TooLarge => k_exc); (case ck_TooLarge => k_is); (case cb_TooLarge => k_is); (case ct0_TooLarge => k_is)
    (case ch_TooLarge => k_is); (case e1_TooLarge => k_is); (case e2_TooLarge => k_is); (case e3_TooLarge => k_is); (case e4_TooLarge => k_is); (case ca_MomentError => k_is)
    (case cx_MomentError => k_exc); (case ck_MomentError => k_is); (case cb_MomentError => k_is); (case ct0_MomentError => k_is); (case ch_MomentError => k_is); (case e1_MomentError => k_is)
    (case e2_MomentError => k_is); (case e3_MomentError => k_is); (case e4_MomentError => k_is); (case e5 => k_is); (case e6 => k_is); (case s_MarketError_MarketplaceError => k_is)
    (case s_MarketError_MarketError => k_is); (case s_MarketError_TooLarge => k_is); (case s_MarketError_MomentError => k_is); (case s_TooLarge_MarketplaceError => k_is); (case s_TooLarge_MarketError => k_is); (case s_TooLarge_TooLarge => k_is)
    (case s_TooLarge_MomentError => k_is); (case s_MomentError_MarketplaceError => k_is); (case s_MomentError_MarketError => k_is); (case s_MomentError_TooLarge => k_is); (case s_MomentError_MomentError => k_is)

import PyProof.Rows.All
import Wide.All
import OpenK.AllK
import Wide.FinOn
import PySem.Challenge.RW_nolunch_k01_fractions
import HandS.ForExc
import HandS.Wide
import HandS.Gcd
import HandS.IsInst
import HandS.ExcIs
import HandS.Iter
import HandS.Evl
set_option Elab.async false
set_option linter.all false
set_option maxRecDepth 100000
set_option maxHeartbeats 4000000
namespace Nl
/-- a size in bits -/
def Bd (k : Nat) (x : Int) : Prop := x.natAbs < 2 ^ k
theorem Bd.mono {k m : Nat} {x : Int} (h : Bd k x) (e : k ≤ m) : Bd m x := Nat.lt_of_lt_of_le h (Nat.pow_le_pow_right (by decide) e)
theorem Bd.mul {k m : Nat} {x y : Int} (h : Bd k x) (g : Bd m y) : Bd (k + m) (x * y) := by
  unfold Bd at *
  rw [Int.natAbs_mul, Nat.pow_add]
  exact Nat.mul_lt_mul'' h g
theorem Bd.add {k m : Nat} {x y : Int} (h : Bd k x) (g : Bd m y) : Bd (max k m + 1) (x + y) := by
  have h1 := h.mono (Nat.le_max_left k m)
  have g1 := g.mono (Nat.le_max_right k m)
  unfold Bd at *
  have := Int.natAbs_add_le x y
  rw [Nat.pow_succ]
  omega
theorem Bd.neg {k : Nat} {x : Int} (h : Bd k x) : Bd k (-x) := by
  unfold Bd at *
  rw [Int.natAbs_neg]
  exact h
theorem Bd.sub {k m : Nat} {x y : Int} (h : Bd k x) (g : Bd m y) : Bd (max k m + 1) (x - y) := by
  rw [Int.sub_eq_add_neg]
  exact h.add g.neg
theorem Bd.le {k : Nat} {x y : Int} (h : Bd k y) (e : x.natAbs ≤ y.natAbs) : Bd k x := Nat.lt_of_le_of_lt e h

/-- lowest terms -/
structure Low (q : Int × Int) : Prop where
  pos : 0 < q.2
  cop : Int.gcd q.1 q.2 = 1
/-- the greatest common divisor, with the sign of b -/
def sg (a b : Int) : Int := if b < 0 then -(Int.gcd a b : Int) else (Int.gcd a b : Int)
def frac (a b : Int) : Int × Int := (a.fdiv (sg a b), b.fdiv (sg a b))
theorem gcd_pos {a b : Int} (h : b ≠ 0) : 0 < Int.gcd a b := Int.gcd_pos_of_ne_zero_right a h
theorem sg_ne {a b : Int} (h : b ≠ 0) : sg a b ≠ 0 := by
  have := gcd_pos (a := a) h
  unfold sg
  split <;> omega
theorem sg_abs (a b : Int) : (sg a b).natAbs = Int.gcd a b := by
  unfold sg
  split <;> simp
theorem sg_dvd1 (a b : Int) : sg a b ∣ a := by
  have h : (Int.gcd a b : Int) ∣ a := Int.gcd_dvd_left a b
  unfold sg
  split
  · exact Int.neg_dvd.mpr h
  · exact h
theorem sg_dvd2 (a b : Int) : sg a b ∣ b := by
  have h : (Int.gcd a b : Int) ∣ b := Int.gcd_dvd_right a b
  unfold sg
  split
  · exact Int.neg_dvd.mpr h
  · exact h
theorem frac_e1 {a b : Int} (_ : b ≠ 0) : (frac a b).1 * sg a b = a := Int.fdiv_mul_cancel (sg_dvd1 a b)
theorem frac_e2 {a b : Int} (_ : b ≠ 0) : (frac a b).2 * sg a b = b := Int.fdiv_mul_cancel (sg_dvd2 a b)
theorem frac_low {a b : Int} (h : b ≠ 0) : Low (frac a b) := by
  have e1 := frac_e1 (a := a) h
  have e2 := frac_e2 (a := a) h
  have g0 := gcd_pos (a := a) h
  have hs := sg_ne (a := a) h
  generalize hx : frac a b = q at *
  obtain ⟨n, d⟩ := q
  simp only at e1 e2
  refine ⟨?_, ?_⟩
  · show 0 < d
    have hd : d ≠ 0 := fun z => by
      rw [z, Int.zero_mul] at e2
      exact h e2.symm
    by_cases hb : b < 0
    · have s0 : sg a b < 0 := by
        unfold sg
        rw [if_pos hb]
        omega
      by_cases q : d < 0
      · have := Int.mul_pos_of_neg_of_neg q s0
        omega
      · omega
    · have s0 : 0 < sg a b := by
        unfold sg
        rw [if_neg hb]
        omega
      by_cases q : d < 0
      · have := Int.mul_neg_of_neg_of_pos q s0
        omega
      · omega
  · show Int.gcd n d = 1
    have hg : Int.gcd (n * sg a b) (d * sg a b) = Int.gcd n d * (sg a b).natAbs := Int.gcd_mul_right n (sg a b) d
    rw [e1, e2, sg_abs] at hg
    exact Nat.eq_of_mul_eq_mul_right g0 (by rw [← hg, Nat.one_mul])
theorem frac_cross {a b : Int} (h : b ≠ 0) : (frac a b).1 * b = a * (frac a b).2 := by
  have e1 := frac_e1 (a := a) h
  have e2 := frac_e2 (a := a) h
  generalize hx : frac a b = q at *
  obtain ⟨n, d⟩ := q
  simp only at e1 e2 ⊢
  generalize sg a b = s at *
  rw [← e1, ← e2, Int.mul_assoc, Int.mul_comm d s]
theorem abs_of_mul {x s y : Int} (e : x * s = y) (h : s ≠ 0) : x.natAbs ≤ y.natAbs := by
  rw [← e, Int.natAbs_mul]
  exact Nat.le_mul_of_pos_right _ (by omega)
theorem frac_b1 {a b : Int} {k : Nat} (h : b ≠ 0) (g : Bd k a) : Bd k (frac a b).1 := g.le (abs_of_mul (frac_e1 h) (sg_ne h))
theorem frac_b2 {a b : Int} {k : Nat} (h : b ≠ 0) (g : Bd k b) : Bd k (frac a b).2 := g.le (abs_of_mul (frac_e2 h) (sg_ne h))
theorem dvd_cop {a b d : Int} (h : b ∣ a * d) (g : Int.gcd a b = 1) : b ∣ d := by
  have h1 : b.natAbs ∣ a.natAbs * d.natAbs := by
    rw [← Int.natAbs_mul]
    exact Int.natAbs_dvd_natAbs.mpr h
  have h2 : Nat.Coprime b.natAbs a.natAbs := (Nat.gcd_comm _ _).trans g
  exact Int.natAbs_dvd_natAbs.mp (h2.dvd_of_dvd_mul_left h1)
theorem low_uniq {p q : Int × Int} (hp : Low p) (hq : Low q) (e : p.1 * q.2 = q.1 * p.2) : p = q := by
  obtain ⟨a, b⟩ := p
  obtain ⟨c, d⟩ := q
  obtain ⟨pb, cb⟩ := hp
  obtain ⟨pd, cd⟩ := hq
  simp only at *
  have d1 : b ∣ d := by
    have h : b ∣ a * d := ⟨c, by rw [e, Int.mul_comm]⟩
    exact dvd_cop h cb
  have d2 : d ∣ b := by
    have h : d ∣ c * b := ⟨a, by rw [← e, Int.mul_comm]⟩
    exact dvd_cop h cd
  have ebd : b = d := Int.dvd_antisymm (by omega) (by omega) d1 d2
  subst ebd
  have : a = c := Int.eq_of_mul_eq_mul_right (by omega) e
  rw [this]
/-- a fraction of at most k bits -/
structure Ok (k : Nat) (q : Int × Int) : Prop where
  low : Low q
  b1 : Bd k q.1
  b2 : Bd k q.2
theorem Ok.pos {k : Nat} {q : Int × Int} (h : Ok k q) : 0 < q.2 := h.low.pos
theorem Ok.mono {k m : Nat} {q : Int × Int} (h : Ok k q) (e : k ≤ m) : Ok m q := ⟨h.low, h.b1.mono e, h.b2.mono e⟩
theorem frac_ok {a b : Int} {k : Nat} (h : b ≠ 0) (g : Bd k a) (f : Bd k b) : Ok k (frac a b) := ⟨frac_low h, frac_b1 h g, frac_b2 h f⟩
def addF (p q : Int × Int) : Int × Int := frac (p.1 * q.2 + q.1 * p.2) (p.2 * q.2)
def subF (p q : Int × Int) : Int × Int := frac (p.1 * q.2 - q.1 * p.2) (p.2 * q.2)
def mulF (p q : Int × Int) : Int × Int := frac (p.1 * q.1) (p.2 * q.2)
def divF (p q : Int × Int) : Int × Int := frac (p.1 * q.2) (p.2 * q.1)
theorem pos_ne {x y : Int} (h : 0 < x) (g : 0 < y) : x * y ≠ 0 := by
  have := Int.mul_pos h g
  omega
theorem addF_ok {k m n : Nat} {p q : Int × Int} (hp : Ok k p) (hq : Ok m q) (e : k + m + 1 ≤ n) : Ok n (addF p q) :=
  frac_ok (pos_ne hp.pos hq.pos) (((hp.b1.mul hq.b2).add (hq.b1.mul hp.b2)).mono (by omega)) ((hp.b2.mul hq.b2).mono (by omega))
theorem subF_ok {k m n : Nat} {p q : Int × Int} (hp : Ok k p) (hq : Ok m q) (e : k + m + 1 ≤ n) : Ok n (subF p q) :=
  frac_ok (pos_ne hp.pos hq.pos) (((hp.b1.mul hq.b2).sub (hq.b1.mul hp.b2)).mono (by omega)) ((hp.b2.mul hq.b2).mono (by omega))
theorem mulF_ok {k m n : Nat} {p q : Int × Int} (hp : Ok k p) (hq : Ok m q) (e : k + m ≤ n) : Ok n (mulF p q) :=
  frac_ok (pos_ne hp.pos hq.pos) ((hp.b1.mul hq.b1).mono (by omega)) ((hp.b2.mul hq.b2).mono (by omega))
theorem divF_ok {k m n : Nat} {p q : Int × Int} (hp : Ok k p) (hq : Ok m q) (h0 : q.1 ≠ 0) (e : k + m ≤ n) : Ok n (divF p q) := by
  have h : p.2 * q.1 ≠ 0 := Int.mul_ne_zero (by have := hp.pos; omega) h0
  exact frac_ok h ((hp.b1.mul hq.b2).mono (by omega)) ((hp.b2.mul hq.b1).mono (by omega))
/-- the law's own normal form -/
def fracL (a b : Int) : Int × Int :=
  let a' := if b < 0 then 0 - a else a
  let b' := if b < 0 then 0 - b else b
  (a' / (Int.gcd a' b' : Int), b' / (Int.gcd a' b' : Int))
theorem fracL_eq {a b : Int} (h : b ≠ 0) : fracL a b = frac a b := by
  have g0 := gcd_pos (a := a) h
  have key : ∀ x : Int, (sg a b ∣ x) → (if b < 0 then 0 - x else x) / (Int.gcd a b : Int) = x.fdiv (sg a b) := fun x hx => by
    obtain ⟨c, rfl⟩ := hx
    have hs := sg_ne (a := a) h
    rw [Int.mul_fdiv_cancel_left c hs]
    unfold sg
    split
    · have e : 0 - -(Int.gcd a b : Int) * c = (Int.gcd a b : Int) * c := by rw [Int.neg_mul]; omega
      rw [e]
      exact Int.mul_ediv_cancel_left c (by omega)
    · exact Int.mul_ediv_cancel_left c (by omega)
  have eg : Int.gcd (if b < 0 then 0 - a else a) (if b < 0 then 0 - b else b) = Int.gcd a b := by
    split
    · rw [Int.zero_sub, Int.zero_sub, Int.neg_gcd, Int.gcd_neg]
    · rfl
  unfold fracL frac
  simp only [eg]
  rw [key a (sg_dvd1 a b), key b (sg_dvd2 a b)]
theorem List.reverseRecOn' {α : Type} {P : List α → Prop} (l : List α) (nil : P []) (snoc : ∀ l x, P l → P (l ++ [x])) : P l := by
  have : ∀ n (l : List α), l.length = n → P l := by
    intro n
    induction n with
    | zero => intro l h; rw [List.eq_nil_of_length_eq_zero h]; exact nil
    | succ n ih =>
      intro l h
      have hne : l ≠ [] := fun e => by rw [e] at h; cases h
      rw [← List.dropLast_concat_getLast hne]
      exact snoc _ _ (ih _ (by rw [List.length_dropLast]; omega))
  exact this _ l rfl
def totF (l : List (Int × Int)) : Int × Int := l.foldl addF (0, 1)
theorem totF_add (l : List (Int × Int)) (q : Int × Int) : totF (l ++ [q]) = addF (totF l) q := by
  unfold totF
  rw [List.foldl_append]
  rfl
theorem ok_zero : Ok 1 (0, 1) := ⟨⟨by decide, by decide⟩, by unfold Bd; decide, by unfold Bd; decide⟩
theorem totF_ok {k : Nat} : ∀ (l : List (Int × Int)), (∀ q ∈ l, Ok k q) → Ok ((k + 1) * l.length + 1) (totF l) := by
  intro l
  induction l using Nl.List.reverseRecOn' with
  | nil => exact fun _ => ok_zero
  | snoc l q ih =>
      intro h
      rw [totF_add]
      have h1 := ih fun z hz => h z (List.mem_append_left _ hz)
      have h2 := h q (by simp)
      refine addF_ok h1 h2 ?_
      rw [List.length_append, List.length_singleton, Nat.mul_add]
      omega
end Nl
namespace Nl
open PySem PySem.Spec PyProof.Rows L2
def CDivX (_ j : Int) : Prop := j ≠ 0 ∧ j.natAbs.log2 < 9000
theorem op_fdivX {X : Cx} : OpR X (binaryOp .FloorDiv) (rI CDivX fun i j => .int (i.fdiv j)) := opI fun _ _ _ _ _ _ _ hc q => floordiv_int hc.1 q (.inl (PyProof.noPylong_of_log2 hc.2))
theorem divX {i j : Int} {b : Nat} (h : j ≠ 0) (hb : Bd b j) (h0 : 0 < b := by decide) (h9 : b ≤ 9000 := by decide) : CDivX i j := ⟨h, Nat.lt_of_lt_of_le (PySem.Flt.log2_lt_of h0 hb) h9⟩
theorem mulX {i j : Int} {a b : Nat} (ha : Bd a i) (hb : Bd b j) (h0 : 0 < a := by decide) (h1 : 0 < b := by decide) (h : a + b ≤ 1000000 := by decide) : CMulW i j := wide_mul ha hb h0 h1 h
/-- all that was tracked is as it was, but for what stands at d -/
def Xt (d : Addr) (H H' : Hp) : Prop := ∀ b o, b ≠ d → H b = some o → H' b = some o
theorem Xt.refl {d : Addr} (H : Hp) : Xt d H H := fun _ _ _ h => h
theorem Xt.trans {d : Addr} {H H1 H2 : Hp} (a : Xt d H H1) (b : Xt d H1 H2) : Xt d H H2 := fun c o n h => b c o n (a c o n h)
theorem Xt.of {d : Addr} {H H' : Hp} (s : Same H H') : Xt d H H' := fun b o _ h => s b o h
theorem Xt.upd {d : Addr} {H : Hp} {o : HO} : Xt d H (upd H d o) := fun b u n h => by
  rw [upd_ne n]
  exact h
theorem same_new {H : Hp} {p : Addr} {o : HO} (h : H p = none) : Same H (upd H p o) := fun b x e => by
  rw [upd_ne (ne_of_none e h)]
  exact e
/-- v is the fraction q -/
def Fr (H : Hp) (v : V) (q : Int × Int) : Prop := ∃ p, v = .ref p ∧ H p = some (.tup [.int q.1, .int q.2])
theorem Fr.same {H H' : Hp} {v : V} {q : Int × Int} (h : Fr H v q) (s : Same H H') : Fr H' v q := by
  obtain ⟨p, e, hp⟩ := h
  exact ⟨p, e, s _ _ hp⟩
theorem ne_tl {H : Hp} {a d : Addr} {xs ys : List V} (h : H a = some (.tup xs)) (g : H d = some (.lst ys)) : a ≠ d := ne_of h g (by intro z; cases z)
theorem Fr.xt {H H' : Hp} {d : Addr} {ys : List V} {v : V} {q : Int × Int} (h : Fr H v q) (g : H d = some (.lst ys)) (s : Xt d H H') : Fr H' v q := by
  obtain ⟨p, e, hp⟩ := h
  exact ⟨p, e, s _ _ (ne_tl hp g) hp⟩
theorem two_le : ([a, b] : List V).length ≤ sizeLine := (by decide : 2 ≤ sizeLine)
section
variable {X : Cx}
theorem CallR.imp {f : Value} {r r' : List V → Hp → VK → Prop} (h : CallR X f r) (hi : ∀ xs H Q, r' xs H Q → r xs H Q) : CallR X f r' := fun pins s σ H vs us Q I rr q => h pins s σ H vs us Q I rr (hi _ _ _ q)
def rInt : List V → Hp → VK → Prop := fun xs H Q => ∃ i, xs = [.int i] ∧ Q (.int i) H
theorem call_intI : CallR X (.type "int") rInt := CallR.imp call_int1 fun _ _ _ h => .inl h
def rLenL (K : PySem.W.Frag) : List V → Hp → VK → Prop := fun xs H Q => ∃ p ys, xs = [.ref p] ∧ SqL K H p ys ∧ Q (.int (ys.length : Int)) H
theorem call_lenL : CallR X (.builtin "len") (rLenL X.K) := CallR.imp call_len_seq fun _ _ _ ⟨p, ys, e, h, q⟩ => ⟨p, ys, e, .inl h, q⟩
def rLenT (K : PySem.W.Frag) : List V → Hp → VK → Prop := fun xs H Q => ∃ p ys, xs = [.ref p] ∧ SqT K H p ys ∧ Q (.int (ys.length : Int)) H
theorem call_lenT : CallR X (.builtin "len") (rLenT X.K) := CallR.imp call_len_seq fun _ _ _ ⟨p, ys, e, h, q⟩ => ⟨p, ys, e, .inr h, q⟩
def rListL (K : PySem.W.Frag) : List V → Hp → VK → Prop := fun xs H Q => ∃ p ys, xs = [.ref p] ∧ SqL K H p ys ∧ ∀ l, H l = none → Q (.ref l) (upd H l (.lst ys))
theorem call_listL : CallR X (.type "list") (rListL X.K) := CallR.imp call_list_of fun _ _ _ ⟨p, ys, e, h, q⟩ => ⟨p, ys, e, .inl h, q⟩
def rTupL (K : PySem.W.Frag) : List V → Hp → VK → Prop := fun xs H Q => ∃ p ys, xs = [.ref p] ∧ SqL K H p ys ∧ ∀ l, H l = none → Q (.ref l) (upd H l (.tup ys))
theorem call_tupL : CallR X (.type "tuple") (rTupL X.K) := CallR.imp call_tuple_of fun _ _ _ ⟨p, ys, e, h, q⟩ => ⟨p, ys, e, .inl ⟨h, q⟩⟩
/-- where something is known of what is raised -/
theorem pe_hyp {e : Expr} {t : TE} {p : Prop} (h : p → PE X e t) : PE X e (fun σ H Q => p ∧ t σ H Q) := ⟨fun pins s σ H Q I hw => (h hw.1).run pins s σ H Q I hw.2⟩
end
theorem mulC {i j : Int} (h : -(2 ^ 64) < j ∧ j < 2 ^ 64) : CMul i j := .inr h
theorem mulC' {i j : Int} (h : -(2 ^ 64) < i ∧ i < 2 ^ 64) : CMul i j := .inl h
/-- the state that the law's draws go on: [its script, a place, a rest, a seed] -/
structure DstI (H : Hp) (pd ps : Addr) (i r : Int) (ns : List Int) : Prop where
  at_d : ∃ s : Int, H pd = some (.lst [.ref ps, .int i, .int r, .int s])
  at_s : H ps = some (.lst (ns.map V.int))
  ne : ps ≠ pd
  i0 : 0 ≤ i
  r0 : 0 ≤ r
def Dst (H : Hp) (pd ps : Addr) : Prop := ∃ i r ns, DstI H pd ps i r ns
theorem Dst.same {H H' : Hp} {pd ps : Addr} (h : Dst H pd ps) (s : Same H H') : Dst H' pd ps := by
  obtain ⟨i, r, ns, ⟨⟨sd, h1⟩, h2, h3, h4, h5⟩⟩ := h
  exact ⟨i, r, ns, ⟨⟨sd, s _ _ h1⟩, s _ _ h2, h3, h4, h5⟩⟩
theorem Dst.xt {H H' : Hp} {pd ps x : Addr} (h : Dst H pd ps) (n1 : x ≠ pd) (n2 : x ≠ ps) (s : Xt x H H') : Dst H' pd ps := by
  obtain ⟨i, r, ns, ⟨⟨sd, h1⟩, h2, h3, h4, h5⟩⟩ := h
  exact ⟨i, r, ns, ⟨⟨sd, s _ _ (Ne.symm n1) h1⟩, s _ _ (Ne.symm n2) h2, h3, h4, h5⟩⟩
theorem Dst.fresh {H : Hp} {pd ps x : Addr} (h : Dst H pd ps) (n : H x = none) : x ≠ pd ∧ x ≠ ps := by
  obtain ⟨i, r, ns, ⟨⟨sd, h1⟩, h2, h3, h4, h5⟩⟩ := h
  exact ⟨fun e => (by rw [e, h1] at n; cases n), fun e => (by rw [e, h2] at n; cases n)⟩
theorem Dst.lst {H : Hp} {pd ps : Addr} (h : Dst H pd ps) : ∃ ys, H pd = some (.lst ys) := by
  obtain ⟨i, r, ns, ⟨⟨sd, h1⟩, _⟩⟩ := h
  exact ⟨_, h1⟩
theorem Fr.dst {H H' : Hp} {pd ps : Addr} {v : V} {q : Int × Int} (h : Fr H v q) (g : Dst H pd ps) (s : Xt pd H H') : Fr H' v q := by
  obtain ⟨ys, e⟩ := g.lst
  exact h.xt e s
theorem DstI.set {H : Hp} {pd ps : Addr} {i r i' r' s' : Int} {ns : List Int} (h : DstI H pd ps i r ns) (hi : 0 ≤ i') (hr : 0 ≤ r') : DstI (upd H pd (.lst [.ref ps, .int i', .int r', .int s'])) pd ps i' r' ns :=
  ⟨⟨s', upd_same⟩, by rw [upd_ne h.ne]; exact h.at_s, h.ne, hi, hr⟩
theorem DstI.upd2 {H : Hp} {pd ps : Addr} {i r i' r' s' : Int} {ns : List Int} {o : HO} (h : DstI H pd ps i r ns) (hi : 0 ≤ i') (hr : 0 ≤ r') : DstI (upd (upd H pd o) pd (.lst [.ref ps, .int i', .int r', .int s'])) pd ps i' r' ns := by
  rw [upd_upd]
  exact h.set hi hr
theorem dec_eq {a b : V} (h : a = b) : decide (a = b) = true := decide_eq_true h
def FrAll (H : Hp) (xs : List V) (qs : List (Int × Int)) : Prop := xs.length = qs.length ∧ ∀ (i : Nat) (x : V), xs[i]? = some x → ∃ q, qs[i]? = some q ∧ Fr H x q
theorem FrAll.same {H H' : Hp} {xs : List V} {qs : List (Int × Int)} (h : FrAll H xs qs) (s : Same H H') : FrAll H' xs qs := ⟨h.1, fun i x e => by
  obtain ⟨q, h1, h2⟩ := h.2 i x e
  exact ⟨q, h1, h2.same s⟩⟩
theorem FrAll.xt {H H' : Hp} {d : Addr} {ys xs : List V} {qs : List (Int × Int)} (h : FrAll H xs qs) (g : H d = some (.lst ys)) (s : Xt d H H') : FrAll H' xs qs := ⟨h.1, fun i x e => by
  obtain ⟨q, h1, h2⟩ := h.2 i x e
  exact ⟨q, h1, h2.xt g s⟩⟩
theorem FrAll.add {H : Hp} {xs : List V} {qs : List (Int × Int)} {v : V} {q : Int × Int} (h : FrAll H xs qs) (g : Fr H v q) : FrAll H (xs ++ [v]) (qs ++ [q]) := by
  refine ⟨by simp [h.1], fun i x e => ?_⟩
  by_cases hi : i < xs.length
  · rw [List.getElem?_append_left hi] at e
    obtain ⟨z, h1, h2⟩ := h.2 i x e
    exact ⟨z, by rw [List.getElem?_append_left (by rw [← h.1]; exact hi)]; exact h1, h2⟩
  · have hl := (List.getElem?_eq_some_iff.mp e).1
    rw [List.length_append, List.length_singleton] at hl
    have ei : i = xs.length := by omega
    subst ei
    rw [List.getElem?_concat_length] at e
    cases e
    exact ⟨q, by rw [h.1, List.getElem?_concat_length], g⟩
theorem take_next {α : Type} {l : List α} {i : Nat} {x : α} (h : l[i]? = some x) : l.take (i + 1) = l.take i ++ [x] := by
  rw [List.take_add_one, h]
  rfl
theorem gcd_step (x y : Int) (hx : 0 ≤ x) (hy : 0 ≤ y) : Int.gcd y (x % y) = Int.gcd x y := by
  obtain ⟨a, rfl⟩ := Int.eq_ofNat_of_zero_le hx
  obtain ⟨b, rfl⟩ := Int.eq_ofNat_of_zero_le hy
  rw [← Int.natCast_emod]
  show Nat.gcd b (a % b) = Nat.gcd a b
  rw [Nat.gcd_comm b, ← Nat.gcd_rec b a, Nat.gcd_comm]
theorem if_true_of' {c : Bool} {A B : Prop} (hc : c = true) (h : A) : if c = true then A else B := by
  rw [if_pos hc]
  exact h
theorem if_false_of' {c : Bool} {A B : Prop} (hc : c = false) (h : B) : if c = true then A else B := by
  rw [hc, if_neg Bool.false_ne_true]
  exact h
def frD (q : Int × Int) : PyData := .tuple [.int q.1, .int q.2]
theorem Fr.dp {K : PySem.W.Frag} {H : Hp} {v : V} {q : Int × Int} (h : Fr H v q) : Dp K H v (frD q) := by
  obtain ⟨p, rfl, hp⟩ := h
  exact .tup (SqT.of hp) (.cons (.int _) (.cons (.int _) .nil))
theorem frD_shaped (q : Int × Int) : SeqAt.shaped (frD q) = true := rfl
theorem frD_eqv (q : Int × Int) : PyData.eqv (frD q) (frD q) = true := SeqAt.eqv_refl _ rfl
theorem kit_self {K : PySem.W.Frag} {C : Addr} : PySem.W.kitOne K (.ref C) (.ref C) = some true := by
  unfold PySem.W.kitOne
  simp
theorem pow38 : Bd 127 (10 ^ 38) := by unfold Bd; decide
end Nl

namespace Nl
open PySem PySem.Spec PyProof.Rows L2
def top (i : Nat) : Stmt := PySem.Challenge.pw_nolunch_k01_fractions.main.body.getD i (.Pass ⟨0, 0, 0, 0⟩)
abbrev s_fraction : Stmt := top 5
theorem sc_fraction : FnScope ["numerator", "denominator", "shared"] ["numerator", "denominator"] (defScope s_fraction) := ⟨rfl, rfl, rfl, by decide +kernel, rfl, by decide +kernel, by decide +kernel⟩
abbrev s_plus : Stmt := top 6
theorem sc_plus : FnScope ["a", "b"] ["a", "b"] (defScope s_plus) := ⟨rfl, rfl, rfl, by decide +kernel, rfl, by decide +kernel, by decide +kernel⟩
abbrev s_minus : Stmt := top 7
theorem sc_minus : FnScope ["a", "b"] ["a", "b"] (defScope s_minus) := ⟨rfl, rfl, rfl, by decide +kernel, rfl, by decide +kernel, by decide +kernel⟩
abbrev s_times : Stmt := top 8
theorem sc_times : FnScope ["a", "b"] ["a", "b"] (defScope s_times) := ⟨rfl, rfl, rfl, by decide +kernel, rfl, by decide +kernel, by decide +kernel⟩
abbrev s_over : Stmt := top 9
theorem sc_over : FnScope ["a", "b"] ["a", "b"] (defScope s_over) := ⟨rfl, rfl, rfl, by decide +kernel, rfl, by decide +kernel, by decide +kernel⟩
abbrev s_compare : Stmt := top 10
theorem sc_compare : FnScope ["a", "b", "left", "right"] ["a", "b"] (defScope s_compare) := ⟨rfl, rfl, rfl, by decide +kernel, rfl, by decide +kernel, by decide +kernel⟩
abbrev s_total : Stmt := top 11
theorem sc_total : FnScope ["items", "result", "item"] ["items"] (defScope s_total) := ⟨rfl, rfl, rfl, by decide +kernel, rfl, by decide +kernel, by decide +kernel⟩
abbrev s__law_begin : Stmt := top 13
theorem sc__law_begin : FnScope ["script", "seed", "cell"] ["script"] (defScope s__law_begin) := ⟨rfl, rfl, rfl, by decide +kernel, rfl, by decide +kernel, by decide +kernel⟩
abbrev s__law_take : Stmt := top 14
theorem sc__law_take : FnScope ["d", "many", "small", "digit"] ["d", "many"] (defScope s__law_take) := ⟨rfl, rfl, rfl, by decide +kernel, rfl, by decide +kernel, by decide +kernel⟩
abbrev s__law_signed : Stmt := top 15
theorem sc__law_signed : FnScope ["d", "most"] ["d", "most"] (defScope s__law_signed) := ⟨rfl, rfl, rfl, by decide +kernel, rfl, by decide +kernel, by decide +kernel⟩
abbrev s__law_int : Stmt := top 16
theorem sc__law_int : FnScope ["actual"] ["actual"] (defScope s__law_int) := ⟨rfl, rfl, rfl, by decide +kernel, rfl, by decide +kernel, by decide +kernel⟩
abbrev s__law_gcd : Stmt := top 17
theorem sc__law_gcd : FnScope ["a", "b"] ["a", "b"] (defScope s__law_gcd) := ⟨rfl, rfl, rfl, by decide +kernel, rfl, by decide +kernel, by decide +kernel⟩
abbrev s__law_f : Stmt := top 18
theorem sc__law_f : FnScope ["a", "b", "c"] ["a", "b"] (defScope s__law_f) := ⟨rfl, rfl, rfl, by decide +kernel, rfl, by decide +kernel, by decide +kernel⟩
abbrev s__law_plus : Stmt := top 19
theorem sc__law_plus : FnScope ["a", "b"] ["a", "b"] (defScope s__law_plus) := ⟨rfl, rfl, rfl, by decide +kernel, rfl, by decide +kernel, by decide +kernel⟩
abbrev s__law_less : Stmt := top 20
theorem sc__law_less : FnScope ["a", "b"] ["a", "b"] (defScope s__law_less) := ⟨rfl, rfl, rfl, by decide +kernel, rfl, by decide +kernel, by decide +kernel⟩
abbrev s__law_is : Stmt := top 21
theorem sc__law_is : FnScope ["actual", "top", "bottom"] ["actual", "top", "bottom"] (defScope s__law_is) := ⟨rfl, rfl, rfl, by decide +kernel, rfl, by decide +kernel, by decide +kernel⟩
abbrev s__law_number : Stmt := top 22
theorem sc__law_number : FnScope ["d", "n"] ["d"] (defScope s__law_number) := ⟨rfl, rfl, rfl, by decide +kernel, rfl, by decide +kernel, by decide +kernel⟩
abbrev s__law_refused : Stmt := top 23
theorem sc__law_refused : FnScope ["a", "b", "found", "e"] ["a", "b"] (defScope s__law_refused) := ⟨rfl, rfl, rfl, by decide +kernel, rfl, by decide +kernel, by decide +kernel⟩
abbrev s__law_divided : Stmt := top 24
theorem sc__law_divided : FnScope ["a", "b", "found"] ["a", "b"] (defScope s__law_divided) := ⟨rfl, rfl, rfl, by decide +kernel, rfl, by decide +kernel, by decide +kernel⟩
abbrev s_law : Stmt := top 25
theorem sc_law : FnScope ["script", "d", "row", "k", "top", "bottom", "found", "a", "b", "due", "told", "item"] ["script"] (defScope s_law) := ⟨rfl, rfl, rfl, by decide +kernel, rfl, by decide +kernel, by decide +kernel⟩
structure Top (K : PySem.W.Frag) (mg : Str → Option Value) where
  a_fraction : Addr
  d_fraction : FuncData
  fraction_F : Fun K "fraction" "fraction" s_fraction a_fraction d_fraction
  fraction_b : Binds K d_fraction ["numerator", "denominator"] []
  g_fraction : mg "fraction" = some (.ref a_fraction)
  a_plus : Addr
  d_plus : FuncData
  plus_F : Fun K "plus" "plus" s_plus a_plus d_plus
  plus_b : Binds K d_plus ["a", "b"] []
  g_plus : mg "plus" = some (.ref a_plus)
  a_minus : Addr
  d_minus : FuncData
  minus_F : Fun K "minus" "minus" s_minus a_minus d_minus
  minus_b : Binds K d_minus ["a", "b"] []
  g_minus : mg "minus" = some (.ref a_minus)
  a_times : Addr
  d_times : FuncData
  times_F : Fun K "times" "times" s_times a_times d_times
  times_b : Binds K d_times ["a", "b"] []
  g_times : mg "times" = some (.ref a_times)
  a_over : Addr
  d_over : FuncData
  over_F : Fun K "over" "over" s_over a_over d_over
  over_b : Binds K d_over ["a", "b"] []
  g_over : mg "over" = some (.ref a_over)
  a_compare : Addr
  d_compare : FuncData
  compare_F : Fun K "compare" "compare" s_compare a_compare d_compare
  compare_b : Binds K d_compare ["a", "b"] []
  g_compare : mg "compare" = some (.ref a_compare)
  a_total : Addr
  d_total : FuncData
  total_F : Fun K "total" "total" s_total a_total d_total
  total_b : Binds K d_total ["items"] []
  g_total : mg "total" = some (.ref a_total)
  a__law_begin : Addr
  d__law_begin : FuncData
  _law_begin_F : Fun K "_law_begin" "_law_begin" s__law_begin a__law_begin d__law_begin
  _law_begin_b : Binds K d__law_begin ["script"] []
  g__law_begin : mg "_law_begin" = some (.ref a__law_begin)
  a__law_take : Addr
  d__law_take : FuncData
  _law_take_F : Fun K "_law_take" "_law_take" s__law_take a__law_take d__law_take
  _law_take_b : Binds K d__law_take ["d", "many"] []
  g__law_take : mg "_law_take" = some (.ref a__law_take)
  a__law_signed : Addr
  d__law_signed : FuncData
  _law_signed_F : Fun K "_law_signed" "_law_signed" s__law_signed a__law_signed d__law_signed
  _law_signed_b : Binds K d__law_signed ["d", "most"] []
  g__law_signed : mg "_law_signed" = some (.ref a__law_signed)
  a__law_int : Addr
  d__law_int : FuncData
  _law_int_F : Fun K "_law_int" "_law_int" s__law_int a__law_int d__law_int
  _law_int_b : Binds K d__law_int ["actual"] []
  g__law_int : mg "_law_int" = some (.ref a__law_int)
  a__law_gcd : Addr
  d__law_gcd : FuncData
  _law_gcd_F : Fun K "_law_gcd" "_law_gcd" s__law_gcd a__law_gcd d__law_gcd
  _law_gcd_b : Binds K d__law_gcd ["a", "b"] []
  g__law_gcd : mg "_law_gcd" = some (.ref a__law_gcd)
  a__law_f : Addr
  d__law_f : FuncData
  _law_f_F : Fun K "_law_f" "_law_f" s__law_f a__law_f d__law_f
  _law_f_b : Binds K d__law_f ["a", "b"] []
  g__law_f : mg "_law_f" = some (.ref a__law_f)
  a__law_plus : Addr
  d__law_plus : FuncData
  _law_plus_F : Fun K "_law_plus" "_law_plus" s__law_plus a__law_plus d__law_plus
  _law_plus_b : Binds K d__law_plus ["a", "b"] []
  g__law_plus : mg "_law_plus" = some (.ref a__law_plus)
  a__law_less : Addr
  d__law_less : FuncData
  _law_less_F : Fun K "_law_less" "_law_less" s__law_less a__law_less d__law_less
  _law_less_b : Binds K d__law_less ["a", "b"] []
  g__law_less : mg "_law_less" = some (.ref a__law_less)
  a__law_is : Addr
  d__law_is : FuncData
  _law_is_F : Fun K "_law_is" "_law_is" s__law_is a__law_is d__law_is
  _law_is_b : Binds K d__law_is ["actual", "top", "bottom"] []
  g__law_is : mg "_law_is" = some (.ref a__law_is)
  a__law_number : Addr
  d__law_number : FuncData
  _law_number_F : Fun K "_law_number" "_law_number" s__law_number a__law_number d__law_number
  _law_number_b : Binds K d__law_number ["d"] []
  g__law_number : mg "_law_number" = some (.ref a__law_number)
  a__law_refused : Addr
  d__law_refused : FuncData
  _law_refused_F : Fun K "_law_refused" "_law_refused" s__law_refused a__law_refused d__law_refused
  _law_refused_b : Binds K d__law_refused ["a", "b"] []
  g__law_refused : mg "_law_refused" = some (.ref a__law_refused)
  a__law_divided : Addr
  d__law_divided : FuncData
  _law_divided_F : Fun K "_law_divided" "_law_divided" s__law_divided a__law_divided d__law_divided
  _law_divided_b : Binds K d__law_divided ["a", "b"] []
  g__law_divided : mg "_law_divided" = some (.ref a__law_divided)
  n_abs : mg "abs" = none
  n_bool : mg "bool" = none
  n_int : mg "int" = none
  n_isinstance : mg "isinstance" = none
  n_len : mg "len" = none
  n_list : mg "list" = none
  n_range : mg "range" = none
  n_tuple : mg "tuple" = none
  g_gcd : mg "gcd" = some (.builtin "math.gcd")
  c_MarketplaceError : Addr
  g_MarketplaceError : mg "MarketplaceError" = some (.ref c_MarketplaceError)
  x_MarketplaceError : PySem.W.excIn K c_MarketplaceError [.type "ValueError", .type "Exception", .type "BaseException", .type "object"] "ValueError.__new__" = true
  k_MarketplaceError : PySem.W.keepIn K (.ref c_MarketplaceError) = true
  b_MarketplaceError : PySem.W.subIn K (.ref c_MarketplaceError) (.type "BaseException") = some true
  t_MarketplaceError : PySem.W.typeIn K (.ref c_MarketplaceError) = some (.type "type")
  h_MarketplaceError : PySem.W.hasDictIn K c_MarketplaceError = true
  e_MarketplaceError : ExcC K c_MarketplaceError
  c_ZeroDenominator : Addr
  g_ZeroDenominator : mg "ZeroDenominator" = some (.ref c_ZeroDenominator)
  x_ZeroDenominator : PySem.W.excIn K c_ZeroDenominator [.type "ValueError", .type "Exception", .type "BaseException", .type "object"] "ValueError.__new__" = true
  k_ZeroDenominator : PySem.W.keepIn K (.ref c_ZeroDenominator) = true
  b_ZeroDenominator : PySem.W.subIn K (.ref c_ZeroDenominator) (.type "BaseException") = some true
  t_ZeroDenominator : PySem.W.typeIn K (.ref c_ZeroDenominator) = some (.type "type")
  h_ZeroDenominator : PySem.W.hasDictIn K c_ZeroDenominator = true
  e_ZeroDenominator : ExcC K c_ZeroDenominator
  s_ZeroDenominator_MarketplaceError : PySem.W.subIn K (.ref c_ZeroDenominator) (.ref c_MarketplaceError) = some true
  s_ZeroDenominator_ZeroDenominator : PySem.W.subIn K (.ref c_ZeroDenominator) (.ref c_ZeroDenominator) = some true
section
variable {P : Program} {w : World} {K : PySem.W.Frag} {mg : Str → Option Value} {base : Heap}
def sp_fraction (Z : Addr) : Sp := fun vs H Q E => ∃ a b : Int, vs = [.int a, .int b] ∧ (b = 0 → E (.ref Z) none H) ∧ (b ≠ 0 → Bd 8000 b ∧ ∀ v H', Same H H' → Fr H' v (frac a b) → Q v H')
theorem ok_fraction (T : Top K mg) : FnOk P w K mg base (L2.CX P w) 1 T.a_fraction T.d_fraction ["numerator", "denominator"] (sp_fraction T.c_ZeroDenominator) := by
  refine T.fraction_F.okX sc_fraction (fun vs H Q E h => ?_) (fun cdv A outer s H vs Q E hr h => ?_)
  · obtain ⟨a, b, rfl, _⟩ := h
    rfl
  · obtain ⟨a, b, rfl, h0, h1⟩ := h
    refine ⟨_, (pss_cons (ps_if (pt_cmpR op_eq (pv 1) pe_int (nomark _)) (pss_one (ps_raise rfl (takes_of rfl rfl rfl rfl) (pmk_own PySem.F.excBase_ValueError T.x_ZeroDenominator T.g_ZeroDenominator T.k_ZeroDenominator (raises_own T.b_ZeroDenominator T.t_ZeroDenominator) rfl))) pss_nil)
      (pss_cons (ps_set (i := 2) sc_fraction.nd rfl (Or.inl rfl) (pe_callBfun cr_gcd (by rfl) T.g_gcd (pa_cons (pv 0) (pa_cons (pv 1) pa_nil))))
      (pss_cons (ps_if (pt_cmpR op_lt (pv 1) pe_int (nomark _)) (pss_one (ps_set (i := 2) sc_fraction.nd rfl (Or.inl rfl) (pe_un un_neg (pv 2)))) pss_nil)
      (pss_one (ps_ret (pe_tup (pa_cons (pe_op op_fdivX (pv 0) (pv 2)) (pa_cons (pe_op op_fdivX (pv 1) (pv 2)) pa_nil)))))))), ?_⟩
    refine ⟨_, rfl, rfl, _, rfl, ite2 (fun e => ?_) (fun e => ?_)⟩
    · exact h0 (V.int.inj (of_decide_eq_true e))
    · have hb : b ≠ 0 := fun z => e (by rw [z]; exact decide_eq_true rfl)
      obtain ⟨hB, q⟩ := h1 hb
      have hs := sg_ne (a := a) hb
      have hz : Bd 8000 (sg a b) := hB.le (by rw [sg_abs]; exact Nat.le_of_dvd (by omega) (Nat.gcd_dvd_right _ _))
      have fin : ∀ s, s = sg a b → ∀ p, H p = none → Q (.ref p) (upd H p (.tup [.int (a.fdiv s), .int (b.fdiv s)])) := by
        rintro _ rfl p hp
        exact q _ _ (same_new hp) ⟨p, rfl, upd_same⟩
      have dv : ∀ s x, s = sg a b → CDivX x s := by
        rintro _ x rfl
        exact divX hs hz
      refine ⟨_, rfl, _, rfl, a, b, rfl, ?_⟩
      refine ⟨_, rfl, _, _, rfl, rfl, _, rfl, ite2 (fun e => ?_) (fun e => ?_)⟩
      · have e0 : b < 0 := of_decide_eq_true e
        have es : -((Nat.gcd a.natAbs b.natAbs : Nat) : Int) = sg a b := (if_pos e0).symm
        exact ⟨_, rfl, _, rfl, _, rfl, _, rfl, _, _, rfl, rfl, dv _ _ es, _, rfl, _, rfl, _, _, rfl, rfl, dv _ _ es, two_le, fin _ es⟩
      · have e0 : ¬ b < 0 := fun z => e (decide_eq_true z)
        have es : ((Nat.gcd a.natAbs b.natAbs : Nat) : Int) = sg a b := (if_neg e0).symm
        exact ⟨_, rfl, _, rfl, _, _, rfl, rfl, dv _ _ es, _, rfl, _, rfl, _, _, rfl, rfl, dv _ _ es, two_le, fin _ es⟩
theorem mulK {k : Nat} {i j : Int} (hk : k ≤ 3000) (ha : Bd k i) (hb : Bd k j) : CMulW i j := mulX (ha.mono hk) (hb.mono hk)
def sp2 (R : Int × Int → Int × Int → Int × Int) : Sp := fun vs H Q _ => ∃ (va vb : V) (p q : Int × Int) (k : Nat), vs = [va, vb] ∧ Fr H va p ∧ Fr H vb q ∧ Ok k p ∧ Ok k q ∧ k ≤ 3000 ∧ ∀ v H', Same H H' → Fr H' v (R p q) → Q v H'
theorem ok_plus (T : Top K mg) : FnOk P w K mg base CX0 2 T.a_plus T.d_plus ["a", "b"] (sp2 addF) := by
  refine T.plus_F.ok sc_plus (fun vs H Q E h => ?_) (fun cdv A outer s H vs Q E hr h => ?_)
  · obtain ⟨_, _, _, _, _, rfl, _⟩ := h
    rfl
  · obtain ⟨_, _, p, q, k, rfl, ⟨a, rfl, ha⟩, ⟨b, rfl, hb⟩, ⟨lp, p1, p2⟩, ⟨lq, q1, q2⟩, hk, fin⟩ := h
    have ne := pos_ne lp.pos lq.pos
    refine ⟨_, (pss_one (ps_ret (pe_call (ok_fraction T) (hr.mono (by decide : 1 ≤ 1)) (by rfl) T.g_fraction T.fraction_F.kp T.fraction_b .nil passL (pa_cons (pe_op op_add (pe_op op_mulW (pe_ix ix_tup (pv 0) pe_int (fun _ _ => rfl)) (pe_ix ix_tup (pv 1) pe_int (fun _ _ => rfl))) (pe_op op_mulW (pe_ix ix_tup (pv 1) pe_int (fun _ _ => rfl)) (pe_ix ix_tup (pv 0) pe_int (fun _ _ => rfl)))) (pa_cons (pe_op op_mulW (pe_ix ix_tup (pv 0) pe_int (fun _ _ => rfl)) (pe_ix ix_tup (pv 1) pe_int (fun _ _ => rfl))) pa_nil))))), ?_⟩
    exact ⟨_, rfl, _, _, _, _, rfl, rfl, (SqT.of ha), (atI_nat (j := 0) rfl), _, rfl, _, _, _, _, rfl, rfl, (SqT.of hb), (atI_nat (j := 1) rfl), _, _, rfl, rfl, (mulK hk (by assumption) (by assumption)), _, rfl, _, _, _, _, rfl, rfl, (SqT.of hb), (atI_nat (j := 0) rfl), _, rfl, _, _, _, _, rfl, rfl, (SqT.of ha), (atI_nat (j := 1) rfl), _, _, rfl, rfl, (mulK hk (by assumption) (by assumption)), _, _, rfl, rfl, _, rfl, _, _, _, _, rfl, rfl, (SqT.of ha), (atI_nat (j := 1) rfl), _, rfl, _, _, _, _, rfl, rfl, (SqT.of hb), (atI_nat (j := 1) rfl), _, _, rfl, rfl, (mulK hk (by assumption) (by assumption)), _, _, rfl, fun z => (ne z).elim, fun _ => ⟨(p2.mul q2).mono (by omega), fun v H' s f => fin v H' s f⟩⟩
theorem ok_minus (T : Top K mg) : FnOk P w K mg base CX0 2 T.a_minus T.d_minus ["a", "b"] (sp2 subF) := by
  refine T.minus_F.ok sc_minus (fun vs H Q E h => ?_) (fun cdv A outer s H vs Q E hr h => ?_)
  · obtain ⟨_, _, _, _, _, rfl, _⟩ := h
    rfl
  · obtain ⟨_, _, p, q, k, rfl, ⟨a, rfl, ha⟩, ⟨b, rfl, hb⟩, ⟨lp, p1, p2⟩, ⟨lq, q1, q2⟩, hk, fin⟩ := h
    have ne := pos_ne lp.pos lq.pos
    refine ⟨_, (pss_one (ps_ret (pe_call (ok_fraction T) (hr.mono (by decide : 1 ≤ 1)) (by rfl) T.g_fraction T.fraction_F.kp T.fraction_b .nil passL (pa_cons (pe_op op_sub (pe_op op_mulW (pe_ix ix_tup (pv 0) pe_int (fun _ _ => rfl)) (pe_ix ix_tup (pv 1) pe_int (fun _ _ => rfl))) (pe_op op_mulW (pe_ix ix_tup (pv 1) pe_int (fun _ _ => rfl)) (pe_ix ix_tup (pv 0) pe_int (fun _ _ => rfl)))) (pa_cons (pe_op op_mulW (pe_ix ix_tup (pv 0) pe_int (fun _ _ => rfl)) (pe_ix ix_tup (pv 1) pe_int (fun _ _ => rfl))) pa_nil))))), ?_⟩
    exact ⟨_, rfl, _, _, _, _, rfl, rfl, (SqT.of ha), (atI_nat (j := 0) rfl), _, rfl, _, _, _, _, rfl, rfl, (SqT.of hb), (atI_nat (j := 1) rfl), _, _, rfl, rfl, (mulK hk (by assumption) (by assumption)), _, rfl, _, _, _, _, rfl, rfl, (SqT.of hb), (atI_nat (j := 0) rfl), _, rfl, _, _, _, _, rfl, rfl, (SqT.of ha), (atI_nat (j := 1) rfl), _, _, rfl, rfl, (mulK hk (by assumption) (by assumption)), _, _, rfl, rfl, _, rfl, _, _, _, _, rfl, rfl, (SqT.of ha), (atI_nat (j := 1) rfl), _, rfl, _, _, _, _, rfl, rfl, (SqT.of hb), (atI_nat (j := 1) rfl), _, _, rfl, rfl, (mulK hk (by assumption) (by assumption)), _, _, rfl, fun z => (ne z).elim, fun _ => ⟨(p2.mul q2).mono (by omega), fun v H' s f => fin v H' s f⟩⟩
theorem ok_times (T : Top K mg) : FnOk P w K mg base CX0 2 T.a_times T.d_times ["a", "b"] (sp2 mulF) := by
  refine T.times_F.ok sc_times (fun vs H Q E h => ?_) (fun cdv A outer s H vs Q E hr h => ?_)
  · obtain ⟨_, _, _, _, _, rfl, _⟩ := h
    rfl
  · obtain ⟨_, _, p, q, k, rfl, ⟨a, rfl, ha⟩, ⟨b, rfl, hb⟩, ⟨lp, p1, p2⟩, ⟨lq, q1, q2⟩, hk, fin⟩ := h
    have ne := pos_ne lp.pos lq.pos
    refine ⟨_, (pss_one (ps_ret (pe_call (ok_fraction T) (hr.mono (by decide : 1 ≤ 1)) (by rfl) T.g_fraction T.fraction_F.kp T.fraction_b .nil passL (pa_cons (pe_op op_mulW (pe_ix ix_tup (pv 0) pe_int (fun _ _ => rfl)) (pe_ix ix_tup (pv 1) pe_int (fun _ _ => rfl))) (pa_cons (pe_op op_mulW (pe_ix ix_tup (pv 0) pe_int (fun _ _ => rfl)) (pe_ix ix_tup (pv 1) pe_int (fun _ _ => rfl))) pa_nil))))), ?_⟩
    exact ⟨_, rfl, _, _, _, _, rfl, rfl, (SqT.of ha), (atI_nat (j := 0) rfl), _, rfl, _, _, _, _, rfl, rfl, (SqT.of hb), (atI_nat (j := 0) rfl), _, _, rfl, rfl, (mulK hk (by assumption) (by assumption)), _, rfl, _, _, _, _, rfl, rfl, (SqT.of ha), (atI_nat (j := 1) rfl), _, rfl, _, _, _, _, rfl, rfl, (SqT.of hb), (atI_nat (j := 1) rfl), _, _, rfl, rfl, (mulK hk (by assumption) (by assumption)), _, _, rfl, fun z => (ne z).elim, fun _ => ⟨(p2.mul q2).mono (by omega), fun v H' s f => fin v H' s f⟩⟩
def sp_over (Z : Addr) : Sp := fun vs H Q E => ∃ (va vb : V) (p q : Int × Int) (k : Nat), vs = [va, vb] ∧ Fr H va p ∧ Fr H vb q ∧ Ok k p ∧ Ok k q ∧ k ≤ 3000 ∧ (q.1 = 0 → E (.ref Z) none H) ∧ (q.1 ≠ 0 → ∀ v H', Same H H' → Fr H' v (divF p q) → Q v H')
theorem ok_over (T : Top K mg) : FnOk P w K mg base (L2.CX P w) 2 T.a_over T.d_over ["a", "b"] (sp_over T.c_ZeroDenominator) := by
  refine T.over_F.okX sc_over (fun vs H Q E h => ?_) (fun cdv A outer s H vs Q E hr h => ?_)
  · obtain ⟨_, _, _, _, _, rfl, _⟩ := h
    rfl
  · obtain ⟨_, _, p, q, k, rfl, ⟨a, rfl, ha⟩, ⟨b, rfl, hb⟩, ⟨lp, p1, p2⟩, ⟨lq, q1, q2⟩, hk, h0, fin⟩ := h
    have pp := lp.pos
    refine ⟨_, (pss_one (ps_ret (pe_callS (ok_fraction T) (hr.mono (by decide : 1 ≤ 1)) rfl T.g_fraction T.fraction_F.kp T.fraction_b (fun σ => passAt (takes_of rfl rfl rfl rfl) σ) (pa_cons (pe_op op_mulW (pe_ix ix_tup (pv 0) pe_int (fun _ _ => rfl)) (pe_ix ix_tup (pv 1) pe_int (fun _ _ => rfl))) (pa_cons (pe_op op_mulW (pe_ix ix_tup (pv 0) pe_int (fun _ _ => rfl)) (pe_ix ix_tup (pv 1) pe_int (fun _ _ => rfl))) pa_nil))))), ?_⟩
    refine ⟨_, rfl, _, _, _, _, rfl, rfl, (SqT.of ha), (atI_nat (j := 0) rfl), _, rfl, _, _, _, _, rfl, rfl, (SqT.of hb), (atI_nat (j := 1) rfl), _, _, rfl, rfl, (mulK hk (by assumption) (by assumption)), _, rfl, _, _, _, _, rfl, rfl, (SqT.of ha), (atI_nat (j := 1) rfl), _, rfl, _, _, _, _, rfl, rfl, (SqT.of hb), (atI_nat (j := 0) rfl), _, _, rfl, rfl, (mulK hk (by assumption) (by assumption)), _, _, rfl, fun z => ?_, fun z => ⟨(p2.mul q1).mono (by omega), fun v H' s f => fin (fun y => z ?_) v H' s f⟩⟩
    · exact h0 ((Int.mul_eq_zero.mp z).resolve_left (by omega))
    · rw [y, Int.mul_zero]
def cmpF (p q : Int × Int) : Int := if p.1 * q.2 < q.1 * p.2 then -1 else if q.1 * p.2 < p.1 * q.2 then 1 else 0
def sp_compare : Sp := fun vs H Q _ => ∃ (va vb : V) (p q : Int × Int) (k : Nat), vs = [va, vb] ∧ Fr H va p ∧ Fr H vb q ∧ Ok k p ∧ Ok k q ∧ k ≤ 3000 ∧ Q (.int (cmpF p q)) H
theorem ok_compare (T : Top K mg) : FnOk P w K mg base CX0 1 T.a_compare T.d_compare ["a", "b"] sp_compare := by
  refine T.compare_F.ok sc_compare (fun vs H Q E h => ?_) (fun cdv A outer s H vs Q E hr h => ?_)
  · obtain ⟨_, _, _, _, _, rfl, _⟩ := h
    rfl
  · obtain ⟨_, _, p, q, k, rfl, ⟨a, rfl, ha⟩, ⟨b, rfl, hb⟩, ⟨lp, p1, p2⟩, ⟨lq, q1, q2⟩, hk, fin⟩ := h
    refine ⟨_, (pss_cons (ps_set (i := 2) sc_compare.nd rfl (Or.inl rfl) (pe_op op_mulW (pe_ix ix_tup (pv 0) pe_int (fun _ _ => rfl)) (pe_ix ix_tup (pv 1) pe_int (fun _ _ => rfl))))
      (pss_cons (ps_set (i := 3) sc_compare.nd rfl (Or.inl rfl) (pe_op op_mulW (pe_ix ix_tup (pv 1) pe_int (fun _ _ => rfl)) (pe_ix ix_tup (pv 0) pe_int (fun _ _ => rfl))))
      (pss_cons (ps_if (pt_cmpR op_lt (pv 2) (pv 3) (nomark _)) (pss_one (ps_ret (pe_un un_neg pe_int))) pss_nil)
      (pss_one (ps_ret (pe_ifExp (pt_cmpR op_gt (pv 2) (pv 3) (nomark _)) pe_int pe_int)))))), ?_⟩
    refine ⟨_, rfl, _, _, _, _, rfl, rfl, (SqT.of ha), (atI_nat (j := 0) rfl), _, rfl, _, _, _, _, rfl, rfl, (SqT.of hb), (atI_nat (j := 1) rfl), _, _, rfl, rfl, (mulK hk (by assumption) (by assumption)), _, rfl, _, _, _, _, rfl, rfl, (SqT.of hb), (atI_nat (j := 0) rfl), _, rfl, _, _, _, _, rfl, rfl, (SqT.of ha), (atI_nat (j := 1) rfl), _, _, rfl, rfl, (mulK hk (by assumption) (by assumption)), ?_⟩
    refine ⟨_, rfl, _, rfl, _, _, rfl, rfl, _, rfl, ite2 (fun e => ?_) (fun e => ?_)⟩
    · have c : cmpF p q = -1 := if_pos (of_decide_eq_true e)
      rw [c] at fin
      exact ⟨_, rfl, fin⟩
    · have e0 : ¬ p.1 * q.2 < q.1 * p.2 := fun z => e (decide_eq_true z)
      refine ⟨_, rfl, _, rfl, _, _, rfl, rfl, _, rfl, ite2 (fun e => ?_) (fun e => ?_)⟩
      · have c : cmpF p q = 1 := (if_neg e0).trans (if_pos (of_decide_eq_true e))
        rw [c] at fin
        exact fin
      · have c : cmpF p q = 0 := (if_neg e0).trans (if_neg fun z => e (decide_eq_true z))
        rw [c] at fin
        exact fin
def sp_total (K : PySem.W.Frag) : Sp := fun vs H Q _ => ∃ (a : Addr) (xs : List V) (qs : List (Int × Int)) (k : Nat), vs = [.ref a] ∧ SqT K H a xs ∧ FrAll H xs qs ∧ (∀ q ∈ qs, Ok k q) ∧ (k + 1) * qs.length + 1 ≤ 3000 ∧ k ≤ 3000 ∧ ∀ v H', Same H H' → Fr H' v (totF qs) → Q v H'
theorem ok_total (T : Top K mg) : FnOk P w K mg base CX0 3 T.a_total T.d_total ["items"] (sp_total K) := by
  refine T.total_F.ok sc_total (fun vs H Q E h => ?_) (fun cdv A outer s H vs Q E hr h => ?_)
  · obtain ⟨_, _, _, _, rfl, _⟩ := h
    rfl
  · obtain ⟨a, xs, qs, k, rfl, hS, hF, hO, hk, hk3, fin⟩ := h
    refine ⟨_, (pss_cons (ps_set (i := 1) sc_total.nd rfl (Or.inl rfl) (pe_tup (pa_cons pe_int (pa_cons pe_int pa_nil))))
      (pss_cons (ps_for PassesOwn.never rfl (pi_tup (pv 0)) (pg_name (i := 2) sc_total.nd rfl (Or.inl rfl)) (pss_one (ps_set (i := 1) sc_total.nd rfl (Or.inl rfl) (pe_call (ok_plus T) (hr.mono (by decide : 2 ≤ 2)) (by rfl) T.g_plus T.plus_F.kp T.plus_b .nil pass0 (pa_cons (pv 1) (pa_cons (pv 2) pa_nil))))))
      (pss_one (ps_ret (pv 1))))), ?_⟩
    refine ⟨two_le, fun p hp => ?_⟩
    have s1 := same_new (o := .tup [.int 0, .int 1]) hp
    refine ⟨_, rfl, a, rfl, ⟨_, Evl.ex_t s1 hS⟩, for_tup (fun i σ H' => ∃ r y, σ = [some (.ref a), some r, y] ∧ Same H H' ∧ Fr H' r (totF (qs.take i))) ⟨_, none, rfl, s1, p, rfl, upd_same⟩ (fun i σ H' _ ⟨_, _, _, sm, _⟩ => Evl.ex_t sm hS) ?_ ?_⟩
    · rintro i x σ H' hi ⟨r, y, rfl, sm, fr⟩
      obtain ⟨q, hq, fq⟩ := hF.2 i x hi
      have il : i < qs.length := (List.getElem?_eq_some_iff.mp hq).1
      have ho := hO q (List.mem_of_getElem? hq)
      have ht := totF_ok (qs.take i) fun z hz => hO z (List.mem_of_mem_take hz)
      rw [List.length_take, Nat.min_eq_left (by omega)] at ht
      have hm : (k + 1) * i + 1 ≤ 3000 := by
        have := Nat.mul_le_mul_left (k + 1) (Nat.le_of_lt il)
        omega
      refine ⟨_, rfl, _, rfl, r, x, _, q, 3000, rfl, fr, fq.same sm, ht.mono hm, ho.mono hk3, by decide, fun v H2 s2 f2 => ?_⟩
      refine ⟨v, some x, rfl, sm.trans s2, ?_⟩
      rw [take_next hq, totF_add]
      exact f2
    · rintro σ H' ⟨r, y, rfl, sm, fr⟩
      rw [hF.1, List.take_length] at fr
      exact ⟨_, rfl, fin r H' sm fr⟩
def sp_begin (K : PySem.W.Frag) : Sp := fun vs H Q _ => ∃ (a : Addr) (ns : List Int), vs = [.ref a] ∧ SqL K H a (ns.map V.int) ∧ ∀ pd ps H', Same H H' → H pd = none → H ps = none → Dst H' pd ps → Q (.ref pd) H'
theorem ok__law_begin (T : Top K mg) : FnOk P w K mg base CX0 1 T.a__law_begin T.d__law_begin ["script"] (sp_begin K) := by
  refine T._law_begin_F.ok sc__law_begin (fun vs H Q E h => ?_) (fun cdv A outer s H vs Q E hr h => ?_)
  · obtain ⟨_, _, rfl, _⟩ := h
    rfl
  · obtain ⟨a, ns, rfl, hS, fin⟩ := h
    refine ⟨_, (pss_cons (ps_set (i := 1) sc__law_begin.nd rfl (Or.inl rfl) pe_int)
      (pss_cons (ps_for PassesOwn.never rfl (pi_list (pv 0)) (pg_name (i := 2) sc__law_begin.nd rfl (Or.inl rfl)) (pss_one (ps_set (i := 1) sc__law_begin.nd rfl (Or.inl rfl) (pe_op op_mod (pe_op op_add (pe_op op_add (pe_op op_mul (pv 1) pe_int) (pe_op op_mod (pe_callTy call_intI (by rfl) T.n_int (by decide +kernel) (pa_cons (pv 2) pa_nil)) pe_int)) pe_int) pe_int))))
      (pss_one (ps_ret (pe_lst (pa_cons (pe_callTy call_listL (by rfl) T.n_list (by decide +kernel) (pa_cons (pv 0) pa_nil)) (pa_cons pe_int (pa_cons pe_int (pa_cons (pv 1) pa_nil))))))))), ?_⟩
    refine ⟨_, rfl, a, rfl, ⟨_, hS⟩, for_list (K := K) (a := a) (xs := ns.map V.int) (fun i σ H' => ∃ (r : Int) (y : Option V), σ = [some (.ref a), some (.int r), y] ∧ H' = H) ⟨_, none, rfl, rfl⟩ (fun i σ H' _ ⟨_, _, _, e⟩ => e ▸ hS) ?_ ?_⟩
    · rintro i x σ H' hi ⟨r, y, rfl, rfl⟩
      obtain ⟨z, rfl⟩ : ∃ z, x = V.int z := by
        rw [List.getElem?_map] at hi
        cases e : ns[i]? with
        | none =>
          rw [e] at hi
          cases hi
        | some z =>
          rw [e] at hi
          exact ⟨z, (Option.some.inj hi).symm⟩
      exact ⟨_, rfl, _, _, rfl, rfl, mulC ⟨by decide, by decide⟩, _, rfl, _, rfl, _, _, rfl, rfl, (by show (0 : Int) < 2147483629; decide), _, _, rfl, rfl, _, _, rfl, rfl, _, _, rfl, rfl, (by show (0 : Int) < 2147483647; decide), _, _, rfl, rfl⟩
    · rintro σ H' ⟨r, y, rfl, rfl⟩
      refine ⟨_, rfl, _, _, rfl, hS, fun l hl => ⟨_, rfl, (by decide : 4 ≤ sizeLine), fun p hp => ?_⟩⟩
      have s1 := same_new (o := .lst (ns.map V.int)) hl
      have s2 := same_new (o := .lst [.ref l, .int 0, .int 0, .int r]) hp
      have nlp : l ≠ p := fun e => by
        rw [← e, upd_same] at hp
        cases hp
      exact fin p l _ (s1.trans s2) (s1.free hp) hl ⟨0, 0, ns, ⟨⟨_, upd_same⟩, by rw [upd_ne nlp, upd_same], nlp, by decide, by decide⟩⟩
def sp_take : Sp := fun vs H Q _ => ∃ (pd ps : Addr) (many : Int), vs = [.ref pd, .int many] ∧ Dst H pd ps ∧ 0 < many ∧ Bd 8000 many ∧ ∀ r H', Xt pd H H' → Dst H' pd ps → 0 ≤ r → r < many → Q (.int r) H'
theorem ok__law_take (T : Top K mg) : FnOk P w K mg base CX0 1 T.a__law_take T.d__law_take ["d", "many"] sp_take := by
  refine T._law_take_F.ok sc__law_take (fun vs H Q E h => ?_) (fun cdv A outer s H vs Q E hr h => ?_)
  · obtain ⟨_, _, _, rfl, _⟩ := h
    rfl
  · obtain ⟨pd, ps, many, rfl, ⟨i, r, ns, D⟩, hm, hM, fin⟩ := h
    have md : ∀ x H', Xt pd H H' → Dst H' pd ps → Q (.int (x % many)) H' := fun x H' h1 h2 => fin _ H' h1 h2 (Int.emod_nonneg x (by omega)) (Int.emod_lt_of_pos x hm)
    refine ⟨_, (Evl.pss_cut (ps_if (PW.pt (pw_and (pt_cmpR op_eq (pe_ix ix_list (pv 0) pe_int (fun _ _ => rfl)) pe_int (nomark _)) (pw_and1 (pt_cmpR op_lt (pe_ix ix_list (pv 0) pe_int (fun _ _ => rfl)) (pe_callB call_lenL (by rfl) T.n_len (by decide +kernel) (pa_cons (pe_ix ix_list (pv 0) pe_int (fun _ _ => rfl)) pa_nil)) (nomark _))))) (pss_cons (ps_asg (pe_callB call_abs (by rfl) T.n_abs (by decide +kernel) (pa_cons (pe_callTy call_intI (by rfl) T.n_int (by decide +kernel) (pa_cons (pe_ix ix_list (pe_ix ix_list (pv 0) pe_int (fun _ _ => rfl)) (pe_ix ix_list (pv 0) pe_int (fun _ _ => rfl)) (fun _ _ => rfl)) pa_nil)) pa_nil)) (pg_sub (pv 0) pe_int set_list))
      (pss_cons (ps_asg (pe_op op_add (pe_ix ix_list (pv 0) pe_int (fun _ _ => rfl)) pe_int) (pg_sub (pv 0) pe_int set_list))
      (pss_one (ps_if (pt_cmpR op_lt (pe_ix ix_list (pv 0) pe_int (fun _ _ => rfl)) (pe_op op_pow pe_int pe_int) (nomark _)) (pss_cons (ps_set (i := 2) sc__law_take.nd rfl (Or.inl rfl) (pe_callTy call_intI (by rfl) T.n_int (by decide +kernel) (pa_cons (pe_ix ix_list (pv 0) pe_int (fun _ _ => rfl)) pa_nil)))
      (pss_cons (ps_asg pe_int (pg_sub (pv 0) pe_int set_list))
      (pss_one (ps_ret (pe_op op_mod (pv 2) (pv 1)))))) pss_nil)))) pss_nil)
      (pss_cons (ps_if (pt_cmpR op_gt (pe_ix ix_list (pv 0) pe_int (fun _ _ => rfl)) pe_int (nomark _)) (pss_cons (ps_set (i := 3) sc__law_take.nd rfl (Or.inl rfl) (pe_op op_mod (pe_callTy call_intI (by rfl) T.n_int (by decide +kernel) (pa_cons (pe_ix ix_list (pv 0) pe_int (fun _ _ => rfl)) pa_nil)) (pv 1)))
      (pss_cons (ps_asg (pe_op op_fdivX (pe_callTy call_intI (by rfl) T.n_int (by decide +kernel) (pa_cons (pe_ix ix_list (pv 0) pe_int (fun _ _ => rfl)) pa_nil)) (pv 1)) (pg_sub (pv 0) pe_int set_list))
      (pss_one (ps_ret (pv 3))))) pss_nil)
      (pss_cons (ps_asg (pe_op op_mod (pe_callTy call_intI (by rfl) T.n_int (by decide +kernel) (pa_cons (pe_op op_add (pe_op op_mul (pe_ix ix_list (pv 0) pe_int (fun _ _ => rfl)) pe_int) pe_int) pa_nil)) pe_int) (pg_sub (pv 0) pe_int set_list))
      (pss_one (ps_ret (pe_op op_mod (pe_callTy call_intI (by rfl) T.n_int (by decide +kernel) (pa_cons (pe_op op_fdivX (pe_ix ix_list (pv 0) pe_int (fun _ _ => rfl)) pe_int) pa_nil)) (pv 1))))))), ?_⟩
    refine ⟨fun σ H' => ∃ y z r', σ = [some (.ref pd), some (.int many), y, z] ∧ Xt pd H H' ∧ ∃ i', DstI H' pd ps i' r' ns, ?_, ?_⟩
    · obtain ⟨sd, hd⟩ := D.at_d
      have stay : ∃ y z r', ([some (.ref pd), some (.int many), none, none] : List (Option V)) = [some (.ref pd), some (.int many), y, z] ∧ Xt pd H H ∧ ∃ i', DstI H pd ps i' r' ns := ⟨none, none, r, rfl, Xt.refl H, i, D⟩
      refine ⟨_, rfl, _, _, _, _, rfl, rfl, (SqL.of hd), (atI_nat (j := 2) rfl), rfl, _, rfl, ite2 (fun e => ?_) (fun e => iteF stay)⟩
      refine ⟨_, rfl, _, _, _, _, rfl, rfl, (SqL.of hd), (atI_nat (j := 1) rfl), _, rfl, _, _, _, _, rfl, rfl, (SqL.of hd), (atI_nat (j := 0) rfl), _, _, rfl, SqL.of D.at_s, _, _, rfl, rfl, _, rfl, ite2 (fun e1 => ?_) (fun e1 => stay)⟩
      have e2 : i < ((ns.map V.int).length : Int) := of_decide_eq_true e1
      rw [List.length_map] at e2
      obtain ⟨j, rfl⟩ := Int.eq_ofNat_of_zero_le D.i0
      have jl : j < ns.length := by omega
      have gj : (ns.map V.int)[j]? = some (.int ns[j]) := by
        rw [List.getElem?_map, List.getElem?_eq_getElem jl]
        rfl
      have ab : ∀ x : Int, 0 ≤ (if x < 0 then -x else x) := fun x => by split <;> omega
      refine ⟨_, rfl, _, _, _, _, rfl, rfl, (SqL.of hd), (atI_nat (j := 0) rfl), _, rfl, _, _, _, _, rfl, rfl, (SqL.of hd), (atI_nat (j := 1) rfl), _, _, _, _, rfl, rfl, SqL.of D.at_s, atI_nat gj, _, rfl, _, rfl, _, rfl, _, _, _, _, rfl, rfl, hd, rfl, ?_⟩
      have D1 := D.set (s' := sd) D.i0 (ab ns[j])
      obtain ⟨_, hd1⟩ := D1.at_d
      have hd1 : (upd H pd (.lst [.ref ps, .int (j : Int), .int (if ns[j] < 0 then -ns[j] else ns[j]), .int sd])) pd = _ := upd_same
      refine ⟨_, rfl, _, _, _, _, rfl, rfl, (SqL.of hd1), (atI_nat (j := 1) rfl), _, _, rfl, rfl, _, rfl, _, _, _, _, rfl, rfl, hd1, rfl, ?_⟩
      have D2 := D1.upd2 (i' := (j : Int) + 1) (r' := if ns[j] < 0 then -ns[j] else ns[j]) (s' := sd) (o := .lst [.ref ps, .int (j : Int), .int (if ns[j] < 0 then -ns[j] else ns[j]), .int sd]) (by omega) (ab ns[j])
      rw [upd_upd]
      have hd2 : (upd H pd (.lst [.ref ps, .int ((j : Int) + 1), .int (if ns[j] < 0 then -ns[j] else ns[j]), .int sd])) pd = _ := upd_same
      have D2 := D.set (i' := (j : Int) + 1) (r' := if ns[j] < 0 then -ns[j] else ns[j]) (s' := sd) (by omega) (ab ns[j])
      refine ⟨_, rfl, _, _, _, _, rfl, rfl, (SqL.of hd2), (atI_nat (j := 2) rfl), _, _, rfl, rfl, ⟨by decide, by decide, by decide⟩, _, _, rfl, rfl, _, rfl, ite2 (fun e3 => ?_) (fun e3 => ?_)⟩
      · refine ⟨_, rfl, _, _, _, _, rfl, rfl, (SqL.of hd2), (atI_nat (j := 2) rfl), _, rfl, _, rfl, _, _, _, _, rfl, rfl, hd2, rfl, _, rfl, _, rfl, _, _, rfl, rfl, hm, ?_⟩
        rw [upd_upd]
        exact md _ _ Xt.upd ⟨_, _, _, D.set (by omega) (by decide)⟩
      · exact ⟨none, none, _, rfl, Xt.upd, _, D2⟩
    · rintro σ H' ⟨y, z, r', rfl, hx, i', D'⟩
      obtain ⟨sd, hd⟩ := D'.at_d
      refine ⟨_, rfl, _, _, _, _, rfl, rfl, (SqL.of hd), (atI_nat (j := 2) rfl), _, _, rfl, rfl, _, rfl, ite2 (fun e => ?_) (fun e => ?_)⟩
      · refine ⟨_, rfl, _, _, _, _, rfl, rfl, (SqL.of hd), (atI_nat (j := 2) rfl), _, rfl, _, rfl, _, _, rfl, rfl, hm, _, rfl, _, _, _, _, rfl, rfl, (SqL.of hd), (atI_nat (j := 2) rfl), _, rfl, _, rfl, _, _, rfl, rfl, divX (by omega) hM, _, rfl, _, _, _, _, rfl, rfl, hd, rfl, _, rfl, ?_⟩
        refine md _ _ (hx.trans Xt.upd) ⟨_, _, _, D'.set D'.i0 ?_⟩
        rw [Int.fdiv_eq_ediv_of_nonneg _ (by omega)]
        exact Int.ediv_nonneg D'.r0 (by omega)
      · refine ⟨_, rfl, _, _, _, _, rfl, rfl, (SqL.of hd), (atI_nat (j := 3) rfl), _, _, rfl, rfl, mulC ⟨by decide, by decide⟩, _, _, rfl, rfl, _, rfl, _, _, rfl, rfl, (by show (0 : Int) < 2147483647; decide), _, rfl, _, _, _, _, rfl, rfl, hd, rfl, ?_⟩
        have D2 := D'.set (i' := i') (r' := r') (s' := (sd * 48271 + 11) % 2147483647) D'.i0 D'.r0
        have hd2 : (upd H' pd (.lst [.ref ps, .int i', .int r', .int ((sd * 48271 + 11) % 2147483647)])) pd = _ := upd_same
        exact ⟨_, rfl, _, _, _, _, rfl, rfl, (SqL.of hd2), (atI_nat (j := 3) rfl), _, _, rfl, rfl, ⟨by decide, by decide⟩, _, rfl, _, rfl, _, _, rfl, rfl, hm, md _ _ (hx.trans Xt.upd) ⟨_, _, _, D2⟩⟩
def sp_signed : Sp := fun vs H Q _ => ∃ (pd ps : Addr) (most : Int), vs = [.ref pd, .int most] ∧ Dst H pd ps ∧ 0 ≤ most ∧ Bd 7000 most ∧ ∀ r H', Xt pd H H' → Dst H' pd ps → -most ≤ r → r ≤ most → Q (.int r) H'
theorem ok__law_signed (T : Top K mg) : FnOk P w K mg base CX0 2 T.a__law_signed T.d__law_signed ["d", "most"] sp_signed := by
  refine T._law_signed_F.ok sc__law_signed (fun vs H Q E h => ?_) (fun cdv A outer s H vs Q E hr h => ?_)
  · obtain ⟨_, _, _, rfl, _⟩ := h
    rfl
  · obtain ⟨pd, ps, most, rfl, D, hm, hM, fin⟩ := h
    have h2 : Bd 8000 (2 * most + 1) := by
      have a : Bd 2 2 := by unfold Bd; decide
      have b : Bd 1 1 := by unfold Bd; decide
      exact ((a.mul hM).add b).mono (by decide)
    refine ⟨_, (pss_one (ps_ret (pe_op op_sub (pe_call (ok__law_take T) (hr.mono (by decide : 1 ≤ 1)) (by rfl) T.g__law_take T._law_take_F.kp T._law_take_b .nil pass0 (pa_cons (pv 0) (pa_cons (pe_op op_add (pe_op op_mul pe_int (pv 1)) pe_int) pa_nil))) (pv 1)))), ?_⟩
    exact ⟨_, rfl, _, rfl, _, _, rfl, rfl, mulC' ⟨by decide, by decide⟩, _, _, rfl, rfl, pd, ps, _, rfl, D, by omega, h2, fun r H' hx D' r0 r1 => ⟨_, rfl, _, _, rfl, rfl, fin _ _ hx D' (by omega) (by omega)⟩⟩
def sp_int : Sp := fun vs H Q _ => ∃ i : Int, vs = [.int i] ∧ Q (.bl true) H
theorem ok__law_int (T : Top K mg) : FnOk P w K mg base CX0 1 T.a__law_int T.d__law_int ["actual"] sp_int := by
  refine T._law_int_F.ok sc__law_int (fun vs H Q E h => ?_) (fun cdv A outer s H vs Q E hr h => ?_)
  · obtain ⟨_, rfl, _⟩ := h
    rfl
  · obtain ⟨i, rfl, fin⟩ := h
    refine ⟨_, (pss_one (ps_ret (pe_and (pe_callB call_isi (by rfl) T.n_isinstance (by decide +kernel) (pa_cons (pv 0) (pa_cons (pe_bltn (v := .ty "int") (u := .type "int") (by rfl) T.n_int (by decide +kernel) rfl) pa_nil))) (pe_one (pe_not (pe_callB call_isi (by rfl) T.n_isinstance (by decide +kernel) (pa_cons (pv 0) (pa_cons (pe_bltn (v := .ty "bool") (u := .type "bool") (by rfl) T.n_bool (by decide +kernel) rfl) pa_nil)))))))), ?_⟩
    exact ⟨_, rfl, _, _, _, _, true, rfl, .ty _, .base (.int _), kit_ty (by decide +kernel), _, rfl, iteT ⟨_, rfl, _, _, _, _, false, rfl, .ty _, .base (.int _), kit_ty (by decide +kernel), _, rfl, fin⟩⟩
def sp_gcd : Sp := fun vs H Q _ => ∃ a b : Int, vs = [.int a, .int b] ∧ 0 ≤ a ∧ 0 ≤ b ∧ Q (.int (Int.gcd a b : Int)) H
theorem ok__law_gcd (T : Top K mg) : FnOk P w K mg base CX0 1 T.a__law_gcd T.d__law_gcd ["a", "b"] sp_gcd := by
  refine T._law_gcd_F.ok sc__law_gcd (fun vs H Q E h => ?_) (fun cdv A outer s H vs Q E hr h => ?_)
  · obtain ⟨_, _, rfl, _⟩ := h
    rfl
  · obtain ⟨a, b, rfl, ha, hb, fin⟩ := h
    refine ⟨_, (pss_cons (ps_while PassesOwn.never (pt_cmpR op_ne (pv 1) pe_int (nomark _)) (pss_one (ps_par (i := 0) (j := 1) (by rfl) sc__law_gcd.nd rfl rfl (by decide) rfl rfl (pa_cons (pv 1) (pa_cons (pe_op op_mod (pe_callTy call_intI (by rfl) T.n_int (by decide +kernel) (pa_cons (pv 0) pa_nil)) (pv 1)) pa_nil)) (by rfl))))
      (pss_one (ps_ret (pe_callB call_abs (by rfl) T.n_abs (by decide +kernel) (pa_cons (pv 0) pa_nil))))), ?_⟩
    refine ⟨fun m σ H' => ∃ x y : Int, σ = [some (.int x), some (.int y)] ∧ H' = H ∧ 0 ≤ x ∧ 0 ≤ y ∧ m = y.toNat ∧ Int.gcd x y = Int.gcd a b, ⟨_, a, b, rfl, rfl, ha, hb, rfl, rfl⟩, ?_⟩
    rintro m σ H' ⟨x, y, rfl, rfl, hx, hy, rfl, hg⟩
    refine ⟨_, rfl, rfl, _, rfl, ?_⟩
    by_cases e : y = 0
    · subst e
      refine iteNS rfl ?_
      have e1 : (if x < 0 then -x else x) = (Int.gcd a b : Int) := by
        rw [if_neg (by omega), ← hg, Int.gcd_zero_right]
        omega
      rw [← e1] at fin
      exact ⟨_, rfl, _, rfl, fin⟩
    · refine ite2 (fun _ => ?_) (fun z => (z (by simp [e])).elim)
      refine ⟨_, fun _ _ z => z, ?_⟩
      have hp : 0 < y := by omega
      refine ⟨_, rfl, _, rfl, _, rfl, _, rfl, _, _, rfl, rfl, hp, _, _, rfl, (x % y).toNat, ?_, y, x % y, rfl, rfl, hy, Int.emod_nonneg _ e, rfl, ?_⟩
      · have := Int.emod_lt_of_pos x hp
        have := Int.emod_nonneg x e
        omega
      · rw [gcd_step x y hx hy, hg]
def sp_f : Sp := fun vs H Q _ => ∃ a b : Int, vs = [.int a, .int b] ∧ b ≠ 0 ∧ Bd 8000 b ∧ ∀ v H', Same H H' → Fr H' v (frac a b) → Q v H'
theorem ok__law_f (T : Top K mg) : FnOk P w K mg base CX0 2 T.a__law_f T.d__law_f ["a", "b"] sp_f := by
  refine T._law_f_F.ok sc__law_f (fun vs H Q E h => ?_) (fun cdv A outer s H vs Q E hr h => ?_)
  · obtain ⟨_, _, rfl, _⟩ := h
    rfl
  · obtain ⟨a, b, rfl, hb, hB, fin⟩ := h
    have eL := fracL_eq (a := a) hb
    have ab : ∀ x : Int, 0 ≤ (if x < 0 then -x else x) := fun x => by split <;> omega
    have key : ∀ x y : Int, 0 < y → Bd 8000 y → (x / (Int.gcd x y : Int), y / (Int.gcd x y : Int)) = frac a b → ∀ p, H p = none → 
        CDivX x (Int.gcd (if x < 0 then -x else x) y : Int) ∧ CDivX y (Int.gcd (if x < 0 then -x else x) y : Int) ∧ Q (.ref p) (upd H p (.tup [.int (x.fdiv (Int.gcd (if x < 0 then -x else x) y : Int)), .int (y.fdiv (Int.gcd (if x < 0 then -x else x) y : Int))])) := by
      intro x y hy hY e p hp
      have eg : Int.gcd (if x < 0 then -x else x) y = Int.gcd x y := by
        split
        · exact Int.neg_gcd
        · rfl
      have g0 : 0 < Int.gcd x y := gcd_pos (by omega)
      have gB : Bd 8000 (Int.gcd x y : Int) := hY.le (by
        show Int.gcd x y ≤ y.natAbs
        exact Nat.le_of_dvd (by omega) (Nat.gcd_dvd_right _ _))
      rw [eg]
      refine ⟨divX (by omega) gB, divX (by omega) gB, fin _ _ (same_new hp) ⟨p, rfl, ?_⟩⟩
      rw [Int.fdiv_eq_ediv_of_nonneg _ (by omega), Int.fdiv_eq_ediv_of_nonneg _ (by omega), ← e]
      exact upd_same
    have go : ∀ x y : Int, 0 < y → Bd 8000 y → (x / (Int.gcd x y : Int), y / (Int.gcd x y : Int)) = frac a b → ∃ (u v : Int), u = (Int.gcd (if x < 0 then -x else x) y : Int) ∧ CDivX x u ∧ CDivX y u ∧ ∀ p, H p = none → Q (.ref p) (upd H p (.tup [.int (x.fdiv u), .int (y.fdiv u)])) := by
      intro x y hy hY e
      have eg : Int.gcd (if x < 0 then -x else x) y = Int.gcd x y := by
        split
        · exact Int.neg_gcd
        · rfl
      have g0 : 0 < Int.gcd x y := gcd_pos (by omega)
      have gB : Bd 8000 (Int.gcd x y : Int) := hY.le (by
        show Int.gcd x y ≤ y.natAbs
        exact Nat.le_of_dvd (by omega) (Nat.gcd_dvd_right _ _))
      refine ⟨_, 0, rfl, ?_, ?_, fun p hp => (key x y hy hY e p hp).2.2⟩
      · rw [eg]; exact divX (by omega) gB
      · rw [eg]; exact divX (by omega) gB
    refine ⟨_, (pss_cons (ps_if (pt_cmpR op_lt (pv 1) pe_int (nomark _)) (pss_cons (ps_set (i := 0) sc__law_f.nd rfl (Or.inl rfl) (pe_op op_sub pe_int (pv 0)))
      (pss_one (ps_set (i := 1) sc__law_f.nd rfl (Or.inl rfl) (pe_op op_sub pe_int (pv 1))))) pss_nil)
      (pss_cons (ps_set (i := 2) sc__law_f.nd rfl (Or.inl rfl) (pe_call (ok__law_gcd T) (hr.mono (by decide : 1 ≤ 1)) (by rfl) T.g__law_gcd T._law_gcd_F.kp T._law_gcd_b .nil pass0 (pa_cons (pe_callB call_abs (by rfl) T.n_abs (by decide +kernel) (pa_cons (pv 0) pa_nil)) (pa_cons (pv 1) pa_nil))))
      (pss_one (ps_ret (pe_tup (pa_cons (pe_op op_fdivX (pv 0) (pv 2)) (pa_cons (pe_op op_fdivX (pv 1) (pv 2)) pa_nil))))))), ?_⟩
    refine ⟨_, rfl, _, _, rfl, rfl, _, rfl, ite2 (fun e => ?_) (fun e => ?_)⟩
    · have e0 : b < 0 := of_decide_eq_true e
      obtain ⟨u, _, eu, c1, c2, k⟩ := go (0 - a) (0 - b) (by omega) (by rw [Int.zero_sub]; exact hB.neg) (by
        rw [← eL]
        unfold fracL
        simp only [if_pos e0])
      subst eu
      exact ⟨_, rfl, _, _, rfl, rfl, _, rfl, _, _, rfl, rfl, _, rfl, _, rfl, _, rfl, _, _, rfl, ab _, by omega, _, rfl, _, rfl, _, _, rfl, rfl, c1, _, rfl, _, rfl, _, _, rfl, rfl, c2, two_le, k⟩
    · have e0 : ¬ b < 0 := fun z => e (decide_eq_true z)
      obtain ⟨u, _, eu, c1, c2, k⟩ := go a b (by omega) hB (by
        rw [← eL]
        unfold fracL
        simp only [if_neg e0])
      subst eu
      exact ⟨_, rfl, _, rfl, _, rfl, _, _, rfl, ab _, by omega, _, rfl, _, rfl, _, _, rfl, rfl, c1, _, rfl, _, rfl, _, _, rfl, rfl, c2, two_le, k⟩
theorem ok__law_plus (T : Top K mg) : FnOk P w K mg base CX0 3 T.a__law_plus T.d__law_plus ["a", "b"] (sp2 addF) := by
  refine T._law_plus_F.ok sc__law_plus (fun vs H Q E h => ?_) (fun cdv A outer s H vs Q E hr h => ?_)
  · obtain ⟨_, _, _, _, _, rfl, _⟩ := h
    rfl
  · obtain ⟨_, _, p, q, k, rfl, ⟨a, rfl, ha⟩, ⟨b, rfl, hb⟩, ⟨lp, p1, p2⟩, ⟨lq, q1, q2⟩, hk, fin⟩ := h
    have ne := pos_ne lp.pos lq.pos
    refine ⟨_, (pss_one (ps_ret (pe_call (ok__law_f T) (hr.mono (by decide : 2 ≤ 2)) (by rfl) T.g__law_f T._law_f_F.kp T._law_f_b .nil pass0 (pa_cons (pe_op op_add (pe_op op_mulW (pe_ix ix_tup (pv 0) pe_int (fun _ _ => rfl)) (pe_ix ix_tup (pv 1) pe_int (fun _ _ => rfl))) (pe_op op_mulW (pe_ix ix_tup (pv 1) pe_int (fun _ _ => rfl)) (pe_ix ix_tup (pv 0) pe_int (fun _ _ => rfl)))) (pa_cons (pe_op op_mulW (pe_ix ix_tup (pv 0) pe_int (fun _ _ => rfl)) (pe_ix ix_tup (pv 1) pe_int (fun _ _ => rfl))) pa_nil))))), ?_⟩
    exact ⟨_, rfl, _, _, _, _, rfl, rfl, (SqT.of ha), (atI_nat (j := 0) rfl), _, rfl, _, _, _, _, rfl, rfl, (SqT.of hb), (atI_nat (j := 1) rfl), _, _, rfl, rfl, (mulK hk (by assumption) (by assumption)), _, rfl, _, _, _, _, rfl, rfl, (SqT.of hb), (atI_nat (j := 0) rfl), _, rfl, _, _, _, _, rfl, rfl, (SqT.of ha), (atI_nat (j := 1) rfl), _, _, rfl, rfl, (mulK hk (by assumption) (by assumption)), _, _, rfl, rfl, _, rfl, _, _, _, _, rfl, rfl, (SqT.of ha), (atI_nat (j := 1) rfl), _, rfl, _, _, _, _, rfl, rfl, (SqT.of hb), (atI_nat (j := 1) rfl), _, _, rfl, rfl, (mulK hk (by assumption) (by assumption)), _, _, rfl, ne, (p2.mul q2).mono (by omega), fun v H' s f => fin v H' s f⟩
def sp_less : Sp := fun vs H Q _ => ∃ (va vb : V) (p q : Int × Int) (k : Nat), vs = [va, vb] ∧ Fr H va p ∧ Fr H vb q ∧ Ok k p ∧ Ok k q ∧ k ≤ 3000 ∧ Q (.bl (decide (p.1 * q.2 < q.1 * p.2))) H
theorem ok__law_less (T : Top K mg) : FnOk P w K mg base CX0 1 T.a__law_less T.d__law_less ["a", "b"] sp_less := by
  refine T._law_less_F.ok sc__law_less (fun vs H Q E h => ?_) (fun cdv A outer s H vs Q E hr h => ?_)
  · obtain ⟨_, _, _, _, _, rfl, _⟩ := h
    rfl
  · obtain ⟨_, _, p, q, k, rfl, ⟨a, rfl, ha⟩, ⟨b, rfl, hb⟩, ⟨lp, p1, p2⟩, ⟨lq, q1, q2⟩, hk, fin⟩ := h
    refine ⟨_, (pss_one (ps_ret (pe_cmpR op_lt (pe_op op_mulW (pe_ix ix_tup (pv 0) pe_int (fun _ _ => rfl)) (pe_ix ix_tup (pv 1) pe_int (fun _ _ => rfl))) (pe_op op_mulW (pe_ix ix_tup (pv 1) pe_int (fun _ _ => rfl)) (pe_ix ix_tup (pv 0) pe_int (fun _ _ => rfl))) (nomark _)))), ?_⟩
    exact ⟨_, rfl, _, _, _, _, rfl, rfl, (SqT.of ha), (atI_nat (j := 0) rfl), _, rfl, _, _, _, _, rfl, rfl, (SqT.of hb), (atI_nat (j := 1) rfl), _, _, rfl, rfl, (mulK hk (by assumption) (by assumption)), _, rfl, _, _, _, _, rfl, rfl, (SqT.of hb), (atI_nat (j := 0) rfl), _, rfl, _, _, _, _, rfl, rfl, (SqT.of ha), (atI_nat (j := 1) rfl), _, _, rfl, rfl, (mulK hk (by assumption) (by assumption)), _, _, rfl, rfl, fin⟩
def sp_is : Sp := fun vs H Q _ => ∃ (v : V) (q : Int × Int) (t b : Int) (k : Nat), vs = [v, .int t, .int b] ∧ Fr H v q ∧ Ok k q ∧ k ≤ 3000 ∧ Bd 3000 t ∧ Bd 3000 b ∧ q.1 * b = t * q.2 ∧ Q (.bl true) H
theorem ok__law_is (T : Top K mg) : FnOk P w K mg base CX0 2 T.a__law_is T.d__law_is ["actual", "top", "bottom"] sp_is := by
  refine T._law_is_F.ok sc__law_is (fun vs H Q E h => ?_) (fun cdv A outer s H vs Q E hr h => ?_)
  · obtain ⟨_, _, _, _, _, rfl, _⟩ := h
    rfl
  · obtain ⟨_, q, t, b, k, rfl, ⟨a, rfl, ha⟩, ⟨lq, q1, q2⟩, hk', hT, hB, hx, fin⟩ := h
    replace q1 := q1.mono hk'
    replace q2 := q2.mono hk'
    have hk : 3000 ≤ 3000 := by decide
    have ab : ∀ x : Int, 0 ≤ (if x < 0 then -x else x) := fun x => by split <;> omega
    have qp := lq.pos
    have c1 : decide (0 < q.2) = true := decide_eq_true qp
    have c2 : decide (V.int (q.1 * b) = V.int (t * q.2)) = true := decide_eq_true (by rw [hx])
    have c3 : decide (V.int (Int.gcd (if q.1 < 0 then -q.1 else q.1) q.2 : Int) = V.int 1) = true := decide_eq_true (by
      have eg : Int.gcd (if q.1 < 0 then -q.1 else q.1) q.2 = 1 := by
        rw [← lq.cop]
        split
        · exact Int.neg_gcd
        · rfl
      rw [eg]
      rfl)
    refine ⟨_, (pss_cons (ps_if (PW.pt (pw_or (pt_not (pt_val (pe_callB call_isi (by rfl) T.n_isinstance (by decide +kernel) (pa_cons (pv 0) (pa_cons (pe_bltn (v := .ty "tuple") (u := .type "tuple") (by rfl) T.n_tuple (by decide +kernel) rfl) pa_nil))))) (pw_or (pt_cmpR op_ne (pe_callB call_lenT (by rfl) T.n_len (by decide +kernel) (pa_cons (pv 0) pa_nil)) pe_int (nomark _)) (pw_or (pt_not (pt_val (pe_call (ok__law_int T) (hr.mono (by decide : 1 ≤ 1)) (by rfl) T.g__law_int T._law_int_F.kp T._law_int_b .nil pass0 (pa_cons (pe_ix ix_tup (pv 0) pe_int (fun _ _ => rfl)) pa_nil)))) (pw_or1 (pt_not (pt_val (pe_call (ok__law_int T) (hr.mono (by decide : 1 ≤ 1)) (by rfl) T.g__law_int T._law_int_F.kp T._law_int_b .nil pass0 (pa_cons (pe_ix ix_tup (pv 0) pe_int (fun _ _ => rfl)) pa_nil))))))))) (pss_one (ps_ret pe_bl)) pss_nil)
      (pss_one (ps_ret (pe_and (pe_cmpR op_gt (pe_ix ix_tup (pv 0) pe_int (fun _ _ => rfl)) pe_int (nomark _)) (pe_and (pe_cmpR op_eq (pe_op op_mulW (pe_ix ix_tup (pv 0) pe_int (fun _ _ => rfl)) (pv 2)) (pe_op op_mulW (pv 1) (pe_ix ix_tup (pv 0) pe_int (fun _ _ => rfl))) (nomark _)) (pe_one (pe_cmpR op_eq (pe_call (ok__law_gcd T) (hr.mono (by decide : 1 ≤ 1)) (by rfl) T.g__law_gcd T._law_gcd_F.kp T._law_gcd_b .nil pass0 (pa_cons (pe_callB call_abs (by rfl) T.n_abs (by decide +kernel) (pa_cons (pe_ix ix_tup (pv 0) pe_int (fun _ _ => rfl)) pa_nil)) (pa_cons (pe_ix ix_tup (pv 0) pe_int (fun _ _ => rfl)) pa_nil))) pe_int (nomark _)))))))), ?_⟩
    refine ⟨_, rfl, _, _, _, _, true, rfl, .ty _, .base (.tup ha), kit_ty (by decide +kernel), _, rfl, iteF ⟨_, rfl, _, _, rfl, SqT.of ha, rfl, _, rfl, iteNS rfl ⟨_, rfl, _, _, _, _, rfl, rfl, (SqT.of ha), (atI_nat (j := 0) rfl), _, rfl, _, rfl, iteF ⟨_, rfl, _, _, _, _, rfl, rfl, (SqT.of ha), (atI_nat (j := 1) rfl), _, rfl, _, rfl, iteF ?_⟩⟩⟩⟩
    refine ⟨_, rfl, _, _, _, _, rfl, rfl, (SqT.of ha), (atI_nat (j := 1) rfl), _, _, rfl, rfl, _, rfl, if_true_of' c1 ⟨_, rfl, _, _, _, _, rfl, rfl, (SqT.of ha), (atI_nat (j := 0) rfl), _, rfl, _, _, rfl, rfl, (mulK hk (by assumption) (by assumption)), _, rfl, _, rfl, _, _, _, _, rfl, rfl, (SqT.of ha), (atI_nat (j := 1) rfl), _, _, rfl, rfl, (mulK hk (by assumption) (by assumption)), rfl, _, rfl, if_true_of' c2 ⟨_, rfl, _, _, _, _, rfl, rfl, (SqT.of ha), (atI_nat (j := 0) rfl), _, rfl, _, rfl, _, _, _, _, rfl, rfl, (SqT.of ha), (atI_nat (j := 1) rfl), _, _, rfl, ab _, by omega, rfl, ?_⟩⟩⟩
    rw [c3]
    exact fin
def sp_number : Sp := fun vs H Q _ => ∃ (pd ps : Addr), vs = [.ref pd] ∧ Dst H pd ps ∧ ∀ r H', Xt pd H H' → Dst H' pd ps → Bd 140 r → Q (.int r) H'
theorem bd_of {k : Nat} {x m : Int} (h0 : -m ≤ x) (h1 : x ≤ m) (h : Bd k m) : Bd k x := by
  unfold Bd at *
  omega
theorem ok__law_number (T : Top K mg) : FnOk P w K mg base CX0 3 T.a__law_number T.d__law_number ["d"] sp_number := by
  refine T._law_number_F.ok sc__law_number (fun vs H Q E h => ?_) (fun cdv A outer s H vs Q E hr h => ?_)
  · obtain ⟨_, _, rfl, _⟩ := h
    rfl
  · obtain ⟨pd, ps, rfl, D, fin⟩ := h
    have b60 : Bd 6 60 := by unfold Bd; decide
    have b4 : Bd 3 4 := by unfold Bd; decide
    refine ⟨_, (pss_cons (ps_set (i := 1) sc__law_number.nd rfl (Or.inl rfl) (pe_call (ok__law_signed T) (hr.mono (by decide : 2 ≤ 2)) (by rfl) T.g__law_signed T._law_signed_F.kp T._law_signed_b .nil pass0 (pa_cons (pv 0) (pa_cons pe_int pa_nil))))
      (pss_one (ps_ret (pe_ifExp (pt_cmpR op_eq (pe_call (ok__law_take T) (hr.mono (by decide : 1 ≤ 2)) (by rfl) T.g__law_take T._law_take_F.kp T._law_take_b .nil pass0 (pa_cons (pv 0) (pa_cons pe_int pa_nil))) pe_int (nomark _)) (pe_op op_add (pe_op op_mulW (pv 1) (pe_op op_pow pe_int pe_int)) (pe_call (ok__law_signed T) (hr.mono (by decide : 2 ≤ 2)) (by rfl) T.g__law_signed T._law_signed_F.kp T._law_signed_b .nil pass0 (pa_cons (pv 0) (pa_cons (pe_op op_pow pe_int pe_int) pa_nil)))) (pv 1))))), ?_⟩
    refine ⟨_, rfl, pd, ps, 60, rfl, D, by decide, b60.mono (by decide), fun n H1 x1 D1 n0 n1 => ?_⟩
    have hn := bd_of n0 n1 b60
    refine ⟨_, rfl, pd, ps, 4, rfl, D1, by decide, b4.mono (by decide), fun c H2 x2 D2 c0 c1 => ?_⟩
    refine ⟨rfl, _, rfl, ite2 (fun e => ?_) (fun e => ?_)⟩
    · refine ⟨_, rfl, _, _, rfl, rfl, ⟨by decide, by decide, by decide⟩, _, _, rfl, rfl, mulX (hn) pow38, _, rfl, _, _, rfl, rfl, ⟨by decide, by decide, by decide⟩, pd, ps, _, rfl, D2, by decide, Bd.mono pow38 (by decide), fun m H3 x3 D3 m0 m1 => ?_⟩
      exact ⟨_, _, rfl, rfl, fin _ _ ((x1.trans x2).trans x3) D3 (((hn.mul pow38).add (bd_of m0 m1 pow38)).mono (by decide))⟩
    · exact ⟨_, rfl, fin _ _ (x1.trans x2) D2 (hn.mono (by decide))⟩
def sp_refused : Sp := fun vs H Q _ => ∃ a : Int, vs = [.int a, .int 0] ∧ Q (.bl true) H
theorem ok__law_refused (T : Top K mg) : FnOk P w K mg base CX0 2 T.a__law_refused T.d__law_refused ["a", "b"] sp_refused := by
  refine T._law_refused_F.ok sc__law_refused (fun vs H Q E h => ?_) (fun cdv A outer s H vs Q E hr h => ?_)
  · obtain ⟨_, rfl, _⟩ := h
    rfl
  · obtain ⟨a, rfl, fin⟩ := h
    refine ⟨_, (pss_cons (ps_try_as (i := 3) rfl rfl sc__law_refused.nd rfl rfl ⟨rfl, by decide, .inl T.g_MarketplaceError⟩ takes0 (fun W pn xe tk _ => (pss_one (ps_set (i := 2) sc__law_refused.nd rfl (Or.inl rfl) (pe_callS (ok_fraction T) (hr.mono (by decide : 1 ≤ 1)) rfl T.g_fraction T.fraction_F.kp T.fraction_b (fun σ => passAt tk σ) (pa_cons (pv 0) (pa_cons (pv 1) pa_nil))))))
      (fun a oe cls d pn hz hf => (pss_one (ps_ret (pe_hyp (p := cls = .ref T.c_ZeroDenominator ∧ d = none) (fun z => pe_callB (call_isE T.e_ZeroDenominator (by obtain ⟨e1, e2⟩ := z; rw [← e1, ← e2]; exact hz) hf) (by rfl) T.n_isinstance (by decide +kernel) (pa_cons (pv 3) (pa_cons (pe_glob (v := .ref T.c_ZeroDenominator) (by rfl) T.g_ZeroDenominator rfl) pa_nil))))))))
      (pss_one (ps_ret pe_bl))), ?_⟩
    refine ⟨_, rfl, _, rfl, a, 0, rfl, fun _ => ?_, fun z => (z rfl).elim⟩
    refine ⟨true, PySem.W.exm_ref T.b_MarketplaceError T.h_MarketplaceError T.t_MarketplaceError T.s_ZeroDenominator_MarketplaceError, fun _ x hx => ?_, fun z => nomatch z⟩
    exact ⟨⟨rfl, rfl⟩, _, rfl, _, _, true, rfl, fun _ u => u, kit_self, fin⟩
def sp_divided : Sp := fun vs H Q _ => ∃ (va vb : V) (p q : Int × Int) (k : Nat), vs = [va, vb] ∧ Fr H va p ∧ Fr H vb q ∧ Ok k p ∧ Ok k q ∧ k ≤ 1000 ∧ ∀ H', Same H H' → Q (.bl true) H'
theorem ok__law_divided (T : Top K mg) : FnOk P w K mg base CX0 3 T.a__law_divided T.d__law_divided ["a", "b"] sp_divided := by
  refine T._law_divided_F.ok sc__law_divided (fun vs H Q E h => ?_) (fun cdv A outer s H vs Q E hr h => ?_)
  · obtain ⟨_, _, _, _, _, rfl, _⟩ := h
    rfl
  · obtain ⟨_, _, p, q, k, rfl, ⟨a, rfl, ha⟩, ⟨b, rfl, hb⟩, op, oq, hk', fin⟩ := h
    obtain ⟨lp, p1, p2⟩ := id op
    obtain ⟨lq, q1, q2⟩ := id oq
    have hk : k ≤ 3000 := by omega
    refine ⟨_, (pss_cons (ps_try_only rfl rfl ⟨rfl, by decide, .inl T.g_ZeroDenominator⟩ takes0 (fun W pn xe tk _ => (pss_one (ps_set (i := 2) sc__law_divided.nd rfl (Or.inl rfl) (pe_callS (ok_over T) (hr.mono (by decide : 2 ≤ 2)) rfl T.g_over T.over_F.kp T.over_b (fun σ => passAt tk σ) (pa_cons (pv 0) (pa_cons (pv 1) pa_nil))))))
      (fun a oe cls d pn hz hf => (pss_one (ps_ret (pe_cmpR op_eq (pe_ix (r := rIxT K) ix_tup (pv 1) pe_int (fun _ _ => rfl)) pe_int (nomark _))))))
      (pss_one (ps_ret (pe_and (pe_cmpR op_ne (pe_ix ix_tup (pv 1) pe_int (fun _ _ => rfl)) pe_int (nomark _)) (pe_one (pe_call (ok__law_is T) (hr.mono (by decide : 2 ≤ 2)) (by rfl) T.g__law_is T._law_is_F.kp T._law_is_b .nil pass0 (pa_cons (pv 2) (pa_cons (pe_op op_mulW (pe_ix ix_tup (pv 0) pe_int (fun _ _ => rfl)) (pe_ix ix_tup (pv 1) pe_int (fun _ _ => rfl))) (pa_cons (pe_op op_mulW (pe_ix ix_tup (pv 0) pe_int (fun _ _ => rfl)) (pe_ix ix_tup (pv 1) pe_int (fun _ _ => rfl))) pa_nil))))))))), ?_⟩
    refine ⟨_, rfl, _, rfl, _, _, p, q, k, rfl, ⟨a, rfl, ha⟩, ⟨b, rfl, hb⟩, op, oq, hk, fun z => ?_, fun z v H' s f => ?_⟩
    · refine ⟨true, PySem.W.exm_ref T.b_ZeroDenominator T.h_ZeroDenominator T.t_ZeroDenominator T.s_ZeroDenominator_ZeroDenominator, fun _ x hx => ?_, fun z => nomatch z⟩
      refine ⟨_, rfl, _, _, _, _, rfl, rfl, (SqT.of hb), (atI_nat (j := 0) rfl), rfl, ?_⟩
      rw [z]
      exact fin H (Same.refl H)
    · have ok := divF_ok (n := 2000) op oq z (by omega)
      have hne : p.2 * q.1 ≠ 0 := Int.mul_ne_zero (by have := lp.pos; omega) z
      have c0 : (!decide (V.int q.1 = V.int 0)) = true := by
        rw [decide_eq_false (fun e => z (V.int.inj e))]
        rfl
      have hb' := s _ _ hb
      have ha' := s _ _ ha
      refine ⟨_, rfl, _, _, _, _, rfl, rfl, (SqT.of hb'), (atI_nat (j := 0) rfl), rfl, _, rfl, if_true_of' c0 ⟨_, rfl, _, rfl, _, _, _, _, rfl, rfl, (SqT.of ha'), (atI_nat (j := 0) rfl), _, rfl, _, _, _, _, rfl, rfl, (SqT.of hb'), (atI_nat (j := 1) rfl), _, _, rfl, rfl, (mulK hk (by assumption) (by assumption)), _, rfl, _, _, _, _, rfl, rfl, (SqT.of ha'), (atI_nat (j := 1) rfl), _, rfl, _, _, _, _, rfl, rfl, (SqT.of hb'), (atI_nat (j := 0) rfl), _, _, rfl, rfl, (mulK hk (by assumption) (by assumption)), v, divF p q, _, _, 2000, rfl, f, ok, by decide, (p1.mul q2).mono (by omega), (p2.mul q1).mono (by omega), ?_, fin H' s⟩⟩
      exact frac_cross hne
theorem cmpF_self (p : Int × Int) : cmpF p p = 0 := by
  unfold cmpF
  rw [if_neg (by omega), if_neg (by omega)]
def sp_law (K : PySem.W.Frag) : Sp := fun vs H Q _ => ∃ (a : Addr) (ns : List Int), vs = [.ref a] ∧ SqL K H a (ns.map V.int) ∧ ns.length ≤ 63 ∧ ∀ H', Q (.bl true) H'
theorem ok_law {f : Addr} {fd : FuncData} (T : Top K mg) (F : Fun K "law" "law" s_law f fd) : FnOk P w K mg base CX0 4 f fd ["script"] (sp_law K) := by
  refine F.ok sc_law (fun vs H Q E h => ?_) (fun cdv A outer s H vs Q E hr h => ?_)
  · obtain ⟨_, _, rfl, _⟩ := h
    rfl
  · obtain ⟨a, ns, rfl, hS, _, fin⟩ := h
    refine ⟨_, (pss_cons (ps_set (i := 1) sc_law.nd rfl (Or.inl rfl) (pe_call (ok__law_begin T) (hr.mono (by decide : 1 ≤ 3)) (by rfl) T.g__law_begin T._law_begin_F.kp T._law_begin_b .nil pass0 (pa_cons (pv 0) pa_nil)))
      (pss_cons (ps_set (i := 2) sc_law.nd rfl (Or.inl rfl) (pe_lst pa_nil))
      (pss_cons (ps_for PassesOwn.never rfl (pi_range1 rfl T.n_range (pa_cons (pe_op op_add pe_int (pe_call (ok__law_take T) (hr.mono (by decide : 1 ≤ 3)) (by rfl) T.g__law_take T._law_take_F.kp T._law_take_b .nil pass0 (pa_cons (pv 1) (pa_cons pe_int pa_nil)))) pa_nil)) (pg_name (i := 3) sc_law.nd rfl (Or.inl rfl)) (pss_cons (ps_set (i := 4) sc_law.nd rfl (Or.inl rfl) (pe_call (ok__law_number T) (hr.mono (by decide : 3 ≤ 3)) (by rfl) T.g__law_number T._law_number_F.kp T._law_number_b .nil pass0 (pa_cons (pv 1) pa_nil)))
      (pss_cons (ps_set (i := 5) sc_law.nd rfl (Or.inl rfl) (pe_call (ok__law_number T) (hr.mono (by decide : 3 ≤ 3)) (by rfl) T.g__law_number T._law_number_F.kp T._law_number_b .nil pass0 (pa_cons (pv 1) pa_nil)))
      (Evl.pss_cut (ps_if (pt_cmpR op_eq (pv 5) pe_int (nomark _)) (pss_cons (ps_if (pt_not (pt_val (pe_call (ok__law_refused T) (hr.mono (by decide : 2 ≤ 3)) (by rfl) T.g__law_refused T._law_refused_F.kp T._law_refused_b .nil pass0 (pa_cons (pv 4) (pa_cons (pv 5) pa_nil))))) (pss_one (ps_ret pe_bl)) pss_nil)
      (pss_one (ps_set (i := 5) sc_law.nd rfl (Or.inl rfl) pe_int))) pss_nil)
      (pss_cons (ps_set (i := 6) sc_law.nd rfl (Or.inl rfl) (pe_call (ok_fraction T) (hr.mono (by decide : 1 ≤ 3)) (by rfl) T.g_fraction T.fraction_F.kp T.fraction_b .nil passL (pa_cons (pv 4) (pa_cons (pv 5) pa_nil))))
      (pss_cons (ps_if (pt_not (pt_val (pe_call (ok__law_is T) (hr.mono (by decide : 2 ≤ 3)) (by rfl) T.g__law_is T._law_is_F.kp T._law_is_b .nil pass0 (pa_cons (pv 6) (pa_cons (pv 4) (pa_cons (pv 5) pa_nil)))))) (pss_one (ps_ret pe_bl)) pss_nil)
      (pss_one (ps_expr (pe_bm PySem.F.plainAttrs_list PySem.F.slot_list_append PySem.F.type_list_append mt_append (pv 2) (pa_cons (pv 6) pa_nil))))))))))
      (pss_cons (ps_par (i := 7) (j := 8) (by rfl) sc_law.nd rfl rfl (by decide) rfl rfl (pa_cons (pe_ix ix_list (pv 2) pe_int (fun _ _ => rfl)) (pa_cons (pe_ix ix_list (pv 2) pe_int (fun _ _ => rfl)) pa_nil)) (by rfl))
      (pss_cons (ps_if (PW.pt (pw_or (pt_not (pt_val (pe_call (ok__law_is T) (hr.mono (by decide : 2 ≤ 3)) (by rfl) T.g__law_is T._law_is_F.kp T._law_is_b .nil pass0 (pa_cons (pe_call (ok_plus T) (hr.mono (by decide : 2 ≤ 3)) (by rfl) T.g_plus T.plus_F.kp T.plus_b .nil pass0 (pa_cons (pv 7) (pa_cons (pv 8) pa_nil))) (pa_cons (pe_op op_add (pe_op op_mulW (pe_ix ix_tup (pv 7) pe_int (fun _ _ => rfl)) (pe_ix ix_tup (pv 8) pe_int (fun _ _ => rfl))) (pe_op op_mulW (pe_ix ix_tup (pv 8) pe_int (fun _ _ => rfl)) (pe_ix ix_tup (pv 7) pe_int (fun _ _ => rfl)))) (pa_cons (pe_op op_mulW (pe_ix ix_tup (pv 7) pe_int (fun _ _ => rfl)) (pe_ix ix_tup (pv 8) pe_int (fun _ _ => rfl))) pa_nil)))))) (pw_or1 (pt_not (pt_val (pe_call (ok__law_is T) (hr.mono (by decide : 2 ≤ 3)) (by rfl) T.g__law_is T._law_is_F.kp T._law_is_b .nil pass0 (pa_cons (pe_call (ok_minus T) (hr.mono (by decide : 2 ≤ 3)) (by rfl) T.g_minus T.minus_F.kp T.minus_b .nil pass0 (pa_cons (pv 7) (pa_cons (pv 8) pa_nil))) (pa_cons (pe_op op_sub (pe_op op_mulW (pe_ix ix_tup (pv 7) pe_int (fun _ _ => rfl)) (pe_ix ix_tup (pv 8) pe_int (fun _ _ => rfl))) (pe_op op_mulW (pe_ix ix_tup (pv 8) pe_int (fun _ _ => rfl)) (pe_ix ix_tup (pv 7) pe_int (fun _ _ => rfl)))) (pa_cons (pe_op op_mulW (pe_ix ix_tup (pv 7) pe_int (fun _ _ => rfl)) (pe_ix ix_tup (pv 8) pe_int (fun _ _ => rfl))) pa_nil))))))))) (pss_one (ps_ret pe_bl)) pss_nil)
      (pss_cons (ps_if (PW.pt (pw_or (pt_not (pt_val (pe_call (ok__law_is T) (hr.mono (by decide : 2 ≤ 3)) (by rfl) T.g__law_is T._law_is_F.kp T._law_is_b .nil pass0 (pa_cons (pe_call (ok_times T) (hr.mono (by decide : 2 ≤ 3)) (by rfl) T.g_times T.times_F.kp T.times_b .nil pass0 (pa_cons (pv 7) (pa_cons (pv 8) pa_nil))) (pa_cons (pe_op op_mulW (pe_ix ix_tup (pv 7) pe_int (fun _ _ => rfl)) (pe_ix ix_tup (pv 8) pe_int (fun _ _ => rfl))) (pa_cons (pe_op op_mulW (pe_ix ix_tup (pv 7) pe_int (fun _ _ => rfl)) (pe_ix ix_tup (pv 8) pe_int (fun _ _ => rfl))) pa_nil)))))) (pw_or (pt_not (pt_val (pe_call (ok__law_divided T) (hr.mono (by decide : 3 ≤ 3)) (by rfl) T.g__law_divided T._law_divided_F.kp T._law_divided_b .nil pass0 (pa_cons (pv 7) (pa_cons (pv 8) pa_nil))))) (pw_or1 (pt_not (pt_val (pe_call (ok__law_divided T) (hr.mono (by decide : 3 ≤ 3)) (by rfl) T.g__law_divided T._law_divided_F.kp T._law_divided_b .nil pass0 (pa_cons (pv 7) (pa_cons (pe_tup (pa_cons pe_int (pa_cons pe_int pa_nil))) pa_nil))))))))) (pss_one (ps_ret pe_bl)) pss_nil)
      (Evl.pss_cut (ps_set (i := 9) sc_law.nd rfl (Or.inl rfl) (pe_op op_sub (pe_ifExp (pt_val (pe_call (ok__law_less T) (hr.mono (by decide : 1 ≤ 3)) (by rfl) T.g__law_less T._law_less_F.kp T._law_less_b .nil pass0 (pa_cons (pv 8) (pa_cons (pv 7) pa_nil)))) pe_int pe_int) (pe_ifExp (pt_val (pe_call (ok__law_less T) (hr.mono (by decide : 1 ≤ 3)) (by rfl) T.g__law_less T._law_less_F.kp T._law_less_b .nil pass0 (pa_cons (pv 7) (pa_cons (pv 8) pa_nil)))) pe_int pe_int)))
      (pss_cons (ps_set (i := 10) sc_law.nd rfl (Or.inl rfl) (pe_call (ok_compare T) (hr.mono (by decide : 1 ≤ 3)) (by rfl) T.g_compare T.compare_F.kp T.compare_b .nil pass0 (pa_cons (pv 7) (pa_cons (pv 8) pa_nil))))
      (pss_cons (ps_if (PW.pt (pw_or (pt_not (pt_val (pe_call (ok__law_int T) (hr.mono (by decide : 1 ≤ 3)) (by rfl) T.g__law_int T._law_int_F.kp T._law_int_b .nil pass0 (pa_cons (pv 10) pa_nil)))) (pw_or (pt_cmpR op_ne (pv 10) (pv 9) (nomark _)) (pw_or1 (pt_cmpR op_ne (pe_call (ok_compare T) (hr.mono (by decide : 1 ≤ 3)) (by rfl) T.g_compare T.compare_F.kp T.compare_b .nil pass0 (pa_cons (pv 7) (pa_cons (pv 7) pa_nil))) pe_int (nomark _)))))) (pss_one (ps_ret pe_bl)) pss_nil)
      (pss_cons (ps_set (i := 9) sc_law.nd rfl (Or.inl rfl) (pe_tup (pa_cons pe_int (pa_cons pe_int pa_nil))))
      (pss_cons (ps_for PassesOwn.never rfl (pi_list (pv 2)) (pg_name (i := 11) sc_law.nd rfl (Or.inl rfl)) (pss_one (ps_set (i := 9) sc_law.nd rfl (Or.inl rfl) (pe_call (ok__law_plus T) (hr.mono (by decide : 3 ≤ 3)) (by rfl) T.g__law_plus T._law_plus_F.kp T._law_plus_b .nil pass0 (pa_cons (pv 9) (pa_cons (pv 11) pa_nil))))))
      (pss_one (ps_ret (pe_and (pe_cmpR (op_eqD hr.units) (pe_call (ok_total T) (hr.mono (by decide : 3 ≤ 3)) (by rfl) T.g_total T.total_F.kp T.total_b .nil pass0 (pa_cons (pe_callTy call_tupL (by rfl) T.n_tuple (by decide +kernel) (pa_cons (pv 2) pa_nil)) pa_nil)) (pv 9) (nomark _)) (pe_one (pe_cmpR (op_eqD hr.units) (pe_call (ok_total T) (hr.mono (by decide : 3 ≤ 3)) (by rfl) T.g_total T.total_F.kp T.total_b .nil pass0 (pa_cons (pe_tup pa_nil) pa_nil)) (pe_tup (pa_cons pe_int (pa_cons pe_int pa_nil))) (nomark _))))))))))))))))), ?_⟩
    refine ⟨_, rfl, a, ns, rfl, hS, fun pd ps H1 s1 n1 n2 D1 => ⟨Nat.zero_le _, fun pr hpr => ?_⟩⟩
    obtain ⟨nd, ns'⟩ := D1.fresh hpr
    have D2 := D1.same (same_new (o := .lst []) hpr)
    have hr0 : (upd H1 pr (.lst [])) pr = some (.lst []) := upd_same
    refine ⟨_, rfl, pd, ps, 5, rfl, D2, by decide, Bd.mono (k := 3) (by unfold Bd; decide) (by decide), fun c H2 x2 D2 c0 c1 => ⟨_, _, rfl, rfl, _, rfl, by omega, by omega, ?_⟩⟩
    have hr2 := x2 _ _ nd hr0
    refine for_range (lo := 0) (n := (2 + c).toNat) (fun i σ H' => ∃ rows qs y3 y4 y5 y6, σ = [some (.ref a), some (.ref pd), some (.ref pr), y3, y4, y5, y6, none, none, none, none, none] ∧ Dst H' pd ps ∧ H' pr = some (.lst rows) ∧ FrAll H' rows qs ∧ (∀ q ∈ qs, Ok 140 q) ∧ qs.length = i) ?_ ?_ ?_
    · exact ⟨[], [], none, none, none, none, rfl, D2, hr2, ⟨rfl, fun i x e => by cases e⟩, fun q z => (by cases z), rfl⟩
    · rintro i σ H3 hi ⟨rows, qs, y3, y4, y5, y6, rfl, D3, hr3, fa3, ok3, len3⟩
      refine ⟨_, rfl, pd, ps, rfl, D3, fun t H4 x4 D4 bt => ⟨_, rfl, pd, ps, rfl, D4, fun b H5 x5 D5 bb => ?_⟩⟩
      have x45 := x4.trans x5
      have hr5 := x45 _ _ nd hr3
      obtain ⟨_, hd3⟩ := D3.lst
      have fa5 := fa3.xt hd3 x45
      refine ⟨fun σ' H' => ∃ b', b' ≠ 0 ∧ Bd 140 b' ∧ H' = H5 ∧ σ' = [some (.ref a), some (.ref pd), some (.ref pr), some (.int (0 + (i : Int))), some (.int t), some (.int b'), y6, none, none, none, none, none], ?_, ?_⟩
      · refine ⟨_, rfl, rfl, _, rfl, ite2 (fun e => ?_) (fun e => ⟨b, fun z => e (by rw [z]; exact dec_eq rfl), bb, rfl, rfl⟩)⟩
        have eb : b = 0 := V.int.inj (of_decide_eq_true e)
        subst eb
        refine ⟨_, rfl, _, rfl, t, rfl, _, rfl, iteF ?_⟩
        exact ⟨1, by decide, by unfold Bd; decide, rfl, rfl⟩
      · rintro σ' H' ⟨b', hb', bb', rfl, rfl⟩
        have okf := frac_ok hb' bt bb'
        refine ⟨_, rfl, _, rfl, t, b', rfl, fun z => (hb' z).elim, fun _ => ⟨bb'.mono (by decide), fun v H6 s6 f6 => ?_⟩⟩
        refine ⟨_, rfl, _, rfl, _, rfl, v, frac t b', t, b', 140, rfl, f6, okf, by decide, bt.mono (by decide), bb'.mono (by decide), frac_cross hb', _, rfl, iteF ?_⟩
        have hr6 := s6 _ _ hr5
        refine ⟨_, rfl, .inl ⟨rfl, _, SqL.of hr6⟩, _, rfl, _, _, _, rfl, rfl, hr6, ?_, ?_⟩
        · rw [fa5.1, len3]
          exact Nat.lt_of_le_of_lt (show i ≤ 1000 by omega) (by decide)
        · have xr : Xt pr H6 (upd H6 pr (.lst (rows ++ [v]))) := Xt.upd
          refine ⟨rows ++ [v], qs ++ [frac t b'], _, _, _, _, rfl, (D5.same s6).xt nd ns' xr, upd_same, ((fa5.same s6).add f6).xt hr6 xr, fun q z => ?_, by simp [len3]⟩
          rcases List.mem_append.mp z with z | z
          · exact ok3 q z
          · rw [List.mem_singleton.mp z]
            exact okf
    · rintro σ H3 ⟨rows, qs, y3, y4, y5, y6, rfl, D3, hr3, fa3, ok3, len3⟩
      have l0 : 0 < rows.length := by rw [fa3.1, len3]; omega
      have l1 : 1 < rows.length := by rw [fa3.1, len3]; omega
      have g0 := List.getElem?_eq_getElem l0
      have g1 := List.getElem?_eq_getElem l1
      obtain ⟨p, e0, ⟨pa, ea, ha⟩⟩ := fa3.2 0 _ g0
      obtain ⟨q, e1, ⟨pb, eb, hb⟩⟩ := fa3.2 1 _ g1
      rw [ea] at g0
      rw [eb] at g1
      have op := ok3 p (List.mem_of_getElem? e0)
      have oq := ok3 q (List.mem_of_getElem? e1)
      obtain ⟨lp, p1, p2⟩ := id op
      obtain ⟨lq, q1, q2⟩ := id oq
      have hk : 140 ≤ 3000 := by decide
      have big : ∀ {x : Int}, Bd 281 x → Bd 3000 x := fun h => h.mono (by decide)
      have ne := pos_ne lp.pos lq.pos
      have l6 : qs.length ≤ 6 := by omega
      refine ⟨_, rfl, _, _, _, _, rfl, rfl, SqL.of hr3, atI_nat (j := 0) g0, _, rfl, _, _, _, _, rfl, rfl, SqL.of hr3, atI_nat (j := 1) g1, _, _, rfl, ?_⟩
      -- plus, minus
      refine ⟨_, rfl, _, rfl, _, _, p, q, 140, rfl, ⟨pa, rfl, ha⟩, ⟨pb, rfl, hb⟩, op, oq, hk, fun v H4 s4 f4 => ?_⟩
      have ha4 := s4 _ _ ha
      have hb4 := s4 _ _ hb
      refine ⟨_, rfl, _, _, _, _, rfl, rfl, (SqT.of ha4), (atI_nat (j := 0) rfl), _, rfl, _, _, _, _, rfl, rfl, (SqT.of hb4), (atI_nat (j := 1) rfl), _, _, rfl, rfl, (mulK hk (by assumption) (by assumption)), _, rfl, _, _, _, _, rfl, rfl, (SqT.of hb4), (atI_nat (j := 0) rfl), _, rfl, _, _, _, _, rfl, rfl, (SqT.of ha4), (atI_nat (j := 1) rfl), _, _, rfl, rfl, (mulK hk (by assumption) (by assumption)), _, _, rfl, rfl, _, rfl, _, _, _, _, rfl, rfl, (SqT.of ha4), (atI_nat (j := 1) rfl), _, rfl, _, _, _, _, rfl, rfl, (SqT.of hb4), (atI_nat (j := 1) rfl), _, _, rfl, rfl, (mulK hk (by assumption) (by assumption)), v, addF p q, _, _, 281, rfl, f4, addF_ok op oq (by decide), by decide, big ((p1.mul q2).add (q1.mul p2)), (p2.mul q2).mono (by decide), frac_cross ne, _, rfl, iteF ?_⟩
      refine ⟨_, rfl, _, rfl, _, _, p, q, 140, rfl, ⟨pa, rfl, ha4⟩, ⟨pb, rfl, hb4⟩, op, oq, hk, fun v H5 s5 f5 => ?_⟩
      have ha5 := s5 _ _ ha4
      have hb5 := s5 _ _ hb4
      refine ⟨_, rfl, _, _, _, _, rfl, rfl, (SqT.of ha5), (atI_nat (j := 0) rfl), _, rfl, _, _, _, _, rfl, rfl, (SqT.of hb5), (atI_nat (j := 1) rfl), _, _, rfl, rfl, (mulK hk (by assumption) (by assumption)), _, rfl, _, _, _, _, rfl, rfl, (SqT.of hb5), (atI_nat (j := 0) rfl), _, rfl, _, _, _, _, rfl, rfl, (SqT.of ha5), (atI_nat (j := 1) rfl), _, _, rfl, rfl, (mulK hk (by assumption) (by assumption)), _, _, rfl, rfl, _, rfl, _, _, _, _, rfl, rfl, (SqT.of ha5), (atI_nat (j := 1) rfl), _, rfl, _, _, _, _, rfl, rfl, (SqT.of hb5), (atI_nat (j := 1) rfl), _, _, rfl, rfl, (mulK hk (by assumption) (by assumption)), v, subF p q, _, _, 281, rfl, f5, subF_ok op oq (by decide), by decide, big ((p1.mul q2).sub (q1.mul p2)), (p2.mul q2).mono (by decide), frac_cross ne, _, rfl, iteF ?_⟩
      -- times, over
      refine ⟨_, rfl, _, rfl, _, _, p, q, 140, rfl, ⟨pa, rfl, ha5⟩, ⟨pb, rfl, hb5⟩, op, oq, hk, fun v H6 s6 f6 => ?_⟩
      have ha6 := s6 _ _ ha5
      have hb6 := s6 _ _ hb5
      refine ⟨_, rfl, _, _, _, _, rfl, rfl, (SqT.of ha6), (atI_nat (j := 0) rfl), _, rfl, _, _, _, _, rfl, rfl, (SqT.of hb6), (atI_nat (j := 0) rfl), _, _, rfl, rfl, (mulK hk (by assumption) (by assumption)), _, rfl, _, _, _, _, rfl, rfl, (SqT.of ha6), (atI_nat (j := 1) rfl), _, rfl, _, _, _, _, rfl, rfl, (SqT.of hb6), (atI_nat (j := 1) rfl), _, _, rfl, rfl, (mulK hk (by assumption) (by assumption)), v, mulF p q, _, _, 281, rfl, f6, mulF_ok op oq (by decide), by decide, (p1.mul q1).mono (by decide), (p2.mul q2).mono (by decide), frac_cross ne, _, rfl, iteF ?_⟩
      refine ⟨_, rfl, _, rfl, _, _, p, q, 140, rfl, ⟨pa, rfl, ha6⟩, ⟨pb, rfl, hb6⟩, op, oq, by decide, fun H7 s7 => ⟨_, rfl, iteF ?_⟩⟩
      have ha7 := s7 _ _ ha6
      have hb7 := s7 _ _ hb6
      refine ⟨_, rfl, two_le, fun pz hz => ?_⟩
      have s8 := same_new (o := .tup [.int 0, .int 1]) hz
      have ha8 := s8 _ _ ha7
      have hb8 := s8 _ _ hb7
      refine ⟨_, _, p, (0, 1), 140, rfl, ⟨pa, rfl, ha8⟩, ⟨pz, rfl, upd_same⟩, op, ok_zero.mono (by decide), by decide, fun H9 s9 => ⟨_, rfl, iteF ?_⟩⟩
      have ha9 := s9 _ _ ha8
      have hb9 := s9 _ _ hb8
      have sm : Same H3 H9 := ((((s4.trans s5).trans s6).trans s7).trans s8).trans s9
      -- compare
      refine ⟨fun σ' H' => H9 = H' ∧ ∃ z3 z4 z5 z6, σ' = [some (.ref a), some (.ref pd), some (.ref pr), z3, z4, z5, z6, some (.ref pa), some (.ref pb), some (.int (cmpF p q)), none, none], ?_, ?_⟩
      · refine ⟨_, rfl, _, rfl, _, _, q, p, 140, rfl, ⟨pb, rfl, hb9⟩, ⟨pa, rfl, ha9⟩, oq, op, hk, _, rfl, ite2 (fun z1 => ?_) (fun z1 => ?_)⟩
        · have c1 : q.1 * p.2 < p.1 * q.2 := of_decide_eq_true z1
          refine ⟨_, rfl, _, rfl, _, _, p, q, 140, rfl, ⟨pa, rfl, ha9⟩, ⟨pb, rfl, hb9⟩, op, oq, hk, _, rfl, ite2 (fun z2 => ?_) (fun z2 => ?_)⟩
          · have c2 : p.1 * q.2 < q.1 * p.2 := of_decide_eq_true z2
            omega
          · have e : cmpF p q = 1 := (if_neg (by omega)).trans (if_pos c1)
            exact ⟨1, 0, rfl, rfl, rfl, _, _, _, _, by rw [e]; rfl⟩
        · have c1 : ¬ q.1 * p.2 < p.1 * q.2 := fun z => z1 (decide_eq_true z)
          refine ⟨_, rfl, _, rfl, _, _, p, q, 140, rfl, ⟨pa, rfl, ha9⟩, ⟨pb, rfl, hb9⟩, op, oq, hk, _, rfl, ite2 (fun z2 => ?_) (fun z2 => ?_)⟩
          · have c2 : p.1 * q.2 < q.1 * p.2 := of_decide_eq_true z2
            have e : cmpF p q = -1 := if_pos c2
            exact ⟨0, 1, rfl, rfl, rfl, _, _, _, _, by rw [e]; rfl⟩
          · have c2 : ¬ p.1 * q.2 < q.1 * p.2 := fun z => z2 (decide_eq_true z)
            have e : cmpF p q = 0 := (if_neg c2).trans (if_neg c1)
            exact ⟨0, 0, rfl, rfl, rfl, _, _, _, _, by rw [e]; rfl⟩
      · rintro σ' H' ⟨rfl, z3, z4, z5, z6, rfl⟩
        refine ⟨_, rfl, _, rfl, _, _, p, q, 140, rfl, ⟨pa, rfl, ha9⟩, ⟨pb, rfl, hb9⟩, op, oq, hk, ?_⟩
        refine ⟨_, rfl, _, rfl, _, rfl, iteF ⟨_, rfl, _, rfl, rfl, _, rfl, iteNS rfl ⟨_, rfl, _, rfl, _, _, p, p, 140, rfl, ⟨pa, rfl, ha9⟩, ⟨pa, rfl, ha9⟩, op, op, hk, rfl, _, rfl, iteNS (by rw [cmpF_self]) ?_⟩⟩⟩
        -- total
        refine ⟨two_le, fun p0 h0 => ?_⟩
        have s10 := same_new (o := .tup [.int 0, .int 1]) h0
        have hrA := (sm.trans s10) _ _ hr3
        have faA := fa3.same (sm.trans s10)
        refine ⟨_, rfl, pr, rfl, ⟨_, SqL.of hrA⟩, for_list (K := K) (a := pr) (xs := rows) (fun i σ H' => ∃ (r : V) (y : Option V), σ = [some (.ref a), some (.ref pd), some (.ref pr), z3, z4, z5, z6, some (.ref pa), some (.ref pb), some r, some (.int (cmpF p q)), y] ∧ Same (upd H9 p0 (.tup [.int 0, .int 1])) H' ∧ Fr H' r (totF (qs.take i))) ⟨_, none, rfl, Same.refl _, p0, rfl, upd_same⟩ (fun i σ H' _ ⟨_, _, _, sm', _⟩ => SqL.of (sm' _ _ hrA)) ?_ ?_⟩
        · rintro i x σ H' hi ⟨r, y, rfl, sm', fr⟩
          obtain ⟨z, hz', fz⟩ := faA.2 i x hi
          have il : i < qs.length := (List.getElem?_eq_some_iff.mp hz').1
          have ho := ok3 z (List.mem_of_getElem? hz')
          have ht := totF_ok (qs.take i) fun u hu => ok3 u (List.mem_of_mem_take hu)
          rw [List.length_take, Nat.min_eq_left (by omega)] at ht
          refine ⟨_, rfl, _, rfl, r, x, _, z, 3000, rfl, fr, fz.same sm', ht.mono (by omega), ho.mono hk, by decide, fun v H2 s2 f2 => ?_⟩
          refine ⟨v, some x, rfl, sm'.trans s2, ?_⟩
          rw [take_next hz', totF_add]
          exact f2
        · rintro σ H' ⟨r, y, rfl, sm', fr⟩
          rw [faA.1, List.take_length] at fr
          have hrB := sm' _ _ hrA
          have faB := faA.same sm'
          refine ⟨_, rfl, _, _, rfl, SqL.of hrB, fun l hl => ?_⟩
          have s11 := same_new (o := .tup rows) hl
          refine ⟨l, rows, qs, 140, rfl, SqT.of upd_same, faB.same s11, ok3, by omega, hk, fun v H12 s12 f12 => ?_⟩
          refine ⟨_, rfl, _, _, f12.dp, (fr.same (s11.trans s12)).dp, frD_shaped _, frD_shaped _, _, rfl, if_true_of' (frD_eqv _) ?_⟩
          refine ⟨Nat.zero_le _, fun l2 hl2 => ⟨l2, [], [], 1, rfl, SqT.of upd_same, ⟨rfl, fun i x e => by cases e⟩, fun q z => (by cases z), by decide, by decide, fun v3 H13 s13 f13 => ⟨two_le, fun p4 h4 => ?_⟩⟩⟩
          have s14 := same_new (o := .tup [.int 0, .int 1]) h4
          refine ⟨frD (totF []), frD (0, 1), (f13.same s14).dp, Fr.dp ⟨p4, rfl, upd_same⟩, frD_shaped _, frD_shaped _, ?_⟩
          rw [show PyData.eqv (frD (totF [])) (frD (0, 1)) = true from frD_eqv (0, 1)]
          exact fin _
end
theorem all_mk {P : Program} {w : World} {K : PySem.W.Frag} {h : Heap} {mg : Str → Option Value} {fa : Addr} (X : K.In h) (G : h.Ns mainGlobals mg) (hfa : mg "law" = some (.ref fa))
    {f_fraction : Addr} {od_fraction an_fraction : Option Addr} {sl_fraction : Array (Option Value)} {oc_fraction kV_fraction dc_fraction pm_fraction cd_fraction ct_fraction : Value}
    {f_plus : Addr} {od_plus an_plus : Option Addr} {sl_plus : Array (Option Value)} {oc_plus kV_plus dc_plus pm_plus cd_plus ct_plus : Value}
    {f_minus : Addr} {od_minus an_minus : Option Addr} {sl_minus : Array (Option Value)} {oc_minus kV_minus dc_minus pm_minus cd_minus ct_minus : Value}
    {f_times : Addr} {od_times an_times : Option Addr} {sl_times : Array (Option Value)} {oc_times kV_times dc_times pm_times cd_times ct_times : Value}
    {f_over : Addr} {od_over an_over : Option Addr} {sl_over : Array (Option Value)} {oc_over kV_over dc_over pm_over cd_over ct_over : Value}
    {f_compare : Addr} {od_compare an_compare : Option Addr} {sl_compare : Array (Option Value)} {oc_compare kV_compare dc_compare pm_compare cd_compare ct_compare : Value}
    {f_total : Addr} {od_total an_total : Option Addr} {sl_total : Array (Option Value)} {oc_total kV_total dc_total pm_total cd_total ct_total : Value}
    {f__law_begin : Addr} {od__law_begin an__law_begin : Option Addr} {sl__law_begin : Array (Option Value)} {oc__law_begin kV__law_begin dc__law_begin pm__law_begin cd__law_begin ct__law_begin : Value}
    {f__law_take : Addr} {od__law_take an__law_take : Option Addr} {sl__law_take : Array (Option Value)} {oc__law_take kV__law_take dc__law_take pm__law_take cd__law_take ct__law_take : Value}
    {f__law_signed : Addr} {od__law_signed an__law_signed : Option Addr} {sl__law_signed : Array (Option Value)} {oc__law_signed kV__law_signed dc__law_signed pm__law_signed cd__law_signed ct__law_signed : Value}
    {f__law_int : Addr} {od__law_int an__law_int : Option Addr} {sl__law_int : Array (Option Value)} {oc__law_int kV__law_int dc__law_int pm__law_int cd__law_int ct__law_int : Value}
    {f__law_gcd : Addr} {od__law_gcd an__law_gcd : Option Addr} {sl__law_gcd : Array (Option Value)} {oc__law_gcd kV__law_gcd dc__law_gcd pm__law_gcd cd__law_gcd ct__law_gcd : Value}
    {f__law_f : Addr} {od__law_f an__law_f : Option Addr} {sl__law_f : Array (Option Value)} {oc__law_f kV__law_f dc__law_f pm__law_f cd__law_f ct__law_f : Value}
    {f__law_plus : Addr} {od__law_plus an__law_plus : Option Addr} {sl__law_plus : Array (Option Value)} {oc__law_plus kV__law_plus dc__law_plus pm__law_plus cd__law_plus ct__law_plus : Value}
    {f__law_less : Addr} {od__law_less an__law_less : Option Addr} {sl__law_less : Array (Option Value)} {oc__law_less kV__law_less dc__law_less pm__law_less cd__law_less ct__law_less : Value}
    {f__law_is : Addr} {od__law_is an__law_is : Option Addr} {sl__law_is : Array (Option Value)} {oc__law_is kV__law_is dc__law_is pm__law_is cd__law_is ct__law_is : Value}
    {f__law_number : Addr} {od__law_number an__law_number : Option Addr} {sl__law_number : Array (Option Value)} {oc__law_number kV__law_number dc__law_number pm__law_number cd__law_number ct__law_number : Value}
    {f__law_refused : Addr} {od__law_refused an__law_refused : Option Addr} {sl__law_refused : Array (Option Value)} {oc__law_refused kV__law_refused dc__law_refused pm__law_refused cd__law_refused ct__law_refused : Value}
    {f__law_divided : Addr} {od__law_divided an__law_divided : Option Addr} {sl__law_divided : Array (Option Value)} {oc__law_divided kV__law_divided dc__law_divided pm__law_divided cd__law_divided ct__law_divided : Value}
    {f_law : Addr} {od_law an_law : Option Addr} {sl_law : Array (Option Value)} {oc_law kV_law dc_law pm_law cd_law ct_law : Value}
    {C_MarketplaceError : Addr}
    {C_ZeroDenominator : Addr}
    (a_fraction : PySem.W.nsIn K mainGlobals "fraction" = some (some (.ref f_fraction))) (l_fraction : K.lookup f_fraction = some ⟨oc_fraction, od_fraction, .func (PySem.W.fnOf "fraction" "fraction" (defArgs s_fraction) (defBody s_fraction) (defScope s_fraction) .none kV_fraction dc_fraction pm_fraction an_fraction cd_fraction ct_fraction), sl_fraction⟩) (c_fraction : PySem.W.codeIn K cd_fraction "fraction" = true) (k_fraction : PySem.W.keepIn K (.ref f_fraction) = true)
    (a_plus : PySem.W.nsIn K mainGlobals "plus" = some (some (.ref f_plus))) (l_plus : K.lookup f_plus = some ⟨oc_plus, od_plus, .func (PySem.W.fnOf "plus" "plus" (defArgs s_plus) (defBody s_plus) (defScope s_plus) .none kV_plus dc_plus pm_plus an_plus cd_plus ct_plus), sl_plus⟩) (c_plus : PySem.W.codeIn K cd_plus "plus" = true) (k_plus : PySem.W.keepIn K (.ref f_plus) = true)
    (a_minus : PySem.W.nsIn K mainGlobals "minus" = some (some (.ref f_minus))) (l_minus : K.lookup f_minus = some ⟨oc_minus, od_minus, .func (PySem.W.fnOf "minus" "minus" (defArgs s_minus) (defBody s_minus) (defScope s_minus) .none kV_minus dc_minus pm_minus an_minus cd_minus ct_minus), sl_minus⟩) (c_minus : PySem.W.codeIn K cd_minus "minus" = true) (k_minus : PySem.W.keepIn K (.ref f_minus) = true)
    (a_times : PySem.W.nsIn K mainGlobals "times" = some (some (.ref f_times))) (l_times : K.lookup f_times = some ⟨oc_times, od_times, .func (PySem.W.fnOf "times" "times" (defArgs s_times) (defBody s_times) (defScope s_times) .none kV_times dc_times pm_times an_times cd_times ct_times), sl_times⟩) (c_times : PySem.W.codeIn K cd_times "times" = true) (k_times : PySem.W.keepIn K (.ref f_times) = true)
    (a_over : PySem.W.nsIn K mainGlobals "over" = some (some (.ref f_over))) (l_over : K.lookup f_over = some ⟨oc_over, od_over, .func (PySem.W.fnOf "over" "over" (defArgs s_over) (defBody s_over) (defScope s_over) .none kV_over dc_over pm_over an_over cd_over ct_over), sl_over⟩) (c_over : PySem.W.codeIn K cd_over "over" = true) (k_over : PySem.W.keepIn K (.ref f_over) = true)
    (a_compare : PySem.W.nsIn K mainGlobals "compare" = some (some (.ref f_compare))) (l_compare : K.lookup f_compare = some ⟨oc_compare, od_compare, .func (PySem.W.fnOf "compare" "compare" (defArgs s_compare) (defBody s_compare) (defScope s_compare) .none kV_compare dc_compare pm_compare an_compare cd_compare ct_compare), sl_compare⟩) (c_compare : PySem.W.codeIn K cd_compare "compare" = true) (k_compare : PySem.W.keepIn K (.ref f_compare) = true)
    (a_total : PySem.W.nsIn K mainGlobals "total" = some (some (.ref f_total))) (l_total : K.lookup f_total = some ⟨oc_total, od_total, .func (PySem.W.fnOf "total" "total" (defArgs s_total) (defBody s_total) (defScope s_total) .none kV_total dc_total pm_total an_total cd_total ct_total), sl_total⟩) (c_total : PySem.W.codeIn K cd_total "total" = true) (k_total : PySem.W.keepIn K (.ref f_total) = true)
    (a__law_begin : PySem.W.nsIn K mainGlobals "_law_begin" = some (some (.ref f__law_begin))) (l__law_begin : K.lookup f__law_begin = some ⟨oc__law_begin, od__law_begin, .func (PySem.W.fnOf "_law_begin" "_law_begin" (defArgs s__law_begin) (defBody s__law_begin) (defScope s__law_begin) .none kV__law_begin dc__law_begin pm__law_begin an__law_begin cd__law_begin ct__law_begin), sl__law_begin⟩) (c__law_begin : PySem.W.codeIn K cd__law_begin "_law_begin" = true) (k__law_begin : PySem.W.keepIn K (.ref f__law_begin) = true)
    (a__law_take : PySem.W.nsIn K mainGlobals "_law_take" = some (some (.ref f__law_take))) (l__law_take : K.lookup f__law_take = some ⟨oc__law_take, od__law_take, .func (PySem.W.fnOf "_law_take" "_law_take" (defArgs s__law_take) (defBody s__law_take) (defScope s__law_take) .none kV__law_take dc__law_take pm__law_take an__law_take cd__law_take ct__law_take), sl__law_take⟩) (c__law_take : PySem.W.codeIn K cd__law_take "_law_take" = true) (k__law_take : PySem.W.keepIn K (.ref f__law_take) = true)
    (a__law_signed : PySem.W.nsIn K mainGlobals "_law_signed" = some (some (.ref f__law_signed))) (l__law_signed : K.lookup f__law_signed = some ⟨oc__law_signed, od__law_signed, .func (PySem.W.fnOf "_law_signed" "_law_signed" (defArgs s__law_signed) (defBody s__law_signed) (defScope s__law_signed) .none kV__law_signed dc__law_signed pm__law_signed an__law_signed cd__law_signed ct__law_signed), sl__law_signed⟩) (c__law_signed : PySem.W.codeIn K cd__law_signed "_law_signed" = true) (k__law_signed : PySem.W.keepIn K (.ref f__law_signed) = true)
    (a__law_int : PySem.W.nsIn K mainGlobals "_law_int" = some (some (.ref f__law_int))) (l__law_int : K.lookup f__law_int = some ⟨oc__law_int, od__law_int, .func (PySem.W.fnOf "_law_int" "_law_int" (defArgs s__law_int) (defBody s__law_int) (defScope s__law_int) .none kV__law_int dc__law_int pm__law_int an__law_int cd__law_int ct__law_int), sl__law_int⟩) (c__law_int : PySem.W.codeIn K cd__law_int "_law_int" = true) (k__law_int : PySem.W.keepIn K (.ref f__law_int) = true)
    (a__law_gcd : PySem.W.nsIn K mainGlobals "_law_gcd" = some (some (.ref f__law_gcd))) (l__law_gcd : K.lookup f__law_gcd = some ⟨oc__law_gcd, od__law_gcd, .func (PySem.W.fnOf "_law_gcd" "_law_gcd" (defArgs s__law_gcd) (defBody s__law_gcd) (defScope s__law_gcd) .none kV__law_gcd dc__law_gcd pm__law_gcd an__law_gcd cd__law_gcd ct__law_gcd), sl__law_gcd⟩) (c__law_gcd : PySem.W.codeIn K cd__law_gcd "_law_gcd" = true) (k__law_gcd : PySem.W.keepIn K (.ref f__law_gcd) = true)
    (a__law_f : PySem.W.nsIn K mainGlobals "_law_f" = some (some (.ref f__law_f))) (l__law_f : K.lookup f__law_f = some ⟨oc__law_f, od__law_f, .func (PySem.W.fnOf "_law_f" "_law_f" (defArgs s__law_f) (defBody s__law_f) (defScope s__law_f) .none kV__law_f dc__law_f pm__law_f an__law_f cd__law_f ct__law_f), sl__law_f⟩) (c__law_f : PySem.W.codeIn K cd__law_f "_law_f" = true) (k__law_f : PySem.W.keepIn K (.ref f__law_f) = true)
    (a__law_plus : PySem.W.nsIn K mainGlobals "_law_plus" = some (some (.ref f__law_plus))) (l__law_plus : K.lookup f__law_plus = some ⟨oc__law_plus, od__law_plus, .func (PySem.W.fnOf "_law_plus" "_law_plus" (defArgs s__law_plus) (defBody s__law_plus) (defScope s__law_plus) .none kV__law_plus dc__law_plus pm__law_plus an__law_plus cd__law_plus ct__law_plus), sl__law_plus⟩) (c__law_plus : PySem.W.codeIn K cd__law_plus "_law_plus" = true) (k__law_plus : PySem.W.keepIn K (.ref f__law_plus) = true)
    (a__law_less : PySem.W.nsIn K mainGlobals "_law_less" = some (some (.ref f__law_less))) (l__law_less : K.lookup f__law_less = some ⟨oc__law_less, od__law_less, .func (PySem.W.fnOf "_law_less" "_law_less" (defArgs s__law_less) (defBody s__law_less) (defScope s__law_less) .none kV__law_less dc__law_less pm__law_less an__law_less cd__law_less ct__law_less), sl__law_less⟩) (c__law_less : PySem.W.codeIn K cd__law_less "_law_less" = true) (k__law_less : PySem.W.keepIn K (.ref f__law_less) = true)
    (a__law_is : PySem.W.nsIn K mainGlobals "_law_is" = some (some (.ref f__law_is))) (l__law_is : K.lookup f__law_is = some ⟨oc__law_is, od__law_is, .func (PySem.W.fnOf "_law_is" "_law_is" (defArgs s__law_is) (defBody s__law_is) (defScope s__law_is) .none kV__law_is dc__law_is pm__law_is an__law_is cd__law_is ct__law_is), sl__law_is⟩) (c__law_is : PySem.W.codeIn K cd__law_is "_law_is" = true) (k__law_is : PySem.W.keepIn K (.ref f__law_is) = true)
    (a__law_number : PySem.W.nsIn K mainGlobals "_law_number" = some (some (.ref f__law_number))) (l__law_number : K.lookup f__law_number = some ⟨oc__law_number, od__law_number, .func (PySem.W.fnOf "_law_number" "_law_number" (defArgs s__law_number) (defBody s__law_number) (defScope s__law_number) .none kV__law_number dc__law_number pm__law_number an__law_number cd__law_number ct__law_number), sl__law_number⟩) (c__law_number : PySem.W.codeIn K cd__law_number "_law_number" = true) (k__law_number : PySem.W.keepIn K (.ref f__law_number) = true)
    (a__law_refused : PySem.W.nsIn K mainGlobals "_law_refused" = some (some (.ref f__law_refused))) (l__law_refused : K.lookup f__law_refused = some ⟨oc__law_refused, od__law_refused, .func (PySem.W.fnOf "_law_refused" "_law_refused" (defArgs s__law_refused) (defBody s__law_refused) (defScope s__law_refused) .none kV__law_refused dc__law_refused pm__law_refused an__law_refused cd__law_refused ct__law_refused), sl__law_refused⟩) (c__law_refused : PySem.W.codeIn K cd__law_refused "_law_refused" = true) (k__law_refused : PySem.W.keepIn K (.ref f__law_refused) = true)
    (a__law_divided : PySem.W.nsIn K mainGlobals "_law_divided" = some (some (.ref f__law_divided))) (l__law_divided : K.lookup f__law_divided = some ⟨oc__law_divided, od__law_divided, .func (PySem.W.fnOf "_law_divided" "_law_divided" (defArgs s__law_divided) (defBody s__law_divided) (defScope s__law_divided) .none kV__law_divided dc__law_divided pm__law_divided an__law_divided cd__law_divided ct__law_divided), sl__law_divided⟩) (c__law_divided : PySem.W.codeIn K cd__law_divided "_law_divided" = true) (k__law_divided : PySem.W.keepIn K (.ref f__law_divided) = true)
    (a_law : PySem.W.nsIn K mainGlobals "law" = some (some (.ref f_law))) (l_law : K.lookup f_law = some ⟨oc_law, od_law, .func (PySem.W.fnOf "law" "law" (defArgs s_law) (defBody s_law) (defScope s_law) .none kV_law dc_law pm_law an_law cd_law ct_law), sl_law⟩) (c_law : PySem.W.codeIn K cd_law "law" = true) (k_law : PySem.W.keepIn K (.ref f_law) = true)
    (z_abs : PySem.W.nsIn K mainGlobals "abs" = some none)
    (z_bool : PySem.W.nsIn K mainGlobals "bool" = some none)
    (z_int : PySem.W.nsIn K mainGlobals "int" = some none)
    (z_isinstance : PySem.W.nsIn K mainGlobals "isinstance" = some none)
    (z_len : PySem.W.nsIn K mainGlobals "len" = some none)
    (z_list : PySem.W.nsIn K mainGlobals "list" = some none)
    (z_range : PySem.W.nsIn K mainGlobals "range" = some none)
    (z_tuple : PySem.W.nsIn K mainGlobals "tuple" = some none)
    (i_gcd : PySem.W.nsIn K mainGlobals "gcd" = some (some (.builtin "math.gcd")))
    (ca_MarketplaceError : PySem.W.nsIn K mainGlobals "MarketplaceError" = some (some (.ref C_MarketplaceError)))
    (cx_MarketplaceError : PySem.W.excIn K C_MarketplaceError [.type "ValueError", .type "Exception", .type "BaseException", .type "object"] "ValueError.__new__" = true)
    (ck_MarketplaceError : PySem.W.keepIn K (.ref C_MarketplaceError) = true) (cb_MarketplaceError : PySem.W.subIn K (.ref C_MarketplaceError) (.type "BaseException") = some true) (ct0_MarketplaceError : PySem.W.typeIn K (.ref C_MarketplaceError) = some (.type "type")) (ch_MarketplaceError : PySem.W.hasDictIn K C_MarketplaceError = true)
    (e1_MarketplaceError : PySem.W.findIn K (.ref C_MarketplaceError) "__getattribute__" = some (some (.builtin "BaseException.__getattribute__"))) (e2_MarketplaceError : PySem.W.findIn K (.ref C_MarketplaceError) "__getattr__" = some none) (e3_MarketplaceError : PySem.W.findIn K (.ref C_MarketplaceError) "__class__" = some (some (.builtin "object.__class__"))) (e4_MarketplaceError : PySem.W.mroIn K C_MarketplaceError (.type "object") = some true)
    (ca_ZeroDenominator : PySem.W.nsIn K mainGlobals "ZeroDenominator" = some (some (.ref C_ZeroDenominator)))
    (cx_ZeroDenominator : PySem.W.excIn K C_ZeroDenominator [.type "ValueError", .type "Exception", .type "BaseException", .type "object"] "ValueError.__new__" = true)
    (ck_ZeroDenominator : PySem.W.keepIn K (.ref C_ZeroDenominator) = true) (cb_ZeroDenominator : PySem.W.subIn K (.ref C_ZeroDenominator) (.type "BaseException") = some true) (ct0_ZeroDenominator : PySem.W.typeIn K (.ref C_ZeroDenominator) = some (.type "type")) (ch_ZeroDenominator : PySem.W.hasDictIn K C_ZeroDenominator = true)
    (e1_ZeroDenominator : PySem.W.findIn K (.ref C_ZeroDenominator) "__getattribute__" = some (some (.builtin "BaseException.__getattribute__"))) (e2_ZeroDenominator : PySem.W.findIn K (.ref C_ZeroDenominator) "__getattr__" = some none) (e3_ZeroDenominator : PySem.W.findIn K (.ref C_ZeroDenominator) "__class__" = some (some (.builtin "object.__class__"))) (e4_ZeroDenominator : PySem.W.mroIn K C_ZeroDenominator (.type "object") = some true)
    (e5 : PySem.W.specialIn K (.builtin "object.__class__") "__get__" = some (some (.builtin "getset_descriptor.__get__"))) (e6 : PySem.W.takesIn K (.builtin "object.__class__") = some true)
    (s_ZeroDenominator_MarketplaceError : PySem.W.subIn K (.ref C_ZeroDenominator) (.ref C_MarketplaceError) = some true)
    (s_ZeroDenominator_ZeroDenominator : PySem.W.subIn K (.ref C_ZeroDenominator) (.ref C_ZeroDenominator) = some true)
    : ∃ fd : FuncData, (∀ (s : Shared) (v : Value), BindsTo s fd ⟨[v], []⟩ [("script", v)]) ∧ ∀ base : Heap, K.In base → base.Ns mainGlobals mg → FnOk P w K mg base L2.CX0 4 fa fd ["script"] (sp_law K) := by
  have e := hfa.symm.trans (PySem.W.mg_of X G a_law)
  cases e
  have F_fraction := fun_mk (st := s_fraction) l_fraction c_fraction k_fraction
  have F_plus := fun_mk (st := s_plus) l_plus c_plus k_plus
  have F_minus := fun_mk (st := s_minus) l_minus c_minus k_minus
  have F_times := fun_mk (st := s_times) l_times c_times k_times
  have F_over := fun_mk (st := s_over) l_over c_over k_over
  have F_compare := fun_mk (st := s_compare) l_compare c_compare k_compare
  have F_total := fun_mk (st := s_total) l_total c_total k_total
  have F__law_begin := fun_mk (st := s__law_begin) l__law_begin c__law_begin k__law_begin
  have F__law_take := fun_mk (st := s__law_take) l__law_take c__law_take k__law_take
  have F__law_signed := fun_mk (st := s__law_signed) l__law_signed c__law_signed k__law_signed
  have F__law_int := fun_mk (st := s__law_int) l__law_int c__law_int k__law_int
  have F__law_gcd := fun_mk (st := s__law_gcd) l__law_gcd c__law_gcd k__law_gcd
  have F__law_f := fun_mk (st := s__law_f) l__law_f c__law_f k__law_f
  have F__law_plus := fun_mk (st := s__law_plus) l__law_plus c__law_plus k__law_plus
  have F__law_less := fun_mk (st := s__law_less) l__law_less c__law_less k__law_less
  have F__law_is := fun_mk (st := s__law_is) l__law_is c__law_is k__law_is
  have F__law_number := fun_mk (st := s__law_number) l__law_number c__law_number k__law_number
  have F__law_refused := fun_mk (st := s__law_refused) l__law_refused c__law_refused k__law_refused
  have F__law_divided := fun_mk (st := s__law_divided) l__law_divided c__law_divided k__law_divided
  have F_law := fun_mk (st := s_law) l_law c_law k_law
  have T : Top K mg := {
    a_fraction := f_fraction, d_fraction := _, fraction_F := F_fraction, fraction_b := F_fraction.binds (ps := ["numerator", "denominator"]) fun _ _ _ _ _ _ us hl => match us, hl with | [_, _], _ => rfl, g_fraction := PySem.W.mg_of X G a_fraction,
    a_plus := f_plus, d_plus := _, plus_F := F_plus, plus_b := F_plus.binds (ps := ["a", "b"]) fun _ _ _ _ _ _ us hl => match us, hl with | [_, _], _ => rfl, g_plus := PySem.W.mg_of X G a_plus,
    a_minus := f_minus, d_minus := _, minus_F := F_minus, minus_b := F_minus.binds (ps := ["a", "b"]) fun _ _ _ _ _ _ us hl => match us, hl with | [_, _], _ => rfl, g_minus := PySem.W.mg_of X G a_minus,
    a_times := f_times, d_times := _, times_F := F_times, times_b := F_times.binds (ps := ["a", "b"]) fun _ _ _ _ _ _ us hl => match us, hl with | [_, _], _ => rfl, g_times := PySem.W.mg_of X G a_times,
    a_over := f_over, d_over := _, over_F := F_over, over_b := F_over.binds (ps := ["a", "b"]) fun _ _ _ _ _ _ us hl => match us, hl with | [_, _], _ => rfl, g_over := PySem.W.mg_of X G a_over,
    a_compare := f_compare, d_compare := _, compare_F := F_compare, compare_b := F_compare.binds (ps := ["a", "b"]) fun _ _ _ _ _ _ us hl => match us, hl with | [_, _], _ => rfl, g_compare := PySem.W.mg_of X G a_compare,
    a_total := f_total, d_total := _, total_F := F_total, total_b := F_total.binds (ps := ["items"]) fun _ _ _ _ _ _ us hl => match us, hl with | [_], _ => rfl, g_total := PySem.W.mg_of X G a_total,
    a__law_begin := f__law_begin, d__law_begin := _, _law_begin_F := F__law_begin, _law_begin_b := F__law_begin.binds (ps := ["script"]) fun _ _ _ _ _ _ us hl => match us, hl with | [_], _ => rfl, g__law_begin := PySem.W.mg_of X G a__law_begin,
    a__law_take := f__law_take, d__law_take := _, _law_take_F := F__law_take, _law_take_b := F__law_take.binds (ps := ["d", "many"]) fun _ _ _ _ _ _ us hl => match us, hl with | [_, _], _ => rfl, g__law_take := PySem.W.mg_of X G a__law_take,
    a__law_signed := f__law_signed, d__law_signed := _, _law_signed_F := F__law_signed, _law_signed_b := F__law_signed.binds (ps := ["d", "most"]) fun _ _ _ _ _ _ us hl => match us, hl with | [_, _], _ => rfl, g__law_signed := PySem.W.mg_of X G a__law_signed,
    a__law_int := f__law_int, d__law_int := _, _law_int_F := F__law_int, _law_int_b := F__law_int.binds (ps := ["actual"]) fun _ _ _ _ _ _ us hl => match us, hl with | [_], _ => rfl, g__law_int := PySem.W.mg_of X G a__law_int,
    a__law_gcd := f__law_gcd, d__law_gcd := _, _law_gcd_F := F__law_gcd, _law_gcd_b := F__law_gcd.binds (ps := ["a", "b"]) fun _ _ _ _ _ _ us hl => match us, hl with | [_, _], _ => rfl, g__law_gcd := PySem.W.mg_of X G a__law_gcd,
    a__law_f := f__law_f, d__law_f := _, _law_f_F := F__law_f, _law_f_b := F__law_f.binds (ps := ["a", "b"]) fun _ _ _ _ _ _ us hl => match us, hl with | [_, _], _ => rfl, g__law_f := PySem.W.mg_of X G a__law_f,
    a__law_plus := f__law_plus, d__law_plus := _, _law_plus_F := F__law_plus, _law_plus_b := F__law_plus.binds (ps := ["a", "b"]) fun _ _ _ _ _ _ us hl => match us, hl with | [_, _], _ => rfl, g__law_plus := PySem.W.mg_of X G a__law_plus,
    a__law_less := f__law_less, d__law_less := _, _law_less_F := F__law_less, _law_less_b := F__law_less.binds (ps := ["a", "b"]) fun _ _ _ _ _ _ us hl => match us, hl with | [_, _], _ => rfl, g__law_less := PySem.W.mg_of X G a__law_less,
    a__law_is := f__law_is, d__law_is := _, _law_is_F := F__law_is, _law_is_b := F__law_is.binds (ps := ["actual", "top", "bottom"]) fun _ _ _ _ _ _ us hl => match us, hl with | [_, _, _], _ => rfl, g__law_is := PySem.W.mg_of X G a__law_is,
    a__law_number := f__law_number, d__law_number := _, _law_number_F := F__law_number, _law_number_b := F__law_number.binds (ps := ["d"]) fun _ _ _ _ _ _ us hl => match us, hl with | [_], _ => rfl, g__law_number := PySem.W.mg_of X G a__law_number,
    a__law_refused := f__law_refused, d__law_refused := _, _law_refused_F := F__law_refused, _law_refused_b := F__law_refused.binds (ps := ["a", "b"]) fun _ _ _ _ _ _ us hl => match us, hl with | [_, _], _ => rfl, g__law_refused := PySem.W.mg_of X G a__law_refused,
    a__law_divided := f__law_divided, d__law_divided := _, _law_divided_F := F__law_divided, _law_divided_b := F__law_divided.binds (ps := ["a", "b"]) fun _ _ _ _ _ _ us hl => match us, hl with | [_, _], _ => rfl, g__law_divided := PySem.W.mg_of X G a__law_divided,
    n_abs := PySem.W.mg_none_of X G z_abs,
    n_bool := PySem.W.mg_none_of X G z_bool,
    n_int := PySem.W.mg_none_of X G z_int,
    n_isinstance := PySem.W.mg_none_of X G z_isinstance,
    n_len := PySem.W.mg_none_of X G z_len,
    n_list := PySem.W.mg_none_of X G z_list,
    n_range := PySem.W.mg_none_of X G z_range,
    n_tuple := PySem.W.mg_none_of X G z_tuple,
    g_gcd := PySem.W.mg_of X G i_gcd,
    c_MarketplaceError := C_MarketplaceError, g_MarketplaceError := PySem.W.mg_of X G ca_MarketplaceError, x_MarketplaceError := cx_MarketplaceError, k_MarketplaceError := ck_MarketplaceError, b_MarketplaceError := cb_MarketplaceError, t_MarketplaceError := ct0_MarketplaceError, h_MarketplaceError := ch_MarketplaceError, e_MarketplaceError := ⟨e1_MarketplaceError, e2_MarketplaceError, cb_MarketplaceError, ch_MarketplaceError, e3_MarketplaceError, e5, e6, e4_MarketplaceError⟩,
    c_ZeroDenominator := C_ZeroDenominator, g_ZeroDenominator := PySem.W.mg_of X G ca_ZeroDenominator, x_ZeroDenominator := cx_ZeroDenominator, k_ZeroDenominator := ck_ZeroDenominator, b_ZeroDenominator := cb_ZeroDenominator, t_ZeroDenominator := ct0_ZeroDenominator, h_ZeroDenominator := ch_ZeroDenominator, e_ZeroDenominator := ⟨e1_ZeroDenominator, e2_ZeroDenominator, cb_ZeroDenominator, ch_ZeroDenominator, e3_ZeroDenominator, e5, e6, e4_ZeroDenominator⟩,
    s_ZeroDenominator_MarketplaceError := s_ZeroDenominator_MarketplaceError,
    s_ZeroDenominator_ZeroDenominator := s_ZeroDenominator_ZeroDenominator }
  exact ⟨_, fun s v => .of_eq rfl, fun base _ _ => ok_law T F_law⟩
end Nl
open PySem PySem.W PyProof.Rows
set_option maxHeartbeats 0 in
theorem PySem.Challenge.cw_nolunch_k01_fractions_holds : PySem.Challenge.rw_nolunch_k01_fractions.Holds := by
  w_on; o_law; k_head; (case hw => w_witness2)
  k_fill
  refine L2.walk_of (l := PySem.Challenge.rw_nolunch_k01_fractions) (n := 63) (k := 4) (x := "script") (CX := fun _ => L2.CX0) (sp := fun w => Nl.sp_law _) rfl (by decide) rfl ⟨rfl, by decide, by decide⟩ (fun w h Y => PySem.W.kIn_of Y) ?F (fun _ _ a ns hl _ hS => ⟨a, ns, rfl, hS, hl, fun _ => rfl⟩) (fun _ _ _ _ _ h => h)
  case F =>
    intro w mg fa h KX G hmg
    refine' Nl.all_mk KX G hmg ?a_fraction ?l_fraction ?c_fraction ?k_fraction ?a_plus ?l_plus ?c_plus ?k_plus ?a_minus ?l_minus ?c_minus ?k_minus ?a_times ?l_times ?c_times ?k_times ?a_over ?l_over ?c_over ?k_over ?a_compare ?l_compare ?c_compare ?k_compare ?a_total ?l_total ?c_total ?k_total ?a__law_begin ?l__law_begin ?c__law_begin ?k__law_begin ?a__law_take ?l__law_take ?c__law_take ?k__law_take ?a__law_signed ?l__law_signed ?c__law_signed ?k__law_signed ?a__law_int ?l__law_int ?c__law_int ?k__law_int ?a__law_gcd ?l__law_gcd ?c__law_gcd ?k__law_gcd ?a__law_f ?l__law_f ?c__law_f ?k__law_f ?a__law_plus ?l__law_plus ?c__law_plus ?k__law_plus ?a__law_less ?l__law_less ?c__law_less ?k__law_less ?a__law_is ?l__law_is ?c__law_is ?k__law_is ?a__law_number ?l__law_number ?c__law_number ?k__law_number ?a__law_refused ?l__law_refused ?c__law_refused ?k__law_refused ?a__law_divided ?l__law_divided ?c__law_divided ?k__law_divided ?a_law ?l_law ?c_law ?k_law ?z_abs ?z_bool ?z_int ?z_isinstance ?z_len ?z_list ?z_range ?z_tuple ?i_gcd ?ca_MarketplaceError ?cx_MarketplaceError ?ck_MarketplaceError ?cb_MarketplaceError ?ct0_MarketplaceError ?ch_MarketplaceError ?e1_MarketplaceError ?e2_MarketplaceError ?e3_MarketplaceError ?e4_MarketplaceError ?ca_ZeroDenominator ?cx_ZeroDenominator ?ck_ZeroDenominator ?cb_ZeroDenominator ?ct0_ZeroDenominator ?ch_ZeroDenominator ?e1_ZeroDenominator ?e2_ZeroDenominator ?e3_ZeroDenominator ?e4_ZeroDenominator ?e5 ?e6 ?s_ZeroDenominator_MarketplaceError ?s_ZeroDenominator_ZeroDenominator
    (case a_fraction => k_is); (case l_fraction => k_is); (case c_fraction => k_is); (case k_fraction => k_is); (case a_plus => k_is); (case l_plus => k_is)
    (case c_plus => k_is); (case k_plus => k_is); (case a_minus => k_is); (case l_minus => k_is); (case c_minus => k_is); (case k_minus => k_is)
    (case a_times => k_is); (case l_times => k_is); (case c_times => k_is); (case k_times => k_is); (case a_over => k_is); (case l_over => k_is)
    (case c_over => k_is); (case k_over => k_is); (case a_compare => k_is); (case l_compare => k_is); (case c_compare => k_is); (case k_compare => k_is)
    (case a_total => k_is); (case l_total => k_is); (case c_total => k_is); (case k_total => k_is); (case a__law_begin => k_is); (case l__law_begin => k_is)
    (case c__law_begin => k_is); (case k__law_begin => k_is); (case a__law_take => k_is); (case l__law_take => k_is); (case c__law_take => k_is); (case k__law_take => k_is)
    (case a__law_signed => k_is); (case l__law_signed => k_is); (case c__law_signed => k_is); (case k__law_signed => k_is); (case a__law_int => k_is); (case l__law_int => k_is)
    (case c__law_int => k_is); (case k__law_int => k_is); (case a__law_gcd => k_is); (case l__law_gcd => k_is); (case c__law_gcd => k_is); (case k__law_gcd => k_is)
    (case a__law_f => k_is); (case l__law_f => k_is); (case c__law_f => k_is); (case k__law_f => k_is); (case a__law_plus => k_is); (case l__law_plus => k_is)
    (case c__law_plus => k_is); (case k__law_plus => k_is); (case a__law_less => k_is); (case l__law_less => k_is); (case c__law_less => k_is); (case k__law_less => k_is)
    (case a__law_is => k_is); (case l__law_is => k_is); (case c__law_is => k_is); (case k__law_is => k_is); (case a__law_number => k_is); (case l__law_number => k_is)
    (case c__law_number => k_is); (case k__law_number => k_is); (case a__law_refused => k_is); (case l__law_refused => k_is); (case c__law_refused => k_is); (case k__law_refused => k_is)
    (case a__law_divided => k_is); (case l__law_divided => k_is); (case c__law_divided => k_is); (case k__law_divided => k_is); (case a_law => k_is); (case l_law => k_is)
    (case c_law => k_is); (case k_law => k_is); (case z_abs => k_is); (case z_bool => k_is); (case z_int => k_is); (case z_isinstance => k_is)
    (case z_len => k_is); (case z_list => k_is); (case z_range => k_is); (case z_tuple => k_is); (case i_gcd => k_is); (case ca_MarketplaceError => k_is)
    (case cx_MarketplaceError => k_exc); (case ck_MarketplaceError => k_is); (case cb_MarketplaceError => k_is); (case ct0_MarketplaceError => k_is); (case ch_MarketplaceError => k_is); (case e1_MarketplaceError => k_is)
    (case e2_MarketplaceError => k_is); (case e3_MarketplaceError => k_is); (case e4_MarketplaceError => k_is); (case ca_ZeroDenominator => k_is); (case cx_ZeroDenominator => k_exc); (case ck_ZeroDenominator => k_is)
    (case cb_ZeroDenominator => k_is); (case ct0_ZeroDenominator => k_is); (case ch_ZeroDenominator => k_is); (case e1_ZeroDenominator => k_is); (case e2_ZeroDenominator => k_is); (case e3_ZeroDenominator => k_is)
    (case e4_ZeroDenominator => k_is); (case e5 => k_is); (case e6 => k_is); (case s_ZeroDenominator_MarketplaceError => k_is); (case s_ZeroDenominator_ZeroDenominator => k_is)

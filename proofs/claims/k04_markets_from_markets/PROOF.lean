import PyProof.Rows.All
import Wide.All
import OpenK.AllK
import Wide.FinOn
import PySem.Challenge.RW_nolunch_k04_markets_from_markets
import HandS.ForExc
import HandS.Wide
import HandS.Gcd
import HandS.IsInst
import HandS.ExcIs
import HandS.Iter
import HandS.Evl
import HandS.SortRule
import HandS.SortInts
import HandS.TupAny
import KE.GoesNew
import KE.GoesMore
import HandS.DictComp
import HandS.Conv
import HandS.TupLe
import HandS.Nested
import HandS.EndTab
import HandS.Exc
import HandS.ForMost
import HandS.RevRange
import HandS.TupMul
set_option Elab.async false
set_option linter.all false
set_option maxRecDepth 100000
set_option maxHeartbeats 4000000
namespace Nl
/-- a size in bits -/
def Bd (k : Nat) (x : Int) : Prop := x.natAbs < 2 ^ k
theorem Bd.mono {k m : Nat} {x : Int} (h : Bd k x) (e : k ≤ m) : Bd m x := Nat.lt_of_lt_of_le h (Nat.pow_le_pow_right (by decide) e)
theorem Bd.mul {k m : Nat} {x y : Int} (h : Bd k x) (g : Bd m y) : Bd (k + m) (x * y) := by
  unfold Bd at *
  rw [Int.natAbs_mul, Nat.pow_add]
  exact Nat.mul_lt_mul'' h g
theorem Bd.add {k m : Nat} {x y : Int} (h : Bd k x) (g : Bd m y) : Bd (max k m + 1) (x + y) := by
  have h1 := h.mono (Nat.le_max_left k m)
  have g1 := g.mono (Nat.le_max_right k m)
  unfold Bd at *
  have := Int.natAbs_add_le x y
  rw [Nat.pow_succ]
  omega
theorem Bd.neg {k : Nat} {x : Int} (h : Bd k x) : Bd k (-x) := by
  unfold Bd at *
  rw [Int.natAbs_neg]
  exact h
theorem Bd.sub {k m : Nat} {x y : Int} (h : Bd k x) (g : Bd m y) : Bd (max k m + 1) (x - y) := by
  rw [Int.sub_eq_add_neg]
  exact h.add g.neg
theorem Bd.le {k : Nat} {x y : Int} (h : Bd k y) (e : x.natAbs ≤ y.natAbs) : Bd k x := Nat.lt_of_le_of_lt e h

/-- lowest terms -/
structure Low (q : Int × Int) : Prop where
  pos : 0 < q.2
  cop : Int.gcd q.1 q.2 = 1
/-- the greatest common divisor, with the sign of b -/
def sg (a b : Int) : Int := if b < 0 then -(Int.gcd a b : Int) else (Int.gcd a b : Int)
def frac (a b : Int) : Int × Int := (a.fdiv (sg a b), b.fdiv (sg a b))
theorem gcd_pos {a b : Int} (h : b ≠ 0) : 0 < Int.gcd a b := Int.gcd_pos_of_ne_zero_right a h
theorem sg_ne {a b : Int} (h : b ≠ 0) : sg a b ≠ 0 := by
  have := gcd_pos (a := a) h
  unfold sg
  split <;> omega
theorem sg_abs (a b : Int) : (sg a b).natAbs = Int.gcd a b := by
  unfold sg
  split <;> simp
theorem sg_dvd1 (a b : Int) : sg a b ∣ a := by
  have h : (Int.gcd a b : Int) ∣ a := Int.gcd_dvd_left a b
  unfold sg
  split
  · exact Int.neg_dvd.mpr h
  · exact h
theorem sg_dvd2 (a b : Int) : sg a b ∣ b := by
  have h : (Int.gcd a b : Int) ∣ b := Int.gcd_dvd_right a b
  unfold sg
  split
  · exact Int.neg_dvd.mpr h
  · exact h
theorem frac_e1 {a b : Int} (_ : b ≠ 0) : (frac a b).1 * sg a b = a := Int.fdiv_mul_cancel (sg_dvd1 a b)
theorem frac_e2 {a b : Int} (_ : b ≠ 0) : (frac a b).2 * sg a b = b := Int.fdiv_mul_cancel (sg_dvd2 a b)
theorem frac_low {a b : Int} (h : b ≠ 0) : Low (frac a b) := by
  have e1 := frac_e1 (a := a) h
  have e2 := frac_e2 (a := a) h
  have g0 := gcd_pos (a := a) h
  have hs := sg_ne (a := a) h
  generalize hx : frac a b = q at *
  obtain ⟨n, d⟩ := q
  simp only at e1 e2
  refine ⟨?_, ?_⟩
  · show 0 < d
    have hd : d ≠ 0 := fun z => by
      rw [z, Int.zero_mul] at e2
      exact h e2.symm
    by_cases hb : b < 0
    · have s0 : sg a b < 0 := by
        unfold sg
        rw [if_pos hb]
        omega
      by_cases q : d < 0
      · have := Int.mul_pos_of_neg_of_neg q s0
        omega
      · omega
    · have s0 : 0 < sg a b := by
        unfold sg
        rw [if_neg hb]
        omega
      by_cases q : d < 0
      · have := Int.mul_neg_of_neg_of_pos q s0
        omega
      · omega
  · show Int.gcd n d = 1
    have hg : Int.gcd (n * sg a b) (d * sg a b) = Int.gcd n d * (sg a b).natAbs := Int.gcd_mul_right n (sg a b) d
    rw [e1, e2, sg_abs] at hg
    exact Nat.eq_of_mul_eq_mul_right g0 (by rw [← hg, Nat.one_mul])
theorem frac_cross {a b : Int} (h : b ≠ 0) : (frac a b).1 * b = a * (frac a b).2 := by
  have e1 := frac_e1 (a := a) h
  have e2 := frac_e2 (a := a) h
  generalize hx : frac a b = q at *
  obtain ⟨n, d⟩ := q
  simp only at e1 e2 ⊢
  generalize sg a b = s at *
  rw [← e1, ← e2, Int.mul_assoc, Int.mul_comm d s]
theorem abs_of_mul {x s y : Int} (e : x * s = y) (h : s ≠ 0) : x.natAbs ≤ y.natAbs := by
  rw [← e, Int.natAbs_mul]
  exact Nat.le_mul_of_pos_right _ (by omega)
theorem frac_b1 {a b : Int} {k : Nat} (h : b ≠ 0) (g : Bd k a) : Bd k (frac a b).1 := g.le (abs_of_mul (frac_e1 h) (sg_ne h))
theorem frac_b2 {a b : Int} {k : Nat} (h : b ≠ 0) (g : Bd k b) : Bd k (frac a b).2 := g.le (abs_of_mul (frac_e2 h) (sg_ne h))
theorem dvd_cop {a b d : Int} (h : b ∣ a * d) (g : Int.gcd a b = 1) : b ∣ d := by
  have h1 : b.natAbs ∣ a.natAbs * d.natAbs := by
    rw [← Int.natAbs_mul]
    exact Int.natAbs_dvd_natAbs.mpr h
  have h2 : Nat.Coprime b.natAbs a.natAbs := (Nat.gcd_comm _ _).trans g
  exact Int.natAbs_dvd_natAbs.mp (h2.dvd_of_dvd_mul_left h1)
theorem low_uniq {p q : Int × Int} (hp : Low p) (hq : Low q) (e : p.1 * q.2 = q.1 * p.2) : p = q := by
  obtain ⟨a, b⟩ := p
  obtain ⟨c, d⟩ := q
  obtain ⟨pb, cb⟩ := hp
  obtain ⟨pd, cd⟩ := hq
  simp only at *
  have d1 : b ∣ d := by
    have h : b ∣ a * d := ⟨c, by rw [e, Int.mul_comm]⟩
    exact dvd_cop h cb
  have d2 : d ∣ b := by
    have h : d ∣ c * b := ⟨a, by rw [← e, Int.mul_comm]⟩
    exact dvd_cop h cd
  have ebd : b = d := Int.dvd_antisymm (by omega) (by omega) d1 d2
  subst ebd
  have : a = c := Int.eq_of_mul_eq_mul_right (by omega) e
  rw [this]
/-- a fraction of at most k bits -/
structure Ok (k : Nat) (q : Int × Int) : Prop where
  low : Low q
  b1 : Bd k q.1
  b2 : Bd k q.2
theorem Ok.pos {k : Nat} {q : Int × Int} (h : Ok k q) : 0 < q.2 := h.low.pos
theorem Ok.mono {k m : Nat} {q : Int × Int} (h : Ok k q) (e : k ≤ m) : Ok m q := ⟨h.low, h.b1.mono e, h.b2.mono e⟩
theorem frac_ok {a b : Int} {k : Nat} (h : b ≠ 0) (g : Bd k a) (f : Bd k b) : Ok k (frac a b) := ⟨frac_low h, frac_b1 h g, frac_b2 h f⟩
def addF (p q : Int × Int) : Int × Int := frac (p.1 * q.2 + q.1 * p.2) (p.2 * q.2)
def subF (p q : Int × Int) : Int × Int := frac (p.1 * q.2 - q.1 * p.2) (p.2 * q.2)
def mulF (p q : Int × Int) : Int × Int := frac (p.1 * q.1) (p.2 * q.2)
def divF (p q : Int × Int) : Int × Int := frac (p.1 * q.2) (p.2 * q.1)
theorem pos_ne {x y : Int} (h : 0 < x) (g : 0 < y) : x * y ≠ 0 := by
  have := Int.mul_pos h g
  omega
theorem addF_ok {k m n : Nat} {p q : Int × Int} (hp : Ok k p) (hq : Ok m q) (e : k + m + 1 ≤ n) : Ok n (addF p q) :=
  frac_ok (pos_ne hp.pos hq.pos) (((hp.b1.mul hq.b2).add (hq.b1.mul hp.b2)).mono (by omega)) ((hp.b2.mul hq.b2).mono (by omega))
theorem subF_ok {k m n : Nat} {p q : Int × Int} (hp : Ok k p) (hq : Ok m q) (e : k + m + 1 ≤ n) : Ok n (subF p q) :=
  frac_ok (pos_ne hp.pos hq.pos) (((hp.b1.mul hq.b2).sub (hq.b1.mul hp.b2)).mono (by omega)) ((hp.b2.mul hq.b2).mono (by omega))
theorem mulF_ok {k m n : Nat} {p q : Int × Int} (hp : Ok k p) (hq : Ok m q) (e : k + m ≤ n) : Ok n (mulF p q) :=
  frac_ok (pos_ne hp.pos hq.pos) ((hp.b1.mul hq.b1).mono (by omega)) ((hp.b2.mul hq.b2).mono (by omega))
theorem divF_ok {k m n : Nat} {p q : Int × Int} (hp : Ok k p) (hq : Ok m q) (h0 : q.1 ≠ 0) (e : k + m ≤ n) : Ok n (divF p q) := by
  have h : p.2 * q.1 ≠ 0 := Int.mul_ne_zero (by have := hp.pos; omega) h0
  exact frac_ok h ((hp.b1.mul hq.b2).mono (by omega)) ((hp.b2.mul hq.b1).mono (by omega))
/-- the law's own normal form -/
def fracL (a b : Int) : Int × Int :=
  let a' := if b < 0 then 0 - a else a
  let b' := if b < 0 then 0 - b else b
  (a' / (Int.gcd a' b' : Int), b' / (Int.gcd a' b' : Int))
theorem fracL_eq {a b : Int} (h : b ≠ 0) : fracL a b = frac a b := by
  have g0 := gcd_pos (a := a) h
  have key : ∀ x : Int, (sg a b ∣ x) → (if b < 0 then 0 - x else x) / (Int.gcd a b : Int) = x.fdiv (sg a b) := fun x hx => by
    obtain ⟨c, rfl⟩ := hx
    have hs := sg_ne (a := a) h
    rw [Int.mul_fdiv_cancel_left c hs]
    unfold sg
    split
    · have e : 0 - -(Int.gcd a b : Int) * c = (Int.gcd a b : Int) * c := by rw [Int.neg_mul]; omega
      rw [e]
      exact Int.mul_ediv_cancel_left c (by omega)
    · exact Int.mul_ediv_cancel_left c (by omega)
  have eg : Int.gcd (if b < 0 then 0 - a else a) (if b < 0 then 0 - b else b) = Int.gcd a b := by
    split
    · rw [Int.zero_sub, Int.zero_sub, Int.neg_gcd, Int.gcd_neg]
    · rfl
  unfold fracL frac
  simp only [eg]
  rw [key a (sg_dvd1 a b), key b (sg_dvd2 a b)]
theorem List.reverseRecOn' {α : Type} {P : List α → Prop} (l : List α) (nil : P []) (snoc : ∀ l x, P l → P (l ++ [x])) : P l := by
  have : ∀ n (l : List α), l.length = n → P l := by
    intro n
    induction n with
    | zero => intro l h; rw [List.eq_nil_of_length_eq_zero h]; exact nil
    | succ n ih =>
      intro l h
      have hne : l ≠ [] := fun e => by rw [e] at h; cases h
      rw [← List.dropLast_concat_getLast hne]
      exact snoc _ _ (ih _ (by rw [List.length_dropLast]; omega))
  exact this _ l rfl
def totF (l : List (Int × Int)) : Int × Int := l.foldl addF (0, 1)
theorem totF_add (l : List (Int × Int)) (q : Int × Int) : totF (l ++ [q]) = addF (totF l) q := by
  unfold totF
  rw [List.foldl_append]
  rfl
theorem ok_zero : Ok 1 (0, 1) := ⟨⟨by decide, by decide⟩, by unfold Bd; decide, by unfold Bd; decide⟩
theorem totF_ok {k : Nat} : ∀ (l : List (Int × Int)), (∀ q ∈ l, Ok k q) → Ok ((k + 1) * l.length + 1) (totF l) := by
  intro l
  induction l using Nl.List.reverseRecOn' with
  | nil => exact fun _ => ok_zero
  | snoc l q ih =>
      intro h
      rw [totF_add]
      have h1 := ih fun z hz => h z (List.mem_append_left _ hz)
      have h2 := h q (by simp)
      refine addF_ok h1 h2 ?_
      rw [List.length_append, List.length_singleton, Nat.mul_add]
      omega
end Nl
namespace Nl
open PySem PySem.Spec PyProof.Rows L2
def CDivX (_ j : Int) : Prop := j ≠ 0 ∧ j.natAbs.log2 < 9000
theorem op_fdivX {X : Cx} : OpR X (binaryOp .FloorDiv) (rI CDivX fun i j => .int (i.fdiv j)) := opI fun _ _ _ _ _ _ _ hc q => floordiv_int hc.1 q (.inl (PyProof.noPylong_of_log2 hc.2))
theorem divX {i j : Int} {b : Nat} (h : j ≠ 0) (hb : Bd b j) (h0 : 0 < b := by decide) (h9 : b ≤ 9000 := by decide) : CDivX i j := ⟨h, Nat.lt_of_lt_of_le (PySem.Flt.log2_lt_of h0 hb) h9⟩
theorem mulX {i j : Int} {a b : Nat} (ha : Bd a i) (hb : Bd b j) (h0 : 0 < a := by decide) (h1 : 0 < b := by decide) (h : a + b ≤ 1000000 := by decide) : CMulW i j := wide_mul ha hb h0 h1 h
/-- all that was tracked is as it was, but for what stands at d -/
def Xt (d : Addr) (H H' : Hp) : Prop := ∀ b o, b ≠ d → H b = some o → H' b = some o
theorem Xt.refl {d : Addr} (H : Hp) : Xt d H H := fun _ _ _ h => h
theorem Xt.trans {d : Addr} {H H1 H2 : Hp} (a : Xt d H H1) (b : Xt d H1 H2) : Xt d H H2 := fun c o n h => b c o n (a c o n h)
theorem Xt.of {d : Addr} {H H' : Hp} (s : Same H H') : Xt d H H' := fun b o _ h => s b o h
theorem Xt.upd {d : Addr} {H : Hp} {o : HO} : Xt d H (upd H d o) := fun b u n h => by
  rw [upd_ne n]
  exact h
theorem same_new {H : Hp} {p : Addr} {o : HO} (h : H p = none) : Same H (upd H p o) := fun b x e => by
  rw [upd_ne (ne_of_none e h)]
  exact e
/-- v is the fraction q -/
def Fr (H : Hp) (v : V) (q : Int × Int) : Prop := ∃ p, v = .ref p ∧ H p = some (.tup [.int q.1, .int q.2])
theorem Fr.same {H H' : Hp} {v : V} {q : Int × Int} (h : Fr H v q) (s : Same H H') : Fr H' v q := by
  obtain ⟨p, e, hp⟩ := h
  exact ⟨p, e, s _ _ hp⟩
theorem ne_tl {H : Hp} {a d : Addr} {xs ys : List V} (h : H a = some (.tup xs)) (g : H d = some (.lst ys)) : a ≠ d := ne_of h g (by intro z; cases z)
theorem Fr.xt {H H' : Hp} {d : Addr} {ys : List V} {v : V} {q : Int × Int} (h : Fr H v q) (g : H d = some (.lst ys)) (s : Xt d H H') : Fr H' v q := by
  obtain ⟨p, e, hp⟩ := h
  exact ⟨p, e, s _ _ (ne_tl hp g) hp⟩
theorem two_le : ([a, b] : List V).length ≤ sizeLine := (by decide : 2 ≤ sizeLine)
section
variable {X : Cx}
theorem CallR.imp {f : Value} {r r' : List V → Hp → VK → Prop} (h : CallR X f r) (hi : ∀ xs H Q, r' xs H Q → r xs H Q) : CallR X f r' := fun pins s σ H vs us Q I rr q => h pins s σ H vs us Q I rr (hi _ _ _ q)
def rInt : List V → Hp → VK → Prop := fun xs H Q => ∃ i, xs = [.int i] ∧ Q (.int i) H
theorem call_intI : CallR X (.type "int") rInt := CallR.imp call_int1 fun _ _ _ h => .inl h
def rLenL (K : PySem.W.Frag) : List V → Hp → VK → Prop := fun xs H Q => ∃ p ys, xs = [.ref p] ∧ SqL K H p ys ∧ Q (.int (ys.length : Int)) H
theorem call_lenL : CallR X (.builtin "len") (rLenL X.K) := CallR.imp call_len_seq fun _ _ _ ⟨p, ys, e, h, q⟩ => ⟨p, ys, e, .inl h, q⟩
def rLenT (K : PySem.W.Frag) : List V → Hp → VK → Prop := fun xs H Q => ∃ p ys, xs = [.ref p] ∧ SqT K H p ys ∧ Q (.int (ys.length : Int)) H
theorem call_lenT : CallR X (.builtin "len") (rLenT X.K) := CallR.imp call_len_seq fun _ _ _ ⟨p, ys, e, h, q⟩ => ⟨p, ys, e, .inr h, q⟩
def rListL (K : PySem.W.Frag) : List V → Hp → VK → Prop := fun xs H Q => ∃ p ys, xs = [.ref p] ∧ SqL K H p ys ∧ ∀ l, H l = none → Q (.ref l) (upd H l (.lst ys))
theorem call_listL : CallR X (.type "list") (rListL X.K) := CallR.imp call_list_of fun _ _ _ ⟨p, ys, e, h, q⟩ => ⟨p, ys, e, .inl h, q⟩
def rTupL (K : PySem.W.Frag) : List V → Hp → VK → Prop := fun xs H Q => ∃ p ys, xs = [.ref p] ∧ SqL K H p ys ∧ ∀ l, H l = none → Q (.ref l) (upd H l (.tup ys))
theorem call_tupL : CallR X (.type "tuple") (rTupL X.K) := CallR.imp call_tuple_of fun _ _ _ ⟨p, ys, e, h, q⟩ => ⟨p, ys, e, .inl ⟨h, q⟩⟩
/-- where something is known of what is raised -/
theorem pe_hyp {e : Expr} {t : TE} {p : Prop} (h : p → PE X e t) : PE X e (fun σ H Q => p ∧ t σ H Q) := ⟨fun pins s σ H Q I hw => (h hw.1).run pins s σ H Q I hw.2⟩
end
theorem mulC {i j : Int} (h : -(2 ^ 64) < j ∧ j < 2 ^ 64) : CMul i j := .inr h
theorem mulC' {i j : Int} (h : -(2 ^ 64) < i ∧ i < 2 ^ 64) : CMul i j := .inl h
/-- the state that the law's draws go on: [its script, a place, a rest, a seed] -/
structure DstI (H : Hp) (pd ps : Addr) (i r : Int) (ns : List Int) : Prop where
  at_d : ∃ s : Int, H pd = some (.lst [.ref ps, .int i, .int r, .int s])
  at_s : H ps = some (.lst (ns.map V.int))
  ne : ps ≠ pd
  i0 : 0 ≤ i
  r0 : 0 ≤ r
def Dst (H : Hp) (pd ps : Addr) : Prop := ∃ i r ns, DstI H pd ps i r ns
theorem Dst.same {H H' : Hp} {pd ps : Addr} (h : Dst H pd ps) (s : Same H H') : Dst H' pd ps := by
  obtain ⟨i, r, ns, ⟨⟨sd, h1⟩, h2, h3, h4, h5⟩⟩ := h
  exact ⟨i, r, ns, ⟨⟨sd, s _ _ h1⟩, s _ _ h2, h3, h4, h5⟩⟩
theorem Dst.xt {H H' : Hp} {pd ps x : Addr} (h : Dst H pd ps) (n1 : x ≠ pd) (n2 : x ≠ ps) (s : Xt x H H') : Dst H' pd ps := by
  obtain ⟨i, r, ns, ⟨⟨sd, h1⟩, h2, h3, h4, h5⟩⟩ := h
  exact ⟨i, r, ns, ⟨⟨sd, s _ _ (Ne.symm n1) h1⟩, s _ _ (Ne.symm n2) h2, h3, h4, h5⟩⟩
theorem Dst.fresh {H : Hp} {pd ps x : Addr} (h : Dst H pd ps) (n : H x = none) : x ≠ pd ∧ x ≠ ps := by
  obtain ⟨i, r, ns, ⟨⟨sd, h1⟩, h2, h3, h4, h5⟩⟩ := h
  exact ⟨fun e => (by rw [e, h1] at n; cases n), fun e => (by rw [e, h2] at n; cases n)⟩
theorem Dst.lst {H : Hp} {pd ps : Addr} (h : Dst H pd ps) : ∃ ys, H pd = some (.lst ys) := by
  obtain ⟨i, r, ns, ⟨⟨sd, h1⟩, _⟩⟩ := h
  exact ⟨_, h1⟩
theorem Fr.dst {H H' : Hp} {pd ps : Addr} {v : V} {q : Int × Int} (h : Fr H v q) (g : Dst H pd ps) (s : Xt pd H H') : Fr H' v q := by
  obtain ⟨ys, e⟩ := g.lst
  exact h.xt e s
theorem DstI.set {H : Hp} {pd ps : Addr} {i r i' r' s' : Int} {ns : List Int} (h : DstI H pd ps i r ns) (hi : 0 ≤ i') (hr : 0 ≤ r') : DstI (upd H pd (.lst [.ref ps, .int i', .int r', .int s'])) pd ps i' r' ns :=
  ⟨⟨s', upd_same⟩, by rw [upd_ne h.ne]; exact h.at_s, h.ne, hi, hr⟩
theorem DstI.upd2 {H : Hp} {pd ps : Addr} {i r i' r' s' : Int} {ns : List Int} {o : HO} (h : DstI H pd ps i r ns) (hi : 0 ≤ i') (hr : 0 ≤ r') : DstI (upd (upd H pd o) pd (.lst [.ref ps, .int i', .int r', .int s'])) pd ps i' r' ns := by
  rw [upd_upd]
  exact h.set hi hr
theorem dec_eq {a b : V} (h : a = b) : decide (a = b) = true := decide_eq_true h
def FrAll (H : Hp) (xs : List V) (qs : List (Int × Int)) : Prop := xs.length = qs.length ∧ ∀ (i : Nat) (x : V), xs[i]? = some x → ∃ q, qs[i]? = some q ∧ Fr H x q
theorem FrAll.same {H H' : Hp} {xs : List V} {qs : List (Int × Int)} (h : FrAll H xs qs) (s : Same H H') : FrAll H' xs qs := ⟨h.1, fun i x e => by
  obtain ⟨q, h1, h2⟩ := h.2 i x e
  exact ⟨q, h1, h2.same s⟩⟩
theorem FrAll.xt {H H' : Hp} {d : Addr} {ys xs : List V} {qs : List (Int × Int)} (h : FrAll H xs qs) (g : H d = some (.lst ys)) (s : Xt d H H') : FrAll H' xs qs := ⟨h.1, fun i x e => by
  obtain ⟨q, h1, h2⟩ := h.2 i x e
  exact ⟨q, h1, h2.xt g s⟩⟩
theorem FrAll.add {H : Hp} {xs : List V} {qs : List (Int × Int)} {v : V} {q : Int × Int} (h : FrAll H xs qs) (g : Fr H v q) : FrAll H (xs ++ [v]) (qs ++ [q]) := by
  refine ⟨by simp [h.1], fun i x e => ?_⟩
  by_cases hi : i < xs.length
  · rw [List.getElem?_append_left hi] at e
    obtain ⟨z, h1, h2⟩ := h.2 i x e
    exact ⟨z, by rw [List.getElem?_append_left (by rw [← h.1]; exact hi)]; exact h1, h2⟩
  · have hl := (List.getElem?_eq_some_iff.mp e).1
    rw [List.length_append, List.length_singleton] at hl
    have ei : i = xs.length := by omega
    subst ei
    rw [List.getElem?_concat_length] at e
    cases e
    exact ⟨q, by rw [h.1, List.getElem?_concat_length], g⟩
theorem take_next {α : Type} {l : List α} {i : Nat} {x : α} (h : l[i]? = some x) : l.take (i + 1) = l.take i ++ [x] := by
  rw [List.take_add_one, h]
  rfl
theorem gcd_step (x y : Int) (hx : 0 ≤ x) (hy : 0 ≤ y) : Int.gcd y (x % y) = Int.gcd x y := by
  obtain ⟨a, rfl⟩ := Int.eq_ofNat_of_zero_le hx
  obtain ⟨b, rfl⟩ := Int.eq_ofNat_of_zero_le hy
  rw [← Int.natCast_emod]
  show Nat.gcd b (a % b) = Nat.gcd a b
  rw [Nat.gcd_comm b, ← Nat.gcd_rec b a, Nat.gcd_comm]
theorem if_true_of' {c : Bool} {A B : Prop} (hc : c = true) (h : A) : if c = true then A else B := by
  rw [if_pos hc]
  exact h
theorem if_false_of' {c : Bool} {A B : Prop} (hc : c = false) (h : B) : if c = true then A else B := by
  rw [hc, if_neg Bool.false_ne_true]
  exact h
def frD (q : Int × Int) : PyData := .tuple [.int q.1, .int q.2]
theorem Fr.dp {K : PySem.W.Frag} {H : Hp} {v : V} {q : Int × Int} (h : Fr H v q) : Dp K H v (frD q) := by
  obtain ⟨p, rfl, hp⟩ := h
  exact .tup (SqT.of hp) (.cons (.int _) (.cons (.int _) .nil))
theorem frD_shaped (q : Int × Int) : SeqAt.shaped (frD q) = true := rfl
theorem frD_eqv (q : Int × Int) : PyData.eqv (frD q) (frD q) = true := SeqAt.eqv_refl _ rfl
theorem kit_self {K : PySem.W.Frag} {C : Addr} : PySem.W.kitOne K (.ref C) (.ref C) = some true := by
  unfold PySem.W.kitOne
  simp
theorem pow38 : Bd 127 (10 ^ 38) := by unfold Bd; decide
end Nl

namespace Nl
/-! ### sorted of tuples of ints of any lengths, the first of which is empty -/
section
open PySem PySem.W PySem.Calls PyProof.Rows SrtO
theorem lex_asym : ∀ a b : List Int, HT.lexLt a b = true → HT.lexLt b a = false
  | [], [], h => by simp [HT.lexLt] at h
  | [], _ :: _, _ => rfl
  | _ :: _, [], h => by simp [HT.lexLt] at h
  | x :: a, y :: b, h => by
    rw [HT.lexLt_cons] at h ⊢
    by_cases e : x = y
    · rw [if_pos e] at h
      rw [if_pos e.symm]
      exact lex_asym a b h
    · rw [if_neg e] at h
      rw [if_neg (Ne.symm e)]
      have := of_decide_eq_true h
      exact decide_eq_false (by omega)
theorem lex_tr : ∀ a b c : List Int, HT.lexLt b a = false → HT.lexLt c b = false → HT.lexLt c a = false
  | _, _, [], _, h => by
    rename_i a b h0
    cases b with
    | nil => exact h0
    | cons y b => simp [HT.lexLt] at h
  | _, [], z :: c, h1, h2 => by
    rename_i a
    cases a with
    | nil => rfl
    | cons x a => simp [HT.lexLt] at h1
  | [], y :: b, z :: c, _, _ => rfl
  | x :: a, y :: b, z :: c, h1, h2 => by
    rw [HT.lexLt_cons] at h1 h2 ⊢
    by_cases e : y = x
    · rw [if_pos e] at h1
      by_cases e2 : z = y
      · rw [if_pos e2] at h2
        rw [if_pos (e2.trans e)]
        exact lex_tr a b c h1 h2
      · rw [if_neg e2] at h2
        rw [if_neg (fun q => e2 (q.trans e.symm))]
        have := of_decide_eq_false h2
        exact decide_eq_false (by omega)
    · rw [if_neg e] at h1
      have q1 := of_decide_eq_false h1
      by_cases e2 : z = y
      · rw [if_neg (fun q => e (e2.symm.trans q))]
        exact decide_eq_false (by omega)
      · rw [if_neg e2] at h2
        have q2 := of_decide_eq_false h2
        rw [if_neg (by omega)]
        exact decide_eq_false (by omega)
theorem swo_path {α : Type} (k : α → List Int) : Swo fun v u => HT.lexLt (k v) (k u) := ⟨fun x y h => lex_asym _ _ h, fun x y z h1 h2 => lex_tr _ _ _ h1 h2⟩
section
variable {prog : Program} {w : World} {A : Around} {E : Value → Shared → Prop} {s : Shared}
theorem keyLt_tup {l b : Addr} {items items2 : Array Value} {ns ms : List Int} {Q : Bool → Shared → Prop} (hl : IsTup s.heap l items) (hb : IsTup s.heap b items2) (hi : IntsAre items.toList ns) (hj : IntsAre items2.toList ms)
    (hu : A.units < cLine) (h : Q (HT.lexLt ns ms) s) : wpAny (model prog w) A (keyLt' oneType' (.ref l) (.ref b)) Q E s := by
  obtain ⟨⟨cls, dd, data, sl⟩, ho, hc, n, hd⟩ := id hl
  obtain ⟨⟨cls2, dd2, data2, sl2⟩, ho2, hc2, n2, hd2⟩ := id hb
  simp only at hc hd hc2 hd2
  subst hc hd hc2 hd2
  rw [keyLt'_oneType, oneLt'_eq]
  simp only [if_true]
  refine wpAny_bind (wpAny_cRoomFor hu ?_)
  have hT : s.TypeIs (.ref l) "tuple" := ⟨_, ho, rfl⟩
  refine wpAny_bind (wpAny_callSpecialIfBound?_slot hT PySem.F.slot_tuple_lt (call_meets PySem.F.slot_tuple_lt hT PySem.F.entry_tuple_lt (PySem.F.args_tuple_lt_2 _ _) (HT.tuple_lt_ints l b items items2 n n2 dd dd2 sl sl2 ns ms hi hj) ⟨ho, ho2, ?_⟩))
  exact wpAny_truthy_bool h
/-- what firstOfTuple gives -/
theorem firsts_any : ∀ (vs : List Value) {Q : List (Option Value) → Shared → Prop}, (∀ v ∈ vs, ∃ a xs, v = .ref a ∧ IsTup s.heap a xs) →
    (∀ fs : List (Option Value), (∀ (v : Value) (r : List Value) (a : Addr) (xs : Array Value), vs = v :: r → v = .ref a → IsTup s.heap a xs → fs[0]? = some xs[0]?) → Q fs s) → wpAny (model prog w) A (vs.mapM firstOfTuple') Q E s
  | [], Q, _, h => by
    rw [List.mapM_nil]
    exact wpAny_pure (h [] fun _ _ _ _ e => by cases e)
  | v :: vs, Q, hv, h => by
    obtain ⟨a, xs, rfl, ht⟩ := hv v (List.mem_cons_self ..)
    obtain ⟨o, ho, hc, n, hd⟩ := id ht
    rw [List.mapM_cons]
    refine wpAny_bind ?_
    rw [kas_first_eq]
    refine wpAny_bind (Looks.here (show Looks (model prog w) s.heap (typeOf (.ref a)) o.cls from (Looks.ld ho).andThen .now) ?_)
    rw [hc, if_neg (by first | decide | simp)]
    refine wpAny_bind (listItems_at ho hd (wpAny_pure ?_))
    refine wpAny_bind (firsts_any vs (fun u hu => hv u (List.mem_cons_of_mem _ hu)) fun fs _ => wpAny_pure (h _ fun v' r a' xs' e1 e2 ht' => ?_))
    cases e1
    cases e2
    obtain ⟨o', ho', hc', n', hd'⟩ := ht'
    rw [ho] at ho'
    cases ho'
    rw [hd] at hd'
    cases hd'
    rfl
theorem kind_paths {vs : List Value} {Q : SortKind → Shared → Prop} (h2 : 2 ≤ vs.length) (hv : ∀ v ∈ vs, ∃ a xs, v = .ref a ∧ IsTup s.heap a xs) (h0 : ∀ (v : Value) (r : List Value), vs = v :: r → ∃ a xs, v = .ref a ∧ IsTup s.heap a xs ∧ xs[0]? = none)
    (h : Q oneType' s) : wpAny (model prog w) A (keyKind' vs.toArray) Q E s := by
  obtain ⟨v₁, v₂, rest, rfl⟩ : ∃ v₁ v₂ rest, vs = v₁ :: v₂ :: rest := by
    match vs, h2 with
    | [], h2 => simp at h2
    | [_], h2 => simp at h2
    | v₁ :: v₂ :: rest, _ => exact ⟨v₁, v₂, rest, rfl⟩
  rw [keyKind'_eq, List.mapM_toArray, map_eq_pure_bind]
  refine wpAny_bind (wpAny_bind (firsts_any _ hv fun fs hf => wpAny_pure ?_))
  obtain ⟨a, xs, ev, ht, hx⟩ := h0 v₁ (v₂ :: rest) rfl
  have f0 := hf v₁ (v₂ :: rest) a xs rfl ev ht
  rw [hx] at f0
  have hall : ¬ ((fs.toArray.all fun x => x.isSome) = true) := by
    cases fs with
    | nil => simp at f0
    | cons f fs =>
      have e : f = none := by simpa using f0
      subst e
      simp
  have h1 : (fs.toArray[0]?.bind id) = none := by
    have e : fs.toArray[0]? = some none := by simpa using f0
    rw [e]
    rfl
  rw [if_neg hall, h1]
  rw [if_neg (by simp)]
  rw [oneTypeOnly'_eq, List.mapM_toArray, map_eq_pure_bind]
  refine wpAny_bind (wpAny_bind (wpAny_bind (kas_mapM (r := Value.type "tuple") _ (fun v hm Q' hq => ?_) (wpAny_pure ?_))))
  · obtain ⟨a, xs, rfl, o, ho, hc, n, hd⟩ := hv v hm
    exact Looks.here (show Looks (model prog w) s.heap (typeOf (.ref a)) (.type "tuple") from hc ▸ (Looks.ld ho).andThen .now) hq
  · have hall : ((List.map (fun _ => Value.type "tuple") (v₁ :: v₂ :: rest)).toArray.all fun x => x == Value.type "tuple") = true := by
      simp only [List.all_toArray, List.all_map, List.all_eq_true]
      intro _ _
      simp
    have h0 : (List.map (fun _ => Value.type "tuple") (v₁ :: v₂ :: rest)).toArray[0]? = some (Value.type "tuple") := by simp
    rw [h0]
    simp only [hall, if_true]
    exact wpAny_pure (wpAny_pure h)
end
end
section
open PySem PySem.Spec PyProof.Rows L2
variable {X : Cx}
abbrev ltK (k : V → List Int) (x y : V) : Bool := HT.lexLt (k x) (k y)
def rSortP (K : PySem.W.Frag) : List V → Hp → VK → Prop := fun vs H Q => ∃ (a : Addr) (xs : List V) (k : V → List Int), vs = [V.ref a] ∧ SqL K H a xs ∧ (∀ x ∈ xs, ∃ t, x = V.ref t ∧ SqT K H t ((k x).map V.int)) ∧ (∀ x, xs[0]? = some x → k x = []) ∧
  ∀ ys p, ys.Perm xs → SrtO.Srtd (ltK k) ys → H p = none → Q (.ref p) (upd H p (.lst ys))
theorem cr_sortP (hr : Room 2 X.A) : CallR X (.builtin "sorted") (rSortP X.K) := by
  intro pins s σ H vs us Q I r h
  obtain ⟨a, xs, k, rfl, hs, hx, hx0, q⟩ := h
  obtain ⟨its, rv, hl, hz⟩ := I.list hs
  obtain ⟨u, rfl, ru⟩ := vals1 r
  obtain rfl : u = Value.ref a := ru
  obtain ⟨e1, e2⟩ := refs_back rv fun x m => by
    obtain ⟨t, e, _⟩ := hx x m
    exact ⟨t, e⟩
  have hu : X.A.in1.in1.units < cLine := by
    have h1 : Room 0 X.A.in1.in1 := Room.in1 (k := 0) (Room.in1 (k := 1) hr)
    exact h1.units0
  have tup : ∀ v ∈ its, ∃ t ws, v = Value.ref t ∧ IsTup s.heap t ws ∧ IntsAre ws.toList (k (backV v)) := fun v hv => by
    obtain ⟨t, rfl⟩ := e2 v hv
    have hm : V.ref t ∈ xs := by rw [e1]; exact List.mem_map.mpr ⟨_, hv, rfl⟩
    obtain ⟨t', e, ht⟩ := hx _ hm
    cases e
    obtain ⟨ws, rw', hw, _⟩ := I.tuple ht
    exact ⟨t, ws.toArray, rfl, hw, (show IntsAre ws (k (V.ref t)) from Vals.ints rw')⟩
  refine SrtO.sorted_ord (swo_path fun v => k (backV v)) hl.isList (by rw [← rv.length]; exact hz) (fun h2 h₁ a' ha kk => ?_) fun out h1 h2 => ?_
  · intro h' hk
    have keep : ∀ b o, s.heap.get? b = some o → h'.get? b = some o := fun b o e => hk b o (kk b o e).1 (kk b o e).2
    have tk : ∀ {t : Addr} {ws : Array Value}, IsTup s.heap t ws → IsTup h' t ws := fun ⟨o, ho, hc⟩ => ⟨o, keep _ _ ho, hc⟩
    refine ⟨oneType', fun Q' E hq => ?_, fun p q hm hm' => ?_⟩
    · refine kind_paths h2 (fun v hv => ?_) (fun v r e => ?_) hq
      · obtain ⟨t, ws, e, hw, _⟩ := tup v hv
        exact ⟨t, ws, e, tk hw⟩
      · have hv : v ∈ its := by rw [e]; exact List.mem_cons_self ..
        obtain ⟨t, ws, e', hw, hi⟩ := tup v hv
        refine ⟨t, ws, e', tk hw, ?_⟩
        have ex : xs[0]? = some (backV v) := by rw [e1, e]; rfl
        rw [hx0 _ ex] at hi
        have : ws.toList = [] := by
          generalize ws.toList = l at hi
          cases hi
          rfl
        obtain ⟨l⟩ := ws
        simp only at this
        subst this
        rfl
    · obtain ⟨t, ws, ev, hw, hi⟩ := tup _ hm
      obtain ⟨t', ws', ev', hw', hi'⟩ := tup _ hm'
      show wpAny (model X.prog X.w) X.A.in1.in1 (keyLt' oneType' p.1 q.1) (fun r s' => s' = _ ∧ r = HT.lexLt (k (backV p.1)) (k (backV q.1))) (fun _ _ => False) _
      rw [ev, ev'] at *
      exact keyLt_tup (tk hw) (tk hw') hi hi' hu ⟨rfl, rfl⟩
  · obtain ⟨ep, he'⟩ := PyProof.Rows.sortedAll_at s.heap its out.toArray
    have h3 : ∀ u ∈ out, ∃ a, u = Value.ref a := fun u hu => e2 u (h2.perm.mem_iff.mp hu)
    have hp : (out.map backV).Perm xs := by
      rw [e1]
      exact h2.perm.map backV
    refine ⟨.ref (s.heap.objs.size + 1), upd H (s.heap.objs.size + 1) (.lst (out.map backV)), I.laid (t' := s.toks) (fun _ _ => PyProof.Rows.sortedAll_old) (Nat.le_succ _) ⟨?_, out, ep, vals_back h3, he'⟩, rfl, q _ _ hp (SrtO.srtd_map h1) (I.hok.fresh (Nat.le_succ _))⟩
    rw [hp.length_eq]
    exact hz
end
end Nl

namespace Nl
open PySem PySem.Spec PyProof.Rows L2
/-! ### data that never changes: numbers, texts, None and tuples of such -/
/-- a tuple that was made, at a -/
def Tp (H : Hp) (a : Addr) (xs : List V) : Prop := H a = some (.tup xs)
mutual
inductive DT (K : PySem.W.Frag) (H : Hp) : V → PyData → Prop
  | non : DT K H .non .none
  | bl (b : Bool) : DT K H (.bl b) (.bool b)
  | int (i : Int) : DT K H (.int i) (.int i)
  | str (x : Str) : DT K H (.str x) (.str x)
  | tup {a : Addr} {xs : List V} {ds : List PyData} : Tp H a xs → DTs K H xs ds → DT K H (.ref a) (.tuple ds)
inductive DTs (K : PySem.W.Frag) (H : Hp) : List V → List PyData → Prop
  | nil : DTs K H [] []
  | cons {v : V} {vs : List V} {d : PyData} {ds : List PyData} : DT K H v d → DTs K H vs ds → DTs K H (v :: vs) (d :: ds)
end
section
variable {K : PySem.W.Frag} {H H' : Hp}
theorem Tp.of {a : Addr} {xs : List V} (h : H a = some (.tup xs)) : Tp H a xs := h
theorem Tp.sq {a : Addr} {xs : List V} (h : Tp H a xs) : SqT K H a xs := SqT.of h
instance instTpSq {a : Addr} {xs : List V} : Coe (Tp H a xs) (SqT K H a xs) := ⟨Tp.sq⟩
mutual
theorem DT.mono (hs : ∀ a xs, Tp H a xs → Tp H' a xs) : ∀ (d : PyData) (v : V), DT K H v d → DT K H' v d
  | .none, _, h => by cases h; exact .non
  | .bool _, _, h => by cases h; exact .bl _
  | .int _, _, h => by cases h; exact .int _
  | .str _, _, h => by cases h; exact .str _
  | .tuple ds, _, h => by
    cases h with
    | tup h1 h2 => exact .tup (hs _ _ h1) (DTs.mono hs ds _ h2)
  | .list _, _, h => by cases h
  | .dict _, _, h => by cases h
theorem DTs.mono (hs : ∀ a xs, Tp H a xs → Tp H' a xs) : ∀ (ds : List PyData) (vs : List V), DTs K H vs ds → DTs K H' vs ds
  | [], _, h => by cases h; exact .nil
  | d :: ds, _, h => by
    cases h with
    | cons h1 h2 => exact .cons (DT.mono hs d _ h1) (DTs.mono hs ds _ h2)
end
mutual
theorem DT.dp : ∀ (d : PyData) (v : V), DT K H v d → Dp K H v d
  | .none, _, h => by cases h; exact .non
  | .bool _, _, h => by cases h; exact .bl _
  | .int _, _, h => by cases h; exact .int _
  | .str _, _, h => by cases h; exact .str _
  | .tuple ds, _, h => by
    cases h with
    | tup h1 h2 => exact .tup h1 (DTs.dp ds _ h2)
  | .list _, _, h => by cases h
  | .dict _, _, h => by cases h
theorem DTs.dp : ∀ (ds : List PyData) (vs : List V), DTs K H vs ds → DpAll K H vs ds
  | [], _, h => by cases h; exact .nil
  | d :: ds, _, h => by
    cases h with
    | cons h1 h2 => exact .cons (DT.dp d _ h1) (DTs.dp ds _ h2)
end
theorem tp_same {a : Addr} {xs : List V} (s : Same H H') (h : Tp H a xs) : Tp H' a xs := s _ _ h
/-- what stands at d is a list -/
def IsL (H : Hp) (d : Addr) : Prop := ∃ ys, H d = some (.lst ys)
theorem tp_xt {d a : Addr} {xs : List V} (g : IsL H d) (s : Xt d H H') (h : Tp H a xs) : Tp H' a xs := by
  obtain ⟨ys, g⟩ := g
  exact s _ _ (ne_of h g (by intro z; cases z)) h
theorem DT.same {v : V} {d : PyData} (h : DT K H v d) (s : Same H H') : DT K H' v d := DT.mono (fun _ _ => tp_same s) d v h
theorem DTs.same {v : List V} {d : List PyData} (h : DTs K H v d) (s : Same H H') : DTs K H' v d := DTs.mono (fun _ _ => tp_same s) d v h
theorem DT.xt {v : V} {d : PyData} {p : Addr} (h : DT K H v d) (g : IsL H p) (s : Xt p H H') : DT K H' v d := DT.mono (fun _ _ => tp_xt g s) d v h
theorem DTs.xt {v : List V} {d : List PyData} {p : Addr} (h : DTs K H v d) (g : IsL H p) (s : Xt p H H') : DTs K H' v d := DTs.mono (fun _ _ => tp_xt g s) d v h
theorem DT.inv {v : V} {ds : List PyData} (h : DT K H v (.tuple ds)) : ∃ a xs, v = .ref a ∧ Tp H a xs ∧ DTs K H xs ds := by
  cases h with
  | tup h1 h2 => exact ⟨_, _, rfl, h1, h2⟩
theorem DTs.len : ∀ {xs : List V} {ds : List PyData}, DTs K H xs ds → xs.length = ds.length
  | _, _, .nil => rfl
  | _, _, .cons _ t => congrArg (· + 1) (DTs.len t)
theorem DTs.inv1 {xs : List V} {d : PyData} (h : DTs K H xs [d]) : ∃ x, xs = [x] ∧ DT K H x d := by
  cases h with
  | cons h1 h2 =>
    cases h2
    exact ⟨_, rfl, h1⟩
theorem DTs.inv2 {xs : List V} {d e : PyData} (h : DTs K H xs [d, e]) : ∃ x y, xs = [x, y] ∧ DT K H x d ∧ DT K H y e := by
  cases h with
  | cons h1 h2 =>
    obtain ⟨y, rfl, h3⟩ := h2.inv1
    exact ⟨_, _, rfl, h1, h3⟩
theorem DT.inv2 {v : V} {d e : PyData} (h : DT K H v (.tuple [d, e])) : ∃ a x y, v = .ref a ∧ Tp H a [x, y] ∧ DT K H x d ∧ DT K H y e := by
  obtain ⟨a, xs, rfl, h1, h2⟩ := h.inv
  obtain ⟨x, y, rfl, h3, h4⟩ := h2.inv2
  exact ⟨a, x, y, rfl, h1, h3, h4⟩
theorem DT.mk2 {a : Addr} {x y : V} {d e : PyData} (h : Tp H a [x, y]) (h1 : DT K H x d) (h2 : DT K H y e) : DT K H (.ref a) (.tuple [d, e]) := .tup h (.cons h1 (.cons h2 .nil))
theorem DT.int_inv {v : V} {i : Int} (h : DT K H v (.int i)) : v = .int i := by cases h; rfl
theorem DTs.get : ∀ {xs : List V} {ds : List PyData} {i : Nat} {x : V}, DTs K H xs ds → xs[i]? = some x → ∃ d, ds[i]? = some d ∧ DT K H x d
  | _, _, _, _, .nil, e => by simp at e
  | _, _, 0, _, .cons r _, e => by simp at e; subst e; exact ⟨_, rfl, r⟩
  | _, _, i + 1, x, .cons _ t, e => by
    obtain ⟨u, h1, h2⟩ := DTs.get (i := i) (x := x) t (by simpa using e)
    exact ⟨u, by simpa using h1, h2⟩
theorem DTs.at_ : ∀ {xs : List V} {ds : List PyData} {i : Nat} {d : PyData}, DTs K H xs ds → ds[i]? = some d → ∃ x, xs[i]? = some x ∧ DT K H x d
  | _, _, _, _, .nil, e => by simp at e
  | _, _, 0, _, .cons r _, e => by simp at e; subst e; exact ⟨_, rfl, r⟩
  | _, _, i + 1, x, .cons _ t, e => by
    obtain ⟨u, h1, h2⟩ := DTs.at_ (i := i) (d := x) t (by simpa using e)
    exact ⟨u, by simpa using h1, h2⟩
theorem DTs.app : ∀ {xs ys : List V} {ds es : List PyData}, DTs K H xs ds → DTs K H ys es → DTs K H (xs ++ ys) (ds ++ es)
  | _, _, _, _, .nil, h => h
  | _, _, _, _, .cons a t, h => .cons a (t.app h)
theorem DTs.snoc {xs : List V} {ds : List PyData} {x : V} {d : PyData} (h : DTs K H xs ds) (g : DT K H x d) : DTs K H (xs ++ [x]) (ds ++ [d]) := h.app (.cons g .nil)
theorem DTs.drop : ∀ {xs : List V} {ds : List PyData} (n : Nat), DTs K H xs ds → DTs K H (xs.drop n) (ds.drop n)
  | _, _, 0, h => h
  | _, _, _ + 1, .nil => .nil
  | _, _, n + 1, .cons _ t => t.drop n
theorem DTs.take : ∀ {xs : List V} {ds : List PyData} (n : Nat), DTs K H xs ds → DTs K H (xs.take n) (ds.take n)
  | _, _, 0, _ => .nil
  | _, _, _ + 1, .nil => .nil
  | _, _, n + 1, .cons h t => .cons h (t.take n)
theorem DTs.ints {ns : List Int} : ∀ {xs : List V}, DTs K H xs (ns.map PyData.int) → xs = ns.map V.int := by
  induction ns with
  | nil =>
    intro xs h
    cases h
    rfl
  | cons n ns ih =>
    intro xs h
    cases h with
    | cons h1 h2 => rw [h1.int_inv, ih h2]; rfl
theorem DTs.of_ints : ∀ (ns : List Int), DTs K H (ns.map V.int) (ns.map PyData.int)
  | [] => .nil
  | _ :: r => .cons (.int _) (DTs.of_ints r)
/-- a fraction -/
theorem DT.fr_inv {v : V} {q : Int × Int} (h : DT K H v (frD q)) : ∃ p, v = .ref p ∧ Tp H p [.int q.1, .int q.2] := by
  obtain ⟨a, x, y, rfl, h1, h2, h3⟩ := h.inv2
  rw [h2.int_inv, h3.int_inv] at h1
  exact ⟨a, rfl, h1⟩
theorem DT.fr {p : Addr} {q : Int × Int} (h : Tp H p [.int q.1, .int q.2]) : DT K H (.ref p) (frD q) := .mk2 h (.int _) (.int _)
/-- a path -/
def pathD (p : List Int) : PyData := .tuple (p.map PyData.int)
theorem DT.path_inv {v : V} {p : List Int} (h : DT K H v (pathD p)) : ∃ a, v = .ref a ∧ Tp H a (p.map V.int) := by
  obtain ⟨a, xs, rfl, h1, h2⟩ := h.inv
  rw [h2.ints] at h1
  exact ⟨a, rfl, h1⟩
theorem DT.path {a : Addr} {p : List Int} (h : Tp H a (p.map V.int)) : DT K H (.ref a) (pathD p) := .tup h (.of_ints p)
end
/-! ### trees -/
abbrev Pr := (Int × Int) × (Int × Int)
inductive Node where
  | mk (ps : List Pr) (ks : List Node)
def Node.ps : Node → List Pr
  | .mk ps _ => ps
def Node.ks : Node → List Node
  | .mk _ ks => ks
def prD (p : Pr) : PyData := .tuple [frD p.1, frD p.2]
def pricesD (ps : List Pr) : PyData := .tuple (ps.map prD)
mutual
def nodeD : Node → PyData
  | .mk ps ks => .tuple [pricesD ps, .tuple (nodesD ks)]
def nodesD : List Node → List PyData
  | [] => []
  | n :: r => nodeD n :: nodesD r
end
theorem nodesD_map : ∀ ks : List Node, nodesD ks = ks.map nodeD
  | [] => rfl
  | n :: r => by rw [nodesD, nodesD_map r]; rfl
theorem nodeD_eq (n : Node) : nodeD n = .tuple [pricesD n.ps, .tuple (n.ks.map nodeD)] := by
  cases n
  rw [nodeD, nodesD_map]
  rfl
abbrev PN := List Int × Node
def entD (e : PN) : PyData := .tuple [pathD e.1, nodeD e.2]
def kidsOf (e : PN) : List PN := e.2.ks.mapIdx fun i k => (e.1 ++ [(i : Int)], k)
mutual
def pre (p : List Int) : Node → List PN
  | .mk ps ks => (p, .mk ps ks) :: pres p 0 ks
def pres (p : List Int) (i : Nat) : List Node → List PN
  | [] => []
  | n :: r => pre (p ++ [(i : Int)]) n ++ pres p (i + 1) r
end
def preE (e : PN) : List PN := pre e.1 e.2
theorem pres_eq (p : List Int) : ∀ (ks : List Node) (i : Nat), pres p i ks = (ks.mapIdx fun j k => (p ++ [((i + j : Nat) : Int)], k)).flatMap preE
  | [], i => rfl
  | n :: r, i => by
    rw [pres, List.mapIdx_cons, List.flatMap_cons, pres_eq p r (i + 1)]
    have e : ∀ j : Nat, i + 1 + j = i + (j + 1) := fun j => by omega
    simp only [Nat.add_zero, e]
    rfl
theorem preE_eq (e : PN) : preE e = e :: (kidsOf e).flatMap preE := by
  obtain ⟨p, n⟩ := e
  cases n with
  | mk ps ks =>
    show pre p (.mk ps ks) = _
    rw [pre, pres_eq]
    simp only [Nat.zero_add]
    rfl
theorem le_sum {x : Nat} : ∀ {l : List Nat}, x ∈ l → x ≤ l.sum
  | [], h => by cases h
  | y :: l, h => by
    rw [List.sum_cons]
    rcases List.mem_cons.mp h with rfl | h
    · omega
    · have := le_sum h
      omega
/-- paths behind p -/
theorem pre_ext : ∀ (n : Nat) (e x : PN), (preE e).length ≤ n → x ∈ preE e → ∃ r, x.1 = e.1 ++ r
  | 0, e, x, hl, hx => by
    rw [preE_eq] at hl
    simp at hl
  | n + 1, e, x, hl, hx => by
    rw [preE_eq] at hl hx
    rcases List.mem_cons.mp hx with rfl | hx
    · exact ⟨[], by simp⟩
    · obtain ⟨k, hk, hxk⟩ := List.mem_flatMap.mp hx
      have hlen : (preE k).length ≤ n := by
        have h1 : (preE k).length ≤ ((kidsOf e).flatMap preE).length := by
          rw [List.length_flatMap]
          exact le_sum (List.mem_map.mpr ⟨k, hk, rfl⟩)
        rw [List.length_cons] at hl
        omega
      obtain ⟨r, hr⟩ := pre_ext n k x hlen hxk
      obtain ⟨i, hi, rfl⟩ := List.mem_mapIdx.mp hk
      exact ⟨(i : Int) :: r, by rw [hr]; simp⟩
theorem pre_len : ∀ (n : Nat) (e x : PN), (preE e).length ≤ n → x ∈ preE e → x.1.length < e.1.length + (preE e).length
  | 0, e, x, hl, hx => by
    rw [preE_eq] at hl
    simp at hl
  | n + 1, e, x, hl, hx => by
    rw [preE_eq] at hl hx
    rcases List.mem_cons.mp hx with rfl | hx
    · have : 0 < (preE x).length := by rw [preE_eq]; simp
      omega
    · obtain ⟨k, hk, hxk⟩ := List.mem_flatMap.mp hx
      have h1 : (preE k).length ≤ ((kidsOf e).flatMap preE).length := by
        rw [List.length_flatMap]
        exact le_sum (List.mem_map.mpr ⟨k, hk, rfl⟩)
      rw [List.length_cons] at hl
      have h2 := pre_len n k x (by omega) hxk
      obtain ⟨i, hi, rfl⟩ := List.mem_mapIdx.mp hk
      have h3 : (preE e).length = 1 + ((kidsOf e).flatMap preE).length := by rw [preE_eq]; simp; omega
      simp only [List.length_append, List.length_singleton] at h2
      omega
section
variable {X : Cx}
theorem OpR.imp {f : Value → Value → Sem Value} {r r' : R2} (h : OpR X f r) (hi : ∀ x y H Q, r' x y H Q → r x y H Q) : OpR X f r' := fun pins s σ H x y v u Q I rx ry q => h pins s σ H x y v u Q I rx ry (hi _ _ _ _ q)
def rCatP (K : PySem.W.Frag) : R2 := fun x y H Q => ∃ a b xs ys, x = .ref a ∧ y = .ref b ∧ Tp H a xs ∧ Tp H b ys ∧ xs.length + ys.length ≤ sizeLine ∧ ∀ p H', Same H H' → Tp H' p (xs ++ ys) → Q (.ref p) H'
theorem op_catP : OpR X (binaryOp .Add) (rCatP X.K) := OpR.imp op_catA fun x y H Q ⟨a, b, xs, ys, ex, ey, ha, hb, hl, q⟩ => ⟨a, b, xs, ys, ex, ey, ha, hb, hl,
  fun e => q b H (Same.refl H) (by rw [e]; exact hb), fun _ e => q a H (Same.refl H) (by rw [e, List.append_nil]; exact ha), fun _ _ p hp => q p _ (same_new hp) (Tp.of upd_same)⟩
theorem SlR.imp {r r' : V → Option Int → Option Int → Hp → VK → Prop} (h : SlR X r) (hi : ∀ x lo u H Q, r' x lo u H Q → r x lo u H Q) : SlR X r' := fun pins s σ H x v vl vu lo u sl Q I rx hs pl pu q => h pins s σ H x v vl vu lo u sl Q I rx hs pl pu (hi _ _ _ _ _ q)
def rSlP (K : PySem.W.Frag) : V → Option Int → Option Int → Hp → VK → Prop := fun x lo u H Q => ∃ a xs, x = .ref a ∧ Tp H a xs ∧ ∀ p H', Same H H' → Tp H' p (cutV xs lo u) → Q (.ref p) H'
theorem cut_whole {xs : List V} {lo u : Option Int} (h : HT.sIx xs.length 0 lo = 0 ∧ HT.sIx xs.length xs.length u = xs.length) : cutV xs lo u = xs := by
  unfold cutV
  rw [h.1, h.2]
  simp
theorem sl_tupP : SlR X (rSlP X.K) := SlR.imp sl_tupA fun x lo u H Q ⟨a, xs, e, ha, q⟩ => ⟨a, xs, e, ha, fun h => q a H (Same.refl H) (by rw [cut_whole h]; exact ha), fun _ p hp => q p _ (same_new hp) (Tp.of upd_same)⟩
end
def tTruK (K : PySem.W.Frag) (ta : TE) : TT := fun σ H Q => ta σ H fun x H' => ∃ k, TruV K x H' k ∧ Q k H'
theorem same_mut {H H' : Hp} {p : Addr} {o : HO} (e : Same H H') (h : H p = none) : Same H (upd H' p o) := fun a u ha => by
  rw [upd_ne (ne_of_none ha h)]
  exact e a u ha
def cmpF (p q : Int × Int) : Int := if p.1 * q.2 < q.1 * p.2 then -1 else if q.1 * p.2 < p.1 * q.2 then 1 else 0
def FB (p : Int × Int) : Prop := Bd 3000 p.1 ∧ Bd 3000 p.2
theorem FB.of {k : Nat} {p : Int × Int} (h : Ok k p) (hk : k ≤ 3000) : FB p := ⟨h.b1.mono hk, h.b2.mono hk⟩
theorem fb_zero : FB (0, 1) := FB.of ok_zero (by decide)
theorem mulF3 {i j : Int} (ha : Bd 3000 i) (hb : Bd 3000 j) : CMulW i j := mulX ha hb
def PrK (k : Nat) (p : Pr) : Prop := Ok k p.1 ∧ Ok k p.2
theorem PrK.mono {k m : Nat} {p : Pr} (h : PrK k p) (e : k ≤ m) : PrK m p := ⟨h.1.mono e, h.2.mono e⟩
abbrev PrB (p : Pr) : Prop := PrK 2000 p
def badPr (p : Pr) : Prop := cmpF p.2 (0, 1) < 0 ∨ cmpF p.1 p.2 < 0
def badPs (g : Int) (ps : List Pr) : Prop := (ps.length : Int) ≠ g - 1 ∨ ∃ p ∈ ps, badPr p
def marketD (g : Int) (n : Node) : PyData := .tuple [.int g, nodeD n]
def NodeB (n : Node) : Prop := ∀ e ∈ pre [] n, ∀ p ∈ e.2.ps, PrB p
theorem len1000 {n : Nat} (h : n ≤ 1000) : n ≤ sizeLine := Nat.le_trans h (by decide)
theorem kids_get {e : PN} {i : Nat} {k : Node} (h : e.2.ks[i]? = some k) : (kidsOf e)[i]? = some (e.1 ++ [(i : Int)], k) := by
  unfold kidsOf
  rw [List.getElem?_mapIdx, h]
  rfl
theorem kids_len (e : PN) : (kidsOf e).length = e.2.ks.length := List.length_mapIdx
theorem preE_pos (e : PN) : 0 < (preE e).length := by
  rw [preE_eq]
  simp
theorem kids_le (e : PN) : (kidsOf e).length < (preE e).length := by
  rw [preE_eq, List.length_cons, List.length_flatMap]
  have : ∀ l : List PN, l.length ≤ (l.map fun a => (preE a).length).sum := by
    intro l
    induction l with
    | nil => simp
    | cons a l ih =>
      have := preE_pos a
      simp only [List.map_cons, List.sum_cons, List.length_cons]
      omega
  have := this (kidsOf e)
  omega
theorem DT.entD_inv {K : PySem.W.Frag} {H : Hp} {v : V} {e : PN} (h : DT K H v (entD e)) : ∃ a x y, v = .ref a ∧ Tp H a [x, y] ∧ DT K H x (pathD e.1) ∧ DT K H y (nodeD e.2) := h.inv2
theorem DT.node_inv {K : PySem.W.Frag} {H : Hp} {v : V} {n : Node} (h : DT K H v (nodeD n)) : ∃ a x y, v = .ref a ∧ Tp H a [x, y] ∧ DT K H x (pricesD n.ps) ∧ DT K H y (.tuple (n.ks.map nodeD)) := by
  rw [nodeD_eq] at h
  exact h.inv2
theorem DT.market_inv {K : PySem.W.Frag} {H : Hp} {v : V} {g : Int} {n : Node} (h : DT K H v (marketD g n)) : ∃ a y, v = .ref a ∧ Tp H a [.int g, y] ∧ DT K H y (nodeD n) := by
  obtain ⟨a, x, y, rfl, h1, h2, h3⟩ := h.inv2
  rw [h2.int_inv] at h1
  exact ⟨a, y, rfl, h1, h3⟩
theorem len_le_flat : ∀ l : List PN, l.length ≤ (l.flatMap preE).length
  | [] => by simp
  | a :: l => by
    have := preE_pos a
    have := len_le_flat l
    simp only [List.flatMap_cons, List.length_append, List.length_cons]
    omega
/-- the node at a path -/
def find : Node → List Int → Option Node
  | n, [] => some n
  | n, i :: r => if 0 ≤ i then (n.ks[i.toNat]?).bind fun k => find k r else none
theorem find_cons (n : Node) (i : Nat) (r : List Int) : find n ((i : Int) :: r) = (n.ks[i]?).bind fun k => find k r := by
  rw [find, if_pos (by omega)]
  rfl
theorem find_out {n : Node} {i : Int} {r : List Int} (h : ¬ (0 ≤ i ∧ i < (n.ks.length : Int))) : find n (i :: r) = none := by
  rw [find]
  by_cases h0 : 0 ≤ i
  · rw [if_pos h0, List.getElem?_eq_none (by omega)]
    rfl
  · rw [if_neg h0]
theorem pre_find : ∀ (n : Nat) (e x : PN), (preE e).length ≤ n → x ∈ preE e → ∃ r, x.1 = e.1 ++ r ∧ find e.2 r = some x.2
  | 0, e, x, hl, hx => by
    rw [preE_eq] at hl
    simp at hl
  | n + 1, e, x, hl, hx => by
    rw [preE_eq] at hl hx
    rcases List.mem_cons.mp hx with rfl | hx
    · exact ⟨[], by simp, rfl⟩
    · obtain ⟨k, hk, hxk⟩ := List.mem_flatMap.mp hx
      have h1 : (preE k).length ≤ ((kidsOf e).flatMap preE).length := by
        rw [List.length_flatMap]
        exact le_sum (List.mem_map.mpr ⟨k, hk, rfl⟩)
      rw [List.length_cons] at hl
      obtain ⟨r, hr, hf⟩ := pre_find n k x (by omega) hxk
      obtain ⟨i, hi, rfl⟩ := List.mem_mapIdx.mp hk
      refine ⟨(i : Int) :: r, by rw [hr]; simp, ?_⟩
      rw [find_cons, List.getElem?_eq_getElem hi]
      exact hf
/-- the times of the ends -/
def endLens (n : Node) : List Nat := ((pre [] n).filter fun e => e.2.ks.isEmpty).map fun e => e.1.length
theorem some_end : ∀ (n : Nat) (e : PN), (preE e).length ≤ n → ∃ x ∈ preE e, x.2.ks = []
  | 0, e, hl => by
    rw [preE_eq] at hl
    simp at hl
  | n + 1, e, hl => by
    cases hk : e.2.ks with
    | nil => exact ⟨e, by rw [preE_eq]; exact List.mem_cons_self .., hk⟩
    | cons k ks =>
      have h0 : (kidsOf e)[0]? = some (e.1 ++ [((0 : Nat) : Int)], k) := kids_get (by rw [hk]; rfl)
      have hm := List.mem_of_getElem? h0
      have h1 : (preE (e.1 ++ [((0 : Nat) : Int)], k)).length ≤ ((kidsOf e).flatMap preE).length := by
        rw [List.length_flatMap]
        exact le_sum (List.mem_map.mpr ⟨_, hm, rfl⟩)
      rw [preE_eq, List.length_cons] at hl
      obtain ⟨x, hx, hz⟩ := some_end n _ (Nat.le_trans h1 (by omega))
      refine ⟨x, ?_, hz⟩
      rw [preE_eq]
      exact List.mem_cons_of_mem _ (List.mem_flatMap.mpr ⟨_, hm, hx⟩)
theorem ends_pos (n : Node) : 0 < (endLens n).length := by
  obtain ⟨x, hx, hz⟩ := some_end _ ([], n) (Nat.le_refl _)
  unfold endLens
  rw [List.length_map]
  exact List.length_pos_of_mem (List.mem_filter.mpr ⟨hx, by rw [hz]; rfl⟩)
def BadM (g : Int) (n : Node) : Prop := ¬ (1 ≤ g ∧ g ≤ 4) ∨ (∃ e ∈ pre [] n, badPs g e.2.ps) ∨ ∃ a ∈ endLens n, ∃ b ∈ endLens n, a ≠ b
def BigM (n : Node) : Prop := 40 < (pre [] n).length ∨ ∃ a ∈ endLens n, 5 < a
theorem tru_tup {K : PySem.W.Frag} {H : Hp} {a : Addr} {xs : List V} (h : Tp H a xs) : TruV K (.ref a) H (!xs.isEmpty) := .inr (.inl ⟨xs, h, rfl⟩)
theorem tru_tup' {K : PySem.W.Frag} {H : Hp} {a : Addr} {xs : List V} {b : Bool} (h : Tp H a xs) (e : xs.isEmpty = b) : TruV K (.ref a) H (!b) := .inr (.inl ⟨xs, h, by rw [e]⟩)
theorem tru_lst {K : PySem.W.Frag} {H : Hp} {a : Addr} {xs : List V} (h : SqL K H a xs) : TruV K (.ref a) H (!xs.isEmpty) := .inl ⟨xs, h, rfl⟩
theorem filter_next {α : Type} {l : List α} {i : Nat} {x : α} {p : α → Bool} (h : l[i]? = some x) : (l.take (i + 1)).filter p = (l.take i).filter p ++ (if p x then [x] else []) := by
  rw [take_next h, List.filter_append]
  congr 1
  by_cases hp : p x
  · simp [hp]
  · simp [hp]
theorem find_preE : ∀ (r : List Int) (e : PN) (m : Node), find e.2 r = some m → (e.1 ++ r, m) ∈ preE e
  | [], e, m, h => by
    have : e.2 = m := Option.some.inj h
    rw [preE_eq, List.append_nil, ← this]
    exact List.mem_cons_self ..
  | i :: r, e, m, h => by
    by_cases hi : 0 ≤ i ∧ i < (e.2.ks.length : Int)
    · obtain ⟨j, rfl⟩ := Int.eq_ofNat_of_zero_le hi.1
      have hk : e.2.ks[j]? = some e.2.ks[j] := List.getElem?_eq_getElem (by omega)
      rw [find_cons, hk] at h
      have ih := find_preE r (e.1 ++ [(j : Int)], e.2.ks[j]) m h
      rw [preE_eq]
      refine List.mem_cons_of_mem _ (List.mem_flatMap.mpr ⟨_, List.mem_of_getElem? (kids_get hk), ?_⟩)
      simpa using ih
    · rw [find_out hi] at h
      cases h
theorem find_pre (n : Node) (p : List Int) (m : Node) (h : find n p = some m) : ∃ e ∈ pre [] n, e.2 = m := ⟨_, find_preE p ([], n) m h, rfl⟩
/-! ### drawn markets -/
def leF (p q : Int × Int) : Prop := p.1 * q.2 ≤ q.1 * p.2
theorem frac_nonneg {a b : Int} (ha : 0 ≤ a) (hb : 0 < b) : 0 ≤ (frac a b).1 := by
  have c := frac_cross (a := a) (show b ≠ 0 by omega)
  have l := (frac_low (a := a) (show b ≠ 0 by omega)).pos
  by_cases h : 0 ≤ (frac a b).1
  · exact h
  · have h1 := Int.mul_neg_of_neg_of_pos (show (frac a b).1 < 0 by omega) hb
    have h2 := Int.mul_nonneg ha (Int.le_of_lt l)
    omega
theorem frac_le {a b c : Int} (hb : 0 < b) (h : a ≤ c) : leF (frac a b) (frac c b) := by
  have h1 := frac_cross (a := a) (show b ≠ 0 by omega)
  have h2 := frac_cross (a := c) (show b ≠ 0 by omega)
  have l1 := (frac_low (a := a) (show b ≠ 0 by omega)).pos
  have l2 := (frac_low (a := c) (show b ≠ 0 by omega)).pos
  unfold leF
  generalize frac a b = x at *
  generalize frac c b = y at *
  have e1 : x.1 * y.2 * b = a * (x.2 * y.2) := by
    rw [Int.mul_assoc, Int.mul_comm y.2 b, ← Int.mul_assoc, h1, Int.mul_assoc]
  have e2 : y.1 * x.2 * b = c * (x.2 * y.2) := by
    rw [Int.mul_assoc, Int.mul_comm x.2 b, ← Int.mul_assoc, h2, Int.mul_assoc, Int.mul_comm y.2 x.2]
  have h3 : x.1 * y.2 * b ≤ y.1 * x.2 * b := by
    rw [e1, e2]
    exact Int.mul_le_mul_of_nonneg_right h (Int.le_of_lt (Int.mul_pos l1 l2))
  exact Int.le_of_mul_le_mul_right h3 hb
theorem cmp_le {p q : Int × Int} (h : leF q p) : ¬ cmpF p q < 0 := by
  unfold leF at h
  unfold cmpF
  rw [if_neg (by omega)]
  split <;> omega
theorem cmp_zero {p : Int × Int} (h : 0 ≤ p.1) : ¬ cmpF p (0, 1) < 0 := cmp_le (by
  unfold leF
  simp
  exact h)
theorem good_pair {m s : Int × Int} (hm : 0 ≤ m.1) (pm : 0 < m.2) (hs : 0 ≤ s.1) (ps : 0 < s.2) (low : Int × Int) (hl : low = subF m s ∧ 0 ≤ low.1 ∨ low = (0, 1)) : ¬ badPr (addF m s, low) := by
  have den := Int.mul_pos pm ps
  rintro (h | h)
  · rcases hl with ⟨rfl, h0⟩ | rfl
    · exact cmp_zero h0 h
    · exact cmp_zero (p := (0, 1)) (by decide) h
  · have h1 : 0 ≤ m.1 * s.2 := Int.mul_nonneg hm (Int.le_of_lt ps)
    have h2 : 0 ≤ s.1 * m.2 := Int.mul_nonneg hs (Int.le_of_lt pm)
    rcases hl with ⟨rfl, h0⟩ | rfl
    · exact cmp_le (frac_le den (by omega)) h
    · exact cmp_zero (frac_nonneg (by omega) den) h
structure PsOk (g : Int) (ps : List Pr) : Prop where
  len : (ps.length : Int) = g - 1
  good : ∀ p ∈ ps, ¬ badPr p
  b : ∀ p ∈ ps, PrK 201 p
theorem PsOk.bad {g : Int} {ps : List Pr} (h : PsOk g ps) : ¬ badPs g ps := by
  rintro (z | ⟨p, hp, z⟩)
  · exact z h.len
  · exact h.good p hp z
def NV (g : Int) : Nat → Node → Prop
  | 0, n => PsOk g n.ps ∧ n.ks = []
  | m + 1, n => PsOk g n.ps ∧ 0 < n.ks.length ∧ n.ks.length ≤ 3 ∧ ∀ k ∈ n.ks, NV g m k
def cnt : Nat → Nat
  | 0 => 1
  | m + 1 => 1 + 3 * cnt m
theorem NV.ps {g : Int} : ∀ {m : Nat} {n : Node}, NV g m n → PsOk g n.ps
  | 0, _, h => h.1
  | _ + 1, _, h => h.1
theorem nv_pre {g : Int} : ∀ (m : Nat) (e : PN), NV g m e.2 → (∀ x ∈ preE e, PsOk g x.2.ps ∧ x.2.ks.length ≤ 3 ∧ x.1.length ≤ e.1.length + m ∧ (x.2.ks = [] → x.1.length = e.1.length + m)) ∧ (preE e).length ≤ cnt m
  | 0, e, h => by
    have hk : kidsOf e = [] := by
      unfold kidsOf
      rw [h.2]
      rfl
    rw [preE_eq, hk]
    refine ⟨fun x hx => ?_, by simp [cnt]⟩
    simp at hx
    subst hx
    exact ⟨h.1, by rw [h.2]; simp, by simp, fun _ => rfl⟩
  | m + 1, e, h => by
    obtain ⟨h1, h2, h3, h4⟩ := h
    have ih : ∀ k ∈ kidsOf e, (∀ x ∈ preE k, PsOk g x.2.ps ∧ x.2.ks.length ≤ 3 ∧ x.1.length ≤ e.1.length + (m + 1) ∧ (x.2.ks = [] → x.1.length = e.1.length + (m + 1))) ∧ (preE k).length ≤ cnt m := by
      intro k hk
      obtain ⟨i, hi, rfl⟩ := List.mem_mapIdx.mp hk
      obtain ⟨a, b⟩ := nv_pre m (e.1 ++ [(i : Int)], e.2.ks[i]) (h4 _ (List.getElem_mem hi))
      refine ⟨fun x hx => ?_, b⟩
      obtain ⟨q1, q2, q3, q4⟩ := a x hx
      simp only [List.length_append, List.length_singleton] at q3 q4
      exact ⟨q1, q2, by omega, fun z => by have := q4 z; omega⟩
    rw [preE_eq]
    refine ⟨fun x hx => ?_, ?_⟩
    · rcases List.mem_cons.mp hx with rfl | hx
      · exact ⟨h1, h3, by omega, fun z => by rw [z] at h2; simp at h2⟩
      · obtain ⟨k, hk, hx⟩ := List.mem_flatMap.mp hx
        exact (ih k hk).1 x hx
    · have : ∀ l : List PN, (∀ k ∈ l, (preE k).length ≤ cnt m) → (l.flatMap preE).length ≤ l.length * cnt m := by
        intro l
        induction l with
        | nil => simp
        | cons a l ih =>
          intro hl
          have a1 := hl a (by simp)
          have a2 := ih fun k hk => hl k (by simp [hk])
          simp only [List.flatMap_cons, List.length_append, List.length_cons, Nat.add_mul]
          omega
      have q := this (kidsOf e) fun k hk => (ih k hk).2
      rw [kids_len] at q
      have q2 := Nat.mul_le_mul_right (cnt m) h3
      simp only [List.length_cons, cnt]
      omega
theorem nv_good {g : Int} {m : Nat} {n : Node} (h : NV g m n) (hm : m ≤ 2) (h1 : 1 ≤ g) (h4 : g ≤ 4) : (¬ BadM g n ∧ ¬ BigM n) ∧ NodeB n ∧ (pre [] n).length ≤ 13 := by
  obtain ⟨a, b⟩ := nv_pre m ([], n) h
  have c13 : cnt m ≤ 13 := by
    match m, hm with
    | 0, _ => decide
    | 1, _ => decide
    | 2, _ => decide
  have lens : ∀ x ∈ endLens n, x = m := by
    intro x hx
    obtain ⟨e, he, rfl⟩ := List.mem_map.mp hx
    obtain ⟨he1, he2⟩ := List.mem_filter.mp he
    have := (a e he1).2.2.2 (List.isEmpty_iff.mp he2)
    simpa using this
  refine ⟨⟨?_, ?_⟩, fun e he p hp => ((a e he).1.b p hp).mono (by decide), Nat.le_trans b c13⟩
  · rintro (z | ⟨e, he, z⟩ | ⟨x, hx, y, hy, z⟩)
    · exact z ⟨h1, h4⟩
    · exact (a e he).1.bad z
    · exact z ((lens x hx).trans (lens y hy).symm)
  · rintro (z | ⟨x, hx, z⟩)
    · have : (pre [] n).length ≤ 13 := Nat.le_trans b c13
      omega
    · have := lens x hx
      omega
def kb : Nat → Nat
  | 0 => 4
  | m + 1 => 3 * kb m + 14
theorem xt_mut {H H' : Hp} {d p : Addr} {o : HO} (e : Xt d H H') (h : H p = none) : Xt d H (upd H' p o) := fun a u na ha => by
  rw [upd_ne (ne_of_none ha h)]
  exact e a u na ha
theorem xt_free {H H' : Hp} {d p : Addr} (e : Xt d H H') (hd : p ≠ d) (h : H' p = none) : H p = none := by
  cases q : H p with
  | none => rfl
  | some o =>
    rw [e p o hd q] at h
    cases h
/-- a drawn node with its mids -/
def ChildP (K : PySem.W.Frag) (ex : List Addr) (H : Hp) (v : V) (c : Node × List (Int × Int)) : Prop := ∃ a vn pm xs, v = .ref a ∧ Tp H a [vn, .ref pm] ∧ DT K H vn (nodeD c.1) ∧ H pm = some (.lst xs) ∧ DTs K H xs (c.2.map frD) ∧ ∀ x ∈ ex, pm ≠ x
theorem ChildP.xt {K : PySem.W.Frag} {ex : List Addr} {H H' : Hp} {v : V} {c : Node × List (Int × Int)} {p : Addr} (h : ChildP K ex H v c) (hp : p ∈ ex) (g : IsL H p) (s : Xt p H H') : ChildP K ex H' v c := by
  obtain ⟨a, vn, pm, xs, rfl, h1, h2, h3, h4, h5⟩ := h
  exact ⟨a, vn, pm, xs, rfl, tp_xt g s h1, h2.xt g s, s _ _ (h5 p hp) h3, h4.xt g s, h5⟩
theorem Dst.isL {H : Hp} {pd ps : Addr} (h : Dst H pd ps) : IsL H pd := h.lst
def All2 {β : Type} (P : V → β → Prop) (xs : List V) (cs : List β) : Prop := xs.length = cs.length ∧ ∀ (i : Nat) (x : V), xs[i]? = some x → ∃ c, cs[i]? = some c ∧ P x c
theorem All2.nil {β : Type} {P : V → β → Prop} : All2 P [] [] := ⟨rfl, fun i x e => by simp at e⟩
theorem All2.imp {β : Type} {P Q : V → β → Prop} {xs : List V} {cs : List β} (h : All2 P xs cs) (f : ∀ x c, P x c → Q x c) : All2 Q xs cs := ⟨h.1, fun i x e => by
  obtain ⟨c, h1, h2⟩ := h.2 i x e
  exact ⟨c, h1, f _ _ h2⟩⟩
theorem All2.snoc {β : Type} {P : V → β → Prop} {xs : List V} {cs : List β} {v : V} {q : β} (h : All2 P xs cs) (g : P v q) : All2 P (xs ++ [v]) (cs ++ [q]) := by
  refine ⟨by simp [h.1], fun i x e => ?_⟩
  by_cases hi : i < xs.length
  · rw [List.getElem?_append_left hi] at e
    obtain ⟨z, h1, h2⟩ := h.2 i x e
    exact ⟨z, by rw [List.getElem?_append_left (by rw [← h.1]; exact hi)]; exact h1, h2⟩
  · have hl := (List.getElem?_eq_some_iff.mp e).1
    rw [List.length_append, List.length_singleton] at hl
    have ei : i = xs.length := by omega
    subst ei
    rw [List.getElem?_concat_length] at e
    cases e
    exact ⟨q, by rw [h.1, List.getElem?_concat_length], g⟩
theorem All2.at_ {β : Type} {P : V → β → Prop} {xs : List V} {cs : List β} {i : Nat} {c : β} (h : All2 P xs cs) (e : cs[i]? = some c) : ∃ x, xs[i]? = some x ∧ P x c := by
  have il := (List.getElem?_eq_some_iff.mp e).1
  obtain ⟨c', h1, h2⟩ := h.2 i _ (List.getElem?_eq_getElem (by rw [h.1]; exact il))
  rw [e] at h1
  cases h1
  exact ⟨_, List.getElem?_eq_getElem (by rw [h.1]; exact il), h2⟩
/-! ### sorted paths -/
section
variable {X : Cx}
def rSortQ (K : PySem.W.Frag) : List V → Hp → VK → Prop := fun vs H Q => ∃ (a : Addr) (xs : List V) (ps : List (List Int)), vs = [V.ref a] ∧ SqL K H a xs ∧ DTs K H xs (ps.map pathD) ∧ (∀ p, ps[0]? = some p → p = []) ∧
  ∀ (ys : List V) (k : V → List Int) (p : Addr), ys.Perm xs → xs.map k = ps → SrtO.Srtd (ltK k) ys → H p = none → Q (.ref p) (upd H p (.lst ys))
theorem map_int_inj : ∀ {a b : List Int}, a.map V.int = b.map V.int → a = b
  | [], [], _ => rfl
  | [], _ :: _, h => by cases h
  | _ :: _, [], h => by cases h
  | x :: a, y :: b, h => by
    simp only [List.map_cons, List.cons.injEq, V.int.injEq] at h
    rw [h.1, map_int_inj h.2]
open Classical in
theorem cr_sortQ (hr : Room 2 X.A) : CallR X (.builtin "sorted") (rSortQ X.K) := by
  intro pins s σ H vs us Q I r h
  obtain ⟨a, xs, ps, rfl, hs, hd, h0, q⟩ := h
  let k : V → List Int := fun x => if h : ∃ p : List Int, ∃ t, x = V.ref t ∧ Tp H t (p.map V.int) then h.choose else []
  have lx : xs.length = ps.length := by rw [hd.len, List.length_map]
  have key : ∀ (i : Nat) (x : V), xs[i]? = some x → ∃ t, x = V.ref t ∧ Tp H t ((k x).map V.int) ∧ ps[i]? = some (k x) := by
    intro i x hx
    obtain ⟨d, hd1, hd2⟩ := hd.get hx
    rw [List.getElem?_map] at hd1
    obtain ⟨p, hp, rfl⟩ := Option.map_eq_some_iff.mp hd1
    obtain ⟨t, rfl, ht⟩ := hd2.path_inv
    have ex : ∃ p : List Int, ∃ t', V.ref t = V.ref t' ∧ Tp H t' (p.map V.int) := ⟨p, t, rfl, ht⟩
    have ek : k (V.ref t) = ex.choose := dif_pos ex
    obtain ⟨t', e', ht'⟩ := ex.choose_spec
    cases e'
    rw [← ek] at ht'
    have := map_int_inj (I.tuple_inj ht'.sq ht.sq)
    exact ⟨t, rfl, ht', by rw [this]; exact hp⟩
  refine cr_sortP hr pins s σ H _ us Q I r ⟨a, xs, k, rfl, hs, fun x hx => ?_, fun x hx => ?_, fun ys p hp hq hf => q ys k p hp ?_ hq hf⟩
  · obtain ⟨i, hi, rfl⟩ := List.mem_iff_getElem.mp hx
    obtain ⟨t, e, ht, _⟩ := key i _ (List.getElem?_eq_getElem hi)
    exact ⟨t, e, ht⟩
  · obtain ⟨t, e, ht, hp⟩ := key 0 x hx
    exact h0 _ hp
  · refine List.ext_getElem? fun i => ?_
    rw [List.getElem?_map]
    cases hx : xs[i]? with
    | none =>
      rw [List.getElem?_eq_none_iff] at hx
      rw [List.getElem?_eq_none (by omega)]
      rfl
    | some x =>
      obtain ⟨t, e, ht, hp⟩ := key i x hx
      rw [hp]
      rfl
end
theorem lex_pre (p a b : List Int) : HT.lexLt (p ++ a) (p ++ b) = HT.lexLt a b := by
  induction p with
  | nil => rfl
  | cons x p ih =>
    rw [List.cons_append, List.cons_append, HT.lexLt_cons, if_pos rfl]
    exact ih
theorem lex_anti : ∀ a b : List Int, HT.lexLt a b = false → HT.lexLt b a = false → a = b
  | [], [], _, _ => rfl
  | [], _ :: _, h, _ => by simp [HT.lexLt] at h
  | _ :: _, [], _, h => by simp [HT.lexLt] at h
  | x :: a, y :: b, h1, h2 => by
    rw [HT.lexLt_cons] at h1 h2
    by_cases e : x = y
    · rw [if_pos e] at h1
      rw [if_pos e.symm] at h2
      rw [e, lex_anti a b h1 h2]
    · rw [if_neg e] at h1
      rw [if_neg (Ne.symm e)] at h2
      have q1 := of_decide_eq_false h1
      have q2 := of_decide_eq_false h2
      exact absurd (show x = y by omega) e
theorem uniq_srt : ∀ {l m : List (List Int)}, l.Perm m → (l.Pairwise fun a b => HT.lexLt b a = false) → (m.Pairwise fun a b => HT.lexLt b a = false) → l = m
  | [], m, h, _, _ => (List.Perm.nil_eq h)
  | x :: l, [], h, _, _ => absurd h.length_eq (by simp)
  | x :: l, y :: m, h, h1, h2 => by
    have e : x = y := by
      rcases List.mem_cons.mp (h.mem_iff.mp (List.mem_cons_self (a := x) (l := l))) with e | hx
      · exact e
      · rcases List.mem_cons.mp (h.mem_iff.mpr (List.mem_cons_self (a := y) (l := m))) with e | hy
        · exact e.symm
        · exact lex_anti x y ((List.pairwise_cons.mp h2).1 x hx) ((List.pairwise_cons.mp h1).1 y hy)
    subst e
    rw [uniq_srt h.cons_inv (List.pairwise_cons.mp h1).2 (List.pairwise_cons.mp h2).2]
theorem pre_sorted : ∀ (n : Nat) (e : PN), (preE e).length ≤ n → (preE e).Pairwise fun a b => HT.lexLt a.1 b.1 = true
  | 0, e, h => by
    rw [preE_eq] at h
    simp at h
  | n + 1, e, h => by
    have hk : ∀ k ∈ kidsOf e, (preE k).length ≤ n := by
      intro k hk
      have h1 : (preE k).length ≤ ((kidsOf e).flatMap preE).length := by
        rw [List.length_flatMap]
        exact le_sum (List.mem_map.mpr ⟨_, hk, rfl⟩)
      rw [preE_eq, List.length_cons] at h
      omega
    rw [preE_eq]
    refine List.pairwise_cons.mpr ⟨fun x hx => ?_, List.pairwise_flatMap.mpr ⟨fun k hk' => pre_sorted n k (hk k hk'), ?_⟩⟩
    · obtain ⟨k, hk', hx⟩ := List.mem_flatMap.mp hx
      obtain ⟨r, hr⟩ := pre_ext n k x (hk k hk') hx
      obtain ⟨i, hi, rfl⟩ := List.mem_mapIdx.mp hk'
      rw [hr, List.append_assoc]
      have := lex_pre e.1 [] ([(i : Int)] ++ r)
      rw [List.append_nil] at this
      rw [this]
      rfl
    · rw [List.pairwise_iff_getElem]
      intro i j hi hj hij x hx y hy
      have ei : (kidsOf e)[i] = (e.1 ++ [(i : Int)], e.2.ks[i]'(by rw [kids_len] at hi; exact hi)) := Option.some.inj ((List.getElem?_eq_getElem hi).symm.trans (kids_get (List.getElem?_eq_getElem _)))
      have ej : (kidsOf e)[j] = (e.1 ++ [(j : Int)], e.2.ks[j]'(by rw [kids_len] at hj; exact hj)) := Option.some.inj ((List.getElem?_eq_getElem hj).symm.trans (kids_get (List.getElem?_eq_getElem _)))
      obtain ⟨r, hr⟩ := pre_ext n _ x (hk _ (List.getElem_mem hi)) hx
      obtain ⟨q, hq⟩ := pre_ext n _ y (hk _ (List.getElem_mem hj)) hy
      rw [ei] at hr
      rw [ej] at hq
      rw [hr, hq, List.append_assoc, List.append_assoc, lex_pre]
      show HT.lexLt ((i : Int) :: r) ((j : Int) :: q) = true
      rw [HT.lexLt_cons, if_neg (by omega)]
      exact decide_eq_true (by omega)
theorem flat_perm : ∀ F : List PN, (F.flatMap preE).Perm (F ++ (F.flatMap kidsOf).flatMap preE)
  | [] => by simp
  | e :: F => by
    have ih := flat_perm F
    rw [List.flatMap_cons, preE_eq, List.flatMap_cons, List.flatMap_append, List.cons_append, List.cons_append]
    refine List.Perm.cons e ?_
    refine (List.Perm.append_left _ ih).trans ?_
    rw [← List.append_assoc, ← List.append_assoc]
    exact List.Perm.append_right _ List.perm_append_comm
def lv (n : Node) : Nat → List PN
  | 0 => [([], n)]
  | t + 1 => (lv n t).flatMap kidsOf
def rowsN (n : Node) : Nat → List PN
  | 0 => []
  | t + 1 => rowsN n t ++ lv n t
theorem rows_perm (n : Node) : ∀ t, (pre [] n).Perm (rowsN n t ++ (lv n t).flatMap preE)
  | 0 => by
    show (pre [] n).Perm ([] ++ [([], n)].flatMap preE)
    simp [preE]
  | t + 1 => by
    refine (rows_perm n t).trans ?_
    show (rowsN n t ++ (lv n t).flatMap preE).Perm (rowsN n t ++ lv n t ++ ((lv n t).flatMap kidsOf).flatMap preE)
    rw [List.append_assoc]
    exact List.Perm.append_left _ (flat_perm (lv n t))
theorem lv_len (n : Node) : ∀ t, ∀ x ∈ lv n t, x.1.length = t
  | 0, x, h => by
    rw [List.mem_singleton.mp h]
    rfl
  | t + 1, x, h => by
    obtain ⟨y, hy, hx⟩ := List.mem_flatMap.mp h
    obtain ⟨i, hi, rfl⟩ := List.mem_mapIdx.mp hx
    simp [lv_len n t y hy]
theorem lv_mem (n : Node) (t : Nat) (x : PN) (h : x ∈ lv n t) : x ∈ pre [] n := by
  refine (rows_perm n (t + 1)).mem_iff.mpr (List.mem_append_left _ (List.mem_append_right _ h))
theorem rows_all {n : Node} (h : ∀ x ∈ pre [] n, x.1.length ≤ 6) : (pre [] n).Perm (rowsN n 7) := by
  have e : lv n 7 = [] := by
    cases q : lv n 7 with
    | nil => rfl
    | cons x l =>
      have hm : x ∈ lv n 7 := by rw [q]; exact List.mem_cons_self ..
      have h1 := lv_len n 7 x hm
      have h2 := h x (lv_mem n 7 x hm)
      omega
  have := rows_perm n 7
  rw [e] at this
  simpa using this
theorem paths_sorted (n : Node) : ((pre [] n).map (·.1)).Pairwise fun a b => HT.lexLt b a = false := by
  rw [List.pairwise_map]
  exact (pre_sorted _ ([], n) (Nat.le_refl _)).imp fun h => lex_asym _ _ h
/-! ### isinstance of a caught error whose class is told by what was wished -/
section
variable {X : Cx}
def rIsX (K : PySem.W.Frag) (cls : Value) (a : Addr) : List V → Hp → VK → Prop := fun xs H Q => ∃ (c : V) (cv : Value) (b : Bool), xs = [.ref a, c] ∧ (∀ u, RelV c u → u = cv) ∧ PySem.W.kitOne K cls cv = some b ∧ Q (.bl b) H
theorem call_isX {a : Addr} {oe : Obj} {cls : Value} {d : Option Addr} {pn : List (Addr × Obj)} (z : ∃ D, cls = .ref D ∧ d = none ∧ ExcC X.K D) (hz : Zc cls d oe) (hf : ∃ vs, oe.data = .fields vs) : CallR (X.suite a ((a, oe) :: pn)) (.builtin "isinstance") (rIsX X.K cls a) := by
  obtain ⟨D, rfl, rfl, C⟩ := z
  exact call_isE C hz hf
end
theorem kit_ref {K : PySem.W.Frag} {D C : Addr} {b : Bool} (h : PySem.W.hasDictIn K C = true) (t : PySem.W.typeIn K (.ref C) = some (.type "type")) (s : PySem.W.subIn K (.ref D) (.ref C) = some b) (r : PySem.W.subIn K (.ref D) (.ref D) = some true) : PySem.W.kitOne K (.ref D) (.ref C) = some b := by
  unfold PySem.W.kitOne
  by_cases e : D = C
  · subst e
    rw [r] at s
    cases s
    simp
  · have e1 : (Value.ref D == Value.ref C) = false := by simp [e]
    rw [e1]
    obtain ⟨cd, hc, _⟩ := PySem.W.any_some h
    have e2 : ((PySem.W.clsIn K C).isSome && PySem.W.typeIn K (.ref C) == some (.type "type")) = true := by rw [hc, t] <;> rfl
    show (if false = true then some true else PySem.W.kitCls K (.ref D) (.ref C)) = some b
    rw [if_neg (by decide)]
    unfold PySem.W.kitCls
    simp only [e2, if_true]
    exact s
theorem rows_head (n : Node) : ∀ t, (rowsN n (t + 1))[0]? = some ([], n)
  | 0 => rfl
  | t + 1 => by
    show (rowsN n (t + 1) ++ lv n (t + 1))[0]? = _
    have h := rows_head n t
    have l := (List.getElem?_eq_some_iff.mp h).1
    rw [List.getElem?_append_left l]
    exact h
theorem rows_len (n : Node) (t : Nat) : (rowsN n t).length ≤ (pre [] n).length := by
  have := (rows_perm n t).length_eq
  rw [List.length_append] at this
  omega
theorem lv_le (n : Node) (t : Nat) : (lv n t).length ≤ (pre [] n).length := by
  have := rows_len n (t + 1)
  have e : (rowsN n (t + 1)).length = (rowsN n t).length + (lv n t).length := by
    show (rowsN n t ++ lv n t).length = _
    rw [List.length_append]
  omega
theorem kids_mem_le {n : Node} {e : PN} (h : e ∈ pre [] n) : e.2.ks.length < (pre [] n).length := by
  obtain ⟨r, _, hf⟩ := pre_find _ ([], n) e (Nat.le_refl _) h
  have h1 := kids_le e
  rw [kids_len] at h1
  have h2 : ∀ (k : Nat) (a x : PN), (preE a).length ≤ k → x ∈ preE a → (preE x).length ≤ (preE a).length := by
    intro k
    induction k with
    | zero =>
      intro a x hl
      rw [preE_eq] at hl
      simp at hl
    | succ k ih =>
      intro a x hl hx
      rw [preE_eq] at hx
      rcases List.mem_cons.mp hx with rfl | hx
      · exact Nat.le_refl _
      · obtain ⟨c, hc, hx⟩ := List.mem_flatMap.mp hx
        have h1 : (preE c).length ≤ ((kidsOf a).flatMap preE).length := by
          rw [List.length_flatMap]
          exact le_sum (List.mem_map.mpr ⟨_, hc, rfl⟩)
        have h3 : (preE a).length = 1 + ((kidsOf a).flatMap preE).length := by rw [preE_eq]; simp; omega
        have := ih c x (by omega) hx
        omega
  have := h2 _ ([], n) e (Nat.le_refl _) h
  have e3 : (preE ([], n)).length = (pre [] n).length := rfl
  omega
/-! ### nodes of bounded height all of whose prices are P -/
def HP (P : List Pr → Prop) : Nat → Node → Prop
  | 0, n => P n.ps ∧ n.ks = []
  | m + 1, n => P n.ps ∧ ∀ k ∈ n.ks, HP P m k
theorem HP.ps {P : List Pr → Prop} : ∀ {m : Nat} {n : Node}, HP P m n → P n.ps
  | 0, _, h => h.1
  | _ + 1, _, h => h.1
theorem HP.up {P Q : List Pr → Prop} (f : ∀ l, P l → Q l) : ∀ {m : Nat} {n : Node}, HP P m n → HP Q (m + 1) n
  | 0, _, h => ⟨f _ h.1, fun k hk => by rw [h.2] at hk; cases hk⟩
  | _ + 1, _, h => ⟨f _ h.1, fun k hk => HP.up f (h.2 k hk)⟩
theorem HP.pre {P : List Pr → Prop} : ∀ {m : Nat} {e : PN}, HP P m e.2 → ∀ x ∈ preE e, P x.2.ps ∧ x.1.length ≤ e.1.length + m
  | 0, e, h, x, hx => by
    have hk : kidsOf e = [] := by
      unfold kidsOf
      rw [h.2]
      rfl
    rw [preE_eq, hk] at hx
    simp at hx
    subst hx
    exact ⟨h.1, by omega⟩
  | m + 1, e, h, x, hx => by
    rw [preE_eq] at hx
    rcases List.mem_cons.mp hx with rfl | hx
    · exact ⟨h.1, by omega⟩
    · obtain ⟨k, hk, hx⟩ := List.mem_flatMap.mp hx
      obtain ⟨i, hi, rfl⟩ := List.mem_mapIdx.mp hk
      have := HP.pre (e := (e.1 ++ [(i : Int)], e.2.ks[i])) (h.2 _ (List.getElem_mem hi)) x hx
      simp only [List.length_append, List.length_singleton] at this
      exact ⟨this.1, by omega⟩
mutual
def nsz : Node → Nat
  | .mk _ ks => 1 + nszs ks
def nszs : List Node → Nat
  | [] => 0
  | k :: r => nsz k + nszs r
end
theorem nsz_eq (n : Node) : nsz n = 1 + nszs n.ks := by
  cases n
  rw [nsz]
  rfl
theorem nszs_app : ∀ a b : List Node, nszs (a ++ b) = nszs a + nszs b
  | [], b => by simp [nszs]
  | x :: a, b => by
    rw [List.cons_append, nszs, nszs, nszs_app a b]
    omega
mutual
theorem pre_nsz (p : List Int) : ∀ n : Node, (pre p n).length = nsz n
  | .mk ps ks => by
    rw [pre, nsz, List.length_cons, pres_nsz p 0 ks]
    omega
theorem pres_nsz (p : List Int) (i : Nat) : ∀ ks : List Node, (pres p i ks).length = nszs ks
  | [] => rfl
  | n :: r => by
    rw [pres, nszs, List.length_append, pre_nsz _ n, pres_nsz p (i + 1) r]
end
theorem nv_hp {g : Int} (h4 : g ≤ 4) : ∀ {m : Nat} {n : Node}, NV g m n → HP (fun l => (∀ p ∈ l, PrK 201 p) ∧ l.length ≤ 3) m n
  | 0, n, h => ⟨⟨h.1.b, by have := h.1.len; omega⟩, h.2⟩
  | m + 1, n, h => ⟨⟨h.1.b, by have := h.1.len; omega⟩, fun k hk => nv_hp h4 (h.2.2.2 k hk)⟩
theorem find_app : ∀ (p q : List Int) (n m : Node), find n p = some m → find n (p ++ q) = find m q
  | [], q, n, m, h => by
    cases h
    rfl
  | i :: p, q, n, m, h => by
    by_cases hi : 0 ≤ i ∧ i < (n.ks.length : Int)
    · obtain ⟨j, rfl⟩ := Int.eq_ofNat_of_zero_le hi.1
      have hk : n.ks[j]? = some n.ks[j] := List.getElem?_eq_getElem (by omega)
      rw [find_cons, hk] at h
      rw [List.cons_append, find_cons, hk]
      exact find_app p q _ m h
    · rw [find_out hi] at h
      cases h
theorem cut_drop (xs : List V) (k : Nat) : cutV xs (some (k : Int)) none = xs.drop k := by
  unfold cutV
  rw [HT.sIx_nat xs.length 0 k, HT.sIx_none]
  by_cases h : k ≤ xs.length
  · rw [Nat.min_eq_left h]
    exact List.take_of_length_le (by rw [List.length_drop]; omega)
  · rw [Nat.min_eq_right (by omega), List.drop_length, List.drop_eq_nil_of_le (by omega)]
    simp
theorem cut_take (xs : List V) (k : Nat) : cutV xs none (some (k : Int)) = xs.take k := by
  unfold cutV
  rw [HT.sIx_nat xs.length xs.length k, HT.sIx_none, List.drop_zero, Nat.sub_zero]
  by_cases h : k ≤ xs.length
  · rw [Nat.min_eq_left h]
  · rw [Nat.min_eq_right (by omega), List.take_length, List.take_of_length_le (by omega)]
theorem cmp_neg {p q : Int × Int} : cmpF p q < 0 ↔ p.1 * q.2 < q.1 * p.2 := by
  unfold cmpF
  constructor
  · intro h
    by_cases c : p.1 * q.2 < q.1 * p.2
    · exact c
    · rw [if_neg c] at h
      split at h <;> omega
  · intro h
    rw [if_pos h]
    decide
theorem bad_iff (p : Pr) : badPr p ↔ p.2.1 < 0 ∨ p.1.1 * p.2.2 < p.2.1 * p.1.2 := by
  unfold badPr
  rw [cmp_neg, cmp_neg]
  simp
end Nl

namespace Nl
open PySem PySem.Spec PyProof.Rows L2
/-! ### zip of three tuples -/
def It3 (K : PySem.W.Frag) (a b c : Addr) : It :=
  ⟨fun i H => ∃ xs ys zs : List V, SqT K H a xs ∧ SqT K H b ys ∧ SqT K H c zs ∧ i < min (min xs.length ys.length) zs.length,
    fun i H v H' => ∃ T x y z, v = .ref T ∧ H T = none ∧ H' = upd H T (.tup [x, y, z]) ∧ (∀ xs, SqT K H a xs → xs[i]? = some x) ∧ (∀ ys, SqT K H b ys → ys[i]? = some y) ∧ ∀ zs, SqT K H c zs → zs[i]? = some z,
    fun i H => ∃ xs ys zs : List V, SqT K H a xs ∧ SqT K H b ys ∧ SqT K H c zs ∧ i = min (min xs.length ys.length) zs.length⟩
theorem neA {x y : Nat} (h : x ≠ y) : @Ne Addr x y := h
theorem nin2 {x y z : Nat} (h1 : x ≠ y) (h2 : x ≠ z) : ¬ ((x : Addr) ∈ ([y, z] : List Addr)) := fun h => by
  rcases List.mem_cons.mp h with e | h
  · exact h1 e
  · exact h2 (List.mem_singleton.mp h)
def fp3 (I : Addr) : List Addr := [I + 5, I + 3, I + 4, I, I + 1, I + 2]
theorem fp3_cases {I d : Nat} (h : d ∈ fp3 I) : d = I + 5 ∨ d = I + 3 ∨ d = I + 4 ∨ d = I ∨ d = I + 1 ∨ d = I + 2 := by simpa [fp3] using h
theorem fp3_lt {I d n : Nat} (h : d ∈ fp3 I) (hn : I + 5 < n) : d < n := by
  rcases fp3_cases h with rfl | rfl | rfl | rfl | rfl | rfl <;> omega
theorem fp3_le {I d : Nat} (h : d ∈ fp3 I) : I ≤ d := by
  rcases fp3_cases h with rfl | rfl | rfl | rfl | rfl | rfl <;> omega
theorem fp3_nin {I d : Nat} (h : ¬ d ∈ fp3 I) : ¬ d ∈ ([I + 5, I + 4, I, I + 1, I + 2] : List Addr) := fun z => h (by
  simp only [fp3, List.mem_cons, List.not_mem_nil, or_false] at z ⊢
  rcases z with z | z | z | z | z
  · exact .inl z
  · exact .inr (.inr (.inl z))
  · exact .inr (.inr (.inr (.inl z)))
  · exact .inr (.inr (.inr (.inr (.inl z))))
  · exact .inr (.inr (.inr (.inr (.inr z)))))
theorem sep3 {I a b c : Nat} (h1 : a < I) (h2 : b < I) (h3 : c < I) : ZipSep3 (I + 5) (I + 3) (I + 4) I (I + 1) (I + 2) [I, a] [I + 1, b] [I + 2, c] := by
  constructor <;> first | exact neA (by omega) | exact nin2 (by omega) (by omega) | exact List.mem_cons_self
structure St3 (I a b c : Addr) (i : Nat) (h : Heap) : Prop where
  z : IsZip h (I + 5) (I + 3) (I + 4) .none
  ti : IsTupOf3 h (I + 3) (.ref I) (.ref (I + 1)) (.ref (I + 2))
  to : ∃ x y u, IsTupOf3 h (I + 4) x y u
  i1 : h.IsTupleIter I a i
  i2 : h.IsTupleIter (I + 1) b i
  i3 : h.IsTupleIter (I + 2) c i
theorem vals_at {xs : List V} {us : List Value} {i : Nat} {u : Value} (r : Vals xs us) (h : us.toArray[i]? = some u) : ∃ x, xs[i]? = some x ∧ RelV x u := by
  have hl := r.length
  have hlt : i < xs.length := by
    rcases Nat.lt_or_ge i xs.length with z | z
    · exact z
    · rw [Array.getElem?_eq_none (by rw [List.size_toArray]; omega)] at h
      cases h
  obtain ⟨u', e, rv⟩ := r.get (List.getElem?_eq_getElem hlt)
  have : us.toArray[i]? = us[i]? := by simp
  rw [this, e] at h
  cases h
  exact ⟨_, List.getElem?_eq_getElem hlt, rv⟩
theorem turn3 {P : Program} {w : World} {K : PySem.W.Frag} {elts : List Expr} {kk : Nat} {tpos : Pos} {I a b c : Addr} (ha : a < I) (hb : b < I) (hc : c < I) :
    Turn P w K (.Tuple elts kk tpos) (It3 K a b c) (fp3 I) (I + 5) (St3 I a b c) where
  mem := by simp [fp3]
  obj := fun i h st d hd => by
    obtain ⟨hz, hti, ⟨x, y, u, hto⟩, ⟨o1, e1, _, d1⟩, ⟨o2, e2, _, d2⟩, ⟨o3, e3, _, d3⟩⟩ := st
    have e' := fp3_cases hd
    rcases e' with rfl | rfl | rfl | rfl | rfl | rfl
    · exact ⟨_, hz, fun v q => nomatch q⟩
    · exact ⟨_, hti, fun v q => nomatch q⟩
    · exact ⟨_, hto, fun v q => nomatch q⟩
    · exact ⟨o1, e1, fun v q => by rw [d1] at q; cases q⟩
    · exact ⟨o2, e2, fun v q => by rw [d2] at q; cases q⟩
    · exact ⟨o3, e3, fun v q => by rw [d3] at q; cases q⟩
  keep := fun i h h' st k => by
    obtain ⟨hz, hti, ⟨x, y, u, hto⟩, h1, h2, h3⟩ := st
    exact ⟨k _ (by simp [fp3]) _ hz, k _ (by simp [fp3]) _ hti, ⟨x, y, u, k _ (by simp [fp3]) _ hto⟩, h1.at fun o q => k _ (by simp [fp3]) o q, h2.at fun o q => k _ (by simp [fp3]) o q, h3.at fun o q => k _ (by simp [fp3]) o q⟩
  item := by
    intro X hP hw hK hcalm i pins s σ H E J hf st hg
    subst hP hw hK
    obtain ⟨xs, ys, zs, qa, qb, qc, hlt⟩ := hg
    obtain ⟨ia, ra, pa, _⟩ := J.tuple qa
    obtain ⟨ib, rb, pb, _⟩ := J.tuple qb
    obtain ⟨ic, rc, pc, _⟩ := J.tuple qc
    have la := ra.length
    have lb := rb.length
    have lc := rc.length
    have hh : X.A.in1.handled = none := J.ok.hd hcalm
    have W := GoesN.zip3 (prog := X.prog) (w := X.w) (A := X.A) (elts := elts) (x1 := kk) (pos := tpos) (sep3 ha hb hc) (Draws.tuple hh I a (Nat.ne_of_lt ha) ia.toArray) (Draws.tuple hh (I + 1) b (Nat.ne_of_lt (Nat.lt_succ_of_lt hb)) ib.toArray) (Draws.tuple hh (I + 2) c (Nat.ne_of_lt (Nat.lt_succ_of_lt (Nat.lt_succ_of_lt hc))) ic.toArray)
    obtain ⟨hz, hti, hto, h1, h2, h3⟩ := st
    have old : ∀ d ∈ fp3 I, d < s.heap.objs.size := fun d hd => fp3_lt hd (Heap.lt_size hz)
    refine W.goes i s _ _ (by simp only [List.size_toArray]; omega) ⟨hz, hti, hto, ⟨h1, pa⟩, ⟨h2, pb⟩, h3, pc⟩ fun v h' tk y st' hk htk => ?_
    obtain ⟨T, x, y, u, rfl, hT, hx, hy, hu, hTup⟩ := y
    obtain ⟨vx, ex, rx⟩ := vals_at ra hx
    obtain ⟨vy, ey, ry⟩ := vals_at rb hy
    obtain ⟨vu, eu, ru⟩ := vals_at rc hu
    obtain ⟨hz', hti', hto', ⟨h1', _⟩, ⟨h2', _⟩, h3', _⟩ := st'
    have new : ObjOk X.prog X.w (upd H T (.tup [vx, vy, vu])) h' T (.tup [vx, vy, vu]) :=
      ⟨by show 3 ≤ sizeLine; decide, [x, y, u], .cons rx (.cons ry (.cons ru .nil)), hTup⟩
    have J1 := J.turnedNew (t' := tk) (ch := fp3 I) (T := T) (fun d o hd q => hk d o (fp3_nin hd) q) hf hT new
    refine ⟨.ref T, _, J1, rfl, ⟨T, vx, vy, vu, rfl, J.hok.fresh hT, rfl, fun l hl => by rw [J.tuple_inj hl qa]; exact ex, fun l hl => by rw [J.tuple_inj hl qb]; exact ey, fun l hl => by rw [J.tuple_inj hl qc]; exact eu⟩, ⟨hz', hti', hto', h1', h2', h3'⟩, fun d hd => ?_⟩
    rw [upd_ne (Nat.ne_of_lt (Nat.lt_of_lt_of_le (old d hd) hT))]
    exact (hf d hd).1
  done := by
    intro X hP hw hK hcalm i pins s σ H E J hf st hg
    subst hP hw hK
    obtain ⟨xs, ys, zs, qa, qb, qc, he⟩ := hg
    obtain ⟨ia, ra, pa, _⟩ := J.tuple qa
    obtain ⟨ib, rb, pb, _⟩ := J.tuple qb
    obtain ⟨ic, rc, pc, _⟩ := J.tuple qc
    have la := ra.length
    have lb := rb.length
    have lc := rc.length
    have hh : X.A.in1.handled = none := J.ok.hd hcalm
    have W := GoesN.zip3 (prog := X.prog) (w := X.w) (A := X.A) (elts := elts) (x1 := kk) (pos := tpos) (sep3 ha hb hc) (Draws.tuple hh I a (Nat.ne_of_lt ha) ia.toArray) (Draws.tuple hh (I + 1) b (Nat.ne_of_lt (Nat.lt_succ_of_lt hb)) ib.toArray) (Draws.tuple hh (I + 2) c (Nat.ne_of_lt (Nat.lt_succ_of_lt (Nat.lt_succ_of_lt hc))) ic.toArray)
    obtain ⟨hz, hti, hto, h1, h2, h3⟩ := st
    have ei : i = min (min ia.toArray.size ib.toArray.size) ic.toArray.size := by simp only [List.size_toArray]; omega
    refine W.stops s _ _ (by rw [← ei]; exact ⟨hz, hti, hto, ⟨h1, pa⟩, ⟨h2, pb⟩, h3, pc⟩) fun h' tk hk htk => ?_
    exact J.turnedL (t' := tk) (ch := fp3 I) (fun d o hd q => hk d o (fp3_nin hd) q) hf
  self := fun A i s Q E st h => wpAny_pyIter_zip st.z h
def iZip3 (K : PySem.W.Frag) (ta : TA) : TI := fun σ H R => ta σ H fun vs H1 => ∃ a b c xs ys zs, vs = [.ref a, .ref b, .ref c] ∧ SqT K H1 a xs ∧ SqT K H1 b ys ∧ SqT K H1 c zs ∧ R (It3 K a b c) H1
theorem pi_zip3 {X : Cx} {e e2 e3 : Expr} {ta : TA} {p pos tpos : Pos} {elts : List Expr} {kk : Nat} (hg : Gl X "zip") (hm : X.mg "zip" = none) (ha : PA X [e, e2, e3] ta)
    (hs : starEach [e, e2, e3] X.env = (false, eval e X.env) :: starEach [e2, e3] X.env := by rfl) (hpl : (backTo pos (starEach [e2, e3] X.env)).any (·.1) = false := by rfl) :
    PI X (.Tuple elts kk tpos) (.Call (.Name "zip" p) [e, e2, e3] [] pos) (iZip3 X.K ta) := by
  refine ⟨fun pins s σ H R I h => ?_⟩
  refine Call_ (ld_blt I hg hm PyProof.Rows.boot_zip (PyProof.Rows.callWith_type1 (thn (ha.run pos pins s σ H _ I h) fun us s1 ⟨vs, H1, J, r1, a, b, c, xs, ys, zs, ex, qa, qb, qc, q⟩ => ?_) hs hpl))
  subst ex
  cases r1 with
  | cons r rr =>
    cases rr with
    | cons r' rr =>
      cases rr with
      | cons r'' rr =>
        cases rr
        cases r
        cases r'
        cases r''
        obtain ⟨ia, ra, pa, _⟩ := J.tuple qa
        obtain ⟨ib, rb, pb, _⟩ := J.tuple qb
        obtain ⟨ic, rc, pc, _⟩ := J.tuple qc
        obtain ⟨o1, ho1, _⟩ := id pa
        obtain ⟨o2, ho2, _⟩ := id pb
        obtain ⟨o3, ho3, _⟩ := id pc
        refine zip_begins3 (begins_tuple a ia.toArray) (begins_tuple b ib.toArray) (begins_tuple c ic.toArray) pa pb pc fun h' hz hti hto g1 g2 g3 hsz hk => wpAny_pyIter_zip hz ?_
        have J2 : Inv X pins σ H1 { s1 with heap := h' } := J.kept (t' := s1.toks) hk
        refine ⟨s1.heap.objs.size + 5, fp3 s1.heap.objs.size, _, _, H1, rfl, J2, turn3 (Heap.lt_size ho1) (Heap.lt_size ho2) (Heap.lt_size ho3), ⟨hz, hti, ⟨_, _, _, hto⟩, ⟨_, g1, rfl, rfl⟩, ⟨_, g2, rfl, rfl⟩, ⟨_, g3, rfl, rfl⟩⟩, fun d hd => ?_, q⟩
        have hle : s1.heap.objs.size ≤ d := fp3_le hd
        exact J.fpOk hle (J.hok.fresh hle)
theorem for_zip3 {K : PySem.W.Frag} {a b c : Addr} {xs ys zs : List V} {g : TG} {tb : TS} {D : Ends} {σ : L2.St} {H : Hp} (l1 : ys.length = xs.length) (l2 : zs.length = xs.length) (Pv : Nat → L2.St → Hp → Prop) (h0 : Pv 0 σ H) (hq : ∀ i σ H, Pv i σ H → SqT K H a xs ∧ SqT K H b ys ∧ SqT K H c zs)
    (hs : ∀ (i : Nat) (x y z : V) (T : Addr) (σ : L2.St) (H : Hp), xs[i]? = some x → ys[i]? = some y → zs[i]? = some z → Pv i σ H → H T = none → g (.ref T) σ (upd H T (.tup [x, y, z])) fun σ2 H2 => tb { D with nx := Pv (i + 1), ct := Pv (i + 1), bk := D.nx } σ2 H2)
    (hd : ∀ σ H, Pv xs.length σ H → D.nx σ H) :
    ∃ W : Nat → Nat → L2.St → Hp → Prop, (∃ m, W 0 m σ H) ∧ ∀ i m σ H, W i m σ H →
      ((It3 K a b c).stop i H ∧ D.nx σ H) ∨ ((It3 K a b c).go i H ∧ ∃ N : L2.St → Hp → Prop, (∀ σ' H', N σ' H' → ∃ m', m' < m ∧ W (i + 1) m' σ' H') ∧ ∀ v H', (It3 K a b c).yld i H v H' → g v σ H' fun σ2 H2 => tb { D with nx := N, ct := N, bk := D.nx } σ2 H2) := by
  refine ⟨fun i m σ H => m + i = xs.length ∧ Pv i σ H, ⟨xs.length, rfl, h0⟩, ?_⟩
  rintro i m σ H ⟨em, p⟩
  obtain ⟨qa, qb, qc⟩ := hq i σ H p
  by_cases hlt : i < xs.length
  · refine .inr ⟨⟨xs, ys, zs, qa, qb, qc, by omega⟩, Pv (i + 1), fun σ' H' p' => ⟨m - 1, by omega, by omega, p'⟩, ?_⟩
    rintro v H' ⟨T, x, y, z, rfl, hT, rfl, f1, f2, f3⟩
    exact hs i x y z T σ H (f1 xs qa) (f2 ys qb) (f3 zs qc) p hT
  · have e : i = xs.length := by omega
    subst e
    exact .inl ⟨⟨xs, ys, zs, qa, qb, qc, by omega⟩, hd σ H p⟩
end Nl

namespace Nl
open PySem PySem.Spec PyProof.Rows L2
/-! ### dicts whose keys are tuples, by a comprehension without tests -/
theorem put_tup {X : Cx} {pins : List (Addr × Obj)} {τ : L2.St} {H : Hp} {t : Shared} {F : Value → Shared → Prop} {D b : Addr} {kvs : List (List Key × V)} {k : List Key} {v : V} {r : Value} {R : Unit → Shared → Prop} (hu : X.A.units < cLine) (I : Inv X pins τ H t)
    (hD : H D = some (.dT kvs)) (hb : H b = some (.tup (k.map kV))) (hl : kvs.length < sizeLine) (rv : RelV v r) (fin : ∀ t', Inv X pins τ (upd H D (.dT (putK kvs k v))) t' → R () t') : wpAny (model X.prog X.w) X.A (dictSet D (.ref b) r) R F t := by
  obtain ⟨big, sys, xs, rel, dd⟩ := dt_of I.hok hD
  have hxs : xs.length ≤ sizeLine := by rw [← Paired.length rel]; exact big
  have grown := length_putK kvs k v
  refine wpAny_dictSet_heap (hsz := hxs) hu (key_of I.hok hb) dd (fun h' dd' sb => fin _ ?_)
  obtain ⟨q, es, ep, hq, a2, a3, a4, _, a5⟩ := dd'
  have kept : KT (upd H D (.dT (putK kvs k v))) (putK kvs k v) _ := (rel.put k hb rv).keeps fun c ys ec => by
    rw [upd_ne (ne_of ec hD (fun z => nomatch z))]
    exact ec
  exact d_write I (by rw [hD]; exact True.intro) sb ⟨q, hq⟩ ⟨by omega, sys, _, kept, q, es, ep, hq, a2, a3, a4, a5⟩
/-- {k: v for target in iter}: D the new dict -/
def tDcT (wi : TI) (g : TG) (tk tv : TE) (vs : List Nat) : TE := fun σ H Q => wi σ H fun J H1 => ∀ D, H1 D = none → ∃ W : Nat → Nat → Hp → Prop, (∃ m, W 0 m (upd H1 D (.dT []))) ∧ ∀ i m H, W i m H →
  (J.stop i H ∧ Q (.ref D) H) ∨ (J.go i H ∧ ∃ Nx : Hp → Prop, (∀ H', Nx H' → ∃ m', m' < m ∧ W (i + 1) m' H') ∧ ∀ x H', J.yld i H x H' → g x (wipe σ vs) H' fun σ2 H2 => wipe σ2 vs = wipe σ vs ∧
    tk σ2 H2 fun y H4 => tv σ2 H4 fun z H5 => ∃ kvs k b, y = .ref b ∧ H5 D = some (.dT kvs) ∧ H5 b = some (.tup (k.map kV)) ∧ kvs.length < sizeLine ∧ Nx (upd H5 D (.dT (putK kvs k z))))
theorem dcT_core {X : Cx} {pins : List (Addr × Obj)} {t0 : Shared} {τ : L2.St} {G : Hp} {Q : VK} {kx vx tg iter : Expr} {scope : Scope} {own : List (Str × Nat)} {pos pos' : Pos} {wi : TI} {g : TG} {tk tv : TE} {use : Option (Value → Sem Unit)} {Qf : Value → Shared → Prop}
    (calm : X.calm = true) (hu : X.A.units < cLine) (nd : X.N.Nodup) (I : Inv X pins τ G t0) (src : PI X tg iter wi) (ok : BlkOk X.N X.env.scope scope own)
    (ptg : ∀ (s : Shared) (H : Hp) (C : Addr) (cl : List (Str × Addr)) (fp : List Addr), PG (X.blk s H scope (compEnvC scope cl C X.env) fp) tg g)
    (pkey : ∀ (s : Shared) (H : Hp) (C : Addr) (cl : List (Str × Addr)) (fp : List Addr), PE (X.blk s H scope (compEnvC scope cl C X.env) fp) kx tk)
    (pval : ∀ (s : Shared) (H : Hp) (C : Addr) (cl : List (Str × Addr)) (fp : List Addr), PE (X.blk s H scope (compEnvC scope cl C X.env) fp) vx tv) (fold : ∀ x, foldedSetIterable iter X.env x = pure x)
    (goal : tDcT wi g tk tv (own.map (·.2)) τ G Q)
    (post : ∀ D C s' m H', Inv X pins τ H' s' → Q (.ref D) H' → s'.heap.Ns C m → FpOk X pins H' C → compPost (model X.prog X.w) X.A X.xe use Qf (.ref D) C (.ok .next) s') :
    wpAny (model X.prog X.w) X.A (comprehension (.DictComp kx vx [⟨tg, iter, [], 0⟩] scope pos) scope X.env pos' newDict false (eval iter X.env) use) Qf X.xe t0 := by
  have clos : ∀ y ∈ scope.names, y.2 = .free → ∃ c, X.env.cells.lookup y.1 = some c := fun y hy e => (ok.free y hy e).elim (fun k => I.ok.has _ (.inl k)) fun k => I.ok.has _ (.inr k)
  refine wpAny_comprehension_free (use := use) rfl fold (closure_ok clos) ok.kind (fun y hy e => by rw [ok.uniq y hy, e]) (thn (src.run pins t0 τ G _ I goal) fun itv t1 h1 => thn h1 fun itw t2 h2 => ?_)
  obtain ⟨it, fp, tn, J, G2, rfl, I2, turn, st2, f2, q⟩ := h2
  refine wpAny_newObj_type (newEnv_comp ?_)
  generalize eD : t2.heap.objs.size = D
  have newD : G2 D = none := I2.hok.fresh (Nat.le_of_eq eD)
  obtain ⟨W, ⟨m0, w0⟩, steps⟩ := q D newD
  generalize e3 : ({ t2 with heap := t2.heap.push { cls := .type "dict", data := .dict #[] } } : Shared) = t3
  have h3 : t3.heap = t2.heap.push { cls := .type "dict", data := .dict #[] } := by rw [← e3]
  have I3 : Inv X pins τ (upd G2 D (.dT [])) t3 := by
    subst e3 eD
    exact I2.laid (t' := t2.toks) (fun b o e => Heap.get?_push_of_some _ e) (Nat.le_refl _) (dt_empty t2.heap I2.big)
  have below : ∀ b ∈ fp, b < t2.heap.objs.size := fun b hb => (turn.obj _ _ st2 b hb).elim fun o e => Heap.lt_size e.1
  have f3 : ∀ b ∈ fp, FpOk X pins (upd G2 D (.dT [])) b ∧ b < t3.heap.objs.size := fun b hb => by
    refine ⟨⟨?_, (f2 b hb).2⟩, ?_⟩
    · rw [upd_ne (by rw [← eD]; exact Nat.ne_of_lt (below b hb))]
      exact (f2 b hb).1
    · rw [h3, Heap.size_push]
      exact Nat.lt_succ_of_lt (below b hb)
  have st3 : tn 0 t3.heap := turn.keep _ _ _ st2 fun b _ o e => by rw [h3]; exact Heap.get?_push_of_some _ e
  have I4 := block_start I3 ok nd f3
  have pt := ptg t3 (upd G2 D (.dT [])) t3.heap.objs.size (cellsFrom (t3.heap.objs.size + 1) scope.names (cloFrom X.env.cells scope.names [])) fp
  have pk := pkey t3 (upd G2 D (.dT [])) t3.heap.objs.size (cellsFrom (t3.heap.objs.size + 1) scope.names (cloFrom X.env.cells scope.names [])) fp
  have pv' := pval t3 (upd G2 D (.dT [])) t3.heap.objs.size (cellsFrom (t3.heap.objs.size + 1) scope.names (cloFrom X.env.cells scope.names [])) fp
  show codeAny _ _ (.compStart (.DictComp kx vx [⟨tg, iter, [], 0⟩] scope pos) 0 (.ref it) (.ref D) (compEnvC scope (cellsFrom (t3.heap.objs.size + 1) scope.names (cloFrom X.env.cells scope.names [])) t3.heap.objs.size X.env)) (compPost (model X.prog X.w) X.A X.xe use Qf (.ref D) t3.heap.objs.size) { t3 with heap := pushCells (t3.heap.push { cls := .type "dict", data := .dict #[] }) scope.names }
  have none3 : ∀ b ∈ fp, (upd G2 D (.dT [])) b = none := fun b hb => (f3 b hb).1.1
  generalize eC : compEnvC scope (cellsFrom (t3.heap.objs.size + 1) scope.names (cloFrom X.env.cells scope.names [])) t3.heap.objs.size X.env = ce at I4 pt pk pv' ⊢
  have loc : ce.locals = t3.heap.objs.size := by subst eC; rfl
  generalize eG : upd G2 D (.dT []) = G3 at I3 I4 pt pk pv' w0 none3 f3
  generalize e4 : ({ t3 with heap := pushCells (t3.heap.push { cls := .type "dict", data := .dict #[] }) scope.names } : Shared) = t4 at I4 ⊢
  have st4 : tn 0 t4.heap := turn.keep _ _ _ st3 fun b _ o e => by rw [← e4]; exact pushCells_keeps _ _ _ _ (Heap.get?_push_of_some _ e)
  have live : ∀ {τ' : L2.St} {H' : Hp} {s' : Shared}, Inv (X.blk t3 G3 scope ce fp) [] τ' H' s' → (∀ b ∈ fp, H' b = none) → ∀ b ∈ fp, FpOk (X.blk t3 G3 scope ce fp) [] H' b := fun {τ' H' s'} K' n b hb => by
    refine ⟨n b hb, (K'.ok.exf b hb).1, K'.ok.exfs b hb, .inl hb, fun x c e => (K'.ok.exf b hb).2 x c e, ?_⟩
    intro p hp
    exact absurd (show p ∈ ([] : List (Addr × Obj)) ++ [] from hp) (by simp)
  have loop : codeAny (model X.prog X.w) X.A (.compLoop (.DictComp kx vx [⟨tg, iter, [], 0⟩] scope pos) 0 (.ref it) (.ref D) ce) (compPost (model X.prog X.w) X.A X.xe use Qf (.ref D) t3.heap.objs.size) t4 := by
    refine compLoop_anyD (fun n s' => ∃ i H', Inv (X.blk t3 G3 scope ce fp) [] (wipe τ (own.map (·.2))) H' s' ∧ tn i s'.heap ∧ (∀ b ∈ fp, H' b = none) ∧ W i n H') ?_ m0 ⟨0, G3, I4, st4, none3, w0⟩
    rintro n s5 ⟨i, H5, I5, st5, n5, w5⟩
    rcases steps i n H5 w5 with ⟨stop, qq⟩ | ⟨go, Nx, hNx, step⟩
    · refine thnF (turn.done (X.blk t3 G3 scope ce fp) rfl rfl rfl calm i [] s5 _ H5 (fun _ _ => False) I5 (live I5 n5) st5 stop) fun r s6 ⟨er, I6⟩ => ?_
      subst er
      have back : Inv X pins τ H5 s6 := I3.call' (ch := fp) I6.os I6.base I6.hok I6.bare fun b hb => ⟨(f3 b hb).1.2.2.2.1, (f3 b hb).1.2.1, (f3 b hb).1.2.2.2.2.1, (f3 b hb).1.2.2.2.2.2⟩
      have nC : H5 t3.heap.objs.size = none := by rw [← loc]; exact I6.free
      obtain ⟨m, hn, _⟩ := I6.loc
      refine post D t3.heap.objs.size s6 m H5 back qq ?_ (I3.fpOk (Nat.le_refl _) nC)
      rw [← loc]
      exact hn
    · refine thnF (turn.item (X.blk t3 G3 scope ce fp) rfl rfl rfl calm i [] s5 _ H5 (fun _ _ => False) I5 (live I5 n5) st5 go) fun r s6 ⟨u, er, h6⟩ => ?_
      subst er
      refine thnF h6 fun _ s7 ⟨x, H7, I7, r7, y7, st7, n7⟩ => ?_
      have I7p := I7.pinned (live I7 n7) (turn.obj _ _ st7)
      refine thnF (pt.run _ s7 _ H7 x u _ I7p r7 (step x H7 y7)) fun _ s8 ⟨τ8, H8, I8, hw8, q8⟩ => ?_
      have fin : ∀ {s' : Shared} {H' : Hp}, Inv (X.blk t3 G3 scope ce fp) ([] ++ pinsAt fp s7.heap) τ8 H' s' → Nx H' → ∃ m, m < n ∧ ∃ i H', Inv (X.blk t3 G3 scope ce fp) [] (wipe τ (own.map (·.2))) H' s' ∧ tn i s'.heap ∧ (∀ b ∈ fp, H' b = none) ∧ W i m H' := fun {s' H'} I' nx => by
        obtain ⟨m', hm, w'⟩ := hNx H' nx
        have pin : ∀ b ∈ fp, ∀ o, s7.heap.get? b = some o → s'.heap.get? b = some o ∧ H' b = none := fun b hb o e => by
          have z := I'.pin (b, o) (List.mem_append_right _ (List.mem_append_right _ (mem_pinsAt hb e)))
          exact ⟨z.1, z.2.1⟩
        refine ⟨m', hm, i + 1, H', (I'.unpinned (pins := [])).weak (by rw [← hw8, wipe_length]) (fun j v e => ?_), turn.keep _ _ _ st7 fun b hb o e => (pin b hb o e).1, fun b hb => ?_, w'⟩
        · rw [← hw8] at e
          exact (wipe_some e).1
        · exact (turn.obj _ _ st7 b hb).elim fun o e => (pin b hb o e.1).2
      refine wpAny_pure ?_
      simp only [if_true]
      refine thnF (pk.run _ s8 τ8 H8 _ I8 q8) fun kv s10 ⟨yk, H10, I10, r10, q10⟩ => ?_
      refine thnF (pv'.run _ s10 τ8 H10 _ I10 q10) fun vv s11 ⟨yv, H11, I11, r11, kvs, k, b, ek, hD11, hb11, hz11, nx⟩ => ?_
      subst ek
      cases (show kv = Value.ref b from r10)
      exact put_tup (X := X.blk t3 G3 scope ce fp) hu I11 hD11 hb11 hz11 r11 fun s12 I12 => fin I12 nx
  exact codeAny_compStart_dict loop (turn.self X.A 0 _ _ _ st4 loop)
theorem pe_dcT {X : Cx} {kx vx tg iter : Expr} {scope : Scope} {own : List (Str × Nat)} {pos : Pos} {wi : TI} {g : TG} {tk tv : TE} (calm : X.calm = true) (hu : X.A.units < cLine) (nd : X.N.Nodup) (src : PI X tg iter wi) (ok : BlkOk X.N X.env.scope scope own)
    (ptg : ∀ (s : Shared) (H : Hp) (C : Addr) (cl : List (Str × Addr)) (fp : List Addr), PG (X.blk s H scope (compEnvC scope cl C X.env) fp) tg g)
    (pkey : ∀ (s : Shared) (H : Hp) (C : Addr) (cl : List (Str × Addr)) (fp : List Addr), PE (X.blk s H scope (compEnvC scope cl C X.env) fp) kx tk)
    (pval : ∀ (s : Shared) (H : Hp) (C : Addr) (cl : List (Str × Addr)) (fp : List Addr), PE (X.blk s H scope (compEnvC scope cl C X.env) fp) vx tv) (fold : ∀ x, foldedSetIterable iter X.env x = pure x := by intro _; rfl) :
    PE X (.DictComp kx vx [⟨tg, iter, [], 0⟩] scope pos) (tDcT wi g tk tv (own.map (·.2))) := by
  refine ⟨fun pins s τ H Q I goal => ?_⟩
  rw [arm_eval_DictComp]
  refine dcT_core calm hu nd I src ok ptg pkey pval fold goal fun D C s' m H' J q hn f => ⟨m, hn, fun h'' sb => ?_⟩
  obtain ⟨f0, f1, f2, f3, f4, f5⟩ := f
  exact ⟨.ref D, H', J.turned (t' := s'.toks) (fun b o hb e => (sb.2 b hb).trans e) f0 f1 f3 f4 f5, rfl, q⟩
/-- name = {..} on one line, the name a local -/
theorem ps_setDcT {X : Cx} {i : Nat} {y : Str} {py : Pos} {kx vx tg iter : Expr} {scope : Scope} {own : List (Str × Nat)} {pos spos : Pos} {wi : TI} {g : TG} {tk tv : TE} (calm : X.calm = true) (hu : X.A.units < cLine) (nd : X.N.Nodup) (at_ : X.N[i]? = some y) (kind : X.env.scope.names.lookup y = some .local)
    (sw : swapsWith (.DictComp kx vx [⟨tg, iter, [], 0⟩] scope pos) (some (.Name y py)) spos.line X.env = pure true) (src : PI X tg iter wi) (ok : BlkOk X.N X.env.scope scope own)
    (ptg : ∀ (s : Shared) (H : Hp) (C : Addr) (cl : List (Str × Addr)) (fp : List Addr), PG (X.blk s H scope (compEnvC scope cl C X.env) fp) tg g)
    (pkey : ∀ (s : Shared) (H : Hp) (C : Addr) (cl : List (Str × Addr)) (fp : List Addr), PE (X.blk s H scope (compEnvC scope cl C X.env) fp) kx tk)
    (pval : ∀ (s : Shared) (H : Hp) (C : Addr) (cl : List (Str × Addr)) (fp : List Addr), PE (X.blk s H scope (compEnvC scope cl C X.env) fp) vx tv) (fold : ∀ x, foldedSetIterable iter X.env x = pure x := by intro _; rfl) :
    PS X (.Assign [.Name y py] (.DictComp kx vx [⟨tg, iter, [], 0⟩] scope pos) spos) (tAsg (tDcT wi g tk tv (own.map (·.2))) (gName i)) := by
  refine ⟨fun pins s τ H D I goal => ?_⟩
  rw [exec_Assign_Name_used _ _ _ _ sw]
  refine wpAny_bind (wpAny_standAt (wpAny_bind ?_))
  show wpAny _ X.A (do let _ ← comprehension (.DictComp kx vx [⟨tg, iter, [], 0⟩] scope pos) scope X.env (firstIterPos [⟨tg, iter, [], 0⟩] pos) newDict false (eval iter X.env) (some (assign (.Name y py) X.env))) _ _ s
  have goal : tDcT wi g tk tv (own.map (·.2)) τ H (fun x H1 => gName i x τ H1 D.nx) := goal
  refine wpAny_bind (thn (dcT_core (Qf := fun _ s' => SP X pins D .next s') calm hu nd I src ok ptg pkey pval fold goal fun L C s' m H' J q hn f => ?_) fun _ s' hq => wpAny_pure (wpAny_pure hq))
  show wpAny _ _ (assign (.Name y py) X.env (.ref L)) _ _ _
  refine wpAny_assign_Name (store_ok2 (v := V.ref L) J nd at_ (.inl kind) rfl (fun s2 J2 ⟨a, sb, ha⟩ => ?_) (.inr kind))
  obtain ⟨f0, f1, f2, f3, f4, f5⟩ := f
  have apart : C ≠ a := by
    rcases ha with z | z
    · rw [z]
      exact f1
    · exact fun e => f4 y a z e.symm
  refine ⟨m, hn.sameBut sb apart, fun h3 sb3 => ?_⟩
  exact ⟨_, H', J2.turned (t' := s2.toks) (fun b o hb e => (sb3.2 b hb).trans e) f0 f1 f3 f4 f5, q⟩
theorem sw_dict {kx vx : Expr} {gs : List Comprehension} {scope : Scope} {pos py : Pos} {y : Str} {l : Nat} {env : Env} (kind : env.scope.kind = .function) (loc : env.scope.names.lookup y = some .local) (line : (py.line == pos.line) = true)
    (other : (scope.names.any fun (n, k) => n == y && (k == .local || k == .cell)) = false) : swapsWith (.DictComp kx vx gs scope pos) (some (.Name y py)) l env = pure true := by
  have k1 : env.kindOf y = some .local := loc
  have k2 : env.blockKind = .function := by
    unfold Env.blockKind
    rw [kind]
    rfl
  unfold swapsWith
  simp only [k2, k1, other, Expr.pos, line]
  rfl
end Nl

namespace Nl
open PySem PySem.Spec PyProof.Rows L2
def Sh (k : Nat) (d : PyData) : Prop := d.canLay0 = true ∧ d.depth ≤ k
theorem Sh.shaped {k : Nat} {d : PyData} (h : Sh k d) (hk : k ≤ 64 := by decide) : SeqAt.shaped d = true := by
  unfold SeqAt.shaped
  rw [h.1, decide_eq_true (Nat.le_trans h.2 hk)]
  rfl
theorem Sh.int {i : Int} {k : Nat} : Sh k (.int i) := ⟨rfl, Nat.zero_le _⟩
theorem Sh.non {k : Nat} : Sh k .none := ⟨rfl, Nat.zero_le _⟩
theorem sh_all {k : Nat} : ∀ {ds : List PyData}, (∀ d ∈ ds, Sh k d) → PyData.canLayAll0 ds = true ∧ PyData.depthAll ds ≤ k
  | [], _ => ⟨rfl, Nat.zero_le _⟩
  | d :: ds, h => by
    have h1 := h d (by simp)
    have h2 := sh_all (ds := ds) fun x hx => h x (List.mem_cons_of_mem _ hx)
    refine ⟨?_, ?_⟩
    · rw [PyData.canLayAll0, h1.1, h2.1]
      rfl
    · rw [PyData.depthAll]
      exact Nat.max_le.mpr ⟨h1.2, h2.2⟩
theorem Sh.tup {k : Nat} {ds : List PyData} (h : ∀ d ∈ ds, Sh k d) : Sh (k + 1) (.tuple ds) := by
  obtain ⟨h1, h2⟩ := sh_all h
  refine ⟨?_, ?_⟩
  · rw [PyData.canLay0]
    exact h1
  · rw [PyData.depth]
    omega
theorem Sh.ne {k : Nat} {d : PyData} (h : Sh k d) : (!PyData.eqv d d) = false := by
  rw [SeqAt.eqv_refl d h.1]
  rfl
theorem Sh.eq {k : Nat} {d : PyData} (h : Sh k d) : PyData.eqv d d = true := SeqAt.eqv_refl d h.1
theorem sh_path (p : List Int) : Sh 1 (pathD p) := Sh.tup (k := 0) fun d hd => by
  obtain ⟨i, _, rfl⟩ := List.mem_map.mp hd
  exact .int
theorem sh_fr (q : Int × Int) : Sh 1 (frD q) := Sh.tup (k := 0) fun d hd => by
  rcases List.mem_cons.mp hd with rfl | hd
  · exact .int
  · rw [List.mem_singleton.mp hd]
    exact .int
theorem sh_pr (p : Pr) : Sh 2 (prD p) := Sh.tup (k := 1) fun d hd => by
  rcases List.mem_cons.mp hd with rfl | hd
  · exact sh_fr _
  · rw [List.mem_singleton.mp hd]
    exact sh_fr _
theorem sh_paths {α : Type} (l : List α) (f : α → List Int) : Sh 2 (.tuple (l.map fun e => pathD (f e))) := Sh.tup (k := 1) fun d hd => by
  obtain ⟨e, _, rfl⟩ := List.mem_map.mp hd
  exact sh_path _
/-! ### nodes all of whose ends have one time -/
def UD : Nat → Node → Prop
  | 0, n => n.ks = []
  | m + 1, n => n.ks ≠ [] ∧ ∀ k ∈ n.ks, UD m k
theorem ud_ends : ∀ (m : Nat) (e : PN), UD m e.2 → ∀ x ∈ preE e, x.2.ks = [] → x.1.length = e.1.length + m
  | 0, e, h, x, hx, _ => by
    have hk : kidsOf e = [] := by
      unfold kidsOf
      rw [show e.2.ks = [] from h]
      rfl
    rw [preE_eq, hk] at hx
    simp at hx
    subst hx
    rfl
  | m + 1, e, h, x, hx, hz => by
    rw [preE_eq] at hx
    rcases List.mem_cons.mp hx with rfl | hx
    · exact (h.1 hz).elim
    · obtain ⟨k, hk, hx⟩ := List.mem_flatMap.mp hx
      obtain ⟨i, hi, rfl⟩ := List.mem_mapIdx.mp hk
      have := ud_ends m (e.1 ++ [(i : Int)], e.2.ks[i]) (h.2 _ (List.getElem_mem hi)) x hx hz
      simp only [List.length_append, List.length_singleton] at this
      omega
theorem ud_lens {m : Nat} {n : Node} (h : UD m n) : ∀ a ∈ endLens n, a = m := by
  intro x hx
  obtain ⟨e, he, rfl⟩ := List.mem_map.mp hx
  obtain ⟨he1, he2⟩ := List.mem_filter.mp he
  have := ud_ends m ([], n) h e he1 (List.isEmpty_iff.mp he2)
  simpa using this
/-- nodes without goods -/
theorem bare_ok {m : Nat} {n : Node} (h : HP (fun l => l = []) m n) (u : UD m n) : ¬ BadM 1 n := by
  rintro (z | ⟨e, he, z⟩ | ⟨x, hx, y, hy, z⟩)
  · exact z (by decide)
  · have := (HP.pre (e := ([], n)) h e he).1
    rw [this] at z
    rcases z with z | ⟨p, hp, _⟩
    · simp at z
    · cases hp
  · exact z ((ud_lens u x hx).trans (ud_lens u y hy).symm)
theorem bare_small {m : Nat} {n : Node} (u : UD m n) (hs : nsz n ≤ 40) (hm : m ≤ 5) : ¬ BigM n := by
  rintro (z | ⟨x, hx, z⟩)
  · rw [pre_nsz] at z
    omega
  · have := ud_lens u x hx
    omega
theorem bare_b {m : Nat} {n : Node} (h : HP (fun l => l = []) m n) : NodeB n := fun e he p hp => by
  have := (HP.pre (e := ([], n)) h e he).1
  rw [this] at hp
  cases hp
theorem big_count {n : Node} (h : 40 < nsz n) : BigM n := .inl (by rw [pre_nsz]; exact h)
theorem big_time {m : Nat} {n : Node} (u : UD m n) (h : 5 < m) : BigM n := by
  have hp := ends_pos n
  refine .inr ⟨(endLens n)[0], List.getElem_mem hp, ?_⟩
  rw [ud_lens u _ (List.getElem_mem hp)]
  exact h
def rowN : Nat → Node
  | 0 => .mk [] []
  | k + 1 => .mk [] [rowN k]
theorem row_hp : ∀ k, HP (fun l => l = []) k (rowN k)
  | 0 => ⟨rfl, rfl⟩
  | k + 1 => ⟨rfl, fun x hx => by rw [List.mem_singleton.mp hx]; exact row_hp k⟩
theorem row_ud : ∀ k, UD k (rowN k)
  | 0 => rfl
  | k + 1 => ⟨(by intro h; cases h), fun x hx => (by rw [List.mem_singleton.mp hx]; exact row_ud k)⟩
theorem row_sz : ∀ k, nsz (rowN k) = k + 1
  | 0 => rfl
  | k + 1 => by
    rw [rowN, nsz, nszs, nszs, row_sz k]
    omega
def wideN (k : Nat) : Node := .mk [] (List.replicate k (rowN 0))
theorem wide_hp (k : Nat) : HP (fun l => l = []) 1 (wideN k) := ⟨rfl, fun x hx => by rw [(List.mem_replicate.mp hx).2]; exact row_hp 0⟩
theorem wide_ud {k : Nat} (h : 0 < k) : UD 1 (wideN k) := ⟨fun z => by
  have : (List.replicate k (rowN 0)).length = 0 := by rw [show List.replicate k (rowN 0) = [] from z]; rfl
  rw [List.length_replicate] at this
  omega, fun x hx => by rw [(List.mem_replicate.mp hx).2]; exact row_ud 0⟩
theorem wide_sz (k : Nat) : nsz (wideN k) = k + 1 := by
  have : ∀ k, nszs (List.replicate k (rowN 0)) = k := by
    intro k
    induction k with
    | zero => rfl
    | succ k ih => rw [List.replicate_succ, nszs, ih]; show 1 + k = k + 1; omega
  rw [wideN, nsz, this]
  omega
theorem find_neg (n : Node) : find n [-1] = none := find_out fun z => by omega
theorem find_end {n m : Node} {p : List Int} (h : find n p = some m) : find n (p ++ [(m.ks.length : Int)]) = none := by
  rw [find_app p _ n m h]
  exact find_out fun z => by omega
end Nl

namespace Nl
open PySem PySem.Spec PyProof.Rows L2
/-! ### sorted(t), t a tuple of ints -/
def rSortTI (K : PySem.W.Frag) : List V → Hp → VK → Prop := fun vs H Q => ∃ (a : Addr) (ns : List Int), vs = [V.ref a] ∧ SqT K H a (ns.map V.int) ∧ ∀ (ns' : List Int) (p : Addr) (H' : Hp), Same H H' → ns'.Perm ns → ns'.Pairwise (· ≤ ·) → H' p = some (.lst (ns'.map V.int)) → Q (.ref p) H'
theorem cr_sortTI {X : Cx} : CallR X (.builtin "sorted") (rSortTI X.K) := by
  intro pins s τ H vs us Q I r h
  obtain ⟨a, ns, rfl, hs, q⟩ := h
  obtain ⟨its, rv, pt, hz⟩ := I.tuple hs
  rw [Vals.ref1 r]
  have hi := rv.ints
  have hl : its.length ≤ sizeLine := by rw [← rv.length]; exact hz
  obtain ⟨o, ho, hc, n, hd⟩ := id pt
  refine Calls.call_function_entry kind_sorted plain_sorted entry_sorted (args_sorted1 _) ?_
  unfold Builtin.«sorted»
  refine wpAny_bind (m := checkCount "sorted" 1 1 _) (wpAny_pure ?_)
  refine wpAny_bind (wpAny_collect_seq a (.inr rfl) ho hc hd (fun h' hk => ?_) (by rw [List.size_toArray]; exact hl))
  have el : its.toArray.toList = its := by simp
  rw [el]
  refine wpAny_bind (wpAny_newList ?_ hl)
  have I1 : Inv X pins τ H { s with heap := h' } := I.kept (t' := s.toks) hk
  have fresh : H h'.objs.size = none := I1.hok.fresh (Nat.le_refl _)
  have hob : (h'.push (seqObj "list" its.toArray 0)).get? h'.objs.size = some (seqObj "list" its.toArray 0) := Heap.get?_push_size _ rfl
  show wpAny _ _ _ _ _ { s with heap := h'.push (seqObj "list" its.toArray 0) }
  have I2 : Inv X pins τ (upd H h'.objs.size (.lst (ns.map V.int))) { s with heap := h'.push (seqObj "list" its.toArray 0) } :=
    I1.laid (t' := s.toks) (fun _ _ e => Heap.get?_push_of_some _ e) (Nat.le_refl _) ⟨hz, its, 0, rv, hob⟩
  refine wpAny_bind (wpAny_holding (wpAny_call_entry slot_list_sort ⟨_, hob, rfl⟩ entry_list_sort (SrtO.list_sort_ord SrtO.swo_int hob hl (fun h2 => SrtO.ints_sortable hi h2) fun out h1 h2 => ⟨_, rfl, ?_⟩) (args_list_sort _)))
  obtain ⟨k1, k2, k3⟩ := SrtO.ints_out hi h1 h2
  obtain ⟨ep, he'⟩ := PyProof.Rows.sortedHeap_at (vs := its) (out := out.toArray) hob
  have hlen : ((out.map SrtO.iv).map V.int).length ≤ sizeLine := by
    rw [List.length_map, k2.length_eq]
    rw [List.length_map] at hz
    exact hz
  have I3 : Inv X pins τ (upd (upd H h'.objs.size (.lst (ns.map V.int))) h'.objs.size (.lst ((out.map SrtO.iv).map V.int))) _ :=
    I2.write (e := h'.objs.size) (t' := s.toks) (by rw [upd_same]; trivial) (.inl rfl) (fun b u hb hu => by rw [PyProof.Rows.sortedHeap_old hb (Heap.lt_size hu)]; exact hu) ⟨_, he'⟩ ⟨hlen, out, ep, vals_of_ints k1, he'⟩
  exact wpAny_pure ⟨_, rfl, .ref _, _, I3, rfl, q _ _ _ (same_mut (same_new fresh) fresh) k2 k3 upd_same⟩
end Nl

namespace Nl
open PySem PySem.Spec PyProof.Rows L2
/-! ### keys -/
def keyP (p : List Int) : List Key := p.map Sum.inl
theorem keyP_v (p : List Int) : (keyP p).map kV = p.map V.int := by
  unfold keyP
  rw [List.map_map]
  rfl
theorem keyP_inj {p q : List Int} (h : keyP p = keyP q) : p = q := by
  induction p generalizing q with
  | nil =>
    cases q with
    | nil => rfl
    | cons y ys => cases h
  | cons x xs ih =>
    cases q with
    | nil => cases h
    | cons y ys =>
      have h : (Sum.inl x :: keyP xs : List Key) = Sum.inl y :: keyP ys := h
      injection h with h1 h2
      cases h1
      rw [ih h2]
theorem tp_key {H : Hp} {a : Addr} {p : List Int} (h : Tp H a (p.map V.int)) : H a = some (.tup ((keyP p).map kV)) := by
  rw [keyP_v]
  exact h
/-- the dict at a tells of each path what f tells -/
def DictP (H : Hp) (a : Addr) (m : Nat) (f : List Int → Option V) : Prop := ∃ kvs, H a = some (.dT kvs) ∧ kvs.length ≤ m ∧ ∀ p, valV kvs (keyP p) = f p
theorem DictP.get {H : Hp} {a b : Addr} {m : Nat} {f : List Int → Option V} {p : List Int} (h : DictP H a m f) (hb : Tp H b (p.map V.int)) : DGet H a (.ref b) (f p) := by
  obtain ⟨kvs, e, _, g⟩ := h
  rw [← g p]
  exact DGet.t e (tp_key hb)
theorem DictP.same {H H' : Hp} {a : Addr} {m : Nat} {f : List Int → Option V} (h : DictP H a m f) (s : Same H H') : DictP H' a m f := by
  obtain ⟨kvs, e, g⟩ := h
  exact ⟨kvs, s _ _ e, g⟩
theorem DictP.nil {H : Hp} {a : Addr} (h : H a = some (.dT [])) : DictP H a 0 fun _ => none := ⟨[], h, Nat.le_refl _, fun _ => rfl⟩
theorem DictP.put {H : Hp} {D b : Addr} {m : Nat} {f : List Int → Option V} {p : List Int} {v : V} (h : DictP H D m f) (hl : m < 1000) (hb : Tp H b (p.map V.int)) :
    ∃ kvs k c, V.ref b = .ref c ∧ H D = some (.dT kvs) ∧ H c = some (.tup (k.map kV)) ∧ kvs.length < sizeLine ∧ DictP (upd H D (.dT (putK kvs k v))) D (m + 1) fun q => if q = p then some v else f q := by
  obtain ⟨kvs, e, l, g⟩ := h
  refine ⟨kvs, keyP p, b, rfl, e, tp_key hb, Nat.lt_of_le_of_lt l (Nat.lt_of_lt_of_le hl (by decide)), _, upd_same, ?_, fun q => ?_⟩
  · have := length_putK kvs (keyP p) v
    omega
  · rw [valV_put, g q]
    show _ = if q = p then some v else f q
    by_cases eq : q = p
    · rw [if_pos eq, if_pos (by rw [eq])]
    · rw [if_neg eq, if_neg (fun z => eq (keyP_inj z))]
/-! ### a dict comprehension over a list, over a tuple -/
section
variable {K : PySem.W.Frag} {a D : Addr} {xs : List V} {g : TG} {tk tv : TE} {vs : List Nat} {τ : L2.St} {H1 : Hp} {R : Hp → Prop}
def dcTurn (J : It) (D : Addr) (g : TG) (tk tv : TE) (vs : List Nat) (τ : L2.St) (R : Hp → Prop) (W : Nat → Nat → Hp → Prop) : Prop := ∀ i m H, W i m H →
  (J.stop i H ∧ R H) ∨ (J.go i H ∧ ∃ Nx : Hp → Prop, (∀ H', Nx H' → ∃ m', m' < m ∧ W (i + 1) m' H') ∧ ∀ x H', J.yld i H x H' → g x (wipe τ vs) H' fun σ2 H2 => wipe σ2 vs = wipe τ vs ∧
    tk σ2 H2 fun y H4 => tv σ2 H4 fun z H5 => ∃ kvs k b, y = .ref b ∧ H5 D = some (.dT kvs) ∧ H5 b = some (.tup (k.map kV)) ∧ kvs.length < sizeLine ∧ Nx (upd H5 D (.dT (putK kvs k z))))
theorem dcT_list (Pv : Nat → Hp → Prop) (h0 : Pv 0 (upd H1 D (.dT []))) (hl : ∀ i H, Pv i H → SqL K H a xs)
    (hs : ∀ i x H, xs[i]? = some x → Pv i H → g x (wipe τ vs) H fun σ2 H2 => wipe σ2 vs = wipe τ vs ∧
      tk σ2 H2 fun y H4 => tv σ2 H4 fun z H5 => ∃ kvs k b, y = .ref b ∧ H5 D = some (.dT kvs) ∧ H5 b = some (.tup (k.map kV)) ∧ kvs.length < sizeLine ∧ Pv (i + 1) (upd H5 D (.dT (putK kvs k z))))
    (hd : ∀ H, Pv xs.length H → R H) : ∃ W : Nat → Nat → Hp → Prop, (∃ m, W 0 m (upd H1 D (.dT []))) ∧ dcTurn (Itl K a) D g tk tv vs τ R W := by
  refine ⟨fun i m H => m + i = xs.length ∧ Pv i H, ⟨xs.length, rfl, h0⟩, fun i m H ⟨em, p⟩ => ?_⟩
  by_cases hlt : i < xs.length
  · exact .inr ⟨⟨xs, xs[i], hl i H p, List.getElem?_eq_getElem hlt⟩, Pv (i + 1), fun H' p' => ⟨m - 1, by omega, by omega, p'⟩, fun x H' ⟨e, y⟩ => by
      subst e
      exact hs i x _ (y xs (hl i _ p)) p⟩
  · have e : i = xs.length := by omega
    subst e
    exact .inl ⟨⟨xs, hl _ H p, Nat.le_refl _⟩, hd H p⟩
theorem dcT_tup (Pv : Nat → Hp → Prop) (h0 : Pv 0 (upd H1 D (.dT []))) (hl : ∀ i H, Pv i H → SqT K H a xs)
    (hs : ∀ i x H, xs[i]? = some x → Pv i H → g x (wipe τ vs) H fun σ2 H2 => wipe σ2 vs = wipe τ vs ∧
      tk σ2 H2 fun y H4 => tv σ2 H4 fun z H5 => ∃ kvs k b, y = .ref b ∧ H5 D = some (.dT kvs) ∧ H5 b = some (.tup (k.map kV)) ∧ kvs.length < sizeLine ∧ Pv (i + 1) (upd H5 D (.dT (putK kvs k z))))
    (hd : ∀ H, Pv xs.length H → R H) : ∃ W : Nat → Nat → Hp → Prop, (∃ m, W 0 m (upd H1 D (.dT []))) ∧ dcTurn (Itt K a) D g tk tv vs τ R W := by
  refine ⟨fun i m H => m + i = xs.length ∧ Pv i H, ⟨xs.length, rfl, h0⟩, fun i m H ⟨em, p⟩ => ?_⟩
  by_cases hlt : i < xs.length
  · exact .inr ⟨⟨xs, xs[i], hl i H p, List.getElem?_eq_getElem hlt⟩, Pv (i + 1), fun H' p' => ⟨m - 1, by omega, by omega, p'⟩, fun x H' ⟨e, y⟩ => by
      subst e
      exact hs i x _ (y xs (hl i _ p)) p⟩
  · have e : i = xs.length := by omega
    subst e
    exact .inl ⟨⟨xs, hl _ H p, Nat.le_refl _⟩, hd H p⟩
end
/-! ### order of paths -/
theorem lexAt_le (a b : List Int) : ∀ (xs ys : List Int) (i : Nat), i = a.length → a.length = b.length →
    Ob.lexAt (fun j => decide ((a ++ xs).getD j 0 = (b ++ ys).getD j 0)) (fun j => decide ((a ++ xs).getD j 0 ≤ (b ++ ys).getD j 0)) (decide ((a ++ xs).length ≤ (b ++ ys).length)) i (min xs.length ys.length) = !HT.lexLt ys xs := by
  intro xs
  induction xs generalizing a b with
  | nil =>
    intro ys i hi hab
    have hm : min ([] : List Int).length ys.length = 0 := by simp
    rw [hm, Ob.lexAt_zero]
    cases ys with
    | nil => simp [HT.lexLt, hab]
    | cons y ys => simp [HT.lexLt, hab]
  | cons x xs ih =>
    intro ys i hi hab
    cases ys with
    | nil =>
      have hm : min (x :: xs).length ([] : List Int).length = 0 := by simp
      rw [hm, Ob.lexAt_zero]
      simp [HT.lexLt, hab]
    | cons y ys =>
      have hm : min (x :: xs).length (y :: ys).length = min xs.length ys.length + 1 := by simp
      have e1 : (a ++ x :: xs).getD i 0 = x := by subst hi; simp
      have e2 : (b ++ y :: ys).getD i 0 = y := by rw [hi, hab]; simp
      rw [hm, Ob.lexAt_succ, e1, e2, HT.lexLt_cons]
      by_cases e : x = y
      · have h := ih (a ++ [x]) (b ++ [y]) ys (i + 1) (by simp [hi]) (by simp [hab])
        simp only [List.append_assoc, List.singleton_append] at h
        rw [if_pos (decide_eq_true e), if_pos e.symm]
        exact h
      · rw [if_neg (by simpa using e), if_neg (fun z => e z.symm)]
        by_cases l : x ≤ y
        · rw [decide_eq_true l, decide_eq_false (by omega)]
          rfl
        · rw [decide_eq_false l, decide_eq_true (by omega)]
          rfl
def rLeP (K : PySem.W.Frag) : R2 := fun x y H Q => ∃ (a b : Addr) (p q : List Int), x = .ref a ∧ y = .ref b ∧ SqT K H a (p.map V.int) ∧ SqT K H b (q.map V.int) ∧ Q (.bl (!HT.lexLt q p)) H
theorem op_leP {X : Cx} (hu : X.A.units < cLine) : OpR X (compareOp .LtE) (rLeP X.K) := OpR.imp (op_leT hu) fun x y H Q ⟨a, b, p, q, ex, ey, ha, hb, h⟩ => ⟨a, b, p, q, ex, ey, ha, hb, by
  have := lexAt_le [] [] p q 0 rfl rfl
  simp only [List.nil_append] at this
  rw [this]
  exact h⟩
/-! ### plans -/
abbrev Q2 := Int × Int
def fracsD (l : List Q2) : PyData := .tuple (l.map frD)
abbrev PE2 := List Int × List Q2
def pentD (e : PE2) : PyData := .tuple [pathD e.1, fracsD e.2]
def planD (l : List PE2) : PyData := .tuple (l.map pentD)
/-- the j-th pair of a plan is as it must be -/
def okAt (n : Node) (g : Int) (l : List PE2) (j : Nat) : Prop := ∀ e, l[j]? = some e →
  (∃ x ∈ pre [] n, x.1 = e.1) ∧ (∀ i f, j = i + 1 → l[i]? = some f → HT.lexLt f.1 e.1 = true) ∧ (e.2.length : Int) = g - 1
def PlanOk (n : Node) (g : Int) (l : List PE2) : Prop := ∀ j, okAt n g l j
def pick (a : Q2) (p : Pr) : Q2 := if 0 < a.1 then p.1 else p.2
def moneyF (m : Q2) (l : List (Q2 × Pr)) : Q2 := l.foldl (fun m x => subF m (mulF x.1 (pick x.1 x.2))) m
def tradeF (h : List Q2) (ps : List Pr) (am : List Q2) : List Q2 := moneyF (h.headD (0, 1)) (am.zip ps) :: List.zipWith addF h.tail am
theorem cmp_pos (a : Q2) : 0 < cmpF a (0, 1) ↔ 0 < a.1 := by
  unfold cmpF
  simp only [Int.mul_one, Int.zero_mul]
  by_cases h : a.1 < 0
  · rw [if_pos h]
    omega
  · rw [if_neg h]
    by_cases h' : 0 < a.1
    · rw [if_pos h']
      omega
    · rw [if_neg h']
      omega
theorem pick_ok {a : Q2} {p : Pr} {k : Nat} (h : PrK k p) : Ok k (pick a p) := by
  unfold pick
  split
  · exact h.1
  · exact h.2
theorem moneyF_ok {k : Nat} : ∀ (l : List (Q2 × Pr)) (m : Q2), Ok k m → (∀ x ∈ l, Ok 10 x.1 ∧ PrK 201 x.2) → Ok (k + 212 * l.length) (moneyF m l)
  | [], m, h, _ => h
  | x :: l, m, h, hl => by
    have h0 := hl x (by simp)
    have h1 := subF_ok h (mulF_ok h0.1 (pick_ok h0.2 (a := x.1)) (Nat.le_refl _)) (n := k + 212) (by omega)
    have := moneyF_ok (k := k + 212) l _ h1 fun y hy => hl y (List.mem_cons_of_mem _ hy)
    refine Ok.mono (show Ok (k + 212 + 212 * l.length) (moneyF m (x :: l)) from this) ?_
    simp only [List.length_cons]
    omega
theorem moneyF_snoc (m : Q2) (l : List (Q2 × Pr)) (x : Q2 × Pr) : moneyF m (l ++ [x]) = subF (moneyF m l) (mulF x.1 (pick x.1 x.2)) := by
  unfold moneyF
  rw [List.foldl_append]
  rfl
theorem tradeF_ok {k : Nat} {h : List Q2} {ps : List Pr} {am : List Q2} (hh : ∀ x ∈ h, Ok k x) (h0 : 0 < h.length) (hp : ∀ p ∈ ps, PrK 201 p) (ha : ∀ a ∈ am, Ok 10 a) (hl : am.length ≤ 3) : ∀ x ∈ tradeF h ps am, Ok (k + 636) x := by
  intro x hx
  rcases List.mem_cons.mp hx with rfl | hx
  · have hd : Ok k (h.headD (0, 1)) := by
      cases h with
      | nil => simp at h0
      | cons a r => exact hh a (by simp)
    have := moneyF_ok (am.zip ps) _ hd fun y hy => ⟨ha _ (List.of_mem_zip hy).1, hp _ (List.of_mem_zip hy).2⟩
    refine this.mono ?_
    have : (am.zip ps).length ≤ am.length := by simp; omega
    omega
  · obtain ⟨i, hi, rfl⟩ := List.mem_iff_getElem.mp hx
    rw [List.getElem_zipWith]
    refine addF_ok (hh _ (List.mem_of_mem_tail (List.getElem_mem _))) (ha _ (List.getElem_mem _)) (by omega)
theorem tradeF_len {h : List Q2} {ps : List Pr} {am : List Q2} (hl : h.length = am.length + 1) : (tradeF h ps am).length = am.length + 1 := by
  unfold tradeF
  simp
  omega
/-! ### what is held at an end -/
def psAt (n : Node) (p : List Int) : List Pr := ((find n p).map Node.ps).getD []
def look (l : List PE2) (p : List Int) : Option (List Q2) := (l.find? fun e => decide (e.1 = p)).map (·.2)
def stepT (n : Node) (l : List PE2) (e : List Int) (h : List Q2) (t : Nat) : List Q2 := match look l (e.take t) with
  | some am => tradeF h (psAt n (e.take t)) am
  | none => h
def heldF (n : Node) (l : List PE2) (e : List Int) (h : List Q2) : Nat → List Q2
  | 0 => h
  | t + 1 => stepT n l e (heldF n l e h t) t
def stepL (n : Node) (e : List Int) (h : List Q2) (x : PE2) : List Q2 := if e.take x.1.length = x.1 then tradeF h (psAt n x.1) x.2 else h
theorem lex_take (e : List Int) : ∀ (a b : Nat), HT.lexLt (e.take a) (e.take b) = true → a < b := by
  induction e with
  | nil => intro a b h; simp [HT.lexLt] at h
  | cons x e ih =>
    intro a b h
    cases a with
    | zero =>
      cases b with
      | zero => simp [HT.lexLt] at h
      | succ b => omega
    | succ a =>
      cases b with
      | zero => simp [HT.lexLt] at h
      | succ b =>
        rw [List.take_succ_cons, List.take_succ_cons, HT.lexLt_cons, if_pos rfl] at h
        have := ih a b h
        omega
theorem filt_step {α : Type} (f : α → Nat) (T : Nat) : ∀ L : List α, (L.Pairwise fun a b => f a < f b) → L.filter (fun x => decide (f x < T + 1)) = L.filter (fun x => decide (f x < T)) ++ L.filter (fun x => decide (f x = T))
  | [], _ => rfl
  | x :: L, h => by
    obtain ⟨h1, h2⟩ := List.pairwise_cons.mp h
    have ih := filt_step f T L h2
    rcases Nat.lt_trichotomy (f x) T with c | c | c
    · rw [List.filter_cons_of_pos (by simpa using by omega), List.filter_cons_of_pos (by simpa using c), List.filter_cons_of_neg (by simpa using by omega), ih]
      rfl
    · have e1 : L.filter (fun x => decide (f x < T + 1)) = [] := List.filter_eq_nil_iff.mpr fun y hy => by have := h1 y hy; simp; omega
      have e2 : L.filter (fun x => decide (f x < T)) = [] := List.filter_eq_nil_iff.mpr fun y hy => by have := h1 y hy; simp; omega
      have e3 : L.filter (fun x => decide (f x = T)) = [] := List.filter_eq_nil_iff.mpr fun y hy => by have := h1 y hy; simp; omega
      rw [List.filter_cons_of_pos (by simpa using by omega), List.filter_cons_of_neg (by simpa using by omega), List.filter_cons_of_pos (by simpa using c), e1, e2, e3]
      rfl
    · rw [List.filter_cons_of_neg (by simpa using by omega), List.filter_cons_of_neg (by simpa using by omega), List.filter_cons_of_neg (by simpa using by omega), ih]
theorem lex_irr : ∀ p : List Int, HT.lexLt p p = false
  | [] => rfl
  | x :: p => by
    rw [HT.lexLt_cons, if_pos rfl]
    exact lex_irr p
def Sorted (l : List PE2) : Prop := l.Pairwise fun a b => HT.lexLt a.1 b.1 = true
theorem look_filter (p : List Int) : ∀ l : List PE2, Sorted l → l.filter (fun x => decide (x.1 = p)) = ((look l p).map fun am => (p, am)).toList
  | [], _ => rfl
  | x :: l, h => by
    obtain ⟨h1, h2⟩ := List.pairwise_cons.mp h
    by_cases e : x.1 = p
    · have e2 : l.filter (fun x => decide (x.1 = p)) = [] := List.filter_eq_nil_iff.mpr fun y hy => by
        have z := h1 y hy
        intro c
        rw [of_decide_eq_true c, e, lex_irr] at z
        cases z
      have e3 : look (x :: l) p = some x.2 := by simp [look, List.find?_cons, e]
      rw [List.filter_cons_of_pos (by simpa using e), e2, e3]
      cases x
      cases e
      rfl
    · have e3 : look (x :: l) p = look l p := by simp [look, List.find?_cons, e]
      rw [List.filter_cons_of_neg (by simpa using e), e3, look_filter p l h2]
theorem foldl_if {α β : Type} (g : β → α → β) (c : α → Prop) [DecidablePred c] : ∀ (l : List α) (b : β), l.foldl (fun b x => if c x then g b x else b) b = (l.filter fun x => decide (c x)).foldl g b
  | [], _ => rfl
  | x :: l, b => by
    by_cases h : c x
    · rw [List.filter_cons_of_pos (by simpa using h), List.foldl_cons, List.foldl_cons, if_pos h]
      exact foldl_if g c l _
    · rw [List.filter_cons_of_neg (by simpa using h), List.foldl_cons, if_neg h]
      exact foldl_if g c l _
theorem held_eq {n : Node} {l : List PE2} {e : List Int} {h : List Q2} (hs : Sorted l) : heldF n l e h (e.length + 1) = l.foldl (stepL n e) h := by
  have e1 : l.foldl (stepL n e) h = (l.filter fun x => decide (e.take x.1.length = x.1)).foldl (fun h x => tradeF h (psAt n x.1) x.2) h := foldl_if _ _ l h
  rw [e1]
  have hL : (l.filter fun x => decide (e.take x.1.length = x.1)).Pairwise fun a b => a.1.length < b.1.length := by
    refine List.Pairwise.imp_of_mem ?_ (List.Pairwise.filter _ hs)
    intro a b ha hb hab
    have ea : e.take a.1.length = a.1 := of_decide_eq_true (List.mem_filter.mp ha).2
    have eb : e.take b.1.length = b.1 := of_decide_eq_true (List.mem_filter.mp hb).2
    refine lex_take e _ _ ?_
    rw [ea, eb]
    exact hab
  have key : ∀ T, T ≤ e.length + 1 → heldF n l e h T = ((l.filter fun x => decide (e.take x.1.length = x.1)).filter fun x => decide (x.1.length < T)).foldl (fun h x => tradeF h (psAt n x.1) x.2) h := by
    intro T
    induction T with
    | zero =>
      intro _
      rw [List.filter_eq_nil_iff.mpr (fun y _ => by simp)]
      rfl
    | succ T ih =>
      intro hT
      have hlen : (e.take T).length = T := by rw [List.length_take]; omega
      have e2 : (l.filter fun x => decide (e.take x.1.length = x.1)).filter (fun x => decide (x.1.length = T)) = l.filter fun x => decide (x.1 = e.take T) := by
        rw [List.filter_filter]
        refine List.filter_congr fun x _ => ?_
        rw [← Bool.decide_and]
        refine decide_eq_decide.mpr ⟨fun ⟨a, b⟩ => ?_, fun a => ?_⟩
        · rw [← a, b]
        · rw [a, hlen]
          exact ⟨rfl, rfl⟩
      rw [filt_step (fun x : PE2 => x.1.length) T _ hL, e2, look_filter _ _ hs, List.foldl_append, ← ih (by omega)]
      show stepT n l e (heldF n l e h T) T = _
      unfold stepT
      cases look l (e.take T) <;> rfl
  rw [key _ (Nat.le_refl _), List.filter_eq_self.mpr]
  intro x hx
  have ex : e.take x.1.length = x.1 := of_decide_eq_true (List.mem_filter.mp hx).2
  have := congrArg List.length ex
  rw [List.length_take] at this
  exact decide_eq_true (by omega)
theorem heldF_ok {n : Node} {l : List PE2} {e : List Int} {h : List Q2} {k g : Nat} (hh : ∀ x ∈ h, Ok k x) (hg : h.length = g) (g1 : 1 ≤ g) (g4 : g ≤ 4) (hp : ∀ x ∈ pre [] n, ∀ p ∈ x.2.ps, PrK 201 p) (ha : ∀ x ∈ l, x.2.length + 1 = g ∧ ∀ a ∈ x.2, Ok 10 a) :
    ∀ T, (∀ x ∈ heldF n l e h T, Ok (k + 636 * T) x) ∧ (heldF n l e h T).length = g
  | 0 => ⟨hh, hg⟩
  | T + 1 => by
    obtain ⟨i1, i2⟩ := heldF_ok (e := e) hh hg g1 g4 hp ha T
    show (∀ x ∈ stepT n l e (heldF n l e h T) T, _) ∧ (stepT n l e (heldF n l e h T) T).length = g
    unfold stepT
    cases hl : look l (e.take T) with
    | none => exact ⟨fun x hx => (i1 x hx).mono (by omega), i2⟩
    | some am =>
      obtain ⟨x, hx, rfl⟩ := Option.map_eq_some_iff.mp hl
      have hm := ha x (List.mem_of_find?_eq_some hx)
      have hps : ∀ p ∈ psAt n (e.take T), PrK 201 p := by
        intro p hpp
        unfold psAt at hpp
        cases hf : find n (e.take T) with
        | none => rw [hf] at hpp; simp at hpp
        | some m =>
          rw [hf] at hpp
          obtain ⟨y, hy, rfl⟩ := find_pre n _ _ hf
          exact hp y hy p hpp
      refine ⟨fun y hy => (tradeF_ok i1 (by omega) hps hm.2 (by omega) y hy).mono (by omega), ?_⟩
      show (tradeF (heldF n l e h T) (psAt n (e.take T)) x.2).length = g
      rw [tradeF_len (by omega)]
      omega
theorem eqv_path (p q : List Int) : PyData.eqv (pathD p) (pathD q) = decide (p = q) := by
  have all : ∀ p q : List Int, PyData.eqvAll (p.map PyData.int) (q.map PyData.int) = decide (p = q) := by
    intro p
    induction p with
    | nil =>
      intro q
      cases q with
      | nil => simp [PyData.eqvAll]
      | cons y q => simp [PyData.eqvAll]
    | cons x p ih =>
      intro q
      cases q with
      | nil => simp [PyData.eqvAll]
      | cons y q =>
        rw [List.map_cons, List.map_cons, PyData.eqvAll, PyData.eqv, ih q]
        by_cases e : x = y
        · simp [e]
        · simp [e]
  unfold pathD
  rw [PyData.eqv, all]
theorem lex_trans : ∀ a b c : List Int, HT.lexLt a b = true → HT.lexLt b c = true → HT.lexLt a c = true
  | a, [], c, h, _ => by cases a <;> simp [HT.lexLt] at h
  | [], y :: b, [], _, g => by simp [HT.lexLt] at g
  | [], y :: b, z :: c, _, _ => rfl
  | x :: a, y :: b, [], _, g => by simp [HT.lexLt] at g
  | x :: a, y :: b, z :: c, h, g => by
    rw [HT.lexLt_cons] at h g ⊢
    by_cases e1 : x = y
    · rw [if_pos e1] at h
      subst e1
      by_cases e2 : x = z
      · rw [if_pos e2] at g ⊢
        exact lex_trans a b c h g
      · rw [if_neg e2] at g ⊢
        exact g
    · rw [if_neg e1] at h
      have l1 : x < y := of_decide_eq_true h
      by_cases e2 : y = z
      · subst e2
        rw [if_neg e1]
        exact h
      · rw [if_neg e2] at g
        have l2 : y < z := of_decide_eq_true g
        rw [if_neg (by omega)]
        exact decide_eq_true (by omega)
theorem PlanOk.sorted {n : Node} {g : Int} {l : List PE2} (h : PlanOk n g l) : Sorted l := by
  have key : ∀ d i (h1 : i + d + 1 < l.length), HT.lexLt l[i].1 l[i + d + 1].1 = true := by
    intro d
    induction d with
    | zero =>
      intro i h1
      exact (h (i + 1) _ (List.getElem?_eq_getElem h1)).2.1 i _ rfl (List.getElem?_eq_getElem (by omega))
    | succ d ih =>
      intro i h1
      have h2 := ih i (by omega)
      have h3 := (h (i + d + 1 + 1) _ (List.getElem?_eq_getElem (by omega))).2.1 (i + d + 1) _ rfl (List.getElem?_eq_getElem (by omega))
      exact lex_trans _ _ _ h2 h3
  refine List.pairwise_iff_getElem.mpr fun i j hi hj hij => ?_
  have := key (j - i - 1) i (by omega)
  have e : i + (j - i - 1) + 1 = j := by omega
  simp only [e] at this
  exact this
end Nl

namespace Nl
open PySem PySem.Spec PyProof.Rows L2 LamX NdefX
/-! ### a function that is handed on: its captured cell stands still while the call runs -/
theorem mod_up {K : PySem.W.Frag} {mg : Str → Option Value} {h h' : Heap} (m : Mod K mg h) (k : ∀ b o, h.get? b = some o → h'.get? b = some o) : Mod K mg h' :=
  ⟨m.kin.keeps k, m.glob.keeps k, let ⟨mb, n, e⟩ := m.blt; ⟨mb, n.keeps k, e⟩, m.nolimit.keeps k⟩
section
variable {X : Cx} {pins : List (Addr × Obj)} {τ : L2.St} {H : Hp} {s : Shared} {x : Str} {c : Addr} {u : Option Value}
theorem cell_noframe (I : Inv X pins τ H s) (hfn : X.fn x = true) (hc : X.env.cells.lookup x = some c) : c ∉ frs X.stack := fun hm => by
  rcases List.mem_cons.mp (I.stkSub c hm) with e | hb
  · exact I.cne x c hc e
  · obtain ⟨_, o, ho, _⟩ := I.ok.funs.mem hb
    exact absurd (Nat.lt_of_lt_of_le (Heap.lt_size ho) (I.ok.cab x c hfn hc)) (Nat.lt_irrefl _)
theorem env0_cell (I : Inv X pins τ H s) (hfn : X.fn x = true) (hc : X.env.cells.lookup x = some c) (hu : s.heap.IsCell c u) :
    ∃ B : Heap, (∀ b o, X.base.get? b = some o → B.get? b = some o) ∧ B.IsCell c u ∧ Env0 X.prog X.w X.K X.mg B X.A X.stack s H := by
  obtain ⟨l, hl⟩ : ∃ l : List Addr, l = (List.range s.heap.objs.size).filter fun b => !((X.base.get? b).isSome || decide (b = c)) := ⟨_, rfl⟩
  have out : ∀ b, ((X.base.get? b).isSome || decide (b = c)) = true → b ∉ l := fun b hb hm => by
    rw [hl] at hm
    have z := (List.mem_filter.mp hm).2
    rw [hb] at z
    cases z
  have keep : ∀ b o, X.base.get? b = some o → (PySem.W.hideAll s.heap l).get? b = some o := fun b o e => PySem.W.hideAll_get l (I.bk b o e) (out b (by rw [e]; rfl))
  obtain ⟨oc, hoc, hd⟩ := id hu
  have inn : ∀ b o, (PySem.W.hideAll s.heap l).get? b = some o → s.heap.get? b = some o ∧ ((X.base.get? b).isSome = true ∨ b = c) := fun b o e => by
    have z := PySem.W.of_hideAll l e
    refine ⟨z, ?_⟩
    cases q : (X.base.get? b).isSome with
    | true => exact .inl rfl
    | false =>
      refine .inr (Decidable.byContradiction fun ne => ?_)
      rw [PySem.W.hideAll_none l (by
        rw [hl]
        exact List.mem_filter.mpr ⟨List.mem_range.mpr (Heap.lt_size z), by rw [q, decide_eq_false ne]; rfl⟩)] at e
      cases e
  refine ⟨PySem.W.hideAll s.heap l, keep, ⟨oc, PySem.W.hideAll_get l hoc (out c (by simp)), hd⟩, ?_⟩
  have e0 := I.env0
  refine ⟨e0.frames, mod_up e0.mod keep, fun b o e => ?_, Nat.le_of_eq (PySem.W.hideAll_size l s.heap), funFrames_none e0.funs fun L hL => ?_, e0.frf, e0.hok, e0.bare⟩
  · obtain ⟨h1, h2 | h2⟩ := inn b o e
    · obtain ⟨o', ho'⟩ := Option.isSome_iff_exists.mp h2
      exact ⟨h1, (I.bs b o' ho').2⟩
    · subst h2
      exact ⟨h1, I.freeC x _ hc⟩
  · cases e : (PySem.W.hideAll s.heap l).get? L with
    | none => rfl
    | some o =>
      obtain ⟨_, h2 | h2⟩ := inn L o e
      · rw [(e0.funs.mem hL).1] at h2
        cases h2
      · subst h2
        exact (cell_noframe I hfn hc hL).elim
end
/-- the promise of a function value, its captured cells being what they are -/
structure HeldF (P : Program) (w : World) (K : PySem.W.Frag) (mg : Str → Option Value) (base : Heap) (k : Nat) (F : NF) (n : Nat) (sp : Sp) : Prop where
  len : ∀ vs H Q E, sp vs H Q E → vs.length = n
  run : ∀ (f : Addr) (A : Around) (outer : List Env) (s : Shared) (H : Hp) (us : List Value) (vs : List V) (Q : VK) (E : XK), Room k A → Env0 P w K mg base A outer s H → H f = some (FnO f F) → H F.c = some (CodeO F.c F.qual) → Vals vs us → sp vs H Q E →
    codeAny (model P w) A (.call (.ref f) ⟨us, []⟩) (CR CX0 outer P w H s Q E) s
/-- .. of a nested def with one captured name, whose cell stands in the ground -/
theorem held_of {P : Program} {w : World} {K : PySem.W.Frag} {mg : Str → Option Value} {base : Heap} {k : Nat} {F : NF} {ps : List Str} {y : Str} {c : Addr} {v : V} {u : Value} {sp : List (Option V) → Sp} (N : ∀ f, NOk P w K mg base CX0 k f F ps [y] sp) (hy : F.cl.lookup y = some c) (one : ∀ z d, F.cl.lookup z = some d → z = y)
    (hc : base.IsCell c (some u)) (rv : RelV v u) : HeldF P w K mg base k F ps.length (sp [some v]) where
  len := fun vs H Q E h => (N 0).len [some v] vs H Q E h
  run := fun f A outer s H us vs Q E hr e0 hf hco rr h => by
    obtain ⟨o, ho, hd⟩ := hc
    obtain ⟨h1, h2⟩ := e0.bs c o ho
    refine (N f).run A outer s H us vs [some v] Q E hr e0 hf hco ⟨rfl, fun z d e => ?_, fun z z' d e e' => ?_, fun i z e => ?_⟩ rr h
    · obtain rfl := one z d e
      rw [hy] at e
      cases e
      exact ⟨h2, _, o, h1, hd⟩
    · rw [one z d e, one z' d e']
    · cases i with
      | succ i => simp at e
      | zero =>
        have e : some y = some z := e
        cases e
        refine ⟨c, hy, fun v' e' => ?_⟩
        have e' : some (some v) = some (some v') := e'
        cases e'
        exact ⟨u, rv, o, h1, hd⟩
/-- f(..), f a name that holds such a function -/
def tCallH (i : Nat) (F : NF) (sp : Sp) (t : TA) : TE := fun σ H Q => ∃ f, σ[i]? = some (some (.ref f)) ∧ H f = some (FnO f F) ∧ t σ H fun vs H1 => H1 f = some (FnO f F) ∧ H1 F.c = some (CodeO F.c F.qual) ∧ sp vs H1 Q E0
theorem pe_callH {X : Cx} {k j i n : Nat} {F : NF} {sp : Sp} {x : Str} {e : Expr} {es : List Expr} {t : TA} {p pos : Pos} (Hd : HeldF X.prog X.w X.K X.mg X.base k F n sp) (hr : Room j X.A) (hk : k ≤ j) (at_ : X.N[i]? = some x) (vis : Vis X.env.scope x) (ha : PA X (e :: es) t)
    (d1 : (x == ("__debug__" : Str)) = false := by decide) (d2 : (x == ("__classdict__" : Str)) = false := by decide)
    (he : starEach (e :: es) X.env = (false, eval e X.env) :: starEach es X.env := by rfl) (hpl : (backTo pos (starEach es X.env)).any (·.1) = false := by rfl) : PE X (.Call (.Name x p) (e :: es) [] pos) (tCallH i F sp t) := by
  refine ⟨fun pins s τ H Q I h => ?_⟩
  obtain ⟨f, hs, hf, ht⟩ := h
  refine wpAny_Call_Name_kw (thn ((pe_var (pos := p) at_ vis d1 d2).run pins s τ H (fun v H1 => v = .ref f ∧ H1 = H) I ⟨.ref f, hs, rfl, rfl⟩) fun u s1 ⟨v, H1, J, r1, q1⟩ => ?_)
  obtain ⟨rfl, rfl⟩ := q1
  obtain rfl : u = Value.ref f := r1
  refine PySem.W.callWith_F (first := []) (fnAt_of J hf) (thn (ha.run pos pins s1 τ _ _ J ht) fun us s2 ⟨vs, H2, J2, r, h1, h2, q⟩ => ⟨fnAt_of J2 h1, ?_⟩) he hpl
  show wpAny _ _ (call (.ref f) us) _ _ _
  refine wpAny_call (codeAny_mono (Hd.run f X.A X.stack s2 H2 us vs Q E0 (hr.mono hk) J2.env0 h1 h2 r q) fun r s' hq => ?_)
  cases r with
  | error e => exact pass0 pins τ H2 s2 e s' J2 hq
  | ok fl =>
    cases fl with
    | ret u => exact J2.after hq
    | next => exact False.elim hq
    | brk => exact False.elim hq
    | cont => exact False.elim hq
end Nl

namespace Nl
open PySem PySem.Spec PyProof.Rows L2 LamX NdefX
/-! ### a nested def with one captured name and one parameter, which a comprehension captures -/
abbrev cellO : Obj := { cls := .type "cell", data := .cell none }
structure OneCell (N : List Str) (x y : Str) (sc : Scope) : Prop where
  kind : sc.kind = .function
  co : sc.isCoroutine = false
  gen : sc.isGenerator = false
  nd : N.Nodup
  at0 : N[0]? = some x
  at1 : N[1]? = some y
  kx : sc.names.lookup x = some .cell
  ky : sc.names.lookup y = some .free
  cells : ∀ n acc, cellsFrom n sc.names acc = (x, n) :: acc
  push : ∀ h : Heap, pushCells h sc.names = h.push cellO
  free : ∀ z ∈ sc.names, z.2 = .free → z.1 = y
  cell : ∀ z ∈ sc.names, z.2 = .cell → z.1 = x
abbrev envD (F : NF) (x : Str) (f L : Addr) : Env := PySem.W.envX F.qual F.scope L f (.ref F.c) ((x, L + 1) :: F.cl)
def dcx (CX : CXT) (P : Program) (w : World) (K : PySem.W.Frag) (mg : Str → Option Value) (base : Heap) (N : List Str) (F : NF) (x : Str) (f : Addr) (A : Around) (outer : List Env) (s : Shared) (H : Hp) (E : XK) : Cx where
  prog := P
  w := w
  K := K
  mg := mg
  base := base
  A := A.deeper (envD F x f s.heap.objs.size)
  N := N
  s_0 := s
  H_0 := H
  env := envD F x f s.heap.objs.size
  outer := outer
  stack := envD F x f s.heap.objs.size :: outer
  ex := []
  calm := true
  fn := fun _ => false
  pn := []
  xe := fun e s' => wpAny (model P w) (A.deeper (envD F x f s.heap.objs.size)) (leaving (envD F x f s.heap.objs.size) e) (fun _ s'' => CX outer H s E e s'') (fun e' s'' => CX outer H s E e' s'') s'
theorem newEnv_one {M : Model} {A : Around} {E : Value → Shared → Prop} {s : Shared} {sc : Scope} {N : List Str} {x y : Str} {globals : Addr} {cl : List (Str × Addr)} {v : Value} {qual : Str} {func : Option Addr} {code : Value} {builtins : Addr} {Q : Env → Shared → Prop} (S : OneCell N x y sc)
    (hQ : ∀ h' tk, h'.Ns s.heap.objs.size (fun _ => none) → h'.IsCell (s.heap.objs.size + 1) (some v) → (∀ b o, s.heap.get? b = some o → h'.get? b = some o) → Q (newEnv sc s.heap.objs.size globals ((x, s.heap.objs.size + 1) :: cl) qual func code none builtins) { s with heap := h', toks := tk }) :
    wpAny M A (newFunctionEnv sc globals cl [(x, v)] qual func code none builtins) Q E s := by
  simp only [newFunctionEnv, Option.isSome_none, Bool.false_eq_true, if_false]
  refine wpAny_bind (wpAny_alloc ?_)
  refine wpAny_bind (wpAny_layCells _ (fun name kind cells => by cases q : kind == NameKind.cell <;> simp [q]) _ _ _ _ ?_)
  rw [show ({ s with heap := s.heap.push { cls := .type "frame", data := .dict #[] } } : Shared).heap.objs.size = s.heap.objs.size + 1 from Heap.size_push .., S.cells, S.push]
  simp only [List.forIn_cons, List.forIn_nil]
  have c0 : ((s.heap.push { cls := .type "frame", data := .dict #[] }).push cellO).IsCell (s.heap.objs.size + 1) none := by
    refine ⟨cellO, ?_, rfl⟩
    have := Heap.get?_push_size (s.heap.push { cls := .type "frame", data := .dict #[] }) (o := cellO) rfl
    rw [Heap.size_push] at this
    exact this
  have n0 := ((Heap.Ns.new s.heap (.type "frame")).keeps fun b o e => Heap.get?_push_of_some cellO e)
  refine wpAny_bind (wpAny_bind (wpAny_bind (wpAny_storeName_cell (c := s.heap.objs.size + 1) S.kind S.kx (List.lookup_cons_self ..) c0 fun h' hc sb => wpAny_pure (wpAny_pure (wpAny_pure ?_)))))
  refine hQ h' _ (n0.sameBut sb (Nat.ne_of_lt (Nat.lt_succ_self _))) hc fun b o e => ?_
  have hlt := Heap.lt_size e
  exact (sb.2 b (Nat.ne_of_lt (Nat.lt_succ_of_lt hlt))).trans (Heap.get?_push_of_some _ (Heap.get?_push_of_some _ e))
section
variable {CX : CXT} {P : Program} {w : World} {K : PySem.W.Frag} {mg : Str → Option Value} {base : Heap} {N : List Str} {x y : Str} {F : NF} {f : Addr} {k : Nat} {sp : List (Option V) → Sp}
theorem inv_startD {A : Around} {outer : List Env} {s : Shared} {H : Hp} {E : XK} {v : V} {u : Value} {o : Option V} {h₁ : Heap} {tk : Nat} (S : OneCell N x y F.scope) (hd : A.handled = none) (e0 : Env0 P w K mg base A outer s H) (r : RelV v u) (C : CellsAt F.cl [y] [o] s.heap H)
    (hns : h₁.Ns s.heap.objs.size fun _ => none) (hc : h₁.IsCell (s.heap.objs.size + 1) (some u)) (kp : ∀ b o, s.heap.get? b = some o → h₁.get? b = some o) :
    Inv (dcx CX P w K mg base N F x f A outer s H E) [] (some v :: o :: List.replicate (N.length - 2) none) H { s with heap := h₁, toks := tk } := by
  have hN : 2 ≤ N.length := by
    have := (List.getElem?_eq_some_iff.mp S.at1).1
    omega
  have noA : ∀ b : Addr, ¬ b ∈ (dcx CX P w K mg base N F x f A outer s H E).ex := fun b z => absurd (show b ∈ ([] : List Addr) from z) (by simp)
  have cellK : ∀ {c : Addr} {v : Option Value}, s.heap.IsCell c v → h₁.IsCell c v := fun {c v} ⟨o, ho, hd⟩ => ⟨o, kp _ _ ho, hd⟩
  have old : ∀ z c, F.cl.lookup z = some c → c < s.heap.objs.size := fun z c e => by
    obtain ⟨_, v, q⟩ := C.all z c e
    exact q.lt
  have split : ∀ z c, (((x, s.heap.objs.size + 1) :: F.cl) : List (Str × Addr)).lookup z = some c → (z = x ∧ c = s.heap.objs.size + 1) ∨ (z ≠ x ∧ F.cl.lookup z = some c) := fun z c e => by
    rw [List.lookup_cons] at e
    by_cases q : z = x
    · rw [beq_iff_eq.mpr q] at e
      cases e
      exact .inl ⟨q, rfl⟩
    · rw [beq_eq_false_iff_ne.mpr q] at e
      exact .inr ⟨q, e⟩
  have apart : ∀ z z' c, (((x, s.heap.objs.size + 1) :: F.cl) : List (Str × Addr)).lookup z = some c → (((x, s.heap.objs.size + 1) :: F.cl) : List (Str × Addr)).lookup z' = some c → z = z' := fun z z' c e e' => by
    rcases split z c e with ⟨a, b⟩ | ⟨a, b⟩ <;> rcases split z' c e' with ⟨a', b'⟩ | ⟨a', b'⟩
    · rw [a, a']
    · have := old z' c b'
      rw [b] at this
      exact absurd this (Nat.not_lt.mpr (Nat.le_succ _))
    · have := old z c b
      rw [b'] at this
      exact absurd this (Nat.not_lt.mpr (Nat.le_succ _))
    · exact C.inj z z' c b b'
  have ne_xy : y ≠ x := fun z => by
    have := S.kx
    rw [← z, S.ky] at this
    cases this
  obtain ⟨cy, hcy, hvy⟩ := C.has 0 y rfl
  have hy' : (((x, s.heap.objs.size + 1) :: F.cl) : List (Str × Addr)).lookup y = some cy := by
    rw [List.lookup_cons, beq_eq_false_iff_ne.mpr ne_xy]
    exact hcy
  refine ⟨⟨e0.mod, S.kind, rfl, rfl, Nat.le_refl _, fun z z' c => apart z z' c, fun z hz => ?_, fun z c q _ => ?_, fun _ => hd, Around.frames_deeper e0.frames, .inr ⟨rfl, rfl⟩, fun b z => absurd z (noA b), e0.bs, e0.bsz, fun b _ _ => noA b,
      fun b z => absurd z (noA b), e0.funs, e0.frf⟩,
    rfl, e0.bare, Un.kept kp, ⟨_, hns, fun i z v' e1 e2 e3 => ?_⟩, fun z c e => ?_, e0.hok.fresh (Nat.le_refl _), fun z c e => ?_, fun q hq => absurd (show q ∈ ([] : List (Addr × Obj)) ++ [] from hq) (by simp), e0.hok.kept kp, ?_⟩
  · have hz : F.scope.names.lookup z = some .cell ∨ F.scope.names.lookup z = some .free := hz
    rcases hz with hz | hz
    · obtain rfl : z = x := S.cell _ (PySem.mem_of_lookup hz) rfl
      exact ⟨_, List.lookup_cons_self ..⟩
    · obtain rfl : z = y := S.free _ (PySem.mem_of_lookup hz) rfl
      exact ⟨cy, hy'⟩
  · have q : false = true := q
    cases q
  · have e1 : N[i]? = some z := e1
    match i, e1, e2 with
    | 0, e1, e2 =>
      rw [S.at0] at e1
      cases e1
      have e2 : some (some v) = some (some v') := e2
      cases e2
      exact ⟨u, r, .inr ⟨.inl S.kx, _, List.lookup_cons_self .., hc⟩⟩
    | 1, e1, e2 =>
      rw [S.at1] at e1
      cases e1
      have e2 : some o = some (some v') := e2
      cases e2
      obtain ⟨uy, ry, iy⟩ := hvy v' rfl
      exact ⟨uy, ry, .inr ⟨.inr S.ky, cy, hy', cellK iy⟩⟩
    | i + 2, e1, e2 =>
      rw [List.getElem?_cons_succ, List.getElem?_cons_succ, List.getElem?_replicate] at e2
      split at e2 <;> cases e2
  · rcases split z c e with ⟨_, rfl⟩ | ⟨_, b⟩
    · exact ⟨_, hc⟩
    · obtain ⟨v', q⟩ := (C.all z c b).2
      exact ⟨v', cellK q⟩
  · rcases split z c e with ⟨_, rfl⟩ | ⟨_, b⟩
    · exact e0.hok.fresh (Nat.le_succ _)
    · exact (C.all z c b).1
  · show _ = N.length
    rw [List.length_cons, List.length_cons, List.length_replicate]
    omega
theorem nokD_of (S : OneCell N x y F.scope) (hb : ∀ (doc pm ctv : Value) (us : List Value), us.length = 1 → bindArgs (F.fd doc pm ctv) ⟨us, []⟩ = pure ([x].zip us)) (len : ∀ ws vs H Q E, sp ws vs H Q E → vs.length = 1)
    (hbody : ∀ (A : Around) (outer : List Env) (s : Shared) (H : Hp) (v : V) (o : Option V) (Q : VK) (E : XK), Room k (A.deeper (envD F x f s.heap.objs.size)) → sp [o] [v] H Q E →
      ∃ t, PSs (dcx CX P w K mg base N F x f A outer s H E) F.body t ∧ t { nx := fun _ H' => Q .non H', rt := Q } (some v :: o :: List.replicate (N.length - 2) none) H) :
    NOk P w K mg base CX (k + 1) f F [x] [y] sp := by
  refine ⟨len, fun A outer s H us vs ws Q E hr e0 hf hc C r hsp => ?_⟩
  have hl := len _ _ _ _ _ hsp
  have lim : s.heap.NoLimit := e0.mod.nolimit.keeps fun b o e => (e0.bs b o e).1
  obtain ⟨od, sl, doc, pm, ctv, ho⟩ := fnO_at e0.hok hf
  obtain ⟨v, rfl⟩ : ∃ v, vs = [v] := by
    match vs, hl with
    | [v], _ => exact ⟨v, rfl⟩
  obtain ⟨o, rfl⟩ : ∃ o, ws = [o] := by
    match ws, C.len with
    | [o], _ => exact ⟨o, rfl⟩
  cases r with
  | cons r0 rr =>
    cases rr
    rename_i u
    refine codeAny_call_function hr.depth ho rfl S.co S.gen rfl (codeO_at e0.hok hc) ?_
    rw [hb doc pm ctv [u] rfl]
    refine wpAny_pure (newEnv_one S fun h₁ tk hns hcell kp => ⟨lim.keeps kp, ?_⟩)
    show codeAny _ _ (.func F.body (envD F x f s.heap.objs.size)) _ _
    refine codeAny_func ?_
    obtain ⟨t, ht, hq⟩ := hbody A outer s H v o Q E (hr.deeper _) hsp
    have I : Inv (dcx CX P w K mg base N F x f A outer s H E) [] (some v :: o :: List.replicate (N.length - 2) none) H { s with heap := h₁, toks := tk } := inv_startD S hr.hd e0 r0 C hns hcell kp
    refine wpAny_mono (ht.run [] _ _ H _ I hq) (fun fl s' hs => ?_) fun e s' hs => hs
    have fin : ∀ {σ' : L2.St} {H' : Hp} {v : V} {u : Value}, Inv (dcx CX P w K mg base N F x f A outer s H E) [] σ' H' s' → L2.RelV v u → Q v H' → CE outer P w H s Q u s' :=
      fun {σ' H' v u} J rv q => ⟨v, H', J.os, J.bare, J.base, J.hok, rv, q⟩
    cases fl with
    | ret u =>
      obtain ⟨v, σ', H', J, rv, q⟩ := hs
      exact fin J rv q
    | next =>
      obtain ⟨σ', H', J, q⟩ := hs
      exact fin (v := V.non) (u := Value.none) J rfl q
    | brk =>
      obtain ⟨_, _, _, q⟩ := hs
      exact False.elim q
    | cont =>
      obtain ⟨_, _, _, q⟩ := hs
      exact False.elim q
end
/-- a def of the text whose code object is at c -/
structure FunC (K : PySem.W.Frag) (x qual : Str) (st : Stmt) (f : Addr) (fd : FuncData) (c : Addr) : Prop where
  ex : ∃ (oc : Value) (od : Option Addr) (kV doc pm : Value) (an : Option Addr) (ct : Value) (osl : Array (Option Value)),
    fd = PySem.W.fnOf x qual (defArgs st) (defBody st) (defScope st) .none kV doc pm an (.ref c) ct ∧ K.lookup f = some ⟨oc, od, .func fd, osl⟩ ∧ PySem.W.codeIn K (.ref c) qual = true
theorem FunC.okX {P : Program} {w : World} {K : PySem.W.Frag} {mg : Str → Option Value} {base : Heap} {x qual : Str} {st : Stmt} {f c : Addr} {fd : FuncData} {N ps : List Str} {k : Nat} {sp : Sp} (F : FunC K x qual st f fd c) (S : FnScope N ps (defScope st)) (len : ∀ vs H Q E, sp vs H Q E → vs.length = ps.length)
    (body : ∀ (A : Around) (outer : List Env) (s : Shared) (H : Hp) (vs : List V) (Q : VK) (E : XK), Room k (A.deeper (envOfC qual (defScope st) s.heap.objs.size f (.ref c))) → sp vs H Q E →
      ∃ t, PSs (cxOf (L2.CX P w) P w K mg base N qual (defScope st) f (.ref c) A outer s H E) (defBody st) t ∧ t { nx := fun _ H' => Q .non H', rt := Q } (L2.start N vs) H) : FnOk P w K mg base (L2.CX P w) (k + 1) f fd ps sp := by
  obtain ⟨oc, od, kV, doc, pm, an, ct, osl, rfl, lk, hcd⟩ := F.ex
  exact fn_of lk hcd S len fun A outer s H vs Q E hr hsp => body A outer s H vs Q E hr hsp
/-- a call of a def of the text, in the ground with one cell more -/
def tCallG (i : Nat) (sp : Addr → V → Sp) (t : TA) : TE := fun σ H Q => ∃ z v, σ[i]? = some (some v) ∧ t σ H fun vs H1 => sp z v vs H1 Q E0
theorem pe_callG {X : Cx} {i k j : Nat} {f : Addr} {fd : FuncData} {ps : List Str} {x y : Str} {sp : Addr → V → Sp} {e : Expr} {es : List Expr} {t : TA} {p pos : Pos}
    (F : ∀ (z : Addr) (B : Heap) (c : Addr) (u : Value) (v : V), X.env.cells.lookup y = some c → RelV v u → B.IsCell c (some u) → (∀ b o, X.base.get? b = some o → B.get? b = some o) → FnOk X.prog X.w X.K X.mg B CX0 k f fd ps (sp z v))
    (hr : Room j X.A) (hk : k ≤ j) (hg : Gl X x) (hm : X.mg x = some (.ref f)) (hkp : PySem.W.keepIn X.K (.ref f) = true) (hb : Binds X.K fd ps []) (at_ : X.N[i]? = some y) (kind : X.env.scope.names.lookup y = some .cell) (hfn : X.fn y = true) (ha : PA X (e :: es) t)
    (hdb : (x == ("__debug__" : Str)) = false := by decide) (he : starEach (e :: es) X.env = (false, eval e X.env) :: starEach es X.env := by rfl) (hpl : (backTo pos (starEach es X.env)).any (·.1) = false := by rfl) :
    PE X (.Call (.Name x p) (e :: es) [] pos) (tCallG i sp t) := by
  refine ⟨fun pins s τ H Q I h => ?_⟩
  obtain ⟨z, v, hv, ht⟩ := h
  refine wpAny_Call_Name_kw (ld_glob I hg hm ?_ hdb)
  refine PySem.W.callWith_K (h₀ := X.base) I.ok.mod.kin hkp (thn (ha.run pos pins s τ H _ I ht) fun us s1 ⟨vs, H1, J, r, q⟩ => ⟨J.kIn, ?_⟩) he hpl
  obtain ⟨m, _, hl⟩ := J.loc
  obtain ⟨u, rv, look⟩ := hl i y v at_ hv (.inr (.inl kind))
  rcases look with ⟨z, _⟩ | ⟨_, c, hc, hcell⟩
  · have z : X.env.scope.names.lookup y = some .local := z
    rw [kind] at z
    cases z
  · obtain ⟨B, keep, hB, e0⟩ := env0_cell J hfn hc hcell
    have G := F z B c u v hc rv hB keep
    have hl : us.length = ps.length := by rw [← r.length]; exact G.len _ _ _ _ q
    refine wpAny_call (codeAny_mono (G.run X.A X.stack s1 H1 ⟨us, []⟩ us vs Q E0 (hr.mono hk) e0 (by have := hb s1 us J.kIn (by simpa using hl); simpa using this) r q) fun rr s' hq => ?_)
    cases rr with
    | error e => exact pass0 pins τ H1 s1 e s' J hq
    | ok fl =>
      cases fl with
      | ret u => exact J.after hq
      | next => exact False.elim hq
      | brk => exact False.elim hq
      | cont => exact False.elim hq
theorem HeldF.imp {P : Program} {w : World} {K : PySem.W.Frag} {mg : Str → Option Value} {base : Heap} {k n : Nat} {F : NF} {sp sp' : Sp} (h : HeldF P w K mg base k F n sp) (g : ∀ vs H Q E, sp' vs H Q E → sp vs H Q E) : HeldF P w K mg base k F n sp' :=
  ⟨fun vs H Q E q => h.len vs H Q E (g _ _ _ _ q), fun f A outer s H us vs Q E hr e0 hf hc r q => h.run f A outer s H us vs Q E hr e0 hf hc r (g _ _ _ _ q)⟩
/-- what a closure with one captured name holds -/
theorem clo_one {cells : List (Str × Addr)} {names : List (Str × NameKind)} {y : Str} {c : Addr} (only : ∀ z ∈ names, z.2 = .free → z.1 = y) (hy : (y, NameKind.free) ∈ names) (hc : cells.lookup y = some c) :
    (cloFrom cells names []).lookup y = some c ∧ ∀ z d, (cloFrom cells names []).lookup z = some d → z = y := by
  refine ⟨clo_has (fun z hz e => ⟨c, by rw [only z hz e]; exact hc⟩) hy hc, fun z d e => ?_⟩
  rcases cloFrom_mem (PySem.mem_of_lookup e) with hm | ⟨h1, _⟩
  · cases hm
  · exact only _ h1 rfl
theorem tp_ext {H H' : Hp} {a : Addr} {xs : List V} (s : ExtN H H') (h : Tp H a xs) : Tp H' a xs := s _ _ h fun _ z => nomatch z
theorem DT.ext {K : PySem.W.Frag} {H H' : Hp} {v : V} {d : PyData} (h : DT K H v d) (s : ExtN H H') : DT K H' v d := DT.mono (fun _ _ => tp_ext s) d v h
theorem DTs.ext {K : PySem.W.Frag} {H H' : Hp} {v : List V} {d : List PyData} (h : DTs K H v d) (s : ExtN H H') : DTs K H' v d := DTs.mono (fun _ _ => tp_ext s) d v h
theorem Same.ext {H H' : Hp} (s : Same H H') : ExtN H H' := fun b o h _ => s b o h
theorem TabsN.same {T : List NTab} {H H' : Hp} (h : TabsN T H) (s : Same H H') : TabsN T H' := h.ext s
end Nl

namespace Nl
open PySem PySem.Spec PyProof.Rows L2
mutual
def mapN (ch : List Pr → List Pr) : Node → Node
  | .mk ps ks => .mk (ch ps) (mapNs ch ks)
def mapNs (ch : List Pr → List Pr) : List Node → List Node
  | [] => []
  | k :: ks => mapN ch k :: mapNs ch ks
end
theorem mapNs_map (ch : List Pr → List Pr) : ∀ ks : List Node, mapNs ch ks = ks.map (mapN ch)
  | [] => rfl
  | k :: ks => by rw [mapNs, mapNs_map ch ks]; rfl
theorem mapN_ps (ch : List Pr → List Pr) (n : Node) : (mapN ch n).ps = ch n.ps := by cases n; rfl
theorem mapN_ks (ch : List Pr → List Pr) (n : Node) : (mapN ch n).ks = n.ks.map (mapN ch) := by
  cases n with
  | mk ps ks => exact mapNs_map ch ks
def mapE (ch : List Pr → List Pr) (e : PN) : PN := (e.1, mapN ch e.2)
theorem kids_mapE (ch : List Pr → List Pr) (e : PN) : kidsOf (mapE ch e) = (kidsOf e).map (mapE ch) := by
  unfold kidsOf mapE
  simp only [mapN_ks]
  refine List.ext_getElem? fun i => ?_
  simp only [List.getElem?_mapIdx, List.getElem?_map, Option.map_map]
  rfl
theorem preE_mapE (ch : List Pr → List Pr) : ∀ (m : Nat) (e : PN), (preE e).length ≤ m → preE (mapE ch e) = (preE e).map (mapE ch)
  | 0, e, h => by have := preE_pos e; omega
  | m + 1, e, h => by
    rw [preE_eq (mapE ch e), preE_eq e, kids_mapE, List.map_cons, List.map_flatMap, List.flatMap_map]
    rw [List.flatMap_def, List.flatMap_def]
    refine congrArg (fun l => mapE ch e :: List.flatten l) (List.map_congr_left fun k hk => ?_)
    refine preE_mapE ch m k ?_
    have h1 : (preE e).length = 1 + ((kidsOf e).flatMap preE).length := by rw [preE_eq]; simp; omega
    have h2 : (preE k).length ≤ ((kidsOf e).flatMap preE).length := by
      rw [List.length_flatMap]
      exact le_sum (List.mem_map.mpr ⟨k, hk, rfl⟩)
    omega
theorem pre_map (ch : List Pr → List Pr) (n : Node) : pre [] (mapN ch n) = (pre [] n).map (mapE ch) := preE_mapE ch _ ([], n) (Nat.le_refl _)
theorem find_map (ch : List Pr → List Pr) : ∀ (p : List Int) (n : Node), find (mapN ch n) p = (find n p).map (mapN ch)
  | [], n => rfl
  | i :: p, n => by
    by_cases h : 0 ≤ i ∧ i < (n.ks.length : Int)
    · obtain ⟨j, rfl⟩ : ∃ j : Nat, i = j := ⟨i.toNat, by omega⟩
      rw [find_cons, find_cons, mapN_ks, List.getElem?_map]
      cases n.ks[j]? with
      | none => rfl
      | some k => exact find_map ch p k
    · rw [find_out h, find_out (by rw [mapN_ks, List.length_map]; exact h)]
      rfl
/-- all prices are good, no more than three come next, and the ends are not behind m -/
def NG (good : List Pr → Prop) : Nat → Node → Prop
  | 0, n => good n.ps ∧ n.ks = []
  | m + 1, n => good n.ps ∧ n.ks.length ≤ 3 ∧ ∀ k ∈ n.ks, NG good m k
theorem NV.ng {g : Int} : ∀ {m : Nat} {n : Node}, NV g m n → NG (PsOk g) m n
  | 0, _, h => h
  | m + 1, _, h => ⟨h.1, h.2.2.1, fun k hk => NV.ng (h.2.2.2 k hk)⟩
theorem mapN_id {good : List Pr → Prop} {ch : List Pr → List Pr} (h : ∀ ps, good ps → ch ps = ps) : ∀ (m : Nat) (n : Node), NG good m n → mapN ch n = n
  | 0, .mk ps ks, h0 => by
    have e : ks = [] := h0.2
    subst e
    rw [mapN, h ps h0.1]
    rfl
  | m + 1, .mk ps ks, h0 => by
    rw [mapN, h ps h0.1, mapNs_map]
    congr 1
    refine (List.map_congr_left fun k hk => mapN_id h m k (h0.2.2 k hk)).trans (List.map_id _)
end Nl

namespace Nl
open PySem PySem.Spec PyProof.Rows L2 LamX NdefX
theorem xt_keep {d b : Addr} {H H' : Hp} {o : HO} (i : IsL H d) (s : Xt d H H') (e : H b = some o) (n : ∀ ys, o ≠ .lst ys) : H' b = some o := s b o (fun z => by
  obtain ⟨ys, h⟩ := i
  rw [z, h] at e
  cases e
  exact n _ rfl) e
theorem TabN.xt {d P : Addr} {nm : Nat → Nat → Str} {H H' : Hp} (t : TabN H P nm) (i : IsL H d) (s : Xt d H H') : TabN H' P nm := by
  obtain ⟨ps, h1, h2, h3⟩ := t
  refine ⟨ps, xt_keep i s h1 (fun _ z => nomatch z), h2, fun pos cv hc => ?_⟩
  obtain ⟨c, e, h⟩ := h3 pos cv hc
  exact ⟨c, e, xt_keep i s h (fun _ z => nomatch z)⟩
theorem TabsN.xt {d : Addr} {T : List NTab} {H H' : Hp} (t : TabsN T H) (i : IsL H d) (s : Xt d H H') : TabsN T H' := fun p hp => TabN.xt (t p hp) i s
theorem Dst.ext {H H' : Hp} {pd ps : Addr} (h : Dst H pd ps) (s : ExtN H H') : Dst H' pd ps := by
  obtain ⟨i, r, ns, ⟨⟨sd, h1⟩, h2, h3, h4, h5⟩⟩ := h
  exact ⟨i, r, ns, ⟨⟨sd, s _ _ h1 fun _ z => nomatch z⟩, s _ _ h2 (fun _ z => nomatch z), h3, h4, h5⟩⟩
theorem Dst.isL' {H : Hp} {pd ps : Addr} (h : Dst H pd ps) : IsL H pd := by
  obtain ⟨i, r, ns, ⟨⟨sd, h1⟩, h2, h3, h4, h5⟩⟩ := h
  exact ⟨_, h1⟩
theorem Sh.lst {k : Nat} {ds : List PyData} (h : ∀ d ∈ ds, Sh k d) : Sh (k + 1) (.list ds) := by
  obtain ⟨h1, h2⟩ := sh_all h
  refine ⟨?_, ?_⟩
  · rw [PyData.canLay0]
    exact h1
  · rw [PyData.depth]
    omega
theorem walk_ofTabs {l : PySem.W.OpenLaw} {n k : Nat} {q : Program} {loose : List Str} {XP : (Str → Option Value) → Heap → Prop} {YP : World → Heap → Prop} {d : DefRec} {K : Params → PySem.W.Frag} {CX : World → CXT} {x : Str} (xs : List Str)
    (hn : l.most = some n) (hn2 : n ≤ sizeLine) (hdf : d.params.defaults = []) (hr : Room k callerA) (hrec : ∀ y ∈ xs, ((recsOf q).find? fun e => e.name == y).isSome = true) (hY : ∀ (w : World) (h : Heap), YP w h → (K w.params).In h)
    (F : ∀ (w : World) (mg : Str → Option Value) (fa : Addr) (h : Heap), YP w h → (K w.params).In h → h.Ns mainGlobals mg → mg d.name = some (.ref fa) →
      (∀ y ∈ xs, ∀ c P, PySem.W.tabIn (K w.params) y = some (c, P) → PySem.W.CodeHd h c P ∧ h.get? P = some { cls := .none, data := .fields #[] }) → LawAtS l w (K w.params) (CX w) k n x mg fa h)
    (hCX : ∀ (w : World) (H : Hp) (s : Shared) (e : Value) (s' : Shared), CX w [] H s (fun _ _ _ => False) e s' → False) :
    PySem.W.WalkO q loose XP YP l.row.toRowW d [] (fun f vs => PySem.call f vs) := by
  refine Att.attach_callB hn hdf fun w s₀ s₁ mg mb fa o pm cd doc a vs ns G Y ho hd hcd hmg hobj hints hlen hbits hg => ?_
  have KX := hY w _ Y
  have own : ∀ y ∈ xs, ∀ c P, PySem.W.tabIn (K w.params) y = some (c, P) → PySem.W.CodeHd s₁.heap c P ∧ s₁.heap.get? P = some { cls := .none, data := .fields #[] } := fun y hy c P ht => by
    obtain ⟨dd, hdd⟩ := Option.isSome_iff_exists.mp (hrec y hy)
    exact PySem.W.tab_of G.T KX hdd ht
  obtain ⟨fd, cs, sp, hT, nT, C, hb, hsp, hF⟩ := F w mg fa _ Y KX G.T.g hmg own
  exact law_callTs KX G.T.g G.T.b G.T.builtins G.T.nolimit hg hT nT C G.T.bmain hobj hints (Nat.le_trans hlen hn2) hr hF hb (fun H hH hS => hsp H a ns hlen hbits hH hS) fun H e s' => hCX w H s₁ e s'
/-- no table stands in the fragment -/
theorem notab_look {K : PySem.W.Frag} {h : Heap} (X : K.In h) (nt : PySem.W.noTabs K = true) {P : Addr} (e : h.get? P = some { cls := .none, data := .fields #[] }) : K.lookup P = none := by
  cases q : K.lookup P with
  | none => rfl
  | some o =>
    have e2 := X _ _ q
    rw [e] at e2
    cases e2
    have h2 := List.all_eq_true.mp nt (P, _) (PySem.W.mem_of_lookupK q)
    exact absurd (show false = true from h2) Bool.false_ne_true
end Nl

namespace Nl
open PySem PySem.Spec PyProof.Rows L2
def top (i : Nat) : Stmt := PySem.Challenge.pw_nolunch_k04_markets_from_markets.main.body.getD i (.Pass ⟨0, 0, 0, 0⟩)
abbrev s_fraction : Stmt := top 8
theorem sc_fraction : FnScope ["numerator", "denominator", "shared"] ["numerator", "denominator"] (defScope s_fraction) := ⟨rfl, rfl, rfl, by decide +kernel, rfl, by decide +kernel, by decide +kernel⟩
abbrev s_times : Stmt := top 9
theorem sc_times : FnScope ["a", "b"] ["a", "b"] (defScope s_times) := ⟨rfl, rfl, rfl, by decide +kernel, rfl, by decide +kernel, by decide +kernel⟩
abbrev s_over : Stmt := top 10
theorem sc_over : FnScope ["a", "b"] ["a", "b"] (defScope s_over) := ⟨rfl, rfl, rfl, by decide +kernel, rfl, by decide +kernel, by decide +kernel⟩
abbrev s_compare : Stmt := top 11
theorem sc_compare : FnScope ["a", "b", "left", "right"] ["a", "b"] (defScope s_compare) := ⟨rfl, rfl, rfl, by decide +kernel, rfl, by decide +kernel, by decide +kernel⟩
abbrev s_check_market : Stmt := top 16
theorem sc_check_market : FnScope ["market", "goods", "_", "nodes", "node", "end_times", "path"] ["market"] (defScope s_check_market) := ⟨rfl, rfl, rfl, by decide +kernel, rfl, by decide +kernel, by decide +kernel⟩
abbrev s__check_prices : Stmt := top 17
theorem sc__check_prices : FnScope ["goods", "prices", "pair", "buy", "sell"] ["goods", "prices"] (defScope s__check_prices) := ⟨rfl, rfl, rfl, by decide +kernel, rfl, by decide +kernel, by decide +kernel⟩
abbrev s_walk : Stmt := top 18
theorem sc_walk : FnScope ["market", "found", "waiting", "path", "node", "following", "index"] ["market"] (defScope s_walk) := ⟨rfl, rfl, rfl, by decide +kernel, rfl, by decide +kernel, by decide +kernel⟩
abbrev s_node_at : Stmt := top 19
theorem sc_node_at : FnScope ["market", "path", "node", "index", "following"] ["market", "path"] (defScope s_node_at) := ⟨rfl, rfl, rfl, by decide +kernel, rfl, by decide +kernel, by decide +kernel⟩
abbrev s_widened : Stmt := top 21
theorem sc_widened : FnScope ["market", "factor", "goods", "node", "wider"] ["market", "factor"] (defScope s_widened) := ⟨rfl, rfl, rfl, by decide +kernel, rfl, by decide +kernel, by decide +kernel⟩
abbrev s_turned : Stmt := top 22
theorem sc_turned : FnScope ["market", "order", "goods", "node", "reordered"] ["market", "order"] (defScope s_turned) := ⟨rfl, rfl, rfl, by decide +kernel, rfl, by decide +kernel, by decide +kernel⟩
abbrev s_market_at : Stmt := top 23
theorem sc_market_at : FnScope ["market", "path", "goods", "_"] ["market", "path"] (defScope s_market_at) := ⟨rfl, rfl, rfl, by decide +kernel, rfl, by decide +kernel, by decide +kernel⟩
abbrev s__repriced : Stmt := top 24
theorem sc__repriced : FnScope ["node", "change", "prices", "following", "each"] ["node", "change"] (defScope s__repriced) := ⟨rfl, rfl, rfl, by decide +kernel, rfl, by decide +kernel, by decide +kernel⟩
abbrev s__law_begin : Stmt := top 26
theorem sc__law_begin : FnScope ["script", "seed", "cell"] ["script"] (defScope s__law_begin) := ⟨rfl, rfl, rfl, by decide +kernel, rfl, by decide +kernel, by decide +kernel⟩
abbrev s__law_take : Stmt := top 27
theorem sc__law_take : FnScope ["d", "many", "small", "digit"] ["d", "many"] (defScope s__law_take) := ⟨rfl, rfl, rfl, by decide +kernel, rfl, by decide +kernel, by decide +kernel⟩
abbrev s__law_gcd : Stmt := top 28
theorem sc__law_gcd : FnScope ["a", "b"] ["a", "b"] (defScope s__law_gcd) := ⟨rfl, rfl, rfl, by decide +kernel, rfl, by decide +kernel, by decide +kernel⟩
abbrev s__law_f : Stmt := top 29
theorem sc__law_f : FnScope ["a", "b", "c"] ["a", "b"] (defScope s__law_f) := ⟨rfl, rfl, rfl, by decide +kernel, rfl, by decide +kernel, by decide +kernel⟩
abbrev s__law_plus : Stmt := top 30
theorem sc__law_plus : FnScope ["a", "b"] ["a", "b"] (defScope s__law_plus) := ⟨rfl, rfl, rfl, by decide +kernel, rfl, by decide +kernel, by decide +kernel⟩
abbrev s__law_minus : Stmt := top 31
theorem sc__law_minus : FnScope ["a", "b"] ["a", "b"] (defScope s__law_minus) := ⟨rfl, rfl, rfl, by decide +kernel, rfl, by decide +kernel, by decide +kernel⟩
abbrev s__law_times : Stmt := top 32
theorem sc__law_times : FnScope ["a", "b"] ["a", "b"] (defScope s__law_times) := ⟨rfl, rfl, rfl, by decide +kernel, rfl, by decide +kernel, by decide +kernel⟩
abbrev s__law_spread : Stmt := top 33
theorem sc__law_spread : FnScope ["d", "mid", "s", "low"] ["d", "mid"] (defScope s__law_spread) := ⟨rfl, rfl, rfl, by decide +kernel, rfl, by decide +kernel, by decide +kernel⟩
abbrev s__law_node : Stmt := top 34
theorem sc__law_node : FnScope ["d", "goods", "time", "last", "wild", "many", "k", "children", "weights", "mids", "good", "mid", "total", "prices", "child"] ["d", "goods", "time", "last", "wild"] (defScope s__law_node) := ⟨rfl, rfl, rfl, by decide +kernel, rfl, by decide +kernel, by decide +kernel⟩
abbrev s__law_market : Stmt := top 35
theorem sc__law_market : FnScope ["d", "most", "goods", "wild"] ["d", "most"] (defScope s__law_market) := ⟨rfl, rfl, rfl, by decide +kernel, rfl, by decide +kernel, by decide +kernel⟩
abbrev s__law_nodes : Stmt := top 36
theorem sc__law_nodes : FnScope ["market", "rows", "level", "turn", "fresh", "path", "node", "k", "row"] ["market"] (defScope s__law_nodes) := ⟨rfl, rfl, rfl, by decide +kernel, rfl, by decide +kernel, by decide +kernel⟩
abbrev s__law_find : Stmt := top 37
theorem sc__law_find : FnScope ["market", "path", "node", "k"] ["market", "path"] (defScope s__law_find) := ⟨rfl, rfl, rfl, by decide +kernel, rfl, by decide +kernel, by decide +kernel⟩
abbrev s__law_prices : Stmt := top 38
theorem sc__law_prices : FnScope ["market", "path"] ["market", "path"] (defScope s__law_prices) := ⟨rfl, rfl, rfl, by decide +kernel, rfl, by decide +kernel, by decide +kernel⟩
abbrev s__law_told : Stmt := top 39
theorem sc__law_told : FnScope ["which", "market", "thing", "found", "e"] ["which", "market", "thing"] (defScope s__law_told) := ⟨rfl, rfl, rfl, by decide +kernel, rfl, by decide +kernel, by decide +kernel⟩
abbrev s__law_order : Stmt := top 40
theorem sc__law_order : FnScope ["d", "goods", "left", "order", "k", "at"] ["d", "goods"] (defScope s__law_order) := ⟨rfl, rfl, rfl, by decide +kernel, rfl, by decide +kernel, by decide +kernel⟩
abbrev s_law : Stmt := top 41
theorem sc_law : FnScope ["script", "d", "market", "factor", "order", "wide", "other", "path", "paths", "prices", "due", "bad", "node", "k"] ["script"] (defScope s_law) := ⟨rfl, rfl, rfl, by decide +kernel, rfl, by decide +kernel, by decide +kernel⟩
abbrev s_wider : Stmt := (defBody s_widened).getD 3 (.Pass ⟨0, 0, 0, 0⟩)
theorem sc_wider : NdefX.NScope ["prices", "factor", "buy", "sell"] ["prices"] ["factor"] (C8.fnScope s_wider) := NdefX.nscope_by (by decide +kernel)
abbrev s_reordered : Stmt := (defBody s_turned).getD 3 (.Pass ⟨0, 0, 0, 0⟩)
theorem sc_reordered : OneCell ["prices", "order", "good"] "prices" "order" (C8.fnScope s_reordered) := ⟨rfl, rfl, rfl, by decide +kernel, rfl, rfl, rfl, rfl, fun _ _ => rfl, fun _ => rfl, by decide +kernel, by decide +kernel⟩
structure Top (K : PySem.W.Frag) (mg : Str → Option Value) where
  a_fraction : Addr
  d_fraction : FuncData
  fraction_F : Fun K "fraction" "fraction" s_fraction a_fraction d_fraction
  fraction_b : Binds K d_fraction ["numerator", "denominator"] []
  g_fraction : mg "fraction" = some (.ref a_fraction)
  a_times : Addr
  d_times : FuncData
  times_F : Fun K "times" "times" s_times a_times d_times
  times_b : Binds K d_times ["a", "b"] []
  g_times : mg "times" = some (.ref a_times)
  a_over : Addr
  d_over : FuncData
  over_F : Fun K "over" "over" s_over a_over d_over
  over_b : Binds K d_over ["a", "b"] []
  g_over : mg "over" = some (.ref a_over)
  a_compare : Addr
  d_compare : FuncData
  compare_F : Fun K "compare" "compare" s_compare a_compare d_compare
  compare_b : Binds K d_compare ["a", "b"] []
  g_compare : mg "compare" = some (.ref a_compare)
  a_check_market : Addr
  d_check_market : FuncData
  check_market_F : Fun K "check_market" "check_market" s_check_market a_check_market d_check_market
  check_market_b : Binds K d_check_market ["market"] []
  g_check_market : mg "check_market" = some (.ref a_check_market)
  a__check_prices : Addr
  d__check_prices : FuncData
  _check_prices_F : Fun K "_check_prices" "_check_prices" s__check_prices a__check_prices d__check_prices
  _check_prices_b : Binds K d__check_prices ["goods", "prices"] []
  g__check_prices : mg "_check_prices" = some (.ref a__check_prices)
  a_walk : Addr
  d_walk : FuncData
  walk_F : Fun K "walk" "walk" s_walk a_walk d_walk
  walk_b : Binds K d_walk ["market"] []
  g_walk : mg "walk" = some (.ref a_walk)
  a_node_at : Addr
  d_node_at : FuncData
  node_at_F : Fun K "node_at" "node_at" s_node_at a_node_at d_node_at
  node_at_b : Binds K d_node_at ["market", "path"] []
  g_node_at : mg "node_at" = some (.ref a_node_at)
  a_widened : Addr
  d_widened : FuncData
  widened_F : Fun K "widened" "widened" s_widened a_widened d_widened
  widened_b : Binds K d_widened ["market", "factor"] []
  g_widened : mg "widened" = some (.ref a_widened)
  a_turned : Addr
  d_turned : FuncData
  turned_F : Fun K "turned" "turned" s_turned a_turned d_turned
  turned_b : Binds K d_turned ["market", "order"] []
  g_turned : mg "turned" = some (.ref a_turned)
  a_market_at : Addr
  d_market_at : FuncData
  market_at_F : Fun K "market_at" "market_at" s_market_at a_market_at d_market_at
  market_at_b : Binds K d_market_at ["market", "path"] []
  g_market_at : mg "market_at" = some (.ref a_market_at)
  a__repriced : Addr
  d__repriced : FuncData
  _repriced_F : Fun K "_repriced" "_repriced" s__repriced a__repriced d__repriced
  _repriced_b : Binds K d__repriced ["node", "change"] []
  g__repriced : mg "_repriced" = some (.ref a__repriced)
  a__law_begin : Addr
  d__law_begin : FuncData
  _law_begin_F : Fun K "_law_begin" "_law_begin" s__law_begin a__law_begin d__law_begin
  _law_begin_b : Binds K d__law_begin ["script"] []
  g__law_begin : mg "_law_begin" = some (.ref a__law_begin)
  a__law_take : Addr
  d__law_take : FuncData
  _law_take_F : Fun K "_law_take" "_law_take" s__law_take a__law_take d__law_take
  _law_take_b : Binds K d__law_take ["d", "many"] []
  g__law_take : mg "_law_take" = some (.ref a__law_take)
  a__law_gcd : Addr
  d__law_gcd : FuncData
  _law_gcd_F : Fun K "_law_gcd" "_law_gcd" s__law_gcd a__law_gcd d__law_gcd
  _law_gcd_b : Binds K d__law_gcd ["a", "b"] []
  g__law_gcd : mg "_law_gcd" = some (.ref a__law_gcd)
  a__law_f : Addr
  d__law_f : FuncData
  _law_f_F : Fun K "_law_f" "_law_f" s__law_f a__law_f d__law_f
  _law_f_b : Binds K d__law_f ["a", "b"] []
  g__law_f : mg "_law_f" = some (.ref a__law_f)
  a__law_plus : Addr
  d__law_plus : FuncData
  _law_plus_F : Fun K "_law_plus" "_law_plus" s__law_plus a__law_plus d__law_plus
  _law_plus_b : Binds K d__law_plus ["a", "b"] []
  g__law_plus : mg "_law_plus" = some (.ref a__law_plus)
  a__law_minus : Addr
  d__law_minus : FuncData
  _law_minus_F : Fun K "_law_minus" "_law_minus" s__law_minus a__law_minus d__law_minus
  _law_minus_b : Binds K d__law_minus ["a", "b"] []
  g__law_minus : mg "_law_minus" = some (.ref a__law_minus)
  a__law_times : Addr
  d__law_times : FuncData
  _law_times_F : Fun K "_law_times" "_law_times" s__law_times a__law_times d__law_times
  _law_times_b : Binds K d__law_times ["a", "b"] []
  g__law_times : mg "_law_times" = some (.ref a__law_times)
  a__law_spread : Addr
  d__law_spread : FuncData
  _law_spread_F : Fun K "_law_spread" "_law_spread" s__law_spread a__law_spread d__law_spread
  _law_spread_b : Binds K d__law_spread ["d", "mid"] []
  g__law_spread : mg "_law_spread" = some (.ref a__law_spread)
  a__law_node : Addr
  d__law_node : FuncData
  _law_node_F : Fun K "_law_node" "_law_node" s__law_node a__law_node d__law_node
  _law_node_b : Binds K d__law_node ["d", "goods", "time", "last", "wild"] []
  g__law_node : mg "_law_node" = some (.ref a__law_node)
  a__law_market : Addr
  d__law_market : FuncData
  _law_market_F : Fun K "_law_market" "_law_market" s__law_market a__law_market d__law_market
  _law_market_b : Binds K d__law_market ["d", "most"] []
  g__law_market : mg "_law_market" = some (.ref a__law_market)
  a__law_nodes : Addr
  d__law_nodes : FuncData
  _law_nodes_F : Fun K "_law_nodes" "_law_nodes" s__law_nodes a__law_nodes d__law_nodes
  _law_nodes_b : Binds K d__law_nodes ["market"] []
  g__law_nodes : mg "_law_nodes" = some (.ref a__law_nodes)
  a__law_find : Addr
  d__law_find : FuncData
  _law_find_F : Fun K "_law_find" "_law_find" s__law_find a__law_find d__law_find
  _law_find_b : Binds K d__law_find ["market", "path"] []
  g__law_find : mg "_law_find" = some (.ref a__law_find)
  a__law_prices : Addr
  d__law_prices : FuncData
  _law_prices_F : Fun K "_law_prices" "_law_prices" s__law_prices a__law_prices d__law_prices
  _law_prices_b : Binds K d__law_prices ["market", "path"] []
  g__law_prices : mg "_law_prices" = some (.ref a__law_prices)
  a__law_told : Addr
  d__law_told : FuncData
  _law_told_F : Fun K "_law_told" "_law_told" s__law_told a__law_told d__law_told
  _law_told_b : Binds K d__law_told ["which", "market", "thing"] []
  g__law_told : mg "_law_told" = some (.ref a__law_told)
  a__law_order : Addr
  d__law_order : FuncData
  _law_order_F : Fun K "_law_order" "_law_order" s__law_order a__law_order d__law_order
  _law_order_b : Binds K d__law_order ["d", "goods"] []
  g__law_order : mg "_law_order" = some (.ref a__law_order)
  cc_widened : Addr
  ct_widened : Addr
  widened_C : FunC K "widened" "widened" s_widened a_widened d_widened cc_widened
  cc_turned : Addr
  ct_turned : Addr
  turned_C : FunC K "turned" "turned" s_turned a_turned d_turned cc_turned
  tne_widened_turned : ct_widened ≠ ct_turned
  n_abs : mg "abs" = none
  n_int : mg "int" = none
  n_isinstance : mg "isinstance" = none
  n_len : mg "len" = none
  n_list : mg "list" = none
  n_max : mg "max" = none
  n_min : mg "min" = none
  n_range : mg "range" = none
  n_reversed : mg "reversed" = none
  n_sorted : mg "sorted" = none
  n_sum : mg "sum" = none
  n_tuple : mg "tuple" = none
  g_gcd : mg "gcd" = some (.builtin "math.gcd")
  t_GOODS_LIMIT : Tok
  g_GOODS_LIMIT : mg "GOODS_LIMIT" = some (.int 4 t_GOODS_LIMIT)
  t_MOMENT_LIMIT : Tok
  g_MOMENT_LIMIT : mg "MOMENT_LIMIT" = some (.int 40 t_MOMENT_LIMIT)
  t_TIME_LIMIT : Tok
  g_TIME_LIMIT : mg "TIME_LIMIT" = some (.int 5 t_TIME_LIMIT)
  c_MarketplaceError : Addr
  g_MarketplaceError : mg "MarketplaceError" = some (.ref c_MarketplaceError)
  x_MarketplaceError : PySem.W.excIn K c_MarketplaceError [.type "ValueError", .type "Exception", .type "BaseException", .type "object"] "ValueError.__new__" = true
  k_MarketplaceError : PySem.W.keepIn K (.ref c_MarketplaceError) = true
  b_MarketplaceError : PySem.W.subIn K (.ref c_MarketplaceError) (.type "BaseException") = some true
  t_MarketplaceError : PySem.W.typeIn K (.ref c_MarketplaceError) = some (.type "type")
  h_MarketplaceError : PySem.W.hasDictIn K c_MarketplaceError = true
  e_MarketplaceError : ExcC K c_MarketplaceError
  c_ZeroDenominator : Addr
  g_ZeroDenominator : mg "ZeroDenominator" = some (.ref c_ZeroDenominator)
  x_ZeroDenominator : PySem.W.excIn K c_ZeroDenominator [.type "ValueError", .type "Exception", .type "BaseException", .type "object"] "ValueError.__new__" = true
  k_ZeroDenominator : PySem.W.keepIn K (.ref c_ZeroDenominator) = true
  b_ZeroDenominator : PySem.W.subIn K (.ref c_ZeroDenominator) (.type "BaseException") = some true
  t_ZeroDenominator : PySem.W.typeIn K (.ref c_ZeroDenominator) = some (.type "type")
  h_ZeroDenominator : PySem.W.hasDictIn K c_ZeroDenominator = true
  e_ZeroDenominator : ExcC K c_ZeroDenominator
  c_MarketError : Addr
  g_MarketError : mg "MarketError" = some (.ref c_MarketError)
  x_MarketError : PySem.W.excIn K c_MarketError [.type "ValueError", .type "Exception", .type "BaseException", .type "object"] "ValueError.__new__" = true
  k_MarketError : PySem.W.keepIn K (.ref c_MarketError) = true
  b_MarketError : PySem.W.subIn K (.ref c_MarketError) (.type "BaseException") = some true
  t_MarketError : PySem.W.typeIn K (.ref c_MarketError) = some (.type "type")
  h_MarketError : PySem.W.hasDictIn K c_MarketError = true
  e_MarketError : ExcC K c_MarketError
  c_TooLarge : Addr
  g_TooLarge : mg "TooLarge" = some (.ref c_TooLarge)
  x_TooLarge : PySem.W.excIn K c_TooLarge [.type "ValueError", .type "Exception", .type "BaseException", .type "object"] "ValueError.__new__" = true
  k_TooLarge : PySem.W.keepIn K (.ref c_TooLarge) = true
  b_TooLarge : PySem.W.subIn K (.ref c_TooLarge) (.type "BaseException") = some true
  t_TooLarge : PySem.W.typeIn K (.ref c_TooLarge) = some (.type "type")
  h_TooLarge : PySem.W.hasDictIn K c_TooLarge = true
  e_TooLarge : ExcC K c_TooLarge
  c_MomentError : Addr
  g_MomentError : mg "MomentError" = some (.ref c_MomentError)
  x_MomentError : PySem.W.excIn K c_MomentError [.type "ValueError", .type "Exception", .type "BaseException", .type "object"] "ValueError.__new__" = true
  k_MomentError : PySem.W.keepIn K (.ref c_MomentError) = true
  b_MomentError : PySem.W.subIn K (.ref c_MomentError) (.type "BaseException") = some true
  t_MomentError : PySem.W.typeIn K (.ref c_MomentError) = some (.type "type")
  h_MomentError : PySem.W.hasDictIn K c_MomentError = true
  e_MomentError : ExcC K c_MomentError
  s_MarketError_MarketplaceError : PySem.W.subIn K (.ref c_MarketError) (.ref c_MarketplaceError) = some true
  s_MarketError_MarketError : PySem.W.subIn K (.ref c_MarketError) (.ref c_MarketError) = some true
  s_MarketError_MomentError : PySem.W.subIn K (.ref c_MarketError) (.ref c_MomentError) = some false
  s_MomentError_MarketplaceError : PySem.W.subIn K (.ref c_MomentError) (.ref c_MarketplaceError) = some true
  s_MomentError_MarketError : PySem.W.subIn K (.ref c_MomentError) (.ref c_MarketError) = some false
  s_MomentError_MomentError : PySem.W.subIn K (.ref c_MomentError) (.ref c_MomentError) = some true
section
variable {P : Program} {w : World} {K : PySem.W.Frag} {mg : Str → Option Value} {base : Heap}
def sp_compare (K : PySem.W.Frag) : Sp := fun vs H Q _ => ∃ (va vb : V) (p q : Int × Int), vs = [va, vb] ∧ DT K H va (frD p) ∧ DT K H vb (frD q) ∧ FB p ∧ FB q ∧ Q (.int (cmpF p q)) H
theorem ok_compare (T : Top K mg) : FnOk P w K mg base CX0 1 T.a_compare T.d_compare ["a", "b"] (sp_compare K) := by
  refine T.compare_F.ok sc_compare (fun vs H Q E h => ?_) (fun cdv A outer s H vs Q E hr h => ?_)
  · obtain ⟨_, _, _, _, rfl, _⟩ := h
    rfl
  · obtain ⟨_, _, p, q, rfl, da, db, ⟨p1, p2⟩, ⟨q1, q2⟩, fin⟩ := h
    obtain ⟨a, rfl, ha⟩ := da.fr_inv
    obtain ⟨b, rfl, hb⟩ := db.fr_inv
    refine ⟨_, (pss_cons (ps_set (i := 2) sc_compare.nd rfl (Or.inl rfl) (pe_op op_mulW (pe_ix ix_tup (pv 0) pe_int (fun _ _ => rfl)) (pe_ix ix_tup (pv 1) pe_int (fun _ _ => rfl))))
      (pss_cons (ps_set (i := 3) sc_compare.nd rfl (Or.inl rfl) (pe_op op_mulW (pe_ix ix_tup (pv 1) pe_int (fun _ _ => rfl)) (pe_ix ix_tup (pv 0) pe_int (fun _ _ => rfl))))
      (pss_cons (ps_if (pt_cmpR op_lt (pv 2) (pv 3) (nomark _)) (pss_one (ps_ret (pe_un un_neg pe_int))) pss_nil)
      (pss_one (ps_ret (pe_ifExp (pt_cmpR op_gt (pv 2) (pv 3) (nomark _)) pe_int pe_int)))))), ?_⟩
    refine ⟨_, rfl, _, _, _, _, rfl, rfl, (SqT.of ha), (atI_nat (j := 0) rfl), _, rfl, _, _, _, _, rfl, rfl, (SqT.of hb), (atI_nat (j := 1) rfl), _, _, rfl, rfl, (by first | exact mulK hk (by assumption) (by assumption) | exact mulF3 (by assumption) (by assumption)), _, rfl, _, _, _, _, rfl, rfl, (SqT.of hb), (atI_nat (j := 0) rfl), _, rfl, _, _, _, _, rfl, rfl, (SqT.of ha), (atI_nat (j := 1) rfl), _, _, rfl, rfl, (by first | exact mulK hk (by assumption) (by assumption) | exact mulF3 (by assumption) (by assumption)), ?_⟩
    refine ⟨_, rfl, _, rfl, _, _, rfl, rfl, _, rfl, ite2 (fun e => ?_) (fun e => ?_)⟩
    · have c : cmpF p q = -1 := if_pos (of_decide_eq_true e)
      rw [c] at fin
      exact ⟨_, rfl, fin⟩
    · have e0 : ¬ p.1 * q.2 < q.1 * p.2 := fun z => e (decide_eq_true z)
      refine ⟨_, rfl, _, rfl, _, _, rfl, rfl, _, rfl, ite2 (fun e => ?_) (fun e => ?_)⟩
      · have c : cmpF p q = 1 := (if_neg e0).trans (if_pos (of_decide_eq_true e))
        rw [c] at fin
        exact fin
      · have c : cmpF p q = 0 := (if_neg e0).trans (if_neg fun z => e (decide_eq_true z))
        rw [c] at fin
        exact fin
def sp_prices (K : PySem.W.Frag) (M : Addr) : Sp := fun vs H Q E => ∃ (g : Int) (v : V) (ps : List Pr), vs = [.int g, v] ∧ DT K H v (pricesD ps) ∧ (∀ p ∈ ps, PrB p) ∧ (badPs g ps → ∀ H', Same H H' → E (.ref M) none H') ∧ (¬ badPs g ps → ∀ H', Same H H' → Q .non H')
theorem ok__check_prices (T : Top K mg) : FnOk P w K mg base (L2.CX P w) 2 T.a__check_prices T.d__check_prices ["goods", "prices"] (sp_prices K T.c_MarketError) := by
  refine T._check_prices_F.okX sc__check_prices (fun vs H Q E h => ?_) (fun cdv A outer s H vs Q E hr h => ?_)
  · obtain ⟨_, _, _, rfl, _⟩ := h
    rfl
  · obtain ⟨g, v, ps, rfl, dv, hb, kE, kQ⟩ := h
    obtain ⟨a, xs, rfl, ha, hx⟩ := dv.inv
    have lx : xs.length = ps.length := by rw [hx.len, List.length_map]
    refine ⟨_, (pss_cons (ps_if (pt_cmpR op_ne (pe_callB call_lenT (by rfl) T.n_len (by decide +kernel) (pa_cons (pv 1) pa_nil)) (pe_op op_sub (pv 0) pe_int) (nomark _)) (pss_one (ps_raise rfl (takes_of rfl rfl rfl rfl) (pmk_own PySem.F.excBase_ValueError T.x_MarketError T.g_MarketError T.k_MarketError (raises_own T.b_MarketError T.t_MarketError) rfl))) pss_nil)
      (pss_one (ps_for (passes_of rfl) rfl (pi_tup (pv 1)) (pg_name (i := 2) sc__check_prices.nd rfl (Or.inl rfl)) (pss_cons (ps_if (pt_cmpR op_ne (pe_callB call_lenT (by rfl) T.n_len (by decide +kernel) (pa_cons (pv 2) pa_nil)) pe_int (nomark _)) (pss_one (ps_raise rfl (takes_of rfl rfl rfl rfl) (pmk_own PySem.F.excBase_ValueError T.x_MarketError T.g_MarketError T.k_MarketError (raises_own T.b_MarketError T.t_MarketError) rfl))) pss_nil)
      (pss_cons (ps_asg (pv 2) (pg_tup rfl (pgs_cons (pg_name (i := 3) sc__check_prices.nd rfl (Or.inl rfl)) (pgs_cons (pg_name (i := 4) sc__check_prices.nd rfl (Or.inl rfl)) pgs_nil))))
      (pss_one (ps_if (PW.pt (pw_or (pt_cmpR op_lt (pe_call (ok_compare T) (hr.mono (by decide : 1 ≤ 1)) (by rfl) T.g_compare T.compare_F.kp T.compare_b .nil pass0 (pa_cons (pv 4) (pa_cons (pe_tup (pa_cons pe_int (pa_cons pe_int pa_nil))) pa_nil))) pe_int (nomark _)) (pw_or1 (pt_cmpR op_lt (pe_call (ok_compare T) (hr.mono (by decide : 1 ≤ 1)) (by rfl) T.g_compare T.compare_F.kp T.compare_b .nil pass0 (pa_cons (pv 3) (pa_cons (pv 4) pa_nil))) pe_int (nomark _))))) (pss_one (ps_raise rfl (takes_of rfl rfl rfl rfl) (pmk_own PySem.F.excBase_ValueError T.x_MarketError T.g_MarketError T.k_MarketError (raises_own T.b_MarketError T.t_MarketError) rfl))) pss_nil))))))), ?_⟩
    refine ⟨_, rfl, _, _, rfl, ha.sq, _, rfl, _, _, rfl, rfl, rfl, _, rfl, ite2 (fun e => ?_) (fun e => ?_)⟩
    · refine kE (.inl fun z => ?_) H (Same.refl H)
      rw [lx, z] at e
      simp at e
    · have hl : (ps.length : Int) = g - 1 := by
        rw [lx] at e
        simpa using e
      refine ⟨_, rfl, a, rfl, ⟨_, ha.sq⟩, for_tup (fun i σ H' => ∃ (y z u : Option V), σ = [some (.int g), some (.ref a), y, z, u] ∧ Same H H' ∧ ∀ p ∈ ps.take i, ¬ badPr p) ⟨none, none, none, rfl, Same.refl H, fun p hp => by simp at hp⟩ (fun i σ H' _ ⟨_, _, _, _, sm, _⟩ => (tp_same sm ha).sq) ?_ ?_⟩
      · rintro i x σ H' hi ⟨y, z, u, rfl, sm, hg⟩
        obtain ⟨d, hd, dx⟩ := hx.get hi
        rw [List.getElem?_map] at hd
        obtain ⟨p, hp, rfl⟩ := Option.map_eq_some_iff.mp hd
        have dx := dx.same sm
        obtain ⟨b, x1, x2, rfl, hb2, d1, d2⟩ := dx.inv2
        have pb := hb p (List.mem_of_getElem? hp)
        refine ⟨_, rfl, _, _, rfl, hb2.sq, rfl, _, rfl, iteNS rfl ?_⟩
        refine ⟨_, rfl, _, _, rfl, hb2.sq, rfl, _, _, rfl, _, _, rfl, rfl, ?_⟩
        refine ⟨_, rfl, two_le, fun pz hz => ?_⟩
        have s1 := same_new (o := .tup [.int 0, .int 1]) hz
        refine ⟨_, _, p.2, (0, 1), rfl, d2.same s1, DT.fr (Tp.of upd_same), FB.of pb.2 (by decide), fb_zero, _, _, rfl, rfl, _, rfl, ?_⟩
        by_cases c1 : cmpF p.2 (0, 1) < 0
        · refine if_true_of' (decide_eq_true c1) (iteT ?_)
          exact kE (.inr ⟨p, List.mem_of_getElem? hp, .inl c1⟩) _ (sm.trans s1)
        · refine if_false_of' (decide_eq_false c1) ?_
          refine ⟨_, rfl, _, rfl, _, _, p.1, p.2, rfl, d1.same s1, d2.same s1, FB.of pb.1 (by decide), FB.of pb.2 (by decide), _, _, rfl, rfl, _, rfl, ?_⟩
          by_cases c2 : cmpF p.1 p.2 < 0
          · refine if_true_of' (decide_eq_true c2) ?_
            exact kE (.inr ⟨p, List.mem_of_getElem? hp, .inr c2⟩) _ (sm.trans s1)
          · refine if_false_of' (decide_eq_false c2) ?_
            refine ⟨_, _, _, rfl, sm.trans s1, fun q hq => ?_⟩
            rw [take_next hp] at hq
            rcases List.mem_append.mp hq with hq | hq
            · exact hg q hq
            · rw [List.mem_singleton.mp hq]
              exact fun z => z.elim c1 c2
      · rintro σ H' ⟨y, z, u, rfl, sm, hg⟩
        refine kQ (fun z => ?_) H' sm
        rw [lx, List.take_length] at hg
        rcases z with z | ⟨p, hp, z⟩
        · exact z hl
        · exact hg p hp z
def sp_walk (K : PySem.W.Frag) : Sp := fun vs H Q _ => ∃ (v : V) (g : Int) (n : Node), vs = [v] ∧ DT K H v (marketD g n) ∧ (pre [] n).length ≤ 1000 ∧ ∀ p xs H', Same H H' → H p = none → H' p = some (.lst xs) → DTs K H' xs ((pre [] n).map entD) → Q (.ref p) H'
theorem ok_walk (T : Top K mg) : FnOk P w K mg base CX0 1 T.a_walk T.d_walk ["market"] (sp_walk K) := by
  refine T.walk_F.ok sc_walk (fun vs H Q E h => ?_) (fun cdv A outer s H vs Q E hr h => ?_)
  · obtain ⟨_, _, _, rfl, _⟩ := h
    rfl
  · obtain ⟨v, g, n, rfl, dm, hn, fin⟩ := h
    obtain ⟨m, vn, rfl, hm, dn⟩ := dm.market_inv
    refine ⟨_, (pss_cons (ps_set (i := 1) sc_walk.nd rfl (Or.inl rfl) (pe_lst pa_nil))
      (pss_cons (ps_set (i := 2) sc_walk.nd rfl (Or.inl rfl) (pe_lst (pa_cons (pe_tup (pa_cons (pe_tup pa_nil) (pa_cons (pe_ix ix_tup (pv 0) pe_int (fun _ _ => rfl)) pa_nil))) pa_nil)))
      (pss_cons (ps_while PassesOwn.never (pt_truth (pv 2) (by intro _; rfl)) (pss_cons (ps_asg (pe_bm0 PySem.F.plainAttrs_list PySem.F.slot_list_pop PySem.F.type_list_pop mt_pop (pv 2)) (pg_tup rfl (pgs_cons (pg_name (i := 3) sc_walk.nd rfl (Or.inl rfl)) (pgs_cons (pg_name (i := 4) sc_walk.nd rfl (Or.inl rfl)) pgs_nil))))
      (pss_cons (ps_expr (pe_bm PySem.F.plainAttrs_list PySem.F.slot_list_append PySem.F.type_list_append mt_append (pv 1) (pa_cons (pe_tup (pa_cons (pv 3) (pa_cons (pv 4) pa_nil))) pa_nil)))
      (pss_cons (ps_set (i := 5) sc_walk.nd rfl (Or.inl rfl) (pe_ix ix_tup (pv 4) pe_int (fun _ _ => rfl)))
      (pss_one (ps_for PassesOwn.never rfl (pi_revR (by rfl) T.n_reversed (prg_1 (by rfl) T.n_range (pe_callB call_lenT (by rfl) T.n_len (by decide +kernel) (pa_cons (pv 5) pa_nil)))) (pg_name (i := 6) sc_walk.nd rfl (Or.inl rfl)) (pss_one (ps_expr (pe_bm PySem.F.plainAttrs_list PySem.F.slot_list_append PySem.F.type_list_append mt_append (pv 2) (pa_cons (pe_tup (pa_cons (pe_op op_catP (pv 3) (pe_tup (pa_cons (pv 6) pa_nil))) (pa_cons (pe_ix ix_tup (pv 5) (pv 6) (fun _ _ => rfl)) pa_nil))) pa_nil))))))))))
      (pss_one (ps_ret (pv 1)))))), ?_⟩
    refine ⟨Nat.zero_le _, fun pf hf => ?_⟩
    have s1 := same_new (o := .lst []) hf
    refine ⟨Nat.zero_le _, fun pe he => ?_⟩
    have s2 := s1.trans (same_new (o := .tup []) he)
    refine ⟨_, rfl, _, _, _, _, rfl, rfl, (tp_same s2 hm).sq, atI_nat (j := 1) rfl, two_le, fun pt ht => ⟨(by decide : 1 ≤ sizeLine), fun pw hw => ?_⟩⟩
    have s3 := s2.trans (same_new (o := .tup [.ref pe, vn]) ht)
    have s4 := s3.trans (same_new (o := .lst [.ref pt]) hw)
    have fw : pf ≠ pw := ne_of_none (show (upd (upd (upd H pf (.lst [])) pe (.tup [])) pt (.tup [.ref pe, vn])) pf = some (.lst []) from same_new ht _ _ (same_new he _ _ upd_same)) hw
    have hw0 := s3.free hw
    have dE : DT K (upd (upd (upd (upd H pf (.lst [])) pe (.tup [])) pt (.tup [.ref pe, vn])) pw (.lst [.ref pt])) (.ref pt) (entD ([], n)) := by
      refine .mk2 (Tp.of (same_new hw _ _ upd_same)) ?_ (dn.same s4)
      exact DT.path (Tp.of (same_new hw _ _ (same_new ht _ _ upd_same)))
    refine ⟨fun k σ H' => ∃ (fs ws : List PN) (xf xw : List V) (y3 y4 y5 y6 : Option V), σ = [some (.ref m), some (.ref pf), some (.ref pw), y3, y4, y5, y6] ∧ Same H H' ∧ H' pf = some (.lst xf) ∧ H' pw = some (.lst xw) ∧ DTs K H' xf (fs.map entD) ∧ DTs K H' xw (ws.map entD) ∧ fs ++ ws.reverse.flatMap preE = pre [] n ∧ k = (ws.reverse.flatMap preE).length, ⟨_, [], [([], n)], [], [.ref pt], none, none, none, none, rfl, s4, ?_, upd_same, .nil, .cons dE .nil, ?_, rfl⟩, ?_⟩
    · exact same_new hw _ _ (same_new ht _ _ (same_new he _ _ upd_same))
    · simp [preE]
    · rintro k σ H' ⟨fs, ws, xf, xw, y3, y4, y5, y6, rfl, sm, hF, hW, dF, dW, eq, rfl⟩
      refine ⟨_, rfl, _, .inl ⟨xw, SqL.of hW, rfl⟩, ?_⟩
      rcases List.eq_nil_or_concat ws with rfl | ⟨ws0, e, rfl⟩
      · cases dW
        refine iteF ?_
        rw [List.reverse_nil, List.flatMap_nil, List.append_nil] at eq
        rw [eq] at dF
        exact ⟨_, rfl, fin pf xf H' sm hf hF dF⟩
      · rw [List.concat_eq_append] at *
        obtain ⟨xw0, x, rfl, dW0, dx⟩ : ∃ xw0 x, xw = xw0 ++ [x] ∧ DTs K H' xw0 (ws0.map entD) ∧ DT K H' x (entD e) := by
          have hl := dW.len
          rw [List.map_append, List.length_append] at hl
          have h1 := dW.take (ws0.map entD).length
          have h2 := dW.drop (ws0.map entD).length
          rw [List.map_append, List.take_left' rfl] at h1
          rw [List.map_append, List.drop_left' rfl] at h2
          obtain ⟨x, ex, dx⟩ := h2.inv1
          exact ⟨_, x, by rw [← ex, List.take_append_drop], h1, dx⟩
        have ne : (!(xw0 ++ [x]).isEmpty) = true := by simp
        refine if_true_of' ne ?_
        obtain ⟨b, vp, vk, rfl, hb, dp, dk⟩ := dx.entD_inv
        obtain ⟨c, vq, vc, rfl, hc, dq, dc⟩ := dk.node_inv
        obtain ⟨cc, xk, rfl, hcc, dks⟩ := dc.inv
        have eqn : (ws0 ++ [e]).reverse.flatMap preE = e :: ((kidsOf e).flatMap preE ++ ws0.reverse.flatMap preE) := by
          rw [List.reverse_append, List.reverse_singleton, List.flatMap_append, List.flatMap_singleton, preE_eq]
          rfl
        have kl : e.2.ks.length ≤ 1000 := by
          have h1 := kids_le e
          have h2 : (preE e).length ≤ (pre [] n).length := by
            rw [← eq, List.length_append, eqn, ]
            have : (preE e).length = 1 + ((kidsOf e).flatMap preE).length := by rw [preE_eq]; simp; omega
            rw [this]
            simp
            omega
          rw [kids_len] at h1
          omega
        refine ⟨fun σ2 H2 => ∃ m', m' < ((ws0 ++ [e]).reverse.flatMap preE).length ∧ ∃ (fs ws : List PN) (xf xw : List V) (y3 y4 y5 y6 : Option V), σ2 = [some (.ref m), some (.ref pf), some (.ref pw), y3, y4, y5, y6] ∧ Same H H2 ∧ H2 pf = some (.lst xf) ∧ H2 pw = some (.lst xw) ∧ DTs K H2 xf (fs.map entD) ∧ DTs K H2 xw (ws.map entD) ∧ fs ++ ws.reverse.flatMap preE = pre [] n ∧ m' = (ws.reverse.flatMap preE).length, fun σ2 H2 z => z, ?_⟩
        refine ⟨_, rfl, .inl ⟨rfl, _, SqL.of hW⟩, _, _, _, rfl, rfl, hW, (by simp : (xw0 ++ [V.ref b])[(xw0 ++ [V.ref b]).length - 1]? = some (V.ref b)), ?_⟩
        have x1 : Xt pw H' (upd H' pw (.lst (xw0 ++ [V.ref b]).dropLast)) := Xt.upd
        have iw : IsL H' pw := ⟨_, hW⟩
        have sm1 := same_mut (o := .lst (xw0 ++ [V.ref b]).dropLast) sm hw0
        rw [List.dropLast_concat] at *
        refine ⟨_, _, rfl, (tp_xt iw x1 hb).sq, rfl, _, _, rfl, _, _, rfl, rfl, ?_⟩
        have hF1 := x1 _ _ fw hF
        have hW1 : (upd H' pw (.lst xw0)) pw = some (.lst xw0) := upd_same
        refine ⟨_, rfl, .inl ⟨rfl, _, SqL.of hF1⟩, _, rfl, _, rfl, two_le, fun pu hu => ?_⟩
        have s5 := same_new (o := .tup [vp, V.ref c]) hu
        have hF2 := s5 _ _ hF1
        refine ⟨_, _, _, rfl, rfl, hF2, ?_, ?_⟩
        · have l1 : xf.length = fs.length := by rw [dF.len, List.length_map]
          have l2 : fs.length ≤ 1000 := by
            have := congrArg List.length eq
            rw [List.length_append] at this
            omega
          rw [l1]
          exact small1000 l2
        have if2 : IsL (upd (upd H' pw (.lst xw0)) pu (.tup [vp, V.ref c])) pf := ⟨_, hF2⟩
        have x2 : Xt pf (upd (upd H' pw (.lst xw0)) pu (.tup [vp, V.ref c])) (upd (upd (upd H' pw (.lst xw0)) pu (.tup [vp, V.ref c])) pf (.lst (xf ++ [.ref pu]))) := Xt.upd
        have sm2 := same_mut (o := .lst (xf ++ [.ref pu])) (sm1.trans s5) hf
        have up : ∀ {v : V} {d : PyData}, DT K H' v d → DT K (upd (upd (upd H' pw (.lst xw0)) pu (.tup [vp, V.ref c])) pf (.lst (xf ++ [.ref pu]))) v d := fun h => ((h.xt iw x1).same s5).xt if2 x2
        have ups : ∀ {v : List V} {d : List PyData}, DTs K H' v d → DTs K (upd (upd (upd H' pw (.lst xw0)) pu (.tup [vp, V.ref c])) pf (.lst (xf ++ [.ref pu]))) v d := fun h => ((h.xt iw x1).same s5).xt if2 x2
        have upq : ∀ {a : Addr} {xs : List V}, Tp H' a xs → Tp (upd (upd (upd H' pw (.lst xw0)) pu (.tup [vp, V.ref c])) pf (.lst (xf ++ [.ref pu]))) a xs := fun h => tp_xt if2 x2 (tp_same s5 (tp_xt iw x1 h))
        have dU : DT K (upd (upd (upd H' pw (.lst xw0)) pu (.tup [vp, V.ref c])) pf (.lst (xf ++ [.ref pu]))) (.ref pu) (entD e) := .mk2 (tp_xt if2 x2 (Tp.of upd_same)) (up dp) (up dk)
        refine ⟨_, rfl, _, _, _, _, rfl, rfl, (upq hc).sq, atI_nat (j := 1) rfl, ?_⟩
        refine ⟨_, rfl, _, _, rfl, (upq hcc).sq, _, rfl, by decide, by decide, by omega, ?_, ?_⟩
        · rw [dks.len, List.length_map]
          omega
        generalize hH3 : upd (upd (upd H' pw (.lst xw0)) pu (.tup [vp, V.ref c])) pf (.lst (xf ++ [.ref pu])) = H3 at *
        have hF3 : H3 pf = some (.lst (xf ++ [.ref pu])) := by rw [← hH3]; exact upd_same
        have hW3 : H3 pw = some (.lst xw0) := x2 _ _ (Ne.symm fw) (s5 _ _ hW1)
        have lk : xk.length = e.2.ks.length := by rw [dks.len, List.length_map]
        refine for_rangeC (fun i σ' H4 => ∃ (xw4 : List V) (y6 : Option V), σ' = [some (.ref m), some (.ref pf), some (.ref pw), some vp, some (.ref c), some (.ref cc), y6] ∧ Same H H4 ∧ Xt pw H3 H4 ∧ H4 pw = some (.lst xw4) ∧ DTs K H4 xw4 ((ws0 ++ (kidsOf e).reverse.take i).map entD)) ⟨xw0, y6, rfl, sm2, Xt.refl _, hW3, ?_⟩ ?_ ?_
        · simpa using ups dW0
        · rintro i σ' H4 hi ⟨xw4, y6, rfl, sm4, x4, hW4, dW4⟩
          have ia : i < e.2.ks.length := by
            rw [← lk]
            omega
          have iw3 : IsL H3 pw := ⟨_, hW3⟩
          have iw4 : IsL H4 pw := ⟨_, hW4⟩
          have ei : (0 : Int) + ((((xk.length : Int) - 0).toNat : Nat) : Int) - 1 + (i : Int) * (-1) = ((e.2.ks.length - 1 - i : Nat) : Int) := by
            rw [lk]
            omega
          have hk : e.2.ks[e.2.ks.length - 1 - i]? = some e.2.ks[e.2.ks.length - 1 - i] := List.getElem?_eq_getElem (by omega)
          obtain ⟨xx, hxx, dxx⟩ := (ups dks).at_ (i := e.2.ks.length - 1 - i) (d := nodeD e.2.ks[e.2.ks.length - 1 - i]) (by rw [List.getElem?_map, hk]; rfl)
          have dxx4 := dxx.xt iw3 x4
          obtain ⟨ap, rfl, hap⟩ := ((up dp).xt iw3 x4).path_inv
          have hsz : e.1.length ≤ 1000 := by
            have hm : e ∈ preE ([], n) := by
              show e ∈ pre [] n
              rw [← eq, eqn]
              simp
            have := pre_len _ ([], n) e (Nat.le_refl _) hm
            have h2 : (preE ([], n)).length ≤ 1000 := hn
            simp only [List.length_nil] at this
            omega
          refine ⟨_, rfl, .inl ⟨rfl, _, SqL.of hW4⟩, _, rfl, _, rfl, (by decide : 1 ≤ sizeLine), fun p1 hp1 => ?_⟩
          have s6 := same_new (o := .tup [.int ((0 : Int) + ((((xk.length : Int) - 0).toNat : Nat) : Int) - 1 + (i : Int) * (-1))]) hp1
          refine ⟨ap, p1, _, _, rfl, rfl, tp_same s6 hap, Tp.of upd_same, ?_, fun p2 H5 s7 hp2 => ?_⟩
          · rw [List.length_map]
            exact Nat.le_trans (show e.1.length + 1 ≤ 2000 by omega) (by decide)
          rw [ei] at hp2
          have s67 := s6.trans s7
          have xkk : Tp H5 cc xk := tp_same s67 (tp_xt iw3 x4 (upq hcc))
          refine ⟨_, rfl, _, rfl, _, _, _, _, rfl, rfl, xkk, by rw [ei]; exact atI_nat hxx, two_le, fun p3 hp3 => ?_⟩
          have s8 := same_new (o := .tup [.ref p2, xx]) hp3
          have s678 := s67.trans s8
          have hW5 := s678 _ _ hW4
          refine ⟨_, _, _, rfl, rfl, hW5, ?_, ?_⟩
          · rw [dW4.len, List.length_map]
            have h1 : ws0.length ≤ 1000 := by
              have h0 := len_le_flat ws0.reverse
              rw [List.length_reverse] at h0
              have := congrArg List.length eq
              rw [List.length_append, eqn] at this
              simp only [List.length_cons, List.length_append] at this
              omega
            rw [List.length_append, List.length_take]
            exact Nat.lt_of_le_of_lt (show _ ≤ 5000 by omega) (by decide)
          · have x5 : Xt pw H4 (upd (upd H5 p3 (.tup [.ref p2, xx])) pw (.lst (xw4 ++ [.ref p3]))) := (Xt.of s678).trans Xt.upd
            have x6 : Xt pw (upd H5 p3 (.tup [.ref p2, xx])) (upd (upd H5 p3 (.tup [.ref p2, xx])) pw (.lst (xw4 ++ [.ref p3]))) := Xt.upd
            have iw5 : IsL (upd H5 p3 (.tup [.ref p2, xx])) pw := ⟨_, hW5⟩
            refine ⟨xw4 ++ [.ref p3], _, rfl, same_mut (sm4.trans s678) hw0, x4.trans x5, upd_same, ?_⟩
            have hr : (kidsOf e).reverse[i]? = some (e.1 ++ [((e.2.ks.length - 1 - i : Nat) : Int)], e.2.ks[e.2.ks.length - 1 - i]) := by
              rw [List.getElem?_reverse (by rw [kids_len]; exact ia), kids_len]
              exact kids_get hk
            rw [take_next hr, ← List.append_assoc, List.map_append]
            refine (dW4.xt iw4 x5).snoc ?_
            refine .mk2 (tp_xt iw5 x6 (Tp.of upd_same)) ?_ (((dxx4.same s67).same s8).xt iw5 x6)
            have hq : Tp H5 p2 ((e.1 ++ [((e.2.ks.length - 1 - i : Nat) : Int)]).map V.int) := by
              rw [List.map_append]
              exact hp2
            exact ((DT.path hq).same s8).xt iw5 x6
        · rintro σ' H4 ⟨xw4, y6, rfl, sm4, x4, hW4, dW4⟩
          have iw3 : IsL H3 pw := ⟨_, hW3⟩
          have et : (kidsOf e).reverse.take (((xk.length : Int) - 0).toNat) = (kidsOf e).reverse := by
            refine List.take_of_length_le ?_
            rw [List.length_reverse, kids_len, lk]
            omega
          rw [et] at dW4
          have er : (ws0 ++ (kidsOf e).reverse).reverse.flatMap preE = (kidsOf e).flatMap preE ++ ws0.reverse.flatMap preE := by
            rw [List.reverse_append, List.reverse_reverse, List.flatMap_append]
          refine ⟨_, ?_, fs ++ [e], ws0 ++ (kidsOf e).reverse, xf ++ [.ref pu], xw4, _, _, _, _, rfl, sm4, x4 _ _ fw hF3, hW4, ?_, dW4, ?_, rfl⟩
          · rw [er, eqn]
            simp
          · rw [List.map_append]
            refine DTs.xt (DTs.snoc (ups dF) dU) iw3 x4
          · rw [er, ← eq, eqn]
            simp
def sp_check (K : PySem.W.Frag) (M L : Addr) : Sp := fun vs H Q E => ∃ (v : V) (g : Int) (n : Node), vs = [v] ∧ DT K H v (marketD g n) ∧ NodeB n ∧ (pre [] n).length ≤ 1000 ∧ (BadM g n → ∀ H', Same H H' → E (.ref M) none H') ∧ (¬ BadM g n → BigM n → ∀ H', Same H H' → E (.ref L) none H') ∧ (¬ BadM g n → ¬ BigM n → ∀ H', Same H H' → Q .non H')
theorem ok_check_market (T : Top K mg) : FnOk P w K mg base (L2.CX P w) 3 T.a_check_market T.d_check_market ["market"] (sp_check K T.c_MarketError T.c_TooLarge) := by
  refine T.check_market_F.okX sc_check_market (fun vs H Q E h => ?_) (fun cdv A outer s H vs Q E hr h => ?_)
  · obtain ⟨_, _, _, rfl, _⟩ := h
    rfl
  · obtain ⟨v, g, n, rfl, dm, hb, hn, kM, kL, kQ⟩ := h
    obtain ⟨m, vn, rfl, hm, dn⟩ := dm.market_inv
    refine ⟨_, (pss_cons (ps_asg (pv 0) (pg_tup rfl (pgs_cons (pg_name (i := 1) sc_check_market.nd rfl (Or.inl rfl)) (pgs_cons (pg_name (i := 2) sc_check_market.nd rfl (Or.inl rfl)) pgs_nil))))
      (pss_cons (ps_if (pt_not (pt_chain op_le op_le pe_int (pv 1) (pe_glob (v := .int 4) (by rfl) T.g_GOODS_LIMIT ⟨_, rfl⟩))) (pss_one (ps_raise rfl (takes_of rfl rfl rfl rfl) (pmk_own PySem.F.excBase_ValueError T.x_MarketError T.g_MarketError T.k_MarketError (raises_own T.b_MarketError T.t_MarketError) rfl))) pss_nil)
      (pss_cons (ps_set (i := 3) sc_check_market.nd rfl (Or.inl rfl) (pe_call (ok_walk T) (hr.mono (by decide : 1 ≤ 2)) (by rfl) T.g_walk T.walk_F.kp T.walk_b .nil pass0 (pa_cons (pv 0) pa_nil)))
      (pss_cons (ps_for (passes_of rfl) rfl (pi_list (pv 3)) (pg_tup rfl (pgs_cons (pg_name (i := 2) sc_check_market.nd rfl (Or.inl rfl)) (pgs_cons (pg_name (i := 4) sc_check_market.nd rfl (Or.inl rfl)) pgs_nil))) (pss_one (ps_expr (pe_callS (ok__check_prices T) (hr.mono (by decide : 2 ≤ 2)) rfl T.g__check_prices T._check_prices_F.kp T._check_prices_b (fun σ => passAt (takes_of rfl rfl rfl rfl) σ) (pa_cons (pv 1) (pa_cons (pe_ix ix_tup (pv 4) pe_int (fun _ _ => rfl)) pa_nil))))))
      (pss_cons (ps_setLc (i := 5) (own := [("path", 6), ("node", 4)]) (g := (gTup K 2 (gCons (gName 6) (gCons (gName 4) gNil)))) (tt := tNot (tTruK K (tOp (rIxT K) (tVar 4) (tC (.int 1))))) (by rfl) sc_check_market.nd rfl rfl (sw_true rfl rfl rfl (by decide +kernel)) (pi_list (pv 3)) (blkOk_by (own := [("path", 6), ("node", 4)]) (N := ["market", "goods", "_", "nodes", "node", "end_times", "path"]) (sc := defScope s_check_market) (by decide +kernel)) (fun _ _ _ _ _ => (pg_tup rfl (pgs_cons (pg_name (i := 6) sc_check_market.nd rfl (Or.inl rfl)) (pgs_cons (pg_name (i := 4) sc_check_market.nd rfl (Or.inl rfl)) pgs_nil)))) (fun _ _ _ _ _ => (pts_one (pt_not (pt_truth (pe_ix (r := rIxT K) ix_tup (pv 4) pe_int (fun _ _ => rfl)) (by intro _; rfl))))) (fun _ _ _ _ _ => (pe_callB (r := rLenT K) call_lenT (by rfl) T.n_len (by decide +kernel) (pa_cons (pv 6) pa_nil))))
      (pss_cons (ps_if (pt_cmpR op_ne (pe_callB (cr_min rfl) (by rfl) T.n_min (by decide +kernel) (pa_cons (pv 5) pa_nil)) (pe_callB (cr_max rfl) (by rfl) T.n_max (by decide +kernel) (pa_cons (pv 5) pa_nil)) (nomark _)) (pss_one (ps_raise rfl (takes_of rfl rfl rfl rfl) (pmk_own PySem.F.excBase_ValueError T.x_MarketError T.g_MarketError T.k_MarketError (raises_own T.b_MarketError T.t_MarketError) rfl))) pss_nil)
      (pss_one (ps_if (PW.pt (pw_or (pt_cmpR op_gt (pe_callB call_lenL (by rfl) T.n_len (by decide +kernel) (pa_cons (pv 3) pa_nil)) (pe_glob (v := .int 40) (by rfl) T.g_MOMENT_LIMIT ⟨_, rfl⟩) (nomark _)) (pw_or1 (pt_cmpR op_gt (pe_ix ix_list (pv 5) pe_int (fun _ _ => rfl)) (pe_glob (v := .int 5) (by rfl) T.g_TIME_LIMIT ⟨_, rfl⟩) (nomark _))))) (pss_one (ps_raise rfl (takes_of rfl rfl rfl rfl) (pmk_own PySem.F.excBase_ValueError T.x_TooLarge T.g_TooLarge T.k_TooLarge (raises_own T.b_TooLarge T.t_TooLarge) rfl))) pss_nil)))))))), ?_⟩
    refine ⟨_, rfl, _, _, rfl, hm.sq, rfl, _, _, rfl, _, _, rfl, rfl, ?_⟩
    -- goods
    refine ⟨_, rfl, _, _, rfl, rfl, _, rfl, ite2 (fun e1 => ⟨_, _, rfl, rfl, _, rfl, ?_⟩) (fun e1 => ⟨_, rfl, iteT (kM (.inl fun z => e1 (decide_eq_true z.1)) H (Same.refl H))⟩)⟩
    have g1 : 1 ≤ g := of_decide_eq_true e1
    by_cases g4 : g ≤ 4
    · rw [decide_eq_true g4]
      refine iteF ?_
      -- nodes
      refine ⟨_, rfl, .ref m, g, n, rfl, dm, hn, fun pf xf H1 s1 hf hF dF => ?_⟩
      have lf : xf.length = (pre [] n).length := by rw [dF.len, List.length_map]
      refine ⟨_, rfl, pf, rfl, ⟨_, SqL.of hF⟩, for_list (K := K) (a := pf) (xs := xf) (fun i σ H' => ∃ (y2 y4 y5 y6 : Option V), σ = [some (.ref m), some (.int g), y2, some (.ref pf), y4, y5, y6] ∧ Same H1 H' ∧ ∀ e ∈ (pre [] n).take i, ¬ badPs g e.2.ps) ⟨_, _, _, _, rfl, Same.refl _, fun e he => by simp at he⟩ (fun i σ H' _ ⟨_, _, _, _, _, sm, _⟩ => SqL.of (sm _ _ hF)) ?_ ?_⟩
      · rintro i x σ H' hi ⟨y2, y4, y5, y6, rfl, sm, hg⟩
        obtain ⟨d, hd, dx⟩ := dF.get hi
        rw [List.getElem?_map] at hd
        obtain ⟨e, he, rfl⟩ := Option.map_eq_some_iff.mp hd
        obtain ⟨b, vp, vk, rfl, hb2, dp, dk⟩ := (dx.same sm).entD_inv
        obtain ⟨c, vq, vc, rfl, hc, dq, dc⟩ := dk.node_inv
        refine ⟨_, _, rfl, hb2.sq, rfl, _, _, rfl, _, _, rfl, rfl, ?_⟩
        refine ⟨_, rfl, _, rfl, _, _, _, _, rfl, rfl, hc.sq, atI_nat (j := 0) rfl, g, vq, e.2.ps, rfl, dq, hb e (List.mem_of_getElem? he), fun z H2 s2 => ?_, fun z H2 s2 => ?_⟩
        · exact kM (.inr (.inl ⟨e, List.mem_of_getElem? he, z⟩)) H2 ((s1.trans sm).trans s2)
        · refine ⟨_, _, _, _, rfl, sm.trans s2, fun q hq => ?_⟩
          rw [take_next he] at hq
          rcases List.mem_append.mp hq with hq | hq
          · exact hg q hq
          · rw [List.mem_singleton.mp hq]
            exact z
      · rintro σ H2 ⟨y2, y4, y5, y6, rfl, s2, hg⟩
        rw [lf, List.take_length] at hg
        have hF2 := s2 _ _ hF
        have dF2 := dF.same s2
        -- end_times
        refine ⟨_, rfl, pf, rfl, ⟨_, SqL.of hF2⟩, fun D hD => lc_list (K := K) (a := pf) (xs := xf) (fun i H' => ∃ o, Same H2 H' ∧ H' D = some (.lst o) ∧ o = (((pre [] n).take i).filter fun e => e.2.ks.isEmpty).map fun e => V.int (e.1.length : Int)) ⟨[], same_new hD, upd_same, rfl⟩ (fun i H' _ ⟨_, sm, _⟩ => SqL.of (sm _ _ hF2)) ?_ ?_⟩
        · rintro i x H' hi ⟨o, sm, hO, eO⟩
          obtain ⟨d, hd, dx⟩ := dF2.get hi
          rw [List.getElem?_map] at hd
          obtain ⟨e, he, rfl⟩ := Option.map_eq_some_iff.mp hd
          obtain ⟨b, vp, vk, rfl, hb2, dp, dk⟩ := (dx.same sm).entD_inv
          obtain ⟨c, vq, vc, rfl, hc, dq, dc⟩ := dk.node_inv
          obtain ⟨cc, xk, rfl, hcc, dks⟩ := dc.inv
          obtain ⟨ap, rfl, hap⟩ := dp.path_inv
          have lk : xk.length = e.2.ks.length := by rw [dks.len, List.length_map]
          have ek : xk.isEmpty = e.2.ks.isEmpty := by
            rw [Bool.eq_iff_iff, List.isEmpty_iff_length_eq_zero, List.isEmpty_iff_length_eq_zero, lk]
          refine ⟨_, _, rfl, hb2.sq, rfl, _, _, rfl, _, _, rfl, rfl, rfl, ?_⟩
          cases hz : e.2.ks.isEmpty with
          | true =>
            refine ⟨_, rfl, _, _, _, _, rfl, rfl, hc.sq, atI_nat (j := 1) rfl, _, tru_tup' hcc (ek.trans hz), ?_⟩
            refine iteT ⟨_, rfl, _, _, rfl, (hap).sq, o, hO, ?_, _, same_mut sm hD, upd_same, ?_⟩
            · rw [eO, List.length_map]
              refine Nat.lt_of_le_of_lt (List.length_filter_le _ _) (Nat.lt_of_le_of_lt (List.length_take_le' _ _) (small1000 hn))
            · rw [filter_next he, hz, eO]
              simp
          | false =>
            refine ⟨_, rfl, _, _, _, _, rfl, rfl, hc.sq, atI_nat (j := 1) rfl, _, tru_tup' hcc (ek.trans hz), ?_⟩
            refine iteF ⟨o, sm, hO, ?_⟩
            rw [filter_next he, hz, eO]
            simp
        · rintro H3 ⟨o, s3, hO, eO⟩
          rw [lf, List.take_length] at eO
          have eO2 : o = ((endLens n).map fun a : Nat => (a : Int)).map V.int := by
            rw [eO]
            unfold endLens
            rw [List.map_map, List.map_map]
            rfl
          rw [eO2] at hO
          have lp : 0 < ((endLens n).map fun a : Nat => (a : Int)).length := by
            rw [List.length_map]
            exact ends_pos n
          have sAll := (s1.trans s2).trans s3
          have hF3 := s3 _ _ hF2
          refine ⟨_, rfl, D, _, rfl, SqL.of hO, lp, fun lo hlo hlo2 => ⟨_, rfl, D, _, rfl, SqL.of hO, lp, fun hi hhi hhi2 => ?_⟩⟩
          obtain ⟨la, hla, rfl⟩ := List.mem_map.mp hlo
          obtain ⟨lb, hlb, rfl⟩ := List.mem_map.mp hhi
          have same_iff : la = lb ↔ ∀ a ∈ endLens n, ∀ b ∈ endLens n, a = b := by
            constructor
            · intro e a ha b hb
              have h1 := hlo2 _ (List.mem_map.mpr ⟨a, ha, rfl⟩)
              have h2 := hhi2 _ (List.mem_map.mpr ⟨a, ha, rfl⟩)
              have h3 := hlo2 _ (List.mem_map.mpr ⟨b, hb, rfl⟩)
              have h4 := hhi2 _ (List.mem_map.mpr ⟨b, hb, rfl⟩)
              omega
            · exact fun h => h la hla lb hlb
          refine ⟨rfl, _, rfl, ite2 (fun e => ?_) (fun e => ?_)⟩
          · have hne : la ≠ lb := fun z => by
              rw [z] at e
              simp at e
            exact kM (.inr (.inr ⟨la, hla, lb, hlb, hne⟩)) H3 sAll
          · have heq : la = lb := by
              have : (V.int (la : Int)) = V.int (lb : Int) := by simpa using e
              have := V.int.inj this
              omega
            have good : ¬ BadM g n := by
              rintro (z | ⟨e, he, z⟩ | ⟨a, ha, b, hb', z⟩)
              · exact z ⟨g1, g4⟩
              · exact hg e he z
              · exact z (same_iff.mp heq a ha b hb')
            refine ⟨_, rfl, _, _, rfl, SqL.of hF3, _, _, rfl, rfl, _, rfl, ?_⟩
            have e0 : ∃ a0, (endLens n)[0]? = some a0 := ⟨_, List.getElem?_eq_getElem (ends_pos n)⟩
            obtain ⟨a0, h0⟩ := e0
            have hm0 := List.mem_of_getElem? h0
            have h0' : (((endLens n).map fun a : Nat => (a : Int)).map V.int)[0]? = some (.int (a0 : Int)) := by
              rw [List.getElem?_map, List.getElem?_map, h0]
              rfl
            by_cases c1 : (4 * 10 : Int) < (xf.length : Int)
            · refine if_true_of' (decide_eq_true c1) (iteT (kL good (.inl ?_) H3 sAll))
              omega
            · refine if_false_of' (decide_eq_false c1) ⟨_, rfl, _, _, _, _, rfl, rfl, SqL.of hO, atI_nat (j := 0) h0', _, _, rfl, rfl, _, rfl, ?_⟩
              by_cases c2 : (5 : Int) < (a0 : Int)
              · exact if_true_of' (decide_eq_true c2) (kL good (.inr ⟨a0, hm0, by omega⟩) H3 sAll)
              · refine if_false_of' (decide_eq_false c2) (kQ good ?_ H3 sAll)
                rintro (z | ⟨a, ha, z⟩)
                · omega
                · have := same_iff.mp heq a ha a0 hm0
                  omega
    · rw [decide_eq_false g4]
      exact iteT (kM (.inl fun z => g4 z.2) H (Same.refl H))
end
end Nl

namespace Nl
open PySem PySem.Spec PyProof.Rows L2
section
variable {P : Program} {w : World} {K : PySem.W.Frag} {mg : Str → Option Value} {base : Heap}
def sp_node_at (K : PySem.W.Frag) (M : Addr) : Sp := fun vs H Q E => ∃ (v va : V) (g : Int) (n : Node) (p : List Int), vs = [v, va] ∧ DT K H v (marketD g n) ∧ DT K H va (pathD p) ∧ (find n p = none → E (.ref M) none H) ∧ (∀ m, find n p = some m → ∀ v', DT K H v' (nodeD m) → Q v' H)
theorem ok_node_at (T : Top K mg) : FnOk P w K mg base (L2.CX P w) 1 T.a_node_at T.d_node_at ["market", "path"] (sp_node_at K T.c_MomentError) := by
  refine T.node_at_F.okX sc_node_at (fun vs H Q E h => ?_) (fun cdv A outer s H vs Q E hr h => ?_)
  · obtain ⟨_, _, _, _, _, rfl, _⟩ := h
    rfl
  · obtain ⟨_, _, g, n, p, rfl, dm, dp, kE, kQ⟩ := h
    obtain ⟨m, vn, rfl, hm, dn⟩ := dm.market_inv
    obtain ⟨a, rfl, ha⟩ := dp.path_inv
    refine ⟨_, (pss_cons (ps_set (i := 2) sc_node_at.nd rfl (Or.inl rfl) (pe_ix ix_tup (pv 0) pe_int (fun _ _ => rfl)))
      (pss_cons (ps_for (passes_of rfl) rfl (pi_tup (pv 1)) (pg_name (i := 3) sc_node_at.nd rfl (Or.inl rfl)) (pss_cons (ps_set (i := 4) sc_node_at.nd rfl (Or.inl rfl) (pe_ix ix_tup (pv 2) pe_int (fun _ _ => rfl)))
      (pss_cons (ps_if (pt_not (pt_chain op_le op_lt pe_int (pv 3) (pe_callB call_lenT (by rfl) T.n_len (by decide +kernel) (pa_cons (pv 4) pa_nil)))) (pss_one (ps_raise rfl (takes_of rfl rfl rfl rfl) (pmk_own PySem.F.excBase_ValueError T.x_MomentError T.g_MomentError T.k_MomentError (raises_own T.b_MomentError T.t_MomentError) rfl))) pss_nil)
      (pss_one (ps_set (i := 2) sc_node_at.nd rfl (Or.inl rfl) (pe_ix ix_tup (pv 4) (pv 3) (fun _ _ => rfl)))))))
      (pss_one (ps_ret (pv 2))))), ?_⟩
    refine ⟨_, rfl, _, _, _, _, rfl, rfl, hm.sq, atI_nat (j := 1) rfl, ?_⟩
    refine ⟨_, rfl, a, rfl, ⟨_, ha.sq⟩, for_tup (fun i σ H' => ∃ (vn : V) (m' : Node) (y z : Option V), σ = [some (.ref m), some (.ref a), some vn, y, z] ∧ H' = H ∧ DT K H vn (nodeD m') ∧ find n p = find m' (p.drop i)) ⟨vn, n, none, none, rfl, rfl, dn, rfl⟩ (fun i σ H' _ ⟨_, _, _, _, _, e, _⟩ => (e ▸ ha).sq) ?_ ?_⟩
    · rintro i x σ H' hi ⟨vn, m', y, z, rfl, rfl, dk, ef⟩
      rw [List.getElem?_map] at hi
      obtain ⟨j, hj, rfl⟩ := Option.map_eq_some_iff.mp hi
      obtain ⟨c, vq, vc, rfl, hc, dq, dc⟩ := dk.node_inv
      obtain ⟨cc, xk, rfl, hcc, dks⟩ := dc.inv
      have lk : xk.length = m'.ks.length := by rw [dks.len, List.length_map]
      have il := (List.getElem?_eq_some_iff.mp hj).1
      have ed : p.drop i = j :: p.drop (i + 1) := by
        rw [List.drop_eq_getElem_cons il]
        rw [List.getElem?_eq_getElem il] at hj
        rw [Option.some.inj hj]
      have out : ¬ (0 ≤ j ∧ j < (m'.ks.length : Int)) → find n p = none := fun z => by
        rw [ef, ed]
        exact find_out z
      refine ⟨_, rfl, _, _, _, _, rfl, rfl, hc.sq, atI_nat (j := 1) rfl, ?_⟩
      refine ⟨_, rfl, _, _, rfl, rfl, _, rfl, ite2 (fun e1 => ⟨_, rfl, _, _, rfl, (hcc).sq, _, _, rfl, rfl, _, rfl, ?_⟩) (fun e1 => ⟨_, rfl, iteT (kE (out fun z => e1 (decide_eq_true z.1)))⟩)⟩
      have j0 : 0 ≤ j := of_decide_eq_true e1
      by_cases j1 : j < (xk.length : Int)
      · rw [decide_eq_true j1]
        refine iteF ?_
        obtain ⟨jn, rfl⟩ := Int.eq_ofNat_of_zero_le j0
        have hk : m'.ks[jn]? = some m'.ks[jn] := List.getElem?_eq_getElem (by omega)
        obtain ⟨xx, hxx, dxx⟩ := dks.at_ (i := jn) (d := nodeD m'.ks[jn]) (by rw [List.getElem?_map, hk]; rfl)
        refine ⟨_, rfl, _, rfl, _, _, _, _, rfl, rfl, hcc.sq, atI_nat hxx, xx, _, _, _, rfl, rfl, dxx, ?_⟩
        rw [ef, ed, find_cons, hk]
        rfl
      · rw [decide_eq_false j1]
        exact iteT (kE (out fun z => j1 (by rw [lk]; exact z.2)))
    · rintro σ H' ⟨vn, m', y, z, rfl, rfl, dk, ef⟩
      rw [List.length_map, List.drop_length] at ef
      exact ⟨_, rfl, kQ m' ef _ dk⟩
def Good (g : Int) (n : Node) : Prop := ¬ BadM g n ∧ ¬ BigM n
/-- a market that is fine -/
structure Mk (K : PySem.W.Frag) (H : Hp) (v : V) (g : Int) (n : Node) : Prop where
  d : DT K H v (marketD g n)
  b : NodeB n
  l : (pre [] n).length ≤ 1000
theorem Mk.same {H H' : Hp} {v : V} {g : Int} {n : Node} (h : Mk K H v g n) (s : Same H H') : Mk K H' v g n := ⟨h.d.same s, h.b, h.l⟩
theorem Mk.xt {H H' : Hp} {v : V} {g : Int} {n : Node} {p : Addr} (h : Mk K H v g n) (i : IsL H p) (s : Xt p H H') : Mk K H' v g n := ⟨h.d.xt i s, h.b, h.l⟩
/-- what checks ahead of all -/
def spM (K : PySem.W.Frag) (M L : Addr) (vs : List V) (v : V) (H : Hp) (E : XK) (k : Hp → Prop) : Prop := ∃ (g : Int) (n : Node), Mk K H v g n ∧ (BadM g n → ∀ H', Same H H' → E (.ref M) none H') ∧ (¬ BadM g n → BigM n → ∀ H', Same H H' → E (.ref L) none H')
def sp_moments (K : PySem.W.Frag) : Sp := fun vs H Q _ => ∃ (v : V) (g : Int) (n : Node), vs = [v] ∧ Mk K H v g n ∧ Good g n ∧ ∀ v' H', Same H H' → DT K H' v' (.tuple ((pre [] n).map fun e => pathD e.1)) → Q v' H'
def endsN (n : Node) : List PN := (pre [] n).filter fun e => e.2.ks.isEmpty
def sp_ends (K : PySem.W.Frag) : Sp := fun vs H Q _ => ∃ (v : V) (g : Int) (n : Node), vs = [v] ∧ Mk K H v g n ∧ Good g n ∧ ∀ v' H', Same H H' → DT K H' v' (.tuple ((endsN n).map fun e => pathD e.1)) → Q v' H'
def sp_last (K : PySem.W.Frag) : Sp := fun vs H Q _ => ∃ (v : V) (g : Int) (n : Node), vs = [v] ∧ Mk K H v g n ∧ Good g n ∧ ∀ H' e, Same H H' → (endsN n)[0]? = some e → Q (.int (e.1.length : Int)) H'
theorem endsN_pos (n : Node) : 0 < (endsN n).length := by
  have := ends_pos n
  unfold endLens at this
  rw [List.length_map] at this
  exact this
def sp_price (K : PySem.W.Frag) (M L N : Addr) : Sp := fun vs H Q E => ∃ (v va : V) (g : Int) (n : Node) (p : List Int) (k : Int), vs = [v, va, .int k] ∧ Mk K H v g n ∧ DT K H va (pathD p) ∧ (BadM g n → ∀ H', Same H H' → E (.ref M) none H') ∧ (¬ BadM g n → BigM n → ∀ H', Same H H' → E (.ref L) none H') ∧
  (Good g n → (find n p = none ∨ ¬ (0 ≤ k ∧ k < g)) → ∀ H', Same H H' → E (.ref N) none H') ∧ (Good g n → ∀ m, find n p = some m → 0 ≤ k → k < g → ∀ v' H' d, Same H H' → (prD ((1, 1), (1, 1)) :: m.ps.map prD)[k.toNat]? = some d → DT K H' v' d → Q v' H')
def sp_nexts (K : PySem.W.Frag) (M L N : Addr) : Sp := fun vs H Q E => ∃ (v va : V) (g : Int) (n : Node) (p : List Int), vs = [v, va] ∧ Mk K H v g n ∧ DT K H va (pathD p) ∧ (BadM g n → ∀ H', Same H H' → E (.ref M) none H') ∧ (¬ BadM g n → BigM n → ∀ H', Same H H' → E (.ref L) none H') ∧
  (Good g n → find n p = none → ∀ H', Same H H' → E (.ref N) none H') ∧ (Good g n → ∀ m, find n p = some m → ∀ H', Same H H' → Q (.int (m.ks.length : Int)) H')
end
end Nl

namespace Nl
open PySem PySem.Spec PyProof.Rows L2
section
variable {P : Program} {w : World} {K : PySem.W.Frag} {mg : Str → Option Value} {base : Heap}
theorem mulK {k : Nat} {i j : Int} (hk : k ≤ 3000) (ha : Bd k i) (hb : Bd k j) : CMulW i j := mulX (ha.mono hk) (hb.mono hk)
def sp_begin (K : PySem.W.Frag) : Sp := fun vs H Q _ => ∃ (a : Addr) (ns : List Int), vs = [.ref a] ∧ SqL K H a (ns.map V.int) ∧ ∀ pd ps H', Same H H' → H pd = none → H ps = none → Dst H' pd ps → Q (.ref pd) H'
theorem ok__law_begin (T : Top K mg) : FnOk P w K mg base CX0 1 T.a__law_begin T.d__law_begin ["script"] (sp_begin K) := by
  refine T._law_begin_F.ok sc__law_begin (fun vs H Q E h => ?_) (fun cdv A outer s H vs Q E hr h => ?_)
  · obtain ⟨_, _, rfl, _⟩ := h
    rfl
  · obtain ⟨a, ns, rfl, hS, fin⟩ := h
    refine ⟨_, (pss_cons (ps_set (i := 1) sc__law_begin.nd rfl (Or.inl rfl) pe_int)
      (pss_cons (ps_for PassesOwn.never rfl (pi_list (pv 0)) (pg_name (i := 2) sc__law_begin.nd rfl (Or.inl rfl)) (pss_one (ps_set (i := 1) sc__law_begin.nd rfl (Or.inl rfl) (pe_op op_mod (pe_op op_add (pe_op op_add (pe_op op_mul (pv 1) pe_int) (pe_op op_mod (pe_callTy call_intI (by rfl) T.n_int (by decide +kernel) (pa_cons (pv 2) pa_nil)) pe_int)) pe_int) pe_int))))
      (pss_one (ps_ret (pe_lst (pa_cons (pe_callTy call_listL (by rfl) T.n_list (by decide +kernel) (pa_cons (pv 0) pa_nil)) (pa_cons pe_int (pa_cons pe_int (pa_cons (pv 1) pa_nil))))))))), ?_⟩
    refine ⟨_, rfl, a, rfl, ⟨_, hS⟩, for_list (K := K) (a := a) (xs := ns.map V.int) (fun i σ H' => ∃ (r : Int) (y : Option V), σ = [some (.ref a), some (.int r), y] ∧ H' = H) ⟨_, none, rfl, rfl⟩ (fun i σ H' _ ⟨_, _, _, e⟩ => e ▸ hS) ?_ ?_⟩
    · rintro i x σ H' hi ⟨r, y, rfl, rfl⟩
      obtain ⟨z, rfl⟩ : ∃ z, x = V.int z := by
        rw [List.getElem?_map] at hi
        cases e : ns[i]? with
        | none =>
          rw [e] at hi
          cases hi
        | some z =>
          rw [e] at hi
          exact ⟨z, (Option.some.inj hi).symm⟩
      exact ⟨_, rfl, _, _, rfl, rfl, mulC ⟨by decide, by decide⟩, _, rfl, _, rfl, _, _, rfl, rfl, (by show (0 : Int) < 2147483629; decide), _, _, rfl, rfl, _, _, rfl, rfl, _, _, rfl, rfl, (by show (0 : Int) < 2147483647; decide), _, _, rfl, rfl⟩
    · rintro σ H' ⟨r, y, rfl, rfl⟩
      refine ⟨_, rfl, _, _, rfl, hS, fun l hl => ⟨_, rfl, (by decide : 4 ≤ sizeLine), fun p hp => ?_⟩⟩
      have s1 := same_new (o := .lst (ns.map V.int)) hl
      have s2 := same_new (o := .lst [.ref l, .int 0, .int 0, .int r]) hp
      have nlp : l ≠ p := fun e => by
        rw [← e, upd_same] at hp
        cases hp
      exact fin p l _ (s1.trans s2) (s1.free hp) hl ⟨0, 0, ns, ⟨⟨_, upd_same⟩, by rw [upd_ne nlp, upd_same], nlp, by decide, by decide⟩⟩
def sp_take : Sp := fun vs H Q _ => ∃ (pd ps : Addr) (many : Int), vs = [.ref pd, .int many] ∧ Dst H pd ps ∧ 0 < many ∧ Bd 8000 many ∧ ∀ r H', Xt pd H H' → Dst H' pd ps → 0 ≤ r → r < many → Q (.int r) H'
theorem ok__law_take (T : Top K mg) : FnOk P w K mg base CX0 1 T.a__law_take T.d__law_take ["d", "many"] sp_take := by
  refine T._law_take_F.ok sc__law_take (fun vs H Q E h => ?_) (fun cdv A outer s H vs Q E hr h => ?_)
  · obtain ⟨_, _, _, rfl, _⟩ := h
    rfl
  · obtain ⟨pd, ps, many, rfl, ⟨i, r, ns, D⟩, hm, hM, fin⟩ := h
    have md : ∀ x H', Xt pd H H' → Dst H' pd ps → Q (.int (x % many)) H' := fun x H' h1 h2 => fin _ H' h1 h2 (Int.emod_nonneg x (by omega)) (Int.emod_lt_of_pos x hm)
    refine ⟨_, (Evl.pss_cut (ps_if (PW.pt (pw_and (pt_cmpR op_eq (pe_ix ix_list (pv 0) pe_int (fun _ _ => rfl)) pe_int (nomark _)) (pw_and1 (pt_cmpR op_lt (pe_ix ix_list (pv 0) pe_int (fun _ _ => rfl)) (pe_callB call_lenL (by rfl) T.n_len (by decide +kernel) (pa_cons (pe_ix ix_list (pv 0) pe_int (fun _ _ => rfl)) pa_nil)) (nomark _))))) (pss_cons (ps_asg (pe_callB call_abs (by rfl) T.n_abs (by decide +kernel) (pa_cons (pe_callTy call_intI (by rfl) T.n_int (by decide +kernel) (pa_cons (pe_ix ix_list (pe_ix ix_list (pv 0) pe_int (fun _ _ => rfl)) (pe_ix ix_list (pv 0) pe_int (fun _ _ => rfl)) (fun _ _ => rfl)) pa_nil)) pa_nil)) (pg_sub (pv 0) pe_int set_list))
      (pss_cons (ps_asg (pe_op op_add (pe_ix ix_list (pv 0) pe_int (fun _ _ => rfl)) pe_int) (pg_sub (pv 0) pe_int set_list))
      (pss_one (ps_if (pt_cmpR op_lt (pe_ix ix_list (pv 0) pe_int (fun _ _ => rfl)) (pe_op op_pow pe_int pe_int) (nomark _)) (pss_cons (ps_set (i := 2) sc__law_take.nd rfl (Or.inl rfl) (pe_callTy call_intI (by rfl) T.n_int (by decide +kernel) (pa_cons (pe_ix ix_list (pv 0) pe_int (fun _ _ => rfl)) pa_nil)))
      (pss_cons (ps_asg pe_int (pg_sub (pv 0) pe_int set_list))
      (pss_one (ps_ret (pe_op op_mod (pv 2) (pv 1)))))) pss_nil)))) pss_nil)
      (pss_cons (ps_if (pt_cmpR op_gt (pe_ix ix_list (pv 0) pe_int (fun _ _ => rfl)) pe_int (nomark _)) (pss_cons (ps_set (i := 3) sc__law_take.nd rfl (Or.inl rfl) (pe_op op_mod (pe_callTy call_intI (by rfl) T.n_int (by decide +kernel) (pa_cons (pe_ix ix_list (pv 0) pe_int (fun _ _ => rfl)) pa_nil)) (pv 1)))
      (pss_cons (ps_asg (pe_op op_fdivX (pe_callTy call_intI (by rfl) T.n_int (by decide +kernel) (pa_cons (pe_ix ix_list (pv 0) pe_int (fun _ _ => rfl)) pa_nil)) (pv 1)) (pg_sub (pv 0) pe_int set_list))
      (pss_one (ps_ret (pv 3))))) pss_nil)
      (pss_cons (ps_asg (pe_op op_mod (pe_callTy call_intI (by rfl) T.n_int (by decide +kernel) (pa_cons (pe_op op_add (pe_op op_mul (pe_ix ix_list (pv 0) pe_int (fun _ _ => rfl)) pe_int) pe_int) pa_nil)) pe_int) (pg_sub (pv 0) pe_int set_list))
      (pss_one (ps_ret (pe_op op_mod (pe_callTy call_intI (by rfl) T.n_int (by decide +kernel) (pa_cons (pe_op op_fdivX (pe_ix ix_list (pv 0) pe_int (fun _ _ => rfl)) pe_int) pa_nil)) (pv 1))))))), ?_⟩
    refine ⟨fun σ H' => ∃ y z r', σ = [some (.ref pd), some (.int many), y, z] ∧ Xt pd H H' ∧ ∃ i', DstI H' pd ps i' r' ns, ?_, ?_⟩
    · obtain ⟨sd, hd⟩ := D.at_d
      have stay : ∃ y z r', ([some (.ref pd), some (.int many), none, none] : List (Option V)) = [some (.ref pd), some (.int many), y, z] ∧ Xt pd H H ∧ ∃ i', DstI H pd ps i' r' ns := ⟨none, none, r, rfl, Xt.refl H, i, D⟩
      refine ⟨_, rfl, _, _, _, _, rfl, rfl, (SqL.of hd), (atI_nat (j := 2) rfl), rfl, _, rfl, ite2 (fun e => ?_) (fun e => iteF stay)⟩
      refine ⟨_, rfl, _, _, _, _, rfl, rfl, (SqL.of hd), (atI_nat (j := 1) rfl), _, rfl, _, _, _, _, rfl, rfl, (SqL.of hd), (atI_nat (j := 0) rfl), _, _, rfl, SqL.of D.at_s, _, _, rfl, rfl, _, rfl, ite2 (fun e1 => ?_) (fun e1 => stay)⟩
      have e2 : i < ((ns.map V.int).length : Int) := of_decide_eq_true e1
      rw [List.length_map] at e2
      obtain ⟨j, rfl⟩ := Int.eq_ofNat_of_zero_le D.i0
      have jl : j < ns.length := by omega
      have gj : (ns.map V.int)[j]? = some (.int ns[j]) := by
        rw [List.getElem?_map, List.getElem?_eq_getElem jl]
        rfl
      have ab : ∀ x : Int, 0 ≤ (if x < 0 then -x else x) := fun x => by split <;> omega
      refine ⟨_, rfl, _, _, _, _, rfl, rfl, (SqL.of hd), (atI_nat (j := 0) rfl), _, rfl, _, _, _, _, rfl, rfl, (SqL.of hd), (atI_nat (j := 1) rfl), _, _, _, _, rfl, rfl, SqL.of D.at_s, atI_nat gj, _, rfl, _, rfl, _, rfl, _, _, _, _, rfl, rfl, hd, rfl, ?_⟩
      have D1 := D.set (s' := sd) D.i0 (ab ns[j])
      obtain ⟨_, hd1⟩ := D1.at_d
      have hd1 : (upd H pd (.lst [.ref ps, .int (j : Int), .int (if ns[j] < 0 then -ns[j] else ns[j]), .int sd])) pd = _ := upd_same
      refine ⟨_, rfl, _, _, _, _, rfl, rfl, (SqL.of hd1), (atI_nat (j := 1) rfl), _, _, rfl, rfl, _, rfl, _, _, _, _, rfl, rfl, hd1, rfl, ?_⟩
      have D2 := D1.upd2 (i' := (j : Int) + 1) (r' := if ns[j] < 0 then -ns[j] else ns[j]) (s' := sd) (o := .lst [.ref ps, .int (j : Int), .int (if ns[j] < 0 then -ns[j] else ns[j]), .int sd]) (by omega) (ab ns[j])
      rw [upd_upd]
      have hd2 : (upd H pd (.lst [.ref ps, .int ((j : Int) + 1), .int (if ns[j] < 0 then -ns[j] else ns[j]), .int sd])) pd = _ := upd_same
      have D2 := D.set (i' := (j : Int) + 1) (r' := if ns[j] < 0 then -ns[j] else ns[j]) (s' := sd) (by omega) (ab ns[j])
      refine ⟨_, rfl, _, _, _, _, rfl, rfl, (SqL.of hd2), (atI_nat (j := 2) rfl), _, _, rfl, rfl, ⟨by decide, by decide, by decide⟩, _, _, rfl, rfl, _, rfl, ite2 (fun e3 => ?_) (fun e3 => ?_)⟩
      · refine ⟨_, rfl, _, _, _, _, rfl, rfl, (SqL.of hd2), (atI_nat (j := 2) rfl), _, rfl, _, rfl, _, _, _, _, rfl, rfl, hd2, rfl, _, rfl, _, rfl, _, _, rfl, rfl, hm, ?_⟩
        rw [upd_upd]
        exact md _ _ Xt.upd ⟨_, _, _, D.set (by omega) (by decide)⟩
      · exact ⟨none, none, _, rfl, Xt.upd, _, D2⟩
    · rintro σ H' ⟨y, z, r', rfl, hx, i', D'⟩
      obtain ⟨sd, hd⟩ := D'.at_d
      refine ⟨_, rfl, _, _, _, _, rfl, rfl, (SqL.of hd), (atI_nat (j := 2) rfl), _, _, rfl, rfl, _, rfl, ite2 (fun e => ?_) (fun e => ?_)⟩
      · refine ⟨_, rfl, _, _, _, _, rfl, rfl, (SqL.of hd), (atI_nat (j := 2) rfl), _, rfl, _, rfl, _, _, rfl, rfl, hm, _, rfl, _, _, _, _, rfl, rfl, (SqL.of hd), (atI_nat (j := 2) rfl), _, rfl, _, rfl, _, _, rfl, rfl, divX (by omega) hM, _, rfl, _, _, _, _, rfl, rfl, hd, rfl, _, rfl, ?_⟩
        refine md _ _ (hx.trans Xt.upd) ⟨_, _, _, D'.set D'.i0 ?_⟩
        rw [Int.fdiv_eq_ediv_of_nonneg _ (by omega)]
        exact Int.ediv_nonneg D'.r0 (by omega)
      · refine ⟨_, rfl, _, _, _, _, rfl, rfl, (SqL.of hd), (atI_nat (j := 3) rfl), _, _, rfl, rfl, mulC ⟨by decide, by decide⟩, _, _, rfl, rfl, _, rfl, _, _, rfl, rfl, (by show (0 : Int) < 2147483647; decide), _, rfl, _, _, _, _, rfl, rfl, hd, rfl, ?_⟩
        have D2 := D'.set (i' := i') (r' := r') (s' := (sd * 48271 + 11) % 2147483647) D'.i0 D'.r0
        have hd2 : (upd H' pd (.lst [.ref ps, .int i', .int r', .int ((sd * 48271 + 11) % 2147483647)])) pd = _ := upd_same
        exact ⟨_, rfl, _, _, _, _, rfl, rfl, (SqL.of hd2), (atI_nat (j := 3) rfl), _, _, rfl, rfl, ⟨by decide, by decide⟩, _, rfl, _, rfl, _, _, rfl, rfl, hm, md _ _ (hx.trans Xt.upd) ⟨_, _, _, D2⟩⟩
def sp_gcd : Sp := fun vs H Q _ => ∃ a b : Int, vs = [.int a, .int b] ∧ 0 ≤ a ∧ 0 ≤ b ∧ Q (.int (Int.gcd a b : Int)) H
theorem ok__law_gcd (T : Top K mg) : FnOk P w K mg base CX0 1 T.a__law_gcd T.d__law_gcd ["a", "b"] sp_gcd := by
  refine T._law_gcd_F.ok sc__law_gcd (fun vs H Q E h => ?_) (fun cdv A outer s H vs Q E hr h => ?_)
  · obtain ⟨_, _, rfl, _⟩ := h
    rfl
  · obtain ⟨a, b, rfl, ha, hb, fin⟩ := h
    refine ⟨_, (pss_cons (ps_while PassesOwn.never (pt_cmpR op_ne (pv 1) pe_int (nomark _)) (pss_one (ps_par (i := 0) (j := 1) (by rfl) sc__law_gcd.nd rfl rfl (by decide) rfl rfl (pa_cons (pv 1) (pa_cons (pe_op op_mod (pe_callTy call_intI (by rfl) T.n_int (by decide +kernel) (pa_cons (pv 0) pa_nil)) (pv 1)) pa_nil)) (by rfl))))
      (pss_one (ps_ret (pe_callB call_abs (by rfl) T.n_abs (by decide +kernel) (pa_cons (pv 0) pa_nil))))), ?_⟩
    refine ⟨fun m σ H' => ∃ x y : Int, σ = [some (.int x), some (.int y)] ∧ H' = H ∧ 0 ≤ x ∧ 0 ≤ y ∧ m = y.toNat ∧ Int.gcd x y = Int.gcd a b, ⟨_, a, b, rfl, rfl, ha, hb, rfl, rfl⟩, ?_⟩
    rintro m σ H' ⟨x, y, rfl, rfl, hx, hy, rfl, hg⟩
    refine ⟨_, rfl, rfl, _, rfl, ?_⟩
    by_cases e : y = 0
    · subst e
      refine iteNS rfl ?_
      have e1 : (if x < 0 then -x else x) = (Int.gcd a b : Int) := by
        rw [if_neg (by omega), ← hg, Int.gcd_zero_right]
        omega
      rw [← e1] at fin
      exact ⟨_, rfl, _, rfl, fin⟩
    · refine ite2 (fun _ => ?_) (fun z => (z (by simp [e])).elim)
      refine ⟨_, fun _ _ z => z, ?_⟩
      have hp : 0 < y := by omega
      refine ⟨_, rfl, _, rfl, _, rfl, _, rfl, _, _, rfl, rfl, hp, _, _, rfl, (x % y).toNat, ?_, y, x % y, rfl, rfl, hy, Int.emod_nonneg _ e, rfl, ?_⟩
      · have := Int.emod_lt_of_pos x hp
        have := Int.emod_nonneg x e
        omega
      · rw [gcd_step x y hx hy, hg]
def sp_f (K : PySem.W.Frag) : Sp := fun vs H Q _ => ∃ a b : Int, vs = [.int a, .int b] ∧ b ≠ 0 ∧ Bd 8000 b ∧ ∀ v H', Same H H' → DT K H' v (frD (frac a b)) → Q v H'
theorem ok__law_f (T : Top K mg) : FnOk P w K mg base CX0 2 T.a__law_f T.d__law_f ["a", "b"] (sp_f K) := by
  refine T._law_f_F.ok sc__law_f (fun vs H Q E h => ?_) (fun cdv A outer s H vs Q E hr h => ?_)
  · obtain ⟨_, _, rfl, _⟩ := h
    rfl
  · obtain ⟨a, b, rfl, hb, hB, fin⟩ := h
    have eL := fracL_eq (a := a) hb
    have ab : ∀ x : Int, 0 ≤ (if x < 0 then -x else x) := fun x => by split <;> omega
    have key : ∀ x y : Int, 0 < y → Bd 8000 y → (x / (Int.gcd x y : Int), y / (Int.gcd x y : Int)) = frac a b → ∀ p, H p = none → 
        CDivX x (Int.gcd (if x < 0 then -x else x) y : Int) ∧ CDivX y (Int.gcd (if x < 0 then -x else x) y : Int) ∧ Q (.ref p) (upd H p (.tup [.int (x.fdiv (Int.gcd (if x < 0 then -x else x) y : Int)), .int (y.fdiv (Int.gcd (if x < 0 then -x else x) y : Int))])) := by
      intro x y hy hY e p hp
      have eg : Int.gcd (if x < 0 then -x else x) y = Int.gcd x y := by
        split
        · exact Int.neg_gcd
        · rfl
      have g0 : 0 < Int.gcd x y := gcd_pos (by omega)
      have gB : Bd 8000 (Int.gcd x y : Int) := hY.le (by
        show Int.gcd x y ≤ y.natAbs
        exact Nat.le_of_dvd (by omega) (Nat.gcd_dvd_right _ _))
      rw [eg]
      refine ⟨divX (by omega) gB, divX (by omega) gB, fin _ _ (same_new hp) (DT.fr (Tp.of ?_))⟩
      rw [Int.fdiv_eq_ediv_of_nonneg _ (by omega), Int.fdiv_eq_ediv_of_nonneg _ (by omega), ← e]
      exact upd_same
    have go : ∀ x y : Int, 0 < y → Bd 8000 y → (x / (Int.gcd x y : Int), y / (Int.gcd x y : Int)) = frac a b → ∃ (u v : Int), u = (Int.gcd (if x < 0 then -x else x) y : Int) ∧ CDivX x u ∧ CDivX y u ∧ ∀ p, H p = none → Q (.ref p) (upd H p (.tup [.int (x.fdiv u), .int (y.fdiv u)])) := by
      intro x y hy hY e
      have eg : Int.gcd (if x < 0 then -x else x) y = Int.gcd x y := by
        split
        · exact Int.neg_gcd
        · rfl
      have g0 : 0 < Int.gcd x y := gcd_pos (by omega)
      have gB : Bd 8000 (Int.gcd x y : Int) := hY.le (by
        show Int.gcd x y ≤ y.natAbs
        exact Nat.le_of_dvd (by omega) (Nat.gcd_dvd_right _ _))
      refine ⟨_, 0, rfl, ?_, ?_, fun p hp => (key x y hy hY e p hp).2.2⟩
      · rw [eg]; exact divX (by omega) gB
      · rw [eg]; exact divX (by omega) gB
    refine ⟨_, (pss_cons (ps_if (pt_cmpR op_lt (pv 1) pe_int (nomark _)) (pss_cons (ps_set (i := 0) sc__law_f.nd rfl (Or.inl rfl) (pe_op op_sub pe_int (pv 0)))
      (pss_one (ps_set (i := 1) sc__law_f.nd rfl (Or.inl rfl) (pe_op op_sub pe_int (pv 1))))) pss_nil)
      (pss_cons (ps_set (i := 2) sc__law_f.nd rfl (Or.inl rfl) (pe_call (ok__law_gcd T) (hr.mono (by decide : 1 ≤ 1)) (by rfl) T.g__law_gcd T._law_gcd_F.kp T._law_gcd_b .nil pass0 (pa_cons (pe_callB call_abs (by rfl) T.n_abs (by decide +kernel) (pa_cons (pv 0) pa_nil)) (pa_cons (pv 1) pa_nil))))
      (pss_one (ps_ret (pe_tup (pa_cons (pe_op op_fdivX (pv 0) (pv 2)) (pa_cons (pe_op op_fdivX (pv 1) (pv 2)) pa_nil))))))), ?_⟩
    refine ⟨_, rfl, _, _, rfl, rfl, _, rfl, ite2 (fun e => ?_) (fun e => ?_)⟩
    · have e0 : b < 0 := of_decide_eq_true e
      obtain ⟨u, _, eu, c1, c2, k⟩ := go (0 - a) (0 - b) (by omega) (by rw [Int.zero_sub]; exact hB.neg) (by
        rw [← eL]
        unfold fracL
        simp only [if_pos e0])
      subst eu
      exact ⟨_, rfl, _, _, rfl, rfl, _, rfl, _, _, rfl, rfl, _, rfl, _, rfl, _, rfl, _, _, rfl, ab _, by omega, _, rfl, _, rfl, _, _, rfl, rfl, c1, _, rfl, _, rfl, _, _, rfl, rfl, c2, two_le, k⟩
    · have e0 : ¬ b < 0 := fun z => e (decide_eq_true z)
      obtain ⟨u, _, eu, c1, c2, k⟩ := go a b (by omega) hB (by
        rw [← eL]
        unfold fracL
        simp only [if_neg e0])
      subst eu
      exact ⟨_, rfl, _, rfl, _, rfl, _, _, rfl, ab _, by omega, _, rfl, _, rfl, _, _, rfl, rfl, c1, _, rfl, _, rfl, _, _, rfl, rfl, c2, two_le, k⟩
def sp2 (K : PySem.W.Frag) (R : Int × Int → Int × Int → Int × Int) : Sp := fun vs H Q _ => ∃ (va vb : V) (p q : Int × Int) (k : Nat), vs = [va, vb] ∧ DT K H va (frD p) ∧ DT K H vb (frD q) ∧ Ok k p ∧ Ok k q ∧ k ≤ 3000 ∧ ∀ v H', Same H H' → DT K H' v (frD (R p q)) → Q v H'
theorem ok__law_plus (T : Top K mg) : FnOk P w K mg base CX0 3 T.a__law_plus T.d__law_plus ["a", "b"] (sp2 K addF) := by
  refine T._law_plus_F.ok sc__law_plus (fun vs H Q E h => ?_) (fun cdv A outer s H vs Q E hr h => ?_)
  · obtain ⟨_, _, _, _, _, rfl, _⟩ := h
    rfl
  · obtain ⟨_, _, p, q, k, rfl, da, db, ⟨lp, p1, p2⟩, ⟨lq, q1, q2⟩, hk, fin⟩ := h
    obtain ⟨a, rfl, ha⟩ := da.fr_inv
    obtain ⟨b, rfl, hb⟩ := db.fr_inv
    have ne := pos_ne lp.pos lq.pos
    refine ⟨_, (pss_one (ps_ret (pe_call (ok__law_f T) (hr.mono (by decide : 2 ≤ 2)) (by rfl) T.g__law_f T._law_f_F.kp T._law_f_b .nil pass0 (pa_cons (pe_op op_add (pe_op op_mulW (pe_ix ix_tup (pv 0) pe_int (fun _ _ => rfl)) (pe_ix ix_tup (pv 1) pe_int (fun _ _ => rfl))) (pe_op op_mulW (pe_ix ix_tup (pv 1) pe_int (fun _ _ => rfl)) (pe_ix ix_tup (pv 0) pe_int (fun _ _ => rfl)))) (pa_cons (pe_op op_mulW (pe_ix ix_tup (pv 0) pe_int (fun _ _ => rfl)) (pe_ix ix_tup (pv 1) pe_int (fun _ _ => rfl))) pa_nil))))), ?_⟩
    exact ⟨_, rfl, _, _, _, _, rfl, rfl, (SqT.of ha), (atI_nat (j := 0) rfl), _, rfl, _, _, _, _, rfl, rfl, (SqT.of hb), (atI_nat (j := 1) rfl), _, _, rfl, rfl, (by first | exact mulK hk (by assumption) (by assumption) | exact mulF3 (by assumption) (by assumption)), _, rfl, _, _, _, _, rfl, rfl, (SqT.of hb), (atI_nat (j := 0) rfl), _, rfl, _, _, _, _, rfl, rfl, (SqT.of ha), (atI_nat (j := 1) rfl), _, _, rfl, rfl, (by first | exact mulK hk (by assumption) (by assumption) | exact mulF3 (by assumption) (by assumption)), _, _, rfl, rfl, _, rfl, _, _, _, _, rfl, rfl, (SqT.of ha), (atI_nat (j := 1) rfl), _, rfl, _, _, _, _, rfl, rfl, (SqT.of hb), (atI_nat (j := 1) rfl), _, _, rfl, rfl, (by first | exact mulK hk (by assumption) (by assumption) | exact mulF3 (by assumption) (by assumption)), _, _, rfl, ne, (p2.mul q2).mono (by omega), fun v H' s f => fin v H' s f⟩
theorem ok__law_minus (T : Top K mg) : FnOk P w K mg base CX0 3 T.a__law_minus T.d__law_minus ["a", "b"] (sp2 K subF) := by
  refine T._law_minus_F.ok sc__law_minus (fun vs H Q E h => ?_) (fun cdv A outer s H vs Q E hr h => ?_)
  · obtain ⟨_, _, _, _, _, rfl, _⟩ := h
    rfl
  · obtain ⟨_, _, p, q, k, rfl, da, db, ⟨lp, p1, p2⟩, ⟨lq, q1, q2⟩, hk, fin⟩ := h
    obtain ⟨a, rfl, ha⟩ := da.fr_inv
    obtain ⟨b, rfl, hb⟩ := db.fr_inv
    have ne := pos_ne lp.pos lq.pos
    refine ⟨_, (pss_one (ps_ret (pe_call (ok__law_f T) (hr.mono (by decide : 2 ≤ 2)) (by rfl) T.g__law_f T._law_f_F.kp T._law_f_b .nil pass0 (pa_cons (pe_op op_sub (pe_op op_mulW (pe_ix ix_tup (pv 0) pe_int (fun _ _ => rfl)) (pe_ix ix_tup (pv 1) pe_int (fun _ _ => rfl))) (pe_op op_mulW (pe_ix ix_tup (pv 1) pe_int (fun _ _ => rfl)) (pe_ix ix_tup (pv 0) pe_int (fun _ _ => rfl)))) (pa_cons (pe_op op_mulW (pe_ix ix_tup (pv 0) pe_int (fun _ _ => rfl)) (pe_ix ix_tup (pv 1) pe_int (fun _ _ => rfl))) pa_nil))))), ?_⟩
    exact ⟨_, rfl, _, _, _, _, rfl, rfl, (SqT.of ha), (atI_nat (j := 0) rfl), _, rfl, _, _, _, _, rfl, rfl, (SqT.of hb), (atI_nat (j := 1) rfl), _, _, rfl, rfl, (by first | exact mulK hk (by assumption) (by assumption) | exact mulF3 (by assumption) (by assumption)), _, rfl, _, _, _, _, rfl, rfl, (SqT.of hb), (atI_nat (j := 0) rfl), _, rfl, _, _, _, _, rfl, rfl, (SqT.of ha), (atI_nat (j := 1) rfl), _, _, rfl, rfl, (by first | exact mulK hk (by assumption) (by assumption) | exact mulF3 (by assumption) (by assumption)), _, _, rfl, rfl, _, rfl, _, _, _, _, rfl, rfl, (SqT.of ha), (atI_nat (j := 1) rfl), _, rfl, _, _, _, _, rfl, rfl, (SqT.of hb), (atI_nat (j := 1) rfl), _, _, rfl, rfl, (by first | exact mulK hk (by assumption) (by assumption) | exact mulF3 (by assumption) (by assumption)), _, _, rfl, ne, (p2.mul q2).mono (by omega), fun v H' s f => fin v H' s f⟩
theorem ok__law_times (T : Top K mg) : FnOk P w K mg base CX0 3 T.a__law_times T.d__law_times ["a", "b"] (sp2 K mulF) := by
  refine T._law_times_F.ok sc__law_times (fun vs H Q E h => ?_) (fun cdv A outer s H vs Q E hr h => ?_)
  · obtain ⟨_, _, _, _, _, rfl, _⟩ := h
    rfl
  · obtain ⟨_, _, p, q, k, rfl, da, db, ⟨lp, p1, p2⟩, ⟨lq, q1, q2⟩, hk, fin⟩ := h
    obtain ⟨a, rfl, ha⟩ := da.fr_inv
    obtain ⟨b, rfl, hb⟩ := db.fr_inv
    have ne := pos_ne lp.pos lq.pos
    refine ⟨_, (pss_one (ps_ret (pe_call (ok__law_f T) (hr.mono (by decide : 2 ≤ 2)) (by rfl) T.g__law_f T._law_f_F.kp T._law_f_b .nil pass0 (pa_cons (pe_op op_mulW (pe_ix ix_tup (pv 0) pe_int (fun _ _ => rfl)) (pe_ix ix_tup (pv 1) pe_int (fun _ _ => rfl))) (pa_cons (pe_op op_mulW (pe_ix ix_tup (pv 0) pe_int (fun _ _ => rfl)) (pe_ix ix_tup (pv 1) pe_int (fun _ _ => rfl))) pa_nil))))), ?_⟩
    exact ⟨_, rfl, _, _, _, _, rfl, rfl, (SqT.of ha), (atI_nat (j := 0) rfl), _, rfl, _, _, _, _, rfl, rfl, (SqT.of hb), (atI_nat (j := 0) rfl), _, _, rfl, rfl, (by first | exact mulK hk (by assumption) (by assumption) | exact mulF3 (by assumption) (by assumption)), _, rfl, _, _, _, _, rfl, rfl, (SqT.of ha), (atI_nat (j := 1) rfl), _, rfl, _, _, _, _, rfl, rfl, (SqT.of hb), (atI_nat (j := 1) rfl), _, _, rfl, rfl, (by first | exact mulK hk (by assumption) (by assumption) | exact mulF3 (by assumption) (by assumption)), _, _, rfl, ne, (p2.mul q2).mono (by omega), fun v H' s f => fin v H' s f⟩
def sp_less (K : PySem.W.Frag) : Sp := fun vs H Q _ => ∃ (va vb : V) (p q : Int × Int), vs = [va, vb] ∧ DT K H va (frD p) ∧ DT K H vb (frD q) ∧ FB p ∧ FB q ∧ Q (.bl (decide (p.1 * q.2 < q.1 * p.2))) H
def sp_spread (K : PySem.W.Frag) : Sp := fun vs H Q _ => ∃ (pd ps : Addr) (v : V) (m : Int × Int), vs = [.ref pd, v] ∧ Dst H pd ps ∧ DT K H v (frD m) ∧ Ok 100 m ∧ 0 ≤ m.1 ∧ ∀ v' pr H', Xt pd H H' → Dst H' pd ps → DT K H' v' (prD pr) → ¬ badPr pr → PrK 201 pr → Q v' H'
theorem five {r : Int} (h0 : 0 ≤ r) (h1 : r < 5) : r = 0 ∨ r = 1 ∨ r = 2 ∨ r = 3 ∨ r = 4 := by omega
theorem ok__law_spread (T : Top K mg) : FnOk P w K mg base CX0 4 T.a__law_spread T.d__law_spread ["d", "mid"] (sp_spread K) := by
  refine T._law_spread_F.ok sc__law_spread (fun vs H Q E h => ?_) (fun cdv A outer s H vs Q E hr h => ?_)
  · obtain ⟨_, _, _, _, rfl, _⟩ := h
    rfl
  · obtain ⟨pd, ps, v, m, rfl, D, dv, om, m0, fin⟩ := h
    refine ⟨_, (Evl.pss_cut (ps_set (i := 2) sc__law_spread.nd rfl (Or.inl rfl) (pe_ix ix_tup (pe_tup (pa_cons (pe_tup (pa_cons pe_int (pa_cons pe_int pa_nil))) (pa_cons (pe_tup (pa_cons pe_int (pa_cons pe_int pa_nil))) (pa_cons (pe_tup (pa_cons pe_int (pa_cons pe_int pa_nil))) (pa_cons (pe_tup (pa_cons pe_int (pa_cons pe_int pa_nil))) (pa_cons (pe_tup (pa_cons pe_int (pa_cons pe_int pa_nil))) pa_nil)))))) (pe_call (ok__law_take T) (hr.mono (by decide : 1 ≤ 3)) (by rfl) T.g__law_take T._law_take_F.kp T._law_take_b .nil pass0 (pa_cons (pv 0) (pa_cons pe_int pa_nil))) (fun _ _ => rfl)))
      (pss_cons (ps_set (i := 3) sc__law_spread.nd rfl (Or.inl rfl) (pe_call (ok__law_minus T) (hr.mono (by decide : 3 ≤ 3)) (by rfl) T.g__law_minus T._law_minus_F.kp T._law_minus_b .nil pass0 (pa_cons (pv 1) (pa_cons (pv 2) pa_nil))))
      (pss_one (ps_ret (pe_tup (pa_cons (pe_call (ok__law_plus T) (hr.mono (by decide : 3 ≤ 3)) (by rfl) T.g__law_plus T._law_plus_F.kp T._law_plus_b .nil pass0 (pa_cons (pv 1) (pa_cons (pv 2) pa_nil))) (pa_cons (pe_ifExp (pt_cmpR op_ge (pe_ix ix_tup (pv 3) pe_int (fun _ _ => rfl)) pe_int (nomark _)) (pv 3) (pe_tup (pa_cons pe_int (pa_cons pe_int pa_nil)))) pa_nil))))))), ?_⟩
    refine ⟨fun σ' H1 => ∃ (vs : V) (s : Int × Int), σ' = [some (.ref pd), some v, some vs, none] ∧ Xt pd H H1 ∧ Dst H1 pd ps ∧ DT K H1 vs (frD s) ∧ Ok 3 s ∧ 0 ≤ s.1, ?_, ?_⟩
    · refine ⟨two_le, fun p1 h1 => ⟨two_le, fun p2 h2 => ⟨two_le, fun p3 h3 => ⟨two_le, fun p4 h4 => ⟨two_le, fun p5 h5 => ⟨(by decide : 5 ≤ sizeLine), fun p6 h6 => ?_⟩⟩⟩⟩⟩⟩
      have s1 := same_new (o := .tup [.int 0, .int 1]) h1
      have s2 := same_new (o := .tup [.int 0, .int 1]) h2
      have s3 := same_new (o := .tup [.int 1, .int 4]) h3
      have s4 := same_new (o := .tup [.int 1, .int 2]) h4
      have s5 := same_new (o := .tup [.int 1, .int 1]) h5
      have s6 := same_new (o := .tup [.ref p1, .ref p2, .ref p3, .ref p4, .ref p5]) h6
      have d1 : DT K _ (.ref p1) (frD (0, 1)) := DT.fr (Tp.of (s6 _ _ (s5 _ _ (s4 _ _ (s3 _ _ (s2 _ _ upd_same))))))
      have d2 : DT K _ (.ref p2) (frD (0, 1)) := DT.fr (Tp.of (s6 _ _ (s5 _ _ (s4 _ _ (s3 _ _ upd_same)))))
      have d3 : DT K _ (.ref p3) (frD (1, 4)) := DT.fr (Tp.of (s6 _ _ (s5 _ _ (s4 _ _ upd_same))))
      have d4 : DT K _ (.ref p4) (frD (1, 2)) := DT.fr (Tp.of (s6 _ _ (s5 _ _ upd_same)))
      have d5 : DT K _ (.ref p5) (frD (1, 1)) := DT.fr (Tp.of (s6 _ _ upd_same))
      have sm := ((((s1.trans s2).trans s3).trans s4).trans s5).trans s6
      have D6 := D.same sm
      generalize hH6 : (upd (upd (upd (upd (upd (upd H p1 (.tup [.int 0, .int 1])) p2 (.tup [.int 0, .int 1])) p3 (.tup [.int 1, .int 4])) p4 (.tup [.int 1, .int 2])) p5 (.tup [.int 1, .int 1])) p6 (.tup [.ref p1, .ref p2, .ref p3, .ref p4, .ref p5])) = H6 at *
      have h66 : H6 p6 = some (.tup [.ref p1, .ref p2, .ref p3, .ref p4, .ref p5]) := by rw [← hH6]; exact upd_same
      refine ⟨_, rfl, pd, ps, 5, rfl, D6, by decide, Bd.mono (k := 3) (by unfold Bd; decide) (by decide), fun r H7 x7 D7 r0 r1 => ?_⟩
      have q7 := tp_xt D6.isL x7 (Tp.of h66)
      have xx := (Xt.of sm).trans x7
      have o0 : Ok 3 (0, 1) := ok_zero.mono (by decide)
      have o1 : Ok 3 (1, 4) := ⟨⟨by decide, by decide⟩, by unfold Bd; decide, by unfold Bd; decide⟩
      have o2 : Ok 3 (1, 2) := ⟨⟨by decide, by decide⟩, by unfold Bd; decide, by unfold Bd; decide⟩
      have o3 : Ok 3 (1, 1) := ⟨⟨by decide, by decide⟩, by unfold Bd; decide, by unfold Bd; decide⟩
      rcases five r0 r1 with rfl | rfl | rfl | rfl | rfl
      · exact ⟨_, _, _, _, rfl, rfl, q7.sq, atI_nat (j := 0) rfl, _, _, rfl, xx, D7, d1.xt D6.isL x7, o0, by decide⟩
      · exact ⟨_, _, _, _, rfl, rfl, q7.sq, atI_nat (j := 1) rfl, _, _, rfl, xx, D7, d2.xt D6.isL x7, o0, by decide⟩
      · exact ⟨_, _, _, _, rfl, rfl, q7.sq, atI_nat (j := 2) rfl, _, _, rfl, xx, D7, d3.xt D6.isL x7, o1, by decide⟩
      · exact ⟨_, _, _, _, rfl, rfl, q7.sq, atI_nat (j := 3) rfl, _, _, rfl, xx, D7, d4.xt D6.isL x7, o2, by decide⟩
      · exact ⟨_, _, _, _, rfl, rfl, q7.sq, atI_nat (j := 4) rfl, _, _, rfl, xx, D7, d5.xt D6.isL x7, o3, by decide⟩
    · rintro σ' H1 ⟨vs, s, rfl, x1, D1, ds, os, s0⟩
      have dv1 := dv.xt D.isL x1
      have os5 : Ok 100 s := os.mono (by decide)
      refine ⟨_, rfl, _, rfl, _, _, m, s, 100, rfl, dv1, ds, om, os5, by decide, fun vl H2 s2 dl => ?_⟩
      refine ⟨_, rfl, _, rfl, _, _, m, s, 100, rfl, dv1.same s2, ds.same s2, om, os5, by decide, fun vp H3 s3 dp => ?_⟩
      have dl3 := dl.same s3
      obtain ⟨pl, rfl, hl⟩ := dl3.fr_inv
      have oa := addF_ok om os5 (n := 201) (by decide)
      have ol := subF_ok om os5 (n := 201) (by decide)
      refine ⟨_, rfl, _, _, _, _, rfl, rfl, hl.sq, atI_nat (j := 0) rfl, _, _, rfl, rfl, _, rfl, ite2 (fun e => ?_) (fun e => ?_)⟩
      · refine ⟨_, rfl, two_le, fun pt ht => ?_⟩
        have s4 := same_new (o := .tup [vp, .ref pl]) ht
        exact fin _ (addF m s, subF m s) _ (x1.trans (Xt.of ((s2.trans s3).trans s4))) (D1.same ((s2.trans s3).trans s4)) (.mk2 (Tp.of upd_same) (dp.same s4) (dl3.same s4)) (good_pair m0 om.pos s0 os.pos _ (.inl ⟨rfl, of_decide_eq_true e⟩)) ⟨oa, ol⟩
      · refine ⟨two_le, fun pz hz => ⟨two_le, fun pt ht => ?_⟩⟩
        have s4 := same_new (o := .tup [.int 0, .int 1]) hz
        have s5 := same_new (o := .tup [vp, .ref pz]) ht
        exact fin _ (addF m s, (0, 1)) _ (x1.trans (Xt.of (((s2.trans s3).trans s4).trans s5))) (D1.same (((s2.trans s3).trans s4).trans s5)) (.mk2 (Tp.of upd_same) ((dp.same s4).same s5) (DT.fr (Tp.of (s5 _ _ upd_same)))) (good_pair m0 om.pos s0 os.pos _ (.inr rfl)) ⟨oa, ok_zero.mono (by decide)⟩
end
end Nl

namespace Nl
open PySem PySem.Spec PyProof.Rows L2
section
variable {P : Program} {w : World} {K : PySem.W.Frag} {mg : Str → Option Value} {base : Heap}
/-- a node's mids -/
structure MsOk (g : Int) (m : Nat) (ms : List (Int × Int)) : Prop where
  len : (ms.length : Int) = g - 1
  ok : ∀ q ∈ ms, Ok (kb m) q ∧ 0 ≤ q.1
def sp_node (K : PySem.W.Frag) (m : Nat) : Sp := fun vs H Q _ => ∃ (pd ps : Addr) (g t : Int) (wild : Bool), vs = [.ref pd, .int g, .int t, .int (t + m), .bl wild] ∧ Dst H pd ps ∧ 1 ≤ g ∧ g ≤ 4 ∧
  ∀ H' (a : Addr) (vn : V) (pm : Addr) (xs : List V) (n : Node) (ms : List (Int × Int)), Xt pd H H' → Dst H' pd ps → Tp H' a [vn, .ref pm] → DT K H' vn (nodeD n) → H' pm = some (.lst xs) → DTs K H' xs (ms.map frD) → H pm = none → NV g m n → MsOk g m ms → Q (.ref a) H'
def spPrev (K : PySem.W.Frag) : Nat → Sp
  | 0 => fun _ _ _ _ => False
  | m + 1 => sp_node K m
theorem kb_le {m : Nat} (h : m ≤ 2) : kb m ≤ 92 := by
  match m, h with
  | 0, _ => decide
  | 1, _ => decide
  | 2, _ => decide
theorem kb_ge : ∀ m : Nat, 4 ≤ kb m
  | 0 => by decide
  | m + 1 => by
    have := kb_ge m
    show 4 ≤ 3 * kb m + 14
    omega
theorem ok_wt {x : Int} (h0 : 1 ≤ x) (h1 : x ≤ 3) : Ok 2 (x, 1) := ⟨⟨(by show (0 : Int) < 1; decide), Int.gcd_one_right x⟩, (by unfold Bd; show x.natAbs < 4; omega), (by unfold Bd; show (1 : Int).natAbs < 4; decide)⟩
theorem frac_one_low {x : Int} (h : 0 < x) : Low (1, x) := ⟨h, Int.gcd_one_left x⟩
theorem addF_nn {p q : Int × Int} (hp : 0 ≤ p.1) (hq : 0 ≤ q.1) (lp : 0 < p.2) (lq : 0 < q.2) : 0 ≤ (addF p q).1 := by
  have h1 := Int.mul_nonneg hp (Int.le_of_lt lq)
  have h2 := Int.mul_nonneg hq (Int.le_of_lt lp)
  exact frac_nonneg (by omega) (Int.mul_pos lp lq)
theorem mulF_nn {p q : Int × Int} (hp : 0 ≤ p.1) (hq : 0 ≤ q.1) (lp : 0 < p.2) (lq : 0 < q.2) : 0 ≤ (mulF p q).1 := frac_nonneg (Int.mul_nonneg hp hq) (Int.mul_pos lp lq)
theorem sum_bd : ∀ ws : List Int, (∀ x ∈ ws, 1 ≤ x ∧ x ≤ 3) → (ws.length : Int) ≤ ws.sum ∧ ws.sum ≤ 3 * ws.length
  | [], _ => by simp
  | a :: l, h => by
    have h1 := h a (by simp)
    have h2 := sum_bd l fun x hx => h x (by simp [hx])
    simp only [List.sum_cons, List.length_cons]
    omega
theorem node_step (T : Top K mg) {k m : Nat} (hk : 4 ≤ k) (hm : m ≤ 2) (ih : FnOk P w K mg base CX0 k T.a__law_node T.d__law_node ["d", "goods", "time", "last", "wild"] (spPrev K m)) :
    FnOk P w K mg base CX0 (k + 1) T.a__law_node T.d__law_node ["d", "goods", "time", "last", "wild"] (sp_node K m) := by
  refine T._law_node_F.ok sc__law_node (fun vs H Q E h => ?_) (fun cdv A outer s H vs Q E hr h => ?_)
  · obtain ⟨_, _, _, _, _, rfl, _⟩ := h
    rfl
  · obtain ⟨pd, ps, g, t, wild, rfl, D0, g1, g4, fin⟩ := h
    refine ⟨_, (Evl.pss_cut (ps_set (i := 5) sc__law_node.nd rfl (Or.inl rfl) (pe_ifExp (pt_cmpR op_eq (pv 2) (pv 3) (nomark _)) pe_int (pe_op op_add pe_int (pe_call (ok__law_take T) (hr.mono (by omega)) (by rfl) T.g__law_take T._law_take_F.kp T._law_take_b .nil pass0 (pa_cons (pv 0) (pa_cons (pe_ifExp (pt_cmpR op_eq (pv 3) pe_int (nomark _)) pe_int pe_int) pa_nil))))))
      (pss_cons (ps_setLc (i := 7) (own := [("k", 6)]) (g := (gName 6)) (tt := tYes) (by rfl) sc__law_node.nd rfl rfl (sw_true rfl rfl rfl (by decide +kernel)) (pi_range1 rfl T.n_range (pa_cons (pv 5) pa_nil)) (blkOk_by (own := [("k", 6)]) (N := ["d", "goods", "time", "last", "wild", "many", "k", "children", "weights", "mids", "good", "mid", "total", "prices", "child"]) (sc := defScope s__law_node) (by decide +kernel)) (fun _ _ _ _ _ => (pg_name (i := 6) sc__law_node.nd rfl (Or.inl rfl))) (fun _ _ _ _ _ => pts_nil) (fun _ _ _ _ _ => (pe_call ih (hr.mono (by omega)) (by rfl) T.g__law_node T._law_node_F.kp T._law_node_b .nil pass0 (pa_cons (pv 0) (pa_cons (pv 1) (pa_cons (pe_op op_add (pv 2) pe_int) (pa_cons (pv 3) (pa_cons (pv 4) pa_nil))))))))
      (pss_cons (ps_setLc (i := 8) (own := [("k", 6)]) (g := (gName 6)) (tt := tYes) (by rfl) sc__law_node.nd rfl rfl (sw_true rfl rfl rfl (by decide +kernel)) (pi_range1 rfl T.n_range (pa_cons (pv 5) pa_nil)) (blkOk_by (own := [("k", 6)]) (N := ["d", "goods", "time", "last", "wild", "many", "k", "children", "weights", "mids", "good", "mid", "total", "prices", "child"]) (sc := defScope s__law_node) (by decide +kernel)) (fun _ _ _ _ _ => (pg_name (i := 6) sc__law_node.nd rfl (Or.inl rfl))) (fun _ _ _ _ _ => pts_nil) (fun _ _ _ _ _ => (pe_op op_add pe_int (pe_call (ok__law_take T) (hr.mono (by omega)) (by rfl) T.g__law_take T._law_take_F.kp T._law_take_b .nil pass0 (pa_cons (pv 0) (pa_cons pe_int pa_nil))))))
      (pss_cons (ps_set (i := 9) sc__law_node.nd rfl (Or.inl rfl) (pe_lst pa_nil))
      (pss_cons (ps_for PassesOwn.never rfl (pi_range1 rfl T.n_range (pa_cons (pe_op op_sub (pv 1) pe_int) pa_nil)) (pg_name (i := 10) sc__law_node.nd rfl (Or.inl rfl)) (pss_cons (ps_set (i := 11) sc__law_node.nd rfl (Or.inl rfl) (pe_call (ok__law_f T) (hr.mono (by omega)) (by rfl) T.g__law_f T._law_f_F.kp T._law_f_b .nil pass0 (pa_cons (pe_call (ok__law_take T) (hr.mono (by omega)) (by rfl) T.g__law_take T._law_take_F.kp T._law_take_b .nil pass0 (pa_cons (pv 0) (pa_cons pe_int pa_nil))) (pa_cons (pe_op op_add pe_int (pe_call (ok__law_take T) (hr.mono (by omega)) (by rfl) T.g__law_take T._law_take_F.kp T._law_take_b .nil pass0 (pa_cons (pv 0) (pa_cons pe_int pa_nil)))) pa_nil))))
      (Evl.pss_cut (ps_if (PW.pt (pw_and (pt_cmpR op_gt (pv 5) pe_int (nomark _)) (pw_and1 (pt_not (pt_truth (pv 4) (by intro _; rfl)))))) (pss_cons (ps_set (i := 12) sc__law_node.nd rfl (Or.inl rfl) (pe_tup (pa_cons pe_int (pa_cons pe_int pa_nil))))
      (pss_cons (ps_for PassesOwn.never rfl (pi_range1 rfl T.n_range (pa_cons (pv 5) pa_nil)) (pg_name (i := 6) sc__law_node.nd rfl (Or.inl rfl)) (pss_one (ps_set (i := 12) sc__law_node.nd rfl (Or.inl rfl) (pe_call (ok__law_plus T) (hr.mono (by omega)) (by rfl) T.g__law_plus T._law_plus_F.kp T._law_plus_b .nil pass0 (pa_cons (pv 12) (pa_cons (pe_call (ok__law_times T) (hr.mono (by omega)) (by rfl) T.g__law_times T._law_times_F.kp T._law_times_b .nil pass0 (pa_cons (pe_ix ix_list (pe_ix ix_tup (pe_ix ix_list (pv 7) (pv 6) (fun _ _ => rfl)) pe_int (fun _ _ => rfl)) (pv 10) (fun _ _ => rfl)) (pa_cons (pe_tup (pa_cons (pe_ix ix_list (pv 8) (pv 6) (fun _ _ => rfl)) (pa_cons pe_int pa_nil))) pa_nil))) pa_nil))))))
      (pss_one (ps_set (i := 11) sc__law_node.nd rfl (Or.inl rfl) (pe_call (ok__law_times T) (hr.mono (by omega)) (by rfl) T.g__law_times T._law_times_F.kp T._law_times_b .nil pass0 (pa_cons (pv 12) (pa_cons (pe_tup (pa_cons pe_int (pa_cons (pe_callB (cr_sum rfl) (by rfl) T.n_sum (by decide +kernel) (pa_cons (pv 8) pa_nil)) pa_nil))) pa_nil))))))) pss_nil)
      (pss_one (ps_expr (pe_bm PySem.F.plainAttrs_list PySem.F.slot_list_append PySem.F.type_list_append mt_append (pv 9) (pa_cons (pv 11) pa_nil)))))))
      (pss_cons (ps_set (i := 13) sc__law_node.nd rfl (Or.inl rfl) (pe_callTy call_tupL (by rfl) T.n_tuple (by decide +kernel) (pa_cons (pe_lc (own := [("mid", 11)]) (g := (gName 11)) (tt := tYes) (by rfl) sc__law_node.nd (pi_list (pv 9)) (blkOk_by (own := [("mid", 11)]) (N := ["d", "goods", "time", "last", "wild", "many", "k", "children", "weights", "mids", "good", "mid", "total", "prices", "child"]) (sc := defScope s__law_node) (by decide +kernel)) (fun _ _ _ _ _ => (pg_name (i := 11) sc__law_node.nd rfl (Or.inl rfl))) (fun _ _ _ _ _ => pts_nil) (fun _ _ _ _ _ => (pe_call (ok__law_spread T) (hr.mono (by omega)) (by rfl) T.g__law_spread T._law_spread_F.kp T._law_spread_b .nil pass0 (pa_cons (pv 0) (pa_cons (pv 11) pa_nil))))) pa_nil)))
      (pss_one (ps_ret (pe_tup (pa_cons (pe_tup (pa_cons (pv 13) (pa_cons (pe_callTy call_tupL (by rfl) T.n_tuple (by decide +kernel) (pa_cons (pe_lc (own := [("child", 14)]) (g := (gName 14)) (tt := tYes) (by rfl) sc__law_node.nd (pi_list (pv 7)) (blkOk_by (own := [("child", 14)]) (N := ["d", "goods", "time", "last", "wild", "many", "k", "children", "weights", "mids", "good", "mid", "total", "prices", "child"]) (sc := defScope s__law_node) (by decide +kernel)) (fun _ _ _ _ _ => (pg_name (i := 14) sc__law_node.nd rfl (Or.inl rfl))) (fun _ _ _ _ _ => pts_nil) (fun _ _ _ _ _ => (pe_ix (r := rIxT K) ix_tup (pv 14) pe_int (fun _ _ => rfl)))) pa_nil)) pa_nil))) (pa_cons (pv 9) pa_nil))))))))))), ?_⟩
    -- many
    refine ⟨fun σ' H1 => ∃ mm : Nat, σ' = [some (.ref pd), some (.int g), some (.int t), some (.int (t + m)), some (.bl wild), some (.int (mm : Int)), none, none, none, none, none, none, none, none, none] ∧ Xt pd H H1 ∧ Dst H1 pd ps ∧ mm ≤ 3 ∧ (m = 0 → mm = 0) ∧ (m ≠ 0 → 0 < mm), ?_, ?_⟩
    · refine ⟨_, rfl, _, rfl, rfl, _, rfl, ite2 (fun e => ?_) (fun e => ?_)⟩
      · have e0 : t = t + m := V.int.inj (of_decide_eq_true e)
        exact ⟨0, rfl, Xt.refl H, D0, by decide, fun _ => rfl, fun z => (z (by omega)).elim⟩
      · have e0 : m ≠ 0 := fun z => e (by rw [z]; exact decide_eq_true (by simp))
        have b3 : Bd 8000 3 := Bd.mono (k := 2) (by unfold Bd; decide) (by decide)
        have b2 : Bd 8000 2 := Bd.mono (k := 2) (by unfold Bd; decide) (by decide)
        refine ⟨_, rfl, _, rfl, rfl, _, rfl, ite2 (fun e2 => ?_) (fun e2 => ?_)⟩
        · refine ⟨pd, ps, 3, rfl, D0, by decide, b3, fun r H1 x1 D1 r0 r1 => ⟨_, _, rfl, rfl, 1 + r.toNat, ?_, x1, D1, by omega, fun z => (e0 z).elim, fun _ => by omega⟩⟩
          have : ((1 + r.toNat : Nat) : Int) = 1 + r := by omega
          rw [this]
          rfl
        · refine ⟨pd, ps, 2, rfl, D0, by decide, b2, fun r H1 x1 D1 r0 r1 => ⟨_, _, rfl, rfl, 1 + r.toNat, ?_, x1, D1, by omega, fun z => (e0 z).elim, fun _ => by omega⟩⟩
          have : ((1 + r.toNat : Nat) : Int) = 1 + r := by omega
          rw [this]
          rfl
    · rintro σ' H1 ⟨mm, rfl, x1, D1, mm3, mz, mp⟩
      -- children
      refine ⟨_, rfl, (mm : Int), rfl, by omega, by omega, fun Dc hDc => lc_range (lo := 0) (n := (mm : Int).toNat) (fun i H' => ∃ (xs : List V) (cs : List (Node × List (Int × Int))), Xt pd H1 H' ∧ Dst H' pd ps ∧ H' Dc = some (.lst xs) ∧ All2 (ChildP K [pd, Dc] H') xs cs ∧ cs.length = i ∧ ∀ c ∈ cs, ∃ m', m = m' + 1 ∧ NV g m' c.1 ∧ MsOk g m' c.2) ?_ ?_ ?_⟩
      · exact ⟨[], [], Xt.of (same_new hDc), D1.same (same_new hDc), upd_same, .nil, rfl, fun c hc => by cases hc⟩
      · rintro i H' hi ⟨xs, cs, xc, Dd, hxs, ac, lc, pc⟩
        refine ⟨rfl, ?_⟩
        dsimp only [tYes]
        rw [if_pos rfl]
        obtain ⟨m', rfl⟩ : ∃ m', m = m' + 1 := by
          cases m with
          | zero =>
            have := mz rfl
            omega
          | succ m' => exact ⟨m', rfl⟩
        have dn : Dc ≠ pd := (D1.fresh hDc).1
        have ds' : Dc ≠ ps := (D1.fresh hDc).2
        refine ⟨_, rfl, _, rfl, _, rfl, _, _, rfl, rfl, _, rfl, _, rfl, ?_⟩
        refine ⟨pd, ps, g, t + 1, wild, ?_, Dd, g1, g4, fun H2 a vn pm ys n ms x2 D2 ha dvn hpm dms npm nv mo => ?_⟩
        · have : t + ((m' + 1 : Nat) : Int) = t + 1 + (m' : Int) := by omega
          rw [this]
          rfl
        have hxs2 := x2 _ _ dn hxs
        have e1 : pm ≠ pd := fun z => by
          obtain ⟨ys, hy⟩ := Dd.lst
          rw [z, hy] at npm
          cases npm
        have e2 : pm ≠ Dc := fun z => by
          rw [z, hxs] at npm
          cases npm
        have il2 : IsL H2 Dc := ⟨_, hxs2⟩
        have xu : Xt Dc H2 (upd H2 Dc (.lst (xs ++ [.ref a]))) := Xt.upd
        refine ⟨xs, hxs2, ?_, xs ++ [.ref a], cs ++ [(n, ms)], xt_mut (xc.trans x2) hDc, D2.xt dn ds' xu, upd_same, ?_, by simp [lc], fun c hc => ?_⟩
        · rw [ac.1, lc]
          exact small1000 (by omega)
        · refine All2.snoc (ac.imp fun x c h => (h.xt (by simp) Dd.isL x2).xt (by simp) il2 xu) ?_
          refine ChildP.xt (p := Dc) ⟨a, vn, pm, ys, rfl, ha, dvn, hpm, dms, fun x hx => ?_⟩ (by simp) il2 xu
          rcases List.mem_cons.mp hx with rfl | hx
          · exact e1
          · rw [List.mem_singleton.mp hx]
            exact e2
        · rcases List.mem_append.mp hc with hc | hc
          · exact pc c hc
          · rw [List.mem_singleton.mp hc]
            exact ⟨m', rfl, nv, mo⟩
      · rintro H2 ⟨xs, cs, x2, D2, hxs, ac, lc, pc⟩
        have lcm : cs.length = mm := by omega
        have dn : Dc ≠ pd := (D1.fresh hDc).1
        -- weights
        refine ⟨_, rfl, (mm : Int), rfl, by omega, by omega, fun Dw hDw => lc_range (lo := 0) (n := (mm : Int).toNat) (fun i H' => ∃ (ws : List Int), Xt pd H2 H' ∧ Dst H' pd ps ∧ H' Dw = some (.lst (ws.map V.int)) ∧ ws.length = i ∧ ∀ x ∈ ws, 1 ≤ x ∧ x ≤ 3) ?_ ?_ ?_⟩
        · exact ⟨[], Xt.of (same_new hDw), D2.same (same_new hDw), upd_same, rfl, fun x hx => by cases hx⟩
        · rintro i H' hi ⟨ws, xc, Dd, hws, lw, pw⟩
          have wn := D2.fresh hDw
          refine ⟨rfl, ?_⟩
          dsimp only [tYes]
          rw [if_pos rfl]
          refine ⟨_, rfl, pd, ps, 3, rfl, Dd, by decide, Bd.mono (k := 2) (by unfold Bd; decide) (by decide), fun r H3 x3 D3 r0 r1 => ⟨_, _, rfl, rfl, ?_⟩⟩
          have hws3 := x3 _ _ wn.1 hws
          refine ⟨_, hws3, ?_, ws ++ [1 + r], xt_mut (xc.trans x3) hDw, D3.xt wn.1 wn.2 Xt.upd, ?_, by simp [lw], fun x hx => ?_⟩
          · rw [List.length_map, lw]
            exact small1000 (by omega)
          · rw [upd_same, List.map_append]
            rfl
          · rcases List.mem_append.mp hx with hx | hx
            · exact pw x hx
            · rw [List.mem_singleton.mp hx]
              omega
        · rintro H3 ⟨ws, x3, D3, hws, lw, pw⟩
          have lwm : ws.length = mm := by omega
          have wn := D2.fresh hDw
          have hxs3 := x3 _ _ dn hxs
          have ac3 := ac.imp fun x c h => h.xt (by simp) D2.isL x3
          -- mids
          refine ⟨Nat.zero_le _, fun Dm hDm => ?_⟩
          have mn := D3.fresh hDm
          refine ⟨_, rfl, _, _, rfl, rfl, _, rfl, by omega, by omega, for_range (lo := 0) (n := (g - 1).toNat) (fun i σ H' => ∃ (y6 y10 y11 y12 : Option V) (ms : List (Int × Int)) (xm : List V), σ = [some (.ref pd), some (.int g), some (.int t), some (.int (t + m)), some (.bl wild), some (.int (mm : Int)), y6, some (.ref Dc), some (.ref Dw), some (.ref Dm), y10, y11, y12, none, none] ∧ Xt pd H3 H' ∧ Dst H' pd ps ∧ H' Dm = some (.lst xm) ∧ DTs K H' xm (ms.map frD) ∧ ms.length = i ∧ ∀ q ∈ ms, Ok (kb m) q ∧ 0 ≤ q.1) ?_ ?_ ?_⟩
          · exact ⟨_, _, _, _, [], [], rfl, Xt.of (same_new hDm), D3.same (same_new hDm), upd_same, .nil, rfl, fun q hq => by cases hq⟩
          · rintro i σ H4 hi ⟨y6, y10, y11, y12, ms, xm, rfl, x4, D4, hxm, dxm, lm, pm⟩
            have b9 : Bd 8000 9 := Bd.mono (k := 4) (by unfold Bd; decide) (by decide)
            have b2 : Bd 8000 2 := Bd.mono (k := 2) (by unfold Bd; decide) (by decide)
            refine ⟨_, rfl, pd, ps, 9, rfl, D4, by decide, b9, fun a H5 x5 D5 a0 a1 => ⟨_, rfl, pd, ps, 2, rfl, D5, by decide, b2, fun b H6 x6 D6 b0 b1 => ⟨_, _, rfl, rfl, a, 1 + b, rfl, by omega, ?_, fun v H7 s7 dv => ?_⟩⟩⟩
            · refine Bd.mono (k := 2) ?_ (by decide)
              unfold Bd
              show (1 + b).natAbs < 4
              omega
            have okm : Ok 4 (frac a (1 + b)) := frac_ok (by omega) (by unfold Bd; show a.natAbs < 16; omega) (by unfold Bd; show (1 + b).natAbs < 16; omega)
            have nnm : 0 ≤ (frac a (1 + b)).1 := frac_nonneg a0 (by omega)
            have x37 : Xt pd H3 H7 := ((x4.trans x5).trans x6).trans (Xt.of s7)
            have D7 := D6.same s7
            have hxm7 : H7 Dm = some (.lst xm) := s7 _ _ (x6 _ _ mn.1 (x5 _ _ mn.1 hxm))
            have dxm7 := ((dxm.xt D4.isL x5).xt D5.isL x6).same s7
            -- the mean
            refine ⟨fun σ' H8 => ∃ (vm : V) (q : Int × Int) (y6 y12 : Option V), σ' = [some (.ref pd), some (.int g), some (.int t), some (.int (t + m)), some (.bl wild), some (.int (mm : Int)), y6, some (.ref Dc), some (.ref Dw), some (.ref Dm), some (.int (0 + (i : Int))), some vm, y12, none, none] ∧ Same H7 H8 ∧ DT K H8 vm (frD q) ∧ Ok (kb m) q ∧ 0 ≤ q.1, ?_, ?_⟩
            · have skip : ∃ (vm : V) (q : Int × Int) (y6' y12' : Option V), ([some (.ref pd), some (.int g), some (.int t), some (.int (t + m)), some (.bl wild), some (.int (mm : Int)), y6, some (.ref Dc), some (.ref Dw), some (.ref Dm), some (.int (0 + (i : Int))), some v, y12, none, none] : List (Option V)) = [some (.ref pd), some (.int g), some (.int t), some (.int (t + m)), some (.bl wild), some (.int (mm : Int)), y6', some (.ref Dc), some (.ref Dw), some (.ref Dm), some (.int (0 + (i : Int))), some vm, y12', none, none] ∧ Same H7 H7 ∧ DT K H7 vm (frD q) ∧ Ok (kb m) q ∧ 0 ≤ q.1 := ⟨v, _, _, _, rfl, Same.refl _, dv, okm.mono (kb_ge m), nnm⟩
              refine ⟨_, rfl, _, _, rfl, rfl, _, rfl, ite2 (fun e1 => ?_) (fun e1 => iteF skip)⟩
              have mpos : 0 < mm := by
                have : (0 : Int) < (mm : Int) := of_decide_eq_true e1
                omega
              obtain ⟨m', rfl⟩ : ∃ m', m = m' + 1 := by
                cases m with
                | zero =>
                  have := mz rfl
                  omega
                | succ m' => exact ⟨m', rfl⟩
              refine ⟨_, rfl, wild, rfl, ?_⟩
              cases wild with
              | true => exact iteF skip
              | false =>
                refine iteT ?_
                refine ⟨two_le, fun pz hz => ?_⟩
                have s8 := same_new (o := .tup [.int 0, .int 1]) hz
                have hxs7 := x37 _ _ dn hxs3
                have hws7 := x37 _ _ wn.1 hws
                have ac7 := ac3.imp fun x c h => h.xt (by simp) D3.isL x37
                have kl := kb_le hm
                have kl' : 3 * kb m' + 14 ≤ 92 := kl
                refine ⟨_, rfl, (mm : Int), rfl, by omega, by omega, for_range (lo := 0) (n := (mm : Int).toNat) (fun j σ H' => ∃ (vt : V) (q : Int × Int) (y6 : Option V), σ = [some (.ref pd), some (.int g), some (.int t), some (.int (t + (m' + 1 : Nat))), some (.bl false), some (.int (mm : Int)), y6, some (.ref Dc), some (.ref Dw), some (.ref Dm), some (.int (0 + (i : Int))), some v, some vt, none, none] ∧ Same H7 H' ∧ DT K H' vt (frD q) ∧ Ok (1 + j * (kb m' + 3)) q ∧ 0 ≤ q.1) ?_ ?_ ?_⟩
                · exact ⟨_, (0, 1), _, rfl, s8, DT.fr (Tp.of upd_same), ok_zero.mono (by omega), by decide⟩
                · rintro j σ H8 hj ⟨vt, q, y6', rfl, s78, dvt, oq, nq⟩
                  have jm : j < mm := by omega
                  have jc : cs[j]? = some cs[j] := List.getElem?_eq_getElem (by omega)
                  obtain ⟨xj, hxj, cp⟩ := ac7.at_ jc
                  obtain ⟨ca, cvn, cpm, cxs, rfl, hca, dcvn, hcpm, dcms, _⟩ := cp
                  obtain ⟨m2, em, nvc, moc⟩ := pc _ (List.mem_of_getElem? jc)
                  have em2 : m' = m2 := by omega
                  subst em2
                  have il : i < cs[j].2.length := by
                    have := moc.len
                    omega
                  have hq : cs[j].2[i]? = some cs[j].2[i] := List.getElem?_eq_getElem il
                  obtain ⟨xq, hxq, dxq⟩ := dcms.at_ (i := i) (d := frD cs[j].2[i]) (by rw [List.getElem?_map, hq]; rfl)
                  have okq := moc.ok _ (List.mem_of_getElem? hq)
                  have jw : ws[j]? = some ws[j] := List.getElem?_eq_getElem (by omega)
                  have pwj := pw _ (List.mem_of_getElem? jw)
                  have hw7 : (ws.map V.int)[j]? = some (.int ws[j]) := by
                    rw [List.getElem?_map, jw]
                    rfl
                  have e0 : ((0 : Int) + (j : Int)) = (j : Int) := Int.zero_add _
                  have e0i : ((0 : Int) + (i : Int)) = (i : Int) := Int.zero_add _
                  refine ⟨_, rfl, _, rfl, _, rfl, _, _, _, _, rfl, rfl, SqL.of (s78 _ _ hxs7), by rw [e0]; exact atI_nat hxj, _, _, _, _, rfl, rfl, (tp_same s78 hca).sq, atI_nat (j := 1) rfl, _, rfl, _, _, _, _, rfl, rfl, SqL.of (s78 _ _ hcpm), by rw [e0i]; exact atI_nat hxq, ?_⟩
                  refine ⟨_, rfl, _, rfl, _, _, _, _, rfl, rfl, SqL.of (s78 _ _ hws7), by rw [e0]; exact atI_nat hw7, two_le, fun pw1 hw1 => ?_⟩
                  have s9 := same_new (o := .tup [.int ws[j], .int 1]) hw1
                  refine ⟨_, _, cs[j].2[i], (ws[j], 1), 200, rfl, (dxq.same s78).same s9, DT.fr (Tp.of upd_same), okq.1.mono (by omega), (ok_wt pwj.1 pwj.2).mono (by decide), by decide, fun v1 H9 s10 dv1 => ?_⟩
                  have ok1 : Ok (kb m' + 2) (mulF cs[j].2[i] (ws[j], 1)) := mulF_ok okq.1 (ok_wt pwj.1 pwj.2) (Nat.le_refl _)
                  have nn1 : 0 ≤ (mulF cs[j].2[i] (ws[j], 1)).1 := mulF_nn okq.2 (by show 0 ≤ ws[j]; omega) okq.1.pos (by show (0 : Int) < 1; decide)
                  have jb : j * (kb m' + 3) ≤ 2 * (kb m' + 3) := Nat.mul_le_mul_right _ (by omega)
                  refine ⟨_, _, q, mulF cs[j].2[i] (ws[j], 1), 500, rfl, (dvt.same s9).same s10, dv1, oq.mono (by omega), ok1.mono (by omega), by decide, fun v2 H10 s11 dv2 => ?_⟩
                  refine ⟨v2, _, _, rfl, ((s78.trans s9).trans s10).trans s11, dv2, addF_ok oq ok1 ?_, addF_nn nq nn1 oq.pos ok1.pos⟩
                  rw [Nat.add_mul]
                  omega
                · rintro σ H8 ⟨vt, q, y6', rfl, s78, dvt, oq, nq⟩
                  obtain ⟨b1, b2⟩ := sum_bd ws pw
                  have hs0 : 0 < ws.sum := by omega
                  have hs9 : ws.sum ≤ 9 := by omega
                  have os : Ok 4 (1, ws.sum) := ⟨frac_one_low hs0, (by unfold Bd; show (1 : Int).natAbs < 16; decide), (by unfold Bd; show ws.sum.natAbs < 16; omega)⟩
                  have jb : (mm : Int).toNat * (kb m' + 3) ≤ 3 * (kb m' + 3) := Nat.mul_le_mul_right _ (by omega)
                  refine ⟨_, rfl, _, rfl, Dw, ws, rfl, SqL.of (s78 _ _ hws7), two_le, fun ps1 hs1 => ?_⟩
                  have s9 := same_new (o := .tup [.int 1, .int ws.sum]) hs1
                  refine ⟨_, _, q, (1, ws.sum), 500, rfl, dvt.same s9, DT.fr (Tp.of upd_same), oq.mono (by omega), os.mono (by decide), by decide, fun v1 H9 s10 dv1 => ?_⟩
                  refine ⟨v1, _, _, _, rfl, (s78.trans s9).trans s10, dv1, mulF_ok oq os ?_, mulF_nn nq (by show (0 : Int) ≤ 1; decide) oq.pos hs0⟩
                  show _ ≤ 3 * kb m' + 14
                  omega
            · rintro σ' H8 ⟨vm, q, y6', y12', rfl, s78, dvm, oq, nq⟩
              have hxm8 := s78 _ _ hxm7
              have il8 : IsL H8 Dm := ⟨_, hxm8⟩
              have xu : Xt Dm H8 (upd H8 Dm (.lst (xm ++ [vm]))) := Xt.upd
              refine ⟨_, rfl, .inl ⟨rfl, _, SqL.of hxm8⟩, _, rfl, _, _, _, rfl, rfl, hxm8, ?_, ?_⟩
              · rw [dxm.len, List.length_map, lm]
                exact small1000 (by omega)
              · refine ⟨_, _, _, _, ms ++ [q], xm ++ [vm], rfl, xt_mut (x37.trans (Xt.of s78)) hDm, (D7.same s78).xt mn.1 mn.2 xu, upd_same, ?_, by simp [lm], fun z hz => ?_⟩
                · rw [List.map_append]
                  exact ((dxm7.same s78).xt il8 xu).snoc (dvm.xt il8 xu)
                · rcases List.mem_append.mp hz with hz | hz
                  · exact pm z hz
                  · rw [List.mem_singleton.mp hz]
                    exact ⟨oq, nq⟩
          · rintro σ H4 ⟨y6, y10, y11, y12, ms, xm, rfl, x4, D4, hxm, dxm, lm, pm⟩
            have mo : MsOk g m ms := ⟨by omega, pm⟩
            have kl := kb_le hm
            have lxm : xm.length = ms.length := by rw [dxm.len, List.length_map]
            -- prices
            refine ⟨_, rfl, Dm, rfl, ⟨_, SqL.of hxm⟩, fun Dp hDp => lc_list (K := K) (a := Dm) (xs := xm) (fun i H' => ∃ (prs : List Pr) (o : List V), Xt pd H4 H' ∧ Dst H' pd ps ∧ H' Dp = some (.lst o) ∧ DTs K H' o (prs.map prD) ∧ prs.length = i ∧ ∀ p ∈ prs, ¬ badPr p ∧ PrK 201 p) ?_ ?_ ?_ ?_⟩
            · exact ⟨[], [], Xt.of (same_new hDp), D4.same (same_new hDp), upd_same, .nil, rfl, fun p hp => by cases hp⟩
            · rintro i H' _ ⟨_, _, xc, _⟩
              exact SqL.of (xc _ _ mn.1 hxm)
            · rintro i x H' hi ⟨prs, o, xc, Dd, hO, dO, lp, pp⟩
              have pn := D4.fresh hDp
              obtain ⟨d, hd, dx⟩ := dxm.get hi
              rw [List.getElem?_map] at hd
              obtain ⟨q, hq, rfl⟩ := Option.map_eq_some_iff.mp hd
              have oq := pm q (List.mem_of_getElem? hq)
              refine ⟨rfl, ?_⟩
              dsimp only [tYes]
              rw [if_pos rfl]
              refine ⟨_, rfl, _, rfl, pd, ps, x, q, rfl, Dd, dx.xt D4.isL xc, oq.1.mono (by omega), oq.2, fun v' pr H5 x5 D5 dv' nb pb => ?_⟩
              have hO5 := x5 _ _ pn.1 hO
              have il5 : IsL H5 Dp := ⟨_, hO5⟩
              have xu : Xt Dp H5 (upd H5 Dp (.lst (o ++ [v']))) := Xt.upd
              refine ⟨o, hO5, ?_, prs ++ [pr], o ++ [v'], xt_mut (xc.trans x5) hDp, D5.xt pn.1 pn.2 xu, upd_same, ?_, by simp [lp], fun z hz => ?_⟩
              · rw [dO.len, List.length_map, lp]
                have := (List.getElem?_eq_some_iff.mp hq).1
                exact small1000 (by omega)
              · rw [List.map_append]
                exact ((dO.xt Dd.isL x5).xt il5 xu).snoc (dv'.xt il5 xu)
              · rcases List.mem_append.mp hz with hz | hz
                · exact pp z hz
                · rw [List.mem_singleton.mp hz]
                  exact ⟨nb, pb⟩
            · rintro H5 ⟨prs, o, x5, D5, hO, dO, lp, pp⟩
              refine ⟨_, _, rfl, SqL.of hO, fun pt hpt => ?_⟩
              have s6 := same_new (o := .tup o) hpt
              have pso : PsOk g prs := ⟨by have := mo.len; omega, fun p hp => (pp p hp).1, fun p hp => (pp p hp).2⟩
              have x36 : Xt pd H3 _ := (x4.trans x5).trans (Xt.of s6)
              have D6 := D5.same s6
              have dP : DT K _ (.ref pt) (pricesD prs) := .tup (Tp.of upd_same) (dO.same s6)
              have hxs6 := x36 _ _ dn hxs3
              have ac6 := ac3.imp fun x c h => h.xt (by simp) D3.isL x36
              have hxm6 := s6 _ _ (x5 _ _ mn.1 hxm)
              have dxm6 := (dxm.xt D4.isL x5).same s6
              generalize (upd H5 pt (.tup o)) = H6 at *
              -- the children's nodes
              refine ⟨_, rfl, _, rfl, Dc, rfl, ⟨_, SqL.of hxs6⟩, fun De hDe => lc_list (K := K) (a := Dc) (xs := xs) (fun i H' => ∃ o2, Same H6 H' ∧ H' De = some (.lst o2) ∧ DTs K H' o2 (((cs.take i).map (·.1)).map nodeD)) ⟨[], same_new hDe, upd_same, .nil⟩ (fun i H' _ ⟨_, sm, _⟩ => SqL.of (sm _ _ hxs6)) ?_ ?_⟩
              · rintro i x H' hi ⟨o2, sm, hO2, dO2⟩
                obtain ⟨c, hc, cp⟩ := ac6.2 i x hi
                obtain ⟨ca, cvn, cpm, cxs, rfl, hca, dcvn, _⟩ := cp
                refine ⟨rfl, ?_⟩
                dsimp only [tYes]
                rw [if_pos rfl]
                have iD : IsL H' De := ⟨_, hO2⟩
                refine ⟨_, rfl, _, _, _, _, rfl, rfl, (tp_same sm hca).sq, atI_nat (j := 0) rfl, o2, hO2, ?_, _, same_mut sm hDe, upd_same, ?_⟩
                · rw [dO2.len, List.length_map, List.length_map]
                  refine Nat.lt_of_le_of_lt (List.length_take_le' _ _) (small1000 (by omega))
                · rw [take_next hc, List.map_append, List.map_append]
                  exact (dO2.xt iD Xt.upd).snoc ((dcvn.same sm).xt iD Xt.upd)
              · rintro H7 ⟨o2, s7, hO2, dO2⟩
                rw [ac6.1, List.take_length] at dO2
                refine ⟨_, _, rfl, SqL.of hO2, fun pk hpk => ⟨two_le, fun pn hpn => ⟨_, rfl, two_le, fun pr hpr => ?_⟩⟩⟩
                have s8 := same_new (o := .tup o2) hpk
                have s9 := same_new (o := .tup [.ref pt, .ref pk]) hpn
                have s10 := same_new (o := .tup [.ref pn, .ref Dm]) hpr
                have sA := ((s7.trans s8).trans s9).trans s10
                have xA : Xt pd H (upd (upd (upd H7 pk (.tup o2)) pn (.tup [.ref pt, .ref pk])) pr (.tup [.ref pn, .ref Dm])) := (((x1.trans x2).trans x3).trans x36).trans (Xt.of sA)
                have dK : DT K _ (.ref pk) (.tuple ((cs.map (·.1)).map nodeD)) := .tup (Tp.of (s10 _ _ (s9 _ _ upd_same))) ((((dO2.same s8).same s9)).same s10)
                have dN : DT K (upd (upd (upd H7 pk (.tup o2)) pn (.tup [.ref pt, .ref pk])) pr (.tup [.ref pn, .ref Dm])) (.ref pn) (nodeD (.mk prs (cs.map (·.1)))) := by
                  rw [nodeD_eq]
                  exact .mk2 (Tp.of (s10 _ _ upd_same)) (dP.same sA) dK
                refine fin _ pr (.ref pn) Dm xm (.mk prs (cs.map (·.1))) ms xA (D6.same sA) (Tp.of upd_same) dN (sA _ _ hxm6) (dxm6.same sA) ?_ ?_ mo
                · have f3 : H3 Dm = none := hDm
                  have f2 := xt_free x3 mn.1 f3
                  have f1 := xt_free x2 mn.1 f2
                  exact xt_free x1 mn.1 f1
                · cases m with
                  | zero =>
                    refine ⟨pso, ?_⟩
                    have : cs = [] := List.eq_nil_of_length_eq_zero (by rw [lcm]; exact mz rfl)
                    rw [this]
                    rfl
                  | succ m' =>
                    refine ⟨pso, ?_, ?_, fun k hk => ?_⟩
                    · show 0 < (cs.map (·.1)).length
                      rw [List.length_map, lcm]
                      exact mp (by omega)
                    · show (cs.map (·.1)).length ≤ 3
                      rw [List.length_map, lcm]
                      exact mm3
                    · obtain ⟨c, hc, rfl⟩ := List.mem_map.mp hk
                      obtain ⟨m2, em, nv, _⟩ := pc c hc
                      have : m' = m2 := by omega
                      subst this
                      exact nv
def sp_nodeA (K : PySem.W.Frag) : Sp := fun vs H Q E => ∃ m : Nat, m ≤ 2 ∧ sp_node K m vs H Q E
theorem ok__law_node (T : Top K mg) : FnOk P w K mg base CX0 7 T.a__law_node T.d__law_node ["d", "goods", "time", "last", "wild"] (sp_nodeA K) := by
  have z : FnOk P w K mg base CX0 4 T.a__law_node T.d__law_node ["d", "goods", "time", "last", "wild"] (spPrev K 0) := ⟨fun _ _ _ _ h => h.elim, fun _ _ _ _ _ _ _ _ _ _ _ _ _ h => h.elim⟩
  have f0 := node_step T (k := 4) (m := 0) (by decide) (by decide) z
  have f1 := node_step T (k := 5) (m := 1) (by decide) (by decide) f0
  have f2 := node_step T (k := 6) (m := 2) (by decide) (by decide) f1
  refine ⟨fun vs H Q E h => ?_, fun A outer s H args us vs Q E hr e0 hb hv h => ?_⟩
  · obtain ⟨m, _, _, _, _, _, _, rfl, _⟩ := h
    rfl
  · obtain ⟨m, hm, h⟩ := h
    match m, hm, h with
    | 0, _, h => exact (f0.mono (by decide)).run A outer s H args us vs Q E hr e0 hb hv h
    | 1, _, h => exact (f1.mono (by decide)).run A outer s H args us vs Q E hr e0 hb hv h
    | 2, _, h => exact f2.run A outer s H args us vs Q E hr e0 hb hv h
def sp_market (K : PySem.W.Frag) : Sp := fun vs H Q _ => ∃ pd ps : Addr, vs = [.ref pd, .int 4] ∧ Dst H pd ps ∧ ∀ v g n m H', Xt pd H H' → Dst H' pd ps → DT K H' v (marketD g n) → 1 ≤ g → g ≤ 4 → m ≤ 2 → NV g m n → Q v H'
theorem ok__law_market (T : Top K mg) : FnOk P w K mg base CX0 8 T.a__law_market T.d__law_market ["d", "most"] (sp_market K) := by
  refine T._law_market_F.ok sc__law_market (fun vs H Q E h => ?_) (fun cdv A outer s H vs Q E hr h => ?_)
  · obtain ⟨_, _, rfl, _⟩ := h
    rfl
  · obtain ⟨pd, ps, rfl, D, fin⟩ := h
    have b5 : ∀ {x : Int}, 0 ≤ x → x ≤ 7 → Bd 8000 x := fun h0 h1 => Bd.mono (k := 3) (by unfold Bd; omega) (by decide)
    refine ⟨_, (pss_cons (ps_set (i := 2) sc__law_market.nd rfl (Or.inl rfl) (pe_op op_add pe_int (pe_call (ok__law_take T) (hr.mono (by decide : 1 ≤ 7)) (by rfl) T.g__law_take T._law_take_F.kp T._law_take_b .nil pass0 (pa_cons (pv 0) (pa_cons (pv 1) pa_nil)))))
      (Evl.pss_cut (ps_if (PW.pt (pw_and (pt_cmpR op_eq (pv 2) pe_int (nomark _)) (pw_and1 (pt_cmpR op_gt (pe_call (ok__law_take T) (hr.mono (by decide : 1 ≤ 7)) (by rfl) T.g__law_take T._law_take_F.kp T._law_take_b .nil pass0 (pa_cons (pv 0) (pa_cons pe_int pa_nil))) pe_int (nomark _))))) (pss_one (ps_set (i := 2) sc__law_market.nd rfl (Or.inl rfl) pe_int)) pss_nil)
      (pss_cons (ps_set (i := 3) sc__law_market.nd rfl (Or.inl rfl) (pe_cmpR op_eq (pe_call (ok__law_take T) (hr.mono (by decide : 1 ≤ 7)) (by rfl) T.g__law_take T._law_take_F.kp T._law_take_b .nil pass0 (pa_cons (pv 0) (pa_cons pe_int pa_nil))) pe_int (nomark _)))
      (pss_one (ps_ret (pe_tup (pa_cons (pv 2) (pa_cons (pe_ix ix_tup (pe_call (ok__law_node T) (hr.mono (by decide : 7 ≤ 7)) (by rfl) T.g__law_node T._law_node_F.kp T._law_node_b .nil pass0 (pa_cons (pv 0) (pa_cons (pv 2) (pa_cons pe_int (pa_cons (pe_call (ok__law_take T) (hr.mono (by decide : 1 ≤ 7)) (by rfl) T.g__law_take T._law_take_F.kp T._law_take_b .nil pass0 (pa_cons (pv 0) (pa_cons pe_int pa_nil))) (pa_cons (pv 3) pa_nil)))))) pe_int (fun _ _ => rfl)) pa_nil)))))))), ?_⟩
    refine ⟨_, rfl, _, rfl, pd, ps, 4, rfl, D, by decide, b5 (by decide) (by decide), fun r H1 x1 D1 r0 r1 => ⟨_, _, rfl, rfl, ?_⟩⟩
    refine ⟨fun σ' H2 => ∃ g : Int, σ' = [some (.ref pd), some (.int 4), some (.int g), none] ∧ Xt pd H H2 ∧ Dst H2 pd ps ∧ 1 ≤ g ∧ g ≤ 4, ?_, ?_⟩
    · refine ⟨_, rfl, rfl, _, rfl, ite2 (fun e => ?_) (fun e => iteF ⟨1 + r, rfl, x1, D1, by omega, by omega⟩)⟩
      refine ⟨_, rfl, pd, ps, 3, rfl, D1, by decide, b5 (by decide) (by decide), fun q H2 x2 D2 q0 q1 => ⟨_, _, rfl, rfl, _, rfl, ite2 (fun e2 => ?_) (fun e2 => ?_)⟩⟩
      · exact ⟨2, rfl, x1.trans x2, D2, by decide, by decide⟩
      · exact ⟨1 + r, rfl, x1.trans x2, D2, by omega, by omega⟩
    · rintro σ' H2 ⟨g, rfl, x2, D2, g1, g4⟩
      refine ⟨_, rfl, pd, ps, 5, rfl, D2, by decide, b5 (by decide) (by decide), fun q H3 x3 D3 q0 q1 => ⟨rfl, ?_⟩⟩
      refine ⟨_, rfl, _, rfl, _, rfl, _, rfl, pd, ps, 3, rfl, D3, by decide, b5 (by decide) (by decide), fun l H4 x4 D4 l0 l1 => ?_⟩
      refine ⟨_, rfl, l.toNat, by omega, pd, ps, g, 0, decide (V.int q = V.int 1), ?_, D4, g1, g4, fun H5 a vn pm xs n ms x5 D5 ha dvn _ _ _ nv _ => ?_⟩
      · have : (0 : Int) + (l.toNat : Int) = l := by omega
        rw [this]
        rfl
      · refine ⟨_, _, _, _, rfl, rfl, ha.sq, atI_nat (j := 0) rfl, two_le, fun pt hpt => ?_⟩
        have s6 := same_new (o := .tup [.int g, vn]) hpt
        exact fin _ g n l.toNat _ ((((x2.trans x3).trans x4).trans x5).trans (Xt.of s6)) (D5.same s6) (.mk2 (Tp.of upd_same) (.int g) (dvn.same s6)) g1 g4 (by omega) nv
end
end Nl

namespace Nl
open PySem PySem.Spec PyProof.Rows L2
section
variable {P : Program} {w : World} {K : PySem.W.Frag} {mg : Str → Option Value} {base : Heap}
def sp_find (K : PySem.W.Frag) : Sp := fun vs H Q _ => ∃ (v va : V) (g : Int) (n : Node) (p : List Int), vs = [v, va] ∧ DT K H v (marketD g n) ∧ DT K H va (pathD p) ∧ (find n p = none → Q .non H) ∧ (∀ m, find n p = some m → ∀ v', DT K H v' (nodeD m) → Q v' H)
theorem ok__law_find (T : Top K mg) : FnOk P w K mg base CX0 1 T.a__law_find T.d__law_find ["market", "path"] (sp_find K) := by
  refine T._law_find_F.ok sc__law_find (fun vs H Q E h => ?_) (fun cdv A outer s H vs Q E hr h => ?_)
  · obtain ⟨_, _, _, _, _, rfl, _⟩ := h
    rfl
  · obtain ⟨_, _, g, n, p, rfl, dm, dp, kN, kQ⟩ := h
    obtain ⟨m, vn, rfl, hm, dn⟩ := dm.market_inv
    obtain ⟨a, rfl, ha⟩ := dp.path_inv
    refine ⟨_, (pss_cons (ps_set (i := 2) sc__law_find.nd rfl (Or.inl rfl) (pe_ix ix_tup (pv 0) pe_int (fun _ _ => rfl)))
      (pss_cons (ps_for PassesOwn.never rfl (pi_tup (pv 1)) (pg_name (i := 3) sc__law_find.nd rfl (Or.inl rfl)) (pss_cons (ps_if (PW.pt (pw_or (pt_cmpR op_lt (pv 3) pe_int (nomark _)) (pw_or1 (pt_cmpR op_ge (pv 3) (pe_callB call_lenT (by rfl) T.n_len (by decide +kernel) (pa_cons (pe_ix ix_tup (pv 2) pe_int (fun _ _ => rfl)) pa_nil)) (nomark _))))) (pss_one (ps_ret pe_non)) pss_nil)
      (pss_one (ps_set (i := 2) sc__law_find.nd rfl (Or.inl rfl) (pe_ix ix_tup (pe_ix ix_tup (pv 2) pe_int (fun _ _ => rfl)) (pv 3) (fun _ _ => rfl))))))
      (pss_one (ps_ret (pv 2))))), ?_⟩
    refine ⟨_, rfl, _, _, _, _, rfl, rfl, hm.sq, atI_nat (j := 1) rfl, ?_⟩
    refine ⟨_, rfl, a, rfl, ⟨_, ha.sq⟩, for_tup (fun i σ H' => ∃ (vn : V) (m' : Node) (y : Option V), σ = [some (.ref m), some (.ref a), some vn, y] ∧ H' = H ∧ DT K H vn (nodeD m') ∧ find n p = find m' (p.drop i)) ⟨vn, n, none, rfl, rfl, dn, rfl⟩ (fun i σ H' _ ⟨_, _, _, _, e, _⟩ => (e ▸ ha).sq) ?_ ?_⟩
    · rintro i x σ H' hi ⟨vn, m', y, rfl, rfl, dk, ef⟩
      rw [List.getElem?_map] at hi
      obtain ⟨j, hj, rfl⟩ := Option.map_eq_some_iff.mp hi
      obtain ⟨c, vq, vc, rfl, hc, dq, dc⟩ := dk.node_inv
      obtain ⟨cc, xk, rfl, hcc, dks⟩ := dc.inv
      have lk : xk.length = m'.ks.length := by rw [dks.len, List.length_map]
      have il := (List.getElem?_eq_some_iff.mp hj).1
      have ed : p.drop i = j :: p.drop (i + 1) := by
        rw [List.drop_eq_getElem_cons il]
        rw [List.getElem?_eq_getElem il] at hj
        rw [Option.some.inj hj]
      have out : ¬ (0 ≤ j ∧ j < (m'.ks.length : Int)) → find n p = none := fun z => by
        rw [ef, ed]
        exact find_out z
      refine ⟨_, rfl, _, _, rfl, rfl, _, rfl, ite2 (fun e1 => iteT (kN (out fun z => ?_))) (fun e1 => ⟨_, rfl, _, rfl, _, _, _, _, rfl, rfl, hc.sq, atI_nat (j := 1) rfl, _, _, rfl, (hcc).sq, _, _, rfl, rfl, _, rfl, ite2 (fun e2 => ?_) (fun e2 => ?_)⟩)⟩
      · have : j < 0 := of_decide_eq_true e1
        omega
      · exact kN (out fun z => by
          have : (xk.length : Int) ≤ j := of_decide_eq_true e2
          omega)
      · have j0 : ¬ j < 0 := fun z => e1 (decide_eq_true z)
        have j1 : ¬ (xk.length : Int) ≤ j := fun z => e2 (decide_eq_true z)
        obtain ⟨jn, rfl⟩ := Int.eq_ofNat_of_zero_le (show 0 ≤ j by omega)
        have hk : m'.ks[jn]? = some m'.ks[jn] := List.getElem?_eq_getElem (by omega)
        obtain ⟨xx, hxx, dxx⟩ := dks.at_ (i := jn) (d := nodeD m'.ks[jn]) (by rw [List.getElem?_map, hk]; rfl)
        refine ⟨_, rfl, _, _, _, _, rfl, rfl, hc.sq, atI_nat (j := 1) rfl, _, rfl, _, _, _, _, rfl, rfl, hcc.sq, atI_nat hxx, xx, _, _, rfl, rfl, dxx, ?_⟩
        rw [ef, ed, find_cons, hk]
        rfl
    · rintro σ H' ⟨vn, m', y, rfl, rfl, dk, ef⟩
      rw [List.length_map, List.drop_length] at ef
      exact ⟨_, rfl, kQ m' ef _ dk⟩
def sp_nodes (K : PySem.W.Frag) : Sp := fun vs H Q _ => ∃ (v : V) (g : Int) (n : Node), vs = [v] ∧ DT K H v (marketD g n) ∧ (pre [] n).length ≤ 200 ∧ (∀ x ∈ pre [] n, x.1.length ≤ 6) ∧ ∀ p xs H', Same H H' → H p = none → H' p = some (.lst xs) → DTs K H' xs ((pre [] n).map entD) → Q (.ref p) H'
theorem ok__law_nodes (T : Top K mg) : FnOk P w K mg base CX0 4 T.a__law_nodes T.d__law_nodes ["market"] (sp_nodes K) := by
  refine T._law_nodes_F.ok sc__law_nodes (fun vs H Q E h => ?_) (fun cdv A outer s H vs Q E hr h => ?_)
  · obtain ⟨_, _, _, rfl, _⟩ := h
    rfl
  · obtain ⟨v, g, n, rfl, dm, hn, h6, fin⟩ := h
    obtain ⟨m, vn, rfl, hm, dn⟩ := id dm.market_inv
    refine ⟨_, (pss_cons (ps_set (i := 1) sc__law_nodes.nd rfl (Or.inl rfl) (pe_lst pa_nil))
      (pss_cons (ps_set (i := 2) sc__law_nodes.nd rfl (Or.inl rfl) (pe_lst (pa_cons (pe_tup (pa_cons (pe_tup pa_nil) (pa_cons (pe_ix ix_tup (pv 0) pe_int (fun _ _ => rfl)) pa_nil))) pa_nil)))
      (pss_cons (ps_for PassesOwn.never rfl (pi_range1 rfl T.n_range (pa_cons pe_int pa_nil)) (pg_name (i := 3) sc__law_nodes.nd rfl (Or.inl rfl)) (pss_cons (ps_set (i := 1) sc__law_nodes.nd rfl (Or.inl rfl) (pe_op op_cat (pv 1) (pv 2)))
      (pss_cons (ps_set (i := 4) sc__law_nodes.nd rfl (Or.inl rfl) (pe_lst pa_nil))
      (pss_cons (ps_for PassesOwn.never rfl (pi_list (pv 2)) (pg_tup rfl (pgs_cons (pg_name (i := 5) sc__law_nodes.nd rfl (Or.inr rfl)) (pgs_cons (pg_name (i := 6) sc__law_nodes.nd rfl (Or.inr rfl)) pgs_nil))) (pss_one (ps_set (i := 4) sc__law_nodes.nd rfl (Or.inl rfl) (pe_op op_cat (pv 4) (pe_lc (own := [("k", 7)]) (g := (gName 7)) (tt := tYes) (by rfl) sc__law_nodes.nd (pi_range1 rfl T.n_range (pa_cons (pe_callB call_lenT (by rfl) T.n_len (by decide +kernel) (pa_cons (pe_ix ix_tup (pv 6) pe_int (fun _ _ => rfl)) pa_nil)) pa_nil)) (blkOk_by (own := [("k", 7)]) (N := ["market", "rows", "level", "turn", "fresh", "path", "node", "k", "row"]) (sc := defScope s__law_nodes) (by decide +kernel)) (fun _ _ _ _ _ => (pg_name (i := 7) sc__law_nodes.nd rfl (Or.inl rfl))) (fun _ _ _ _ _ => pts_nil) (fun _ _ _ _ _ => (pe_tup (pa_cons (pe_op (r := rCatP K) op_catP (pv 5) (pe_tup (pa_cons (pv 7) pa_nil))) (pa_cons (pe_ix (r := rIxT K) ix_tup (pe_ix (r := rIxT K) ix_tup (pv 6) pe_int (fun _ _ => rfl)) (pv 7) (fun _ _ => rfl)) pa_nil)))))))))
      (pss_one (ps_set (i := 2) sc__law_nodes.nd rfl (Or.inl rfl) (pv 4)))))))
      (pss_one (ps_ret (pe_lc (own := [("path", 5)]) (g := (gName 5)) (tt := tYes) (by rfl) sc__law_nodes.nd (pi_list (pe_callB (cr_sortQ (hr.mono (by decide))) (by rfl) T.n_sorted (by decide +kernel) (pa_cons (pe_lc (own := [("row", 8)]) (g := (gName 8)) (tt := tYes) (by rfl) sc__law_nodes.nd (pi_list (pv 1)) (blkOk_by (own := [("row", 8)]) (N := ["market", "rows", "level", "turn", "fresh", "path", "node", "k", "row"]) (sc := defScope s__law_nodes) (by decide +kernel)) (fun _ _ _ _ _ => (pg_name (i := 8) sc__law_nodes.nd rfl (Or.inl rfl))) (fun _ _ _ _ _ => pts_nil) (fun _ _ _ _ _ => (pe_ix (r := rIxT K) ix_tup (pv 8) pe_int (fun _ _ => rfl)))) pa_nil))) (blkOk_by (own := [("path", 5)]) (N := ["market", "rows", "level", "turn", "fresh", "path", "node", "k", "row"]) (sc := defScope s__law_nodes) (by decide +kernel)) (fun _ _ _ _ _ => (pg_name (i := 5) sc__law_nodes.nd rfl (Or.inl rfl))) (fun _ _ _ _ _ => pts_nil) (fun _ _ _ _ _ => (pe_tup (pa_cons (pv 5) (pa_cons (pe_call (ok__law_find T) (hr.mono (by decide : 1 ≤ 3)) (by rfl) T.g__law_find T._law_find_F.kp T._law_find_b .nil pass0 (pa_cons (pv 0) (pa_cons (pv 5) pa_nil))) pa_nil)))))))))), ?_⟩
    refine ⟨Nat.zero_le _, fun pr hpr => ?_⟩
    have s1 := same_new (o := .lst []) hpr
    refine ⟨Nat.zero_le _, fun pe he => ?_⟩
    have s2 := s1.trans (same_new (o := .tup []) he)
    refine ⟨_, rfl, _, _, _, _, rfl, rfl, (tp_same s2 hm).sq, atI_nat (j := 1) rfl, two_le, fun pt ht => ⟨(by decide : 1 ≤ sizeLine), fun pl hl => ?_⟩⟩
    have s3 := s2.trans (same_new (o := .tup [.ref pe, vn]) ht)
    have s4 := s3.trans (same_new (o := .lst [.ref pt]) hl)
    have dE : DT K (upd (upd (upd (upd H pr (.lst [])) pe (.tup [])) pt (.tup [.ref pe, vn])) pl (.lst [.ref pt])) (.ref pt) (entD ([], n)) := by
      refine .mk2 (Tp.of (same_new hl _ _ upd_same)) ?_ (dn.same s4)
      exact DT.path (Tp.of (same_new hl _ _ (same_new ht _ _ upd_same)))
    have hr0 : (upd (upd (upd (upd H pr (.lst [])) pe (.tup [])) pt (.tup [.ref pe, vn])) pl (.lst [.ref pt])) pr = some (.lst []) := same_new hl _ _ (same_new ht _ _ (same_new he _ _ upd_same))
    refine ⟨7, rfl, by decide, by decide, for_range (lo := 0) (n := (7 : Int).toNat) (fun t σ H' => ∃ (pr pl : Addr) (xr xl : List V) (y3 y4 y5 y6 : Option V), σ = [some (.ref m), some (.ref pr), some (.ref pl), y3, y4, y5, y6, none, none] ∧ Same H H' ∧ H' pr = some (.lst xr) ∧ DTs K H' xr ((rowsN n t).map entD) ∧ H' pl = some (.lst xl) ∧ DTs K H' xl ((lv n t).map entD)) ⟨pr, pl, [], [.ref pt], _, _, _, _, rfl, s4, hr0, .nil, upd_same, .cons dE .nil⟩ ?_ ?_⟩
    · rintro t σ H1 ht7 ⟨pr, pl, xr, xl, y3, y4, y5, y6, rfl, sm, hpr, dxr, hpl, dxl⟩
      have lr : xr.length = (rowsN n t).length := by rw [dxr.len, List.length_map]
      have ll : xl.length = (lv n t).length := by rw [dxl.len, List.length_map]
      have b1 := rows_len n t
      have b2 := lv_le n t
      refine ⟨_, rfl, _, rfl, _, _, _, _, rfl, rfl, hpr, hpl, len1000 (by omega), fun pr2 hp2 => ?_⟩
      have s5 := same_new (o := .lst (xr ++ xl)) hp2
      refine ⟨Nat.zero_le _, fun pf hpf => ?_⟩
      have s6 := s5.trans (same_new (o := .lst []) hpf)
      have hr2 : (upd (upd H1 pr2 (.lst (xr ++ xl))) pf (.lst [])) pr2 = some (.lst (xr ++ xl)) := same_new hpf _ _ upd_same
      have hl2 := s6 _ _ hpl
      have dl2 := dxl.same s6
      have dr2 : DTs K (upd (upd H1 pr2 (.lst (xr ++ xl))) pf (.lst [])) (xr ++ xl) ((rowsN n (t + 1)).map entD) := by
        show DTs K _ _ ((rowsN n t ++ lv n t).map entD)
        rw [List.map_append]
        exact (dxr.same s6).app dl2
      have hf0 : (upd (upd H1 pr2 (.lst (xr ++ xl))) pf (.lst [])) pf = some (.lst []) := upd_same
      generalize (upd (upd H1 pr2 (.lst (xr ++ xl))) pf (.lst [])) = H2 at *
      refine ⟨_, rfl, pl, rfl, ⟨_, SqL.of hl2⟩, for_list (K := K) (a := pl) (xs := xl) (fun j σ H' => ∃ (pf : Addr) (xf : List V) (y5 y6 : Option V), σ = [some (.ref m), some (.ref pr2), some (.ref pl), some (.int (0 + (t : Int))), some (.ref pf), y5, y6, none, none] ∧ Same H2 H' ∧ H' pf = some (.lst xf) ∧ DTs K H' xf ((((lv n t).take j).flatMap kidsOf).map entD)) ⟨pf, [], _, _, rfl, Same.refl _, hf0, .nil⟩ (fun i σ H' _ ⟨_, _, _, _, _, sm', _⟩ => SqL.of (sm' _ _ hl2)) ?_ ?_⟩
      · rintro j x σ H3 hj ⟨pf, xf, y5, y6, rfl, sm3, hf3, df3⟩
        obtain ⟨d, hd, dx⟩ := dl2.get hj
        rw [List.getElem?_map] at hd
        obtain ⟨e, he, rfl⟩ := Option.map_eq_some_iff.mp hd
        have em : e ∈ pre [] n := lv_mem n t e (List.mem_of_getElem? he)
        have ke := kids_mem_le em
        have e6 := h6 e em
        obtain ⟨b, vp, vk, rfl, hb2, dp, dk⟩ := (dx.same sm3).entD_inv
        obtain ⟨c, vq, vc, rfl, hc, dq, dc⟩ := dk.node_inv
        obtain ⟨cc, xk, rfl, hcc, dks⟩ := dc.inv
        obtain ⟨ap, rfl, hap⟩ := dp.path_inv
        have lk : xk.length = e.2.ks.length := by rw [dks.len, List.length_map]
        refine ⟨_, _, rfl, hb2.sq, rfl, _, _, rfl, _, _, rfl, rfl, ?_⟩
        refine ⟨_, rfl, _, rfl, _, _, _, _, rfl, rfl, hc.sq, atI_nat (j := 1) rfl, _, _, rfl, hcc, (xk.length : Int), rfl, by omega, by omega, fun D hD => lc_range (lo := 0) (n := (xk.length : Int).toNat) (fun i H' => ∃ o, Same H3 H' ∧ H' D = some (.lst o) ∧ DTs K H' o (((kidsOf e).take i).map entD)) ⟨[], same_new hD, upd_same, .nil⟩ ?_ ?_⟩
        · rintro i H4 hi ⟨o, s4', hO, dO⟩
          refine ⟨rfl, ?_⟩
          dsimp only [tYes]
          rw [if_pos rfl]
          have e0 : ((0 : Int) + (i : Int)) = (i : Int) := Int.zero_add _
          have hk : e.2.ks[i]? = some e.2.ks[i] := List.getElem?_eq_getElem (by omega)
          obtain ⟨xx, hxx, dxx⟩ := dks.at_ (i := i) (d := nodeD e.2.ks[i]) (by rw [List.getElem?_map, hk]; rfl)
          refine ⟨_, rfl, _, rfl, (by decide : 1 ≤ sizeLine), fun p1 hp1 => ?_⟩
          have s5' := same_new (o := .tup [.int ((0 : Int) + (i : Int))]) hp1
          refine ⟨ap, p1, _, _, rfl, rfl, tp_same (s4'.trans s5') hap, Tp.of upd_same, ?_, fun p2 H5 s6' hp2 => ?_⟩
          · rw [List.length_map]
            exact len1000 (show e.1.length + 1 ≤ 1000 by omega)
          have s56 := s5'.trans s6'
          refine ⟨_, rfl, _, _, _, _, rfl, rfl, (tp_same (s4'.trans s56) hc).sq, atI_nat (j := 1) rfl, _, rfl, _, _, _, _, rfl, rfl, (tp_same (s4'.trans s56) hcc).sq, by rw [e0]; exact atI_nat hxx, two_le, fun p3 hp3 => ?_⟩
          have s7 := same_new (o := .tup [.ref p2, xx]) hp3
          have s567 := s56.trans s7
          refine ⟨o, s567 _ _ hO, ?_, _, same_mut (s4'.trans s567) hD, upd_same, ?_⟩
          · rw [dO.len, List.length_map]
            exact Nat.lt_of_le_of_lt (List.length_take_le' _ _) (small1000 (by rw [kids_len]; omega))
          · have iD : IsL (upd H5 p3 (.tup [.ref p2, xx])) D := ⟨_, s567 _ _ hO⟩
            rw [take_next (kids_get hk), List.map_append]
            refine ((dO.same s567).xt iD Xt.upd).snoc ?_
            rw [e0] at hp2
            have hq : Tp H5 p2 ((e.1 ++ [(i : Int)]).map V.int) := by
              rw [List.map_append]
              exact hp2
            exact DT.xt (.mk2 (Tp.of upd_same) ((DT.path hq).same s7) ((dxx.same (s4'.trans s56)).same s7)) iD Xt.upd
        · rintro H4 ⟨o, s4', hO, dO⟩
          have et : (kidsOf e).take ((xk.length : Int).toNat) = kidsOf e := List.take_of_length_le (by rw [kids_len]; omega)
          rw [et] at dO
          have hf4 := s4' _ _ hf3
          refine ⟨_, _, _, _, rfl, rfl, hf4, hO, ?_, fun p hp => ?_⟩
          · rw [df3.len, dO.len, List.length_map, List.length_map, kids_len]
            have h1 : (((lv n t).take j).flatMap kidsOf).length ≤ (lv n (t + 1)).length := by
              show _ ≤ ((lv n t).flatMap kidsOf).length
              rw [← List.take_append_drop j (lv n t), List.flatMap_append, List.length_append, List.take_append_drop]
              omega
            have h2 := lv_le n (t + 1)
            exact len1000 (by omega)
          · have s8 := same_new (o := .lst (xf ++ o)) hp
            refine ⟨p, xf ++ o, _, _, rfl, (sm3.trans s4').trans s8, upd_same, ?_⟩
            rw [take_next he, List.flatMap_append, List.map_append]
            refine ((df3.same s4').same s8).app ?_
            rw [List.flatMap_singleton]
            exact dO.same s8
      · rintro σ H3 ⟨pf, xf, y5, y6, rfl, sm3, hf3, df3⟩
        rw [ll, List.take_length] at df3
        exact ⟨_, rfl, pr2, pf, _, _, _, _, _, _, rfl, (sm.trans s6).trans sm3, sm3 _ _ hr2, dr2.same sm3, hf3, df3⟩
    · rintro σ H1 ⟨pr, pl, xr, xl, y3, y4, y5, y6, rfl, sm, hpr, dxr, hpl, dxl⟩
      have dxr : DTs K H1 xr ((rowsN n 7).map entD) := dxr
      have lr : xr.length = (rowsN n 7).length := by rw [dxr.len, List.length_map]
      have b1 := rows_len n 7
      -- [row[0] for row in rows]
      refine ⟨_, rfl, pr, rfl, ⟨_, SqL.of hpr⟩, fun D hD => lc_list (K := K) (a := pr) (xs := xr) (fun i H' => ∃ o, Same H1 H' ∧ H' D = some (.lst o) ∧ DTs K H' o ((((rowsN n 7).take i).map (·.1)).map pathD)) ⟨[], same_new hD, upd_same, .nil⟩ (fun i H' _ ⟨_, sm', _⟩ => SqL.of (sm' _ _ hpr)) ?_ ?_⟩
      · rintro i x H' hi ⟨o, sm', hO, dO⟩
        obtain ⟨d, hd, dx⟩ := dxr.get hi
        rw [List.getElem?_map] at hd
        obtain ⟨e, he, rfl⟩ := Option.map_eq_some_iff.mp hd
        obtain ⟨b, vp, vk, rfl, hb2, dp, dk⟩ := (dx.same sm').entD_inv
        refine ⟨rfl, ?_⟩
        dsimp only [tYes]
        rw [if_pos rfl]
        have iD : IsL H' D := ⟨_, hO⟩
        refine ⟨_, rfl, _, _, _, _, rfl, rfl, hb2.sq, atI_nat (j := 0) rfl, o, hO, ?_, _, same_mut sm' hD, upd_same, ?_⟩
        · rw [dO.len, List.length_map, List.length_map]
          exact Nat.lt_of_le_of_lt (List.length_take_le' _ _) (small1000 (by omega))
        · rw [take_next he, List.map_append, List.map_append]
          exact (dO.xt iD Xt.upd).snoc (dp.xt iD Xt.upd)
      · rintro H2 ⟨o, s2, hO, dO⟩
        rw [lr, List.take_length] at dO
        refine ⟨D, o, (rowsN n 7).map (fun e : PN => e.1), rfl, SqL.of hO, dO, fun p hp => ?_, fun ys k p2 hperm hk hs hp2 => ?_⟩
        · rw [List.getElem?_map, rows_head n 6] at hp
          exact (Option.some.inj hp).symm
        have s3 := same_new (o := .lst ys) hp2
        have hy2 : (upd H2 p2 (.lst ys)) p2 = some (.lst ys) := upd_same
        have dO3 := dO.same s3
        have yk : ys.map k = (pre [] n).map (·.1) := by
          refine uniq_srt (((hperm.map k).trans (by rw [hk])).trans ((rows_all h6).symm.map _)) ?_ (paths_sorted n)
          rw [List.pairwise_map]
          exact hs
        have dy : ∀ (i : Nat) (y : V), ys[i]? = some y → DT K (upd H2 p2 (.lst ys)) y (pathD (k y)) := by
          intro i y hy
          have hm := hperm.mem_iff.mp (List.mem_of_getElem? hy)
          obtain ⟨j, hj, rfl⟩ := List.mem_iff_getElem.mp hm
          obtain ⟨d, hd, dx⟩ := dO3.get (List.getElem?_eq_getElem hj)
          rw [List.getElem?_map] at hd
          obtain ⟨q, hq, rfl⟩ := Option.map_eq_some_iff.mp hd
          have : k o[j] = q := by
            have h1 := congrArg (·[j]?) hk
            simp only [List.getElem?_map, List.getElem?_eq_getElem hj] at h1
            rw [List.getElem?_map] at hq
            rw [hq] at h1
            exact Option.some.inj h1
          rw [this]
          exact dx
        have ly : ys.length = (pre [] n).length := by
          have := congrArg List.length yk
          simpa using this
        generalize (upd H2 p2 (.lst ys)) = H3 at *
        have dm3 := dm.same ((sm.trans s2).trans s3)
        refine ⟨p2, rfl, ⟨_, SqL.of hy2⟩, fun D2 hD2 => lc_list (K := K) (a := p2) (xs := ys) (fun i H' => ∃ o, Same H3 H' ∧ H' D2 = some (.lst o) ∧ DTs K H' o (((pre [] n).take i).map entD)) ⟨[], same_new hD2, upd_same, .nil⟩ (fun i H' _ ⟨_, sm', _⟩ => SqL.of (sm' _ _ hy2)) ?_ ?_⟩
        · rintro i y H' hi ⟨o2, sm', hO2, dO2⟩
          have il := (List.getElem?_eq_some_iff.mp hi).1
          have he : (pre [] n)[i]? = some (pre [] n)[i] := List.getElem?_eq_getElem (by omega)
          have ek : k y = (pre [] n)[i].1 := by
            have h1 := congrArg (·[i]?) yk
            simp only [List.getElem?_map, hi, he] at h1
            exact Option.some.inj h1
          have dyi := dy i y hi
          rw [ek] at dyi
          obtain ⟨r, er, hf⟩ := pre_find _ ([], n) _ (Nat.le_refl _) (List.mem_of_getElem? he)
          have er' : (pre [] n)[i].1 = r := er
          rw [← er'] at hf
          refine ⟨rfl, ?_⟩
          dsimp only [tYes]
          rw [if_pos rfl]
          refine ⟨_, rfl, _, rfl, _, rfl, _, _, g, n, _, rfl, dm3.same sm', dyi.same sm', fun z => (by rw [show find n (pre [] n)[i].1 = some (pre [] n)[i].2 from hf] at z; cases z), fun m' em v' dv => ⟨two_le, fun p3 hp3 => ?_⟩⟩
          have em2 : m' = (pre [] n)[i].2 := by
            rw [show find n (pre [] n)[i].1 = some (pre [] n)[i].2 from hf] at em
            exact (Option.some.inj em).symm
          subst em2
          have s4 := same_new (o := .tup [y, v']) hp3
          have iD : IsL (upd H' p3 (.tup [y, v'])) D2 := ⟨_, s4 _ _ hO2⟩
          refine ⟨o2, s4 _ _ hO2, ?_, _, same_mut (sm'.trans s4) hD2, upd_same, ?_⟩
          · rw [dO2.len, List.length_map]
            exact Nat.lt_of_le_of_lt (List.length_take_le' _ _) (small1000 (by omega))
          · rw [take_next he, List.map_append]
            refine ((dO2.same s4).xt iD Xt.upd).snoc ?_
            exact DT.xt (.mk2 (Tp.of upd_same) ((dyi.same sm').same s4) (dv.same s4)) iD Xt.upd
        · rintro H4 ⟨o2, s4, hO2, dO2⟩
          rw [ly, List.take_length] at dO2
          refine fin D2 o2 H4 (((sm.trans s2).trans s3).trans s4) ?_ hO2 dO2
          exact (((sm.trans s2).trans s3)).free hD2
def sp_lprices (K : PySem.W.Frag) : Sp := fun vs H Q _ => ∃ (v va : V) (g : Int) (n m : Node) (p : List Int), vs = [v, va] ∧ DT K H v (marketD g n) ∧ DT K H va (pathD p) ∧ find n p = some m ∧ m.ps.length ≤ 900 ∧ ∀ v' H', Same H H' → DT K H' v' (.tuple (prD ((1, 1), (1, 1)) :: m.ps.map prD)) → Q v' H'
theorem ok__law_prices (T : Top K mg) : FnOk P w K mg base CX0 2 T.a__law_prices T.d__law_prices ["market", "path"] (sp_lprices K) := by
  refine T._law_prices_F.ok sc__law_prices (fun vs H Q E h => ?_) (fun cdv A outer s H vs Q E hr h => ?_)
  · obtain ⟨_, _, _, _, _, _, rfl, _⟩ := h
    rfl
  · obtain ⟨_, _, g, n, m, p, rfl, dm, dp, em, lm, fin⟩ := h
    refine ⟨_, (pss_one (ps_ret (pe_op op_catP (pe_tup (pa_cons (pe_tup (pa_cons (pe_tup (pa_cons pe_int (pa_cons pe_int pa_nil))) (pa_cons (pe_tup (pa_cons pe_int (pa_cons pe_int pa_nil))) pa_nil))) pa_nil)) (pe_ix ix_tup (pe_call (ok__law_find T) (hr.mono (by decide : 1 ≤ 1)) (by rfl) T.g__law_find T._law_find_F.kp T._law_find_b .nil pass0 (pa_cons (pv 0) (pa_cons (pv 1) pa_nil))) pe_int (fun _ _ => rfl))))), ?_⟩
    refine ⟨two_le, fun p1 h1 => ⟨two_le, fun p2 h2 => ⟨two_le, fun p3 h3 => ⟨(by decide : 1 ≤ sizeLine), fun p4 h4 => ?_⟩⟩⟩⟩
    have s1 := same_new (o := .tup [.int 1, .int 1]) h1
    have s2 := same_new (o := .tup [.int 1, .int 1]) h2
    have s3 := same_new (o := .tup [.ref p1, .ref p2]) h3
    have s4 := same_new (o := .tup [.ref p3]) h4
    have sm := ((s1.trans s2).trans s3).trans s4
    have dO : DT K _ (.ref p3) (prD ((1, 1), (1, 1))) := .mk2 (Tp.of (s4 _ _ upd_same)) (DT.fr (Tp.of (s4 _ _ (s3 _ _ (s2 _ _ upd_same))))) (DT.fr (Tp.of (s4 _ _ (s3 _ _ upd_same))))
    refine ⟨_, rfl, _, rfl, _, _, g, n, p, rfl, dm.same sm, dp.same sm, fun z => (by rw [em] at z; cases z), fun m' em' v' dv => ?_⟩
    rw [em] at em'
    cases em'
    obtain ⟨c, vq, vc, rfl, hc, dq, dc⟩ := dv.node_inv
    obtain ⟨b, xs, rfl, hb, hx⟩ := dq.inv
    have lx : xs.length = m.ps.length := by rw [hx.len, List.length_map]
    refine ⟨_, _, _, _, rfl, rfl, hc.sq, atI_nat (j := 0) rfl, _, _, _, _, rfl, rfl, Tp.of upd_same, hb, ?_, fun p5 H' s5 hp5 => ?_⟩
    · rw [lx]
      exact len1000 (show 1 + m.ps.length ≤ 1000 by omega)
    · refine fin _ H' (sm.trans s5) (.tup hp5 ?_)
      exact (DTs.cons dO hx).same s5
def sp_lends (K : PySem.W.Frag) : Sp := fun vs H Q _ => ∃ (v : V) (g : Int) (n : Node), vs = [v] ∧ DT K H v (marketD g n) ∧ (pre [] n).length ≤ 200 ∧ (∀ x ∈ pre [] n, x.1.length ≤ 6) ∧ ∀ p xs H', Same H H' → H p = none → H' p = some (.lst xs) → DTs K H' xs ((endsN n).map fun e => pathD e.1) → Q (.ref p) H'
end
end Nl

namespace Nl
open PySem PySem.Spec PyProof.Rows L2 LamX NdefX
section
variable {P : Program} {w : World} {K : PySem.W.Frag} {mg : Str → Option Value} {base : Heap}
def sp_fraction (K : PySem.W.Frag) (Z : Addr) : Sp := fun vs H Q E => ∃ a b : Int, vs = [.int a, .int b] ∧ (b = 0 → E (.ref Z) none H) ∧ (b ≠ 0 → Bd 8000 b ∧ ∀ v H', Same H H' → DT K H' v (frD (frac a b)) → Q v H')
theorem ok_fraction (T : Top K mg) : FnOk P w K mg base (L2.CX P w) 1 T.a_fraction T.d_fraction ["numerator", "denominator"] (sp_fraction K T.c_ZeroDenominator) := by
  refine T.fraction_F.okX sc_fraction (fun vs H Q E h => ?_) (fun cdv A outer s H vs Q E hr h => ?_)
  · obtain ⟨a, b, rfl, _⟩ := h
    rfl
  · obtain ⟨a, b, rfl, h0, h1⟩ := h
    refine ⟨_, (pss_cons (ps_if (pt_cmpR op_eq (pv 1) pe_int (nomark _)) (pss_one (ps_raise rfl (takes_of rfl rfl rfl rfl) (pmk_own PySem.F.excBase_ValueError T.x_ZeroDenominator T.g_ZeroDenominator T.k_ZeroDenominator (raises_own T.b_ZeroDenominator T.t_ZeroDenominator) rfl))) pss_nil)
      (pss_cons (ps_set (i := 2) sc_fraction.nd rfl (Or.inl rfl) (pe_callBfun cr_gcd (by rfl) T.g_gcd (pa_cons (pv 0) (pa_cons (pv 1) pa_nil))))
      (pss_cons (ps_if (pt_cmpR op_lt (pv 1) pe_int (nomark _)) (pss_one (ps_set (i := 2) sc_fraction.nd rfl (Or.inl rfl) (pe_un un_neg (pv 2)))) pss_nil)
      (pss_one (ps_ret (pe_tup (pa_cons (pe_op op_fdivX (pv 0) (pv 2)) (pa_cons (pe_op op_fdivX (pv 1) (pv 2)) pa_nil)))))))), ?_⟩
    refine ⟨_, rfl, rfl, _, rfl, ite2 (fun e => ?_) (fun e => ?_)⟩
    · exact h0 (V.int.inj (of_decide_eq_true e))
    · have hb : b ≠ 0 := fun z => e (by rw [z]; exact decide_eq_true rfl)
      obtain ⟨hB, q⟩ := h1 hb
      have hs := sg_ne (a := a) hb
      have hz : Bd 8000 (sg a b) := hB.le (by rw [sg_abs]; exact Nat.le_of_dvd (by omega) (Nat.gcd_dvd_right _ _))
      have fin : ∀ s, s = sg a b → ∀ p, H p = none → Q (.ref p) (upd H p (.tup [.int (a.fdiv s), .int (b.fdiv s)])) := by
        rintro _ rfl p hp
        exact q _ _ (same_new hp) (DT.fr (Tp.of upd_same))
      have dv : ∀ s x, s = sg a b → CDivX x s := by
        rintro _ x rfl
        exact divX hs hz
      refine ⟨_, rfl, _, rfl, a, b, rfl, ?_⟩
      refine ⟨_, rfl, _, _, rfl, rfl, _, rfl, ite2 (fun e => ?_) (fun e => ?_)⟩
      · have e0 : b < 0 := of_decide_eq_true e
        have es : -((Nat.gcd a.natAbs b.natAbs : Nat) : Int) = sg a b := (if_pos e0).symm
        exact ⟨_, rfl, _, rfl, _, rfl, _, rfl, _, _, rfl, rfl, dv _ _ es, _, rfl, _, rfl, _, _, rfl, rfl, dv _ _ es, two_le, fin _ es⟩
      · have e0 : ¬ b < 0 := fun z => e (decide_eq_true z)
        have es : ((Nat.gcd a.natAbs b.natAbs : Nat) : Int) = sg a b := (if_neg e0).symm
        exact ⟨_, rfl, _, rfl, _, _, rfl, rfl, dv _ _ es, _, rfl, _, rfl, _, _, rfl, rfl, dv _ _ es, two_le, fin _ es⟩
theorem ok_times (T : Top K mg) : FnOk P w K mg base CX0 2 T.a_times T.d_times ["a", "b"] (sp2 K mulF) := by
  refine T.times_F.ok sc_times (fun vs H Q E h => ?_) (fun cdv A outer s H vs Q E hr h => ?_)
  · obtain ⟨_, _, _, _, _, rfl, _⟩ := h
    rfl
  · obtain ⟨_, _, p, q, k, rfl, da, db, ⟨lp, p1, p2⟩, ⟨lq, q1, q2⟩, hk, fin⟩ := h
    obtain ⟨a, rfl, ha⟩ := da.fr_inv
    obtain ⟨b, rfl, hb⟩ := db.fr_inv
    have ne := pos_ne lp.pos lq.pos
    refine ⟨_, (pss_one (ps_ret (pe_call (ok_fraction T) (hr.mono (by decide : 1 ≤ 1)) (by rfl) T.g_fraction T.fraction_F.kp T.fraction_b .nil passL (pa_cons (pe_op op_mulW (pe_ix ix_tup (pv 0) pe_int (fun _ _ => rfl)) (pe_ix ix_tup (pv 1) pe_int (fun _ _ => rfl))) (pa_cons (pe_op op_mulW (pe_ix ix_tup (pv 0) pe_int (fun _ _ => rfl)) (pe_ix ix_tup (pv 1) pe_int (fun _ _ => rfl))) pa_nil))))), ?_⟩
    exact ⟨_, rfl, _, _, _, _, rfl, rfl, (SqT.of ha), (atI_nat (j := 0) rfl), _, rfl, _, _, _, _, rfl, rfl, (SqT.of hb), (atI_nat (j := 0) rfl), _, _, rfl, rfl, (by first | exact mulK hk (by assumption) (by assumption) | exact mulF3 (by assumption) (by assumption)), _, rfl, _, _, _, _, rfl, rfl, (SqT.of ha), (atI_nat (j := 1) rfl), _, rfl, _, _, _, _, rfl, rfl, (SqT.of hb), (atI_nat (j := 1) rfl), _, _, rfl, rfl, (by first | exact mulK hk (by assumption) (by assumption) | exact mulF3 (by assumption) (by assumption)), _, _, rfl, fun z => (ne z).elim, fun _ => ⟨(p2.mul q2).mono (by omega), fun v H' s f => fin v H' s f⟩⟩
def sp_over (K : PySem.W.Frag) : Sp := fun vs H Q _ => ∃ (va vb : V) (p q : Int × Int) (k : Nat), vs = [va, vb] ∧ DT K H va (frD p) ∧ DT K H vb (frD q) ∧ Ok k p ∧ Ok k q ∧ q.1 ≠ 0 ∧ k ≤ 3000 ∧ ∀ v H', Same H H' → DT K H' v (frD (divF p q)) → Q v H'
theorem ok_over (T : Top K mg) : FnOk P w K mg base CX0 2 T.a_over T.d_over ["a", "b"] (sp_over K) := by
  refine T.over_F.ok sc_over (fun vs H Q E h => ?_) (fun cdv A outer s H vs Q E hr h => ?_)
  · obtain ⟨_, _, _, _, _, rfl, _⟩ := h
    rfl
  · obtain ⟨_, _, p, q, k, rfl, da, db, ⟨lp, p1, p2⟩, ⟨lq, q1, q2⟩, q0, hk, fin⟩ := h
    obtain ⟨a, rfl, ha⟩ := da.fr_inv
    obtain ⟨b, rfl, hb⟩ := db.fr_inv
    have hp := lp.pos
    have ne : p.2 * q.1 ≠ 0 := Int.mul_ne_zero (by omega) q0
    refine ⟨_, (pss_one (ps_ret (pe_call (ok_fraction T) (hr.mono (by decide : 1 ≤ 1)) (by rfl) T.g_fraction T.fraction_F.kp T.fraction_b .nil passL (pa_cons (pe_op op_mulW (pe_ix ix_tup (pv 0) pe_int (fun _ _ => rfl)) (pe_ix ix_tup (pv 1) pe_int (fun _ _ => rfl))) (pa_cons (pe_op op_mulW (pe_ix ix_tup (pv 0) pe_int (fun _ _ => rfl)) (pe_ix ix_tup (pv 1) pe_int (fun _ _ => rfl))) pa_nil))))), ?_⟩
    exact ⟨_, rfl, _, _, _, _, rfl, rfl, (SqT.of ha), (atI_nat (j := 0) rfl), _, rfl, _, _, _, _, rfl, rfl, (SqT.of hb), (atI_nat (j := 1) rfl), _, _, rfl, rfl, (by first | exact mulK hk (by assumption) (by assumption) | exact mulF3 (by assumption) (by assumption)), _, rfl, _, _, _, _, rfl, rfl, (SqT.of ha), (atI_nat (j := 1) rfl), _, rfl, _, _, _, _, rfl, rfl, (SqT.of hb), (atI_nat (j := 0) rfl), _, _, rfl, rfl, (by first | exact mulK hk (by assumption) (by assumption) | exact mulF3 (by assumption) (by assumption)), _, _, rfl, fun z => (ne z).elim, fun _ => ⟨(p2.mul q1).mono (by omega), fun v H' s f => fin v H' s f⟩⟩
/-! ### the function that is handed on -/
def sp_chg (K : PySem.W.Frag) (ext : Hp → Prop) (good : List Pr → Prop) (ch : List Pr → List Pr) : Sp := fun vs H Q _ => ∃ (vp : V) (ps : List Pr), vs = [vp] ∧ ext H ∧ DT K H vp (pricesD ps) ∧ good ps ∧ ∀ v' H', Same H H' → DT K H' v' (pricesD (ch ps)) → Q v' H'
def sp_rep (K : PySem.W.Frag) (F : NF) (ext : Hp → Prop) (good : List Pr → Prop) (ch : List Pr → List Pr) (m : Nat) : Sp := fun vs H Q _ => ∃ (vn : V) (f : Addr) (n : Node), vs = [vn, .ref f] ∧ H f = some (FnO f F) ∧ H F.c = some (CodeO F.c F.qual) ∧ ext H ∧ DT K H vn (nodeD n) ∧ NG good m n ∧
  ∀ v' H', Same H H' → DT K H' v' (nodeD (mapN ch n)) → Q v' H'
def spRepPrev (K : PySem.W.Frag) (F : NF) (ext : Hp → Prop) (good : List Pr → Prop) (ch : List Pr → List Pr) : Nat → Sp
  | 0 => fun vs _ _ _ => vs.length = 2 ∧ False
  | m + 1 => sp_rep K F ext good ch m
theorem rep_step (T : Top K mg) {F : NF} {ext : Hp → Prop} {good : List Pr → Prop} {ch : List Pr → List Pr} {k m : Nat} (hk : 3 ≤ k) (Hd : HeldF P w K mg base 3 F 1 (sp_chg K ext good ch)) (hext : ∀ H H', Same H H' → ext H → ext H')
    (ih : FnOk P w K mg base CX0 k T.a__repriced T.d__repriced ["node", "change"] (spRepPrev K F ext good ch m)) : FnOk P w K mg base CX0 (k + 1) T.a__repriced T.d__repriced ["node", "change"] (sp_rep K F ext good ch m) := by
  refine T._repriced_F.ok sc__repriced (fun vs H Q E h => ?_) (fun cdv A outer s H vs Q E hr h => ?_)
  · obtain ⟨_, _, _, rfl, _⟩ := h
    rfl
  · obtain ⟨vn, f, n, rfl, hf, hc, he, dn, ng, fin⟩ := h
    obtain ⟨a, vp, vk, rfl, ha, dp, dk⟩ := dn.node_inv
    obtain ⟨c, xk, rfl, hck, dks⟩ := dk.inv
    have lk : xk.length = n.ks.length := by rw [dks.len, List.length_map]
    have gps : good n.ps := by
      cases m with
      | zero => exact ng.1
      | succ m => exact ng.1
    refine ⟨_, (pss_cons (ps_asg (pv 0) (pg_tup rfl (pgs_cons (pg_name (i := 2) sc__repriced.nd rfl (Or.inl rfl)) (pgs_cons (pg_name (i := 3) sc__repriced.nd rfl (Or.inl rfl)) pgs_nil))))
      (pss_one (ps_ret (pe_tup (pa_cons (pe_callH (i := 1) Hd hr hk rfl (Or.inr (Or.inl rfl)) (pa_cons (pv 2) pa_nil)) (pa_cons (pe_callTy call_tupL (by rfl) T.n_tuple (by decide +kernel) (pa_cons (pe_lc (own := [("each", 4)]) (g := (gName 4)) (tt := tYes) (by rfl) sc__repriced.nd (pi_tup (pv 3)) (blkOk_by (own := [("each", 4)]) (N := ["node", "change", "prices", "following", "each"]) (sc := defScope s__repriced) (by decide +kernel)) (fun _ _ _ _ _ => (pg_name (i := 4) sc__repriced.nd rfl (Or.inl rfl))) (fun _ _ _ _ _ => pts_nil) (fun _ _ _ _ _ => (pe_call ih (hr.mono (by omega)) (by rfl) T.g__repriced T._repriced_F.kp T._repriced_b .nil pass0 (pa_cons (pv 4) (pa_cons (pv 1) pa_nil))))) pa_nil)) pa_nil)))))), ?_⟩
    refine ⟨_, rfl, _, _, rfl, ha.sq, rfl, _, _, rfl, _, _, rfl, rfl, ?_⟩
    refine ⟨f, rfl, hf, _, rfl, hf, hc, vp, n.ps, rfl, he, dp, gps, fun v1 H1 s1 dv1 => ?_⟩
    refine ⟨_, rfl, c, rfl, ⟨_, (tp_same s1 hck).sq⟩, fun D hD => lc_tup (K := K) (a := c) (xs := xk) (fun i H' => ∃ o, Same H1 H' ∧ H' D = some (.lst o) ∧ DTs K H' o (((n.ks.take i).map (mapN ch)).map nodeD)) ⟨[], same_new hD, upd_same, .nil⟩ (fun i H' _ ⟨_, sm, _⟩ => (tp_same (s1.trans sm) hck).sq) ?_ ?_⟩
    · rintro i x H' hi ⟨o, sm, hO, dO⟩
      obtain ⟨d, hd, dx⟩ := dks.get hi
      rw [List.getElem?_map] at hd
      obtain ⟨kid, hkid, rfl⟩ := Option.map_eq_some_iff.mp hd
      have sA := s1.trans sm
      refine ⟨rfl, ?_⟩
      dsimp only [tYes]
      rw [if_pos rfl]
      cases m with
      | zero =>
        rw [ng.2] at hkid
        simp at hkid
      | succ m =>
        refine ⟨_, rfl, _, rfl, x, f, kid, rfl, sA _ _ hf, sA _ _ hc, hext _ _ sA he, dx.same sA, ng.2.2 kid (List.mem_of_getElem? hkid), fun v2 H2 s2 dv2 => ?_⟩
        have hO2 := s2 _ _ hO
        have iD : IsL H2 D := ⟨_, hO2⟩
        refine ⟨o, hO2, ?_, _, same_mut (sm.trans s2) hD, upd_same, ?_⟩
        · rw [dO.len, List.length_map, List.length_map]
          have := (List.getElem?_eq_some_iff.mp hkid).1
          have := ng.2.1
          exact Nat.lt_of_le_of_lt (List.length_take_le' _ _) (small1000 (by omega))
        · rw [take_next hkid, List.map_append, List.map_append]
          exact ((dO.same s2).xt iD Xt.upd).snoc (dv2.xt iD Xt.upd)
    · rintro H2 ⟨o, s2, hO, dO⟩
      rw [lk, List.take_length] at dO
      refine ⟨_, _, rfl, SqL.of hO, fun q hq => ⟨two_le, fun r hr2 => ?_⟩⟩
      have s3 := same_new (o := .tup o) hq
      have s4 := same_new (o := .tup [v1, .ref q]) hr2
      refine fin _ _ (((s1.trans s2).trans s3).trans s4) ?_
      rw [nodeD_eq, mapN_ps, mapN_ks]
      exact .mk2 (Tp.of upd_same) (((dv1.same s2).same s3).same s4) (.tup (Tp.of (s4 _ _ upd_same)) ((dO.same s3).same s4))
theorem ok_rep (T : Top K mg) {F : NF} {ext : Hp → Prop} {good : List Pr → Prop} {ch : List Pr → List Pr} (Hd : HeldF P w K mg base 3 F 1 (sp_chg K ext good ch)) (hext : ∀ H H', Same H H' → ext H → ext H') :
    ∀ m, FnOk P w K mg base CX0 (4 + m) T.a__repriced T.d__repriced ["node", "change"] (sp_rep K F ext good ch m)
  | 0 => rep_step T (k := 3) (m := 0) (by decide) Hd hext ⟨fun vs H Q E h => h.1, fun A outer s H args us vs Q E hr e0 hb r h => h.2.elim⟩
  | m + 1 => rep_step T (k := 4 + m) (m := m + 1) (by omega) Hd hext (ok_rep T Hd hext m)
end
end Nl

namespace Nl
open PySem PySem.Spec PyProof.Rows L2 LamX NdefX
section
variable {P : Program} {w : World} {K : PySem.W.Frag} {mg : Str → Option Value} {base : Heap}
def widen (q : Int × Int) (p : Pr) : Pr := (mulF p.1 q, divF p.2 q)
def goodW (ps : List Pr) : Prop := ps.length ≤ 3 ∧ ∀ p ∈ ps, PrK 201 p
def spW (K : PySem.W.Frag) (q : Int × Int) (ws : List (Option V)) : Sp := fun vs H Q E => ∃ vf, ws = [some vf] ∧ Ok 201 q ∧ q.1 ≠ 0 ∧ sp_chg K (fun H => DT K H vf (frD q)) goodW (fun ps => ps.map (widen q)) vs H Q E
theorem nok_wider (T : Top K mg) (q : Int × Int) (qq : Str) (cl : List (Str × Addr)) (c f : Addr) : NOk P w K mg base CX0 3 f (NF.of s_wider "wider" qq cl c) ["prices"] ["factor"] (spW K q) := by
  refine nok_of sc_wider (fun _ _ _ us hl => match us, hl with | [_], _ => rfl) (fun ws vs H Q E h => ?_) (fun A outer s H vs ws Q E hr hf hc hw h => ?_)
  · obtain ⟨_, _, _, _, _, _, rfl, _⟩ := h
    rfl
  · obtain ⟨vf, rfl, oq, q0, vp, ps, rfl, df, dp, ⟨l3, okp⟩, fin⟩ := h
    obtain ⟨ap, xp, rfl, hp, hxp⟩ := dp.inv
    have lp : xp.length = ps.length := by rw [hxp.len, List.length_map]
    refine ⟨_, (pss_one (ps_ret (pe_callTy call_tupL (by rfl) T.n_tuple (by decide +kernel) (pa_cons (pe_lc (own := [("buy", 2), ("sell", 3)]) (g := (gTup K 2 (gCons (gName 2) (gCons (gName 3) gNil)))) (tt := tYes) (by rfl) sc_wider.nd (pi_tup (pv 0)) (blkOk_by (own := [("buy", 2), ("sell", 3)]) (N := ["prices", "factor", "buy", "sell"]) (sc := C8.fnScope s_wider) (by decide +kernel)) (fun _ _ _ _ _ => (pg_tup rfl (pgs_cons (pg_name (i := 2) sc_wider.nd rfl (Or.inl rfl)) (pgs_cons (pg_name (i := 3) sc_wider.nd rfl (Or.inl rfl)) pgs_nil)))) (fun _ _ _ _ _ => pts_nil) (fun _ _ _ _ _ => (pe_tup (pa_cons (pe_call (ok_times T) (hr.mono (by decide : 2 ≤ 2)) (by rfl) T.g_times T.times_F.kp T.times_b .nil pass0 (pa_cons (pv 2) (pa_cons (pv 1) pa_nil))) (pa_cons (pe_call (ok_over T) (hr.mono (by decide : 2 ≤ 2)) (by rfl) T.g_over T.over_F.kp T.over_b .nil pass0 (pa_cons (pv 3) (pa_cons (pv 1) pa_nil))) pa_nil))))) pa_nil)))), ?_⟩
    refine ⟨_, rfl, ap, rfl, ⟨_, hp.sq⟩, fun D hD => lc_tup (K := K) (a := ap) (xs := xp) (fun i H' => ∃ o, Same H H' ∧ H' D = some (.lst o) ∧ DTs K H' o (((ps.take i).map (widen q)).map prD)) ⟨[], same_new hD, upd_same, .nil⟩ (fun i H' _ ⟨_, sm, _⟩ => (tp_same sm hp).sq) ?_ ?_⟩
    · rintro i x H' hi ⟨o, sm, hO, dO⟩
      obtain ⟨d, hd, dx⟩ := hxp.get hi
      rw [List.getElem?_map] at hd
      obtain ⟨p, hpp, rfl⟩ := Option.map_eq_some_iff.mp hd
      obtain ⟨b, vb, vs', rfl, hb, db, ds⟩ := (dx.same sm).inv2
      have okr := okp p (List.mem_of_getElem? hpp)
      have hlt := (List.getElem?_eq_some_iff.mp hpp).1
      refine ⟨_, _, rfl, hb.sq, rfl, _, _, rfl, _, _, rfl, rfl, rfl, ?_⟩
      dsimp only [tYes]
      rw [if_pos rfl]
      refine ⟨_, rfl, _, rfl, _, _, p.1, q, 201, rfl, db, df.same sm, okr.1, oq, by decide, fun v1 H2 s2 dv1 => ?_⟩
      refine ⟨_, rfl, _, rfl, _, _, p.2, q, 201, rfl, ds.same s2, (df.same sm).same s2, okr.2, oq, q0, by decide, fun v2 H3 s3 dv2 => ⟨two_le, fun r hr3 => ?_⟩⟩
      have s4 := same_new (o := .tup [v1, v2]) hr3
      have s24 := (s2.trans s3).trans s4
      have hO4 := s24 _ _ hO
      have iD : IsL (upd H3 r (.tup [v1, v2])) D := ⟨_, hO4⟩
      refine ⟨o, hO4, ?_, _, same_mut (sm.trans s24) hD, upd_same, ?_⟩
      · rw [dO.len, List.length_map, List.length_map]
        exact Nat.lt_of_le_of_lt (List.length_take_le' _ _) (small1000 (by omega))
      · rw [take_next hpp, List.map_append, List.map_append]
        have dr : DT K (upd H3 r (.tup [v1, v2])) (.ref r) (prD (widen q p)) := .mk2 (Tp.of upd_same) ((dv1.same s3).same s4) (dv2.same s4)
        exact ((dO.same s24).xt iD Xt.upd).snoc (dr.xt iD Xt.upd)
    · rintro H2 ⟨o, s2, hO, dO⟩
      rw [lp, List.take_length] at dO
      refine ⟨_, _, rfl, SqL.of hO, fun r hr2 => ?_⟩
      have s3 := same_new (o := .tup o) hr2
      exact fin _ _ (s2.trans s3) (.tup (Tp.of upd_same) (dO.same s3))
/-- what each good was: order's goods but money -/
def turn (ks : List Int) (ps : List Pr) : List Pr := (ks.drop 1).map fun k => ps[(k - 1).toNat]?.getD ((0, 1), (0, 1))
def goodT (ks : List Int) (ps : List Pr) : Prop := ks.length ≤ 4 ∧ ∀ k ∈ ks.drop 1, 1 ≤ k ∧ k ≤ ps.length
def spT (K : PySem.W.Frag) (ks : List Int) (ws : List (Option V)) : Sp := fun vs H Q E => ∃ vf, ws = [some vf] ∧ sp_chg K (fun H => DT K H vf (pathD ks)) (goodT ks) (turn ks) vs H Q E
theorem nok_reordered (T : Top K mg) (ks : List Int) (qq : Str) (cl : List (Str × Addr)) (c f : Addr) : NOk P w K mg base CX0 3 f (NF.of s_reordered "reordered" qq cl c) ["prices"] ["order"] (spT K ks) := by
  refine (nokD_of (k := 2) sc_reordered (fun _ _ _ us hl => match us, hl with | [_], _ => rfl) (fun ws vs H Q E h => ?_) (fun A outer s H v o Q E hr h => ?_))
  · obtain ⟨_, _, _, _, rfl, _⟩ := h
    rfl
  · obtain ⟨vf, eo, vp, ps, ev, df, dp, ⟨l4, hk⟩, fin⟩ := h
    cases eo
    cases ev
    obtain ⟨ap, xp, rfl, hp, hxp⟩ := dp.inv
    have lp : xp.length = ps.length := by rw [hxp.len, List.length_map]
    obtain ⟨ao, rfl, hao⟩ := df.path_inv
    refine ⟨_, (pss_one (ps_ret (pe_callTy call_tupL (by rfl) T.n_tuple (by decide +kernel) (pa_cons (pe_lc (own := [("good", 2)]) (g := (gName 2)) (tt := tYes) (by rfl) sc_reordered.nd (pi_tup (pe_slice sl_tupP (pv 1) (po_some pe_int) po_none)) (blkOk_by (own := [("good", 2)]) (N := ["prices", "order", "good"]) (sc := C8.fnScope s_reordered) (by decide +kernel)) (fun _ _ _ _ _ => (pg_name (i := 2) sc_reordered.nd rfl (Or.inl rfl))) (fun _ _ _ _ _ => pts_nil) (fun _ _ _ _ _ => (pe_ix (r := rIxT K) ix_tup (pv 0) (pe_op op_sub (pv 2) pe_int) (fun _ _ => rfl)))) pa_nil)))), ?_⟩
    refine ⟨_, rfl, _, rfl, ao, _, rfl, hao, fun pz H1 s1 hz => ?_⟩
    have hz : Tp H1 pz ((ks.drop 1).map V.int) := by
      have hz := (cut_drop (ks.map V.int) 1) ▸ hz
      rw [List.map_drop]
      exact hz
    refine ⟨pz, rfl, ⟨_, hz.sq⟩, fun D hD => lc_tup (K := K) (a := pz) (xs := (ks.drop 1).map V.int) (fun i H' => ∃ o, Same H1 H' ∧ H' D = some (.lst o) ∧ DTs K H' o ((((ks.drop 1).take i).map fun k => ps[(k - 1).toNat]?.getD ((0, 1), (0, 1))).map prD)) ⟨[], same_new hD, upd_same, .nil⟩ (fun i H' _ ⟨_, sm, _⟩ => (tp_same sm hz).sq) ?_ ?_⟩
    · rintro i x H' hi ⟨o, sm, hO, dO⟩
      rw [List.getElem?_map] at hi
      obtain ⟨k, hki, rfl⟩ := Option.map_eq_some_iff.mp hi
      obtain ⟨k1, k2⟩ := hk k (List.mem_of_getElem? hki)
      have hlt := (List.getElem?_eq_some_iff.mp hki).1
      rw [List.length_drop] at hlt
      have ej : k - 1 = ((k - 1).toNat : Int) := by omega
      have ep : ps[(k - 1).toNat]? = some (ps[(k - 1).toNat]'(by omega)) := List.getElem?_eq_getElem (by omega)
      obtain ⟨xj, hxj, dxj⟩ := hxp.at_ (i := (k - 1).toNat) (d := prD (ps[(k - 1).toNat]'(by omega))) (by rw [List.getElem?_map, ep]; rfl)
      have sA := s1.trans sm
      refine ⟨rfl, ?_⟩
      dsimp only [tYes]
      rw [if_pos rfl]
      refine ⟨_, rfl, _, rfl, _, _, rfl, rfl, _, _, _, _, rfl, rfl, (tp_same sA hp).sq, by rw [ej]; exact atI_nat hxj, o, hO, ?_, _, same_mut sm hD, upd_same, ?_⟩
      · rw [dO.len, List.length_map, List.length_map, List.length_take, List.length_drop]
        exact small1000 (by omega)
      · rw [take_next hki, List.map_append, List.map_append]
        have iD : IsL H' D := ⟨_, hO⟩
        refine (dO.xt iD Xt.upd).snoc ?_
        show DT K _ xj (prD (ps[(k - 1).toNat]?.getD ((0, 1), (0, 1))))
        rw [ep]
        exact (dxj.same sA).xt iD Xt.upd
    · rintro H2 ⟨o, s2, hO, dO⟩
      have el : ((ks.drop 1).map V.int).length = (ks.drop 1).length := List.length_map _
      rw [el, List.take_length] at dO
      refine ⟨_, _, rfl, SqL.of hO, fun r hr2 => ?_⟩
      have s3 := same_new (o := .tup o) hr2
      exact fin _ _ ((s1.trans s2).trans s3) (.tup (Tp.of upd_same) (dO.same s3))
end
end Nl

namespace Nl
open PySem PySem.Spec PyProof.Rows L2 LamX NdefX
section
variable {P : Program} {w : World} {K : PySem.W.Frag} {mg : Str → Option Value} {base : Heap}
abbrev qW : Str := (envOfC "widened" (defScope s_widened) 0 0 .none).qual ++ "wider"
abbrev qT : Str := (envOfC "turned" (defScope s_turned) 0 0 .none).qual ++ "reordered"
abbrev nW : Nat → Nat → Str := fun _ _ => qW
abbrev nT : Nat → Nat → Str := fun _ _ => qT
def Tbl (T : Top K mg) : List NTab := [(T.ct_widened, nW), (T.ct_turned, nT)]
theorem tbl_w (T : Top K mg) : ∀ p ∈ Tbl T, p.1 = T.ct_widened → p.2 = nW := fun p hp e => by
  rcases List.mem_cons.mp hp with rfl | hp
  · rfl
  · rw [List.mem_singleton.mp hp] at e
    exact (T.tne_widened_turned e.symm).elim
theorem tbl_t (T : Top K mg) : ∀ p ∈ Tbl T, p.1 = T.ct_turned → p.2 = nT := fun p hp e => by
  rcases List.mem_cons.mp hp with rfl | hp
  · exact (T.tne_widened_turned e).elim
  · rw [List.mem_singleton.mp hp]
theorem NG.imp {good good' : List Pr → Prop} (h : ∀ ps, good ps → good' ps) : ∀ {m : Nat} {n : Node}, NG good m n → NG good' m n
  | 0, _, g => ⟨h _ g.1, g.2⟩
  | m + 1, _, g => ⟨h _ g.1, g.2.1, fun k hk => NG.imp h (g.2.2 k hk)⟩
def sp_widened (K : PySem.W.Frag) (T : Top K mg) : Sp := fun vs H Q E => ∃ (v vf : V) (g : Int) (n : Node) (q : Int × Int) (m : Nat), vs = [v, vf] ∧ DT K H v (marketD g n) ∧ DT K H vf (frD q) ∧ NodeB n ∧ (pre [] n).length ≤ 1000 ∧ Good g n ∧ Ok 201 q ∧ q.1 ≠ 0 ∧ NG goodW m n ∧ m ≤ 2 ∧ TabsN (Tbl T) H ∧
  (cmpF q (1, 1) < 0 → ∀ H', Same H H' → E (.ref T.c_MarketError) none H') ∧ (¬ cmpF q (1, 1) < 0 → ∀ v' H', ExtN H H' → TabsN (Tbl T) H' → DT K H' v' (marketD g (mapN (fun ps => ps.map (widen q)) n)) → Q v' H')
theorem ok_widened (T : Top K mg) (TB : TabB base mg T.cc_widened T.ct_widened) : FnOk P w K mg base (L2.CX P w) 8 T.a_widened T.d_widened ["market", "factor"] (sp_widened K T) := by
  refine T.widened_C.okX sc_widened (fun vs H Q E h => ?_) (fun A outer s H vs Q E hr h => ?_)
  · obtain ⟨_, _, _, _, _, _, rfl, _⟩ := h
    rfl
  · obtain ⟨v, vf, g, n, q, m, rfl, dm, df, hB, hl, G, oq, q0, ng, m2, tabs, kE, kQ⟩ := h
    obtain ⟨am, vn, rfl, ham, dn⟩ := id dm.market_inv
    refine ⟨_, (pss_cons (ps_expr (pe_callS (ok_check_market T) (hr.mono (by decide : 3 ≤ 7)) rfl T.g_check_market T.check_market_F.kp T.check_market_b (fun σ => passAt (takes_of rfl rfl rfl rfl) σ) (pa_cons (pv 0) pa_nil)))
      (pss_cons (ps_if (pt_cmpR op_lt (pe_call (ok_compare T) (hr.mono (by decide : 1 ≤ 7)) (by rfl) T.g_compare T.compare_F.kp T.compare_b .nil pass0 (pa_cons (pv 1) (pa_cons (pe_tup (pa_cons pe_int (pa_cons pe_int pa_nil))) pa_nil))) pe_int (nomark _)) (pss_one (ps_raise rfl (takes_of rfl rfl rfl rfl) (pmk_own PySem.F.excBase_ValueError T.x_MarketError T.g_MarketError T.k_MarketError (raises_own T.b_MarketError T.t_MarketError) rfl))) pss_nil)
      (pss_cons (ps_asg (pv 0) (pg_tup rfl (pgs_cons (pg_name (i := 2) sc_widened.nd rfl (Or.inl rfl)) (pgs_cons (pg_name (i := 3) sc_widened.nd rfl (Or.inl rfl)) pgs_nil))))
      (pss_cons (ps_ndefMS (st := s_wider) (i := 4) rfl TB rfl (List.mem_cons_self ..) rfl (tbl_w T) (ndef_free (sc := defScope s_widened) (nsc := C8.fnScope s_wider) (fr := ["factor"]) (by decide +kernel)) rfl rfl rfl sc_widened.nd rfl (Or.inl rfl) (Or.inr rfl))
      (pss_one (ps_ret (pe_tup (pa_cons (pv 2) (pa_cons (pe_callG (i := 1) (y := "factor") (k := 4 + m) (sp := fun z v => sp_rep K (NF.of s_wider "wider" qW (cloFrom _ (C8.fnScope s_wider).names []) z) (fun H => DT K H v (frD q)) goodW (fun ps => ps.map (widen q)) m) (fun z B c u v hc rv hB keep => ok_rep T ((held_of (fun f => nok_wider T q _ _ z f) (clo_one (y := "factor") (by decide +kernel) (by decide +kernel) hc).1 (clo_one (y := "factor") (by decide +kernel) (by decide +kernel) hc).2 hB rv).imp fun vs H Q E h => ⟨v, rfl, oq, q0, h⟩) (fun H H' s h => h.same s) m) hr (by omega) (by rfl) T.g__repriced T._repriced_F.kp T._repriced_b rfl rfl rfl (pa_cons (pv 3) (pa_cons (pv 4) pa_nil))) pa_nil))))))))), ?_⟩
    refine ⟨_, rfl, .ref am, g, n, rfl, dm, hB, hl, fun z => (G.1 z).elim, fun _ z => (G.2 z).elim, fun _ _ H1 s1 => ?_⟩
    refine ⟨_, rfl, two_le, fun p1 h1 => ?_⟩
    have s2 := same_new (o := .tup [.int 1, .int 1]) h1
    have s12 := s1.trans s2
    refine ⟨_, _, q, (1, 1), rfl, df.same s12, DT.fr (Tp.of upd_same), FB.of oq (by decide), FB.of (k := 2) ⟨⟨by decide, by decide⟩, by unfold Bd; decide, by unfold Bd; decide⟩ (by decide), _, _, rfl, rfl, _, rfl, ?_⟩
    by_cases c : cmpF q (1, 1) < 0
    · refine if_true_of' (decide_eq_true c) ?_
      exact kE c _ s12
    · refine if_false_of' (decide_eq_false c) ?_
      refine ⟨_, rfl, _, _, rfl, (tp_same s12 ham).sq, rfl, _, _, rfl, _, _, rfl, rfl, ?_⟩
      refine ⟨TabsN.ext tabs s12, fun f c' H3 e3 nn tabs3 hn hf hco => ?_⟩
      have e03 : ExtN H H3 := (Same.ext s12).trans e3
      refine ⟨_, rfl, c', vf, rfl, _, rfl, _, rfl, vn, f, n, rfl, hf, hco, df.ext e03, dn.ext e03, ng, fun v2 H4 s4 dv2 => ⟨two_le, fun r hr4 => ?_⟩⟩
      have s5 := same_new (o := .tup [.int g, v2]) hr4
      have s45 := s4.trans s5
      exact kQ c _ _ (e03.trans (Same.ext s45)) (TabsN.ext tabs3 s45) (.mk2 (Tp.of upd_same) (.int g) (dv2.same s5))
theorem eqv_ints (p q : List Int) : PyData.eqv (.list (p.map PyData.int)) (.list (q.map PyData.int)) = decide (p = q) := by
  rw [← eqv_path]
  unfold pathD
  rw [PyData.eqv, PyData.eqv]
theorem sh_ints (p : List Int) : Sh 1 (.list (p.map PyData.int)) := by
  obtain ⟨h1, h2⟩ := sh_all (k := 0) (ds := p.map PyData.int) fun d hd => by
    obtain ⟨i, _, rfl⟩ := List.mem_map.mp hd
    exact .int
  refine ⟨?_, ?_⟩
  · rw [PyData.canLay0]
    exact h1
  · rw [PyData.depth]
    omega
def rg (g : Int) : List Int := (List.range g.toNat).map Int.ofNat
theorem rg_v (g : Int) : rgV 0 g = (rg g).map V.int := by
  unfold rgV rg
  rw [List.map_map, Int.sub_zero]
  refine List.map_congr_left fun i _ => ?_
  show V.int (0 + (i : Int)) = V.int (Int.ofNat i)
  rw [Int.zero_add]
  rfl
theorem rg_sorted (g : Int) : (rg g).Pairwise (· ≤ ·) := by
  unfold rg
  rw [List.pairwise_map]
  exact (List.pairwise_lt_range).imp fun h => Int.ofNat_le.mpr (Nat.le_of_lt h)
theorem rg_nodup (g : Int) : (rg g).Nodup := by
  unfold rg List.Nodup
  rw [List.pairwise_map]
  exact (List.pairwise_lt_range).imp fun h e => by
    have := Int.ofNat.inj e
    omega
theorem mem_rg {g k : Int} : k ∈ rg g ↔ 0 ≤ k ∧ k < g := by
  unfold rg
  rw [List.mem_map]
  constructor
  · rintro ⟨i, hi, rfl⟩
    have := List.mem_range.mp hi
    exact ⟨Int.natCast_nonneg i, by show (i : Int) < g; omega⟩
  · rintro ⟨h0, h1⟩
    exact ⟨k.toNat, List.mem_range.mpr (by omega), by show ((k.toNat : Nat) : Int) = k; omega⟩
theorem srt_uniq : ∀ {l m : List Int}, l.Perm m → l.Pairwise (· ≤ ·) → m.Pairwise (· ≤ ·) → l = m
  | [], m, h, _, _ => (List.Perm.nil_eq h)
  | x :: l, [], h, _, _ => by have := h.length_eq; simp at this
  | x :: l, y :: m, h, h1, h2 => by
    obtain ⟨a1, a2⟩ := List.pairwise_cons.mp h1
    obtain ⟨b1, b2⟩ := List.pairwise_cons.mp h2
    have e1 : x ≤ y := by
      rcases List.mem_cons.mp (h.mem_iff.mpr (List.mem_cons_self (a := y) (l := m))) with e | e
      · omega
      · exact a1 y e
    have e2 : y ≤ x := by
      rcases List.mem_cons.mp (h.mem_iff.mp (List.mem_cons_self (a := x) (l := l))) with e | e
      · omega
      · exact b1 x e
    obtain rfl : x = y := by omega
    rw [srt_uniq (List.Perm.cons_inv h) a2 b2]
def IsOrd (g : Int) (ks : List Int) : Prop := ks.Perm (rg g) ∧ ks[0]? = some 0
theorem IsOrd.rest {g : Int} {ks : List Int} (h : IsOrd g ks) : ∀ k ∈ ks.drop 1, 1 ≤ k ∧ k ≤ g - 1 := by
  obtain ⟨hp, h0⟩ := h
  cases ks with
  | nil => simp at h0
  | cons a r =>
    simp at h0
    subst h0
    have nd : (0 :: r).Nodup := hp.nodup_iff.mpr (rg_nodup g)
    intro k hk
    have hk : k ∈ r := hk
    obtain ⟨a1, a2⟩ := mem_rg.mp (hp.mem_iff.mp (List.mem_cons_of_mem _ hk))
    have : k ≠ 0 := fun z => (List.nodup_cons.mp nd).1 (z ▸ hk)
    omega
def sp_turned (K : PySem.W.Frag) (T : Top K mg) : Sp := fun vs H Q E => ∃ (v vo : V) (g : Int) (n : Node) (ks : List Int) (m : Nat), vs = [v, vo] ∧ DT K H v (marketD g n) ∧ DT K H vo (pathD ks) ∧ NodeB n ∧ (pre [] n).length ≤ 1000 ∧ Good g n ∧ ks.length ≤ 10 ∧ NG (PsOk g) m n ∧ m ≤ 2 ∧ TabsN (Tbl T) H ∧
  (¬ IsOrd g ks → ∀ H', Same H H' → E (.ref T.c_MarketError) none H') ∧ (IsOrd g ks → ∀ v' H', ExtN H H' → TabsN (Tbl T) H' → DT K H' v' (marketD g (mapN (turn ks) n)) → Q v' H')
theorem ok_turned (T : Top K mg) (TB : TabB base mg T.cc_turned T.ct_turned) : FnOk P w K mg base (L2.CX P w) 8 T.a_turned T.d_turned ["market", "order"] (sp_turned K T) := by
  refine T.turned_C.okX sc_turned (fun vs H Q E h => ?_) (fun A outer s H vs Q E hr h => ?_)
  · obtain ⟨_, _, _, _, _, _, rfl, _⟩ := h
    rfl
  · obtain ⟨v, vo, g, n, ks, m, rfl, dm, dko, hB, hl, G, l10, ng, m2, tabs, kE, kQ⟩ := h
    obtain ⟨am, vn, rfl, ham, dn⟩ := id dm.market_inv
    obtain ⟨ao, rfl, hao⟩ := id dko.path_inv
    refine ⟨_, (pss_cons (ps_expr (pe_callS (ok_check_market T) (hr.mono (by decide : 3 ≤ 7)) rfl T.g_check_market T.check_market_F.kp T.check_market_b (fun σ => passAt (takes_of rfl rfl rfl rfl) σ) (pa_cons (pv 0) pa_nil)))
      (pss_cons (ps_asg (pv 0) (pg_tup rfl (pgs_cons (pg_name (i := 2) sc_turned.nd rfl (Or.inl rfl)) (pgs_cons (pg_name (i := 3) sc_turned.nd rfl (Or.inl rfl)) pgs_nil))))
      (pss_cons (ps_if (PW.pt (pw_or (pt_cmpR (op_neD hr.units) (pe_callB cr_sortTI (by rfl) T.n_sorted (by decide +kernel) (pa_cons (pv 1) pa_nil)) (pe_listRg rfl (by rfl) T.n_list (prg_1 (by rfl) T.n_range (pv 2))) (nomark _)) (pw_or1 (pt_cmpR op_ne (pe_ix ix_tup (pv 1) pe_int (fun _ _ => rfl)) pe_int (nomark _))))) (pss_one (ps_raise rfl (takes_of rfl rfl rfl rfl) (pmk_own PySem.F.excBase_ValueError T.x_MarketError T.g_MarketError T.k_MarketError (raises_own T.b_MarketError T.t_MarketError) rfl))) pss_nil)
      (pss_cons (ps_ndefMS (st := s_reordered) (i := 4) rfl TB rfl (List.mem_cons_of_mem _ (List.mem_cons_self ..)) rfl (tbl_t T) (ndef_free (sc := defScope s_turned) (nsc := C8.fnScope s_reordered) (fr := ["order"]) (by decide +kernel)) rfl rfl rfl sc_turned.nd rfl (Or.inl rfl) (Or.inr rfl))
      (pss_one (ps_ret (pe_tup (pa_cons (pv 2) (pa_cons (pe_callG (i := 1) (y := "order") (k := 4 + m) (sp := fun z v => sp_rep K (NF.of s_reordered "reordered" qT (cloFrom _ (C8.fnScope s_reordered).names []) z) (fun H => DT K H v (pathD ks)) (goodT ks) (turn ks) m) (fun z B c u v hc rv hB keep => ok_rep T ((held_of (fun f => nok_reordered T ks _ _ z f) (clo_one (y := "order") (by decide +kernel) (by decide +kernel) hc).1 (clo_one (y := "order") (by decide +kernel) (by decide +kernel) hc).2 hB rv).imp fun vs H Q E h => ⟨v, rfl, h⟩) (fun H H' s h => h.same s) m) hr (by omega) (by rfl) T.g__repriced T._repriced_F.kp T._repriced_b rfl rfl rfl (pa_cons (pv 3) (pa_cons (pv 4) pa_nil))) pa_nil))))))))), ?_⟩
    refine ⟨_, rfl, .ref am, g, n, rfl, dm, hB, hl, fun z => (G.1 z).elim, fun _ z => (G.2 z).elim, fun _ _ H1 s1 => ?_⟩
    refine ⟨_, rfl, _, _, rfl, (tp_same s1 ham).sq, rfl, _, _, rfl, _, _, rfl, rfl, ?_⟩
    have g1 : 1 ≤ g ∧ g ≤ 4 := Decidable.byContradiction fun z => G.1 (.inl z)
    refine ⟨_, rfl, ao, ks, rfl, (tp_same s1 hao).sq, fun ns p H2 s2 hperm hsrt hp => ?_⟩
    refine ⟨_, rfl, _, rfl, RgOk.of_le (by omega) (by omega) (by omega) (by omega), fun r hr3 => ?_⟩
    have s3 := same_new (o := .lst (rgV 0 g)) hr3
    have d1 : Dp K (upd H2 r (.lst (rgV 0 g))) (.ref p) (.list (ns.map PyData.int)) := .lst (SqL.of (s3 _ _ hp)) (DTs.dp _ _ (.of_ints ns))
    have d2 : Dp K (upd H2 r (.lst (rgV 0 g))) (.ref r) (.list ((rg g).map PyData.int)) := .lst (SqL.of upd_same) (by rw [rg_v]; exact DTs.dp _ _ (.of_ints (rg g)))
    have s13 := (s1.trans s2).trans s3
    refine ⟨_, _, d1, d2, (sh_ints _).shaped, (sh_ints _).shaped, _, rfl, ?_⟩
    rw [eqv_ints]
    by_cases hpm : ks.Perm (rg g)
    · have en : ns = rg g := srt_uniq (hperm.trans hpm) hsrt (rg_sorted g)
      refine if_false_of' (by rw [decide_eq_true en]; rfl) ?_
      have lk : ks.length = g.toNat := by
        rw [hpm.length_eq]
        unfold rg
        simp
      obtain ⟨k0, hk0⟩ : ∃ k0, ks[0]? = some k0 := ⟨_, List.getElem?_eq_getElem (by omega)⟩
      refine ⟨_, rfl, _, _, _, _, rfl, rfl, (tp_same s13 hao).sq, atI_nat (j := 0) (v := .int k0) (by rw [List.getElem?_map, hk0]; rfl), rfl, _, rfl, ite2 (fun z => ?_) (fun z => ?_)⟩
      · refine kE (fun q => ?_) _ s13
        have q2 := q.2
        rw [hk0] at q2
        cases q2
        simp at z
      · have e0 : k0 = 0 := by simpa using z
        subst e0
        have ord : IsOrd g ks := ⟨hpm, hk0⟩
        refine ⟨TabsN.ext tabs s13, fun f c' H3 e3 nn tabs3 hn hf hco => ?_⟩
        have e03 : ExtN H H3 := (Same.ext s13).trans e3
        have hng : NG (goodT ks) m n := by
          refine NG.imp (fun ps hps => ?_) ng
          refine ⟨by omega, fun k hk => ?_⟩
          have := ord.rest k hk
          have := hps.len
          omega
        refine ⟨_, rfl, c', .ref ao, rfl, _, rfl, _, rfl, vn, f, n, rfl, hf, hco, dko.ext e03, dn.ext e03, hng, fun v2 H4 s4 dv2 => ⟨two_le, fun r hr4 => ?_⟩⟩
        · have s5 := same_new (o := .tup [.int g, v2]) hr4
          have s45 := s4.trans s5
          exact kQ ord _ _ (e03.trans (Same.ext s45)) (TabsN.ext tabs3 s45) (.mk2 (Tp.of upd_same) (.int g) (dv2.same s5))
    · have en : ns ≠ rg g := fun z => hpm (z ▸ hperm).symm
      refine if_true_of' (by rw [decide_eq_false en]; rfl) ?_
      exact kE (fun q => hpm q.1) _ s13
end
end Nl

namespace Nl
open PySem PySem.Spec PyProof.Rows L2
open NdefX (TabsN NTab TabN)
open LamX (ExtN TabB)
section
variable {P : Program} {w : World} {K : PySem.W.Frag} {mg : Str → Option Value} {base : Heap}
def sp_at (K : PySem.W.Frag) (N : Addr) : Sp := fun vs H Q E => ∃ (v va : V) (g : Int) (n : Node) (p : List Int), vs = [v, va] ∧ Mk K H v g n ∧ Good g n ∧ DT K H va (pathD p) ∧ (find n p = none → ∀ H', Same H H' → E (.ref N) none H') ∧ (∀ m, find n p = some m → ∀ v' H', Same H H' → DT K H' v' (marketD g m) → Q v' H')
theorem ok_market_at (T : Top K mg) : FnOk P w K mg base (L2.CX P w) 4 T.a_market_at T.d_market_at ["market", "path"] (sp_at K T.c_MomentError) := by
  refine T.market_at_F.okX sc_market_at (fun vs H Q E h => ?_) (fun cdv A outer s H vs Q E hr h => ?_)
  · obtain ⟨_, _, _, _, _, rfl, _⟩ := h
    rfl
  · obtain ⟨v, va, g, n, p, rfl, M, G, dp, kE, kQ⟩ := h
    refine ⟨_, (pss_cons (ps_expr (pe_callS (ok_check_market T) (hr.mono (by decide : 3 ≤ 3)) rfl T.g_check_market T.check_market_F.kp T.check_market_b (fun σ => passAt (takes_of rfl rfl rfl rfl) σ) (pa_cons (pv 0) pa_nil)))
      (pss_cons (ps_asg (pv 0) (pg_tup rfl (pgs_cons (pg_name (i := 2) sc_market_at.nd rfl (Or.inl rfl)) (pgs_cons (pg_name (i := 3) sc_market_at.nd rfl (Or.inl rfl)) pgs_nil))))
      (pss_one (ps_ret (pe_tup (pa_cons (pv 2) (pa_cons (pe_callS (ok_node_at T) (hr.mono (by decide : 1 ≤ 3)) rfl T.g_node_at T.node_at_F.kp T.node_at_b (fun σ => passAt (takes_of rfl rfl rfl rfl) σ) (pa_cons (pv 0) (pa_cons (pv 1) pa_nil))) pa_nil))))))), ?_⟩
    refine ⟨_, rfl, v, g, n, rfl, M.d, M.b, M.l, fun z => (G.1 z).elim, fun _ z => (G.2 z).elim, fun _ _ H1 s1 => ?_⟩
    have M1 := M.same s1
    obtain ⟨am, vn, rfl, ham, dn⟩ := id M1.d.market_inv
    refine ⟨_, rfl, _, _, rfl, ham.sq, rfl, _, _, rfl, _, _, rfl, rfl, ?_⟩
    refine ⟨_, rfl, _, rfl, _, rfl, .ref am, va, g, n, p, rfl, M1.d, dp.same s1, fun z => kE z _ s1, fun m em v2 dv2 => ⟨two_le, fun r hr2 => ?_⟩⟩
    have s2 := same_new (o := .tup [.int g, v2]) hr2
    exact kQ m em _ _ (s1.trans s2) (.mk2 (Tp.of upd_same) (.int g) (dv2.same s2))
def sp_told (K : PySem.W.Frag) (T : Top K mg) : Sp := fun vs H Q _ => ∃ (v va : V) (g : Int) (n : Node) (m : Nat) (which : Int), vs = [.int which, v, va] ∧ Mk K H v g n ∧ Good g n ∧ NG (PsOk g) m n ∧ m ≤ 2 ∧ TabsN (Tbl T) H ∧
  ((which = 0 ∧ ∃ q, DT K H va (frD q) ∧ Ok 201 q ∧ q.1 ≠ 0 ∧ (cmpF q (1, 1) < 0 → ∀ H', Same H H' → Q (.str ("market" ++ "")) H') ∧ (¬ cmpF q (1, 1) < 0 → ∀ v' H', ExtN H H' → TabsN (Tbl T) H' → DT K H' v' (marketD g (mapN (fun ps => ps.map (widen q)) n)) → Q v' H')) ∨
   (which = 1 ∧ ∃ ks, DT K H va (pathD ks) ∧ ks.length ≤ 10 ∧ (¬ IsOrd g ks → ∀ H', Same H H' → Q (.str ("market" ++ "")) H') ∧ (IsOrd g ks → ∀ v' H', ExtN H H' → TabsN (Tbl T) H' → DT K H' v' (marketD g (mapN (turn ks) n)) → Q v' H')) ∨
   (which = 2 ∧ ∃ p, DT K H va (pathD p) ∧ (find n p = none → ∀ H', Same H H' → Q (.str ("" ++ "moment")) H') ∧ (∀ k, find n p = some k → ∀ v' H', Same H H' → DT K H' v' (marketD g k) → Q v' H')))
theorem ok__law_told (T : Top K mg) (TW : TabB base mg T.cc_widened T.ct_widened) (TT : TabB base mg T.cc_turned T.ct_turned) : FnOk P w K mg base CX0 9 T.a__law_told T.d__law_told ["which", "market", "thing"] (sp_told K T) := by
  refine T._law_told_F.ok sc__law_told (fun vs H Q E h => ?_) (fun cdv A outer s H vs Q E hr h => ?_)
  · obtain ⟨_, _, _, _, _, _, rfl, _⟩ := h
    rfl
  · obtain ⟨v, va, g, n, m, which, rfl, M, G, ng, m2, tabs, h⟩ := h
    refine ⟨_, (pss_cons (ps_try_as (i := 4) rfl rfl sc__law_told.nd rfl rfl ⟨rfl, by decide, .inl T.g_MarketplaceError⟩ takes0 (fun W pn xe tk _ => (pss_one (ps_if (pt_cmpR op_eq (pv 0) pe_int (nomark _)) (pss_one (ps_set (i := 3) sc__law_told.nd rfl (Or.inl rfl) (pe_callS (ok_widened T TW) (hr.mono (by decide : 8 ≤ 8)) rfl T.g_widened T.widened_F.kp T.widened_b (fun σ => passAt tk σ) (pa_cons (pv 1) (pa_cons (pv 2) pa_nil))))) (pss_one (ps_if (pt_cmpR op_eq (pv 0) pe_int (nomark _)) (pss_one (ps_set (i := 3) sc__law_told.nd rfl (Or.inl rfl) (pe_callS (ok_turned T TT) (hr.mono (by decide : 8 ≤ 8)) rfl T.g_turned T.turned_F.kp T.turned_b (fun σ => passAt tk σ) (pa_cons (pv 1) (pa_cons (pv 2) pa_nil))))) (pss_one (ps_set (i := 3) sc__law_told.nd rfl (Or.inl rfl) (pe_callS (ok_market_at T) (hr.mono (by decide : 4 ≤ 8)) rfl T.g_market_at T.market_at_F.kp T.market_at_b (fun σ => passAt tk σ) (pa_cons (pv 1) (pa_cons (pv 2) pa_nil))))))))))
      (fun a oe cls d pn hz hf => (pss_one (ps_ret (pe_op op_add_str (pe_ifExp (pt_val (pe_hyp (p := ∃ D, cls = .ref D ∧ d = none ∧ ExcC K D) (fun z => pe_callB (r := rIsX K cls a) (call_isX z hz hf) (by rfl) T.n_isinstance (by decide +kernel) (pa_cons (pv 4) (pa_cons (pe_glob (v := .ref T.c_MarketError) (by rfl) T.g_MarketError rfl) pa_nil))))) pe_str pe_str) (pe_ifExp (pt_val (pe_hyp (p := ∃ D, cls = .ref D ∧ d = none ∧ ExcC K D) (fun z => pe_callB (r := rIsX K cls a) (call_isX z hz hf) (by rfl) T.n_isinstance (by decide +kernel) (pa_cons (pv 4) (pa_cons (pe_glob (v := .ref T.c_MomentError) (by rfl) T.g_MomentError rfl) pa_nil))))) pe_str pe_str))))))
      (pss_one (ps_ret (pv 3)))), ?_⟩
    rcases h with ⟨rfl, q, dq, oq, q0, kE, kQ⟩ | ⟨rfl, ks, dk, l10, kE, kQ⟩ | ⟨rfl, p, dp, kE, kQ⟩
    · refine ⟨_, rfl, rfl, _, rfl, iteT ?_⟩
      refine ⟨_, rfl, _, rfl, v, va, g, n, q, m, rfl, M.d, dq, M.b, M.l, G, oq, q0, NG.imp (fun ps hps => ⟨by have := hps.len; have : g ≤ 4 := (Decidable.byContradiction fun z => G.1 (.inl fun y => z y.2)); omega, hps.b⟩) ng, m2, tabs, fun z H1 s1 => ?_, fun z v' H1 e1 t1 dv => ?_⟩
      · exact ⟨true, PySem.W.exm_ref T.b_MarketplaceError T.h_MarketplaceError T.t_MarketplaceError T.s_MarketError_MarketplaceError, fun _ x hx => ⟨⟨_, rfl, rfl, T.e_MarketError⟩, _, rfl, _, _, true, rfl, fun _ u => u, (kit_ref T.h_MarketError T.t_MarketError T.s_MarketError_MarketError T.s_MarketError_MarketError), _, rfl, iteT ⟨⟨_, rfl, rfl, T.e_MarketError⟩, _, rfl, _, _, false, rfl, fun _ u => u, (kit_ref T.h_MomentError T.t_MomentError T.s_MarketError_MomentError T.s_MarketError_MarketError), _, rfl, iteF ⟨_, _, rfl, rfl, by decide, kE z H1 s1⟩⟩⟩, fun z => nomatch z⟩
      · exact ⟨_, rfl, kQ z v' H1 e1 t1 dv⟩
    · refine ⟨_, rfl, rfl, _, rfl, iteF ⟨_, rfl, rfl, _, rfl, iteT ?_⟩⟩
      refine ⟨_, rfl, _, rfl, v, va, g, n, ks, m, rfl, M.d, dk, M.b, M.l, G, l10, ng, m2, tabs, fun z H1 s1 => ?_, fun z v' H1 e1 t1 dv => ?_⟩
      · exact ⟨true, PySem.W.exm_ref T.b_MarketplaceError T.h_MarketplaceError T.t_MarketplaceError T.s_MarketError_MarketplaceError, fun _ x hx => ⟨⟨_, rfl, rfl, T.e_MarketError⟩, _, rfl, _, _, true, rfl, fun _ u => u, (kit_ref T.h_MarketError T.t_MarketError T.s_MarketError_MarketError T.s_MarketError_MarketError), _, rfl, iteT ⟨⟨_, rfl, rfl, T.e_MarketError⟩, _, rfl, _, _, false, rfl, fun _ u => u, (kit_ref T.h_MomentError T.t_MomentError T.s_MarketError_MomentError T.s_MarketError_MarketError), _, rfl, iteF ⟨_, _, rfl, rfl, by decide, kE z H1 s1⟩⟩⟩, fun z => nomatch z⟩
      · exact ⟨_, rfl, kQ z v' H1 e1 t1 dv⟩
    · refine ⟨_, rfl, rfl, _, rfl, iteF ⟨_, rfl, rfl, _, rfl, iteF ?_⟩⟩
      refine ⟨_, rfl, _, rfl, v, va, g, n, p, rfl, M, G, dp, fun z H1 s1 => ?_, fun k ek v' H1 s1 dv => ?_⟩
      · exact ⟨true, PySem.W.exm_ref T.b_MarketplaceError T.h_MarketplaceError T.t_MarketplaceError T.s_MomentError_MarketplaceError, fun _ x hx => ⟨⟨_, rfl, rfl, T.e_MomentError⟩, _, rfl, _, _, false, rfl, fun _ u => u, (kit_ref T.h_MarketError T.t_MarketError T.s_MomentError_MarketError T.s_MomentError_MomentError), _, rfl, iteF ⟨⟨_, rfl, rfl, T.e_MomentError⟩, _, rfl, _, _, true, rfl, fun _ u => u, (kit_ref T.h_MomentError T.t_MomentError T.s_MomentError_MomentError T.s_MomentError_MomentError), _, rfl, iteT ⟨_, _, rfl, rfl, by decide, kE z H1 s1⟩⟩⟩, fun z => nomatch z⟩
      · exact ⟨_, rfl, kQ k ek v' H1 s1 dv⟩
end
end Nl

namespace Nl
open PySem PySem.Spec PyProof.Rows L2
open NdefX (TabsN NTab TabN)
open LamX (ExtN TabB)
section
variable {P : Program} {w : World} {K : PySem.W.Frag} {mg : Str → Option Value} {base : Heap}
def rg1 (g : Int) : List Int := (List.range (g - 1).toNat).map fun i : Nat => 1 + (i : Int)
theorem rg1_v (g : Int) : rgV 1 g = (rg1 g).map V.int := by
  unfold rgV rg1
  rw [List.map_map]
  rfl
theorem rg_cons {g : Int} (h : 1 ≤ g) : rg g = 0 :: rg1 g := by
  unfold rg rg1
  have e : g.toNat = (g - 1).toNat + 1 := by omega
  rw [e, List.range_succ_eq_map, List.map_cons, List.map_map]
  refine congrArg (fun l => (0 : Int) :: l) (List.map_congr_left fun i _ => ?_)
  show ((i + 1 : Nat) : Int) = 1 + (i : Int)
  omega
theorem take_drop_perm {L : List Int} {j : Nat} {x : Int} (h : L[j]? = some x) : (x :: (L.take j ++ L.drop (j + 1))).Perm L := by
  obtain ⟨hj, e⟩ := List.getElem?_eq_some_iff.mp h
  have : L = L.take j ++ x :: L.drop (j + 1) := by
    rw [← e, ← List.drop_eq_getElem_cons hj, List.take_append_drop]
  conv => rhs; rw [this]
  exact List.perm_middle.symm
def sp_order (K : PySem.W.Frag) : Sp := fun vs H Q _ => ∃ (pd ps : Addr) (g : Int), vs = [.ref pd, .int g] ∧ Dst H pd ps ∧ 1 ≤ g ∧ g ≤ 4 ∧ ∀ v ks H', Xt pd H H' → Dst H' pd ps → DT K H' v (pathD ks) → IsOrd g ks → Q v H'
theorem ok__law_order (T : Top K mg) : FnOk P w K mg base CX0 2 T.a__law_order T.d__law_order ["d", "goods"] (sp_order K) := by
  refine T._law_order_F.ok sc__law_order (fun vs H Q E h => ?_) (fun cdv A outer s H vs Q E hr h => ?_)
  · obtain ⟨_, _, _, rfl, _⟩ := h
    rfl
  · obtain ⟨pd, ps, g, rfl, D, g1, g4, fin⟩ := h
    refine ⟨_, (pss_cons (ps_set (i := 2) sc__law_order.nd rfl (Or.inl rfl) (pe_listRg rfl (by rfl) T.n_list (prg_2 (by rfl) T.n_range pe_int (pv 1))))
      (pss_cons (ps_set (i := 3) sc__law_order.nd rfl (Or.inl rfl) (pe_lst (pa_cons pe_int pa_nil)))
      (pss_cons (ps_for PassesOwn.never rfl (pi_range1 rfl T.n_range (pa_cons (pe_op op_sub (pv 1) pe_int) pa_nil)) (pg_name (i := 4) sc__law_order.nd rfl (Or.inl rfl)) (pss_cons (ps_set (i := 5) sc__law_order.nd rfl (Or.inl rfl) (pe_call (ok__law_take T) (hr.mono (by decide : 1 ≤ 1)) (by rfl) T.g__law_take T._law_take_F.kp T._law_take_b .nil pass0 (pa_cons (pv 0) (pa_cons (pe_callB call_lenL (by rfl) T.n_len (by decide +kernel) (pa_cons (pv 2) pa_nil)) pa_nil))))
      (pss_cons (ps_expr (pe_bm PySem.F.plainAttrs_list PySem.F.slot_list_append PySem.F.type_list_append mt_append (pv 3) (pa_cons (pe_ix ix_list (pv 2) (pv 5) (fun _ _ => rfl)) pa_nil)))
      (pss_one (ps_set (i := 2) sc__law_order.nd rfl (Or.inl rfl) (pe_op op_cat (pe_slice sl_list (pv 2) po_none (po_some (pv 5))) (pe_slice sl_list (pv 2) (po_some (pe_op op_add (pv 5) pe_int)) po_none)))))))
      (pss_one (ps_ret (pe_callTy call_tupL (by rfl) T.n_tuple (by decide +kernel) (pa_cons (pv 3) pa_nil))))))), ?_⟩
    refine ⟨_, rfl, _, _, rfl, rfl, RgOk.of_le (by omega) (by omega) (by omega) (by omega), fun pl hpl => ?_⟩
    have s1 := same_new (o := .lst (rgV 1 g)) hpl
    have nl := D.fresh hpl
    refine ⟨(by decide : 1 ≤ sizeLine), fun po hpo => ?_⟩
    have s2 := same_new (o := .lst [.int 0]) hpo
    have s12 := s1.trans s2
    have no := (D.same s1).fresh hpo
    have nlo : pl ≠ po := fun z => by
      rw [← z, upd_same] at hpo
      cases hpo
    have hl2 := s2 _ _ (upd_same (H := H) (a := pl) (o := .lst (rgV 1 g)))
    refine ⟨_, rfl, _, _, rfl, rfl, _, rfl, by omega, by omega, for_range (lo := 0) (n := (g - 1).toNat) (fun k σ H' => ∃ (ql : Addr) (y4 y5 : Option V) (C L : List Int), σ = [some (.ref pd), some (.int g), some (.ref ql), some (.ref po), y4, y5] ∧ Xt pd H H' ∧ Dst H' pd ps ∧ ql ≠ pd ∧ ql ≠ po ∧ H' ql = some (.lst (L.map V.int)) ∧ H' po = some (.lst (((0 : Int) :: C).map V.int)) ∧
      C.length = k ∧ (C ++ L).Perm (rg1 g)) ⟨pl, _, _, [], rg1 g, rfl, Xt.of s12, D.same s12, nl.1, nlo, by rw [← rg1_v]; exact hl2, upd_same, rfl, List.Perm.refl _⟩ ?_ ?_⟩
    · rintro k σ H' hk ⟨ql, y4, y5, C, L, rfl, x1, D1, nq1, nq2, hL, hC, lC, pm⟩
      have lL : L.length = (g - 1).toNat - k := by
        have := pm.length_eq
        rw [List.length_append, lC] at this
        unfold rg1 at this
        simp at this
        omega
      have lm : (L.map V.int).length = L.length := List.length_map _
      have lL3 : L.length ≤ 3 := by omega
      refine ⟨_, rfl, _, rfl, _, _, rfl, SqL.of hL, pd, ps, _, rfl, D1, by omega, Bd.mono (k := 10) (by unfold Bd; omega) (by decide), fun r H2 x2 D2 r0 r1 => ?_⟩
      have hL2 := x2 _ _ nq1 hL
      have hC2 := x2 _ _ no.1 hC
      obtain ⟨j, rfl⟩ : ∃ j : Nat, r = (j : Int) := ⟨r.toNat, by omega⟩
      have hjl : j < L.length := by omega
      obtain ⟨a, hj⟩ : ∃ a, L[j]? = some a := ⟨_, List.getElem?_eq_getElem hjl⟩
      have hja : (L.map V.int)[j]? = some (.int a) := by rw [List.getElem?_map, hj]; rfl
      refine ⟨_, rfl, .inl ⟨rfl, _, SqL.of hC2⟩, _, rfl, _, rfl, _, _, _, _, rfl, rfl, SqL.of hL2, atI_nat hja, _, _, _, rfl, rfl, hC2, ?_, ?_⟩
      · rw [List.length_map, List.length_cons, lC]
        exact small1000 (by omega)
      have hL3 : (upd H2 po (.lst (((0 : Int) :: C).map V.int ++ [.int a]))) ql = some (.lst (L.map V.int)) := by
        rw [upd_ne nq2]
        exact hL2
      have x3 : Xt pd H (upd H2 po (.lst (((0 : Int) :: C).map V.int ++ [.int a]))) := xt_mut ((x1.trans x2)) (by
        cases e : H po with
        | none => rfl
        | some o => rw [s1 _ _ e] at hpo; cases hpo)
      have D3 : Dst (upd H2 po (.lst (((0 : Int) :: C).map V.int ++ [.int a]))) pd ps := D2.xt no.1 no.2 Xt.upd
      have hC3 : (upd H2 po (.lst (((0 : Int) :: C).map V.int ++ [.int a]))) po = some (.lst (((0 : Int) :: C).map V.int ++ [.int a])) := upd_same
      generalize (upd H2 po (.lst (((0 : Int) :: C).map V.int ++ [.int a]))) = H3 at *
      refine ⟨_, rfl, _, rfl, _, rfl, ql, _, rfl, SqL.of hL3, fun q1 k1 => ?_⟩
      have v1 := same_new (o := .lst (cutV (L.map V.int) none (some (j : Int)))) k1
      refine ⟨_, rfl, _, rfl, _, _, rfl, rfl, _, rfl, ql, _, rfl, SqL.of (v1 _ _ hL3), fun q2 k2 => ?_⟩
      have v2 := same_new (o := .lst (cutV (L.map V.int) (some ((j : Int) + 1)) none)) k2
      have e1 : cutV (L.map V.int) none (some (j : Int)) = (L.take j).map V.int := by rw [cut_take, List.map_take]
      have e2 : cutV (L.map V.int) (some ((j : Int) + 1)) none = (L.drop (j + 1)).map V.int := by
        have := cut_drop (L.map V.int) (j + 1)
        rw [List.map_drop]
        exact this
      refine ⟨q1, q2, _, _, rfl, rfl, v2 _ _ upd_same, upd_same, ?_, fun q3 k3 => ?_⟩
      · rw [e1, e2, List.length_map, List.length_map, List.length_take, List.length_drop]
        have : min j L.length + (L.length - (j + 1)) ≤ 1000 := by omega
        exact len1000 this
      have v3 := same_new (o := .lst (cutV (L.map V.int) none (some (j : Int)) ++ cutV (L.map V.int) (some ((j : Int) + 1)) none)) k3
      have v13 := (v1.trans v2).trans v3
      have n3 := D3.fresh (xt_free (p := q3) (Xt.of (v1.trans v2)) (fun z => by
        obtain ⟨ys, e⟩ := D3.lst
        rw [z, (v1.trans v2) _ _ e] at k3
        cases k3) k3)
      refine ⟨q3, _, _, C ++ [a], L.take j ++ L.drop (j + 1), rfl, x3.trans (Xt.of v13), D3.same v13, n3.1, fun z => ?_, ?_, ?_, by simp [lC], ?_⟩
      · rw [z, (v1.trans v2) _ _ hC3] at k3
        cases k3
      · rw [upd_same, e1, e2, List.map_append]
      · rw [v13 _ _ hC3]
        simp
      · refine List.Perm.trans ?_ pm
        rw [List.append_assoc]
        exact List.Perm.append_left C (take_drop_perm hj)
    · rintro σ H' ⟨ql, y4, y5, C, L, rfl, x1, D1, nq1, nq2, hL, hC, lC, pm⟩
      have lL : L = [] := by
        have := pm.length_eq
        rw [List.length_append, lC] at this
        unfold rg1 at this
        simp at this
        first | exact this | exact List.eq_nil_of_length_eq_zero (by omega) | (exact this.1)
      rw [lL, List.append_nil] at pm
      refine ⟨_, rfl, _, _, rfl, SqL.of hC, fun q hq => ?_⟩
      have s3 := same_new (o := .tup (((0 : Int) :: C).map V.int)) hq
      exact fin _ (0 :: C) _ (x1.trans (Xt.of s3)) (D1.same s3) (DT.path (Tp.of upd_same)) ⟨by rw [rg_cons g1]; exact List.Perm.cons 0 pm, rfl⟩
end
end Nl

namespace Nl
open PySem PySem.Spec PyProof.Rows L2
open NdefX (TabsN NTab TabN)
open LamX (ExtN TabB)
theorem Sh.mono {k m : Nat} {d : PyData} (h : Sh k d) (e : k ≤ m) : Sh m d := ⟨h.1, Nat.le_trans h.2 e⟩
theorem sh_prices (ps : List Pr) : Sh 3 (pricesD ps) := Sh.tup (k := 2) fun d hd => by
  obtain ⟨p, _, rfl⟩ := List.mem_map.mp hd
  exact sh_pr p
theorem sh_node {good : List Pr → Prop} : ∀ (m : Nat) (n : Node), NG good m n → Sh (2 * m + 4) (nodeD n)
  | 0, n, h => by
    rw [nodeD_eq, h.2]
    refine Sh.tup (k := 3) fun d hd => ?_
    rcases List.mem_cons.mp hd with rfl | hd
    · exact sh_prices _
    · rw [List.mem_singleton.mp hd]
      exact (Sh.tup (k := 0) (ds := []) fun d hd => by cases hd).mono (by decide)
  | m + 1, n, h => by
    rw [nodeD_eq]
    refine Sh.tup (k := 2 * m + 5) fun d hd => ?_
    rcases List.mem_cons.mp hd with rfl | hd
    · exact (sh_prices _).mono (by omega)
    · rw [List.mem_singleton.mp hd]
      refine Sh.tup (k := 2 * m + 4) fun d hd => ?_
      obtain ⟨k, hk, rfl⟩ := List.mem_map.mp hd
      exact sh_node m k (h.2.2 k hk)
theorem sh_market {good : List Pr → Prop} {m : Nat} {n : Node} (g : Int) (h : NG good m n) (m2 : m ≤ 2) : Sh 9 (marketD g n) := Sh.tup (k := 8) fun d hd => by
  rcases List.mem_cons.mp hd with rfl | hd
  · exact .int
  · rw [List.mem_singleton.mp hd]
    exact (sh_node m n h).mono (by omega)
theorem ng_find {good : List Pr → Prop} : ∀ (p : List Int) (m : Nat) (n k : Node), NG good m n → find n p = some k → ∃ m', m' ≤ m ∧ NG good m' k
  | [], m, n, k, h, e => by
    cases e
    exact ⟨m, Nat.le_refl _, h⟩
  | i :: p, m, n, k, h, e => by
    by_cases hi : 0 ≤ i ∧ i < (n.ks.length : Int)
    · obtain ⟨j, rfl⟩ := Int.eq_ofNat_of_zero_le hi.1
      have hk : n.ks[j]? = some n.ks[j] := List.getElem?_eq_getElem (by omega)
      rw [find_cons, hk] at e
      cases m with
      | zero =>
        rw [h.2] at hi
        simp at hi
        omega
      | succ m =>
        obtain ⟨m', h1, h2⟩ := ng_find p m _ k (h.2.2 _ (List.getElem_mem _)) e
        exact ⟨m', by omega, h2⟩
    · rw [find_out hi] at e
      cases e
theorem frac_id {p : Int × Int} (h : Low p) : frac p.1 p.2 = p := by
  have ne : p.2 ≠ 0 := by have := h.pos; omega
  exact low_uniq (frac_low ne) h (frac_cross ne)
theorem widen_one {p : Pr} (h : PrK 201 p) : widen (1, 1) p = p := by
  unfold widen mulF divF
  simp only [Int.mul_one]
  rw [frac_id h.1.low, frac_id h.2.low]
theorem turn_rg {g : Int} {ps : List Pr} (g1 : 1 ≤ g) (h : (ps.length : Int) = g - 1) : turn (rg g) ps = ps := by
  unfold turn
  rw [rg_cons g1]
  show (rg1 g).map _ = ps
  unfold rg1
  rw [List.map_map]
  refine List.ext_getElem (by simp; omega) fun i h1 h2 => ?_
  rw [List.getElem_map, List.getElem_range]
  show (ps[(1 + (i : Int) - 1).toNat]?).getD _ = _
  rw [show (1 + (i : Int) - 1).toNat = i by omega, List.getElem?_eq_getElem h2]
  rfl
theorem ord_rg {g : Int} (g1 : 1 ≤ g) : IsOrd g (rg g) := ⟨List.Perm.refl _, by rw [rg_cons g1]; rfl⟩
theorem ord_len {g : Int} {ks : List Int} (h : IsOrd g ks) : ks.length = g.toNat := by
  rw [h.1.length_eq]
  unfold rg
  simp
theorem wide_fac {a b : Int} (a0 : 0 ≤ a) (a1 : a < 5) (b0 : 0 ≤ b) (b1 : b < 2) : Ok 201 (frac (2 + a) (1 + b)) ∧ (frac (2 + a) (1 + b)).1 ≠ 0 ∧ ¬ cmpF (frac (2 + a) (1 + b)) (1, 1) < 0 := by
  have ne : 1 + b ≠ 0 := by omega
  have hl := frac_low (a := 2 + a) ne
  have hc := frac_cross (a := 2 + a) ne
  have hp := hl.pos
  refine ⟨(frac_ok (k := 10) ne (by unfold Bd; omega) (by unfold Bd; omega)).mono (by decide), fun z => ?_, fun z => ?_⟩
  · rw [z, Int.zero_mul] at hc
    have := Int.mul_pos (show 0 < 2 + a by omega) hp
    omega
  · have z := cmp_neg.mp z
    simp only [Int.mul_one, Int.one_mul] at z
    have h1 := Int.mul_lt_mul_of_pos_right z (show 0 < 1 + b by omega)
    have h2 : (frac (2 + a) (1 + b)).2 * (1 + b) ≤ (2 + a) * (frac (2 + a) (1 + b)).2 := by
      rw [Int.mul_comm (2 + a)]
      exact Int.mul_le_mul_of_nonneg_left (by omega) (by omega)
    omega
theorem order_prices {g : Int} {ks : List Int} (ps : List Pr) (o : IsOrd g ks) : (ks.map fun k => prD ((((1, 1), (1, 1)) :: ps : List Pr)[k.toNat]?.getD ((0, 1), (0, 1)))) = prD ((1, 1), (1, 1)) :: (turn ks ps).map prD := by
  have hr := o.rest
  obtain ⟨hp, h0⟩ := o
  cases ks with
  | nil => simp at h0
  | cons a r =>
    simp at h0
    subst h0
    refine congrArg (prD ((1, 1), (1, 1)) :: ·) ?_
    unfold turn
    rw [List.map_map]
    refine List.map_congr_left fun k hk => ?_
    have := (hr k hk).1
    show prD ((((1, 1), (1, 1)) :: ps : List Pr)[k.toNat]?.getD _) = prD (ps[(k - 1).toNat]?.getD _)
    rw [show k.toNat = (k - 1).toNat + 1 by omega, List.getElem?_cons_succ]
theorem cut_last (ks : List Int) : cutV (ks.map V.int) none (some (-1)) = (ks.take (ks.length - 1)).map V.int := by
  unfold cutV
  rw [HT.sIx_none, List.map_take, List.length_map]
  have e : HT.sIx ks.length ks.length (some (-1)) = ks.length - 1 := by
    show (if (-1 : Int) < 0 then ((-1 : Int) + (ks.length : Int)).toNat else min (-1 : Int).toNat ks.length) = _
    rw [if_pos (by decide)]
    omega
  rw [e]
  rfl
theorem bad1 {g : Int} {ks : List Int} : ¬ IsOrd g (1 :: ks) := fun h => by
  have := h.2
  simp at this
theorem bad2 {g : Int} {ks kb : List Int} (o : IsOrd g ks) (h : kb.length ≠ ks.length) : ¬ IsOrd g kb := fun z => h (by rw [ord_len o, ord_len z])
section
variable {P : Program} {w : World} {K : PySem.W.Frag} {mg : Str → Option Value} {base : Heap} {H : Hp} {v va : V} {g : Int} {n : Node} {m : Nat} {Q : VK} {E : XK}
theorem tl0 (T : Top K mg) {q : Int × Int} (M : Mk K H v g n) (G : Good g n) (ng : NG (PsOk g) m n) (m2 : m ≤ 2) (tabs : TabsN (Tbl T) H) (dq : DT K H va (frD q)) (oq : Ok 201 q) (q0 : q.1 ≠ 0) (c : ¬ cmpF q (1, 1) < 0)
    (fin : ∀ v' H', ExtN H H' → TabsN (Tbl T) H' → DT K H' v' (marketD g (mapN (fun ps => ps.map (widen q)) n)) → Q v' H') : sp_told K T [.int 0, v, va] H Q E :=
  ⟨v, va, g, n, m, 0, rfl, M, G, ng, m2, tabs, .inl ⟨rfl, q, dq, oq, q0, fun z => (c z).elim, fun _ => fin⟩⟩
theorem tl0x (T : Top K mg) {q : Int × Int} (M : Mk K H v g n) (G : Good g n) (ng : NG (PsOk g) m n) (m2 : m ≤ 2) (tabs : TabsN (Tbl T) H) (dq : DT K H va (frD q)) (oq : Ok 201 q) (q0 : q.1 ≠ 0) (c : cmpF q (1, 1) < 0)
    (fin : ∀ H', Same H H' → Q (.str ("market" ++ "")) H') : sp_told K T [.int 0, v, va] H Q E :=
  ⟨v, va, g, n, m, 0, rfl, M, G, ng, m2, tabs, .inl ⟨rfl, q, dq, oq, q0, fun _ => fin, fun z => (z c).elim⟩⟩
theorem tl1 (T : Top K mg) {ks : List Int} (M : Mk K H v g n) (G : Good g n) (ng : NG (PsOk g) m n) (m2 : m ≤ 2) (tabs : TabsN (Tbl T) H) (dk : DT K H va (pathD ks)) (l : ks.length ≤ 10) (o : IsOrd g ks)
    (fin : ∀ v' H', ExtN H H' → TabsN (Tbl T) H' → DT K H' v' (marketD g (mapN (turn ks) n)) → Q v' H') : sp_told K T [.int 1, v, va] H Q E :=
  ⟨v, va, g, n, m, 1, rfl, M, G, ng, m2, tabs, .inr (.inl ⟨rfl, ks, dk, l, fun z => (z o).elim, fun _ => fin⟩)⟩
theorem tl1x (T : Top K mg) {ks : List Int} (M : Mk K H v g n) (G : Good g n) (ng : NG (PsOk g) m n) (m2 : m ≤ 2) (tabs : TabsN (Tbl T) H) (dk : DT K H va (pathD ks)) (l : ks.length ≤ 10) (o : ¬ IsOrd g ks)
    (fin : ∀ H', Same H H' → Q (.str ("market" ++ "")) H') : sp_told K T [.int 1, v, va] H Q E :=
  ⟨v, va, g, n, m, 1, rfl, M, G, ng, m2, tabs, .inr (.inl ⟨rfl, ks, dk, l, fun _ => fin, fun z => (o z).elim⟩)⟩
theorem tl2 (T : Top K mg) {p : List Int} {k : Node} (M : Mk K H v g n) (G : Good g n) (ng : NG (PsOk g) m n) (m2 : m ≤ 2) (tabs : TabsN (Tbl T) H) (dp : DT K H va (pathD p)) (hf : find n p = some k)
    (fin : ∀ v' H', Same H H' → DT K H' v' (marketD g k) → Q v' H') : sp_told K T [.int 2, v, va] H Q E :=
  ⟨v, va, g, n, m, 2, rfl, M, G, ng, m2, tabs, .inr (.inr ⟨rfl, p, dp, fun z => (by rw [hf] at z; cases z), fun k' e => (by rw [hf] at e; cases e; exact fin)⟩)⟩
theorem tl2x (T : Top K mg) {p : List Int} (M : Mk K H v g n) (G : Good g n) (ng : NG (PsOk g) m n) (m2 : m ≤ 2) (tabs : TabsN (Tbl T) H) (dp : DT K H va (pathD p)) (hf : find n p = none)
    (fin : ∀ H', Same H H' → Q (.str ("" ++ "moment")) H') : sp_told K T [.int 2, v, va] H Q E :=
  ⟨v, va, g, n, m, 2, rfl, M, G, ng, m2, tabs, .inr (.inr ⟨rfl, p, dp, fun _ => fin, fun k' e => by rw [hf] at e; cases e⟩)⟩
theorem Mk.ext {H' : Hp} (h : Mk K H v g n) (s : ExtN H H') : Mk K H' v g n := ⟨h.d.ext s, h.b, h.l⟩
end
section
variable {P : Program} {w : World} {K : PySem.W.Frag} {mg : Str → Option Value} {base : Heap}
def sp_law (K : PySem.W.Frag) (T : Top K mg) : Sp := fun vs H Q _ => ∃ (a : Addr) (ns : List Int), vs = [.ref a] ∧ SqL K H a (ns.map V.int) ∧ ns.length ≤ 63 ∧ TabsN (Tbl T) H ∧ ∀ H', Q (.bl true) H'
theorem ok_law {f : Addr} {fd : FuncData} (T : Top K mg) (TW : TabB base mg T.cc_widened T.ct_widened) (TT : TabB base mg T.cc_turned T.ct_turned) (F : Fun K "law" "law" s_law f fd) : FnOk P w K mg base CX0 10 f fd ["script"] (sp_law K T) := by
  refine F.ok sc_law (fun vs H Q E h => ?_) (fun cdv A outer s H vs Q E hr h => ?_)
  · obtain ⟨_, _, rfl, _⟩ := h
    rfl
  · obtain ⟨a, ns, rfl, hS, _, tabs, fin⟩ := h
    refine ⟨_, (pss_cons (ps_set (i := 1) sc_law.nd rfl (Or.inl rfl) (pe_call (ok__law_begin T) (hr.mono (by decide : 1 ≤ 9)) (by rfl) T.g__law_begin T._law_begin_F.kp T._law_begin_b .nil pass0 (pa_cons (pv 0) pa_nil)))
      (pss_cons (ps_set (i := 2) sc_law.nd rfl (Or.inl rfl) (pe_call (ok__law_market T) (hr.mono (by decide : 8 ≤ 9)) (by rfl) T.g__law_market T._law_market_F.kp T._law_market_b .nil pass0 (pa_cons (pv 1) (pa_cons pe_int pa_nil))))
      (pss_cons (ps_set (i := 3) sc_law.nd rfl (Or.inr rfl) (pe_call (ok__law_f T) (hr.mono (by decide : 2 ≤ 9)) (by rfl) T.g__law_f T._law_f_F.kp T._law_f_b .nil pass0 (pa_cons (pe_op op_add pe_int (pe_call (ok__law_take T) (hr.mono (by decide : 1 ≤ 9)) (by rfl) T.g__law_take T._law_take_F.kp T._law_take_b .nil pass0 (pa_cons (pv 1) (pa_cons pe_int pa_nil)))) (pa_cons (pe_op op_add pe_int (pe_call (ok__law_take T) (hr.mono (by decide : 1 ≤ 9)) (by rfl) T.g__law_take T._law_take_F.kp T._law_take_b .nil pass0 (pa_cons (pv 1) (pa_cons pe_int pa_nil)))) pa_nil))))
      (pss_cons (ps_set (i := 4) sc_law.nd rfl (Or.inl rfl) (pe_call (ok__law_order T) (hr.mono (by decide : 2 ≤ 9)) (by rfl) T.g__law_order T._law_order_F.kp T._law_order_b .nil pass0 (pa_cons (pv 1) (pa_cons (pe_ix ix_tup (pv 2) pe_int (fun _ _ => rfl)) pa_nil))))
      (pss_cons (ps_set (i := 5) sc_law.nd rfl (Or.inl rfl) (pe_call (ok__law_told T TW TT) (hr.mono (by decide : 9 ≤ 9)) (by rfl) T.g__law_told T._law_told_F.kp T._law_told_b .nil pass0 (pa_cons pe_int (pa_cons (pv 2) (pa_cons (pv 3) pa_nil)))))
      (pss_cons (ps_set (i := 6) sc_law.nd rfl (Or.inl rfl) (pe_call (ok__law_told T TW TT) (hr.mono (by decide : 9 ≤ 9)) (by rfl) T.g__law_told T._law_told_F.kp T._law_told_b .nil pass0 (pa_cons pe_int (pa_cons (pv 2) (pa_cons (pv 4) pa_nil)))))
      (pss_cons (ps_setLc (i := 8) (own := [("path", 7), ("node", 12)]) (g := (gTup K 2 (gCons (gName 7) (gCons (gName 12) gNil)))) (tt := tYes) (by rfl) sc_law.nd rfl rfl (sw_true rfl rfl rfl (by decide +kernel)) (pi_list (pe_call (ok__law_nodes T) (hr.mono (by decide : 4 ≤ 9)) (by rfl) T.g__law_nodes T._law_nodes_F.kp T._law_nodes_b .nil pass0 (pa_cons (pv 2) pa_nil))) (blkOk_by (own := [("path", 7), ("node", 12)]) (N := ["script", "d", "market", "factor", "order", "wide", "other", "path", "paths", "prices", "due", "bad", "node", "k"]) (sc := defScope s_law) (by decide +kernel)) (fun _ _ _ _ _ => (pg_tup rfl (pgs_cons (pg_name (i := 7) sc_law.nd rfl (Or.inl rfl)) (pgs_cons (pg_name (i := 12) sc_law.nd rfl (Or.inl rfl)) pgs_nil)))) (fun _ _ _ _ _ => pts_nil) (fun _ _ _ _ _ => (pv 7)))
      (pss_cons (ps_if (PW.pt (pw_or (pt_cmpR (op_neD hr.units) (pe_lc (own := [("path", 7), ("node", 12)]) (g := (gTup K 2 (gCons (gName 7) (gCons (gName 12) gNil)))) (tt := tYes) (by rfl) sc_law.nd (pi_list (pe_call (ok__law_nodes T) (hr.mono (by decide : 4 ≤ 9)) (by rfl) T.g__law_nodes T._law_nodes_F.kp T._law_nodes_b .nil pass0 (pa_cons (pv 5) pa_nil))) (blkOk_by (own := [("path", 7), ("node", 12)]) (N := ["script", "d", "market", "factor", "order", "wide", "other", "path", "paths", "prices", "due", "bad", "node", "k"]) (sc := defScope s_law) (by decide +kernel)) (fun _ _ _ _ _ => (pg_tup rfl (pgs_cons (pg_name (i := 7) sc_law.nd rfl (Or.inl rfl)) (pgs_cons (pg_name (i := 12) sc_law.nd rfl (Or.inl rfl)) pgs_nil)))) (fun _ _ _ _ _ => pts_nil) (fun _ _ _ _ _ => (pv 7))) (pv 8) (nomark _)) (pw_or1 (pt_cmpR (op_neD hr.units) (pe_lc (own := [("path", 7), ("node", 12)]) (g := (gTup K 2 (gCons (gName 7) (gCons (gName 12) gNil)))) (tt := tYes) (by rfl) sc_law.nd (pi_list (pe_call (ok__law_nodes T) (hr.mono (by decide : 4 ≤ 9)) (by rfl) T.g__law_nodes T._law_nodes_F.kp T._law_nodes_b .nil pass0 (pa_cons (pv 6) pa_nil))) (blkOk_by (own := [("path", 7), ("node", 12)]) (N := ["script", "d", "market", "factor", "order", "wide", "other", "path", "paths", "prices", "due", "bad", "node", "k"]) (sc := defScope s_law) (by decide +kernel)) (fun _ _ _ _ _ => (pg_tup rfl (pgs_cons (pg_name (i := 7) sc_law.nd rfl (Or.inl rfl)) (pgs_cons (pg_name (i := 12) sc_law.nd rfl (Or.inl rfl)) pgs_nil)))) (fun _ _ _ _ _ => pts_nil) (fun _ _ _ _ _ => (pv 7))) (pv 8) (nomark _))))) (pss_one (ps_ret pe_bl)) pss_nil)
      (pss_cons (ps_for PassesOwn.never rfl (pi_list (pv 8)) (pg_name (i := 7) sc_law.nd rfl (Or.inl rfl)) (pss_cons (ps_set (i := 9) sc_law.nd rfl (Or.inr rfl) (pe_call (ok__law_prices T) (hr.mono (by decide : 2 ≤ 9)) (by rfl) T.g__law_prices T._law_prices_F.kp T._law_prices_b .nil pass0 (pa_cons (pv 2) (pa_cons (pv 7) pa_nil))))
      (pss_cons (ps_setLc (i := 10) (own := [("k", 13)]) (g := (gName 13)) (tt := tYes) (by rfl) sc_law.nd rfl rfl (sw_true rfl rfl rfl (by decide +kernel)) (pi_range2 rfl T.n_range (pa_cons pe_int (pa_cons (pe_ix ix_tup (pv 2) pe_int (fun _ _ => rfl)) pa_nil))) (blkOk_by (own := [("k", 13)]) (N := ["script", "d", "market", "factor", "order", "wide", "other", "path", "paths", "prices", "due", "bad", "node", "k"]) (sc := defScope s_law) (by decide +kernel)) (fun _ _ _ _ _ => (pg_name (i := 13) sc_law.nd rfl (Or.inl rfl))) (fun _ _ _ _ _ => pts_nil) (fun _ _ _ _ _ => (pe_tup (pa_cons (pe_call (ok__law_times T) (hr.mono (by decide : 3 ≤ 9)) (by rfl) T.g__law_times T._law_times_F.kp T._law_times_b .nil pass0 (pa_cons (pe_ix (r := rIxT K) ix_tup (pe_ix (r := rIxT K) ix_tup (pv 9) (pv 13) (fun _ _ => rfl)) pe_int (fun _ _ => rfl)) (pa_cons (pv 3) pa_nil))) (pa_cons (pe_call (ok__law_f T) (hr.mono (by decide : 2 ≤ 9)) (by rfl) T.g__law_f T._law_f_F.kp T._law_f_b .nil pass0 (pa_cons (pe_op op_mulW (pe_ix (r := rIxT K) ix_tup (pe_ix (r := rIxT K) ix_tup (pe_ix (r := rIxT K) ix_tup (pv 9) (pv 13) (fun _ _ => rfl)) pe_int (fun _ _ => rfl)) pe_int (fun _ _ => rfl)) (pe_ix (r := rIxT K) ix_tup (pv 3) pe_int (fun _ _ => rfl))) (pa_cons (pe_op op_mulW (pe_ix (r := rIxT K) ix_tup (pe_ix (r := rIxT K) ix_tup (pe_ix (r := rIxT K) ix_tup (pv 9) (pv 13) (fun _ _ => rfl)) pe_int (fun _ _ => rfl)) pe_int (fun _ _ => rfl)) (pe_ix (r := rIxT K) ix_tup (pv 3) pe_int (fun _ _ => rfl))) pa_nil))) pa_nil)))))
      (pss_cons (ps_if (PW.pt (pw_or (pt_cmpR (op_neD hr.units) (pe_ix ix_tup (pe_call (ok__law_find T) (hr.mono (by decide : 1 ≤ 9)) (by rfl) T.g__law_find T._law_find_F.kp T._law_find_b .nil pass0 (pa_cons (pv 5) (pa_cons (pv 7) pa_nil))) pe_int (fun _ _ => rfl)) (pe_callTy call_tupL (by rfl) T.n_tuple (by decide +kernel) (pa_cons (pv 10) pa_nil)) (nomark _)) (pw_or1 (pt_cmpR (op_neD hr.units) (pe_call (ok__law_prices T) (hr.mono (by decide : 2 ≤ 9)) (by rfl) T.g__law_prices T._law_prices_F.kp T._law_prices_b .nil pass0 (pa_cons (pv 6) (pa_cons (pv 7) pa_nil))) (pe_callTy call_tupL (by rfl) T.n_tuple (by decide +kernel) (pa_cons (pe_lc (own := [("k", 13)]) (g := (gName 13)) (tt := tYes) (by rfl) sc_law.nd (pi_tup (pv 4)) (blkOk_by (own := [("k", 13)]) (N := ["script", "d", "market", "factor", "order", "wide", "other", "path", "paths", "prices", "due", "bad", "node", "k"]) (sc := defScope s_law) (by decide +kernel)) (fun _ _ _ _ _ => (pg_name (i := 13) sc_law.nd rfl (Or.inl rfl))) (fun _ _ _ _ _ => pts_nil) (fun _ _ _ _ _ => (pe_ix (r := rIxT K) ix_tup (pv 9) (pv 13) (fun _ _ => rfl)))) pa_nil)) (nomark _))))) (pss_one (ps_ret pe_bl)) pss_nil)
      (pss_one (ps_if (pt_cmpR (op_neD hr.units) (pe_call (ok__law_told T TW TT) (hr.mono (by decide : 9 ≤ 9)) (by rfl) T.g__law_told T._law_told_F.kp T._law_told_b .nil pass0 (pa_cons pe_int (pa_cons (pv 2) (pa_cons (pv 7) pa_nil)))) (pe_tup (pa_cons (pe_ix ix_tup (pv 2) pe_int (fun _ _ => rfl)) (pa_cons (pe_call (ok__law_find T) (hr.mono (by decide : 1 ≤ 9)) (by rfl) T.g__law_find T._law_find_F.kp T._law_find_b .nil pass0 (pa_cons (pv 2) (pa_cons (pv 7) pa_nil))) pa_nil))) (nomark _)) (pss_one (ps_ret pe_bl)) pss_nil))))))
      (pss_cons (ps_if (PW.pt (pw_or (pt_cmpR op_ne (pe_ix ix_tup (pv 5) pe_int (fun _ _ => rfl)) (pe_ix ix_tup (pv 2) pe_int (fun _ _ => rfl)) (nomark _)) (pw_or (pt_cmpR op_ne (pe_ix ix_tup (pv 6) pe_int (fun _ _ => rfl)) (pe_ix ix_tup (pv 2) pe_int (fun _ _ => rfl)) (nomark _)) (pw_or (pt_cmpR (op_neD hr.units) (pe_call (ok__law_told T TW TT) (hr.mono (by decide : 9 ≤ 9)) (by rfl) T.g__law_told T._law_told_F.kp T._law_told_b .nil pass0 (pa_cons pe_int (pa_cons (pv 2) (pa_cons (pe_tup (pa_cons pe_int (pa_cons pe_int pa_nil))) pa_nil)))) (pv 2) (nomark _)) (pw_or1 (pt_cmpR op_ne (pe_call (ok__law_told T TW TT) (hr.mono (by decide : 9 ≤ 9)) (by rfl) T.g__law_told T._law_told_F.kp T._law_told_b .nil pass0 (pa_cons pe_int (pa_cons (pv 2) (pa_cons (pe_tup (pa_cons pe_int (pa_cons pe_int pa_nil))) pa_nil)))) pe_str (nomark _))))))) (pss_one (ps_ret pe_bl)) pss_nil)
      (pss_cons (ps_set (i := 11) sc_law.nd rfl (Or.inl rfl) (pe_ix ix_tup (pe_tup (pa_cons (pe_op op_catP (pe_tup (pa_cons pe_int pa_nil)) (pe_slice sl_tupP (pv 4) (po_some pe_int) po_none)) (pa_cons (pe_op op_catP (pv 4) (pe_tup (pa_cons pe_int pa_nil))) (pa_cons (pe_slice sl_tupP (pv 4) po_none (po_some (pe_un un_neg pe_int))) pa_nil)))) (pe_call (ok__law_take T) (hr.mono (by decide : 1 ≤ 9)) (by rfl) T.g__law_take T._law_take_F.kp T._law_take_b .nil pass0 (pa_cons (pv 1) (pa_cons pe_int pa_nil))) (fun _ _ => rfl)))
      (pss_one (ps_ret (pe_and (pe_cmpR op_eq (pe_call (ok__law_told T TW TT) (hr.mono (by decide : 9 ≤ 9)) (by rfl) T.g__law_told T._law_told_F.kp T._law_told_b .nil pass0 (pa_cons pe_int (pa_cons (pv 2) (pa_cons (pv 11) pa_nil)))) pe_str (nomark _)) (pe_and (pe_cmpR op_eq (pe_call (ok__law_told T TW TT) (hr.mono (by decide : 9 ≤ 9)) (by rfl) T.g__law_told T._law_told_F.kp T._law_told_b .nil pass0 (pa_cons pe_int (pa_cons (pv 2) (pa_cons (pe_tup (pa_cons pe_int pa_nil)) pa_nil)))) pe_str (nomark _)) (pe_one (pe_cmpR (op_eqD hr.units) (pe_call (ok__law_told T TW TT) (hr.mono (by decide : 9 ≤ 9)) (by rfl) T.g__law_told T._law_told_F.kp T._law_told_b .nil pass0 (pa_cons pe_int (pa_cons (pv 2) (pa_cons (pe_tupRg rfl (by rfl) T.n_tuple (prg_1 (by rfl) T.n_range (pe_ix ix_tup (pv 2) pe_int (fun _ _ => rfl)))) pa_nil)))) (pv 2) (nomark _)))))))))))))))))), ?_⟩
    refine ⟨_, rfl, a, ns, rfl, hS, fun pd ps H1 s1 n1 n2 D1 => ?_⟩
    refine ⟨_, rfl, pd, ps, rfl, D1, fun v g n m H2 x2 D2 dm g1 g4 m2 nv => ?_⟩
    have tabs2 := TabsN.xt (TabsN.same tabs s1) D1.isL' x2
    obtain ⟨G, hB, hL⟩ := nv_good nv m2 g1 g4
    have np := (nv_pre m ([], n) nv).1
    have ng := NV.ng nv
    -- the factor
    refine ⟨_, rfl, pd, ps, 5, rfl, D2, by decide, Bd.mono (k := 10) (by unfold Bd; decide) (by decide), fun a5 H3 x3 D3 a0 a1 => ?_⟩
    refine ⟨_, _, rfl, rfl, _, rfl, pd, ps, 2, rfl, D3, by decide, Bd.mono (k := 10) (by unfold Bd; decide) (by decide), fun b2 H4 x4 D4 b0 b1 => ?_⟩
    obtain ⟨oq, q0, cq⟩ := wide_fac a0 a1 b0 b1
    refine ⟨_, _, rfl, rfl, _, _, rfl, by omega, Bd.mono (k := 10) (by unfold Bd; omega) (by decide), fun vf H5 s5 df => ?_⟩
    have x25 := (x3.trans x4).trans (Xt.of s5)
    have D5 := D4.same s5
    have dm5 := dm.xt D2.isL' x25
    have tabs5 := TabsN.xt tabs2 D2.isL' x25
    generalize frac (2 + a5) (1 + b2) = q at *
    obtain ⟨am, vn, rfl, ham, dn⟩ := id dm5.market_inv
    -- the order
    refine ⟨_, rfl, _, rfl, _, _, _, _, rfl, rfl, ham.sq, atI_nat (j := 0) rfl, pd, ps, g, rfl, D5, g1, g4, fun vo ks H6 x6 D6 dk ord => ?_⟩
    have dm6 := dm5.xt D5.isL' x6
    have df6 := df.xt D5.isL' x6
    have tabs6 := TabsN.xt tabs5 D5.isL' x6
    have lk := ord_len ord
    have M6 : Mk K H6 (.ref am) g n := ⟨dm6, hB, by omega⟩
    -- wide and other
    refine ⟨_, rfl, _, rfl, ?_⟩
    dsimp only [tCons, tC, tNil, tCall]
    refine tl0 T M6 G ng m2 tabs6 df6 oq q0 cq fun vw H7 e7 tabs7 dw => ?_
    have M7 := M6.ext e7
    refine ⟨_, rfl, _, rfl, ?_⟩
    dsimp only [tCons, tC, tNil, tCall]
    refine tl1 T M7 G ng m2 tabs7 (dk.ext e7) (by omega) ord fun vt H8 e8 tabs8 dt => ?_
    have l6 : ∀ x ∈ pre [] n, x.1.length ≤ 6 := fun x hx => by
      have := (np x hx).2.2.1
      simp at this
      omega
    have l200 : (pre [] n).length ≤ 200 := by omega
    have lm6 : ∀ ch : List Pr → List Pr, ∀ x ∈ pre [] (mapN ch n), x.1.length ≤ 6 := fun ch x hx => by
      rw [pre_map] at hx
      obtain ⟨y, hy, rfl⟩ := List.mem_map.mp hx
      exact l6 y hy
    have lm13 : ∀ ch : List Pr → List Pr, (pre [] (mapN ch n)).length ≤ 13 := fun ch => by
      rw [pre_map, List.length_map]
      exact hL
    have M8 := M7.ext e8
    -- the paths
    refine ⟨_, rfl, _, g, n, rfl, M8.d, l200, l6, fun pn xn H9 s9 _ hN dN => ?_⟩
    have ln : xn.length = (pre [] n).length := by rw [dN.len, List.length_map]
    refine ⟨pn, rfl, ⟨_, SqL.of hN⟩, fun DP hDP => lc_list (K := K) (a := pn) (xs := xn) (fun i H' => ∃ o, Same H9 H' ∧ H' DP = some (.lst o) ∧ DTs K H' o (((pre [] n).take i).map fun e => pathD e.1)) ⟨[], same_new hDP, upd_same, .nil⟩ (fun i H' _ ⟨_, sm, _⟩ => SqL.of (sm _ _ hN)) ?_ ?_⟩
    · rintro i x H' hi ⟨o, sm, hO, dO⟩
      obtain ⟨d, hd, dx⟩ := dN.get hi
      rw [List.getElem?_map] at hd
      obtain ⟨e, he, rfl⟩ := Option.map_eq_some_iff.mp hd
      obtain ⟨b, vp, vk, rfl, hb2, dp, dk⟩ := (dx.same sm).entD_inv
      refine ⟨_, _, rfl, hb2.sq, rfl, _, _, rfl, _, _, rfl, rfl, rfl, ?_⟩
      dsimp only [tYes]
      rw [if_pos rfl]
      refine ⟨_, rfl, o, hO, ?_, _, same_mut sm hDP, upd_same, ?_⟩
      · rw [dO.len, List.length_map]
        exact Nat.lt_of_le_of_lt (List.length_take_le' _ _) (small1000 (by omega))
      · rw [take_next he, List.map_append]
        have iD : IsL H' DP := ⟨_, hO⟩
        exact (dO.xt iD Xt.upd).snoc (dp.xt iD Xt.upd)
    rintro H10 ⟨o10, s10, hO10, dO10⟩
    rw [ln, List.take_length] at dO10
    have s810 := s9.trans s10
    generalize ePP : ((pre [] n).map fun e => pathD e.1) = PP at dO10
    have shPP : Sh 2 (.list PP) := by
      rw [← ePP]
      refine Sh.lst (k := 1) fun d hd => ?_
      obtain ⟨e, _, rfl⟩ := List.mem_map.mp hd
      exact sh_path _
    have emap : ∀ ch : List Pr → List Pr, ((pre [] (mapN ch n)).map fun e => pathD e.1) = PP := fun ch => by
      rw [← ePP, pre_map, List.map_map]
      exact List.map_congr_left fun e _ => rfl
    have dw10 := (dw.ext e8).same s810
    have dt10 := dt.same s810
    have lW := lm13 (fun ps => ps.map (widen q))
    have lT := lm13 (turn ks)
    refine ⟨_, rfl, _, g, _, rfl, dw10, (by omega), lm6 _, fun pn2 xn2 H11 s11 _ hN2 dN2 => ?_⟩
    have ln2 : xn2.length = (pre [] (mapN (fun ps => ps.map (widen q)) n)).length := by rw [dN2.len, List.length_map]
    refine ⟨pn2, rfl, ⟨_, SqL.of hN2⟩, fun D hD => lc_list (K := K) (a := pn2) (xs := xn2) (fun i H' => ∃ o, Same H11 H' ∧ H' D = some (.lst o) ∧ DTs K H' o (((pre [] (mapN (fun ps => ps.map (widen q)) n)).take i).map fun e => pathD e.1)) ⟨[], same_new hD, upd_same, .nil⟩ (fun i H' _ ⟨_, sm, _⟩ => SqL.of (sm _ _ hN2)) ?_ ?_⟩
    · rintro i x H' hi ⟨o, sm, hO, dO⟩
      obtain ⟨d, hd, dx⟩ := dN2.get hi
      rw [List.getElem?_map] at hd
      obtain ⟨e, he, rfl⟩ := Option.map_eq_some_iff.mp hd
      obtain ⟨b, vp, vk, rfl, hb2, dp, dk⟩ := (dx.same sm).entD_inv
      refine ⟨_, _, rfl, hb2.sq, rfl, _, _, rfl, _, _, rfl, rfl, rfl, ?_⟩
      dsimp only [tYes]
      rw [if_pos rfl]
      refine ⟨_, rfl, o, hO, ?_, _, same_mut sm hD, upd_same, ?_⟩
      · rw [dO.len, List.length_map]
        exact Nat.lt_of_le_of_lt (List.length_take_le' _ _) (small1000 (by omega))
      · rw [take_next he, List.map_append]
        have iD : IsL H' D := ⟨_, hO⟩
        exact (dO.xt iD Xt.upd).snoc (dp.xt iD Xt.upd)
    rintro H12 ⟨o12, s12, hO12, dO12⟩
    rw [ln2, List.take_length, emap] at dO12
    have s1012 := s11.trans s12
    refine ⟨_, rfl, _, _, .lst (SqL.of hO12) (DTs.dp _ _ dO12), .lst (SqL.of (s1012 _ _ hO10)) (DTs.dp _ _ (dO10.same s1012)), shPP.shaped, shPP.shaped, _, rfl, if_false_of' shPP.ne ?_⟩
    refine ⟨_, rfl, _, g, _, rfl, dt10.same s1012, (by omega), lm6 _, fun pn3 xn3 H13 s13 _ hN3 dN3 => ?_⟩
    have ln3 : xn3.length = (pre [] (mapN (turn ks) n)).length := by rw [dN3.len, List.length_map]
    refine ⟨pn3, rfl, ⟨_, SqL.of hN3⟩, fun D hD => lc_list (K := K) (a := pn3) (xs := xn3) (fun i H' => ∃ o, Same H13 H' ∧ H' D = some (.lst o) ∧ DTs K H' o (((pre [] (mapN (turn ks) n)).take i).map fun e => pathD e.1)) ⟨[], same_new hD, upd_same, .nil⟩ (fun i H' _ ⟨_, sm, _⟩ => SqL.of (sm _ _ hN3)) ?_ ?_⟩
    · rintro i x H' hi ⟨o, sm, hO, dO⟩
      obtain ⟨d, hd, dx⟩ := dN3.get hi
      rw [List.getElem?_map] at hd
      obtain ⟨e, he, rfl⟩ := Option.map_eq_some_iff.mp hd
      obtain ⟨b, vp, vk, rfl, hb2, dp, dk⟩ := (dx.same sm).entD_inv
      refine ⟨_, _, rfl, hb2.sq, rfl, _, _, rfl, _, _, rfl, rfl, rfl, ?_⟩
      dsimp only [tYes]
      rw [if_pos rfl]
      refine ⟨_, rfl, o, hO, ?_, _, same_mut sm hD, upd_same, ?_⟩
      · rw [dO.len, List.length_map]
        exact Nat.lt_of_le_of_lt (List.length_take_le' _ _) (small1000 (by omega))
      · rw [take_next he, List.map_append]
        have iD : IsL H' D := ⟨_, hO⟩
        exact (dO.xt iD Xt.upd).snoc (dp.xt iD Xt.upd)
    rintro H14 ⟨o14, s14, hO14, dO14⟩
    rw [ln3, List.take_length, emap] at dO14
    have s1014 := (s1012.trans s13).trans s14
    have hP14 := s1014 _ _ hO10
    refine ⟨_, rfl, _, _, .lst (SqL.of hO14) (DTs.dp _ _ dO14), .lst (SqL.of hP14) (DTs.dp _ _ (dO10.same s1014)), shPP.shaped, shPP.shaped, _, rfl, if_false_of' shPP.ne ?_⟩
    have s814 := s810.trans s1014
    have M14 := M8.same s814
    have dP14 := dO10.same s1014
    have df14 := ((df6.ext e7).ext e8).same s814
    have dk14 := ((dk.ext e7).ext e8).same s814
    have dw14 := dw10.same s1014
    have dt14 := dt10.same s1014
    have tabs14 := TabsN.same tabs8 s814
    have D14 := ((D6.ext e7).ext e8).same s814
    obtain ⟨af, rfl, haf⟩ := id df14.fr_inv
    obtain ⟨ao, rfl, hao⟩ := id dk14.path_inv
    obtain ⟨am', vn14, eam, ham14, dn14⟩ := id M14.d.market_inv
    cases eam
    -- moment by moment
    refine ⟨_, rfl, DP, rfl, ⟨_, SqL.of hP14⟩, for_list (K := K) (a := DP) (xs := o10) (fun i σ H' => ∃ (y7 y9 y10 : Option V), σ = [some (.ref a), some (.ref pd), some (.ref am), some (.ref af), some (.ref ao), some vw, some vt, y7, some (.ref DP), y9, y10, none, none, none] ∧ ExtN H14 H' ∧ TabsN (Tbl T) H') ⟨_, _, _, rfl, ExtN.refl _, tabs14⟩ (fun i σ H' _ ⟨_, _, _, _, sm, _⟩ => SqL.of (sm _ _ hP14 fun _ z => nomatch z)) ?_ ?_⟩
    · rintro i x σ H15 hi ⟨y7, y9, y10, rfl, e15, tabs15⟩
      obtain ⟨d, hd, dx⟩ := dP14.get hi
      rw [← ePP, List.getElem?_map] at hd
      obtain ⟨e, he, rfl⟩ := Option.map_eq_some_iff.mp hd
      have em := List.mem_of_getElem? he
      obtain ⟨r, er, hf⟩ := pre_find _ ([], n) e (Nat.le_refl _) em
      have er' : e.1 = r := er
      subst er'
      have hf : find n e.1 = some e.2 := hf
      have dx15 := dx.ext e15
      have M15 := M14.ext e15
      have po := (np e em).1
      have pl := po.len
      refine ⟨_, rfl, _, rfl, _, _, g, n, e.2, e.1, rfl, M15.d, dx15, hf, by omega, fun v9 H16 s16 dv9 => ?_⟩
      obtain ⟨p9, xs9, rfl, hp9, hx9⟩ := dv9.inv
      have e16 := e15.trans (Same.ext s16)
      refine ⟨_, rfl, _, _, _, _, rfl, rfl, (tp_ext e16 ham14).sq, atI_nat (j := 0) rfl, _, _, rfl, ⟨by omega, by omega, by omega, by omega⟩, fun Dd hDd => lc_range (lo := 1) (n := (g - 1).toNat) (fun i H' => ∃ o, Same H16 H' ∧ H' Dd = some (.lst o) ∧ DTs K H' o (((e.2.ps.take i).map (widen q)).map prD)) ⟨[], same_new hDd, upd_same, .nil⟩ ?_ ?_⟩
      · rintro i H' hi ⟨o, sm, hO, dO⟩
        refine ⟨rfl, ?_⟩
        dsimp only [tYes]
        rw [if_pos rfl]
        obtain ⟨p, hpp⟩ : ∃ p, e.2.ps[i]? = some p := ⟨_, List.getElem?_eq_getElem (by omega)⟩
        have okp := po.b p (List.mem_of_getElem? hpp)
        obtain ⟨z, hz, dz⟩ := hx9.at_ (i := i + 1) (d := prD p) (by rw [List.getElem?_cons_succ, List.getElem?_map, hpp]; rfl)
        obtain ⟨c, x1, x2, rfl, hc, d1, d2⟩ := dz.inv2
        obtain ⟨c2, rfl, hc2⟩ := d2.fr_inv
        have ez : ((1 : Int) + (i : Int)) = ((i + 1 : Nat) : Int) := by omega
        have hz' : atI xs9 (1 + (i : Int)) = some (.ref c) := by rw [ez]; exact atI_nat hz
        refine ⟨_, rfl, _, rfl, _, _, _, _, rfl, rfl, (tp_same sm hp9).sq, hz', _, _, _, _, rfl, rfl, (tp_same sm hc).sq, atI_nat (j := 0) rfl, _, rfl, _, _, p.1, q, 201, rfl, d1.same sm, (df14.ext e16).same sm, okp.1, oq, by decide, fun v1 H2 s2 dv1 => ?_⟩
        have sB := sm.trans s2
        have hf2 := tp_same sB (tp_ext e16 haf)
        have ne : p.2.2 * q.1 ≠ 0 := Int.mul_ne_zero (by have := okp.2.pos; omega) q0
        refine ⟨_, rfl, _, rfl, _, _, _, _, rfl, rfl, (tp_same sB hp9).sq, hz', _, _, _, _, rfl, rfl, (tp_same sB hc).sq, atI_nat (j := 1) rfl, _, _, _, _, rfl, rfl, (tp_same sB hc2).sq, atI_nat (j := 0) rfl, _, rfl, _, _, _, _, rfl, rfl, hf2.sq, atI_nat (j := 1) rfl, _, _, rfl, rfl, mulX okp.2.b1 oq.b2, ?_⟩
        refine ⟨_, rfl, _, rfl, _, _, _, _, rfl, rfl, (tp_same sB hp9).sq, hz', _, _, _, _, rfl, rfl, (tp_same sB hc).sq, atI_nat (j := 1) rfl, _, _, _, _, rfl, rfl, (tp_same sB hc2).sq, atI_nat (j := 1) rfl, _, rfl, _, _, _, _, rfl, rfl, hf2.sq, atI_nat (j := 0) rfl, _, _, rfl, rfl, mulX okp.2.b2 oq.b1, ?_⟩
        refine ⟨_, _, rfl, ne, (okp.2.b2.mul oq.b1).mono (by decide), fun v2 H3 s3 dv2 => ⟨two_le, fun r hr3 => ?_⟩⟩
        have s4 := same_new (o := .tup [v1, v2]) hr3
        have s24 := (s2.trans s3).trans s4
        have hO4 := s24 _ _ hO
        have iD : IsL (upd H3 r (.tup [v1, v2])) Dd := ⟨_, hO4⟩
        refine ⟨o, hO4, ?_, _, same_mut (sm.trans s24) hDd, upd_same, ?_⟩
        · rw [dO.len, List.length_map, List.length_map]
          exact Nat.lt_of_le_of_lt (List.length_take_le' _ _) (small1000 (by omega))
        · rw [take_next hpp, List.map_append, List.map_append]
          have dr : DT K (upd H3 r (.tup [v1, v2])) (.ref r) (prD (widen q p)) := .mk2 (Tp.of upd_same) ((dv1.same s3).same s4) (dv2.same s4)
          exact ((dO.same s24).xt iD Xt.upd).snoc (dr.xt iD Xt.upd)
      rintro H17 ⟨o17, s17, hO17, dO17⟩
      rw [List.take_of_length_le (by omega)] at dO17
      have e17 := e16.trans (Same.ext s17)
      have dx17 := (dx15.same s16).same s17
      have po2 : Sh 3 (pricesD (e.2.ps.map (widen q))) := sh_prices _
      refine ⟨_, rfl, _, rfl, vw, x, g, _, e.1, rfl, dw14.ext e17, dx17, fun z => (by rw [find_map, hf] at z; cases z), fun m' em' vm dvm => ?_⟩
      rw [find_map, hf] at em'
      cases em'
      obtain ⟨c, vp, vk, rfl, hc, dp, dkk⟩ := dvm.node_inv
      rw [mapN_ps] at dp
      refine ⟨_, _, _, _, rfl, rfl, hc.sq, atI_nat (j := 0) rfl, _, rfl, Dd, _, rfl, SqL.of hO17, fun pt hpt => ?_⟩
      have u17 := same_new (o := .tup o17) hpt
      refine ⟨_, _, (dp.same u17).dp, (DT.tup (Tp.of upd_same) (dO17.same u17)).dp, po2.shaped, po2.shaped, _, rfl, if_false_of' po2.ne ?_⟩
      have e18 := e17.trans (Same.ext u17)
      have s1618 := s17.trans u17
      refine ⟨_, rfl, _, rfl, vt, x, g, _, _, e.1, rfl, dt14.ext e18, dx15.same (s16.trans s1618), (by rw [find_map, hf]; rfl), ?_, fun v10 H19 s19 dv10 => ?_⟩
      · rw [mapN_ps]
        unfold turn
        rw [List.length_map, List.length_drop]
        omega
      rw [mapN_ps] at dv10
      have e19 := e18.trans (Same.ext s19)
      have s1619 := s1618.trans s19
      have hao19 := tp_ext e19 hao
      have lks : (ks.map V.int).length = ks.length := List.length_map _
      refine ⟨_, rfl, ao, rfl, ⟨_, hao19.sq⟩, fun Dk hDk => lc_tup (K := K) (a := ao) (xs := ks.map V.int) (fun i H' => ∃ o, Same H19 H' ∧ H' Dk = some (.lst o) ∧ DTs K H' o ((ks.take i).map fun k => prD ((((1, 1), (1, 1)) :: e.2.ps : List Pr)[k.toNat]?.getD ((0, 1), (0, 1))))) ⟨[], same_new hDk, upd_same, .nil⟩ (fun i H' _ ⟨_, sm, _⟩ => (tp_same sm hao19).sq) ?_ ?_⟩
      · rintro i x H' hi ⟨o, sm, hO, dO⟩
        rw [List.getElem?_map] at hi
        obtain ⟨k, hk, rfl⟩ := Option.map_eq_some_iff.mp hi
        obtain ⟨k0, k1⟩ := mem_rg.mp (ord.1.mem_iff.mp (List.mem_of_getElem? hk))
        have ek : k = (k.toNat : Int) := by omega
        have hg : (((1, 1), (1, 1)) :: e.2.ps : List Pr)[k.toNat]? = some ((((1, 1), (1, 1)) :: e.2.ps : List Pr)[k.toNat]'(by simp; omega)) := List.getElem?_eq_getElem (by simp; omega)
        obtain ⟨z, hz, dz⟩ := hx9.at_ (i := k.toNat) (d := prD ((((1, 1), (1, 1)) :: e.2.ps : List Pr)[k.toNat]'(by simp; omega))) (by rw [← List.map_cons (f := prD), List.getElem?_map, hg]; rfl)
        have hz' : atI xs9 k = some z := by rw [ek]; exact atI_nat hz
        have sC := s1619.trans sm
        refine ⟨rfl, ?_⟩
        dsimp only [tYes]
        rw [if_pos rfl]
        refine ⟨_, rfl, _, rfl, _, _, _, _, rfl, rfl, (tp_same sC hp9).sq, hz', o, hO, ?_, _, same_mut sm hDk, upd_same, ?_⟩
        · rw [dO.len, List.length_map]
          exact Nat.lt_of_le_of_lt (List.length_take_le' _ _) (small1000 (by omega))
        · rw [take_next hk, List.map_append]
          have iD : IsL H' Dk := ⟨_, hO⟩
          refine (dO.xt iD Xt.upd).snoc ?_
          show DT K _ z (prD ((((1, 1), (1, 1)) :: e.2.ps : List Pr)[k.toNat]?.getD ((0, 1), (0, 1))))
          rw [hg]
          exact (dz.same sC).xt iD Xt.upd
      rintro H20 ⟨o20, s20, hO20, dO20⟩
      rw [lks, List.take_length, order_prices _ ord] at dO20
      refine ⟨_, _, rfl, SqL.of hO20, fun pt2 hpt2 => ?_⟩
      have u20 := same_new (o := .tup o20) hpt2
      have po3 : Sh 3 (.tuple (prD ((1, 1), (1, 1)) :: (turn ks e.2.ps).map prD)) := sh_prices (((1, 1), (1, 1)) :: turn ks e.2.ps)
      refine ⟨_, _, ((dv10.same s20).same u20).dp, (DT.tup (Tp.of upd_same) (dO20.same u20)).dp, po3.shaped, po3.shaped, _, rfl, if_false_of' po3.ne ?_⟩
      have s1921 := s20.trans u20
      have e21 := e19.trans (Same.ext s1921)
      have s1621 := s1619.trans s1921
      have s1521 := s16.trans s1621
      -- the market at this moment
      refine ⟨_, rfl, _, rfl, ?_⟩
      dsimp only [tCons, tC, tNil, tCall]
      refine tl2 T (M14.ext e21) G ng m2 (TabsN.same tabs15 s1521) (dx15.same s1521) hf fun va H22 s22 dva => ?_
      have e22 := e21.trans (Same.ext s22)
      refine ⟨_, rfl, _, _, _, _, rfl, rfl, (tp_ext e22 ham14).sq, atI_nat (j := 0) rfl, _, rfl, _, rfl, .ref am, x, g, n, e.1, rfl, (M14.ext e22).d, dx15.same (s1521.trans s22), fun z => (by rw [hf] at z; cases z), fun m' em' vm2 dvm2 => ⟨two_le, fun pt3 hpt3 => ?_⟩⟩
      rw [hf] at em'
      cases em'
      have u22 := same_new (o := .tup [.int g, vm2]) hpt3
      obtain ⟨m', hm', ngm⟩ := ng_find e.1 m n e.2 ng hf
      have shm := sh_market g ngm (by omega)
      refine ⟨_, _, (dva.same u22).dp, (DT.mk2 (Tp.of upd_same) (.int g) (dvm2.same u22) : DT K _ _ (marketD g e.2)).dp, shm.shaped, shm.shaped, _, rfl, if_false_of' shm.ne ?_⟩
      exact ⟨_, _, _, rfl, e22.trans (Same.ext u22) |> fun z => z, TabsN.same tabs15 ((s1521.trans s22).trans u22)⟩
    rintro σ H15 ⟨y7, y9, y10, rfl, e15, tabs15⟩
    have M15 := M14.ext e15
    have D15 := D14.ext e15
    obtain ⟨aw, vwn, rfl, haw, dwn⟩ := id (dw14.ext e15).market_inv
    obtain ⟨at', vtn, rfl, hat, dtn⟩ := id (dt14.ext e15).market_inv
    have ham15 := tp_ext e15 ham14
    refine ⟨_, rfl, _, _, _, _, rfl, rfl, haw.sq, atI_nat (j := 0) rfl, _, rfl, _, _, _, _, rfl, rfl, ham15.sq, atI_nat (j := 0) rfl, rfl, _, rfl, iteNS rfl ?_⟩
    refine ⟨_, rfl, _, _, _, _, rfl, rfl, hat.sq, atI_nat (j := 0) rfl, _, rfl, _, _, _, _, rfl, rfl, ham15.sq, atI_nat (j := 0) rfl, rfl, _, rfl, iteNS rfl ?_⟩
    -- factors 1 and 8/9
    refine ⟨_, rfl, two_le, fun p1 h1 => ?_⟩
    have u1 := same_new (o := .tup [.int 1, .int 1]) h1
    dsimp only [tCons, tC, tNil, tCall]
    refine tl0 T (M15.same u1) G ng m2 (TabsN.same tabs15 u1) (DT.fr (q := (1, 1)) (Tp.of upd_same)) (Ok.mono (k := 2) ⟨⟨by decide, by decide⟩, by unfold Bd; decide, by unfold Bd; decide⟩ (by decide)) (by decide) (by decide) fun v16 H16 e16 tabs16 d16 => ?_
    have M16 := (M15.same u1).ext e16
    rw [mapN_id (good := PsOk g) (fun ps hps => (List.map_congr_left fun p hp => widen_one (hps.b p hp)).trans (List.map_id _)) m n ng] at d16
    have shn := sh_market g ng m2
    refine ⟨_, rfl, _, _, d16.dp, M16.d.dp, shn.shaped, shn.shaped, _, rfl, if_false_of' shn.ne ?_⟩
    refine ⟨_, rfl, two_le, fun p2 h2 => ?_⟩
    have u2 := same_new (o := .tup [.int 8, .int 9]) h2
    dsimp only [tCons, tC, tNil, tCall]
    refine tl0x T (M16.same u2) G ng m2 (TabsN.same tabs16 u2) (DT.fr (q := (8, 9)) (Tp.of upd_same)) (Ok.mono (k := 5) ⟨⟨by decide, by decide⟩, by unfold Bd; decide, by unfold Bd; decide⟩ (by decide)) (by decide) (by decide) fun H17 s17 => ⟨rfl, _, rfl, iteNS rfl ?_⟩
    have e17 := (((Same.ext u1).trans e16).trans (Same.ext u2)).trans (Same.ext s17)
    have M17 := M15.ext e17
    have D17 := D15.ext e17
    have tabs17 := TabsN.same (TabsN.same tabs16 u2) s17
    have dk17 := (dk14.ext e15).ext e17
    have hao17 := tp_ext e17 (tp_ext e15 hao)
    -- orders that are none
    show tSeq _ _ _ _ _
    refine ⟨(by decide : 1 ≤ sizeLine), fun b1 k1 => ⟨_, rfl, _, rfl, ao, _, rfl, tp_same (same_new k1) hao17, fun b2 H18 s18 hb2 => ?_⟩⟩
    have w1 := same_new (o := .tup [.int 1]) k1
    have hb2 : Tp H18 b2 ((ks.drop 1).map V.int) := by
      have hb2 := (cut_drop (ks.map V.int) 1) ▸ hb2
      rw [List.map_drop]
      exact hb2
    refine ⟨b1, b2, _, _, rfl, rfl, tp_same s18 (Tp.of upd_same), hb2, len1000 (by simp; omega), fun b3 H19 s19 hb3 => ?_⟩
    have s1719 := (w1.trans s18).trans s19
    have d3 : DT K H19 (.ref b3) (pathD (1 :: ks.drop 1)) := DT.path hb3
    refine ⟨_, rfl, (by decide : 1 ≤ sizeLine), fun b4 k4 => ⟨ao, b4, _, [.int 0], rfl, rfl, tp_same (s1719.trans (same_new k4)) hao17, Tp.of upd_same, len1000 (by simp; omega), fun b5 H20 s20 hb5 => ?_⟩⟩
    have s1920 := (same_new (o := .tup [.int 0]) k4).trans s20
    have hb5 : Tp H20 b5 ((ks ++ [0]).map V.int) := by
      rw [List.map_append]
      exact hb5
    have d5 : DT K H20 (.ref b5) (pathD (ks ++ [0])) := DT.path hb5
    have s1720 := s1719.trans s1920
    refine ⟨_, rfl, _, rfl, _, rfl, ao, _, rfl, tp_same s1720 hao17, fun b6 H21 s21 hb6 => ⟨(by decide : 3 ≤ sizeLine), fun b7 k7 => ?_⟩⟩
    rw [cut_last] at hb6
    have d6 : DT K H21 (.ref b6) (pathD (ks.take (ks.length - 1))) := DT.path hb6
    have w7 := same_new (o := .tup [.ref b3, .ref b5, .ref b6]) k7
    have s1722 := (s1720.trans s21).trans w7
    have D22 := D17.same s1722
    refine ⟨_, rfl, pd, ps, 3, rfl, D22, by decide, Bd.mono (k := 10) (by unfold Bd; decide) (by decide), fun r H23 x23 D23 r0 r1 => ?_⟩
    have i22 := D22.isL'
    have hb7 := tp_xt i22 x23 (Tp.of (upd_same (H := H21) (a := b7) (o := .tup [.ref b3, .ref b5, .ref b6])))
    have bad : ∃ vb kb, atI [.ref b3, .ref b5, .ref b6] r = some vb ∧ DT K H23 vb (pathD kb) ∧ kb.length ≤ 10 ∧ ¬ IsOrd g kb := by
      have hr : r = 0 ∨ r = 1 ∨ r = 2 := by omega
      have hlk : 0 < ks.length := by omega
      rcases hr with rfl | rfl | rfl
      · exact ⟨_, _, atI_nat (j := 0) rfl, (d3.same ((s1920.trans s21).trans w7)).xt i22 x23, by simp; omega, bad1⟩
      · exact ⟨_, _, atI_nat (j := 1) rfl, (d5.same (s21.trans w7)).xt i22 x23, by simp; omega, bad2 ord (by simp)⟩
      · exact ⟨_, _, atI_nat (j := 2) rfl, (d6.same w7).xt i22 x23, by simp; omega, bad2 ord (by simp; omega)⟩
    obtain ⟨vb, kb, hvb, dvb, lkb, nkb⟩ := bad
    refine ⟨_, _, _, _, rfl, rfl, hb7.sq, hvb, ?_⟩
    have M23 : Mk K H23 (.ref am) g n := (M17.same s1722).xt i22 x23
    have tabs23 := TabsN.xt (TabsN.same tabs17 s1722) i22 x23
    refine ⟨_, rfl, _, rfl, ?_⟩
    dsimp only [tCons, tC, tNil, tCall]
    refine tl1x T M23 G ng m2 tabs23 dvb lkb nkb fun H24 s24 => ?_
    refine ⟨rfl, _, rfl, if_true_of' (dec_eq rfl) ?_⟩
    have M24 := M23.same s24
    have tabs24 := TabsN.same tabs23 s24
    -- a moment that is none
    refine ⟨_, rfl, (by decide : 1 ≤ sizeLine), fun c1 l1 => ?_⟩
    have v1 := same_new (o := .tup [.int 7]) l1
    dsimp only [tCons, tC, tNil, tCall]
    have hk3 : n.ks.length ≤ 3 := (np ([], n) (by rw [preE_eq]; simp)).2.1
    refine tl2x T (M24.same v1) G ng m2 (TabsN.same tabs24 v1) (DT.path (p := [7]) (Tp.of upd_same)) (find_out (by omega)) fun H25 s25 => ⟨rfl, _, rfl, if_true_of' (dec_eq rfl) ?_⟩
    have M25 := (M24.same v1).same s25
    have tabs25 := TabsN.same (TabsN.same tabs24 v1) s25
    obtain ⟨am2, vn25, eam, ham25, dn25⟩ := id M25.d.market_inv
    cases eam
    -- goods as they are
    refine ⟨_, rfl, _, rfl, _, _, _, _, rfl, rfl, ham25.sq, atI_nat (j := 0) rfl, _, rfl, RgOk.of_le (by omega) (by omega) (by omega) (by omega), fun c2 l2 => ?_⟩
    have v2 := same_new (o := .tup (rgV 0 g)) l2
    have dr : DT K (upd H25 c2 (.tup (rgV 0 g))) (.ref c2) (pathD (rg g)) := DT.path (Tp.of (by rw [upd_same, rg_v]))
    dsimp only [tCons, tC, tNil, tCall]
    refine tl1 T (M25.same v2) G ng m2 (TabsN.same tabs25 v2) dr (by have := ord_len (ord_rg g1); omega) (ord_rg g1) fun v26 H26 e26 tabs26 d26 => ?_
    rw [mapN_id (good := PsOk g) (fun ps hps => turn_rg g1 hps.len) m n ng] at d26
    refine ⟨_, rfl, _, _, d26.dp, ((M25.same v2).ext e26).d.dp, shn.shaped, shn.shaped, ?_⟩
    rw [shn.eq]
    exact fin _
end
end Nl

namespace Nl
open PySem PySem.Spec PyProof.Rows L2
theorem all_mk {l : PySem.W.OpenLaw} {w : World} {K : PySem.W.Frag} {h : Heap} {mg : Str → Option Value} {fa : Addr} (X : K.In h) (G : h.Ns mainGlobals mg) (hfa : mg "law" = some (.ref fa))
    (tabs : ∀ y ∈ (["widened", "turned"] : List Str), ∀ c P, PySem.W.tabIn K y = some (c, P) → PySem.W.CodeHd h c P ∧ h.get? P = some { cls := .none, data := .fields #[] })
    {f_fraction : Addr} {od_fraction an_fraction : Option Addr} {sl_fraction : Array (Option Value)} {oc_fraction kV_fraction dc_fraction pm_fraction cd_fraction ct_fraction : Value}
    {f_times : Addr} {od_times an_times : Option Addr} {sl_times : Array (Option Value)} {oc_times kV_times dc_times pm_times cd_times ct_times : Value}
    {f_over : Addr} {od_over an_over : Option Addr} {sl_over : Array (Option Value)} {oc_over kV_over dc_over pm_over cd_over ct_over : Value}
    {f_compare : Addr} {od_compare an_compare : Option Addr} {sl_compare : Array (Option Value)} {oc_compare kV_compare dc_compare pm_compare cd_compare ct_compare : Value}
    {f_check_market : Addr} {od_check_market an_check_market : Option Addr} {sl_check_market : Array (Option Value)} {oc_check_market kV_check_market dc_check_market pm_check_market cd_check_market ct_check_market : Value}
    {f__check_prices : Addr} {od__check_prices an__check_prices : Option Addr} {sl__check_prices : Array (Option Value)} {oc__check_prices kV__check_prices dc__check_prices pm__check_prices cd__check_prices ct__check_prices : Value}
    {f_walk : Addr} {od_walk an_walk : Option Addr} {sl_walk : Array (Option Value)} {oc_walk kV_walk dc_walk pm_walk cd_walk ct_walk : Value}
    {f_node_at : Addr} {od_node_at an_node_at : Option Addr} {sl_node_at : Array (Option Value)} {oc_node_at kV_node_at dc_node_at pm_node_at cd_node_at ct_node_at : Value}
    {f_widened cc_widened ct_widened : Addr} {od_widened an_widened : Option Addr} {sl_widened : Array (Option Value)} {oc_widened kV_widened dc_widened pm_widened cv_widened : Value}
    {f_turned cc_turned ct_turned : Addr} {od_turned an_turned : Option Addr} {sl_turned : Array (Option Value)} {oc_turned kV_turned dc_turned pm_turned cv_turned : Value}
    {f_market_at : Addr} {od_market_at an_market_at : Option Addr} {sl_market_at : Array (Option Value)} {oc_market_at kV_market_at dc_market_at pm_market_at cd_market_at ct_market_at : Value}
    {f__repriced : Addr} {od__repriced an__repriced : Option Addr} {sl__repriced : Array (Option Value)} {oc__repriced kV__repriced dc__repriced pm__repriced cd__repriced ct__repriced : Value}
    {f__law_begin : Addr} {od__law_begin an__law_begin : Option Addr} {sl__law_begin : Array (Option Value)} {oc__law_begin kV__law_begin dc__law_begin pm__law_begin cd__law_begin ct__law_begin : Value}
    {f__law_take : Addr} {od__law_take an__law_take : Option Addr} {sl__law_take : Array (Option Value)} {oc__law_take kV__law_take dc__law_take pm__law_take cd__law_take ct__law_take : Value}
    {f__law_gcd : Addr} {od__law_gcd an__law_gcd : Option Addr} {sl__law_gcd : Array (Option Value)} {oc__law_gcd kV__law_gcd dc__law_gcd pm__law_gcd cd__law_gcd ct__law_gcd : Value}
    {f__law_f : Addr} {od__law_f an__law_f : Option Addr} {sl__law_f : Array (Option Value)} {oc__law_f kV__law_f dc__law_f pm__law_f cd__law_f ct__law_f : Value}
    {f__law_plus : Addr} {od__law_plus an__law_plus : Option Addr} {sl__law_plus : Array (Option Value)} {oc__law_plus kV__law_plus dc__law_plus pm__law_plus cd__law_plus ct__law_plus : Value}
    {f__law_minus : Addr} {od__law_minus an__law_minus : Option Addr} {sl__law_minus : Array (Option Value)} {oc__law_minus kV__law_minus dc__law_minus pm__law_minus cd__law_minus ct__law_minus : Value}
    {f__law_times : Addr} {od__law_times an__law_times : Option Addr} {sl__law_times : Array (Option Value)} {oc__law_times kV__law_times dc__law_times pm__law_times cd__law_times ct__law_times : Value}
    {f__law_spread : Addr} {od__law_spread an__law_spread : Option Addr} {sl__law_spread : Array (Option Value)} {oc__law_spread kV__law_spread dc__law_spread pm__law_spread cd__law_spread ct__law_spread : Value}
    {f__law_node : Addr} {od__law_node an__law_node : Option Addr} {sl__law_node : Array (Option Value)} {oc__law_node kV__law_node dc__law_node pm__law_node cd__law_node ct__law_node : Value}
    {f__law_market : Addr} {od__law_market an__law_market : Option Addr} {sl__law_market : Array (Option Value)} {oc__law_market kV__law_market dc__law_market pm__law_market cd__law_market ct__law_market : Value}
    {f__law_nodes : Addr} {od__law_nodes an__law_nodes : Option Addr} {sl__law_nodes : Array (Option Value)} {oc__law_nodes kV__law_nodes dc__law_nodes pm__law_nodes cd__law_nodes ct__law_nodes : Value}
    {f__law_find : Addr} {od__law_find an__law_find : Option Addr} {sl__law_find : Array (Option Value)} {oc__law_find kV__law_find dc__law_find pm__law_find cd__law_find ct__law_find : Value}
    {f__law_prices : Addr} {od__law_prices an__law_prices : Option Addr} {sl__law_prices : Array (Option Value)} {oc__law_prices kV__law_prices dc__law_prices pm__law_prices cd__law_prices ct__law_prices : Value}
    {f__law_told : Addr} {od__law_told an__law_told : Option Addr} {sl__law_told : Array (Option Value)} {oc__law_told kV__law_told dc__law_told pm__law_told cd__law_told ct__law_told : Value}
    {f__law_order : Addr} {od__law_order an__law_order : Option Addr} {sl__law_order : Array (Option Value)} {oc__law_order kV__law_order dc__law_order pm__law_order cd__law_order ct__law_order : Value}
    {f_law : Addr} {od_law an_law : Option Addr} {sl_law : Array (Option Value)} {oc_law kV_law dc_law pm_law cd_law ct_law : Value}
    {tk_GOODS_LIMIT : Tok}
    {tk_MOMENT_LIMIT : Tok}
    {tk_TIME_LIMIT : Tok}
    {C_MarketplaceError : Addr}
    {C_ZeroDenominator : Addr}
    {C_MarketError : Addr}
    {C_TooLarge : Addr}
    {C_MomentError : Addr}
    (a_fraction : PySem.W.nsIn K mainGlobals "fraction" = some (some (.ref f_fraction))) (l_fraction : K.lookup f_fraction = some ⟨oc_fraction, od_fraction, .func (PySem.W.fnOf "fraction" "fraction" (defArgs s_fraction) (defBody s_fraction) (defScope s_fraction) .none kV_fraction dc_fraction pm_fraction an_fraction cd_fraction ct_fraction), sl_fraction⟩) (c_fraction : PySem.W.codeIn K cd_fraction "fraction" = true) (k_fraction : PySem.W.keepIn K (.ref f_fraction) = true)
    (a_times : PySem.W.nsIn K mainGlobals "times" = some (some (.ref f_times))) (l_times : K.lookup f_times = some ⟨oc_times, od_times, .func (PySem.W.fnOf "times" "times" (defArgs s_times) (defBody s_times) (defScope s_times) .none kV_times dc_times pm_times an_times cd_times ct_times), sl_times⟩) (c_times : PySem.W.codeIn K cd_times "times" = true) (k_times : PySem.W.keepIn K (.ref f_times) = true)
    (a_over : PySem.W.nsIn K mainGlobals "over" = some (some (.ref f_over))) (l_over : K.lookup f_over = some ⟨oc_over, od_over, .func (PySem.W.fnOf "over" "over" (defArgs s_over) (defBody s_over) (defScope s_over) .none kV_over dc_over pm_over an_over cd_over ct_over), sl_over⟩) (c_over : PySem.W.codeIn K cd_over "over" = true) (k_over : PySem.W.keepIn K (.ref f_over) = true)
    (a_compare : PySem.W.nsIn K mainGlobals "compare" = some (some (.ref f_compare))) (l_compare : K.lookup f_compare = some ⟨oc_compare, od_compare, .func (PySem.W.fnOf "compare" "compare" (defArgs s_compare) (defBody s_compare) (defScope s_compare) .none kV_compare dc_compare pm_compare an_compare cd_compare ct_compare), sl_compare⟩) (c_compare : PySem.W.codeIn K cd_compare "compare" = true) (k_compare : PySem.W.keepIn K (.ref f_compare) = true)
    (a_check_market : PySem.W.nsIn K mainGlobals "check_market" = some (some (.ref f_check_market))) (l_check_market : K.lookup f_check_market = some ⟨oc_check_market, od_check_market, .func (PySem.W.fnOf "check_market" "check_market" (defArgs s_check_market) (defBody s_check_market) (defScope s_check_market) .none kV_check_market dc_check_market pm_check_market an_check_market cd_check_market ct_check_market), sl_check_market⟩) (c_check_market : PySem.W.codeIn K cd_check_market "check_market" = true) (k_check_market : PySem.W.keepIn K (.ref f_check_market) = true)
    (a__check_prices : PySem.W.nsIn K mainGlobals "_check_prices" = some (some (.ref f__check_prices))) (l__check_prices : K.lookup f__check_prices = some ⟨oc__check_prices, od__check_prices, .func (PySem.W.fnOf "_check_prices" "_check_prices" (defArgs s__check_prices) (defBody s__check_prices) (defScope s__check_prices) .none kV__check_prices dc__check_prices pm__check_prices an__check_prices cd__check_prices ct__check_prices), sl__check_prices⟩) (c__check_prices : PySem.W.codeIn K cd__check_prices "_check_prices" = true) (k__check_prices : PySem.W.keepIn K (.ref f__check_prices) = true)
    (a_walk : PySem.W.nsIn K mainGlobals "walk" = some (some (.ref f_walk))) (l_walk : K.lookup f_walk = some ⟨oc_walk, od_walk, .func (PySem.W.fnOf "walk" "walk" (defArgs s_walk) (defBody s_walk) (defScope s_walk) .none kV_walk dc_walk pm_walk an_walk cd_walk ct_walk), sl_walk⟩) (c_walk : PySem.W.codeIn K cd_walk "walk" = true) (k_walk : PySem.W.keepIn K (.ref f_walk) = true)
    (a_node_at : PySem.W.nsIn K mainGlobals "node_at" = some (some (.ref f_node_at))) (l_node_at : K.lookup f_node_at = some ⟨oc_node_at, od_node_at, .func (PySem.W.fnOf "node_at" "node_at" (defArgs s_node_at) (defBody s_node_at) (defScope s_node_at) .none kV_node_at dc_node_at pm_node_at an_node_at cd_node_at ct_node_at), sl_node_at⟩) (c_node_at : PySem.W.codeIn K cd_node_at "node_at" = true) (k_node_at : PySem.W.keepIn K (.ref f_node_at) = true)
    (a_widened : PySem.W.nsIn K mainGlobals "widened" = some (some (.ref f_widened))) (l_widened : K.lookup f_widened = some ⟨oc_widened, od_widened, .func (PySem.W.fnOf "widened" "widened" (defArgs s_widened) (defBody s_widened) (defScope s_widened) .none kV_widened dc_widened pm_widened an_widened (.ref cc_widened) cv_widened), sl_widened⟩) (c_widened : PySem.W.codeIn K (.ref cc_widened) "widened" = true) (k_widened : PySem.W.keepIn K (.ref f_widened) = true) (tb_widened : PySem.W.tabIn K "widened" = some (cc_widened, ct_widened))
    (a_turned : PySem.W.nsIn K mainGlobals "turned" = some (some (.ref f_turned))) (l_turned : K.lookup f_turned = some ⟨oc_turned, od_turned, .func (PySem.W.fnOf "turned" "turned" (defArgs s_turned) (defBody s_turned) (defScope s_turned) .none kV_turned dc_turned pm_turned an_turned (.ref cc_turned) cv_turned), sl_turned⟩) (c_turned : PySem.W.codeIn K (.ref cc_turned) "turned" = true) (k_turned : PySem.W.keepIn K (.ref f_turned) = true) (tb_turned : PySem.W.tabIn K "turned" = some (cc_turned, ct_turned))
    (a_market_at : PySem.W.nsIn K mainGlobals "market_at" = some (some (.ref f_market_at))) (l_market_at : K.lookup f_market_at = some ⟨oc_market_at, od_market_at, .func (PySem.W.fnOf "market_at" "market_at" (defArgs s_market_at) (defBody s_market_at) (defScope s_market_at) .none kV_market_at dc_market_at pm_market_at an_market_at cd_market_at ct_market_at), sl_market_at⟩) (c_market_at : PySem.W.codeIn K cd_market_at "market_at" = true) (k_market_at : PySem.W.keepIn K (.ref f_market_at) = true)
    (a__repriced : PySem.W.nsIn K mainGlobals "_repriced" = some (some (.ref f__repriced))) (l__repriced : K.lookup f__repriced = some ⟨oc__repriced, od__repriced, .func (PySem.W.fnOf "_repriced" "_repriced" (defArgs s__repriced) (defBody s__repriced) (defScope s__repriced) .none kV__repriced dc__repriced pm__repriced an__repriced cd__repriced ct__repriced), sl__repriced⟩) (c__repriced : PySem.W.codeIn K cd__repriced "_repriced" = true) (k__repriced : PySem.W.keepIn K (.ref f__repriced) = true)
    (a__law_begin : PySem.W.nsIn K mainGlobals "_law_begin" = some (some (.ref f__law_begin))) (l__law_begin : K.lookup f__law_begin = some ⟨oc__law_begin, od__law_begin, .func (PySem.W.fnOf "_law_begin" "_law_begin" (defArgs s__law_begin) (defBody s__law_begin) (defScope s__law_begin) .none kV__law_begin dc__law_begin pm__law_begin an__law_begin cd__law_begin ct__law_begin), sl__law_begin⟩) (c__law_begin : PySem.W.codeIn K cd__law_begin "_law_begin" = true) (k__law_begin : PySem.W.keepIn K (.ref f__law_begin) = true)
    (a__law_take : PySem.W.nsIn K mainGlobals "_law_take" = some (some (.ref f__law_take))) (l__law_take : K.lookup f__law_take = some ⟨oc__law_take, od__law_take, .func (PySem.W.fnOf "_law_take" "_law_take" (defArgs s__law_take) (defBody s__law_take) (defScope s__law_take) .none kV__law_take dc__law_take pm__law_take an__law_take cd__law_take ct__law_take), sl__law_take⟩) (c__law_take : PySem.W.codeIn K cd__law_take "_law_take" = true) (k__law_take : PySem.W.keepIn K (.ref f__law_take) = true)
    (a__law_gcd : PySem.W.nsIn K mainGlobals "_law_gcd" = some (some (.ref f__law_gcd))) (l__law_gcd : K.lookup f__law_gcd = some ⟨oc__law_gcd, od__law_gcd, .func (PySem.W.fnOf "_law_gcd" "_law_gcd" (defArgs s__law_gcd) (defBody s__law_gcd) (defScope s__law_gcd) .none kV__law_gcd dc__law_gcd pm__law_gcd an__law_gcd cd__law_gcd ct__law_gcd), sl__law_gcd⟩) (c__law_gcd : PySem.W.codeIn K cd__law_gcd "_law_gcd" = true) (k__law_gcd : PySem.W.keepIn K (.ref f__law_gcd) = true)
    (a__law_f : PySem.W.nsIn K mainGlobals "_law_f" = some (some (.ref f__law_f))) (l__law_f : K.lookup f__law_f = some ⟨oc__law_f, od__law_f, .func (PySem.W.fnOf "_law_f" "_law_f" (defArgs s__law_f) (defBody s__law_f) (defScope s__law_f) .none kV__law_f dc__law_f pm__law_f an__law_f cd__law_f ct__law_f), sl__law_f⟩) (c__law_f : PySem.W.codeIn K cd__law_f "_law_f" = true) (k__law_f : PySem.W.keepIn K (.ref f__law_f) = true)
    (a__law_plus : PySem.W.nsIn K mainGlobals "_law_plus" = some (some (.ref f__law_plus))) (l__law_plus : K.lookup f__law_plus = some ⟨oc__law_plus, od__law_plus, .func (PySem.W.fnOf "_law_plus" "_law_plus" (defArgs s__law_plus) (defBody s__law_plus) (defScope s__law_plus) .none kV__law_plus dc__law_plus pm__law_plus an__law_plus cd__law_plus ct__law_plus), sl__law_plus⟩) (c__law_plus : PySem.W.codeIn K cd__law_plus "_law_plus" = true) (k__law_plus : PySem.W.keepIn K (.ref f__law_plus) = true)
    (a__law_minus : PySem.W.nsIn K mainGlobals "_law_minus" = some (some (.ref f__law_minus))) (l__law_minus : K.lookup f__law_minus = some ⟨oc__law_minus, od__law_minus, .func (PySem.W.fnOf "_law_minus" "_law_minus" (defArgs s__law_minus) (defBody s__law_minus) (defScope s__law_minus) .none kV__law_minus dc__law_minus pm__law_minus an__law_minus cd__law_minus ct__law_minus), sl__law_minus⟩) (c__law_minus : PySem.W.codeIn K cd__law_minus "_law_minus" = true) (k__law_minus : PySem.W.keepIn K (.ref f__law_minus) = true)
    (a__law_times : PySem.W.nsIn K mainGlobals "_law_times" = some (some (.ref f__law_times))) (l__law_times : K.lookup f__law_times = some ⟨oc__law_times, od__law_times, .func (PySem.W.fnOf "_law_times" "_law_times" (defArgs s__law_times) (defBody s__law_times) (defScope s__law_times) .none kV__law_times dc__law_times pm__law_times an__law_times cd__law_times ct__law_times), sl__law_times⟩) (c__law_times : PySem.W.codeIn K cd__law_times "_law_times" = true) (k__law_times : PySem.W.keepIn K (.ref f__law_times) = true)
    (a__law_spread : PySem.W.nsIn K mainGlobals "_law_spread" = some (some (.ref f__law_spread))) (l__law_spread : K.lookup f__law_spread = some ⟨oc__law_spread, od__law_spread, .func (PySem.W.fnOf "_law_spread" "_law_spread" (defArgs s__law_spread) (defBody s__law_spread) (defScope s__law_spread) .none kV__law_spread dc__law_spread pm__law_spread an__law_spread cd__law_spread ct__law_spread), sl__law_spread⟩) (c__law_spread : PySem.W.codeIn K cd__law_spread "_law_spread" = true) (k__law_spread : PySem.W.keepIn K (.ref f__law_spread) = true)
    (a__law_node : PySem.W.nsIn K mainGlobals "_law_node" = some (some (.ref f__law_node))) (l__law_node : K.lookup f__law_node = some ⟨oc__law_node, od__law_node, .func (PySem.W.fnOf "_law_node" "_law_node" (defArgs s__law_node) (defBody s__law_node) (defScope s__law_node) .none kV__law_node dc__law_node pm__law_node an__law_node cd__law_node ct__law_node), sl__law_node⟩) (c__law_node : PySem.W.codeIn K cd__law_node "_law_node" = true) (k__law_node : PySem.W.keepIn K (.ref f__law_node) = true)
    (a__law_market : PySem.W.nsIn K mainGlobals "_law_market" = some (some (.ref f__law_market))) (l__law_market : K.lookup f__law_market = some ⟨oc__law_market, od__law_market, .func (PySem.W.fnOf "_law_market" "_law_market" (defArgs s__law_market) (defBody s__law_market) (defScope s__law_market) .none kV__law_market dc__law_market pm__law_market an__law_market cd__law_market ct__law_market), sl__law_market⟩) (c__law_market : PySem.W.codeIn K cd__law_market "_law_market" = true) (k__law_market : PySem.W.keepIn K (.ref f__law_market) = true)
    (a__law_nodes : PySem.W.nsIn K mainGlobals "_law_nodes" = some (some (.ref f__law_nodes))) (l__law_nodes : K.lookup f__law_nodes = some ⟨oc__law_nodes, od__law_nodes, .func (PySem.W.fnOf "_law_nodes" "_law_nodes" (defArgs s__law_nodes) (defBody s__law_nodes) (defScope s__law_nodes) .none kV__law_nodes dc__law_nodes pm__law_nodes an__law_nodes cd__law_nodes ct__law_nodes), sl__law_nodes⟩) (c__law_nodes : PySem.W.codeIn K cd__law_nodes "_law_nodes" = true) (k__law_nodes : PySem.W.keepIn K (.ref f__law_nodes) = true)
    (a__law_find : PySem.W.nsIn K mainGlobals "_law_find" = some (some (.ref f__law_find))) (l__law_find : K.lookup f__law_find = some ⟨oc__law_find, od__law_find, .func (PySem.W.fnOf "_law_find" "_law_find" (defArgs s__law_find) (defBody s__law_find) (defScope s__law_find) .none kV__law_find dc__law_find pm__law_find an__law_find cd__law_find ct__law_find), sl__law_find⟩) (c__law_find : PySem.W.codeIn K cd__law_find "_law_find" = true) (k__law_find : PySem.W.keepIn K (.ref f__law_find) = true)
    (a__law_prices : PySem.W.nsIn K mainGlobals "_law_prices" = some (some (.ref f__law_prices))) (l__law_prices : K.lookup f__law_prices = some ⟨oc__law_prices, od__law_prices, .func (PySem.W.fnOf "_law_prices" "_law_prices" (defArgs s__law_prices) (defBody s__law_prices) (defScope s__law_prices) .none kV__law_prices dc__law_prices pm__law_prices an__law_prices cd__law_prices ct__law_prices), sl__law_prices⟩) (c__law_prices : PySem.W.codeIn K cd__law_prices "_law_prices" = true) (k__law_prices : PySem.W.keepIn K (.ref f__law_prices) = true)
    (a__law_told : PySem.W.nsIn K mainGlobals "_law_told" = some (some (.ref f__law_told))) (l__law_told : K.lookup f__law_told = some ⟨oc__law_told, od__law_told, .func (PySem.W.fnOf "_law_told" "_law_told" (defArgs s__law_told) (defBody s__law_told) (defScope s__law_told) .none kV__law_told dc__law_told pm__law_told an__law_told cd__law_told ct__law_told), sl__law_told⟩) (c__law_told : PySem.W.codeIn K cd__law_told "_law_told" = true) (k__law_told : PySem.W.keepIn K (.ref f__law_told) = true)
    (a__law_order : PySem.W.nsIn K mainGlobals "_law_order" = some (some (.ref f__law_order))) (l__law_order : K.lookup f__law_order = some ⟨oc__law_order, od__law_order, .func (PySem.W.fnOf "_law_order" "_law_order" (defArgs s__law_order) (defBody s__law_order) (defScope s__law_order) .none kV__law_order dc__law_order pm__law_order an__law_order cd__law_order ct__law_order), sl__law_order⟩) (c__law_order : PySem.W.codeIn K cd__law_order "_law_order" = true) (k__law_order : PySem.W.keepIn K (.ref f__law_order) = true)
    (a_law : PySem.W.nsIn K mainGlobals "law" = some (some (.ref f_law))) (l_law : K.lookup f_law = some ⟨oc_law, od_law, .func (PySem.W.fnOf "law" "law" (defArgs s_law) (defBody s_law) (defScope s_law) .none kV_law dc_law pm_law an_law cd_law ct_law), sl_law⟩) (c_law : PySem.W.codeIn K cd_law "law" = true) (k_law : PySem.W.keepIn K (.ref f_law) = true)
    (z_abs : PySem.W.nsIn K mainGlobals "abs" = some none)
    (z_int : PySem.W.nsIn K mainGlobals "int" = some none)
    (z_isinstance : PySem.W.nsIn K mainGlobals "isinstance" = some none)
    (z_len : PySem.W.nsIn K mainGlobals "len" = some none)
    (z_list : PySem.W.nsIn K mainGlobals "list" = some none)
    (z_max : PySem.W.nsIn K mainGlobals "max" = some none)
    (z_min : PySem.W.nsIn K mainGlobals "min" = some none)
    (z_range : PySem.W.nsIn K mainGlobals "range" = some none)
    (z_reversed : PySem.W.nsIn K mainGlobals "reversed" = some none)
    (z_sorted : PySem.W.nsIn K mainGlobals "sorted" = some none)
    (z_sum : PySem.W.nsIn K mainGlobals "sum" = some none)
    (z_tuple : PySem.W.nsIn K mainGlobals "tuple" = some none)
    (i_gcd : PySem.W.nsIn K mainGlobals "gcd" = some (some (.builtin "math.gcd")))
    (j_GOODS_LIMIT : PySem.W.nsIn K mainGlobals "GOODS_LIMIT" = some (some (.int 4 tk_GOODS_LIMIT)))
    (j_MOMENT_LIMIT : PySem.W.nsIn K mainGlobals "MOMENT_LIMIT" = some (some (.int 40 tk_MOMENT_LIMIT)))
    (j_TIME_LIMIT : PySem.W.nsIn K mainGlobals "TIME_LIMIT" = some (some (.int 5 tk_TIME_LIMIT)))
    (ca_MarketplaceError : PySem.W.nsIn K mainGlobals "MarketplaceError" = some (some (.ref C_MarketplaceError)))
    (cx_MarketplaceError : PySem.W.excIn K C_MarketplaceError [.type "ValueError", .type "Exception", .type "BaseException", .type "object"] "ValueError.__new__" = true)
    (ck_MarketplaceError : PySem.W.keepIn K (.ref C_MarketplaceError) = true) (cb_MarketplaceError : PySem.W.subIn K (.ref C_MarketplaceError) (.type "BaseException") = some true) (ct0_MarketplaceError : PySem.W.typeIn K (.ref C_MarketplaceError) = some (.type "type")) (ch_MarketplaceError : PySem.W.hasDictIn K C_MarketplaceError = true)
    (e1_MarketplaceError : PySem.W.findIn K (.ref C_MarketplaceError) "__getattribute__" = some (some (.builtin "BaseException.__getattribute__"))) (e2_MarketplaceError : PySem.W.findIn K (.ref C_MarketplaceError) "__getattr__" = some none) (e3_MarketplaceError : PySem.W.findIn K (.ref C_MarketplaceError) "__class__" = some (some (.builtin "object.__class__"))) (e4_MarketplaceError : PySem.W.mroIn K C_MarketplaceError (.type "object") = some true)
    (ca_ZeroDenominator : PySem.W.nsIn K mainGlobals "ZeroDenominator" = some (some (.ref C_ZeroDenominator)))
    (cx_ZeroDenominator : PySem.W.excIn K C_ZeroDenominator [.type "ValueError", .type "Exception", .type "BaseException", .type "object"] "ValueError.__new__" = true)
    (ck_ZeroDenominator : PySem.W.keepIn K (.ref C_ZeroDenominator) = true) (cb_ZeroDenominator : PySem.W.subIn K (.ref C_ZeroDenominator) (.type "BaseException") = some true) (ct0_ZeroDenominator : PySem.W.typeIn K (.ref C_ZeroDenominator) = some (.type "type")) (ch_ZeroDenominator : PySem.W.hasDictIn K C_ZeroDenominator = true)
    (e1_ZeroDenominator : PySem.W.findIn K (.ref C_ZeroDenominator) "__getattribute__" = some (some (.builtin "BaseException.__getattribute__"))) (e2_ZeroDenominator : PySem.W.findIn K (.ref C_ZeroDenominator) "__getattr__" = some none) (e3_ZeroDenominator : PySem.W.findIn K (.ref C_ZeroDenominator) "__class__" = some (some (.builtin "object.__class__"))) (e4_ZeroDenominator : PySem.W.mroIn K C_ZeroDenominator (.type "object") = some true)
    (ca_MarketError : PySem.W.nsIn K mainGlobals "MarketError" = some (some (.ref C_MarketError)))
    (cx_MarketError : PySem.W.excIn K C_MarketError [.type "ValueError", .type "Exception", .type "BaseException", .type "object"] "ValueError.__new__" = true)
    (ck_MarketError : PySem.W.keepIn K (.ref C_MarketError) = true) (cb_MarketError : PySem.W.subIn K (.ref C_MarketError) (.type "BaseException") = some true) (ct0_MarketError : PySem.W.typeIn K (.ref C_MarketError) = some (.type "type")) (ch_MarketError : PySem.W.hasDictIn K C_MarketError = true)
    (e1_MarketError : PySem.W.findIn K (.ref C_MarketError) "__getattribute__" = some (some (.builtin "BaseException.__getattribute__"))) (e2_MarketError : PySem.W.findIn K (.ref C_MarketError) "__getattr__" = some none) (e3_MarketError : PySem.W.findIn K (.ref C_MarketError) "__class__" = some (some (.builtin "object.__class__"))) (e4_MarketError : PySem.W.mroIn K C_MarketError (.type "object") = some true)
    (ca_TooLarge : PySem.W.nsIn K mainGlobals "TooLarge" = some (some (.ref C_TooLarge)))
    (cx_TooLarge : PySem.W.excIn K C_TooLarge [.type "ValueError", .type "Exception", .type "BaseException", .type "object"] "ValueError.__new__" = true)
    (ck_TooLarge : PySem.W.keepIn K (.ref C_TooLarge) = true) (cb_TooLarge : PySem.W.subIn K (.ref C_TooLarge) (.type "BaseException") = some true) (ct0_TooLarge : PySem.W.typeIn K (.ref C_TooLarge) = some (.type "type")) (ch_TooLarge : PySem.W.hasDictIn K C_TooLarge = true)
    (e1_TooLarge : PySem.W.findIn K (.ref C_TooLarge) "__getattribute__" = some (some (.builtin "BaseException.__getattribute__"))) (e2_TooLarge : PySem.W.findIn K (.ref C_TooLarge) "__getattr__" = some none) (e3_TooLarge : PySem.W.findIn K (.ref C_TooLarge) "__class__" = some (some (.builtin "object.__class__"))) (e4_TooLarge : PySem.W.mroIn K C_TooLarge (.type "object") = some true)
    (ca_MomentError : PySem.W.nsIn K mainGlobals "MomentError" = some (some (.ref C_MomentError)))
    (cx_MomentError : PySem.W.excIn K C_MomentError [.type "ValueError", .type "Exception", .type "BaseException", .type "object"] "ValueError.__new__" = true)
    (ck_MomentError : PySem.W.keepIn K (.ref C_MomentError) = true) (cb_MomentError : PySem.W.subIn K (.ref C_MomentError) (.type "BaseException") = some true) (ct0_MomentError : PySem.W.typeIn K (.ref C_MomentError) = some (.type "type")) (ch_MomentError : PySem.W.hasDictIn K C_MomentError = true)
    (e1_MomentError : PySem.W.findIn K (.ref C_MomentError) "__getattribute__" = some (some (.builtin "BaseException.__getattribute__"))) (e2_MomentError : PySem.W.findIn K (.ref C_MomentError) "__getattr__" = some none) (e3_MomentError : PySem.W.findIn K (.ref C_MomentError) "__class__" = some (some (.builtin "object.__class__"))) (e4_MomentError : PySem.W.mroIn K C_MomentError (.type "object") = some true)
    (e5 : PySem.W.specialIn K (.builtin "object.__class__") "__get__" = some (some (.builtin "getset_descriptor.__get__"))) (e6 : PySem.W.takesIn K (.builtin "object.__class__") = some true)
    (s_MarketError_MarketplaceError : PySem.W.subIn K (.ref C_MarketError) (.ref C_MarketplaceError) = some true)
    (s_MarketError_MarketError : PySem.W.subIn K (.ref C_MarketError) (.ref C_MarketError) = some true)
    (s_MarketError_MomentError : PySem.W.subIn K (.ref C_MarketError) (.ref C_MomentError) = some false)
    (s_MomentError_MarketplaceError : PySem.W.subIn K (.ref C_MomentError) (.ref C_MarketplaceError) = some true)
    (s_MomentError_MarketError : PySem.W.subIn K (.ref C_MomentError) (.ref C_MarketError) = some false)
    (s_MomentError_MomentError : PySem.W.subIn K (.ref C_MomentError) (.ref C_MomentError) = some true)
    (tne_widened_turned : ct_widened ≠ ct_turned)
    (nt : PySem.W.noTabs K = true)
    : LamX.LawAtS l w K L2.CX0 10 63 "script" mg fa h := by
  have e := hfa.symm.trans (PySem.W.mg_of X G a_law)
  cases e
  have F_fraction := fun_mk (st := s_fraction) l_fraction c_fraction k_fraction
  have F_times := fun_mk (st := s_times) l_times c_times k_times
  have F_over := fun_mk (st := s_over) l_over c_over k_over
  have F_compare := fun_mk (st := s_compare) l_compare c_compare k_compare
  have F_check_market := fun_mk (st := s_check_market) l_check_market c_check_market k_check_market
  have F__check_prices := fun_mk (st := s__check_prices) l__check_prices c__check_prices k__check_prices
  have F_walk := fun_mk (st := s_walk) l_walk c_walk k_walk
  have F_node_at := fun_mk (st := s_node_at) l_node_at c_node_at k_node_at
  have F_widened := fun_mk (st := s_widened) l_widened c_widened k_widened
  have F_turned := fun_mk (st := s_turned) l_turned c_turned k_turned
  have F_market_at := fun_mk (st := s_market_at) l_market_at c_market_at k_market_at
  have F__repriced := fun_mk (st := s__repriced) l__repriced c__repriced k__repriced
  have F__law_begin := fun_mk (st := s__law_begin) l__law_begin c__law_begin k__law_begin
  have F__law_take := fun_mk (st := s__law_take) l__law_take c__law_take k__law_take
  have F__law_gcd := fun_mk (st := s__law_gcd) l__law_gcd c__law_gcd k__law_gcd
  have F__law_f := fun_mk (st := s__law_f) l__law_f c__law_f k__law_f
  have F__law_plus := fun_mk (st := s__law_plus) l__law_plus c__law_plus k__law_plus
  have F__law_minus := fun_mk (st := s__law_minus) l__law_minus c__law_minus k__law_minus
  have F__law_times := fun_mk (st := s__law_times) l__law_times c__law_times k__law_times
  have F__law_spread := fun_mk (st := s__law_spread) l__law_spread c__law_spread k__law_spread
  have F__law_node := fun_mk (st := s__law_node) l__law_node c__law_node k__law_node
  have F__law_market := fun_mk (st := s__law_market) l__law_market c__law_market k__law_market
  have F__law_nodes := fun_mk (st := s__law_nodes) l__law_nodes c__law_nodes k__law_nodes
  have F__law_find := fun_mk (st := s__law_find) l__law_find c__law_find k__law_find
  have F__law_prices := fun_mk (st := s__law_prices) l__law_prices c__law_prices k__law_prices
  have F__law_told := fun_mk (st := s__law_told) l__law_told c__law_told k__law_told
  have F__law_order := fun_mk (st := s__law_order) l__law_order c__law_order k__law_order
  have F_law := fun_mk (st := s_law) l_law c_law k_law
  obtain ⟨T, ec_widened, et_widened, ec_turned, et_turned⟩ : ∃ T : Top K mg, cc_widened = T.cc_widened ∧ ct_widened = T.ct_widened ∧ cc_turned = T.cc_turned ∧ ct_turned = T.ct_turned := ⟨{
    a_fraction := f_fraction, d_fraction := _, fraction_F := F_fraction, fraction_b := F_fraction.binds (ps := ["numerator", "denominator"]) fun _ _ _ _ _ _ us hl => match us, hl with | [_, _], _ => rfl, g_fraction := PySem.W.mg_of X G a_fraction,
    a_times := f_times, d_times := _, times_F := F_times, times_b := F_times.binds (ps := ["a", "b"]) fun _ _ _ _ _ _ us hl => match us, hl with | [_, _], _ => rfl, g_times := PySem.W.mg_of X G a_times,
    a_over := f_over, d_over := _, over_F := F_over, over_b := F_over.binds (ps := ["a", "b"]) fun _ _ _ _ _ _ us hl => match us, hl with | [_, _], _ => rfl, g_over := PySem.W.mg_of X G a_over,
    a_compare := f_compare, d_compare := _, compare_F := F_compare, compare_b := F_compare.binds (ps := ["a", "b"]) fun _ _ _ _ _ _ us hl => match us, hl with | [_, _], _ => rfl, g_compare := PySem.W.mg_of X G a_compare,
    a_check_market := f_check_market, d_check_market := _, check_market_F := F_check_market, check_market_b := F_check_market.binds (ps := ["market"]) fun _ _ _ _ _ _ us hl => match us, hl with | [_], _ => rfl, g_check_market := PySem.W.mg_of X G a_check_market,
    a__check_prices := f__check_prices, d__check_prices := _, _check_prices_F := F__check_prices, _check_prices_b := F__check_prices.binds (ps := ["goods", "prices"]) fun _ _ _ _ _ _ us hl => match us, hl with | [_, _], _ => rfl, g__check_prices := PySem.W.mg_of X G a__check_prices,
    a_walk := f_walk, d_walk := _, walk_F := F_walk, walk_b := F_walk.binds (ps := ["market"]) fun _ _ _ _ _ _ us hl => match us, hl with | [_], _ => rfl, g_walk := PySem.W.mg_of X G a_walk,
    a_node_at := f_node_at, d_node_at := _, node_at_F := F_node_at, node_at_b := F_node_at.binds (ps := ["market", "path"]) fun _ _ _ _ _ _ us hl => match us, hl with | [_, _], _ => rfl, g_node_at := PySem.W.mg_of X G a_node_at,
    a_widened := f_widened, d_widened := _, widened_F := F_widened, widened_b := F_widened.binds (ps := ["market", "factor"]) fun _ _ _ _ _ _ us hl => match us, hl with | [_, _], _ => rfl, g_widened := PySem.W.mg_of X G a_widened,
    a_turned := f_turned, d_turned := _, turned_F := F_turned, turned_b := F_turned.binds (ps := ["market", "order"]) fun _ _ _ _ _ _ us hl => match us, hl with | [_, _], _ => rfl, g_turned := PySem.W.mg_of X G a_turned,
    a_market_at := f_market_at, d_market_at := _, market_at_F := F_market_at, market_at_b := F_market_at.binds (ps := ["market", "path"]) fun _ _ _ _ _ _ us hl => match us, hl with | [_, _], _ => rfl, g_market_at := PySem.W.mg_of X G a_market_at,
    a__repriced := f__repriced, d__repriced := _, _repriced_F := F__repriced, _repriced_b := F__repriced.binds (ps := ["node", "change"]) fun _ _ _ _ _ _ us hl => match us, hl with | [_, _], _ => rfl, g__repriced := PySem.W.mg_of X G a__repriced,
    a__law_begin := f__law_begin, d__law_begin := _, _law_begin_F := F__law_begin, _law_begin_b := F__law_begin.binds (ps := ["script"]) fun _ _ _ _ _ _ us hl => match us, hl with | [_], _ => rfl, g__law_begin := PySem.W.mg_of X G a__law_begin,
    a__law_take := f__law_take, d__law_take := _, _law_take_F := F__law_take, _law_take_b := F__law_take.binds (ps := ["d", "many"]) fun _ _ _ _ _ _ us hl => match us, hl with | [_, _], _ => rfl, g__law_take := PySem.W.mg_of X G a__law_take,
    a__law_gcd := f__law_gcd, d__law_gcd := _, _law_gcd_F := F__law_gcd, _law_gcd_b := F__law_gcd.binds (ps := ["a", "b"]) fun _ _ _ _ _ _ us hl => match us, hl with | [_, _], _ => rfl, g__law_gcd := PySem.W.mg_of X G a__law_gcd,
    a__law_f := f__law_f, d__law_f := _, _law_f_F := F__law_f, _law_f_b := F__law_f.binds (ps := ["a", "b"]) fun _ _ _ _ _ _ us hl => match us, hl with | [_, _], _ => rfl, g__law_f := PySem.W.mg_of X G a__law_f,
    a__law_plus := f__law_plus, d__law_plus := _, _law_plus_F := F__law_plus, _law_plus_b := F__law_plus.binds (ps := ["a", "b"]) fun _ _ _ _ _ _ us hl => match us, hl with | [_, _], _ => rfl, g__law_plus := PySem.W.mg_of X G a__law_plus,
    a__law_minus := f__law_minus, d__law_minus := _, _law_minus_F := F__law_minus, _law_minus_b := F__law_minus.binds (ps := ["a", "b"]) fun _ _ _ _ _ _ us hl => match us, hl with | [_, _], _ => rfl, g__law_minus := PySem.W.mg_of X G a__law_minus,
    a__law_times := f__law_times, d__law_times := _, _law_times_F := F__law_times, _law_times_b := F__law_times.binds (ps := ["a", "b"]) fun _ _ _ _ _ _ us hl => match us, hl with | [_, _], _ => rfl, g__law_times := PySem.W.mg_of X G a__law_times,
    a__law_spread := f__law_spread, d__law_spread := _, _law_spread_F := F__law_spread, _law_spread_b := F__law_spread.binds (ps := ["d", "mid"]) fun _ _ _ _ _ _ us hl => match us, hl with | [_, _], _ => rfl, g__law_spread := PySem.W.mg_of X G a__law_spread,
    a__law_node := f__law_node, d__law_node := _, _law_node_F := F__law_node, _law_node_b := F__law_node.binds (ps := ["d", "goods", "time", "last", "wild"]) fun _ _ _ _ _ _ us hl => match us, hl with | [_, _, _, _, _], _ => rfl, g__law_node := PySem.W.mg_of X G a__law_node,
    a__law_market := f__law_market, d__law_market := _, _law_market_F := F__law_market, _law_market_b := F__law_market.binds (ps := ["d", "most"]) fun _ _ _ _ _ _ us hl => match us, hl with | [_, _], _ => rfl, g__law_market := PySem.W.mg_of X G a__law_market,
    a__law_nodes := f__law_nodes, d__law_nodes := _, _law_nodes_F := F__law_nodes, _law_nodes_b := F__law_nodes.binds (ps := ["market"]) fun _ _ _ _ _ _ us hl => match us, hl with | [_], _ => rfl, g__law_nodes := PySem.W.mg_of X G a__law_nodes,
    a__law_find := f__law_find, d__law_find := _, _law_find_F := F__law_find, _law_find_b := F__law_find.binds (ps := ["market", "path"]) fun _ _ _ _ _ _ us hl => match us, hl with | [_, _], _ => rfl, g__law_find := PySem.W.mg_of X G a__law_find,
    a__law_prices := f__law_prices, d__law_prices := _, _law_prices_F := F__law_prices, _law_prices_b := F__law_prices.binds (ps := ["market", "path"]) fun _ _ _ _ _ _ us hl => match us, hl with | [_, _], _ => rfl, g__law_prices := PySem.W.mg_of X G a__law_prices,
    a__law_told := f__law_told, d__law_told := _, _law_told_F := F__law_told, _law_told_b := F__law_told.binds (ps := ["which", "market", "thing"]) fun _ _ _ _ _ _ us hl => match us, hl with | [_, _, _], _ => rfl, g__law_told := PySem.W.mg_of X G a__law_told,
    a__law_order := f__law_order, d__law_order := _, _law_order_F := F__law_order, _law_order_b := F__law_order.binds (ps := ["d", "goods"]) fun _ _ _ _ _ _ us hl => match us, hl with | [_, _], _ => rfl, g__law_order := PySem.W.mg_of X G a__law_order,
    cc_widened := cc_widened, ct_widened := ct_widened, widened_C := ⟨_, _, _, _, _, _, _, _, rfl, l_widened, c_widened⟩,
    cc_turned := cc_turned, ct_turned := ct_turned, turned_C := ⟨_, _, _, _, _, _, _, _, rfl, l_turned, c_turned⟩,
    tne_widened_turned := tne_widened_turned,
    n_abs := PySem.W.mg_none_of X G z_abs,
    n_int := PySem.W.mg_none_of X G z_int,
    n_isinstance := PySem.W.mg_none_of X G z_isinstance,
    n_len := PySem.W.mg_none_of X G z_len,
    n_list := PySem.W.mg_none_of X G z_list,
    n_max := PySem.W.mg_none_of X G z_max,
    n_min := PySem.W.mg_none_of X G z_min,
    n_range := PySem.W.mg_none_of X G z_range,
    n_reversed := PySem.W.mg_none_of X G z_reversed,
    n_sorted := PySem.W.mg_none_of X G z_sorted,
    n_sum := PySem.W.mg_none_of X G z_sum,
    n_tuple := PySem.W.mg_none_of X G z_tuple,
    g_gcd := PySem.W.mg_of X G i_gcd,
    t_GOODS_LIMIT := tk_GOODS_LIMIT, g_GOODS_LIMIT := PySem.W.mg_of X G j_GOODS_LIMIT,
    t_MOMENT_LIMIT := tk_MOMENT_LIMIT, g_MOMENT_LIMIT := PySem.W.mg_of X G j_MOMENT_LIMIT,
    t_TIME_LIMIT := tk_TIME_LIMIT, g_TIME_LIMIT := PySem.W.mg_of X G j_TIME_LIMIT,
    c_MarketplaceError := C_MarketplaceError, g_MarketplaceError := PySem.W.mg_of X G ca_MarketplaceError, x_MarketplaceError := cx_MarketplaceError, k_MarketplaceError := ck_MarketplaceError, b_MarketplaceError := cb_MarketplaceError, t_MarketplaceError := ct0_MarketplaceError, h_MarketplaceError := ch_MarketplaceError, e_MarketplaceError := ⟨e1_MarketplaceError, e2_MarketplaceError, cb_MarketplaceError, ch_MarketplaceError, e3_MarketplaceError, e5, e6, e4_MarketplaceError⟩,
    c_ZeroDenominator := C_ZeroDenominator, g_ZeroDenominator := PySem.W.mg_of X G ca_ZeroDenominator, x_ZeroDenominator := cx_ZeroDenominator, k_ZeroDenominator := ck_ZeroDenominator, b_ZeroDenominator := cb_ZeroDenominator, t_ZeroDenominator := ct0_ZeroDenominator, h_ZeroDenominator := ch_ZeroDenominator, e_ZeroDenominator := ⟨e1_ZeroDenominator, e2_ZeroDenominator, cb_ZeroDenominator, ch_ZeroDenominator, e3_ZeroDenominator, e5, e6, e4_ZeroDenominator⟩,
    c_MarketError := C_MarketError, g_MarketError := PySem.W.mg_of X G ca_MarketError, x_MarketError := cx_MarketError, k_MarketError := ck_MarketError, b_MarketError := cb_MarketError, t_MarketError := ct0_MarketError, h_MarketError := ch_MarketError, e_MarketError := ⟨e1_MarketError, e2_MarketError, cb_MarketError, ch_MarketError, e3_MarketError, e5, e6, e4_MarketError⟩,
    c_TooLarge := C_TooLarge, g_TooLarge := PySem.W.mg_of X G ca_TooLarge, x_TooLarge := cx_TooLarge, k_TooLarge := ck_TooLarge, b_TooLarge := cb_TooLarge, t_TooLarge := ct0_TooLarge, h_TooLarge := ch_TooLarge, e_TooLarge := ⟨e1_TooLarge, e2_TooLarge, cb_TooLarge, ch_TooLarge, e3_TooLarge, e5, e6, e4_TooLarge⟩,
    c_MomentError := C_MomentError, g_MomentError := PySem.W.mg_of X G ca_MomentError, x_MomentError := cx_MomentError, k_MomentError := ck_MomentError, b_MomentError := cb_MomentError, t_MomentError := ct0_MomentError, h_MomentError := ch_MomentError, e_MomentError := ⟨e1_MomentError, e2_MomentError, cb_MomentError, ch_MomentError, e3_MomentError, e5, e6, e4_MomentError⟩,
    s_MarketError_MarketplaceError := s_MarketError_MarketplaceError,
    s_MarketError_MarketError := s_MarketError_MarketError,
    s_MarketError_MomentError := s_MarketError_MomentError,
    s_MomentError_MarketplaceError := s_MomentError_MarketplaceError,
    s_MomentError_MarketError := s_MomentError_MarketError,
    s_MomentError_MomentError := s_MomentError_MomentError }, rfl, rfl, rfl, rfl⟩
  subst ec_widened et_widened
  subst ec_turned et_turned
  have q_widened := tabs "widened" (by simp) T.cc_widened T.ct_widened tb_widened
  have q_turned := tabs "turned" (by simp) T.cc_turned T.ct_turned tb_turned
  refine ⟨_, [(T.cc_widened, T.ct_widened), (T.cc_turned, T.ct_turned)], sp_law K T, fun p hp => by
      rcases List.mem_cons.mp hp with rfl | hp
      · exact q_widened.2
      rw [List.mem_singleton.mp hp]
      exact q_turned.2, fun p hp => by
      rcases List.mem_cons.mp hp with rfl | hp
      · exact notab_look X nt q_widened.2
      rw [List.mem_singleton.mp hp]
      exact notab_look X nt q_turned.2, fun p hp => by
      rcases List.mem_cons.mp hp with rfl | hp
      · exact q_widened.1
      rw [List.mem_singleton.mp hp]
      exact q_turned.1, fun s v => .of_eq rfl, fun H a ns hl _ ht hS => ⟨a, ns, rfl, hS, hl, fun p hp => ?_, fun _ => rfl⟩, fun base _ _ tb => ok_law T (tb _ (List.mem_cons_self ..)) (tb _ (List.mem_cons_of_mem _ (List.mem_cons_self ..))) F_law⟩
  rcases List.mem_cons.mp hp with rfl | hp
  · exact NdefX.TabN.nil (ht _ (List.mem_cons_self ..))
  · rw [List.mem_singleton.mp hp]
    exact NdefX.TabN.nil (ht _ (List.mem_cons_of_mem _ (List.mem_cons_self ..)))
end Nl

open PySem PySem.W PyProof.Rows
set_option maxHeartbeats 0 in
theorem PySem.Challenge.cw_nolunch_k04_markets_from_markets_holds : PySem.Challenge.rw_nolunch_k04_markets_from_markets.Holds := by
  w_on; o_law; k_head; (case hw => w_witness2)
  k_fill
  refine Nl.walk_ofTabs (l := PySem.Challenge.rw_nolunch_k04_markets_from_markets) (n := 63) (k := 10) (x := "script") (CX := fun _ => L2.CX0) ["widened", "turned"] rfl (by decide) rfl ⟨rfl, by decide, by decide⟩ ?REC (fun w h Y => PySem.W.km_in_of Y) ?F (fun _ _ _ _ _ h => h)
  case REC =>
    intro y hy
    rcases List.mem_cons.mp hy with rfl | hy
    · decide +kernel
    rw [List.mem_singleton.mp hy]
    decide +kernel
  case F =>
    intro w mg fa h Y KX G hmg tabs
    refine' Nl.all_mk KX G hmg tabs ?a_fraction ?l_fraction ?c_fraction ?k_fraction ?a_times ?l_times ?c_times ?k_times ?a_over ?l_over ?c_over ?k_over ?a_compare ?l_compare ?c_compare ?k_compare ?a_check_market ?l_check_market ?c_check_market ?k_check_market ?a__check_prices ?l__check_prices ?c__check_prices ?k__check_prices ?a_walk ?l_walk ?c_walk ?k_walk ?a_node_at ?l_node_at ?c_node_at ?k_node_at ?a_widened ?l_widened ?c_widened ?k_widened ?tb_widened ?a_turned ?l_turned ?c_turned ?k_turned ?tb_turned ?a_market_at ?l_market_at ?c_market_at ?k_market_at ?a__repriced ?l__repriced ?c__repriced ?k__repriced ?a__law_begin ?l__law_begin ?c__law_begin ?k__law_begin ?a__law_take ?l__law_take ?c__law_take ?k__law_take ?a__law_gcd ?l__law_gcd ?c__law_gcd ?k__law_gcd ?a__law_f ?l__law_f ?c__law_f ?k__law_f ?a__law_plus ?l__law_plus ?c__law_plus ?k__law_plus ?a__law_minus ?l__law_minus ?c__law_minus ?k__law_minus ?a__law_times ?l__law_times ?c__law_times ?k__law_times ?a__law_spread ?l__law_spread ?c__law_spread ?k__law_spread ?a__law_node ?l__law_node ?c__law_node ?k__law_node ?a__law_market ?l__law_market ?c__law_market ?k__law_market ?a__law_nodes ?l__law_nodes ?c__law_nodes ?k__law_nodes ?a__law_find ?l__law_find ?c__law_find ?k__law_find ?a__law_prices ?l__law_prices ?c__law_prices ?k__law_prices ?a__law_told ?l__law_told ?c__law_told ?k__law_told ?a__law_order ?l__law_order ?c__law_order ?k__law_order ?a_law ?l_law ?c_law ?k_law ?z_abs ?z_int ?z_isinstance ?z_len ?z_list ?z_max ?z_min ?z_range ?z_reversed ?z_sorted ?z_sum ?z_tuple ?i_gcd ?j_GOODS_LIMIT ?j_MOMENT_LIMIT ?j_TIME_LIMIT ?ca_MarketplaceError ?cx_MarketplaceError ?ck_MarketplaceError ?cb_MarketplaceError ?ct0_MarketplaceError ?ch_MarketplaceError ?e1_MarketplaceError ?e2_MarketplaceError ?e3_MarketplaceError ?e4_MarketplaceError ?ca_ZeroDenominator ?cx_ZeroDenominator ?ck_ZeroDenominator ?cb_ZeroDenominator ?ct0_ZeroDenominator ?ch_ZeroDenominator ?e1_ZeroDenominator ?e2_ZeroDenominator ?e3_ZeroDenominator ?e4_ZeroDenominator ?ca_MarketError ?cx_MarketError ?ck_MarketError ?cb_MarketError ?ct0_MarketError ?ch_MarketError ?e1_MarketError ?e2_MarketError ?e3_MarketError ?e4_MarketError ?ca_TooLarge ?cx_TooLarge ?ck_TooLarge ?cb_TooLarge ?ct0_TooLarge ?ch_TooLarge ?e1_TooLarge ?e2_TooLarge ?e3_TooLarge ?e4_TooLarge ?ca_MomentError ?cx_MomentError ?ck_MomentError ?cb_MomentError ?ct0_MomentError ?ch_MomentError ?e1_MomentError ?e2_MomentError ?e3_MomentError ?e4_MomentError ?e5 ?e6 ?s_MarketError_MarketplaceError ?s_MarketError_MarketError ?s_MarketError_MomentError ?s_MomentError_MarketplaceError ?s_MomentError_MarketError ?s_MomentError_MomentError ?tne_widened_turned ?nt
    (case a_fraction => k_is); (case l_fraction => k_is); (case c_fraction => k_is); (case k_fraction => k_is); (case a_times => k_is); (case l_times => k_is)
    (case c_times => k_is); (case k_times => k_is); (case a_over => k_is); (case l_over => k_is); (case c_over => k_is); (case k_over => k_is)
    (case a_compare => k_is); (case l_compare => k_is); (case c_compare => k_is); (case k_compare => k_is); (case a_check_market => k_is); (case l_check_market => k_is)
    (case c_check_market => k_is); (case k_check_market => k_is); (case a__check_prices => k_is); (case l__check_prices => k_is); (case c__check_prices => k_is); (case k__check_prices => k_is)
    (case a_walk => k_is); (case l_walk => k_is); (case c_walk => k_is); (case k_walk => k_is); (case a_node_at => k_is); (case l_node_at => k_is)
    (case c_node_at => k_is); (case k_node_at => k_is); (case a_widened => k_is); (case l_widened => k_is); (case c_widened => k_is); (case k_widened => k_is)
    (case tb_widened => (refine (show PySem.W.tabIn _ "widened" = some (_, 159) from ?_); kernel_rfl)); (case a_turned => k_is); (case l_turned => k_is); (case c_turned => k_is); (case k_turned => k_is); (case tb_turned => (refine (show PySem.W.tabIn _ "turned" = some (_, 166) from ?_); kernel_rfl))
    (case a_market_at => k_is); (case l_market_at => k_is); (case c_market_at => k_is); (case k_market_at => k_is); (case a__repriced => k_is); (case l__repriced => k_is)
    (case c__repriced => k_is); (case k__repriced => k_is); (case a__law_begin => k_is); (case l__law_begin => k_is); (case c__law_begin => k_is); (case k__law_begin => k_is)
    (case a__law_take => k_is); (case l__law_take => k_is); (case c__law_take => k_is); (case k__law_take => k_is); (case a__law_gcd => k_is); (case l__law_gcd => k_is)
    (case c__law_gcd => k_is); (case k__law_gcd => k_is); (case a__law_f => k_is); (case l__law_f => k_is); (case c__law_f => k_is); (case k__law_f => k_is)
    (case a__law_plus => k_is); (case l__law_plus => k_is); (case c__law_plus => k_is); (case k__law_plus => k_is); (case a__law_minus => k_is); (case l__law_minus => k_is)
    (case c__law_minus => k_is); (case k__law_minus => k_is); (case a__law_times => k_is); (case l__law_times => k_is); (case c__law_times => k_is); (case k__law_times => k_is)
    (case a__law_spread => k_is); (case l__law_spread => k_is); (case c__law_spread => k_is); (case k__law_spread => k_is); (case a__law_node => k_is); (case l__law_node => k_is)
    (case c__law_node => k_is); (case k__law_node => k_is); (case a__law_market => k_is); (case l__law_market => k_is); (case c__law_market => k_is); (case k__law_market => k_is)
    (case a__law_nodes => k_is); (case l__law_nodes => k_is); (case c__law_nodes => k_is); (case k__law_nodes => k_is); (case a__law_find => k_is); (case l__law_find => k_is)
    (case c__law_find => k_is); (case k__law_find => k_is); (case a__law_prices => k_is); (case l__law_prices => k_is); (case c__law_prices => k_is); (case k__law_prices => k_is)
    (case a__law_told => k_is); (case l__law_told => k_is); (case c__law_told => k_is); (case k__law_told => k_is); (case a__law_order => k_is); (case l__law_order => k_is)
    (case c__law_order => k_is); (case k__law_order => k_is); (case a_law => k_is); (case l_law => k_is); (case c_law => k_is); (case k_law => k_is)
    (case z_abs => k_is); (case z_int => k_is); (case z_isinstance => k_is); (case z_len => k_is); (case z_list => k_is); (case z_max => k_is)
    (case z_min => k_is); (case z_range => k_is); (case z_reversed => k_is); (case z_sorted => k_is); (case z_sum => k_is); (case z_tuple => k_is)
    (case i_gcd => k_is); (case j_GOODS_LIMIT => k_is); (case j_MOMENT_LIMIT => k_is); (case j_TIME_LIMIT => k_is); (case ca_MarketplaceError => k_is); (case cx_MarketplaceError => k_exc)
    (case ck_MarketplaceError => k_is); (case cb_MarketplaceError => k_is); (case ct0_MarketplaceError => k_is); (case ch_MarketplaceError => k_is); (case e1_MarketplaceError => k_is); (case e2_MarketplaceError => k_is)
    (case e3_MarketplaceError => k_is); (case e4_MarketplaceError => k_is); (case ca_ZeroDenominator => k_is); (case cx_ZeroDenominator => k_exc); (case ck_ZeroDenominator => k_is); (case cb_ZeroDenominator => k_is)
    (case ct0_ZeroDenominator => k_is); (case ch_ZeroDenominator => k_is); (case e1_ZeroDenominator => k_is); (case e2_ZeroDenominator => k_is); (case e3_ZeroDenominator => k_is); (case e4_ZeroDenominator => k_is)
    (case ca_MarketError => k_is); (case cx_MarketError => k_exc); (case ck_MarketError => k_is); (case cb_MarketError => k_is); (case ct0_MarketError => k_is); (case ch_MarketError => k_is)
    (case e1_MarketError => k_is); (case e2_MarketError => k_is); (case e3_MarketError => k_is); (case e4_MarketError => k_is); (case ca_TooLarge => k_is); (case cx_TooLarge => k_exc)
    (case ck_TooLarge => k_is); (case cb_TooLarge => k_is); (case ct0_TooLarge => k_is); (case ch_TooLarge => k_is); (case e1_TooLarge => k_is); (case e2_TooLarge => k_is)
    (case e3_TooLarge => k_is); (case e4_TooLarge => k_is); (case ca_MomentError => k_is); (case cx_MomentError => k_exc); (case ck_MomentError => k_is); (case cb_MomentError => k_is)
    (case ct0_MomentError => k_is); (case ch_MomentError => k_is); (case e1_MomentError => k_is); (case e2_MomentError => k_is); (case e3_MomentError => k_is); (case e4_MomentError => k_is)
    (case e5 => k_is); (case e6 => k_is); (case s_MarketError_MarketplaceError => k_is); (case s_MarketError_MarketError => k_is); (case s_MarketError_MomentError => k_is); (case s_MomentError_MarketplaceError => k_is)
    (case s_MomentError_MarketError => k_is); (case s_MomentError_MomentError => k_is); (case tne_widened_turned => decide); (case nt => kernel_rfl)

import PyProof.Rows.All
import Wide.All
import OpenK.AllK
import Wide.FinOn
import PySem.Challenge.RW_nolunch_k02_fraction_texts
import HandS.ForExc
import HandS.Wide
import HandS.Gcd
import HandS.IsInst
import HandS.ExcIs
import HandS.Iter
import HandS.Evl
import HandS.SortRule
import HandS.SortInts
import HandS.TupAny
import KE.GoesNew
import KE.GoesMore
import HandS.DictComp
import HandS.Nested
import HandS.EndTab
import HandS.Exc
import HandS.MapJoin
import HandS.Rev
import HandS.StrMore
import KE.KIntText
import PyProof.Rows.Digits
import HandS.Deep
import HandS.WideBits
import HandS.ForMost
import HandS.Codes
import HandS.Steps
set_option Elab.async false
set_option linter.all false
set_option maxRecDepth 100000
set_option maxHeartbeats 4000000
namespace Nl
/-- a size in bits -/
def Bd (k : Nat) (x : Int) : Prop := x.natAbs < 2 ^ k
theorem Bd.mono {k m : Nat} {x : Int} (h : Bd k x) (e : k ≤ m) : Bd m x := Nat.lt_of_lt_of_le h (Nat.pow_le_pow_right (by decide) e)
theorem Bd.mul {k m : Nat} {x y : Int} (h : Bd k x) (g : Bd m y) : Bd (k + m) (x * y) := by
  unfold Bd at *
  rw [Int.natAbs_mul, Nat.pow_add]
  exact Nat.mul_lt_mul'' h g
theorem Bd.add {k m : Nat} {x y : Int} (h : Bd k x) (g : Bd m y) : Bd (max k m + 1) (x + y) := by
  have h1 := h.mono (Nat.le_max_left k m)
  have g1 := g.mono (Nat.le_max_right k m)
  unfold Bd at *
  have := Int.natAbs_add_le x y
  rw [Nat.pow_succ]
  omega
theorem Bd.neg {k : Nat} {x : Int} (h : Bd k x) : Bd k (-x) := by
  unfold Bd at *
  rw [Int.natAbs_neg]
  exact h
theorem Bd.sub {k m : Nat} {x y : Int} (h : Bd k x) (g : Bd m y) : Bd (max k m + 1) (x - y) := by
  rw [Int.sub_eq_add_neg]
  exact h.add g.neg
theorem Bd.le {k : Nat} {x y : Int} (h : Bd k y) (e : x.natAbs ≤ y.natAbs) : Bd k x := Nat.lt_of_le_of_lt e h

/-- lowest terms -/
structure Low (q : Int × Int) : Prop where
  pos : 0 < q.2
  cop : Int.gcd q.1 q.2 = 1
/-- the greatest common divisor, with the sign of b -/
def sg (a b : Int) : Int := if b < 0 then -(Int.gcd a b : Int) else (Int.gcd a b : Int)
def frac (a b : Int) : Int × Int := (a.fdiv (sg a b), b.fdiv (sg a b))
theorem gcd_pos {a b : Int} (h : b ≠ 0) : 0 < Int.gcd a b := Int.gcd_pos_of_ne_zero_right a h
theorem sg_ne {a b : Int} (h : b ≠ 0) : sg a b ≠ 0 := by
  have := gcd_pos (a := a) h
  unfold sg
  split <;> omega
theorem sg_abs (a b : Int) : (sg a b).natAbs = Int.gcd a b := by
  unfold sg
  split <;> simp
theorem sg_dvd1 (a b : Int) : sg a b ∣ a := by
  have h : (Int.gcd a b : Int) ∣ a := Int.gcd_dvd_left a b
  unfold sg
  split
  · exact Int.neg_dvd.mpr h
  · exact h
theorem sg_dvd2 (a b : Int) : sg a b ∣ b := by
  have h : (Int.gcd a b : Int) ∣ b := Int.gcd_dvd_right a b
  unfold sg
  split
  · exact Int.neg_dvd.mpr h
  · exact h
theorem frac_e1 {a b : Int} (_ : b ≠ 0) : (frac a b).1 * sg a b = a := Int.fdiv_mul_cancel (sg_dvd1 a b)
theorem frac_e2 {a b : Int} (_ : b ≠ 0) : (frac a b).2 * sg a b = b := Int.fdiv_mul_cancel (sg_dvd2 a b)
theorem frac_low {a b : Int} (h : b ≠ 0) : Low (frac a b) := by
  have e1 := frac_e1 (a := a) h
  have e2 := frac_e2 (a := a) h
  have g0 := gcd_pos (a := a) h
  have hs := sg_ne (a := a) h
  generalize hx : frac a b = q at *
  obtain ⟨n, d⟩ := q
  simp only at e1 e2
  refine ⟨?_, ?_⟩
  · show 0 < d
    have hd : d ≠ 0 := fun z => by
      rw [z, Int.zero_mul] at e2
      exact h e2.symm
    by_cases hb : b < 0
    · have s0 : sg a b < 0 := by
        unfold sg
        rw [if_pos hb]
        omega
      by_cases q : d < 0
      · have := Int.mul_pos_of_neg_of_neg q s0
        omega
      · omega
    · have s0 : 0 < sg a b := by
        unfold sg
        rw [if_neg hb]
        omega
      by_cases q : d < 0
      · have := Int.mul_neg_of_neg_of_pos q s0
        omega
      · omega
  · show Int.gcd n d = 1
    have hg : Int.gcd (n * sg a b) (d * sg a b) = Int.gcd n d * (sg a b).natAbs := Int.gcd_mul_right n (sg a b) d
    rw [e1, e2, sg_abs] at hg
    exact Nat.eq_of_mul_eq_mul_right g0 (by rw [← hg, Nat.one_mul])
theorem frac_cross {a b : Int} (h : b ≠ 0) : (frac a b).1 * b = a * (frac a b).2 := by
  have e1 := frac_e1 (a := a) h
  have e2 := frac_e2 (a := a) h
  generalize hx : frac a b = q at *
  obtain ⟨n, d⟩ := q
  simp only at e1 e2 ⊢
  generalize sg a b = s at *
  rw [← e1, ← e2, Int.mul_assoc, Int.mul_comm d s]
theorem abs_of_mul {x s y : Int} (e : x * s = y) (h : s ≠ 0) : x.natAbs ≤ y.natAbs := by
  rw [← e, Int.natAbs_mul]
  exact Nat.le_mul_of_pos_right _ (by omega)
theorem frac_b1 {a b : Int} {k : Nat} (h : b ≠ 0) (g : Bd k a) : Bd k (frac a b).1 := g.le (abs_of_mul (frac_e1 h) (sg_ne h))
theorem frac_b2 {a b : Int} {k : Nat} (h : b ≠ 0) (g : Bd k b) : Bd k (frac a b).2 := g.le (abs_of_mul (frac_e2 h) (sg_ne h))
theorem dvd_cop {a b d : Int} (h : b ∣ a * d) (g : Int.gcd a b = 1) : b ∣ d := by
  have h1 : b.natAbs ∣ a.natAbs * d.natAbs := by
    rw [← Int.natAbs_mul]
    exact Int.natAbs_dvd_natAbs.mpr h
  have h2 : Nat.Coprime b.natAbs a.natAbs := (Nat.gcd_comm _ _).trans g
  exact Int.natAbs_dvd_natAbs.mp (h2.dvd_of_dvd_mul_left h1)
theorem low_uniq {p q : Int × Int} (hp : Low p) (hq : Low q) (e : p.1 * q.2 = q.1 * p.2) : p = q := by
  obtain ⟨a, b⟩ := p
  obtain ⟨c, d⟩ := q
  obtain ⟨pb, cb⟩ := hp
  obtain ⟨pd, cd⟩ := hq
  simp only at *
  have d1 : b ∣ d := by
    have h : b ∣ a * d := ⟨c, by rw [e, Int.mul_comm]⟩
    exact dvd_cop h cb
  have d2 : d ∣ b := by
    have h : d ∣ c * b := ⟨a, by rw [← e, Int.mul_comm]⟩
    exact dvd_cop h cd
  have ebd : b = d := Int.dvd_antisymm (by omega) (by omega) d1 d2
  subst ebd
  have : a = c := Int.eq_of_mul_eq_mul_right (by omega) e
  rw [this]
/-- a fraction of at most k bits -/
structure Ok (k : Nat) (q : Int × Int) : Prop where
  low : Low q
  b1 : Bd k q.1
  b2 : Bd k q.2
theorem Ok.pos {k : Nat} {q : Int × Int} (h : Ok k q) : 0 < q.2 := h.low.pos
theorem Ok.mono {k m : Nat} {q : Int × Int} (h : Ok k q) (e : k ≤ m) : Ok m q := ⟨h.low, h.b1.mono e, h.b2.mono e⟩
theorem frac_ok {a b : Int} {k : Nat} (h : b ≠ 0) (g : Bd k a) (f : Bd k b) : Ok k (frac a b) := ⟨frac_low h, frac_b1 h g, frac_b2 h f⟩
def addF (p q : Int × Int) : Int × Int := frac (p.1 * q.2 + q.1 * p.2) (p.2 * q.2)
def subF (p q : Int × Int) : Int × Int := frac (p.1 * q.2 - q.1 * p.2) (p.2 * q.2)
def mulF (p q : Int × Int) : Int × Int := frac (p.1 * q.1) (p.2 * q.2)
def divF (p q : Int × Int) : Int × Int := frac (p.1 * q.2) (p.2 * q.1)
theorem pos_ne {x y : Int} (h : 0 < x) (g : 0 < y) : x * y ≠ 0 := by
  have := Int.mul_pos h g
  omega
theorem addF_ok {k m n : Nat} {p q : Int × Int} (hp : Ok k p) (hq : Ok m q) (e : k + m + 1 ≤ n) : Ok n (addF p q) :=
  frac_ok (pos_ne hp.pos hq.pos) (((hp.b1.mul hq.b2).add (hq.b1.mul hp.b2)).mono (by omega)) ((hp.b2.mul hq.b2).mono (by omega))
theorem subF_ok {k m n : Nat} {p q : Int × Int} (hp : Ok k p) (hq : Ok m q) (e : k + m + 1 ≤ n) : Ok n (subF p q) :=
  frac_ok (pos_ne hp.pos hq.pos) (((hp.b1.mul hq.b2).sub (hq.b1.mul hp.b2)).mono (by omega)) ((hp.b2.mul hq.b2).mono (by omega))
theorem mulF_ok {k m n : Nat} {p q : Int × Int} (hp : Ok k p) (hq : Ok m q) (e : k + m ≤ n) : Ok n (mulF p q) :=
  frac_ok (pos_ne hp.pos hq.pos) ((hp.b1.mul hq.b1).mono (by omega)) ((hp.b2.mul hq.b2).mono (by omega))
theorem divF_ok {k m n : Nat} {p q : Int × Int} (hp : Ok k p) (hq : Ok m q) (h0 : q.1 ≠ 0) (e : k + m ≤ n) : Ok n (divF p q) := by
  have h : p.2 * q.1 ≠ 0 := Int.mul_ne_zero (by have := hp.pos; omega) h0
  exact frac_ok h ((hp.b1.mul hq.b2).mono (by omega)) ((hp.b2.mul hq.b1).mono (by omega))
/-- the law's own normal form -/
def fracL (a b : Int) : Int × Int :=
  let a' := if b < 0 then 0 - a else a
  let b' := if b < 0 then 0 - b else b
  (a' / (Int.gcd a' b' : Int), b' / (Int.gcd a' b' : Int))
theorem fracL_eq {a b : Int} (h : b ≠ 0) : fracL a b = frac a b := by
  have g0 := gcd_pos (a := a) h
  have key : ∀ x : Int, (sg a b ∣ x) → (if b < 0 then 0 - x else x) / (Int.gcd a b : Int) = x.fdiv (sg a b) := fun x hx => by
    obtain ⟨c, rfl⟩ := hx
    have hs := sg_ne (a := a) h
    rw [Int.mul_fdiv_cancel_left c hs]
    unfold sg
    split
    · have e : 0 - -(Int.gcd a b : Int) * c = (Int.gcd a b : Int) * c := by rw [Int.neg_mul]; omega
      rw [e]
      exact Int.mul_ediv_cancel_left c (by omega)
    · exact Int.mul_ediv_cancel_left c (by omega)
  have eg : Int.gcd (if b < 0 then 0 - a else a) (if b < 0 then 0 - b else b) = Int.gcd a b := by
    split
    · rw [Int.zero_sub, Int.zero_sub, Int.neg_gcd, Int.gcd_neg]
    · rfl
  unfold fracL frac
  simp only [eg]
  rw [key a (sg_dvd1 a b), key b (sg_dvd2 a b)]
theorem List.reverseRecOn' {α : Type} {P : List α → Prop} (l : List α) (nil : P []) (snoc : ∀ l x, P l → P (l ++ [x])) : P l := by
  have : ∀ n (l : List α), l.length = n → P l := by
    intro n
    induction n with
    | zero => intro l h; rw [List.eq_nil_of_length_eq_zero h]; exact nil
    | succ n ih =>
      intro l h
      have hne : l ≠ [] := fun e => by rw [e] at h; cases h
      rw [← List.dropLast_concat_getLast hne]
      exact snoc _ _ (ih _ (by rw [List.length_dropLast]; omega))
  exact this _ l rfl
def totF (l : List (Int × Int)) : Int × Int := l.foldl addF (0, 1)
theorem totF_add (l : List (Int × Int)) (q : Int × Int) : totF (l ++ [q]) = addF (totF l) q := by
  unfold totF
  rw [List.foldl_append]
  rfl
theorem ok_zero : Ok 1 (0, 1) := ⟨⟨by decide, by decide⟩, by unfold Bd; decide, by unfold Bd; decide⟩
theorem totF_ok {k : Nat} : ∀ (l : List (Int × Int)), (∀ q ∈ l, Ok k q) → Ok ((k + 1) * l.length + 1) (totF l) := by
  intro l
  induction l using Nl.List.reverseRecOn' with
  | nil => exact fun _ => ok_zero
  | snoc l q ih =>
      intro h
      rw [totF_add]
      have h1 := ih fun z hz => h z (List.mem_append_left _ hz)
      have h2 := h q (by simp)
      refine addF_ok h1 h2 ?_
      rw [List.length_append, List.length_singleton, Nat.mul_add]
      omega
end Nl
namespace Nl
open PySem PySem.Spec PyProof.Rows L2
def CDivX (_ j : Int) : Prop := j ≠ 0 ∧ j.natAbs.log2 < 9000
theorem op_fdivX {X : Cx} : OpR X (binaryOp .FloorDiv) (rI CDivX fun i j => .int (i.fdiv j)) := opI fun _ _ _ _ _ _ _ hc q => floordiv_int hc.1 q (.inl (PyProof.noPylong_of_log2 hc.2))
theorem divX {i j : Int} {b : Nat} (h : j ≠ 0) (hb : Bd b j) (h0 : 0 < b := by decide) (h9 : b ≤ 9000 := by decide) : CDivX i j := ⟨h, Nat.lt_of_lt_of_le (PySem.Flt.log2_lt_of h0 hb) h9⟩
theorem mulX {i j : Int} {a b : Nat} (ha : Bd a i) (hb : Bd b j) (h0 : 0 < a := by decide) (h1 : 0 < b := by decide) (h : a + b ≤ 1000000 := by decide) : CMulW i j := wide_mul ha hb h0 h1 h
/-- all that was tracked is as it was, but for what stands at d -/
def Xt (d : Addr) (H H' : Hp) : Prop := ∀ b o, b ≠ d → H b = some o → H' b = some o
theorem Xt.refl {d : Addr} (H : Hp) : Xt d H H := fun _ _ _ h => h
theorem Xt.trans {d : Addr} {H H1 H2 : Hp} (a : Xt d H H1) (b : Xt d H1 H2) : Xt d H H2 := fun c o n h => b c o n (a c o n h)
theorem Xt.of {d : Addr} {H H' : Hp} (s : Same H H') : Xt d H H' := fun b o _ h => s b o h
theorem Xt.upd {d : Addr} {H : Hp} {o : HO} : Xt d H (upd H d o) := fun b u n h => by
  rw [upd_ne n]
  exact h
theorem same_new {H : Hp} {p : Addr} {o : HO} (h : H p = none) : Same H (upd H p o) := fun b x e => by
  rw [upd_ne (ne_of_none e h)]
  exact e
/-- v is the fraction q -/
def Fr (H : Hp) (v : V) (q : Int × Int) : Prop := ∃ p, v = .ref p ∧ H p = some (.tup [.int q.1, .int q.2])
theorem Fr.same {H H' : Hp} {v : V} {q : Int × Int} (h : Fr H v q) (s : Same H H') : Fr H' v q := by
  obtain ⟨p, e, hp⟩ := h
  exact ⟨p, e, s _ _ hp⟩
theorem ne_tl {H : Hp} {a d : Addr} {xs ys : List V} (h : H a = some (.tup xs)) (g : H d = some (.lst ys)) : a ≠ d := ne_of h g (by intro z; cases z)
theorem Fr.xt {H H' : Hp} {d : Addr} {ys : List V} {v : V} {q : Int × Int} (h : Fr H v q) (g : H d = some (.lst ys)) (s : Xt d H H') : Fr H' v q := by
  obtain ⟨p, e, hp⟩ := h
  exact ⟨p, e, s _ _ (ne_tl hp g) hp⟩
theorem two_le : ([a, b] : List V).length ≤ sizeLine := (by decide : 2 ≤ sizeLine)
section
variable {X : Cx}
theorem CallR.imp {f : Value} {r r' : List V → Hp → VK → Prop} (h : CallR X f r) (hi : ∀ xs H Q, r' xs H Q → r xs H Q) : CallR X f r' := fun pins s σ H vs us Q I rr q => h pins s σ H vs us Q I rr (hi _ _ _ q)
def rInt : List V → Hp → VK → Prop := fun xs H Q => ∃ i, xs = [.int i] ∧ Q (.int i) H
theorem call_intI : CallR X (.type "int") rInt := CallR.imp call_int1 fun _ _ _ h => .inl h
def rLenL (K : PySem.W.Frag) : List V → Hp → VK → Prop := fun xs H Q => ∃ p ys, xs = [.ref p] ∧ SqL K H p ys ∧ Q (.int (ys.length : Int)) H
theorem call_lenL : CallR X (.builtin "len") (rLenL X.K) := CallR.imp call_len_seq fun _ _ _ ⟨p, ys, e, h, q⟩ => ⟨p, ys, e, .inl h, q⟩
def rLenT (K : PySem.W.Frag) : List V → Hp → VK → Prop := fun xs H Q => ∃ p ys, xs = [.ref p] ∧ SqT K H p ys ∧ Q (.int (ys.length : Int)) H
theorem call_lenT : CallR X (.builtin "len") (rLenT X.K) := CallR.imp call_len_seq fun _ _ _ ⟨p, ys, e, h, q⟩ => ⟨p, ys, e, .inr h, q⟩
def rListL (K : PySem.W.Frag) : List V → Hp → VK → Prop := fun xs H Q => ∃ p ys, xs = [.ref p] ∧ SqL K H p ys ∧ ∀ l, H l = none → Q (.ref l) (upd H l (.lst ys))
theorem call_listL : CallR X (.type "list") (rListL X.K) := CallR.imp call_list_of fun _ _ _ ⟨p, ys, e, h, q⟩ => ⟨p, ys, e, .inl h, q⟩
def rTupL (K : PySem.W.Frag) : List V → Hp → VK → Prop := fun xs H Q => ∃ p ys, xs = [.ref p] ∧ SqL K H p ys ∧ ∀ l, H l = none → Q (.ref l) (upd H l (.tup ys))
theorem call_tupL : CallR X (.type "tuple") (rTupL X.K) := CallR.imp call_tuple_of fun _ _ _ ⟨p, ys, e, h, q⟩ => ⟨p, ys, e, .inl ⟨h, q⟩⟩
/-- where something is known of what is raised -/
theorem pe_hyp {e : Expr} {t : TE} {p : Prop} (h : p → PE X e t) : PE X e (fun σ H Q => p ∧ t σ H Q) := ⟨fun pins s σ H Q I hw => (h hw.1).run pins s σ H Q I hw.2⟩
end
theorem mulC {i j : Int} (h : -(2 ^ 64) < j ∧ j < 2 ^ 64) : CMul i j := .inr h
theorem mulC' {i j : Int} (h : -(2 ^ 64) < i ∧ i < 2 ^ 64) : CMul i j := .inl h
/-- the state that the law's draws go on: [its script, a place, a rest, a seed] -/
structure DstI (H : Hp) (pd ps : Addr) (i r : Int) (ns : List Int) : Prop where
  at_d : ∃ s : Int, H pd = some (.lst [.ref ps, .int i, .int r, .int s])
  at_s : H ps = some (.lst (ns.map V.int))
  ne : ps ≠ pd
  i0 : 0 ≤ i
  r0 : 0 ≤ r
def Dst (H : Hp) (pd ps : Addr) : Prop := ∃ i r ns, DstI H pd ps i r ns
theorem Dst.same {H H' : Hp} {pd ps : Addr} (h : Dst H pd ps) (s : Same H H') : Dst H' pd ps := by
  obtain ⟨i, r, ns, ⟨⟨sd, h1⟩, h2, h3, h4, h5⟩⟩ := h
  exact ⟨i, r, ns, ⟨⟨sd, s _ _ h1⟩, s _ _ h2, h3, h4, h5⟩⟩
theorem Dst.xt {H H' : Hp} {pd ps x : Addr} (h : Dst H pd ps) (n1 : x ≠ pd) (n2 : x ≠ ps) (s : Xt x H H') : Dst H' pd ps := by
  obtain ⟨i, r, ns, ⟨⟨sd, h1⟩, h2, h3, h4, h5⟩⟩ := h
  exact ⟨i, r, ns, ⟨⟨sd, s _ _ (Ne.symm n1) h1⟩, s _ _ (Ne.symm n2) h2, h3, h4, h5⟩⟩
theorem Dst.fresh {H : Hp} {pd ps x : Addr} (h : Dst H pd ps) (n : H x = none) : x ≠ pd ∧ x ≠ ps := by
  obtain ⟨i, r, ns, ⟨⟨sd, h1⟩, h2, h3, h4, h5⟩⟩ := h
  exact ⟨fun e => (by rw [e, h1] at n; cases n), fun e => (by rw [e, h2] at n; cases n)⟩
theorem Dst.lst {H : Hp} {pd ps : Addr} (h : Dst H pd ps) : ∃ ys, H pd = some (.lst ys) := by
  obtain ⟨i, r, ns, ⟨⟨sd, h1⟩, _⟩⟩ := h
  exact ⟨_, h1⟩
theorem Fr.dst {H H' : Hp} {pd ps : Addr} {v : V} {q : Int × Int} (h : Fr H v q) (g : Dst H pd ps) (s : Xt pd H H') : Fr H' v q := by
  obtain ⟨ys, e⟩ := g.lst
  exact h.xt e s
theorem DstI.set {H : Hp} {pd ps : Addr} {i r i' r' s' : Int} {ns : List Int} (h : DstI H pd ps i r ns) (hi : 0 ≤ i') (hr : 0 ≤ r') : DstI (upd H pd (.lst [.ref ps, .int i', .int r', .int s'])) pd ps i' r' ns :=
  ⟨⟨s', upd_same⟩, by rw [upd_ne h.ne]; exact h.at_s, h.ne, hi, hr⟩
theorem DstI.upd2 {H : Hp} {pd ps : Addr} {i r i' r' s' : Int} {ns : List Int} {o : HO} (h : DstI H pd ps i r ns) (hi : 0 ≤ i') (hr : 0 ≤ r') : DstI (upd (upd H pd o) pd (.lst [.ref ps, .int i', .int r', .int s'])) pd ps i' r' ns := by
  rw [upd_upd]
  exact h.set hi hr
theorem dec_eq {a b : V} (h : a = b) : decide (a = b) = true := decide_eq_true h
def FrAll (H : Hp) (xs : List V) (qs : List (Int × Int)) : Prop := xs.length = qs.length ∧ ∀ (i : Nat) (x : V), xs[i]? = some x → ∃ q, qs[i]? = some q ∧ Fr H x q
theorem FrAll.same {H H' : Hp} {xs : List V} {qs : List (Int × Int)} (h : FrAll H xs qs) (s : Same H H') : FrAll H' xs qs := ⟨h.1, fun i x e => by
  obtain ⟨q, h1, h2⟩ := h.2 i x e
  exact ⟨q, h1, h2.same s⟩⟩
theorem FrAll.xt {H H' : Hp} {d : Addr} {ys xs : List V} {qs : List (Int × Int)} (h : FrAll H xs qs) (g : H d = some (.lst ys)) (s : Xt d H H') : FrAll H' xs qs := ⟨h.1, fun i x e => by
  obtain ⟨q, h1, h2⟩ := h.2 i x e
  exact ⟨q, h1, h2.xt g s⟩⟩
theorem FrAll.add {H : Hp} {xs : List V} {qs : List (Int × Int)} {v : V} {q : Int × Int} (h : FrAll H xs qs) (g : Fr H v q) : FrAll H (xs ++ [v]) (qs ++ [q]) := by
  refine ⟨by simp [h.1], fun i x e => ?_⟩
  by_cases hi : i < xs.length
  · rw [List.getElem?_append_left hi] at e
    obtain ⟨z, h1, h2⟩ := h.2 i x e
    exact ⟨z, by rw [List.getElem?_append_left (by rw [← h.1]; exact hi)]; exact h1, h2⟩
  · have hl := (List.getElem?_eq_some_iff.mp e).1
    rw [List.length_append, List.length_singleton] at hl
    have ei : i = xs.length := by omega
    subst ei
    rw [List.getElem?_concat_length] at e
    cases e
    exact ⟨q, by rw [h.1, List.getElem?_concat_length], g⟩
theorem take_next {α : Type} {l : List α} {i : Nat} {x : α} (h : l[i]? = some x) : l.take (i + 1) = l.take i ++ [x] := by
  rw [List.take_add_one, h]
  rfl
theorem gcd_step (x y : Int) (hx : 0 ≤ x) (hy : 0 ≤ y) : Int.gcd y (x % y) = Int.gcd x y := by
  obtain ⟨a, rfl⟩ := Int.eq_ofNat_of_zero_le hx
  obtain ⟨b, rfl⟩ := Int.eq_ofNat_of_zero_le hy
  rw [← Int.natCast_emod]
  show Nat.gcd b (a % b) = Nat.gcd a b
  rw [Nat.gcd_comm b, ← Nat.gcd_rec b a, Nat.gcd_comm]
theorem if_true_of' {c : Bool} {A B : Prop} (hc : c = true) (h : A) : if c = true then A else B := by
  rw [if_pos hc]
  exact h
theorem if_false_of' {c : Bool} {A B : Prop} (hc : c = false) (h : B) : if c = true then A else B := by
  rw [hc, if_neg Bool.false_ne_true]
  exact h
def frD (q : Int × Int) : PyData := .tuple [.int q.1, .int q.2]
theorem Fr.dp {K : PySem.W.Frag} {H : Hp} {v : V} {q : Int × Int} (h : Fr H v q) : Dp K H v (frD q) := by
  obtain ⟨p, rfl, hp⟩ := h
  exact .tup (SqT.of hp) (.cons (.int _) (.cons (.int _) .nil))
theorem frD_shaped (q : Int × Int) : SeqAt.shaped (frD q) = true := rfl
theorem frD_eqv (q : Int × Int) : PyData.eqv (frD q) (frD q) = true := SeqAt.eqv_refl _ rfl
theorem kit_self {K : PySem.W.Frag} {C : Addr} : PySem.W.kitOne K (.ref C) (.ref C) = some true := by
  unfold PySem.W.kitOne
  simp
theorem pow38 : Bd 127 (10 ^ 38) := by unfold Bd; decide
end Nl

namespace Nl
/-! ### sorted of tuples of ints of any lengths, the first of which is empty -/
section
open PySem PySem.W PySem.Calls PyProof.Rows SrtO
theorem lex_asym : ∀ a b : List Int, HT.lexLt a b = true → HT.lexLt b a = false
  | [], [], h => by simp [HT.lexLt] at h
  | [], _ :: _, _ => rfl
  | _ :: _, [], h => by simp [HT.lexLt] at h
  | x :: a, y :: b, h => by
    rw [HT.lexLt_cons] at h ⊢
    by_cases e : x = y
    · rw [if_pos e] at h
      rw [if_pos e.symm]
      exact lex_asym a b h
    · rw [if_neg e] at h
      rw [if_neg (Ne.symm e)]
      have := of_decide_eq_true h
      exact decide_eq_false (by omega)
theorem lex_tr : ∀ a b c : List Int, HT.lexLt b a = false → HT.lexLt c b = false → HT.lexLt c a = false
  | _, _, [], _, h => by
    rename_i a b h0
    cases b with
    | nil => exact h0
    | cons y b => simp [HT.lexLt] at h
  | _, [], z :: c, h1, h2 => by
    rename_i a
    cases a with
    | nil => rfl
    | cons x a => simp [HT.lexLt] at h1
  | [], y :: b, z :: c, _, _ => rfl
  | x :: a, y :: b, z :: c, h1, h2 => by
    rw [HT.lexLt_cons] at h1 h2 ⊢
    by_cases e : y = x
    · rw [if_pos e] at h1
      by_cases e2 : z = y
      · rw [if_pos e2] at h2
        rw [if_pos (e2.trans e)]
        exact lex_tr a b c h1 h2
      · rw [if_neg e2] at h2
        rw [if_neg (fun q => e2 (q.trans e.symm))]
        have := of_decide_eq_false h2
        exact decide_eq_false (by omega)
    · rw [if_neg e] at h1
      have q1 := of_decide_eq_false h1
      by_cases e2 : z = y
      · rw [if_neg (fun q => e (e2.symm.trans q))]
        exact decide_eq_false (by omega)
      · rw [if_neg e2] at h2
        have q2 := of_decide_eq_false h2
        rw [if_neg (by omega)]
        exact decide_eq_false (by omega)
theorem swo_path {α : Type} (k : α → List Int) : Swo fun v u => HT.lexLt (k v) (k u) := ⟨fun x y h => lex_asym _ _ h, fun x y z h1 h2 => lex_tr _ _ _ h1 h2⟩
section
variable {prog : Program} {w : World} {A : Around} {E : Value → Shared → Prop} {s : Shared}
theorem keyLt_tup {l b : Addr} {items items2 : Array Value} {ns ms : List Int} {Q : Bool → Shared → Prop} (hl : IsTup s.heap l items) (hb : IsTup s.heap b items2) (hi : IntsAre items.toList ns) (hj : IntsAre items2.toList ms)
    (hu : A.units < cLine) (h : Q (HT.lexLt ns ms) s) : wpAny (model prog w) A (keyLt' oneType' (.ref l) (.ref b)) Q E s := by
  obtain ⟨⟨cls, dd, data, sl⟩, ho, hc, n, hd⟩ := id hl
  obtain ⟨⟨cls2, dd2, data2, sl2⟩, ho2, hc2, n2, hd2⟩ := id hb
  simp only at hc hd hc2 hd2
  subst hc hd hc2 hd2
  rw [keyLt'_oneType, oneLt'_eq]
  simp only [if_true]
  refine wpAny_bind (wpAny_cRoomFor hu ?_)
  have hT : s.TypeIs (.ref l) "tuple" := ⟨_, ho, rfl⟩
  refine wpAny_bind (wpAny_callSpecialIfBound?_slot hT PySem.F.slot_tuple_lt (call_meets PySem.F.slot_tuple_lt hT PySem.F.entry_tuple_lt (PySem.F.args_tuple_lt_2 _ _) (HT.tuple_lt_ints l b items items2 n n2 dd dd2 sl sl2 ns ms hi hj) ⟨ho, ho2, ?_⟩))
  exact wpAny_truthy_bool h
/-- what firstOfTuple gives -/
theorem firsts_any : ∀ (vs : List Value) {Q : List (Option Value) → Shared → Prop}, (∀ v ∈ vs, ∃ a xs, v = .ref a ∧ IsTup s.heap a xs) →
    (∀ fs : List (Option Value), (∀ (v : Value) (r : List Value) (a : Addr) (xs : Array Value), vs = v :: r → v = .ref a → IsTup s.heap a xs → fs[0]? = some xs[0]?) → Q fs s) → wpAny (model prog w) A (vs.mapM firstOfTuple') Q E s
  | [], Q, _, h => by
    rw [List.mapM_nil]
    exact wpAny_pure (h [] fun _ _ _ _ e => by cases e)
  | v :: vs, Q, hv, h => by
    obtain ⟨a, xs, rfl, ht⟩ := hv v (List.mem_cons_self ..)
    obtain ⟨o, ho, hc, n, hd⟩ := id ht
    rw [List.mapM_cons]
    refine wpAny_bind ?_
    rw [kas_first_eq]
    refine wpAny_bind (Looks.here (show Looks (model prog w) s.heap (typeOf (.ref a)) o.cls from (Looks.ld ho).andThen .now) ?_)
    rw [hc, if_neg (by first | decide | simp)]
    refine wpAny_bind (listItems_at ho hd (wpAny_pure ?_))
    refine wpAny_bind (firsts_any vs (fun u hu => hv u (List.mem_cons_of_mem _ hu)) fun fs _ => wpAny_pure (h _ fun v' r a' xs' e1 e2 ht' => ?_))
    cases e1
    cases e2
    obtain ⟨o', ho', hc', n', hd'⟩ := ht'
    rw [ho] at ho'
    cases ho'
    rw [hd] at hd'
    cases hd'
    rfl
theorem kind_paths {vs : List Value} {Q : SortKind → Shared → Prop} (h2 : 2 ≤ vs.length) (hv : ∀ v ∈ vs, ∃ a xs, v = .ref a ∧ IsTup s.heap a xs) (h0 : ∀ (v : Value) (r : List Value), vs = v :: r → ∃ a xs, v = .ref a ∧ IsTup s.heap a xs ∧ xs[0]? = none)
    (h : Q oneType' s) : wpAny (model prog w) A (keyKind' vs.toArray) Q E s := by
  obtain ⟨v₁, v₂, rest, rfl⟩ : ∃ v₁ v₂ rest, vs = v₁ :: v₂ :: rest := by
    match vs, h2 with
    | [], h2 => simp at h2
    | [_], h2 => simp at h2
    | v₁ :: v₂ :: rest, _ => exact ⟨v₁, v₂, rest, rfl⟩
  rw [keyKind'_eq, List.mapM_toArray, map_eq_pure_bind]
  refine wpAny_bind (wpAny_bind (firsts_any _ hv fun fs hf => wpAny_pure ?_))
  obtain ⟨a, xs, ev, ht, hx⟩ := h0 v₁ (v₂ :: rest) rfl
  have f0 := hf v₁ (v₂ :: rest) a xs rfl ev ht
  rw [hx] at f0
  have hall : ¬ ((fs.toArray.all fun x => x.isSome) = true) := by
    cases fs with
    | nil => simp at f0
    | cons f fs =>
      have e : f = none := by simpa using f0
      subst e
      simp
  have h1 : (fs.toArray[0]?.bind id) = none := by
    have e : fs.toArray[0]? = some none := by simpa using f0
    rw [e]
    rfl
  rw [if_neg hall, h1]
  rw [if_neg (by simp)]
  rw [oneTypeOnly'_eq, List.mapM_toArray, map_eq_pure_bind]
  refine wpAny_bind (wpAny_bind (wpAny_bind (kas_mapM (r := Value.type "tuple") _ (fun v hm Q' hq => ?_) (wpAny_pure ?_))))
  · obtain ⟨a, xs, rfl, o, ho, hc, n, hd⟩ := hv v hm
    exact Looks.here (show Looks (model prog w) s.heap (typeOf (.ref a)) (.type "tuple") from hc ▸ (Looks.ld ho).andThen .now) hq
  · have hall : ((List.map (fun _ => Value.type "tuple") (v₁ :: v₂ :: rest)).toArray.all fun x => x == Value.type "tuple") = true := by
      simp only [List.all_toArray, List.all_map, List.all_eq_true]
      intro _ _
      simp
    have h0 : (List.map (fun _ => Value.type "tuple") (v₁ :: v₂ :: rest)).toArray[0]? = some (Value.type "tuple") := by simp
    rw [h0]
    simp only [hall, if_true]
    exact wpAny_pure (wpAny_pure h)
end
end
section
open PySem PySem.Spec PyProof.Rows L2
variable {X : Cx}
abbrev ltK (k : V → List Int) (x y : V) : Bool := HT.lexLt (k x) (k y)
def rSortP (K : PySem.W.Frag) : List V → Hp → VK → Prop := fun vs H Q => ∃ (a : Addr) (xs : List V) (k : V → List Int), vs = [V.ref a] ∧ SqL K H a xs ∧ (∀ x ∈ xs, ∃ t, x = V.ref t ∧ SqT K H t ((k x).map V.int)) ∧ (∀ x, xs[0]? = some x → k x = []) ∧
  ∀ ys p, ys.Perm xs → SrtO.Srtd (ltK k) ys → H p = none → Q (.ref p) (upd H p (.lst ys))
theorem cr_sortP (hr : Room 2 X.A) : CallR X (.builtin "sorted") (rSortP X.K) := by
  intro pins s σ H vs us Q I r h
  obtain ⟨a, xs, k, rfl, hs, hx, hx0, q⟩ := h
  obtain ⟨its, rv, hl, hz⟩ := I.list hs
  obtain ⟨u, rfl, ru⟩ := vals1 r
  obtain rfl : u = Value.ref a := ru
  obtain ⟨e1, e2⟩ := refs_back rv fun x m => by
    obtain ⟨t, e, _⟩ := hx x m
    exact ⟨t, e⟩
  have hu : X.A.in1.in1.units < cLine := by
    have h1 : Room 0 X.A.in1.in1 := Room.in1 (k := 0) (Room.in1 (k := 1) hr)
    exact h1.units0
  have tup : ∀ v ∈ its, ∃ t ws, v = Value.ref t ∧ IsTup s.heap t ws ∧ IntsAre ws.toList (k (backV v)) := fun v hv => by
    obtain ⟨t, rfl⟩ := e2 v hv
    have hm : V.ref t ∈ xs := by rw [e1]; exact List.mem_map.mpr ⟨_, hv, rfl⟩
    obtain ⟨t', e, ht⟩ := hx _ hm
    cases e
    obtain ⟨ws, rw', hw, _⟩ := I.tuple ht
    exact ⟨t, ws.toArray, rfl, hw, (show IntsAre ws (k (V.ref t)) from Vals.ints rw')⟩
  refine SrtO.sorted_ord (swo_path fun v => k (backV v)) hl.isList (by rw [← rv.length]; exact hz) (fun h2 h₁ a' ha kk => ?_) fun out h1 h2 => ?_
  · intro h' hk
    have keep : ∀ b o, s.heap.get? b = some o → h'.get? b = some o := fun b o e => hk b o (kk b o e).1 (kk b o e).2
    have tk : ∀ {t : Addr} {ws : Array Value}, IsTup s.heap t ws → IsTup h' t ws := fun ⟨o, ho, hc⟩ => ⟨o, keep _ _ ho, hc⟩
    refine ⟨oneType', fun Q' E hq => ?_, fun p q hm hm' => ?_⟩
    · refine kind_paths h2 (fun v hv => ?_) (fun v r e => ?_) hq
      · obtain ⟨t, ws, e, hw, _⟩ := tup v hv
        exact ⟨t, ws, e, tk hw⟩
      · have hv : v ∈ its := by rw [e]; exact List.mem_cons_self ..
        obtain ⟨t, ws, e', hw, hi⟩ := tup v hv
        refine ⟨t, ws, e', tk hw, ?_⟩
        have ex : xs[0]? = some (backV v) := by rw [e1, e]; rfl
        rw [hx0 _ ex] at hi
        have : ws.toList = [] := by
          generalize ws.toList = l at hi
          cases hi
          rfl
        obtain ⟨l⟩ := ws
        simp only at this
        subst this
        rfl
    · obtain ⟨t, ws, ev, hw, hi⟩ := tup _ hm
      obtain ⟨t', ws', ev', hw', hi'⟩ := tup _ hm'
      show wpAny (model X.prog X.w) X.A.in1.in1 (keyLt' oneType' p.1 q.1) (fun r s' => s' = _ ∧ r = HT.lexLt (k (backV p.1)) (k (backV q.1))) (fun _ _ => False) _
      rw [ev, ev'] at *
      exact keyLt_tup (tk hw) (tk hw') hi hi' hu ⟨rfl, rfl⟩
  · obtain ⟨ep, he'⟩ := PyProof.Rows.sortedAll_at s.heap its out.toArray
    have h3 : ∀ u ∈ out, ∃ a, u = Value.ref a := fun u hu => e2 u (h2.perm.mem_iff.mp hu)
    have hp : (out.map backV).Perm xs := by
      rw [e1]
      exact h2.perm.map backV
    refine ⟨.ref (s.heap.objs.size + 1), upd H (s.heap.objs.size + 1) (.lst (out.map backV)), I.laid (t' := s.toks) (fun _ _ => PyProof.Rows.sortedAll_old) (Nat.le_succ _) ⟨?_, out, ep, vals_back h3, he'⟩, rfl, q _ _ hp (SrtO.srtd_map h1) (I.hok.fresh (Nat.le_succ _))⟩
    rw [hp.length_eq]
    exact hz
end
end Nl

namespace Nl
open PySem PySem.Spec PyProof.Rows L2
/-! ### data that never changes: numbers, texts, None and tuples of such -/
/-- a tuple that was made, at a -/
def Tp (H : Hp) (a : Addr) (xs : List V) : Prop := H a = some (.tup xs)
mutual
inductive DT (K : PySem.W.Frag) (H : Hp) : V → PyData → Prop
  | non : DT K H .non .none
  | bl (b : Bool) : DT K H (.bl b) (.bool b)
  | int (i : Int) : DT K H (.int i) (.int i)
  | str (x : Str) : DT K H (.str x) (.str x)
  | tup {a : Addr} {xs : List V} {ds : List PyData} : Tp H a xs → DTs K H xs ds → DT K H (.ref a) (.tuple ds)
inductive DTs (K : PySem.W.Frag) (H : Hp) : List V → List PyData → Prop
  | nil : DTs K H [] []
  | cons {v : V} {vs : List V} {d : PyData} {ds : List PyData} : DT K H v d → DTs K H vs ds → DTs K H (v :: vs) (d :: ds)
end
section
variable {K : PySem.W.Frag} {H H' : Hp}
theorem Tp.of {a : Addr} {xs : List V} (h : H a = some (.tup xs)) : Tp H a xs := h
theorem Tp.sq {a : Addr} {xs : List V} (h : Tp H a xs) : SqT K H a xs := SqT.of h
instance instTpSq {a : Addr} {xs : List V} : Coe (Tp H a xs) (SqT K H a xs) := ⟨Tp.sq⟩
mutual
theorem DT.mono (hs : ∀ a xs, Tp H a xs → Tp H' a xs) : ∀ (d : PyData) (v : V), DT K H v d → DT K H' v d
  | .none, _, h => by cases h; exact .non
  | .bool _, _, h => by cases h; exact .bl _
  | .int _, _, h => by cases h; exact .int _
  | .str _, _, h => by cases h; exact .str _
  | .tuple ds, _, h => by
    cases h with
    | tup h1 h2 => exact .tup (hs _ _ h1) (DTs.mono hs ds _ h2)
  | .list _, _, h => by cases h
  | .dict _, _, h => by cases h
theorem DTs.mono (hs : ∀ a xs, Tp H a xs → Tp H' a xs) : ∀ (ds : List PyData) (vs : List V), DTs K H vs ds → DTs K H' vs ds
  | [], _, h => by cases h; exact .nil
  | d :: ds, _, h => by
    cases h with
    | cons h1 h2 => exact .cons (DT.mono hs d _ h1) (DTs.mono hs ds _ h2)
end
mutual
theorem DT.dp : ∀ (d : PyData) (v : V), DT K H v d → Dp K H v d
  | .none, _, h => by cases h; exact .non
  | .bool _, _, h => by cases h; exact .bl _
  | .int _, _, h => by cases h; exact .int _
  | .str _, _, h => by cases h; exact .str _
  | .tuple ds, _, h => by
    cases h with
    | tup h1 h2 => exact .tup h1 (DTs.dp ds _ h2)
  | .list _, _, h => by cases h
  | .dict _, _, h => by cases h
theorem DTs.dp : ∀ (ds : List PyData) (vs : List V), DTs K H vs ds → DpAll K H vs ds
  | [], _, h => by cases h; exact .nil
  | d :: ds, _, h => by
    cases h with
    | cons h1 h2 => exact .cons (DT.dp d _ h1) (DTs.dp ds _ h2)
end
theorem tp_same {a : Addr} {xs : List V} (s : Same H H') (h : Tp H a xs) : Tp H' a xs := s _ _ h
/-- what stands at d is a list -/
def IsL (H : Hp) (d : Addr) : Prop := ∃ ys, H d = some (.lst ys)
theorem tp_xt {d a : Addr} {xs : List V} (g : IsL H d) (s : Xt d H H') (h : Tp H a xs) : Tp H' a xs := by
  obtain ⟨ys, g⟩ := g
  exact s _ _ (ne_of h g (by intro z; cases z)) h
theorem DT.same {v : V} {d : PyData} (h : DT K H v d) (s : Same H H') : DT K H' v d := DT.mono (fun _ _ => tp_same s) d v h
theorem DTs.same {v : List V} {d : List PyData} (h : DTs K H v d) (s : Same H H') : DTs K H' v d := DTs.mono (fun _ _ => tp_same s) d v h
theorem DT.xt {v : V} {d : PyData} {p : Addr} (h : DT K H v d) (g : IsL H p) (s : Xt p H H') : DT K H' v d := DT.mono (fun _ _ => tp_xt g s) d v h
theorem DTs.xt {v : List V} {d : List PyData} {p : Addr} (h : DTs K H v d) (g : IsL H p) (s : Xt p H H') : DTs K H' v d := DTs.mono (fun _ _ => tp_xt g s) d v h
theorem DT.inv {v : V} {ds : List PyData} (h : DT K H v (.tuple ds)) : ∃ a xs, v = .ref a ∧ Tp H a xs ∧ DTs K H xs ds := by
  cases h with
  | tup h1 h2 => exact ⟨_, _, rfl, h1, h2⟩
theorem DTs.len : ∀ {xs : List V} {ds : List PyData}, DTs K H xs ds → xs.length = ds.length
  | _, _, .nil => rfl
  | _, _, .cons _ t => congrArg (· + 1) (DTs.len t)
theorem DTs.inv1 {xs : List V} {d : PyData} (h : DTs K H xs [d]) : ∃ x, xs = [x] ∧ DT K H x d := by
  cases h with
  | cons h1 h2 =>
    cases h2
    exact ⟨_, rfl, h1⟩
theorem DTs.inv2 {xs : List V} {d e : PyData} (h : DTs K H xs [d, e]) : ∃ x y, xs = [x, y] ∧ DT K H x d ∧ DT K H y e := by
  cases h with
  | cons h1 h2 =>
    obtain ⟨y, rfl, h3⟩ := h2.inv1
    exact ⟨_, _, rfl, h1, h3⟩
theorem DT.inv2 {v : V} {d e : PyData} (h : DT K H v (.tuple [d, e])) : ∃ a x y, v = .ref a ∧ Tp H a [x, y] ∧ DT K H x d ∧ DT K H y e := by
  obtain ⟨a, xs, rfl, h1, h2⟩ := h.inv
  obtain ⟨x, y, rfl, h3, h4⟩ := h2.inv2
  exact ⟨a, x, y, rfl, h1, h3, h4⟩
theorem DT.mk2 {a : Addr} {x y : V} {d e : PyData} (h : Tp H a [x, y]) (h1 : DT K H x d) (h2 : DT K H y e) : DT K H (.ref a) (.tuple [d, e]) := .tup h (.cons h1 (.cons h2 .nil))
theorem DT.int_inv {v : V} {i : Int} (h : DT K H v (.int i)) : v = .int i := by cases h; rfl
theorem DTs.get : ∀ {xs : List V} {ds : List PyData} {i : Nat} {x : V}, DTs K H xs ds → xs[i]? = some x → ∃ d, ds[i]? = some d ∧ DT K H x d
  | _, _, _, _, .nil, e => by simp at e
  | _, _, 0, _, .cons r _, e => by simp at e; subst e; exact ⟨_, rfl, r⟩
  | _, _, i + 1, x, .cons _ t, e => by
    obtain ⟨u, h1, h2⟩ := DTs.get (i := i) (x := x) t (by simpa using e)
    exact ⟨u, by simpa using h1, h2⟩
theorem DTs.at_ : ∀ {xs : List V} {ds : List PyData} {i : Nat} {d : PyData}, DTs K H xs ds → ds[i]? = some d → ∃ x, xs[i]? = some x ∧ DT K H x d
  | _, _, _, _, .nil, e => by simp at e
  | _, _, 0, _, .cons r _, e => by simp at e; subst e; exact ⟨_, rfl, r⟩
  | _, _, i + 1, x, .cons _ t, e => by
    obtain ⟨u, h1, h2⟩ := DTs.at_ (i := i) (d := x) t (by simpa using e)
    exact ⟨u, by simpa using h1, h2⟩
theorem DTs.app : ∀ {xs ys : List V} {ds es : List PyData}, DTs K H xs ds → DTs K H ys es → DTs K H (xs ++ ys) (ds ++ es)
  | _, _, _, _, .nil, h => h
  | _, _, _, _, .cons a t, h => .cons a (t.app h)
theorem DTs.snoc {xs : List V} {ds : List PyData} {x : V} {d : PyData} (h : DTs K H xs ds) (g : DT K H x d) : DTs K H (xs ++ [x]) (ds ++ [d]) := h.app (.cons g .nil)
theorem DTs.drop : ∀ {xs : List V} {ds : List PyData} (n : Nat), DTs K H xs ds → DTs K H (xs.drop n) (ds.drop n)
  | _, _, 0, h => h
  | _, _, _ + 1, .nil => .nil
  | _, _, n + 1, .cons _ t => t.drop n
theorem DTs.take : ∀ {xs : List V} {ds : List PyData} (n : Nat), DTs K H xs ds → DTs K H (xs.take n) (ds.take n)
  | _, _, 0, _ => .nil
  | _, _, _ + 1, .nil => .nil
  | _, _, n + 1, .cons h t => .cons h (t.take n)
theorem DTs.ints {ns : List Int} : ∀ {xs : List V}, DTs K H xs (ns.map PyData.int) → xs = ns.map V.int := by
  induction ns with
  | nil =>
    intro xs h
    cases h
    rfl
  | cons n ns ih =>
    intro xs h
    cases h with
    | cons h1 h2 => rw [h1.int_inv, ih h2]; rfl
theorem DTs.of_ints : ∀ (ns : List Int), DTs K H (ns.map V.int) (ns.map PyData.int)
  | [] => .nil
  | _ :: r => .cons (.int _) (DTs.of_ints r)
/-- a fraction -/
theorem DT.fr_inv {v : V} {q : Int × Int} (h : DT K H v (frD q)) : ∃ p, v = .ref p ∧ Tp H p [.int q.1, .int q.2] := by
  obtain ⟨a, x, y, rfl, h1, h2, h3⟩ := h.inv2
  rw [h2.int_inv, h3.int_inv] at h1
  exact ⟨a, rfl, h1⟩
theorem DT.fr {p : Addr} {q : Int × Int} (h : Tp H p [.int q.1, .int q.2]) : DT K H (.ref p) (frD q) := .mk2 h (.int _) (.int _)
/-- a path -/
def pathD (p : List Int) : PyData := .tuple (p.map PyData.int)
theorem DT.path_inv {v : V} {p : List Int} (h : DT K H v (pathD p)) : ∃ a, v = .ref a ∧ Tp H a (p.map V.int) := by
  obtain ⟨a, xs, rfl, h1, h2⟩ := h.inv
  rw [h2.ints] at h1
  exact ⟨a, rfl, h1⟩
theorem DT.path {a : Addr} {p : List Int} (h : Tp H a (p.map V.int)) : DT K H (.ref a) (pathD p) := .tup h (.of_ints p)
end
/-! ### trees -/
abbrev Pr := (Int × Int) × (Int × Int)
inductive Node where
  | mk (ps : List Pr) (ks : List Node)
def Node.ps : Node → List Pr
  | .mk ps _ => ps
def Node.ks : Node → List Node
  | .mk _ ks => ks
def prD (p : Pr) : PyData := .tuple [frD p.1, frD p.2]
def pricesD (ps : List Pr) : PyData := .tuple (ps.map prD)
mutual
def nodeD : Node → PyData
  | .mk ps ks => .tuple [pricesD ps, .tuple (nodesD ks)]
def nodesD : List Node → List PyData
  | [] => []
  | n :: r => nodeD n :: nodesD r
end
theorem nodesD_map : ∀ ks : List Node, nodesD ks = ks.map nodeD
  | [] => rfl
  | n :: r => by rw [nodesD, nodesD_map r]; rfl
theorem nodeD_eq (n : Node) : nodeD n = .tuple [pricesD n.ps, .tuple (n.ks.map nodeD)] := by
  cases n
  rw [nodeD, nodesD_map]
  rfl
abbrev PN := List Int × Node
def entD (e : PN) : PyData := .tuple [pathD e.1, nodeD e.2]
def kidsOf (e : PN) : List PN := e.2.ks.mapIdx fun i k => (e.1 ++ [(i : Int)], k)
mutual
def pre (p : List Int) : Node → List PN
  | .mk ps ks => (p, .mk ps ks) :: pres p 0 ks
def pres (p : List Int) (i : Nat) : List Node → List PN
  | [] => []
  | n :: r => pre (p ++ [(i : Int)]) n ++ pres p (i + 1) r
end
def preE (e : PN) : List PN := pre e.1 e.2
theorem pres_eq (p : List Int) : ∀ (ks : List Node) (i : Nat), pres p i ks = (ks.mapIdx fun j k => (p ++ [((i + j : Nat) : Int)], k)).flatMap preE
  | [], i => rfl
  | n :: r, i => by
    rw [pres, List.mapIdx_cons, List.flatMap_cons, pres_eq p r (i + 1)]
    have e : ∀ j : Nat, i + 1 + j = i + (j + 1) := fun j => by omega
    simp only [Nat.add_zero, e]
    rfl
theorem preE_eq (e : PN) : preE e = e :: (kidsOf e).flatMap preE := by
  obtain ⟨p, n⟩ := e
  cases n with
  | mk ps ks =>
    show pre p (.mk ps ks) = _
    rw [pre, pres_eq]
    simp only [Nat.zero_add]
    rfl
theorem le_sum {x : Nat} : ∀ {l : List Nat}, x ∈ l → x ≤ l.sum
  | [], h => by cases h
  | y :: l, h => by
    rw [List.sum_cons]
    rcases List.mem_cons.mp h with rfl | h
    · omega
    · have := le_sum h
      omega
/-- paths behind p -/
theorem pre_ext : ∀ (n : Nat) (e x : PN), (preE e).length ≤ n → x ∈ preE e → ∃ r, x.1 = e.1 ++ r
  | 0, e, x, hl, hx => by
    rw [preE_eq] at hl
    simp at hl
  | n + 1, e, x, hl, hx => by
    rw [preE_eq] at hl hx
    rcases List.mem_cons.mp hx with rfl | hx
    · exact ⟨[], by simp⟩
    · obtain ⟨k, hk, hxk⟩ := List.mem_flatMap.mp hx
      have hlen : (preE k).length ≤ n := by
        have h1 : (preE k).length ≤ ((kidsOf e).flatMap preE).length := by
          rw [List.length_flatMap]
          exact le_sum (List.mem_map.mpr ⟨k, hk, rfl⟩)
        rw [List.length_cons] at hl
        omega
      obtain ⟨r, hr⟩ := pre_ext n k x hlen hxk
      obtain ⟨i, hi, rfl⟩ := List.mem_mapIdx.mp hk
      exact ⟨(i : Int) :: r, by rw [hr]; simp⟩
theorem pre_len : ∀ (n : Nat) (e x : PN), (preE e).length ≤ n → x ∈ preE e → x.1.length < e.1.length + (preE e).length
  | 0, e, x, hl, hx => by
    rw [preE_eq] at hl
    simp at hl
  | n + 1, e, x, hl, hx => by
    rw [preE_eq] at hl hx
    rcases List.mem_cons.mp hx with rfl | hx
    · have : 0 < (preE x).length := by rw [preE_eq]; simp
      omega
    · obtain ⟨k, hk, hxk⟩ := List.mem_flatMap.mp hx
      have h1 : (preE k).length ≤ ((kidsOf e).flatMap preE).length := by
        rw [List.length_flatMap]
        exact le_sum (List.mem_map.mpr ⟨k, hk, rfl⟩)
      rw [List.length_cons] at hl
      have h2 := pre_len n k x (by omega) hxk
      obtain ⟨i, hi, rfl⟩ := List.mem_mapIdx.mp hk
      have h3 : (preE e).length = 1 + ((kidsOf e).flatMap preE).length := by rw [preE_eq]; simp; omega
      simp only [List.length_append, List.length_singleton] at h2
      omega
section
variable {X : Cx}
theorem OpR.imp {f : Value → Value → Sem Value} {r r' : R2} (h : OpR X f r) (hi : ∀ x y H Q, r' x y H Q → r x y H Q) : OpR X f r' := fun pins s σ H x y v u Q I rx ry q => h pins s σ H x y v u Q I rx ry (hi _ _ _ _ q)
def rCatP (K : PySem.W.Frag) : R2 := fun x y H Q => ∃ a b xs ys, x = .ref a ∧ y = .ref b ∧ Tp H a xs ∧ Tp H b ys ∧ xs.length + ys.length ≤ sizeLine ∧ ∀ p H', Same H H' → Tp H' p (xs ++ ys) → Q (.ref p) H'
theorem op_catP : OpR X (binaryOp .Add) (rCatP X.K) := OpR.imp op_catA fun x y H Q ⟨a, b, xs, ys, ex, ey, ha, hb, hl, q⟩ => ⟨a, b, xs, ys, ex, ey, ha, hb, hl,
  fun e => q b H (Same.refl H) (by rw [e]; exact hb), fun _ e => q a H (Same.refl H) (by rw [e, List.append_nil]; exact ha), fun _ _ p hp => q p _ (same_new hp) (Tp.of upd_same)⟩
theorem SlR.imp {r r' : V → Option Int → Option Int → Hp → VK → Prop} (h : SlR X r) (hi : ∀ x lo u H Q, r' x lo u H Q → r x lo u H Q) : SlR X r' := fun pins s σ H x v vl vu lo u sl Q I rx hs pl pu q => h pins s σ H x v vl vu lo u sl Q I rx hs pl pu (hi _ _ _ _ _ q)
def rSlP (K : PySem.W.Frag) : V → Option Int → Option Int → Hp → VK → Prop := fun x lo u H Q => ∃ a xs, x = .ref a ∧ Tp H a xs ∧ ∀ p H', Same H H' → Tp H' p (cutV xs lo u) → Q (.ref p) H'
theorem cut_whole {xs : List V} {lo u : Option Int} (h : HT.sIx xs.length 0 lo = 0 ∧ HT.sIx xs.length xs.length u = xs.length) : cutV xs lo u = xs := by
  unfold cutV
  rw [h.1, h.2]
  simp
theorem sl_tupP : SlR X (rSlP X.K) := SlR.imp sl_tupA fun x lo u H Q ⟨a, xs, e, ha, q⟩ => ⟨a, xs, e, ha, fun h => q a H (Same.refl H) (by rw [cut_whole h]; exact ha), fun _ p hp => q p _ (same_new hp) (Tp.of upd_same)⟩
end
def tTruK (K : PySem.W.Frag) (ta : TE) : TT := fun σ H Q => ta σ H fun x H' => ∃ k, TruV K x H' k ∧ Q k H'
theorem same_mut {H H' : Hp} {p : Addr} {o : HO} (e : Same H H') (h : H p = none) : Same H (upd H' p o) := fun a u ha => by
  rw [upd_ne (ne_of_none ha h)]
  exact e a u ha
def cmpF (p q : Int × Int) : Int := if p.1 * q.2 < q.1 * p.2 then -1 else if q.1 * p.2 < p.1 * q.2 then 1 else 0
def FB (p : Int × Int) : Prop := Bd 3000 p.1 ∧ Bd 3000 p.2
theorem FB.of {k : Nat} {p : Int × Int} (h : Ok k p) (hk : k ≤ 3000) : FB p := ⟨h.b1.mono hk, h.b2.mono hk⟩
theorem fb_zero : FB (0, 1) := FB.of ok_zero (by decide)
theorem mulF3 {i j : Int} (ha : Bd 3000 i) (hb : Bd 3000 j) : CMulW i j := mulX ha hb
def PrK (k : Nat) (p : Pr) : Prop := Ok k p.1 ∧ Ok k p.2
theorem PrK.mono {k m : Nat} {p : Pr} (h : PrK k p) (e : k ≤ m) : PrK m p := ⟨h.1.mono e, h.2.mono e⟩
abbrev PrB (p : Pr) : Prop := PrK 2000 p
def badPr (p : Pr) : Prop := cmpF p.2 (0, 1) < 0 ∨ cmpF p.1 p.2 < 0
def badPs (g : Int) (ps : List Pr) : Prop := (ps.length : Int) ≠ g - 1 ∨ ∃ p ∈ ps, badPr p
def marketD (g : Int) (n : Node) : PyData := .tuple [.int g, nodeD n]
def NodeB (n : Node) : Prop := ∀ e ∈ pre [] n, ∀ p ∈ e.2.ps, PrB p
theorem len1000 {n : Nat} (h : n ≤ 1000) : n ≤ sizeLine := Nat.le_trans h (by decide)
theorem kids_get {e : PN} {i : Nat} {k : Node} (h : e.2.ks[i]? = some k) : (kidsOf e)[i]? = some (e.1 ++ [(i : Int)], k) := by
  unfold kidsOf
  rw [List.getElem?_mapIdx, h]
  rfl
theorem kids_len (e : PN) : (kidsOf e).length = e.2.ks.length := List.length_mapIdx
theorem preE_pos (e : PN) : 0 < (preE e).length := by
  rw [preE_eq]
  simp
theorem kids_le (e : PN) : (kidsOf e).length < (preE e).length := by
  rw [preE_eq, List.length_cons, List.length_flatMap]
  have : ∀ l : List PN, l.length ≤ (l.map fun a => (preE a).length).sum := by
    intro l
    induction l with
    | nil => simp
    | cons a l ih =>
      have := preE_pos a
      simp only [List.map_cons, List.sum_cons, List.length_cons]
      omega
  have := this (kidsOf e)
  omega
theorem DT.entD_inv {K : PySem.W.Frag} {H : Hp} {v : V} {e : PN} (h : DT K H v (entD e)) : ∃ a x y, v = .ref a ∧ Tp H a [x, y] ∧ DT K H x (pathD e.1) ∧ DT K H y (nodeD e.2) := h.inv2
theorem DT.node_inv {K : PySem.W.Frag} {H : Hp} {v : V} {n : Node} (h : DT K H v (nodeD n)) : ∃ a x y, v = .ref a ∧ Tp H a [x, y] ∧ DT K H x (pricesD n.ps) ∧ DT K H y (.tuple (n.ks.map nodeD)) := by
  rw [nodeD_eq] at h
  exact h.inv2
theorem DT.market_inv {K : PySem.W.Frag} {H : Hp} {v : V} {g : Int} {n : Node} (h : DT K H v (marketD g n)) : ∃ a y, v = .ref a ∧ Tp H a [.int g, y] ∧ DT K H y (nodeD n) := by
  obtain ⟨a, x, y, rfl, h1, h2, h3⟩ := h.inv2
  rw [h2.int_inv] at h1
  exact ⟨a, y, rfl, h1, h3⟩
theorem len_le_flat : ∀ l : List PN, l.length ≤ (l.flatMap preE).length
  | [] => by simp
  | a :: l => by
    have := preE_pos a
    have := len_le_flat l
    simp only [List.flatMap_cons, List.length_append, List.length_cons]
    omega
/-- the node at a path -/
def find : Node → List Int → Option Node
  | n, [] => some n
  | n, i :: r => if 0 ≤ i then (n.ks[i.toNat]?).bind fun k => find k r else none
theorem find_cons (n : Node) (i : Nat) (r : List Int) : find n ((i : Int) :: r) = (n.ks[i]?).bind fun k => find k r := by
  rw [find, if_pos (by omega)]
  rfl
theorem find_out {n : Node} {i : Int} {r : List Int} (h : ¬ (0 ≤ i ∧ i < (n.ks.length : Int))) : find n (i :: r) = none := by
  rw [find]
  by_cases h0 : 0 ≤ i
  · rw [if_pos h0, List.getElem?_eq_none (by omega)]
    rfl
  · rw [if_neg h0]
theorem pre_find : ∀ (n : Nat) (e x : PN), (preE e).length ≤ n → x ∈ preE e → ∃ r, x.1 = e.1 ++ r ∧ find e.2 r = some x.2
  | 0, e, x, hl, hx => by
    rw [preE_eq] at hl
    simp at hl
  | n + 1, e, x, hl, hx => by
    rw [preE_eq] at hl hx
    rcases List.mem_cons.mp hx with rfl | hx
    · exact ⟨[], by simp, rfl⟩
    · obtain ⟨k, hk, hxk⟩ := List.mem_flatMap.mp hx
      have h1 : (preE k).length ≤ ((kidsOf e).flatMap preE).length := by
        rw [List.length_flatMap]
        exact le_sum (List.mem_map.mpr ⟨k, hk, rfl⟩)
      rw [List.length_cons] at hl
      obtain ⟨r, hr, hf⟩ := pre_find n k x (by omega) hxk
      obtain ⟨i, hi, rfl⟩ := List.mem_mapIdx.mp hk
      refine ⟨(i : Int) :: r, by rw [hr]; simp, ?_⟩
      rw [find_cons, List.getElem?_eq_getElem hi]
      exact hf
/-- the times of the ends -/
def endLens (n : Node) : List Nat := ((pre [] n).filter fun e => e.2.ks.isEmpty).map fun e => e.1.length
theorem some_end : ∀ (n : Nat) (e : PN), (preE e).length ≤ n → ∃ x ∈ preE e, x.2.ks = []
  | 0, e, hl => by
    rw [preE_eq] at hl
    simp at hl
  | n + 1, e, hl => by
    cases hk : e.2.ks with
    | nil => exact ⟨e, by rw [preE_eq]; exact List.mem_cons_self .., hk⟩
    | cons k ks =>
      have h0 : (kidsOf e)[0]? = some (e.1 ++ [((0 : Nat) : Int)], k) := kids_get (by rw [hk]; rfl)
      have hm := List.mem_of_getElem? h0
      have h1 : (preE (e.1 ++ [((0 : Nat) : Int)], k)).length ≤ ((kidsOf e).flatMap preE).length := by
        rw [List.length_flatMap]
        exact le_sum (List.mem_map.mpr ⟨_, hm, rfl⟩)
      rw [preE_eq, List.length_cons] at hl
      obtain ⟨x, hx, hz⟩ := some_end n _ (Nat.le_trans h1 (by omega))
      refine ⟨x, ?_, hz⟩
      rw [preE_eq]
      exact List.mem_cons_of_mem _ (List.mem_flatMap.mpr ⟨_, hm, hx⟩)
theorem ends_pos (n : Node) : 0 < (endLens n).length := by
  obtain ⟨x, hx, hz⟩ := some_end _ ([], n) (Nat.le_refl _)
  unfold endLens
  rw [List.length_map]
  exact List.length_pos_of_mem (List.mem_filter.mpr ⟨hx, by rw [hz]; rfl⟩)
def BadM (g : Int) (n : Node) : Prop := ¬ (1 ≤ g ∧ g ≤ 4) ∨ (∃ e ∈ pre [] n, badPs g e.2.ps) ∨ ∃ a ∈ endLens n, ∃ b ∈ endLens n, a ≠ b
def BigM (n : Node) : Prop := 40 < (pre [] n).length ∨ ∃ a ∈ endLens n, 5 < a
theorem tru_tup {K : PySem.W.Frag} {H : Hp} {a : Addr} {xs : List V} (h : Tp H a xs) : TruV K (.ref a) H (!xs.isEmpty) := .inr (.inl ⟨xs, h, rfl⟩)
theorem tru_tup' {K : PySem.W.Frag} {H : Hp} {a : Addr} {xs : List V} {b : Bool} (h : Tp H a xs) (e : xs.isEmpty = b) : TruV K (.ref a) H (!b) := .inr (.inl ⟨xs, h, by rw [e]⟩)
theorem tru_lst {K : PySem.W.Frag} {H : Hp} {a : Addr} {xs : List V} (h : SqL K H a xs) : TruV K (.ref a) H (!xs.isEmpty) := .inl ⟨xs, h, rfl⟩
theorem filter_next {α : Type} {l : List α} {i : Nat} {x : α} {p : α → Bool} (h : l[i]? = some x) : (l.take (i + 1)).filter p = (l.take i).filter p ++ (if p x then [x] else []) := by
  rw [take_next h, List.filter_append]
  congr 1
  by_cases hp : p x
  · simp [hp]
  · simp [hp]
theorem find_preE : ∀ (r : List Int) (e : PN) (m : Node), find e.2 r = some m → (e.1 ++ r, m) ∈ preE e
  | [], e, m, h => by
    have : e.2 = m := Option.some.inj h
    rw [preE_eq, List.append_nil, ← this]
    exact List.mem_cons_self ..
  | i :: r, e, m, h => by
    by_cases hi : 0 ≤ i ∧ i < (e.2.ks.length : Int)
    · obtain ⟨j, rfl⟩ := Int.eq_ofNat_of_zero_le hi.1
      have hk : e.2.ks[j]? = some e.2.ks[j] := List.getElem?_eq_getElem (by omega)
      rw [find_cons, hk] at h
      have ih := find_preE r (e.1 ++ [(j : Int)], e.2.ks[j]) m h
      rw [preE_eq]
      refine List.mem_cons_of_mem _ (List.mem_flatMap.mpr ⟨_, List.mem_of_getElem? (kids_get hk), ?_⟩)
      simpa using ih
    · rw [find_out hi] at h
      cases h
theorem find_pre (n : Node) (p : List Int) (m : Node) (h : find n p = some m) : ∃ e ∈ pre [] n, e.2 = m := ⟨_, find_preE p ([], n) m h, rfl⟩
/-! ### drawn markets -/
def leF (p q : Int × Int) : Prop := p.1 * q.2 ≤ q.1 * p.2
theorem frac_nonneg {a b : Int} (ha : 0 ≤ a) (hb : 0 < b) : 0 ≤ (frac a b).1 := by
  have c := frac_cross (a := a) (show b ≠ 0 by omega)
  have l := (frac_low (a := a) (show b ≠ 0 by omega)).pos
  by_cases h : 0 ≤ (frac a b).1
  · exact h
  · have h1 := Int.mul_neg_of_neg_of_pos (show (frac a b).1 < 0 by omega) hb
    have h2 := Int.mul_nonneg ha (Int.le_of_lt l)
    omega
theorem frac_le {a b c : Int} (hb : 0 < b) (h : a ≤ c) : leF (frac a b) (frac c b) := by
  have h1 := frac_cross (a := a) (show b ≠ 0 by omega)
  have h2 := frac_cross (a := c) (show b ≠ 0 by omega)
  have l1 := (frac_low (a := a) (show b ≠ 0 by omega)).pos
  have l2 := (frac_low (a := c) (show b ≠ 0 by omega)).pos
  unfold leF
  generalize frac a b = x at *
  generalize frac c b = y at *
  have e1 : x.1 * y.2 * b = a * (x.2 * y.2) := by
    rw [Int.mul_assoc, Int.mul_comm y.2 b, ← Int.mul_assoc, h1, Int.mul_assoc]
  have e2 : y.1 * x.2 * b = c * (x.2 * y.2) := by
    rw [Int.mul_assoc, Int.mul_comm x.2 b, ← Int.mul_assoc, h2, Int.mul_assoc, Int.mul_comm y.2 x.2]
  have h3 : x.1 * y.2 * b ≤ y.1 * x.2 * b := by
    rw [e1, e2]
    exact Int.mul_le_mul_of_nonneg_right h (Int.le_of_lt (Int.mul_pos l1 l2))
  exact Int.le_of_mul_le_mul_right h3 hb
theorem cmp_le {p q : Int × Int} (h : leF q p) : ¬ cmpF p q < 0 := by
  unfold leF at h
  unfold cmpF
  rw [if_neg (by omega)]
  split <;> omega
theorem cmp_zero {p : Int × Int} (h : 0 ≤ p.1) : ¬ cmpF p (0, 1) < 0 := cmp_le (by
  unfold leF
  simp
  exact h)
theorem good_pair {m s : Int × Int} (hm : 0 ≤ m.1) (pm : 0 < m.2) (hs : 0 ≤ s.1) (ps : 0 < s.2) (low : Int × Int) (hl : low = subF m s ∧ 0 ≤ low.1 ∨ low = (0, 1)) : ¬ badPr (addF m s, low) := by
  have den := Int.mul_pos pm ps
  rintro (h | h)
  · rcases hl with ⟨rfl, h0⟩ | rfl
    · exact cmp_zero h0 h
    · exact cmp_zero (p := (0, 1)) (by decide) h
  · have h1 : 0 ≤ m.1 * s.2 := Int.mul_nonneg hm (Int.le_of_lt ps)
    have h2 : 0 ≤ s.1 * m.2 := Int.mul_nonneg hs (Int.le_of_lt pm)
    rcases hl with ⟨rfl, h0⟩ | rfl
    · exact cmp_le (frac_le den (by omega)) h
    · exact cmp_zero (frac_nonneg (by omega) den) h
structure PsOk (g : Int) (ps : List Pr) : Prop where
  len : (ps.length : Int) = g - 1
  good : ∀ p ∈ ps, ¬ badPr p
  b : ∀ p ∈ ps, PrK 201 p
theorem PsOk.bad {g : Int} {ps : List Pr} (h : PsOk g ps) : ¬ badPs g ps := by
  rintro (z | ⟨p, hp, z⟩)
  · exact z h.len
  · exact h.good p hp z
def NV (g : Int) : Nat → Node → Prop
  | 0, n => PsOk g n.ps ∧ n.ks = []
  | m + 1, n => PsOk g n.ps ∧ 0 < n.ks.length ∧ n.ks.length ≤ 3 ∧ ∀ k ∈ n.ks, NV g m k
def cnt : Nat → Nat
  | 0 => 1
  | m + 1 => 1 + 3 * cnt m
theorem NV.ps {g : Int} : ∀ {m : Nat} {n : Node}, NV g m n → PsOk g n.ps
  | 0, _, h => h.1
  | _ + 1, _, h => h.1
theorem nv_pre {g : Int} : ∀ (m : Nat) (e : PN), NV g m e.2 → (∀ x ∈ preE e, PsOk g x.2.ps ∧ x.2.ks.length ≤ 3 ∧ x.1.length ≤ e.1.length + m ∧ (x.2.ks = [] → x.1.length = e.1.length + m)) ∧ (preE e).length ≤ cnt m
  | 0, e, h => by
    have hk : kidsOf e = [] := by
      unfold kidsOf
      rw [h.2]
      rfl
    rw [preE_eq, hk]
    refine ⟨fun x hx => ?_, by simp [cnt]⟩
    simp at hx
    subst hx
    exact ⟨h.1, by rw [h.2]; simp, by simp, fun _ => rfl⟩
  | m + 1, e, h => by
    obtain ⟨h1, h2, h3, h4⟩ := h
    have ih : ∀ k ∈ kidsOf e, (∀ x ∈ preE k, PsOk g x.2.ps ∧ x.2.ks.length ≤ 3 ∧ x.1.length ≤ e.1.length + (m + 1) ∧ (x.2.ks = [] → x.1.length = e.1.length + (m + 1))) ∧ (preE k).length ≤ cnt m := by
      intro k hk
      obtain ⟨i, hi, rfl⟩ := List.mem_mapIdx.mp hk
      obtain ⟨a, b⟩ := nv_pre m (e.1 ++ [(i : Int)], e.2.ks[i]) (h4 _ (List.getElem_mem hi))
      refine ⟨fun x hx => ?_, b⟩
      obtain ⟨q1, q2, q3, q4⟩ := a x hx
      simp only [List.length_append, List.length_singleton] at q3 q4
      exact ⟨q1, q2, by omega, fun z => by have := q4 z; omega⟩
    rw [preE_eq]
    refine ⟨fun x hx => ?_, ?_⟩
    · rcases List.mem_cons.mp hx with rfl | hx
      · exact ⟨h1, h3, by omega, fun z => by rw [z] at h2; simp at h2⟩
      · obtain ⟨k, hk, hx⟩ := List.mem_flatMap.mp hx
        exact (ih k hk).1 x hx
    · have : ∀ l : List PN, (∀ k ∈ l, (preE k).length ≤ cnt m) → (l.flatMap preE).length ≤ l.length * cnt m := by
        intro l
        induction l with
        | nil => simp
        | cons a l ih =>
          intro hl
          have a1 := hl a (by simp)
          have a2 := ih fun k hk => hl k (by simp [hk])
          simp only [List.flatMap_cons, List.length_append, List.length_cons, Nat.add_mul]
          omega
      have q := this (kidsOf e) fun k hk => (ih k hk).2
      rw [kids_len] at q
      have q2 := Nat.mul_le_mul_right (cnt m) h3
      simp only [List.length_cons, cnt]
      omega
theorem nv_good {g : Int} {m : Nat} {n : Node} (h : NV g m n) (hm : m ≤ 2) (h1 : 1 ≤ g) (h4 : g ≤ 4) : (¬ BadM g n ∧ ¬ BigM n) ∧ NodeB n ∧ (pre [] n).length ≤ 13 := by
  obtain ⟨a, b⟩ := nv_pre m ([], n) h
  have c13 : cnt m ≤ 13 := by
    match m, hm with
    | 0, _ => decide
    | 1, _ => decide
    | 2, _ => decide
  have lens : ∀ x ∈ endLens n, x = m := by
    intro x hx
    obtain ⟨e, he, rfl⟩ := List.mem_map.mp hx
    obtain ⟨he1, he2⟩ := List.mem_filter.mp he
    have := (a e he1).2.2.2 (List.isEmpty_iff.mp he2)
    simpa using this
  refine ⟨⟨?_, ?_⟩, fun e he p hp => ((a e he).1.b p hp).mono (by decide), Nat.le_trans b c13⟩
  · rintro (z | ⟨e, he, z⟩ | ⟨x, hx, y, hy, z⟩)
    · exact z ⟨h1, h4⟩
    · exact (a e he).1.bad z
    · exact z ((lens x hx).trans (lens y hy).symm)
  · rintro (z | ⟨x, hx, z⟩)
    · have : (pre [] n).length ≤ 13 := Nat.le_trans b c13
      omega
    · have := lens x hx
      omega
def kb : Nat → Nat
  | 0 => 4
  | m + 1 => 3 * kb m + 14
theorem xt_mut {H H' : Hp} {d p : Addr} {o : HO} (e : Xt d H H') (h : H p = none) : Xt d H (upd H' p o) := fun a u na ha => by
  rw [upd_ne (ne_of_none ha h)]
  exact e a u na ha
theorem xt_free {H H' : Hp} {d p : Addr} (e : Xt d H H') (hd : p ≠ d) (h : H' p = none) : H p = none := by
  cases q : H p with
  | none => rfl
  | some o =>
    rw [e p o hd q] at h
    cases h
/-- a drawn node with its mids -/
def ChildP (K : PySem.W.Frag) (ex : List Addr) (H : Hp) (v : V) (c : Node × List (Int × Int)) : Prop := ∃ a vn pm xs, v = .ref a ∧ Tp H a [vn, .ref pm] ∧ DT K H vn (nodeD c.1) ∧ H pm = some (.lst xs) ∧ DTs K H xs (c.2.map frD) ∧ ∀ x ∈ ex, pm ≠ x
theorem ChildP.xt {K : PySem.W.Frag} {ex : List Addr} {H H' : Hp} {v : V} {c : Node × List (Int × Int)} {p : Addr} (h : ChildP K ex H v c) (hp : p ∈ ex) (g : IsL H p) (s : Xt p H H') : ChildP K ex H' v c := by
  obtain ⟨a, vn, pm, xs, rfl, h1, h2, h3, h4, h5⟩ := h
  exact ⟨a, vn, pm, xs, rfl, tp_xt g s h1, h2.xt g s, s _ _ (h5 p hp) h3, h4.xt g s, h5⟩
theorem Dst.isL {H : Hp} {pd ps : Addr} (h : Dst H pd ps) : IsL H pd := h.lst
def All2 {β : Type} (P : V → β → Prop) (xs : List V) (cs : List β) : Prop := xs.length = cs.length ∧ ∀ (i : Nat) (x : V), xs[i]? = some x → ∃ c, cs[i]? = some c ∧ P x c
theorem All2.nil {β : Type} {P : V → β → Prop} : All2 P [] [] := ⟨rfl, fun i x e => by simp at e⟩
theorem All2.imp {β : Type} {P Q : V → β → Prop} {xs : List V} {cs : List β} (h : All2 P xs cs) (f : ∀ x c, P x c → Q x c) : All2 Q xs cs := ⟨h.1, fun i x e => by
  obtain ⟨c, h1, h2⟩ := h.2 i x e
  exact ⟨c, h1, f _ _ h2⟩⟩
theorem All2.snoc {β : Type} {P : V → β → Prop} {xs : List V} {cs : List β} {v : V} {q : β} (h : All2 P xs cs) (g : P v q) : All2 P (xs ++ [v]) (cs ++ [q]) := by
  refine ⟨by simp [h.1], fun i x e => ?_⟩
  by_cases hi : i < xs.length
  · rw [List.getElem?_append_left hi] at e
    obtain ⟨z, h1, h2⟩ := h.2 i x e
    exact ⟨z, by rw [List.getElem?_append_left (by rw [← h.1]; exact hi)]; exact h1, h2⟩
  · have hl := (List.getElem?_eq_some_iff.mp e).1
    rw [List.length_append, List.length_singleton] at hl
    have ei : i = xs.length := by omega
    subst ei
    rw [List.getElem?_concat_length] at e
    cases e
    exact ⟨q, by rw [h.1, List.getElem?_concat_length], g⟩
theorem All2.at_ {β : Type} {P : V → β → Prop} {xs : List V} {cs : List β} {i : Nat} {c : β} (h : All2 P xs cs) (e : cs[i]? = some c) : ∃ x, xs[i]? = some x ∧ P x c := by
  have il := (List.getElem?_eq_some_iff.mp e).1
  obtain ⟨c', h1, h2⟩ := h.2 i _ (List.getElem?_eq_getElem (by rw [h.1]; exact il))
  rw [e] at h1
  cases h1
  exact ⟨_, List.getElem?_eq_getElem (by rw [h.1]; exact il), h2⟩
/-! ### sorted paths -/
section
variable {X : Cx}
def rSortQ (K : PySem.W.Frag) : List V → Hp → VK → Prop := fun vs H Q => ∃ (a : Addr) (xs : List V) (ps : List (List Int)), vs = [V.ref a] ∧ SqL K H a xs ∧ DTs K H xs (ps.map pathD) ∧ (∀ p, ps[0]? = some p → p = []) ∧
  ∀ (ys : List V) (k : V → List Int) (p : Addr), ys.Perm xs → xs.map k = ps → SrtO.Srtd (ltK k) ys → H p = none → Q (.ref p) (upd H p (.lst ys))
theorem map_int_inj : ∀ {a b : List Int}, a.map V.int = b.map V.int → a = b
  | [], [], _ => rfl
  | [], _ :: _, h => by cases h
  | _ :: _, [], h => by cases h
  | x :: a, y :: b, h => by
    simp only [List.map_cons, List.cons.injEq, V.int.injEq] at h
    rw [h.1, map_int_inj h.2]
open Classical in
theorem cr_sortQ (hr : Room 2 X.A) : CallR X (.builtin "sorted") (rSortQ X.K) := by
  intro pins s σ H vs us Q I r h
  obtain ⟨a, xs, ps, rfl, hs, hd, h0, q⟩ := h
  let k : V → List Int := fun x => if h : ∃ p : List Int, ∃ t, x = V.ref t ∧ Tp H t (p.map V.int) then h.choose else []
  have lx : xs.length = ps.length := by rw [hd.len, List.length_map]
  have key : ∀ (i : Nat) (x : V), xs[i]? = some x → ∃ t, x = V.ref t ∧ Tp H t ((k x).map V.int) ∧ ps[i]? = some (k x) := by
    intro i x hx
    obtain ⟨d, hd1, hd2⟩ := hd.get hx
    rw [List.getElem?_map] at hd1
    obtain ⟨p, hp, rfl⟩ := Option.map_eq_some_iff.mp hd1
    obtain ⟨t, rfl, ht⟩ := hd2.path_inv
    have ex : ∃ p : List Int, ∃ t', V.ref t = V.ref t' ∧ Tp H t' (p.map V.int) := ⟨p, t, rfl, ht⟩
    have ek : k (V.ref t) = ex.choose := dif_pos ex
    obtain ⟨t', e', ht'⟩ := ex.choose_spec
    cases e'
    rw [← ek] at ht'
    have := map_int_inj (I.tuple_inj ht'.sq ht.sq)
    exact ⟨t, rfl, ht', by rw [this]; exact hp⟩
  refine cr_sortP hr pins s σ H _ us Q I r ⟨a, xs, k, rfl, hs, fun x hx => ?_, fun x hx => ?_, fun ys p hp hq hf => q ys k p hp ?_ hq hf⟩
  · obtain ⟨i, hi, rfl⟩ := List.mem_iff_getElem.mp hx
    obtain ⟨t, e, ht, _⟩ := key i _ (List.getElem?_eq_getElem hi)
    exact ⟨t, e, ht⟩
  · obtain ⟨t, e, ht, hp⟩ := key 0 x hx
    exact h0 _ hp
  · refine List.ext_getElem? fun i => ?_
    rw [List.getElem?_map]
    cases hx : xs[i]? with
    | none =>
      rw [List.getElem?_eq_none_iff] at hx
      rw [List.getElem?_eq_none (by omega)]
      rfl
    | some x =>
      obtain ⟨t, e, ht, hp⟩ := key i x hx
      rw [hp]
      rfl
end
theorem lex_pre (p a b : List Int) : HT.lexLt (p ++ a) (p ++ b) = HT.lexLt a b := by
  induction p with
  | nil => rfl
  | cons x p ih =>
    rw [List.cons_append, List.cons_append, HT.lexLt_cons, if_pos rfl]
    exact ih
theorem lex_anti : ∀ a b : List Int, HT.lexLt a b = false → HT.lexLt b a = false → a = b
  | [], [], _, _ => rfl
  | [], _ :: _, h, _ => by simp [HT.lexLt] at h
  | _ :: _, [], _, h => by simp [HT.lexLt] at h
  | x :: a, y :: b, h1, h2 => by
    rw [HT.lexLt_cons] at h1 h2
    by_cases e : x = y
    · rw [if_pos e] at h1
      rw [if_pos e.symm] at h2
      rw [e, lex_anti a b h1 h2]
    · rw [if_neg e] at h1
      rw [if_neg (Ne.symm e)] at h2
      have q1 := of_decide_eq_false h1
      have q2 := of_decide_eq_false h2
      exact absurd (show x = y by omega) e
theorem uniq_srt : ∀ {l m : List (List Int)}, l.Perm m → (l.Pairwise fun a b => HT.lexLt b a = false) → (m.Pairwise fun a b => HT.lexLt b a = false) → l = m
  | [], m, h, _, _ => (List.Perm.nil_eq h)
  | x :: l, [], h, _, _ => absurd h.length_eq (by simp)
  | x :: l, y :: m, h, h1, h2 => by
    have e : x = y := by
      rcases List.mem_cons.mp (h.mem_iff.mp (List.mem_cons_self (a := x) (l := l))) with e | hx
      · exact e
      · rcases List.mem_cons.mp (h.mem_iff.mpr (List.mem_cons_self (a := y) (l := m))) with e | hy
        · exact e.symm
        · exact lex_anti x y ((List.pairwise_cons.mp h2).1 x hx) ((List.pairwise_cons.mp h1).1 y hy)
    subst e
    rw [uniq_srt h.cons_inv (List.pairwise_cons.mp h1).2 (List.pairwise_cons.mp h2).2]
theorem pre_sorted : ∀ (n : Nat) (e : PN), (preE e).length ≤ n → (preE e).Pairwise fun a b => HT.lexLt a.1 b.1 = true
  | 0, e, h => by
    rw [preE_eq] at h
    simp at h
  | n + 1, e, h => by
    have hk : ∀ k ∈ kidsOf e, (preE k).length ≤ n := by
      intro k hk
      have h1 : (preE k).length ≤ ((kidsOf e).flatMap preE).length := by
        rw [List.length_flatMap]
        exact le_sum (List.mem_map.mpr ⟨_, hk, rfl⟩)
      rw [preE_eq, List.length_cons] at h
      omega
    rw [preE_eq]
    refine List.pairwise_cons.mpr ⟨fun x hx => ?_, List.pairwise_flatMap.mpr ⟨fun k hk' => pre_sorted n k (hk k hk'), ?_⟩⟩
    · obtain ⟨k, hk', hx⟩ := List.mem_flatMap.mp hx
      obtain ⟨r, hr⟩ := pre_ext n k x (hk k hk') hx
      obtain ⟨i, hi, rfl⟩ := List.mem_mapIdx.mp hk'
      rw [hr, List.append_assoc]
      have := lex_pre e.1 [] ([(i : Int)] ++ r)
      rw [List.append_nil] at this
      rw [this]
      rfl
    · rw [List.pairwise_iff_getElem]
      intro i j hi hj hij x hx y hy
      have ei : (kidsOf e)[i] = (e.1 ++ [(i : Int)], e.2.ks[i]'(by rw [kids_len] at hi; exact hi)) := Option.some.inj ((List.getElem?_eq_getElem hi).symm.trans (kids_get (List.getElem?_eq_getElem _)))
      have ej : (kidsOf e)[j] = (e.1 ++ [(j : Int)], e.2.ks[j]'(by rw [kids_len] at hj; exact hj)) := Option.some.inj ((List.getElem?_eq_getElem hj).symm.trans (kids_get (List.getElem?_eq_getElem _)))
      obtain ⟨r, hr⟩ := pre_ext n _ x (hk _ (List.getElem_mem hi)) hx
      obtain ⟨q, hq⟩ := pre_ext n _ y (hk _ (List.getElem_mem hj)) hy
      rw [ei] at hr
      rw [ej] at hq
      rw [hr, hq, List.append_assoc, List.append_assoc, lex_pre]
      show HT.lexLt ((i : Int) :: r) ((j : Int) :: q) = true
      rw [HT.lexLt_cons, if_neg (by omega)]
      exact decide_eq_true (by omega)
theorem flat_perm : ∀ F : List PN, (F.flatMap preE).Perm (F ++ (F.flatMap kidsOf).flatMap preE)
  | [] => by simp
  | e :: F => by
    have ih := flat_perm F
    rw [List.flatMap_cons, preE_eq, List.flatMap_cons, List.flatMap_append, List.cons_append, List.cons_append]
    refine List.Perm.cons e ?_
    refine (List.Perm.append_left _ ih).trans ?_
    rw [← List.append_assoc, ← List.append_assoc]
    exact List.Perm.append_right _ List.perm_append_comm
def lv (n : Node) : Nat → List PN
  | 0 => [([], n)]
  | t + 1 => (lv n t).flatMap kidsOf
def rowsN (n : Node) : Nat → List PN
  | 0 => []
  | t + 1 => rowsN n t ++ lv n t
theorem rows_perm (n : Node) : ∀ t, (pre [] n).Perm (rowsN n t ++ (lv n t).flatMap preE)
  | 0 => by
    show (pre [] n).Perm ([] ++ [([], n)].flatMap preE)
    simp [preE]
  | t + 1 => by
    refine (rows_perm n t).trans ?_
    show (rowsN n t ++ (lv n t).flatMap preE).Perm (rowsN n t ++ lv n t ++ ((lv n t).flatMap kidsOf).flatMap preE)
    rw [List.append_assoc]
    exact List.Perm.append_left _ (flat_perm (lv n t))
theorem lv_len (n : Node) : ∀ t, ∀ x ∈ lv n t, x.1.length = t
  | 0, x, h => by
    rw [List.mem_singleton.mp h]
    rfl
  | t + 1, x, h => by
    obtain ⟨y, hy, hx⟩ := List.mem_flatMap.mp h
    obtain ⟨i, hi, rfl⟩ := List.mem_mapIdx.mp hx
    simp [lv_len n t y hy]
theorem lv_mem (n : Node) (t : Nat) (x : PN) (h : x ∈ lv n t) : x ∈ pre [] n := by
  refine (rows_perm n (t + 1)).mem_iff.mpr (List.mem_append_left _ (List.mem_append_right _ h))
theorem rows_all {n : Node} (h : ∀ x ∈ pre [] n, x.1.length ≤ 6) : (pre [] n).Perm (rowsN n 7) := by
  have e : lv n 7 = [] := by
    cases q : lv n 7 with
    | nil => rfl
    | cons x l =>
      have hm : x ∈ lv n 7 := by rw [q]; exact List.mem_cons_self ..
      have h1 := lv_len n 7 x hm
      have h2 := h x (lv_mem n 7 x hm)
      omega
  have := rows_perm n 7
  rw [e] at this
  simpa using this
theorem paths_sorted (n : Node) : ((pre [] n).map (·.1)).Pairwise fun a b => HT.lexLt b a = false := by
  rw [List.pairwise_map]
  exact (pre_sorted _ ([], n) (Nat.le_refl _)).imp fun h => lex_asym _ _ h
/-! ### isinstance of a caught error whose class is told by what was wished -/
section
variable {X : Cx}
def rIsX (K : PySem.W.Frag) (cls : Value) (a : Addr) : List V → Hp → VK → Prop := fun xs H Q => ∃ (c : V) (cv : Value) (b : Bool), xs = [.ref a, c] ∧ (∀ u, RelV c u → u = cv) ∧ PySem.W.kitOne K cls cv = some b ∧ Q (.bl b) H
theorem call_isX {a : Addr} {oe : Obj} {cls : Value} {d : Option Addr} {pn : List (Addr × Obj)} (z : ∃ D, cls = .ref D ∧ d = none ∧ ExcC X.K D) (hz : Zc cls d oe) (hf : ∃ vs, oe.data = .fields vs) : CallR (X.suite a ((a, oe) :: pn)) (.builtin "isinstance") (rIsX X.K cls a) := by
  obtain ⟨D, rfl, rfl, C⟩ := z
  exact call_isE C hz hf
end
theorem kit_ref {K : PySem.W.Frag} {D C : Addr} {b : Bool} (h : PySem.W.hasDictIn K C = true) (t : PySem.W.typeIn K (.ref C) = some (.type "type")) (s : PySem.W.subIn K (.ref D) (.ref C) = some b) (r : PySem.W.subIn K (.ref D) (.ref D) = some true) : PySem.W.kitOne K (.ref D) (.ref C) = some b := by
  unfold PySem.W.kitOne
  by_cases e : D = C
  · subst e
    rw [r] at s
    cases s
    simp
  · have e1 : (Value.ref D == Value.ref C) = false := by simp [e]
    rw [e1]
    obtain ⟨cd, hc, _⟩ := PySem.W.any_some h
    have e2 : ((PySem.W.clsIn K C).isSome && PySem.W.typeIn K (.ref C) == some (.type "type")) = true := by rw [hc, t] <;> rfl
    show (if false = true then some true else PySem.W.kitCls K (.ref D) (.ref C)) = some b
    rw [if_neg (by decide)]
    unfold PySem.W.kitCls
    simp only [e2, if_true]
    exact s
theorem rows_head (n : Node) : ∀ t, (rowsN n (t + 1))[0]? = some ([], n)
  | 0 => rfl
  | t + 1 => by
    show (rowsN n (t + 1) ++ lv n (t + 1))[0]? = _
    have h := rows_head n t
    have l := (List.getElem?_eq_some_iff.mp h).1
    rw [List.getElem?_append_left l]
    exact h
theorem rows_len (n : Node) (t : Nat) : (rowsN n t).length ≤ (pre [] n).length := by
  have := (rows_perm n t).length_eq
  rw [List.length_append] at this
  omega
theorem lv_le (n : Node) (t : Nat) : (lv n t).length ≤ (pre [] n).length := by
  have := rows_len n (t + 1)
  have e : (rowsN n (t + 1)).length = (rowsN n t).length + (lv n t).length := by
    show (rowsN n t ++ lv n t).length = _
    rw [List.length_append]
  omega
theorem kids_mem_le {n : Node} {e : PN} (h : e ∈ pre [] n) : e.2.ks.length < (pre [] n).length := by
  obtain ⟨r, _, hf⟩ := pre_find _ ([], n) e (Nat.le_refl _) h
  have h1 := kids_le e
  rw [kids_len] at h1
  have h2 : ∀ (k : Nat) (a x : PN), (preE a).length ≤ k → x ∈ preE a → (preE x).length ≤ (preE a).length := by
    intro k
    induction k with
    | zero =>
      intro a x hl
      rw [preE_eq] at hl
      simp at hl
    | succ k ih =>
      intro a x hl hx
      rw [preE_eq] at hx
      rcases List.mem_cons.mp hx with rfl | hx
      · exact Nat.le_refl _
      · obtain ⟨c, hc, hx⟩ := List.mem_flatMap.mp hx
        have h1 : (preE c).length ≤ ((kidsOf a).flatMap preE).length := by
          rw [List.length_flatMap]
          exact le_sum (List.mem_map.mpr ⟨_, hc, rfl⟩)
        have h3 : (preE a).length = 1 + ((kidsOf a).flatMap preE).length := by rw [preE_eq]; simp; omega
        have := ih c x (by omega) hx
        omega
  have := h2 _ ([], n) e (Nat.le_refl _) h
  have e3 : (preE ([], n)).length = (pre [] n).length := rfl
  omega
/-! ### nodes of bounded height all of whose prices are P -/
def HP (P : List Pr → Prop) : Nat → Node → Prop
  | 0, n => P n.ps ∧ n.ks = []
  | m + 1, n => P n.ps ∧ ∀ k ∈ n.ks, HP P m k
theorem HP.ps {P : List Pr → Prop} : ∀ {m : Nat} {n : Node}, HP P m n → P n.ps
  | 0, _, h => h.1
  | _ + 1, _, h => h.1
theorem HP.up {P Q : List Pr → Prop} (f : ∀ l, P l → Q l) : ∀ {m : Nat} {n : Node}, HP P m n → HP Q (m + 1) n
  | 0, _, h => ⟨f _ h.1, fun k hk => by rw [h.2] at hk; cases hk⟩
  | _ + 1, _, h => ⟨f _ h.1, fun k hk => HP.up f (h.2 k hk)⟩
theorem HP.pre {P : List Pr → Prop} : ∀ {m : Nat} {e : PN}, HP P m e.2 → ∀ x ∈ preE e, P x.2.ps ∧ x.1.length ≤ e.1.length + m
  | 0, e, h, x, hx => by
    have hk : kidsOf e = [] := by
      unfold kidsOf
      rw [h.2]
      rfl
    rw [preE_eq, hk] at hx
    simp at hx
    subst hx
    exact ⟨h.1, by omega⟩
  | m + 1, e, h, x, hx => by
    rw [preE_eq] at hx
    rcases List.mem_cons.mp hx with rfl | hx
    · exact ⟨h.1, by omega⟩
    · obtain ⟨k, hk, hx⟩ := List.mem_flatMap.mp hx
      obtain ⟨i, hi, rfl⟩ := List.mem_mapIdx.mp hk
      have := HP.pre (e := (e.1 ++ [(i : Int)], e.2.ks[i])) (h.2 _ (List.getElem_mem hi)) x hx
      simp only [List.length_append, List.length_singleton] at this
      exact ⟨this.1, by omega⟩
mutual
def nsz : Node → Nat
  | .mk _ ks => 1 + nszs ks
def nszs : List Node → Nat
  | [] => 0
  | k :: r => nsz k + nszs r
end
theorem nsz_eq (n : Node) : nsz n = 1 + nszs n.ks := by
  cases n
  rw [nsz]
  rfl
theorem nszs_app : ∀ a b : List Node, nszs (a ++ b) = nszs a + nszs b
  | [], b => by simp [nszs]
  | x :: a, b => by
    rw [List.cons_append, nszs, nszs, nszs_app a b]
    omega
mutual
theorem pre_nsz (p : List Int) : ∀ n : Node, (pre p n).length = nsz n
  | .mk ps ks => by
    rw [pre, nsz, List.length_cons, pres_nsz p 0 ks]
    omega
theorem pres_nsz (p : List Int) (i : Nat) : ∀ ks : List Node, (pres p i ks).length = nszs ks
  | [] => rfl
  | n :: r => by
    rw [pres, nszs, List.length_append, pre_nsz _ n, pres_nsz p (i + 1) r]
end
theorem nv_hp {g : Int} (h4 : g ≤ 4) : ∀ {m : Nat} {n : Node}, NV g m n → HP (fun l => (∀ p ∈ l, PrK 201 p) ∧ l.length ≤ 3) m n
  | 0, n, h => ⟨⟨h.1.b, by have := h.1.len; omega⟩, h.2⟩
  | m + 1, n, h => ⟨⟨h.1.b, by have := h.1.len; omega⟩, fun k hk => nv_hp h4 (h.2.2.2 k hk)⟩
theorem find_app : ∀ (p q : List Int) (n m : Node), find n p = some m → find n (p ++ q) = find m q
  | [], q, n, m, h => by
    cases h
    rfl
  | i :: p, q, n, m, h => by
    by_cases hi : 0 ≤ i ∧ i < (n.ks.length : Int)
    · obtain ⟨j, rfl⟩ := Int.eq_ofNat_of_zero_le hi.1
      have hk : n.ks[j]? = some n.ks[j] := List.getElem?_eq_getElem (by omega)
      rw [find_cons, hk] at h
      rw [List.cons_append, find_cons, hk]
      exact find_app p q _ m h
    · rw [find_out hi] at h
      cases h
theorem cut_drop (xs : List V) (k : Nat) : cutV xs (some (k : Int)) none = xs.drop k := by
  unfold cutV
  rw [HT.sIx_nat xs.length 0 k, HT.sIx_none]
  by_cases h : k ≤ xs.length
  · rw [Nat.min_eq_left h]
    exact List.take_of_length_le (by rw [List.length_drop]; omega)
  · rw [Nat.min_eq_right (by omega), List.drop_length, List.drop_eq_nil_of_le (by omega)]
    simp
theorem cut_take (xs : List V) (k : Nat) : cutV xs none (some (k : Int)) = xs.take k := by
  unfold cutV
  rw [HT.sIx_nat xs.length xs.length k, HT.sIx_none, List.drop_zero, Nat.sub_zero]
  by_cases h : k ≤ xs.length
  · rw [Nat.min_eq_left h]
  · rw [Nat.min_eq_right (by omega), List.take_length, List.take_of_length_le (by omega)]
theorem cmp_neg {p q : Int × Int} : cmpF p q < 0 ↔ p.1 * q.2 < q.1 * p.2 := by
  unfold cmpF
  constructor
  · intro h
    by_cases c : p.1 * q.2 < q.1 * p.2
    · exact c
    · rw [if_neg c] at h
      split at h <;> omega
  · intro h
    rw [if_pos h]
    decide
theorem bad_iff (p : Pr) : badPr p ↔ p.2.1 < 0 ∨ p.1.1 * p.2.2 < p.2.1 * p.1.2 := by
  unfold badPr
  rw [cmp_neg, cmp_neg]
  simp
end Nl

namespace Nl
open PySem PySem.Spec PyProof.Rows L2
/-! ### zip of three tuples -/
def It3 (K : PySem.W.Frag) (a b c : Addr) : It :=
  ⟨fun i H => ∃ xs ys zs : List V, SqT K H a xs ∧ SqT K H b ys ∧ SqT K H c zs ∧ i < min (min xs.length ys.length) zs.length,
    fun i H v H' => ∃ T x y z, v = .ref T ∧ H T = none ∧ H' = upd H T (.tup [x, y, z]) ∧ (∀ xs, SqT K H a xs → xs[i]? = some x) ∧ (∀ ys, SqT K H b ys → ys[i]? = some y) ∧ ∀ zs, SqT K H c zs → zs[i]? = some z,
    fun i H => ∃ xs ys zs : List V, SqT K H a xs ∧ SqT K H b ys ∧ SqT K H c zs ∧ i = min (min xs.length ys.length) zs.length⟩
theorem neA {x y : Nat} (h : x ≠ y) : @Ne Addr x y := h
theorem nin2 {x y z : Nat} (h1 : x ≠ y) (h2 : x ≠ z) : ¬ ((x : Addr) ∈ ([y, z] : List Addr)) := fun h => by
  rcases List.mem_cons.mp h with e | h
  · exact h1 e
  · exact h2 (List.mem_singleton.mp h)
def fp3 (I : Addr) : List Addr := [I + 5, I + 3, I + 4, I, I + 1, I + 2]
theorem fp3_cases {I d : Nat} (h : d ∈ fp3 I) : d = I + 5 ∨ d = I + 3 ∨ d = I + 4 ∨ d = I ∨ d = I + 1 ∨ d = I + 2 := by simpa [fp3] using h
theorem fp3_lt {I d n : Nat} (h : d ∈ fp3 I) (hn : I + 5 < n) : d < n := by
  rcases fp3_cases h with rfl | rfl | rfl | rfl | rfl | rfl <;> omega
theorem fp3_le {I d : Nat} (h : d ∈ fp3 I) : I ≤ d := by
  rcases fp3_cases h with rfl | rfl | rfl | rfl | rfl | rfl <;> omega
theorem fp3_nin {I d : Nat} (h : ¬ d ∈ fp3 I) : ¬ d ∈ ([I + 5, I + 4, I, I + 1, I + 2] : List Addr) := fun z => h (by
  simp only [fp3, List.mem_cons, List.not_mem_nil, or_false] at z ⊢
  rcases z with z | z | z | z | z
  · exact .inl z
  · exact .inr (.inr (.inl z))
  · exact .inr (.inr (.inr (.inl z)))
  · exact .inr (.inr (.inr (.inr (.inl z))))
  · exact .inr (.inr (.inr (.inr (.inr z)))))
theorem sep3 {I a b c : Nat} (h1 : a < I) (h2 : b < I) (h3 : c < I) : ZipSep3 (I + 5) (I + 3) (I + 4) I (I + 1) (I + 2) [I, a] [I + 1, b] [I + 2, c] := by
  constructor <;> first | exact neA (by omega) | exact nin2 (by omega) (by omega) | exact List.mem_cons_self
structure St3 (I a b c : Addr) (i : Nat) (h : Heap) : Prop where
  z : IsZip h (I + 5) (I + 3) (I + 4) .none
  ti : IsTupOf3 h (I + 3) (.ref I) (.ref (I + 1)) (.ref (I + 2))
  to : ∃ x y u, IsTupOf3 h (I + 4) x y u
  i1 : h.IsTupleIter I a i
  i2 : h.IsTupleIter (I + 1) b i
  i3 : h.IsTupleIter (I + 2) c i
theorem vals_at {xs : List V} {us : List Value} {i : Nat} {u : Value} (r : Vals xs us) (h : us.toArray[i]? = some u) : ∃ x, xs[i]? = some x ∧ RelV x u := by
  have hl := r.length
  have hlt : i < xs.length := by
    rcases Nat.lt_or_ge i xs.length with z | z
    · exact z
    · rw [Array.getElem?_eq_none (by rw [List.size_toArray]; omega)] at h
      cases h
  obtain ⟨u', e, rv⟩ := r.get (List.getElem?_eq_getElem hlt)
  have : us.toArray[i]? = us[i]? := by simp
  rw [this, e] at h
  cases h
  exact ⟨_, List.getElem?_eq_getElem hlt, rv⟩
theorem turn3 {P : Program} {w : World} {K : PySem.W.Frag} {elts : List Expr} {kk : Nat} {tpos : Pos} {I a b c : Addr} (ha : a < I) (hb : b < I) (hc : c < I) :
    Turn P w K (.Tuple elts kk tpos) (It3 K a b c) (fp3 I) (I + 5) (St3 I a b c) where
  mem := by simp [fp3]
  obj := fun i h st d hd => by
    obtain ⟨hz, hti, ⟨x, y, u, hto⟩, ⟨o1, e1, _, d1⟩, ⟨o2, e2, _, d2⟩, ⟨o3, e3, _, d3⟩⟩ := st
    have e' := fp3_cases hd
    rcases e' with rfl | rfl | rfl | rfl | rfl | rfl
    · exact ⟨_, hz, fun v q => nomatch q⟩
    · exact ⟨_, hti, fun v q => nomatch q⟩
    · exact ⟨_, hto, fun v q => nomatch q⟩
    · exact ⟨o1, e1, fun v q => by rw [d1] at q; cases q⟩
    · exact ⟨o2, e2, fun v q => by rw [d2] at q; cases q⟩
    · exact ⟨o3, e3, fun v q => by rw [d3] at q; cases q⟩
  keep := fun i h h' st k => by
    obtain ⟨hz, hti, ⟨x, y, u, hto⟩, h1, h2, h3⟩ := st
    exact ⟨k _ (by simp [fp3]) _ hz, k _ (by simp [fp3]) _ hti, ⟨x, y, u, k _ (by simp [fp3]) _ hto⟩, h1.at fun o q => k _ (by simp [fp3]) o q, h2.at fun o q => k _ (by simp [fp3]) o q, h3.at fun o q => k _ (by simp [fp3]) o q⟩
  item := by
    intro X hP hw hK hcalm i pins s σ H E J hf st hg
    subst hP hw hK
    obtain ⟨xs, ys, zs, qa, qb, qc, hlt⟩ := hg
    obtain ⟨ia, ra, pa, _⟩ := J.tuple qa
    obtain ⟨ib, rb, pb, _⟩ := J.tuple qb
    obtain ⟨ic, rc, pc, _⟩ := J.tuple qc
    have la := ra.length
    have lb := rb.length
    have lc := rc.length
    have hh : X.A.in1.handled = none := J.ok.hd hcalm
    have W := GoesN.zip3 (prog := X.prog) (w := X.w) (A := X.A) (elts := elts) (x1 := kk) (pos := tpos) (sep3 ha hb hc) (Draws.tuple hh I a (Nat.ne_of_lt ha) ia.toArray) (Draws.tuple hh (I + 1) b (Nat.ne_of_lt (Nat.lt_succ_of_lt hb)) ib.toArray) (Draws.tuple hh (I + 2) c (Nat.ne_of_lt (Nat.lt_succ_of_lt (Nat.lt_succ_of_lt hc))) ic.toArray)
    obtain ⟨hz, hti, hto, h1, h2, h3⟩ := st
    have old : ∀ d ∈ fp3 I, d < s.heap.objs.size := fun d hd => fp3_lt hd (Heap.lt_size hz)
    refine W.goes i s _ _ (by simp only [List.size_toArray]; omega) ⟨hz, hti, hto, ⟨h1, pa⟩, ⟨h2, pb⟩, h3, pc⟩ fun v h' tk y st' hk htk => ?_
    obtain ⟨T, x, y, u, rfl, hT, hx, hy, hu, hTup⟩ := y
    obtain ⟨vx, ex, rx⟩ := vals_at ra hx
    obtain ⟨vy, ey, ry⟩ := vals_at rb hy
    obtain ⟨vu, eu, ru⟩ := vals_at rc hu
    obtain ⟨hz', hti', hto', ⟨h1', _⟩, ⟨h2', _⟩, h3', _⟩ := st'
    have new : ObjOk X.prog X.w (upd H T (.tup [vx, vy, vu])) h' T (.tup [vx, vy, vu]) :=
      ⟨by show 3 ≤ sizeLine; decide, [x, y, u], .cons rx (.cons ry (.cons ru .nil)), hTup⟩
    have J1 := J.turnedNew (t' := tk) (ch := fp3 I) (T := T) (fun d o hd q => hk d o (fp3_nin hd) q) hf hT new
    refine ⟨.ref T, _, J1, rfl, ⟨T, vx, vy, vu, rfl, J.hok.fresh hT, rfl, fun l hl => by rw [J.tuple_inj hl qa]; exact ex, fun l hl => by rw [J.tuple_inj hl qb]; exact ey, fun l hl => by rw [J.tuple_inj hl qc]; exact eu⟩, ⟨hz', hti', hto', h1', h2', h3'⟩, fun d hd => ?_⟩
    rw [upd_ne (Nat.ne_of_lt (Nat.lt_of_lt_of_le (old d hd) hT))]
    exact (hf d hd).1
  done := by
    intro X hP hw hK hcalm i pins s σ H E J hf st hg
    subst hP hw hK
    obtain ⟨xs, ys, zs, qa, qb, qc, he⟩ := hg
    obtain ⟨ia, ra, pa, _⟩ := J.tuple qa
    obtain ⟨ib, rb, pb, _⟩ := J.tuple qb
    obtain ⟨ic, rc, pc, _⟩ := J.tuple qc
    have la := ra.length
    have lb := rb.length
    have lc := rc.length
    have hh : X.A.in1.handled = none := J.ok.hd hcalm
    have W := GoesN.zip3 (prog := X.prog) (w := X.w) (A := X.A) (elts := elts) (x1 := kk) (pos := tpos) (sep3 ha hb hc) (Draws.tuple hh I a (Nat.ne_of_lt ha) ia.toArray) (Draws.tuple hh (I + 1) b (Nat.ne_of_lt (Nat.lt_succ_of_lt hb)) ib.toArray) (Draws.tuple hh (I + 2) c (Nat.ne_of_lt (Nat.lt_succ_of_lt (Nat.lt_succ_of_lt hc))) ic.toArray)
    obtain ⟨hz, hti, hto, h1, h2, h3⟩ := st
    have ei : i = min (min ia.toArray.size ib.toArray.size) ic.toArray.size := by simp only [List.size_toArray]; omega
    refine W.stops s _ _ (by rw [← ei]; exact ⟨hz, hti, hto, ⟨h1, pa⟩, ⟨h2, pb⟩, h3, pc⟩) fun h' tk hk htk => ?_
    exact J.turnedL (t' := tk) (ch := fp3 I) (fun d o hd q => hk d o (fp3_nin hd) q) hf
  self := fun A i s Q E st h => wpAny_pyIter_zip st.z h
def iZip3 (K : PySem.W.Frag) (ta : TA) : TI := fun σ H R => ta σ H fun vs H1 => ∃ a b c xs ys zs, vs = [.ref a, .ref b, .ref c] ∧ SqT K H1 a xs ∧ SqT K H1 b ys ∧ SqT K H1 c zs ∧ R (It3 K a b c) H1
theorem pi_zip3 {X : Cx} {e e2 e3 : Expr} {ta : TA} {p pos tpos : Pos} {elts : List Expr} {kk : Nat} (hg : Gl X "zip") (hm : X.mg "zip" = none) (ha : PA X [e, e2, e3] ta)
    (hs : starEach [e, e2, e3] X.env = (false, eval e X.env) :: starEach [e2, e3] X.env := by rfl) (hpl : (backTo pos (starEach [e2, e3] X.env)).any (·.1) = false := by rfl) :
    PI X (.Tuple elts kk tpos) (.Call (.Name "zip" p) [e, e2, e3] [] pos) (iZip3 X.K ta) := by
  refine ⟨fun pins s σ H R I h => ?_⟩
  refine Call_ (ld_blt I hg hm PyProof.Rows.boot_zip (PyProof.Rows.callWith_type1 (thn (ha.run pos pins s σ H _ I h) fun us s1 ⟨vs, H1, J, r1, a, b, c, xs, ys, zs, ex, qa, qb, qc, q⟩ => ?_) hs hpl))
  subst ex
  cases r1 with
  | cons r rr =>
    cases rr with
    | cons r' rr =>
      cases rr with
      | cons r'' rr =>
        cases rr
        cases r
        cases r'
        cases r''
        obtain ⟨ia, ra, pa, _⟩ := J.tuple qa
        obtain ⟨ib, rb, pb, _⟩ := J.tuple qb
        obtain ⟨ic, rc, pc, _⟩ := J.tuple qc
        obtain ⟨o1, ho1, _⟩ := id pa
        obtain ⟨o2, ho2, _⟩ := id pb
        obtain ⟨o3, ho3, _⟩ := id pc
        refine zip_begins3 (begins_tuple a ia.toArray) (begins_tuple b ib.toArray) (begins_tuple c ic.toArray) pa pb pc fun h' hz hti hto g1 g2 g3 hsz hk => wpAny_pyIter_zip hz ?_
        have J2 : Inv X pins σ H1 { s1 with heap := h' } := J.kept (t' := s1.toks) hk
        refine ⟨s1.heap.objs.size + 5, fp3 s1.heap.objs.size, _, _, H1, rfl, J2, turn3 (Heap.lt_size ho1) (Heap.lt_size ho2) (Heap.lt_size ho3), ⟨hz, hti, ⟨_, _, _, hto⟩, ⟨_, g1, rfl, rfl⟩, ⟨_, g2, rfl, rfl⟩, ⟨_, g3, rfl, rfl⟩⟩, fun d hd => ?_, q⟩
        have hle : s1.heap.objs.size ≤ d := fp3_le hd
        exact J.fpOk hle (J.hok.fresh hle)
theorem for_zip3 {K : PySem.W.Frag} {a b c : Addr} {xs ys zs : List V} {g : TG} {tb : TS} {D : Ends} {σ : L2.St} {H : Hp} (l1 : ys.length = xs.length) (l2 : zs.length = xs.length) (Pv : Nat → L2.St → Hp → Prop) (h0 : Pv 0 σ H) (hq : ∀ i σ H, Pv i σ H → SqT K H a xs ∧ SqT K H b ys ∧ SqT K H c zs)
    (hs : ∀ (i : Nat) (x y z : V) (T : Addr) (σ : L2.St) (H : Hp), xs[i]? = some x → ys[i]? = some y → zs[i]? = some z → Pv i σ H → H T = none → g (.ref T) σ (upd H T (.tup [x, y, z])) fun σ2 H2 => tb { D with nx := Pv (i + 1), ct := Pv (i + 1), bk := D.nx } σ2 H2)
    (hd : ∀ σ H, Pv xs.length σ H → D.nx σ H) :
    ∃ W : Nat → Nat → L2.St → Hp → Prop, (∃ m, W 0 m σ H) ∧ ∀ i m σ H, W i m σ H →
      ((It3 K a b c).stop i H ∧ D.nx σ H) ∨ ((It3 K a b c).go i H ∧ ∃ N : L2.St → Hp → Prop, (∀ σ' H', N σ' H' → ∃ m', m' < m ∧ W (i + 1) m' σ' H') ∧ ∀ v H', (It3 K a b c).yld i H v H' → g v σ H' fun σ2 H2 => tb { D with nx := N, ct := N, bk := D.nx } σ2 H2) := by
  refine ⟨fun i m σ H => m + i = xs.length ∧ Pv i σ H, ⟨xs.length, rfl, h0⟩, ?_⟩
  rintro i m σ H ⟨em, p⟩
  obtain ⟨qa, qb, qc⟩ := hq i σ H p
  by_cases hlt : i < xs.length
  · refine .inr ⟨⟨xs, ys, zs, qa, qb, qc, by omega⟩, Pv (i + 1), fun σ' H' p' => ⟨m - 1, by omega, by omega, p'⟩, ?_⟩
    rintro v H' ⟨T, x, y, z, rfl, hT, rfl, f1, f2, f3⟩
    exact hs i x y z T σ H (f1 xs qa) (f2 ys qb) (f3 zs qc) p hT
  · have e : i = xs.length := by omega
    subst e
    exact .inl ⟨⟨xs, ys, zs, qa, qb, qc, by omega⟩, hd σ H p⟩
end Nl

namespace Nl
open PySem PySem.Spec PyProof.Rows L2
/-! ### dicts whose keys are tuples, by a comprehension without tests -/
theorem put_tup {X : Cx} {pins : List (Addr × Obj)} {τ : L2.St} {H : Hp} {t : Shared} {F : Value → Shared → Prop} {D b : Addr} {kvs : List (List Key × V)} {k : List Key} {v : V} {r : Value} {R : Unit → Shared → Prop} (hu : X.A.units < cLine) (I : Inv X pins τ H t)
    (hD : H D = some (.dT kvs)) (hb : H b = some (.tup (k.map kV))) (hl : kvs.length < sizeLine) (rv : RelV v r) (fin : ∀ t', Inv X pins τ (upd H D (.dT (putK kvs k v))) t' → R () t') : wpAny (model X.prog X.w) X.A (dictSet D (.ref b) r) R F t := by
  obtain ⟨big, sys, xs, rel, dd⟩ := dt_of I.hok hD
  have hxs : xs.length ≤ sizeLine := by rw [← Paired.length rel]; exact big
  have grown := length_putK kvs k v
  refine wpAny_dictSet_heap (hsz := hxs) hu (key_of I.hok hb) dd (fun h' dd' sb => fin _ ?_)
  obtain ⟨q, es, ep, hq, a2, a3, a4, _, a5⟩ := dd'
  have kept : KT (upd H D (.dT (putK kvs k v))) (putK kvs k v) _ := (rel.put k hb rv).keeps fun c ys ec => by
    rw [upd_ne (ne_of ec hD (fun z => nomatch z))]
    exact ec
  exact d_write I (by rw [hD]; exact True.intro) sb ⟨q, hq⟩ ⟨by omega, sys, _, kept, q, es, ep, hq, a2, a3, a4, a5⟩
/-- {k: v for target in iter}: D the new dict -/
def tDcT (wi : TI) (g : TG) (tk tv : TE) (vs : List Nat) : TE := fun σ H Q => wi σ H fun J H1 => ∀ D, H1 D = none → ∃ W : Nat → Nat → Hp → Prop, (∃ m, W 0 m (upd H1 D (.dT []))) ∧ ∀ i m H, W i m H →
  (J.stop i H ∧ Q (.ref D) H) ∨ (J.go i H ∧ ∃ Nx : Hp → Prop, (∀ H', Nx H' → ∃ m', m' < m ∧ W (i + 1) m' H') ∧ ∀ x H', J.yld i H x H' → g x (wipe σ vs) H' fun σ2 H2 => wipe σ2 vs = wipe σ vs ∧
    tk σ2 H2 fun y H4 => tv σ2 H4 fun z H5 => ∃ kvs k b, y = .ref b ∧ H5 D = some (.dT kvs) ∧ H5 b = some (.tup (k.map kV)) ∧ kvs.length < sizeLine ∧ Nx (upd H5 D (.dT (putK kvs k z))))
theorem dcT_core {X : Cx} {pins : List (Addr × Obj)} {t0 : Shared} {τ : L2.St} {G : Hp} {Q : VK} {kx vx tg iter : Expr} {scope : Scope} {own : List (Str × Nat)} {pos pos' : Pos} {wi : TI} {g : TG} {tk tv : TE} {use : Option (Value → Sem Unit)} {Qf : Value → Shared → Prop}
    (calm : X.calm = true) (hu : X.A.units < cLine) (nd : X.N.Nodup) (I : Inv X pins τ G t0) (src : PI X tg iter wi) (ok : BlkOk X.N X.env.scope scope own)
    (ptg : ∀ (s : Shared) (H : Hp) (C : Addr) (cl : List (Str × Addr)) (fp : List Addr), PG (X.blk s H scope (compEnvC scope cl C X.env) fp) tg g)
    (pkey : ∀ (s : Shared) (H : Hp) (C : Addr) (cl : List (Str × Addr)) (fp : List Addr), PE (X.blk s H scope (compEnvC scope cl C X.env) fp) kx tk)
    (pval : ∀ (s : Shared) (H : Hp) (C : Addr) (cl : List (Str × Addr)) (fp : List Addr), PE (X.blk s H scope (compEnvC scope cl C X.env) fp) vx tv) (fold : ∀ x, foldedSetIterable iter X.env x = pure x)
    (goal : tDcT wi g tk tv (own.map (·.2)) τ G Q)
    (post : ∀ D C s' m H', Inv X pins τ H' s' → Q (.ref D) H' → s'.heap.Ns C m → FpOk X pins H' C → compPost (model X.prog X.w) X.A X.xe use Qf (.ref D) C (.ok .next) s') :
    wpAny (model X.prog X.w) X.A (comprehension (.DictComp kx vx [⟨tg, iter, [], 0⟩] scope pos) scope X.env pos' newDict false (eval iter X.env) use) Qf X.xe t0 := by
  have clos : ∀ y ∈ scope.names, y.2 = .free → ∃ c, X.env.cells.lookup y.1 = some c := fun y hy e => (ok.free y hy e).elim (fun k => I.ok.has _ (.inl k)) fun k => I.ok.has _ (.inr k)
  refine wpAny_comprehension_free (use := use) rfl fold (closure_ok clos) ok.kind (fun y hy e => by rw [ok.uniq y hy, e]) (thn (src.run pins t0 τ G _ I goal) fun itv t1 h1 => thn h1 fun itw t2 h2 => ?_)
  obtain ⟨it, fp, tn, J, G2, rfl, I2, turn, st2, f2, q⟩ := h2
  refine wpAny_newObj_type (newEnv_comp ?_)
  generalize eD : t2.heap.objs.size = D
  have newD : G2 D = none := I2.hok.fresh (Nat.le_of_eq eD)
  obtain ⟨W, ⟨m0, w0⟩, steps⟩ := q D newD
  generalize e3 : ({ t2 with heap := t2.heap.push { cls := .type "dict", data := .dict #[] } } : Shared) = t3
  have h3 : t3.heap = t2.heap.push { cls := .type "dict", data := .dict #[] } := by rw [← e3]
  have I3 : Inv X pins τ (upd G2 D (.dT [])) t3 := by
    subst e3 eD
    exact I2.laid (t' := t2.toks) (fun b o e => Heap.get?_push_of_some _ e) (Nat.le_refl _) (dt_empty t2.heap I2.big)
  have below : ∀ b ∈ fp, b < t2.heap.objs.size := fun b hb => (turn.obj _ _ st2 b hb).elim fun o e => Heap.lt_size e.1
  have f3 : ∀ b ∈ fp, FpOk X pins (upd G2 D (.dT [])) b ∧ b < t3.heap.objs.size := fun b hb => by
    refine ⟨⟨?_, (f2 b hb).2⟩, ?_⟩
    · rw [upd_ne (by rw [← eD]; exact Nat.ne_of_lt (below b hb))]
      exact (f2 b hb).1
    · rw [h3, Heap.size_push]
      exact Nat.lt_succ_of_lt (below b hb)
  have st3 : tn 0 t3.heap := turn.keep _ _ _ st2 fun b _ o e => by rw [h3]; exact Heap.get?_push_of_some _ e
  have I4 := block_start I3 ok nd f3
  have pt := ptg t3 (upd G2 D (.dT [])) t3.heap.objs.size (cellsFrom (t3.heap.objs.size + 1) scope.names (cloFrom X.env.cells scope.names [])) fp
  have pk := pkey t3 (upd G2 D (.dT [])) t3.heap.objs.size (cellsFrom (t3.heap.objs.size + 1) scope.names (cloFrom X.env.cells scope.names [])) fp
  have pv' := pval t3 (upd G2 D (.dT [])) t3.heap.objs.size (cellsFrom (t3.heap.objs.size + 1) scope.names (cloFrom X.env.cells scope.names [])) fp
  show codeAny _ _ (.compStart (.DictComp kx vx [⟨tg, iter, [], 0⟩] scope pos) 0 (.ref it) (.ref D) (compEnvC scope (cellsFrom (t3.heap.objs.size + 1) scope.names (cloFrom X.env.cells scope.names [])) t3.heap.objs.size X.env)) (compPost (model X.prog X.w) X.A X.xe use Qf (.ref D) t3.heap.objs.size) { t3 with heap := pushCells (t3.heap.push { cls := .type "dict", data := .dict #[] }) scope.names }
  have none3 : ∀ b ∈ fp, (upd G2 D (.dT [])) b = none := fun b hb => (f3 b hb).1.1
  generalize eC : compEnvC scope (cellsFrom (t3.heap.objs.size + 1) scope.names (cloFrom X.env.cells scope.names [])) t3.heap.objs.size X.env = ce at I4 pt pk pv' ⊢
  have loc : ce.locals = t3.heap.objs.size := by subst eC; rfl
  generalize eG : upd G2 D (.dT []) = G3 at I3 I4 pt pk pv' w0 none3 f3
  generalize e4 : ({ t3 with heap := pushCells (t3.heap.push { cls := .type "dict", data := .dict #[] }) scope.names } : Shared) = t4 at I4 ⊢
  have st4 : tn 0 t4.heap := turn.keep _ _ _ st3 fun b _ o e => by rw [← e4]; exact pushCells_keeps _ _ _ _ (Heap.get?_push_of_some _ e)
  have live : ∀ {τ' : L2.St} {H' : Hp} {s' : Shared}, Inv (X.blk t3 G3 scope ce fp) [] τ' H' s' → (∀ b ∈ fp, H' b = none) → ∀ b ∈ fp, FpOk (X.blk t3 G3 scope ce fp) [] H' b := fun {τ' H' s'} K' n b hb => by
    refine ⟨n b hb, (K'.ok.exf b hb).1, K'.ok.exfs b hb, .inl hb, fun x c e => (K'.ok.exf b hb).2 x c e, ?_⟩
    intro p hp
    exact absurd (show p ∈ ([] : List (Addr × Obj)) ++ [] from hp) (by simp)
  have loop : codeAny (model X.prog X.w) X.A (.compLoop (.DictComp kx vx [⟨tg, iter, [], 0⟩] scope pos) 0 (.ref it) (.ref D) ce) (compPost (model X.prog X.w) X.A X.xe use Qf (.ref D) t3.heap.objs.size) t4 := by
    refine compLoop_anyD (fun n s' => ∃ i H', Inv (X.blk t3 G3 scope ce fp) [] (wipe τ (own.map (·.2))) H' s' ∧ tn i s'.heap ∧ (∀ b ∈ fp, H' b = none) ∧ W i n H') ?_ m0 ⟨0, G3, I4, st4, none3, w0⟩
    rintro n s5 ⟨i, H5, I5, st5, n5, w5⟩
    rcases steps i n H5 w5 with ⟨stop, qq⟩ | ⟨go, Nx, hNx, step⟩
    · refine thnF (turn.done (X.blk t3 G3 scope ce fp) rfl rfl rfl calm i [] s5 _ H5 (fun _ _ => False) I5 (live I5 n5) st5 stop) fun r s6 ⟨er, I6⟩ => ?_
      subst er
      have back : Inv X pins τ H5 s6 := I3.call' (ch := fp) I6.os I6.base I6.hok I6.bare fun b hb => ⟨(f3 b hb).1.2.2.2.1, (f3 b hb).1.2.1, (f3 b hb).1.2.2.2.2.1, (f3 b hb).1.2.2.2.2.2⟩
      have nC : H5 t3.heap.objs.size = none := by rw [← loc]; exact I6.free
      obtain ⟨m, hn, _⟩ := I6.loc
      refine post D t3.heap.objs.size s6 m H5 back qq ?_ (I3.fpOk (Nat.le_refl _) nC)
      rw [← loc]
      exact hn
    · refine thnF (turn.item (X.blk t3 G3 scope ce fp) rfl rfl rfl calm i [] s5 _ H5 (fun _ _ => False) I5 (live I5 n5) st5 go) fun r s6 ⟨u, er, h6⟩ => ?_
      subst er
      refine thnF h6 fun _ s7 ⟨x, H7, I7, r7, y7, st7, n7⟩ => ?_
      have I7p := I7.pinned (live I7 n7) (turn.obj _ _ st7)
      refine thnF (pt.run _ s7 _ H7 x u _ I7p r7 (step x H7 y7)) fun _ s8 ⟨τ8, H8, I8, hw8, q8⟩ => ?_
      have fin : ∀ {s' : Shared} {H' : Hp}, Inv (X.blk t3 G3 scope ce fp) ([] ++ pinsAt fp s7.heap) τ8 H' s' → Nx H' → ∃ m, m < n ∧ ∃ i H', Inv (X.blk t3 G3 scope ce fp) [] (wipe τ (own.map (·.2))) H' s' ∧ tn i s'.heap ∧ (∀ b ∈ fp, H' b = none) ∧ W i m H' := fun {s' H'} I' nx => by
        obtain ⟨m', hm, w'⟩ := hNx H' nx
        have pin : ∀ b ∈ fp, ∀ o, s7.heap.get? b = some o → s'.heap.get? b = some o ∧ H' b = none := fun b hb o e => by
          have z := I'.pin (b, o) (List.mem_append_right _ (List.mem_append_right _ (mem_pinsAt hb e)))
          exact ⟨z.1, z.2.1⟩
        refine ⟨m', hm, i + 1, H', (I'.unpinned (pins := [])).weak (by rw [← hw8, wipe_length]) (fun j v e => ?_), turn.keep _ _ _ st7 fun b hb o e => (pin b hb o e).1, fun b hb => ?_, w'⟩
        · rw [← hw8] at e
          exact (wipe_some e).1
        · exact (turn.obj _ _ st7 b hb).elim fun o e => (pin b hb o e.1).2
      refine wpAny_pure ?_
      simp only [if_true]
      refine thnF (pk.run _ s8 τ8 H8 _ I8 q8) fun kv s10 ⟨yk, H10, I10, r10, q10⟩ => ?_
      refine thnF (pv'.run _ s10 τ8 H10 _ I10 q10) fun vv s11 ⟨yv, H11, I11, r11, kvs, k, b, ek, hD11, hb11, hz11, nx⟩ => ?_
      subst ek
      cases (show kv = Value.ref b from r10)
      exact put_tup (X := X.blk t3 G3 scope ce fp) hu I11 hD11 hb11 hz11 r11 fun s12 I12 => fin I12 nx
  exact codeAny_compStart_dict loop (turn.self X.A 0 _ _ _ st4 loop)
theorem pe_dcT {X : Cx} {kx vx tg iter : Expr} {scope : Scope} {own : List (Str × Nat)} {pos : Pos} {wi : TI} {g : TG} {tk tv : TE} (calm : X.calm = true) (hu : X.A.units < cLine) (nd : X.N.Nodup) (src : PI X tg iter wi) (ok : BlkOk X.N X.env.scope scope own)
    (ptg : ∀ (s : Shared) (H : Hp) (C : Addr) (cl : List (Str × Addr)) (fp : List Addr), PG (X.blk s H scope (compEnvC scope cl C X.env) fp) tg g)
    (pkey : ∀ (s : Shared) (H : Hp) (C : Addr) (cl : List (Str × Addr)) (fp : List Addr), PE (X.blk s H scope (compEnvC scope cl C X.env) fp) kx tk)
    (pval : ∀ (s : Shared) (H : Hp) (C : Addr) (cl : List (Str × Addr)) (fp : List Addr), PE (X.blk s H scope (compEnvC scope cl C X.env) fp) vx tv) (fold : ∀ x, foldedSetIterable iter X.env x = pure x := by intro _; rfl) :
    PE X (.DictComp kx vx [⟨tg, iter, [], 0⟩] scope pos) (tDcT wi g tk tv (own.map (·.2))) := by
  refine ⟨fun pins s τ H Q I goal => ?_⟩
  rw [arm_eval_DictComp]
  refine dcT_core calm hu nd I src ok ptg pkey pval fold goal fun D C s' m H' J q hn f => ⟨m, hn, fun h'' sb => ?_⟩
  obtain ⟨f0, f1, f2, f3, f4, f5⟩ := f
  exact ⟨.ref D, H', J.turned (t' := s'.toks) (fun b o hb e => (sb.2 b hb).trans e) f0 f1 f3 f4 f5, rfl, q⟩
/-- name = {..} on one line, the name a local -/
theorem ps_setDcT {X : Cx} {i : Nat} {y : Str} {py : Pos} {kx vx tg iter : Expr} {scope : Scope} {own : List (Str × Nat)} {pos spos : Pos} {wi : TI} {g : TG} {tk tv : TE} (calm : X.calm = true) (hu : X.A.units < cLine) (nd : X.N.Nodup) (at_ : X.N[i]? = some y) (kind : X.env.scope.names.lookup y = some .local)
    (sw : swapsWith (.DictComp kx vx [⟨tg, iter, [], 0⟩] scope pos) (some (.Name y py)) spos.line X.env = pure true) (src : PI X tg iter wi) (ok : BlkOk X.N X.env.scope scope own)
    (ptg : ∀ (s : Shared) (H : Hp) (C : Addr) (cl : List (Str × Addr)) (fp : List Addr), PG (X.blk s H scope (compEnvC scope cl C X.env) fp) tg g)
    (pkey : ∀ (s : Shared) (H : Hp) (C : Addr) (cl : List (Str × Addr)) (fp : List Addr), PE (X.blk s H scope (compEnvC scope cl C X.env) fp) kx tk)
    (pval : ∀ (s : Shared) (H : Hp) (C : Addr) (cl : List (Str × Addr)) (fp : List Addr), PE (X.blk s H scope (compEnvC scope cl C X.env) fp) vx tv) (fold : ∀ x, foldedSetIterable iter X.env x = pure x := by intro _; rfl) :
    PS X (.Assign [.Name y py] (.DictComp kx vx [⟨tg, iter, [], 0⟩] scope pos) spos) (tAsg (tDcT wi g tk tv (own.map (·.2))) (gName i)) := by
  refine ⟨fun pins s τ H D I goal => ?_⟩
  rw [exec_Assign_Name_used _ _ _ _ sw]
  refine wpAny_bind (wpAny_standAt (wpAny_bind ?_))
  show wpAny _ X.A (do let _ ← comprehension (.DictComp kx vx [⟨tg, iter, [], 0⟩] scope pos) scope X.env (firstIterPos [⟨tg, iter, [], 0⟩] pos) newDict false (eval iter X.env) (some (assign (.Name y py) X.env))) _ _ s
  have goal : tDcT wi g tk tv (own.map (·.2)) τ H (fun x H1 => gName i x τ H1 D.nx) := goal
  refine wpAny_bind (thn (dcT_core (Qf := fun _ s' => SP X pins D .next s') calm hu nd I src ok ptg pkey pval fold goal fun L C s' m H' J q hn f => ?_) fun _ s' hq => wpAny_pure (wpAny_pure hq))
  show wpAny _ _ (assign (.Name y py) X.env (.ref L)) _ _ _
  refine wpAny_assign_Name (store_ok2 (v := V.ref L) J nd at_ (.inl kind) rfl (fun s2 J2 ⟨a, sb, ha⟩ => ?_) (.inr kind))
  obtain ⟨f0, f1, f2, f3, f4, f5⟩ := f
  have apart : C ≠ a := by
    rcases ha with z | z
    · rw [z]
      exact f1
    · exact fun e => f4 y a z e.symm
  refine ⟨m, hn.sameBut sb apart, fun h3 sb3 => ?_⟩
  exact ⟨_, H', J2.turned (t' := s2.toks) (fun b o hb e => (sb3.2 b hb).trans e) f0 f1 f3 f4 f5, q⟩
theorem sw_dict {kx vx : Expr} {gs : List Comprehension} {scope : Scope} {pos py : Pos} {y : Str} {l : Nat} {env : Env} (kind : env.scope.kind = .function) (loc : env.scope.names.lookup y = some .local) (line : (py.line == pos.line) = true)
    (other : (scope.names.any fun (n, k) => n == y && (k == .local || k == .cell)) = false) : swapsWith (.DictComp kx vx gs scope pos) (some (.Name y py)) l env = pure true := by
  have k1 : env.kindOf y = some .local := loc
  have k2 : env.blockKind = .function := by
    unfold Env.blockKind
    rw [kind]
    rfl
  unfold swapsWith
  simp only [k2, k1, other, Expr.pos, line]
  rfl
end Nl

namespace Nl
open PySem PySem.Spec PyProof.Rows L2
def Sh (k : Nat) (d : PyData) : Prop := d.canLay0 = true ∧ d.depth ≤ k
theorem Sh.shaped {k : Nat} {d : PyData} (h : Sh k d) (hk : k ≤ 64 := by decide) : SeqAt.shaped d = true := by
  unfold SeqAt.shaped
  rw [h.1, decide_eq_true (Nat.le_trans h.2 hk)]
  rfl
theorem Sh.int {i : Int} {k : Nat} : Sh k (.int i) := ⟨rfl, Nat.zero_le _⟩
theorem Sh.non {k : Nat} : Sh k .none := ⟨rfl, Nat.zero_le _⟩
theorem sh_all {k : Nat} : ∀ {ds : List PyData}, (∀ d ∈ ds, Sh k d) → PyData.canLayAll0 ds = true ∧ PyData.depthAll ds ≤ k
  | [], _ => ⟨rfl, Nat.zero_le _⟩
  | d :: ds, h => by
    have h1 := h d (by simp)
    have h2 := sh_all (ds := ds) fun x hx => h x (List.mem_cons_of_mem _ hx)
    refine ⟨?_, ?_⟩
    · rw [PyData.canLayAll0, h1.1, h2.1]
      rfl
    · rw [PyData.depthAll]
      exact Nat.max_le.mpr ⟨h1.2, h2.2⟩
theorem Sh.tup {k : Nat} {ds : List PyData} (h : ∀ d ∈ ds, Sh k d) : Sh (k + 1) (.tuple ds) := by
  obtain ⟨h1, h2⟩ := sh_all h
  refine ⟨?_, ?_⟩
  · rw [PyData.canLay0]
    exact h1
  · rw [PyData.depth]
    omega
theorem Sh.ne {k : Nat} {d : PyData} (h : Sh k d) : (!PyData.eqv d d) = false := by
  rw [SeqAt.eqv_refl d h.1]
  rfl
theorem Sh.eq {k : Nat} {d : PyData} (h : Sh k d) : PyData.eqv d d = true := SeqAt.eqv_refl d h.1
theorem sh_path (p : List Int) : Sh 1 (pathD p) := Sh.tup (k := 0) fun d hd => by
  obtain ⟨i, _, rfl⟩ := List.mem_map.mp hd
  exact .int
theorem sh_fr (q : Int × Int) : Sh 1 (frD q) := Sh.tup (k := 0) fun d hd => by
  rcases List.mem_cons.mp hd with rfl | hd
  · exact .int
  · rw [List.mem_singleton.mp hd]
    exact .int
theorem sh_pr (p : Pr) : Sh 2 (prD p) := Sh.tup (k := 1) fun d hd => by
  rcases List.mem_cons.mp hd with rfl | hd
  · exact sh_fr _
  · rw [List.mem_singleton.mp hd]
    exact sh_fr _
theorem sh_paths {α : Type} (l : List α) (f : α → List Int) : Sh 2 (.tuple (l.map fun e => pathD (f e))) := Sh.tup (k := 1) fun d hd => by
  obtain ⟨e, _, rfl⟩ := List.mem_map.mp hd
  exact sh_path _
/-! ### nodes all of whose ends have one time -/
def UD : Nat → Node → Prop
  | 0, n => n.ks = []
  | m + 1, n => n.ks ≠ [] ∧ ∀ k ∈ n.ks, UD m k
theorem ud_ends : ∀ (m : Nat) (e : PN), UD m e.2 → ∀ x ∈ preE e, x.2.ks = [] → x.1.length = e.1.length + m
  | 0, e, h, x, hx, _ => by
    have hk : kidsOf e = [] := by
      unfold kidsOf
      rw [show e.2.ks = [] from h]
      rfl
    rw [preE_eq, hk] at hx
    simp at hx
    subst hx
    rfl
  | m + 1, e, h, x, hx, hz => by
    rw [preE_eq] at hx
    rcases List.mem_cons.mp hx with rfl | hx
    · exact (h.1 hz).elim
    · obtain ⟨k, hk, hx⟩ := List.mem_flatMap.mp hx
      obtain ⟨i, hi, rfl⟩ := List.mem_mapIdx.mp hk
      have := ud_ends m (e.1 ++ [(i : Int)], e.2.ks[i]) (h.2 _ (List.getElem_mem hi)) x hx hz
      simp only [List.length_append, List.length_singleton] at this
      omega
theorem ud_lens {m : Nat} {n : Node} (h : UD m n) : ∀ a ∈ endLens n, a = m := by
  intro x hx
  obtain ⟨e, he, rfl⟩ := List.mem_map.mp hx
  obtain ⟨he1, he2⟩ := List.mem_filter.mp he
  have := ud_ends m ([], n) h e he1 (List.isEmpty_iff.mp he2)
  simpa using this
/-- nodes without goods -/
theorem bare_ok {m : Nat} {n : Node} (h : HP (fun l => l = []) m n) (u : UD m n) : ¬ BadM 1 n := by
  rintro (z | ⟨e, he, z⟩ | ⟨x, hx, y, hy, z⟩)
  · exact z (by decide)
  · have := (HP.pre (e := ([], n)) h e he).1
    rw [this] at z
    rcases z with z | ⟨p, hp, _⟩
    · simp at z
    · cases hp
  · exact z ((ud_lens u x hx).trans (ud_lens u y hy).symm)
theorem bare_small {m : Nat} {n : Node} (u : UD m n) (hs : nsz n ≤ 40) (hm : m ≤ 5) : ¬ BigM n := by
  rintro (z | ⟨x, hx, z⟩)
  · rw [pre_nsz] at z
    omega
  · have := ud_lens u x hx
    omega
theorem bare_b {m : Nat} {n : Node} (h : HP (fun l => l = []) m n) : NodeB n := fun e he p hp => by
  have := (HP.pre (e := ([], n)) h e he).1
  rw [this] at hp
  cases hp
theorem big_count {n : Node} (h : 40 < nsz n) : BigM n := .inl (by rw [pre_nsz]; exact h)
theorem big_time {m : Nat} {n : Node} (u : UD m n) (h : 5 < m) : BigM n := by
  have hp := ends_pos n
  refine .inr ⟨(endLens n)[0], List.getElem_mem hp, ?_⟩
  rw [ud_lens u _ (List.getElem_mem hp)]
  exact h
def rowN : Nat → Node
  | 0 => .mk [] []
  | k + 1 => .mk [] [rowN k]
theorem row_hp : ∀ k, HP (fun l => l = []) k (rowN k)
  | 0 => ⟨rfl, rfl⟩
  | k + 1 => ⟨rfl, fun x hx => by rw [List.mem_singleton.mp hx]; exact row_hp k⟩
theorem row_ud : ∀ k, UD k (rowN k)
  | 0 => rfl
  | k + 1 => ⟨(by intro h; cases h), fun x hx => (by rw [List.mem_singleton.mp hx]; exact row_ud k)⟩
theorem row_sz : ∀ k, nsz (rowN k) = k + 1
  | 0 => rfl
  | k + 1 => by
    rw [rowN, nsz, nszs, nszs, row_sz k]
    omega
def wideN (k : Nat) : Node := .mk [] (List.replicate k (rowN 0))
theorem wide_hp (k : Nat) : HP (fun l => l = []) 1 (wideN k) := ⟨rfl, fun x hx => by rw [(List.mem_replicate.mp hx).2]; exact row_hp 0⟩
theorem wide_ud {k : Nat} (h : 0 < k) : UD 1 (wideN k) := ⟨fun z => by
  have : (List.replicate k (rowN 0)).length = 0 := by rw [show List.replicate k (rowN 0) = [] from z]; rfl
  rw [List.length_replicate] at this
  omega, fun x hx => by rw [(List.mem_replicate.mp hx).2]; exact row_ud 0⟩
theorem wide_sz (k : Nat) : nsz (wideN k) = k + 1 := by
  have : ∀ k, nszs (List.replicate k (rowN 0)) = k := by
    intro k
    induction k with
    | zero => rfl
    | succ k ih => rw [List.replicate_succ, nszs, ih]; show 1 + k = k + 1; omega
  rw [wideN, nsz, this]
  omega
theorem find_neg (n : Node) : find n [-1] = none := find_out fun z => by omega
theorem find_end {n m : Node} {p : List Int} (h : find n p = some m) : find n (p ++ [(m.ks.length : Int)]) = none := by
  rw [find_app p _ n m h]
  exact find_out fun z => by omega
end Nl

namespace Nl
open PySem PySem.Spec PyProof.Rows L2 LamX NdefX
/-! ### a function that is handed on: its captured cell stands still while the call runs -/
theorem mod_up {K : PySem.W.Frag} {mg : Str → Option Value} {h h' : Heap} (m : Mod K mg h) (k : ∀ b o, h.get? b = some o → h'.get? b = some o) : Mod K mg h' :=
  ⟨m.kin.keeps k, m.glob.keeps k, let ⟨mb, n, e⟩ := m.blt; ⟨mb, n.keeps k, e⟩, m.nolimit.keeps k⟩
section
variable {X : Cx} {pins : List (Addr × Obj)} {τ : L2.St} {H : Hp} {s : Shared} {x : Str} {c : Addr} {u : Option Value}
theorem cell_noframe (I : Inv X pins τ H s) (hfn : X.fn x = true) (hc : X.env.cells.lookup x = some c) : c ∉ frs X.stack := fun hm => by
  rcases List.mem_cons.mp (I.stkSub c hm) with e | hb
  · exact I.cne x c hc e
  · obtain ⟨_, o, ho, _⟩ := I.ok.funs.mem hb
    exact absurd (Nat.lt_of_lt_of_le (Heap.lt_size ho) (I.ok.cab x c hfn hc)) (Nat.lt_irrefl _)
theorem env0_cell (I : Inv X pins τ H s) (hfn : X.fn x = true) (hc : X.env.cells.lookup x = some c) (hu : s.heap.IsCell c u) :
    ∃ B : Heap, (∀ b o, X.base.get? b = some o → B.get? b = some o) ∧ B.IsCell c u ∧ Env0 X.prog X.w X.K X.mg B X.A X.stack s H := by
  obtain ⟨l, hl⟩ : ∃ l : List Addr, l = (List.range s.heap.objs.size).filter fun b => !((X.base.get? b).isSome || decide (b = c)) := ⟨_, rfl⟩
  have out : ∀ b, ((X.base.get? b).isSome || decide (b = c)) = true → b ∉ l := fun b hb hm => by
    rw [hl] at hm
    have z := (List.mem_filter.mp hm).2
    rw [hb] at z
    cases z
  have keep : ∀ b o, X.base.get? b = some o → (PySem.W.hideAll s.heap l).get? b = some o := fun b o e => PySem.W.hideAll_get l (I.bk b o e) (out b (by rw [e]; rfl))
  obtain ⟨oc, hoc, hd⟩ := id hu
  have inn : ∀ b o, (PySem.W.hideAll s.heap l).get? b = some o → s.heap.get? b = some o ∧ ((X.base.get? b).isSome = true ∨ b = c) := fun b o e => by
    have z := PySem.W.of_hideAll l e
    refine ⟨z, ?_⟩
    cases q : (X.base.get? b).isSome with
    | true => exact .inl rfl
    | false =>
      refine .inr (Decidable.byContradiction fun ne => ?_)
      rw [PySem.W.hideAll_none l (by
        rw [hl]
        exact List.mem_filter.mpr ⟨List.mem_range.mpr (Heap.lt_size z), by rw [q, decide_eq_false ne]; rfl⟩)] at e
      cases e
  refine ⟨PySem.W.hideAll s.heap l, keep, ⟨oc, PySem.W.hideAll_get l hoc (out c (by simp)), hd⟩, ?_⟩
  have e0 := I.env0
  refine ⟨e0.frames, mod_up e0.mod keep, fun b o e => ?_, Nat.le_of_eq (PySem.W.hideAll_size l s.heap), funFrames_none e0.funs fun L hL => ?_, e0.frf, e0.hok, e0.bare⟩
  · obtain ⟨h1, h2 | h2⟩ := inn b o e
    · obtain ⟨o', ho'⟩ := Option.isSome_iff_exists.mp h2
      exact ⟨h1, (I.bs b o' ho').2⟩
    · subst h2
      exact ⟨h1, I.freeC x _ hc⟩
  · cases e : (PySem.W.hideAll s.heap l).get? L with
    | none => rfl
    | some o =>
      obtain ⟨_, h2 | h2⟩ := inn L o e
      · rw [(e0.funs.mem hL).1] at h2
        cases h2
      · subst h2
        exact (cell_noframe I hfn hc hL).elim
end
/-- the promise of a function value, its captured cells being what they are -/
structure HeldF (P : Program) (w : World) (K : PySem.W.Frag) (mg : Str → Option Value) (base : Heap) (k : Nat) (F : NF) (n : Nat) (sp : Sp) : Prop where
  len : ∀ vs H Q E, sp vs H Q E → vs.length = n
  run : ∀ (f : Addr) (A : Around) (outer : List Env) (s : Shared) (H : Hp) (us : List Value) (vs : List V) (Q : VK) (E : XK), Room k A → Env0 P w K mg base A outer s H → H f = some (FnO f F) → H F.c = some (CodeO F.c F.qual) → Vals vs us → sp vs H Q E →
    codeAny (model P w) A (.call (.ref f) ⟨us, []⟩) (CR CX0 outer P w H s Q E) s
/-- .. of a nested def with one captured name, whose cell stands in the ground -/
theorem held_of {P : Program} {w : World} {K : PySem.W.Frag} {mg : Str → Option Value} {base : Heap} {k : Nat} {F : NF} {ps : List Str} {y : Str} {c : Addr} {v : V} {u : Value} {sp : List (Option V) → Sp} (N : ∀ f, NOk P w K mg base CX0 k f F ps [y] sp) (hy : F.cl.lookup y = some c) (one : ∀ z d, F.cl.lookup z = some d → z = y)
    (hc : base.IsCell c (some u)) (rv : RelV v u) : HeldF P w K mg base k F ps.length (sp [some v]) where
  len := fun vs H Q E h => (N 0).len [some v] vs H Q E h
  run := fun f A outer s H us vs Q E hr e0 hf hco rr h => by
    obtain ⟨o, ho, hd⟩ := hc
    obtain ⟨h1, h2⟩ := e0.bs c o ho
    refine (N f).run A outer s H us vs [some v] Q E hr e0 hf hco ⟨rfl, fun z d e => ?_, fun z z' d e e' => ?_, fun i z e => ?_⟩ rr h
    · obtain rfl := one z d e
      rw [hy] at e
      cases e
      exact ⟨h2, _, o, h1, hd⟩
    · rw [one z d e, one z' d e']
    · cases i with
      | succ i => simp at e
      | zero =>
        have e : some y = some z := e
        cases e
        refine ⟨c, hy, fun v' e' => ?_⟩
        have e' : some (some v) = some (some v') := e'
        cases e'
        exact ⟨u, rv, o, h1, hd⟩
/-- f(..), f a name that holds such a function -/
def tCallH (i : Nat) (F : NF) (sp : Sp) (t : TA) : TE := fun σ H Q => ∃ f, σ[i]? = some (some (.ref f)) ∧ H f = some (FnO f F) ∧ t σ H fun vs H1 => H1 f = some (FnO f F) ∧ H1 F.c = some (CodeO F.c F.qual) ∧ sp vs H1 Q E0
theorem pe_callH {X : Cx} {k j i n : Nat} {F : NF} {sp : Sp} {x : Str} {e : Expr} {es : List Expr} {t : TA} {p pos : Pos} (Hd : HeldF X.prog X.w X.K X.mg X.base k F n sp) (hr : Room j X.A) (hk : k ≤ j) (at_ : X.N[i]? = some x) (vis : Vis X.env.scope x) (ha : PA X (e :: es) t)
    (d1 : (x == ("__debug__" : Str)) = false := by decide) (d2 : (x == ("__classdict__" : Str)) = false := by decide)
    (he : starEach (e :: es) X.env = (false, eval e X.env) :: starEach es X.env := by rfl) (hpl : (backTo pos (starEach es X.env)).any (·.1) = false := by rfl) : PE X (.Call (.Name x p) (e :: es) [] pos) (tCallH i F sp t) := by
  refine ⟨fun pins s τ H Q I h => ?_⟩
  obtain ⟨f, hs, hf, ht⟩ := h
  refine wpAny_Call_Name_kw (thn ((pe_var (pos := p) at_ vis d1 d2).run pins s τ H (fun v H1 => v = .ref f ∧ H1 = H) I ⟨.ref f, hs, rfl, rfl⟩) fun u s1 ⟨v, H1, J, r1, q1⟩ => ?_)
  obtain ⟨rfl, rfl⟩ := q1
  obtain rfl : u = Value.ref f := r1
  refine PySem.W.callWith_F (first := []) (fnAt_of J hf) (thn (ha.run pos pins s1 τ _ _ J ht) fun us s2 ⟨vs, H2, J2, r, h1, h2, q⟩ => ⟨fnAt_of J2 h1, ?_⟩) he hpl
  show wpAny _ _ (call (.ref f) us) _ _ _
  refine wpAny_call (codeAny_mono (Hd.run f X.A X.stack s2 H2 us vs Q E0 (hr.mono hk) J2.env0 h1 h2 r q) fun r s' hq => ?_)
  cases r with
  | error e => exact pass0 pins τ H2 s2 e s' J2 hq
  | ok fl =>
    cases fl with
    | ret u => exact J2.after hq
    | next => exact False.elim hq
    | brk => exact False.elim hq
    | cont => exact False.elim hq
end Nl

namespace Nl
open PySem PySem.Spec PyProof.Rows L2 LamX NdefX
/-! ### a nested def with one captured name and one parameter, which a comprehension captures -/
abbrev cellO : Obj := { cls := .type "cell", data := .cell none }
structure OneCell (N : List Str) (x y : Str) (sc : Scope) : Prop where
  kind : sc.kind = .function
  co : sc.isCoroutine = false
  gen : sc.isGenerator = false
  nd : N.Nodup
  at0 : N[0]? = some x
  at1 : N[1]? = some y
  kx : sc.names.lookup x = some .cell
  ky : sc.names.lookup y = some .free
  cells : ∀ n acc, cellsFrom n sc.names acc = (x, n) :: acc
  push : ∀ h : Heap, pushCells h sc.names = h.push cellO
  free : ∀ z ∈ sc.names, z.2 = .free → z.1 = y
  cell : ∀ z ∈ sc.names, z.2 = .cell → z.1 = x
abbrev envD (F : NF) (x : Str) (f L : Addr) : Env := PySem.W.envX F.qual F.scope L f (.ref F.c) ((x, L + 1) :: F.cl)
def dcx (CX : CXT) (P : Program) (w : World) (K : PySem.W.Frag) (mg : Str → Option Value) (base : Heap) (N : List Str) (F : NF) (x : Str) (f : Addr) (A : Around) (outer : List Env) (s : Shared) (H : Hp) (E : XK) : Cx where
  prog := P
  w := w
  K := K
  mg := mg
  base := base
  A := A.deeper (envD F x f s.heap.objs.size)
  N := N
  s_0 := s
  H_0 := H
  env := envD F x f s.heap.objs.size
  outer := outer
  stack := envD F x f s.heap.objs.size :: outer
  ex := []
  calm := true
  fn := fun _ => false
  pn := []
  xe := fun e s' => wpAny (model P w) (A.deeper (envD F x f s.heap.objs.size)) (leaving (envD F x f s.heap.objs.size) e) (fun _ s'' => CX outer H s E e s'') (fun e' s'' => CX outer H s E e' s'') s'
theorem newEnv_one {M : Model} {A : Around} {E : Value → Shared → Prop} {s : Shared} {sc : Scope} {N : List Str} {x y : Str} {globals : Addr} {cl : List (Str × Addr)} {v : Value} {qual : Str} {func : Option Addr} {code : Value} {builtins : Addr} {Q : Env → Shared → Prop} (S : OneCell N x y sc)
    (hQ : ∀ h' tk, h'.Ns s.heap.objs.size (fun _ => none) → h'.IsCell (s.heap.objs.size + 1) (some v) → (∀ b o, s.heap.get? b = some o → h'.get? b = some o) → Q (newEnv sc s.heap.objs.size globals ((x, s.heap.objs.size + 1) :: cl) qual func code none builtins) { s with heap := h', toks := tk }) :
    wpAny M A (newFunctionEnv sc globals cl [(x, v)] qual func code none builtins) Q E s := by
  simp only [newFunctionEnv, Option.isSome_none, Bool.false_eq_true, if_false]
  refine wpAny_bind (wpAny_alloc ?_)
  refine wpAny_bind (wpAny_layCells _ (fun name kind cells => by cases q : kind == NameKind.cell <;> simp [q]) _ _ _ _ ?_)
  rw [show ({ s with heap := s.heap.push { cls := .type "frame", data := .dict #[] } } : Shared).heap.objs.size = s.heap.objs.size + 1 from Heap.size_push .., S.cells, S.push]
  simp only [List.forIn_cons, List.forIn_nil]
  have c0 : ((s.heap.push { cls := .type "frame", data := .dict #[] }).push cellO).IsCell (s.heap.objs.size + 1) none := by
    refine ⟨cellO, ?_, rfl⟩
    have := Heap.get?_push_size (s.heap.push { cls := .type "frame", data := .dict #[] }) (o := cellO) rfl
    rw [Heap.size_push] at this
    exact this
  have n0 := ((Heap.Ns.new s.heap (.type "frame")).keeps fun b o e => Heap.get?_push_of_some cellO e)
  refine wpAny_bind (wpAny_bind (wpAny_bind (wpAny_storeName_cell (c := s.heap.objs.size + 1) S.kind S.kx (List.lookup_cons_self ..) c0 fun h' hc sb => wpAny_pure (wpAny_pure (wpAny_pure ?_)))))
  refine hQ h' _ (n0.sameBut sb (Nat.ne_of_lt (Nat.lt_succ_self _))) hc fun b o e => ?_
  have hlt := Heap.lt_size e
  exact (sb.2 b (Nat.ne_of_lt (Nat.lt_succ_of_lt hlt))).trans (Heap.get?_push_of_some _ (Heap.get?_push_of_some _ e))
section
variable {CX : CXT} {P : Program} {w : World} {K : PySem.W.Frag} {mg : Str → Option Value} {base : Heap} {N : List Str} {x y : Str} {F : NF} {f : Addr} {k : Nat} {sp : List (Option V) → Sp}
theorem inv_startD {A : Around} {outer : List Env} {s : Shared} {H : Hp} {E : XK} {v : V} {u : Value} {o : Option V} {h₁ : Heap} {tk : Nat} (S : OneCell N x y F.scope) (hd : A.handled = none) (e0 : Env0 P w K mg base A outer s H) (r : RelV v u) (C : CellsAt F.cl [y] [o] s.heap H)
    (hns : h₁.Ns s.heap.objs.size fun _ => none) (hc : h₁.IsCell (s.heap.objs.size + 1) (some u)) (kp : ∀ b o, s.heap.get? b = some o → h₁.get? b = some o) :
    Inv (dcx CX P w K mg base N F x f A outer s H E) [] (some v :: o :: List.replicate (N.length - 2) none) H { s with heap := h₁, toks := tk } := by
  have hN : 2 ≤ N.length := by
    have := (List.getElem?_eq_some_iff.mp S.at1).1
    omega
  have noA : ∀ b : Addr, ¬ b ∈ (dcx CX P w K mg base N F x f A outer s H E).ex := fun b z => absurd (show b ∈ ([] : List Addr) from z) (by simp)
  have cellK : ∀ {c : Addr} {v : Option Value}, s.heap.IsCell c v → h₁.IsCell c v := fun {c v} ⟨o, ho, hd⟩ => ⟨o, kp _ _ ho, hd⟩
  have old : ∀ z c, F.cl.lookup z = some c → c < s.heap.objs.size := fun z c e => by
    obtain ⟨_, v, q⟩ := C.all z c e
    exact q.lt
  have split : ∀ z c, (((x, s.heap.objs.size + 1) :: F.cl) : List (Str × Addr)).lookup z = some c → (z = x ∧ c = s.heap.objs.size + 1) ∨ (z ≠ x ∧ F.cl.lookup z = some c) := fun z c e => by
    rw [List.lookup_cons] at e
    by_cases q : z = x
    · rw [beq_iff_eq.mpr q] at e
      cases e
      exact .inl ⟨q, rfl⟩
    · rw [beq_eq_false_iff_ne.mpr q] at e
      exact .inr ⟨q, e⟩
  have apart : ∀ z z' c, (((x, s.heap.objs.size + 1) :: F.cl) : List (Str × Addr)).lookup z = some c → (((x, s.heap.objs.size + 1) :: F.cl) : List (Str × Addr)).lookup z' = some c → z = z' := fun z z' c e e' => by
    rcases split z c e with ⟨a, b⟩ | ⟨a, b⟩ <;> rcases split z' c e' with ⟨a', b'⟩ | ⟨a', b'⟩
    · rw [a, a']
    · have := old z' c b'
      rw [b] at this
      exact absurd this (Nat.not_lt.mpr (Nat.le_succ _))
    · have := old z c b
      rw [b'] at this
      exact absurd this (Nat.not_lt.mpr (Nat.le_succ _))
    · exact C.inj z z' c b b'
  have ne_xy : y ≠ x := fun z => by
    have := S.kx
    rw [← z, S.ky] at this
    cases this
  obtain ⟨cy, hcy, hvy⟩ := C.has 0 y rfl
  have hy' : (((x, s.heap.objs.size + 1) :: F.cl) : List (Str × Addr)).lookup y = some cy := by
    rw [List.lookup_cons, beq_eq_false_iff_ne.mpr ne_xy]
    exact hcy
  refine ⟨⟨e0.mod, S.kind, rfl, rfl, Nat.le_refl _, fun z z' c => apart z z' c, fun z hz => ?_, fun z c q _ => ?_, fun _ => hd, Around.frames_deeper e0.frames, .inr ⟨rfl, rfl⟩, fun b z => absurd z (noA b), e0.bs, e0.bsz, fun b _ _ => noA b,
      fun b z => absurd z (noA b), e0.funs, e0.frf⟩,
    rfl, e0.bare, Un.kept kp, ⟨_, hns, fun i z v' e1 e2 e3 => ?_⟩, fun z c e => ?_, e0.hok.fresh (Nat.le_refl _), fun z c e => ?_, fun q hq => absurd (show q ∈ ([] : List (Addr × Obj)) ++ [] from hq) (by simp), e0.hok.kept kp, ?_⟩
  · have hz : F.scope.names.lookup z = some .cell ∨ F.scope.names.lookup z = some .free := hz
    rcases hz with hz | hz
    · obtain rfl : z = x := S.cell _ (PySem.mem_of_lookup hz) rfl
      exact ⟨_, List.lookup_cons_self ..⟩
    · obtain rfl : z = y := S.free _ (PySem.mem_of_lookup hz) rfl
      exact ⟨cy, hy'⟩
  · have q : false = true := q
    cases q
  · have e1 : N[i]? = some z := e1
    match i, e1, e2 with
    | 0, e1, e2 =>
      rw [S.at0] at e1
      cases e1
      have e2 : some (some v) = some (some v') := e2
      cases e2
      exact ⟨u, r, .inr ⟨.inl S.kx, _, List.lookup_cons_self .., hc⟩⟩
    | 1, e1, e2 =>
      rw [S.at1] at e1
      cases e1
      have e2 : some o = some (some v') := e2
      cases e2
      obtain ⟨uy, ry, iy⟩ := hvy v' rfl
      exact ⟨uy, ry, .inr ⟨.inr S.ky, cy, hy', cellK iy⟩⟩
    | i + 2, e1, e2 =>
      rw [List.getElem?_cons_succ, List.getElem?_cons_succ, List.getElem?_replicate] at e2
      split at e2 <;> cases e2
  · rcases split z c e with ⟨_, rfl⟩ | ⟨_, b⟩
    · exact ⟨_, hc⟩
    · obtain ⟨v', q⟩ := (C.all z c b).2
      exact ⟨v', cellK q⟩
  · rcases split z c e with ⟨_, rfl⟩ | ⟨_, b⟩
    · exact e0.hok.fresh (Nat.le_succ _)
    · exact (C.all z c b).1
  · show _ = N.length
    rw [List.length_cons, List.length_cons, List.length_replicate]
    omega
theorem nokD_of (S : OneCell N x y F.scope) (hb : ∀ (doc pm ctv : Value) (us : List Value), us.length = 1 → bindArgs (F.fd doc pm ctv) ⟨us, []⟩ = pure ([x].zip us)) (len : ∀ ws vs H Q E, sp ws vs H Q E → vs.length = 1)
    (hbody : ∀ (A : Around) (outer : List Env) (s : Shared) (H : Hp) (v : V) (o : Option V) (Q : VK) (E : XK), Room k (A.deeper (envD F x f s.heap.objs.size)) → sp [o] [v] H Q E →
      ∃ t, PSs (dcx CX P w K mg base N F x f A outer s H E) F.body t ∧ t { nx := fun _ H' => Q .non H', rt := Q } (some v :: o :: List.replicate (N.length - 2) none) H) :
    NOk P w K mg base CX (k + 1) f F [x] [y] sp := by
  refine ⟨len, fun A outer s H us vs ws Q E hr e0 hf hc C r hsp => ?_⟩
  have hl := len _ _ _ _ _ hsp
  have lim : s.heap.NoLimit := e0.mod.nolimit.keeps fun b o e => (e0.bs b o e).1
  obtain ⟨od, sl, doc, pm, ctv, ho⟩ := fnO_at e0.hok hf
  obtain ⟨v, rfl⟩ : ∃ v, vs = [v] := by
    match vs, hl with
    | [v], _ => exact ⟨v, rfl⟩
  obtain ⟨o, rfl⟩ : ∃ o, ws = [o] := by
    match ws, C.len with
    | [o], _ => exact ⟨o, rfl⟩
  cases r with
  | cons r0 rr =>
    cases rr
    rename_i u
    refine codeAny_call_function hr.depth ho rfl S.co S.gen rfl (codeO_at e0.hok hc) ?_
    rw [hb doc pm ctv [u] rfl]
    refine wpAny_pure (newEnv_one S fun h₁ tk hns hcell kp => ⟨lim.keeps kp, ?_⟩)
    show codeAny _ _ (.func F.body (envD F x f s.heap.objs.size)) _ _
    refine codeAny_func ?_
    obtain ⟨t, ht, hq⟩ := hbody A outer s H v o Q E (hr.deeper _) hsp
    have I : Inv (dcx CX P w K mg base N F x f A outer s H E) [] (some v :: o :: List.replicate (N.length - 2) none) H { s with heap := h₁, toks := tk } := inv_startD S hr.hd e0 r0 C hns hcell kp
    refine wpAny_mono (ht.run [] _ _ H _ I hq) (fun fl s' hs => ?_) fun e s' hs => hs
    have fin : ∀ {σ' : L2.St} {H' : Hp} {v : V} {u : Value}, Inv (dcx CX P w K mg base N F x f A outer s H E) [] σ' H' s' → L2.RelV v u → Q v H' → CE outer P w H s Q u s' :=
      fun {σ' H' v u} J rv q => ⟨v, H', J.os, J.bare, J.base, J.hok, rv, q⟩
    cases fl with
    | ret u =>
      obtain ⟨v, σ', H', J, rv, q⟩ := hs
      exact fin J rv q
    | next =>
      obtain ⟨σ', H', J, q⟩ := hs
      exact fin (v := V.non) (u := Value.none) J rfl q
    | brk =>
      obtain ⟨_, _, _, q⟩ := hs
      exact False.elim q
    | cont =>
      obtain ⟨_, _, _, q⟩ := hs
      exact False.elim q
end
/-- a def of the text whose code object is at c -/
structure FunC (K : PySem.W.Frag) (x qual : Str) (st : Stmt) (f : Addr) (fd : FuncData) (c : Addr) : Prop where
  ex : ∃ (oc : Value) (od : Option Addr) (kV doc pm : Value) (an : Option Addr) (ct : Value) (osl : Array (Option Value)),
    fd = PySem.W.fnOf x qual (defArgs st) (defBody st) (defScope st) .none kV doc pm an (.ref c) ct ∧ K.lookup f = some ⟨oc, od, .func fd, osl⟩ ∧ PySem.W.codeIn K (.ref c) qual = true
theorem FunC.okX {P : Program} {w : World} {K : PySem.W.Frag} {mg : Str → Option Value} {base : Heap} {x qual : Str} {st : Stmt} {f c : Addr} {fd : FuncData} {N ps : List Str} {k : Nat} {sp : Sp} (F : FunC K x qual st f fd c) (S : FnScope N ps (defScope st)) (len : ∀ vs H Q E, sp vs H Q E → vs.length = ps.length)
    (body : ∀ (A : Around) (outer : List Env) (s : Shared) (H : Hp) (vs : List V) (Q : VK) (E : XK), Room k (A.deeper (envOfC qual (defScope st) s.heap.objs.size f (.ref c))) → sp vs H Q E →
      ∃ t, PSs (cxOf (L2.CX P w) P w K mg base N qual (defScope st) f (.ref c) A outer s H E) (defBody st) t ∧ t { nx := fun _ H' => Q .non H', rt := Q } (L2.start N vs) H) : FnOk P w K mg base (L2.CX P w) (k + 1) f fd ps sp := by
  obtain ⟨oc, od, kV, doc, pm, an, ct, osl, rfl, lk, hcd⟩ := F.ex
  exact fn_of lk hcd S len fun A outer s H vs Q E hr hsp => body A outer s H vs Q E hr hsp
/-- a call of a def of the text, in the ground with one cell more -/
def tCallG (i : Nat) (sp : Addr → V → Sp) (t : TA) : TE := fun σ H Q => ∃ z v, σ[i]? = some (some v) ∧ t σ H fun vs H1 => sp z v vs H1 Q E0
theorem pe_callG {X : Cx} {i k j : Nat} {f : Addr} {fd : FuncData} {ps : List Str} {x y : Str} {sp : Addr → V → Sp} {e : Expr} {es : List Expr} {t : TA} {p pos : Pos}
    (F : ∀ (z : Addr) (B : Heap) (c : Addr) (u : Value) (v : V), X.env.cells.lookup y = some c → RelV v u → B.IsCell c (some u) → (∀ b o, X.base.get? b = some o → B.get? b = some o) → FnOk X.prog X.w X.K X.mg B CX0 k f fd ps (sp z v))
    (hr : Room j X.A) (hk : k ≤ j) (hg : Gl X x) (hm : X.mg x = some (.ref f)) (hkp : PySem.W.keepIn X.K (.ref f) = true) (hb : Binds X.K fd ps []) (at_ : X.N[i]? = some y) (kind : X.env.scope.names.lookup y = some .cell) (hfn : X.fn y = true) (ha : PA X (e :: es) t)
    (hdb : (x == ("__debug__" : Str)) = false := by decide) (he : starEach (e :: es) X.env = (false, eval e X.env) :: starEach es X.env := by rfl) (hpl : (backTo pos (starEach es X.env)).any (·.1) = false := by rfl) :
    PE X (.Call (.Name x p) (e :: es) [] pos) (tCallG i sp t) := by
  refine ⟨fun pins s τ H Q I h => ?_⟩
  obtain ⟨z, v, hv, ht⟩ := h
  refine wpAny_Call_Name_kw (ld_glob I hg hm ?_ hdb)
  refine PySem.W.callWith_K (h₀ := X.base) I.ok.mod.kin hkp (thn (ha.run pos pins s τ H _ I ht) fun us s1 ⟨vs, H1, J, r, q⟩ => ⟨J.kIn, ?_⟩) he hpl
  obtain ⟨m, _, hl⟩ := J.loc
  obtain ⟨u, rv, look⟩ := hl i y v at_ hv (.inr (.inl kind))
  rcases look with ⟨z, _⟩ | ⟨_, c, hc, hcell⟩
  · have z : X.env.scope.names.lookup y = some .local := z
    rw [kind] at z
    cases z
  · obtain ⟨B, keep, hB, e0⟩ := env0_cell J hfn hc hcell
    have G := F z B c u v hc rv hB keep
    have hl : us.length = ps.length := by rw [← r.length]; exact G.len _ _ _ _ q
    refine wpAny_call (codeAny_mono (G.run X.A X.stack s1 H1 ⟨us, []⟩ us vs Q E0 (hr.mono hk) e0 (by have := hb s1 us J.kIn (by simpa using hl); simpa using this) r q) fun rr s' hq => ?_)
    cases rr with
    | error e => exact pass0 pins τ H1 s1 e s' J hq
    | ok fl =>
      cases fl with
      | ret u => exact J.after hq
      | next => exact False.elim hq
      | brk => exact False.elim hq
      | cont => exact False.elim hq
theorem HeldF.imp {P : Program} {w : World} {K : PySem.W.Frag} {mg : Str → Option Value} {base : Heap} {k n : Nat} {F : NF} {sp sp' : Sp} (h : HeldF P w K mg base k F n sp) (g : ∀ vs H Q E, sp' vs H Q E → sp vs H Q E) : HeldF P w K mg base k F n sp' :=
  ⟨fun vs H Q E q => h.len vs H Q E (g _ _ _ _ q), fun f A outer s H us vs Q E hr e0 hf hc r q => h.run f A outer s H us vs Q E hr e0 hf hc r (g _ _ _ _ q)⟩
/-- what a closure with one captured name holds -/
theorem clo_one {cells : List (Str × Addr)} {names : List (Str × NameKind)} {y : Str} {c : Addr} (only : ∀ z ∈ names, z.2 = .free → z.1 = y) (hy : (y, NameKind.free) ∈ names) (hc : cells.lookup y = some c) :
    (cloFrom cells names []).lookup y = some c ∧ ∀ z d, (cloFrom cells names []).lookup z = some d → z = y := by
  refine ⟨clo_has (fun z hz e => ⟨c, by rw [only z hz e]; exact hc⟩) hy hc, fun z d e => ?_⟩
  rcases cloFrom_mem (PySem.mem_of_lookup e) with hm | ⟨h1, _⟩
  · cases hm
  · exact only _ h1 rfl
theorem tp_ext {H H' : Hp} {a : Addr} {xs : List V} (s : ExtN H H') (h : Tp H a xs) : Tp H' a xs := s _ _ h fun _ z => nomatch z
theorem DT.ext {K : PySem.W.Frag} {H H' : Hp} {v : V} {d : PyData} (h : DT K H v d) (s : ExtN H H') : DT K H' v d := DT.mono (fun _ _ => tp_ext s) d v h
theorem DTs.ext {K : PySem.W.Frag} {H H' : Hp} {v : List V} {d : List PyData} (h : DTs K H v d) (s : ExtN H H') : DTs K H' v d := DTs.mono (fun _ _ => tp_ext s) d v h
theorem Same.ext {H H' : Hp} (s : Same H H') : ExtN H H' := fun b o h _ => s b o h
theorem TabsN.same {T : List NTab} {H H' : Hp} (h : TabsN T H) (s : Same H H') : TabsN T H' := h.ext s
end Nl

namespace Nl
open PySem PySem.Spec PyProof.Rows L2 LamX NdefX
theorem xt_keep {d b : Addr} {H H' : Hp} {o : HO} (i : IsL H d) (s : Xt d H H') (e : H b = some o) (n : ∀ ys, o ≠ .lst ys) : H' b = some o := s b o (fun z => by
  obtain ⟨ys, h⟩ := i
  rw [z, h] at e
  cases e
  exact n _ rfl) e
theorem TabN.xt {d P : Addr} {nm : Nat → Nat → Str} {H H' : Hp} (t : TabN H P nm) (i : IsL H d) (s : Xt d H H') : TabN H' P nm := by
  obtain ⟨ps, h1, h2, h3⟩ := t
  refine ⟨ps, xt_keep i s h1 (fun _ z => nomatch z), h2, fun pos cv hc => ?_⟩
  obtain ⟨c, e, h⟩ := h3 pos cv hc
  exact ⟨c, e, xt_keep i s h (fun _ z => nomatch z)⟩
theorem TabsN.xt {d : Addr} {T : List NTab} {H H' : Hp} (t : TabsN T H) (i : IsL H d) (s : Xt d H H') : TabsN T H' := fun p hp => TabN.xt (t p hp) i s
theorem Dst.ext {H H' : Hp} {pd ps : Addr} (h : Dst H pd ps) (s : ExtN H H') : Dst H' pd ps := by
  obtain ⟨i, r, ns, ⟨⟨sd, h1⟩, h2, h3, h4, h5⟩⟩ := h
  exact ⟨i, r, ns, ⟨⟨sd, s _ _ h1 fun _ z => nomatch z⟩, s _ _ h2 (fun _ z => nomatch z), h3, h4, h5⟩⟩
theorem Dst.isL' {H : Hp} {pd ps : Addr} (h : Dst H pd ps) : IsL H pd := by
  obtain ⟨i, r, ns, ⟨⟨sd, h1⟩, h2, h3, h4, h5⟩⟩ := h
  exact ⟨_, h1⟩
theorem Sh.lst {k : Nat} {ds : List PyData} (h : ∀ d ∈ ds, Sh k d) : Sh (k + 1) (.list ds) := by
  obtain ⟨h1, h2⟩ := sh_all h
  refine ⟨?_, ?_⟩
  · rw [PyData.canLay0]
    exact h1
  · rw [PyData.depth]
    omega
theorem walk_ofTabs {l : PySem.W.OpenLaw} {n k : Nat} {q : Program} {loose : List Str} {XP : (Str → Option Value) → Heap → Prop} {YP : World → Heap → Prop} {d : DefRec} {K : Params → PySem.W.Frag} {CX : World → CXT} {x : Str} (xs : List Str)
    (hn : l.most = some n) (hn2 : n ≤ sizeLine) (hdf : d.params.defaults = []) (hr : Room k callerA) (hrec : ∀ y ∈ xs, ((recsOf q).find? fun e => e.name == y).isSome = true) (hY : ∀ (w : World) (h : Heap), YP w h → (K w.params).In h)
    (F : ∀ (w : World) (mg : Str → Option Value) (fa : Addr) (h : Heap), YP w h → (K w.params).In h → h.Ns mainGlobals mg → mg d.name = some (.ref fa) →
      (∀ y ∈ xs, ∀ c P, PySem.W.tabIn (K w.params) y = some (c, P) → PySem.W.CodeHd h c P ∧ h.get? P = some { cls := .none, data := .fields #[] }) → LawAtS l w (K w.params) (CX w) k n x mg fa h)
    (hCX : ∀ (w : World) (H : Hp) (s : Shared) (e : Value) (s' : Shared), CX w [] H s (fun _ _ _ => False) e s' → False) :
    PySem.W.WalkO q loose XP YP l.row.toRowW d [] (fun f vs => PySem.call f vs) := by
  refine Att.attach_callB hn hdf fun w s₀ s₁ mg mb fa o pm cd doc a vs ns G Y ho hd hcd hmg hobj hints hlen hbits hg => ?_
  have KX := hY w _ Y
  have own : ∀ y ∈ xs, ∀ c P, PySem.W.tabIn (K w.params) y = some (c, P) → PySem.W.CodeHd s₁.heap c P ∧ s₁.heap.get? P = some { cls := .none, data := .fields #[] } := fun y hy c P ht => by
    obtain ⟨dd, hdd⟩ := Option.isSome_iff_exists.mp (hrec y hy)
    exact PySem.W.tab_of G.T KX hdd ht
  obtain ⟨fd, cs, sp, hT, nT, C, hb, hsp, hF⟩ := F w mg fa _ Y KX G.T.g hmg own
  exact law_callTs KX G.T.g G.T.b G.T.builtins G.T.nolimit hg hT nT C G.T.bmain hobj hints (Nat.le_trans hlen hn2) hr hF hb (fun H hH hS => hsp H a ns hlen hbits hH hS) fun H e s' => hCX w H s₁ e s'
/-- no table stands in the fragment -/
theorem notab_look {K : PySem.W.Frag} {h : Heap} (X : K.In h) (nt : PySem.W.noTabs K = true) {P : Addr} (e : h.get? P = some { cls := .none, data := .fields #[] }) : K.lookup P = none := by
  cases q : K.lookup P with
  | none => rfl
  | some o =>
    have e2 := X _ _ q
    rw [e] at e2
    cases e2
    have h2 := List.all_eq_true.mp nt (P, _) (PySem.W.mem_of_lookupK q)
    exact absurd (show false = true from h2) Bool.false_ne_true
end Nl

namespace Nl
open PySem PySem.Spec PyProof.Rows L2
section
variable {prog : Program} {w : World} {A : Around} {E : Value → Shared → Prop} {s : Shared}
theorem join_rev {x : Str} {t : Tok} {it l : Addr} {items : Array Value} {ys : List Str} {Q : Value → Shared → Prop} (hh : A.handled = none)
    (hit : s.heap.IsRevIter it l ((items.size : Int) - 1)) (hl : s.heap.IsList l items) (hne : l ≠ it) (hn : items.size ≤ sizeLine)
    (hP : ∀ acc : Array Value, ItemsOf (fun i v => items[items.size - 1 - i]? = some v) acc items.size → StrsAre acc.toList ys)
    (hok : (ys.map (·.length)).sum + ys.length * x.length ≤ 16777216)
    (hq : ∀ h' t' k, (∀ b o, b ≠ it → s.heap.get? b = some o → h'.get? b = some o) → Q (.str (Txt.join x ys) t') { s with heap := h', toks := k }) :
    wpAny (model prog w) A (call (.builtin "str.join") [.str x t, .ref it]) Q E s := by
  refine wpAny_call (codeAny_call_builtin F.slot_str_join.plain F.entry_str_join (F.slot_str_join.check _ _ _ _ _ _ _ _ (typeIs_str _ _ _) (F.args_str_join_2 _ _) ?_))
  rw [join_tree_other]
  refine wpAny_bind (wpAny_typeOf hit.typeIs ?_)
  show wpAny _ A.in1 ((pyIter (.ref it)).tryCatch _ >>= fun it => collect it >>= fun items => joinTail x items) _ _ s
  refine wpAny_bind (wpAny_tryCatch (wpAny_pyIter_revIter hit ?_))
  refine wpAny_bind (RT.collect_rev hh hit hl hne hn fun h' tk acc hk hacc => ?_)
  obtain ⟨l, hl, ht⟩ := strsAre_values (hP acc hacc)
  subst ht
  rw [hl]
  have ok := joinOk_of hok
  unfold JoinOk at ok
  rw [Bool.not_eq_true'] at ok
  have g : Gives (joinTail x (strValues l)) (joinMade x l) := by
    have g0 := gives_joinTail x l ok
    cases l with
    | nil => exact g0
    | cons p r =>
      cases r with
      | nil => exact g0
      | cons q r' => exact g0
  exact g prog w A (wants Q E) _ (post_join l ⟨joinFit_length ok, fun t' k => hq h' t' k hk⟩)
end
section
variable {X : Cx}
/-- sep.join(reversed(xs)), xs a list of texts -/
def tJoinRev (K : PySem.W.Frag) (to te : TE) : TE := fun σ H Q => to σ H fun x H1 => (∃ a, x = .str a) ∧ te σ H1 fun v H2 => ∃ (a : Str) (q : Addr) (ys : List Str),
  x = .str a ∧ v = .ref q ∧ SqL K H2 q (ys.map V.str) ∧ (ys.map (·.length)).sum + ys.length * a.length ≤ 16777216 ∧ Q (.str (Txt.join a ys.reverse)) H2
theorem pe_joinRev {o e : Expr} {to te : TE} {apos pos p pos2 : Pos} (hc : X.calm = true) (ho : PE X o to) (hg : Gl X "reversed") (hm : X.mg "reversed" = none) (he : PE X e te)
    (hs1 : starEach [.Call (.Name "reversed" p) [e] [] pos2] X.env = [(false, eval (.Call (.Name "reversed" p) [e] [] pos2) X.env)] := by rfl)
    (hs : starEach [e] X.env = (false, eval e X.env) :: starEach [] X.env := by rfl)
    (hbase : attributeBase o "join" X.env (eval o X.env) = eval o X.env := by rfl) (hline : (apos.endLine == pos.line) = true := by rfl) :
    PE X (.Call (.Attribute o "join" apos) [.Call (.Name "reversed" p) [e] [] pos2] [] pos) (tJoinRev X.K to te) := by
  refine ⟨fun pins s σ H Q I h => ?_⟩
  refine PySem.Call_method1 hbase hs1 hline (thn (ho.run pins s σ H _ I h) fun v s1 ⟨x, H1, I1, r1, q1⟩ => ?_)
  obtain ⟨⟨a, rfl⟩, q1⟩ := q1
  obtain ⟨t, rfl⟩ := _root_.id r1
  refine ⟨"str", _, F.plainAttrs_str, F.slot_str_join, F.type_str_join, typeIs_str _ _ _, (fun _ e => nomatch e), Calls.callWith_builtin rfl (Calls.evalArgs_plain (Calls.spliced_cons ?_))⟩
  refine Call_ (ld_blt I1 hg hm PyProof.Rows.boot_reversed (PyProof.Rows.callWith_type1 (args_cons (thn (he.run pins s1 σ H1 _ I1 q1) fun u s2 ⟨v, H2, I2, r2, q2⟩ => args_nil ?_) hs) hs rfl))
  obtain ⟨a', q, ys, ea, rfl, hq, hz, q3⟩ := q2
  cases ea
  obtain rfl : u = Value.ref q := r2
  obtain ⟨its, rv, p', hsz⟩ := I2.list hq
  refine call_reversed_list p'.isList (Calls.spliced_nil ?_)
  have hl := p'.isList
  obtain ⟨ol, hol, _⟩ := id hl
  have hne : q ≠ s2.heap.objs.size := Nat.ne_of_lt (Heap.lt_size hol)
  have hn : its.toArray.size ≤ sizeLine := by rw [List.size_toArray, ← rv.length]; exact hsz
  have k0 : ∀ b o, s2.heap.get? b = some o → (s2.heap.push (revObj q ((its.toArray.size : Int) - 1))).get? b = some o := fun b o e => Heap.get?_push_of_some _ e
  have J2 : Inv X pins σ H2 { s2 with heap := s2.heap.push (revObj q ((its.toArray.size : Int) - 1)) } := I2.kept (t' := s2.toks) k0
  obtain ⟨f0, f1, f2, f3, f4, f5⟩ := I2.fpOk (H' := H2) (b := s2.heap.objs.size) (Nat.le_refl _) (I2.hok.fresh (Nat.le_refl _))
  refine join_rev (s := { s2 with heap := s2.heap.push (revObj q ((its.toArray.size : Int) - 1)) }) (ys := ys.reverse) (Q := EP X pins σ Q) (E := X.xe) (I1.ok.hd hc) ⟨_, Heap.get?_push_size _ rfl, rfl, rfl⟩ (hl.push _) hne hn (fun acc hacc => ?_) ?_ fun h' t' k hk => ?_
  · have r := RT.vals_rev rv hacc
    rw [← List.map_reverse] at r
    exact Vals.strs r
  · rw [List.map_reverse, List.sum_reverse, List.length_reverse]
    exact hz
  · have J3 : Inv X pins σ H2 { s2 with heap := h', toks := k } := J2.turned (t' := k) (fun b o hb e => hk b o hb e) f0 f1 f3 f4 f5
    exact ⟨.str _, H2, J3, ⟨t', rfl⟩, q3⟩
end
end Nl

namespace Nl
open PySem PySem.Spec PyProof.Rows L2
open PySem.NumText
theorem wp_big {M : Model} {A : Around} {E : Value → Shared → Prop} {s : Shared} {Q : Value → Shared → Prop} {v : Value} {text : List Nat} {n : Int}
    (nd : s.heap.NoDigits) (hs : ¬ (text.takeWhile (· != 0)).length ≤ 640)
    (hr : (int_private% "readNumeral") 4300 10 (text.takeWhile (· != 0)) = (int_private% "Numeral.value") n)
    (ha : ((text.takeWhile (· != 0)).length == text.length) = true)
    (h : Q (.int n s.toks) { s with toks := s.toks + 1 }) :
    wpAny M A ((int_private% "intFromText") v text 10) Q E s := by
  obtain ⟨mc, hns, hnone⟩ := nd
  obtain ⟨hp, g, d, tk, os⟩ := s
  repeat (any_goals (first
    | assumption
    | (with_reducible refine wpAny_ite_false (decide_eq_false hs) ?_)
    | (with_reducible refine wpAny_nsGet hns ?_)
    | wp_step))
  rw [hnone]
  refine wpAny_pure ?_
  dsimp only
  rw [hr]
  dsimp only
  rw [if_pos ha]
  exact wpAny_mkInt h
theorem meets_big {x : PySem.Str} {u : Tok} {n : Int} (hl : ¬ x.length ≤ 640) (hx : x.length ≤ 4300) (hk : (numSeenOf x).length = x.length) (hn : PySem.intText? x = some n) :
    Meets (Builtin.«int.__new__» ⟨[.type "int", .str x u], []⟩) (fun _ R s => s.heap.NoDigits ∧ R (.ok (.ret (.int n s.toks))) { s with toks := s.toks + 1 }) := by
  intro prog w A R s hs
  obtain ⟨nd, h⟩ := hs
  have f1 := F.conv_sub_int
  have f2 := F.madeHere_int
  have f3 := PySem.W.KIN.str_int
  have f4 := PySem.W.KIN.str_idx
  have f5 := PySem.W.KIN.str_trunc
  have f6 : typeOf (.str x u) = pure (.type "str") := rfl
  have hs : ¬ (numSeenOf x).length ≤ 640 := by rw [hk]; exact hl
  have hr : (int_private% "readNumeral") 4300 10 (numSeenOf x) = (int_private% "Numeral.value") n ∧ ((numSeenOf x).length == (numTextOf x).length) = true := by
    rcases read4300 x (Nat.le_trans hx (by decide)) with ⟨m, h1, h2, h3⟩ | ⟨h1, _⟩
    · rw [hn] at h1
      cases h1
      exact ⟨h3, h2⟩
    · rw [hn] at h1
      cases h1
  have q := PySem.W.KIN.Hid.mk (And.intro nd (And.intro hs hr))
  clear hs hr hl hx hk hn nd
  obtain ⟨hp, g, d, tk, os⟩ := s
  repeat (any_goals (first
    | assumption
    | ((with_reducible show wpAny _ _ ((int_private% "intFromText") _ _ _) _ _ _); refine wp_big q.out.1 q.out.2.1 q.out.2.2.1 q.out.2.2.2 ?_)
    | wp_step))
  all_goals trace_state
  all_goals first | exact h | skip
/-- int(text), of up to 4300 digits -/
theorem nodig_of {K : PySem.W.Frag} {h : Heap} (X : K.In h) (L : h.NoLimit) (e : PySem.W.nsIn K cStatics "sys.int_max_str_digits" = some none) : h.NoDigits := by
  obtain ⟨mc, G, _⟩ := L
  refine ⟨mc, G, ?_⟩
  obtain ⟨o, es, ep, ho, hd, _, hf⟩ := G
  rw [← hf]
  unfold PySem.W.nsIn at e
  cases hk : K.lookup cStatics with
  | none =>
    rw [hk] at e
    cases e
  | some ob =>
    have h2 := X _ _ hk
    rw [ho] at h2
    cases h2
    obtain ⟨c, dd, dt, sl⟩ := o
    have hd : dt = .dict es ep := hd
    subst hd
    rw [hk] at e
    dsimp only at e
    cases hq : es.toList.find? (·.key.isStr "sys.int_max_str_digits") with
    | some z =>
      rw [hq] at e
      cases e
    | none =>
      unfold nsFind findBy
      rw [← Array.find?_toList, hq]
      rfl
theorem call_int_long {X : Cx} (nd : X.base.NoDigits) : CallR X (.type "int") (fun xs H Q => ∃ a n, xs = [.str a] ∧ PySem.intText? a = some n ∧ a.length ≤ 4300 ∧ (numSeenOf a).length = a.length ∧ Q (.int n) H) := by
  intro pins s σ H xs us Q I rs h
  obtain ⟨a, n, rfl, hn, hl, hk, h⟩ := h
  cases rs with
  | cons r1 rs =>
    cases rs
    obtain ⟨t, rfl⟩ := r1
    by_cases hs : a.length ≤ 640
    · exact PySem.W.KIN.call_text hn hs ⟨.int n, H, I.tok _, ⟨_, rfl⟩, h⟩
    · exact call_int_1 (meets_big hs hl hk hn) ⟨nd.keeps fun b o e => (I.bk b o e), rfl, .int n, H, I.tok _, ⟨_, rfl⟩, h⟩
end Nl

namespace Nl
open PySem PySem.Spec PyProof.Rows L2 LamX NdefX
theorem nodig_base {K : PySem.W.Frag} {h base : Heap} (X : K.In h) (XB : K.In base) (nd : h.NoDigits)
    (e : PySem.W.nsIn K cStatics "sys.int_max_str_digits" = some none) : base.NoDigits := by
  obtain ⟨mc, ⟨o, es, ep, ho, r⟩, hn⟩ := nd
  refine ⟨mc, ⟨o, es, ep, ?_, r⟩, hn⟩
  unfold PySem.W.nsIn at e
  cases hk : K.lookup cStatics with
  | none =>
    rw [hk] at e
    cases e
  | some ob =>
    have h2 := X _ _ hk
    rw [ho] at h2
    cases h2
    exact XB _ _ hk
/-- the end of a law row: tables of code objects, and the limit of digits as it is at first -/
theorem walk_ofTD {l : PySem.W.OpenLaw} {n k : Nat} {q : Program} {loose : List Str}
    {XP : (Str → Option Value) → Heap → Prop} {YP : World → Heap → Prop} {d : DefRec}
    {K : Params → PySem.W.Frag} {CX : World → CXT} {x : Str} (xs : List Str)
    (hn : l.most = some n) (hn2 : n ≤ sizeLine) (hdf : d.params.defaults = []) (hr : Room k callerA)
    (hrec : ∀ y ∈ xs, ((recsOf q).find? fun e => e.name == y).isSome = true)
    (hY : ∀ (w : World) (h : Heap), YP w h → (K w.params).In h)
    (F : ∀ (w : World) (mg : Str → Option Value) (fa : Addr) (h : Heap), YP w h → (K w.params).In h →
      h.Ns mainGlobals mg → mg d.name = some (.ref fa) → h.NoDigits →
      (∀ y ∈ xs, ∀ c P, PySem.W.tabIn (K w.params) y = some (c, P) →
        PySem.W.CodeHd h c P ∧ h.get? P = some { cls := .none, data := .fields #[] }) →
      LawAtS l w (K w.params) (CX w) k n x mg fa h)
    (hCX : ∀ (w : World) (H : Hp) (s : Shared) (e : Value) (s' : Shared),
      CX w [] H s (fun _ _ _ => False) e s' → False) :
    PySem.W.WalkO q loose XP YP l.row.toRowW d []
      (fun f vs => PySem.call f vs) := by
  refine Att.attach_callB hn hdf fun w s₀ s₁ mg mb fa o pm cd doc a vs ns G Y ho hd hcd hmg hobj hints hlen hbits hg => ?_
  have KX := hY w _ Y
  have own : ∀ y ∈ xs, ∀ c P, PySem.W.tabIn (K w.params) y = some (c, P) → PySem.W.CodeHd s₁.heap c P ∧ s₁.heap.get? P = some { cls := .none, data := .fields #[] } := fun y hy c P ht => by
    obtain ⟨dd, hdd⟩ := Option.isSome_iff_exists.mp (hrec y hy)
    exact PySem.W.tab_of G.T KX hdd ht
  obtain ⟨fd, cs, sp, hT, nT, C, hb, hsp, hF⟩ := F w mg fa _ Y KX G.T.g hmg G.T.nodigits own
  exact law_callTs KX G.T.g G.T.b G.T.builtins G.T.nolimit hg hT nT C G.T.bmain hobj hints
    (Nat.le_trans hlen hn2) hr hF hb (fun H hH hS => hsp H a ns hlen hbits hH hS) fun H e s' => hCX w H s₁ e s'
end Nl

namespace Nl
open PySem PySem.Spec PyProof.Rows L2
section
variable {X : Cx}
def rInT (K : PySem.W.Frag) : R2 := fun x y H Q => ∃ d ds, Dp K H x d ∧ Dp K H y (.tuple ds) ∧ SeqAt.shaped d = true ∧ SeqAt.shaped (.tuple ds) = true ∧ Q (.bl (ds.any fun z => PyData.eqv z d)) H
theorem op_inT (hu : X.A.units + 65 < cLine) : OpR X (compareOp .In) (rInT X.K) := by
  intro pins s σ H x y v u Q I rx ry h
  obtain ⟨d, ds, hd, he, sd, se, q⟩ := h
  obtain ⟨as, r1⟩ := Dp.reads I d x v hd rx
  obtain ⟨bs, r2⟩ := Dp.reads I (.tuple ds) y u he ry
  refine SeqAt.in_tuple_reads r2 r1 (SeqAt.canLay_of_shaped (d := .tuple ds) se) (SeqAt.canLay_of_shaped sd) (room_in_shaped sd hu) ⟨.bl _, H, I, rfl, q⟩
/-- text * number -/
def rMulS : R2 := fun x y H Q => ∃ (a : Str) (n : Int), x = .str a ∧ y = .int n ∧ 2 ≤ n ∧ n ≤ 2000 ∧ 0 < a.length ∧ a.length ≤ 100 ∧ Q (.str (Txt.mul a n)) H
theorem op_mulS : OpR X (binaryOp .Mult) rMulS := by
  intro pins s σ H x y v u Q I rx ry h
  obtain ⟨a, n, rfl, rfl, n2, n3, h0, h1, q⟩ := h
  obtain ⟨t, rfl⟩ := rx
  obtain ⟨t', rfl⟩ := ry
  refine SB.mul ⟨?_, fun _ _ => ?_, fun _ _ => ?_⟩ fun k' k => ⟨.str _, H, I.tok _, ⟨_, rfl⟩, q⟩
  · rw [decide_eq_false (by omega), decide_eq_false (by omega)]
    rfl
  · have : (4611686018427387 : Int) ≤ (2 ^ 63 - 1) / n := Int.le_ediv_of_mul_le (by omega) (by omega)
    omega
  · have : a.length * n.toNat ≤ 100 * 2000 := Nat.mul_le_mul h1 (by omega)
    unfold Builtin.Str.tooLong
    rw [decide_eq_false_iff_not, sizeLine_eq]
    omega
end
end Nl

namespace Nl
open PySem PySem.Spec PyProof.Rows L2
/-- a comprehension over a text, sign by sign -/
theorem lc_its {x : Str} {g : TG} {tt : TT} {te : TE} {vs : List Nat} {σ : L2.St} {H1 : Hp} {D : Addr} {Qd : Hp → Prop}
    (Pv : Nat → Hp → Prop) (h0 : Pv 0 (upd H1 D (.lst [])))
    (hs : ∀ i c H, x.cps.toList[i]? = some c → Pv i H →
      g (.str (SX.S [c])) (wipe σ vs) H fun σ2 H2 =>
        wipe σ2 vs = wipe σ vs ∧ tt σ2 H2 fun b H3 =>
          if b = true then te σ2 H3 fun y H4 => ∃ acc, H4 D = some (.lst acc) ∧
            acc.length < sizeLine ∧ Pv (i + 1) (upd H4 D (.lst (acc ++ [y])))
          else Pv (i + 1) H3)
    (hd : ∀ H, Pv x.cps.toList.length H → Qd H) :
    ∃ W : Nat → Nat → Hp → Prop, (∃ m, W 0 m (upd H1 D (.lst []))) ∧
      ∀ i m H, W i m H → ((Its x).stop i H ∧ Qd H) ∨
        ((Its x).go i H ∧ ∃ Nx : Hp → Prop, (∀ H', Nx H' → ∃ m', m' < m ∧ W (i + 1) m' H') ∧
          ∀ y H', (Its x).yld i H y H' → g y (wipe σ vs) H' fun σ2 H2 =>
            wipe σ2 vs = wipe σ vs ∧ tt σ2 H2 fun b H3 =>
              if b = true then te σ2 H3 fun z H4 => ∃ acc, H4 D = some (.lst acc) ∧
                acc.length < sizeLine ∧ Nx (upd H4 D (.lst (acc ++ [z])))
              else Nx H3) := by
  have el : x.cps.toList.length = x.cps.size := Array.length_toList
  refine ⟨fun i m H => m = x.cps.size - i ∧ i ≤ x.cps.size ∧ Pv i H, ⟨x.cps.size, by simp, Nat.zero_le _, h0⟩, ?_⟩
  rintro i m H ⟨rfl, hi, p⟩
  by_cases hlt : i < x.cps.size
  · refine .inr ⟨hlt, Pv (i + 1), fun H' p' => ⟨x.cps.size - (i + 1), by omega, rfl, hlt, p'⟩, fun y H' yl => ?_⟩
    obtain ⟨e, c, hc, ey⟩ := yl
    subst e ey
    exact hs i c _ (by rw [Array.getElem?_toList]; exact hc) p
  · have e : i = x.cps.size := by omega
    subst e
    exact .inl ⟨Nat.le_refl _, hd H (by rw [el]; exact p)⟩
theorem cutS_S (cs : List Nat) (lo hi : Option Int) : cutS (SX.S cs) lo hi = SX.S ((cs.drop (HT.sIx cs.length 0 lo)).take (HT.sIx cs.length cs.length hi - HT.sIx cs.length 0 lo)) := by
  unfold cutS
  rw [SX.S_len]
theorem cutS_take (cs : List Nat) (k : Nat) : cutS (SX.S cs) none (some (k : Int)) = SX.S (cs.take k) := by
  rw [cutS_S, HT.sIx_none, HT.sIx_nat, List.drop_zero, Nat.sub_zero]
  by_cases h : k ≤ cs.length
  · rw [Nat.min_eq_left h]
  · rw [Nat.min_eq_right (by omega), List.take_length, List.take_of_length_le (by omega)]
theorem cutS_drop (cs : List Nat) (k : Nat) : cutS (SX.S cs) (some (k : Int)) none = SX.S (cs.drop k) := by
  rw [cutS_S, HT.sIx_none, HT.sIx_nat]
  by_cases h : k ≤ cs.length
  · rw [Nat.min_eq_left h, List.take_of_length_le (by rw [List.length_drop]; omega)]
  · rw [Nat.min_eq_right (by omega), List.drop_length, List.drop_eq_nil_of_le (by omega)]
    simp
end Nl

namespace Nl
open PySem PySem.Spec PyProof.Rows L2
open TL (tl numL)
open PySem.NumText
/-! ### decimal texts as lists of code points -/
def padL (k : Nat) (l : List Nat) : List Nat := List.replicate (k - l.length) 48 ++ l
theorem numL_len : ∀ (k n : Nat), n < 10 ^ (k + 1) → (numL n).length ≤ k + 1
  | 0, n, h => by
    rw [TL.numL_lt (by simpa using h)]
    simp
  | k + 1, n, h => by
    by_cases c : n < 10
    · rw [TL.numL_lt c]
      simp
    · rw [TL.numL_step (by omega), List.length_append]
      have := numL_len k (n / 10) (by rw [Nat.pow_succ] at h; omega)
      simp
      omega
theorem numL_split : ∀ (k q low : Nat), 0 < q → low < 10 ^ (k + 1) → numL (q * 10 ^ (k + 1) + low) = numL q ++ padL (k + 1) (numL low)
  | 0, q, low, hq, h => by
    have h : low < 10 := by simpa using h
    have e1 : (q * 10 ^ (0 + 1) + low) / 10 = q := by
      rw [show q * 10 ^ (0 + 1) = q * 10 by simp]
      omega
    have e2 : (q * 10 ^ (0 + 1) + low) % 10 = low := by
      rw [show q * 10 ^ (0 + 1) = q * 10 by simp]
      omega
    rw [TL.numL_step (by rw [show q * 10 ^ (0 + 1) = q * 10 by simp]; omega), e1, e2, TL.numL_lt h]
    rfl
  | k + 1, q, low, hq, h => by
    have hp : 10 ^ (k + 1 + 1) = 10 ^ (k + 1) * 10 := Nat.pow_succ ..
    have hpos : 0 < 10 ^ (k + 1) := Nat.pow_pos (by decide)
    have e0 : q * 10 ^ (k + 1 + 1) = q * 10 ^ (k + 1) * 10 := by rw [hp, Nat.mul_assoc]
    have hx : 1 ≤ q * 10 ^ (k + 1) := Nat.mul_pos hq hpos
    have e1 : (q * 10 ^ (k + 1 + 1) + low) / 10 = q * 10 ^ (k + 1) + low / 10 := by rw [e0]; omega
    have e2 : (q * 10 ^ (k + 1 + 1) + low) % 10 = low % 10 := by rw [e0]; omega
    rw [TL.numL_step (by rw [e0]; omega), e1, e2, numL_split k q (low / 10) hq (by rw [hp] at h; omega), List.append_assoc]
    refine congrArg (numL q ++ ·) ?_
    unfold padL
    by_cases c : low < 10
    · rw [TL.numL_lt c, TL.numL_lt (show low / 10 < 10 by omega), show low / 10 = 0 by omega, show low % 10 = low by omega]
      show List.replicate (k + 1 - 1) 48 ++ [48] ++ [48 + low] = List.replicate (k + 1 + 1 - 1) 48 ++ [48 + low]
      rw [show k + 1 + 1 - 1 = (k + 1 - 1) + 1 by omega, List.replicate_succ']
    · rw [TL.numL_step (show 10 ≤ low by omega), List.length_append]
      show List.replicate (k + 1 - (numL (low / 10)).length) 48 ++ numL (low / 10) ++ [48 + low % 10] = List.replicate (k + 1 + 1 - ((numL (low / 10)).length + 1)) 48 ++ (numL (low / 10) ++ [48 + low % 10])
      rw [show k + 1 + 1 - ((numL (low / 10)).length + 1) = k + 1 - (numL (low / 10)).length by omega, List.append_assoc]
/-- the text of a number without leading zeros -/
structure NatT (cs : List Nat) : Prop where
  all : AllDigits cs
  ne : cs ≠ []
  lead : cs.length = 1 ∨ ∃ c r, cs = c :: r ∧ 49 ≤ c
theorem val_numL (n : Nat) : digitsVal (numL n) = n := PySem.W.KIN.val_back n
theorem numL_pos : ∀ (m n : Nat), n ≤ m → 0 < n → ∃ c r, numL n = c :: r ∧ 49 ≤ c
  | 0, n, h, h0 => by omega
  | m + 1, n, h, h0 => by
    by_cases c : n < 10
    · exact ⟨48 + n, [], TL.numL_lt c, by omega⟩
    · obtain ⟨c, r, e, hc⟩ := numL_pos m (n / 10) (by omega) (by omega)
      exact ⟨c, r ++ [48 + n % 10], by rw [TL.numL_step (by omega), e]; rfl, hc⟩
theorem natT_numL (n : Nat) : NatT (numL n) := by
  refine ⟨TL.numL_digits n, fun e => ?_, ?_⟩
  · by_cases c : n < 10
    · rw [TL.numL_lt c] at e
      cases e
    · rw [TL.numL_step (by omega)] at e
      simp at e
  · by_cases c : n = 0
    · subst c
      exact .inl rfl
    · exact .inr (numL_pos n n (Nat.le_refl _) (by omega))
theorem numL_val {cs : List Nat} (h : NatT cs) : numL (digitsVal cs) = cs := by
  obtain ⟨h1, h2, h3⟩ := h
  obtain ⟨n, hn⟩ : ∃ n, cs.length = n + 1 := ⟨cs.length - 1, by
    have : 0 < cs.length := List.length_pos_iff.mpr h2
    omega⟩
  have e := toDigits_digitsVal n cs hn h1 (h3.imp (fun z => by omega) id)
  unfold numL
  rw [e, List.map_map]
  refine (List.map_congr_left fun c hc => ?_).trans (List.map_id _)
  have := h1 c hc
  show (Char.ofNat c).toNat = c
  have hv : c.isValidChar := Or.inl (by omega)
  unfold Char.ofNat
  rw [dif_pos hv]
  rfl
def intL (z : Int) : List Nat := if z < 0 then 45 :: numL z.natAbs else numL z.natAbs
theorem tl_int (z : Int) : tl (Str.ofString (toString z)) = intL z := by
  cases z with
  | ofNat n =>
    unfold intL
    rw [if_neg (by show ¬ ((n : Nat) : Int) < 0; omega)]
    exact TL.tl_num n
  | negSucc n =>
    unfold intL
    rw [if_pos (Int.negSucc_lt_zero n)]
    have e : toString (Int.negSucc n) = "-" ++ Nat.repr (n + 1) := rfl
    rw [e, TL.tl_ofString, String.toList_append, List.map_append]
    show 45 :: (Nat.repr (n + 1)).toList.map Char.toNat = 45 :: numL (n + 1)
    rw [Nat.toList_repr]
    rfl
theorem str_int (z : Int) : Str.ofString (toString z) = SX.S (intL z) := TL.ext_tl (tl_int z)
def stripL : List Nat → List Nat
  | 45 :: r => r
  | cs => cs
def intV : List Nat → Int
  | 45 :: r => -(digitsVal r : Int)
  | cs => digitsVal cs
theorem no_minus {cs : List Nat} (h : AllDigits cs) : ∀ r, cs ≠ 45 :: r := fun r e => by
  have := h 45 (by rw [e]; simp)
  omega
theorem strip_digits {cs : List Nat} (h : AllDigits cs) : stripL cs = cs := by
  unfold stripL
  split
  · rename_i r
    exact (no_minus h r rfl).elim
  · rfl
theorem intV_digits {cs : List Nat} (h : AllDigits cs) : intV cs = digitsVal cs := by
  unfold intV
  split
  · rename_i r
    exact (no_minus h r rfl).elim
  · rfl
theorem intL_strip (z : Int) : stripL (intL z) = numL z.natAbs := by
  unfold intL
  split
  · rfl
  · exact strip_digits (natT_numL _).all
theorem intV_intL (z : Int) : intV (intL z) = z := by
  unfold intL
  split
  · show -(digitsVal (numL z.natAbs) : Int) = z
    rw [val_numL]
    omega
  · rw [intV_digits (natT_numL _).all, val_numL]
    omega
theorem intL_ne (z : Int) : intL z ≠ [45, 48] := fun e => by
  have h := intV_intL z
  rw [e] at h
  have h : (0 : Int) = z := h
  subst h
  have e : ([48] : List Nat) = [45, 48] := e
  cases e
theorem intL_slash (z : Int) : 47 ∉ intL z := fun h => by
  unfold intL at h
  split at h
  · rcases List.mem_cons.mp h with h | h
    · cases h
    · have := (natT_numL _).all 47 h
      omega
  · have := (natT_numL _).all 47 h
    omega
theorem val_zero {cs : List Nat} (h : NatT cs) (z : digitsVal cs = 0) : cs = [48] := by
  rw [← numL_val h, z]
  rfl
theorem intL_intV {a : List Nat} (h : NatT (stripL a)) (hn : a ≠ [45, 48]) : intL (intV a) = a := by
  cases a with
  | nil => exact (h.ne rfl).elim
  | cons c r =>
    by_cases hc : c = 45
    · subst hc
      have h : NatT r := h
      have h0 : digitsVal r ≠ 0 := fun z => hn (by rw [val_zero h z])
      show intL (-(digitsVal r : Int)) = _
      unfold intL
      rw [if_pos (by omega), show (-(digitsVal r : Int)).natAbs = digitsVal r by omega, numL_val h]
    · have e1 : stripL (c :: r) = c :: r := by
        unfold stripL
        split
        · rename_i q
          cases q
          exact (hc rfl).elim
        · rfl
      rw [e1] at h
      rw [intV_digits h.all]
      unfold intL
      rw [if_neg (by omega), show ((digitsVal (c :: r) : Nat) : Int).natAbs = digitsVal (c :: r) by omega, numL_val h]
/-! ### texts of fractions -/
def fracT (q : Int × Int) : List Nat := if q.2 = 1 then intL q.1 else intL q.1 ++ 47 :: intL q.2
theorem slash_inj {a b c d : List Nat} (ha : 47 ∉ a) (hc : 47 ∉ c) (e : a ++ 47 :: b = c ++ 47 :: d) : a = c ∧ b = d := by
  induction a generalizing c with
  | nil =>
    cases c with
    | nil =>
      cases e
      exact ⟨rfl, rfl⟩
    | cons x c =>
      cases e
      exact (hc (by simp)).elim
  | cons x a ih =>
    cases c with
    | nil =>
      cases e
      exact (ha (by simp)).elim
    | cons y c =>
      injection e with e1 e2
      obtain ⟨h1, h2⟩ := ih (fun z => ha (List.mem_cons_of_mem _ z)) (fun z => hc (List.mem_cons_of_mem _ z)) e2
      exact ⟨by rw [e1, h1], h2⟩
theorem slash_cases (cs : List Nat) : 47 ∉ cs ∨ ∃ a b, cs = a ++ 47 :: b ∧ 47 ∉ a := by
  induction cs with
  | nil => exact .inl (by simp)
  | cons x cs ih =>
    by_cases hx : x = 47
    · subst hx
      exact .inr ⟨[], cs, rfl, by simp⟩
    · rcases ih with h | ⟨a, b, e, h⟩
      · exact .inl fun z => (List.mem_cons.mp z).elim (fun y => hx y.symm) h
      · exact .inr ⟨x :: a, b, by rw [e]; rfl, fun z => (List.mem_cons.mp z).elim (fun y => hx y.symm) h⟩
theorem intL_pos {z : Int} (h : 0 ≤ z) : intL z = numL z.natAbs := if_neg (by omega)
/-- what it says that a text is that of a fraction -/
theorem frac_whole {q : Int × Int} {cs : List Nat} (h : Low q) (e : fracT q = cs) (hs : 47 ∉ cs) : q.2 = 1 ∧ cs = intL q.1 := by
  unfold fracT at e
  split at e
  · exact ⟨‹_›, e.symm⟩
  · exact (hs (by rw [← e]; simp)).elim
theorem frac_parts {q : Int × Int} {a b : List Nat} (h : Low q) (e : fracT q = a ++ 47 :: b) (hs : 47 ∉ a) : q.2 ≠ 1 ∧ a = intL q.1 ∧ b = numL q.2.natAbs := by
  unfold fracT at e
  split at e
  · exact (intL_slash q.1 (by rw [e]; simp)).elim
  · obtain ⟨h1, h2⟩ := slash_inj (intL_slash q.1) hs e
    have := h.pos
    rw [intL_pos (by omega)] at h2
    exact ⟨‹_›, h1.symm, h2.symm⟩
theorem frac_lowest {q : Int × Int} (h : Low q) : frac q.1 q.2 = q := by
  have ne : q.2 ≠ 0 := by have := h.pos; omega
  exact low_uniq (frac_low ne) h (frac_cross ne)
theorem fracT_inj {p q : Int × Int} (hp : Low p) (hq : Low q) (e : fracT p = fracT q) : p = q := by
  by_cases c : q.2 = 1
  · have e2 : fracT q = intL q.1 := if_pos c
    obtain ⟨h1, h2⟩ := frac_whole hp (e.trans e2) (intL_slash _)
    have h3 := congrArg intV h2
    rw [intV_intL, intV_intL] at h3
    exact Prod.ext h3.symm (by rw [h1, c])
  · have e2 : fracT q = intL q.1 ++ 47 :: intL q.2 := if_neg c
    obtain ⟨h1, h2, h3⟩ := frac_parts hp (e.trans e2) (intL_slash _)
    have h4 := congrArg intV h2
    rw [intV_intL, intV_intL] at h4
    have h5 := congrArg digitsVal h3
    have := hq.pos
    have := hp.pos
    rw [intL_pos (by omega), val_numL, val_numL] at h5
    exact Prod.ext h4.symm (by omega)
/-- whether a text is that of a fraction, told by its parts -/
theorem whole_no {cs : List Nat} (hs : 47 ∉ cs) (h : ¬ (NatT (stripL cs) ∧ cs ≠ [45, 48])) (q : Int × Int) (hq : Low q) : fracT q ≠ cs := fun e => by
  obtain ⟨_, h2⟩ := frac_whole hq e hs
  subst h2
  exact h ⟨by rw [intL_strip]; exact natT_numL _, intL_ne _⟩
theorem whole_yes {cs : List Nat} (h : NatT (stripL cs)) (hn : cs ≠ [45, 48]) : Low (intV cs, 1) ∧ fracT (intV cs, 1) = cs := ⟨⟨by show (0 : Int) < 1; decide, Int.gcd_one_right _⟩, by
  unfold fracT
  rw [if_pos rfl]
  exact intL_intV h hn⟩
theorem parts_no {a b : List Nat} (hs : 47 ∉ a) (h : ¬ (NatT (stripL a) ∧ NatT b ∧ a ≠ [45, 48] ∧ b ≠ [48] ∧ b ≠ [49] ∧ Int.gcd (intV a) (digitsVal b) = 1)) (q : Int × Int) (hq : Low q) : fracT q ≠ a ++ 47 :: b := fun e => by
  obtain ⟨h1, h2, h3⟩ := frac_parts hq e hs
  have hp := hq.pos
  subst h2 h3
  refine h ⟨by rw [intL_strip]; exact natT_numL _, natT_numL _, intL_ne _, fun z => ?_, fun z => ?_, ?_⟩
  · have := congrArg digitsVal z
    rw [val_numL] at this
    have this : q.2.natAbs = 0 := this
    omega
  · have := congrArg digitsVal z
    rw [val_numL] at this
    have this : q.2.natAbs = 1 := this
    omega
  · rw [intV_intL, val_numL, show ((q.2.natAbs : Nat) : Int) = q.2 by omega]
    exact hq.cop
theorem parts_yes {a b : List Nat} (ha : NatT (stripL a)) (hb : NatT b) (h0 : a ≠ [45, 48]) (h1 : b ≠ [48]) (h2 : b ≠ [49]) (h3 : Int.gcd (intV a) (digitsVal b) = 1) :
    Low (intV a, (digitsVal b : Int)) ∧ fracT (intV a, (digitsVal b : Int)) = a ++ 47 :: b := by
  have p : digitsVal b ≠ 0 := fun z => h1 (val_zero hb z)
  have n : digitsVal b ≠ 1 := fun z => h2 (by rw [← numL_val hb, z]; rfl)
  refine ⟨⟨by show (0 : Int) < digitsVal b; omega, h3⟩, ?_⟩
  unfold fracT
  rw [if_neg (by show ¬ ((digitsVal b : Nat) : Int) = 1; omega), intL_intV ha h0, intL_pos (by show (0 : Int) ≤ digitsVal b; omega)]
  show a ++ 47 :: numL ((digitsVal b : Nat) : Int).natAbs = _
  rw [show ((digitsVal b : Nat) : Int).natAbs = digitsVal b by omega, numL_val hb]
/-! ### int of such a text -/
theorem natT_signs {a : List Nat} (h : NatT (stripL a)) : ∀ c ∈ a, c = 45 ∨ (48 ≤ c ∧ c ≤ 57) := fun c hc => by
  cases a with
  | nil => cases hc
  | cons x r =>
    by_cases hx : x = 45
    · subst hx
      rcases List.mem_cons.mp hc with rfl | hc
      · exact .inl rfl
      · exact .inr (h.all c hc)
    · have e1 : stripL (x :: r) = x :: r := by
        unfold stripL
        split
        · rename_i q
          cases q
          exact (hx rfl).elim
        · rfl
      rw [e1] at h
      exact .inr (h.all c hc)
theorem int_text {a : List Nat} (h : NatT (stripL a)) (hl : a.length ≤ 4300) : PySem.intText? (SX.S a) = some (intV a) ∧ (numSeenOf (SX.S a)).length = (SX.S a).length := by
  have hs : ∀ c ∈ (SX.S a).cps.toList, c = 45 ∨ (48 ≤ c ∧ c ≤ 57) := natT_signs h
  refine ⟨?_, ?_⟩
  · cases a with
    | nil => exact (h.ne rfl).elim
    | cons x r =>
      by_cases hx : x = 45
      · subst hx
        exact intText_neg (cs := r) rfl h.all h.ne (by rw [SX.S_len]; exact hl)
      · have e1 : stripL (x :: r) = x :: r := by
          unfold stripL
          split
          · rename_i q
            cases q
            exact (hx rfl).elim
          · rfl
        rw [e1] at h
        rw [intV_digits h.all]
        exact intText_digits h.all h.ne (by rw [SX.S_len]; exact hl)
  · rw [(numText_signs hs).2, SX.S_len]
end Nl

namespace Nl
open PySem PySem.Spec PyProof.Rows L2
open TL (tl numL)
open PySem.NumText
def top (i : Nat) : Stmt := PySem.Challenge.pw_nolunch_k02_fraction_texts.main.body.getD i (.Pass ⟨0, 0, 0, 0⟩)
abbrev s_is_natural : Stmt := top 6
theorem sc_is_natural : FnScope ["text"] ["text"] (defScope s_is_natural) := ⟨rfl, rfl, rfl, by decide +kernel, rfl, by decide +kernel, by decide +kernel⟩
abbrev s_write_integer : Stmt := top 7
theorem sc_write_integer : FnScope ["number", "piece", "rest", "pieces", "low"] ["number"] (defScope s_write_integer) := ⟨rfl, rfl, rfl, by decide +kernel, rfl, by decide +kernel, by decide +kernel⟩
abbrev s_fraction : Stmt := top 10
theorem sc_fraction : FnScope ["numerator", "denominator", "shared"] ["numerator", "denominator"] (defScope s_fraction) := ⟨rfl, rfl, rfl, by decide +kernel, rfl, by decide +kernel, by decide +kernel⟩
abbrev s_write_fraction : Stmt := top 11
theorem sc_write_fraction : FnScope ["a", "numerator", "denominator"] ["a"] (defScope s_write_fraction) := ⟨rfl, rfl, rfl, by decide +kernel, rfl, by decide +kernel, by decide +kernel⟩
abbrev s_read_fraction : Stmt := top 12
theorem sc_read_fraction : FnScope ["text", "top", "slash", "bottom", "numerator", "denominator"] ["text"] (defScope s_read_fraction) := ⟨rfl, rfl, rfl, by decide +kernel, rfl, by decide +kernel, by decide +kernel⟩
abbrev s__law_begin : Stmt := top 14
theorem sc__law_begin : FnScope ["script", "seed", "cell"] ["script"] (defScope s__law_begin) := ⟨rfl, rfl, rfl, by decide +kernel, rfl, by decide +kernel, by decide +kernel⟩
abbrev s__law_take : Stmt := top 15
theorem sc__law_take : FnScope ["d", "many", "small", "digit"] ["d", "many"] (defScope s__law_take) := ⟨rfl, rfl, rfl, by decide +kernel, rfl, by decide +kernel, by decide +kernel⟩
abbrev s__law_signed : Stmt := top 16
theorem sc__law_signed : FnScope ["d", "most"] ["d", "most"] (defScope s__law_signed) := ⟨rfl, rfl, rfl, by decide +kernel, rfl, by decide +kernel, by decide +kernel⟩
abbrev s__law_gcd : Stmt := top 17
theorem sc__law_gcd : FnScope ["a", "b"] ["a", "b"] (defScope s__law_gcd) := ⟨rfl, rfl, rfl, by decide +kernel, rfl, by decide +kernel, by decide +kernel⟩
abbrev s__law_f : Stmt := top 18
theorem sc__law_f : FnScope ["a", "b", "c"] ["a", "b"] (defScope s__law_f) := ⟨rfl, rfl, rfl, by decide +kernel, rfl, by decide +kernel, by decide +kernel⟩
abbrev s__law_due : Stmt := top 19
theorem sc__law_due : FnScope ["text", "parts", "top", "word", "bottom", "sign"] ["text"] (defScope s__law_due) := ⟨rfl, rfl, rfl, by decide +kernel, rfl, by decide +kernel, by decide +kernel⟩
abbrev s__law_told : Stmt := top 20
theorem sc__law_told : FnScope ["text", "found", "e"] ["text"] (defScope s__law_told) := ⟨rfl, rfl, rfl, by decide +kernel, rfl, by decide +kernel, by decide +kernel⟩
abbrev s__law_bent : Stmt := top 21
theorem sc__law_bent : FnScope ["d", "text", "a", "menu", "place", "sign"] ["d", "text", "a"] (defScope s__law_bent) := ⟨rfl, rfl, rfl, by decide +kernel, rfl, by decide +kernel, by decide +kernel⟩
abbrev s_law : Stmt := top 22
theorem sc_law : FnScope ["script", "d", "most", "a", "text", "k", "bent"] ["script"] (defScope s_law) := ⟨rfl, rfl, rfl, by decide +kernel, rfl, by decide +kernel, by decide +kernel⟩
structure Top (K : PySem.W.Frag) (mg : Str → Option Value) where
  a_is_natural : Addr
  d_is_natural : FuncData
  is_natural_F : Fun K "is_natural" "is_natural" s_is_natural a_is_natural d_is_natural
  is_natural_b : Binds K d_is_natural ["text"] []
  g_is_natural : mg "is_natural" = some (.ref a_is_natural)
  a_write_integer : Addr
  d_write_integer : FuncData
  write_integer_F : Fun K "write_integer" "write_integer" s_write_integer a_write_integer d_write_integer
  write_integer_b : Binds K d_write_integer ["number"] []
  g_write_integer : mg "write_integer" = some (.ref a_write_integer)
  a_fraction : Addr
  d_fraction : FuncData
  fraction_F : Fun K "fraction" "fraction" s_fraction a_fraction d_fraction
  fraction_b : Binds K d_fraction ["numerator", "denominator"] []
  g_fraction : mg "fraction" = some (.ref a_fraction)
  a_write_fraction : Addr
  d_write_fraction : FuncData
  write_fraction_F : Fun K "write_fraction" "write_fraction" s_write_fraction a_write_fraction d_write_fraction
  write_fraction_b : Binds K d_write_fraction ["a"] []
  g_write_fraction : mg "write_fraction" = some (.ref a_write_fraction)
  a_read_fraction : Addr
  d_read_fraction : FuncData
  read_fraction_F : Fun K "read_fraction" "read_fraction" s_read_fraction a_read_fraction d_read_fraction
  read_fraction_b : Binds K d_read_fraction ["text"] []
  g_read_fraction : mg "read_fraction" = some (.ref a_read_fraction)
  a__law_begin : Addr
  d__law_begin : FuncData
  _law_begin_F : Fun K "_law_begin" "_law_begin" s__law_begin a__law_begin d__law_begin
  _law_begin_b : Binds K d__law_begin ["script"] []
  g__law_begin : mg "_law_begin" = some (.ref a__law_begin)
  a__law_take : Addr
  d__law_take : FuncData
  _law_take_F : Fun K "_law_take" "_law_take" s__law_take a__law_take d__law_take
  _law_take_b : Binds K d__law_take ["d", "many"] []
  g__law_take : mg "_law_take" = some (.ref a__law_take)
  a__law_signed : Addr
  d__law_signed : FuncData
  _law_signed_F : Fun K "_law_signed" "_law_signed" s__law_signed a__law_signed d__law_signed
  _law_signed_b : Binds K d__law_signed ["d", "most"] []
  g__law_signed : mg "_law_signed" = some (.ref a__law_signed)
  a__law_gcd : Addr
  d__law_gcd : FuncData
  _law_gcd_F : Fun K "_law_gcd" "_law_gcd" s__law_gcd a__law_gcd d__law_gcd
  _law_gcd_b : Binds K d__law_gcd ["a", "b"] []
  g__law_gcd : mg "_law_gcd" = some (.ref a__law_gcd)
  a__law_f : Addr
  d__law_f : FuncData
  _law_f_F : Fun K "_law_f" "_law_f" s__law_f a__law_f d__law_f
  _law_f_b : Binds K d__law_f ["a", "b"] []
  g__law_f : mg "_law_f" = some (.ref a__law_f)
  a__law_due : Addr
  d__law_due : FuncData
  _law_due_F : Fun K "_law_due" "_law_due" s__law_due a__law_due d__law_due
  _law_due_b : Binds K d__law_due ["text"] []
  g__law_due : mg "_law_due" = some (.ref a__law_due)
  a__law_told : Addr
  d__law_told : FuncData
  _law_told_F : Fun K "_law_told" "_law_told" s__law_told a__law_told d__law_told
  _law_told_b : Binds K d__law_told ["text"] []
  g__law_told : mg "_law_told" = some (.ref a__law_told)
  a__law_bent : Addr
  d__law_bent : FuncData
  _law_bent_F : Fun K "_law_bent" "_law_bent" s__law_bent a__law_bent d__law_bent
  _law_bent_b : Binds K d__law_bent ["d", "text", "a"] []
  g__law_bent : mg "_law_bent" = some (.ref a__law_bent)
  n_abs : mg "abs" = none
  n_all : mg "all" = none
  n_divmod : mg "divmod" = none
  n_int : mg "int" = none
  n_isinstance : mg "isinstance" = none
  n_len : mg "len" = none
  n_list : mg "list" = none
  n_range : mg "range" = none
  n_reversed : mg "reversed" = none
  n_str : mg "str" = none
  g_gcd : mg "gcd" = some (.builtin "math.gcd")
  t_TEXT_LIMIT : Tok
  g_TEXT_LIMIT : mg "TEXT_LIMIT" = some (.int 1000 t_TEXT_LIMIT)
  c_MarketplaceError : Addr
  g_MarketplaceError : mg "MarketplaceError" = some (.ref c_MarketplaceError)
  x_MarketplaceError : PySem.W.excIn K c_MarketplaceError [.type "ValueError", .type "Exception", .type "BaseException", .type "object"] "ValueError.__new__" = true
  k_MarketplaceError : PySem.W.keepIn K (.ref c_MarketplaceError) = true
  b_MarketplaceError : PySem.W.subIn K (.ref c_MarketplaceError) (.type "BaseException") = some true
  t_MarketplaceError : PySem.W.typeIn K (.ref c_MarketplaceError) = some (.type "type")
  h_MarketplaceError : PySem.W.hasDictIn K c_MarketplaceError = true
  e_MarketplaceError : ExcC K c_MarketplaceError
  c_ZeroDenominator : Addr
  g_ZeroDenominator : mg "ZeroDenominator" = some (.ref c_ZeroDenominator)
  x_ZeroDenominator : PySem.W.excIn K c_ZeroDenominator [.type "ValueError", .type "Exception", .type "BaseException", .type "object"] "ValueError.__new__" = true
  k_ZeroDenominator : PySem.W.keepIn K (.ref c_ZeroDenominator) = true
  b_ZeroDenominator : PySem.W.subIn K (.ref c_ZeroDenominator) (.type "BaseException") = some true
  t_ZeroDenominator : PySem.W.typeIn K (.ref c_ZeroDenominator) = some (.type "type")
  h_ZeroDenominator : PySem.W.hasDictIn K c_ZeroDenominator = true
  e_ZeroDenominator : ExcC K c_ZeroDenominator
  c_TextError : Addr
  g_TextError : mg "TextError" = some (.ref c_TextError)
  x_TextError : PySem.W.excIn K c_TextError [.type "ValueError", .type "Exception", .type "BaseException", .type "object"] "ValueError.__new__" = true
  k_TextError : PySem.W.keepIn K (.ref c_TextError) = true
  b_TextError : PySem.W.subIn K (.ref c_TextError) (.type "BaseException") = some true
  t_TextError : PySem.W.typeIn K (.ref c_TextError) = some (.type "type")
  h_TextError : PySem.W.hasDictIn K c_TextError = true
  e_TextError : ExcC K c_TextError
  s_TextError_MarketplaceError : PySem.W.subIn K (.ref c_TextError) (.ref c_MarketplaceError) = some true
  s_TextError_TextError : PySem.W.subIn K (.ref c_TextError) (.ref c_TextError) = some true
section
variable {P : Program} {w : World} {K : PySem.W.Frag} {mg : Str → Option Value} {base : Heap}
theorem mulK {k : Nat} {i j : Int} (hk : k ≤ 3000) (ha : Bd k i) (hb : Bd k j) : CMulW i j := mulX (ha.mono hk) (hb.mono hk)
def sp_begin (K : PySem.W.Frag) : Sp := fun vs H Q _ => ∃ (a : Addr) (ns : List Int), vs = [.ref a] ∧ SqL K H a (ns.map V.int) ∧ ∀ pd ps H', Same H H' → H pd = none → H ps = none → Dst H' pd ps → Q (.ref pd) H'
theorem ok__law_begin (T : Top K mg) : FnOk P w K mg base CX0 1 T.a__law_begin T.d__law_begin ["script"] (sp_begin K) := by
  refine T._law_begin_F.ok sc__law_begin (fun vs H Q E h => ?_) (fun cdv A outer s H vs Q E hr h => ?_)
  · obtain ⟨_, _, rfl, _⟩ := h
    rfl
  · obtain ⟨a, ns, rfl, hS, fin⟩ := h
    refine ⟨_, (pss_cons (ps_set (i := 1) sc__law_begin.nd rfl (Or.inl rfl) pe_int)
      (pss_cons (ps_for PassesOwn.never rfl (pi_list (pv 0)) (pg_name (i := 2) sc__law_begin.nd rfl (Or.inl rfl)) (pss_one (ps_set (i := 1) sc__law_begin.nd rfl (Or.inl rfl) (pe_op op_mod (pe_op op_add (pe_op op_add (pe_op op_mul (pv 1) pe_int) (pe_op op_mod (pe_callTy call_intI (by rfl) T.n_int (by decide +kernel) (pa_cons (pv 2) pa_nil)) pe_int)) pe_int) pe_int))))
      (pss_one (ps_ret (pe_lst (pa_cons (pe_callTy call_listL (by rfl) T.n_list (by decide +kernel) (pa_cons (pv 0) pa_nil)) (pa_cons pe_int (pa_cons pe_int (pa_cons (pv 1) pa_nil))))))))), ?_⟩
    refine ⟨_, rfl, a, rfl, ⟨_, hS⟩, for_list (K := K) (a := a) (xs := ns.map V.int) (fun i σ H' => ∃ (r : Int) (y : Option V), σ = [some (.ref a), some (.int r), y] ∧ H' = H) ⟨_, none, rfl, rfl⟩ (fun i σ H' _ ⟨_, _, _, e⟩ => e ▸ hS) ?_ ?_⟩
    · rintro i x σ H' hi ⟨r, y, rfl, rfl⟩
      obtain ⟨z, rfl⟩ : ∃ z, x = V.int z := by
        rw [List.getElem?_map] at hi
        cases e : ns[i]? with
        | none =>
          rw [e] at hi
          cases hi
        | some z =>
          rw [e] at hi
          exact ⟨z, (Option.some.inj hi).symm⟩
      exact ⟨_, rfl, _, _, rfl, rfl, mulC ⟨by decide, by decide⟩, _, rfl, _, rfl, _, _, rfl, rfl, (by show (0 : Int) < 2147483629; decide), _, _, rfl, rfl, _, _, rfl, rfl, _, _, rfl, rfl, (by show (0 : Int) < 2147483647; decide), _, _, rfl, rfl⟩
    · rintro σ H' ⟨r, y, rfl, rfl⟩
      refine ⟨_, rfl, _, _, rfl, hS, fun l hl => ⟨_, rfl, (by decide : 4 ≤ sizeLine), fun p hp => ?_⟩⟩
      have s1 := same_new (o := .lst (ns.map V.int)) hl
      have s2 := same_new (o := .lst [.ref l, .int 0, .int 0, .int r]) hp
      have nlp : l ≠ p := fun e => by
        rw [← e, upd_same] at hp
        cases hp
      exact fin p l _ (s1.trans s2) (s1.free hp) hl ⟨0, 0, ns, ⟨⟨_, upd_same⟩, by rw [upd_ne nlp, upd_same], nlp, by decide, by decide⟩⟩
def sp_take : Sp := fun vs H Q _ => ∃ (pd ps : Addr) (many : Int), vs = [.ref pd, .int many] ∧ Dst H pd ps ∧ 0 < many ∧ Bd 8000 many ∧ ∀ r H', Xt pd H H' → Dst H' pd ps → 0 ≤ r → r < many → Q (.int r) H'
theorem ok__law_take (T : Top K mg) : FnOk P w K mg base CX0 1 T.a__law_take T.d__law_take ["d", "many"] sp_take := by
  refine T._law_take_F.ok sc__law_take (fun vs H Q E h => ?_) (fun cdv A outer s H vs Q E hr h => ?_)
  · obtain ⟨_, _, _, rfl, _⟩ := h
    rfl
  · obtain ⟨pd, ps, many, rfl, ⟨i, r, ns, D⟩, hm, hM, fin⟩ := h
    have md : ∀ x H', Xt pd H H' → Dst H' pd ps → Q (.int (x % many)) H' := fun x H' h1 h2 => fin _ H' h1 h2 (Int.emod_nonneg x (by omega)) (Int.emod_lt_of_pos x hm)
    refine ⟨_, (Evl.pss_cut (ps_if (PW.pt (pw_and (pt_cmpR op_eq (pe_ix ix_list (pv 0) pe_int (fun _ _ => rfl)) pe_int (nomark _)) (pw_and1 (pt_cmpR op_lt (pe_ix ix_list (pv 0) pe_int (fun _ _ => rfl)) (pe_callB call_lenL (by rfl) T.n_len (by decide +kernel) (pa_cons (pe_ix ix_list (pv 0) pe_int (fun _ _ => rfl)) pa_nil)) (nomark _))))) (pss_cons (ps_asg (pe_callB call_abs (by rfl) T.n_abs (by decide +kernel) (pa_cons (pe_callTy call_intI (by rfl) T.n_int (by decide +kernel) (pa_cons (pe_ix ix_list (pe_ix ix_list (pv 0) pe_int (fun _ _ => rfl)) (pe_ix ix_list (pv 0) pe_int (fun _ _ => rfl)) (fun _ _ => rfl)) pa_nil)) pa_nil)) (pg_sub (pv 0) pe_int set_list))
      (pss_cons (ps_asg (pe_op op_add (pe_ix ix_list (pv 0) pe_int (fun _ _ => rfl)) pe_int) (pg_sub (pv 0) pe_int set_list))
      (pss_one (ps_if (pt_cmpR op_lt (pe_ix ix_list (pv 0) pe_int (fun _ _ => rfl)) (pe_op op_pow pe_int pe_int) (nomark _)) (pss_cons (ps_set (i := 2) sc__law_take.nd rfl (Or.inl rfl) (pe_callTy call_intI (by rfl) T.n_int (by decide +kernel) (pa_cons (pe_ix ix_list (pv 0) pe_int (fun _ _ => rfl)) pa_nil)))
      (pss_cons (ps_asg pe_int (pg_sub (pv 0) pe_int set_list))
      (pss_one (ps_ret (pe_op op_mod (pv 2) (pv 1)))))) pss_nil)))) pss_nil)
      (pss_cons (ps_if (pt_cmpR op_gt (pe_ix ix_list (pv 0) pe_int (fun _ _ => rfl)) pe_int (nomark _)) (pss_cons (ps_set (i := 3) sc__law_take.nd rfl (Or.inl rfl) (pe_op op_mod (pe_callTy call_intI (by rfl) T.n_int (by decide +kernel) (pa_cons (pe_ix ix_list (pv 0) pe_int (fun _ _ => rfl)) pa_nil)) (pv 1)))
      (pss_cons (ps_asg (pe_op op_fdivX (pe_callTy call_intI (by rfl) T.n_int (by decide +kernel) (pa_cons (pe_ix ix_list (pv 0) pe_int (fun _ _ => rfl)) pa_nil)) (pv 1)) (pg_sub (pv 0) pe_int set_list))
      (pss_one (ps_ret (pv 3))))) pss_nil)
      (pss_cons (ps_asg (pe_op op_mod (pe_callTy call_intI (by rfl) T.n_int (by decide +kernel) (pa_cons (pe_op op_add (pe_op op_mul (pe_ix ix_list (pv 0) pe_int (fun _ _ => rfl)) pe_int) pe_int) pa_nil)) pe_int) (pg_sub (pv 0) pe_int set_list))
      (pss_one (ps_ret (pe_op op_mod (pe_callTy call_intI (by rfl) T.n_int (by decide +kernel) (pa_cons (pe_op op_fdivX (pe_ix ix_list (pv 0) pe_int (fun _ _ => rfl)) pe_int) pa_nil)) (pv 1))))))), ?_⟩
    refine ⟨fun σ H' => ∃ y z r', σ = [some (.ref pd), some (.int many), y, z] ∧ Xt pd H H' ∧ ∃ i', DstI H' pd ps i' r' ns, ?_, ?_⟩
    · obtain ⟨sd, hd⟩ := D.at_d
      have stay : ∃ y z r', ([some (.ref pd), some (.int many), none, none] : List (Option V)) = [some (.ref pd), some (.int many), y, z] ∧ Xt pd H H ∧ ∃ i', DstI H pd ps i' r' ns := ⟨none, none, r, rfl, Xt.refl H, i, D⟩
      refine ⟨_, rfl, _, _, _, _, rfl, rfl, (SqL.of hd), (atI_nat (j := 2) rfl), rfl, _, rfl, ite2 (fun e => ?_) (fun e => iteF stay)⟩
      refine ⟨_, rfl, _, _, _, _, rfl, rfl, (SqL.of hd), (atI_nat (j := 1) rfl), _, rfl, _, _, _, _, rfl, rfl, (SqL.of hd), (atI_nat (j := 0) rfl), _, _, rfl, SqL.of D.at_s, _, _, rfl, rfl, _, rfl, ite2 (fun e1 => ?_) (fun e1 => stay)⟩
      have e2 : i < ((ns.map V.int).length : Int) := of_decide_eq_true e1
      rw [List.length_map] at e2
      obtain ⟨j, rfl⟩ := Int.eq_ofNat_of_zero_le D.i0
      have jl : j < ns.length := by omega
      have gj : (ns.map V.int)[j]? = some (.int ns[j]) := by
        rw [List.getElem?_map, List.getElem?_eq_getElem jl]
        rfl
      have ab : ∀ x : Int, 0 ≤ (if x < 0 then -x else x) := fun x => by split <;> omega
      refine ⟨_, rfl, _, _, _, _, rfl, rfl, (SqL.of hd), (atI_nat (j := 0) rfl), _, rfl, _, _, _, _, rfl, rfl, (SqL.of hd), (atI_nat (j := 1) rfl), _, _, _, _, rfl, rfl, SqL.of D.at_s, atI_nat gj, _, rfl, _, rfl, _, rfl, _, _, _, _, rfl, rfl, hd, rfl, ?_⟩
      have D1 := D.set (s' := sd) D.i0 (ab ns[j])
      obtain ⟨_, hd1⟩ := D1.at_d
      have hd1 : (upd H pd (.lst [.ref ps, .int (j : Int), .int (if ns[j] < 0 then -ns[j] else ns[j]), .int sd])) pd = _ := upd_same
      refine ⟨_, rfl, _, _, _, _, rfl, rfl, (SqL.of hd1), (atI_nat (j := 1) rfl), _, _, rfl, rfl, _, rfl, _, _, _, _, rfl, rfl, hd1, rfl, ?_⟩
      have D2 := D1.upd2 (i' := (j : Int) + 1) (r' := if ns[j] < 0 then -ns[j] else ns[j]) (s' := sd) (o := .lst [.ref ps, .int (j : Int), .int (if ns[j] < 0 then -ns[j] else ns[j]), .int sd]) (by omega) (ab ns[j])
      rw [upd_upd]
      have hd2 : (upd H pd (.lst [.ref ps, .int ((j : Int) + 1), .int (if ns[j] < 0 then -ns[j] else ns[j]), .int sd])) pd = _ := upd_same
      have D2 := D.set (i' := (j : Int) + 1) (r' := if ns[j] < 0 then -ns[j] else ns[j]) (s' := sd) (by omega) (ab ns[j])
      refine ⟨_, rfl, _, _, _, _, rfl, rfl, (SqL.of hd2), (atI_nat (j := 2) rfl), _, _, rfl, rfl, ⟨by decide, by decide, by decide⟩, _, _, rfl, rfl, _, rfl, ite2 (fun e3 => ?_) (fun e3 => ?_)⟩
      · refine ⟨_, rfl, _, _, _, _, rfl, rfl, (SqL.of hd2), (atI_nat (j := 2) rfl), _, rfl, _, rfl, _, _, _, _, rfl, rfl, hd2, rfl, _, rfl, _, rfl, _, _, rfl, rfl, hm, ?_⟩
        rw [upd_upd]
        exact md _ _ Xt.upd ⟨_, _, _, D.set (by omega) (by decide)⟩
      · exact ⟨none, none, _, rfl, Xt.upd, _, D2⟩
    · rintro σ H' ⟨y, z, r', rfl, hx, i', D'⟩
      obtain ⟨sd, hd⟩ := D'.at_d
      refine ⟨_, rfl, _, _, _, _, rfl, rfl, (SqL.of hd), (atI_nat (j := 2) rfl), _, _, rfl, rfl, _, rfl, ite2 (fun e => ?_) (fun e => ?_)⟩
      · refine ⟨_, rfl, _, _, _, _, rfl, rfl, (SqL.of hd), (atI_nat (j := 2) rfl), _, rfl, _, rfl, _, _, rfl, rfl, hm, _, rfl, _, _, _, _, rfl, rfl, (SqL.of hd), (atI_nat (j := 2) rfl), _, rfl, _, rfl, _, _, rfl, rfl, divX (by omega) hM, _, rfl, _, _, _, _, rfl, rfl, hd, rfl, _, rfl, ?_⟩
        refine md _ _ (hx.trans Xt.upd) ⟨_, _, _, D'.set D'.i0 ?_⟩
        rw [Int.fdiv_eq_ediv_of_nonneg _ (by omega)]
        exact Int.ediv_nonneg D'.r0 (by omega)
      · refine ⟨_, rfl, _, _, _, _, rfl, rfl, (SqL.of hd), (atI_nat (j := 3) rfl), _, _, rfl, rfl, mulC ⟨by decide, by decide⟩, _, _, rfl, rfl, _, rfl, _, _, rfl, rfl, (by show (0 : Int) < 2147483647; decide), _, rfl, _, _, _, _, rfl, rfl, hd, rfl, ?_⟩
        have D2 := D'.set (i' := i') (r' := r') (s' := (sd * 48271 + 11) % 2147483647) D'.i0 D'.r0
        have hd2 : (upd H' pd (.lst [.ref ps, .int i', .int r', .int ((sd * 48271 + 11) % 2147483647)])) pd = _ := upd_same
        exact ⟨_, rfl, _, _, _, _, rfl, rfl, (SqL.of hd2), (atI_nat (j := 3) rfl), _, _, rfl, rfl, ⟨by decide, by decide⟩, _, rfl, _, rfl, _, _, rfl, rfl, hm, md _ _ (hx.trans Xt.upd) ⟨_, _, _, D2⟩⟩
def sp_gcd : Sp := fun vs H Q _ => ∃ a b : Int, vs = [.int a, .int b] ∧ 0 ≤ a ∧ 0 ≤ b ∧ Q (.int (Int.gcd a b : Int)) H
theorem ok__law_gcd (T : Top K mg) : FnOk P w K mg base CX0 1 T.a__law_gcd T.d__law_gcd ["a", "b"] sp_gcd := by
  refine T._law_gcd_F.ok sc__law_gcd (fun vs H Q E h => ?_) (fun cdv A outer s H vs Q E hr h => ?_)
  · obtain ⟨_, _, rfl, _⟩ := h
    rfl
  · obtain ⟨a, b, rfl, ha, hb, fin⟩ := h
    refine ⟨_, (pss_cons (ps_while PassesOwn.never (pt_cmpR op_ne (pv 1) pe_int (nomark _)) (pss_one (ps_par (i := 0) (j := 1) (by rfl) sc__law_gcd.nd rfl rfl (by decide) rfl rfl (pa_cons (pv 1) (pa_cons (pe_op op_mod (pe_callTy call_intI (by rfl) T.n_int (by decide +kernel) (pa_cons (pv 0) pa_nil)) (pv 1)) pa_nil)) (by rfl))))
      (pss_one (ps_ret (pe_callB call_abs (by rfl) T.n_abs (by decide +kernel) (pa_cons (pv 0) pa_nil))))), ?_⟩
    refine ⟨fun m σ H' => ∃ x y : Int, σ = [some (.int x), some (.int y)] ∧ H' = H ∧ 0 ≤ x ∧ 0 ≤ y ∧ m = y.toNat ∧ Int.gcd x y = Int.gcd a b, ⟨_, a, b, rfl, rfl, ha, hb, rfl, rfl⟩, ?_⟩
    rintro m σ H' ⟨x, y, rfl, rfl, hx, hy, rfl, hg⟩
    refine ⟨_, rfl, rfl, _, rfl, ?_⟩
    by_cases e : y = 0
    · subst e
      refine iteNS rfl ?_
      have e1 : (if x < 0 then -x else x) = (Int.gcd a b : Int) := by
        rw [if_neg (by omega), ← hg, Int.gcd_zero_right]
        omega
      rw [← e1] at fin
      exact ⟨_, rfl, _, rfl, fin⟩
    · refine ite2 (fun _ => ?_) (fun z => (z (by simp [e])).elim)
      refine ⟨_, fun _ _ z => z, ?_⟩
      have hp : 0 < y := by omega
      refine ⟨_, rfl, _, rfl, _, rfl, _, rfl, _, _, rfl, rfl, hp, _, _, rfl, (x % y).toNat, ?_, y, x % y, rfl, rfl, hy, Int.emod_nonneg _ e, rfl, ?_⟩
      · have := Int.emod_lt_of_pos x hp
        have := Int.emod_nonneg x e
        omega
      · rw [gcd_step x y hx hy, hg]
def sp_f (K : PySem.W.Frag) : Sp := fun vs H Q _ => ∃ a b : Int, vs = [.int a, .int b] ∧ b ≠ 0 ∧ Bd 8000 b ∧ ∀ v H', Same H H' → DT K H' v (frD (frac a b)) → Q v H'
theorem ok__law_f (T : Top K mg) : FnOk P w K mg base CX0 2 T.a__law_f T.d__law_f ["a", "b"] (sp_f K) := by
  refine T._law_f_F.ok sc__law_f (fun vs H Q E h => ?_) (fun cdv A outer s H vs Q E hr h => ?_)
  · obtain ⟨_, _, rfl, _⟩ := h
    rfl
  · obtain ⟨a, b, rfl, hb, hB, fin⟩ := h
    have eL := fracL_eq (a := a) hb
    have ab : ∀ x : Int, 0 ≤ (if x < 0 then -x else x) := fun x => by split <;> omega
    have key : ∀ x y : Int, 0 < y → Bd 8000 y → (x / (Int.gcd x y : Int), y / (Int.gcd x y : Int)) = frac a b → ∀ p, H p = none → 
        CDivX x (Int.gcd (if x < 0 then -x else x) y : Int) ∧ CDivX y (Int.gcd (if x < 0 then -x else x) y : Int) ∧ Q (.ref p) (upd H p (.tup [.int (x.fdiv (Int.gcd (if x < 0 then -x else x) y : Int)), .int (y.fdiv (Int.gcd (if x < 0 then -x else x) y : Int))])) := by
      intro x y hy hY e p hp
      have eg : Int.gcd (if x < 0 then -x else x) y = Int.gcd x y := by
        split
        · exact Int.neg_gcd
        · rfl
      have g0 : 0 < Int.gcd x y := gcd_pos (by omega)
      have gB : Bd 8000 (Int.gcd x y : Int) := hY.le (by
        show Int.gcd x y ≤ y.natAbs
        exact Nat.le_of_dvd (by omega) (Nat.gcd_dvd_right _ _))
      rw [eg]
      refine ⟨divX (by omega) gB, divX (by omega) gB, fin _ _ (same_new hp) (DT.fr (Tp.of ?_))⟩
      rw [Int.fdiv_eq_ediv_of_nonneg _ (by omega), Int.fdiv_eq_ediv_of_nonneg _ (by omega), ← e]
      exact upd_same
    have go : ∀ x y : Int, 0 < y → Bd 8000 y → (x / (Int.gcd x y : Int), y / (Int.gcd x y : Int)) = frac a b → ∃ (u v : Int), u = (Int.gcd (if x < 0 then -x else x) y : Int) ∧ CDivX x u ∧ CDivX y u ∧ ∀ p, H p = none → Q (.ref p) (upd H p (.tup [.int (x.fdiv u), .int (y.fdiv u)])) := by
      intro x y hy hY e
      have eg : Int.gcd (if x < 0 then -x else x) y = Int.gcd x y := by
        split
        · exact Int.neg_gcd
        · rfl
      have g0 : 0 < Int.gcd x y := gcd_pos (by omega)
      have gB : Bd 8000 (Int.gcd x y : Int) := hY.le (by
        show Int.gcd x y ≤ y.natAbs
        exact Nat.le_of_dvd (by omega) (Nat.gcd_dvd_right _ _))
      refine ⟨_, 0, rfl, ?_, ?_, fun p hp => (key x y hy hY e p hp).2.2⟩
      · rw [eg]; exact divX (by omega) gB
      · rw [eg]; exact divX (by omega) gB
    refine ⟨_, (pss_cons (ps_if (pt_cmpR op_lt (pv 1) pe_int (nomark _)) (pss_cons (ps_set (i := 0) sc__law_f.nd rfl (Or.inl rfl) (pe_op op_sub pe_int (pv 0)))
      (pss_one (ps_set (i := 1) sc__law_f.nd rfl (Or.inl rfl) (pe_op op_sub pe_int (pv 1))))) pss_nil)
      (pss_cons (ps_set (i := 2) sc__law_f.nd rfl (Or.inl rfl) (pe_call (ok__law_gcd T) (hr.mono (by decide : 1 ≤ 1)) (by rfl) T.g__law_gcd T._law_gcd_F.kp T._law_gcd_b .nil pass0 (pa_cons (pe_callB call_abs (by rfl) T.n_abs (by decide +kernel) (pa_cons (pv 0) pa_nil)) (pa_cons (pv 1) pa_nil))))
      (pss_one (ps_ret (pe_tup (pa_cons (pe_op op_fdivX (pv 0) (pv 2)) (pa_cons (pe_op op_fdivX (pv 1) (pv 2)) pa_nil))))))), ?_⟩
    refine ⟨_, rfl, _, _, rfl, rfl, _, rfl, ite2 (fun e => ?_) (fun e => ?_)⟩
    · have e0 : b < 0 := of_decide_eq_true e
      obtain ⟨u, _, eu, c1, c2, k⟩ := go (0 - a) (0 - b) (by omega) (by rw [Int.zero_sub]; exact hB.neg) (by
        rw [← eL]
        unfold fracL
        simp only [if_pos e0])
      subst eu
      exact ⟨_, rfl, _, _, rfl, rfl, _, rfl, _, _, rfl, rfl, _, rfl, _, rfl, _, rfl, _, _, rfl, ab _, by omega, _, rfl, _, rfl, _, _, rfl, rfl, c1, _, rfl, _, rfl, _, _, rfl, rfl, c2, two_le, k⟩
    · have e0 : ¬ b < 0 := fun z => e (decide_eq_true z)
      obtain ⟨u, _, eu, c1, c2, k⟩ := go a b (by omega) hB (by
        rw [← eL]
        unfold fracL
        simp only [if_neg e0])
      subst eu
      exact ⟨_, rfl, _, rfl, _, rfl, _, _, rfl, ab _, by omega, _, rfl, _, rfl, _, _, rfl, rfl, c1, _, rfl, _, rfl, _, _, rfl, rfl, c2, two_le, k⟩
def sp_fraction (K : PySem.W.Frag) (Z : Addr) : Sp := fun vs H Q E => ∃ a b : Int, vs = [.int a, .int b] ∧ (b = 0 → E (.ref Z) none H) ∧ (b ≠ 0 → Bd 8000 b ∧ ∀ v H', Same H H' → DT K H' v (frD (frac a b)) → Q v H')
theorem ok_fraction (T : Top K mg) : FnOk P w K mg base (L2.CX P w) 1 T.a_fraction T.d_fraction ["numerator", "denominator"] (sp_fraction K T.c_ZeroDenominator) := by
  refine T.fraction_F.okX sc_fraction (fun vs H Q E h => ?_) (fun cdv A outer s H vs Q E hr h => ?_)
  · obtain ⟨a, b, rfl, _⟩ := h
    rfl
  · obtain ⟨a, b, rfl, h0, h1⟩ := h
    refine ⟨_, (pss_cons (ps_if (pt_cmpR op_eq (pv 1) pe_int (nomark _)) (pss_one (ps_raise rfl (takes_of rfl rfl rfl rfl) (pmk_own PySem.F.excBase_ValueError T.x_ZeroDenominator T.g_ZeroDenominator T.k_ZeroDenominator (raises_own T.b_ZeroDenominator T.t_ZeroDenominator) rfl))) pss_nil)
      (pss_cons (ps_set (i := 2) sc_fraction.nd rfl (Or.inl rfl) (pe_callBfun cr_gcd (by rfl) T.g_gcd (pa_cons (pv 0) (pa_cons (pv 1) pa_nil))))
      (pss_cons (ps_if (pt_cmpR op_lt (pv 1) pe_int (nomark _)) (pss_one (ps_set (i := 2) sc_fraction.nd rfl (Or.inl rfl) (pe_un un_neg (pv 2)))) pss_nil)
      (pss_one (ps_ret (pe_tup (pa_cons (pe_op op_fdivX (pv 0) (pv 2)) (pa_cons (pe_op op_fdivX (pv 1) (pv 2)) pa_nil)))))))), ?_⟩
    refine ⟨_, rfl, rfl, _, rfl, ite2 (fun e => ?_) (fun e => ?_)⟩
    · exact h0 (V.int.inj (of_decide_eq_true e))
    · have hb : b ≠ 0 := fun z => e (by rw [z]; exact decide_eq_true rfl)
      obtain ⟨hB, q⟩ := h1 hb
      have hs := sg_ne (a := a) hb
      have hz : Bd 8000 (sg a b) := hB.le (by rw [sg_abs]; exact Nat.le_of_dvd (by omega) (Nat.gcd_dvd_right _ _))
      have fin : ∀ s, s = sg a b → ∀ p, H p = none → Q (.ref p) (upd H p (.tup [.int (a.fdiv s), .int (b.fdiv s)])) := by
        rintro _ rfl p hp
        exact q _ _ (same_new hp) (DT.fr (Tp.of upd_same))
      have dv : ∀ s x, s = sg a b → CDivX x s := by
        rintro _ x rfl
        exact divX hs hz
      refine ⟨_, rfl, _, rfl, a, b, rfl, ?_⟩
      refine ⟨_, rfl, _, _, rfl, rfl, _, rfl, ite2 (fun e => ?_) (fun e => ?_)⟩
      · have e0 : b < 0 := of_decide_eq_true e
        have es : -((Nat.gcd a.natAbs b.natAbs : Nat) : Int) = sg a b := (if_pos e0).symm
        exact ⟨_, rfl, _, rfl, _, rfl, _, rfl, _, _, rfl, rfl, dv _ _ es, _, rfl, _, rfl, _, _, rfl, rfl, dv _ _ es, two_le, fin _ es⟩
      · have e0 : ¬ b < 0 := fun z => e (decide_eq_true z)
        have es : ((Nat.gcd a.natAbs b.natAbs : Nat) : Int) = sg a b := (if_neg e0).symm
        exact ⟨_, rfl, _, rfl, _, _, rfl, rfl, dv _ _ es, _, rfl, _, rfl, _, _, rfl, rfl, dv _ _ es, two_le, fin _ es⟩
end
end Nl

namespace Nl
open PySem PySem.Spec PyProof.Rows L2
open TL (tl numL)
open PySem.NumText
theorem digit_low : ∀ c, c < 128 → Unicode.isDigit c = decide (48 ≤ c ∧ c ≤ 57) := by decide +kernel
theorem isascii_S (cs : List Nat) : Txt.isascii (SX.S cs) = cs.all (· < 128) := by
  unfold Txt.isascii
  rw [← Array.all_toList]
theorem isdigit_S {cs : List Nat} (h : ∀ c ∈ cs, c < 128) : Txt.isdigit (SX.S cs) = true ↔ cs ≠ [] ∧ AllDigits cs := by
  unfold Txt.isdigit
  rw [SX.S_len, ← Array.all_toList, Bool.and_eq_true, List.all_eq_true, decide_eq_true_iff]
  refine and_congr List.length_pos_iff ?_
  refine forall_congr' fun c => forall_congr' fun hc => ?_
  rw [digit_low c (h c hc), decide_eq_true_iff]
theorem digits_low {cs : List Nat} (h : AllDigits cs) : ∀ c ∈ cs, c < 128 := fun c hc => by
  have := h c hc
  omega
theorem lit (s : String) (l : List Nat) (h : s.toList.map Char.toNat = l) : Str.ofString s = SX.S l := TL.ext_tl (by rw [TL.tl_ofString, h])
theorem dstr (a b : List Nat) : decide (V.str (SX.S a) = V.str (SX.S b)) = decide (a = b) := by
  by_cases h : a = b
  · subst h
    rw [decide_eq_true rfl, decide_eq_true rfl]
  · rw [decide_eq_false h, decide_eq_false fun z => h (SX.S_inj (V.str.inj z))]
theorem str0 : Str.ofString "0" = SX.S [48] := lit _ _ (by decide)
section
variable {P : Program} {w : World} {K : PySem.W.Frag} {mg : Str → Option Value} {base : Heap}
def sp_isnat : Sp := fun vs H Q _ => ∃ cs : List Nat, vs = [.str (SX.S cs)] ∧ cs.length ≤ 1000 ∧ (NatT cs → Q (.bl true) H) ∧ (¬ NatT cs → Q (.bl false) H)
theorem ok_is_natural (T : Top K mg) : FnOk P w K mg base CX0 1 T.a_is_natural T.d_is_natural ["text"] sp_isnat := by
  refine T.is_natural_F.ok sc_is_natural (fun vs H Q E h => ?_) (fun cdv A outer s H vs Q E hr h => ?_)
  · obtain ⟨_, rfl, _⟩ := h
    rfl
  · obtain ⟨cs, rfl, hl, k1, k0⟩ := h
    refine ⟨_, (pss_one (ps_ret (pe_and (pe_m0 PySem.F.slot_str_isascii PySem.F.type_str_isascii mt_isascii (pv 0)) (pe_and (pe_m0 PySem.F.slot_str_isdigit PySem.F.type_str_isdigit mt_isdigit (pv 0)) (pe_one (pe_or (pe_cmpR op_ne (pe_ix ix_str (pv 0) pe_int (fun _ _ => rfl)) pe_str (nomark _)) (pe_one (pe_cmpR op_eq (pv 0) pe_str (nomark _))))))))), ?_⟩
    refine ⟨_, rfl, ⟨_, rfl⟩, _, rfl, rfl, trivial, ?_⟩
    refine ⟨_, rfl, ?_⟩
    by_cases ha : ∀ c ∈ cs, c < 128
    · refine if_true_of' (by rw [isascii_S, List.all_eq_true]; exact fun c hc => decide_eq_true (ha c hc)) ?_
      refine ⟨_, rfl, ⟨_, rfl⟩, _, rfl, rfl, trivial, _, rfl, ?_⟩
      by_cases hd : cs ≠ [] ∧ AllDigits cs
      · refine if_true_of' ((isdigit_S ha).mpr hd) ?_
        obtain ⟨h1, h2⟩ := hd
        cases cs with
        | nil => exact (h1 rfl).elim
        | cons c r =>
          refine ⟨_, rfl, _, _, c, rfl, rfl, by rw [SX.S_len]; exact len1000 hl, atI_nat (j := 0) rfl, ?_⟩
          refine ⟨rfl, _, rfl, ?_⟩
          rw [str0, show (⟨#[c]⟩ : Str) = SX.S [c] from rfl, dstr]
          by_cases hc : c = 48
          · refine if_false_of' (by rw [hc]; rfl) ?_
            refine ⟨_, rfl, rfl, ?_⟩
            rw [dstr]
            by_cases e : c :: r = [48]
            · rw [decide_eq_true e]
              refine k1 ⟨h2, h1, .inl (by rw [e]; rfl)⟩
            · rw [decide_eq_false e]
              refine k0 fun z => e ?_
              rcases z.lead with h | ⟨c', r', h, h9⟩
              · have : r = [] := List.length_eq_zero_iff.mp (by simpa using h)
                rw [hc, this]
              · cases h
                omega
          · refine if_true_of' (by rw [decide_eq_false (fun z => hc (List.cons.inj z).1)]; rfl) ?_
            have := h2.head
            exact k1 ⟨h2, h1, .inr ⟨c, r, rfl, by omega⟩⟩
      · refine if_false_of' (Bool.eq_false_iff.mpr fun z => hd ((isdigit_S ha).mp z)) ?_
        exact k0 fun z => hd ⟨z.ne, z.all⟩
    · refine if_false_of' (Bool.eq_false_iff.mpr fun z => ha ?_) ?_
      · rw [isascii_S, List.all_eq_true] at z
        exact fun c hc => of_decide_eq_true (z c hc)
      · exact k0 fun z => ha (digits_low z.all)
end
end Nl

namespace Nl
open PySem PySem.Spec PyProof.Rows L2
open TL (tl numL)
open PySem.NumText
theorem zfill_S {l : List Nat} (h : AllDigits l) (hl : l.length ≤ 64) (hne : l ≠ []) : Txt.zfill (SX.S l) 64 = SX.S (padL 64 l) := by
  unfold Txt.zfill padL
  rw [SX.S_len]
  by_cases c : (64 : Int) ≤ (l.length : Int)
  · rw [if_pos c, show 64 - l.length = 0 by omega]
    rfl
  · rw [if_neg c]
    cases l with
    | nil => exact (hne rfl).elim
    | cons x r =>
      have hx := h.head
      have e : PySem.zfilled (SX.S (x :: r)) ((64 : Int).toNat - (x :: r).length) = Builtin.Str.padded (SX.S (x :: r)) ((64 : Int).toNat - (x :: r).length) 0 48 := by
        unfold PySem.zfilled
        show (match some x with
          | some 43 | some 45 => _
          | _ => _) = _
        split
        · rename_i q
          cases q
          omega
        · rename_i q
          cases q
          omega
        · rfl
      rw [e]
      refine TL.ext_tl ?_
      unfold Builtin.Str.padded
      simp [tl]
theorem joinL_nil : ∀ ls : List (List Nat), TL.joinL [] ls = ls.flatten
  | [] => rfl
  | [p] => by simp [TL.joinL]
  | p :: q :: r => by
    rw [TL.joinL, joinL_nil (q :: r), List.nil_append]
    rfl
theorem join_S (ls : List (List Nat)) : Txt.join Str.empty (ls.map SX.S) = SX.S ls.flatten := by
  rw [TL.join_eq]
  refine TL.ext_tl ?_
  rw [TL.tl_join]
  show TL.joinL [] ((ls.map SX.S).map tl) = _
  rw [List.map_map, joinL_nil]
  congr 1
  exact List.map_id _
theorem big_digits : 2 ^ 8000 ≤ 10 ^ (2409 + 1) := by decide +kernel
theorem numL_bd {z : Int} (h : Bd 8000 z) : (numL z.natAbs).length ≤ 2410 := numL_len 2409 _ (Nat.lt_of_lt_of_le h big_digits)
theorem log_lo {n : Nat} (h : n < 10 ^ (63 + 1)) : (n : Int).natAbs.log2 < 1920 := by
  by_cases h0 : n = 0
  · subst h0
    decide
  · exact (Nat.log2_lt (by omega)).mpr (Nat.lt_of_lt_of_le h (by decide +kernel))
section
variable {P : Program} {w : World} {K : PySem.W.Frag} {mg : Str → Option Value} {base : Heap}
def sp_wint : Sp := fun vs H Q _ => ∃ z : Int, vs = [.int z] ∧ Bd 8000 z ∧ ∀ H', Same H H' → Q (.str (SX.S (intL z))) H'
theorem ok_write_integer (T : Top K mg) : FnOk P w K mg base CX0 1 T.a_write_integer T.d_write_integer ["number"] sp_wint := by
  refine T.write_integer_F.ok sc_write_integer (fun vs H Q E h => ?_) (fun cdv A outer s H vs Q E hr h => ?_)
  · obtain ⟨_, rfl, _⟩ := h
    rfl
  · obtain ⟨z, rfl, hz, fin⟩ := h
    refine ⟨_, (pss_cons (ps_set (i := 1) sc_write_integer.nd rfl (Or.inl rfl) (pe_op op_pow pe_int pe_int))
      (pss_cons (ps_set (i := 2) sc_write_integer.nd rfl (Or.inl rfl) (pe_callB call_abs (by rfl) T.n_abs (by decide +kernel) (pa_cons (pv 0) pa_nil)))
      (pss_cons (ps_set (i := 3) sc_write_integer.nd rfl (Or.inl rfl) (pe_lst pa_nil))
      (pss_cons (ps_while PassesOwn.never (pt_cmpR op_ge (pv 2) (pv 1) (nomark _)) (pss_cons (ps_asg (pe_callB call_divmodW (by rfl) T.n_divmod (by decide +kernel) (pa_cons (pv 2) (pa_cons (pv 1) pa_nil))) (pg_tup rfl (pgs_cons (pg_name (i := 2) sc_write_integer.nd rfl (Or.inl rfl)) (pgs_cons (pg_name (i := 4) sc_write_integer.nd rfl (Or.inl rfl)) pgs_nil))))
      (pss_one (ps_expr (pe_bm PySem.F.plainAttrs_list PySem.F.slot_list_append PySem.F.type_list_append mt_append (pv 3) (pa_cons (pe_m1 PySem.F.slot_str_zfill PySem.F.type_str_zfill mt_zfill (pe_callTy call_str_int (by rfl) T.n_str (by decide +kernel) (pa_cons (pv 4) pa_nil)) pe_int) pa_nil))))))
      (pss_cons (ps_expr (pe_bm PySem.F.plainAttrs_list PySem.F.slot_list_append PySem.F.type_list_append mt_append (pv 3) (pa_cons (pe_callTy call_str_int (by rfl) T.n_str (by decide +kernel) (pa_cons (pv 2) pa_nil)) pa_nil)))
      (pss_cons (ps_if (pt_cmpR op_lt (pv 0) pe_int (nomark _)) (pss_one (ps_expr (pe_bm PySem.F.plainAttrs_list PySem.F.slot_list_append PySem.F.type_list_append mt_append (pv 3) (pa_cons pe_str pa_nil)))) pss_nil)
      (pss_one (ps_ret (pe_joinRev rfl pe_str (by rfl) T.n_reversed (pv 3)))))))))), ?_⟩
    have p64 : (0 : Int) < 10 ^ 64 := by decide
    have last : ∀ (L : List (List Nat)) (H' : Hp) (pl : Addr), Same H H' → H' pl = some (.lst (L.map fun p => V.str (SX.S p))) → L.reverse.flatten = intL z → (L.map List.length).sum + L.length ≤ 3000 →
        (∃ a : Str, V.str (Str.ofString "") = .str a) ∧ ∃ v, some (some (V.ref pl)) = some (some v) ∧ ∃ (a : Str) (q : Addr) (ys : List Str), V.str (Str.ofString "") = .str a ∧ v = .ref q ∧ SqL K H' q (ys.map V.str) ∧ (ys.map (·.length)).sum + ys.length * a.length ≤ 16777216 ∧ Q (.str (Txt.join a ys.reverse)) H' := by
      intro L H' pl sm hl hf hs
      have hd := SqL.of (K := K) hl
      refine ⟨⟨_, rfl⟩, _, rfl, Str.empty, pl, L.map SX.S, congrArg V.str (TL.ext_tl rfl), rfl, by rw [List.map_map]; exact hd, ?_, ?_⟩
      · rw [List.map_map, show ((fun x : Str => x.length) ∘ SX.S) = List.length from funext fun l => SX.S_len l]
        show _ + _ * 0 ≤ _
        omega
      · rw [← List.map_reverse, join_S, hf]
        exact fin H' sm
    refine ⟨_, _, rfl, rfl, ⟨by decide, by decide, by decide⟩, _, rfl, _, rfl, Nat.zero_le _, fun pl hpl => ?_⟩
    have ab : (if z < 0 then -z else z) = (z.natAbs : Int) := by split <;> omega
    rw [ab]
    have s0 := same_new (o := .lst []) hpl
    refine ⟨fun m σ H' => ∃ (r : Nat) (ps : List (List Nat)) (y : Option V), σ = [some (.int z), some (.int (10 ^ 64)), some (.int (r : Int)), some (.ref pl), y] ∧ Same H H' ∧ H' pl = some (.lst (ps.map fun p => V.str (SX.S p))) ∧ m = r ∧ (∀ p ∈ ps, p.length = 64) ∧ numL z.natAbs = numL r ++ ps.reverse.flatten,
      ⟨_, z.natAbs, [], none, rfl, s0, upd_same, rfl, fun p hp => (nomatch hp), by simp⟩, ?_⟩
    rintro m σ H' ⟨r, ps, y, rfl, sm, hl, rfl, h64, hn⟩
    have h2s : (ps.map List.length).sum = ps.length * 64 := by
      clear hn hl
      induction ps with
      | nil => rfl
      | cons p ps ih =>
        rw [List.map_cons, List.sum_cons, ih (fun q hq => h64 q (List.mem_cons_of_mem _ hq)), h64 p (by simp), List.length_cons]
        omega
    have hsum : (numL m).length + ps.length * 64 ≤ 2410 := by
      have h1 := numL_bd hz
      rw [hn, List.length_append, List.length_flatten] at h1
      rw [List.map_reverse, List.sum_reverse, h2s] at h1
      omega
    refine ⟨_, rfl, _, rfl, _, _, rfl, rfl, _, rfl, ite2 (fun c => ?_) (fun c => ?_)⟩
    · have c : (10 : Int) ^ 64 ≤ (m : Int) := of_decide_eq_true c
      refine ⟨_, fun _ _ z => z, ?_⟩
      refine ⟨_, rfl, _, rfl, _, _, rfl, ⟨p64, PyProof.noPylong_of_log2 (by decide +kernel)⟩, fun q hq => ?_⟩
      obtain ⟨qo, eq⟩ : ∃ qo : Nat, qo = m / 10 ^ 64 := ⟨_, rfl⟩
      obtain ⟨lo, el⟩ : ∃ lo : Nat, lo = m % 10 ^ 64 := ⟨_, rfl⟩
      have e1 : (m : Int) / 10 ^ 64 = (qo : Int) := by omega
      have e2 : (m : Int) % 10 ^ 64 = (lo : Int) := by omega
      have hlo : lo < 10 ^ (63 + 1) := by omega
      have hm : m = qo * 10 ^ (63 + 1) + lo := by omega
      have hq0 : 0 < qo := by omega
      have u1 := same_new (o := .tup [.int ((m : Int) / 10 ^ 64), .int ((m : Int) % 10 ^ 64)]) hq
      rw [e1, e2] at u1
      rw [e1, e2]
      have hl1 := u1 _ _ hl
      have hpad : (padL 64 (numL lo)).length = 64 := by
        unfold padL
        have := numL_len 63 lo hlo
        rw [List.length_append, List.length_replicate]
        omega
      refine ⟨_, _, rfl, (Tp.of upd_same).sq, rfl, _, _, rfl, _, _, rfl, rfl, ?_⟩
      refine ⟨_, rfl, .inl ⟨rfl, _, SqL.of hl1⟩, _, rfl, _, rfl, log_lo hlo, ⟨_, rfl⟩, _, _, rfl, rfl, rfl, _, _, _, rfl, rfl, hl1, ?_, ?_⟩
      · rw [List.length_map]
        exact small1000 (by omega)
      · rw [str_int, intL_pos (by omega), show ((lo : Nat) : Int).natAbs = lo by omega, zfill_S (natT_numL lo).all (numL_len 63 lo hlo) (natT_numL lo).ne]
        refine ⟨qo, by rw [eq]; exact Nat.div_lt_self (by omega) (by decide), qo, ps ++ [padL 64 (numL lo)], _, rfl, same_mut (sm.trans u1) hpl, by rw [upd_same, List.map_append]; rfl, rfl, fun p hp => ?_, ?_⟩
        · rcases List.mem_append.mp hp with hp | hp
          · exact h64 p hp
          · rw [List.mem_singleton.mp hp]
            exact hpad
        · rw [hn, hm, numL_split 63 qo lo hq0 hlo, List.reverse_append, List.append_assoc]
          rfl
    · have c : ¬ (10 : Int) ^ 64 ≤ (m : Int) := fun q => c (decide_eq_true q)
      have hm : m < 10 ^ (63 + 1) := by omega
      refine ⟨_, rfl, .inl ⟨rfl, _, SqL.of hl⟩, _, rfl, _, rfl, log_lo hm, _, _, _, rfl, rfl, hl, ?_, ?_⟩
      · rw [List.length_map]
        exact small1000 (by omega)
      · rw [str_int, intL_pos (by omega), show ((m : Nat) : Int).natAbs = m by omega]
        have hl2 : (upd H' pl (.lst (ps.map (fun p => V.str (SX.S p)) ++ [V.str (SX.S (numL m))]))) pl = some (.lst ((ps ++ [numL m]).map fun p => V.str (SX.S p))) := by
          rw [upd_same, List.map_append]
          rfl
        have s2 := same_mut (o := .lst (ps.map (fun p => V.str (SX.S p)) ++ [V.str (SX.S (numL m))])) sm hpl
        generalize (upd H' pl (.lst (ps.map (fun p => V.str (SX.S p)) ++ [V.str (SX.S (numL m))]))) = H2 at *
        refine ⟨_, rfl, _, _, rfl, rfl, _, rfl, ite2 (fun d => ?_) (fun d => ?_)⟩
        · have hneg : z < 0 := of_decide_eq_true d
          refine ⟨_, rfl, .inl ⟨rfl, _, SqL.of hl2⟩, _, _, _, rfl, rfl, hl2, ?_, ?_⟩
          · rw [List.length_map, List.length_append, List.length_singleton]
            exact small1000 (by omega)
          · have hl3 : (upd H2 pl (.lst ((ps ++ [numL m]).map (fun p => V.str (SX.S p)) ++ [V.str (Str.ofString "-")]))) pl = some (.lst ((ps ++ [numL m] ++ [[45]]).map fun p => V.str (SX.S p))) := by
              rw [upd_same, List.map_append (l₁ := ps ++ [numL m]), show Str.ofString "-" = SX.S [45] from lit _ _ (by decide)]
              rfl
            have s3 := same_mut (o := .lst ((ps ++ [numL m]).map (fun p => V.str (SX.S p)) ++ [V.str (Str.ofString "-")])) s2 hpl
            refine last _ _ _ s3 hl3 ?_ ?_
            · rw [List.reverse_append, List.reverse_append]
              show 45 :: (numL m ++ ps.reverse.flatten) = _
              rw [← hn]
              exact (if_pos hneg).symm
            · simp only [List.map_append, List.sum_append, List.map_cons, List.map_nil, List.sum_cons, List.sum_nil, List.length_append, List.length_cons, List.length_nil]
              omega
        · have hpos : ¬ z < 0 := fun q => d (decide_eq_true q)
          refine last _ _ _ s2 hl2 ?_ ?_
          · rw [List.reverse_append]
            show numL m ++ ps.reverse.flatten = _
            rw [← hn]
            exact (if_neg hpos).symm
          · simp only [List.map_append, List.sum_append, List.map_cons, List.map_nil, List.sum_cons, List.sum_nil, List.length_append, List.length_cons, List.length_nil]
            omega
end
end Nl

namespace Nl
open PySem PySem.Spec PyProof.Rows L2
open TL (tl numL)
open PySem.NumText
theorem len1000' {n : Nat} (h : n ≤ 100000) : n ≤ sizeLine := Nat.le_trans h (by decide)
theorem intL_len {z : Int} (h : Bd 8000 z) : (intL z).length ≤ 2411 := by
  have := numL_bd h
  unfold intL
  split
  · rw [List.length_cons]
    omega
  · omega
theorem val_lt : ∀ {cs : List Nat}, AllDigits cs → digitsVal cs < 10 ^ cs.length := by
  intro cs
  induction cs using List.reverseRecOn' with
  | nil => exact fun _ => by decide
  | snoc l x ih =>
    intro h
    have h1 := ih fun c hc => h c (List.mem_append_left _ hc)
    have h2 := h x (by simp)
    rw [digitsVal_snoc, List.length_append, List.length_singleton, Nat.pow_succ]
    omega
theorem big_text : 10 ^ 1000 ≤ 2 ^ 3400 := by decide +kernel
theorem val_bd {cs : List Nat} (h : AllDigits cs) (hl : cs.length ≤ 1000) : Bd 3400 (digitsVal cs : Int) := by
  show ((digitsVal cs : Nat) : Int).natAbs < 2 ^ 3400
  rw [Int.natAbs_natCast]
  exact Nat.lt_of_lt_of_le (val_lt h) (Nat.le_trans (Nat.pow_le_pow_right (by decide) hl) big_text)
theorem intV_bd {a : List Nat} (h : NatT (stripL a)) (hl : a.length ≤ 1000) : Bd 3400 (intV a) := by
  cases a with
  | nil => exact (h.ne rfl).elim
  | cons c r =>
    by_cases hc : c = 45
    · subst hc
      have h : NatT r := h
      exact (val_bd h.all (by rw [List.length_cons] at hl; omega)).neg
    · have e1 : stripL (c :: r) = c :: r := by
        unfold stripL
        split
        · rename_i q
          cases q
          exact (hc rfl).elim
        · rfl
      rw [e1] at h
      rw [intV_digits h.all]
      exact val_bd h.all hl
theorem strip_len (a : List Nat) : (stripL a).length ≤ a.length := by
  unfold stripL
  split
  · rw [List.length_cons]
    omega
  · exact Nat.le_refl _
theorem prefix_S (a : List Nat) : Txt.removeprefix (SX.S a) (SX.S [45]) = SX.S (stripL a) := by
  rw [PySem.StrLaws.removeprefix_eq, PySem.StrLaws.subAt_eq]
  cases a with
  | nil => rfl
  | cons c r =>
    show (if (decide (0 + 1 ≤ (SX.S (c :: r)).length) && ([c] == [45])) = true then (⟨((c :: r).drop 1 |>.take ((SX.S (c :: r)).length - 1)).toArray⟩ : Str) else SX.S (c :: r)) = _
    rw [SX.S_len, List.length_cons, decide_eq_true (by omega), Bool.true_and]
    by_cases h : c = 45
    · subst h
      rw [if_pos (show ([45] == [45]) = true from rfl)]
      show SX.S (r.take (r.length + 1 - 1)) = SX.S r
      rw [Nat.add_sub_cancel, List.take_length]
    · rw [if_neg (by simpa using h)]
      have e1 : stripL (c :: r) = c :: r := by
        unfold stripL
        split
        · rename_i q
          cases q
          exact (h rfl).elim
        · rfl
      rw [e1]
theorem part_none {cs : List Nat} (h : 47 ∉ cs) : Txt.partition (SX.S cs) (SX.S [47]) = (SX.S cs, Str.empty, Str.empty) := TL.partition_none (s := 47) (S := []) rfl h
theorem part_some {a b : List Nat} (h : 47 ∉ a) : Txt.partition (SX.S (a ++ 47 :: b)) (SX.S [47]) = (SX.S a, SX.S [47], SX.S b) := by
  have e : SX.S (a ++ 47 :: b) = SX.S a ++ SX.S [47] ++ SX.S b := by rw [SX.S_cat, SX.S_cat, List.append_assoc]; rfl
  rw [e]
  exact TL.partition_app (s := 47) (S := []) rfl h
section
variable {P : Program} {w : World} {K : PySem.W.Frag} {mg : Str → Option Value} {base : Heap}
def sp_wfrac (K : PySem.W.Frag) : Sp := fun vs H Q _ => ∃ (v : V) (q : Int × Int), vs = [v] ∧ DT K H v (frD q) ∧ Bd 8000 q.1 ∧ Bd 8000 q.2 ∧ ∀ H', Same H H' → Q (.str (SX.S (fracT q))) H'
theorem ok_write_fraction (T : Top K mg) : FnOk P w K mg base CX0 2 T.a_write_fraction T.d_write_fraction ["a"] (sp_wfrac K) := by
  refine T.write_fraction_F.ok sc_write_fraction (fun vs H Q E h => ?_) (fun cdv A outer s H vs Q E hr h => ?_)
  · obtain ⟨_, _, rfl, _⟩ := h
    rfl
  · obtain ⟨v, q, rfl, dv, b1, b2, fin⟩ := h
    obtain ⟨a, rfl, ha⟩ := dv.fr_inv
    have l1 := intL_len b1
    have l2 := intL_len b2
    refine ⟨_, (pss_cons (ps_asg (pv 0) (pg_tup rfl (pgs_cons (pg_name (i := 1) sc_write_fraction.nd rfl (Or.inl rfl)) (pgs_cons (pg_name (i := 2) sc_write_fraction.nd rfl (Or.inl rfl)) pgs_nil))))
      (pss_cons (ps_if (pt_cmpR op_eq (pv 2) pe_int (nomark _)) (pss_one (ps_ret (pe_call (ok_write_integer T) (hr.mono (by decide : 1 ≤ 1)) (by rfl) T.g_write_integer T.write_integer_F.kp T.write_integer_b .nil pass0 (pa_cons (pv 1) pa_nil)))) pss_nil)
      (pss_one (ps_ret (pe_op op_add_str (pe_op op_add_str (pe_call (ok_write_integer T) (hr.mono (by decide : 1 ≤ 1)) (by rfl) T.g_write_integer T.write_integer_F.kp T.write_integer_b .nil pass0 (pa_cons (pv 1) pa_nil)) pe_str) (pe_call (ok_write_integer T) (hr.mono (by decide : 1 ≤ 1)) (by rfl) T.g_write_integer T.write_integer_F.kp T.write_integer_b .nil pass0 (pa_cons (pv 2) pa_nil))))))), ?_⟩
    refine ⟨_, rfl, _, _, rfl, ha.sq, rfl, _, _, rfl, _, _, rfl, rfl, ?_⟩
    refine ⟨_, rfl, rfl, _, rfl, ite2 (fun e => ?_) (fun e => ?_)⟩
    · have e : q.2 = 1 := V.int.inj (of_decide_eq_true e)
      refine ⟨_, rfl, _, rfl, b1, fun H1 s1 => ?_⟩
      have := fin H1 s1
      unfold fracT at this
      rw [if_pos e] at this
      exact this
    · have e : q.2 ≠ 1 := fun z => e (by rw [z]; exact decide_eq_true rfl)
      refine ⟨_, rfl, _, rfl, b1, fun H1 s1 => ?_⟩
      refine ⟨_, _, rfl, rfl, ?_, ?_⟩
      · rw [SX.S_len, show Str.ofString "/" = SX.S [47] from lit _ _ (by decide), SX.S_len]
        exact len1000' (by simp; omega)
      refine ⟨_, rfl, _, rfl, b2, fun H2 s2 => ?_⟩
      have e2 : Str.ofString "/" = SX.S [47] := lit _ _ (by decide)
      refine ⟨_, _, rfl, rfl, ?_, ?_⟩
      · rw [e2, SX.S_cat, SX.S_len, SX.S_len]
        exact len1000' (by simp; omega)
      · rw [e2, SX.S_cat, SX.S_cat, List.append_assoc]
        have := fin H2 (s1.trans s2)
        unfold fracT at this
        rw [if_neg e] at this
        exact this
end
end Nl

namespace Nl
open PySem PySem.Spec PyProof.Rows L2
open TL (tl numL)
open PySem.NumText
section
variable {P : Program} {w : World} {K : PySem.W.Frag} {mg : Str → Option Value} {base : Heap}
def RdOk (cs : List Nat) (q : Int × Int) : Prop := cs.length ≤ 1000 ∧ Low q ∧ fracT q = cs
def sp_read (K : PySem.W.Frag) (Z : Addr) : Sp := fun vs H Q E => ∃ cs : List Nat, vs = [.str (SX.S cs)] ∧ cs.length ≤ 2000 ∧ ((∀ q, ¬ RdOk cs q) → ∀ H', Same H H' → E (.ref Z) none H') ∧ (∀ q, RdOk cs q → ∀ v H', Same H H' → DT K H' v (frD q) → Q v H')
theorem ok_read_fraction (T : Top K mg) (nd : base.NoDigits) : FnOk P w K mg base (L2.CX P w) 3 T.a_read_fraction T.d_read_fraction ["text"] (sp_read K T.c_TextError) := by
  refine T.read_fraction_F.okX sc_read_fraction (fun vs H Q E h => ?_) (fun cdv A outer s H vs Q E hr h => ?_)
  · obtain ⟨_, rfl, _⟩ := h
    rfl
  · obtain ⟨cs, rfl, hl, kE, kQ⟩ := h
    refine ⟨_, (pss_cons (ps_if (pt_cmpR op_gt (pe_callB call_len_str (by rfl) T.n_len (by decide +kernel) (pa_cons (pv 0) pa_nil)) (pe_glob (v := .int 1000) (by rfl) T.g_TEXT_LIMIT ⟨_, rfl⟩) (nomark _)) (pss_one (ps_raise rfl (takes_of rfl rfl rfl rfl) (pmk_own PySem.F.excBase_ValueError T.x_TextError T.g_TextError T.k_TextError (raises_own T.b_TextError T.t_TextError) rfl))) pss_nil)
      (pss_cons (ps_asg (pe_m1 PySem.F.slot_str_partition PySem.F.type_str_partition mt_partition (pv 0) pe_str) (pg_tup rfl (pgs_cons (pg_name (i := 1) sc_read_fraction.nd rfl (Or.inl rfl)) (pgs_cons (pg_name (i := 2) sc_read_fraction.nd rfl (Or.inl rfl)) (pgs_cons (pg_name (i := 3) sc_read_fraction.nd rfl (Or.inl rfl)) pgs_nil)))))
      (pss_cons (ps_if (PW.pt (pw_or (pt_not (pt_val (pe_call (ok_is_natural T) (hr.mono (by decide : 1 ≤ 2)) (by rfl) T.g_is_natural T.is_natural_F.kp T.is_natural_b .nil pass0 (pa_cons (pe_m1 PySem.F.slot_str_removeprefix PySem.F.type_str_removeprefix mt_removeprefix (pv 1) pe_str) pa_nil)))) (pw_or1 (PW.pt (pw_and (pt_truth (pv 2) (by intro _; rfl)) (pw_and1 (pt_not (pt_val (pe_call (ok_is_natural T) (hr.mono (by decide : 1 ≤ 2)) (by rfl) T.g_is_natural T.is_natural_F.kp T.is_natural_b .nil pass0 (pa_cons (pv 3) pa_nil)))))))))) (pss_one (ps_raise rfl (takes_of rfl rfl rfl rfl) (pmk_own PySem.F.excBase_ValueError T.x_TextError T.g_TextError T.k_TextError (raises_own T.b_TextError T.t_TextError) rfl))) pss_nil)
      (pss_cons (ps_set (i := 4) sc_read_fraction.nd rfl (Or.inl rfl) (pe_callTy (call_int_long nd) (by rfl) T.n_int (by decide +kernel) (pa_cons (pv 1) pa_nil)))
      (pss_cons (ps_set (i := 5) sc_read_fraction.nd rfl (Or.inl rfl) (pe_ifExp (pt_truth (pv 2) (by intro _; rfl)) (pe_callTy (call_int_long nd) (by rfl) T.n_int (by decide +kernel) (pa_cons (pv 3) pa_nil)) pe_int))
      (pss_cons (ps_if (PW.pt (pw_or (pt_cmpR op_eq (pv 5) pe_int (nomark _)) (pw_or1 (pt_cmpR op_ne (pe_call (ok_write_fraction T) (hr.mono (by decide : 2 ≤ 2)) (by rfl) T.g_write_fraction T.write_fraction_F.kp T.write_fraction_b .nil pass0 (pa_cons (pe_callS (ok_fraction T) (hr.mono (by decide : 1 ≤ 2)) rfl T.g_fraction T.fraction_F.kp T.fraction_b (fun σ => passAt (takes_of rfl rfl rfl rfl) σ) (pa_cons (pv 4) (pa_cons (pv 5) pa_nil))) pa_nil)) (pv 0) (nomark _))))) (pss_one (ps_raise rfl (takes_of rfl rfl rfl rfl) (pmk_own PySem.F.excBase_ValueError T.x_TextError T.g_TextError T.k_TextError (raises_own T.b_TextError T.t_TextError) rfl))) pss_nil)
      (pss_one (ps_ret (pe_tup (pa_cons (pv 4) (pa_cons (pv 5) pa_nil))))))))))), ?_⟩
    refine ⟨_, rfl, _, rfl, by rw [SX.S_len]; exact len1000' (by omega), ?_⟩
    rw [SX.S_len]
    refine ⟨_, _, rfl, rfl, _, rfl, ite2 (fun c => ?_) (fun c => ?_)⟩
    · have c : (1000 : Int) < (cs.length : Int) := of_decide_eq_true c
      refine kE (fun q h => ?_) H (Same.refl H)
      have := h.1
      omega
    have c : ¬ (1000 : Int) < (cs.length : Int) := fun z => c (decide_eq_true z)
    have hl : cs.length ≤ 1000 := by omega
    refine ⟨_, rfl, ⟨_, rfl⟩, _, _, rfl, rfl, rfl, by rw [SX.S_len]; exact len1000 hl, fun p1 h1 => ?_⟩
    rw [show Str.ofString "/" = SX.S [47] from lit _ _ (by decide)]
    have u1 := same_new (o := .tup [.str (Txt.partition (SX.S cs) (SX.S [47])).1, .str (Txt.partition (SX.S cs) (SX.S [47])).2.1, .str (Txt.partition (SX.S cs) (SX.S [47])).2.2]) h1
    have eM : Str.ofString "-" = SX.S [45] := lit _ _ (by decide)
    have sl := strip_len cs
    rcases slash_cases cs with hs | ⟨a, b, ecs, hs⟩
    · rw [part_none hs] at u1 ⊢
      refine ⟨_, _, rfl, SqT.of upd_same, rfl, _, _, rfl, _, _, rfl, _, _, rfl, rfl, ?_⟩
      refine ⟨_, rfl, ⟨_, rfl⟩, _, _, rfl, rfl, by rw [SX.S_len]; exact len1000 hl, ?_⟩
      rw [eM, prefix_S]
      refine ⟨_, rfl, by omega, fun hn => ?_, fun hn => ?_⟩
      · refine ⟨_, rfl, if_false_of' rfl ?_⟩
        refine ⟨_, rfl, _, ⟨(show Str.empty.length ≤ sizeLine by decide), rfl⟩, if_false_of' rfl (if_false_of' rfl ?_)⟩
        obtain ⟨n1, n2⟩ := int_text hn (by omega)
        refine ⟨_, rfl, _, _, rfl, n1, by rw [SX.S_len]; omega, n2, ?_⟩
        refine ⟨_, rfl, _, ⟨(show Str.empty.length ≤ sizeLine by decide), rfl⟩, if_false_of' rfl ?_⟩
        have bn := intV_bd hn hl
        refine ⟨_, rfl, rfl, _, rfl, if_false_of' rfl ?_⟩
        refine ⟨_, rfl, _, rfl, _, _, rfl, fun z => absurd z (by decide), fun _ => ⟨Bd.mono (k := 1) (by unfold Bd; decide) (by decide), fun vf H2 s2 df => ?_⟩⟩
        have hf := frac_low (a := intV cs) (b := 1) (by decide)
        refine ⟨vf, frac (intV cs) 1, rfl, df, (frac_b1 (by decide) bn).mono (by decide), (frac_b2 (k := 1) (by decide) (by unfold Bd; decide)).mono (by decide), fun H3 s3 => ⟨_, rfl, rfl, _, rfl, ?_⟩⟩
        rw [dstr]
        have s13 := (u1.trans s2).trans s3
        by_cases hc : cs ≠ [45, 48]
        · obtain ⟨y1, y2⟩ := whole_yes hn hc
          have e1 : frac (intV cs) 1 = (intV cs, 1) := frac_lowest y1
          refine if_false_of' (by rw [e1, y2, decide_eq_true rfl]; rfl) ?_
          refine ⟨_, rfl, _, rfl, two_le, fun p2 h2 => ?_⟩
          exact kQ (intV cs, 1) ⟨hl, y1, y2⟩ _ _ (s13.trans (same_new h2)) (DT.fr (Tp.of upd_same))
        · refine if_true_of' (by rw [decide_eq_false (whole_no hs (fun z => hc z.2) _ hf)]; rfl) ?_
          exact kE (fun q hq => whole_no hs (fun z => hc z.2) q hq.2.1 hq.2.2) _ s13
      · refine ⟨_, rfl, if_true_of' rfl ?_⟩
        exact kE (fun q hq => whole_no hs (fun z => hn z.1) q hq.2.1 hq.2.2) _ u1
    · subst ecs
      rw [part_some hs] at u1 ⊢
      have hab : a.length + (b.length + 1) ≤ 1000 := by simpa using hl
      have sa := strip_len a
      refine ⟨_, _, rfl, SqT.of upd_same, rfl, _, _, rfl, _, _, rfl, _, _, rfl, rfl, ?_⟩
      refine ⟨_, rfl, ⟨_, rfl⟩, _, _, rfl, rfl, by rw [SX.S_len]; exact len1000 (by omega), ?_⟩
      rw [eM, prefix_S]
      refine ⟨_, rfl, by omega, fun hn => ?_, fun hn => ?_⟩
      · refine ⟨_, rfl, if_false_of' rfl ?_⟩
        refine ⟨_, rfl, _, ⟨(show (SX.S [47]).length ≤ sizeLine by decide), rfl⟩, if_true_of' rfl ?_⟩
        refine ⟨_, rfl, b, rfl, by omega, fun hb => ?_, fun hb => ?_⟩
        · refine ⟨_, rfl, if_false_of' rfl ?_⟩
          obtain ⟨n1, n2⟩ := int_text hn (by omega)
          have hb2 : NatT (stripL b) := by rw [strip_digits hb.all]; exact hb
          obtain ⟨m1, m2⟩ := int_text hb2 (by omega)
          rw [intV_digits hb.all] at m1
          refine ⟨_, rfl, _, _, rfl, n1, by rw [SX.S_len]; omega, n2, ?_⟩
          refine ⟨_, rfl, _, ⟨(show (SX.S [47]).length ≤ sizeLine by decide), rfl⟩, if_true_of' rfl ?_⟩
          refine ⟨_, rfl, _, _, rfl, m1, by rw [SX.S_len]; omega, m2, ?_⟩
          have bn := intV_bd hn (by omega)
          have bd := val_bd hb.all (by omega)
          refine ⟨_, rfl, rfl, _, rfl, ite2 (fun z => ?_) (fun z => ?_)⟩
          · have z : (digitsVal b : Int) = 0 := V.int.inj (of_decide_eq_true z)
            have z := val_zero hb (by omega)
            exact kE (fun q hq => parts_no hs (fun y => y.2.2.2.1 z) q hq.2.1 hq.2.2) _ u1
          have hd : (digitsVal b : Int) ≠ 0 := fun y => z (by rw [y]; exact decide_eq_true rfl)
          refine ⟨_, rfl, _, rfl, _, _, rfl, fun y => absurd y hd, fun _ => ⟨bd.mono (by decide), fun vf H2 s2 df => ?_⟩⟩
          have hf := frac_low (a := intV a) hd
          refine ⟨vf, frac (intV a) (digitsVal b), rfl, df, (frac_b1 hd bn).mono (by decide), (frac_b2 hd bd).mono (by decide), fun H3 s3 => ⟨_, rfl, rfl, _, rfl, ?_⟩⟩
          rw [dstr]
          have s13 := (u1.trans s2).trans s3
          by_cases hc : a ≠ [45, 48] ∧ b ≠ [48] ∧ b ≠ [49] ∧ Int.gcd (intV a) (digitsVal b) = 1
          · obtain ⟨y1, y2⟩ := parts_yes hn hb hc.1 hc.2.1 hc.2.2.1 hc.2.2.2
            have e1 : frac (intV a) (digitsVal b) = (intV a, (digitsVal b : Int)) := frac_lowest y1
            refine if_false_of' (by rw [e1, y2, decide_eq_true rfl]; rfl) ?_
            refine ⟨_, rfl, _, rfl, two_le, fun p2 h2 => ?_⟩
            exact kQ (intV a, (digitsVal b : Int)) ⟨hl, y1, y2⟩ _ _ (s13.trans (same_new h2)) (DT.fr (Tp.of upd_same))
          · refine if_true_of' (by rw [decide_eq_false (parts_no hs (fun z => hc z.2.2) _ hf)]; rfl) ?_
            exact kE (fun q hq => parts_no hs (fun z => hc z.2.2) q hq.2.1 hq.2.2) _ s13
        · refine ⟨_, rfl, if_true_of' rfl ?_⟩
          exact kE (fun q hq => parts_no hs (fun z => hb z.2.1) q hq.2.1 hq.2.2) _ u1
      · refine ⟨_, rfl, if_true_of' rfl ?_⟩
        exact kE (fun q hq => parts_no hs (fun z => hn z.1) q hq.2.1 hq.2.2) _ u1
end
end Nl

namespace Nl
open PySem PySem.Spec PyProof.Rows L2
open TL (tl numL)
open PySem.NumText
def slashL (cs : List Nat) : List (List Nat) := TL.spl [47] 0 [] cs
theorem split_S (cs : List Nat) : Txt.split (SX.S cs) (SX.S [47]) = (slashL cs).map SX.S := by
  refine TL.map_tl_inj ?_
  rw [TL.split_spl _ _ (by show ([47] : List Nat) ≠ []; simp) (TL.kind_ok (by decide +kernel)), List.map_map]
  exact (List.map_id _).symm
theorem slashL_none {cs : List Nat} (h : 47 ∉ cs) : slashL cs = [cs] := TL.spl_last1 (S := []) (acc := []) h
theorem slashL_some {a b : List Nat} (h : 47 ∉ a) : slashL (a ++ 47 :: b) = a :: slashL b := TL.spl_part1 (S := []) (acc := []) h
theorem slashL_len : ∀ (n : Nat) (cs : List Nat), cs.length ≤ n → (slashL cs).length ≤ cs.length + 1 ∧ ∀ w ∈ slashL cs, w.length ≤ cs.length
  | n, cs, hn => by
    rcases slash_cases cs with h | ⟨a, b, e, h⟩
    · rw [slashL_none h]
      refine ⟨by simp, fun w hw => ?_⟩
      rw [List.mem_singleton.mp hw]
      exact Nat.le_refl _
    · subst e
      rw [slashL_some h]
      cases n with
      | zero => simp at hn
      | succ n =>
        have hl : (a ++ 47 :: b).length = a.length + (b.length + 1) := by simp
        obtain ⟨h1, h2⟩ := slashL_len n b (by omega)
        refine ⟨by rw [List.length_cons, hl]; omega, fun w hw => ?_⟩
        rw [hl]
        rcases List.mem_cons.mp hw with rfl | hw
        · omega
        · have := h2 w hw
          omega
def dig (c : Nat) : Bool := decide (48 ≤ c ∧ c ≤ 57)
theorem dig_in (c : Nat) : decide (c ∈ (Str.ofString "0123456789").cps.toList) = dig c := by
  have e : (Str.ofString "0123456789").cps.toList = [48, 49, 50, 51, 52, 53, 54, 55, 56, 57] := TL.tl_ofString _
  rw [e]
  refine decide_eq_decide.mpr ?_
  simp
  omega
theorem Sh.str {l : List Nat} {k : Nat} (h : ∀ c ∈ l, c < 128) : Sh k (.str (SX.S l)) := by
  refine ⟨?_, Nat.zero_le _⟩
  rw [PyData.canLay0]
  unfold PyData.strOk
  rw [← Array.all_toList, List.all_eq_true]
  exact fun c hc => decide_eq_true (by have := h c hc; omega)
theorem dts_strs {K : PySem.W.Frag} {H : Hp} : ∀ ws : List (List Nat), DTs K H (ws.map fun w => V.str (SX.S w)) (ws.map fun w => PyData.str (SX.S w))
  | [] => .nil
  | w :: ws => .cons (.str _) (dts_strs ws)
theorem eqv_strs : ∀ xs ys : List (List Nat), PyData.eqvAll (xs.map fun w => PyData.str (SX.S w)) (ys.map fun w => PyData.str (SX.S w)) = decide (xs = ys)
  | [], [] => by rw [decide_eq_true rfl]; simp [PyData.eqvAll]
  | [], y :: ys => by rw [decide_eq_false (by simp)]; simp [PyData.eqvAll]
  | x :: xs, [] => by rw [decide_eq_false (by simp)]; simp [PyData.eqvAll]
  | x :: xs, y :: ys => by
    rw [List.map_cons, List.map_cons, PyData.eqvAll, eqv_strs xs ys, PyData.eqv, SX.S_beq_eq]
    by_cases h : x = y
    · subst h
      simp
    · simp [h]
theorem dts_strs_dp {K : PySem.W.Frag} {H : Hp} {a : Addr} {ws : List (List Nat)} (h : SqL K H a (ws.map fun w => V.str (SX.S w))) : Dp K H (.ref a) (.list (ws.map fun w => PyData.str (SX.S w))) := .lst h (DTs.dp _ _ (dts_strs ws))
theorem sh_strs (ws : List (List Nat)) (h : ∀ w ∈ ws, ∀ c ∈ w, c < 128) : Sh 1 (.list (ws.map fun w => PyData.str (SX.S w))) := Sh.lst (k := 0) fun d hd => by
  obtain ⟨w, hw, rfl⟩ := List.mem_map.mp hd
  exact .str (h w hw)
theorem str0' : ([[48]].map fun w => V.str (SX.S w)) = [V.str (Str.ofString "0")] := by rw [str0]; rfl
theorem str1' : ([[49]].map fun w => V.str (SX.S w)) = [V.str (Str.ofString "1")] := by rw [show Str.ofString "1" = SX.S [49] from lit _ _ (by decide)]; rfl
theorem un65 {k : Nat} {A : Around} (r : Room k A) : A.units + 65 < cLine := by
  have := r.un
  omega
structure DueF (cs p0 : List Nat) (rest : List (List Nat)) : Prop where
  eq : slashL cs = p0 :: rest
  bad : ¬ NatT (stripL p0) ∨ (∃ w ∈ rest, ¬ NatT w) → ∀ q, ¬ RdOk cs q
  many : 2 ≤ rest.length → ∀ q, ¬ RdOk cs q
  neg : p0 = [45, 48] → ∀ q, ¬ RdOk cs q
  zero : rest = [[48]] ∨ rest = [[49]] → ∀ q, ¬ RdOk cs q
  one : rest = [] → cs = p0
  two : ∀ b, rest = [b] → cs = p0 ++ 47 :: b ∧ 47 ∉ p0
theorem dueF (cs : List Nat) : ∃ p0 rest, DueF cs p0 rest := by
  rcases slash_cases cs with h | ⟨a, b, e, h⟩
  · refine ⟨cs, [], slashL_none h, fun z q hq => ?_, fun z => (by simp at z), fun z q hq => ?_, fun z => ?_, fun _ => rfl, fun b z => (nomatch z)⟩
    · rcases z with z | ⟨w, hw, _⟩
      · exact whole_no h (fun y => z y.1) q hq.2.1 hq.2.2
      · cases hw
    · exact whole_no h (fun y => y.2 z) q hq.2.1 hq.2.2
    · rcases z with z | z <;> cases z
  · subst e
    have no : ¬ NatT b → ∀ q, ¬ RdOk (a ++ 47 :: b) q := fun z q hq => parts_no h (fun y => z y.2.1) q hq.2.1 hq.2.2
    rcases slash_cases b with h2 | ⟨a2, b2, e2, h2⟩
    · refine ⟨a, [b], by rw [slashL_some h, slashL_none h2], fun z q hq => ?_, fun z => (by simp at z), fun z q hq => ?_, fun z q hq => ?_, fun z => (nomatch z), fun c z => ?_⟩
      · rcases z with z | ⟨w, hw, z⟩
        · exact parts_no h (fun y => z y.1) q hq.2.1 hq.2.2
        · rw [List.mem_singleton.mp hw] at z
          exact no z q hq
      · exact parts_no h (fun y => y.2.2.1 z) q hq.2.1 hq.2.2
      · rcases z with z | z
        · exact parts_no h (fun y => y.2.2.2.1 (List.cons.inj z).1) q hq.2.1 hq.2.2
        · exact parts_no h (fun y => y.2.2.2.2.1 (List.cons.inj z).1) q hq.2.1 hq.2.2
      · rw [(List.cons.inj z).1]
        exact ⟨rfl, h⟩
    · have nb : ¬ NatT b := fun z => by
        have := z.all 47 (by rw [e2]; simp)
        omega
      obtain ⟨x, y, exy⟩ : ∃ x y, slashL b2 = x :: y := by
        rcases slash_cases b2 with h3 | ⟨a3, b3, e3, h3⟩
        · exact ⟨_, _, slashL_none h3⟩
        · exact ⟨_, _, by rw [e3]; exact slashL_some h3⟩
      refine ⟨a, a2 :: x :: y, by rw [slashL_some h, e2, slashL_some h2, exy], fun _ => no nb, fun _ => no nb, fun _ => no nb, fun _ => no nb, fun z => (nomatch z), fun c z => (nomatch (List.cons.inj z).2)⟩
section
variable {P : Program} {w : World} {K : PySem.W.Frag} {mg : Str → Option Value} {base : Heap}
def sp_signed : Sp := fun vs H Q _ => ∃ (pd ps : Addr) (most : Int), vs = [.ref pd, .int most] ∧ Dst H pd ps ∧ 0 ≤ most ∧ Bd 200 most ∧ ∀ r H', Xt pd H H' → Dst H' pd ps → -most ≤ r → r ≤ most → Q (.int r) H'
theorem ok__law_signed (T : Top K mg) : FnOk P w K mg base CX0 2 T.a__law_signed T.d__law_signed ["d", "most"] sp_signed := by
  refine T._law_signed_F.ok sc__law_signed (fun vs H Q E h => ?_) (fun cdv A outer s H vs Q E hr h => ?_)
  · obtain ⟨_, _, _, rfl, _⟩ := h
    rfl
  · obtain ⟨pd, ps, most, rfl, D, m0, hb, fin⟩ := h
    refine ⟨_, (pss_one (ps_ret (pe_op op_sub (pe_call (ok__law_take T) (hr.mono (by decide : 1 ≤ 1)) (by rfl) T.g__law_take T._law_take_F.kp T._law_take_b .nil pass0 (pa_cons (pv 0) (pa_cons (pe_op op_add (pe_op op_mul pe_int (pv 1)) pe_int) pa_nil))) (pv 1)))), ?_⟩
    refine ⟨_, rfl, _, rfl, _, _, rfl, rfl, mulC' ⟨by decide, by decide⟩, _, _, rfl, rfl, pd, ps, _, rfl, D, by omega, (Bd.add (k := 300) (m := 1) ((Bd.mul (k := 2) (m := 200) (x := 2) (by unfold Bd; decide) hb).mono (by decide)) (y := 1) (by unfold Bd; decide)).mono (by decide), fun r H1 x1 D1 r0 r1 => ?_⟩
    exact ⟨_, rfl, _, _, rfl, rfl, fin _ _ x1 D1 (by omega) (by omega)⟩
def sp_told (K : PySem.W.Frag) : Sp := fun vs H Q _ => ∃ cs : List Nat, vs = [.str (SX.S cs)] ∧ cs.length ≤ 2000 ∧ ((∀ q, ¬ RdOk cs q) → ∀ H', Same H H' → Q .non H') ∧ (∀ q, RdOk cs q → ∀ v H', Same H H' → DT K H' v (frD q) → Q v H')
theorem ok__law_told (T : Top K mg) (nd : base.NoDigits) : FnOk P w K mg base CX0 4 T.a__law_told T.d__law_told ["text"] (sp_told K) := by
  refine T._law_told_F.ok sc__law_told (fun vs H Q E h => ?_) (fun cdv A outer s H vs Q E hr h => ?_)
  · obtain ⟨_, rfl, _⟩ := h
    rfl
  · obtain ⟨cs, rfl, hl, kE, kQ⟩ := h
    refine ⟨_, (pss_cons (ps_try_as (i := 2) rfl rfl sc__law_told.nd rfl rfl ⟨rfl, by decide, .inl T.g_MarketplaceError⟩ takes0 (fun W pn xe tk _ => (pss_one (ps_set (i := 1) sc__law_told.nd rfl (Or.inl rfl) (pe_callS (ok_read_fraction T nd) (hr.mono (by decide : 3 ≤ 3)) rfl T.g_read_fraction T.read_fraction_F.kp T.read_fraction_b (fun σ => passAt tk σ) (pa_cons (pv 0) pa_nil)))))
      (fun a oe cls d pn hz hf => (pss_one (ps_ret (pe_ifExp (pt_val (pe_hyp (p := ∃ D, cls = .ref D ∧ d = none ∧ ExcC K D) (fun z => pe_callB (r := rIsX K cls a) (call_isX z hz hf) (by rfl) T.n_isinstance (by decide +kernel) (pa_cons (pv 2) (pa_cons (pe_glob (v := .ref T.c_TextError) (by rfl) T.g_TextError rfl) pa_nil))))) pe_non pe_int)))))
      (pss_one (ps_ret (pv 1)))), ?_⟩
    refine ⟨_, rfl, cs, rfl, hl, fun z H1 s1 => ?_, fun q hq v H1 s1 dv => ⟨_, rfl, kQ q hq v H1 s1 dv⟩⟩
    exact ⟨true, PySem.W.exm_ref T.b_MarketplaceError T.h_MarketplaceError T.t_MarketplaceError T.s_TextError_MarketplaceError, fun _ x hx => ⟨⟨_, rfl, rfl, T.e_TextError⟩, _, rfl, _, _, true, rfl, fun _ u => u, (kit_ref T.h_TextError T.t_TextError T.s_TextError_TextError T.s_TextError_TextError), _, rfl, iteT (kE z H1 s1)⟩, fun z => nomatch z⟩
theorem ok__law_due (T : Top K mg) (nd : base.NoDigits) : FnOk P w K mg base CX0 2 T.a__law_due T.d__law_due ["text"] (fun vs H Q E => sp_told K vs H Q E ∧ ∀ cs, vs = [.str (SX.S cs)] → cs.length ≤ 900) := by
  refine T._law_due_F.ok sc__law_due (fun vs H Q E h => ?_) (fun cdv A outer s H vs Q E hr h => ?_)
  · obtain ⟨⟨_, rfl, _⟩, _⟩ := h
    rfl
  · obtain ⟨⟨cs, rfl, _, kE, kQ⟩, hl⟩ := h
    have hl := hl cs rfl
    obtain ⟨p0, rest, F⟩ := dueF cs
    obtain ⟨ll, lw⟩ := slashL_len _ cs (Nat.le_refl _)
    rw [F.eq, List.length_cons] at ll
    rw [F.eq] at lw
    have l0 := lw p0 (by simp)
    have sl0 := strip_len p0
    refine ⟨_, (pss_cons (ps_set (i := 1) sc__law_due.nd rfl (Or.inl rfl) (pe_m1 PySem.F.slot_str_split PySem.F.type_str_split mt_split (pv 0) pe_str))
      (Evl.pss_cut (ps_set (i := 2) sc__law_due.nd rfl (Or.inl rfl) (pe_ifExp (pt_cmpR op_eq (pe_slice sl_str (pe_ix ix_list (pv 1) pe_int (fun _ _ => rfl)) po_none (po_some pe_int)) pe_str (nomark _)) (pe_slice sl_str (pe_ix ix_list (pv 1) pe_int (fun _ _ => rfl)) (po_some pe_int) po_none) (pe_ix ix_list (pv 1) pe_int (fun _ _ => rfl))))
      (pss_cons (ps_for PassesOwn.never rfl (pi_list (pe_op op_cat (pe_lst (pa_cons (pv 2) pa_nil)) (pe_slice sl_list (pv 1) (po_some pe_int) po_none))) (pg_name (i := 3) sc__law_due.nd rfl (Or.inl rfl)) (pss_one (ps_if (PW.pt (pw_or (pt_cmpR op_eq (pv 3) pe_str (nomark _)) (pw_or (pt_not (pt_val (pe_callB (cr_all rfl) (by rfl) T.n_all (by decide +kernel) (pa_cons (pe_lc (own := [("sign", 5)]) (g := (gName 5)) (tt := tYes) (by rfl) sc__law_due.nd (pi_str (pv 3)) (blkOk_by (own := [("sign", 5)]) (N := ["text", "parts", "top", "word", "bottom", "sign"]) (sc := defScope s__law_due) (by decide +kernel)) (fun _ _ _ _ _ => (pg_name (i := 5) sc__law_due.nd rfl (Or.inl rfl))) (fun _ _ _ _ _ => pts_nil) (fun _ _ _ _ _ => (pe_cmpR op_inS (pv 5) pe_str (by rfl)))) pa_nil)))) (pw_or1 (PW.pt (pw_and (pt_cmpR op_eq (pe_ix ix_str (pv 3) pe_int (fun _ _ => rfl)) pe_str (nomark _)) (pw_and1 (pt_cmpR op_gt (pe_callB call_len_str (by rfl) T.n_len (by decide +kernel) (pa_cons (pv 3) pa_nil)) pe_int (nomark _))))))))) (pss_one (ps_ret pe_non)) pss_nil)))
      (pss_cons (ps_if (PW.pt (pw_or (pt_cmpR op_gt (pe_callB call_lenL (by rfl) T.n_len (by decide +kernel) (pa_cons (pv 1) pa_nil)) pe_int (nomark _)) (pw_or (pt_cmpR op_eq (pe_ix ix_list (pv 1) pe_int (fun _ _ => rfl)) pe_str (nomark _)) (pw_or1 (pt_cmpR (op_inT (un65 hr)) (pe_slice sl_list (pv 1) (po_some pe_int) po_none) (pe_tup (pa_cons (pe_lst (pa_cons pe_str pa_nil)) (pa_cons (pe_lst (pa_cons pe_str pa_nil)) pa_nil))) (by rfl)))))) (pss_one (ps_ret pe_non)) pss_nil)
      (Evl.pss_cut (ps_set (i := 4) sc__law_due.nd rfl (Or.inl rfl) (pe_ifExp (pt_cmpR op_eq (pe_callB call_lenL (by rfl) T.n_len (by decide +kernel) (pa_cons (pv 1) pa_nil)) pe_int (nomark _)) (pe_callTy (call_int_long nd) (by rfl) T.n_int (by decide +kernel) (pa_cons (pe_ix ix_list (pv 1) pe_int (fun _ _ => rfl)) pa_nil)) pe_int))
      (pss_one (ps_ret (pe_ifExp (pt_cmpR op_eq (pe_call (ok__law_gcd T) (hr.mono (by decide : 1 ≤ 1)) (by rfl) T.g__law_gcd T._law_gcd_F.kp T._law_gcd_b .nil pass0 (pa_cons (pe_callTy (call_int_long nd) (by rfl) T.n_int (by decide +kernel) (pa_cons (pv 2) pa_nil)) (pa_cons (pv 4) pa_nil))) pe_int (nomark _)) (pe_tup (pa_cons (pe_callTy (call_int_long nd) (by rfl) T.n_int (by decide +kernel) (pa_cons (pe_ix ix_list (pv 1) pe_int (fun _ _ => rfl)) pa_nil)) (pa_cons (pv 4) pa_nil))) pe_non)))))))), ?_⟩
    refine ⟨_, rfl, ⟨_, rfl⟩, _, _, rfl, rfl, rfl, by rw [SX.S_len]; exact len1000 (by omega), fun p1 h1 => ?_⟩
    rw [show Str.ofString "/" = SX.S [47] from lit _ _ (by decide), split_S, F.eq]
    have h1' := h1
    have hp : (upd H p1 (.lst ((List.map SX.S (p0 :: rest)).map V.str))) p1 = some (.lst ((p0 :: rest).map fun p => V.str (SX.S p))) := by
      rw [upd_same, List.map_map]
      rfl
    have s1 := same_new (o := .lst ((List.map SX.S (p0 :: rest)).map V.str)) h1
    generalize (upd H p1 (.lst ((List.map SX.S (p0 :: rest)).map V.str))) = H1 at *
    have at0 : atI ((p0 :: rest).map fun p => V.str (SX.S p)) 0 = some (V.str (SX.S p0)) := atI_nat (j := 0) rfl
    -- the first part without its sign
    refine ⟨fun σ' H' => σ' = [some (.str (SX.S cs)), some (.ref p1), some (.str (SX.S (stripL p0))), none, none, none] ∧ H1 = H', ?_, ?_⟩
    · refine ⟨_, rfl, _, _, _, _, rfl, rfl, SqL.of hp, at0, _, rfl, _, rfl, by rw [SX.S_len]; exact len1000 (by omega), ?_⟩
      rw [show (some (1 : Int)) = some ((1 : Nat) : Int) from rfl, cutS_take]
      refine ⟨rfl, _, rfl, ?_⟩
      rw [show Str.ofString "-" = SX.S [45] from lit _ _ (by decide), dstr]
      cases p0 with
      | nil =>
        refine if_false_of' rfl ?_
        exact ⟨_, rfl, _, _, _, _, rfl, rfl, SqL.of hp, at0, rfl, rfl⟩
      | cons c r =>
        by_cases hc : c = 45
        · subst hc
          refine if_true_of' rfl ?_
          refine ⟨_, rfl, _, _, _, _, rfl, rfl, SqL.of hp, at0, _, rfl, _, rfl, by rw [SX.S_len]; exact len1000 (by omega), ?_⟩
          rw [show (some (1 : Int)) = some ((1 : Nat) : Int) from rfl, cutS_drop]
          exact ⟨rfl, rfl⟩
        · refine if_false_of' (decide_eq_false fun z => hc (List.cons.inj z).1) ?_
          have e1 : stripL (c :: r) = c :: r := by
            unfold stripL
            split
            · rename_i q
              cases q
              exact (hc rfl).elim
            · rfl
          rw [e1]
          exact ⟨_, rfl, _, _, _, _, rfl, rfl, SqL.of hp, at0, rfl, rfl⟩
    rintro σ' H' ⟨rfl, rfl⟩
    -- the words
    refine ⟨_, rfl, (by decide : 1 ≤ sizeLine), fun p2 h2 => ?_⟩
    have u2 := same_new (o := .lst [.str (SX.S (stripL p0))]) h2
    have hp2 := u2 _ _ hp
    refine ⟨_, rfl, _, rfl, p1, _, rfl, SqL.of hp2, fun p3 h3 => ?_⟩
    have u3 := same_new (o := .lst (cutV ((p0 :: rest).map fun p => V.str (SX.S p)) (some (1 : Int)) none)) h3
    have ec : cutV ((p0 :: rest).map fun p => V.str (SX.S p)) (some (1 : Int)) none = rest.map fun p => V.str (SX.S p) := cut_drop ((p0 :: rest).map fun p => V.str (SX.S p)) 1
    refine ⟨p2, p3, _, _, rfl, rfl, u3 _ _ upd_same, upd_same, ?_, fun p4 h4 => ?_⟩
    · rw [ec, List.length_map]
      exact len1000 (by simp; omega)
    have u4 := same_new (o := .lst ([.str (SX.S (stripL p0))] ++ cutV ((p0 :: rest).map fun p => V.str (SX.S p)) (some (1 : Int)) none)) h4
    have hw : (upd (upd (upd H1 p2 (.lst [.str (SX.S (stripL p0))])) p3 (.lst (cutV ((p0 :: rest).map fun p => V.str (SX.S p)) (some (1 : Int)) none))) p4 (.lst ([.str (SX.S (stripL p0))] ++ cutV ((p0 :: rest).map fun p => V.str (SX.S p)) (some (1 : Int)) none))) p4 = some (.lst ((stripL p0 :: rest).map fun p => V.str (SX.S p))) := by
      rw [upd_same, ec]
      rfl
    have s14 := (u2.trans u3).trans u4
    have hp4 := s14 _ _ hp
    generalize (upd (upd (upd H1 p2 (.lst [.str (SX.S (stripL p0))])) p3 (.lst (cutV ((p0 :: rest).map fun p => V.str (SX.S p)) (some (1 : Int)) none))) p4 (.lst ([.str (SX.S (stripL p0))] ++ cutV ((p0 :: rest).map fun p => V.str (SX.S p)) (some (1 : Int)) none))) = H4 at *
    have s04 := s1.trans s14
    have wl : ∀ w ∈ stripL p0 :: rest, w.length ≤ cs.length := fun w hw => by
      rcases List.mem_cons.mp hw with rfl | hw
      · omega
      · exact lw w (List.mem_cons_of_mem _ hw)
    refine ⟨p4, rfl, ⟨_, SqL.of hw⟩, for_list (K := K) (a := p4) (xs := (stripL p0 :: rest).map fun p => V.str (SX.S p)) (fun i σ H' => ∃ y, σ = [some (.str (SX.S cs)), some (.ref p1), some (.str (SX.S (stripL p0))), y, none, none] ∧ Same H4 H' ∧ ∀ w ∈ (stripL p0 :: rest).take i, NatT w) ⟨none, rfl, Same.refl _, fun w hw => by simp at hw⟩ (fun i σ H' _ ⟨_, _, sm, _⟩ => SqL.of (sm _ _ hw)) ?_ ?_⟩
    · rintro i x σ H' hi ⟨y, rfl, sm, hg⟩
      rw [List.getElem?_map] at hi
      obtain ⟨wd, hwd, rfl⟩ := Option.map_eq_some_iff.mp hi
      have hm := List.mem_of_getElem? hwd
      have hwl := wl wd hm
      have none_ : ¬ NatT wd → ∀ H5, Same H4 H5 → Q .non H5 := fun z H5 s5 => kE (F.bad (by
        rcases List.mem_cons.mp hm with rfl | hm
        · exact .inl z
        · exact .inr ⟨_, hm, z⟩)) _ (s04.trans s5)
      refine ⟨_, rfl, rfl, _, rfl, ?_⟩
      rw [show Str.ofString "" = SX.S [] from lit _ _ (by decide), dstr]
      by_cases h0 : wd = []
      · refine if_true_of' (decide_eq_true h0) ?_
        exact none_ (fun z => z.ne h0) _ sm
      refine if_false_of' (decide_eq_false h0) ?_
      refine ⟨_, rfl, SX.S wd, rfl, fun D hD => lc_its (fun i H5 => Same H' H5 ∧ H5 D = some (.lst (((wd.take i).map dig).map V.bl))) ⟨same_new hD, upd_same⟩ ?_ ?_⟩
      · rintro j c H5 hc ⟨s5, hO⟩
        refine ⟨rfl, ?_⟩
        dsimp only [tYes]
        rw [if_pos rfl]
        refine ⟨_, rfl, c, _, rfl, rfl, ?_⟩
        refine ⟨_, hO, ?_, same_mut s5 hD, ?_⟩
        · rw [List.length_map, List.length_map]
          exact Nat.lt_of_le_of_lt (List.length_take_le' _ _) (small1000 (by omega))
        · rw [upd_same, take_next hc, List.map_append, List.map_append, dig_in]
          rfl
      rintro H5 ⟨s5, hO⟩
      rw [show (SX.S wd).cps.toList.length = wd.length from rfl, List.take_length] at hO
      have s45 := sm.trans s5
      refine ⟨D, wd.map dig, rfl, SqL.of hO, _, rfl, ?_⟩
      by_cases hd : AllDigits wd
      · refine if_false_of' (by rw [show (wd.map dig).all id = true from by rw [List.all_map, List.all_eq_true]; exact fun c hc => decide_eq_true (hd c hc)]; rfl) ?_
        cases wd with
        | nil => exact (h0 rfl).elim
        | cons c r =>
          refine ⟨_, rfl, _, _, c, rfl, rfl, by rw [SX.S_len]; exact len1000 (by omega), atI_nat (j := 0) rfl, rfl, _, rfl, ?_⟩
          rw [str0, show (⟨#[c]⟩ : Str) = SX.S [c] from rfl, dstr]
          have good : NatT (c :: r) → ∀ w ∈ (stripL p0 :: rest).take (i + 1), NatT w := fun hn w hw => by
            rw [take_next hwd] at hw
            rcases List.mem_append.mp hw with hw | hw
            · exact hg w hw
            · rw [List.mem_singleton.mp hw]
              exact hn
          by_cases hc : c = 48
          · refine if_true_of' (decide_eq_true (by rw [hc])) ?_
            refine ⟨_, rfl, _, rfl, by rw [SX.S_len]; exact len1000 (by omega), ?_⟩
            rw [SX.S_len]
            refine ⟨_, _, rfl, rfl, _, rfl, ite2 (fun z => ?_) (fun z => ?_)⟩
            · have z : (1 : Int) < ((c :: r).length : Int) := of_decide_eq_true z
              refine none_ (fun n => ?_) _ s45
              rcases n.lead with y | ⟨x, q, e, y⟩
              · omega
              · cases e
                omega
            · have z : ¬ (1 : Int) < ((c :: r).length : Int) := fun y => z (decide_eq_true y)
              refine ⟨_, rfl, s45, good ⟨hd, h0, .inl ?_⟩⟩
              have : 0 < (c :: r).length := by simp
              omega
          · refine if_false_of' (decide_eq_false fun z => hc (List.cons.inj z).1) (if_false_of' rfl ?_)
            have := hd.head
            exact ⟨_, rfl, s45, good ⟨hd, h0, .inr ⟨c, r, rfl, by omega⟩⟩⟩
      · refine if_true_of' ?_ ?_
        · rw [Bool.not_eq_true', Bool.eq_false_iff]
          intro z
          rw [List.all_map, List.all_eq_true] at z
          exact hd fun c hc => of_decide_eq_true (z c hc)
        · exact none_ (fun z => hd z.all) _ s45
    · rintro σ H' ⟨y, rfl, sm, hg⟩
      rw [List.length_map, List.take_length] at hg
      have s04' := s04.trans sm
      have hpp := sm _ _ hp4
      have lm : ((p0 :: rest).map fun p => V.str (SX.S p)).length = rest.length + 1 := by rw [List.length_map, List.length_cons]
      have n0 : NatT (stripL p0) := hg _ (by simp)
      refine ⟨_, rfl, p1, _, rfl, SqL.of hpp, ?_⟩
      rw [lm]
      refine ⟨_, _, rfl, rfl, _, rfl, ite2 (fun z => ?_) (fun z => ?_)⟩
      · have z : (2 : Int) < ((rest.length + 1 : Nat) : Int) := of_decide_eq_true z
        exact kE (F.many (by omega)) _ s04'
      have z : ¬ (2 : Int) < ((rest.length + 1 : Nat) : Int) := fun y => z (decide_eq_true y)
      refine ⟨_, rfl, _, _, _, _, rfl, rfl, SqL.of hpp, at0, rfl, _, rfl, ?_⟩
      rw [show Str.ofString "-0" = SX.S [45, 48] from lit _ _ (by decide), dstr]
      by_cases hneg : p0 = [45, 48]
      · refine if_true_of' (decide_eq_true hneg) ?_
        exact kE (F.neg hneg) _ s04'
      refine if_false_of' (decide_eq_false hneg) ?_
      refine ⟨_, rfl, _, rfl, p1, _, rfl, SqL.of hpp, fun q1 k1 => ⟨(by decide : 1 ≤ sizeLine), fun q2 k2 => ⟨(by decide : 1 ≤ sizeLine), fun q3 k3 => ⟨two_le, fun q4 k4 => ?_⟩⟩⟩⟩
      rw [ec] at k2 k3 k4 ⊢
      have v1 := same_new (o := .lst (rest.map fun p => V.str (SX.S p))) k1
      have v2 := same_new (o := .lst [.str (Str.ofString "0")]) k2
      have v3 := same_new (o := .lst [.str (Str.ofString "1")]) k3
      have v4 := same_new (o := .tup [.ref q2, .ref q3]) k4
      have v24 := (v2.trans v3).trans v4
      have w1 := v24 _ _ (upd_same (H := H') (a := q1) (o := .lst (rest.map fun p => V.str (SX.S p))))
      have w2 := (v3.trans v4) _ _ (upd_same (a := q2) (o := .lst [.str (Str.ofString "0")]))
      have w3 := v4 _ _ (upd_same (a := q3) (o := .lst [.str (Str.ofString "1")]))
      have s14' := v1.trans v24
      refine ⟨_, [.list ([[48]].map fun w => PyData.str (SX.S w)), .list ([[49]].map fun w => PyData.str (SX.S w))], dts_strs_dp (ws := rest) (SqL.of w1), ?_, (sh_strs rest fun w hw => digits_low (hg w (List.mem_cons_of_mem _ hw)).all).shaped, (Sh.tup (k := 1) fun d hd => ?_).shaped, ?_⟩
      · exact .tup (SqT.of upd_same) (.cons (dts_strs_dp (ws := [[48]]) (SqL.of (by rw [← str0']; exact w2))) (.cons (dts_strs_dp (ws := [[49]]) (SqL.of (by rw [← str1']; exact w3))) .nil))
      · rcases List.mem_cons.mp hd with rfl | hd
        · exact sh_strs [[48]] (by decide)
        · rw [List.mem_singleton.mp hd]
          exact sh_strs [[49]] (by decide)
      rw [List.any_cons, List.any_cons, List.any_nil, Bool.or_false, PyData.eqv, PyData.eqv, eqv_strs, eqv_strs]
      refine ⟨_, rfl, ?_⟩
      have hp5 := s14' _ _ hpp
      have s05 := s04'.trans s14'
      generalize (upd (upd (upd (upd H' q1 (.lst (rest.map fun p => V.str (SX.S p)))) q2 (.lst [.str (Str.ofString "0")])) q3 (.lst [.str (Str.ofString "1")])) q4 (.tup [.ref q2, .ref q3])) = H5 at *
      by_cases hz : rest = [[48]] ∨ rest = [[49]]
      · refine if_true_of' ?_ (kE (F.zero hz) _ s05)
        rcases hz with e | e
        · rw [e]; rfl
        · rw [e]; rfl
      refine if_false_of' ?_ ?_
      · rw [Bool.or_eq_false_iff]
        exact ⟨decide_eq_false fun e => hz (.inl e.symm), decide_eq_false fun e => hz (.inr e.symm)⟩
      refine ⟨fun σ' H' => ∃ bt : Nat, σ' = [some (.str (SX.S cs)), some (.ref p1), some (.str (SX.S (stripL p0))), y, some (.int (bt : Int)), none] ∧ H5 = H' ∧ ((rest = [] ∧ bt = 1) ∨ ∃ b, rest = [b] ∧ NatT b ∧ bt = digitsVal b), ?_, ?_⟩
      · refine ⟨_, rfl, p1, _, rfl, SqL.of hp5, ?_⟩
        rw [lm]
        refine ⟨rfl, _, rfl, ite2 (fun e => ?_) (fun e => ?_)⟩
        · have e : ((rest.length + 1 : Nat) : Int) = 2 := V.int.inj (of_decide_eq_true e)
          obtain ⟨b, eb⟩ : ∃ b, rest = [b] := List.length_eq_one_iff.mp (by omega)
          have hb : NatT b := hg b (by rw [eb]; simp)
          have hb2 : NatT (stripL b) := by rw [strip_digits hb.all]; exact hb
          have lb := wl b (by rw [eb]; simp)
          obtain ⟨m1, m2⟩ := int_text hb2 (by omega)
          rw [intV_digits hb.all] at m1
          refine ⟨_, rfl, _, _, _, _, rfl, rfl, SqL.of hp5, atI_nat (j := 1) (v := .str (SX.S b)) (by rw [eb]; rfl), SX.S b, _, rfl, m1, by rw [SX.S_len]; omega, m2, digitsVal b, rfl, rfl, .inr ⟨b, eb, hb, rfl⟩⟩
        · have e : ¬ ((rest.length + 1 : Nat) : Int) = 2 := fun z => e (by rw [z]; exact decide_eq_true rfl)
          exact ⟨1, rfl, rfl, .inl ⟨List.length_eq_zero_iff.mp (by omega), rfl⟩⟩
      rintro σ' H' ⟨bt, rfl, rfl, hbt⟩
      have n02 : NatT (stripL (stripL p0)) := by rw [strip_digits n0.all]; exact n0
      obtain ⟨m1, m2⟩ := int_text n02 (by omega)
      rw [intV_digits n0.all] at m1
      obtain ⟨k1', k2'⟩ := int_text n0 (by omega)
      have eg : Int.gcd (digitsVal (stripL p0) : Int) (bt : Int) = Int.gcd (intV p0) (bt : Int) := by
        have : (intV p0).natAbs = digitsVal (stripL p0) := by
          cases p0 with
          | nil => rfl
          | cons c r =>
            by_cases hc : c = 45
            · subst hc
              show (-(digitsVal r : Int)).natAbs = digitsVal r
              omega
            · have e1 : stripL (c :: r) = c :: r := by
                unfold stripL
                split
                · rename_i q
                  cases q
                  exact (hc rfl).elim
                · rfl
              rw [e1] at n0 ⊢
              rw [intV_digits n0.all]
              omega
        show Nat.gcd ((digitsVal (stripL p0) : Nat) : Int).natAbs _ = Nat.gcd (intV p0).natAbs _
        rw [this]
        rfl
      refine ⟨_, rfl, _, _, rfl, m1, by rw [SX.S_len]; omega, m2, _, rfl, _, _, rfl, by omega, by omega, ?_⟩
      rw [eg]
      refine ⟨rfl, _, rfl, ite2 (fun e => ?_) (fun e => ?_)⟩
      · have e : (Int.gcd (intV p0) (bt : Int) : Int) = 1 := V.int.inj (of_decide_eq_true e)
        refine ⟨_, rfl, _, _, _, _, rfl, rfl, SqL.of hp5, at0, _, _, rfl, k1', by rw [SX.S_len]; omega, k2', _, rfl, two_le, fun q5 k5 => ?_⟩
        have ok : RdOk cs (intV p0, (bt : Int)) := by
          rcases hbt with ⟨er, rfl⟩ | ⟨b, er, hb, rfl⟩
          · have ec := F.one er
            obtain ⟨y1, y2⟩ := whole_yes n0 hneg
            exact ⟨by omega, y1, by rw [ec]; exact y2⟩
          · obtain ⟨ec, hs⟩ := F.two b er
            obtain ⟨y1, y2⟩ := parts_yes n0 hb hneg (fun z => hz (.inl (by rw [er, z]))) (fun z => hz (.inr (by rw [er, z]))) (by omega)
            exact ⟨by omega, y1, by rw [ec]; exact y2⟩
        exact kQ _ ok _ _ (s05.trans (same_new k5)) (DT.fr (Tp.of upd_same))
      · have e : ¬ (Int.gcd (intV p0) (bt : Int) : Int) = 1 := fun z => e (by rw [z]; exact decide_eq_true rfl)
        refine kE (fun q hq => ?_) _ s05
        rcases hbt with ⟨er, rfl⟩ | ⟨b, er, hb, rfl⟩
        · exact e (by rw [show ((1 : Nat) : Int) = 1 from rfl, Int.gcd_one_right]; rfl)
        · obtain ⟨ec, hs⟩ := F.two b er
          exact parts_no hs (fun z => e (by rw [z.2.2.2.2.2]; rfl)) q hq.2.1 (by rw [hq.2.2, ec])
end
end Nl

namespace Nl
open PySem PySem.Spec PyProof.Rows L2
open TL (tl numL)
open PySem.NumText
theorem log_bd {k : Nat} {z : Int} (h : Bd k z) (hk : k ≤ 1919 := by decide) : z.natAbs.log2 < 1920 := by
  by_cases h0 : z.natAbs = 0
  · rw [h0]
    decide
  · exact (Nat.log2_lt h0).mpr (Nat.lt_of_lt_of_le h (Nat.pow_le_pow_right (by decide) (by omega)))
theorem intL_short {z : Int} (h : Bd 141 z) : (intL z).length ≤ 45 := by
  have := numL_len 42 z.natAbs (Nat.lt_of_lt_of_le h (by decide))
  unfold intL
  split
  · rw [List.length_cons]
    omega
  · omega
theorem fracT_short {q : Int × Int} (h : Ok 140 q) : (fracT q).length ≤ 100 := by
  have h1 := intL_short (h.b1.mono (show 140 ≤ 141 by decide))
  have h2 := intL_short (h.b2.mono (show 140 ≤ 141 by decide))
  unfold fracT
  split
  · omega
  · rw [List.length_append, List.length_cons]
    omega
theorem len_cat (a b : Str) : (a ++ b).length = a.length + b.length := by
  rw [TL.len_tl, TL.tl_append, List.length_append, ← TL.len_tl, ← TL.len_tl]
theorem cut_short (cs : List Nat) (lo hi : Option Int) : (cutS (SX.S cs) lo hi).length ≤ cs.length := by
  rw [cutS_S, SX.S_len, List.length_take, List.length_drop]
  omega
section
variable {P : Program} {w : World} {K : PySem.W.Frag} {mg : Str → Option Value} {base : Heap}
def sp_bent (K : PySem.W.Frag) : Sp := fun vs H Q _ => ∃ (pd ps : Addr) (cs : List Nat) (va : V) (q : Int × Int), vs = [.ref pd, .str (SX.S cs), va] ∧ Dst H pd ps ∧ cs.length ≤ 300 ∧ DT K H va (frD q) ∧ Ok 140 q ∧
  ∀ cs' H', Xt pd H H' → Dst H' pd ps → cs'.length ≤ 900 → Q (.str (SX.S cs')) H'
theorem ok__law_bent (T : Top K mg) : FnOk P w K mg base CX0 2 T.a__law_bent T.d__law_bent ["d", "text", "a"] (sp_bent K) := by
  refine T._law_bent_F.ok sc__law_bent (fun vs H Q E h => ?_) (fun cdv A outer s H vs Q E hr h => ?_)
  · obtain ⟨_, _, _, _, _, rfl, _⟩ := h
    rfl
  · obtain ⟨pd, ps, cs, va, q, rfl, D, hl, dv, oq, fin⟩ := h
    have fin' : ∀ (x : Str) H', Xt pd H H' → Dst H' pd ps → x.length ≤ 900 → Q (.str x) H' := fun x H' h1 h2 h3 => by
      have := fin x.cps.toList H' h1 h2 h3
      rw [SX.S_tl] at this
      exact this
    obtain ⟨a, rfl, ha⟩ := dv.fr_inv
    refine ⟨_, (pss_cons (ps_set (i := 3) sc__law_bent.nd rfl (Or.inl rfl) (pe_call (ok__law_take T) (hr.mono (by decide : 1 ≤ 1)) (by rfl) T.g__law_take T._law_take_F.kp T._law_take_b .nil pass0 (pa_cons (pv 0) (pa_cons pe_int pa_nil))))
      (pss_cons (ps_set (i := 4) sc__law_bent.nd rfl (Or.inl rfl) (pe_call (ok__law_take T) (hr.mono (by decide : 1 ≤ 1)) (by rfl) T.g__law_take T._law_take_F.kp T._law_take_b .nil pass0 (pa_cons (pv 0) (pa_cons (pe_op op_add (pe_callB call_len_str (by rfl) T.n_len (by decide +kernel) (pa_cons (pv 1) pa_nil)) pe_int) pa_nil))))
      (pss_cons (ps_set (i := 5) sc__law_bent.nd rfl (Or.inl rfl) (pe_ix ix_str pe_str (pe_call (ok__law_take T) (hr.mono (by decide : 1 ≤ 1)) (by rfl) T.g__law_take T._law_take_F.kp T._law_take_b .nil pass0 (pa_cons (pv 0) (pa_cons pe_int pa_nil))) (fun _ _ => rfl)))
      (pss_cons (ps_if (pt_cmpR op_eq (pv 3) pe_int (nomark _)) (pss_one (ps_ret (pe_op op_add_str (pe_ix ix_tup (pe_tup (pa_cons pe_str (pa_cons pe_str (pa_cons pe_str (pa_cons pe_str pa_nil))))) (pe_call (ok__law_take T) (hr.mono (by decide : 1 ≤ 1)) (by rfl) T.g__law_take T._law_take_F.kp T._law_take_b .nil pass0 (pa_cons (pv 0) (pa_cons pe_int pa_nil))) (fun _ _ => rfl)) (pv 1)))) pss_nil)
      (pss_cons (ps_if (pt_cmpR op_eq (pv 3) pe_int (nomark _)) (pss_one (ps_ret (pe_op op_add_str (pe_op op_add_str (pe_callTy call_str_int (by rfl) T.n_str (by decide +kernel) (pa_cons (pe_op op_mul pe_int (pe_ix ix_tup (pv 2) pe_int (fun _ _ => rfl))) pa_nil)) pe_str) (pe_callTy call_str_int (by rfl) T.n_str (by decide +kernel) (pa_cons (pe_op op_mul pe_int (pe_ix ix_tup (pv 2) pe_int (fun _ _ => rfl))) pa_nil))))) pss_nil)
      (pss_cons (ps_if (pt_cmpR op_eq (pv 3) pe_int (nomark _)) (pss_one (ps_ret (pe_op op_add_str (pv 1) (pe_ix ix_tup (pe_tup (pa_cons pe_str (pa_cons pe_str (pa_cons pe_str (pa_cons pe_str pa_nil))))) (pe_call (ok__law_take T) (hr.mono (by decide : 1 ≤ 1)) (by rfl) T.g__law_take T._law_take_F.kp T._law_take_b .nil pass0 (pa_cons (pv 0) (pa_cons pe_int pa_nil))) (fun _ _ => rfl))))) pss_nil)
      (pss_cons (ps_if (pt_cmpR op_eq (pv 3) pe_int (nomark _)) (pss_one (ps_ret (pe_op op_add_str (pe_slice sl_str (pv 1) po_none (po_some (pv 4))) (pe_slice sl_str (pv 1) (po_some (pe_op op_add (pv 4) pe_int)) po_none)))) pss_nil)
      (pss_cons (ps_if (pt_cmpR op_eq (pv 3) pe_int (nomark _)) (pss_one (ps_ret (pe_op op_add_str (pe_op op_add_str (pe_slice sl_str (pv 1) po_none (po_some (pv 4))) (pv 5)) (pe_slice sl_str (pv 1) (po_some (pv 4)) po_none)))) pss_nil)
      (pss_one (ps_ret (pe_op op_add_str (pe_op op_add_str (pe_slice sl_str (pv 1) po_none (po_some (pv 4))) (pv 5)) (pe_slice sl_str (pv 1) (po_some (pe_op op_add (pv 4) pe_int)) po_none)))))))))))), ?_⟩
    refine ⟨_, rfl, pd, ps, 7, rfl, D, by decide, Bd.mono (k := 10) (by unfold Bd; decide) (by decide), fun menu H1 x1 D1 _ _ => ?_⟩
    refine ⟨_, rfl, _, rfl, SX.S cs, rfl, by rw [SX.S_len]; exact len1000 (by omega), ?_⟩
    rw [SX.S_len]
    refine ⟨_, _, rfl, rfl, pd, ps, _, rfl, D1, by omega, Bd.mono (k := 10) (by unfold Bd; omega) (by decide), fun place H2 x2 D2 _ _ => ?_⟩
    refine ⟨_, rfl, pd, ps, 15, rfl, D2, by decide, Bd.mono (k := 10) (by unfold Bd; decide) (by decide), fun r H3 x3 D3 r0 r1 => ?_⟩
    have x13 := (x1.trans x2).trans x3
    have ha3 := tp_xt D.isL x13 ha
    obtain ⟨j, rfl⟩ := Int.eq_ofNat_of_zero_le r0
    have e15 : (Str.ofString "0123456789-/ +x").cps.toList = [48, 49, 50, 51, 52, 53, 54, 55, 56, 57, 45, 47, 32, 43, 120] := TL.tl_ofString _
    have hc : (Str.ofString "0123456789-/ +x").cps.toList[j]? = some ((Str.ofString "0123456789-/ +x").cps.toList[j]'(by rw [e15]; simp; omega)) := List.getElem?_eq_getElem _
    refine ⟨_, _, _, rfl, rfl, by rw [TL.len_tl, show TL.tl (Str.ofString "0123456789-/ +x") = _ from e15]; decide, atI_nat hc, ?_⟩
    generalize (Str.ofString "0123456789-/ +x").cps.toList[j]'(by rw [e15]; simp; omega) = c
    refine ⟨_, rfl, rfl, _, rfl, ite2 (fun _ => ?_) (fun _ => ?_)⟩
    · refine ⟨(by decide : 4 ≤ sizeLine), fun p1 h1 => ?_⟩
      have u1 := same_new (o := .tup [.str (Str.ofString "0"), .str (Str.ofString "-"), .str (Str.ofString "+"), .str (Str.ofString " ")]) h1
      have D4 := D3.same u1
      refine ⟨_, rfl, pd, ps, 4, rfl, D4, by decide, Bd.mono (k := 10) (by unfold Bd; decide) (by decide), fun r4 H4 x4 D5 t0 t1 => ?_⟩
      have hs : ∃ z : Str, atI [V.str (Str.ofString "0"), .str (Str.ofString "-"), .str (Str.ofString "+"), .str (Str.ofString " ")] r4 = some (.str z) ∧ z.length ≤ 2 := by
        have : r4 = 0 ∨ r4 = 1 ∨ r4 = 2 ∨ r4 = 3 := by omega
        rcases this with rfl | rfl | rfl | rfl
        · exact ⟨_, atI_nat (j := 0) rfl, by rw [PyProof.Rows.ofString_length]; decide⟩
        · exact ⟨_, atI_nat (j := 1) rfl, by rw [PyProof.Rows.ofString_length]; decide⟩
        · exact ⟨_, atI_nat (j := 2) rfl, by rw [PyProof.Rows.ofString_length]; decide⟩
        · exact ⟨_, atI_nat (j := 3) rfl, by rw [PyProof.Rows.ofString_length]; decide⟩
      obtain ⟨z, hz, lz⟩ := hs
      refine ⟨_, _, _, _, rfl, rfl, (tp_xt D4.isL' x4 (Tp.of upd_same)).sq, hz, _, rfl, _, _, rfl, rfl, ?_, ?_⟩
      · rw [SX.S_len cs]
        exact len1000 (by omega)
      · refine fin' _ _ ((x13.trans (Xt.of u1)).trans x4) D5 ?_
        rw [len_cat, SX.S_len cs]
        omega
    refine ⟨_, rfl, rfl, _, rfl, ite2 (fun _ => ?_) (fun _ => ?_)⟩
    · have b1 : Bd 141 (2 * q.1) := by
        have := oq.b1
        unfold Bd at this ⊢
        rw [Int.natAbs_mul]
        have e : (2 : Nat) ^ 141 = 2 * 2 ^ 140 := by rw [Nat.pow_succ, Nat.mul_comm]
        rw [e]
        show 2 * q.1.natAbs < _
        omega
      have b2 : Bd 141 (2 * q.2) := by
        have := oq.b2
        unfold Bd at this ⊢
        rw [Int.natAbs_mul]
        have e : (2 : Nat) ^ 141 = 2 * 2 ^ 140 := by rw [Nat.pow_succ, Nat.mul_comm]
        rw [e]
        show 2 * q.2.natAbs < _
        omega
      have l1 := intL_short b1
      have l2 := intL_short b2
      refine ⟨_, rfl, _, _, _, _, rfl, rfl, ha3.sq, atI_nat (j := 0) rfl, _, _, rfl, rfl, mulC' ⟨by decide, by decide⟩, _, rfl, log_bd b1, ?_⟩
      rw [str_int, show Str.ofString "/" = SX.S [47] from lit _ _ (by decide)]
      refine ⟨_, _, rfl, rfl, ?_, ?_⟩
      · rw [SX.S_len, SX.S_len]
        exact len1000 (by simp; omega)
      refine ⟨_, rfl, _, _, _, _, rfl, rfl, ha3.sq, atI_nat (j := 1) rfl, _, _, rfl, rfl, mulC' ⟨by decide, by decide⟩, _, rfl, log_bd b2, ?_⟩
      rw [str_int, SX.S_cat]
      refine ⟨_, _, rfl, rfl, ?_, ?_⟩
      · rw [SX.S_len, SX.S_len]
        exact len1000 (by simp; omega)
      · rw [SX.S_cat]
        exact fin _ _ x13 D3 (by simp; omega)
    refine ⟨_, rfl, rfl, _, rfl, ite2 (fun _ => ?_) (fun _ => ?_)⟩
    · refine ⟨_, rfl, (by decide : 4 ≤ sizeLine), fun p1 h1 => ?_⟩
      have u1 := same_new (o := .tup [.str (Str.ofString "/1"), .str (Str.ofString "/"), .str (Str.ofString " "), .str (Str.ofString "/0")]) h1
      have D4 := D3.same u1
      refine ⟨_, rfl, pd, ps, 4, rfl, D4, by decide, Bd.mono (k := 10) (by unfold Bd; decide) (by decide), fun r4 H4 x4 D5 t0 t1 => ?_⟩
      have hs : ∃ z : Str, atI [V.str (Str.ofString "/1"), .str (Str.ofString "/"), .str (Str.ofString " "), .str (Str.ofString "/0")] r4 = some (.str z) ∧ z.length ≤ 2 := by
        have : r4 = 0 ∨ r4 = 1 ∨ r4 = 2 ∨ r4 = 3 := by omega
        rcases this with rfl | rfl | rfl | rfl
        · exact ⟨_, atI_nat (j := 0) rfl, by rw [PyProof.Rows.ofString_length]; decide⟩
        · exact ⟨_, atI_nat (j := 1) rfl, by rw [PyProof.Rows.ofString_length]; decide⟩
        · exact ⟨_, atI_nat (j := 2) rfl, by rw [PyProof.Rows.ofString_length]; decide⟩
        · exact ⟨_, atI_nat (j := 3) rfl, by rw [PyProof.Rows.ofString_length]; decide⟩
      obtain ⟨z, hz, lz⟩ := hs
      refine ⟨_, _, _, _, rfl, rfl, (tp_xt D4.isL' x4 (Tp.of upd_same)).sq, hz, _, _, rfl, rfl, ?_, ?_⟩
      · rw [SX.S_len cs]
        exact len1000 (by omega)
      · refine fin' _ _ ((x13.trans (Xt.of u1)).trans x4) D5 ?_
        rw [len_cat, SX.S_len cs]
        omega
    have cs1 := cut_short cs
    have lc : (⟨#[c]⟩ : Str).length = 1 := rfl
    have lS := SX.S_len cs
    refine ⟨_, rfl, rfl, _, rfl, ite2 (fun _ => ?_) (fun _ => ?_)⟩
    · refine ⟨_, rfl, _, rfl, _, rfl, SX.S cs, rfl, by rw [lS]; exact len1000 (by omega), ?_⟩
      refine ⟨_, rfl, _, rfl, _, _, rfl, rfl, _, rfl, SX.S cs, rfl, by rw [lS]; exact len1000 (by omega), ?_⟩
      have q1 := cs1 none (some place)
      have q2 := cs1 (some (place + 1)) none
      refine ⟨_, _, rfl, rfl, len1000 (by omega), fin' _ _ x13 D3 ?_⟩
      rw [len_cat]
      omega
    refine ⟨_, rfl, rfl, _, rfl, ite2 (fun _ => ?_) (fun _ => ?_)⟩
    · have q1 := cs1 none (some place)
      have q2 := cs1 (some place) none
      refine ⟨_, rfl, _, rfl, _, rfl, SX.S cs, rfl, by rw [lS]; exact len1000 (by omega), ?_⟩
      refine ⟨_, rfl, _, _, rfl, rfl, len1000 (by omega), ?_⟩
      have q3 := len_cat (cutS (SX.S cs) none (some place)) ⟨#[c]⟩
      refine ⟨_, rfl, _, rfl, _, rfl, SX.S cs, rfl, by rw [lS]; exact len1000 (by omega), ?_⟩
      refine ⟨_, _, rfl, rfl, len1000 (by omega), fin' _ _ x13 D3 ?_⟩
      rw [len_cat]
      omega
    · have q1 := cs1 none (some place)
      have q2 := cs1 (some (place + 1)) none
      refine ⟨_, rfl, _, rfl, _, rfl, SX.S cs, rfl, by rw [lS]; exact len1000 (by omega), ?_⟩
      refine ⟨_, rfl, _, _, rfl, rfl, len1000 (by omega), ?_⟩
      have q3 := len_cat (cutS (SX.S cs) none (some place)) ⟨#[c]⟩
      refine ⟨_, rfl, _, rfl, _, _, rfl, rfl, _, rfl, SX.S cs, rfl, by rw [lS]; exact len1000 (by omega), ?_⟩
      refine ⟨_, _, rfl, rfl, len1000 (by omega), fin' _ _ x13 D3 ?_⟩
      rw [len_cat]
      omega
end
end Nl

namespace Nl
open PySem PySem.Spec PyProof.Rows L2
open TL (tl numL)
open PySem.NumText
theorem reps_foldl (c : Nat) : ∀ (k : Nat) (acc : Array Nat), (List.replicate k #[c]).foldl (· ++ ·) acc = acc ++ (List.replicate k c).toArray
  | 0, acc => by simp
  | k + 1, acc => by
    rw [List.replicate_succ, List.foldl_cons, reps_foldl c k, List.replicate_succ]
    refine Array.toList_inj.mp ?_
    simp
theorem mul_S (c k : Nat) (h : 2 ≤ k) : Txt.mul (SX.S [c]) (k : Int) = SX.S (List.replicate k c) := by
  unfold Txt.mul
  rw [if_neg (by omega), if_neg ?_]
  · show (⟨(List.replicate (k : Int).toNat #[c]).foldl (· ++ ·) #[]⟩ : Str) = _
    rw [Int.toNat_natCast, reps_foldl]
    simp
  · rw [SX.S_len]
    simp
    omega
theorem rd_uniq {cs : List Nat} {p q : Int × Int} (hp : RdOk cs p) (hq : RdOk cs q) : p = q := fracT_inj hp.2.1 hq.2.1 (hp.2.2.trans hq.2.2.symm)
theorem sevens (k : Nat) (h : 1 ≤ k) : NatT (List.replicate k 55) := by
  refine ⟨fun c hc => ?_, fun e => ?_, .inr ?_⟩
  · rw [(List.mem_replicate.mp hc).2]
    decide
  · have := congrArg List.length e
    simp at this
    omega
  · cases k with
    | zero => omega
    | succ k => exact ⟨55, List.replicate k 55, by rw [List.replicate_succ], by decide⟩
section
variable {P : Program} {w : World} {K : PySem.W.Frag} {mg : Str → Option Value} {base : Heap}
def sp_law (K : PySem.W.Frag) : Sp := fun vs H Q _ => ∃ (a : Addr) (ns : List Int), vs = [.ref a] ∧ SqL K H a (ns.map V.int) ∧ ns.length ≤ 63 ∧ ∀ H', Q (.bl true) H'
theorem ok_law {f : Addr} {fd : FuncData} (T : Top K mg) (nd : base.NoDigits) (F : Fun K "law" "law" s_law f fd) : FnOk P w K mg base CX0 5 f fd ["script"] (sp_law K) := by
  refine F.ok sc_law (fun vs H Q E h => ?_) (fun cdv A outer s H vs Q E hr h => ?_)
  · obtain ⟨_, _, rfl, _⟩ := h
    rfl
  · obtain ⟨a, ns, rfl, hS, _, fin⟩ := h
    refine ⟨_, (pss_cons (ps_set (i := 1) sc_law.nd rfl (Or.inl rfl) (pe_call (ok__law_begin T) (hr.mono (by decide : 1 ≤ 4)) (by rfl) T.g__law_begin T._law_begin_F.kp T._law_begin_b .nil pass0 (pa_cons (pv 0) pa_nil)))
      (pss_cons (ps_set (i := 2) sc_law.nd rfl (Or.inl rfl) (pe_ix ix_tup (pe_tup (pa_cons pe_int (pa_cons (pe_op op_pow pe_int pe_int) pa_nil))) (pe_call (ok__law_take T) (hr.mono (by decide : 1 ≤ 4)) (by rfl) T.g__law_take T._law_take_F.kp T._law_take_b .nil pass0 (pa_cons (pv 1) (pa_cons pe_int pa_nil))) (fun _ _ => rfl)))
      (pss_cons (ps_set (i := 3) sc_law.nd rfl (Or.inl rfl) (pe_call (ok__law_f T) (hr.mono (by decide : 2 ≤ 4)) (by rfl) T.g__law_f T._law_f_F.kp T._law_f_b .nil pass0 (pa_cons (pe_call (ok__law_signed T) (hr.mono (by decide : 2 ≤ 4)) (by rfl) T.g__law_signed T._law_signed_F.kp T._law_signed_b .nil pass0 (pa_cons (pv 1) (pa_cons (pv 2) pa_nil))) (pa_cons (pe_op op_add pe_int (pe_call (ok__law_take T) (hr.mono (by decide : 1 ≤ 4)) (by rfl) T.g__law_take T._law_take_F.kp T._law_take_b .nil pass0 (pa_cons (pv 1) (pa_cons (pv 2) pa_nil)))) pa_nil))))
      (Evl.pss_cut (ps_set (i := 4) sc_law.nd rfl (Or.inl rfl) (pe_ifExp (pt_cmpR op_eq (pe_ix ix_tup (pv 3) pe_int (fun _ _ => rfl)) pe_int (nomark _)) (pe_callTy call_str_int (by rfl) T.n_str (by decide +kernel) (pa_cons (pe_ix ix_tup (pv 3) pe_int (fun _ _ => rfl)) pa_nil)) (pe_op op_add_str (pe_op op_add_str (pe_callTy call_str_int (by rfl) T.n_str (by decide +kernel) (pa_cons (pe_ix ix_tup (pv 3) pe_int (fun _ _ => rfl)) pa_nil)) pe_str) (pe_callTy call_str_int (by rfl) T.n_str (by decide +kernel) (pa_cons (pe_ix ix_tup (pv 3) pe_int (fun _ _ => rfl)) pa_nil)))))
      (pss_cons (ps_if (PW.pt (pw_or (pt_cmpR op_ne (pe_call (ok_write_fraction T) (hr.mono (by decide : 2 ≤ 4)) (by rfl) T.g_write_fraction T.write_fraction_F.kp T.write_fraction_b .nil pass0 (pa_cons (pv 3) pa_nil)) (pv 4) (nomark _)) (pw_or1 (pt_cmpR (op_neD hr.units) (pe_call (ok__law_told T nd) (hr.mono (by decide : 4 ≤ 4)) (by rfl) T.g__law_told T._law_told_F.kp T._law_told_b .nil pass0 (pa_cons (pv 4) pa_nil)) (pv 3) (nomark _))))) (pss_one (ps_ret pe_bl)) pss_nil)
      (pss_cons (ps_for PassesOwn.never rfl (pi_range1 rfl T.n_range (pa_cons pe_int pa_nil)) (pg_name (i := 5) sc_law.nd rfl (Or.inl rfl)) (pss_cons (ps_set (i := 6) sc_law.nd rfl (Or.inl rfl) (pe_call (ok__law_bent T) (hr.mono (by decide : 2 ≤ 4)) (by rfl) T.g__law_bent T._law_bent_F.kp T._law_bent_b .nil pass0 (pa_cons (pv 1) (pa_cons (pv 4) (pa_cons (pv 3) pa_nil)))))
      (pss_one (ps_if (pt_cmpR (op_neD hr.units) (pe_call (ok__law_told T nd) (hr.mono (by decide : 4 ≤ 4)) (by rfl) T.g__law_told T._law_told_F.kp T._law_told_b .nil pass0 (pa_cons (pv 6) pa_nil)) (pe_call (ok__law_due T nd) (hr.mono (by decide : 2 ≤ 4)) (by rfl) T.g__law_due T._law_due_F.kp T._law_due_b .nil pass0 (pa_cons (pv 6) pa_nil)) (nomark _)) (pss_one (ps_ret pe_bl)) pss_nil))))
      (pss_one (ps_ret (pe_and (pe_cmpR op_isN (pe_call (ok__law_told T nd) (hr.mono (by decide : 4 ≤ 4)) (by rfl) T.g__law_told T._law_told_F.kp T._law_told_b .nil pass0 (pa_cons pe_str pa_nil)) pe_non (nomark _)) (pe_and (pe_cmpR op_isN (pe_call (ok__law_told T nd) (hr.mono (by decide : 4 ≤ 4)) (by rfl) T.g__law_told T._law_told_F.kp T._law_told_b .nil pass0 (pa_cons (pe_op op_mulS pe_str pe_int) pa_nil)) pe_non (nomark _)) (pe_one (pe_cmpR (op_eqD hr.units) (pe_call (ok__law_told T nd) (hr.mono (by decide : 4 ≤ 4)) (by rfl) T.g__law_told T._law_told_F.kp T._law_told_b .nil pass0 (pa_cons (pe_op op_mulS pe_str pe_int) pa_nil)) (pe_tup (pa_cons (pe_callTy (call_int_long nd) (by rfl) T.n_int (by decide +kernel) (pa_cons (pe_op op_mulS pe_str pe_int) pa_nil)) (pa_cons pe_int pa_nil))) (nomark _))))))))))))), ?_⟩
    refine ⟨_, rfl, a, ns, rfl, hS, fun pd ps H1 s1 n1 n2 D1 => ?_⟩
    -- the greatest number
    refine ⟨_, _, rfl, rfl, ⟨by decide, by decide, by decide⟩, two_le, fun p1 h1 => ?_⟩
    have u1 := same_new (o := .tup [.int 60, .int (10 ^ (39 : Int).toNat)]) h1
    have D2 := D1.same u1
    refine ⟨_, rfl, pd, ps, 2, rfl, D2, by decide, Bd.mono (k := 10) (by unfold Bd; decide) (by decide), fun r H2 x2 D3 r0 r1 => ?_⟩
    have hm : ∃ most : Int, atI [V.int 60, .int (10 ^ (39 : Int).toNat)] r = some (.int most) ∧ 0 < most ∧ Bd 139 most := by
      have : r = 0 ∨ r = 1 := by omega
      rcases this with rfl | rfl
      · exact ⟨_, atI_nat (j := 0) rfl, by decide, by unfold Bd; decide⟩
      · exact ⟨_, atI_nat (j := 1) rfl, by decide, by unfold Bd; decide⟩
    obtain ⟨most, hmost, m0, mb⟩ := hm
    refine ⟨_, _, _, _, rfl, rfl, (tp_xt D2.isL' x2 (Tp.of upd_same)).sq, hmost, ?_⟩
    -- the fraction
    refine ⟨_, rfl, _, rfl, pd, ps, most, rfl, D3, by omega, mb.mono (by decide), fun n H3 x3 D4 na nb => ?_⟩
    refine ⟨_, rfl, _, rfl, pd, ps, most, rfl, D4, m0, mb.mono (by decide), fun d H4 x4 D5 da db => ?_⟩
    have bn : Bd 140 n := mb.mono (by decide) |> fun h => h.le (by omega)
    have bd : Bd 140 (1 + d) := mb.mono (by decide) |> fun h => h.le (by omega)
    have dn : 1 + d ≠ 0 := by omega
    refine ⟨_, _, rfl, rfl, n, 1 + d, rfl, dn, bd.mono (by decide), fun va H5 s5 dv => ?_⟩
    have ok := frac_ok dn bn bd
    have D6 := D5.same s5
    generalize frac n (1 + d) = q at *
    obtain ⟨af, rfl, ha⟩ := id dv.fr_inv
    have hlt := fracT_short ok
    have l1 := intL_short (ok.b1.mono (show 140 ≤ 141 by decide))
    have l2 := intL_short (ok.b2.mono (show 140 ≤ 141 by decide))
    refine ⟨fun σ' H' => σ' = [some (.ref a), some (.ref pd), some (.int most), some (.ref af), some (.str (SX.S (fracT q))), none, none] ∧ H5 = H', ?_, ?_⟩
    · refine ⟨_, rfl, _, _, _, _, rfl, rfl, ha.sq, atI_nat (j := 1) rfl, rfl, _, rfl, ite2 (fun e => ?_) (fun e => ?_)⟩
      · have e : q.2 = 1 := V.int.inj (of_decide_eq_true e)
        refine ⟨_, rfl, _, _, _, _, rfl, rfl, ha.sq, atI_nat (j := 0) rfl, _, rfl, log_bd ok.b1, ?_⟩
        rw [str_int, show fracT q = intL q.1 from if_pos e]
        exact ⟨rfl, rfl⟩
      · have e : q.2 ≠ 1 := fun z => e (by rw [z]; exact decide_eq_true rfl)
        refine ⟨_, rfl, _, _, _, _, rfl, rfl, ha.sq, atI_nat (j := 0) rfl, _, rfl, log_bd ok.b1, ?_⟩
        rw [str_int, show Str.ofString "/" = SX.S [47] from lit _ _ (by decide)]
        refine ⟨_, _, rfl, rfl, ?_, ?_⟩
        · rw [SX.S_len, SX.S_len]
          exact len1000 (by simp; omega)
        refine ⟨_, rfl, _, _, _, _, rfl, rfl, ha.sq, atI_nat (j := 1) rfl, _, rfl, log_bd ok.b2, ?_⟩
        rw [str_int, SX.S_cat]
        refine ⟨_, _, rfl, rfl, ?_, ?_⟩
        · rw [SX.S_len, SX.S_len]
          exact len1000 (by simp; omega)
        · rw [SX.S_cat, show fracT q = intL q.1 ++ 47 :: intL q.2 from if_neg e, List.append_assoc]
          exact ⟨rfl, rfl⟩
    rintro σ' H' ⟨rfl, rfl⟩
    -- written and read
    refine ⟨_, rfl, _, q, rfl, dv, ok.b1.mono (by decide), ok.b2.mono (by decide), fun H6 s6 => ⟨_, rfl, rfl, _, rfl, ?_⟩⟩
    rw [dstr, decide_eq_true rfl]
    refine if_false_of' rfl ?_
    have rd : RdOk (fracT q) q := ⟨by omega, ok.low, rfl⟩
    refine ⟨_, rfl, fracT q, rfl, by omega, fun z => (z q rd).elim, fun q' hq' v7 H7 s7 dv7 => ?_⟩
    rw [rd_uniq hq' rd] at dv7
    have s67 := s6.trans s7
    refine ⟨_, rfl, _, _, dv7.dp, (dv.same s67).dp, (sh_fr _).shaped, (sh_fr _).shaped, _, rfl, if_false_of' (sh_fr _).ne ?_⟩
    have D7 := D6.same s67
    have dv7' := dv.same s67
    have i7 := D7.isL'
    refine ⟨_, rfl, by decide, by decide, for_range (lo := 0) (n := 4) (fun k σ H' => ∃ y5 y6 : Option V, σ = [some (.ref a), some (.ref pd), some (.int most), some (.ref af), some (.str (SX.S (fracT q))), y5, y6] ∧ Xt pd H7 H' ∧ Dst H' pd ps) ⟨_, _, rfl, Xt.refl _, D7⟩ ?_ ?_⟩
    · rintro k σ H8 hk ⟨y5, y6, rfl, x8, D8⟩
      refine ⟨_, rfl, _, rfl, _, rfl, pd, ps, fracT q, .ref af, q, rfl, D8, by omega, dv7'.xt i7 x8, ok, fun cs H9 x9 D9 lc => ?_⟩
      by_cases hq : ∃ q', RdOk cs q'
      · obtain ⟨q', hq'⟩ := hq
        refine ⟨_, rfl, cs, rfl, by omega, fun z => (z q' hq').elim, fun q1 r1' v10 H10 s10 dv10 => ?_⟩
        refine ⟨_, rfl, ⟨cs, rfl, by omega, fun z => (z q' hq').elim, fun q2 r2' v11 H11 s11 dv11 => ?_⟩, fun cs' e => ?_⟩
        · rw [rd_uniq r1' hq'] at dv10
          rw [rd_uniq r2' hq'] at dv11
          refine ⟨_, _, (dv10.same s11).dp, dv11.dp, (sh_fr _).shaped, (sh_fr _).shaped, _, rfl, if_false_of' (sh_fr _).ne ?_⟩
          exact ⟨_, _, rfl, ((x8.trans x9).trans (Xt.of s10)).trans (Xt.of s11), (D9.same s10).same s11⟩
        · have : cs' = cs := SX.S_inj (V.str.inj (List.cons.inj e).1).symm
          rw [this]
          exact lc
      · have no : ∀ q', ¬ RdOk cs q' := fun q' z => hq ⟨q', z⟩
        refine ⟨_, rfl, cs, rfl, by omega, fun _ H10 s10 => ?_, fun q1 r1' => (no q1 r1').elim⟩
        refine ⟨_, rfl, ⟨cs, rfl, by omega, fun _ H11 s11 => ?_, fun q2 r2' => (no q2 r2').elim⟩, fun cs' e => ?_⟩
        · refine ⟨_, _, .non, .non, (Sh.non (k := 0)).shaped, (Sh.non (k := 0)).shaped, _, rfl, if_false_of' (Sh.non (k := 0)).ne ?_⟩
          exact ⟨_, _, rfl, ((x8.trans x9).trans (Xt.of s10)).trans (Xt.of s11), (D9.same s10).same s11⟩
        · have : cs' = cs := SX.S_inj (V.str.inj (List.cons.inj e).1).symm
          rw [this]
          exact lc
    rintro σ H8 ⟨y5, y6, rfl, x8, D8⟩
    -- the empty text, a long one
    have e0 : Str.ofString "" = SX.S [] := lit _ _ (by decide)
    have e7 : Str.ofString "7" = SX.S [55] := lit _ _ (by decide)
    rw [e0]
    refine ⟨[], rfl, by decide, fun _ H9 s9 => ?_, fun q' hq' => ?_⟩
    · refine ⟨rfl, _, rfl, if_true_of' (decide_eq_true rfl) ?_⟩
      rw [e7]
      refine ⟨_, _, rfl, rfl, by decide, by decide, by decide, by decide, ?_⟩
      rw [show (1001 : Int) = ((1001 : Nat) : Int) from rfl, mul_S 55 1001 (by decide)]
      refine ⟨List.replicate 1001 55, rfl, by rw [List.length_replicate]; decide, fun _ H10 s10 => ?_, fun q' hq' => ?_⟩
      · refine ⟨rfl, _, rfl, if_true_of' (decide_eq_true rfl) ?_⟩
        refine ⟨_, _, rfl, rfl, by decide, by decide, by decide, by decide, ?_⟩
        have em := mul_S 55 1000 (by decide)
        rw [show (1000 : Int) = ((1000 : Nat) : Int) from rfl, em]
        have nt := sevens 1000 (by decide)
        have l7 : (List.replicate 1000 55).length = 1000 := List.length_replicate
        generalize List.replicate 1000 55 = sv at nt l7 em ⊢
        have nt2 : NatT (stripL sv) := by rw [strip_digits nt.all]; exact nt
        have hne : sv ≠ [45, 48] := fun z => by
          rw [z] at l7
          cases l7
        have ok7 : RdOk sv (intV sv, 1) := by
          obtain ⟨y1, y2⟩ := whole_yes nt2 hne
          exact ⟨by omega, y1, y2⟩
        obtain ⟨m1, m2⟩ := int_text nt2 (by omega)
        refine ⟨sv, rfl, by omega, fun z => (z _ ok7).elim, fun q1 r1' v11 H11 s11 dv11 => ?_⟩
        rw [rd_uniq r1' ok7] at dv11
        refine ⟨_, _, rfl, rfl, by decide, by decide, by decide, by decide, ?_⟩
        rw [em]
        refine ⟨_, _, rfl, m1, by rw [SX.S_len]; omega, m2, two_le, fun p9 h9 => ?_⟩
        have u9 := same_new (o := .tup [.int (intV sv), .int 1]) h9
        refine ⟨_, _, (dv11.same u9).dp, (DT.fr (q := (intV sv, 1)) (Tp.of upd_same)).dp, (sh_fr _).shaped, (sh_fr _).shaped, ?_⟩
        rw [(sh_fr _).eq]
        exact fin _
      · have := hq'.1
        rw [List.length_replicate] at this
        omega
    · exact (whole_no (cs := []) (by simp) (fun z => z.1.ne rfl) q' hq'.2.1 hq'.2.2).elim
end
end Nl

namespace Nl
open PySem PySem.Spec PyProof.Rows L2
theorem all_mk {l : PySem.W.OpenLaw} {w : World} {K : PySem.W.Frag} {h : Heap} {mg : Str → Option Value} {fa : Addr} (X : K.In h) (G : h.Ns mainGlobals mg) (hfa : mg "law" = some (.ref fa)) (hnd : h.NoDigits)
    {f_is_natural : Addr} {od_is_natural an_is_natural : Option Addr} {sl_is_natural : Array (Option Value)} {oc_is_natural kV_is_natural dc_is_natural pm_is_natural cd_is_natural ct_is_natural : Value}
    {f_write_integer : Addr} {od_write_integer an_write_integer : Option Addr} {sl_write_integer : Array (Option Value)} {oc_write_integer kV_write_integer dc_write_integer pm_write_integer cd_write_integer ct_write_integer : Value}
    {f_fraction : Addr} {od_fraction an_fraction : Option Addr} {sl_fraction : Array (Option Value)} {oc_fraction kV_fraction dc_fraction pm_fraction cd_fraction ct_fraction : Value}
    {f_write_fraction : Addr} {od_write_fraction an_write_fraction : Option Addr} {sl_write_fraction : Array (Option Value)} {oc_write_fraction kV_write_fraction dc_write_fraction pm_write_fraction cd_write_fraction ct_write_fraction : Value}
    {f_read_fraction : Addr} {od_read_fraction an_read_fraction : Option Addr} {sl_read_fraction : Array (Option Value)} {oc_read_fraction kV_read_fraction dc_read_fraction pm_read_fraction cd_read_fraction ct_read_fraction : Value}
    {f__law_begin : Addr} {od__law_begin an__law_begin : Option Addr} {sl__law_begin : Array (Option Value)} {oc__law_begin kV__law_begin dc__law_begin pm__law_begin cd__law_begin ct__law_begin : Value}
    {f__law_take : Addr} {od__law_take an__law_take : Option Addr} {sl__law_take : Array (Option Value)} {oc__law_take kV__law_take dc__law_take pm__law_take cd__law_take ct__law_take : Value}
    {f__law_signed : Addr} {od__law_signed an__law_signed : Option Addr} {sl__law_signed : Array (Option Value)} {oc__law_signed kV__law_signed dc__law_signed pm__law_signed cd__law_signed ct__law_signed : Value}
    {f__law_gcd : Addr} {od__law_gcd an__law_gcd : Option Addr} {sl__law_gcd : Array (Option Value)} {oc__law_gcd kV__law_gcd dc__law_gcd pm__law_gcd cd__law_gcd ct__law_gcd : Value}
    {f__law_f : Addr} {od__law_f an__law_f : Option Addr} {sl__law_f : Array (Option Value)} {oc__law_f kV__law_f dc__law_f pm__law_f cd__law_f ct__law_f : Value}
    {f__law_due : Addr} {od__law_due an__law_due : Option Addr} {sl__law_due : Array (Option Value)} {oc__law_due kV__law_due dc__law_due pm__law_due cd__law_due ct__law_due : Value}
    {f__law_told : Addr} {od__law_told an__law_told : Option Addr} {sl__law_told : Array (Option Value)} {oc__law_told kV__law_told dc__law_told pm__law_told cd__law_told ct__law_told : Value}
    {f__law_bent : Addr} {od__law_bent an__law_bent : Option Addr} {sl__law_bent : Array (Option Value)} {oc__law_bent kV__law_bent dc__law_bent pm__law_bent cd__law_bent ct__law_bent : Value}
    {f_law : Addr} {od_law an_law : Option Addr} {sl_law : Array (Option Value)} {oc_law kV_law dc_law pm_law cd_law ct_law : Value}
    {tk_TEXT_LIMIT : Tok}
    {C_MarketplaceError : Addr}
    {C_ZeroDenominator : Addr}
    {C_TextError : Addr}
    (a_is_natural : PySem.W.nsIn K mainGlobals "is_natural" = some (some (.ref f_is_natural))) (l_is_natural : K.lookup f_is_natural = some ⟨oc_is_natural, od_is_natural, .func (PySem.W.fnOf "is_natural" "is_natural" (defArgs s_is_natural) (defBody s_is_natural) (defScope s_is_natural) .none kV_is_natural dc_is_natural pm_is_natural an_is_natural cd_is_natural ct_is_natural), sl_is_natural⟩) (c_is_natural : PySem.W.codeIn K cd_is_natural "is_natural" = true) (k_is_natural : PySem.W.keepIn K (.ref f_is_natural) = true)
    (a_write_integer : PySem.W.nsIn K mainGlobals "write_integer" = some (some (.ref f_write_integer))) (l_write_integer : K.lookup f_write_integer = some ⟨oc_write_integer, od_write_integer, .func (PySem.W.fnOf "write_integer" "write_integer" (defArgs s_write_integer) (defBody s_write_integer) (defScope s_write_integer) .none kV_write_integer dc_write_integer pm_write_integer an_write_integer cd_write_integer ct_write_integer), sl_write_integer⟩) (c_write_integer : PySem.W.codeIn K cd_write_integer "write_integer" = true) (k_write_integer : PySem.W.keepIn K (.ref f_write_integer) = true)
    (a_fraction : PySem.W.nsIn K mainGlobals "fraction" = some (some (.ref f_fraction))) (l_fraction : K.lookup f_fraction = some ⟨oc_fraction, od_fraction, .func (PySem.W.fnOf "fraction" "fraction" (defArgs s_fraction) (defBody s_fraction) (defScope s_fraction) .none kV_fraction dc_fraction pm_fraction an_fraction cd_fraction ct_fraction), sl_fraction⟩) (c_fraction : PySem.W.codeIn K cd_fraction "fraction" = true) (k_fraction : PySem.W.keepIn K (.ref f_fraction) = true)
    (a_write_fraction : PySem.W.nsIn K mainGlobals "write_fraction" = some (some (.ref f_write_fraction))) (l_write_fraction : K.lookup f_write_fraction = some ⟨oc_write_fraction, od_write_fraction, .func (PySem.W.fnOf "write_fraction" "write_fraction" (defArgs s_write_fraction) (defBody s_write_fraction) (defScope s_write_fraction) .none kV_write_fraction dc_write_fraction pm_write_fraction an_write_fraction cd_write_fraction ct_write_fraction), sl_write_fraction⟩) (c_write_fraction : PySem.W.codeIn K cd_write_fraction "write_fraction" = true) (k_write_fraction : PySem.W.keepIn K (.ref f_write_fraction) = true)
    (a_read_fraction : PySem.W.nsIn K mainGlobals "read_fraction" = some (some (.ref f_read_fraction))) (l_read_fraction : K.lookup f_read_fraction = some ⟨oc_read_fraction, od_read_fraction, .func (PySem.W.fnOf "read_fraction" "read_fraction" (defArgs s_read_fraction) (defBody s_read_fraction) (defScope s_read_fraction) .none kV_read_fraction dc_read_fraction pm_read_fraction an_read_fraction cd_read_fraction ct_read_fraction), sl_read_fraction⟩) (c_read_fraction : PySem.W.codeIn K cd_read_fraction "read_fraction" = true) (k_read_fraction : PySem.W.keepIn K (.ref f_read_fraction) = true)
    (a__law_begin : PySem.W.nsIn K mainGlobals "_law_begin" = some (some (.ref f__law_begin))) (l__law_begin : K.lookup f__law_begin = some ⟨oc__law_begin, od__law_begin, .func (PySem.W.fnOf "_law_begin" "_law_begin" (defArgs s__law_begin) (defBody s__law_begin) (defScope s__law_begin) .none kV__law_begin dc__law_begin pm__law_begin an__law_begin cd__law_begin ct__law_begin), sl__law_begin⟩) (c__law_begin : PySem.W.codeIn K cd__law_begin "_law_begin" = true) (k__law_begin : PySem.W.keepIn K (.ref f__law_begin) = true)
    (a__law_take : PySem.W.nsIn K mainGlobals "_law_take" = some (some (.ref f__law_take))) (l__law_take : K.lookup f__law_take = some ⟨oc__law_take, od__law_take, .func (PySem.W.fnOf "_law_take" "_law_take" (defArgs s__law_take) (defBody s__law_take) (defScope s__law_take) .none kV__law_take dc__law_take pm__law_take an__law_take cd__law_take ct__law_take), sl__law_take⟩) (c__law_take : PySem.W.codeIn K cd__law_take "_law_take" = true) (k__law_take : PySem.W.keepIn K (.ref f__law_take) = true)
    (a__law_signed : PySem.W.nsIn K mainGlobals "_law_signed" = some (some (.ref f__law_signed))) (l__law_signed : K.lookup f__law_signed = some ⟨oc__law_signed, od__law_signed, .func (PySem.W.fnOf "_law_signed" "_law_signed" (defArgs s__law_signed) (defBody s__law_signed) (defScope s__law_signed) .none kV__law_signed dc__law_signed pm__law_signed an__law_signed cd__law_signed ct__law_signed), sl__law_signed⟩) (c__law_signed : PySem.W.codeIn K cd__law_signed "_law_signed" = true) (k__law_signed : PySem.W.keepIn K (.ref f__law_signed) = true)
    (a__law_gcd : PySem.W.nsIn K mainGlobals "_law_gcd" = some (some (.ref f__law_gcd))) (l__law_gcd : K.lookup f__law_gcd = some ⟨oc__law_gcd, od__law_gcd, .func (PySem.W.fnOf "_law_gcd" "_law_gcd" (defArgs s__law_gcd) (defBody s__law_gcd) (defScope s__law_gcd) .none kV__law_gcd dc__law_gcd pm__law_gcd an__law_gcd cd__law_gcd ct__law_gcd), sl__law_gcd⟩) (c__law_gcd : PySem.W.codeIn K cd__law_gcd "_law_gcd" = true) (k__law_gcd : PySem.W.keepIn K (.ref f__law_gcd) = true)
    (a__law_f : PySem.W.nsIn K mainGlobals "_law_f" = some (some (.ref f__law_f))) (l__law_f : K.lookup f__law_f = some ⟨oc__law_f, od__law_f, .func (PySem.W.fnOf "_law_f" "_law_f" (defArgs s__law_f) (defBody s__law_f) (defScope s__law_f) .none kV__law_f dc__law_f pm__law_f an__law_f cd__law_f ct__law_f), sl__law_f⟩) (c__law_f : PySem.W.codeIn K cd__law_f "_law_f" = true) (k__law_f : PySem.W.keepIn K (.ref f__law_f) = true)
    (a__law_due : PySem.W.nsIn K mainGlobals "_law_due" = some (some (.ref f__law_due))) (l__law_due : K.lookup f__law_due = some ⟨oc__law_due, od__law_due, .func (PySem.W.fnOf "_law_due" "_law_due" (defArgs s__law_due) (defBody s__law_due) (defScope s__law_due) .none kV__law_due dc__law_due pm__law_due an__law_due cd__law_due ct__law_due), sl__law_due⟩) (c__law_due : PySem.W.codeIn K cd__law_due "_law_due" = true) (k__law_due : PySem.W.keepIn K (.ref f__law_due) = true)
    (a__law_told : PySem.W.nsIn K mainGlobals "_law_told" = some (some (.ref f__law_told))) (l__law_told : K.lookup f__law_told = some ⟨oc__law_told, od__law_told, .func (PySem.W.fnOf "_law_told" "_law_told" (defArgs s__law_told) (defBody s__law_told) (defScope s__law_told) .none kV__law_told dc__law_told pm__law_told an__law_told cd__law_told ct__law_told), sl__law_told⟩) (c__law_told : PySem.W.codeIn K cd__law_told "_law_told" = true) (k__law_told : PySem.W.keepIn K (.ref f__law_told) = true)
    (a__law_bent : PySem.W.nsIn K mainGlobals "_law_bent" = some (some (.ref f__law_bent))) (l__law_bent : K.lookup f__law_bent = some ⟨oc__law_bent, od__law_bent, .func (PySem.W.fnOf "_law_bent" "_law_bent" (defArgs s__law_bent) (defBody s__law_bent) (defScope s__law_bent) .none kV__law_bent dc__law_bent pm__law_bent an__law_bent cd__law_bent ct__law_bent), sl__law_bent⟩) (c__law_bent : PySem.W.codeIn K cd__law_bent "_law_bent" = true) (k__law_bent : PySem.W.keepIn K (.ref f__law_bent) = true)
    (a_law : PySem.W.nsIn K mainGlobals "law" = some (some (.ref f_law))) (l_law : K.lookup f_law = some ⟨oc_law, od_law, .func (PySem.W.fnOf "law" "law" (defArgs s_law) (defBody s_law) (defScope s_law) .none kV_law dc_law pm_law an_law cd_law ct_law), sl_law⟩) (c_law : PySem.W.codeIn K cd_law "law" = true) (k_law : PySem.W.keepIn K (.ref f_law) = true)
    (z_abs : PySem.W.nsIn K mainGlobals "abs" = some none)
    (z_all : PySem.W.nsIn K mainGlobals "all" = some none)
    (z_divmod : PySem.W.nsIn K mainGlobals "divmod" = some none)
    (z_int : PySem.W.nsIn K mainGlobals "int" = some none)
    (z_isinstance : PySem.W.nsIn K mainGlobals "isinstance" = some none)
    (z_len : PySem.W.nsIn K mainGlobals "len" = some none)
    (z_list : PySem.W.nsIn K mainGlobals "list" = some none)
    (z_range : PySem.W.nsIn K mainGlobals "range" = some none)
    (z_reversed : PySem.W.nsIn K mainGlobals "reversed" = some none)
    (z_str : PySem.W.nsIn K mainGlobals "str" = some none)
    (i_gcd : PySem.W.nsIn K mainGlobals "gcd" = some (some (.builtin "math.gcd")))
    (j_TEXT_LIMIT : PySem.W.nsIn K mainGlobals "TEXT_LIMIT" = some (some (.int 1000 tk_TEXT_LIMIT)))
    (ca_MarketplaceError : PySem.W.nsIn K mainGlobals "MarketplaceError" = some (some (.ref C_MarketplaceError)))
    (cx_MarketplaceError : PySem.W.excIn K C_MarketplaceError [.type "ValueError", .type "Exception", .type "BaseException", .type "object"] "ValueError.__new__" = true)
    (ck_MarketplaceError : PySem.W.keepIn K (.ref C_MarketplaceError) = true) (cb_MarketplaceError : PySem.W.subIn K (.ref C_MarketplaceError) (.type "BaseException") = some true) (ct0_MarketplaceError : PySem.W.typeIn K (.ref C_MarketplaceError) = some (.type "type")) (ch_MarketplaceError : PySem.W.hasDictIn K C_MarketplaceError = true)
    (e1_MarketplaceError : PySem.W.findIn K (.ref C_MarketplaceError) "__getattribute__" = some (some (.builtin "BaseException.__getattribute__"))) (e2_MarketplaceError : PySem.W.findIn K (.ref C_MarketplaceError) "__getattr__" = some none) (e3_MarketplaceError : PySem.W.findIn K (.ref C_MarketplaceError) "__class__" = some (some (.builtin "object.__class__"))) (e4_MarketplaceError : PySem.W.mroIn K C_MarketplaceError (.type "object") = some true)
    (ca_ZeroDenominator : PySem.W.nsIn K mainGlobals "ZeroDenominator" = some (some (.ref C_ZeroDenominator)))
    (cx_ZeroDenominator : PySem.W.excIn K C_ZeroDenominator [.type "ValueError", .type "Exception", .type "BaseException", .type "object"] "ValueError.__new__" = true)
    (ck_ZeroDenominator : PySem.W.keepIn K (.ref C_ZeroDenominator) = true) (cb_ZeroDenominator : PySem.W.subIn K (.ref C_ZeroDenominator) (.type "BaseException") = some true) (ct0_ZeroDenominator : PySem.W.typeIn K (.ref C_ZeroDenominator) = some (.type "type")) (ch_ZeroDenominator : PySem.W.hasDictIn K C_ZeroDenominator = true)
    (e1_ZeroDenominator : PySem.W.findIn K (.ref C_ZeroDenominator) "__getattribute__" = some (some (.builtin "BaseException.__getattribute__"))) (e2_ZeroDenominator : PySem.W.findIn K (.ref C_ZeroDenominator) "__getattr__" = some none) (e3_ZeroDenominator : PySem.W.findIn K (.ref C_ZeroDenominator) "__class__" = some (some (.builtin "object.__class__"))) (e4_ZeroDenominator : PySem.W.mroIn K C_ZeroDenominator (.type "object") = some true)
    (ca_TextError : PySem.W.nsIn K mainGlobals "TextError" = some (some (.ref C_TextError)))
    (cx_TextError : PySem.W.excIn K C_TextError [.type "ValueError", .type "Exception", .type "BaseException", .type "object"] "ValueError.__new__" = true)
    (ck_TextError : PySem.W.keepIn K (.ref C_TextError) = true) (cb_TextError : PySem.W.subIn K (.ref C_TextError) (.type "BaseException") = some true) (ct0_TextError : PySem.W.typeIn K (.ref C_TextError) = some (.type "type")) (ch_TextError : PySem.W.hasDictIn K C_TextError = true)
    (e1_TextError : PySem.W.findIn K (.ref C_TextError) "__getattribute__" = some (some (.builtin "BaseException.__getattribute__"))) (e2_TextError : PySem.W.findIn K (.ref C_TextError) "__getattr__" = some none) (e3_TextError : PySem.W.findIn K (.ref C_TextError) "__class__" = some (some (.builtin "object.__class__"))) (e4_TextError : PySem.W.mroIn K C_TextError (.type "object") = some true)
    (e5 : PySem.W.specialIn K (.builtin "object.__class__") "__get__" = some (some (.builtin "getset_descriptor.__get__"))) (e6 : PySem.W.takesIn K (.builtin "object.__class__") = some true)
    (s_TextError_MarketplaceError : PySem.W.subIn K (.ref C_TextError) (.ref C_MarketplaceError) = some true)
    (s_TextError_TextError : PySem.W.subIn K (.ref C_TextError) (.ref C_TextError) = some true)
    (nd0 : PySem.W.nsIn K cStatics "sys.int_max_str_digits" = some none)
    : LamX.LawAtS l w K L2.CX0 5 63 "script" mg fa h := by
  have e := hfa.symm.trans (PySem.W.mg_of X G a_law)
  cases e
  have F_is_natural := fun_mk (st := s_is_natural) l_is_natural c_is_natural k_is_natural
  have F_write_integer := fun_mk (st := s_write_integer) l_write_integer c_write_integer k_write_integer
  have F_fraction := fun_mk (st := s_fraction) l_fraction c_fraction k_fraction
  have F_write_fraction := fun_mk (st := s_write_fraction) l_write_fraction c_write_fraction k_write_fraction
  have F_read_fraction := fun_mk (st := s_read_fraction) l_read_fraction c_read_fraction k_read_fraction
  have F__law_begin := fun_mk (st := s__law_begin) l__law_begin c__law_begin k__law_begin
  have F__law_take := fun_mk (st := s__law_take) l__law_take c__law_take k__law_take
  have F__law_signed := fun_mk (st := s__law_signed) l__law_signed c__law_signed k__law_signed
  have F__law_gcd := fun_mk (st := s__law_gcd) l__law_gcd c__law_gcd k__law_gcd
  have F__law_f := fun_mk (st := s__law_f) l__law_f c__law_f k__law_f
  have F__law_due := fun_mk (st := s__law_due) l__law_due c__law_due k__law_due
  have F__law_told := fun_mk (st := s__law_told) l__law_told c__law_told k__law_told
  have F__law_bent := fun_mk (st := s__law_bent) l__law_bent c__law_bent k__law_bent
  have F_law := fun_mk (st := s_law) l_law c_law k_law
  have T : Top K mg := {
    a_is_natural := f_is_natural, d_is_natural := _, is_natural_F := F_is_natural, is_natural_b := F_is_natural.binds (ps := ["text"]) fun _ _ _ _ _ _ us hl => match us, hl with | [_], _ => rfl, g_is_natural := PySem.W.mg_of X G a_is_natural,
    a_write_integer := f_write_integer, d_write_integer := _, write_integer_F := F_write_integer, write_integer_b := F_write_integer.binds (ps := ["number"]) fun _ _ _ _ _ _ us hl => match us, hl with | [_], _ => rfl, g_write_integer := PySem.W.mg_of X G a_write_integer,
    a_fraction := f_fraction, d_fraction := _, fraction_F := F_fraction, fraction_b := F_fraction.binds (ps := ["numerator", "denominator"]) fun _ _ _ _ _ _ us hl => match us, hl with | [_, _], _ => rfl, g_fraction := PySem.W.mg_of X G a_fraction,
    a_write_fraction := f_write_fraction, d_write_fraction := _, write_fraction_F := F_write_fraction, write_fraction_b := F_write_fraction.binds (ps := ["a"]) fun _ _ _ _ _ _ us hl => match us, hl with | [_], _ => rfl, g_write_fraction := PySem.W.mg_of X G a_write_fraction,
    a_read_fraction := f_read_fraction, d_read_fraction := _, read_fraction_F := F_read_fraction, read_fraction_b := F_read_fraction.binds (ps := ["text"]) fun _ _ _ _ _ _ us hl => match us, hl with | [_], _ => rfl, g_read_fraction := PySem.W.mg_of X G a_read_fraction,
    a__law_begin := f__law_begin, d__law_begin := _, _law_begin_F := F__law_begin, _law_begin_b := F__law_begin.binds (ps := ["script"]) fun _ _ _ _ _ _ us hl => match us, hl with | [_], _ => rfl, g__law_begin := PySem.W.mg_of X G a__law_begin,
    a__law_take := f__law_take, d__law_take := _, _law_take_F := F__law_take, _law_take_b := F__law_take.binds (ps := ["d", "many"]) fun _ _ _ _ _ _ us hl => match us, hl with | [_, _], _ => rfl, g__law_take := PySem.W.mg_of X G a__law_take,
    a__law_signed := f__law_signed, d__law_signed := _, _law_signed_F := F__law_signed, _law_signed_b := F__law_signed.binds (ps := ["d", "most"]) fun _ _ _ _ _ _ us hl => match us, hl with | [_, _], _ => rfl, g__law_signed := PySem.W.mg_of X G a__law_signed,
    a__law_gcd := f__law_gcd, d__law_gcd := _, _law_gcd_F := F__law_gcd, _law_gcd_b := F__law_gcd.binds (ps := ["a", "b"]) fun _ _ _ _ _ _ us hl => match us, hl with | [_, _], _ => rfl, g__law_gcd := PySem.W.mg_of X G a__law_gcd,
    a__law_f := f__law_f, d__law_f := _, _law_f_F := F__law_f, _law_f_b := F__law_f.binds (ps := ["a", "b"]) fun _ _ _ _ _ _ us hl => match us, hl with | [_, _], _ => rfl, g__law_f := PySem.W.mg_of X G a__law_f,
    a__law_due := f__law_due, d__law_due := _, _law_due_F := F__law_due, _law_due_b := F__law_due.binds (ps := ["text"]) fun _ _ _ _ _ _ us hl => match us, hl with | [_], _ => rfl, g__law_due := PySem.W.mg_of X G a__law_due,
    a__law_told := f__law_told, d__law_told := _, _law_told_F := F__law_told, _law_told_b := F__law_told.binds (ps := ["text"]) fun _ _ _ _ _ _ us hl => match us, hl with | [_], _ => rfl, g__law_told := PySem.W.mg_of X G a__law_told,
    a__law_bent := f__law_bent, d__law_bent := _, _law_bent_F := F__law_bent, _law_bent_b := F__law_bent.binds (ps := ["d", "text", "a"]) fun _ _ _ _ _ _ us hl => match us, hl with | [_, _, _], _ => rfl, g__law_bent := PySem.W.mg_of X G a__law_bent,
    n_abs := PySem.W.mg_none_of X G z_abs,
    n_all := PySem.W.mg_none_of X G z_all,
    n_divmod := PySem.W.mg_none_of X G z_divmod,
    n_int := PySem.W.mg_none_of X G z_int,
    n_isinstance := PySem.W.mg_none_of X G z_isinstance,
    n_len := PySem.W.mg_none_of X G z_len,
    n_list := PySem.W.mg_none_of X G z_list,
    n_range := PySem.W.mg_none_of X G z_range,
    n_reversed := PySem.W.mg_none_of X G z_reversed,
    n_str := PySem.W.mg_none_of X G z_str,
    g_gcd := PySem.W.mg_of X G i_gcd,
    t_TEXT_LIMIT := tk_TEXT_LIMIT, g_TEXT_LIMIT := PySem.W.mg_of X G j_TEXT_LIMIT,
    c_MarketplaceError := C_MarketplaceError, g_MarketplaceError := PySem.W.mg_of X G ca_MarketplaceError, x_MarketplaceError := cx_MarketplaceError, k_MarketplaceError := ck_MarketplaceError, b_MarketplaceError := cb_MarketplaceError, t_MarketplaceError := ct0_MarketplaceError, h_MarketplaceError := ch_MarketplaceError, e_MarketplaceError := ⟨e1_MarketplaceError, e2_MarketplaceError, cb_MarketplaceError, ch_MarketplaceError, e3_MarketplaceError, e5, e6, e4_MarketplaceError⟩,
    c_ZeroDenominator := C_ZeroDenominator, g_ZeroDenominator := PySem.W.mg_of X G ca_ZeroDenominator, x_ZeroDenominator := cx_ZeroDenominator, k_ZeroDenominator := ck_ZeroDenominator, b_ZeroDenominator := cb_ZeroDenominator, t_ZeroDenominator := ct0_ZeroDenominator, h_ZeroDenominator := ch_ZeroDenominator, e_ZeroDenominator := ⟨e1_ZeroDenominator, e2_ZeroDenominator, cb_ZeroDenominator, ch_ZeroDenominator, e3_ZeroDenominator, e5, e6, e4_ZeroDenominator⟩,
    c_TextError := C_TextError, g_TextError := PySem.W.mg_of X G ca_TextError, x_TextError := cx_TextError, k_TextError := ck_TextError, b_TextError := cb_TextError, t_TextError := ct0_TextError, h_TextError := ch_TextError, e_TextError := ⟨e1_TextError, e2_TextError, cb_TextError, ch_TextError, e3_TextError, e5, e6, e4_TextError⟩,
    s_TextError_MarketplaceError := s_TextError_MarketplaceError,
    s_TextError_TextError := s_TextError_TextError }
  exact ⟨_, [], sp_law K, fun p hp => (nomatch hp), fun p hp => (nomatch hp), fun p hp => (nomatch hp), fun s v => .of_eq rfl, fun H a ns hl _ ht hS => ⟨a, ns, rfl, hS, hl, fun _ => rfl⟩, fun base XB _ tb => ok_law T (nodig_base X XB hnd nd0) F_law⟩
end Nl

open PySem PySem.W PyProof.Rows
set_option maxHeartbeats 0 in
theorem PySem.Challenge.cw_nolunch_k02_fraction_texts_holds : PySem.Challenge.rw_nolunch_k02_fraction_texts.Holds := by
  w_on; o_law; k_head; (case hw => w_witness2)
  k_fill
  refine Nl.walk_ofTD (l := PySem.Challenge.rw_nolunch_k02_fraction_texts) (n := 63) (k := 5) (x := "script") (CX := fun _ => L2.CX0) [] rfl (by decide) rfl ⟨rfl, by decide, by decide⟩ (fun y hy => (nomatch hy)) (fun w h Y => PySem.W.kIn_of Y) ?F (fun _ _ _ _ _ h => h)
  case F =>
    intro w mg fa h Y KX G hmg hnd tabs
    refine' Nl.all_mk KX G hmg hnd ?a_is_natural ?l_is_natural ?c_is_natural ?k_is_natural ?a_write_integer ?l_write_integer ?c_write_integer ?k_write_integer ?a_fraction ?l_fraction ?c_fraction ?k_fraction ?a_write_fraction ?l_write_fraction ?c_write_fraction ?k_write_fraction ?a_read_fraction ?l_read_fraction ?c_read_fraction ?k_read_fraction ?a__law_begin ?l__law_begin ?c__law_begin ?k__law_begin ?a__law_take ?l__law_take ?c__law_take ?k__law_take ?a__law_signed ?l__law_signed ?c__law_signed ?k__law_signed ?a__law_gcd ?l__law_gcd ?c__law_gcd ?k__law_gcd ?a__law_f ?l__law_f ?c__law_f ?k__law_f ?a__law_due ?l__law_due ?c__law_due ?k__law_due ?a__law_told ?l__law_told ?c__law_told ?k__law_told ?a__law_bent ?l__law_bent ?c__law_bent ?k__law_bent ?a_law ?l_law ?c_law ?k_law ?z_abs ?z_all ?z_divmod ?z_int ?z_isinstance ?z_len ?z_list ?z_range ?z_reversed ?z_str ?i_gcd ?j_TEXT_LIMIT ?ca_MarketplaceError ?cx_MarketplaceError ?ck_MarketplaceError ?cb_MarketplaceError ?ct0_MarketplaceError ?ch_MarketplaceError ?e1_MarketplaceError ?e2_MarketplaceError ?e3_MarketplaceError ?e4_MarketplaceError ?ca_ZeroDenominator ?cx_ZeroDenominator ?ck_ZeroDenominator ?cb_ZeroDenominator ?ct0_ZeroDenominator ?ch_ZeroDenominator ?e1_ZeroDenominator ?e2_ZeroDenominator ?e3_ZeroDenominator ?e4_ZeroDenominator ?ca_TextError ?cx_TextError ?ck_TextError ?cb_TextError ?ct0_TextError ?ch_TextError ?e1_TextError ?e2_TextError ?e3_TextError ?e4_TextError ?e5 ?e6 ?s_TextError_MarketplaceError ?s_TextError_TextError ?nd0
    (case a_is_natural => k_is); (case l_is_natural => k_is); (case c_is_natural => k_is); (case k_is_natural => k_is); (case a_write_integer => k_is); (case l_write_integer => k_is)
    (case c_write_integer => k_is); (case k_write_integer => k_is); (case a_fraction => k_is); (case l_fraction => k_is); (case c_fraction => k_is); (case k_fraction => k_is)
    (case a_write_fraction => k_is); (case l_write_fraction => k_is); (case c_write_fraction => k_is); (case k_write_fraction => k_is); (case a_read_fraction => k_is); (case l_read_fraction => k_is)
    (case c_read_fraction => k_is); (case k_read_fraction => k_is); (case a__law_begin => k_is); (case l__law_begin => k_is); (case c__law_begin => k_is); (case k__law_begin => k_is)
    (case a__law_take => k_is); (case l__law_take => k_is); (case c__law_take => k_is); (case k__law_take => k_is); (case a__law_signed => k_is); (case l__law_signed => k_is)
    (case c__law_signed => k_is); (case k__law_signed => k_is); (case a__law_gcd => k_is); (case l__law_gcd => k_is); (case c__law_gcd => k_is); (case k__law_gcd => k_is)
    (case a__law_f => k_is); (case l__law_f => k_is); (case c__law_f => k_is); (case k__law_f => k_is); (case a__law_due => k_is); (case l__law_due => k_is)
    (case c__law_due => k_is); (case k__law_due => k_is); (case a__law_told => k_is); (case l__law_told => k_is); (case c__law_told => k_is); (case k__law_told => k_is)
    (case a__law_bent => k_is); (case l__law_bent => k_is); (case c__law_bent => k_is); (case k__law_bent => k_is); (case a_law => k_is); (case l_law => k_is)
    (case c_law => k_is); (case k_law => k_is); (case z_abs => k_is); (case z_all => k_is); (case z_divmod => k_is); (case z_int => k_is)
    (case z_isinstance => k_is); (case z_len => k_is); (case z_list => k_is); (case z_range => k_is); (case z_reversed => k_is); (case z_str => k_is)
    (case i_gcd => k_is); (case j_TEXT_LIMIT => k_is); (case ca_MarketplaceError => k_is); (case cx_MarketplaceError => k_exc); (case ck_MarketplaceError => k_is); (case cb_MarketplaceError => k_is)
    (case ct0_MarketplaceError => k_is); (case ch_MarketplaceError => k_is); (case e1_MarketplaceError => k_is); (case e2_MarketplaceError => k_is); (case e3_MarketplaceError => k_is); (case e4_MarketplaceError => k_is)
    (case ca_ZeroDenominator => k_is); (case cx_ZeroDenominator => k_exc); (case ck_ZeroDenominator => k_is); (case cb_ZeroDenominator => k_is); (case ct0_ZeroDenominator => k_is); (case ch_ZeroDenominator => k_is)
    (case e1_ZeroDenominator => k_is); (case e2_ZeroDenominator => k_is); (case e3_ZeroDenominator => k_is); (case e4_ZeroDenominator => k_is); (case ca_TextError => k_is); (case cx_TextError => k_exc)
    (case ck_TextError => k_is); (case cb_TextError => k_is); (case ct0_TextError => k_is); (case ch_TextError => k_is); (case e1_TextError => k_is); (case e2_TextError => k_is)
    (case e3_TextError => k_is); (case e4_TextError => k_is); (case e5 => k_is); (case e6 => k_is); (case s_TextError_MarketplaceError => k_is); (case s_TextError_TextError => k_is)
    (case nd0 => k_is)

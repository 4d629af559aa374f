import PyProof.Rows.All
import Wide.All
import OpenK.AllK
import Wide.FinOn
import PySem.Challenge.RW_nolunch_k05_texts_of_markets
import HandS.ForExc
import HandS.Wide
import HandS.Gcd
import HandS.IsInst
import HandS.ExcIs
import HandS.Iter
import HandS.Evl
import HandS.SortRule
import HandS.SortInts
import HandS.TupAny
import KE.GoesNew
import KE.GoesMore
import HandS.DictComp
import HandS.Nested
import HandS.EndTab
import HandS.Exc
import HandS.ForMost
import HandS.ExcOwn
import HandS.MapJoin
import HandS.Rev
import HandS.StrMore
import KE.KIntText
import PyProof.Rows.Digits
import HandS.Deep
import HandS.WideBits
import HandS.Codes
import HandS.Steps
import HandS.TupLe
import HandS.RevRange
import HandS.TupMul
import HandS.Walk
import PyProof.Rows.TupDisplay
import PyProof.Rows.StrOr
import HandS.Style
set_option Elab.async false
set_option linter.all false
set_option maxRecDepth 100000
set_option maxHeartbeats 4000000
namespace Nl
/-- a size in bits -/
def Bd (k : Nat) (x : Int) : Prop := x.natAbs < 2 ^ k
theorem Bd.mono {k m : Nat} {x : Int} (h : Bd k x) (e : k ≤ m) : Bd m x := Nat.lt_of_lt_of_le h (Nat.pow_le_pow_right (by decide) e)
theorem Bd.mul {k m : Nat} {x y : Int} (h : Bd k x) (g : Bd m y) : Bd (k + m) (x * y) := by
  unfold Bd at *
  rw [Int.natAbs_mul, Nat.pow_add]
  exact Nat.mul_lt_mul'' h g
theorem Bd.add {k m : Nat} {x y : Int} (h : Bd k x) (g : Bd m y) : Bd (max k m + 1) (x + y) := by
  have h1 := h.mono (Nat.le_max_left k m)
  have g1 := g.mono (Nat.le_max_right k m)
  unfold Bd at *
  have := Int.natAbs_add_le x y
  rw [Nat.pow_succ]
  omega
theorem Bd.neg {k : Nat} {x : Int} (h : Bd k x) : Bd k (-x) := by
  unfold Bd at *
  rw [Int.natAbs_neg]
  exact h
theorem Bd.sub {k m : Nat} {x y : Int} (h : Bd k x) (g : Bd m y) : Bd (max k m + 1) (x - y) := by
  rw [Int.sub_eq_add_neg]
  exact h.add g.neg
theorem Bd.le {k : Nat} {x y : Int} (h : Bd k y) (e : x.natAbs ≤ y.natAbs) : Bd k x := Nat.lt_of_le_of_lt e h

/-- lowest terms -/
structure Low (q : Int × Int) : Prop where
  pos : 0 < q.2
  cop : Int.gcd q.1 q.2 = 1
/-- the greatest common divisor, with the sign of b -/
def sg (a b : Int) : Int := if b < 0 then -(Int.gcd a b : Int) else (Int.gcd a b : Int)
def frac (a b : Int) : Int × Int := (a.fdiv (sg a b), b.fdiv (sg a b))
theorem gcd_pos {a b : Int} (h : b ≠ 0) : 0 < Int.gcd a b := Int.gcd_pos_of_ne_zero_right a h
theorem sg_ne {a b : Int} (h : b ≠ 0) : sg a b ≠ 0 := by
  have := gcd_pos (a := a) h
  unfold sg
  split <;> omega
theorem sg_abs (a b : Int) : (sg a b).natAbs = Int.gcd a b := by
  unfold sg
  split <;> simp
theorem sg_dvd1 (a b : Int) : sg a b ∣ a := by
  have h : (Int.gcd a b : Int) ∣ a := Int.gcd_dvd_left a b
  unfold sg
  split
  · exact Int.neg_dvd.mpr h
  · exact h
theorem sg_dvd2 (a b : Int) : sg a b ∣ b := by
  have h : (Int.gcd a b : Int) ∣ b := Int.gcd_dvd_right a b
  unfold sg
  split
  · exact Int.neg_dvd.mpr h
  · exact h
theorem frac_e1 {a b : Int} (_ : b ≠ 0) : (frac a b).1 * sg a b = a := Int.fdiv_mul_cancel (sg_dvd1 a b)
theorem frac_e2 {a b : Int} (_ : b ≠ 0) : (frac a b).2 * sg a b = b := Int.fdiv_mul_cancel (sg_dvd2 a b)
theorem frac_low {a b : Int} (h : b ≠ 0) : Low (frac a b) := by
  have e1 := frac_e1 (a := a) h
  have e2 := frac_e2 (a := a) h
  have g0 := gcd_pos (a := a) h
  have hs := sg_ne (a := a) h
  generalize hx : frac a b = q at *
  obtain ⟨n, d⟩ := q
  simp only at e1 e2
  refine ⟨?_, ?_⟩
  · show 0 < d
    have hd : d ≠ 0 := fun z => by
      rw [z, Int.zero_mul] at e2
      exact h e2.symm
    by_cases hb : b < 0
    · have s0 : sg a b < 0 := by
        unfold sg
        rw [if_pos hb]
        omega
      by_cases q : d < 0
      · have := Int.mul_pos_of_neg_of_neg q s0
        omega
      · omega
    · have s0 : 0 < sg a b := by
        unfold sg
        rw [if_neg hb]
        omega
      by_cases q : d < 0
      · have := Int.mul_neg_of_neg_of_pos q s0
        omega
      · omega
  · show Int.gcd n d = 1
    have hg : Int.gcd (n * sg a b) (d * sg a b) = Int.gcd n d * (sg a b).natAbs := Int.gcd_mul_right n (sg a b) d
    rw [e1, e2, sg_abs] at hg
    exact Nat.eq_of_mul_eq_mul_right g0 (by rw [← hg, Nat.one_mul])
theorem frac_cross {a b : Int} (h : b ≠ 0) : (frac a b).1 * b = a * (frac a b).2 := by
  have e1 := frac_e1 (a := a) h
  have e2 := frac_e2 (a := a) h
  generalize hx : frac a b = q at *
  obtain ⟨n, d⟩ := q
  simp only at e1 e2 ⊢
  generalize sg a b = s at *
  rw [← e1, ← e2, Int.mul_assoc, Int.mul_comm d s]
theorem abs_of_mul {x s y : Int} (e : x * s = y) (h : s ≠ 0) : x.natAbs ≤ y.natAbs := by
  rw [← e, Int.natAbs_mul]
  exact Nat.le_mul_of_pos_right _ (by omega)
theorem frac_b1 {a b : Int} {k : Nat} (h : b ≠ 0) (g : Bd k a) : Bd k (frac a b).1 := g.le (abs_of_mul (frac_e1 h) (sg_ne h))
theorem frac_b2 {a b : Int} {k : Nat} (h : b ≠ 0) (g : Bd k b) : Bd k (frac a b).2 := g.le (abs_of_mul (frac_e2 h) (sg_ne h))
theorem dvd_cop {a b d : Int} (h : b ∣ a * d) (g : Int.gcd a b = 1) : b ∣ d := by
  have h1 : b.natAbs ∣ a.natAbs * d.natAbs := by
    rw [← Int.natAbs_mul]
    exact Int.natAbs_dvd_natAbs.mpr h
  have h2 : Nat.Coprime b.natAbs a.natAbs := (Nat.gcd_comm _ _).trans g
  exact Int.natAbs_dvd_natAbs.mp (h2.dvd_of_dvd_mul_left h1)
theorem low_uniq {p q : Int × Int} (hp : Low p) (hq : Low q) (e : p.1 * q.2 = q.1 * p.2) : p = q := by
  obtain ⟨a, b⟩ := p
  obtain ⟨c, d⟩ := q
  obtain ⟨pb, cb⟩ := hp
  obtain ⟨pd, cd⟩ := hq
  simp only at *
  have d1 : b ∣ d := by
    have h : b ∣ a * d := ⟨c, by rw [e, Int.mul_comm]⟩
    exact dvd_cop h cb
  have d2 : d ∣ b := by
    have h : d ∣ c * b := ⟨a, by rw [← e, Int.mul_comm]⟩
    exact dvd_cop h cd
  have ebd : b = d := Int.dvd_antisymm (by omega) (by omega) d1 d2
  subst ebd
  have : a = c := Int.eq_of_mul_eq_mul_right (by omega) e
  rw [this]
/-- a fraction of at most k bits -/
structure Ok (k : Nat) (q : Int × Int) : Prop where
  low : Low q
  b1 : Bd k q.1
  b2 : Bd k q.2
theorem Ok.pos {k : Nat} {q : Int × Int} (h : Ok k q) : 0 < q.2 := h.low.pos
theorem Ok.mono {k m : Nat} {q : Int × Int} (h : Ok k q) (e : k ≤ m) : Ok m q := ⟨h.low, h.b1.mono e, h.b2.mono e⟩
theorem frac_ok {a b : Int} {k : Nat} (h : b ≠ 0) (g : Bd k a) (f : Bd k b) : Ok k (frac a b) := ⟨frac_low h, frac_b1 h g, frac_b2 h f⟩
def addF (p q : Int × Int) : Int × Int := frac (p.1 * q.2 + q.1 * p.2) (p.2 * q.2)
def subF (p q : Int × Int) : Int × Int := frac (p.1 * q.2 - q.1 * p.2) (p.2 * q.2)
def mulF (p q : Int × Int) : Int × Int := frac (p.1 * q.1) (p.2 * q.2)
def divF (p q : Int × Int) : Int × Int := frac (p.1 * q.2) (p.2 * q.1)
theorem pos_ne {x y : Int} (h : 0 < x) (g : 0 < y) : x * y ≠ 0 := by
  have := Int.mul_pos h g
  omega
theorem addF_ok {k m n : Nat} {p q : Int × Int} (hp : Ok k p) (hq : Ok m q) (e : k + m + 1 ≤ n) : Ok n (addF p q) :=
  frac_ok (pos_ne hp.pos hq.pos) (((hp.b1.mul hq.b2).add (hq.b1.mul hp.b2)).mono (by omega)) ((hp.b2.mul hq.b2).mono (by omega))
theorem subF_ok {k m n : Nat} {p q : Int × Int} (hp : Ok k p) (hq : Ok m q) (e : k + m + 1 ≤ n) : Ok n (subF p q) :=
  frac_ok (pos_ne hp.pos hq.pos) (((hp.b1.mul hq.b2).sub (hq.b1.mul hp.b2)).mono (by omega)) ((hp.b2.mul hq.b2).mono (by omega))
theorem mulF_ok {k m n : Nat} {p q : Int × Int} (hp : Ok k p) (hq : Ok m q) (e : k + m ≤ n) : Ok n (mulF p q) :=
  frac_ok (pos_ne hp.pos hq.pos) ((hp.b1.mul hq.b1).mono (by omega)) ((hp.b2.mul hq.b2).mono (by omega))
theorem divF_ok {k m n : Nat} {p q : Int × Int} (hp : Ok k p) (hq : Ok m q) (h0 : q.1 ≠ 0) (e : k + m ≤ n) : Ok n (divF p q) := by
  have h : p.2 * q.1 ≠ 0 := Int.mul_ne_zero (by have := hp.pos; omega) h0
  exact frac_ok h ((hp.b1.mul hq.b2).mono (by omega)) ((hp.b2.mul hq.b1).mono (by omega))
/-- the law's own normal form -/
def fracL (a b : Int) : Int × Int :=
  let a' := if b < 0 then 0 - a else a
  let b' := if b < 0 then 0 - b else b
  (a' / (Int.gcd a' b' : Int), b' / (Int.gcd a' b' : Int))
theorem fracL_eq {a b : Int} (h : b ≠ 0) : fracL a b = frac a b := by
  have g0 := gcd_pos (a := a) h
  have key : ∀ x : Int, (sg a b ∣ x) → (if b < 0 then 0 - x else x) / (Int.gcd a b : Int) = x.fdiv (sg a b) := fun x hx => by
    obtain ⟨c, rfl⟩ := hx
    have hs := sg_ne (a := a) h
    rw [Int.mul_fdiv_cancel_left c hs]
    unfold sg
    split
    · have e : 0 - -(Int.gcd a b : Int) * c = (Int.gcd a b : Int) * c := by rw [Int.neg_mul]; omega
      rw [e]
      exact Int.mul_ediv_cancel_left c (by omega)
    · exact Int.mul_ediv_cancel_left c (by omega)
  have eg : Int.gcd (if b < 0 then 0 - a else a) (if b < 0 then 0 - b else b) = Int.gcd a b := by
    split
    · rw [Int.zero_sub, Int.zero_sub, Int.neg_gcd, Int.gcd_neg]
    · rfl
  unfold fracL frac
  simp only [eg]
  rw [key a (sg_dvd1 a b), key b (sg_dvd2 a b)]
theorem List.reverseRecOn' {α : Type} {P : List α → Prop} (l : List α) (nil : P []) (snoc : ∀ l x, P l → P (l ++ [x])) : P l := by
  have : ∀ n (l : List α), l.length = n → P l := by
    intro n
    induction n with
    | zero => intro l h; rw [List.eq_nil_of_length_eq_zero h]; exact nil
    | succ n ih =>
      intro l h
      have hne : l ≠ [] := fun e => by rw [e] at h; cases h
      rw [← List.dropLast_concat_getLast hne]
      exact snoc _ _ (ih _ (by rw [List.length_dropLast]; omega))
  exact this _ l rfl
def totF (l : List (Int × Int)) : Int × Int := l.foldl addF (0, 1)
theorem totF_add (l : List (Int × Int)) (q : Int × Int) : totF (l ++ [q]) = addF (totF l) q := by
  unfold totF
  rw [List.foldl_append]
  rfl
theorem ok_zero : Ok 1 (0, 1) := ⟨⟨by decide, by decide⟩, by unfold Bd; decide, by unfold Bd; decide⟩
theorem totF_ok {k : Nat} : ∀ (l : List (Int × Int)), (∀ q ∈ l, Ok k q) → Ok ((k + 1) * l.length + 1) (totF l) := by
  intro l
  induction l using Nl.List.reverseRecOn' with
  | nil => exact fun _ => ok_zero
  | snoc l q ih =>
      intro h
      rw [totF_add]
      have h1 := ih fun z hz => h z (List.mem_append_left _ hz)
      have h2 := h q (by simp)
      refine addF_ok h1 h2 ?_
      rw [List.length_append, List.length_singleton, Nat.mul_add]
      omega
end Nl
namespace Nl
open PySem PySem.Spec PyProof.Rows L2
def CDivX (_ j : Int) : Prop := j ≠ 0 ∧ j.natAbs.log2 < 9000
theorem op_fdivX {X : Cx} : OpR X (binaryOp .FloorDiv) (rI CDivX fun i j => .int (i.fdiv j)) := opI fun _ _ _ _ _ _ _ hc q => floordiv_int hc.1 q (.inl (PyProof.noPylong_of_log2 hc.2))
theorem divX {i j : Int} {b : Nat} (h : j ≠ 0) (hb : Bd b j) (h0 : 0 < b := by decide) (h9 : b ≤ 9000 := by decide) : CDivX i j := ⟨h, Nat.lt_of_lt_of_le (PySem.Flt.log2_lt_of h0 hb) h9⟩
theorem mulX {i j : Int} {a b : Nat} (ha : Bd a i) (hb : Bd b j) (h0 : 0 < a := by decide) (h1 : 0 < b := by decide) (h : a + b ≤ 1000000 := by decide) : CMulW i j := wide_mul ha hb h0 h1 h
/-- all that was tracked is as it was, but for what stands at d -/
def Xt (d : Addr) (H H' : Hp) : Prop := ∀ b o, b ≠ d → H b = some o → H' b = some o
theorem Xt.refl {d : Addr} (H : Hp) : Xt d H H := fun _ _ _ h => h
theorem Xt.trans {d : Addr} {H H1 H2 : Hp} (a : Xt d H H1) (b : Xt d H1 H2) : Xt d H H2 := fun c o n h => b c o n (a c o n h)
theorem Xt.of {d : Addr} {H H' : Hp} (s : Same H H') : Xt d H H' := fun b o _ h => s b o h
theorem Xt.upd {d : Addr} {H : Hp} {o : HO} : Xt d H (upd H d o) := fun b u n h => by
  rw [upd_ne n]
  exact h
theorem same_new {H : Hp} {p : Addr} {o : HO} (h : H p = none) : Same H (upd H p o) := fun b x e => by
  rw [upd_ne (ne_of_none e h)]
  exact e
/-- v is the fraction q -/
def Fr (H : Hp) (v : V) (q : Int × Int) : Prop := ∃ p, v = .ref p ∧ H p = some (.tup [.int q.1, .int q.2])
theorem Fr.same {H H' : Hp} {v : V} {q : Int × Int} (h : Fr H v q) (s : Same H H') : Fr H' v q := by
  obtain ⟨p, e, hp⟩ := h
  exact ⟨p, e, s _ _ hp⟩
theorem ne_tl {H : Hp} {a d : Addr} {xs ys : List V} (h : H a = some (.tup xs)) (g : H d = some (.lst ys)) : a ≠ d := ne_of h g (by intro z; cases z)
theorem Fr.xt {H H' : Hp} {d : Addr} {ys : List V} {v : V} {q : Int × Int} (h : Fr H v q) (g : H d = some (.lst ys)) (s : Xt d H H') : Fr H' v q := by
  obtain ⟨p, e, hp⟩ := h
  exact ⟨p, e, s _ _ (ne_tl hp g) hp⟩
theorem two_le : ([a, b] : List V).length ≤ sizeLine := (by decide : 2 ≤ sizeLine)
section
variable {X : Cx}
theorem CallR.imp {f : Value} {r r' : List V → Hp → VK → Prop} (h : CallR X f r) (hi : ∀ xs H Q, r' xs H Q → r xs H Q) : CallR X f r' := fun pins s σ H vs us Q I rr q => h pins s σ H vs us Q I rr (hi _ _ _ q)
def rInt : List V → Hp → VK → Prop := fun xs H Q => ∃ i, xs = [.int i] ∧ Q (.int i) H
theorem call_intI : CallR X (.type "int") rInt := CallR.imp call_int1 fun _ _ _ h => .inl h
def rLenL (K : PySem.W.Frag) : List V → Hp → VK → Prop := fun xs H Q => ∃ p ys, xs = [.ref p] ∧ SqL K H p ys ∧ Q (.int (ys.length : Int)) H
theorem call_lenL : CallR X (.builtin "len") (rLenL X.K) := CallR.imp call_len_seq fun _ _ _ ⟨p, ys, e, h, q⟩ => ⟨p, ys, e, .inl h, q⟩
def rLenT (K : PySem.W.Frag) : List V → Hp → VK → Prop := fun xs H Q => ∃ p ys, xs = [.ref p] ∧ SqT K H p ys ∧ Q (.int (ys.length : Int)) H
theorem call_lenT : CallR X (.builtin "len") (rLenT X.K) := CallR.imp call_len_seq fun _ _ _ ⟨p, ys, e, h, q⟩ => ⟨p, ys, e, .inr h, q⟩
def rListL (K : PySem.W.Frag) : List V → Hp → VK → Prop := fun xs H Q => ∃ p ys, xs = [.ref p] ∧ SqL K H p ys ∧ ∀ l, H l = none → Q (.ref l) (upd H l (.lst ys))
theorem call_listL : CallR X (.type "list") (rListL X.K) := CallR.imp call_list_of fun _ _ _ ⟨p, ys, e, h, q⟩ => ⟨p, ys, e, .inl h, q⟩
def rTupL (K : PySem.W.Frag) : List V → Hp → VK → Prop := fun xs H Q => ∃ p ys, xs = [.ref p] ∧ SqL K H p ys ∧ ∀ l, H l = none → Q (.ref l) (upd H l (.tup ys))
theorem call_tupL : CallR X (.type "tuple") (rTupL X.K) := CallR.imp call_tuple_of fun _ _ _ ⟨p, ys, e, h, q⟩ => ⟨p, ys, e, .inl ⟨h, q⟩⟩
/-- where something is known of what is raised -/
theorem pe_hyp {e : Expr} {t : TE} {p : Prop} (h : p → PE X e t) : PE X e (fun σ H Q => p ∧ t σ H Q) := ⟨fun pins s σ H Q I hw => (h hw.1).run pins s σ H Q I hw.2⟩
end
theorem mulC {i j : Int} (h : -(2 ^ 64) < j ∧ j < 2 ^ 64) : CMul i j := .inr h
theorem mulC' {i j : Int} (h : -(2 ^ 64) < i ∧ i < 2 ^ 64) : CMul i j := .inl h
/-- the state that the law's draws go on: [its script, a place, a rest, a seed] -/
structure DstI (H : Hp) (pd ps : Addr) (i r : Int) (ns : List Int) : Prop where
  at_d : ∃ s : Int, H pd = some (.lst [.ref ps, .int i, .int r, .int s])
  at_s : H ps = some (.lst (ns.map V.int))
  ne : ps ≠ pd
  i0 : 0 ≤ i
  r0 : 0 ≤ r
def Dst (H : Hp) (pd ps : Addr) : Prop := ∃ i r ns, DstI H pd ps i r ns
theorem Dst.same {H H' : Hp} {pd ps : Addr} (h : Dst H pd ps) (s : Same H H') : Dst H' pd ps := by
  obtain ⟨i, r, ns, ⟨⟨sd, h1⟩, h2, h3, h4, h5⟩⟩ := h
  exact ⟨i, r, ns, ⟨⟨sd, s _ _ h1⟩, s _ _ h2, h3, h4, h5⟩⟩
theorem Dst.xt {H H' : Hp} {pd ps x : Addr} (h : Dst H pd ps) (n1 : x ≠ pd) (n2 : x ≠ ps) (s : Xt x H H') : Dst H' pd ps := by
  obtain ⟨i, r, ns, ⟨⟨sd, h1⟩, h2, h3, h4, h5⟩⟩ := h
  exact ⟨i, r, ns, ⟨⟨sd, s _ _ (Ne.symm n1) h1⟩, s _ _ (Ne.symm n2) h2, h3, h4, h5⟩⟩
theorem Dst.fresh {H : Hp} {pd ps x : Addr} (h : Dst H pd ps) (n : H x = none) : x ≠ pd ∧ x ≠ ps := by
  obtain ⟨i, r, ns, ⟨⟨sd, h1⟩, h2, h3, h4, h5⟩⟩ := h
  exact ⟨fun e => (by rw [e, h1] at n; cases n), fun e => (by rw [e, h2] at n; cases n)⟩
theorem Dst.lst {H : Hp} {pd ps : Addr} (h : Dst H pd ps) : ∃ ys, H pd = some (.lst ys) := by
  obtain ⟨i, r, ns, ⟨⟨sd, h1⟩, _⟩⟩ := h
  exact ⟨_, h1⟩
theorem Fr.dst {H H' : Hp} {pd ps : Addr} {v : V} {q : Int × Int} (h : Fr H v q) (g : Dst H pd ps) (s : Xt pd H H') : Fr H' v q := by
  obtain ⟨ys, e⟩ := g.lst
  exact h.xt e s
theorem DstI.set {H : Hp} {pd ps : Addr} {i r i' r' s' : Int} {ns : List Int} (h : DstI H pd ps i r ns) (hi : 0 ≤ i') (hr : 0 ≤ r') : DstI (upd H pd (.lst [.ref ps, .int i', .int r', .int s'])) pd ps i' r' ns :=
  ⟨⟨s', upd_same⟩, by rw [upd_ne h.ne]; exact h.at_s, h.ne, hi, hr⟩
theorem DstI.upd2 {H : Hp} {pd ps : Addr} {i r i' r' s' : Int} {ns : List Int} {o : HO} (h : DstI H pd ps i r ns) (hi : 0 ≤ i') (hr : 0 ≤ r') : DstI (upd (upd H pd o) pd (.lst [.ref ps, .int i', .int r', .int s'])) pd ps i' r' ns := by
  rw [upd_upd]
  exact h.set hi hr
theorem dec_eq {a b : V} (h : a = b) : decide (a = b) = true := decide_eq_true h
def FrAll (H : Hp) (xs : List V) (qs : List (Int × Int)) : Prop := xs.length = qs.length ∧ ∀ (i : Nat) (x : V), xs[i]? = some x → ∃ q, qs[i]? = some q ∧ Fr H x q
theorem FrAll.same {H H' : Hp} {xs : List V} {qs : List (Int × Int)} (h : FrAll H xs qs) (s : Same H H') : FrAll H' xs qs := ⟨h.1, fun i x e => by
  obtain ⟨q, h1, h2⟩ := h.2 i x e
  exact ⟨q, h1, h2.same s⟩⟩
theorem FrAll.xt {H H' : Hp} {d : Addr} {ys xs : List V} {qs : List (Int × Int)} (h : FrAll H xs qs) (g : H d = some (.lst ys)) (s : Xt d H H') : FrAll H' xs qs := ⟨h.1, fun i x e => by
  obtain ⟨q, h1, h2⟩ := h.2 i x e
  exact ⟨q, h1, h2.xt g s⟩⟩
theorem FrAll.add {H : Hp} {xs : List V} {qs : List (Int × Int)} {v : V} {q : Int × Int} (h : FrAll H xs qs) (g : Fr H v q) : FrAll H (xs ++ [v]) (qs ++ [q]) := by
  refine ⟨by simp [h.1], fun i x e => ?_⟩
  by_cases hi : i < xs.length
  · rw [List.getElem?_append_left hi] at e
    obtain ⟨z, h1, h2⟩ := h.2 i x e
    exact ⟨z, by rw [List.getElem?_append_left (by rw [← h.1]; exact hi)]; exact h1, h2⟩
  · have hl := (List.getElem?_eq_some_iff.mp e).1
    rw [List.length_append, List.length_singleton] at hl
    have ei : i = xs.length := by omega
    subst ei
    rw [List.getElem?_concat_length] at e
    cases e
    exact ⟨q, by rw [h.1, List.getElem?_concat_length], g⟩
theorem take_next {α : Type} {l : List α} {i : Nat} {x : α} (h : l[i]? = some x) : l.take (i + 1) = l.take i ++ [x] := by
  rw [List.take_add_one, h]
  rfl
theorem gcd_step (x y : Int) (hx : 0 ≤ x) (hy : 0 ≤ y) : Int.gcd y (x % y) = Int.gcd x y := by
  obtain ⟨a, rfl⟩ := Int.eq_ofNat_of_zero_le hx
  obtain ⟨b, rfl⟩ := Int.eq_ofNat_of_zero_le hy
  rw [← Int.natCast_emod]
  show Nat.gcd b (a % b) = Nat.gcd a b
  rw [Nat.gcd_comm b, ← Nat.gcd_rec b a, Nat.gcd_comm]
theorem if_true_of' {c : Bool} {A B : Prop} (hc : c = true) (h : A) : if c = true then A else B := by
  rw [if_pos hc]
  exact h
theorem if_false_of' {c : Bool} {A B : Prop} (hc : c = false) (h : B) : if c = true then A else B := by
  rw [hc, if_neg Bool.false_ne_true]
  exact h
def frD (q : Int × Int) : PyData := .tuple [.int q.1, .int q.2]
theorem Fr.dp {K : PySem.W.Frag} {H : Hp} {v : V} {q : Int × Int} (h : Fr H v q) : Dp K H v (frD q) := by
  obtain ⟨p, rfl, hp⟩ := h
  exact .tup (SqT.of hp) (.cons (.int _) (.cons (.int _) .nil))
theorem frD_shaped (q : Int × Int) : SeqAt.shaped (frD q) = true := rfl
theorem frD_eqv (q : Int × Int) : PyData.eqv (frD q) (frD q) = true := SeqAt.eqv_refl _ rfl
theorem kit_self {K : PySem.W.Frag} {C : Addr} : PySem.W.kitOne K (.ref C) (.ref C) = some true := by
  unfold PySem.W.kitOne
  simp
theorem pow38 : Bd 127 (10 ^ 38) := by unfold Bd; decide
end Nl

namespace Nl
/-! ### sorted of tuples of ints of any lengths, the first of which is empty -/
section
open PySem PySem.W PySem.Calls PyProof.Rows SrtO
theorem lex_asym : ∀ a b : List Int, HT.lexLt a b = true → HT.lexLt b a = false
  | [], [], h => by simp [HT.lexLt] at h
  | [], _ :: _, _ => rfl
  | _ :: _, [], h => by simp [HT.lexLt] at h
  | x :: a, y :: b, h => by
    rw [HT.lexLt_cons] at h ⊢
    by_cases e : x = y
    · rw [if_pos e] at h
      rw [if_pos e.symm]
      exact lex_asym a b h
    · rw [if_neg e] at h
      rw [if_neg (Ne.symm e)]
      have := of_decide_eq_true h
      exact decide_eq_false (by omega)
theorem lex_tr : ∀ a b c : List Int, HT.lexLt b a = false → HT.lexLt c b = false → HT.lexLt c a = false
  | _, _, [], _, h => by
    rename_i a b h0
    cases b with
    | nil => exact h0
    | cons y b => simp [HT.lexLt] at h
  | _, [], z :: c, h1, h2 => by
    rename_i a
    cases a with
    | nil => rfl
    | cons x a => simp [HT.lexLt] at h1
  | [], y :: b, z :: c, _, _ => rfl
  | x :: a, y :: b, z :: c, h1, h2 => by
    rw [HT.lexLt_cons] at h1 h2 ⊢
    by_cases e : y = x
    · rw [if_pos e] at h1
      by_cases e2 : z = y
      · rw [if_pos e2] at h2
        rw [if_pos (e2.trans e)]
        exact lex_tr a b c h1 h2
      · rw [if_neg e2] at h2
        rw [if_neg (fun q => e2 (q.trans e.symm))]
        have := of_decide_eq_false h2
        exact decide_eq_false (by omega)
    · rw [if_neg e] at h1
      have q1 := of_decide_eq_false h1
      by_cases e2 : z = y
      · rw [if_neg (fun q => e (e2.symm.trans q))]
        exact decide_eq_false (by omega)
      · rw [if_neg e2] at h2
        have q2 := of_decide_eq_false h2
        rw [if_neg (by omega)]
        exact decide_eq_false (by omega)
theorem swo_path {α : Type} (k : α → List Int) : Swo fun v u => HT.lexLt (k v) (k u) := ⟨fun x y h => lex_asym _ _ h, fun x y z h1 h2 => lex_tr _ _ _ h1 h2⟩
section
variable {prog : Program} {w : World} {A : Around} {E : Value → Shared → Prop} {s : Shared}
theorem keyLt_tup {l b : Addr} {items items2 : Array Value} {ns ms : List Int} {Q : Bool → Shared → Prop} (hl : IsTup s.heap l items) (hb : IsTup s.heap b items2) (hi : IntsAre items.toList ns) (hj : IntsAre items2.toList ms)
    (hu : A.units < cLine) (h : Q (HT.lexLt ns ms) s) : wpAny (model prog w) A (keyLt' oneType' (.ref l) (.ref b)) Q E s := by
  obtain ⟨⟨cls, dd, data, sl⟩, ho, hc, n, hd⟩ := id hl
  obtain ⟨⟨cls2, dd2, data2, sl2⟩, ho2, hc2, n2, hd2⟩ := id hb
  simp only at hc hd hc2 hd2
  subst hc hd hc2 hd2
  rw [keyLt'_oneType, oneLt'_eq]
  simp only [if_true]
  refine wpAny_bind (wpAny_cRoomFor hu ?_)
  have hT : s.TypeIs (.ref l) "tuple" := ⟨_, ho, rfl⟩
  refine wpAny_bind (wpAny_callSpecialIfBound?_slot hT PySem.F.slot_tuple_lt (call_meets PySem.F.slot_tuple_lt hT PySem.F.entry_tuple_lt (PySem.F.args_tuple_lt_2 _ _) (HT.tuple_lt_ints l b items items2 n n2 dd dd2 sl sl2 ns ms hi hj) ⟨ho, ho2, ?_⟩))
  exact wpAny_truthy_bool h
/-- what firstOfTuple gives -/
theorem firsts_any : ∀ (vs : List Value) {Q : List (Option Value) → Shared → Prop}, (∀ v ∈ vs, ∃ a xs, v = .ref a ∧ IsTup s.heap a xs) →
    (∀ fs : List (Option Value), (∀ (v : Value) (r : List Value) (a : Addr) (xs : Array Value), vs = v :: r → v = .ref a → IsTup s.heap a xs → fs[0]? = some xs[0]?) → Q fs s) → wpAny (model prog w) A (vs.mapM firstOfTuple') Q E s
  | [], Q, _, h => by
    rw [List.mapM_nil]
    exact wpAny_pure (h [] fun _ _ _ _ e => by cases e)
  | v :: vs, Q, hv, h => by
    obtain ⟨a, xs, rfl, ht⟩ := hv v (List.mem_cons_self ..)
    obtain ⟨o, ho, hc, n, hd⟩ := id ht
    rw [List.mapM_cons]
    refine wpAny_bind ?_
    rw [kas_first_eq]
    refine wpAny_bind (Looks.here (show Looks (model prog w) s.heap (typeOf (.ref a)) o.cls from (Looks.ld ho).andThen .now) ?_)
    rw [hc, if_neg (by first | decide | simp)]
    refine wpAny_bind (listItems_at ho hd (wpAny_pure ?_))
    refine wpAny_bind (firsts_any vs (fun u hu => hv u (List.mem_cons_of_mem _ hu)) fun fs _ => wpAny_pure (h _ fun v' r a' xs' e1 e2 ht' => ?_))
    cases e1
    cases e2
    obtain ⟨o', ho', hc', n', hd'⟩ := ht'
    rw [ho] at ho'
    cases ho'
    rw [hd] at hd'
    cases hd'
    rfl
theorem kind_paths {vs : List Value} {Q : SortKind → Shared → Prop} (h2 : 2 ≤ vs.length) (hv : ∀ v ∈ vs, ∃ a xs, v = .ref a ∧ IsTup s.heap a xs) (h0 : ∀ (v : Value) (r : List Value), vs = v :: r → ∃ a xs, v = .ref a ∧ IsTup s.heap a xs ∧ xs[0]? = none)
    (h : Q oneType' s) : wpAny (model prog w) A (keyKind' vs.toArray) Q E s := by
  obtain ⟨v₁, v₂, rest, rfl⟩ : ∃ v₁ v₂ rest, vs = v₁ :: v₂ :: rest := by
    match vs, h2 with
    | [], h2 => simp at h2
    | [_], h2 => simp at h2
    | v₁ :: v₂ :: rest, _ => exact ⟨v₁, v₂, rest, rfl⟩
  rw [keyKind'_eq, List.mapM_toArray, map_eq_pure_bind]
  refine wpAny_bind (wpAny_bind (firsts_any _ hv fun fs hf => wpAny_pure ?_))
  obtain ⟨a, xs, ev, ht, hx⟩ := h0 v₁ (v₂ :: rest) rfl
  have f0 := hf v₁ (v₂ :: rest) a xs rfl ev ht
  rw [hx] at f0
  have hall : ¬ ((fs.toArray.all fun x => x.isSome) = true) := by
    cases fs with
    | nil => simp at f0
    | cons f fs =>
      have e : f = none := by simpa using f0
      subst e
      simp
  have h1 : (fs.toArray[0]?.bind id) = none := by
    have e : fs.toArray[0]? = some none := by simpa using f0
    rw [e]
    rfl
  rw [if_neg hall, h1]
  rw [if_neg (by simp)]
  rw [oneTypeOnly'_eq, List.mapM_toArray, map_eq_pure_bind]
  refine wpAny_bind (wpAny_bind (wpAny_bind (kas_mapM (r := Value.type "tuple") _ (fun v hm Q' hq => ?_) (wpAny_pure ?_))))
  · obtain ⟨a, xs, rfl, o, ho, hc, n, hd⟩ := hv v hm
    exact Looks.here (show Looks (model prog w) s.heap (typeOf (.ref a)) (.type "tuple") from hc ▸ (Looks.ld ho).andThen .now) hq
  · have hall : ((List.map (fun _ => Value.type "tuple") (v₁ :: v₂ :: rest)).toArray.all fun x => x == Value.type "tuple") = true := by
      simp only [List.all_toArray, List.all_map, List.all_eq_true]
      intro _ _
      simp
    have h0 : (List.map (fun _ => Value.type "tuple") (v₁ :: v₂ :: rest)).toArray[0]? = some (Value.type "tuple") := by simp
    rw [h0]
    simp only [hall, if_true]
    exact wpAny_pure (wpAny_pure h)
end
end
section
open PySem PySem.Spec PyProof.Rows L2
variable {X : Cx}
abbrev ltK (k : V → List Int) (x y : V) : Bool := HT.lexLt (k x) (k y)
def rSortP (K : PySem.W.Frag) : List V → Hp → VK → Prop := fun vs H Q => ∃ (a : Addr) (xs : List V) (k : V → List Int), vs = [V.ref a] ∧ SqL K H a xs ∧ (∀ x ∈ xs, ∃ t, x = V.ref t ∧ SqT K H t ((k x).map V.int)) ∧ (∀ x, xs[0]? = some x → k x = []) ∧
  ∀ ys p, ys.Perm xs → SrtO.Srtd (ltK k) ys → H p = none → Q (.ref p) (upd H p (.lst ys))
theorem cr_sortP (hr : Room 2 X.A) : CallR X (.builtin "sorted") (rSortP X.K) := by
  intro pins s σ H vs us Q I r h
  obtain ⟨a, xs, k, rfl, hs, hx, hx0, q⟩ := h
  obtain ⟨its, rv, hl, hz⟩ := I.list hs
  obtain ⟨u, rfl, ru⟩ := vals1 r
  obtain rfl : u = Value.ref a := ru
  obtain ⟨e1, e2⟩ := refs_back rv fun x m => by
    obtain ⟨t, e, _⟩ := hx x m
    exact ⟨t, e⟩
  have hu : X.A.in1.in1.units < cLine := by
    have h1 : Room 0 X.A.in1.in1 := Room.in1 (k := 0) (Room.in1 (k := 1) hr)
    exact h1.units0
  have tup : ∀ v ∈ its, ∃ t ws, v = Value.ref t ∧ IsTup s.heap t ws ∧ IntsAre ws.toList (k (backV v)) := fun v hv => by
    obtain ⟨t, rfl⟩ := e2 v hv
    have hm : V.ref t ∈ xs := by rw [e1]; exact List.mem_map.mpr ⟨_, hv, rfl⟩
    obtain ⟨t', e, ht⟩ := hx _ hm
    cases e
    obtain ⟨ws, rw', hw, _⟩ := I.tuple ht
    exact ⟨t, ws.toArray, rfl, hw, (show IntsAre ws (k (V.ref t)) from Vals.ints rw')⟩
  refine SrtO.sorted_ord (swo_path fun v => k (backV v)) hl.isList (by rw [← rv.length]; exact hz) (fun h2 h₁ a' ha kk => ?_) fun out h1 h2 => ?_
  · intro h' hk
    have keep : ∀ b o, s.heap.get? b = some o → h'.get? b = some o := fun b o e => hk b o (kk b o e).1 (kk b o e).2
    have tk : ∀ {t : Addr} {ws : Array Value}, IsTup s.heap t ws → IsTup h' t ws := fun ⟨o, ho, hc⟩ => ⟨o, keep _ _ ho, hc⟩
    refine ⟨oneType', fun Q' E hq => ?_, fun p q hm hm' => ?_⟩
    · refine kind_paths h2 (fun v hv => ?_) (fun v r e => ?_) hq
      · obtain ⟨t, ws, e, hw, _⟩ := tup v hv
        exact ⟨t, ws, e, tk hw⟩
      · have hv : v ∈ its := by rw [e]; exact List.mem_cons_self ..
        obtain ⟨t, ws, e', hw, hi⟩ := tup v hv
        refine ⟨t, ws, e', tk hw, ?_⟩
        have ex : xs[0]? = some (backV v) := by rw [e1, e]; rfl
        rw [hx0 _ ex] at hi
        have : ws.toList = [] := by
          generalize ws.toList = l at hi
          cases hi
          rfl
        obtain ⟨l⟩ := ws
        simp only at this
        subst this
        rfl
    · obtain ⟨t, ws, ev, hw, hi⟩ := tup _ hm
      obtain ⟨t', ws', ev', hw', hi'⟩ := tup _ hm'
      show wpAny (model X.prog X.w) X.A.in1.in1 (keyLt' oneType' p.1 q.1) (fun r s' => s' = _ ∧ r = HT.lexLt (k (backV p.1)) (k (backV q.1))) (fun _ _ => False) _
      rw [ev, ev'] at *
      exact keyLt_tup (tk hw) (tk hw') hi hi' hu ⟨rfl, rfl⟩
  · obtain ⟨ep, he'⟩ := PyProof.Rows.sortedAll_at s.heap its out.toArray
    have h3 : ∀ u ∈ out, ∃ a, u = Value.ref a := fun u hu => e2 u (h2.perm.mem_iff.mp hu)
    have hp : (out.map backV).Perm xs := by
      rw [e1]
      exact h2.perm.map backV
    refine ⟨.ref (s.heap.objs.size + 1), upd H (s.heap.objs.size + 1) (.lst (out.map backV)), I.laid (t' := s.toks) (fun _ _ => PyProof.Rows.sortedAll_old) (Nat.le_succ _) ⟨?_, out, ep, vals_back h3, he'⟩, rfl, q _ _ hp (SrtO.srtd_map h1) (I.hok.fresh (Nat.le_succ _))⟩
    rw [hp.length_eq]
    exact hz
end
end Nl

namespace Nl
open PySem PySem.Spec PyProof.Rows L2
/-! ### data that never changes: numbers, texts, None and tuples of such -/
/-- a tuple that was made, at a -/
def Tp (H : Hp) (a : Addr) (xs : List V) : Prop := H a = some (.tup xs)
mutual
inductive DT (K : PySem.W.Frag) (H : Hp) : V → PyData → Prop
  | non : DT K H .non .none
  | bl (b : Bool) : DT K H (.bl b) (.bool b)
  | int (i : Int) : DT K H (.int i) (.int i)
  | str (x : Str) : DT K H (.str x) (.str x)
  | tup {a : Addr} {xs : List V} {ds : List PyData} : Tp H a xs → DTs K H xs ds → DT K H (.ref a) (.tuple ds)
inductive DTs (K : PySem.W.Frag) (H : Hp) : List V → List PyData → Prop
  | nil : DTs K H [] []
  | cons {v : V} {vs : List V} {d : PyData} {ds : List PyData} : DT K H v d → DTs K H vs ds → DTs K H (v :: vs) (d :: ds)
end
section
variable {K : PySem.W.Frag} {H H' : Hp}
theorem Tp.of {a : Addr} {xs : List V} (h : H a = some (.tup xs)) : Tp H a xs := h
theorem Tp.sq {a : Addr} {xs : List V} (h : Tp H a xs) : SqT K H a xs := SqT.of h
instance instTpSq {a : Addr} {xs : List V} : Coe (Tp H a xs) (SqT K H a xs) := ⟨Tp.sq⟩
mutual
theorem DT.mono (hs : ∀ a xs, Tp H a xs → Tp H' a xs) : ∀ (d : PyData) (v : V), DT K H v d → DT K H' v d
  | .none, _, h => by cases h; exact .non
  | .bool _, _, h => by cases h; exact .bl _
  | .int _, _, h => by cases h; exact .int _
  | .str _, _, h => by cases h; exact .str _
  | .tuple ds, _, h => by
    cases h with
    | tup h1 h2 => exact .tup (hs _ _ h1) (DTs.mono hs ds _ h2)
  | .list _, _, h => by cases h
  | .dict _, _, h => by cases h
theorem DTs.mono (hs : ∀ a xs, Tp H a xs → Tp H' a xs) : ∀ (ds : List PyData) (vs : List V), DTs K H vs ds → DTs K H' vs ds
  | [], _, h => by cases h; exact .nil
  | d :: ds, _, h => by
    cases h with
    | cons h1 h2 => exact .cons (DT.mono hs d _ h1) (DTs.mono hs ds _ h2)
end
mutual
theorem DT.dp : ∀ (d : PyData) (v : V), DT K H v d → Dp K H v d
  | .none, _, h => by cases h; exact .non
  | .bool _, _, h => by cases h; exact .bl _
  | .int _, _, h => by cases h; exact .int _
  | .str _, _, h => by cases h; exact .str _
  | .tuple ds, _, h => by
    cases h with
    | tup h1 h2 => exact .tup h1 (DTs.dp ds _ h2)
  | .list _, _, h => by cases h
  | .dict _, _, h => by cases h
theorem DTs.dp : ∀ (ds : List PyData) (vs : List V), DTs K H vs ds → DpAll K H vs ds
  | [], _, h => by cases h; exact .nil
  | d :: ds, _, h => by
    cases h with
    | cons h1 h2 => exact .cons (DT.dp d _ h1) (DTs.dp ds _ h2)
end
theorem tp_same {a : Addr} {xs : List V} (s : Same H H') (h : Tp H a xs) : Tp H' a xs := s _ _ h
/-- what stands at d is a list -/
def IsL (H : Hp) (d : Addr) : Prop := ∃ ys, H d = some (.lst ys)
theorem tp_xt {d a : Addr} {xs : List V} (g : IsL H d) (s : Xt d H H') (h : Tp H a xs) : Tp H' a xs := by
  obtain ⟨ys, g⟩ := g
  exact s _ _ (ne_of h g (by intro z; cases z)) h
theorem DT.same {v : V} {d : PyData} (h : DT K H v d) (s : Same H H') : DT K H' v d := DT.mono (fun _ _ => tp_same s) d v h
theorem DTs.same {v : List V} {d : List PyData} (h : DTs K H v d) (s : Same H H') : DTs K H' v d := DTs.mono (fun _ _ => tp_same s) d v h
theorem DT.xt {v : V} {d : PyData} {p : Addr} (h : DT K H v d) (g : IsL H p) (s : Xt p H H') : DT K H' v d := DT.mono (fun _ _ => tp_xt g s) d v h
theorem DTs.xt {v : List V} {d : List PyData} {p : Addr} (h : DTs K H v d) (g : IsL H p) (s : Xt p H H') : DTs K H' v d := DTs.mono (fun _ _ => tp_xt g s) d v h
theorem DT.inv {v : V} {ds : List PyData} (h : DT K H v (.tuple ds)) : ∃ a xs, v = .ref a ∧ Tp H a xs ∧ DTs K H xs ds := by
  cases h with
  | tup h1 h2 => exact ⟨_, _, rfl, h1, h2⟩
theorem DTs.len : ∀ {xs : List V} {ds : List PyData}, DTs K H xs ds → xs.length = ds.length
  | _, _, .nil => rfl
  | _, _, .cons _ t => congrArg (· + 1) (DTs.len t)
theorem DTs.inv1 {xs : List V} {d : PyData} (h : DTs K H xs [d]) : ∃ x, xs = [x] ∧ DT K H x d := by
  cases h with
  | cons h1 h2 =>
    cases h2
    exact ⟨_, rfl, h1⟩
theorem DTs.inv2 {xs : List V} {d e : PyData} (h : DTs K H xs [d, e]) : ∃ x y, xs = [x, y] ∧ DT K H x d ∧ DT K H y e := by
  cases h with
  | cons h1 h2 =>
    obtain ⟨y, rfl, h3⟩ := h2.inv1
    exact ⟨_, _, rfl, h1, h3⟩
theorem DT.inv2 {v : V} {d e : PyData} (h : DT K H v (.tuple [d, e])) : ∃ a x y, v = .ref a ∧ Tp H a [x, y] ∧ DT K H x d ∧ DT K H y e := by
  obtain ⟨a, xs, rfl, h1, h2⟩ := h.inv
  obtain ⟨x, y, rfl, h3, h4⟩ := h2.inv2
  exact ⟨a, x, y, rfl, h1, h3, h4⟩
theorem DT.mk2 {a : Addr} {x y : V} {d e : PyData} (h : Tp H a [x, y]) (h1 : DT K H x d) (h2 : DT K H y e) : DT K H (.ref a) (.tuple [d, e]) := .tup h (.cons h1 (.cons h2 .nil))
theorem DT.int_inv {v : V} {i : Int} (h : DT K H v (.int i)) : v = .int i := by cases h; rfl
theorem DTs.get : ∀ {xs : List V} {ds : List PyData} {i : Nat} {x : V}, DTs K H xs ds → xs[i]? = some x → ∃ d, ds[i]? = some d ∧ DT K H x d
  | _, _, _, _, .nil, e => by simp at e
  | _, _, 0, _, .cons r _, e => by simp at e; subst e; exact ⟨_, rfl, r⟩
  | _, _, i + 1, x, .cons _ t, e => by
    obtain ⟨u, h1, h2⟩ := DTs.get (i := i) (x := x) t (by simpa using e)
    exact ⟨u, by simpa using h1, h2⟩
theorem DTs.at_ : ∀ {xs : List V} {ds : List PyData} {i : Nat} {d : PyData}, DTs K H xs ds → ds[i]? = some d → ∃ x, xs[i]? = some x ∧ DT K H x d
  | _, _, _, _, .nil, e => by simp at e
  | _, _, 0, _, .cons r _, e => by simp at e; subst e; exact ⟨_, rfl, r⟩
  | _, _, i + 1, x, .cons _ t, e => by
    obtain ⟨u, h1, h2⟩ := DTs.at_ (i := i) (d := x) t (by simpa using e)
    exact ⟨u, by simpa using h1, h2⟩
theorem DTs.app : ∀ {xs ys : List V} {ds es : List PyData}, DTs K H xs ds → DTs K H ys es → DTs K H (xs ++ ys) (ds ++ es)
  | _, _, _, _, .nil, h => h
  | _, _, _, _, .cons a t, h => .cons a (t.app h)
theorem DTs.snoc {xs : List V} {ds : List PyData} {x : V} {d : PyData} (h : DTs K H xs ds) (g : DT K H x d) : DTs K H (xs ++ [x]) (ds ++ [d]) := h.app (.cons g .nil)
theorem DTs.drop : ∀ {xs : List V} {ds : List PyData} (n : Nat), DTs K H xs ds → DTs K H (xs.drop n) (ds.drop n)
  | _, _, 0, h => h
  | _, _, _ + 1, .nil => .nil
  | _, _, n + 1, .cons _ t => t.drop n
theorem DTs.take : ∀ {xs : List V} {ds : List PyData} (n : Nat), DTs K H xs ds → DTs K H (xs.take n) (ds.take n)
  | _, _, 0, _ => .nil
  | _, _, _ + 1, .nil => .nil
  | _, _, n + 1, .cons h t => .cons h (t.take n)
theorem DTs.ints {ns : List Int} : ∀ {xs : List V}, DTs K H xs (ns.map PyData.int) → xs = ns.map V.int := by
  induction ns with
  | nil =>
    intro xs h
    cases h
    rfl
  | cons n ns ih =>
    intro xs h
    cases h with
    | cons h1 h2 => rw [h1.int_inv, ih h2]; rfl
theorem DTs.of_ints : ∀ (ns : List Int), DTs K H (ns.map V.int) (ns.map PyData.int)
  | [] => .nil
  | _ :: r => .cons (.int _) (DTs.of_ints r)
/-- a fraction -/
theorem DT.fr_inv {v : V} {q : Int × Int} (h : DT K H v (frD q)) : ∃ p, v = .ref p ∧ Tp H p [.int q.1, .int q.2] := by
  obtain ⟨a, x, y, rfl, h1, h2, h3⟩ := h.inv2
  rw [h2.int_inv, h3.int_inv] at h1
  exact ⟨a, rfl, h1⟩
theorem DT.fr {p : Addr} {q : Int × Int} (h : Tp H p [.int q.1, .int q.2]) : DT K H (.ref p) (frD q) := .mk2 h (.int _) (.int _)
/-- a path -/
def pathD (p : List Int) : PyData := .tuple (p.map PyData.int)
theorem DT.path_inv {v : V} {p : List Int} (h : DT K H v (pathD p)) : ∃ a, v = .ref a ∧ Tp H a (p.map V.int) := by
  obtain ⟨a, xs, rfl, h1, h2⟩ := h.inv
  rw [h2.ints] at h1
  exact ⟨a, rfl, h1⟩
theorem DT.path {a : Addr} {p : List Int} (h : Tp H a (p.map V.int)) : DT K H (.ref a) (pathD p) := .tup h (.of_ints p)
end
/-! ### trees -/
abbrev Pr := (Int × Int) × (Int × Int)
inductive Node where
  | mk (ps : List Pr) (ks : List Node)
def Node.ps : Node → List Pr
  | .mk ps _ => ps
def Node.ks : Node → List Node
  | .mk _ ks => ks
def prD (p : Pr) : PyData := .tuple [frD p.1, frD p.2]
def pricesD (ps : List Pr) : PyData := .tuple (ps.map prD)
mutual
def nodeD : Node → PyData
  | .mk ps ks => .tuple [pricesD ps, .tuple (nodesD ks)]
def nodesD : List Node → List PyData
  | [] => []
  | n :: r => nodeD n :: nodesD r
end
theorem nodesD_map : ∀ ks : List Node, nodesD ks = ks.map nodeD
  | [] => rfl
  | n :: r => by rw [nodesD, nodesD_map r]; rfl
theorem nodeD_eq (n : Node) : nodeD n = .tuple [pricesD n.ps, .tuple (n.ks.map nodeD)] := by
  cases n
  rw [nodeD, nodesD_map]
  rfl
abbrev PN := List Int × Node
def entD (e : PN) : PyData := .tuple [pathD e.1, nodeD e.2]
def kidsOf (e : PN) : List PN := e.2.ks.mapIdx fun i k => (e.1 ++ [(i : Int)], k)
mutual
def pre (p : List Int) : Node → List PN
  | .mk ps ks => (p, .mk ps ks) :: pres p 0 ks
def pres (p : List Int) (i : Nat) : List Node → List PN
  | [] => []
  | n :: r => pre (p ++ [(i : Int)]) n ++ pres p (i + 1) r
end
def preE (e : PN) : List PN := pre e.1 e.2
theorem pres_eq (p : List Int) : ∀ (ks : List Node) (i : Nat), pres p i ks = (ks.mapIdx fun j k => (p ++ [((i + j : Nat) : Int)], k)).flatMap preE
  | [], i => rfl
  | n :: r, i => by
    rw [pres, List.mapIdx_cons, List.flatMap_cons, pres_eq p r (i + 1)]
    have e : ∀ j : Nat, i + 1 + j = i + (j + 1) := fun j => by omega
    simp only [Nat.add_zero, e]
    rfl
theorem preE_eq (e : PN) : preE e = e :: (kidsOf e).flatMap preE := by
  obtain ⟨p, n⟩ := e
  cases n with
  | mk ps ks =>
    show pre p (.mk ps ks) = _
    rw [pre, pres_eq]
    simp only [Nat.zero_add]
    rfl
theorem le_sum {x : Nat} : ∀ {l : List Nat}, x ∈ l → x ≤ l.sum
  | [], h => by cases h
  | y :: l, h => by
    rw [List.sum_cons]
    rcases List.mem_cons.mp h with rfl | h
    · omega
    · have := le_sum h
      omega
/-- paths behind p -/
theorem pre_ext : ∀ (n : Nat) (e x : PN), (preE e).length ≤ n → x ∈ preE e → ∃ r, x.1 = e.1 ++ r
  | 0, e, x, hl, hx => by
    rw [preE_eq] at hl
    simp at hl
  | n + 1, e, x, hl, hx => by
    rw [preE_eq] at hl hx
    rcases List.mem_cons.mp hx with rfl | hx
    · exact ⟨[], by simp⟩
    · obtain ⟨k, hk, hxk⟩ := List.mem_flatMap.mp hx
      have hlen : (preE k).length ≤ n := by
        have h1 : (preE k).length ≤ ((kidsOf e).flatMap preE).length := by
          rw [List.length_flatMap]
          exact le_sum (List.mem_map.mpr ⟨k, hk, rfl⟩)
        rw [List.length_cons] at hl
        omega
      obtain ⟨r, hr⟩ := pre_ext n k x hlen hxk
      obtain ⟨i, hi, rfl⟩ := List.mem_mapIdx.mp hk
      exact ⟨(i : Int) :: r, by rw [hr]; simp⟩
theorem pre_len : ∀ (n : Nat) (e x : PN), (preE e).length ≤ n → x ∈ preE e → x.1.length < e.1.length + (preE e).length
  | 0, e, x, hl, hx => by
    rw [preE_eq] at hl
    simp at hl
  | n + 1, e, x, hl, hx => by
    rw [preE_eq] at hl hx
    rcases List.mem_cons.mp hx with rfl | hx
    · have : 0 < (preE x).length := by rw [preE_eq]; simp
      omega
    · obtain ⟨k, hk, hxk⟩ := List.mem_flatMap.mp hx
      have h1 : (preE k).length ≤ ((kidsOf e).flatMap preE).length := by
        rw [List.length_flatMap]
        exact le_sum (List.mem_map.mpr ⟨k, hk, rfl⟩)
      rw [List.length_cons] at hl
      have h2 := pre_len n k x (by omega) hxk
      obtain ⟨i, hi, rfl⟩ := List.mem_mapIdx.mp hk
      have h3 : (preE e).length = 1 + ((kidsOf e).flatMap preE).length := by rw [preE_eq]; simp; omega
      simp only [List.length_append, List.length_singleton] at h2
      omega
section
variable {X : Cx}
theorem OpR.imp {f : Value → Value → Sem Value} {r r' : R2} (h : OpR X f r) (hi : ∀ x y H Q, r' x y H Q → r x y H Q) : OpR X f r' := fun pins s σ H x y v u Q I rx ry q => h pins s σ H x y v u Q I rx ry (hi _ _ _ _ q)
def rCatP (K : PySem.W.Frag) : R2 := fun x y H Q => ∃ a b xs ys, x = .ref a ∧ y = .ref b ∧ Tp H a xs ∧ Tp H b ys ∧ xs.length + ys.length ≤ sizeLine ∧ ∀ p H', Same H H' → Tp H' p (xs ++ ys) → Q (.ref p) H'
theorem op_catP : OpR X (binaryOp .Add) (rCatP X.K) := OpR.imp op_catA fun x y H Q ⟨a, b, xs, ys, ex, ey, ha, hb, hl, q⟩ => ⟨a, b, xs, ys, ex, ey, ha, hb, hl,
  fun e => q b H (Same.refl H) (by rw [e]; exact hb), fun _ e => q a H (Same.refl H) (by rw [e, List.append_nil]; exact ha), fun _ _ p hp => q p _ (same_new hp) (Tp.of upd_same)⟩
theorem SlR.imp {r r' : V → Option Int → Option Int → Hp → VK → Prop} (h : SlR X r) (hi : ∀ x lo u H Q, r' x lo u H Q → r x lo u H Q) : SlR X r' := fun pins s σ H x v vl vu lo u sl Q I rx hs pl pu q => h pins s σ H x v vl vu lo u sl Q I rx hs pl pu (hi _ _ _ _ _ q)
def rSlP (K : PySem.W.Frag) : V → Option Int → Option Int → Hp → VK → Prop := fun x lo u H Q => ∃ a xs, x = .ref a ∧ Tp H a xs ∧ ∀ p H', Same H H' → Tp H' p (cutV xs lo u) → Q (.ref p) H'
theorem cut_whole {xs : List V} {lo u : Option Int} (h : HT.sIx xs.length 0 lo = 0 ∧ HT.sIx xs.length xs.length u = xs.length) : cutV xs lo u = xs := by
  unfold cutV
  rw [h.1, h.2]
  simp
theorem sl_tupP : SlR X (rSlP X.K) := SlR.imp sl_tupA fun x lo u H Q ⟨a, xs, e, ha, q⟩ => ⟨a, xs, e, ha, fun h => q a H (Same.refl H) (by rw [cut_whole h]; exact ha), fun _ p hp => q p _ (same_new hp) (Tp.of upd_same)⟩
end
def tTruK (K : PySem.W.Frag) (ta : TE) : TT := fun σ H Q => ta σ H fun x H' => ∃ k, TruV K x H' k ∧ Q k H'
theorem same_mut {H H' : Hp} {p : Addr} {o : HO} (e : Same H H') (h : H p = none) : Same H (upd H' p o) := fun a u ha => by
  rw [upd_ne (ne_of_none ha h)]
  exact e a u ha
def cmpF (p q : Int × Int) : Int := if p.1 * q.2 < q.1 * p.2 then -1 else if q.1 * p.2 < p.1 * q.2 then 1 else 0
def FB (p : Int × Int) : Prop := Bd 4000 p.1 ∧ Bd 4000 p.2
theorem FB.of {k : Nat} {p : Int × Int} (h : Ok k p) (hk : k ≤ 4000) : FB p := ⟨h.b1.mono hk, h.b2.mono hk⟩
theorem fb_zero : FB (0, 1) := FB.of ok_zero (by decide)
theorem mulF3 {i j : Int} (ha : Bd 4000 i) (hb : Bd 4000 j) : CMulW i j := mulX ha hb
def PrK (k : Nat) (p : Pr) : Prop := Ok k p.1 ∧ Ok k p.2
theorem PrK.mono {k m : Nat} {p : Pr} (h : PrK k p) (e : k ≤ m) : PrK m p := ⟨h.1.mono e, h.2.mono e⟩
abbrev PrB (p : Pr) : Prop := PrK 3400 p
def badPr (p : Pr) : Prop := cmpF p.2 (0, 1) < 0 ∨ cmpF p.1 p.2 < 0
def badPs (g : Int) (ps : List Pr) : Prop := (ps.length : Int) ≠ g - 1 ∨ ∃ p ∈ ps, badPr p
def marketD (g : Int) (n : Node) : PyData := .tuple [.int g, nodeD n]
def NodeB (n : Node) : Prop := ∀ e ∈ pre [] n, ∀ p ∈ e.2.ps, PrB p
theorem len1000 {n : Nat} (h : n ≤ 1000) : n ≤ sizeLine := Nat.le_trans h (by decide)
theorem kids_get {e : PN} {i : Nat} {k : Node} (h : e.2.ks[i]? = some k) : (kidsOf e)[i]? = some (e.1 ++ [(i : Int)], k) := by
  unfold kidsOf
  rw [List.getElem?_mapIdx, h]
  rfl
theorem kids_len (e : PN) : (kidsOf e).length = e.2.ks.length := List.length_mapIdx
theorem preE_pos (e : PN) : 0 < (preE e).length := by
  rw [preE_eq]
  simp
theorem kids_le (e : PN) : (kidsOf e).length < (preE e).length := by
  rw [preE_eq, List.length_cons, List.length_flatMap]
  have : ∀ l : List PN, l.length ≤ (l.map fun a => (preE a).length).sum := by
    intro l
    induction l with
    | nil => simp
    | cons a l ih =>
      have := preE_pos a
      simp only [List.map_cons, List.sum_cons, List.length_cons]
      omega
  have := this (kidsOf e)
  omega
theorem DT.entD_inv {K : PySem.W.Frag} {H : Hp} {v : V} {e : PN} (h : DT K H v (entD e)) : ∃ a x y, v = .ref a ∧ Tp H a [x, y] ∧ DT K H x (pathD e.1) ∧ DT K H y (nodeD e.2) := h.inv2
theorem DT.node_inv {K : PySem.W.Frag} {H : Hp} {v : V} {n : Node} (h : DT K H v (nodeD n)) : ∃ a x y, v = .ref a ∧ Tp H a [x, y] ∧ DT K H x (pricesD n.ps) ∧ DT K H y (.tuple (n.ks.map nodeD)) := by
  rw [nodeD_eq] at h
  exact h.inv2
theorem DT.market_inv {K : PySem.W.Frag} {H : Hp} {v : V} {g : Int} {n : Node} (h : DT K H v (marketD g n)) : ∃ a y, v = .ref a ∧ Tp H a [.int g, y] ∧ DT K H y (nodeD n) := by
  obtain ⟨a, x, y, rfl, h1, h2, h3⟩ := h.inv2
  rw [h2.int_inv] at h1
  exact ⟨a, y, rfl, h1, h3⟩
theorem len_le_flat : ∀ l : List PN, l.length ≤ (l.flatMap preE).length
  | [] => by simp
  | a :: l => by
    have := preE_pos a
    have := len_le_flat l
    simp only [List.flatMap_cons, List.length_append, List.length_cons]
    omega
/-- the node at a path -/
def find : Node → List Int → Option Node
  | n, [] => some n
  | n, i :: r => if 0 ≤ i then (n.ks[i.toNat]?).bind fun k => find k r else none
theorem find_cons (n : Node) (i : Nat) (r : List Int) : find n ((i : Int) :: r) = (n.ks[i]?).bind fun k => find k r := by
  rw [find, if_pos (by omega)]
  rfl
theorem find_out {n : Node} {i : Int} {r : List Int} (h : ¬ (0 ≤ i ∧ i < (n.ks.length : Int))) : find n (i :: r) = none := by
  rw [find]
  by_cases h0 : 0 ≤ i
  · rw [if_pos h0, List.getElem?_eq_none (by omega)]
    rfl
  · rw [if_neg h0]
theorem pre_find : ∀ (n : Nat) (e x : PN), (preE e).length ≤ n → x ∈ preE e → ∃ r, x.1 = e.1 ++ r ∧ find e.2 r = some x.2
  | 0, e, x, hl, hx => by
    rw [preE_eq] at hl
    simp at hl
  | n + 1, e, x, hl, hx => by
    rw [preE_eq] at hl hx
    rcases List.mem_cons.mp hx with rfl | hx
    · exact ⟨[], by simp, rfl⟩
    · obtain ⟨k, hk, hxk⟩ := List.mem_flatMap.mp hx
      have h1 : (preE k).length ≤ ((kidsOf e).flatMap preE).length := by
        rw [List.length_flatMap]
        exact le_sum (List.mem_map.mpr ⟨k, hk, rfl⟩)
      rw [List.length_cons] at hl
      obtain ⟨r, hr, hf⟩ := pre_find n k x (by omega) hxk
      obtain ⟨i, hi, rfl⟩ := List.mem_mapIdx.mp hk
      refine ⟨(i : Int) :: r, by rw [hr]; simp, ?_⟩
      rw [find_cons, List.getElem?_eq_getElem hi]
      exact hf
/-- the times of the ends -/
def endLens (n : Node) : List Nat := ((pre [] n).filter fun e => e.2.ks.isEmpty).map fun e => e.1.length
theorem some_end : ∀ (n : Nat) (e : PN), (preE e).length ≤ n → ∃ x ∈ preE e, x.2.ks = []
  | 0, e, hl => by
    rw [preE_eq] at hl
    simp at hl
  | n + 1, e, hl => by
    cases hk : e.2.ks with
    | nil => exact ⟨e, by rw [preE_eq]; exact List.mem_cons_self .., hk⟩
    | cons k ks =>
      have h0 : (kidsOf e)[0]? = some (e.1 ++ [((0 : Nat) : Int)], k) := kids_get (by rw [hk]; rfl)
      have hm := List.mem_of_getElem? h0
      have h1 : (preE (e.1 ++ [((0 : Nat) : Int)], k)).length ≤ ((kidsOf e).flatMap preE).length := by
        rw [List.length_flatMap]
        exact le_sum (List.mem_map.mpr ⟨_, hm, rfl⟩)
      rw [preE_eq, List.length_cons] at hl
      obtain ⟨x, hx, hz⟩ := some_end n _ (Nat.le_trans h1 (by omega))
      refine ⟨x, ?_, hz⟩
      rw [preE_eq]
      exact List.mem_cons_of_mem _ (List.mem_flatMap.mpr ⟨_, hm, hx⟩)
theorem ends_pos (n : Node) : 0 < (endLens n).length := by
  obtain ⟨x, hx, hz⟩ := some_end _ ([], n) (Nat.le_refl _)
  unfold endLens
  rw [List.length_map]
  exact List.length_pos_of_mem (List.mem_filter.mpr ⟨hx, by rw [hz]; rfl⟩)
def BadM (g : Int) (n : Node) : Prop := ¬ (1 ≤ g ∧ g ≤ 4) ∨ (∃ e ∈ pre [] n, badPs g e.2.ps) ∨ ∃ a ∈ endLens n, ∃ b ∈ endLens n, a ≠ b
def BigM (n : Node) : Prop := 40 < (pre [] n).length ∨ ∃ a ∈ endLens n, 5 < a
theorem tru_tup {K : PySem.W.Frag} {H : Hp} {a : Addr} {xs : List V} (h : Tp H a xs) : TruV K (.ref a) H (!xs.isEmpty) := .inr (.inl ⟨xs, h, rfl⟩)
theorem tru_tup' {K : PySem.W.Frag} {H : Hp} {a : Addr} {xs : List V} {b : Bool} (h : Tp H a xs) (e : xs.isEmpty = b) : TruV K (.ref a) H (!b) := .inr (.inl ⟨xs, h, by rw [e]⟩)
theorem tru_lst {K : PySem.W.Frag} {H : Hp} {a : Addr} {xs : List V} (h : SqL K H a xs) : TruV K (.ref a) H (!xs.isEmpty) := .inl ⟨xs, h, rfl⟩
theorem filter_next {α : Type} {l : List α} {i : Nat} {x : α} {p : α → Bool} (h : l[i]? = some x) : (l.take (i + 1)).filter p = (l.take i).filter p ++ (if p x then [x] else []) := by
  rw [take_next h, List.filter_append]
  congr 1
  by_cases hp : p x
  · simp [hp]
  · simp [hp]
theorem find_preE : ∀ (r : List Int) (e : PN) (m : Node), find e.2 r = some m → (e.1 ++ r, m) ∈ preE e
  | [], e, m, h => by
    have : e.2 = m := Option.some.inj h
    rw [preE_eq, List.append_nil, ← this]
    exact List.mem_cons_self ..
  | i :: r, e, m, h => by
    by_cases hi : 0 ≤ i ∧ i < (e.2.ks.length : Int)
    · obtain ⟨j, rfl⟩ := Int.eq_ofNat_of_zero_le hi.1
      have hk : e.2.ks[j]? = some e.2.ks[j] := List.getElem?_eq_getElem (by omega)
      rw [find_cons, hk] at h
      have ih := find_preE r (e.1 ++ [(j : Int)], e.2.ks[j]) m h
      rw [preE_eq]
      refine List.mem_cons_of_mem _ (List.mem_flatMap.mpr ⟨_, List.mem_of_getElem? (kids_get hk), ?_⟩)
      simpa using ih
    · rw [find_out hi] at h
      cases h
theorem find_pre (n : Node) (p : List Int) (m : Node) (h : find n p = some m) : ∃ e ∈ pre [] n, e.2 = m := ⟨_, find_preE p ([], n) m h, rfl⟩
/-! ### drawn markets -/
def leF (p q : Int × Int) : Prop := p.1 * q.2 ≤ q.1 * p.2
theorem frac_nonneg {a b : Int} (ha : 0 ≤ a) (hb : 0 < b) : 0 ≤ (frac a b).1 := by
  have c := frac_cross (a := a) (show b ≠ 0 by omega)
  have l := (frac_low (a := a) (show b ≠ 0 by omega)).pos
  by_cases h : 0 ≤ (frac a b).1
  · exact h
  · have h1 := Int.mul_neg_of_neg_of_pos (show (frac a b).1 < 0 by omega) hb
    have h2 := Int.mul_nonneg ha (Int.le_of_lt l)
    omega
theorem frac_le {a b c : Int} (hb : 0 < b) (h : a ≤ c) : leF (frac a b) (frac c b) := by
  have h1 := frac_cross (a := a) (show b ≠ 0 by omega)
  have h2 := frac_cross (a := c) (show b ≠ 0 by omega)
  have l1 := (frac_low (a := a) (show b ≠ 0 by omega)).pos
  have l2 := (frac_low (a := c) (show b ≠ 0 by omega)).pos
  unfold leF
  generalize frac a b = x at *
  generalize frac c b = y at *
  have e1 : x.1 * y.2 * b = a * (x.2 * y.2) := by
    rw [Int.mul_assoc, Int.mul_comm y.2 b, ← Int.mul_assoc, h1, Int.mul_assoc]
  have e2 : y.1 * x.2 * b = c * (x.2 * y.2) := by
    rw [Int.mul_assoc, Int.mul_comm x.2 b, ← Int.mul_assoc, h2, Int.mul_assoc, Int.mul_comm y.2 x.2]
  have h3 : x.1 * y.2 * b ≤ y.1 * x.2 * b := by
    rw [e1, e2]
    exact Int.mul_le_mul_of_nonneg_right h (Int.le_of_lt (Int.mul_pos l1 l2))
  exact Int.le_of_mul_le_mul_right h3 hb
theorem cmp_le {p q : Int × Int} (h : leF q p) : ¬ cmpF p q < 0 := by
  unfold leF at h
  unfold cmpF
  rw [if_neg (by omega)]
  split <;> omega
theorem cmp_zero {p : Int × Int} (h : 0 ≤ p.1) : ¬ cmpF p (0, 1) < 0 := cmp_le (by
  unfold leF
  simp
  exact h)
theorem good_pair {m s : Int × Int} (hm : 0 ≤ m.1) (pm : 0 < m.2) (hs : 0 ≤ s.1) (ps : 0 < s.2) (low : Int × Int) (hl : low = subF m s ∧ 0 ≤ low.1 ∨ low = (0, 1)) : ¬ badPr (addF m s, low) := by
  have den := Int.mul_pos pm ps
  rintro (h | h)
  · rcases hl with ⟨rfl, h0⟩ | rfl
    · exact cmp_zero h0 h
    · exact cmp_zero (p := (0, 1)) (by decide) h
  · have h1 : 0 ≤ m.1 * s.2 := Int.mul_nonneg hm (Int.le_of_lt ps)
    have h2 : 0 ≤ s.1 * m.2 := Int.mul_nonneg hs (Int.le_of_lt pm)
    rcases hl with ⟨rfl, h0⟩ | rfl
    · exact cmp_le (frac_le den (by omega)) h
    · exact cmp_zero (frac_nonneg (by omega) den) h
structure PsOk (g : Int) (ps : List Pr) : Prop where
  len : (ps.length : Int) = g - 1
  good : ∀ p ∈ ps, ¬ badPr p
  b : ∀ p ∈ ps, PrK 201 p
theorem PsOk.bad {g : Int} {ps : List Pr} (h : PsOk g ps) : ¬ badPs g ps := by
  rintro (z | ⟨p, hp, z⟩)
  · exact z h.len
  · exact h.good p hp z
def NV (g : Int) : Nat → Node → Prop
  | 0, n => PsOk g n.ps ∧ n.ks = []
  | m + 1, n => PsOk g n.ps ∧ 0 < n.ks.length ∧ n.ks.length ≤ 3 ∧ ∀ k ∈ n.ks, NV g m k
def cnt : Nat → Nat
  | 0 => 1
  | m + 1 => 1 + 3 * cnt m
theorem NV.ps {g : Int} : ∀ {m : Nat} {n : Node}, NV g m n → PsOk g n.ps
  | 0, _, h => h.1
  | _ + 1, _, h => h.1
theorem nv_pre {g : Int} : ∀ (m : Nat) (e : PN), NV g m e.2 → (∀ x ∈ preE e, PsOk g x.2.ps ∧ x.2.ks.length ≤ 3 ∧ x.1.length ≤ e.1.length + m ∧ (x.2.ks = [] → x.1.length = e.1.length + m)) ∧ (preE e).length ≤ cnt m
  | 0, e, h => by
    have hk : kidsOf e = [] := by
      unfold kidsOf
      rw [h.2]
      rfl
    rw [preE_eq, hk]
    refine ⟨fun x hx => ?_, by simp [cnt]⟩
    simp at hx
    subst hx
    exact ⟨h.1, by rw [h.2]; simp, by simp, fun _ => rfl⟩
  | m + 1, e, h => by
    obtain ⟨h1, h2, h3, h4⟩ := h
    have ih : ∀ k ∈ kidsOf e, (∀ x ∈ preE k, PsOk g x.2.ps ∧ x.2.ks.length ≤ 3 ∧ x.1.length ≤ e.1.length + (m + 1) ∧ (x.2.ks = [] → x.1.length = e.1.length + (m + 1))) ∧ (preE k).length ≤ cnt m := by
      intro k hk
      obtain ⟨i, hi, rfl⟩ := List.mem_mapIdx.mp hk
      obtain ⟨a, b⟩ := nv_pre m (e.1 ++ [(i : Int)], e.2.ks[i]) (h4 _ (List.getElem_mem hi))
      refine ⟨fun x hx => ?_, b⟩
      obtain ⟨q1, q2, q3, q4⟩ := a x hx
      simp only [List.length_append, List.length_singleton] at q3 q4
      exact ⟨q1, q2, by omega, fun z => by have := q4 z; omega⟩
    rw [preE_eq]
    refine ⟨fun x hx => ?_, ?_⟩
    · rcases List.mem_cons.mp hx with rfl | hx
      · exact ⟨h1, h3, by omega, fun z => by rw [z] at h2; simp at h2⟩
      · obtain ⟨k, hk, hx⟩ := List.mem_flatMap.mp hx
        exact (ih k hk).1 x hx
    · have : ∀ l : List PN, (∀ k ∈ l, (preE k).length ≤ cnt m) → (l.flatMap preE).length ≤ l.length * cnt m := by
        intro l
        induction l with
        | nil => simp
        | cons a l ih =>
          intro hl
          have a1 := hl a (by simp)
          have a2 := ih fun k hk => hl k (by simp [hk])
          simp only [List.flatMap_cons, List.length_append, List.length_cons, Nat.add_mul]
          omega
      have q := this (kidsOf e) fun k hk => (ih k hk).2
      rw [kids_len] at q
      have q2 := Nat.mul_le_mul_right (cnt m) h3
      simp only [List.length_cons, cnt]
      omega
theorem nv_good {g : Int} {m : Nat} {n : Node} (h : NV g m n) (hm : m ≤ 2) (h1 : 1 ≤ g) (h4 : g ≤ 4) : (¬ BadM g n ∧ ¬ BigM n) ∧ NodeB n ∧ (pre [] n).length ≤ 13 := by
  obtain ⟨a, b⟩ := nv_pre m ([], n) h
  have c13 : cnt m ≤ 13 := by
    match m, hm with
    | 0, _ => decide
    | 1, _ => decide
    | 2, _ => decide
  have lens : ∀ x ∈ endLens n, x = m := by
    intro x hx
    obtain ⟨e, he, rfl⟩ := List.mem_map.mp hx
    obtain ⟨he1, he2⟩ := List.mem_filter.mp he
    have := (a e he1).2.2.2 (List.isEmpty_iff.mp he2)
    simpa using this
  refine ⟨⟨?_, ?_⟩, fun e he p hp => ((a e he).1.b p hp).mono (by decide), Nat.le_trans b c13⟩
  · rintro (z | ⟨e, he, z⟩ | ⟨x, hx, y, hy, z⟩)
    · exact z ⟨h1, h4⟩
    · exact (a e he).1.bad z
    · exact z ((lens x hx).trans (lens y hy).symm)
  · rintro (z | ⟨x, hx, z⟩)
    · have : (pre [] n).length ≤ 13 := Nat.le_trans b c13
      omega
    · have := lens x hx
      omega
def kb : Nat → Nat
  | 0 => 4
  | m + 1 => 3 * kb m + 14
theorem xt_mut {H H' : Hp} {d p : Addr} {o : HO} (e : Xt d H H') (h : H p = none) : Xt d H (upd H' p o) := fun a u na ha => by
  rw [upd_ne (ne_of_none ha h)]
  exact e a u na ha
theorem xt_free {H H' : Hp} {d p : Addr} (e : Xt d H H') (hd : p ≠ d) (h : H' p = none) : H p = none := by
  cases q : H p with
  | none => rfl
  | some o =>
    rw [e p o hd q] at h
    cases h
/-- a drawn node with its mids -/
def ChildP (K : PySem.W.Frag) (ex : List Addr) (H : Hp) (v : V) (c : Node × List (Int × Int)) : Prop := ∃ a vn pm xs, v = .ref a ∧ Tp H a [vn, .ref pm] ∧ DT K H vn (nodeD c.1) ∧ H pm = some (.lst xs) ∧ DTs K H xs (c.2.map frD) ∧ ∀ x ∈ ex, pm ≠ x
theorem ChildP.xt {K : PySem.W.Frag} {ex : List Addr} {H H' : Hp} {v : V} {c : Node × List (Int × Int)} {p : Addr} (h : ChildP K ex H v c) (hp : p ∈ ex) (g : IsL H p) (s : Xt p H H') : ChildP K ex H' v c := by
  obtain ⟨a, vn, pm, xs, rfl, h1, h2, h3, h4, h5⟩ := h
  exact ⟨a, vn, pm, xs, rfl, tp_xt g s h1, h2.xt g s, s _ _ (h5 p hp) h3, h4.xt g s, h5⟩
theorem Dst.isL {H : Hp} {pd ps : Addr} (h : Dst H pd ps) : IsL H pd := h.lst
def All2 {β : Type} (P : V → β → Prop) (xs : List V) (cs : List β) : Prop := xs.length = cs.length ∧ ∀ (i : Nat) (x : V), xs[i]? = some x → ∃ c, cs[i]? = some c ∧ P x c
theorem All2.nil {β : Type} {P : V → β → Prop} : All2 P [] [] := ⟨rfl, fun i x e => by simp at e⟩
theorem All2.imp {β : Type} {P Q : V → β → Prop} {xs : List V} {cs : List β} (h : All2 P xs cs) (f : ∀ x c, P x c → Q x c) : All2 Q xs cs := ⟨h.1, fun i x e => by
  obtain ⟨c, h1, h2⟩ := h.2 i x e
  exact ⟨c, h1, f _ _ h2⟩⟩
theorem All2.snoc {β : Type} {P : V → β → Prop} {xs : List V} {cs : List β} {v : V} {q : β} (h : All2 P xs cs) (g : P v q) : All2 P (xs ++ [v]) (cs ++ [q]) := by
  refine ⟨by simp [h.1], fun i x e => ?_⟩
  by_cases hi : i < xs.length
  · rw [List.getElem?_append_left hi] at e
    obtain ⟨z, h1, h2⟩ := h.2 i x e
    exact ⟨z, by rw [List.getElem?_append_left (by rw [← h.1]; exact hi)]; exact h1, h2⟩
  · have hl := (List.getElem?_eq_some_iff.mp e).1
    rw [List.length_append, List.length_singleton] at hl
    have ei : i = xs.length := by omega
    subst ei
    rw [List.getElem?_concat_length] at e
    cases e
    exact ⟨q, by rw [h.1, List.getElem?_concat_length], g⟩
theorem All2.at_ {β : Type} {P : V → β → Prop} {xs : List V} {cs : List β} {i : Nat} {c : β} (h : All2 P xs cs) (e : cs[i]? = some c) : ∃ x, xs[i]? = some x ∧ P x c := by
  have il := (List.getElem?_eq_some_iff.mp e).1
  obtain ⟨c', h1, h2⟩ := h.2 i _ (List.getElem?_eq_getElem (by rw [h.1]; exact il))
  rw [e] at h1
  cases h1
  exact ⟨_, List.getElem?_eq_getElem (by rw [h.1]; exact il), h2⟩
/-! ### sorted paths -/
section
variable {X : Cx}
def rSortQ (K : PySem.W.Frag) : List V → Hp → VK → Prop := fun vs H Q => ∃ (a : Addr) (xs : List V) (ps : List (List Int)), vs = [V.ref a] ∧ SqL K H a xs ∧ DTs K H xs (ps.map pathD) ∧ (∀ p, ps[0]? = some p → p = []) ∧
  ∀ (ys : List V) (k : V → List Int) (p : Addr), ys.Perm xs → xs.map k = ps → SrtO.Srtd (ltK k) ys → H p = none → Q (.ref p) (upd H p (.lst ys))
theorem map_int_inj : ∀ {a b : List Int}, a.map V.int = b.map V.int → a = b
  | [], [], _ => rfl
  | [], _ :: _, h => by cases h
  | _ :: _, [], h => by cases h
  | x :: a, y :: b, h => by
    simp only [List.map_cons, List.cons.injEq, V.int.injEq] at h
    rw [h.1, map_int_inj h.2]
open Classical in
theorem cr_sortQ (hr : Room 2 X.A) : CallR X (.builtin "sorted") (rSortQ X.K) := by
  intro pins s σ H vs us Q I r h
  obtain ⟨a, xs, ps, rfl, hs, hd, h0, q⟩ := h
  let k : V → List Int := fun x => if h : ∃ p : List Int, ∃ t, x = V.ref t ∧ Tp H t (p.map V.int) then h.choose else []
  have lx : xs.length = ps.length := by rw [hd.len, List.length_map]
  have key : ∀ (i : Nat) (x : V), xs[i]? = some x → ∃ t, x = V.ref t ∧ Tp H t ((k x).map V.int) ∧ ps[i]? = some (k x) := by
    intro i x hx
    obtain ⟨d, hd1, hd2⟩ := hd.get hx
    rw [List.getElem?_map] at hd1
    obtain ⟨p, hp, rfl⟩ := Option.map_eq_some_iff.mp hd1
    obtain ⟨t, rfl, ht⟩ := hd2.path_inv
    have ex : ∃ p : List Int, ∃ t', V.ref t = V.ref t' ∧ Tp H t' (p.map V.int) := ⟨p, t, rfl, ht⟩
    have ek : k (V.ref t) = ex.choose := dif_pos ex
    obtain ⟨t', e', ht'⟩ := ex.choose_spec
    cases e'
    rw [← ek] at ht'
    have := map_int_inj (I.tuple_inj ht'.sq ht.sq)
    exact ⟨t, rfl, ht', by rw [this]; exact hp⟩
  refine cr_sortP hr pins s σ H _ us Q I r ⟨a, xs, k, rfl, hs, fun x hx => ?_, fun x hx => ?_, fun ys p hp hq hf => q ys k p hp ?_ hq hf⟩
  · obtain ⟨i, hi, rfl⟩ := List.mem_iff_getElem.mp hx
    obtain ⟨t, e, ht, _⟩ := key i _ (List.getElem?_eq_getElem hi)
    exact ⟨t, e, ht⟩
  · obtain ⟨t, e, ht, hp⟩ := key 0 x hx
    exact h0 _ hp
  · refine List.ext_getElem? fun i => ?_
    rw [List.getElem?_map]
    cases hx : xs[i]? with
    | none =>
      rw [List.getElem?_eq_none_iff] at hx
      rw [List.getElem?_eq_none (by omega)]
      rfl
    | some x =>
      obtain ⟨t, e, ht, hp⟩ := key i x hx
      rw [hp]
      rfl
end
theorem lex_pre (p a b : List Int) : HT.lexLt (p ++ a) (p ++ b) = HT.lexLt a b := by
  induction p with
  | nil => rfl
  | cons x p ih =>
    rw [List.cons_append, List.cons_append, HT.lexLt_cons, if_pos rfl]
    exact ih
theorem lex_anti : ∀ a b : List Int, HT.lexLt a b = false → HT.lexLt b a = false → a = b
  | [], [], _, _ => rfl
  | [], _ :: _, h, _ => by simp [HT.lexLt] at h
  | _ :: _, [], _, h => by simp [HT.lexLt] at h
  | x :: a, y :: b, h1, h2 => by
    rw [HT.lexLt_cons] at h1 h2
    by_cases e : x = y
    · rw [if_pos e] at h1
      rw [if_pos e.symm] at h2
      rw [e, lex_anti a b h1 h2]
    · rw [if_neg e] at h1
      rw [if_neg (Ne.symm e)] at h2
      have q1 := of_decide_eq_false h1
      have q2 := of_decide_eq_false h2
      exact absurd (show x = y by omega) e
theorem uniq_srt : ∀ {l m : List (List Int)}, l.Perm m → (l.Pairwise fun a b => HT.lexLt b a = false) → (m.Pairwise fun a b => HT.lexLt b a = false) → l = m
  | [], m, h, _, _ => (List.Perm.nil_eq h)
  | x :: l, [], h, _, _ => absurd h.length_eq (by simp)
  | x :: l, y :: m, h, h1, h2 => by
    have e : x = y := by
      rcases List.mem_cons.mp (h.mem_iff.mp (List.mem_cons_self (a := x) (l := l))) with e | hx
      · exact e
      · rcases List.mem_cons.mp (h.mem_iff.mpr (List.mem_cons_self (a := y) (l := m))) with e | hy
        · exact e.symm
        · exact lex_anti x y ((List.pairwise_cons.mp h2).1 x hx) ((List.pairwise_cons.mp h1).1 y hy)
    subst e
    rw [uniq_srt h.cons_inv (List.pairwise_cons.mp h1).2 (List.pairwise_cons.mp h2).2]
theorem pre_sorted : ∀ (n : Nat) (e : PN), (preE e).length ≤ n → (preE e).Pairwise fun a b => HT.lexLt a.1 b.1 = true
  | 0, e, h => by
    rw [preE_eq] at h
    simp at h
  | n + 1, e, h => by
    have hk : ∀ k ∈ kidsOf e, (preE k).length ≤ n := by
      intro k hk
      have h1 : (preE k).length ≤ ((kidsOf e).flatMap preE).length := by
        rw [List.length_flatMap]
        exact le_sum (List.mem_map.mpr ⟨_, hk, rfl⟩)
      rw [preE_eq, List.length_cons] at h
      omega
    rw [preE_eq]
    refine List.pairwise_cons.mpr ⟨fun x hx => ?_, List.pairwise_flatMap.mpr ⟨fun k hk' => pre_sorted n k (hk k hk'), ?_⟩⟩
    · obtain ⟨k, hk', hx⟩ := List.mem_flatMap.mp hx
      obtain ⟨r, hr⟩ := pre_ext n k x (hk k hk') hx
      obtain ⟨i, hi, rfl⟩ := List.mem_mapIdx.mp hk'
      rw [hr, List.append_assoc]
      have := lex_pre e.1 [] ([(i : Int)] ++ r)
      rw [List.append_nil] at this
      rw [this]
      rfl
    · rw [List.pairwise_iff_getElem]
      intro i j hi hj hij x hx y hy
      have ei : (kidsOf e)[i] = (e.1 ++ [(i : Int)], e.2.ks[i]'(by rw [kids_len] at hi; exact hi)) := Option.some.inj ((List.getElem?_eq_getElem hi).symm.trans (kids_get (List.getElem?_eq_getElem _)))
      have ej : (kidsOf e)[j] = (e.1 ++ [(j : Int)], e.2.ks[j]'(by rw [kids_len] at hj; exact hj)) := Option.some.inj ((List.getElem?_eq_getElem hj).symm.trans (kids_get (List.getElem?_eq_getElem _)))
      obtain ⟨r, hr⟩ := pre_ext n _ x (hk _ (List.getElem_mem hi)) hx
      obtain ⟨q, hq⟩ := pre_ext n _ y (hk _ (List.getElem_mem hj)) hy
      rw [ei] at hr
      rw [ej] at hq
      rw [hr, hq, List.append_assoc, List.append_assoc, lex_pre]
      show HT.lexLt ((i : Int) :: r) ((j : Int) :: q) = true
      rw [HT.lexLt_cons, if_neg (by omega)]
      exact decide_eq_true (by omega)
theorem flat_perm : ∀ F : List PN, (F.flatMap preE).Perm (F ++ (F.flatMap kidsOf).flatMap preE)
  | [] => by simp
  | e :: F => by
    have ih := flat_perm F
    rw [List.flatMap_cons, preE_eq, List.flatMap_cons, List.flatMap_append, List.cons_append, List.cons_append]
    refine List.Perm.cons e ?_
    refine (List.Perm.append_left _ ih).trans ?_
    rw [← List.append_assoc, ← List.append_assoc]
    exact List.Perm.append_right _ List.perm_append_comm
def lv (n : Node) : Nat → List PN
  | 0 => [([], n)]
  | t + 1 => (lv n t).flatMap kidsOf
def rowsN (n : Node) : Nat → List PN
  | 0 => []
  | t + 1 => rowsN n t ++ lv n t
theorem rows_perm (n : Node) : ∀ t, (pre [] n).Perm (rowsN n t ++ (lv n t).flatMap preE)
  | 0 => by
    show (pre [] n).Perm ([] ++ [([], n)].flatMap preE)
    simp [preE]
  | t + 1 => by
    refine (rows_perm n t).trans ?_
    show (rowsN n t ++ (lv n t).flatMap preE).Perm (rowsN n t ++ lv n t ++ ((lv n t).flatMap kidsOf).flatMap preE)
    rw [List.append_assoc]
    exact List.Perm.append_left _ (flat_perm (lv n t))
theorem lv_len (n : Node) : ∀ t, ∀ x ∈ lv n t, x.1.length = t
  | 0, x, h => by
    rw [List.mem_singleton.mp h]
    rfl
  | t + 1, x, h => by
    obtain ⟨y, hy, hx⟩ := List.mem_flatMap.mp h
    obtain ⟨i, hi, rfl⟩ := List.mem_mapIdx.mp hx
    simp [lv_len n t y hy]
theorem lv_mem (n : Node) (t : Nat) (x : PN) (h : x ∈ lv n t) : x ∈ pre [] n := by
  refine (rows_perm n (t + 1)).mem_iff.mpr (List.mem_append_left _ (List.mem_append_right _ h))
theorem rows_all {n : Node} (h : ∀ x ∈ pre [] n, x.1.length ≤ 6) : (pre [] n).Perm (rowsN n 7) := by
  have e : lv n 7 = [] := by
    cases q : lv n 7 with
    | nil => rfl
    | cons x l =>
      have hm : x ∈ lv n 7 := by rw [q]; exact List.mem_cons_self ..
      have h1 := lv_len n 7 x hm
      have h2 := h x (lv_mem n 7 x hm)
      omega
  have := rows_perm n 7
  rw [e] at this
  simpa using this
theorem paths_sorted (n : Node) : ((pre [] n).map (·.1)).Pairwise fun a b => HT.lexLt b a = false := by
  rw [List.pairwise_map]
  exact (pre_sorted _ ([], n) (Nat.le_refl _)).imp fun h => lex_asym _ _ h
/-! ### isinstance of a caught error whose class is told by what was wished -/
section
variable {X : Cx}
def rIsX (K : PySem.W.Frag) (cls : Value) (a : Addr) : List V → Hp → VK → Prop := fun xs H Q => ∃ (c : V) (cv : Value) (b : Bool), xs = [.ref a, c] ∧ (∀ u, RelV c u → u = cv) ∧ PySem.W.kitOne K cls cv = some b ∧ Q (.bl b) H
theorem call_isX {a : Addr} {oe : Obj} {cls : Value} {d : Option Addr} {pn : List (Addr × Obj)} (z : ∃ D, cls = .ref D ∧ d = none ∧ ExcC X.K D) (hz : Zc cls d oe) (hf : ∃ vs, oe.data = .fields vs) : CallR (X.suite a ((a, oe) :: pn)) (.builtin "isinstance") (rIsX X.K cls a) := by
  obtain ⟨D, rfl, rfl, C⟩ := z
  exact call_isE C hz hf
end
theorem kit_ref {K : PySem.W.Frag} {D C : Addr} {b : Bool} (h : PySem.W.hasDictIn K C = true) (t : PySem.W.typeIn K (.ref C) = some (.type "type")) (s : PySem.W.subIn K (.ref D) (.ref C) = some b) (r : PySem.W.subIn K (.ref D) (.ref D) = some true) : PySem.W.kitOne K (.ref D) (.ref C) = some b := by
  unfold PySem.W.kitOne
  by_cases e : D = C
  · subst e
    rw [r] at s
    cases s
    simp
  · have e1 : (Value.ref D == Value.ref C) = false := by simp [e]
    rw [e1]
    obtain ⟨cd, hc, _⟩ := PySem.W.any_some h
    have e2 : ((PySem.W.clsIn K C).isSome && PySem.W.typeIn K (.ref C) == some (.type "type")) = true := by rw [hc, t] <;> rfl
    show (if false = true then some true else PySem.W.kitCls K (.ref D) (.ref C)) = some b
    rw [if_neg (by decide)]
    unfold PySem.W.kitCls
    simp only [e2, if_true]
    exact s
theorem rows_head (n : Node) : ∀ t, (rowsN n (t + 1))[0]? = some ([], n)
  | 0 => rfl
  | t + 1 => by
    show (rowsN n (t + 1) ++ lv n (t + 1))[0]? = _
    have h := rows_head n t
    have l := (List.getElem?_eq_some_iff.mp h).1
    rw [List.getElem?_append_left l]
    exact h
theorem rows_len (n : Node) (t : Nat) : (rowsN n t).length ≤ (pre [] n).length := by
  have := (rows_perm n t).length_eq
  rw [List.length_append] at this
  omega
theorem lv_le (n : Node) (t : Nat) : (lv n t).length ≤ (pre [] n).length := by
  have := rows_len n (t + 1)
  have e : (rowsN n (t + 1)).length = (rowsN n t).length + (lv n t).length := by
    show (rowsN n t ++ lv n t).length = _
    rw [List.length_append]
  omega
theorem kids_mem_le {n : Node} {e : PN} (h : e ∈ pre [] n) : e.2.ks.length < (pre [] n).length := by
  obtain ⟨r, _, hf⟩ := pre_find _ ([], n) e (Nat.le_refl _) h
  have h1 := kids_le e
  rw [kids_len] at h1
  have h2 : ∀ (k : Nat) (a x : PN), (preE a).length ≤ k → x ∈ preE a → (preE x).length ≤ (preE a).length := by
    intro k
    induction k with
    | zero =>
      intro a x hl
      rw [preE_eq] at hl
      simp at hl
    | succ k ih =>
      intro a x hl hx
      rw [preE_eq] at hx
      rcases List.mem_cons.mp hx with rfl | hx
      · exact Nat.le_refl _
      · obtain ⟨c, hc, hx⟩ := List.mem_flatMap.mp hx
        have h1 : (preE c).length ≤ ((kidsOf a).flatMap preE).length := by
          rw [List.length_flatMap]
          exact le_sum (List.mem_map.mpr ⟨_, hc, rfl⟩)
        have h3 : (preE a).length = 1 + ((kidsOf a).flatMap preE).length := by rw [preE_eq]; simp; omega
        have := ih c x (by omega) hx
        omega
  have := h2 _ ([], n) e (Nat.le_refl _) h
  have e3 : (preE ([], n)).length = (pre [] n).length := rfl
  omega
/-! ### nodes of bounded height all of whose prices are P -/
def HP (P : List Pr → Prop) : Nat → Node → Prop
  | 0, n => P n.ps ∧ n.ks = []
  | m + 1, n => P n.ps ∧ ∀ k ∈ n.ks, HP P m k
theorem HP.ps {P : List Pr → Prop} : ∀ {m : Nat} {n : Node}, HP P m n → P n.ps
  | 0, _, h => h.1
  | _ + 1, _, h => h.1
theorem HP.up {P Q : List Pr → Prop} (f : ∀ l, P l → Q l) : ∀ {m : Nat} {n : Node}, HP P m n → HP Q (m + 1) n
  | 0, _, h => ⟨f _ h.1, fun k hk => by rw [h.2] at hk; cases hk⟩
  | _ + 1, _, h => ⟨f _ h.1, fun k hk => HP.up f (h.2 k hk)⟩
theorem HP.pre {P : List Pr → Prop} : ∀ {m : Nat} {e : PN}, HP P m e.2 → ∀ x ∈ preE e, P x.2.ps ∧ x.1.length ≤ e.1.length + m
  | 0, e, h, x, hx => by
    have hk : kidsOf e = [] := by
      unfold kidsOf
      rw [h.2]
      rfl
    rw [preE_eq, hk] at hx
    simp at hx
    subst hx
    exact ⟨h.1, by omega⟩
  | m + 1, e, h, x, hx => by
    rw [preE_eq] at hx
    rcases List.mem_cons.mp hx with rfl | hx
    · exact ⟨h.1, by omega⟩
    · obtain ⟨k, hk, hx⟩ := List.mem_flatMap.mp hx
      obtain ⟨i, hi, rfl⟩ := List.mem_mapIdx.mp hk
      have := HP.pre (e := (e.1 ++ [(i : Int)], e.2.ks[i])) (h.2 _ (List.getElem_mem hi)) x hx
      simp only [List.length_append, List.length_singleton] at this
      exact ⟨this.1, by omega⟩
mutual
def nsz : Node → Nat
  | .mk _ ks => 1 + nszs ks
def nszs : List Node → Nat
  | [] => 0
  | k :: r => nsz k + nszs r
end
theorem nsz_eq (n : Node) : nsz n = 1 + nszs n.ks := by
  cases n
  rw [nsz]
  rfl
theorem nszs_app : ∀ a b : List Node, nszs (a ++ b) = nszs a + nszs b
  | [], b => by simp [nszs]
  | x :: a, b => by
    rw [List.cons_append, nszs, nszs, nszs_app a b]
    omega
mutual
theorem pre_nsz (p : List Int) : ∀ n : Node, (pre p n).length = nsz n
  | .mk ps ks => by
    rw [pre, nsz, List.length_cons, pres_nsz p 0 ks]
    omega
theorem pres_nsz (p : List Int) (i : Nat) : ∀ ks : List Node, (pres p i ks).length = nszs ks
  | [] => rfl
  | n :: r => by
    rw [pres, nszs, List.length_append, pre_nsz _ n, pres_nsz p (i + 1) r]
end
theorem nv_hp {g : Int} (h4 : g ≤ 4) : ∀ {m : Nat} {n : Node}, NV g m n → HP (fun l => (∀ p ∈ l, PrK 201 p) ∧ l.length ≤ 3) m n
  | 0, n, h => ⟨⟨h.1.b, by have := h.1.len; omega⟩, h.2⟩
  | m + 1, n, h => ⟨⟨h.1.b, by have := h.1.len; omega⟩, fun k hk => nv_hp h4 (h.2.2.2 k hk)⟩
theorem find_app : ∀ (p q : List Int) (n m : Node), find n p = some m → find n (p ++ q) = find m q
  | [], q, n, m, h => by
    cases h
    rfl
  | i :: p, q, n, m, h => by
    by_cases hi : 0 ≤ i ∧ i < (n.ks.length : Int)
    · obtain ⟨j, rfl⟩ := Int.eq_ofNat_of_zero_le hi.1
      have hk : n.ks[j]? = some n.ks[j] := List.getElem?_eq_getElem (by omega)
      rw [find_cons, hk] at h
      rw [List.cons_append, find_cons, hk]
      exact find_app p q _ m h
    · rw [find_out hi] at h
      cases h
theorem cut_drop (xs : List V) (k : Nat) : cutV xs (some (k : Int)) none = xs.drop k := by
  unfold cutV
  rw [HT.sIx_nat xs.length 0 k, HT.sIx_none]
  by_cases h : k ≤ xs.length
  · rw [Nat.min_eq_left h]
    exact List.take_of_length_le (by rw [List.length_drop]; omega)
  · rw [Nat.min_eq_right (by omega), List.drop_length, List.drop_eq_nil_of_le (by omega)]
    simp
theorem cut_take (xs : List V) (k : Nat) : cutV xs none (some (k : Int)) = xs.take k := by
  unfold cutV
  rw [HT.sIx_nat xs.length xs.length k, HT.sIx_none, List.drop_zero, Nat.sub_zero]
  by_cases h : k ≤ xs.length
  · rw [Nat.min_eq_left h]
  · rw [Nat.min_eq_right (by omega), List.take_length, List.take_of_length_le (by omega)]
theorem cmp_neg {p q : Int × Int} : cmpF p q < 0 ↔ p.1 * q.2 < q.1 * p.2 := by
  unfold cmpF
  constructor
  · intro h
    by_cases c : p.1 * q.2 < q.1 * p.2
    · exact c
    · rw [if_neg c] at h
      split at h <;> omega
  · intro h
    rw [if_pos h]
    decide
theorem bad_iff (p : Pr) : badPr p ↔ p.2.1 < 0 ∨ p.1.1 * p.2.2 < p.2.1 * p.1.2 := by
  unfold badPr
  rw [cmp_neg, cmp_neg]
  simp
end Nl

namespace Nl
open PySem PySem.Spec PyProof.Rows L2
/-! ### zip of three tuples -/
def It3 (K : PySem.W.Frag) (a b c : Addr) : It :=
  ⟨fun i H => ∃ xs ys zs : List V, SqT K H a xs ∧ SqT K H b ys ∧ SqT K H c zs ∧ i < min (min xs.length ys.length) zs.length,
    fun i H v H' => ∃ T x y z, v = .ref T ∧ H T = none ∧ H' = upd H T (.tup [x, y, z]) ∧ (∀ xs, SqT K H a xs → xs[i]? = some x) ∧ (∀ ys, SqT K H b ys → ys[i]? = some y) ∧ ∀ zs, SqT K H c zs → zs[i]? = some z,
    fun i H => ∃ xs ys zs : List V, SqT K H a xs ∧ SqT K H b ys ∧ SqT K H c zs ∧ i = min (min xs.length ys.length) zs.length⟩
theorem neA {x y : Nat} (h : x ≠ y) : @Ne Addr x y := h
theorem nin2 {x y z : Nat} (h1 : x ≠ y) (h2 : x ≠ z) : ¬ ((x : Addr) ∈ ([y, z] : List Addr)) := fun h => by
  rcases List.mem_cons.mp h with e | h
  · exact h1 e
  · exact h2 (List.mem_singleton.mp h)
def fp3 (I : Addr) : List Addr := [I + 5, I + 3, I + 4, I, I + 1, I + 2]
theorem fp3_cases {I d : Nat} (h : d ∈ fp3 I) : d = I + 5 ∨ d = I + 3 ∨ d = I + 4 ∨ d = I ∨ d = I + 1 ∨ d = I + 2 := by simpa [fp3] using h
theorem fp3_lt {I d n : Nat} (h : d ∈ fp3 I) (hn : I + 5 < n) : d < n := by
  rcases fp3_cases h with rfl | rfl | rfl | rfl | rfl | rfl <;> omega
theorem fp3_le {I d : Nat} (h : d ∈ fp3 I) : I ≤ d := by
  rcases fp3_cases h with rfl | rfl | rfl | rfl | rfl | rfl <;> omega
theorem fp3_nin {I d : Nat} (h : ¬ d ∈ fp3 I) : ¬ d ∈ ([I + 5, I + 4, I, I + 1, I + 2] : List Addr) := fun z => h (by
  simp only [fp3, List.mem_cons, List.not_mem_nil, or_false] at z ⊢
  rcases z with z | z | z | z | z
  · exact .inl z
  · exact .inr (.inr (.inl z))
  · exact .inr (.inr (.inr (.inl z)))
  · exact .inr (.inr (.inr (.inr (.inl z))))
  · exact .inr (.inr (.inr (.inr (.inr z)))))
theorem sep3 {I a b c : Nat} (h1 : a < I) (h2 : b < I) (h3 : c < I) : ZipSep3 (I + 5) (I + 3) (I + 4) I (I + 1) (I + 2) [I, a] [I + 1, b] [I + 2, c] := by
  constructor <;> first | exact neA (by omega) | exact nin2 (by omega) (by omega) | exact List.mem_cons_self
structure St3 (I a b c : Addr) (i : Nat) (h : Heap) : Prop where
  z : IsZip h (I + 5) (I + 3) (I + 4) .none
  ti : IsTupOf3 h (I + 3) (.ref I) (.ref (I + 1)) (.ref (I + 2))
  to : ∃ x y u, IsTupOf3 h (I + 4) x y u
  i1 : h.IsTupleIter I a i
  i2 : h.IsTupleIter (I + 1) b i
  i3 : h.IsTupleIter (I + 2) c i
theorem vals_at {xs : List V} {us : List Value} {i : Nat} {u : Value} (r : Vals xs us) (h : us.toArray[i]? = some u) : ∃ x, xs[i]? = some x ∧ RelV x u := by
  have hl := r.length
  have hlt : i < xs.length := by
    rcases Nat.lt_or_ge i xs.length with z | z
    · exact z
    · rw [Array.getElem?_eq_none (by rw [List.size_toArray]; omega)] at h
      cases h
  obtain ⟨u', e, rv⟩ := r.get (List.getElem?_eq_getElem hlt)
  have : us.toArray[i]? = us[i]? := by simp
  rw [this, e] at h
  cases h
  exact ⟨_, List.getElem?_eq_getElem hlt, rv⟩
theorem turn3 {P : Program} {w : World} {K : PySem.W.Frag} {elts : List Expr} {kk : Nat} {tpos : Pos} {I a b c : Addr} (ha : a < I) (hb : b < I) (hc : c < I) :
    Turn P w K (.Tuple elts kk tpos) (It3 K a b c) (fp3 I) (I + 5) (St3 I a b c) where
  mem := by simp [fp3]
  obj := fun i h st d hd => by
    obtain ⟨hz, hti, ⟨x, y, u, hto⟩, ⟨o1, e1, _, d1⟩, ⟨o2, e2, _, d2⟩, ⟨o3, e3, _, d3⟩⟩ := st
    have e' := fp3_cases hd
    rcases e' with rfl | rfl | rfl | rfl | rfl | rfl
    · exact ⟨_, hz, fun v q => nomatch q⟩
    · exact ⟨_, hti, fun v q => nomatch q⟩
    · exact ⟨_, hto, fun v q => nomatch q⟩
    · exact ⟨o1, e1, fun v q => by rw [d1] at q; cases q⟩
    · exact ⟨o2, e2, fun v q => by rw [d2] at q; cases q⟩
    · exact ⟨o3, e3, fun v q => by rw [d3] at q; cases q⟩
  keep := fun i h h' st k => by
    obtain ⟨hz, hti, ⟨x, y, u, hto⟩, h1, h2, h3⟩ := st
    exact ⟨k _ (by simp [fp3]) _ hz, k _ (by simp [fp3]) _ hti, ⟨x, y, u, k _ (by simp [fp3]) _ hto⟩, h1.at fun o q => k _ (by simp [fp3]) o q, h2.at fun o q => k _ (by simp [fp3]) o q, h3.at fun o q => k _ (by simp [fp3]) o q⟩
  item := by
    intro X hP hw hK hcalm i pins s σ H E J hf st hg
    subst hP hw hK
    obtain ⟨xs, ys, zs, qa, qb, qc, hlt⟩ := hg
    obtain ⟨ia, ra, pa, _⟩ := J.tuple qa
    obtain ⟨ib, rb, pb, _⟩ := J.tuple qb
    obtain ⟨ic, rc, pc, _⟩ := J.tuple qc
    have la := ra.length
    have lb := rb.length
    have lc := rc.length
    have hh : X.A.in1.handled = none := J.ok.hd hcalm
    have W := GoesN.zip3 (prog := X.prog) (w := X.w) (A := X.A) (elts := elts) (x1 := kk) (pos := tpos) (sep3 ha hb hc) (Draws.tuple hh I a (Nat.ne_of_lt ha) ia.toArray) (Draws.tuple hh (I + 1) b (Nat.ne_of_lt (Nat.lt_succ_of_lt hb)) ib.toArray) (Draws.tuple hh (I + 2) c (Nat.ne_of_lt (Nat.lt_succ_of_lt (Nat.lt_succ_of_lt hc))) ic.toArray)
    obtain ⟨hz, hti, hto, h1, h2, h3⟩ := st
    have old : ∀ d ∈ fp3 I, d < s.heap.objs.size := fun d hd => fp3_lt hd (Heap.lt_size hz)
    refine W.goes i s _ _ (by simp only [List.size_toArray]; omega) ⟨hz, hti, hto, ⟨h1, pa⟩, ⟨h2, pb⟩, h3, pc⟩ fun v h' tk y st' hk htk => ?_
    obtain ⟨T, x, y, u, rfl, hT, hx, hy, hu, hTup⟩ := y
    obtain ⟨vx, ex, rx⟩ := vals_at ra hx
    obtain ⟨vy, ey, ry⟩ := vals_at rb hy
    obtain ⟨vu, eu, ru⟩ := vals_at rc hu
    obtain ⟨hz', hti', hto', ⟨h1', _⟩, ⟨h2', _⟩, h3', _⟩ := st'
    have new : ObjOk X.prog X.w (upd H T (.tup [vx, vy, vu])) h' T (.tup [vx, vy, vu]) :=
      ⟨by show 3 ≤ sizeLine; decide, [x, y, u], .cons rx (.cons ry (.cons ru .nil)), hTup⟩
    have J1 := J.turnedNew (t' := tk) (ch := fp3 I) (T := T) (fun d o hd q => hk d o (fp3_nin hd) q) hf hT new
    refine ⟨.ref T, _, J1, rfl, ⟨T, vx, vy, vu, rfl, J.hok.fresh hT, rfl, fun l hl => by rw [J.tuple_inj hl qa]; exact ex, fun l hl => by rw [J.tuple_inj hl qb]; exact ey, fun l hl => by rw [J.tuple_inj hl qc]; exact eu⟩, ⟨hz', hti', hto', h1', h2', h3'⟩, fun d hd => ?_⟩
    rw [upd_ne (Nat.ne_of_lt (Nat.lt_of_lt_of_le (old d hd) hT))]
    exact (hf d hd).1
  done := by
    intro X hP hw hK hcalm i pins s σ H E J hf st hg
    subst hP hw hK
    obtain ⟨xs, ys, zs, qa, qb, qc, he⟩ := hg
    obtain ⟨ia, ra, pa, _⟩ := J.tuple qa
    obtain ⟨ib, rb, pb, _⟩ := J.tuple qb
    obtain ⟨ic, rc, pc, _⟩ := J.tuple qc
    have la := ra.length
    have lb := rb.length
    have lc := rc.length
    have hh : X.A.in1.handled = none := J.ok.hd hcalm
    have W := GoesN.zip3 (prog := X.prog) (w := X.w) (A := X.A) (elts := elts) (x1 := kk) (pos := tpos) (sep3 ha hb hc) (Draws.tuple hh I a (Nat.ne_of_lt ha) ia.toArray) (Draws.tuple hh (I + 1) b (Nat.ne_of_lt (Nat.lt_succ_of_lt hb)) ib.toArray) (Draws.tuple hh (I + 2) c (Nat.ne_of_lt (Nat.lt_succ_of_lt (Nat.lt_succ_of_lt hc))) ic.toArray)
    obtain ⟨hz, hti, hto, h1, h2, h3⟩ := st
    have ei : i = min (min ia.toArray.size ib.toArray.size) ic.toArray.size := by simp only [List.size_toArray]; omega
    refine W.stops s _ _ (by rw [← ei]; exact ⟨hz, hti, hto, ⟨h1, pa⟩, ⟨h2, pb⟩, h3, pc⟩) fun h' tk hk htk => ?_
    exact J.turnedL (t' := tk) (ch := fp3 I) (fun d o hd q => hk d o (fp3_nin hd) q) hf
  self := fun A i s Q E st h => wpAny_pyIter_zip st.z h
def iZip3 (K : PySem.W.Frag) (ta : TA) : TI := fun σ H R => ta σ H fun vs H1 => ∃ a b c xs ys zs, vs = [.ref a, .ref b, .ref c] ∧ SqT K H1 a xs ∧ SqT K H1 b ys ∧ SqT K H1 c zs ∧ R (It3 K a b c) H1
theorem pi_zip3 {X : Cx} {e e2 e3 : Expr} {ta : TA} {p pos tpos : Pos} {elts : List Expr} {kk : Nat} (hg : Gl X "zip") (hm : X.mg "zip" = none) (ha : PA X [e, e2, e3] ta)
    (hs : starEach [e, e2, e3] X.env = (false, eval e X.env) :: starEach [e2, e3] X.env := by rfl) (hpl : (backTo pos (starEach [e2, e3] X.env)).any (·.1) = false := by rfl) :
    PI X (.Tuple elts kk tpos) (.Call (.Name "zip" p) [e, e2, e3] [] pos) (iZip3 X.K ta) := by
  refine ⟨fun pins s σ H R I h => ?_⟩
  refine Call_ (ld_blt I hg hm PyProof.Rows.boot_zip (PyProof.Rows.callWith_type1 (thn (ha.run pos pins s σ H _ I h) fun us s1 ⟨vs, H1, J, r1, a, b, c, xs, ys, zs, ex, qa, qb, qc, q⟩ => ?_) hs hpl))
  subst ex
  cases r1 with
  | cons r rr =>
    cases rr with
    | cons r' rr =>
      cases rr with
      | cons r'' rr =>
        cases rr
        cases r
        cases r'
        cases r''
        obtain ⟨ia, ra, pa, _⟩ := J.tuple qa
        obtain ⟨ib, rb, pb, _⟩ := J.tuple qb
        obtain ⟨ic, rc, pc, _⟩ := J.tuple qc
        obtain ⟨o1, ho1, _⟩ := id pa
        obtain ⟨o2, ho2, _⟩ := id pb
        obtain ⟨o3, ho3, _⟩ := id pc
        refine zip_begins3 (begins_tuple a ia.toArray) (begins_tuple b ib.toArray) (begins_tuple c ic.toArray) pa pb pc fun h' hz hti hto g1 g2 g3 hsz hk => wpAny_pyIter_zip hz ?_
        have J2 : Inv X pins σ H1 { s1 with heap := h' } := J.kept (t' := s1.toks) hk
        refine ⟨s1.heap.objs.size + 5, fp3 s1.heap.objs.size, _, _, H1, rfl, J2, turn3 (Heap.lt_size ho1) (Heap.lt_size ho2) (Heap.lt_size ho3), ⟨hz, hti, ⟨_, _, _, hto⟩, ⟨_, g1, rfl, rfl⟩, ⟨_, g2, rfl, rfl⟩, ⟨_, g3, rfl, rfl⟩⟩, fun d hd => ?_, q⟩
        have hle : s1.heap.objs.size ≤ d := fp3_le hd
        exact J.fpOk hle (J.hok.fresh hle)
theorem for_zip3 {K : PySem.W.Frag} {a b c : Addr} {xs ys zs : List V} {g : TG} {tb : TS} {D : Ends} {σ : L2.St} {H : Hp} (l1 : ys.length = xs.length) (l2 : zs.length = xs.length) (Pv : Nat → L2.St → Hp → Prop) (h0 : Pv 0 σ H) (hq : ∀ i σ H, Pv i σ H → SqT K H a xs ∧ SqT K H b ys ∧ SqT K H c zs)
    (hs : ∀ (i : Nat) (x y z : V) (T : Addr) (σ : L2.St) (H : Hp), xs[i]? = some x → ys[i]? = some y → zs[i]? = some z → Pv i σ H → H T = none → g (.ref T) σ (upd H T (.tup [x, y, z])) fun σ2 H2 => tb { D with nx := Pv (i + 1), ct := Pv (i + 1), bk := D.nx } σ2 H2)
    (hd : ∀ σ H, Pv xs.length σ H → D.nx σ H) :
    ∃ W : Nat → Nat → L2.St → Hp → Prop, (∃ m, W 0 m σ H) ∧ ∀ i m σ H, W i m σ H →
      ((It3 K a b c).stop i H ∧ D.nx σ H) ∨ ((It3 K a b c).go i H ∧ ∃ N : L2.St → Hp → Prop, (∀ σ' H', N σ' H' → ∃ m', m' < m ∧ W (i + 1) m' σ' H') ∧ ∀ v H', (It3 K a b c).yld i H v H' → g v σ H' fun σ2 H2 => tb { D with nx := N, ct := N, bk := D.nx } σ2 H2) := by
  refine ⟨fun i m σ H => m + i = xs.length ∧ Pv i σ H, ⟨xs.length, rfl, h0⟩, ?_⟩
  rintro i m σ H ⟨em, p⟩
  obtain ⟨qa, qb, qc⟩ := hq i σ H p
  by_cases hlt : i < xs.length
  · refine .inr ⟨⟨xs, ys, zs, qa, qb, qc, by omega⟩, Pv (i + 1), fun σ' H' p' => ⟨m - 1, by omega, by omega, p'⟩, ?_⟩
    rintro v H' ⟨T, x, y, z, rfl, hT, rfl, f1, f2, f3⟩
    exact hs i x y z T σ H (f1 xs qa) (f2 ys qb) (f3 zs qc) p hT
  · have e : i = xs.length := by omega
    subst e
    exact .inl ⟨⟨xs, ys, zs, qa, qb, qc, by omega⟩, hd σ H p⟩
end Nl

namespace Nl
open PySem PySem.Spec PyProof.Rows L2
/-! ### dicts whose keys are tuples, by a comprehension without tests -/
theorem put_tup {X : Cx} {pins : List (Addr × Obj)} {τ : L2.St} {H : Hp} {t : Shared} {F : Value → Shared → Prop} {D b : Addr} {kvs : List (List Key × V)} {k : List Key} {v : V} {r : Value} {R : Unit → Shared → Prop} (hu : X.A.units < cLine) (I : Inv X pins τ H t)
    (hD : H D = some (.dT kvs)) (hb : H b = some (.tup (k.map kV))) (hl : kvs.length < sizeLine) (rv : RelV v r) (fin : ∀ t', Inv X pins τ (upd H D (.dT (putK kvs k v))) t' → R () t') : wpAny (model X.prog X.w) X.A (dictSet D (.ref b) r) R F t := by
  obtain ⟨big, sys, xs, rel, dd⟩ := dt_of I.hok hD
  have hxs : xs.length ≤ sizeLine := by rw [← Paired.length rel]; exact big
  have grown := length_putK kvs k v
  refine wpAny_dictSet_heap (hsz := hxs) hu (key_of I.hok hb) dd (fun h' dd' sb => fin _ ?_)
  obtain ⟨q, es, ep, hq, a2, a3, a4, _, a5⟩ := dd'
  have kept : KT (upd H D (.dT (putK kvs k v))) (putK kvs k v) _ := (rel.put k hb rv).keeps fun c ys ec => by
    rw [upd_ne (ne_of ec hD (fun z => nomatch z))]
    exact ec
  exact d_write I (by rw [hD]; exact True.intro) sb ⟨q, hq⟩ ⟨by omega, sys, _, kept, q, es, ep, hq, a2, a3, a4, a5⟩
/-- {k: v for target in iter}: D the new dict -/
def tDcT (wi : TI) (g : TG) (tk tv : TE) (vs : List Nat) : TE := fun σ H Q => wi σ H fun J H1 => ∀ D, H1 D = none → ∃ W : Nat → Nat → Hp → Prop, (∃ m, W 0 m (upd H1 D (.dT []))) ∧ ∀ i m H, W i m H →
  (J.stop i H ∧ Q (.ref D) H) ∨ (J.go i H ∧ ∃ Nx : Hp → Prop, (∀ H', Nx H' → ∃ m', m' < m ∧ W (i + 1) m' H') ∧ ∀ x H', J.yld i H x H' → g x (wipe σ vs) H' fun σ2 H2 => wipe σ2 vs = wipe σ vs ∧
    tk σ2 H2 fun y H4 => tv σ2 H4 fun z H5 => ∃ kvs k b, y = .ref b ∧ H5 D = some (.dT kvs) ∧ H5 b = some (.tup (k.map kV)) ∧ kvs.length < sizeLine ∧ Nx (upd H5 D (.dT (putK kvs k z))))
theorem dcT_core {X : Cx} {pins : List (Addr × Obj)} {t0 : Shared} {τ : L2.St} {G : Hp} {Q : VK} {kx vx tg iter : Expr} {scope : Scope} {own : List (Str × Nat)} {pos pos' : Pos} {wi : TI} {g : TG} {tk tv : TE} {use : Option (Value → Sem Unit)} {Qf : Value → Shared → Prop}
    (calm : X.calm = true) (hu : X.A.units < cLine) (nd : X.N.Nodup) (I : Inv X pins τ G t0) (src : PI X tg iter wi) (ok : BlkOk X.N X.env.scope scope own)
    (ptg : ∀ (s : Shared) (H : Hp) (C : Addr) (cl : List (Str × Addr)) (fp : List Addr), PG (X.blk s H scope (compEnvC scope cl C X.env) fp) tg g)
    (pkey : ∀ (s : Shared) (H : Hp) (C : Addr) (cl : List (Str × Addr)) (fp : List Addr), PE (X.blk s H scope (compEnvC scope cl C X.env) fp) kx tk)
    (pval : ∀ (s : Shared) (H : Hp) (C : Addr) (cl : List (Str × Addr)) (fp : List Addr), PE (X.blk s H scope (compEnvC scope cl C X.env) fp) vx tv) (fold : ∀ x, foldedSetIterable iter X.env x = pure x)
    (goal : tDcT wi g tk tv (own.map (·.2)) τ G Q)
    (post : ∀ D C s' m H', Inv X pins τ H' s' → Q (.ref D) H' → s'.heap.Ns C m → FpOk X pins H' C → compPost (model X.prog X.w) X.A X.xe use Qf (.ref D) C (.ok .next) s') :
    wpAny (model X.prog X.w) X.A (comprehension (.DictComp kx vx [⟨tg, iter, [], 0⟩] scope pos) scope X.env pos' newDict false (eval iter X.env) use) Qf X.xe t0 := by
  have clos : ∀ y ∈ scope.names, y.2 = .free → ∃ c, X.env.cells.lookup y.1 = some c := fun y hy e => (ok.free y hy e).elim (fun k => I.ok.has _ (.inl k)) fun k => I.ok.has _ (.inr k)
  refine wpAny_comprehension_free (use := use) rfl fold (closure_ok clos) ok.kind (fun y hy e => by rw [ok.uniq y hy, e]) (thn (src.run pins t0 τ G _ I goal) fun itv t1 h1 => thn h1 fun itw t2 h2 => ?_)
  obtain ⟨it, fp, tn, J, G2, rfl, I2, turn, st2, f2, q⟩ := h2
  refine wpAny_newObj_type (newEnv_comp ?_)
  generalize eD : t2.heap.objs.size = D
  have newD : G2 D = none := I2.hok.fresh (Nat.le_of_eq eD)
  obtain ⟨W, ⟨m0, w0⟩, steps⟩ := q D newD
  generalize e3 : ({ t2 with heap := t2.heap.push { cls := .type "dict", data := .dict #[] } } : Shared) = t3
  have h3 : t3.heap = t2.heap.push { cls := .type "dict", data := .dict #[] } := by rw [← e3]
  have I3 : Inv X pins τ (upd G2 D (.dT [])) t3 := by
    subst e3 eD
    exact I2.laid (t' := t2.toks) (fun b o e => Heap.get?_push_of_some _ e) (Nat.le_refl _) (dt_empty t2.heap I2.big)
  have below : ∀ b ∈ fp, b < t2.heap.objs.size := fun b hb => (turn.obj _ _ st2 b hb).elim fun o e => Heap.lt_size e.1
  have f3 : ∀ b ∈ fp, FpOk X pins (upd G2 D (.dT [])) b ∧ b < t3.heap.objs.size := fun b hb => by
    refine ⟨⟨?_, (f2 b hb).2⟩, ?_⟩
    · rw [upd_ne (by rw [← eD]; exact Nat.ne_of_lt (below b hb))]
      exact (f2 b hb).1
    · rw [h3, Heap.size_push]
      exact Nat.lt_succ_of_lt (below b hb)
  have st3 : tn 0 t3.heap := turn.keep _ _ _ st2 fun b _ o e => by rw [h3]; exact Heap.get?_push_of_some _ e
  have I4 := block_start I3 ok nd f3
  have pt := ptg t3 (upd G2 D (.dT [])) t3.heap.objs.size (cellsFrom (t3.heap.objs.size + 1) scope.names (cloFrom X.env.cells scope.names [])) fp
  have pk := pkey t3 (upd G2 D (.dT [])) t3.heap.objs.size (cellsFrom (t3.heap.objs.size + 1) scope.names (cloFrom X.env.cells scope.names [])) fp
  have pv' := pval t3 (upd G2 D (.dT [])) t3.heap.objs.size (cellsFrom (t3.heap.objs.size + 1) scope.names (cloFrom X.env.cells scope.names [])) fp
  show codeAny _ _ (.compStart (.DictComp kx vx [⟨tg, iter, [], 0⟩] scope pos) 0 (.ref it) (.ref D) (compEnvC scope (cellsFrom (t3.heap.objs.size + 1) scope.names (cloFrom X.env.cells scope.names [])) t3.heap.objs.size X.env)) (compPost (model X.prog X.w) X.A X.xe use Qf (.ref D) t3.heap.objs.size) { t3 with heap := pushCells (t3.heap.push { cls := .type "dict", data := .dict #[] }) scope.names }
  have none3 : ∀ b ∈ fp, (upd G2 D (.dT [])) b = none := fun b hb => (f3 b hb).1.1
  generalize eC : compEnvC scope (cellsFrom (t3.heap.objs.size + 1) scope.names (cloFrom X.env.cells scope.names [])) t3.heap.objs.size X.env = ce at I4 pt pk pv' ⊢
  have loc : ce.locals = t3.heap.objs.size := by subst eC; rfl
  generalize eG : upd G2 D (.dT []) = G3 at I3 I4 pt pk pv' w0 none3 f3
  generalize e4 : ({ t3 with heap := pushCells (t3.heap.push { cls := .type "dict", data := .dict #[] }) scope.names } : Shared) = t4 at I4 ⊢
  have st4 : tn 0 t4.heap := turn.keep _ _ _ st3 fun b _ o e => by rw [← e4]; exact pushCells_keeps _ _ _ _ (Heap.get?_push_of_some _ e)
  have live : ∀ {τ' : L2.St} {H' : Hp} {s' : Shared}, Inv (X.blk t3 G3 scope ce fp) [] τ' H' s' → (∀ b ∈ fp, H' b = none) → ∀ b ∈ fp, FpOk (X.blk t3 G3 scope ce fp) [] H' b := fun {τ' H' s'} K' n b hb => by
    refine ⟨n b hb, (K'.ok.exf b hb).1, K'.ok.exfs b hb, .inl hb, fun x c e => (K'.ok.exf b hb).2 x c e, ?_⟩
    intro p hp
    exact absurd (show p ∈ ([] : List (Addr × Obj)) ++ [] from hp) (by simp)
  have loop : codeAny (model X.prog X.w) X.A (.compLoop (.DictComp kx vx [⟨tg, iter, [], 0⟩] scope pos) 0 (.ref it) (.ref D) ce) (compPost (model X.prog X.w) X.A X.xe use Qf (.ref D) t3.heap.objs.size) t4 := by
    refine compLoop_anyD (fun n s' => ∃ i H', Inv (X.blk t3 G3 scope ce fp) [] (wipe τ (own.map (·.2))) H' s' ∧ tn i s'.heap ∧ (∀ b ∈ fp, H' b = none) ∧ W i n H') ?_ m0 ⟨0, G3, I4, st4, none3, w0⟩
    rintro n s5 ⟨i, H5, I5, st5, n5, w5⟩
    rcases steps i n H5 w5 with ⟨stop, qq⟩ | ⟨go, Nx, hNx, step⟩
    · refine thnF (turn.done (X.blk t3 G3 scope ce fp) rfl rfl rfl calm i [] s5 _ H5 (fun _ _ => False) I5 (live I5 n5) st5 stop) fun r s6 ⟨er, I6⟩ => ?_
      subst er
      have back : Inv X pins τ H5 s6 := I3.call' (ch := fp) I6.os I6.base I6.hok I6.bare fun b hb => ⟨(f3 b hb).1.2.2.2.1, (f3 b hb).1.2.1, (f3 b hb).1.2.2.2.2.1, (f3 b hb).1.2.2.2.2.2⟩
      have nC : H5 t3.heap.objs.size = none := by rw [← loc]; exact I6.free
      obtain ⟨m, hn, _⟩ := I6.loc
      refine post D t3.heap.objs.size s6 m H5 back qq ?_ (I3.fpOk (Nat.le_refl _) nC)
      rw [← loc]
      exact hn
    · refine thnF (turn.item (X.blk t3 G3 scope ce fp) rfl rfl rfl calm i [] s5 _ H5 (fun _ _ => False) I5 (live I5 n5) st5 go) fun r s6 ⟨u, er, h6⟩ => ?_
      subst er
      refine thnF h6 fun _ s7 ⟨x, H7, I7, r7, y7, st7, n7⟩ => ?_
      have I7p := I7.pinned (live I7 n7) (turn.obj _ _ st7)
      refine thnF (pt.run _ s7 _ H7 x u _ I7p r7 (step x H7 y7)) fun _ s8 ⟨τ8, H8, I8, hw8, q8⟩ => ?_
      have fin : ∀ {s' : Shared} {H' : Hp}, Inv (X.blk t3 G3 scope ce fp) ([] ++ pinsAt fp s7.heap) τ8 H' s' → Nx H' → ∃ m, m < n ∧ ∃ i H', Inv (X.blk t3 G3 scope ce fp) [] (wipe τ (own.map (·.2))) H' s' ∧ tn i s'.heap ∧ (∀ b ∈ fp, H' b = none) ∧ W i m H' := fun {s' H'} I' nx => by
        obtain ⟨m', hm, w'⟩ := hNx H' nx
        have pin : ∀ b ∈ fp, ∀ o, s7.heap.get? b = some o → s'.heap.get? b = some o ∧ H' b = none := fun b hb o e => by
          have z := I'.pin (b, o) (List.mem_append_right _ (List.mem_append_right _ (mem_pinsAt hb e)))
          exact ⟨z.1, z.2.1⟩
        refine ⟨m', hm, i + 1, H', (I'.unpinned (pins := [])).weak (by rw [← hw8, wipe_length]) (fun j v e => ?_), turn.keep _ _ _ st7 fun b hb o e => (pin b hb o e).1, fun b hb => ?_, w'⟩
        · rw [← hw8] at e
          exact (wipe_some e).1
        · exact (turn.obj _ _ st7 b hb).elim fun o e => (pin b hb o e.1).2
      refine wpAny_pure ?_
      simp only [if_true]
      refine thnF (pk.run _ s8 τ8 H8 _ I8 q8) fun kv s10 ⟨yk, H10, I10, r10, q10⟩ => ?_
      refine thnF (pv'.run _ s10 τ8 H10 _ I10 q10) fun vv s11 ⟨yv, H11, I11, r11, kvs, k, b, ek, hD11, hb11, hz11, nx⟩ => ?_
      subst ek
      cases (show kv = Value.ref b from r10)
      exact put_tup (X := X.blk t3 G3 scope ce fp) hu I11 hD11 hb11 hz11 r11 fun s12 I12 => fin I12 nx
  exact codeAny_compStart_dict loop (turn.self X.A 0 _ _ _ st4 loop)
theorem pe_dcT {X : Cx} {kx vx tg iter : Expr} {scope : Scope} {own : List (Str × Nat)} {pos : Pos} {wi : TI} {g : TG} {tk tv : TE} (calm : X.calm = true) (hu : X.A.units < cLine) (nd : X.N.Nodup) (src : PI X tg iter wi) (ok : BlkOk X.N X.env.scope scope own)
    (ptg : ∀ (s : Shared) (H : Hp) (C : Addr) (cl : List (Str × Addr)) (fp : List Addr), PG (X.blk s H scope (compEnvC scope cl C X.env) fp) tg g)
    (pkey : ∀ (s : Shared) (H : Hp) (C : Addr) (cl : List (Str × Addr)) (fp : List Addr), PE (X.blk s H scope (compEnvC scope cl C X.env) fp) kx tk)
    (pval : ∀ (s : Shared) (H : Hp) (C : Addr) (cl : List (Str × Addr)) (fp : List Addr), PE (X.blk s H scope (compEnvC scope cl C X.env) fp) vx tv) (fold : ∀ x, foldedSetIterable iter X.env x = pure x := by intro _; rfl) :
    PE X (.DictComp kx vx [⟨tg, iter, [], 0⟩] scope pos) (tDcT wi g tk tv (own.map (·.2))) := by
  refine ⟨fun pins s τ H Q I goal => ?_⟩
  rw [arm_eval_DictComp]
  refine dcT_core calm hu nd I src ok ptg pkey pval fold goal fun D C s' m H' J q hn f => ⟨m, hn, fun h'' sb => ?_⟩
  obtain ⟨f0, f1, f2, f3, f4, f5⟩ := f
  exact ⟨.ref D, H', J.turned (t' := s'.toks) (fun b o hb e => (sb.2 b hb).trans e) f0 f1 f3 f4 f5, rfl, q⟩
/-- name = {..} on one line, the name a local -/
theorem ps_setDcT {X : Cx} {i : Nat} {y : Str} {py : Pos} {kx vx tg iter : Expr} {scope : Scope} {own : List (Str × Nat)} {pos spos : Pos} {wi : TI} {g : TG} {tk tv : TE} (calm : X.calm = true) (hu : X.A.units < cLine) (nd : X.N.Nodup) (at_ : X.N[i]? = some y) (kind : X.env.scope.names.lookup y = some .local)
    (sw : swapsWith (.DictComp kx vx [⟨tg, iter, [], 0⟩] scope pos) (some (.Name y py)) spos.line X.env = pure true) (src : PI X tg iter wi) (ok : BlkOk X.N X.env.scope scope own)
    (ptg : ∀ (s : Shared) (H : Hp) (C : Addr) (cl : List (Str × Addr)) (fp : List Addr), PG (X.blk s H scope (compEnvC scope cl C X.env) fp) tg g)
    (pkey : ∀ (s : Shared) (H : Hp) (C : Addr) (cl : List (Str × Addr)) (fp : List Addr), PE (X.blk s H scope (compEnvC scope cl C X.env) fp) kx tk)
    (pval : ∀ (s : Shared) (H : Hp) (C : Addr) (cl : List (Str × Addr)) (fp : List Addr), PE (X.blk s H scope (compEnvC scope cl C X.env) fp) vx tv) (fold : ∀ x, foldedSetIterable iter X.env x = pure x := by intro _; rfl) :
    PS X (.Assign [.Name y py] (.DictComp kx vx [⟨tg, iter, [], 0⟩] scope pos) spos) (tAsg (tDcT wi g tk tv (own.map (·.2))) (gName i)) := by
  refine ⟨fun pins s τ H D I goal => ?_⟩
  rw [exec_Assign_Name_used _ _ _ _ sw]
  refine wpAny_bind (wpAny_standAt (wpAny_bind ?_))
  show wpAny _ X.A (do let _ ← comprehension (.DictComp kx vx [⟨tg, iter, [], 0⟩] scope pos) scope X.env (firstIterPos [⟨tg, iter, [], 0⟩] pos) newDict false (eval iter X.env) (some (assign (.Name y py) X.env))) _ _ s
  have goal : tDcT wi g tk tv (own.map (·.2)) τ H (fun x H1 => gName i x τ H1 D.nx) := goal
  refine wpAny_bind (thn (dcT_core (Qf := fun _ s' => SP X pins D .next s') calm hu nd I src ok ptg pkey pval fold goal fun L C s' m H' J q hn f => ?_) fun _ s' hq => wpAny_pure (wpAny_pure hq))
  show wpAny _ _ (assign (.Name y py) X.env (.ref L)) _ _ _
  refine wpAny_assign_Name (store_ok2 (v := V.ref L) J nd at_ (.inl kind) rfl (fun s2 J2 ⟨a, sb, ha⟩ => ?_) (.inr kind))
  obtain ⟨f0, f1, f2, f3, f4, f5⟩ := f
  have apart : C ≠ a := by
    rcases ha with z | z
    · rw [z]
      exact f1
    · exact fun e => f4 y a z e.symm
  refine ⟨m, hn.sameBut sb apart, fun h3 sb3 => ?_⟩
  exact ⟨_, H', J2.turned (t' := s2.toks) (fun b o hb e => (sb3.2 b hb).trans e) f0 f1 f3 f4 f5, q⟩
theorem sw_dict {kx vx : Expr} {gs : List Comprehension} {scope : Scope} {pos py : Pos} {y : Str} {l : Nat} {env : Env} (kind : env.scope.kind = .function) (loc : env.scope.names.lookup y = some .local) (line : (py.line == pos.line) = true)
    (other : (scope.names.any fun (n, k) => n == y && (k == .local || k == .cell)) = false) : swapsWith (.DictComp kx vx gs scope pos) (some (.Name y py)) l env = pure true := by
  have k1 : env.kindOf y = some .local := loc
  have k2 : env.blockKind = .function := by
    unfold Env.blockKind
    rw [kind]
    rfl
  unfold swapsWith
  simp only [k2, k1, other, Expr.pos, line]
  rfl
end Nl

namespace Nl
open PySem PySem.Spec PyProof.Rows L2 LamX NdefX
/-! ### a function that is handed on: its captured cell stands still while the call runs -/
theorem mod_up {K : PySem.W.Frag} {mg : Str → Option Value} {h h' : Heap} (m : Mod K mg h) (k : ∀ b o, h.get? b = some o → h'.get? b = some o) : Mod K mg h' :=
  ⟨m.kin.keeps k, m.glob.keeps k, let ⟨mb, n, e⟩ := m.blt; ⟨mb, n.keeps k, e⟩, m.nolimit.keeps k⟩
section
variable {X : Cx} {pins : List (Addr × Obj)} {τ : L2.St} {H : Hp} {s : Shared} {x : Str} {c : Addr} {u : Option Value}
theorem cell_noframe (I : Inv X pins τ H s) (hfn : X.fn x = true) (hc : X.env.cells.lookup x = some c) : c ∉ frs X.stack := fun hm => by
  rcases List.mem_cons.mp (I.stkSub c hm) with e | hb
  · exact I.cne x c hc e
  · obtain ⟨_, o, ho, _⟩ := I.ok.funs.mem hb
    exact absurd (Nat.lt_of_lt_of_le (Heap.lt_size ho) (I.ok.cab x c hfn hc)) (Nat.lt_irrefl _)
theorem env0_cell (I : Inv X pins τ H s) (hfn : X.fn x = true) (hc : X.env.cells.lookup x = some c) (hu : s.heap.IsCell c u) :
    ∃ B : Heap, (∀ b o, X.base.get? b = some o → B.get? b = some o) ∧ B.IsCell c u ∧ Env0 X.prog X.w X.K X.mg B X.A X.stack s H := by
  obtain ⟨l, hl⟩ : ∃ l : List Addr, l = (List.range s.heap.objs.size).filter fun b => !((X.base.get? b).isSome || decide (b = c)) := ⟨_, rfl⟩
  have out : ∀ b, ((X.base.get? b).isSome || decide (b = c)) = true → b ∉ l := fun b hb hm => by
    rw [hl] at hm
    have z := (List.mem_filter.mp hm).2
    rw [hb] at z
    cases z
  have keep : ∀ b o, X.base.get? b = some o → (PySem.W.hideAll s.heap l).get? b = some o := fun b o e => PySem.W.hideAll_get l (I.bk b o e) (out b (by rw [e]; rfl))
  obtain ⟨oc, hoc, hd⟩ := id hu
  have inn : ∀ b o, (PySem.W.hideAll s.heap l).get? b = some o → s.heap.get? b = some o ∧ ((X.base.get? b).isSome = true ∨ b = c) := fun b o e => by
    have z := PySem.W.of_hideAll l e
    refine ⟨z, ?_⟩
    cases q : (X.base.get? b).isSome with
    | true => exact .inl rfl
    | false =>
      refine .inr (Decidable.byContradiction fun ne => ?_)
      rw [PySem.W.hideAll_none l (by
        rw [hl]
        exact List.mem_filter.mpr ⟨List.mem_range.mpr (Heap.lt_size z), by rw [q, decide_eq_false ne]; rfl⟩)] at e
      cases e
  refine ⟨PySem.W.hideAll s.heap l, keep, ⟨oc, PySem.W.hideAll_get l hoc (out c (by simp)), hd⟩, ?_⟩
  have e0 := I.env0
  refine ⟨e0.frames, mod_up e0.mod keep, fun b o e => ?_, Nat.le_of_eq (PySem.W.hideAll_size l s.heap), funFrames_none e0.funs fun L hL => ?_, e0.frf, e0.hok, e0.bare⟩
  · obtain ⟨h1, h2 | h2⟩ := inn b o e
    · obtain ⟨o', ho'⟩ := Option.isSome_iff_exists.mp h2
      exact ⟨h1, (I.bs b o' ho').2⟩
    · subst h2
      exact ⟨h1, I.freeC x _ hc⟩
  · cases e : (PySem.W.hideAll s.heap l).get? L with
    | none => rfl
    | some o =>
      obtain ⟨_, h2 | h2⟩ := inn L o e
      · rw [(e0.funs.mem hL).1] at h2
        cases h2
      · subst h2
        exact (cell_noframe I hfn hc hL).elim
end
/-- the promise of a function value, its captured cells being what they are -/
structure HeldF (P : Program) (w : World) (K : PySem.W.Frag) (mg : Str → Option Value) (base : Heap) (k : Nat) (F : NF) (n : Nat) (sp : Sp) : Prop where
  len : ∀ vs H Q E, sp vs H Q E → vs.length = n
  run : ∀ (f : Addr) (A : Around) (outer : List Env) (s : Shared) (H : Hp) (us : List Value) (vs : List V) (Q : VK) (E : XK), Room k A → Env0 P w K mg base A outer s H → H f = some (FnO f F) → H F.c = some (CodeO F.c F.qual) → Vals vs us → sp vs H Q E →
    codeAny (model P w) A (.call (.ref f) ⟨us, []⟩) (CR CX0 outer P w H s Q E) s
/-- .. of a nested def with one captured name, whose cell stands in the ground -/
theorem held_of {P : Program} {w : World} {K : PySem.W.Frag} {mg : Str → Option Value} {base : Heap} {k : Nat} {F : NF} {ps : List Str} {y : Str} {c : Addr} {v : V} {u : Value} {sp : List (Option V) → Sp} (N : ∀ f, NOk P w K mg base CX0 k f F ps [y] sp) (hy : F.cl.lookup y = some c) (one : ∀ z d, F.cl.lookup z = some d → z = y)
    (hc : base.IsCell c (some u)) (rv : RelV v u) : HeldF P w K mg base k F ps.length (sp [some v]) where
  len := fun vs H Q E h => (N 0).len [some v] vs H Q E h
  run := fun f A outer s H us vs Q E hr e0 hf hco rr h => by
    obtain ⟨o, ho, hd⟩ := hc
    obtain ⟨h1, h2⟩ := e0.bs c o ho
    refine (N f).run A outer s H us vs [some v] Q E hr e0 hf hco ⟨rfl, fun z d e => ?_, fun z z' d e e' => ?_, fun i z e => ?_⟩ rr h
    · obtain rfl := one z d e
      rw [hy] at e
      cases e
      exact ⟨h2, _, o, h1, hd⟩
    · rw [one z d e, one z' d e']
    · cases i with
      | succ i => simp at e
      | zero =>
        have e : some y = some z := e
        cases e
        refine ⟨c, hy, fun v' e' => ?_⟩
        have e' : some (some v) = some (some v') := e'
        cases e'
        exact ⟨u, rv, o, h1, hd⟩
/-- f(..), f a name that holds such a function -/
def tCallH (i : Nat) (F : NF) (sp : Sp) (t : TA) : TE := fun σ H Q => ∃ f, σ[i]? = some (some (.ref f)) ∧ H f = some (FnO f F) ∧ t σ H fun vs H1 => H1 f = some (FnO f F) ∧ H1 F.c = some (CodeO F.c F.qual) ∧ sp vs H1 Q E0
theorem pe_callH {X : Cx} {k j i n : Nat} {F : NF} {sp : Sp} {x : Str} {e : Expr} {es : List Expr} {t : TA} {p pos : Pos} (Hd : HeldF X.prog X.w X.K X.mg X.base k F n sp) (hr : Room j X.A) (hk : k ≤ j) (at_ : X.N[i]? = some x) (vis : Vis X.env.scope x) (ha : PA X (e :: es) t)
    (d1 : (x == ("__debug__" : Str)) = false := by decide) (d2 : (x == ("__classdict__" : Str)) = false := by decide)
    (he : starEach (e :: es) X.env = (false, eval e X.env) :: starEach es X.env := by rfl) (hpl : (backTo pos (starEach es X.env)).any (·.1) = false := by rfl) : PE X (.Call (.Name x p) (e :: es) [] pos) (tCallH i F sp t) := by
  refine ⟨fun pins s τ H Q I h => ?_⟩
  obtain ⟨f, hs, hf, ht⟩ := h
  refine wpAny_Call_Name_kw (thn ((pe_var (pos := p) at_ vis d1 d2).run pins s τ H (fun v H1 => v = .ref f ∧ H1 = H) I ⟨.ref f, hs, rfl, rfl⟩) fun u s1 ⟨v, H1, J, r1, q1⟩ => ?_)
  obtain ⟨rfl, rfl⟩ := q1
  obtain rfl : u = Value.ref f := r1
  refine PySem.W.callWith_F (first := []) (fnAt_of J hf) (thn (ha.run pos pins s1 τ _ _ J ht) fun us s2 ⟨vs, H2, J2, r, h1, h2, q⟩ => ⟨fnAt_of J2 h1, ?_⟩) he hpl
  show wpAny _ _ (call (.ref f) us) _ _ _
  refine wpAny_call (codeAny_mono (Hd.run f X.A X.stack s2 H2 us vs Q E0 (hr.mono hk) J2.env0 h1 h2 r q) fun r s' hq => ?_)
  cases r with
  | error e => exact pass0 pins τ H2 s2 e s' J2 hq
  | ok fl =>
    cases fl with
    | ret u => exact J2.after hq
    | next => exact False.elim hq
    | brk => exact False.elim hq
    | cont => exact False.elim hq
end Nl

namespace Nl
open PySem PySem.Spec PyProof.Rows L2 LamX NdefX
/-! ### a nested def with one captured name and one parameter, which a comprehension captures -/
abbrev cellO : Obj := { cls := .type "cell", data := .cell none }
structure OneCell (N : List Str) (x y : Str) (sc : Scope) : Prop where
  kind : sc.kind = .function
  co : sc.isCoroutine = false
  gen : sc.isGenerator = false
  nd : N.Nodup
  at0 : N[0]? = some x
  at1 : N[1]? = some y
  kx : sc.names.lookup x = some .cell
  ky : sc.names.lookup y = some .free
  cells : ∀ n acc, cellsFrom n sc.names acc = (x, n) :: acc
  push : ∀ h : Heap, pushCells h sc.names = h.push cellO
  free : ∀ z ∈ sc.names, z.2 = .free → z.1 = y
  cell : ∀ z ∈ sc.names, z.2 = .cell → z.1 = x
abbrev envD (F : NF) (x : Str) (f L : Addr) : Env := PySem.W.envX F.qual F.scope L f (.ref F.c) ((x, L + 1) :: F.cl)
def dcx (CX : CXT) (P : Program) (w : World) (K : PySem.W.Frag) (mg : Str → Option Value) (base : Heap) (N : List Str) (F : NF) (x : Str) (f : Addr) (A : Around) (outer : List Env) (s : Shared) (H : Hp) (E : XK) : Cx where
  prog := P
  w := w
  K := K
  mg := mg
  base := base
  A := A.deeper (envD F x f s.heap.objs.size)
  N := N
  s_0 := s
  H_0 := H
  env := envD F x f s.heap.objs.size
  outer := outer
  stack := envD F x f s.heap.objs.size :: outer
  ex := []
  calm := true
  fn := fun _ => false
  pn := []
  xe := fun e s' => wpAny (model P w) (A.deeper (envD F x f s.heap.objs.size)) (leaving (envD F x f s.heap.objs.size) e) (fun _ s'' => CX outer H s E e s'') (fun e' s'' => CX outer H s E e' s'') s'
theorem newEnv_one {M : Model} {A : Around} {E : Value → Shared → Prop} {s : Shared} {sc : Scope} {N : List Str} {x y : Str} {globals : Addr} {cl : List (Str × Addr)} {v : Value} {qual : Str} {func : Option Addr} {code : Value} {builtins : Addr} {Q : Env → Shared → Prop} (S : OneCell N x y sc)
    (hQ : ∀ h' tk, h'.Ns s.heap.objs.size (fun _ => none) → h'.IsCell (s.heap.objs.size + 1) (some v) → (∀ b o, s.heap.get? b = some o → h'.get? b = some o) → Q (newEnv sc s.heap.objs.size globals ((x, s.heap.objs.size + 1) :: cl) qual func code none builtins) { s with heap := h', toks := tk }) :
    wpAny M A (newFunctionEnv sc globals cl [(x, v)] qual func code none builtins) Q E s := by
  simp only [newFunctionEnv, Option.isSome_none, Bool.false_eq_true, if_false]
  refine wpAny_bind (wpAny_alloc ?_)
  refine wpAny_bind (wpAny_layCells _ (fun name kind cells => by cases q : kind == NameKind.cell <;> simp [q]) _ _ _ _ ?_)
  rw [show ({ s with heap := s.heap.push { cls := .type "frame", data := .dict #[] } } : Shared).heap.objs.size = s.heap.objs.size + 1 from Heap.size_push .., S.cells, S.push]
  simp only [List.forIn_cons, List.forIn_nil]
  have c0 : ((s.heap.push { cls := .type "frame", data := .dict #[] }).push cellO).IsCell (s.heap.objs.size + 1) none := by
    refine ⟨cellO, ?_, rfl⟩
    have := Heap.get?_push_size (s.heap.push { cls := .type "frame", data := .dict #[] }) (o := cellO) rfl
    rw [Heap.size_push] at this
    exact this
  have n0 := ((Heap.Ns.new s.heap (.type "frame")).keeps fun b o e => Heap.get?_push_of_some cellO e)
  refine wpAny_bind (wpAny_bind (wpAny_bind (wpAny_storeName_cell (c := s.heap.objs.size + 1) S.kind S.kx (List.lookup_cons_self ..) c0 fun h' hc sb => wpAny_pure (wpAny_pure (wpAny_pure ?_)))))
  refine hQ h' _ (n0.sameBut sb (Nat.ne_of_lt (Nat.lt_succ_self _))) hc fun b o e => ?_
  have hlt := Heap.lt_size e
  exact (sb.2 b (Nat.ne_of_lt (Nat.lt_succ_of_lt hlt))).trans (Heap.get?_push_of_some _ (Heap.get?_push_of_some _ e))
section
variable {CX : CXT} {P : Program} {w : World} {K : PySem.W.Frag} {mg : Str → Option Value} {base : Heap} {N : List Str} {x y : Str} {F : NF} {f : Addr} {k : Nat} {sp : List (Option V) → Sp}
theorem inv_startD {A : Around} {outer : List Env} {s : Shared} {H : Hp} {E : XK} {v : V} {u : Value} {o : Option V} {h₁ : Heap} {tk : Nat} (S : OneCell N x y F.scope) (hd : A.handled = none) (e0 : Env0 P w K mg base A outer s H) (r : RelV v u) (C : CellsAt F.cl [y] [o] s.heap H)
    (hns : h₁.Ns s.heap.objs.size fun _ => none) (hc : h₁.IsCell (s.heap.objs.size + 1) (some u)) (kp : ∀ b o, s.heap.get? b = some o → h₁.get? b = some o) :
    Inv (dcx CX P w K mg base N F x f A outer s H E) [] (some v :: o :: List.replicate (N.length - 2) none) H { s with heap := h₁, toks := tk } := by
  have hN : 2 ≤ N.length := by
    have := (List.getElem?_eq_some_iff.mp S.at1).1
    omega
  have noA : ∀ b : Addr, ¬ b ∈ (dcx CX P w K mg base N F x f A outer s H E).ex := fun b z => absurd (show b ∈ ([] : List Addr) from z) (by simp)
  have cellK : ∀ {c : Addr} {v : Option Value}, s.heap.IsCell c v → h₁.IsCell c v := fun {c v} ⟨o, ho, hd⟩ => ⟨o, kp _ _ ho, hd⟩
  have old : ∀ z c, F.cl.lookup z = some c → c < s.heap.objs.size := fun z c e => by
    obtain ⟨_, v, q⟩ := C.all z c e
    exact q.lt
  have split : ∀ z c, (((x, s.heap.objs.size + 1) :: F.cl) : List (Str × Addr)).lookup z = some c → (z = x ∧ c = s.heap.objs.size + 1) ∨ (z ≠ x ∧ F.cl.lookup z = some c) := fun z c e => by
    rw [List.lookup_cons] at e
    by_cases q : z = x
    · rw [beq_iff_eq.mpr q] at e
      cases e
      exact .inl ⟨q, rfl⟩
    · rw [beq_eq_false_iff_ne.mpr q] at e
      exact .inr ⟨q, e⟩
  have apart : ∀ z z' c, (((x, s.heap.objs.size + 1) :: F.cl) : List (Str × Addr)).lookup z = some c → (((x, s.heap.objs.size + 1) :: F.cl) : List (Str × Addr)).lookup z' = some c → z = z' := fun z z' c e e' => by
    rcases split z c e with ⟨a, b⟩ | ⟨a, b⟩ <;> rcases split z' c e' with ⟨a', b'⟩ | ⟨a', b'⟩
    · rw [a, a']
    · have := old z' c b'
      rw [b] at this
      exact absurd this (Nat.not_lt.mpr (Nat.le_succ _))
    · have := old z c b
      rw [b'] at this
      exact absurd this (Nat.not_lt.mpr (Nat.le_succ _))
    · exact C.inj z z' c b b'
  have ne_xy : y ≠ x := fun z => by
    have := S.kx
    rw [← z, S.ky] at this
    cases this
  obtain ⟨cy, hcy, hvy⟩ := C.has 0 y rfl
  have hy' : (((x, s.heap.objs.size + 1) :: F.cl) : List (Str × Addr)).lookup y = some cy := by
    rw [List.lookup_cons, beq_eq_false_iff_ne.mpr ne_xy]
    exact hcy
  refine ⟨⟨e0.mod, S.kind, rfl, rfl, Nat.le_refl _, fun z z' c => apart z z' c, fun z hz => ?_, fun z c q _ => ?_, fun _ => hd, Around.frames_deeper e0.frames, .inr ⟨rfl, rfl⟩, fun b z => absurd z (noA b), e0.bs, e0.bsz, fun b _ _ => noA b,
      fun b z => absurd z (noA b), e0.funs, e0.frf⟩,
    rfl, e0.bare, Un.kept kp, ⟨_, hns, fun i z v' e1 e2 e3 => ?_⟩, fun z c e => ?_, e0.hok.fresh (Nat.le_refl _), fun z c e => ?_, fun q hq => absurd (show q ∈ ([] : List (Addr × Obj)) ++ [] from hq) (by simp), e0.hok.kept kp, ?_⟩
  · have hz : F.scope.names.lookup z = some .cell ∨ F.scope.names.lookup z = some .free := hz
    rcases hz with hz | hz
    · obtain rfl : z = x := S.cell _ (PySem.mem_of_lookup hz) rfl
      exact ⟨_, List.lookup_cons_self ..⟩
    · obtain rfl : z = y := S.free _ (PySem.mem_of_lookup hz) rfl
      exact ⟨cy, hy'⟩
  · have q : false = true := q
    cases q
  · have e1 : N[i]? = some z := e1
    match i, e1, e2 with
    | 0, e1, e2 =>
      rw [S.at0] at e1
      cases e1
      have e2 : some (some v) = some (some v') := e2
      cases e2
      exact ⟨u, r, .inr ⟨.inl S.kx, _, List.lookup_cons_self .., hc⟩⟩
    | 1, e1, e2 =>
      rw [S.at1] at e1
      cases e1
      have e2 : some o = some (some v') := e2
      cases e2
      obtain ⟨uy, ry, iy⟩ := hvy v' rfl
      exact ⟨uy, ry, .inr ⟨.inr S.ky, cy, hy', cellK iy⟩⟩
    | i + 2, e1, e2 =>
      rw [List.getElem?_cons_succ, List.getElem?_cons_succ, List.getElem?_replicate] at e2
      split at e2 <;> cases e2
  · rcases split z c e with ⟨_, rfl⟩ | ⟨_, b⟩
    · exact ⟨_, hc⟩
    · obtain ⟨v', q⟩ := (C.all z c b).2
      exact ⟨v', cellK q⟩
  · rcases split z c e with ⟨_, rfl⟩ | ⟨_, b⟩
    · exact e0.hok.fresh (Nat.le_succ _)
    · exact (C.all z c b).1
  · show _ = N.length
    rw [List.length_cons, List.length_cons, List.length_replicate]
    omega
theorem nokD_of (S : OneCell N x y F.scope) (hb : ∀ (doc pm ctv : Value) (us : List Value), us.length = 1 → bindArgs (F.fd doc pm ctv) ⟨us, []⟩ = pure ([x].zip us)) (len : ∀ ws vs H Q E, sp ws vs H Q E → vs.length = 1)
    (hbody : ∀ (A : Around) (outer : List Env) (s : Shared) (H : Hp) (v : V) (o : Option V) (Q : VK) (E : XK), Room k (A.deeper (envD F x f s.heap.objs.size)) → sp [o] [v] H Q E →
      ∃ t, PSs (dcx CX P w K mg base N F x f A outer s H E) F.body t ∧ t { nx := fun _ H' => Q .non H', rt := Q } (some v :: o :: List.replicate (N.length - 2) none) H) :
    NOk P w K mg base CX (k + 1) f F [x] [y] sp := by
  refine ⟨len, fun A outer s H us vs ws Q E hr e0 hf hc C r hsp => ?_⟩
  have hl := len _ _ _ _ _ hsp
  have lim : s.heap.NoLimit := e0.mod.nolimit.keeps fun b o e => (e0.bs b o e).1
  obtain ⟨od, sl, doc, pm, ctv, ho⟩ := fnO_at e0.hok hf
  obtain ⟨v, rfl⟩ : ∃ v, vs = [v] := by
    match vs, hl with
    | [v], _ => exact ⟨v, rfl⟩
  obtain ⟨o, rfl⟩ : ∃ o, ws = [o] := by
    match ws, C.len with
    | [o], _ => exact ⟨o, rfl⟩
  cases r with
  | cons r0 rr =>
    cases rr
    rename_i u
    refine codeAny_call_function hr.depth ho rfl S.co S.gen rfl (codeO_at e0.hok hc) ?_
    rw [hb doc pm ctv [u] rfl]
    refine wpAny_pure (newEnv_one S fun h₁ tk hns hcell kp => ⟨lim.keeps kp, ?_⟩)
    show codeAny _ _ (.func F.body (envD F x f s.heap.objs.size)) _ _
    refine codeAny_func ?_
    obtain ⟨t, ht, hq⟩ := hbody A outer s H v o Q E (hr.deeper _) hsp
    have I : Inv (dcx CX P w K mg base N F x f A outer s H E) [] (some v :: o :: List.replicate (N.length - 2) none) H { s with heap := h₁, toks := tk } := inv_startD S hr.hd e0 r0 C hns hcell kp
    refine wpAny_mono (ht.run [] _ _ H _ I hq) (fun fl s' hs => ?_) fun e s' hs => hs
    have fin : ∀ {σ' : L2.St} {H' : Hp} {v : V} {u : Value}, Inv (dcx CX P w K mg base N F x f A outer s H E) [] σ' H' s' → L2.RelV v u → Q v H' → CE outer P w H s Q u s' :=
      fun {σ' H' v u} J rv q => ⟨v, H', J.os, J.bare, J.base, J.hok, rv, q⟩
    cases fl with
    | ret u =>
      obtain ⟨v, σ', H', J, rv, q⟩ := hs
      exact fin J rv q
    | next =>
      obtain ⟨σ', H', J, q⟩ := hs
      exact fin (v := V.non) (u := Value.none) J rfl q
    | brk =>
      obtain ⟨_, _, _, q⟩ := hs
      exact False.elim q
    | cont =>
      obtain ⟨_, _, _, q⟩ := hs
      exact False.elim q
end
/-- a def of the text whose code object is at c -/
structure FunC (K : PySem.W.Frag) (x qual : Str) (st : Stmt) (f : Addr) (fd : FuncData) (c : Addr) : Prop where
  ex : ∃ (oc : Value) (od : Option Addr) (kV doc pm : Value) (an : Option Addr) (ct : Value) (osl : Array (Option Value)),
    fd = PySem.W.fnOf x qual (defArgs st) (defBody st) (defScope st) .none kV doc pm an (.ref c) ct ∧ K.lookup f = some ⟨oc, od, .func fd, osl⟩ ∧ PySem.W.codeIn K (.ref c) qual = true
theorem FunC.okX {P : Program} {w : World} {K : PySem.W.Frag} {mg : Str → Option Value} {base : Heap} {x qual : Str} {st : Stmt} {f c : Addr} {fd : FuncData} {N ps : List Str} {k : Nat} {sp : Sp} (F : FunC K x qual st f fd c) (S : FnScope N ps (defScope st)) (len : ∀ vs H Q E, sp vs H Q E → vs.length = ps.length)
    (body : ∀ (A : Around) (outer : List Env) (s : Shared) (H : Hp) (vs : List V) (Q : VK) (E : XK), Room k (A.deeper (envOfC qual (defScope st) s.heap.objs.size f (.ref c))) → sp vs H Q E →
      ∃ t, PSs (cxOf (L2.CX P w) P w K mg base N qual (defScope st) f (.ref c) A outer s H E) (defBody st) t ∧ t { nx := fun _ H' => Q .non H', rt := Q } (L2.start N vs) H) : FnOk P w K mg base (L2.CX P w) (k + 1) f fd ps sp := by
  obtain ⟨oc, od, kV, doc, pm, an, ct, osl, rfl, lk, hcd⟩ := F.ex
  exact fn_of lk hcd S len fun A outer s H vs Q E hr hsp => body A outer s H vs Q E hr hsp
/-- a call of a def of the text, in the ground with one cell more -/
def tCallG (i : Nat) (sp : Addr → V → Sp) (t : TA) : TE := fun σ H Q => ∃ z v, σ[i]? = some (some v) ∧ t σ H fun vs H1 => sp z v vs H1 Q E0
theorem pe_callG {X : Cx} {i k j : Nat} {f : Addr} {fd : FuncData} {ps : List Str} {x y : Str} {sp : Addr → V → Sp} {e : Expr} {es : List Expr} {t : TA} {p pos : Pos}
    (F : ∀ (z : Addr) (B : Heap) (c : Addr) (u : Value) (v : V), X.env.cells.lookup y = some c → RelV v u → B.IsCell c (some u) → (∀ b o, X.base.get? b = some o → B.get? b = some o) → FnOk X.prog X.w X.K X.mg B CX0 k f fd ps (sp z v))
    (hr : Room j X.A) (hk : k ≤ j) (hg : Gl X x) (hm : X.mg x = some (.ref f)) (hkp : PySem.W.keepIn X.K (.ref f) = true) (hb : Binds X.K fd ps []) (at_ : X.N[i]? = some y) (kind : X.env.scope.names.lookup y = some .cell) (hfn : X.fn y = true) (ha : PA X (e :: es) t)
    (hdb : (x == ("__debug__" : Str)) = false := by decide) (he : starEach (e :: es) X.env = (false, eval e X.env) :: starEach es X.env := by rfl) (hpl : (backTo pos (starEach es X.env)).any (·.1) = false := by rfl) :
    PE X (.Call (.Name x p) (e :: es) [] pos) (tCallG i sp t) := by
  refine ⟨fun pins s τ H Q I h => ?_⟩
  obtain ⟨z, v, hv, ht⟩ := h
  refine wpAny_Call_Name_kw (ld_glob I hg hm ?_ hdb)
  refine PySem.W.callWith_K (h₀ := X.base) I.ok.mod.kin hkp (thn (ha.run pos pins s τ H _ I ht) fun us s1 ⟨vs, H1, J, r, q⟩ => ⟨J.kIn, ?_⟩) he hpl
  obtain ⟨m, _, hl⟩ := J.loc
  obtain ⟨u, rv, look⟩ := hl i y v at_ hv (.inr (.inl kind))
  rcases look with ⟨z, _⟩ | ⟨_, c, hc, hcell⟩
  · have z : X.env.scope.names.lookup y = some .local := z
    rw [kind] at z
    cases z
  · obtain ⟨B, keep, hB, e0⟩ := env0_cell J hfn hc hcell
    have G := F z B c u v hc rv hB keep
    have hl : us.length = ps.length := by rw [← r.length]; exact G.len _ _ _ _ q
    refine wpAny_call (codeAny_mono (G.run X.A X.stack s1 H1 ⟨us, []⟩ us vs Q E0 (hr.mono hk) e0 (by have := hb s1 us J.kIn (by simpa using hl); simpa using this) r q) fun rr s' hq => ?_)
    cases rr with
    | error e => exact pass0 pins τ H1 s1 e s' J hq
    | ok fl =>
      cases fl with
      | ret u => exact J.after hq
      | next => exact False.elim hq
      | brk => exact False.elim hq
      | cont => exact False.elim hq
theorem HeldF.imp {P : Program} {w : World} {K : PySem.W.Frag} {mg : Str → Option Value} {base : Heap} {k n : Nat} {F : NF} {sp sp' : Sp} (h : HeldF P w K mg base k F n sp) (g : ∀ vs H Q E, sp' vs H Q E → sp vs H Q E) : HeldF P w K mg base k F n sp' :=
  ⟨fun vs H Q E q => h.len vs H Q E (g _ _ _ _ q), fun f A outer s H us vs Q E hr e0 hf hc r q => h.run f A outer s H us vs Q E hr e0 hf hc r (g _ _ _ _ q)⟩
/-- what a closure with one captured name holds -/
theorem clo_one {cells : List (Str × Addr)} {names : List (Str × NameKind)} {y : Str} {c : Addr} (only : ∀ z ∈ names, z.2 = .free → z.1 = y) (hy : (y, NameKind.free) ∈ names) (hc : cells.lookup y = some c) :
    (cloFrom cells names []).lookup y = some c ∧ ∀ z d, (cloFrom cells names []).lookup z = some d → z = y := by
  refine ⟨clo_has (fun z hz e => ⟨c, by rw [only z hz e]; exact hc⟩) hy hc, fun z d e => ?_⟩
  rcases cloFrom_mem (PySem.mem_of_lookup e) with hm | ⟨h1, _⟩
  · cases hm
  · exact only _ h1 rfl
theorem tp_ext {H H' : Hp} {a : Addr} {xs : List V} (s : ExtN H H') (h : Tp H a xs) : Tp H' a xs := s _ _ h fun _ z => nomatch z
theorem DT.ext {K : PySem.W.Frag} {H H' : Hp} {v : V} {d : PyData} (h : DT K H v d) (s : ExtN H H') : DT K H' v d := DT.mono (fun _ _ => tp_ext s) d v h
theorem DTs.ext {K : PySem.W.Frag} {H H' : Hp} {v : List V} {d : List PyData} (h : DTs K H v d) (s : ExtN H H') : DTs K H' v d := DTs.mono (fun _ _ => tp_ext s) d v h
theorem Same.ext {H H' : Hp} (s : Same H H') : ExtN H H' := fun b o h _ => s b o h
theorem TabsN.same {T : List NTab} {H H' : Hp} (h : TabsN T H) (s : Same H H') : TabsN T H' := h.ext s
end Nl

/-! a list comprehension whose element may let an exception out -/
namespace Nl
open PySem PySem.Spec PyProof.Rows L2
theorem note_frame {x : Value} {a b : Env} (h : a.frame = b.frame) : noteFrame x a = noteFrame x b := by
  unfold noteFrame PySem.frameOf
  rw [h]
section
variable {M : Model} {A : Around} {E : Value → Shared → Prop} {s : Shared} {env : Env}
/-- what holds behind a comprehension's code, its environment told -/
def postX (M : Model) (A : Around) (E : Value → Shared → Prop) (use : Option (Value → Sem Unit)) (Q : Value → Shared → Prop) (acc : Value) (ce : Env) : Result → Shared → Prop
  | .ok f, s' => compPost M A E use Q acc ce.locals (.ok f) s'
  | .error x, s' => ∃ m, s'.heap.Ns ce.locals m ∧ ∀ h', Heap.SameBut ce.locals s'.heap h' →
      wpAny M A (passOn "comprehension.variables-let-go" x ce : Sem Value) (fun _ _ => False) E { s' with heap := h' }
theorem comp_freeX {e : Expr} {scope : Scope} {pos : Pos} {mk first : Sem Value} {g : Comprehension} {gs : List Comprehension} {cl : List (Str × Addr)} {use : Option (Value → Sem Unit)} {Q : Value → Shared → Prop}
    (hcl : clausesOf e = g :: gs) (hfold : ∀ x, foldedSetIterable g.iter env x = pure x) (hclo : closureFor scope env = pure cl) (hk : scope.kind = .function) (hloc : ∀ x ∈ scope.names, x.2 = .local → scope.names.lookup x.1 = some .local)
    (h : wpAny M A first (fun x s1 => wpAny M A (pyIter x) (fun it s2 => wpAny M A mk (fun acc s3 =>
        wpAny M A (newFunctionEnv scope env.globals cl [] env.qual none .none (some env))
          (fun ce s4 => codeAny M A (.compStart e 0 it acc { ce with scope := relabel scope env }) (postX M A E use Q acc { ce with scope := relabel scope env }) s4) E s3) E s2) E s1) E s) :
    wpAny M A (comprehension e scope env pos mk false first use) Q E s := by
  have up : ∀ {α : Type} {t : Sem α} {R R' : α → Shared → Prop} {s : Shared}, wpAny M A t R E s → (∀ a s, R a s → R' a s) → wpAny M A t R' E s := fun h k => wpAny_mono h k fun _ _ z => z
  unfold comprehension
  rw [hclo, hcl]
  refine wpAny_bind (up h fun x s1 h1 => ?_)
  refine wpAny_bind (wpAny_standAt (wpAny_bind (wpAny_of_eq (hfold x) (wpAny_bind (wpAny_holding (up h1 fun it s2 h2 => ?_))))))
  refine wpAny_standIf (wpAny_bind (up h2 fun acc s3 h3 => wpAny_bind (wpAny_pure (wpAny_bind (up h3 fun ce s4 h4 => ?_)))))
  dsimp only
  have lo : ∀ (vs : List (Str × NameKind)), (∀ x ∈ vs, x ∈ scope.names) → ∀ x ∈ vs, x.2 = .local → Env.kindOf { ce with scope := relabel scope env } x.1 = some .local :=
    fun vs hvs x hx hl => lookup_relabel_local (hloc x (hvs x hx) hl)
  have sub1 : ∀ x ∈ (scope.names.filter fun x => (x.2 == .local || x.2 == .cell) && x.1 != (".0" : Str)).reverse, x ∈ scope.names := fun x hx => (List.mem_filter.mp (List.mem_reverse.mp hx)).1
  have sub2 : ∀ x ∈ (scope.names.filter fun x => (x.2 == .local || x.2 == .cell) && x.1 != (".0" : Str)).reverse.drop 1 ++ (scope.names.filter fun x => (x.2 == .local || x.2 == .cell) && x.1 != (".0" : Str)).reverse.take 1, x ∈ scope.names := fun x hx => by
    rcases List.mem_append.mp hx with q | q
    · exact sub1 x (List.mem_of_mem_drop q)
    · exact sub1 x (List.mem_of_mem_take q)
  refine wpAny_holding (wpAny_bind (wpAny_attempt (wpAny_holding (wpAny_run (codeAny_mono h4 fun r s' hr => ?_)))))
  cases r with
  | ok f =>
    cases use with
    | none =>
      obtain ⟨m, hn, hr⟩ := (show compPost M A E none Q acc ce.locals (.ok f) s' from hr)
      exact wpAny_bind (wpAny_holding (wpAny_comp_letGo (cenv := { ce with scope := relabel scope env }) hk _ s' m (lo _ sub1) hn fun h' _ _ sb => wpAny_pure (hr h' sb)))
    | some u =>
      have hr : wpAny M A (u acc) (fun _ s'' => ∃ m, s''.heap.Ns ce.locals m ∧ ∀ h', Heap.SameBut ce.locals s''.heap h' → Q .none { s'' with heap := h' }) E s' := hr
      refine wpAny_bind (wpAny_rule (wpAny_bind (wpAny_holding (up hr fun _ s'' q => ?_))))
      obtain ⟨m, hn, q⟩ := q
      exact wpAny_bind (wpAny_comp_letGo (cenv := { ce with scope := relabel scope env }) hk _ s'' m (lo _ sub2) hn fun h' _ _ sb => wpAny_pure (q h' sb))
  | error x =>
    have hr : ∃ m, s'.heap.Ns ce.locals m ∧ ∀ h', Heap.SameBut ce.locals s'.heap h' →
      wpAny M A (passOn "comprehension.variables-let-go" x { ce with scope := relabel scope env } : Sem Value) (fun _ _ => False) E { s' with heap := h' } := by cases use <;> exact hr
    obtain ⟨m, hn, hr⟩ := hr
    exact wpAny_bind (wpAny_holding (wpAny_comp_letGo (cenv := { ce with scope := relabel scope env }) hk _ s' m (lo _ sub1) hn fun h' _ _ sb => wpAny_mono (hr h' sb) (fun _ _ f => f.elim) fun _ _ y => y))
end
/-- a heap without one object -/
abbrev less (h : Heap) (C : Addr) : Heap := PySem.W.hideAll h [C]
theorem less_get {h : Heap} {C b : Addr} {o : Obj} (e : h.get? b = some o) (n : b ≠ C) : (less h C).get? b = some o := PySem.W.hideAll_get _ e (by simpa using n)
theorem of_less {h : Heap} {C b : Addr} {o : Obj} (e : (less h C).get? b = some o) : h.get? b = some o ∧ b ≠ C := by
  refine ⟨PySem.W.of_hideAll _ e, fun z => ?_⟩
  rw [PySem.W.hideAll_none [C] (by simp [z])] at e
  cases e
theorem ff_keep {h h' base : Heap} : ∀ {l : List Env}, (∀ L ∈ frs l, ∀ o, h.get? L = some o → h'.get? L = some o) → h.FunFrames base l → h'.FunFrames base l
  | [], _, _ => trivial
  | env :: l, k, x => by
    obtain ⟨hk, ⟨L, o, hf, hn, ho, hd⟩, hr⟩ := x
    exact ⟨hk, ⟨L, o, hf, hn, k L (List.mem_filterMap.mpr ⟨env, List.mem_cons_self, hf⟩) o ho, hd⟩, ff_keep (fun L hL => k L (by
      obtain ⟨e, he, q⟩ := List.mem_filterMap.mp hL
      exact List.mem_filterMap.mpr ⟨e, List.mem_cons_of_mem _ he, q⟩)) hr⟩
/-- noted in another place before: the entry of this frame is new -/
theorem look_other {M : Model} {A : Around} {E : Value → Shared → Prop} {s : Shared} {Z : Obj → Prop} {base : Heap} {env : Env} {outer : List Env} {L e : Addr} {fl : Value} {Q : Unit → Shared → Prop} (hZ : HandSPX.Steady Z)
    (hfr : A.frames = some (env :: outer)) (hf : env.frame = some L) (hkb : base.StaysIn s.heap) (hen : base.get? e = none) (hl : s.heap.FunFrames base (env :: outer)) (ht : HandSPX.TracedZ s.heap base e Z fl) (hfl : (fl == rawInt L) = false)
    (hQ : ∀ h', HandSPX.HeldZ base (env :: outer) e Z L h' → s.heap.UpToSlots h' → Q () { s with heap := h' }) : wpAny M A (noteFrame (.ref e) env) Q E s := by
  obtain ⟨oe, vs, T, oT, ts, he, hz, hd, h1, hnT, hTe, hT, hdT, h3⟩ := ht
  have ne : ∀ b, b ≠ T → (s.heap.update T (Obj.mapFields (·.setIfInBounds 3 Value.none))).get? b = s.heap.get? b :=
    fun b hb => Heap.get?_update_other _ _ (Ne.symm hb)
  have nT : ∀ b o, s.heap.get? b = some o → (∀ vs, o.data ≠ .fields vs) → b ≠ T := fun b o hb nf z => by
    subst z
    rw [hT] at hb
    cases hb
    exact nf ts hdT
  unfold noteFrame
  simp only [hf]
  refine wpAny_bind (wpAny_field he hd h1 ?_)
  rw [if_pos (show (Value.ref T != Value.none) = true from by simp)]
  refine wpAny_bind (wpAny_field hT hdT h3 ?_)
  rw [if_neg (by rw [hfl]; exact Bool.false_ne_true)]
  refine wpAny_bind (wpAny_setField hT hdT (Array.getElem?_eq_some_iff.mp h3).1 ?_)
  refine HandSPX.wpAny_entryZ hZ hfr (hl.of_keeps fun b o hb nf => ⟨o, (ne b (nT b o hb nf)).trans hb, rfl⟩) hf ((ne e (Ne.symm hTe)).trans he)
    (fun b o hb => (ne b fun z => by rw [z, hnT] at hb; cases hb).trans (hkb b o hb)) hen hd (Array.getElem?_eq_some_iff.mp h1).1 hz fun h' hN => ?_
  obtain ⟨x1, x2, x3, x4⟩ := hN
  exact hQ h' ⟨x1, hen, x2, x3⟩ fun b o hb nf => x4 b o ((ne b (nT b o hb nf)).trans hb) nf
section
variable {X : Cx} {pins : List (Addr × Obj)} {σ : L2.St} {H H' : Hp}
/-- an exception out of a block's element: noted in the def's frame, the block's names let go, and in the def's air -/
theorem block_out {Wk : XK} {s0 : Shared} {H0 : Hp} {scope : Scope} {ce : Env} {fp : List Addr} {u : Value} {s' : Shared}
    (tk : Takes X fun cls d _ H => Wk cls d H) (hs : X.stack = X.env :: X.outer) (hf : X.env.frame = some X.env.locals) (hce : ce.frame = X.env.frame)
    (I0 : Inv X pins σ H0 s0) (hC : ce.locals = s0.heap.objs.size) (hfp : ∀ b ∈ fp, FpOk X pins H0 b)
    (x : XE (X.blk s0 H0 scope ce fp) (fun cls d _ H => Wk cls d H) u s') :
    notedBy (model X.prog X.w) X.A ce (fun e s1 => ∃ m, s1.heap.Ns ce.locals m ∧ ∀ h', Heap.SameBut ce.locals s1.heap h' →
      wpAny (model X.prog X.w) X.A (passOn "comprehension.variables-let-go" e ce : Sem Value) (fun _ _ => False) X.xe { s1 with heap := h' }) u s' := by
  obtain ⟨a, B, sI, pb, σb, H', cls, d, rfl, Ib, nb, up, sky, na, os, ag, w⟩ := x
  have nb : ∀ b o, sI.heap.get? b = some o → b ∉ frs X.stack → B.get? b = some o := nb
  have I7 : Inv X pins σ H' sI := I0.call' (ch := fp) Ib.os Ib.base Ib.hok Ib.bare fun b hb => ⟨(hfp b hb).2.2.2.1, (hfp b hb).2.1, (hfp b hb).2.2.2.2.1, (hfp b hb).2.2.2.2.2⟩
  have nC : H' ce.locals = none := Ib.free
  have fC := I0.fpOk (b := ce.locals) (H' := H') (by rw [hC]; exact Nat.le_refl _) nC
  obtain ⟨f0, f1, f2, f3, f4, f5⟩ := fC
  obtain ⟨m, hn, _⟩ := Ib.loc
  have hn : sI.heap.Ns ce.locals m := hn
  obtain ⟨oC, es, ep, hoC, rest⟩ := id hn
  have cF : ce.locals ∉ frs X.stack := fun z => by
    obtain ⟨_, o, ho, _⟩ := I0.stack.mem z
    have := Heap.lt_size ho
    rw [hC] at this
    exact absurd this (Nat.lt_irrefl _)
  have bC : B.get? ce.locals = some oC := nb _ _ hoC cF
  have hfr : X.A.frames = some (X.env :: X.outer) := by rw [I7.ok.frames, hs]
  show wpAny (model X.prog X.w) X.A (noteFrame (.ref a) ce) _ _ s'
  rw [note_frame hce]
  have go : ∀ h1, HandSPX.HeldZ B (X.env :: X.outer) a (Zc cls d) X.env.locals h1 → s'.heap.UpToSlots h1 →
      ∃ m, h1.Ns ce.locals m ∧ ∀ h', Heap.SameBut ce.locals h1 h' →
        wpAny (model X.prog X.w) X.A (passOn "comprehension.variables-let-go" (.ref a) ce : Sem Value) (fun _ _ => False) X.xe { s' with heap := h' } := by
    intro h1 hh up1
    obtain ⟨g1, g2, g3, oe, vs, T, oT, ts, t1, t2, t3, t4, t5, t6, t7, t8, t9⟩ := hh
    refine ⟨m, ⟨oC, es, ep, g1 _ _ bC, rest⟩, fun h' sb => ?_⟩
    have aC : a ≠ ce.locals := fun z => by
      rw [z, bC] at g2
      cases g2
    have tC : T ≠ ce.locals := fun z => by
      rw [z, bC] at t5
      cases t5
    have keep : ∀ b o, b ≠ ce.locals → h1.get? b = some o → h'.get? b = some o := fun b o n e => (sb.2 b n).trans e
    have frB : ∀ L ∈ frs (X.env :: X.outer), (less B ce.locals).get? L = none := fun L hL => by
      cases q : (less B ce.locals).get? L with
      | none => rfl
      | some o =>
        have := (g3.mem hL).1
        rw [(of_less q).1] at this
        cases this
    have held : HandSPX.HeldZ (less B ce.locals) (X.env :: X.outer) a (Zc cls d) X.env.locals h' := by
      refine ⟨fun b o e => keep b o (of_less e).2 (g1 b o (of_less e).1), ?_, ?_, oe, vs, T, oT, ts, keep _ _ aC t1, t2, t3, t4, ?_, t6, keep _ _ tC t7, t8, t9⟩
      · cases q : (less B ce.locals).get? a with
        | none => rfl
        | some o =>
          rw [(of_less q).1] at g2
          cases g2
      · exact ff_keep (fun L hL o e => keep L o (fun z => cF (by rw [hs, ← z]; exact hL)) e) (funFrames_none g3 frB)
      · cases q : (less B ce.locals).get? T with
        | none => rfl
        | some o =>
          rw [(of_less q).1] at t5
          cases t5
    unfold PySem.passOn
    refine wpAny_bind (wpAny_field (keep _ _ aC t1) t3 t4 ?_)
    rw [if_neg (by simp)]
    dsimp only
    rw [hce, hf]
    refine wpAny_bind (HandSPX.setFlight_onZ held fun h2 hh2 up2 => wpAny_throw (tk _ _ ⟨a, less B ce.locals, { sI with heap := less sI.heap ce.locals }, pins, σ, H', cls, d, rfl, ?_, ?_, ?_, ?_, na, os, ag, w⟩))
    · exact I7.turned (t' := sI.toks) (fun b o n e => less_get e n) f0 f1 f3 f4 f5
    · exact fun b o e n => less_get (nb b o (of_less e).1 n) (of_less e).2
    · intro b o e nf
      obtain ⟨e1, n1⟩ := of_less e
      obtain ⟨sl, e2⟩ := up b o e1 nf
      obtain ⟨sl2, e3⟩ := up1 b _ e2 nf
      obtain ⟨sl3, e4⟩ := up2 b _ (keep b _ n1 e3) nf
      exact ⟨sl3, e4⟩
    · rw [hs]
      exact .inr (.inr hh2)
  rw [hs] at sky
  rcases sky with ⟨hB, hn', hl, oe, vs, he, hz, hd, h1⟩ | fl | hh
  · exact HandSPX.look_newZ Zc.steady hfr hl hf he hB hn' hd h1 hz fun h1 hh up1 => go h1 hh up1
  · exact HandSPX.looks_onZ Zc.steady hfr hf fl fun h1 hh up1 => go h1 hh up1
  · obtain ⟨k1, k2, k3, k4⟩ := hh
    refine look_other Zc.steady hfr hf k1 k2 k3 k4 ?_ fun h1 hh up1 => go h1 hh up1
    have h1 := I0.lt
    have h2 : ce.locals ≠ X.env.locals := by
      rw [hC]
      exact Nat.ne_of_gt h1
    show (rawInt (ce.locals : Int) == rawInt (X.env.locals : Int)) = false
    simpa [rawInt] using fun z => h2 (Int.ofNat.inj z)
end
end Nl

namespace Nl
open PySem PySem.Spec PyProof.Rows L2
section
variable {X : Cx}
/-- an element that may let an exception out -/
def ElX (X : Cx) (scope : Scope) (Wk : XK) (elt : Expr) (te : TE) : Prop :=
  ∀ (s : Shared) (H : Hp) (C : Addr) (cl : List (Str × Addr)) (fp : List Addr) (E : Value → Shared → Prop),
    Takes ((X.blk s H scope (compEnvC scope cl C X.env) fp).wish E) (fun cls d _ H => Wk cls d H) →
      PE ((X.blk s H scope (compEnvC scope cl C X.env) fp).wish E) elt te
abbrev TgX (X : Cx) (scope : Scope) (tg : Expr) (g : TG) : Prop :=
  ∀ (s : Shared) (H : Hp) (C : Addr) (cl : List (Str × Addr)) (fp : List Addr), PG (X.blk s H scope (compEnvC scope cl C X.env) fp) tg g
abbrev TsX (X : Cx) (scope : Scope) (ifs : List Expr) (tt : TT) : Prop :=
  ∀ (s : Shared) (H : Hp) (C : Addr) (cl : List (Str × Addr)) (fp : List Addr), PTs (X.blk s H scope (compEnvC scope cl C X.env) fp) ifs tt
theorem lcx_core {pins : List (Addr × Obj)} {s : Shared} {σ : L2.St} {H : Hp} {Q : VK} {elt tg iter : Expr} {ifs : List Expr} {scope : Scope} {own : List (Str × Nat)} {pos pos' : Pos} {wi : TI} {g : TG} {tt : TT} {te : TE}
    {use : Option (Value → Sem Unit)} {Qf : Value → Shared → Prop} {Wk : XK} (hc : X.calm = true) (hN : X.N.Nodup) (hs : X.stack = X.env :: X.outer) (hf : X.env.frame = some X.env.locals)
    (tk : Takes X fun cls d _ H => Wk cls d H) (I : Inv X pins σ H s) (hi : PI X tg iter wi) (ok : BlkOk X.N X.env.scope scope own) (hg : TgX X scope tg g) (ht : TsX X scope ifs tt) (he : ElX X scope Wk elt te)
    (hfold : ∀ x, foldedSetIterable iter X.env x = pure x) (h : tLc wi g tt te (own.map (·.2)) σ H Q)
    (hRR : ∀ D C s' m H', Inv X pins σ H' s' → Q (.ref D) H' → s'.heap.Ns C m → FpOk X pins H' C → compPost (model X.prog X.w) X.A X.xe use Qf (.ref D) C (.ok .next) s') :
    wpAny (model X.prog X.w) X.A (comprehension (.ListComp elt [⟨tg, iter, ifs, 0⟩] scope pos) scope X.env pos' (newList []) false (eval iter X.env) use) Qf X.xe s := by
  have free : ∀ y ∈ scope.names, y.2 = .free → ∃ c, X.env.cells.lookup y.1 = some c := fun y hy e => by
    rcases ok.free y hy e with k | k
    · exact I.ok.has _ (.inl k)
    · exact I.ok.has _ (.inr k)
  refine comp_freeX (use := use) rfl hfold (closure_ok free) ok.kind (fun y hy e => by rw [ok.uniq y hy, e])
    (thn (hi.run pins s σ H _ I h) fun xv s1 hx => thn hx fun itv s2 hit => ?_)
  obtain ⟨it, fp, tn, J, H2, e, I2, T, st2, f2, q⟩ := hit
  subst e
  refine wpAny_newObj_type (newEnv_comp ?_) (by show 0 ≤ sizeLine; decide)
  generalize hD : s2.heap.objs.size = D
  have freshD : H2 D = none := I2.hok.fresh (Nat.le_of_eq hD)
  obtain ⟨W, ⟨m0, w0⟩, turn⟩ := q D freshD
  -- the state with the new list
  generalize hs3 : ({ s2 with heap := s2.heap.push { cls := .type "list", data := .seq ([] : List Value).toArray } } : Shared) = s3
  have h3 : s3.heap = s2.heap.push { cls := .type "list", data := .seq ([] : List Value).toArray } := by rw [← hs3]
  have I3 : Inv X pins σ (upd H2 D (.lst [])) s3 := by
    rw [← hs3]
    refine I2.laid (t' := s2.toks) (fun b o e => Heap.get?_push_of_some _ e) (Nat.le_of_eq hD) ⟨Nat.zero_le _, [], 0, .nil, ?_⟩
    rw [← hD]
    exact Heap.get?_push_size _ rfl
  have f3 : ∀ b ∈ fp, FpOk X pins (upd H2 D (.lst [])) b ∧ b < s3.heap.objs.size := fun b hb => by
    obtain ⟨o, eo, _⟩ := T.obj _ _ st2 b hb
    have lt := Heap.lt_size eo
    refine ⟨⟨?_, (f2 b hb).2⟩, by rw [h3, Heap.size_push]; exact Nat.lt_succ_of_lt lt⟩
    rw [upd_ne (by rw [← hD]; exact Nat.ne_of_lt lt)]
    exact (f2 b hb).1
  have st3 : tn 0 s3.heap := T.keep _ _ _ st2 fun b _ o e => by
    rw [h3]
    exact Heap.get?_push_of_some _ e
  have I4 := block_start I3 ok hN f3
  -- the block's rules
  generalize hcl : cellsFrom (s3.heap.objs.size + 1) scope.names (cloFrom X.env.cells scope.names []) = cl at I4
  have pg := hg s3 (upd H2 D (.lst [])) s3.heap.objs.size cl fp
  have pt := ht s3 (upd H2 D (.lst [])) s3.heap.objs.size cl fp
  have pe := he s3 (upd H2 D (.lst [])) s3.heap.objs.size cl fp (XE (X.blk s3 (upd H2 D (.lst [])) scope (compEnvC scope cl s3.heap.objs.size X.env) fp) fun cls d _ H => Wk cls d H) (fun u s' x => by
    obtain ⟨a, B, sI, pb, σb, H', cls, d, e, Ib, r⟩ := x
    exact ⟨a, B, sI, pb, σb, H', cls, d, e, Ib.unwish, r⟩)
  show codeAny _ _ (.compStart (.ListComp elt [⟨tg, iter, ifs, 0⟩] scope pos) 0 (.ref it) (.ref D) (compEnvC scope cl s3.heap.objs.size X.env))
    (postX (model X.prog X.w) X.A X.xe use Qf (.ref D) (compEnvC scope cl s3.heap.objs.size X.env)) { s3 with heap := pushCells (s3.heap.push { cls := .type "dict", data := .dict #[] }) scope.names }
  have nfp : ∀ b ∈ fp, (upd H2 D (.lst [])) b = none := fun b hb => (f3 b hb).1.1
  generalize hce : compEnvC scope cl s3.heap.objs.size X.env = ce at I4 pg pt pe ⊢
  have cL : ce.locals = s3.heap.objs.size := by rw [← hce]; rfl
  have cFr : ce.frame = X.env.frame := by rw [← hce]; rfl
  generalize hH3 : upd H2 D (.lst []) = H3 at I3 I4 pg pt pe w0 nfp f3
  generalize hs4 : ({ s3 with heap := pushCells (s3.heap.push { cls := .type "dict", data := .dict #[] }) scope.names } : Shared) = s4 at I4 ⊢
  have st4 : tn 0 s4.heap := T.keep _ _ _ st3 fun b _ o e => by
    rw [← hs4]
    exact pushCells_keeps _ _ _ _ (Heap.get?_push_of_some _ e)
  have stat : ∀ {τ : L2.St} {H' : Hp} {s' : Shared}, Inv (X.blk s3 H3 scope ce fp) [] τ H' s' → (∀ b ∈ fp, H' b = none) → ∀ b ∈ fp, FpOk (X.blk s3 H3 scope ce fp) [] H' b :=
    fun {τ H' s'} I' hn b hb => ⟨hn b hb, (I'.ok.exf b hb).1, I'.ok.exfs b hb, .inl hb, fun x c e => (I'.ok.exf b hb).2 x c e, fun p hp => absurd (show p ∈ ([] : List (Addr × Obj)) ++ [] from hp) (by simp)⟩
  have loop : codeAny (model X.prog X.w) X.A (.compLoop (.ListComp elt [⟨tg, iter, ifs, 0⟩] scope pos) 0 (.ref it) (.ref D) ce) (postX (model X.prog X.w) X.A X.xe use Qf (.ref D) ce) s4 := by
    refine compLoop_any (fun n s' => ∃ i H', Inv (X.blk s3 H3 scope ce fp) [] (wipe σ (own.map (·.2))) H' s' ∧ tn i s'.heap ∧ (∀ b ∈ fp, H' b = none) ∧ W i n H') ?_ m0 ⟨0, H3, I4, st4, nfp, w0⟩
    rintro n s5 ⟨i, H5, I5, st5, n5, w5⟩
    rcases turn i n H5 w5 with ⟨stop, qq⟩ | ⟨go, Nx, hNx, step⟩
    · refine thnF (T.done (X.blk s3 H3 scope ce fp) rfl rfl rfl hc i [] s5 _ H5 (fun _ _ => False) I5 (stat I5 n5) st5 stop) fun r s6 ⟨hr, I6⟩ => ?_
      subst hr
      have I7 : Inv X pins σ H5 s6 := I3.call' (ch := fp) I6.os I6.base I6.hok I6.bare fun b hb => ⟨(f3 b hb).1.2.2.2.1, (f3 b hb).1.2.1, (f3 b hb).1.2.2.2.2.1, (f3 b hb).1.2.2.2.2.2⟩
      have nC : H5 ce.locals = none := I6.free
      obtain ⟨m, hn, _⟩ := I6.loc
      have hn : s6.heap.Ns ce.locals m := hn
      exact hRR D ce.locals s6 m H5 I7 qq hn (I3.fpOk (Nat.le_of_eq cL.symm) nC)
    · refine thnF (T.item (X.blk s3 H3 scope ce fp) rfl rfl rfl hc i [] s5 _ H5 (fun _ _ => False) I5 (stat I5 n5) st5 go) fun r s6 ⟨u, hr, h6⟩ => ?_
      subst hr
      refine thnF h6 fun _ s7 ⟨x, H7, I7, r7, y7, st7, n7⟩ => ?_
      refine thnF (pg.run _ s7 _ H7 x u _ (I7.pinned (stat I7 n7) (T.obj _ _ st7)) r7 (step x H7 y7)) fun _ s8 ⟨σ8, H8, I8, hw8, q8⟩ => ?_
      refine thnF (pt.run _ s8 σ8 H8 _ I8 q8) fun b s9 ⟨H9, I9, q9⟩ => ?_
      have fin : ∀ {s' : Shared} {H' : Hp}, Inv (X.blk s3 H3 scope ce fp) ([] ++ pinsAt fp s7.heap) σ8 H' s' → Nx H' →
          ∃ m, m < n ∧ ∃ i H', Inv (X.blk s3 H3 scope ce fp) [] (wipe σ (own.map (·.2))) H' s' ∧ tn i s'.heap ∧ (∀ b ∈ fp, H' b = none) ∧ W i m H' := fun {s' H'} I' nx => by
        obtain ⟨m', hm, w'⟩ := hNx H' nx
        have pin' : ∀ b ∈ fp, ∀ o, s7.heap.get? b = some o → s'.heap.get? b = some o ∧ H' b = none := fun b hb o e =>
          have z := I'.pin (b, o) (List.mem_append_right _ (List.mem_append_right _ (mem_pinsAt hb e)))
          ⟨z.1, z.2.1⟩
        refine ⟨m', hm, i + 1, H', (I'.unpinned (pins := [])).weak (by rw [← hw8, wipe_length]) (fun j v e => ?_), T.keep _ _ _ st7 fun b hb o e => (pin' b hb o e).1, fun b hb => ?_, w'⟩
        · rw [← hw8] at e
          exact (wipe_some e).1
        · obtain ⟨o, e, _⟩ := T.obj _ _ st7 b hb
          exact (pin' b hb o e).2
      cases b with
      | false =>
        rw [if_neg Bool.false_ne_true] at q9 ⊢
        exact fin I9 q9
      | true =>
        rw [if_pos rfl] at q9 ⊢
        refine wpAny_mono (pe.run _ s9 σ8 H9 _ (I9.wish _) q9) (fun z s10 hz => ?_) fun u s' x => block_out tk hs hf cFr I3 cL (fun b hb => (f3 b hb).1) x
        obtain ⟨yv, H10, I10, r10, acc, hD10, hz10, nx⟩ := hz
        exact app_ok (X := X.blk s3 H3 scope ce fp) I10.unwish hD10 hz10 r10 fun s11 I11 => fin I11 nx
  exact codeAny_compStart_list loop (T.self X.A 0 _ _ _ st4 loop)
/-- as a value -/
theorem pe_lcX {elt tg iter : Expr} {ifs : List Expr} {scope : Scope} {own : List (Str × Nat)} {pos : Pos} {wi : TI} {g : TG} {tt : TT} {te : TE} {Wk : XK} (hc : X.calm = true) (hN : X.N.Nodup) (hs : X.stack = X.env :: X.outer) (hf : X.env.frame = some X.env.locals)
    (tk : Takes X fun cls d _ H => Wk cls d H) (hi : PI X tg iter wi) (ok : BlkOk X.N X.env.scope scope own) (hg : TgX X scope tg g) (ht : TsX X scope ifs tt) (he : ElX X scope Wk elt te)
    (hfold : ∀ x, foldedSetIterable iter X.env x = pure x := by intro _; rfl) :
    PE X (.ListComp elt [⟨tg, iter, ifs, 0⟩] scope pos) (tLc wi g tt te (own.map (·.2))) := by
  refine ⟨fun pins s σ H Q I h => ?_⟩
  rw [eval_ListComp]
  refine lcx_core hc hN hs hf tk I hi ok hg ht he hfold h fun D C s' m H' I' q hn f => ⟨m, hn, fun h' sb => ?_⟩
  obtain ⟨f0, f1, f2, f3, f4, f5⟩ := f
  exact ⟨.ref D, H', I'.turned (t' := s'.toks) (fun b o hb e => (sb.2 b hb).trans e) f0 f1 f3 f4 f5, rfl, q⟩
/-- name = [..] -/
theorem ps_setLcX {i : Nat} {y : Str} {py : Pos} {elt tg iter : Expr} {ifs : List Expr} {scope : Scope} {own : List (Str × Nat)} {pos spos : Pos} {wi : TI} {g : TG} {tt : TT} {te : TE} {Wk : XK} (hc : X.calm = true) (hN : X.N.Nodup) (hy : X.N[i]? = some y) (hyl : X.env.scope.names.lookup y = some .local)
    (hsw : swapsWith (.ListComp elt [⟨tg, iter, ifs, 0⟩] scope pos) (some (.Name y py)) spos.line X.env = pure true) (hs : X.stack = X.env :: X.outer) (hf : X.env.frame = some X.env.locals)
    (tk : Takes X fun cls d _ H => Wk cls d H) (hi : PI X tg iter wi) (ok : BlkOk X.N X.env.scope scope own) (hg : TgX X scope tg g) (ht : TsX X scope ifs tt) (he : ElX X scope Wk elt te)
    (hfold : ∀ x, foldedSetIterable iter X.env x = pure x := by intro _; rfl) :
    PS X (.Assign [.Name y py] (.ListComp elt [⟨tg, iter, ifs, 0⟩] scope pos) spos) (tAsg (tLc wi g tt te (own.map (·.2))) (gName i)) := by
  refine ⟨fun pins s σ H D I h => ?_⟩
  rw [exec_Assign_Name_used _ _ _ _ hsw]
  refine wpAny_bind (wpAny_standAt (wpAny_bind ?_))
  show wpAny _ X.A (do let _ ← comprehension (.ListComp elt [⟨tg, iter, ifs, 0⟩] scope pos) scope X.env (firstIterPos [⟨tg, iter, ifs, 0⟩] pos) (newList []) false (eval iter X.env) (some (assign (.Name y py) X.env))) _ _ s
  have h : tLc wi g tt te (own.map (·.2)) σ H (fun x H1 => gName i x σ H1 D.nx) := h
  refine wpAny_bind (thn (lcx_core (Qf := fun _ s' => SP X pins D .next s') hc hN hs hf tk I hi ok hg ht he hfold h fun L C s' m H' I' q hn f => ?_) fun _ s' hq => wpAny_pure (wpAny_pure hq))
  show wpAny _ _ (assign (.Name y py) X.env (.ref L)) _ _ _
  refine wpAny_assign_Name (store_ok2 (v := V.ref L) I' hN hy (.inl hyl) rfl (fun s2 I2 ⟨a, sb, ha⟩ => ?_) (.inr hyl))
  obtain ⟨f0, f1, f2, f3, f4, f5⟩ := f
  have ne : C ≠ a := by
    rcases ha with z | z
    · rw [z]
      exact f1
    · exact fun e => f4 y a z e.symm
  refine ⟨m, hn.sameBut sb ne, fun h3 sb3 => ?_⟩
  exact ⟨_, H', I2.turned (t' := s2.toks) (fun b o hb e => (sb3.2 b hb).trans e) f0 f1 f3 f4 f5, q⟩
end
end Nl

namespace Nl
open PySem PySem.Spec PyProof.Rows L2
section
variable {prog : Program} {w : World} {A : Around} {E : Value → Shared → Prop} {s : Shared}
theorem join_rev {x : Str} {t : Tok} {it l : Addr} {items : Array Value} {ys : List Str} {Q : Value → Shared → Prop} (hh : A.handled = none)
    (hit : s.heap.IsRevIter it l ((items.size : Int) - 1)) (hl : s.heap.IsList l items) (hne : l ≠ it) (hn : items.size ≤ sizeLine)
    (hP : ∀ acc : Array Value, ItemsOf (fun i v => items[items.size - 1 - i]? = some v) acc items.size → StrsAre acc.toList ys)
    (hok : (ys.map (·.length)).sum + ys.length * x.length ≤ 16777216)
    (hq : ∀ h' t' k, (∀ b o, b ≠ it → s.heap.get? b = some o → h'.get? b = some o) → Q (.str (Txt.join x ys) t') { s with heap := h', toks := k }) :
    wpAny (model prog w) A (call (.builtin "str.join") [.str x t, .ref it]) Q E s := by
  refine wpAny_call (codeAny_call_builtin F.slot_str_join.plain F.entry_str_join (F.slot_str_join.check _ _ _ _ _ _ _ _ (typeIs_str _ _ _) (F.args_str_join_2 _ _) ?_))
  rw [join_tree_other]
  refine wpAny_bind (wpAny_typeOf hit.typeIs ?_)
  show wpAny _ A.in1 ((pyIter (.ref it)).tryCatch _ >>= fun it => collect it >>= fun items => joinTail x items) _ _ s
  refine wpAny_bind (wpAny_tryCatch (wpAny_pyIter_revIter hit ?_))
  refine wpAny_bind (RT.collect_rev hh hit hl hne hn fun h' tk acc hk hacc => ?_)
  obtain ⟨l, hl, ht⟩ := strsAre_values (hP acc hacc)
  subst ht
  rw [hl]
  have ok := joinOk_of hok
  unfold JoinOk at ok
  rw [Bool.not_eq_true'] at ok
  have g : Gives (joinTail x (strValues l)) (joinMade x l) := by
    have g0 := gives_joinTail x l ok
    cases l with
    | nil => exact g0
    | cons p r =>
      cases r with
      | nil => exact g0
      | cons q r' => exact g0
  exact g prog w A (wants Q E) _ (post_join l ⟨joinFit_length ok, fun t' k => hq h' t' k hk⟩)
end
section
variable {X : Cx}
/-- sep.join(reversed(xs)), xs a list of texts -/
def tJoinRev (K : PySem.W.Frag) (to te : TE) : TE := fun σ H Q => to σ H fun x H1 => (∃ a, x = .str a) ∧ te σ H1 fun v H2 => ∃ (a : Str) (q : Addr) (ys : List Str),
  x = .str a ∧ v = .ref q ∧ SqL K H2 q (ys.map V.str) ∧ (ys.map (·.length)).sum + ys.length * a.length ≤ 16777216 ∧ Q (.str (Txt.join a ys.reverse)) H2
theorem pe_joinRev {o e : Expr} {to te : TE} {apos pos p pos2 : Pos} (hc : X.calm = true) (ho : PE X o to) (hg : Gl X "reversed") (hm : X.mg "reversed" = none) (he : PE X e te)
    (hs1 : starEach [.Call (.Name "reversed" p) [e] [] pos2] X.env = [(false, eval (.Call (.Name "reversed" p) [e] [] pos2) X.env)] := by rfl)
    (hs : starEach [e] X.env = (false, eval e X.env) :: starEach [] X.env := by rfl)
    (hbase : attributeBase o "join" X.env (eval o X.env) = eval o X.env := by rfl) (hline : (apos.endLine == pos.line) = true := by rfl) :
    PE X (.Call (.Attribute o "join" apos) [.Call (.Name "reversed" p) [e] [] pos2] [] pos) (tJoinRev X.K to te) := by
  refine ⟨fun pins s σ H Q I h => ?_⟩
  refine PySem.Call_method1 hbase hs1 hline (thn (ho.run pins s σ H _ I h) fun v s1 ⟨x, H1, I1, r1, q1⟩ => ?_)
  obtain ⟨⟨a, rfl⟩, q1⟩ := q1
  obtain ⟨t, rfl⟩ := _root_.id r1
  refine ⟨"str", _, F.plainAttrs_str, F.slot_str_join, F.type_str_join, typeIs_str _ _ _, (fun _ e => nomatch e), Calls.callWith_builtin rfl (Calls.evalArgs_plain (Calls.spliced_cons ?_))⟩
  refine Call_ (ld_blt I1 hg hm PyProof.Rows.boot_reversed (PyProof.Rows.callWith_type1 (args_cons (thn (he.run pins s1 σ H1 _ I1 q1) fun u s2 ⟨v, H2, I2, r2, q2⟩ => args_nil ?_) hs) hs rfl))
  obtain ⟨a', q, ys, ea, rfl, hq, hz, q3⟩ := q2
  cases ea
  obtain rfl : u = Value.ref q := r2
  obtain ⟨its, rv, p', hsz⟩ := I2.list hq
  refine call_reversed_list p'.isList (Calls.spliced_nil ?_)
  have hl := p'.isList
  obtain ⟨ol, hol, _⟩ := id hl
  have hne : q ≠ s2.heap.objs.size := Nat.ne_of_lt (Heap.lt_size hol)
  have hn : its.toArray.size ≤ sizeLine := by rw [List.size_toArray, ← rv.length]; exact hsz
  have k0 : ∀ b o, s2.heap.get? b = some o → (s2.heap.push (revObj q ((its.toArray.size : Int) - 1))).get? b = some o := fun b o e => Heap.get?_push_of_some _ e
  have J2 : Inv X pins σ H2 { s2 with heap := s2.heap.push (revObj q ((its.toArray.size : Int) - 1)) } := I2.kept (t' := s2.toks) k0
  obtain ⟨f0, f1, f2, f3, f4, f5⟩ := I2.fpOk (H' := H2) (b := s2.heap.objs.size) (Nat.le_refl _) (I2.hok.fresh (Nat.le_refl _))
  refine join_rev (s := { s2 with heap := s2.heap.push (revObj q ((its.toArray.size : Int) - 1)) }) (ys := ys.reverse) (Q := EP X pins σ Q) (E := X.xe) (I1.ok.hd hc) ⟨_, Heap.get?_push_size _ rfl, rfl, rfl⟩ (hl.push _) hne hn (fun acc hacc => ?_) ?_ fun h' t' k hk => ?_
  · have r := RT.vals_rev rv hacc
    rw [← List.map_reverse] at r
    exact Vals.strs r
  · rw [List.map_reverse, List.sum_reverse, List.length_reverse]
    exact hz
  · have J3 : Inv X pins σ H2 { s2 with heap := h', toks := k } := J2.turned (t' := k) (fun b o hb e => hk b o hb e) f0 f1 f3 f4 f5
    exact ⟨.str _, H2, J3, ⟨t', rfl⟩, q3⟩
end
end Nl

namespace Nl
open PySem PySem.Spec PyProof.Rows L2
open PySem.NumText
theorem wp_big {M : Model} {A : Around} {E : Value → Shared → Prop} {s : Shared} {Q : Value → Shared → Prop} {v : Value} {text : List Nat} {n : Int}
    (nd : s.heap.NoDigits) (hs : ¬ (text.takeWhile (· != 0)).length ≤ 640)
    (hr : (int_private% "readNumeral") 4300 10 (text.takeWhile (· != 0)) = (int_private% "Numeral.value") n)
    (ha : ((text.takeWhile (· != 0)).length == text.length) = true)
    (h : Q (.int n s.toks) { s with toks := s.toks + 1 }) :
    wpAny M A ((int_private% "intFromText") v text 10) Q E s := by
  obtain ⟨mc, hns, hnone⟩ := nd
  obtain ⟨hp, g, d, tk, os⟩ := s
  repeat (any_goals (first
    | assumption
    | (with_reducible refine wpAny_ite_false (decide_eq_false hs) ?_)
    | (with_reducible refine wpAny_nsGet hns ?_)
    | wp_step))
  rw [hnone]
  refine wpAny_pure ?_
  dsimp only
  rw [hr]
  dsimp only
  rw [if_pos ha]
  exact wpAny_mkInt h
theorem meets_big {x : PySem.Str} {u : Tok} {n : Int} (hl : ¬ x.length ≤ 640) (hx : x.length ≤ 4300) (hk : (numSeenOf x).length = x.length) (hn : PySem.intText? x = some n) :
    Meets (Builtin.«int.__new__» ⟨[.type "int", .str x u], []⟩) (fun _ R s => s.heap.NoDigits ∧ R (.ok (.ret (.int n s.toks))) { s with toks := s.toks + 1 }) := by
  intro prog w A R s hs
  obtain ⟨nd, h⟩ := hs
  have f1 := F.conv_sub_int
  have f2 := F.madeHere_int
  have f3 := PySem.W.KIN.str_int
  have f4 := PySem.W.KIN.str_idx
  have f5 := PySem.W.KIN.str_trunc
  have f6 : typeOf (.str x u) = pure (.type "str") := rfl
  have hs : ¬ (numSeenOf x).length ≤ 640 := by rw [hk]; exact hl
  have hr : (int_private% "readNumeral") 4300 10 (numSeenOf x) = (int_private% "Numeral.value") n ∧ ((numSeenOf x).length == (numTextOf x).length) = true := by
    rcases read4300 x (Nat.le_trans hx (by decide)) with ⟨m, h1, h2, h3⟩ | ⟨h1, _⟩
    · rw [hn] at h1
      cases h1
      exact ⟨h3, h2⟩
    · rw [hn] at h1
      cases h1
  have q := PySem.W.KIN.Hid.mk (And.intro nd (And.intro hs hr))
  clear hs hr hl hx hk hn nd
  obtain ⟨hp, g, d, tk, os⟩ := s
  repeat (any_goals (first
    | assumption
    | ((with_reducible show wpAny _ _ ((int_private% "intFromText") _ _ _) _ _ _); refine wp_big q.out.1 q.out.2.1 q.out.2.2.1 q.out.2.2.2 ?_)
    | wp_step))
  all_goals trace_state
  all_goals first | exact h | skip
/-- int(text), of up to 4300 digits -/
def NoDig (X : Cx) : Prop := X.base.NoDigits
theorem call_int_long {X : Cx} (nd : X.base.NoDigits) : CallR X (.type "int") (fun xs H Q => ∃ a n, xs = [.str a] ∧ PySem.intText? a = some n ∧ a.length ≤ 4300 ∧ (numSeenOf a).length = a.length ∧ Q (.int n) H) := by
  intro pins s σ H xs us Q I rs h
  obtain ⟨a, n, rfl, hn, hl, hk, h⟩ := h
  cases rs with
  | cons r1 rs =>
    cases rs
    obtain ⟨t, rfl⟩ := r1
    by_cases hs : a.length ≤ 640
    · exact PySem.W.KIN.call_text hn hs ⟨.int n, H, I.tok _, ⟨_, rfl⟩, h⟩
    · exact call_int_1 (meets_big hs hl hk hn) ⟨nd.keeps fun b o e => (I.bk b o e), rfl, .int n, H, I.tok _, ⟨_, rfl⟩, h⟩
end Nl

namespace Nl
open PySem PySem.Spec PyProof.Rows L2
section
variable {X : Cx}
def rInT (K : PySem.W.Frag) : R2 := fun x y H Q => ∃ d ds, Dp K H x d ∧ Dp K H y (.tuple ds) ∧ SeqAt.shaped d = true ∧ SeqAt.shaped (.tuple ds) = true ∧ Q (.bl (ds.any fun z => PyData.eqv z d)) H
theorem op_inT (hu : X.A.units + 65 < cLine) : OpR X (compareOp .In) (rInT X.K) := by
  intro pins s σ H x y v u Q I rx ry h
  obtain ⟨d, ds, hd, he, sd, se, q⟩ := h
  obtain ⟨as, r1⟩ := Dp.reads I d x v hd rx
  obtain ⟨bs, r2⟩ := Dp.reads I (.tuple ds) y u he ry
  refine SeqAt.in_tuple_reads r2 r1 (SeqAt.canLay_of_shaped (d := .tuple ds) se) (SeqAt.canLay_of_shaped sd) (room_in_shaped sd hu) ⟨.bl _, H, I, rfl, q⟩
/-- text * number -/
def rMulS : R2 := fun x y H Q => ∃ (a : Str) (n : Int), x = .str a ∧ y = .int n ∧ 2 ≤ n ∧ n ≤ 2000 ∧ 0 < a.length ∧ a.length ≤ 100 ∧ Q (.str (Txt.mul a n)) H
theorem op_mulS : OpR X (binaryOp .Mult) rMulS := by
  intro pins s σ H x y v u Q I rx ry h
  obtain ⟨a, n, rfl, rfl, n2, n3, h0, h1, q⟩ := h
  obtain ⟨t, rfl⟩ := rx
  obtain ⟨t', rfl⟩ := ry
  refine SB.mul ⟨?_, fun _ _ => ?_, fun _ _ => ?_⟩ fun k' k => ⟨.str _, H, I.tok _, ⟨_, rfl⟩, q⟩
  · rw [decide_eq_false (by omega), decide_eq_false (by omega)]
    rfl
  · have : (4611686018427387 : Int) ≤ (2 ^ 63 - 1) / n := Int.le_ediv_of_mul_le (by omega) (by omega)
    omega
  · have : a.length * n.toNat ≤ 100 * 2000 := Nat.mul_le_mul h1 (by omega)
    unfold Builtin.Str.tooLong
    rw [decide_eq_false_iff_not, sizeLine_eq]
    omega
end
end Nl

namespace Nl
open PySem PySem.Spec PyProof.Rows L2
open TL (tl numL)
open PySem.NumText
/-! ### decimal texts as lists of code points -/
def padL (k : Nat) (l : List Nat) : List Nat := List.replicate (k - l.length) 48 ++ l
theorem numL_len : ∀ (k n : Nat), n < 10 ^ (k + 1) → (numL n).length ≤ k + 1
  | 0, n, h => by
    rw [TL.numL_lt (by simpa using h)]
    simp
  | k + 1, n, h => by
    by_cases c : n < 10
    · rw [TL.numL_lt c]
      simp
    · rw [TL.numL_step (by omega), List.length_append]
      have := numL_len k (n / 10) (by rw [Nat.pow_succ] at h; omega)
      simp
      omega
theorem numL_split : ∀ (k q low : Nat), 0 < q → low < 10 ^ (k + 1) → numL (q * 10 ^ (k + 1) + low) = numL q ++ padL (k + 1) (numL low)
  | 0, q, low, hq, h => by
    have h : low < 10 := by simpa using h
    have e1 : (q * 10 ^ (0 + 1) + low) / 10 = q := by
      rw [show q * 10 ^ (0 + 1) = q * 10 by simp]
      omega
    have e2 : (q * 10 ^ (0 + 1) + low) % 10 = low := by
      rw [show q * 10 ^ (0 + 1) = q * 10 by simp]
      omega
    rw [TL.numL_step (by rw [show q * 10 ^ (0 + 1) = q * 10 by simp]; omega), e1, e2, TL.numL_lt h]
    rfl
  | k + 1, q, low, hq, h => by
    have hp : 10 ^ (k + 1 + 1) = 10 ^ (k + 1) * 10 := Nat.pow_succ ..
    have hpos : 0 < 10 ^ (k + 1) := Nat.pow_pos (by decide)
    have e0 : q * 10 ^ (k + 1 + 1) = q * 10 ^ (k + 1) * 10 := by rw [hp, Nat.mul_assoc]
    have hx : 1 ≤ q * 10 ^ (k + 1) := Nat.mul_pos hq hpos
    have e1 : (q * 10 ^ (k + 1 + 1) + low) / 10 = q * 10 ^ (k + 1) + low / 10 := by rw [e0]; omega
    have e2 : (q * 10 ^ (k + 1 + 1) + low) % 10 = low % 10 := by rw [e0]; omega
    rw [TL.numL_step (by rw [e0]; omega), e1, e2, numL_split k q (low / 10) hq (by rw [hp] at h; omega), List.append_assoc]
    refine congrArg (numL q ++ ·) ?_
    unfold padL
    by_cases c : low < 10
    · rw [TL.numL_lt c, TL.numL_lt (show low / 10 < 10 by omega), show low / 10 = 0 by omega, show low % 10 = low by omega]
      show List.replicate (k + 1 - 1) 48 ++ [48] ++ [48 + low] = List.replicate (k + 1 + 1 - 1) 48 ++ [48 + low]
      rw [show k + 1 + 1 - 1 = (k + 1 - 1) + 1 by omega, List.replicate_succ']
    · rw [TL.numL_step (show 10 ≤ low by omega), List.length_append]
      show List.replicate (k + 1 - (numL (low / 10)).length) 48 ++ numL (low / 10) ++ [48 + low % 10] = List.replicate (k + 1 + 1 - ((numL (low / 10)).length + 1)) 48 ++ (numL (low / 10) ++ [48 + low % 10])
      rw [show k + 1 + 1 - ((numL (low / 10)).length + 1) = k + 1 - (numL (low / 10)).length by omega, List.append_assoc]
/-- the text of a number without leading zeros -/
structure NatT (cs : List Nat) : Prop where
  all : AllDigits cs
  ne : cs ≠ []
  lead : cs.length = 1 ∨ ∃ c r, cs = c :: r ∧ 49 ≤ c
theorem val_numL (n : Nat) : digitsVal (numL n) = n := PySem.W.KIN.val_back n
theorem numL_pos : ∀ (m n : Nat), n ≤ m → 0 < n → ∃ c r, numL n = c :: r ∧ 49 ≤ c
  | 0, n, h, h0 => by omega
  | m + 1, n, h, h0 => by
    by_cases c : n < 10
    · exact ⟨48 + n, [], TL.numL_lt c, by omega⟩
    · obtain ⟨c, r, e, hc⟩ := numL_pos m (n / 10) (by omega) (by omega)
      exact ⟨c, r ++ [48 + n % 10], by rw [TL.numL_step (by omega), e]; rfl, hc⟩
theorem natT_numL (n : Nat) : NatT (numL n) := by
  refine ⟨TL.numL_digits n, fun e => ?_, ?_⟩
  · by_cases c : n < 10
    · rw [TL.numL_lt c] at e
      cases e
    · rw [TL.numL_step (by omega)] at e
      simp at e
  · by_cases c : n = 0
    · subst c
      exact .inl rfl
    · exact .inr (numL_pos n n (Nat.le_refl _) (by omega))
theorem numL_val {cs : List Nat} (h : NatT cs) : numL (digitsVal cs) = cs := by
  obtain ⟨h1, h2, h3⟩ := h
  obtain ⟨n, hn⟩ : ∃ n, cs.length = n + 1 := ⟨cs.length - 1, by
    have : 0 < cs.length := List.length_pos_iff.mpr h2
    omega⟩
  have e := toDigits_digitsVal n cs hn h1 (h3.imp (fun z => by omega) id)
  unfold numL
  rw [e, List.map_map]
  refine (List.map_congr_left fun c hc => ?_).trans (List.map_id _)
  have := h1 c hc
  show (Char.ofNat c).toNat = c
  have hv : c.isValidChar := Or.inl (by omega)
  unfold Char.ofNat
  rw [dif_pos hv]
  rfl
def intL (z : Int) : List Nat := if z < 0 then 45 :: numL z.natAbs else numL z.natAbs
theorem tl_int (z : Int) : tl (Str.ofString (toString z)) = intL z := by
  cases z with
  | ofNat n =>
    unfold intL
    rw [if_neg (by show ¬ ((n : Nat) : Int) < 0; omega)]
    exact TL.tl_num n
  | negSucc n =>
    unfold intL
    rw [if_pos (Int.negSucc_lt_zero n)]
    have e : toString (Int.negSucc n) = "-" ++ Nat.repr (n + 1) := rfl
    rw [e, TL.tl_ofString, String.toList_append, List.map_append]
    show 45 :: (Nat.repr (n + 1)).toList.map Char.toNat = 45 :: numL (n + 1)
    rw [Nat.toList_repr]
    rfl
theorem str_int (z : Int) : Str.ofString (toString z) = SX.S (intL z) := TL.ext_tl (tl_int z)
def stripL : List Nat → List Nat
  | 45 :: r => r
  | cs => cs
def intV : List Nat → Int
  | 45 :: r => -(digitsVal r : Int)
  | cs => digitsVal cs
theorem no_minus {cs : List Nat} (h : AllDigits cs) : ∀ r, cs ≠ 45 :: r := fun r e => by
  have := h 45 (by rw [e]; simp)
  omega
theorem strip_digits {cs : List Nat} (h : AllDigits cs) : stripL cs = cs := by
  unfold stripL
  split
  · rename_i r
    exact (no_minus h r rfl).elim
  · rfl
theorem intV_digits {cs : List Nat} (h : AllDigits cs) : intV cs = digitsVal cs := by
  unfold intV
  split
  · rename_i r
    exact (no_minus h r rfl).elim
  · rfl
theorem intL_strip (z : Int) : stripL (intL z) = numL z.natAbs := by
  unfold intL
  split
  · rfl
  · exact strip_digits (natT_numL _).all
theorem intV_intL (z : Int) : intV (intL z) = z := by
  unfold intL
  split
  · show -(digitsVal (numL z.natAbs) : Int) = z
    rw [val_numL]
    omega
  · rw [intV_digits (natT_numL _).all, val_numL]
    omega
theorem intL_ne (z : Int) : intL z ≠ [45, 48] := fun e => by
  have h := intV_intL z
  rw [e] at h
  have h : (0 : Int) = z := h
  subst h
  have e : ([48] : List Nat) = [45, 48] := e
  cases e
theorem intL_slash (z : Int) : 47 ∉ intL z := fun h => by
  unfold intL at h
  split at h
  · rcases List.mem_cons.mp h with h | h
    · cases h
    · have := (natT_numL _).all 47 h
      omega
  · have := (natT_numL _).all 47 h
    omega
theorem val_zero {cs : List Nat} (h : NatT cs) (z : digitsVal cs = 0) : cs = [48] := by
  rw [← numL_val h, z]
  rfl
theorem intL_intV {a : List Nat} (h : NatT (stripL a)) (hn : a ≠ [45, 48]) : intL (intV a) = a := by
  cases a with
  | nil => exact (h.ne rfl).elim
  | cons c r =>
    by_cases hc : c = 45
    · subst hc
      have h : NatT r := h
      have h0 : digitsVal r ≠ 0 := fun z => hn (by rw [val_zero h z])
      show intL (-(digitsVal r : Int)) = _
      unfold intL
      rw [if_pos (by omega), show (-(digitsVal r : Int)).natAbs = digitsVal r by omega, numL_val h]
    · have e1 : stripL (c :: r) = c :: r := by
        unfold stripL
        split
        · rename_i q
          cases q
          exact (hc rfl).elim
        · rfl
      rw [e1] at h
      rw [intV_digits h.all]
      unfold intL
      rw [if_neg (by omega), show ((digitsVal (c :: r) : Nat) : Int).natAbs = digitsVal (c :: r) by omega, numL_val h]
/-! ### texts of fractions -/
def fracT (q : Int × Int) : List Nat := if q.2 = 1 then intL q.1 else intL q.1 ++ 47 :: intL q.2
theorem slash_inj {a b c d : List Nat} (ha : 47 ∉ a) (hc : 47 ∉ c) (e : a ++ 47 :: b = c ++ 47 :: d) : a = c ∧ b = d := by
  induction a generalizing c with
  | nil =>
    cases c with
    | nil =>
      cases e
      exact ⟨rfl, rfl⟩
    | cons x c =>
      cases e
      exact (hc (by simp)).elim
  | cons x a ih =>
    cases c with
    | nil =>
      cases e
      exact (ha (by simp)).elim
    | cons y c =>
      injection e with e1 e2
      obtain ⟨h1, h2⟩ := ih (fun z => ha (List.mem_cons_of_mem _ z)) (fun z => hc (List.mem_cons_of_mem _ z)) e2
      exact ⟨by rw [e1, h1], h2⟩
theorem slash_cases (cs : List Nat) : 47 ∉ cs ∨ ∃ a b, cs = a ++ 47 :: b ∧ 47 ∉ a := by
  induction cs with
  | nil => exact .inl (by simp)
  | cons x cs ih =>
    by_cases hx : x = 47
    · subst hx
      exact .inr ⟨[], cs, rfl, by simp⟩
    · rcases ih with h | ⟨a, b, e, h⟩
      · exact .inl fun z => (List.mem_cons.mp z).elim (fun y => hx y.symm) h
      · exact .inr ⟨x :: a, b, by rw [e]; rfl, fun z => (List.mem_cons.mp z).elim (fun y => hx y.symm) h⟩
theorem intL_pos {z : Int} (h : 0 ≤ z) : intL z = numL z.natAbs := if_neg (by omega)
/-- what it says that a text is that of a fraction -/
theorem frac_whole {q : Int × Int} {cs : List Nat} (h : Low q) (e : fracT q = cs) (hs : 47 ∉ cs) : q.2 = 1 ∧ cs = intL q.1 := by
  unfold fracT at e
  split at e
  · exact ⟨‹_›, e.symm⟩
  · exact (hs (by rw [← e]; simp)).elim
theorem frac_parts {q : Int × Int} {a b : List Nat} (h : Low q) (e : fracT q = a ++ 47 :: b) (hs : 47 ∉ a) : q.2 ≠ 1 ∧ a = intL q.1 ∧ b = numL q.2.natAbs := by
  unfold fracT at e
  split at e
  · exact (intL_slash q.1 (by rw [e]; simp)).elim
  · obtain ⟨h1, h2⟩ := slash_inj (intL_slash q.1) hs e
    have := h.pos
    rw [intL_pos (by omega)] at h2
    exact ⟨‹_›, h1.symm, h2.symm⟩
theorem frac_lowest {q : Int × Int} (h : Low q) : frac q.1 q.2 = q := by
  have ne : q.2 ≠ 0 := by have := h.pos; omega
  exact low_uniq (frac_low ne) h (frac_cross ne)
theorem fracT_inj {p q : Int × Int} (hp : Low p) (hq : Low q) (e : fracT p = fracT q) : p = q := by
  by_cases c : q.2 = 1
  · have e2 : fracT q = intL q.1 := if_pos c
    obtain ⟨h1, h2⟩ := frac_whole hp (e.trans e2) (intL_slash _)
    have h3 := congrArg intV h2
    rw [intV_intL, intV_intL] at h3
    exact Prod.ext h3.symm (by rw [h1, c])
  · have e2 : fracT q = intL q.1 ++ 47 :: intL q.2 := if_neg c
    obtain ⟨h1, h2, h3⟩ := frac_parts hp (e.trans e2) (intL_slash _)
    have h4 := congrArg intV h2
    rw [intV_intL, intV_intL] at h4
    have h5 := congrArg digitsVal h3
    have := hq.pos
    have := hp.pos
    rw [intL_pos (by omega), val_numL, val_numL] at h5
    exact Prod.ext h4.symm (by omega)
/-- whether a text is that of a fraction, told by its parts -/
theorem whole_no {cs : List Nat} (hs : 47 ∉ cs) (h : ¬ (NatT (stripL cs) ∧ cs ≠ [45, 48])) (q : Int × Int) (hq : Low q) : fracT q ≠ cs := fun e => by
  obtain ⟨_, h2⟩ := frac_whole hq e hs
  subst h2
  exact h ⟨by rw [intL_strip]; exact natT_numL _, intL_ne _⟩
theorem whole_yes {cs : List Nat} (h : NatT (stripL cs)) (hn : cs ≠ [45, 48]) : Low (intV cs, 1) ∧ fracT (intV cs, 1) = cs := ⟨⟨by show (0 : Int) < 1; decide, Int.gcd_one_right _⟩, by
  unfold fracT
  rw [if_pos rfl]
  exact intL_intV h hn⟩
theorem parts_no {a b : List Nat} (hs : 47 ∉ a) (h : ¬ (NatT (stripL a) ∧ NatT b ∧ a ≠ [45, 48] ∧ b ≠ [48] ∧ b ≠ [49] ∧ Int.gcd (intV a) (digitsVal b) = 1)) (q : Int × Int) (hq : Low q) : fracT q ≠ a ++ 47 :: b := fun e => by
  obtain ⟨h1, h2, h3⟩ := frac_parts hq e hs
  have hp := hq.pos
  subst h2 h3
  refine h ⟨by rw [intL_strip]; exact natT_numL _, natT_numL _, intL_ne _, fun z => ?_, fun z => ?_, ?_⟩
  · have := congrArg digitsVal z
    rw [val_numL] at this
    have this : q.2.natAbs = 0 := this
    omega
  · have := congrArg digitsVal z
    rw [val_numL] at this
    have this : q.2.natAbs = 1 := this
    omega
  · rw [intV_intL, val_numL, show ((q.2.natAbs : Nat) : Int) = q.2 by omega]
    exact hq.cop
theorem parts_yes {a b : List Nat} (ha : NatT (stripL a)) (hb : NatT b) (h0 : a ≠ [45, 48]) (h1 : b ≠ [48]) (h2 : b ≠ [49]) (h3 : Int.gcd (intV a) (digitsVal b) = 1) :
    Low (intV a, (digitsVal b : Int)) ∧ fracT (intV a, (digitsVal b : Int)) = a ++ 47 :: b := by
  have p : digitsVal b ≠ 0 := fun z => h1 (val_zero hb z)
  have n : digitsVal b ≠ 1 := fun z => h2 (by rw [← numL_val hb, z]; rfl)
  refine ⟨⟨by show (0 : Int) < digitsVal b; omega, h3⟩, ?_⟩
  unfold fracT
  rw [if_neg (by show ¬ ((digitsVal b : Nat) : Int) = 1; omega), intL_intV ha h0, intL_pos (by show (0 : Int) ≤ digitsVal b; omega)]
  show a ++ 47 :: numL ((digitsVal b : Nat) : Int).natAbs = _
  rw [show ((digitsVal b : Nat) : Int).natAbs = digitsVal b by omega, numL_val hb]
/-! ### int of such a text -/
theorem natT_signs {a : List Nat} (h : NatT (stripL a)) : ∀ c ∈ a, c = 45 ∨ (48 ≤ c ∧ c ≤ 57) := fun c hc => by
  cases a with
  | nil => cases hc
  | cons x r =>
    by_cases hx : x = 45
    · subst hx
      rcases List.mem_cons.mp hc with rfl | hc
      · exact .inl rfl
      · exact .inr (h.all c hc)
    · have e1 : stripL (x :: r) = x :: r := by
        unfold stripL
        split
        · rename_i q
          cases q
          exact (hx rfl).elim
        · rfl
      rw [e1] at h
      exact .inr (h.all c hc)
theorem int_text {a : List Nat} (h : NatT (stripL a)) (hl : a.length ≤ 4300) : PySem.intText? (SX.S a) = some (intV a) ∧ (numSeenOf (SX.S a)).length = (SX.S a).length := by
  have hs : ∀ c ∈ (SX.S a).cps.toList, c = 45 ∨ (48 ≤ c ∧ c ≤ 57) := natT_signs h
  refine ⟨?_, ?_⟩
  · cases a with
    | nil => exact (h.ne rfl).elim
    | cons x r =>
      by_cases hx : x = 45
      · subst hx
        exact intText_neg (cs := r) rfl h.all h.ne (by rw [SX.S_len]; exact hl)
      · have e1 : stripL (x :: r) = x :: r := by
          unfold stripL
          split
          · rename_i q
            cases q
            exact (hx rfl).elim
          · rfl
        rw [e1] at h
        rw [intV_digits h.all]
        exact intText_digits h.all h.ne (by rw [SX.S_len]; exact hl)
  · rw [(numText_signs hs).2, SX.S_len]
end Nl

namespace Nl
open PySem PySem.Spec PyProof.Rows L2
/-- a comprehension over a text, sign by sign -/
theorem lc_its {x : Str} {g : TG} {tt : TT} {te : TE} {vs : List Nat} {σ : L2.St} {H1 : Hp} {D : Addr} {Qd : Hp → Prop}
    (Pv : Nat → Hp → Prop) (h0 : Pv 0 (upd H1 D (.lst [])))
    (hs : ∀ i c H, x.cps.toList[i]? = some c → Pv i H →
      g (.str (SX.S [c])) (wipe σ vs) H fun σ2 H2 =>
        wipe σ2 vs = wipe σ vs ∧ tt σ2 H2 fun b H3 =>
          if b = true then te σ2 H3 fun y H4 => ∃ acc, H4 D = some (.lst acc) ∧
            acc.length < sizeLine ∧ Pv (i + 1) (upd H4 D (.lst (acc ++ [y])))
          else Pv (i + 1) H3)
    (hd : ∀ H, Pv x.cps.toList.length H → Qd H) :
    ∃ W : Nat → Nat → Hp → Prop, (∃ m, W 0 m (upd H1 D (.lst []))) ∧
      ∀ i m H, W i m H → ((Its x).stop i H ∧ Qd H) ∨
        ((Its x).go i H ∧ ∃ Nx : Hp → Prop, (∀ H', Nx H' → ∃ m', m' < m ∧ W (i + 1) m' H') ∧
          ∀ y H', (Its x).yld i H y H' → g y (wipe σ vs) H' fun σ2 H2 =>
            wipe σ2 vs = wipe σ vs ∧ tt σ2 H2 fun b H3 =>
              if b = true then te σ2 H3 fun z H4 => ∃ acc, H4 D = some (.lst acc) ∧
                acc.length < sizeLine ∧ Nx (upd H4 D (.lst (acc ++ [z])))
              else Nx H3) := by
  have el : x.cps.toList.length = x.cps.size := Array.length_toList
  refine ⟨fun i m H => m = x.cps.size - i ∧ i ≤ x.cps.size ∧ Pv i H, ⟨x.cps.size, by simp, Nat.zero_le _, h0⟩, ?_⟩
  rintro i m H ⟨rfl, hi, p⟩
  by_cases hlt : i < x.cps.size
  · refine .inr ⟨hlt, Pv (i + 1), fun H' p' => ⟨x.cps.size - (i + 1), by omega, rfl, hlt, p'⟩, fun y H' yl => ?_⟩
    obtain ⟨e, c, hc, ey⟩ := yl
    subst e ey
    exact hs i c _ (by rw [Array.getElem?_toList]; exact hc) p
  · have e : i = x.cps.size := by omega
    subst e
    exact .inl ⟨Nat.le_refl _, hd H (by rw [el]; exact p)⟩
theorem cutS_S (cs : List Nat) (lo hi : Option Int) : cutS (SX.S cs) lo hi = SX.S ((cs.drop (HT.sIx cs.length 0 lo)).take (HT.sIx cs.length cs.length hi - HT.sIx cs.length 0 lo)) := by
  unfold cutS
  rw [SX.S_len]
theorem cutS_take (cs : List Nat) (k : Nat) : cutS (SX.S cs) none (some (k : Int)) = SX.S (cs.take k) := by
  rw [cutS_S, HT.sIx_none, HT.sIx_nat, List.drop_zero, Nat.sub_zero]
  by_cases h : k ≤ cs.length
  · rw [Nat.min_eq_left h]
  · rw [Nat.min_eq_right (by omega), List.take_length, List.take_of_length_le (by omega)]
theorem cutS_drop (cs : List Nat) (k : Nat) : cutS (SX.S cs) (some (k : Int)) none = SX.S (cs.drop k) := by
  rw [cutS_S, HT.sIx_none, HT.sIx_nat]
  by_cases h : k ≤ cs.length
  · rw [Nat.min_eq_left h, List.take_of_length_le (by rw [List.length_drop]; omega)]
  · rw [Nat.min_eq_right (by omega), List.drop_length, List.drop_eq_nil_of_le (by omega)]
    simp
end Nl

namespace Nl
open PySem PySem.Spec PyProof.Rows L2
def Sh (k : Nat) (d : PyData) : Prop := d.canLay0 = true ∧ d.depth ≤ k
theorem Sh.shaped {k : Nat} {d : PyData} (h : Sh k d) (hk : k ≤ 64 := by decide) : SeqAt.shaped d = true := by
  unfold SeqAt.shaped
  rw [h.1, decide_eq_true (Nat.le_trans h.2 hk)]
  rfl
theorem Sh.int {i : Int} {k : Nat} : Sh k (.int i) := ⟨rfl, Nat.zero_le _⟩
theorem Sh.non {k : Nat} : Sh k .none := ⟨rfl, Nat.zero_le _⟩
theorem sh_all {k : Nat} : ∀ {ds : List PyData}, (∀ d ∈ ds, Sh k d) → PyData.canLayAll0 ds = true ∧ PyData.depthAll ds ≤ k
  | [], _ => ⟨rfl, Nat.zero_le _⟩
  | d :: ds, h => by
    have h1 := h d (by simp)
    have h2 := sh_all (ds := ds) fun x hx => h x (List.mem_cons_of_mem _ hx)
    refine ⟨?_, ?_⟩
    · rw [PyData.canLayAll0, h1.1, h2.1]
      rfl
    · rw [PyData.depthAll]
      exact Nat.max_le.mpr ⟨h1.2, h2.2⟩
theorem Sh.tup {k : Nat} {ds : List PyData} (h : ∀ d ∈ ds, Sh k d) : Sh (k + 1) (.tuple ds) := by
  obtain ⟨h1, h2⟩ := sh_all h
  refine ⟨?_, ?_⟩
  · rw [PyData.canLay0]
    exact h1
  · rw [PyData.depth]
    omega
theorem Sh.ne {k : Nat} {d : PyData} (h : Sh k d) : (!PyData.eqv d d) = false := by
  rw [SeqAt.eqv_refl d h.1]
  rfl
theorem Sh.eq {k : Nat} {d : PyData} (h : Sh k d) : PyData.eqv d d = true := SeqAt.eqv_refl d h.1
theorem sh_path (p : List Int) : Sh 1 (pathD p) := Sh.tup (k := 0) fun d hd => by
  obtain ⟨i, _, rfl⟩ := List.mem_map.mp hd
  exact .int
theorem sh_fr (q : Int × Int) : Sh 1 (frD q) := Sh.tup (k := 0) fun d hd => by
  rcases List.mem_cons.mp hd with rfl | hd
  · exact .int
  · rw [List.mem_singleton.mp hd]
    exact .int
theorem sh_pr (p : Pr) : Sh 2 (prD p) := Sh.tup (k := 1) fun d hd => by
  rcases List.mem_cons.mp hd with rfl | hd
  · exact sh_fr _
  · rw [List.mem_singleton.mp hd]
    exact sh_fr _
theorem sh_paths {α : Type} (l : List α) (f : α → List Int) : Sh 2 (.tuple (l.map fun e => pathD (f e))) := Sh.tup (k := 1) fun d hd => by
  obtain ⟨e, _, rfl⟩ := List.mem_map.mp hd
  exact sh_path _
/-! ### nodes all of whose ends have one time -/
def UD : Nat → Node → Prop
  | 0, n => n.ks = []
  | m + 1, n => n.ks ≠ [] ∧ ∀ k ∈ n.ks, UD m k
theorem ud_ends : ∀ (m : Nat) (e : PN), UD m e.2 → ∀ x ∈ preE e, x.2.ks = [] → x.1.length = e.1.length + m
  | 0, e, h, x, hx, _ => by
    have hk : kidsOf e = [] := by
      unfold kidsOf
      rw [show e.2.ks = [] from h]
      rfl
    rw [preE_eq, hk] at hx
    simp at hx
    subst hx
    rfl
  | m + 1, e, h, x, hx, hz => by
    rw [preE_eq] at hx
    rcases List.mem_cons.mp hx with rfl | hx
    · exact (h.1 hz).elim
    · obtain ⟨k, hk, hx⟩ := List.mem_flatMap.mp hx
      obtain ⟨i, hi, rfl⟩ := List.mem_mapIdx.mp hk
      have := ud_ends m (e.1 ++ [(i : Int)], e.2.ks[i]) (h.2 _ (List.getElem_mem hi)) x hx hz
      simp only [List.length_append, List.length_singleton] at this
      omega
theorem ud_lens {m : Nat} {n : Node} (h : UD m n) : ∀ a ∈ endLens n, a = m := by
  intro x hx
  obtain ⟨e, he, rfl⟩ := List.mem_map.mp hx
  obtain ⟨he1, he2⟩ := List.mem_filter.mp he
  have := ud_ends m ([], n) h e he1 (List.isEmpty_iff.mp he2)
  simpa using this
/-- nodes without goods -/
theorem bare_ok {m : Nat} {n : Node} (h : HP (fun l => l = []) m n) (u : UD m n) : ¬ BadM 1 n := by
  rintro (z | ⟨e, he, z⟩ | ⟨x, hx, y, hy, z⟩)
  · exact z (by decide)
  · have := (HP.pre (e := ([], n)) h e he).1
    rw [this] at z
    rcases z with z | ⟨p, hp, _⟩
    · simp at z
    · cases hp
  · exact z ((ud_lens u x hx).trans (ud_lens u y hy).symm)
theorem bare_small {m : Nat} {n : Node} (u : UD m n) (hs : nsz n ≤ 40) (hm : m ≤ 5) : ¬ BigM n := by
  rintro (z | ⟨x, hx, z⟩)
  · rw [pre_nsz] at z
    omega
  · have := ud_lens u x hx
    omega
theorem bare_b {m : Nat} {n : Node} (h : HP (fun l => l = []) m n) : NodeB n := fun e he p hp => by
  have := (HP.pre (e := ([], n)) h e he).1
  rw [this] at hp
  cases hp
theorem big_count {n : Node} (h : 40 < nsz n) : BigM n := .inl (by rw [pre_nsz]; exact h)
theorem big_time {m : Nat} {n : Node} (u : UD m n) (h : 5 < m) : BigM n := by
  have hp := ends_pos n
  refine .inr ⟨(endLens n)[0], List.getElem_mem hp, ?_⟩
  rw [ud_lens u _ (List.getElem_mem hp)]
  exact h
def rowN : Nat → Node
  | 0 => .mk [] []
  | k + 1 => .mk [] [rowN k]
theorem row_hp : ∀ k, HP (fun l => l = []) k (rowN k)
  | 0 => ⟨rfl, rfl⟩
  | k + 1 => ⟨rfl, fun x hx => by rw [List.mem_singleton.mp hx]; exact row_hp k⟩
theorem row_ud : ∀ k, UD k (rowN k)
  | 0 => rfl
  | k + 1 => ⟨(by intro h; cases h), fun x hx => (by rw [List.mem_singleton.mp hx]; exact row_ud k)⟩
theorem row_sz : ∀ k, nsz (rowN k) = k + 1
  | 0 => rfl
  | k + 1 => by
    rw [rowN, nsz, nszs, nszs, row_sz k]
    omega
def wideN (k : Nat) : Node := .mk [] (List.replicate k (rowN 0))
theorem wide_hp (k : Nat) : HP (fun l => l = []) 1 (wideN k) := ⟨rfl, fun x hx => by rw [(List.mem_replicate.mp hx).2]; exact row_hp 0⟩
theorem wide_ud {k : Nat} (h : 0 < k) : UD 1 (wideN k) := ⟨fun z => by
  have : (List.replicate k (rowN 0)).length = 0 := by rw [show List.replicate k (rowN 0) = [] from z]; rfl
  rw [List.length_replicate] at this
  omega, fun x hx => by rw [(List.mem_replicate.mp hx).2]; exact row_ud 0⟩
theorem wide_sz (k : Nat) : nsz (wideN k) = k + 1 := by
  have : ∀ k, nszs (List.replicate k (rowN 0)) = k := by
    intro k
    induction k with
    | zero => rfl
    | succ k ih => rw [List.replicate_succ, nszs, ih]; show 1 + k = k + 1; omega
  rw [wideN, nsz, this]
  omega
theorem find_neg (n : Node) : find n [-1] = none := find_out fun z => by omega
theorem find_end {n m : Node} {p : List Int} (h : find n p = some m) : find n (p ++ [(m.ks.length : Int)]) = none := by
  rw [find_app p _ n m h]
  exact find_out fun z => by omega
end Nl

namespace Nl
open PySem PySem.Spec PyProof.Rows L2 LamX NdefX
theorem xt_keep {d b : Addr} {H H' : Hp} {o : HO} (i : IsL H d) (s : Xt d H H') (e : H b = some o) (n : ∀ ys, o ≠ .lst ys) : H' b = some o := s b o (fun z => by
  obtain ⟨ys, h⟩ := i
  rw [z, h] at e
  cases e
  exact n _ rfl) e
theorem TabN.xt {d P : Addr} {nm : Nat → Nat → Str} {H H' : Hp} (t : TabN H P nm) (i : IsL H d) (s : Xt d H H') : TabN H' P nm := by
  obtain ⟨ps, h1, h2, h3⟩ := t
  refine ⟨ps, xt_keep i s h1 (fun _ z => nomatch z), h2, fun pos cv hc => ?_⟩
  obtain ⟨c, e, h⟩ := h3 pos cv hc
  exact ⟨c, e, xt_keep i s h (fun _ z => nomatch z)⟩
theorem TabsN.xt {d : Addr} {T : List NTab} {H H' : Hp} (t : TabsN T H) (i : IsL H d) (s : Xt d H H') : TabsN T H' := fun p hp => TabN.xt (t p hp) i s
theorem Dst.ext {H H' : Hp} {pd ps : Addr} (h : Dst H pd ps) (s : ExtN H H') : Dst H' pd ps := by
  obtain ⟨i, r, ns, ⟨⟨sd, h1⟩, h2, h3, h4, h5⟩⟩ := h
  exact ⟨i, r, ns, ⟨⟨sd, s _ _ h1 fun _ z => nomatch z⟩, s _ _ h2 (fun _ z => nomatch z), h3, h4, h5⟩⟩
theorem Dst.isL' {H : Hp} {pd ps : Addr} (h : Dst H pd ps) : IsL H pd := by
  obtain ⟨i, r, ns, ⟨⟨sd, h1⟩, h2, h3, h4, h5⟩⟩ := h
  exact ⟨_, h1⟩
theorem Sh.lst {k : Nat} {ds : List PyData} (h : ∀ d ∈ ds, Sh k d) : Sh (k + 1) (.list ds) := by
  obtain ⟨h1, h2⟩ := sh_all h
  refine ⟨?_, ?_⟩
  · rw [PyData.canLay0]
    exact h1
  · rw [PyData.depth]
    omega
theorem walk_ofTabs {l : PySem.W.OpenLaw} {n k : Nat} {q : Program} {loose : List Str} {XP : (Str → Option Value) → Heap → Prop} {YP : World → Heap → Prop} {d : DefRec} {K : Params → PySem.W.Frag} {CX : World → CXT} {x : Str} (xs : List Str)
    (hn : l.most = some n) (hn2 : n ≤ sizeLine) (hdf : d.params.defaults = []) (hr : Room k callerA) (hrec : ∀ y ∈ xs, ((recsOf q).find? fun e => e.name == y).isSome = true) (hY : ∀ (w : World) (h : Heap), YP w h → (K w.params).In h)
    (F : ∀ (w : World) (mg : Str → Option Value) (fa : Addr) (h : Heap), YP w h → (K w.params).In h → h.Ns mainGlobals mg → mg d.name = some (.ref fa) →
      (∀ y ∈ xs, ∀ c P, PySem.W.tabIn (K w.params) y = some (c, P) → PySem.W.CodeHd h c P ∧ h.get? P = some { cls := .none, data := .fields #[] }) → LawAtS l w (K w.params) (CX w) k n x mg fa h)
    (hCX : ∀ (w : World) (H : Hp) (s : Shared) (e : Value) (s' : Shared), CX w [] H s (fun _ _ _ => False) e s' → False) :
    PySem.W.WalkO q loose XP YP l.row.toRowW d [] (fun f vs => PySem.call f vs) := by
  refine Att.attach_callB hn hdf fun w s₀ s₁ mg mb fa o pm cd doc a vs ns G Y ho hd hcd hmg hobj hints hlen hbits hg => ?_
  have KX := hY w _ Y
  have own : ∀ y ∈ xs, ∀ c P, PySem.W.tabIn (K w.params) y = some (c, P) → PySem.W.CodeHd s₁.heap c P ∧ s₁.heap.get? P = some { cls := .none, data := .fields #[] } := fun y hy c P ht => by
    obtain ⟨dd, hdd⟩ := Option.isSome_iff_exists.mp (hrec y hy)
    exact PySem.W.tab_of G.T KX hdd ht
  obtain ⟨fd, cs, sp, hT, nT, C, hb, hsp, hF⟩ := F w mg fa _ Y KX G.T.g hmg own
  exact law_callTs KX G.T.g G.T.b G.T.builtins G.T.nolimit hg hT nT C G.T.bmain hobj hints (Nat.le_trans hlen hn2) hr hF hb (fun H hH hS => hsp H a ns hlen hbits hH hS) fun H e s' => hCX w H s₁ e s'
/-- no table stands in the fragment -/
theorem notab_look {K : PySem.W.Frag} {h : Heap} (X : K.In h) (nt : PySem.W.noTabs K = true) {P : Addr} (e : h.get? P = some { cls := .none, data := .fields #[] }) : K.lookup P = none := by
  cases q : K.lookup P with
  | none => rfl
  | some o =>
    have e2 := X _ _ q
    rw [e] at e2
    cases e2
    have h2 := List.all_eq_true.mp nt (P, _) (PySem.W.mem_of_lookupK q)
    exact absurd (show false = true from h2) Bool.false_ne_true
end Nl

namespace Nl
open PySem PySem.Spec PyProof.Rows L2 LamX NdefX
theorem nodig_base {K : PySem.W.Frag} {h base : Heap} (X : K.In h) (XB : K.In base) (nd : h.NoDigits)
    (e : PySem.W.nsIn K cStatics "sys.int_max_str_digits" = some none) : base.NoDigits := by
  obtain ⟨mc, ⟨o, es, ep, ho, r⟩, hn⟩ := nd
  refine ⟨mc, ⟨o, es, ep, ?_, r⟩, hn⟩
  unfold PySem.W.nsIn at e
  cases hk : K.lookup cStatics with
  | none =>
    rw [hk] at e
    cases e
  | some ob =>
    have h2 := X _ _ hk
    rw [ho] at h2
    cases h2
    exact XB _ _ hk
/-- the end of a law row: tables of code objects, and the limit of digits as it is at first -/
theorem walk_ofTD {l : PySem.W.OpenLaw} {n k : Nat} {q : Program} {loose : List Str}
    {XP : (Str → Option Value) → Heap → Prop} {YP : World → Heap → Prop} {d : DefRec}
    {K : Params → PySem.W.Frag} {CX : World → CXT} {x : Str} (xs : List Str)
    (hn : l.most = some n) (hn2 : n ≤ sizeLine) (hdf : d.params.defaults = []) (hr : Room k callerA)
    (hrec : ∀ y ∈ xs, ((recsOf q).find? fun e => e.name == y).isSome = true)
    (hY : ∀ (w : World) (h : Heap), YP w h → (K w.params).In h)
    (F : ∀ (w : World) (mg : Str → Option Value) (fa : Addr) (h : Heap), YP w h → (K w.params).In h →
      h.Ns mainGlobals mg → mg d.name = some (.ref fa) → h.NoDigits →
      (∀ y ∈ xs, ∀ c P, PySem.W.tabIn (K w.params) y = some (c, P) →
        PySem.W.CodeHd h c P ∧ h.get? P = some { cls := .none, data := .fields #[] }) →
      LawAtS l w (K w.params) (CX w) k n x mg fa h)
    (hCX : ∀ (w : World) (H : Hp) (s : Shared) (e : Value) (s' : Shared),
      CX w [] H s (fun _ _ _ => False) e s' → False) :
    PySem.W.WalkO q loose XP YP l.row.toRowW d []
      (fun f vs => PySem.call f vs) := by
  refine Att.attach_callB hn hdf fun w s₀ s₁ mg mb fa o pm cd doc a vs ns G Y ho hd hcd hmg hobj hints hlen hbits hg => ?_
  have KX := hY w _ Y
  have own : ∀ y ∈ xs, ∀ c P, PySem.W.tabIn (K w.params) y = some (c, P) → PySem.W.CodeHd s₁.heap c P ∧ s₁.heap.get? P = some { cls := .none, data := .fields #[] } := fun y hy c P ht => by
    obtain ⟨dd, hdd⟩ := Option.isSome_iff_exists.mp (hrec y hy)
    exact PySem.W.tab_of G.T KX hdd ht
  obtain ⟨fd, cs, sp, hT, nT, C, hb, hsp, hF⟩ := F w mg fa _ Y KX G.T.g hmg G.T.nodigits own
  exact law_callTs KX G.T.g G.T.b G.T.builtins G.T.nolimit hg hT nT C G.T.bmain hobj hints
    (Nat.le_trans hlen hn2) hr hF hb (fun H hH hS => hsp H a ns hlen hbits hH hS) fun H e s' => hCX w H s₁ e s'
end Nl

namespace Nl
open PySem PySem.Spec PyProof.Rows L2
/-! ### keys -/
def keyP (p : List Int) : List Key := p.map Sum.inl
theorem keyP_v (p : List Int) : (keyP p).map kV = p.map V.int := by
  unfold keyP
  rw [List.map_map]
  rfl
theorem keyP_inj {p q : List Int} (h : keyP p = keyP q) : p = q := by
  induction p generalizing q with
  | nil =>
    cases q with
    | nil => rfl
    | cons y ys => cases h
  | cons x xs ih =>
    cases q with
    | nil => cases h
    | cons y ys =>
      have h : (Sum.inl x :: keyP xs : List Key) = Sum.inl y :: keyP ys := h
      injection h with h1 h2
      cases h1
      rw [ih h2]
theorem tp_key {H : Hp} {a : Addr} {p : List Int} (h : Tp H a (p.map V.int)) : H a = some (.tup ((keyP p).map kV)) := by
  rw [keyP_v]
  exact h
/-- the dict at a tells of each path what f tells -/
def DictP (H : Hp) (a : Addr) (m : Nat) (f : List Int → Option V) : Prop := ∃ kvs, H a = some (.dT kvs) ∧ kvs.length ≤ m ∧ ∀ p, valV kvs (keyP p) = f p
theorem DictP.get {H : Hp} {a b : Addr} {m : Nat} {f : List Int → Option V} {p : List Int} (h : DictP H a m f) (hb : Tp H b (p.map V.int)) : DGet H a (.ref b) (f p) := by
  obtain ⟨kvs, e, _, g⟩ := h
  rw [← g p]
  exact DGet.t e (tp_key hb)
theorem DictP.same {H H' : Hp} {a : Addr} {m : Nat} {f : List Int → Option V} (h : DictP H a m f) (s : Same H H') : DictP H' a m f := by
  obtain ⟨kvs, e, g⟩ := h
  exact ⟨kvs, s _ _ e, g⟩
theorem DictP.nil {H : Hp} {a : Addr} (h : H a = some (.dT [])) : DictP H a 0 fun _ => none := ⟨[], h, Nat.le_refl _, fun _ => rfl⟩
theorem DictP.put {H : Hp} {D b : Addr} {m : Nat} {f : List Int → Option V} {p : List Int} {v : V} (h : DictP H D m f) (hl : m < 1000) (hb : Tp H b (p.map V.int)) :
    ∃ kvs k c, V.ref b = .ref c ∧ H D = some (.dT kvs) ∧ H c = some (.tup (k.map kV)) ∧ kvs.length < sizeLine ∧ DictP (upd H D (.dT (putK kvs k v))) D (m + 1) fun q => if q = p then some v else f q := by
  obtain ⟨kvs, e, l, g⟩ := h
  refine ⟨kvs, keyP p, b, rfl, e, tp_key hb, Nat.lt_of_le_of_lt l (Nat.lt_of_lt_of_le hl (by decide)), _, upd_same, ?_, fun q => ?_⟩
  · have := length_putK kvs (keyP p) v
    omega
  · rw [valV_put, g q]
    show _ = if q = p then some v else f q
    by_cases eq : q = p
    · rw [if_pos eq, if_pos (by rw [eq])]
    · rw [if_neg eq, if_neg (fun z => eq (keyP_inj z))]
/-! ### a dict comprehension over a list, over a tuple -/
section
variable {K : PySem.W.Frag} {a D : Addr} {xs : List V} {g : TG} {tk tv : TE} {vs : List Nat} {τ : L2.St} {H1 : Hp} {R : Hp → Prop}
def dcTurn (J : It) (D : Addr) (g : TG) (tk tv : TE) (vs : List Nat) (τ : L2.St) (R : Hp → Prop) (W : Nat → Nat → Hp → Prop) : Prop := ∀ i m H, W i m H →
  (J.stop i H ∧ R H) ∨ (J.go i H ∧ ∃ Nx : Hp → Prop, (∀ H', Nx H' → ∃ m', m' < m ∧ W (i + 1) m' H') ∧ ∀ x H', J.yld i H x H' → g x (wipe τ vs) H' fun σ2 H2 => wipe σ2 vs = wipe τ vs ∧
    tk σ2 H2 fun y H4 => tv σ2 H4 fun z H5 => ∃ kvs k b, y = .ref b ∧ H5 D = some (.dT kvs) ∧ H5 b = some (.tup (k.map kV)) ∧ kvs.length < sizeLine ∧ Nx (upd H5 D (.dT (putK kvs k z))))
theorem dcT_list (Pv : Nat → Hp → Prop) (h0 : Pv 0 (upd H1 D (.dT []))) (hl : ∀ i H, Pv i H → SqL K H a xs)
    (hs : ∀ i x H, xs[i]? = some x → Pv i H → g x (wipe τ vs) H fun σ2 H2 => wipe σ2 vs = wipe τ vs ∧
      tk σ2 H2 fun y H4 => tv σ2 H4 fun z H5 => ∃ kvs k b, y = .ref b ∧ H5 D = some (.dT kvs) ∧ H5 b = some (.tup (k.map kV)) ∧ kvs.length < sizeLine ∧ Pv (i + 1) (upd H5 D (.dT (putK kvs k z))))
    (hd : ∀ H, Pv xs.length H → R H) : ∃ W : Nat → Nat → Hp → Prop, (∃ m, W 0 m (upd H1 D (.dT []))) ∧ dcTurn (Itl K a) D g tk tv vs τ R W := by
  refine ⟨fun i m H => m + i = xs.length ∧ Pv i H, ⟨xs.length, rfl, h0⟩, fun i m H ⟨em, p⟩ => ?_⟩
  by_cases hlt : i < xs.length
  · exact .inr ⟨⟨xs, xs[i], hl i H p, List.getElem?_eq_getElem hlt⟩, Pv (i + 1), fun H' p' => ⟨m - 1, by omega, by omega, p'⟩, fun x H' ⟨e, y⟩ => by
      subst e
      exact hs i x _ (y xs (hl i _ p)) p⟩
  · have e : i = xs.length := by omega
    subst e
    exact .inl ⟨⟨xs, hl _ H p, Nat.le_refl _⟩, hd H p⟩
theorem dcT_tup (Pv : Nat → Hp → Prop) (h0 : Pv 0 (upd H1 D (.dT []))) (hl : ∀ i H, Pv i H → SqT K H a xs)
    (hs : ∀ i x H, xs[i]? = some x → Pv i H → g x (wipe τ vs) H fun σ2 H2 => wipe σ2 vs = wipe τ vs ∧
      tk σ2 H2 fun y H4 => tv σ2 H4 fun z H5 => ∃ kvs k b, y = .ref b ∧ H5 D = some (.dT kvs) ∧ H5 b = some (.tup (k.map kV)) ∧ kvs.length < sizeLine ∧ Pv (i + 1) (upd H5 D (.dT (putK kvs k z))))
    (hd : ∀ H, Pv xs.length H → R H) : ∃ W : Nat → Nat → Hp → Prop, (∃ m, W 0 m (upd H1 D (.dT []))) ∧ dcTurn (Itt K a) D g tk tv vs τ R W := by
  refine ⟨fun i m H => m + i = xs.length ∧ Pv i H, ⟨xs.length, rfl, h0⟩, fun i m H ⟨em, p⟩ => ?_⟩
  by_cases hlt : i < xs.length
  · exact .inr ⟨⟨xs, xs[i], hl i H p, List.getElem?_eq_getElem hlt⟩, Pv (i + 1), fun H' p' => ⟨m - 1, by omega, by omega, p'⟩, fun x H' ⟨e, y⟩ => by
      subst e
      exact hs i x _ (y xs (hl i _ p)) p⟩
  · have e : i = xs.length := by omega
    subst e
    exact .inl ⟨⟨xs, hl _ H p, Nat.le_refl _⟩, hd H p⟩
end
/-! ### order of paths -/
theorem lexAt_le (a b : List Int) : ∀ (xs ys : List Int) (i : Nat), i = a.length → a.length = b.length →
    Ob.lexAt (fun j => decide ((a ++ xs).getD j 0 = (b ++ ys).getD j 0)) (fun j => decide ((a ++ xs).getD j 0 ≤ (b ++ ys).getD j 0)) (decide ((a ++ xs).length ≤ (b ++ ys).length)) i (min xs.length ys.length) = !HT.lexLt ys xs := by
  intro xs
  induction xs generalizing a b with
  | nil =>
    intro ys i hi hab
    have hm : min ([] : List Int).length ys.length = 0 := by simp
    rw [hm, Ob.lexAt_zero]
    cases ys with
    | nil => simp [HT.lexLt, hab]
    | cons y ys => simp [HT.lexLt, hab]
  | cons x xs ih =>
    intro ys i hi hab
    cases ys with
    | nil =>
      have hm : min (x :: xs).length ([] : List Int).length = 0 := by simp
      rw [hm, Ob.lexAt_zero]
      simp [HT.lexLt, hab]
    | cons y ys =>
      have hm : min (x :: xs).length (y :: ys).length = min xs.length ys.length + 1 := by simp
      have e1 : (a ++ x :: xs).getD i 0 = x := by subst hi; simp
      have e2 : (b ++ y :: ys).getD i 0 = y := by rw [hi, hab]; simp
      rw [hm, Ob.lexAt_succ, e1, e2, HT.lexLt_cons]
      by_cases e : x = y
      · have h := ih (a ++ [x]) (b ++ [y]) ys (i + 1) (by simp [hi]) (by simp [hab])
        simp only [List.append_assoc, List.singleton_append] at h
        rw [if_pos (decide_eq_true e), if_pos e.symm]
        exact h
      · rw [if_neg (by simpa using e), if_neg (fun z => e z.symm)]
        by_cases l : x ≤ y
        · rw [decide_eq_true l, decide_eq_false (by omega)]
          rfl
        · rw [decide_eq_false l, decide_eq_true (by omega)]
          rfl
def rLeP (K : PySem.W.Frag) : R2 := fun x y H Q => ∃ (a b : Addr) (p q : List Int), x = .ref a ∧ y = .ref b ∧ SqT K H a (p.map V.int) ∧ SqT K H b (q.map V.int) ∧ Q (.bl (!HT.lexLt q p)) H
theorem op_leP {X : Cx} (hu : X.A.units < cLine) : OpR X (compareOp .LtE) (rLeP X.K) := OpR.imp (op_leT hu) fun x y H Q ⟨a, b, p, q, ex, ey, ha, hb, h⟩ => ⟨a, b, p, q, ex, ey, ha, hb, by
  have := lexAt_le [] [] p q 0 rfl rfl
  simp only [List.nil_append] at this
  rw [this]
  exact h⟩
/-! ### plans -/
abbrev Q2 := Int × Int
def fracsD (l : List Q2) : PyData := .tuple (l.map frD)
abbrev PE2 := List Int × List Q2
def pentD (e : PE2) : PyData := .tuple [pathD e.1, fracsD e.2]
def planD (l : List PE2) : PyData := .tuple (l.map pentD)
/-- the j-th pair of a plan is as it must be -/
def okAt (n : Node) (g : Int) (l : List PE2) (j : Nat) : Prop := ∀ e, l[j]? = some e →
  (∃ x ∈ pre [] n, x.1 = e.1) ∧ (∀ i f, j = i + 1 → l[i]? = some f → HT.lexLt f.1 e.1 = true) ∧ (e.2.length : Int) = g - 1
def PlanOk (n : Node) (g : Int) (l : List PE2) : Prop := ∀ j, okAt n g l j
def pick (a : Q2) (p : Pr) : Q2 := if 0 < a.1 then p.1 else p.2
def moneyF (m : Q2) (l : List (Q2 × Pr)) : Q2 := l.foldl (fun m x => subF m (mulF x.1 (pick x.1 x.2))) m
def tradeF (h : List Q2) (ps : List Pr) (am : List Q2) : List Q2 := moneyF (h.headD (0, 1)) (am.zip ps) :: List.zipWith addF h.tail am
theorem cmp_pos (a : Q2) : 0 < cmpF a (0, 1) ↔ 0 < a.1 := by
  unfold cmpF
  simp only [Int.mul_one, Int.zero_mul]
  by_cases h : a.1 < 0
  · rw [if_pos h]
    omega
  · rw [if_neg h]
    by_cases h' : 0 < a.1
    · rw [if_pos h']
      omega
    · rw [if_neg h']
      omega
theorem pick_ok {a : Q2} {p : Pr} {k : Nat} (h : PrK k p) : Ok k (pick a p) := by
  unfold pick
  split
  · exact h.1
  · exact h.2
theorem moneyF_ok {k : Nat} : ∀ (l : List (Q2 × Pr)) (m : Q2), Ok k m → (∀ x ∈ l, Ok 10 x.1 ∧ PrK 201 x.2) → Ok (k + 212 * l.length) (moneyF m l)
  | [], m, h, _ => h
  | x :: l, m, h, hl => by
    have h0 := hl x (by simp)
    have h1 := subF_ok h (mulF_ok h0.1 (pick_ok h0.2 (a := x.1)) (Nat.le_refl _)) (n := k + 212) (by omega)
    have := moneyF_ok (k := k + 212) l _ h1 fun y hy => hl y (List.mem_cons_of_mem _ hy)
    refine Ok.mono (show Ok (k + 212 + 212 * l.length) (moneyF m (x :: l)) from this) ?_
    simp only [List.length_cons]
    omega
theorem moneyF_snoc (m : Q2) (l : List (Q2 × Pr)) (x : Q2 × Pr) : moneyF m (l ++ [x]) = subF (moneyF m l) (mulF x.1 (pick x.1 x.2)) := by
  unfold moneyF
  rw [List.foldl_append]
  rfl
theorem tradeF_ok {k : Nat} {h : List Q2} {ps : List Pr} {am : List Q2} (hh : ∀ x ∈ h, Ok k x) (h0 : 0 < h.length) (hp : ∀ p ∈ ps, PrK 201 p) (ha : ∀ a ∈ am, Ok 10 a) (hl : am.length ≤ 3) : ∀ x ∈ tradeF h ps am, Ok (k + 636) x := by
  intro x hx
  rcases List.mem_cons.mp hx with rfl | hx
  · have hd : Ok k (h.headD (0, 1)) := by
      cases h with
      | nil => simp at h0
      | cons a r => exact hh a (by simp)
    have := moneyF_ok (am.zip ps) _ hd fun y hy => ⟨ha _ (List.of_mem_zip hy).1, hp _ (List.of_mem_zip hy).2⟩
    refine this.mono ?_
    have : (am.zip ps).length ≤ am.length := by simp; omega
    omega
  · obtain ⟨i, hi, rfl⟩ := List.mem_iff_getElem.mp hx
    rw [List.getElem_zipWith]
    refine addF_ok (hh _ (List.mem_of_mem_tail (List.getElem_mem _))) (ha _ (List.getElem_mem _)) (by omega)
theorem tradeF_len {h : List Q2} {ps : List Pr} {am : List Q2} (hl : h.length = am.length + 1) : (tradeF h ps am).length = am.length + 1 := by
  unfold tradeF
  simp
  omega
/-! ### what is held at an end -/
def psAt (n : Node) (p : List Int) : List Pr := ((find n p).map Node.ps).getD []
def look (l : List PE2) (p : List Int) : Option (List Q2) := (l.find? fun e => decide (e.1 = p)).map (·.2)
def stepT (n : Node) (l : List PE2) (e : List Int) (h : List Q2) (t : Nat) : List Q2 := match look l (e.take t) with
  | some am => tradeF h (psAt n (e.take t)) am
  | none => h
def heldF (n : Node) (l : List PE2) (e : List Int) (h : List Q2) : Nat → List Q2
  | 0 => h
  | t + 1 => stepT n l e (heldF n l e h t) t
def stepL (n : Node) (e : List Int) (h : List Q2) (x : PE2) : List Q2 := if e.take x.1.length = x.1 then tradeF h (psAt n x.1) x.2 else h
theorem lex_take (e : List Int) : ∀ (a b : Nat), HT.lexLt (e.take a) (e.take b) = true → a < b := by
  induction e with
  | nil => intro a b h; simp [HT.lexLt] at h
  | cons x e ih =>
    intro a b h
    cases a with
    | zero =>
      cases b with
      | zero => simp [HT.lexLt] at h
      | succ b => omega
    | succ a =>
      cases b with
      | zero => simp [HT.lexLt] at h
      | succ b =>
        rw [List.take_succ_cons, List.take_succ_cons, HT.lexLt_cons, if_pos rfl] at h
        have := ih a b h
        omega
theorem filt_step {α : Type} (f : α → Nat) (T : Nat) : ∀ L : List α, (L.Pairwise fun a b => f a < f b) → L.filter (fun x => decide (f x < T + 1)) = L.filter (fun x => decide (f x < T)) ++ L.filter (fun x => decide (f x = T))
  | [], _ => rfl
  | x :: L, h => by
    obtain ⟨h1, h2⟩ := List.pairwise_cons.mp h
    have ih := filt_step f T L h2
    rcases Nat.lt_trichotomy (f x) T with c | c | c
    · rw [List.filter_cons_of_pos (by simpa using by omega), List.filter_cons_of_pos (by simpa using c), List.filter_cons_of_neg (by simpa using by omega), ih]
      rfl
    · have e1 : L.filter (fun x => decide (f x < T + 1)) = [] := List.filter_eq_nil_iff.mpr fun y hy => by have := h1 y hy; simp; omega
      have e2 : L.filter (fun x => decide (f x < T)) = [] := List.filter_eq_nil_iff.mpr fun y hy => by have := h1 y hy; simp; omega
      have e3 : L.filter (fun x => decide (f x = T)) = [] := List.filter_eq_nil_iff.mpr fun y hy => by have := h1 y hy; simp; omega
      rw [List.filter_cons_of_pos (by simpa using by omega), List.filter_cons_of_neg (by simpa using by omega), List.filter_cons_of_pos (by simpa using c), e1, e2, e3]
      rfl
    · rw [List.filter_cons_of_neg (by simpa using by omega), List.filter_cons_of_neg (by simpa using by omega), List.filter_cons_of_neg (by simpa using by omega), ih]
theorem lex_irr : ∀ p : List Int, HT.lexLt p p = false
  | [] => rfl
  | x :: p => by
    rw [HT.lexLt_cons, if_pos rfl]
    exact lex_irr p
def Sorted (l : List PE2) : Prop := l.Pairwise fun a b => HT.lexLt a.1 b.1 = true
theorem look_filter (p : List Int) : ∀ l : List PE2, Sorted l → l.filter (fun x => decide (x.1 = p)) = ((look l p).map fun am => (p, am)).toList
  | [], _ => rfl
  | x :: l, h => by
    obtain ⟨h1, h2⟩ := List.pairwise_cons.mp h
    by_cases e : x.1 = p
    · have e2 : l.filter (fun x => decide (x.1 = p)) = [] := List.filter_eq_nil_iff.mpr fun y hy => by
        have z := h1 y hy
        intro c
        rw [of_decide_eq_true c, e, lex_irr] at z
        cases z
      have e3 : look (x :: l) p = some x.2 := by simp [look, List.find?_cons, e]
      rw [List.filter_cons_of_pos (by simpa using e), e2, e3]
      cases x
      cases e
      rfl
    · have e3 : look (x :: l) p = look l p := by simp [look, List.find?_cons, e]
      rw [List.filter_cons_of_neg (by simpa using e), e3, look_filter p l h2]
theorem foldl_if {α β : Type} (g : β → α → β) (c : α → Prop) [DecidablePred c] : ∀ (l : List α) (b : β), l.foldl (fun b x => if c x then g b x else b) b = (l.filter fun x => decide (c x)).foldl g b
  | [], _ => rfl
  | x :: l, b => by
    by_cases h : c x
    · rw [List.filter_cons_of_pos (by simpa using h), List.foldl_cons, List.foldl_cons, if_pos h]
      exact foldl_if g c l _
    · rw [List.filter_cons_of_neg (by simpa using h), List.foldl_cons, if_neg h]
      exact foldl_if g c l _
theorem held_eq {n : Node} {l : List PE2} {e : List Int} {h : List Q2} (hs : Sorted l) : heldF n l e h (e.length + 1) = l.foldl (stepL n e) h := by
  have e1 : l.foldl (stepL n e) h = (l.filter fun x => decide (e.take x.1.length = x.1)).foldl (fun h x => tradeF h (psAt n x.1) x.2) h := foldl_if _ _ l h
  rw [e1]
  have hL : (l.filter fun x => decide (e.take x.1.length = x.1)).Pairwise fun a b => a.1.length < b.1.length := by
    refine List.Pairwise.imp_of_mem ?_ (List.Pairwise.filter _ hs)
    intro a b ha hb hab
    have ea : e.take a.1.length = a.1 := of_decide_eq_true (List.mem_filter.mp ha).2
    have eb : e.take b.1.length = b.1 := of_decide_eq_true (List.mem_filter.mp hb).2
    refine lex_take e _ _ ?_
    rw [ea, eb]
    exact hab
  have key : ∀ T, T ≤ e.length + 1 → heldF n l e h T = ((l.filter fun x => decide (e.take x.1.length = x.1)).filter fun x => decide (x.1.length < T)).foldl (fun h x => tradeF h (psAt n x.1) x.2) h := by
    intro T
    induction T with
    | zero =>
      intro _
      rw [List.filter_eq_nil_iff.mpr (fun y _ => by simp)]
      rfl
    | succ T ih =>
      intro hT
      have hlen : (e.take T).length = T := by rw [List.length_take]; omega
      have e2 : (l.filter fun x => decide (e.take x.1.length = x.1)).filter (fun x => decide (x.1.length = T)) = l.filter fun x => decide (x.1 = e.take T) := by
        rw [List.filter_filter]
        refine List.filter_congr fun x _ => ?_
        rw [← Bool.decide_and]
        refine decide_eq_decide.mpr ⟨fun ⟨a, b⟩ => ?_, fun a => ?_⟩
        · rw [← a, b]
        · rw [a, hlen]
          exact ⟨rfl, rfl⟩
      rw [filt_step (fun x : PE2 => x.1.length) T _ hL, e2, look_filter _ _ hs, List.foldl_append, ← ih (by omega)]
      show stepT n l e (heldF n l e h T) T = _
      unfold stepT
      cases look l (e.take T) <;> rfl
  rw [key _ (Nat.le_refl _), List.filter_eq_self.mpr]
  intro x hx
  have ex : e.take x.1.length = x.1 := of_decide_eq_true (List.mem_filter.mp hx).2
  have := congrArg List.length ex
  rw [List.length_take] at this
  exact decide_eq_true (by omega)
theorem heldF_ok {n : Node} {l : List PE2} {e : List Int} {h : List Q2} {k g : Nat} (hh : ∀ x ∈ h, Ok k x) (hg : h.length = g) (g1 : 1 ≤ g) (g4 : g ≤ 4) (hp : ∀ x ∈ pre [] n, ∀ p ∈ x.2.ps, PrK 201 p) (ha : ∀ x ∈ l, x.2.length + 1 = g ∧ ∀ a ∈ x.2, Ok 10 a) :
    ∀ T, (∀ x ∈ heldF n l e h T, Ok (k + 636 * T) x) ∧ (heldF n l e h T).length = g
  | 0 => ⟨hh, hg⟩
  | T + 1 => by
    obtain ⟨i1, i2⟩ := heldF_ok (e := e) hh hg g1 g4 hp ha T
    show (∀ x ∈ stepT n l e (heldF n l e h T) T, _) ∧ (stepT n l e (heldF n l e h T) T).length = g
    unfold stepT
    cases hl : look l (e.take T) with
    | none => exact ⟨fun x hx => (i1 x hx).mono (by omega), i2⟩
    | some am =>
      obtain ⟨x, hx, rfl⟩ := Option.map_eq_some_iff.mp hl
      have hm := ha x (List.mem_of_find?_eq_some hx)
      have hps : ∀ p ∈ psAt n (e.take T), PrK 201 p := by
        intro p hpp
        unfold psAt at hpp
        cases hf : find n (e.take T) with
        | none => rw [hf] at hpp; simp at hpp
        | some m =>
          rw [hf] at hpp
          obtain ⟨y, hy, rfl⟩ := find_pre n _ _ hf
          exact hp y hy p hpp
      refine ⟨fun y hy => (tradeF_ok i1 (by omega) hps hm.2 (by omega) y hy).mono (by omega), ?_⟩
      show (tradeF (heldF n l e h T) (psAt n (e.take T)) x.2).length = g
      rw [tradeF_len (by omega)]
      omega
theorem eqv_path (p q : List Int) : PyData.eqv (pathD p) (pathD q) = decide (p = q) := by
  have all : ∀ p q : List Int, PyData.eqvAll (p.map PyData.int) (q.map PyData.int) = decide (p = q) := by
    intro p
    induction p with
    | nil =>
      intro q
      cases q with
      | nil => simp [PyData.eqvAll]
      | cons y q => simp [PyData.eqvAll]
    | cons x p ih =>
      intro q
      cases q with
      | nil => simp [PyData.eqvAll]
      | cons y q =>
        rw [List.map_cons, List.map_cons, PyData.eqvAll, PyData.eqv, ih q]
        by_cases e : x = y
        · simp [e]
        · simp [e]
  unfold pathD
  rw [PyData.eqv, all]
theorem lex_trans : ∀ a b c : List Int, HT.lexLt a b = true → HT.lexLt b c = true → HT.lexLt a c = true
  | a, [], c, h, _ => by cases a <;> simp [HT.lexLt] at h
  | [], y :: b, [], _, g => by simp [HT.lexLt] at g
  | [], y :: b, z :: c, _, _ => rfl
  | x :: a, y :: b, [], _, g => by simp [HT.lexLt] at g
  | x :: a, y :: b, z :: c, h, g => by
    rw [HT.lexLt_cons] at h g ⊢
    by_cases e1 : x = y
    · rw [if_pos e1] at h
      subst e1
      by_cases e2 : x = z
      · rw [if_pos e2] at g ⊢
        exact lex_trans a b c h g
      · rw [if_neg e2] at g ⊢
        exact g
    · rw [if_neg e1] at h
      have l1 : x < y := of_decide_eq_true h
      by_cases e2 : y = z
      · subst e2
        rw [if_neg e1]
        exact h
      · rw [if_neg e2] at g
        have l2 : y < z := of_decide_eq_true g
        rw [if_neg (by omega)]
        exact decide_eq_true (by omega)
theorem PlanOk.sorted {n : Node} {g : Int} {l : List PE2} (h : PlanOk n g l) : Sorted l := by
  have key : ∀ d i (h1 : i + d + 1 < l.length), HT.lexLt l[i].1 l[i + d + 1].1 = true := by
    intro d
    induction d with
    | zero =>
      intro i h1
      exact (h (i + 1) _ (List.getElem?_eq_getElem h1)).2.1 i _ rfl (List.getElem?_eq_getElem (by omega))
    | succ d ih =>
      intro i h1
      have h2 := ih i (by omega)
      have h3 := (h (i + d + 1 + 1) _ (List.getElem?_eq_getElem (by omega))).2.1 (i + d + 1) _ rfl (List.getElem?_eq_getElem (by omega))
      exact lex_trans _ _ _ h2 h3
  refine List.pairwise_iff_getElem.mpr fun i j hi hj hij => ?_
  have := key (j - i - 1) i (by omega)
  have e : i + (j - i - 1) + 1 = j := by omega
  simp only [e] at this
  exact this
end Nl

namespace Nl
open PySem PySem.Spec PyProof.Rows L2
def top (i : Nat) : Stmt := PySem.Challenge.pw_nolunch_k05_texts_of_markets.main.body.getD i (.Pass ⟨0, 0, 0, 0⟩)
abbrev s_is_natural : Stmt := top 9
theorem sc_is_natural : FnScope ["text"] ["text"] (defScope s_is_natural) := ⟨rfl, rfl, rfl, by decide +kernel, rfl, by decide +kernel, by decide +kernel⟩
abbrev s_read_natural : Stmt := top 10
theorem sc_read_natural : FnScope ["text"] ["text"] (defScope s_read_natural) := ⟨rfl, rfl, rfl, by decide +kernel, rfl, by decide +kernel, by decide +kernel⟩
abbrev s_write_integer : Stmt := top 11
theorem sc_write_integer : FnScope ["number", "piece", "rest", "pieces", "low"] ["number"] (defScope s_write_integer) := ⟨rfl, rfl, rfl, by decide +kernel, rfl, by decide +kernel, by decide +kernel⟩
abbrev s_fraction : Stmt := top 14
theorem sc_fraction : FnScope ["numerator", "denominator", "shared"] ["numerator", "denominator"] (defScope s_fraction) := ⟨rfl, rfl, rfl, by decide +kernel, rfl, by decide +kernel, by decide +kernel⟩
abbrev s_compare : Stmt := top 15
theorem sc_compare : FnScope ["a", "b", "left", "right"] ["a", "b"] (defScope s_compare) := ⟨rfl, rfl, rfl, by decide +kernel, rfl, by decide +kernel, by decide +kernel⟩
abbrev s_write_fraction : Stmt := top 16
theorem sc_write_fraction : FnScope ["a", "numerator", "denominator"] ["a"] (defScope s_write_fraction) := ⟨rfl, rfl, rfl, by decide +kernel, rfl, by decide +kernel, by decide +kernel⟩
abbrev s_read_fraction : Stmt := top 17
theorem sc_read_fraction : FnScope ["text", "top", "slash", "bottom", "numerator", "denominator"] ["text"] (defScope s_read_fraction) := ⟨rfl, rfl, rfl, by decide +kernel, rfl, by decide +kernel, by decide +kernel⟩
abbrev s_check_market : Stmt := top 22
theorem sc_check_market : FnScope ["market", "goods", "_", "nodes", "node", "end_times", "path"] ["market"] (defScope s_check_market) := ⟨rfl, rfl, rfl, by decide +kernel, rfl, by decide +kernel, by decide +kernel⟩
abbrev s__check_prices : Stmt := top 23
theorem sc__check_prices : FnScope ["goods", "prices", "pair", "buy", "sell"] ["goods", "prices"] (defScope s__check_prices) := ⟨rfl, rfl, rfl, by decide +kernel, rfl, by decide +kernel, by decide +kernel⟩
abbrev s_walk : Stmt := top 24
theorem sc_walk : FnScope ["market", "found", "waiting", "path", "node", "following", "index"] ["market"] (defScope s_walk) := ⟨rfl, rfl, rfl, by decide +kernel, rfl, by decide +kernel, by decide +kernel⟩
abbrev s_write_market : Stmt := top 26
theorem sc_write_market : FnScope ["market", "goods", "_", "lines", "path", "node", "words", "buy", "sell"] ["market"] (defScope s_write_market) := ⟨rfl, rfl, rfl, by decide +kernel, rfl, by decide +kernel, by decide +kernel⟩
abbrev s_read_market : Stmt := top 27
theorem sc_read_market : FnScope ["text", "lines", "goods", "told", "market", "line", "path", "_"] ["text"] (defScope s_read_market) := ⟨rfl, rfl, rfl, by decide +kernel, rfl, by decide +kernel, by decide +kernel⟩
abbrev s__write_path : Stmt := top 28
theorem sc__write_path : FnScope ["path", "index"] ["path"] (defScope s__write_path) := ⟨rfl, rfl, rfl, by decide +kernel, rfl, by decide +kernel, by decide +kernel⟩
abbrev s__read_path : Stmt := top 29
theorem sc__read_path : FnScope ["word", "index"] ["word"] (defScope s__read_path) := ⟨rfl, rfl, rfl, by decide +kernel, rfl, by decide +kernel, by decide +kernel⟩
abbrev s__read_goods : Stmt := top 30
theorem sc__read_goods : FnScope ["line", "words"] ["line"] (defScope s__read_goods) := ⟨rfl, rfl, rfl, by decide +kernel, rfl, by decide +kernel, by decide +kernel⟩
abbrev s__read_moment : Stmt := top 31
theorem sc__read_moment : FnScope ["goods", "line", "words", "numbers", "prices", "word", "k"] ["goods", "line"] (defScope s__read_moment) := ⟨rfl, rfl, rfl, by decide +kernel, rfl, by decide +kernel, by decide +kernel⟩
abbrev s__check_order : Stmt := top 32
theorem sc__check_order : FnScope ["paths", "children", "before", "path", "parent"] ["paths"] (defScope s__check_order) := ⟨rfl, rfl, rfl, by decide +kernel, rfl, by decide +kernel, by decide +kernel⟩
abbrev s__tree : Stmt := top 33
theorem sc__tree : FnScope ["told", "path", "following", "prices", "_"] ["told"] (defScope s__tree) := ⟨rfl, rfl, rfl, by decide +kernel, rfl, by decide +kernel, by decide +kernel⟩
abbrev s__law_begin : Stmt := top 35
theorem sc__law_begin : FnScope ["script", "seed", "cell"] ["script"] (defScope s__law_begin) := ⟨rfl, rfl, rfl, by decide +kernel, rfl, by decide +kernel, by decide +kernel⟩
abbrev s__law_take : Stmt := top 36
theorem sc__law_take : FnScope ["d", "many", "small", "digit"] ["d", "many"] (defScope s__law_take) := ⟨rfl, rfl, rfl, by decide +kernel, rfl, by decide +kernel, by decide +kernel⟩
abbrev s__law_gcd : Stmt := top 37
theorem sc__law_gcd : FnScope ["a", "b"] ["a", "b"] (defScope s__law_gcd) := ⟨rfl, rfl, rfl, by decide +kernel, rfl, by decide +kernel, by decide +kernel⟩
abbrev s__law_f : Stmt := top 38
theorem sc__law_f : FnScope ["a", "b", "c"] ["a", "b"] (defScope s__law_f) := ⟨rfl, rfl, rfl, by decide +kernel, rfl, by decide +kernel, by decide +kernel⟩
abbrev s__law_plus : Stmt := top 39
theorem sc__law_plus : FnScope ["a", "b"] ["a", "b"] (defScope s__law_plus) := ⟨rfl, rfl, rfl, by decide +kernel, rfl, by decide +kernel, by decide +kernel⟩
abbrev s__law_minus : Stmt := top 40
theorem sc__law_minus : FnScope ["a", "b"] ["a", "b"] (defScope s__law_minus) := ⟨rfl, rfl, rfl, by decide +kernel, rfl, by decide +kernel, by decide +kernel⟩
abbrev s__law_times : Stmt := top 41
theorem sc__law_times : FnScope ["a", "b"] ["a", "b"] (defScope s__law_times) := ⟨rfl, rfl, rfl, by decide +kernel, rfl, by decide +kernel, by decide +kernel⟩
abbrev s__law_spread : Stmt := top 42
theorem sc__law_spread : FnScope ["d", "mid", "s", "low"] ["d", "mid"] (defScope s__law_spread) := ⟨rfl, rfl, rfl, by decide +kernel, rfl, by decide +kernel, by decide +kernel⟩
abbrev s__law_node : Stmt := top 43
theorem sc__law_node : FnScope ["d", "goods", "time", "last", "wild", "many", "k", "children", "weights", "mids", "good", "mid", "total", "prices", "child"] ["d", "goods", "time", "last", "wild"] (defScope s__law_node) := ⟨rfl, rfl, rfl, by decide +kernel, rfl, by decide +kernel, by decide +kernel⟩
abbrev s__law_market : Stmt := top 44
theorem sc__law_market : FnScope ["d", "most", "goods", "wild"] ["d", "most"] (defScope s__law_market) := ⟨rfl, rfl, rfl, by decide +kernel, rfl, by decide +kernel, by decide +kernel⟩
abbrev s__law_nodes : Stmt := top 45
theorem sc__law_nodes : FnScope ["market", "rows", "level", "turn", "fresh", "path", "node", "k", "row"] ["market"] (defScope s__law_nodes) := ⟨rfl, rfl, rfl, by decide +kernel, rfl, by decide +kernel, by decide +kernel⟩
abbrev s__law_find : Stmt := top 46
theorem sc__law_find : FnScope ["market", "path", "node", "k"] ["market", "path"] (defScope s__law_find) := ⟨rfl, rfl, rfl, by decide +kernel, rfl, by decide +kernel, by decide +kernel⟩
abbrev s__law_word : Stmt := top 47
theorem sc__law_word : FnScope ["a"] ["a"] (defScope s__law_word) := ⟨rfl, rfl, rfl, by decide +kernel, rfl, by decide +kernel, by decide +kernel⟩
abbrev s__law_text : Stmt := top 48
theorem sc__law_text : FnScope ["market", "text", "path", "node", "words", "buy", "sell", "k"] ["market"] (defScope s__law_text) := ⟨rfl, rfl, rfl, by decide +kernel, rfl, by decide +kernel, by decide +kernel⟩
abbrev s__law_told : Stmt := top 49
theorem sc__law_told : FnScope ["text", "found", "e"] ["text"] (defScope s__law_told) := ⟨rfl, rfl, rfl, by decide +kernel, rfl, by decide +kernel, by decide +kernel⟩
abbrev s__law_bent : Stmt := top 50
theorem sc__law_bent : FnScope ["d", "text", "menu", "lines", "here", "place", "sign"] ["d", "text"] (defScope s__law_bent) := ⟨rfl, rfl, rfl, by decide +kernel, rfl, by decide +kernel, by decide +kernel⟩
abbrev s_law : Stmt := top 51
theorem sc_law : FnScope ["script", "d", "market", "text", "turn", "bent", "told"] ["script"] (defScope s_law) := ⟨rfl, rfl, rfl, by decide +kernel, rfl, by decide +kernel, by decide +kernel⟩
structure Top (K : PySem.W.Frag) (mg : Str → Option Value) where
  a_is_natural : Addr
  d_is_natural : FuncData
  is_natural_F : Fun K "is_natural" "is_natural" s_is_natural a_is_natural d_is_natural
  is_natural_b : Binds K d_is_natural ["text"] []
  g_is_natural : mg "is_natural" = some (.ref a_is_natural)
  a_read_natural : Addr
  d_read_natural : FuncData
  read_natural_F : Fun K "read_natural" "read_natural" s_read_natural a_read_natural d_read_natural
  read_natural_b : Binds K d_read_natural ["text"] []
  g_read_natural : mg "read_natural" = some (.ref a_read_natural)
  a_write_integer : Addr
  d_write_integer : FuncData
  write_integer_F : Fun K "write_integer" "write_integer" s_write_integer a_write_integer d_write_integer
  write_integer_b : Binds K d_write_integer ["number"] []
  g_write_integer : mg "write_integer" = some (.ref a_write_integer)
  a_fraction : Addr
  d_fraction : FuncData
  fraction_F : Fun K "fraction" "fraction" s_fraction a_fraction d_fraction
  fraction_b : Binds K d_fraction ["numerator", "denominator"] []
  g_fraction : mg "fraction" = some (.ref a_fraction)
  a_compare : Addr
  d_compare : FuncData
  compare_F : Fun K "compare" "compare" s_compare a_compare d_compare
  compare_b : Binds K d_compare ["a", "b"] []
  g_compare : mg "compare" = some (.ref a_compare)
  a_write_fraction : Addr
  d_write_fraction : FuncData
  write_fraction_F : Fun K "write_fraction" "write_fraction" s_write_fraction a_write_fraction d_write_fraction
  write_fraction_b : Binds K d_write_fraction ["a"] []
  g_write_fraction : mg "write_fraction" = some (.ref a_write_fraction)
  a_read_fraction : Addr
  d_read_fraction : FuncData
  read_fraction_F : Fun K "read_fraction" "read_fraction" s_read_fraction a_read_fraction d_read_fraction
  read_fraction_b : Binds K d_read_fraction ["text"] []
  g_read_fraction : mg "read_fraction" = some (.ref a_read_fraction)
  a_check_market : Addr
  d_check_market : FuncData
  check_market_F : Fun K "check_market" "check_market" s_check_market a_check_market d_check_market
  check_market_b : Binds K d_check_market ["market"] []
  g_check_market : mg "check_market" = some (.ref a_check_market)
  a__check_prices : Addr
  d__check_prices : FuncData
  _check_prices_F : Fun K "_check_prices" "_check_prices" s__check_prices a__check_prices d__check_prices
  _check_prices_b : Binds K d__check_prices ["goods", "prices"] []
  g__check_prices : mg "_check_prices" = some (.ref a__check_prices)
  a_walk : Addr
  d_walk : FuncData
  walk_F : Fun K "walk" "walk" s_walk a_walk d_walk
  walk_b : Binds K d_walk ["market"] []
  g_walk : mg "walk" = some (.ref a_walk)
  a_write_market : Addr
  d_write_market : FuncData
  write_market_F : Fun K "write_market" "write_market" s_write_market a_write_market d_write_market
  write_market_b : Binds K d_write_market ["market"] []
  g_write_market : mg "write_market" = some (.ref a_write_market)
  a_read_market : Addr
  d_read_market : FuncData
  read_market_F : Fun K "read_market" "read_market" s_read_market a_read_market d_read_market
  read_market_b : Binds K d_read_market ["text"] []
  g_read_market : mg "read_market" = some (.ref a_read_market)
  a__write_path : Addr
  d__write_path : FuncData
  _write_path_F : Fun K "_write_path" "_write_path" s__write_path a__write_path d__write_path
  _write_path_b : Binds K d__write_path ["path"] []
  g__write_path : mg "_write_path" = some (.ref a__write_path)
  a__read_path : Addr
  d__read_path : FuncData
  _read_path_F : Fun K "_read_path" "_read_path" s__read_path a__read_path d__read_path
  _read_path_b : Binds K d__read_path ["word"] []
  g__read_path : mg "_read_path" = some (.ref a__read_path)
  a__read_goods : Addr
  d__read_goods : FuncData
  _read_goods_F : Fun K "_read_goods" "_read_goods" s__read_goods a__read_goods d__read_goods
  _read_goods_b : Binds K d__read_goods ["line"] []
  g__read_goods : mg "_read_goods" = some (.ref a__read_goods)
  a__read_moment : Addr
  d__read_moment : FuncData
  _read_moment_F : Fun K "_read_moment" "_read_moment" s__read_moment a__read_moment d__read_moment
  _read_moment_b : Binds K d__read_moment ["goods", "line"] []
  g__read_moment : mg "_read_moment" = some (.ref a__read_moment)
  a__check_order : Addr
  d__check_order : FuncData
  _check_order_F : Fun K "_check_order" "_check_order" s__check_order a__check_order d__check_order
  _check_order_b : Binds K d__check_order ["paths"] []
  g__check_order : mg "_check_order" = some (.ref a__check_order)
  a__tree : Addr
  d__tree : FuncData
  _tree_F : Fun K "_tree" "_tree" s__tree a__tree d__tree
  _tree_b : Binds K d__tree ["told"] []
  g__tree : mg "_tree" = some (.ref a__tree)
  a__law_begin : Addr
  d__law_begin : FuncData
  _law_begin_F : Fun K "_law_begin" "_law_begin" s__law_begin a__law_begin d__law_begin
  _law_begin_b : Binds K d__law_begin ["script"] []
  g__law_begin : mg "_law_begin" = some (.ref a__law_begin)
  a__law_take : Addr
  d__law_take : FuncData
  _law_take_F : Fun K "_law_take" "_law_take" s__law_take a__law_take d__law_take
  _law_take_b : Binds K d__law_take ["d", "many"] []
  g__law_take : mg "_law_take" = some (.ref a__law_take)
  a__law_gcd : Addr
  d__law_gcd : FuncData
  _law_gcd_F : Fun K "_law_gcd" "_law_gcd" s__law_gcd a__law_gcd d__law_gcd
  _law_gcd_b : Binds K d__law_gcd ["a", "b"] []
  g__law_gcd : mg "_law_gcd" = some (.ref a__law_gcd)
  a__law_f : Addr
  d__law_f : FuncData
  _law_f_F : Fun K "_law_f" "_law_f" s__law_f a__law_f d__law_f
  _law_f_b : Binds K d__law_f ["a", "b"] []
  g__law_f : mg "_law_f" = some (.ref a__law_f)
  a__law_plus : Addr
  d__law_plus : FuncData
  _law_plus_F : Fun K "_law_plus" "_law_plus" s__law_plus a__law_plus d__law_plus
  _law_plus_b : Binds K d__law_plus ["a", "b"] []
  g__law_plus : mg "_law_plus" = some (.ref a__law_plus)
  a__law_minus : Addr
  d__law_minus : FuncData
  _law_minus_F : Fun K "_law_minus" "_law_minus" s__law_minus a__law_minus d__law_minus
  _law_minus_b : Binds K d__law_minus ["a", "b"] []
  g__law_minus : mg "_law_minus" = some (.ref a__law_minus)
  a__law_times : Addr
  d__law_times : FuncData
  _law_times_F : Fun K "_law_times" "_law_times" s__law_times a__law_times d__law_times
  _law_times_b : Binds K d__law_times ["a", "b"] []
  g__law_times : mg "_law_times" = some (.ref a__law_times)
  a__law_spread : Addr
  d__law_spread : FuncData
  _law_spread_F : Fun K "_law_spread" "_law_spread" s__law_spread a__law_spread d__law_spread
  _law_spread_b : Binds K d__law_spread ["d", "mid"] []
  g__law_spread : mg "_law_spread" = some (.ref a__law_spread)
  a__law_node : Addr
  d__law_node : FuncData
  _law_node_F : Fun K "_law_node" "_law_node" s__law_node a__law_node d__law_node
  _law_node_b : Binds K d__law_node ["d", "goods", "time", "last", "wild"] []
  g__law_node : mg "_law_node" = some (.ref a__law_node)
  a__law_market : Addr
  d__law_market : FuncData
  _law_market_F : Fun K "_law_market" "_law_market" s__law_market a__law_market d__law_market
  _law_market_b : Binds K d__law_market ["d", "most"] []
  g__law_market : mg "_law_market" = some (.ref a__law_market)
  a__law_nodes : Addr
  d__law_nodes : FuncData
  _law_nodes_F : Fun K "_law_nodes" "_law_nodes" s__law_nodes a__law_nodes d__law_nodes
  _law_nodes_b : Binds K d__law_nodes ["market"] []
  g__law_nodes : mg "_law_nodes" = some (.ref a__law_nodes)
  a__law_find : Addr
  d__law_find : FuncData
  _law_find_F : Fun K "_law_find" "_law_find" s__law_find a__law_find d__law_find
  _law_find_b : Binds K d__law_find ["market", "path"] []
  g__law_find : mg "_law_find" = some (.ref a__law_find)
  a__law_word : Addr
  d__law_word : FuncData
  _law_word_F : Fun K "_law_word" "_law_word" s__law_word a__law_word d__law_word
  _law_word_b : Binds K d__law_word ["a"] []
  g__law_word : mg "_law_word" = some (.ref a__law_word)
  a__law_text : Addr
  d__law_text : FuncData
  _law_text_F : Fun K "_law_text" "_law_text" s__law_text a__law_text d__law_text
  _law_text_b : Binds K d__law_text ["market"] []
  g__law_text : mg "_law_text" = some (.ref a__law_text)
  a__law_told : Addr
  d__law_told : FuncData
  _law_told_F : Fun K "_law_told" "_law_told" s__law_told a__law_told d__law_told
  _law_told_b : Binds K d__law_told ["text"] []
  g__law_told : mg "_law_told" = some (.ref a__law_told)
  a__law_bent : Addr
  d__law_bent : FuncData
  _law_bent_F : Fun K "_law_bent" "_law_bent" s__law_bent a__law_bent d__law_bent
  _law_bent_b : Binds K d__law_bent ["d", "text"] []
  g__law_bent : mg "_law_bent" = some (.ref a__law_bent)
  n_abs : mg "abs" = none
  n_divmod : mg "divmod" = none
  n_int : mg "int" = none
  n_isinstance : mg "isinstance" = none
  n_len : mg "len" = none
  n_list : mg "list" = none
  n_max : mg "max" = none
  n_min : mg "min" = none
  n_range : mg "range" = none
  n_reversed : mg "reversed" = none
  n_sorted : mg "sorted" = none
  n_str : mg "str" = none
  n_sum : mg "sum" = none
  n_tuple : mg "tuple" = none
  g_gcd : mg "gcd" = some (.builtin "math.gcd")
  t_DIGIT_LIMIT : Tok
  g_DIGIT_LIMIT : mg "DIGIT_LIMIT" = some (.int 9 t_DIGIT_LIMIT)
  t_TEXT_LIMIT : Tok
  g_TEXT_LIMIT : mg "TEXT_LIMIT" = some (.int 1000 t_TEXT_LIMIT)
  t_GOODS_LIMIT : Tok
  g_GOODS_LIMIT : mg "GOODS_LIMIT" = some (.int 4 t_GOODS_LIMIT)
  t_MOMENT_LIMIT : Tok
  g_MOMENT_LIMIT : mg "MOMENT_LIMIT" = some (.int 40 t_MOMENT_LIMIT)
  t_TIME_LIMIT : Tok
  g_TIME_LIMIT : mg "TIME_LIMIT" = some (.int 5 t_TIME_LIMIT)
  c_MarketplaceError : Addr
  g_MarketplaceError : mg "MarketplaceError" = some (.ref c_MarketplaceError)
  x_MarketplaceError : PySem.W.excIn K c_MarketplaceError [.type "ValueError", .type "Exception", .type "BaseException", .type "object"] "ValueError.__new__" = true
  k_MarketplaceError : PySem.W.keepIn K (.ref c_MarketplaceError) = true
  b_MarketplaceError : PySem.W.subIn K (.ref c_MarketplaceError) (.type "BaseException") = some true
  t_MarketplaceError : PySem.W.typeIn K (.ref c_MarketplaceError) = some (.type "type")
  h_MarketplaceError : PySem.W.hasDictIn K c_MarketplaceError = true
  e_MarketplaceError : ExcC K c_MarketplaceError
  c_ZeroDenominator : Addr
  g_ZeroDenominator : mg "ZeroDenominator" = some (.ref c_ZeroDenominator)
  x_ZeroDenominator : PySem.W.excIn K c_ZeroDenominator [.type "ValueError", .type "Exception", .type "BaseException", .type "object"] "ValueError.__new__" = true
  k_ZeroDenominator : PySem.W.keepIn K (.ref c_ZeroDenominator) = true
  b_ZeroDenominator : PySem.W.subIn K (.ref c_ZeroDenominator) (.type "BaseException") = some true
  t_ZeroDenominator : PySem.W.typeIn K (.ref c_ZeroDenominator) = some (.type "type")
  h_ZeroDenominator : PySem.W.hasDictIn K c_ZeroDenominator = true
  e_ZeroDenominator : ExcC K c_ZeroDenominator
  c_TextError : Addr
  g_TextError : mg "TextError" = some (.ref c_TextError)
  x_TextError : PySem.W.excIn K c_TextError [.type "ValueError", .type "Exception", .type "BaseException", .type "object"] "ValueError.__new__" = true
  k_TextError : PySem.W.keepIn K (.ref c_TextError) = true
  b_TextError : PySem.W.subIn K (.ref c_TextError) (.type "BaseException") = some true
  t_TextError : PySem.W.typeIn K (.ref c_TextError) = some (.type "type")
  h_TextError : PySem.W.hasDictIn K c_TextError = true
  e_TextError : ExcC K c_TextError
  c_MarketError : Addr
  g_MarketError : mg "MarketError" = some (.ref c_MarketError)
  x_MarketError : PySem.W.excIn K c_MarketError [.type "ValueError", .type "Exception", .type "BaseException", .type "object"] "ValueError.__new__" = true
  k_MarketError : PySem.W.keepIn K (.ref c_MarketError) = true
  b_MarketError : PySem.W.subIn K (.ref c_MarketError) (.type "BaseException") = some true
  t_MarketError : PySem.W.typeIn K (.ref c_MarketError) = some (.type "type")
  h_MarketError : PySem.W.hasDictIn K c_MarketError = true
  e_MarketError : ExcC K c_MarketError
  c_TooLarge : Addr
  g_TooLarge : mg "TooLarge" = some (.ref c_TooLarge)
  x_TooLarge : PySem.W.excIn K c_TooLarge [.type "ValueError", .type "Exception", .type "BaseException", .type "object"] "ValueError.__new__" = true
  k_TooLarge : PySem.W.keepIn K (.ref c_TooLarge) = true
  b_TooLarge : PySem.W.subIn K (.ref c_TooLarge) (.type "BaseException") = some true
  t_TooLarge : PySem.W.typeIn K (.ref c_TooLarge) = some (.type "type")
  h_TooLarge : PySem.W.hasDictIn K c_TooLarge = true
  e_TooLarge : ExcC K c_TooLarge
  s_MarketError_MarketplaceError : PySem.W.subIn K (.ref c_MarketError) (.ref c_MarketplaceError) = some true
  s_MarketError_TextError : PySem.W.subIn K (.ref c_MarketError) (.ref c_TextError) = some false
  s_MarketError_MarketError : PySem.W.subIn K (.ref c_MarketError) (.ref c_MarketError) = some true
  s_TooLarge_MarketplaceError : PySem.W.subIn K (.ref c_TooLarge) (.ref c_MarketplaceError) = some true
  s_TooLarge_TextError : PySem.W.subIn K (.ref c_TooLarge) (.ref c_TextError) = some false
  s_TooLarge_TooLarge : PySem.W.subIn K (.ref c_TooLarge) (.ref c_TooLarge) = some true
  s_TextError_MarketplaceError : PySem.W.subIn K (.ref c_TextError) (.ref c_MarketplaceError) = some true
  s_TextError_TextError : PySem.W.subIn K (.ref c_TextError) (.ref c_TextError) = some true
section
variable {P : Program} {w : World} {K : PySem.W.Frag} {mg : Str → Option Value} {base : Heap}
def sp_compare (K : PySem.W.Frag) : Sp := fun vs H Q _ => ∃ (va vb : V) (p q : Int × Int), vs = [va, vb] ∧ DT K H va (frD p) ∧ DT K H vb (frD q) ∧ FB p ∧ FB q ∧ Q (.int (cmpF p q)) H
theorem ok_compare (T : Top K mg) : FnOk P w K mg base CX0 1 T.a_compare T.d_compare ["a", "b"] (sp_compare K) := by
  refine T.compare_F.ok sc_compare (fun vs H Q E h => ?_) (fun cdv A outer s H vs Q E hr h => ?_)
  · obtain ⟨_, _, _, _, rfl, _⟩ := h
    rfl
  · obtain ⟨_, _, p, q, rfl, da, db, ⟨p1, p2⟩, ⟨q1, q2⟩, fin⟩ := h
    obtain ⟨a, rfl, ha⟩ := da.fr_inv
    obtain ⟨b, rfl, hb⟩ := db.fr_inv
    refine ⟨_, (pss_cons (ps_set (i := 2) sc_compare.nd rfl (Or.inl rfl) (pe_op op_mulW (pe_ix ix_tup (pv 0) pe_int (fun _ _ => rfl)) (pe_ix ix_tup (pv 1) pe_int (fun _ _ => rfl))))
      (pss_cons (ps_set (i := 3) sc_compare.nd rfl (Or.inl rfl) (pe_op op_mulW (pe_ix ix_tup (pv 1) pe_int (fun _ _ => rfl)) (pe_ix ix_tup (pv 0) pe_int (fun _ _ => rfl))))
      (pss_cons (ps_if (pt_cmpR op_lt (pv 2) (pv 3) (nomark _)) (pss_one (ps_ret (pe_un un_neg pe_int))) pss_nil)
      (pss_one (ps_ret (pe_ifExp (pt_cmpR op_gt (pv 2) (pv 3) (nomark _)) pe_int pe_int)))))), ?_⟩
    refine ⟨_, rfl, _, _, _, _, rfl, rfl, (SqT.of ha), (atI_nat (j := 0) rfl), _, rfl, _, _, _, _, rfl, rfl, (SqT.of hb), (atI_nat (j := 1) rfl), _, _, rfl, rfl, (by first | exact mulK hk (by assumption) (by assumption) | exact mulF3 (by assumption) (by assumption)), _, rfl, _, _, _, _, rfl, rfl, (SqT.of hb), (atI_nat (j := 0) rfl), _, rfl, _, _, _, _, rfl, rfl, (SqT.of ha), (atI_nat (j := 1) rfl), _, _, rfl, rfl, (by first | exact mulK hk (by assumption) (by assumption) | exact mulF3 (by assumption) (by assumption)), ?_⟩
    refine ⟨_, rfl, _, rfl, _, _, rfl, rfl, _, rfl, ite2 (fun e => ?_) (fun e => ?_)⟩
    · have c : cmpF p q = -1 := if_pos (of_decide_eq_true e)
      rw [c] at fin
      exact ⟨_, rfl, fin⟩
    · have e0 : ¬ p.1 * q.2 < q.1 * p.2 := fun z => e (decide_eq_true z)
      refine ⟨_, rfl, _, rfl, _, _, rfl, rfl, _, rfl, ite2 (fun e => ?_) (fun e => ?_)⟩
      · have c : cmpF p q = 1 := (if_neg e0).trans (if_pos (of_decide_eq_true e))
        rw [c] at fin
        exact fin
      · have c : cmpF p q = 0 := (if_neg e0).trans (if_neg fun z => e (decide_eq_true z))
        rw [c] at fin
        exact fin
def sp_prices (K : PySem.W.Frag) (M : Addr) : Sp := fun vs H Q E => ∃ (g : Int) (v : V) (ps : List Pr), vs = [.int g, v] ∧ DT K H v (pricesD ps) ∧ (∀ p ∈ ps, PrB p) ∧ (badPs g ps → ∀ H', Same H H' → E (.ref M) none H') ∧ (¬ badPs g ps → ∀ H', Same H H' → Q .non H')
theorem ok__check_prices (T : Top K mg) : FnOk P w K mg base (L2.CX P w) 2 T.a__check_prices T.d__check_prices ["goods", "prices"] (sp_prices K T.c_MarketError) := by
  refine T._check_prices_F.okX sc__check_prices (fun vs H Q E h => ?_) (fun cdv A outer s H vs Q E hr h => ?_)
  · obtain ⟨_, _, _, rfl, _⟩ := h
    rfl
  · obtain ⟨g, v, ps, rfl, dv, hb, kE, kQ⟩ := h
    obtain ⟨a, xs, rfl, ha, hx⟩ := dv.inv
    have lx : xs.length = ps.length := by rw [hx.len, List.length_map]
    refine ⟨_, (pss_cons (ps_if (pt_cmpR op_ne (pe_callB call_lenT (by rfl) T.n_len (by decide +kernel) (pa_cons (pv 1) pa_nil)) (pe_op op_sub (pv 0) pe_int) (nomark _)) (pss_one (ps_raise rfl (takes_of rfl rfl rfl rfl) (pmk_own PySem.F.excBase_ValueError T.x_MarketError T.g_MarketError T.k_MarketError (raises_own T.b_MarketError T.t_MarketError) rfl))) pss_nil)
      (pss_one (ps_for (passes_of rfl) rfl (pi_tup (pv 1)) (pg_name (i := 2) sc__check_prices.nd rfl (Or.inl rfl)) (pss_cons (ps_if (pt_cmpR op_ne (pe_callB call_lenT (by rfl) T.n_len (by decide +kernel) (pa_cons (pv 2) pa_nil)) pe_int (nomark _)) (pss_one (ps_raise rfl (takes_of rfl rfl rfl rfl) (pmk_own PySem.F.excBase_ValueError T.x_MarketError T.g_MarketError T.k_MarketError (raises_own T.b_MarketError T.t_MarketError) rfl))) pss_nil)
      (pss_cons (ps_asg (pv 2) (pg_tup rfl (pgs_cons (pg_name (i := 3) sc__check_prices.nd rfl (Or.inl rfl)) (pgs_cons (pg_name (i := 4) sc__check_prices.nd rfl (Or.inl rfl)) pgs_nil))))
      (pss_one (ps_if (PW.pt (pw_or (pt_cmpR op_lt (pe_call (ok_compare T) (hr.mono (by decide : 1 ≤ 1)) (by rfl) T.g_compare T.compare_F.kp T.compare_b .nil pass0 (pa_cons (pv 4) (pa_cons (pe_tup (pa_cons pe_int (pa_cons pe_int pa_nil))) pa_nil))) pe_int (nomark _)) (pw_or1 (pt_cmpR op_lt (pe_call (ok_compare T) (hr.mono (by decide : 1 ≤ 1)) (by rfl) T.g_compare T.compare_F.kp T.compare_b .nil pass0 (pa_cons (pv 3) (pa_cons (pv 4) pa_nil))) pe_int (nomark _))))) (pss_one (ps_raise rfl (takes_of rfl rfl rfl rfl) (pmk_own PySem.F.excBase_ValueError T.x_MarketError T.g_MarketError T.k_MarketError (raises_own T.b_MarketError T.t_MarketError) rfl))) pss_nil))))))), ?_⟩
    refine ⟨_, rfl, _, _, rfl, ha.sq, _, rfl, _, _, rfl, rfl, rfl, _, rfl, ite2 (fun e => ?_) (fun e => ?_)⟩
    · refine kE (.inl fun z => ?_) H (Same.refl H)
      rw [lx, z] at e
      simp at e
    · have hl : (ps.length : Int) = g - 1 := by
        rw [lx] at e
        simpa using e
      refine ⟨_, rfl, a, rfl, ⟨_, ha.sq⟩, for_tup (fun i σ H' => ∃ (y z u : Option V), σ = [some (.int g), some (.ref a), y, z, u] ∧ Same H H' ∧ ∀ p ∈ ps.take i, ¬ badPr p) ⟨none, none, none, rfl, Same.refl H, fun p hp => by simp at hp⟩ (fun i σ H' _ ⟨_, _, _, _, sm, _⟩ => (tp_same sm ha).sq) ?_ ?_⟩
      · rintro i x σ H' hi ⟨y, z, u, rfl, sm, hg⟩
        obtain ⟨d, hd, dx⟩ := hx.get hi
        rw [List.getElem?_map] at hd
        obtain ⟨p, hp, rfl⟩ := Option.map_eq_some_iff.mp hd
        have dx := dx.same sm
        obtain ⟨b, x1, x2, rfl, hb2, d1, d2⟩ := dx.inv2
        have pb := hb p (List.mem_of_getElem? hp)
        refine ⟨_, rfl, _, _, rfl, hb2.sq, rfl, _, rfl, iteNS rfl ?_⟩
        refine ⟨_, rfl, _, _, rfl, hb2.sq, rfl, _, _, rfl, _, _, rfl, rfl, ?_⟩
        refine ⟨_, rfl, two_le, fun pz hz => ?_⟩
        have s1 := same_new (o := .tup [.int 0, .int 1]) hz
        refine ⟨_, _, p.2, (0, 1), rfl, d2.same s1, DT.fr (Tp.of upd_same), FB.of pb.2 (by decide), fb_zero, _, _, rfl, rfl, _, rfl, ?_⟩
        by_cases c1 : cmpF p.2 (0, 1) < 0
        · refine if_true_of' (decide_eq_true c1) (iteT ?_)
          exact kE (.inr ⟨p, List.mem_of_getElem? hp, .inl c1⟩) _ (sm.trans s1)
        · refine if_false_of' (decide_eq_false c1) ?_
          refine ⟨_, rfl, _, rfl, _, _, p.1, p.2, rfl, d1.same s1, d2.same s1, FB.of pb.1 (by decide), FB.of pb.2 (by decide), _, _, rfl, rfl, _, rfl, ?_⟩
          by_cases c2 : cmpF p.1 p.2 < 0
          · refine if_true_of' (decide_eq_true c2) ?_
            exact kE (.inr ⟨p, List.mem_of_getElem? hp, .inr c2⟩) _ (sm.trans s1)
          · refine if_false_of' (decide_eq_false c2) ?_
            refine ⟨_, _, _, rfl, sm.trans s1, fun q hq => ?_⟩
            rw [take_next hp] at hq
            rcases List.mem_append.mp hq with hq | hq
            · exact hg q hq
            · rw [List.mem_singleton.mp hq]
              exact fun z => z.elim c1 c2
      · rintro σ H' ⟨y, z, u, rfl, sm, hg⟩
        refine kQ (fun z => ?_) H' sm
        rw [lx, List.take_length] at hg
        rcases z with z | ⟨p, hp, z⟩
        · exact z hl
        · exact hg p hp z
def sp_walk (K : PySem.W.Frag) : Sp := fun vs H Q _ => ∃ (v : V) (g : Int) (n : Node), vs = [v] ∧ DT K H v (marketD g n) ∧ (pre [] n).length ≤ 1000 ∧ ∀ p xs H', Same H H' → H p = none → H' p = some (.lst xs) → DTs K H' xs ((pre [] n).map entD) → Q (.ref p) H'
theorem ok_walk (T : Top K mg) : FnOk P w K mg base CX0 1 T.a_walk T.d_walk ["market"] (sp_walk K) := by
  refine T.walk_F.ok sc_walk (fun vs H Q E h => ?_) (fun cdv A outer s H vs Q E hr h => ?_)
  · obtain ⟨_, _, _, rfl, _⟩ := h
    rfl
  · obtain ⟨v, g, n, rfl, dm, hn, fin⟩ := h
    obtain ⟨m, vn, rfl, hm, dn⟩ := dm.market_inv
    refine ⟨_, (pss_cons (ps_set (i := 1) sc_walk.nd rfl (Or.inl rfl) (pe_lst pa_nil))
      (pss_cons (ps_set (i := 2) sc_walk.nd rfl (Or.inl rfl) (pe_lst (pa_cons (pe_tup (pa_cons (pe_tup pa_nil) (pa_cons (pe_ix ix_tup (pv 0) pe_int (fun _ _ => rfl)) pa_nil))) pa_nil)))
      (pss_cons (ps_while PassesOwn.never (pt_truth (pv 2) (by intro _; rfl)) (pss_cons (ps_asg (pe_bm0 PySem.F.plainAttrs_list PySem.F.slot_list_pop PySem.F.type_list_pop mt_pop (pv 2)) (pg_tup rfl (pgs_cons (pg_name (i := 3) sc_walk.nd rfl (Or.inl rfl)) (pgs_cons (pg_name (i := 4) sc_walk.nd rfl (Or.inl rfl)) pgs_nil))))
      (pss_cons (ps_expr (pe_bm PySem.F.plainAttrs_list PySem.F.slot_list_append PySem.F.type_list_append mt_append (pv 1) (pa_cons (pe_tup (pa_cons (pv 3) (pa_cons (pv 4) pa_nil))) pa_nil)))
      (pss_cons (ps_set (i := 5) sc_walk.nd rfl (Or.inl rfl) (pe_ix ix_tup (pv 4) pe_int (fun _ _ => rfl)))
      (pss_one (ps_for PassesOwn.never rfl (pi_revR (by rfl) T.n_reversed (prg_1 (by rfl) T.n_range (pe_callB call_lenT (by rfl) T.n_len (by decide +kernel) (pa_cons (pv 5) pa_nil)))) (pg_name (i := 6) sc_walk.nd rfl (Or.inl rfl)) (pss_one (ps_expr (pe_bm PySem.F.plainAttrs_list PySem.F.slot_list_append PySem.F.type_list_append mt_append (pv 2) (pa_cons (pe_tup (pa_cons (pe_op op_catP (pv 3) (pe_tup (pa_cons (pv 6) pa_nil))) (pa_cons (pe_ix ix_tup (pv 5) (pv 6) (fun _ _ => rfl)) pa_nil))) pa_nil))))))))))
      (pss_one (ps_ret (pv 1)))))), ?_⟩
    refine ⟨Nat.zero_le _, fun pf hf => ?_⟩
    have s1 := same_new (o := .lst []) hf
    refine ⟨Nat.zero_le _, fun pe he => ?_⟩
    have s2 := s1.trans (same_new (o := .tup []) he)
    refine ⟨_, rfl, _, _, _, _, rfl, rfl, (tp_same s2 hm).sq, atI_nat (j := 1) rfl, two_le, fun pt ht => ⟨(by decide : 1 ≤ sizeLine), fun pw hw => ?_⟩⟩
    have s3 := s2.trans (same_new (o := .tup [.ref pe, vn]) ht)
    have s4 := s3.trans (same_new (o := .lst [.ref pt]) hw)
    have fw : pf ≠ pw := ne_of_none (show (upd (upd (upd H pf (.lst [])) pe (.tup [])) pt (.tup [.ref pe, vn])) pf = some (.lst []) from same_new ht _ _ (same_new he _ _ upd_same)) hw
    have hw0 := s3.free hw
    have dE : DT K (upd (upd (upd (upd H pf (.lst [])) pe (.tup [])) pt (.tup [.ref pe, vn])) pw (.lst [.ref pt])) (.ref pt) (entD ([], n)) := by
      refine .mk2 (Tp.of (same_new hw _ _ upd_same)) ?_ (dn.same s4)
      exact DT.path (Tp.of (same_new hw _ _ (same_new ht _ _ upd_same)))
    refine ⟨fun k σ H' => ∃ (fs ws : List PN) (xf xw : List V) (y3 y4 y5 y6 : Option V), σ = [some (.ref m), some (.ref pf), some (.ref pw), y3, y4, y5, y6] ∧ Same H H' ∧ H' pf = some (.lst xf) ∧ H' pw = some (.lst xw) ∧ DTs K H' xf (fs.map entD) ∧ DTs K H' xw (ws.map entD) ∧ fs ++ ws.reverse.flatMap preE = pre [] n ∧ k = (ws.reverse.flatMap preE).length, ⟨_, [], [([], n)], [], [.ref pt], none, none, none, none, rfl, s4, ?_, upd_same, .nil, .cons dE .nil, ?_, rfl⟩, ?_⟩
    · exact same_new hw _ _ (same_new ht _ _ (same_new he _ _ upd_same))
    · simp [preE]
    · rintro k σ H' ⟨fs, ws, xf, xw, y3, y4, y5, y6, rfl, sm, hF, hW, dF, dW, eq, rfl⟩
      refine ⟨_, rfl, _, .inl ⟨xw, SqL.of hW, rfl⟩, ?_⟩
      rcases List.eq_nil_or_concat ws with rfl | ⟨ws0, e, rfl⟩
      · cases dW
        refine iteF ?_
        rw [List.reverse_nil, List.flatMap_nil, List.append_nil] at eq
        rw [eq] at dF
        exact ⟨_, rfl, fin pf xf H' sm hf hF dF⟩
      · rw [List.concat_eq_append] at *
        obtain ⟨xw0, x, rfl, dW0, dx⟩ : ∃ xw0 x, xw = xw0 ++ [x] ∧ DTs K H' xw0 (ws0.map entD) ∧ DT K H' x (entD e) := by
          have hl := dW.len
          rw [List.map_append, List.length_append] at hl
          have h1 := dW.take (ws0.map entD).length
          have h2 := dW.drop (ws0.map entD).length
          rw [List.map_append, List.take_left' rfl] at h1
          rw [List.map_append, List.drop_left' rfl] at h2
          obtain ⟨x, ex, dx⟩ := h2.inv1
          exact ⟨_, x, by rw [← ex, List.take_append_drop], h1, dx⟩
        have ne : (!(xw0 ++ [x]).isEmpty) = true := by simp
        refine if_true_of' ne ?_
        obtain ⟨b, vp, vk, rfl, hb, dp, dk⟩ := dx.entD_inv
        obtain ⟨c, vq, vc, rfl, hc, dq, dc⟩ := dk.node_inv
        obtain ⟨cc, xk, rfl, hcc, dks⟩ := dc.inv
        have eqn : (ws0 ++ [e]).reverse.flatMap preE = e :: ((kidsOf e).flatMap preE ++ ws0.reverse.flatMap preE) := by
          rw [List.reverse_append, List.reverse_singleton, List.flatMap_append, List.flatMap_singleton, preE_eq]
          rfl
        have kl : e.2.ks.length ≤ 1000 := by
          have h1 := kids_le e
          have h2 : (preE e).length ≤ (pre [] n).length := by
            rw [← eq, List.length_append, eqn, ]
            have : (preE e).length = 1 + ((kidsOf e).flatMap preE).length := by rw [preE_eq]; simp; omega
            rw [this]
            simp
            omega
          rw [kids_len] at h1
          omega
        refine ⟨fun σ2 H2 => ∃ m', m' < ((ws0 ++ [e]).reverse.flatMap preE).length ∧ ∃ (fs ws : List PN) (xf xw : List V) (y3 y4 y5 y6 : Option V), σ2 = [some (.ref m), some (.ref pf), some (.ref pw), y3, y4, y5, y6] ∧ Same H H2 ∧ H2 pf = some (.lst xf) ∧ H2 pw = some (.lst xw) ∧ DTs K H2 xf (fs.map entD) ∧ DTs K H2 xw (ws.map entD) ∧ fs ++ ws.reverse.flatMap preE = pre [] n ∧ m' = (ws.reverse.flatMap preE).length, fun σ2 H2 z => z, ?_⟩
        refine ⟨_, rfl, .inl ⟨rfl, _, SqL.of hW⟩, _, _, _, rfl, rfl, hW, (by simp : (xw0 ++ [V.ref b])[(xw0 ++ [V.ref b]).length - 1]? = some (V.ref b)), ?_⟩
        have x1 : Xt pw H' (upd H' pw (.lst (xw0 ++ [V.ref b]).dropLast)) := Xt.upd
        have iw : IsL H' pw := ⟨_, hW⟩
        have sm1 := same_mut (o := .lst (xw0 ++ [V.ref b]).dropLast) sm hw0
        rw [List.dropLast_concat] at *
        refine ⟨_, _, rfl, (tp_xt iw x1 hb).sq, rfl, _, _, rfl, _, _, rfl, rfl, ?_⟩
        have hF1 := x1 _ _ fw hF
        have hW1 : (upd H' pw (.lst xw0)) pw = some (.lst xw0) := upd_same
        refine ⟨_, rfl, .inl ⟨rfl, _, SqL.of hF1⟩, _, rfl, _, rfl, two_le, fun pu hu => ?_⟩
        have s5 := same_new (o := .tup [vp, V.ref c]) hu
        have hF2 := s5 _ _ hF1
        refine ⟨_, _, _, rfl, rfl, hF2, ?_, ?_⟩
        · have l1 : xf.length = fs.length := by rw [dF.len, List.length_map]
          have l2 : fs.length ≤ 1000 := by
            have := congrArg List.length eq
            rw [List.length_append] at this
            omega
          rw [l1]
          exact small1000 l2
        have if2 : IsL (upd (upd H' pw (.lst xw0)) pu (.tup [vp, V.ref c])) pf := ⟨_, hF2⟩
        have x2 : Xt pf (upd (upd H' pw (.lst xw0)) pu (.tup [vp, V.ref c])) (upd (upd (upd H' pw (.lst xw0)) pu (.tup [vp, V.ref c])) pf (.lst (xf ++ [.ref pu]))) := Xt.upd
        have sm2 := same_mut (o := .lst (xf ++ [.ref pu])) (sm1.trans s5) hf
        have up : ∀ {v : V} {d : PyData}, DT K H' v d → DT K (upd (upd (upd H' pw (.lst xw0)) pu (.tup [vp, V.ref c])) pf (.lst (xf ++ [.ref pu]))) v d := fun h => ((h.xt iw x1).same s5).xt if2 x2
        have ups : ∀ {v : List V} {d : List PyData}, DTs K H' v d → DTs K (upd (upd (upd H' pw (.lst xw0)) pu (.tup [vp, V.ref c])) pf (.lst (xf ++ [.ref pu]))) v d := fun h => ((h.xt iw x1).same s5).xt if2 x2
        have upq : ∀ {a : Addr} {xs : List V}, Tp H' a xs → Tp (upd (upd (upd H' pw (.lst xw0)) pu (.tup [vp, V.ref c])) pf (.lst (xf ++ [.ref pu]))) a xs := fun h => tp_xt if2 x2 (tp_same s5 (tp_xt iw x1 h))
        have dU : DT K (upd (upd (upd H' pw (.lst xw0)) pu (.tup [vp, V.ref c])) pf (.lst (xf ++ [.ref pu]))) (.ref pu) (entD e) := .mk2 (tp_xt if2 x2 (Tp.of upd_same)) (up dp) (up dk)
        refine ⟨_, rfl, _, _, _, _, rfl, rfl, (upq hc).sq, atI_nat (j := 1) rfl, ?_⟩
        refine ⟨_, rfl, _, _, rfl, (upq hcc).sq, _, rfl, by decide, by decide, by omega, ?_, ?_⟩
        · rw [dks.len, List.length_map]
          omega
        generalize hH3 : upd (upd (upd H' pw (.lst xw0)) pu (.tup [vp, V.ref c])) pf (.lst (xf ++ [.ref pu])) = H3 at *
        have hF3 : H3 pf = some (.lst (xf ++ [.ref pu])) := by rw [← hH3]; exact upd_same
        have hW3 : H3 pw = some (.lst xw0) := x2 _ _ (Ne.symm fw) (s5 _ _ hW1)
        have lk : xk.length = e.2.ks.length := by rw [dks.len, List.length_map]
        refine for_rangeC (fun i σ' H4 => ∃ (xw4 : List V) (y6 : Option V), σ' = [some (.ref m), some (.ref pf), some (.ref pw), some vp, some (.ref c), some (.ref cc), y6] ∧ Same H H4 ∧ Xt pw H3 H4 ∧ H4 pw = some (.lst xw4) ∧ DTs K H4 xw4 ((ws0 ++ (kidsOf e).reverse.take i).map entD)) ⟨xw0, y6, rfl, sm2, Xt.refl _, hW3, ?_⟩ ?_ ?_
        · simpa using ups dW0
        · rintro i σ' H4 hi ⟨xw4, y6, rfl, sm4, x4, hW4, dW4⟩
          have ia : i < e.2.ks.length := by
            rw [← lk]
            omega
          have iw3 : IsL H3 pw := ⟨_, hW3⟩
          have iw4 : IsL H4 pw := ⟨_, hW4⟩
          have ei : (0 : Int) + ((((xk.length : Int) - 0).toNat : Nat) : Int) - 1 + (i : Int) * (-1) = ((e.2.ks.length - 1 - i : Nat) : Int) := by
            rw [lk]
            omega
          have hk : e.2.ks[e.2.ks.length - 1 - i]? = some e.2.ks[e.2.ks.length - 1 - i] := List.getElem?_eq_getElem (by omega)
          obtain ⟨xx, hxx, dxx⟩ := (ups dks).at_ (i := e.2.ks.length - 1 - i) (d := nodeD e.2.ks[e.2.ks.length - 1 - i]) (by rw [List.getElem?_map, hk]; rfl)
          have dxx4 := dxx.xt iw3 x4
          obtain ⟨ap, rfl, hap⟩ := ((up dp).xt iw3 x4).path_inv
          have hsz : e.1.length ≤ 1000 := by
            have hm : e ∈ preE ([], n) := by
              show e ∈ pre [] n
              rw [← eq, eqn]
              simp
            have := pre_len _ ([], n) e (Nat.le_refl _) hm
            have h2 : (preE ([], n)).length ≤ 1000 := hn
            simp only [List.length_nil] at this
            omega
          refine ⟨_, rfl, .inl ⟨rfl, _, SqL.of hW4⟩, _, rfl, _, rfl, (by decide : 1 ≤ sizeLine), fun p1 hp1 => ?_⟩
          have s6 := same_new (o := .tup [.int ((0 : Int) + ((((xk.length : Int) - 0).toNat : Nat) : Int) - 1 + (i : Int) * (-1))]) hp1
          refine ⟨ap, p1, _, _, rfl, rfl, tp_same s6 hap, Tp.of upd_same, ?_, fun p2 H5 s7 hp2 => ?_⟩
          · rw [List.length_map]
            exact Nat.le_trans (show e.1.length + 1 ≤ 2000 by omega) (by decide)
          rw [ei] at hp2
          have s67 := s6.trans s7
          have xkk : Tp H5 cc xk := tp_same s67 (tp_xt iw3 x4 (upq hcc))
          refine ⟨_, rfl, _, rfl, _, _, _, _, rfl, rfl, xkk, by rw [ei]; exact atI_nat hxx, two_le, fun p3 hp3 => ?_⟩
          have s8 := same_new (o := .tup [.ref p2, xx]) hp3
          have s678 := s67.trans s8
          have hW5 := s678 _ _ hW4
          refine ⟨_, _, _, rfl, rfl, hW5, ?_, ?_⟩
          · rw [dW4.len, List.length_map]
            have h1 : ws0.length ≤ 1000 := by
              have h0 := len_le_flat ws0.reverse
              rw [List.length_reverse] at h0
              have := congrArg List.length eq
              rw [List.length_append, eqn] at this
              simp only [List.length_cons, List.length_append] at this
              omega
            rw [List.length_append, List.length_take]
            exact Nat.lt_of_le_of_lt (show _ ≤ 5000 by omega) (by decide)
          · have x5 : Xt pw H4 (upd (upd H5 p3 (.tup [.ref p2, xx])) pw (.lst (xw4 ++ [.ref p3]))) := (Xt.of s678).trans Xt.upd
            have x6 : Xt pw (upd H5 p3 (.tup [.ref p2, xx])) (upd (upd H5 p3 (.tup [.ref p2, xx])) pw (.lst (xw4 ++ [.ref p3]))) := Xt.upd
            have iw5 : IsL (upd H5 p3 (.tup [.ref p2, xx])) pw := ⟨_, hW5⟩
            refine ⟨xw4 ++ [.ref p3], _, rfl, same_mut (sm4.trans s678) hw0, x4.trans x5, upd_same, ?_⟩
            have hr : (kidsOf e).reverse[i]? = some (e.1 ++ [((e.2.ks.length - 1 - i : Nat) : Int)], e.2.ks[e.2.ks.length - 1 - i]) := by
              rw [List.getElem?_reverse (by rw [kids_len]; exact ia), kids_len]
              exact kids_get hk
            rw [take_next hr, ← List.append_assoc, List.map_append]
            refine (dW4.xt iw4 x5).snoc ?_
            refine .mk2 (tp_xt iw5 x6 (Tp.of upd_same)) ?_ (((dxx4.same s67).same s8).xt iw5 x6)
            have hq : Tp H5 p2 ((e.1 ++ [((e.2.ks.length - 1 - i : Nat) : Int)]).map V.int) := by
              rw [List.map_append]
              exact hp2
            exact ((DT.path hq).same s8).xt iw5 x6
        · rintro σ' H4 ⟨xw4, y6, rfl, sm4, x4, hW4, dW4⟩
          have iw3 : IsL H3 pw := ⟨_, hW3⟩
          have et : (kidsOf e).reverse.take (((xk.length : Int) - 0).toNat) = (kidsOf e).reverse := by
            refine List.take_of_length_le ?_
            rw [List.length_reverse, kids_len, lk]
            omega
          rw [et] at dW4
          have er : (ws0 ++ (kidsOf e).reverse).reverse.flatMap preE = (kidsOf e).flatMap preE ++ ws0.reverse.flatMap preE := by
            rw [List.reverse_append, List.reverse_reverse, List.flatMap_append]
          refine ⟨_, ?_, fs ++ [e], ws0 ++ (kidsOf e).reverse, xf ++ [.ref pu], xw4, _, _, _, _, rfl, sm4, x4 _ _ fw hF3, hW4, ?_, dW4, ?_, rfl⟩
          · rw [er, eqn]
            simp
          · rw [List.map_append]
            refine DTs.xt (DTs.snoc (ups dF) dU) iw3 x4
          · rw [er, ← eq, eqn]
            simp
def sp_check (K : PySem.W.Frag) (M L : Addr) : Sp := fun vs H Q E => ∃ (v : V) (g : Int) (n : Node), vs = [v] ∧ DT K H v (marketD g n) ∧ NodeB n ∧ (pre [] n).length ≤ 1000 ∧ (BadM g n → ∀ H', Same H H' → E (.ref M) none H') ∧ (¬ BadM g n → BigM n → ∀ H', Same H H' → E (.ref L) none H') ∧ (¬ BadM g n → ¬ BigM n → ∀ H', Same H H' → Q .non H')
theorem ok_check_market (T : Top K mg) : FnOk P w K mg base (L2.CX P w) 3 T.a_check_market T.d_check_market ["market"] (sp_check K T.c_MarketError T.c_TooLarge) := by
  refine T.check_market_F.okX sc_check_market (fun vs H Q E h => ?_) (fun cdv A outer s H vs Q E hr h => ?_)
  · obtain ⟨_, _, _, rfl, _⟩ := h
    rfl
  · obtain ⟨v, g, n, rfl, dm, hb, hn, kM, kL, kQ⟩ := h
    obtain ⟨m, vn, rfl, hm, dn⟩ := dm.market_inv
    refine ⟨_, (pss_cons (ps_asg (pv 0) (pg_tup rfl (pgs_cons (pg_name (i := 1) sc_check_market.nd rfl (Or.inl rfl)) (pgs_cons (pg_name (i := 2) sc_check_market.nd rfl (Or.inl rfl)) pgs_nil))))
      (pss_cons (ps_if (pt_not (pt_chain op_le op_le pe_int (pv 1) (pe_glob (v := .int 4) (by rfl) T.g_GOODS_LIMIT ⟨_, rfl⟩))) (pss_one (ps_raise rfl (takes_of rfl rfl rfl rfl) (pmk_own PySem.F.excBase_ValueError T.x_MarketError T.g_MarketError T.k_MarketError (raises_own T.b_MarketError T.t_MarketError) rfl))) pss_nil)
      (pss_cons (ps_set (i := 3) sc_check_market.nd rfl (Or.inl rfl) (pe_call (ok_walk T) (hr.mono (by decide : 1 ≤ 2)) (by rfl) T.g_walk T.walk_F.kp T.walk_b .nil pass0 (pa_cons (pv 0) pa_nil)))
      (pss_cons (ps_for (passes_of rfl) rfl (pi_list (pv 3)) (pg_tup rfl (pgs_cons (pg_name (i := 2) sc_check_market.nd rfl (Or.inl rfl)) (pgs_cons (pg_name (i := 4) sc_check_market.nd rfl (Or.inl rfl)) pgs_nil))) (pss_one (ps_expr (pe_callS (ok__check_prices T) (hr.mono (by decide : 2 ≤ 2)) rfl T.g__check_prices T._check_prices_F.kp T._check_prices_b (fun σ => passAt (takes_of rfl rfl rfl rfl) σ) (pa_cons (pv 1) (pa_cons (pe_ix ix_tup (pv 4) pe_int (fun _ _ => rfl)) pa_nil))))))
      (pss_cons (ps_setLc (i := 5) (own := [("path", 6), ("node", 4)]) (g := (gTup K 2 (gCons (gName 6) (gCons (gName 4) gNil)))) (tt := tNot (tTruK K (tOp (rIxT K) (tVar 4) (tC (.int 1))))) (by rfl) sc_check_market.nd rfl rfl (sw_true rfl rfl rfl (by decide +kernel)) (pi_list (pv 3)) (blkOk_by (own := [("path", 6), ("node", 4)]) (N := ["market", "goods", "_", "nodes", "node", "end_times", "path"]) (sc := defScope s_check_market) (by decide +kernel)) (fun _ _ _ _ _ => (pg_tup rfl (pgs_cons (pg_name (i := 6) sc_check_market.nd rfl (Or.inl rfl)) (pgs_cons (pg_name (i := 4) sc_check_market.nd rfl (Or.inl rfl)) pgs_nil)))) (fun _ _ _ _ _ => (pts_one (pt_not (pt_truth (pe_ix (r := rIxT K) ix_tup (pv 4) pe_int (fun _ _ => rfl)) (by intro _; rfl))))) (fun _ _ _ _ _ => (pe_callB (r := rLenT K) call_lenT (by rfl) T.n_len (by decide +kernel) (pa_cons (pv 6) pa_nil))))
      (pss_cons (ps_if (pt_cmpR op_ne (pe_callB (cr_min rfl) (by rfl) T.n_min (by decide +kernel) (pa_cons (pv 5) pa_nil)) (pe_callB (cr_max rfl) (by rfl) T.n_max (by decide +kernel) (pa_cons (pv 5) pa_nil)) (nomark _)) (pss_one (ps_raise rfl (takes_of rfl rfl rfl rfl) (pmk_own PySem.F.excBase_ValueError T.x_MarketError T.g_MarketError T.k_MarketError (raises_own T.b_MarketError T.t_MarketError) rfl))) pss_nil)
      (pss_one (ps_if (PW.pt (pw_or (pt_cmpR op_gt (pe_callB call_lenL (by rfl) T.n_len (by decide +kernel) (pa_cons (pv 3) pa_nil)) (pe_glob (v := .int 40) (by rfl) T.g_MOMENT_LIMIT ⟨_, rfl⟩) (nomark _)) (pw_or1 (pt_cmpR op_gt (pe_ix ix_list (pv 5) pe_int (fun _ _ => rfl)) (pe_glob (v := .int 5) (by rfl) T.g_TIME_LIMIT ⟨_, rfl⟩) (nomark _))))) (pss_one (ps_raise rfl (takes_of rfl rfl rfl rfl) (pmk_own PySem.F.excBase_ValueError T.x_TooLarge T.g_TooLarge T.k_TooLarge (raises_own T.b_TooLarge T.t_TooLarge) rfl))) pss_nil)))))))), ?_⟩
    refine ⟨_, rfl, _, _, rfl, hm.sq, rfl, _, _, rfl, _, _, rfl, rfl, ?_⟩
    -- goods
    refine ⟨_, rfl, _, _, rfl, rfl, _, rfl, ite2 (fun e1 => ⟨_, _, rfl, rfl, _, rfl, ?_⟩) (fun e1 => ⟨_, rfl, iteT (kM (.inl fun z => e1 (decide_eq_true z.1)) H (Same.refl H))⟩)⟩
    have g1 : 1 ≤ g := of_decide_eq_true e1
    by_cases g4 : g ≤ 4
    · rw [decide_eq_true g4]
      refine iteF ?_
      -- nodes
      refine ⟨_, rfl, .ref m, g, n, rfl, dm, hn, fun pf xf H1 s1 hf hF dF => ?_⟩
      have lf : xf.length = (pre [] n).length := by rw [dF.len, List.length_map]
      refine ⟨_, rfl, pf, rfl, ⟨_, SqL.of hF⟩, for_list (K := K) (a := pf) (xs := xf) (fun i σ H' => ∃ (y2 y4 y5 y6 : Option V), σ = [some (.ref m), some (.int g), y2, some (.ref pf), y4, y5, y6] ∧ Same H1 H' ∧ ∀ e ∈ (pre [] n).take i, ¬ badPs g e.2.ps) ⟨_, _, _, _, rfl, Same.refl _, fun e he => by simp at he⟩ (fun i σ H' _ ⟨_, _, _, _, _, sm, _⟩ => SqL.of (sm _ _ hF)) ?_ ?_⟩
      · rintro i x σ H' hi ⟨y2, y4, y5, y6, rfl, sm, hg⟩
        obtain ⟨d, hd, dx⟩ := dF.get hi
        rw [List.getElem?_map] at hd
        obtain ⟨e, he, rfl⟩ := Option.map_eq_some_iff.mp hd
        obtain ⟨b, vp, vk, rfl, hb2, dp, dk⟩ := (dx.same sm).entD_inv
        obtain ⟨c, vq, vc, rfl, hc, dq, dc⟩ := dk.node_inv
        refine ⟨_, _, rfl, hb2.sq, rfl, _, _, rfl, _, _, rfl, rfl, ?_⟩
        refine ⟨_, rfl, _, rfl, _, _, _, _, rfl, rfl, hc.sq, atI_nat (j := 0) rfl, g, vq, e.2.ps, rfl, dq, hb e (List.mem_of_getElem? he), fun z H2 s2 => ?_, fun z H2 s2 => ?_⟩
        · exact kM (.inr (.inl ⟨e, List.mem_of_getElem? he, z⟩)) H2 ((s1.trans sm).trans s2)
        · refine ⟨_, _, _, _, rfl, sm.trans s2, fun q hq => ?_⟩
          rw [take_next he] at hq
          rcases List.mem_append.mp hq with hq | hq
          · exact hg q hq
          · rw [List.mem_singleton.mp hq]
            exact z
      · rintro σ H2 ⟨y2, y4, y5, y6, rfl, s2, hg⟩
        rw [lf, List.take_length] at hg
        have hF2 := s2 _ _ hF
        have dF2 := dF.same s2
        -- end_times
        refine ⟨_, rfl, pf, rfl, ⟨_, SqL.of hF2⟩, fun D hD => lc_list (K := K) (a := pf) (xs := xf) (fun i H' => ∃ o, Same H2 H' ∧ H' D = some (.lst o) ∧ o = (((pre [] n).take i).filter fun e => e.2.ks.isEmpty).map fun e => V.int (e.1.length : Int)) ⟨[], same_new hD, upd_same, rfl⟩ (fun i H' _ ⟨_, sm, _⟩ => SqL.of (sm _ _ hF2)) ?_ ?_⟩
        · rintro i x H' hi ⟨o, sm, hO, eO⟩
          obtain ⟨d, hd, dx⟩ := dF2.get hi
          rw [List.getElem?_map] at hd
          obtain ⟨e, he, rfl⟩ := Option.map_eq_some_iff.mp hd
          obtain ⟨b, vp, vk, rfl, hb2, dp, dk⟩ := (dx.same sm).entD_inv
          obtain ⟨c, vq, vc, rfl, hc, dq, dc⟩ := dk.node_inv
          obtain ⟨cc, xk, rfl, hcc, dks⟩ := dc.inv
          obtain ⟨ap, rfl, hap⟩ := dp.path_inv
          have lk : xk.length = e.2.ks.length := by rw [dks.len, List.length_map]
          have ek : xk.isEmpty = e.2.ks.isEmpty := by
            rw [Bool.eq_iff_iff, List.isEmpty_iff_length_eq_zero, List.isEmpty_iff_length_eq_zero, lk]
          refine ⟨_, _, rfl, hb2.sq, rfl, _, _, rfl, _, _, rfl, rfl, rfl, ?_⟩
          cases hz : e.2.ks.isEmpty with
          | true =>
            refine ⟨_, rfl, _, _, _, _, rfl, rfl, hc.sq, atI_nat (j := 1) rfl, _, tru_tup' hcc (ek.trans hz), ?_⟩
            refine iteT ⟨_, rfl, _, _, rfl, (hap).sq, o, hO, ?_, _, same_mut sm hD, upd_same, ?_⟩
            · rw [eO, List.length_map]
              refine Nat.lt_of_le_of_lt (List.length_filter_le _ _) (Nat.lt_of_le_of_lt (List.length_take_le' _ _) (small1000 hn))
            · rw [filter_next he, hz, eO]
              simp
          | false =>
            refine ⟨_, rfl, _, _, _, _, rfl, rfl, hc.sq, atI_nat (j := 1) rfl, _, tru_tup' hcc (ek.trans hz), ?_⟩
            refine iteF ⟨o, sm, hO, ?_⟩
            rw [filter_next he, hz, eO]
            simp
        · rintro H3 ⟨o, s3, hO, eO⟩
          rw [lf, List.take_length] at eO
          have eO2 : o = ((endLens n).map fun a : Nat => (a : Int)).map V.int := by
            rw [eO]
            unfold endLens
            rw [List.map_map, List.map_map]
            rfl
          rw [eO2] at hO
          have lp : 0 < ((endLens n).map fun a : Nat => (a : Int)).length := by
            rw [List.length_map]
            exact ends_pos n
          have sAll := (s1.trans s2).trans s3
          have hF3 := s3 _ _ hF2
          refine ⟨_, rfl, D, _, rfl, SqL.of hO, lp, fun lo hlo hlo2 => ⟨_, rfl, D, _, rfl, SqL.of hO, lp, fun hi hhi hhi2 => ?_⟩⟩
          obtain ⟨la, hla, rfl⟩ := List.mem_map.mp hlo
          obtain ⟨lb, hlb, rfl⟩ := List.mem_map.mp hhi
          have same_iff : la = lb ↔ ∀ a ∈ endLens n, ∀ b ∈ endLens n, a = b := by
            constructor
            · intro e a ha b hb
              have h1 := hlo2 _ (List.mem_map.mpr ⟨a, ha, rfl⟩)
              have h2 := hhi2 _ (List.mem_map.mpr ⟨a, ha, rfl⟩)
              have h3 := hlo2 _ (List.mem_map.mpr ⟨b, hb, rfl⟩)
              have h4 := hhi2 _ (List.mem_map.mpr ⟨b, hb, rfl⟩)
              omega
            · exact fun h => h la hla lb hlb
          refine ⟨rfl, _, rfl, ite2 (fun e => ?_) (fun e => ?_)⟩
          · have hne : la ≠ lb := fun z => by
              rw [z] at e
              simp at e
            exact kM (.inr (.inr ⟨la, hla, lb, hlb, hne⟩)) H3 sAll
          · have heq : la = lb := by
              have : (V.int (la : Int)) = V.int (lb : Int) := by simpa using e
              have := V.int.inj this
              omega
            have good : ¬ BadM g n := by
              rintro (z | ⟨e, he, z⟩ | ⟨a, ha, b, hb', z⟩)
              · exact z ⟨g1, g4⟩
              · exact hg e he z
              · exact z (same_iff.mp heq a ha b hb')
            refine ⟨_, rfl, _, _, rfl, SqL.of hF3, _, _, rfl, rfl, _, rfl, ?_⟩
            have e0 : ∃ a0, (endLens n)[0]? = some a0 := ⟨_, List.getElem?_eq_getElem (ends_pos n)⟩
            obtain ⟨a0, h0⟩ := e0
            have hm0 := List.mem_of_getElem? h0
            have h0' : (((endLens n).map fun a : Nat => (a : Int)).map V.int)[0]? = some (.int (a0 : Int)) := by
              rw [List.getElem?_map, List.getElem?_map, h0]
              rfl
            by_cases c1 : (4 * 10 : Int) < (xf.length : Int)
            · refine if_true_of' (decide_eq_true c1) (iteT (kL good (.inl ?_) H3 sAll))
              omega
            · refine if_false_of' (decide_eq_false c1) ⟨_, rfl, _, _, _, _, rfl, rfl, SqL.of hO, atI_nat (j := 0) h0', _, _, rfl, rfl, _, rfl, ?_⟩
              by_cases c2 : (5 : Int) < (a0 : Int)
              · exact if_true_of' (decide_eq_true c2) (kL good (.inr ⟨a0, hm0, by omega⟩) H3 sAll)
              · refine if_false_of' (decide_eq_false c2) (kQ good ?_ H3 sAll)
                rintro (z | ⟨a, ha, z⟩)
                · omega
                · have := same_iff.mp heq a ha a0 hm0
                  omega
    · rw [decide_eq_false g4]
      exact iteT (kM (.inl fun z => g4 z.2) H (Same.refl H))
end
end Nl

namespace Nl
open PySem PySem.Spec PyProof.Rows L2
section
variable {P : Program} {w : World} {K : PySem.W.Frag} {mg : Str → Option Value} {base : Heap}
def sp_node_at (K : PySem.W.Frag) (M : Addr) : Sp := fun vs H Q E => ∃ (v va : V) (g : Int) (n : Node) (p : List Int), vs = [v, va] ∧ DT K H v (marketD g n) ∧ DT K H va (pathD p) ∧ (find n p = none → E (.ref M) none H) ∧ (∀ m, find n p = some m → ∀ v', DT K H v' (nodeD m) → Q v' H)
def Good (g : Int) (n : Node) : Prop := ¬ BadM g n ∧ ¬ BigM n
/-- a market that is fine -/
structure Mk (K : PySem.W.Frag) (H : Hp) (v : V) (g : Int) (n : Node) : Prop where
  d : DT K H v (marketD g n)
  b : NodeB n
  l : (pre [] n).length ≤ 1000
theorem Mk.same {H H' : Hp} {v : V} {g : Int} {n : Node} (h : Mk K H v g n) (s : Same H H') : Mk K H' v g n := ⟨h.d.same s, h.b, h.l⟩
theorem Mk.xt {H H' : Hp} {v : V} {g : Int} {n : Node} {p : Addr} (h : Mk K H v g n) (i : IsL H p) (s : Xt p H H') : Mk K H' v g n := ⟨h.d.xt i s, h.b, h.l⟩
/-- what checks ahead of all -/
def spM (K : PySem.W.Frag) (M L : Addr) (vs : List V) (v : V) (H : Hp) (E : XK) (k : Hp → Prop) : Prop := ∃ (g : Int) (n : Node), Mk K H v g n ∧ (BadM g n → ∀ H', Same H H' → E (.ref M) none H') ∧ (¬ BadM g n → BigM n → ∀ H', Same H H' → E (.ref L) none H')
def sp_moments (K : PySem.W.Frag) : Sp := fun vs H Q _ => ∃ (v : V) (g : Int) (n : Node), vs = [v] ∧ Mk K H v g n ∧ Good g n ∧ ∀ v' H', Same H H' → DT K H' v' (.tuple ((pre [] n).map fun e => pathD e.1)) → Q v' H'
def endsN (n : Node) : List PN := (pre [] n).filter fun e => e.2.ks.isEmpty
def sp_ends (K : PySem.W.Frag) : Sp := fun vs H Q _ => ∃ (v : V) (g : Int) (n : Node), vs = [v] ∧ Mk K H v g n ∧ Good g n ∧ ∀ v' H', Same H H' → DT K H' v' (.tuple ((endsN n).map fun e => pathD e.1)) → Q v' H'
def sp_last (K : PySem.W.Frag) : Sp := fun vs H Q _ => ∃ (v : V) (g : Int) (n : Node), vs = [v] ∧ Mk K H v g n ∧ Good g n ∧ ∀ H' e, Same H H' → (endsN n)[0]? = some e → Q (.int (e.1.length : Int)) H'
theorem endsN_pos (n : Node) : 0 < (endsN n).length := by
  have := ends_pos n
  unfold endLens at this
  rw [List.length_map] at this
  exact this
def sp_price (K : PySem.W.Frag) (M L N : Addr) : Sp := fun vs H Q E => ∃ (v va : V) (g : Int) (n : Node) (p : List Int) (k : Int), vs = [v, va, .int k] ∧ Mk K H v g n ∧ DT K H va (pathD p) ∧ (BadM g n → ∀ H', Same H H' → E (.ref M) none H') ∧ (¬ BadM g n → BigM n → ∀ H', Same H H' → E (.ref L) none H') ∧
  (Good g n → (find n p = none ∨ ¬ (0 ≤ k ∧ k < g)) → ∀ H', Same H H' → E (.ref N) none H') ∧ (Good g n → ∀ m, find n p = some m → 0 ≤ k → k < g → ∀ v' H' d, Same H H' → (prD ((1, 1), (1, 1)) :: m.ps.map prD)[k.toNat]? = some d → DT K H' v' d → Q v' H')
def sp_nexts (K : PySem.W.Frag) (M L N : Addr) : Sp := fun vs H Q E => ∃ (v va : V) (g : Int) (n : Node) (p : List Int), vs = [v, va] ∧ Mk K H v g n ∧ DT K H va (pathD p) ∧ (BadM g n → ∀ H', Same H H' → E (.ref M) none H') ∧ (¬ BadM g n → BigM n → ∀ H', Same H H' → E (.ref L) none H') ∧
  (Good g n → find n p = none → ∀ H', Same H H' → E (.ref N) none H') ∧ (Good g n → ∀ m, find n p = some m → ∀ H', Same H H' → Q (.int (m.ks.length : Int)) H')
end
end Nl

namespace Nl
open PySem PySem.Spec PyProof.Rows L2
section
variable {P : Program} {w : World} {K : PySem.W.Frag} {mg : Str → Option Value} {base : Heap}
theorem mulK {k : Nat} {i j : Int} (hk : k ≤ 3000) (ha : Bd k i) (hb : Bd k j) : CMulW i j := mulX (ha.mono hk) (hb.mono hk)
def sp_begin (K : PySem.W.Frag) : Sp := fun vs H Q _ => ∃ (a : Addr) (ns : List Int), vs = [.ref a] ∧ SqL K H a (ns.map V.int) ∧ ∀ pd ps H', Same H H' → H pd = none → H ps = none → Dst H' pd ps → Q (.ref pd) H'
theorem ok__law_begin (T : Top K mg) : FnOk P w K mg base CX0 1 T.a__law_begin T.d__law_begin ["script"] (sp_begin K) := by
  refine T._law_begin_F.ok sc__law_begin (fun vs H Q E h => ?_) (fun cdv A outer s H vs Q E hr h => ?_)
  · obtain ⟨_, _, rfl, _⟩ := h
    rfl
  · obtain ⟨a, ns, rfl, hS, fin⟩ := h
    refine ⟨_, (pss_cons (ps_set (i := 1) sc__law_begin.nd rfl (Or.inl rfl) pe_int)
      (pss_cons (ps_for PassesOwn.never rfl (pi_list (pv 0)) (pg_name (i := 2) sc__law_begin.nd rfl (Or.inl rfl)) (pss_one (ps_set (i := 1) sc__law_begin.nd rfl (Or.inl rfl) (pe_op op_mod (pe_op op_add (pe_op op_add (pe_op op_mul (pv 1) pe_int) (pe_op op_mod (pe_callTy call_intI (by rfl) T.n_int (by decide +kernel) (pa_cons (pv 2) pa_nil)) pe_int)) pe_int) pe_int))))
      (pss_one (ps_ret (pe_lst (pa_cons (pe_callTy call_listL (by rfl) T.n_list (by decide +kernel) (pa_cons (pv 0) pa_nil)) (pa_cons pe_int (pa_cons pe_int (pa_cons (pv 1) pa_nil))))))))), ?_⟩
    refine ⟨_, rfl, a, rfl, ⟨_, hS⟩, for_list (K := K) (a := a) (xs := ns.map V.int) (fun i σ H' => ∃ (r : Int) (y : Option V), σ = [some (.ref a), some (.int r), y] ∧ H' = H) ⟨_, none, rfl, rfl⟩ (fun i σ H' _ ⟨_, _, _, e⟩ => e ▸ hS) ?_ ?_⟩
    · rintro i x σ H' hi ⟨r, y, rfl, rfl⟩
      obtain ⟨z, rfl⟩ : ∃ z, x = V.int z := by
        rw [List.getElem?_map] at hi
        cases e : ns[i]? with
        | none =>
          rw [e] at hi
          cases hi
        | some z =>
          rw [e] at hi
          exact ⟨z, (Option.some.inj hi).symm⟩
      exact ⟨_, rfl, _, _, rfl, rfl, mulC ⟨by decide, by decide⟩, _, rfl, _, rfl, _, _, rfl, rfl, (by show (0 : Int) < 2147483629; decide), _, _, rfl, rfl, _, _, rfl, rfl, _, _, rfl, rfl, (by show (0 : Int) < 2147483647; decide), _, _, rfl, rfl⟩
    · rintro σ H' ⟨r, y, rfl, rfl⟩
      refine ⟨_, rfl, _, _, rfl, hS, fun l hl => ⟨_, rfl, (by decide : 4 ≤ sizeLine), fun p hp => ?_⟩⟩
      have s1 := same_new (o := .lst (ns.map V.int)) hl
      have s2 := same_new (o := .lst [.ref l, .int 0, .int 0, .int r]) hp
      have nlp : l ≠ p := fun e => by
        rw [← e, upd_same] at hp
        cases hp
      exact fin p l _ (s1.trans s2) (s1.free hp) hl ⟨0, 0, ns, ⟨⟨_, upd_same⟩, by rw [upd_ne nlp, upd_same], nlp, by decide, by decide⟩⟩
def sp_take : Sp := fun vs H Q _ => ∃ (pd ps : Addr) (many : Int), vs = [.ref pd, .int many] ∧ Dst H pd ps ∧ 0 < many ∧ Bd 8000 many ∧ ∀ r H', Xt pd H H' → Dst H' pd ps → 0 ≤ r → r < many → Q (.int r) H'
theorem ok__law_take (T : Top K mg) : FnOk P w K mg base CX0 1 T.a__law_take T.d__law_take ["d", "many"] sp_take := by
  refine T._law_take_F.ok sc__law_take (fun vs H Q E h => ?_) (fun cdv A outer s H vs Q E hr h => ?_)
  · obtain ⟨_, _, _, rfl, _⟩ := h
    rfl
  · obtain ⟨pd, ps, many, rfl, ⟨i, r, ns, D⟩, hm, hM, fin⟩ := h
    have md : ∀ x H', Xt pd H H' → Dst H' pd ps → Q (.int (x % many)) H' := fun x H' h1 h2 => fin _ H' h1 h2 (Int.emod_nonneg x (by omega)) (Int.emod_lt_of_pos x hm)
    refine ⟨_, (Evl.pss_cut (ps_if (PW.pt (pw_and (pt_cmpR op_eq (pe_ix ix_list (pv 0) pe_int (fun _ _ => rfl)) pe_int (nomark _)) (pw_and1 (pt_cmpR op_lt (pe_ix ix_list (pv 0) pe_int (fun _ _ => rfl)) (pe_callB call_lenL (by rfl) T.n_len (by decide +kernel) (pa_cons (pe_ix ix_list (pv 0) pe_int (fun _ _ => rfl)) pa_nil)) (nomark _))))) (pss_cons (ps_asg (pe_callB call_abs (by rfl) T.n_abs (by decide +kernel) (pa_cons (pe_callTy call_intI (by rfl) T.n_int (by decide +kernel) (pa_cons (pe_ix ix_list (pe_ix ix_list (pv 0) pe_int (fun _ _ => rfl)) (pe_ix ix_list (pv 0) pe_int (fun _ _ => rfl)) (fun _ _ => rfl)) pa_nil)) pa_nil)) (pg_sub (pv 0) pe_int set_list))
      (pss_cons (ps_asg (pe_op op_add (pe_ix ix_list (pv 0) pe_int (fun _ _ => rfl)) pe_int) (pg_sub (pv 0) pe_int set_list))
      (pss_one (ps_if (pt_cmpR op_lt (pe_ix ix_list (pv 0) pe_int (fun _ _ => rfl)) (pe_op op_pow pe_int pe_int) (nomark _)) (pss_cons (ps_set (i := 2) sc__law_take.nd rfl (Or.inl rfl) (pe_callTy call_intI (by rfl) T.n_int (by decide +kernel) (pa_cons (pe_ix ix_list (pv 0) pe_int (fun _ _ => rfl)) pa_nil)))
      (pss_cons (ps_asg pe_int (pg_sub (pv 0) pe_int set_list))
      (pss_one (ps_ret (pe_op op_mod (pv 2) (pv 1)))))) pss_nil)))) pss_nil)
      (pss_cons (ps_if (pt_cmpR op_gt (pe_ix ix_list (pv 0) pe_int (fun _ _ => rfl)) pe_int (nomark _)) (pss_cons (ps_set (i := 3) sc__law_take.nd rfl (Or.inl rfl) (pe_op op_mod (pe_callTy call_intI (by rfl) T.n_int (by decide +kernel) (pa_cons (pe_ix ix_list (pv 0) pe_int (fun _ _ => rfl)) pa_nil)) (pv 1)))
      (pss_cons (ps_asg (pe_op op_fdivX (pe_callTy call_intI (by rfl) T.n_int (by decide +kernel) (pa_cons (pe_ix ix_list (pv 0) pe_int (fun _ _ => rfl)) pa_nil)) (pv 1)) (pg_sub (pv 0) pe_int set_list))
      (pss_one (ps_ret (pv 3))))) pss_nil)
      (pss_cons (ps_asg (pe_op op_mod (pe_callTy call_intI (by rfl) T.n_int (by decide +kernel) (pa_cons (pe_op op_add (pe_op op_mul (pe_ix ix_list (pv 0) pe_int (fun _ _ => rfl)) pe_int) pe_int) pa_nil)) pe_int) (pg_sub (pv 0) pe_int set_list))
      (pss_one (ps_ret (pe_op op_mod (pe_callTy call_intI (by rfl) T.n_int (by decide +kernel) (pa_cons (pe_op op_fdivX (pe_ix ix_list (pv 0) pe_int (fun _ _ => rfl)) pe_int) pa_nil)) (pv 1))))))), ?_⟩
    refine ⟨fun σ H' => ∃ y z r', σ = [some (.ref pd), some (.int many), y, z] ∧ Xt pd H H' ∧ ∃ i', DstI H' pd ps i' r' ns, ?_, ?_⟩
    · obtain ⟨sd, hd⟩ := D.at_d
      have stay : ∃ y z r', ([some (.ref pd), some (.int many), none, none] : List (Option V)) = [some (.ref pd), some (.int many), y, z] ∧ Xt pd H H ∧ ∃ i', DstI H pd ps i' r' ns := ⟨none, none, r, rfl, Xt.refl H, i, D⟩
      refine ⟨_, rfl, _, _, _, _, rfl, rfl, (SqL.of hd), (atI_nat (j := 2) rfl), rfl, _, rfl, ite2 (fun e => ?_) (fun e => iteF stay)⟩
      refine ⟨_, rfl, _, _, _, _, rfl, rfl, (SqL.of hd), (atI_nat (j := 1) rfl), _, rfl, _, _, _, _, rfl, rfl, (SqL.of hd), (atI_nat (j := 0) rfl), _, _, rfl, SqL.of D.at_s, _, _, rfl, rfl, _, rfl, ite2 (fun e1 => ?_) (fun e1 => stay)⟩
      have e2 : i < ((ns.map V.int).length : Int) := of_decide_eq_true e1
      rw [List.length_map] at e2
      obtain ⟨j, rfl⟩ := Int.eq_ofNat_of_zero_le D.i0
      have jl : j < ns.length := by omega
      have gj : (ns.map V.int)[j]? = some (.int ns[j]) := by
        rw [List.getElem?_map, List.getElem?_eq_getElem jl]
        rfl
      have ab : ∀ x : Int, 0 ≤ (if x < 0 then -x else x) := fun x => by split <;> omega
      refine ⟨_, rfl, _, _, _, _, rfl, rfl, (SqL.of hd), (atI_nat (j := 0) rfl), _, rfl, _, _, _, _, rfl, rfl, (SqL.of hd), (atI_nat (j := 1) rfl), _, _, _, _, rfl, rfl, SqL.of D.at_s, atI_nat gj, _, rfl, _, rfl, _, rfl, _, _, _, _, rfl, rfl, hd, rfl, ?_⟩
      have D1 := D.set (s' := sd) D.i0 (ab ns[j])
      obtain ⟨_, hd1⟩ := D1.at_d
      have hd1 : (upd H pd (.lst [.ref ps, .int (j : Int), .int (if ns[j] < 0 then -ns[j] else ns[j]), .int sd])) pd = _ := upd_same
      refine ⟨_, rfl, _, _, _, _, rfl, rfl, (SqL.of hd1), (atI_nat (j := 1) rfl), _, _, rfl, rfl, _, rfl, _, _, _, _, rfl, rfl, hd1, rfl, ?_⟩
      have D2 := D1.upd2 (i' := (j : Int) + 1) (r' := if ns[j] < 0 then -ns[j] else ns[j]) (s' := sd) (o := .lst [.ref ps, .int (j : Int), .int (if ns[j] < 0 then -ns[j] else ns[j]), .int sd]) (by omega) (ab ns[j])
      rw [upd_upd]
      have hd2 : (upd H pd (.lst [.ref ps, .int ((j : Int) + 1), .int (if ns[j] < 0 then -ns[j] else ns[j]), .int sd])) pd = _ := upd_same
      have D2 := D.set (i' := (j : Int) + 1) (r' := if ns[j] < 0 then -ns[j] else ns[j]) (s' := sd) (by omega) (ab ns[j])
      refine ⟨_, rfl, _, _, _, _, rfl, rfl, (SqL.of hd2), (atI_nat (j := 2) rfl), _, _, rfl, rfl, ⟨by decide, by decide, by decide⟩, _, _, rfl, rfl, _, rfl, ite2 (fun e3 => ?_) (fun e3 => ?_)⟩
      · refine ⟨_, rfl, _, _, _, _, rfl, rfl, (SqL.of hd2), (atI_nat (j := 2) rfl), _, rfl, _, rfl, _, _, _, _, rfl, rfl, hd2, rfl, _, rfl, _, rfl, _, _, rfl, rfl, hm, ?_⟩
        rw [upd_upd]
        exact md _ _ Xt.upd ⟨_, _, _, D.set (by omega) (by decide)⟩
      · exact ⟨none, none, _, rfl, Xt.upd, _, D2⟩
    · rintro σ H' ⟨y, z, r', rfl, hx, i', D'⟩
      obtain ⟨sd, hd⟩ := D'.at_d
      refine ⟨_, rfl, _, _, _, _, rfl, rfl, (SqL.of hd), (atI_nat (j := 2) rfl), _, _, rfl, rfl, _, rfl, ite2 (fun e => ?_) (fun e => ?_)⟩
      · refine ⟨_, rfl, _, _, _, _, rfl, rfl, (SqL.of hd), (atI_nat (j := 2) rfl), _, rfl, _, rfl, _, _, rfl, rfl, hm, _, rfl, _, _, _, _, rfl, rfl, (SqL.of hd), (atI_nat (j := 2) rfl), _, rfl, _, rfl, _, _, rfl, rfl, divX (by omega) hM, _, rfl, _, _, _, _, rfl, rfl, hd, rfl, _, rfl, ?_⟩
        refine md _ _ (hx.trans Xt.upd) ⟨_, _, _, D'.set D'.i0 ?_⟩
        rw [Int.fdiv_eq_ediv_of_nonneg _ (by omega)]
        exact Int.ediv_nonneg D'.r0 (by omega)
      · refine ⟨_, rfl, _, _, _, _, rfl, rfl, (SqL.of hd), (atI_nat (j := 3) rfl), _, _, rfl, rfl, mulC ⟨by decide, by decide⟩, _, _, rfl, rfl, _, rfl, _, _, rfl, rfl, (by show (0 : Int) < 2147483647; decide), _, rfl, _, _, _, _, rfl, rfl, hd, rfl, ?_⟩
        have D2 := D'.set (i' := i') (r' := r') (s' := (sd * 48271 + 11) % 2147483647) D'.i0 D'.r0
        have hd2 : (upd H' pd (.lst [.ref ps, .int i', .int r', .int ((sd * 48271 + 11) % 2147483647)])) pd = _ := upd_same
        exact ⟨_, rfl, _, _, _, _, rfl, rfl, (SqL.of hd2), (atI_nat (j := 3) rfl), _, _, rfl, rfl, ⟨by decide, by decide⟩, _, rfl, _, rfl, _, _, rfl, rfl, hm, md _ _ (hx.trans Xt.upd) ⟨_, _, _, D2⟩⟩
def sp_gcd : Sp := fun vs H Q _ => ∃ a b : Int, vs = [.int a, .int b] ∧ 0 ≤ a ∧ 0 ≤ b ∧ Q (.int (Int.gcd a b : Int)) H
theorem ok__law_gcd (T : Top K mg) : FnOk P w K mg base CX0 1 T.a__law_gcd T.d__law_gcd ["a", "b"] sp_gcd := by
  refine T._law_gcd_F.ok sc__law_gcd (fun vs H Q E h => ?_) (fun cdv A outer s H vs Q E hr h => ?_)
  · obtain ⟨_, _, rfl, _⟩ := h
    rfl
  · obtain ⟨a, b, rfl, ha, hb, fin⟩ := h
    refine ⟨_, (pss_cons (ps_while PassesOwn.never (pt_cmpR op_ne (pv 1) pe_int (nomark _)) (pss_one (ps_par (i := 0) (j := 1) (by rfl) sc__law_gcd.nd rfl rfl (by decide) rfl rfl (pa_cons (pv 1) (pa_cons (pe_op op_mod (pe_callTy call_intI (by rfl) T.n_int (by decide +kernel) (pa_cons (pv 0) pa_nil)) (pv 1)) pa_nil)) (by rfl))))
      (pss_one (ps_ret (pe_callB call_abs (by rfl) T.n_abs (by decide +kernel) (pa_cons (pv 0) pa_nil))))), ?_⟩
    refine ⟨fun m σ H' => ∃ x y : Int, σ = [some (.int x), some (.int y)] ∧ H' = H ∧ 0 ≤ x ∧ 0 ≤ y ∧ m = y.toNat ∧ Int.gcd x y = Int.gcd a b, ⟨_, a, b, rfl, rfl, ha, hb, rfl, rfl⟩, ?_⟩
    rintro m σ H' ⟨x, y, rfl, rfl, hx, hy, rfl, hg⟩
    refine ⟨_, rfl, rfl, _, rfl, ?_⟩
    by_cases e : y = 0
    · subst e
      refine iteNS rfl ?_
      have e1 : (if x < 0 then -x else x) = (Int.gcd a b : Int) := by
        rw [if_neg (by omega), ← hg, Int.gcd_zero_right]
        omega
      rw [← e1] at fin
      exact ⟨_, rfl, _, rfl, fin⟩
    · refine ite2 (fun _ => ?_) (fun z => (z (by simp [e])).elim)
      refine ⟨_, fun _ _ z => z, ?_⟩
      have hp : 0 < y := by omega
      refine ⟨_, rfl, _, rfl, _, rfl, _, rfl, _, _, rfl, rfl, hp, _, _, rfl, (x % y).toNat, ?_, y, x % y, rfl, rfl, hy, Int.emod_nonneg _ e, rfl, ?_⟩
      · have := Int.emod_lt_of_pos x hp
        have := Int.emod_nonneg x e
        omega
      · rw [gcd_step x y hx hy, hg]
def sp_f (K : PySem.W.Frag) : Sp := fun vs H Q _ => ∃ a b : Int, vs = [.int a, .int b] ∧ b ≠ 0 ∧ Bd 8000 b ∧ ∀ v H', Same H H' → DT K H' v (frD (frac a b)) → Q v H'
theorem ok__law_f (T : Top K mg) : FnOk P w K mg base CX0 2 T.a__law_f T.d__law_f ["a", "b"] (sp_f K) := by
  refine T._law_f_F.ok sc__law_f (fun vs H Q E h => ?_) (fun cdv A outer s H vs Q E hr h => ?_)
  · obtain ⟨_, _, rfl, _⟩ := h
    rfl
  · obtain ⟨a, b, rfl, hb, hB, fin⟩ := h
    have eL := fracL_eq (a := a) hb
    have ab : ∀ x : Int, 0 ≤ (if x < 0 then -x else x) := fun x => by split <;> omega
    have key : ∀ x y : Int, 0 < y → Bd 8000 y → (x / (Int.gcd x y : Int), y / (Int.gcd x y : Int)) = frac a b → ∀ p, H p = none → 
        CDivX x (Int.gcd (if x < 0 then -x else x) y : Int) ∧ CDivX y (Int.gcd (if x < 0 then -x else x) y : Int) ∧ Q (.ref p) (upd H p (.tup [.int (x.fdiv (Int.gcd (if x < 0 then -x else x) y : Int)), .int (y.fdiv (Int.gcd (if x < 0 then -x else x) y : Int))])) := by
      intro x y hy hY e p hp
      have eg : Int.gcd (if x < 0 then -x else x) y = Int.gcd x y := by
        split
        · exact Int.neg_gcd
        · rfl
      have g0 : 0 < Int.gcd x y := gcd_pos (by omega)
      have gB : Bd 8000 (Int.gcd x y : Int) := hY.le (by
        show Int.gcd x y ≤ y.natAbs
        exact Nat.le_of_dvd (by omega) (Nat.gcd_dvd_right _ _))
      rw [eg]
      refine ⟨divX (by omega) gB, divX (by omega) gB, fin _ _ (same_new hp) (DT.fr (Tp.of ?_))⟩
      rw [Int.fdiv_eq_ediv_of_nonneg _ (by omega), Int.fdiv_eq_ediv_of_nonneg _ (by omega), ← e]
      exact upd_same
    have go : ∀ x y : Int, 0 < y → Bd 8000 y → (x / (Int.gcd x y : Int), y / (Int.gcd x y : Int)) = frac a b → ∃ (u v : Int), u = (Int.gcd (if x < 0 then -x else x) y : Int) ∧ CDivX x u ∧ CDivX y u ∧ ∀ p, H p = none → Q (.ref p) (upd H p (.tup [.int (x.fdiv u), .int (y.fdiv u)])) := by
      intro x y hy hY e
      have eg : Int.gcd (if x < 0 then -x else x) y = Int.gcd x y := by
        split
        · exact Int.neg_gcd
        · rfl
      have g0 : 0 < Int.gcd x y := gcd_pos (by omega)
      have gB : Bd 8000 (Int.gcd x y : Int) := hY.le (by
        show Int.gcd x y ≤ y.natAbs
        exact Nat.le_of_dvd (by omega) (Nat.gcd_dvd_right _ _))
      refine ⟨_, 0, rfl, ?_, ?_, fun p hp => (key x y hy hY e p hp).2.2⟩
      · rw [eg]; exact divX (by omega) gB
      · rw [eg]; exact divX (by omega) gB
    refine ⟨_, (pss_cons (ps_if (pt_cmpR op_lt (pv 1) pe_int (nomark _)) (pss_cons (ps_set (i := 0) sc__law_f.nd rfl (Or.inl rfl) (pe_op op_sub pe_int (pv 0)))
      (pss_one (ps_set (i := 1) sc__law_f.nd rfl (Or.inl rfl) (pe_op op_sub pe_int (pv 1))))) pss_nil)
      (pss_cons (ps_set (i := 2) sc__law_f.nd rfl (Or.inl rfl) (pe_call (ok__law_gcd T) (hr.mono (by decide : 1 ≤ 1)) (by rfl) T.g__law_gcd T._law_gcd_F.kp T._law_gcd_b .nil pass0 (pa_cons (pe_callB call_abs (by rfl) T.n_abs (by decide +kernel) (pa_cons (pv 0) pa_nil)) (pa_cons (pv 1) pa_nil))))
      (pss_one (ps_ret (pe_tup (pa_cons (pe_op op_fdivX (pv 0) (pv 2)) (pa_cons (pe_op op_fdivX (pv 1) (pv 2)) pa_nil))))))), ?_⟩
    refine ⟨_, rfl, _, _, rfl, rfl, _, rfl, ite2 (fun e => ?_) (fun e => ?_)⟩
    · have e0 : b < 0 := of_decide_eq_true e
      obtain ⟨u, _, eu, c1, c2, k⟩ := go (0 - a) (0 - b) (by omega) (by rw [Int.zero_sub]; exact hB.neg) (by
        rw [← eL]
        unfold fracL
        simp only [if_pos e0])
      subst eu
      exact ⟨_, rfl, _, _, rfl, rfl, _, rfl, _, _, rfl, rfl, _, rfl, _, rfl, _, rfl, _, _, rfl, ab _, by omega, _, rfl, _, rfl, _, _, rfl, rfl, c1, _, rfl, _, rfl, _, _, rfl, rfl, c2, two_le, k⟩
    · have e0 : ¬ b < 0 := fun z => e (decide_eq_true z)
      obtain ⟨u, _, eu, c1, c2, k⟩ := go a b (by omega) hB (by
        rw [← eL]
        unfold fracL
        simp only [if_neg e0])
      subst eu
      exact ⟨_, rfl, _, rfl, _, rfl, _, _, rfl, ab _, by omega, _, rfl, _, rfl, _, _, rfl, rfl, c1, _, rfl, _, rfl, _, _, rfl, rfl, c2, two_le, k⟩
def sp2 (K : PySem.W.Frag) (R : Int × Int → Int × Int → Int × Int) : Sp := fun vs H Q _ => ∃ (va vb : V) (p q : Int × Int) (k : Nat), vs = [va, vb] ∧ DT K H va (frD p) ∧ DT K H vb (frD q) ∧ Ok k p ∧ Ok k q ∧ k ≤ 3000 ∧ ∀ v H', Same H H' → DT K H' v (frD (R p q)) → Q v H'
theorem ok__law_plus (T : Top K mg) : FnOk P w K mg base CX0 3 T.a__law_plus T.d__law_plus ["a", "b"] (sp2 K addF) := by
  refine T._law_plus_F.ok sc__law_plus (fun vs H Q E h => ?_) (fun cdv A outer s H vs Q E hr h => ?_)
  · obtain ⟨_, _, _, _, _, rfl, _⟩ := h
    rfl
  · obtain ⟨_, _, p, q, k, rfl, da, db, ⟨lp, p1, p2⟩, ⟨lq, q1, q2⟩, hk, fin⟩ := h
    obtain ⟨a, rfl, ha⟩ := da.fr_inv
    obtain ⟨b, rfl, hb⟩ := db.fr_inv
    have ne := pos_ne lp.pos lq.pos
    refine ⟨_, (pss_one (ps_ret (pe_call (ok__law_f T) (hr.mono (by decide : 2 ≤ 2)) (by rfl) T.g__law_f T._law_f_F.kp T._law_f_b .nil pass0 (pa_cons (pe_op op_add (pe_op op_mulW (pe_ix ix_tup (pv 0) pe_int (fun _ _ => rfl)) (pe_ix ix_tup (pv 1) pe_int (fun _ _ => rfl))) (pe_op op_mulW (pe_ix ix_tup (pv 1) pe_int (fun _ _ => rfl)) (pe_ix ix_tup (pv 0) pe_int (fun _ _ => rfl)))) (pa_cons (pe_op op_mulW (pe_ix ix_tup (pv 0) pe_int (fun _ _ => rfl)) (pe_ix ix_tup (pv 1) pe_int (fun _ _ => rfl))) pa_nil))))), ?_⟩
    exact ⟨_, rfl, _, _, _, _, rfl, rfl, (SqT.of ha), (atI_nat (j := 0) rfl), _, rfl, _, _, _, _, rfl, rfl, (SqT.of hb), (atI_nat (j := 1) rfl), _, _, rfl, rfl, (by first | exact mulK hk (by assumption) (by assumption) | exact mulF3 (by assumption) (by assumption)), _, rfl, _, _, _, _, rfl, rfl, (SqT.of hb), (atI_nat (j := 0) rfl), _, rfl, _, _, _, _, rfl, rfl, (SqT.of ha), (atI_nat (j := 1) rfl), _, _, rfl, rfl, (by first | exact mulK hk (by assumption) (by assumption) | exact mulF3 (by assumption) (by assumption)), _, _, rfl, rfl, _, rfl, _, _, _, _, rfl, rfl, (SqT.of ha), (atI_nat (j := 1) rfl), _, rfl, _, _, _, _, rfl, rfl, (SqT.of hb), (atI_nat (j := 1) rfl), _, _, rfl, rfl, (by first | exact mulK hk (by assumption) (by assumption) | exact mulF3 (by assumption) (by assumption)), _, _, rfl, ne, (p2.mul q2).mono (by omega), fun v H' s f => fin v H' s f⟩
theorem ok__law_minus (T : Top K mg) : FnOk P w K mg base CX0 3 T.a__law_minus T.d__law_minus ["a", "b"] (sp2 K subF) := by
  refine T._law_minus_F.ok sc__law_minus (fun vs H Q E h => ?_) (fun cdv A outer s H vs Q E hr h => ?_)
  · obtain ⟨_, _, _, _, _, rfl, _⟩ := h
    rfl
  · obtain ⟨_, _, p, q, k, rfl, da, db, ⟨lp, p1, p2⟩, ⟨lq, q1, q2⟩, hk, fin⟩ := h
    obtain ⟨a, rfl, ha⟩ := da.fr_inv
    obtain ⟨b, rfl, hb⟩ := db.fr_inv
    have ne := pos_ne lp.pos lq.pos
    refine ⟨_, (pss_one (ps_ret (pe_call (ok__law_f T) (hr.mono (by decide : 2 ≤ 2)) (by rfl) T.g__law_f T._law_f_F.kp T._law_f_b .nil pass0 (pa_cons (pe_op op_sub (pe_op op_mulW (pe_ix ix_tup (pv 0) pe_int (fun _ _ => rfl)) (pe_ix ix_tup (pv 1) pe_int (fun _ _ => rfl))) (pe_op op_mulW (pe_ix ix_tup (pv 1) pe_int (fun _ _ => rfl)) (pe_ix ix_tup (pv 0) pe_int (fun _ _ => rfl)))) (pa_cons (pe_op op_mulW (pe_ix ix_tup (pv 0) pe_int (fun _ _ => rfl)) (pe_ix ix_tup (pv 1) pe_int (fun _ _ => rfl))) pa_nil))))), ?_⟩
    exact ⟨_, rfl, _, _, _, _, rfl, rfl, (SqT.of ha), (atI_nat (j := 0) rfl), _, rfl, _, _, _, _, rfl, rfl, (SqT.of hb), (atI_nat (j := 1) rfl), _, _, rfl, rfl, (by first | exact mulK hk (by assumption) (by assumption) | exact mulF3 (by assumption) (by assumption)), _, rfl, _, _, _, _, rfl, rfl, (SqT.of hb), (atI_nat (j := 0) rfl), _, rfl, _, _, _, _, rfl, rfl, (SqT.of ha), (atI_nat (j := 1) rfl), _, _, rfl, rfl, (by first | exact mulK hk (by assumption) (by assumption) | exact mulF3 (by assumption) (by assumption)), _, _, rfl, rfl, _, rfl, _, _, _, _, rfl, rfl, (SqT.of ha), (atI_nat (j := 1) rfl), _, rfl, _, _, _, _, rfl, rfl, (SqT.of hb), (atI_nat (j := 1) rfl), _, _, rfl, rfl, (by first | exact mulK hk (by assumption) (by assumption) | exact mulF3 (by assumption) (by assumption)), _, _, rfl, ne, (p2.mul q2).mono (by omega), fun v H' s f => fin v H' s f⟩
theorem ok__law_times (T : Top K mg) : FnOk P w K mg base CX0 3 T.a__law_times T.d__law_times ["a", "b"] (sp2 K mulF) := by
  refine T._law_times_F.ok sc__law_times (fun vs H Q E h => ?_) (fun cdv A outer s H vs Q E hr h => ?_)
  · obtain ⟨_, _, _, _, _, rfl, _⟩ := h
    rfl
  · obtain ⟨_, _, p, q, k, rfl, da, db, ⟨lp, p1, p2⟩, ⟨lq, q1, q2⟩, hk, fin⟩ := h
    obtain ⟨a, rfl, ha⟩ := da.fr_inv
    obtain ⟨b, rfl, hb⟩ := db.fr_inv
    have ne := pos_ne lp.pos lq.pos
    refine ⟨_, (pss_one (ps_ret (pe_call (ok__law_f T) (hr.mono (by decide : 2 ≤ 2)) (by rfl) T.g__law_f T._law_f_F.kp T._law_f_b .nil pass0 (pa_cons (pe_op op_mulW (pe_ix ix_tup (pv 0) pe_int (fun _ _ => rfl)) (pe_ix ix_tup (pv 1) pe_int (fun _ _ => rfl))) (pa_cons (pe_op op_mulW (pe_ix ix_tup (pv 0) pe_int (fun _ _ => rfl)) (pe_ix ix_tup (pv 1) pe_int (fun _ _ => rfl))) pa_nil))))), ?_⟩
    exact ⟨_, rfl, _, _, _, _, rfl, rfl, (SqT.of ha), (atI_nat (j := 0) rfl), _, rfl, _, _, _, _, rfl, rfl, (SqT.of hb), (atI_nat (j := 0) rfl), _, _, rfl, rfl, (by first | exact mulK hk (by assumption) (by assumption) | exact mulF3 (by assumption) (by assumption)), _, rfl, _, _, _, _, rfl, rfl, (SqT.of ha), (atI_nat (j := 1) rfl), _, rfl, _, _, _, _, rfl, rfl, (SqT.of hb), (atI_nat (j := 1) rfl), _, _, rfl, rfl, (by first | exact mulK hk (by assumption) (by assumption) | exact mulF3 (by assumption) (by assumption)), _, _, rfl, ne, (p2.mul q2).mono (by omega), fun v H' s f => fin v H' s f⟩
def sp_less (K : PySem.W.Frag) : Sp := fun vs H Q _ => ∃ (va vb : V) (p q : Int × Int), vs = [va, vb] ∧ DT K H va (frD p) ∧ DT K H vb (frD q) ∧ FB p ∧ FB q ∧ Q (.bl (decide (p.1 * q.2 < q.1 * p.2))) H
def sp_spread (K : PySem.W.Frag) : Sp := fun vs H Q _ => ∃ (pd ps : Addr) (v : V) (m : Int × Int), vs = [.ref pd, v] ∧ Dst H pd ps ∧ DT K H v (frD m) ∧ Ok 100 m ∧ 0 ≤ m.1 ∧ ∀ v' pr H', Xt pd H H' → Dst H' pd ps → DT K H' v' (prD pr) → ¬ badPr pr → PrK 201 pr → Q v' H'
theorem five {r : Int} (h0 : 0 ≤ r) (h1 : r < 5) : r = 0 ∨ r = 1 ∨ r = 2 ∨ r = 3 ∨ r = 4 := by omega
theorem ok__law_spread (T : Top K mg) : FnOk P w K mg base CX0 4 T.a__law_spread T.d__law_spread ["d", "mid"] (sp_spread K) := by
  refine T._law_spread_F.ok sc__law_spread (fun vs H Q E h => ?_) (fun cdv A outer s H vs Q E hr h => ?_)
  · obtain ⟨_, _, _, _, rfl, _⟩ := h
    rfl
  · obtain ⟨pd, ps, v, m, rfl, D, dv, om, m0, fin⟩ := h
    refine ⟨_, (Evl.pss_cut (ps_set (i := 2) sc__law_spread.nd rfl (Or.inl rfl) (pe_ix ix_tup (pe_tup (pa_cons (pe_tup (pa_cons pe_int (pa_cons pe_int pa_nil))) (pa_cons (pe_tup (pa_cons pe_int (pa_cons pe_int pa_nil))) (pa_cons (pe_tup (pa_cons pe_int (pa_cons pe_int pa_nil))) (pa_cons (pe_tup (pa_cons pe_int (pa_cons pe_int pa_nil))) (pa_cons (pe_tup (pa_cons pe_int (pa_cons pe_int pa_nil))) pa_nil)))))) (pe_call (ok__law_take T) (hr.mono (by decide : 1 ≤ 3)) (by rfl) T.g__law_take T._law_take_F.kp T._law_take_b .nil pass0 (pa_cons (pv 0) (pa_cons pe_int pa_nil))) (fun _ _ => rfl)))
      (pss_cons (ps_set (i := 3) sc__law_spread.nd rfl (Or.inl rfl) (pe_call (ok__law_minus T) (hr.mono (by decide : 3 ≤ 3)) (by rfl) T.g__law_minus T._law_minus_F.kp T._law_minus_b .nil pass0 (pa_cons (pv 1) (pa_cons (pv 2) pa_nil))))
      (pss_one (ps_ret (pe_tup (pa_cons (pe_call (ok__law_plus T) (hr.mono (by decide : 3 ≤ 3)) (by rfl) T.g__law_plus T._law_plus_F.kp T._law_plus_b .nil pass0 (pa_cons (pv 1) (pa_cons (pv 2) pa_nil))) (pa_cons (pe_ifExp (pt_cmpR op_ge (pe_ix ix_tup (pv 3) pe_int (fun _ _ => rfl)) pe_int (nomark _)) (pv 3) (pe_tup (pa_cons pe_int (pa_cons pe_int pa_nil)))) pa_nil))))))), ?_⟩
    refine ⟨fun σ' H1 => ∃ (vs : V) (s : Int × Int), σ' = [some (.ref pd), some v, some vs, none] ∧ Xt pd H H1 ∧ Dst H1 pd ps ∧ DT K H1 vs (frD s) ∧ Ok 3 s ∧ 0 ≤ s.1, ?_, ?_⟩
    · refine ⟨two_le, fun p1 h1 => ⟨two_le, fun p2 h2 => ⟨two_le, fun p3 h3 => ⟨two_le, fun p4 h4 => ⟨two_le, fun p5 h5 => ⟨(by decide : 5 ≤ sizeLine), fun p6 h6 => ?_⟩⟩⟩⟩⟩⟩
      have s1 := same_new (o := .tup [.int 0, .int 1]) h1
      have s2 := same_new (o := .tup [.int 0, .int 1]) h2
      have s3 := same_new (o := .tup [.int 1, .int 4]) h3
      have s4 := same_new (o := .tup [.int 1, .int 2]) h4
      have s5 := same_new (o := .tup [.int 1, .int 1]) h5
      have s6 := same_new (o := .tup [.ref p1, .ref p2, .ref p3, .ref p4, .ref p5]) h6
      have d1 : DT K _ (.ref p1) (frD (0, 1)) := DT.fr (Tp.of (s6 _ _ (s5 _ _ (s4 _ _ (s3 _ _ (s2 _ _ upd_same))))))
      have d2 : DT K _ (.ref p2) (frD (0, 1)) := DT.fr (Tp.of (s6 _ _ (s5 _ _ (s4 _ _ (s3 _ _ upd_same)))))
      have d3 : DT K _ (.ref p3) (frD (1, 4)) := DT.fr (Tp.of (s6 _ _ (s5 _ _ (s4 _ _ upd_same))))
      have d4 : DT K _ (.ref p4) (frD (1, 2)) := DT.fr (Tp.of (s6 _ _ (s5 _ _ upd_same)))
      have d5 : DT K _ (.ref p5) (frD (1, 1)) := DT.fr (Tp.of (s6 _ _ upd_same))
      have sm := ((((s1.trans s2).trans s3).trans s4).trans s5).trans s6
      have D6 := D.same sm
      generalize hH6 : (upd (upd (upd (upd (upd (upd H p1 (.tup [.int 0, .int 1])) p2 (.tup [.int 0, .int 1])) p3 (.tup [.int 1, .int 4])) p4 (.tup [.int 1, .int 2])) p5 (.tup [.int 1, .int 1])) p6 (.tup [.ref p1, .ref p2, .ref p3, .ref p4, .ref p5])) = H6 at *
      have h66 : H6 p6 = some (.tup [.ref p1, .ref p2, .ref p3, .ref p4, .ref p5]) := by rw [← hH6]; exact upd_same
      refine ⟨_, rfl, pd, ps, 5, rfl, D6, by decide, Bd.mono (k := 3) (by unfold Bd; decide) (by decide), fun r H7 x7 D7 r0 r1 => ?_⟩
      have q7 := tp_xt D6.isL x7 (Tp.of h66)
      have xx := (Xt.of sm).trans x7
      have o0 : Ok 3 (0, 1) := ok_zero.mono (by decide)
      have o1 : Ok 3 (1, 4) := ⟨⟨by decide, by decide⟩, by unfold Bd; decide, by unfold Bd; decide⟩
      have o2 : Ok 3 (1, 2) := ⟨⟨by decide, by decide⟩, by unfold Bd; decide, by unfold Bd; decide⟩
      have o3 : Ok 3 (1, 1) := ⟨⟨by decide, by decide⟩, by unfold Bd; decide, by unfold Bd; decide⟩
      rcases five r0 r1 with rfl | rfl | rfl | rfl | rfl
      · exact ⟨_, _, _, _, rfl, rfl, q7.sq, atI_nat (j := 0) rfl, _, _, rfl, xx, D7, d1.xt D6.isL x7, o0, by decide⟩
      · exact ⟨_, _, _, _, rfl, rfl, q7.sq, atI_nat (j := 1) rfl, _, _, rfl, xx, D7, d2.xt D6.isL x7, o0, by decide⟩
      · exact ⟨_, _, _, _, rfl, rfl, q7.sq, atI_nat (j := 2) rfl, _, _, rfl, xx, D7, d3.xt D6.isL x7, o1, by decide⟩
      · exact ⟨_, _, _, _, rfl, rfl, q7.sq, atI_nat (j := 3) rfl, _, _, rfl, xx, D7, d4.xt D6.isL x7, o2, by decide⟩
      · exact ⟨_, _, _, _, rfl, rfl, q7.sq, atI_nat (j := 4) rfl, _, _, rfl, xx, D7, d5.xt D6.isL x7, o3, by decide⟩
    · rintro σ' H1 ⟨vs, s, rfl, x1, D1, ds, os, s0⟩
      have dv1 := dv.xt D.isL x1
      have os5 : Ok 100 s := os.mono (by decide)
      refine ⟨_, rfl, _, rfl, _, _, m, s, 100, rfl, dv1, ds, om, os5, by decide, fun vl H2 s2 dl => ?_⟩
      refine ⟨_, rfl, _, rfl, _, _, m, s, 100, rfl, dv1.same s2, ds.same s2, om, os5, by decide, fun vp H3 s3 dp => ?_⟩
      have dl3 := dl.same s3
      obtain ⟨pl, rfl, hl⟩ := dl3.fr_inv
      have oa := addF_ok om os5 (n := 201) (by decide)
      have ol := subF_ok om os5 (n := 201) (by decide)
      refine ⟨_, rfl, _, _, _, _, rfl, rfl, hl.sq, atI_nat (j := 0) rfl, _, _, rfl, rfl, _, rfl, ite2 (fun e => ?_) (fun e => ?_)⟩
      · refine ⟨_, rfl, two_le, fun pt ht => ?_⟩
        have s4 := same_new (o := .tup [vp, .ref pl]) ht
        exact fin _ (addF m s, subF m s) _ (x1.trans (Xt.of ((s2.trans s3).trans s4))) (D1.same ((s2.trans s3).trans s4)) (.mk2 (Tp.of upd_same) (dp.same s4) (dl3.same s4)) (good_pair m0 om.pos s0 os.pos _ (.inl ⟨rfl, of_decide_eq_true e⟩)) ⟨oa, ol⟩
      · refine ⟨two_le, fun pz hz => ⟨two_le, fun pt ht => ?_⟩⟩
        have s4 := same_new (o := .tup [.int 0, .int 1]) hz
        have s5 := same_new (o := .tup [vp, .ref pz]) ht
        exact fin _ (addF m s, (0, 1)) _ (x1.trans (Xt.of (((s2.trans s3).trans s4).trans s5))) (D1.same (((s2.trans s3).trans s4).trans s5)) (.mk2 (Tp.of upd_same) ((dp.same s4).same s5) (DT.fr (Tp.of (s5 _ _ upd_same)))) (good_pair m0 om.pos s0 os.pos _ (.inr rfl)) ⟨oa, ok_zero.mono (by decide)⟩
end
end Nl

namespace Nl
open PySem PySem.Spec PyProof.Rows L2
section
variable {P : Program} {w : World} {K : PySem.W.Frag} {mg : Str → Option Value} {base : Heap}
/-- a node's mids -/
structure MsOk (g : Int) (m : Nat) (ms : List (Int × Int)) : Prop where
  len : (ms.length : Int) = g - 1
  ok : ∀ q ∈ ms, Ok (kb m) q ∧ 0 ≤ q.1
def sp_node (K : PySem.W.Frag) (m : Nat) : Sp := fun vs H Q _ => ∃ (pd ps : Addr) (g t : Int) (wild : Bool), vs = [.ref pd, .int g, .int t, .int (t + m), .bl wild] ∧ Dst H pd ps ∧ 1 ≤ g ∧ g ≤ 4 ∧
  ∀ H' (a : Addr) (vn : V) (pm : Addr) (xs : List V) (n : Node) (ms : List (Int × Int)), Xt pd H H' → Dst H' pd ps → Tp H' a [vn, .ref pm] → DT K H' vn (nodeD n) → H' pm = some (.lst xs) → DTs K H' xs (ms.map frD) → H pm = none → NV g m n → MsOk g m ms → Q (.ref a) H'
def spPrev (K : PySem.W.Frag) : Nat → Sp
  | 0 => fun _ _ _ _ => False
  | m + 1 => sp_node K m
theorem kb_le {m : Nat} (h : m ≤ 2) : kb m ≤ 92 := by
  match m, h with
  | 0, _ => decide
  | 1, _ => decide
  | 2, _ => decide
theorem kb_ge : ∀ m : Nat, 4 ≤ kb m
  | 0 => by decide
  | m + 1 => by
    have := kb_ge m
    show 4 ≤ 3 * kb m + 14
    omega
theorem ok_wt {x : Int} (h0 : 1 ≤ x) (h1 : x ≤ 3) : Ok 2 (x, 1) := ⟨⟨(by show (0 : Int) < 1; decide), Int.gcd_one_right x⟩, (by unfold Bd; show x.natAbs < 4; omega), (by unfold Bd; show (1 : Int).natAbs < 4; decide)⟩
theorem frac_one_low {x : Int} (h : 0 < x) : Low (1, x) := ⟨h, Int.gcd_one_left x⟩
theorem addF_nn {p q : Int × Int} (hp : 0 ≤ p.1) (hq : 0 ≤ q.1) (lp : 0 < p.2) (lq : 0 < q.2) : 0 ≤ (addF p q).1 := by
  have h1 := Int.mul_nonneg hp (Int.le_of_lt lq)
  have h2 := Int.mul_nonneg hq (Int.le_of_lt lp)
  exact frac_nonneg (by omega) (Int.mul_pos lp lq)
theorem mulF_nn {p q : Int × Int} (hp : 0 ≤ p.1) (hq : 0 ≤ q.1) (lp : 0 < p.2) (lq : 0 < q.2) : 0 ≤ (mulF p q).1 := frac_nonneg (Int.mul_nonneg hp hq) (Int.mul_pos lp lq)
theorem sum_bd : ∀ ws : List Int, (∀ x ∈ ws, 1 ≤ x ∧ x ≤ 3) → (ws.length : Int) ≤ ws.sum ∧ ws.sum ≤ 3 * ws.length
  | [], _ => by simp
  | a :: l, h => by
    have h1 := h a (by simp)
    have h2 := sum_bd l fun x hx => h x (by simp [hx])
    simp only [List.sum_cons, List.length_cons]
    omega
theorem node_step (T : Top K mg) {k m : Nat} (hk : 4 ≤ k) (hm : m ≤ 2) (ih : FnOk P w K mg base CX0 k T.a__law_node T.d__law_node ["d", "goods", "time", "last", "wild"] (spPrev K m)) :
    FnOk P w K mg base CX0 (k + 1) T.a__law_node T.d__law_node ["d", "goods", "time", "last", "wild"] (sp_node K m) := by
  refine T._law_node_F.ok sc__law_node (fun vs H Q E h => ?_) (fun cdv A outer s H vs Q E hr h => ?_)
  · obtain ⟨_, _, _, _, _, rfl, _⟩ := h
    rfl
  · obtain ⟨pd, ps, g, t, wild, rfl, D0, g1, g4, fin⟩ := h
    refine ⟨_, (Evl.pss_cut (ps_set (i := 5) sc__law_node.nd rfl (Or.inl rfl) (pe_ifExp (pt_cmpR op_eq (pv 2) (pv 3) (nomark _)) pe_int (pe_op op_add pe_int (pe_call (ok__law_take T) (hr.mono (by omega)) (by rfl) T.g__law_take T._law_take_F.kp T._law_take_b .nil pass0 (pa_cons (pv 0) (pa_cons (pe_ifExp (pt_cmpR op_eq (pv 3) pe_int (nomark _)) pe_int pe_int) pa_nil))))))
      (pss_cons (ps_setLc (i := 7) (own := [("k", 6)]) (g := (gName 6)) (tt := tYes) (by rfl) sc__law_node.nd rfl rfl (sw_true rfl rfl rfl (by decide +kernel)) (pi_range1 rfl T.n_range (pa_cons (pv 5) pa_nil)) (blkOk_by (own := [("k", 6)]) (N := ["d", "goods", "time", "last", "wild", "many", "k", "children", "weights", "mids", "good", "mid", "total", "prices", "child"]) (sc := defScope s__law_node) (by decide +kernel)) (fun _ _ _ _ _ => (pg_name (i := 6) sc__law_node.nd rfl (Or.inl rfl))) (fun _ _ _ _ _ => pts_nil) (fun _ _ _ _ _ => (pe_call ih (hr.mono (by omega)) (by rfl) T.g__law_node T._law_node_F.kp T._law_node_b .nil pass0 (pa_cons (pv 0) (pa_cons (pv 1) (pa_cons (pe_op op_add (pv 2) pe_int) (pa_cons (pv 3) (pa_cons (pv 4) pa_nil))))))))
      (pss_cons (ps_setLc (i := 8) (own := [("k", 6)]) (g := (gName 6)) (tt := tYes) (by rfl) sc__law_node.nd rfl rfl (sw_true rfl rfl rfl (by decide +kernel)) (pi_range1 rfl T.n_range (pa_cons (pv 5) pa_nil)) (blkOk_by (own := [("k", 6)]) (N := ["d", "goods", "time", "last", "wild", "many", "k", "children", "weights", "mids", "good", "mid", "total", "prices", "child"]) (sc := defScope s__law_node) (by decide +kernel)) (fun _ _ _ _ _ => (pg_name (i := 6) sc__law_node.nd rfl (Or.inl rfl))) (fun _ _ _ _ _ => pts_nil) (fun _ _ _ _ _ => (pe_op op_add pe_int (pe_call (ok__law_take T) (hr.mono (by omega)) (by rfl) T.g__law_take T._law_take_F.kp T._law_take_b .nil pass0 (pa_cons (pv 0) (pa_cons pe_int pa_nil))))))
      (pss_cons (ps_set (i := 9) sc__law_node.nd rfl (Or.inl rfl) (pe_lst pa_nil))
      (pss_cons (ps_for PassesOwn.never rfl (pi_range1 rfl T.n_range (pa_cons (pe_op op_sub (pv 1) pe_int) pa_nil)) (pg_name (i := 10) sc__law_node.nd rfl (Or.inl rfl)) (pss_cons (ps_set (i := 11) sc__law_node.nd rfl (Or.inl rfl) (pe_call (ok__law_f T) (hr.mono (by omega)) (by rfl) T.g__law_f T._law_f_F.kp T._law_f_b .nil pass0 (pa_cons (pe_call (ok__law_take T) (hr.mono (by omega)) (by rfl) T.g__law_take T._law_take_F.kp T._law_take_b .nil pass0 (pa_cons (pv 0) (pa_cons pe_int pa_nil))) (pa_cons (pe_op op_add pe_int (pe_call (ok__law_take T) (hr.mono (by omega)) (by rfl) T.g__law_take T._law_take_F.kp T._law_take_b .nil pass0 (pa_cons (pv 0) (pa_cons pe_int pa_nil)))) pa_nil))))
      (Evl.pss_cut (ps_if (PW.pt (pw_and (pt_cmpR op_gt (pv 5) pe_int (nomark _)) (pw_and1 (pt_not (pt_truth (pv 4) (by intro _; rfl)))))) (pss_cons (ps_set (i := 12) sc__law_node.nd rfl (Or.inl rfl) (pe_tup (pa_cons pe_int (pa_cons pe_int pa_nil))))
      (pss_cons (ps_for PassesOwn.never rfl (pi_range1 rfl T.n_range (pa_cons (pv 5) pa_nil)) (pg_name (i := 6) sc__law_node.nd rfl (Or.inl rfl)) (pss_one (ps_set (i := 12) sc__law_node.nd rfl (Or.inl rfl) (pe_call (ok__law_plus T) (hr.mono (by omega)) (by rfl) T.g__law_plus T._law_plus_F.kp T._law_plus_b .nil pass0 (pa_cons (pv 12) (pa_cons (pe_call (ok__law_times T) (hr.mono (by omega)) (by rfl) T.g__law_times T._law_times_F.kp T._law_times_b .nil pass0 (pa_cons (pe_ix ix_list (pe_ix ix_tup (pe_ix ix_list (pv 7) (pv 6) (fun _ _ => rfl)) pe_int (fun _ _ => rfl)) (pv 10) (fun _ _ => rfl)) (pa_cons (pe_tup (pa_cons (pe_ix ix_list (pv 8) (pv 6) (fun _ _ => rfl)) (pa_cons pe_int pa_nil))) pa_nil))) pa_nil))))))
      (pss_one (ps_set (i := 11) sc__law_node.nd rfl (Or.inl rfl) (pe_call (ok__law_times T) (hr.mono (by omega)) (by rfl) T.g__law_times T._law_times_F.kp T._law_times_b .nil pass0 (pa_cons (pv 12) (pa_cons (pe_tup (pa_cons pe_int (pa_cons (pe_callB (cr_sum rfl) (by rfl) T.n_sum (by decide +kernel) (pa_cons (pv 8) pa_nil)) pa_nil))) pa_nil))))))) pss_nil)
      (pss_one (ps_expr (pe_bm PySem.F.plainAttrs_list PySem.F.slot_list_append PySem.F.type_list_append mt_append (pv 9) (pa_cons (pv 11) pa_nil)))))))
      (pss_cons (ps_set (i := 13) sc__law_node.nd rfl (Or.inl rfl) (pe_callTy call_tupL (by rfl) T.n_tuple (by decide +kernel) (pa_cons (pe_lc (own := [("mid", 11)]) (g := (gName 11)) (tt := tYes) (by rfl) sc__law_node.nd (pi_list (pv 9)) (blkOk_by (own := [("mid", 11)]) (N := ["d", "goods", "time", "last", "wild", "many", "k", "children", "weights", "mids", "good", "mid", "total", "prices", "child"]) (sc := defScope s__law_node) (by decide +kernel)) (fun _ _ _ _ _ => (pg_name (i := 11) sc__law_node.nd rfl (Or.inl rfl))) (fun _ _ _ _ _ => pts_nil) (fun _ _ _ _ _ => (pe_call (ok__law_spread T) (hr.mono (by omega)) (by rfl) T.g__law_spread T._law_spread_F.kp T._law_spread_b .nil pass0 (pa_cons (pv 0) (pa_cons (pv 11) pa_nil))))) pa_nil)))
      (pss_one (ps_ret (pe_tup (pa_cons (pe_tup (pa_cons (pv 13) (pa_cons (pe_callTy call_tupL (by rfl) T.n_tuple (by decide +kernel) (pa_cons (pe_lc (own := [("child", 14)]) (g := (gName 14)) (tt := tYes) (by rfl) sc__law_node.nd (pi_list (pv 7)) (blkOk_by (own := [("child", 14)]) (N := ["d", "goods", "time", "last", "wild", "many", "k", "children", "weights", "mids", "good", "mid", "total", "prices", "child"]) (sc := defScope s__law_node) (by decide +kernel)) (fun _ _ _ _ _ => (pg_name (i := 14) sc__law_node.nd rfl (Or.inl rfl))) (fun _ _ _ _ _ => pts_nil) (fun _ _ _ _ _ => (pe_ix (r := rIxT K) ix_tup (pv 14) pe_int (fun _ _ => rfl)))) pa_nil)) pa_nil))) (pa_cons (pv 9) pa_nil))))))))))), ?_⟩
    -- many
    refine ⟨fun σ' H1 => ∃ mm : Nat, σ' = [some (.ref pd), some (.int g), some (.int t), some (.int (t + m)), some (.bl wild), some (.int (mm : Int)), none, none, none, none, none, none, none, none, none] ∧ Xt pd H H1 ∧ Dst H1 pd ps ∧ mm ≤ 3 ∧ (m = 0 → mm = 0) ∧ (m ≠ 0 → 0 < mm), ?_, ?_⟩
    · refine ⟨_, rfl, _, rfl, rfl, _, rfl, ite2 (fun e => ?_) (fun e => ?_)⟩
      · have e0 : t = t + m := V.int.inj (of_decide_eq_true e)
        exact ⟨0, rfl, Xt.refl H, D0, by decide, fun _ => rfl, fun z => (z (by omega)).elim⟩
      · have e0 : m ≠ 0 := fun z => e (by rw [z]; exact decide_eq_true (by simp))
        have b3 : Bd 8000 3 := Bd.mono (k := 2) (by unfold Bd; decide) (by decide)
        have b2 : Bd 8000 2 := Bd.mono (k := 2) (by unfold Bd; decide) (by decide)
        refine ⟨_, rfl, _, rfl, rfl, _, rfl, ite2 (fun e2 => ?_) (fun e2 => ?_)⟩
        · refine ⟨pd, ps, 3, rfl, D0, by decide, b3, fun r H1 x1 D1 r0 r1 => ⟨_, _, rfl, rfl, 1 + r.toNat, ?_, x1, D1, by omega, fun z => (e0 z).elim, fun _ => by omega⟩⟩
          have : ((1 + r.toNat : Nat) : Int) = 1 + r := by omega
          rw [this]
          rfl
        · refine ⟨pd, ps, 2, rfl, D0, by decide, b2, fun r H1 x1 D1 r0 r1 => ⟨_, _, rfl, rfl, 1 + r.toNat, ?_, x1, D1, by omega, fun z => (e0 z).elim, fun _ => by omega⟩⟩
          have : ((1 + r.toNat : Nat) : Int) = 1 + r := by omega
          rw [this]
          rfl
    · rintro σ' H1 ⟨mm, rfl, x1, D1, mm3, mz, mp⟩
      -- children
      refine ⟨_, rfl, (mm : Int), rfl, by omega, by omega, fun Dc hDc => lc_range (lo := 0) (n := (mm : Int).toNat) (fun i H' => ∃ (xs : List V) (cs : List (Node × List (Int × Int))), Xt pd H1 H' ∧ Dst H' pd ps ∧ H' Dc = some (.lst xs) ∧ All2 (ChildP K [pd, Dc] H') xs cs ∧ cs.length = i ∧ ∀ c ∈ cs, ∃ m', m = m' + 1 ∧ NV g m' c.1 ∧ MsOk g m' c.2) ?_ ?_ ?_⟩
      · exact ⟨[], [], Xt.of (same_new hDc), D1.same (same_new hDc), upd_same, .nil, rfl, fun c hc => by cases hc⟩
      · rintro i H' hi ⟨xs, cs, xc, Dd, hxs, ac, lc, pc⟩
        refine ⟨rfl, ?_⟩
        dsimp only [tYes]
        rw [if_pos rfl]
        obtain ⟨m', rfl⟩ : ∃ m', m = m' + 1 := by
          cases m with
          | zero =>
            have := mz rfl
            omega
          | succ m' => exact ⟨m', rfl⟩
        have dn : Dc ≠ pd := (D1.fresh hDc).1
        have ds' : Dc ≠ ps := (D1.fresh hDc).2
        refine ⟨_, rfl, _, rfl, _, rfl, _, _, rfl, rfl, _, rfl, _, rfl, ?_⟩
        refine ⟨pd, ps, g, t + 1, wild, ?_, Dd, g1, g4, fun H2 a vn pm ys n ms x2 D2 ha dvn hpm dms npm nv mo => ?_⟩
        · have : t + ((m' + 1 : Nat) : Int) = t + 1 + (m' : Int) := by omega
          rw [this]
          rfl
        have hxs2 := x2 _ _ dn hxs
        have e1 : pm ≠ pd := fun z => by
          obtain ⟨ys, hy⟩ := Dd.lst
          rw [z, hy] at npm
          cases npm
        have e2 : pm ≠ Dc := fun z => by
          rw [z, hxs] at npm
          cases npm
        have il2 : IsL H2 Dc := ⟨_, hxs2⟩
        have xu : Xt Dc H2 (upd H2 Dc (.lst (xs ++ [.ref a]))) := Xt.upd
        refine ⟨xs, hxs2, ?_, xs ++ [.ref a], cs ++ [(n, ms)], xt_mut (xc.trans x2) hDc, D2.xt dn ds' xu, upd_same, ?_, by simp [lc], fun c hc => ?_⟩
        · rw [ac.1, lc]
          exact small1000 (by omega)
        · refine All2.snoc (ac.imp fun x c h => (h.xt (by simp) Dd.isL x2).xt (by simp) il2 xu) ?_
          refine ChildP.xt (p := Dc) ⟨a, vn, pm, ys, rfl, ha, dvn, hpm, dms, fun x hx => ?_⟩ (by simp) il2 xu
          rcases List.mem_cons.mp hx with rfl | hx
          · exact e1
          · rw [List.mem_singleton.mp hx]
            exact e2
        · rcases List.mem_append.mp hc with hc | hc
          · exact pc c hc
          · rw [List.mem_singleton.mp hc]
            exact ⟨m', rfl, nv, mo⟩
      · rintro H2 ⟨xs, cs, x2, D2, hxs, ac, lc, pc⟩
        have lcm : cs.length = mm := by omega
        have dn : Dc ≠ pd := (D1.fresh hDc).1
        -- weights
        refine ⟨_, rfl, (mm : Int), rfl, by omega, by omega, fun Dw hDw => lc_range (lo := 0) (n := (mm : Int).toNat) (fun i H' => ∃ (ws : List Int), Xt pd H2 H' ∧ Dst H' pd ps ∧ H' Dw = some (.lst (ws.map V.int)) ∧ ws.length = i ∧ ∀ x ∈ ws, 1 ≤ x ∧ x ≤ 3) ?_ ?_ ?_⟩
        · exact ⟨[], Xt.of (same_new hDw), D2.same (same_new hDw), upd_same, rfl, fun x hx => by cases hx⟩
        · rintro i H' hi ⟨ws, xc, Dd, hws, lw, pw⟩
          have wn := D2.fresh hDw
          refine ⟨rfl, ?_⟩
          dsimp only [tYes]
          rw [if_pos rfl]
          refine ⟨_, rfl, pd, ps, 3, rfl, Dd, by decide, Bd.mono (k := 2) (by unfold Bd; decide) (by decide), fun r H3 x3 D3 r0 r1 => ⟨_, _, rfl, rfl, ?_⟩⟩
          have hws3 := x3 _ _ wn.1 hws
          refine ⟨_, hws3, ?_, ws ++ [1 + r], xt_mut (xc.trans x3) hDw, D3.xt wn.1 wn.2 Xt.upd, ?_, by simp [lw], fun x hx => ?_⟩
          · rw [List.length_map, lw]
            exact small1000 (by omega)
          · rw [upd_same, List.map_append]
            rfl
          · rcases List.mem_append.mp hx with hx | hx
            · exact pw x hx
            · rw [List.mem_singleton.mp hx]
              omega
        · rintro H3 ⟨ws, x3, D3, hws, lw, pw⟩
          have lwm : ws.length = mm := by omega
          have wn := D2.fresh hDw
          have hxs3 := x3 _ _ dn hxs
          have ac3 := ac.imp fun x c h => h.xt (by simp) D2.isL x3
          -- mids
          refine ⟨Nat.zero_le _, fun Dm hDm => ?_⟩
          have mn := D3.fresh hDm
          refine ⟨_, rfl, _, _, rfl, rfl, _, rfl, by omega, by omega, for_range (lo := 0) (n := (g - 1).toNat) (fun i σ H' => ∃ (y6 y10 y11 y12 : Option V) (ms : List (Int × Int)) (xm : List V), σ = [some (.ref pd), some (.int g), some (.int t), some (.int (t + m)), some (.bl wild), some (.int (mm : Int)), y6, some (.ref Dc), some (.ref Dw), some (.ref Dm), y10, y11, y12, none, none] ∧ Xt pd H3 H' ∧ Dst H' pd ps ∧ H' Dm = some (.lst xm) ∧ DTs K H' xm (ms.map frD) ∧ ms.length = i ∧ ∀ q ∈ ms, Ok (kb m) q ∧ 0 ≤ q.1) ?_ ?_ ?_⟩
          · exact ⟨_, _, _, _, [], [], rfl, Xt.of (same_new hDm), D3.same (same_new hDm), upd_same, .nil, rfl, fun q hq => by cases hq⟩
          · rintro i σ H4 hi ⟨y6, y10, y11, y12, ms, xm, rfl, x4, D4, hxm, dxm, lm, pm⟩
            have b9 : Bd 8000 9 := Bd.mono (k := 4) (by unfold Bd; decide) (by decide)
            have b2 : Bd 8000 2 := Bd.mono (k := 2) (by unfold Bd; decide) (by decide)
            refine ⟨_, rfl, pd, ps, 9, rfl, D4, by decide, b9, fun a H5 x5 D5 a0 a1 => ⟨_, rfl, pd, ps, 2, rfl, D5, by decide, b2, fun b H6 x6 D6 b0 b1 => ⟨_, _, rfl, rfl, a, 1 + b, rfl, by omega, ?_, fun v H7 s7 dv => ?_⟩⟩⟩
            · refine Bd.mono (k := 2) ?_ (by decide)
              unfold Bd
              show (1 + b).natAbs < 4
              omega
            have okm : Ok 4 (frac a (1 + b)) := frac_ok (by omega) (by unfold Bd; show a.natAbs < 16; omega) (by unfold Bd; show (1 + b).natAbs < 16; omega)
            have nnm : 0 ≤ (frac a (1 + b)).1 := frac_nonneg a0 (by omega)
            have x37 : Xt pd H3 H7 := ((x4.trans x5).trans x6).trans (Xt.of s7)
            have D7 := D6.same s7
            have hxm7 : H7 Dm = some (.lst xm) := s7 _ _ (x6 _ _ mn.1 (x5 _ _ mn.1 hxm))
            have dxm7 := ((dxm.xt D4.isL x5).xt D5.isL x6).same s7
            -- the mean
            refine ⟨fun σ' H8 => ∃ (vm : V) (q : Int × Int) (y6 y12 : Option V), σ' = [some (.ref pd), some (.int g), some (.int t), some (.int (t + m)), some (.bl wild), some (.int (mm : Int)), y6, some (.ref Dc), some (.ref Dw), some (.ref Dm), some (.int (0 + (i : Int))), some vm, y12, none, none] ∧ Same H7 H8 ∧ DT K H8 vm (frD q) ∧ Ok (kb m) q ∧ 0 ≤ q.1, ?_, ?_⟩
            · have skip : ∃ (vm : V) (q : Int × Int) (y6' y12' : Option V), ([some (.ref pd), some (.int g), some (.int t), some (.int (t + m)), some (.bl wild), some (.int (mm : Int)), y6, some (.ref Dc), some (.ref Dw), some (.ref Dm), some (.int (0 + (i : Int))), some v, y12, none, none] : List (Option V)) = [some (.ref pd), some (.int g), some (.int t), some (.int (t + m)), some (.bl wild), some (.int (mm : Int)), y6', some (.ref Dc), some (.ref Dw), some (.ref Dm), some (.int (0 + (i : Int))), some vm, y12', none, none] ∧ Same H7 H7 ∧ DT K H7 vm (frD q) ∧ Ok (kb m) q ∧ 0 ≤ q.1 := ⟨v, _, _, _, rfl, Same.refl _, dv, okm.mono (kb_ge m), nnm⟩
              refine ⟨_, rfl, _, _, rfl, rfl, _, rfl, ite2 (fun e1 => ?_) (fun e1 => iteF skip)⟩
              have mpos : 0 < mm := by
                have : (0 : Int) < (mm : Int) := of_decide_eq_true e1
                omega
              obtain ⟨m', rfl⟩ : ∃ m', m = m' + 1 := by
                cases m with
                | zero =>
                  have := mz rfl
                  omega
                | succ m' => exact ⟨m', rfl⟩
              refine ⟨_, rfl, wild, rfl, ?_⟩
              cases wild with
              | true => exact iteF skip
              | false =>
                refine iteT ?_
                refine ⟨two_le, fun pz hz => ?_⟩
                have s8 := same_new (o := .tup [.int 0, .int 1]) hz
                have hxs7 := x37 _ _ dn hxs3
                have hws7 := x37 _ _ wn.1 hws
                have ac7 := ac3.imp fun x c h => h.xt (by simp) D3.isL x37
                have kl := kb_le hm
                have kl' : 3 * kb m' + 14 ≤ 92 := kl
                refine ⟨_, rfl, (mm : Int), rfl, by omega, by omega, for_range (lo := 0) (n := (mm : Int).toNat) (fun j σ H' => ∃ (vt : V) (q : Int × Int) (y6 : Option V), σ = [some (.ref pd), some (.int g), some (.int t), some (.int (t + (m' + 1 : Nat))), some (.bl false), some (.int (mm : Int)), y6, some (.ref Dc), some (.ref Dw), some (.ref Dm), some (.int (0 + (i : Int))), some v, some vt, none, none] ∧ Same H7 H' ∧ DT K H' vt (frD q) ∧ Ok (1 + j * (kb m' + 3)) q ∧ 0 ≤ q.1) ?_ ?_ ?_⟩
                · exact ⟨_, (0, 1), _, rfl, s8, DT.fr (Tp.of upd_same), ok_zero.mono (by omega), by decide⟩
                · rintro j σ H8 hj ⟨vt, q, y6', rfl, s78, dvt, oq, nq⟩
                  have jm : j < mm := by omega
                  have jc : cs[j]? = some cs[j] := List.getElem?_eq_getElem (by omega)
                  obtain ⟨xj, hxj, cp⟩ := ac7.at_ jc
                  obtain ⟨ca, cvn, cpm, cxs, rfl, hca, dcvn, hcpm, dcms, _⟩ := cp
                  obtain ⟨m2, em, nvc, moc⟩ := pc _ (List.mem_of_getElem? jc)
                  have em2 : m' = m2 := by omega
                  subst em2
                  have il : i < cs[j].2.length := by
                    have := moc.len
                    omega
                  have hq : cs[j].2[i]? = some cs[j].2[i] := List.getElem?_eq_getElem il
                  obtain ⟨xq, hxq, dxq⟩ := dcms.at_ (i := i) (d := frD cs[j].2[i]) (by rw [List.getElem?_map, hq]; rfl)
                  have okq := moc.ok _ (List.mem_of_getElem? hq)
                  have jw : ws[j]? = some ws[j] := List.getElem?_eq_getElem (by omega)
                  have pwj := pw _ (List.mem_of_getElem? jw)
                  have hw7 : (ws.map V.int)[j]? = some (.int ws[j]) := by
                    rw [List.getElem?_map, jw]
                    rfl
                  have e0 : ((0 : Int) + (j : Int)) = (j : Int) := Int.zero_add _
                  have e0i : ((0 : Int) + (i : Int)) = (i : Int) := Int.zero_add _
                  refine ⟨_, rfl, _, rfl, _, rfl, _, _, _, _, rfl, rfl, SqL.of (s78 _ _ hxs7), by rw [e0]; exact atI_nat hxj, _, _, _, _, rfl, rfl, (tp_same s78 hca).sq, atI_nat (j := 1) rfl, _, rfl, _, _, _, _, rfl, rfl, SqL.of (s78 _ _ hcpm), by rw [e0i]; exact atI_nat hxq, ?_⟩
                  refine ⟨_, rfl, _, rfl, _, _, _, _, rfl, rfl, SqL.of (s78 _ _ hws7), by rw [e0]; exact atI_nat hw7, two_le, fun pw1 hw1 => ?_⟩
                  have s9 := same_new (o := .tup [.int ws[j], .int 1]) hw1
                  refine ⟨_, _, cs[j].2[i], (ws[j], 1), 200, rfl, (dxq.same s78).same s9, DT.fr (Tp.of upd_same), okq.1.mono (by omega), (ok_wt pwj.1 pwj.2).mono (by decide), by decide, fun v1 H9 s10 dv1 => ?_⟩
                  have ok1 : Ok (kb m' + 2) (mulF cs[j].2[i] (ws[j], 1)) := mulF_ok okq.1 (ok_wt pwj.1 pwj.2) (Nat.le_refl _)
                  have nn1 : 0 ≤ (mulF cs[j].2[i] (ws[j], 1)).1 := mulF_nn okq.2 (by show 0 ≤ ws[j]; omega) okq.1.pos (by show (0 : Int) < 1; decide)
                  have jb : j * (kb m' + 3) ≤ 2 * (kb m' + 3) := Nat.mul_le_mul_right _ (by omega)
                  refine ⟨_, _, q, mulF cs[j].2[i] (ws[j], 1), 500, rfl, (dvt.same s9).same s10, dv1, oq.mono (by omega), ok1.mono (by omega), by decide, fun v2 H10 s11 dv2 => ?_⟩
                  refine ⟨v2, _, _, rfl, ((s78.trans s9).trans s10).trans s11, dv2, addF_ok oq ok1 ?_, addF_nn nq nn1 oq.pos ok1.pos⟩
                  rw [Nat.add_mul]
                  omega
                · rintro σ H8 ⟨vt, q, y6', rfl, s78, dvt, oq, nq⟩
                  obtain ⟨b1, b2⟩ := sum_bd ws pw
                  have hs0 : 0 < ws.sum := by omega
                  have hs9 : ws.sum ≤ 9 := by omega
                  have os : Ok 4 (1, ws.sum) := ⟨frac_one_low hs0, (by unfold Bd; show (1 : Int).natAbs < 16; decide), (by unfold Bd; show ws.sum.natAbs < 16; omega)⟩
                  have jb : (mm : Int).toNat * (kb m' + 3) ≤ 3 * (kb m' + 3) := Nat.mul_le_mul_right _ (by omega)
                  refine ⟨_, rfl, _, rfl, Dw, ws, rfl, SqL.of (s78 _ _ hws7), two_le, fun ps1 hs1 => ?_⟩
                  have s9 := same_new (o := .tup [.int 1, .int ws.sum]) hs1
                  refine ⟨_, _, q, (1, ws.sum), 500, rfl, dvt.same s9, DT.fr (Tp.of upd_same), oq.mono (by omega), os.mono (by decide), by decide, fun v1 H9 s10 dv1 => ?_⟩
                  refine ⟨v1, _, _, _, rfl, (s78.trans s9).trans s10, dv1, mulF_ok oq os ?_, mulF_nn nq (by show (0 : Int) ≤ 1; decide) oq.pos hs0⟩
                  show _ ≤ 3 * kb m' + 14
                  omega
            · rintro σ' H8 ⟨vm, q, y6', y12', rfl, s78, dvm, oq, nq⟩
              have hxm8 := s78 _ _ hxm7
              have il8 : IsL H8 Dm := ⟨_, hxm8⟩
              have xu : Xt Dm H8 (upd H8 Dm (.lst (xm ++ [vm]))) := Xt.upd
              refine ⟨_, rfl, .inl ⟨rfl, _, SqL.of hxm8⟩, _, rfl, _, _, _, rfl, rfl, hxm8, ?_, ?_⟩
              · rw [dxm.len, List.length_map, lm]
                exact small1000 (by omega)
              · refine ⟨_, _, _, _, ms ++ [q], xm ++ [vm], rfl, xt_mut (x37.trans (Xt.of s78)) hDm, (D7.same s78).xt mn.1 mn.2 xu, upd_same, ?_, by simp [lm], fun z hz => ?_⟩
                · rw [List.map_append]
                  exact ((dxm7.same s78).xt il8 xu).snoc (dvm.xt il8 xu)
                · rcases List.mem_append.mp hz with hz | hz
                  · exact pm z hz
                  · rw [List.mem_singleton.mp hz]
                    exact ⟨oq, nq⟩
          · rintro σ H4 ⟨y6, y10, y11, y12, ms, xm, rfl, x4, D4, hxm, dxm, lm, pm⟩
            have mo : MsOk g m ms := ⟨by omega, pm⟩
            have kl := kb_le hm
            have lxm : xm.length = ms.length := by rw [dxm.len, List.length_map]
            -- prices
            refine ⟨_, rfl, Dm, rfl, ⟨_, SqL.of hxm⟩, fun Dp hDp => lc_list (K := K) (a := Dm) (xs := xm) (fun i H' => ∃ (prs : List Pr) (o : List V), Xt pd H4 H' ∧ Dst H' pd ps ∧ H' Dp = some (.lst o) ∧ DTs K H' o (prs.map prD) ∧ prs.length = i ∧ ∀ p ∈ prs, ¬ badPr p ∧ PrK 201 p) ?_ ?_ ?_ ?_⟩
            · exact ⟨[], [], Xt.of (same_new hDp), D4.same (same_new hDp), upd_same, .nil, rfl, fun p hp => by cases hp⟩
            · rintro i H' _ ⟨_, _, xc, _⟩
              exact SqL.of (xc _ _ mn.1 hxm)
            · rintro i x H' hi ⟨prs, o, xc, Dd, hO, dO, lp, pp⟩
              have pn := D4.fresh hDp
              obtain ⟨d, hd, dx⟩ := dxm.get hi
              rw [List.getElem?_map] at hd
              obtain ⟨q, hq, rfl⟩ := Option.map_eq_some_iff.mp hd
              have oq := pm q (List.mem_of_getElem? hq)
              refine ⟨rfl, ?_⟩
              dsimp only [tYes]
              rw [if_pos rfl]
              refine ⟨_, rfl, _, rfl, pd, ps, x, q, rfl, Dd, dx.xt D4.isL xc, oq.1.mono (by omega), oq.2, fun v' pr H5 x5 D5 dv' nb pb => ?_⟩
              have hO5 := x5 _ _ pn.1 hO
              have il5 : IsL H5 Dp := ⟨_, hO5⟩
              have xu : Xt Dp H5 (upd H5 Dp (.lst (o ++ [v']))) := Xt.upd
              refine ⟨o, hO5, ?_, prs ++ [pr], o ++ [v'], xt_mut (xc.trans x5) hDp, D5.xt pn.1 pn.2 xu, upd_same, ?_, by simp [lp], fun z hz => ?_⟩
              · rw [dO.len, List.length_map, lp]
                have := (List.getElem?_eq_some_iff.mp hq).1
                exact small1000 (by omega)
              · rw [List.map_append]
                exact ((dO.xt Dd.isL x5).xt il5 xu).snoc (dv'.xt il5 xu)
              · rcases List.mem_append.mp hz with hz | hz
                · exact pp z hz
                · rw [List.mem_singleton.mp hz]
                  exact ⟨nb, pb⟩
            · rintro H5 ⟨prs, o, x5, D5, hO, dO, lp, pp⟩
              refine ⟨_, _, rfl, SqL.of hO, fun pt hpt => ?_⟩
              have s6 := same_new (o := .tup o) hpt
              have pso : PsOk g prs := ⟨by have := mo.len; omega, fun p hp => (pp p hp).1, fun p hp => (pp p hp).2⟩
              have x36 : Xt pd H3 _ := (x4.trans x5).trans (Xt.of s6)
              have D6 := D5.same s6
              have dP : DT K _ (.ref pt) (pricesD prs) := .tup (Tp.of upd_same) (dO.same s6)
              have hxs6 := x36 _ _ dn hxs3
              have ac6 := ac3.imp fun x c h => h.xt (by simp) D3.isL x36
              have hxm6 := s6 _ _ (x5 _ _ mn.1 hxm)
              have dxm6 := (dxm.xt D4.isL x5).same s6
              generalize (upd H5 pt (.tup o)) = H6 at *
              -- the children's nodes
              refine ⟨_, rfl, _, rfl, Dc, rfl, ⟨_, SqL.of hxs6⟩, fun De hDe => lc_list (K := K) (a := Dc) (xs := xs) (fun i H' => ∃ o2, Same H6 H' ∧ H' De = some (.lst o2) ∧ DTs K H' o2 (((cs.take i).map (·.1)).map nodeD)) ⟨[], same_new hDe, upd_same, .nil⟩ (fun i H' _ ⟨_, sm, _⟩ => SqL.of (sm _ _ hxs6)) ?_ ?_⟩
              · rintro i x H' hi ⟨o2, sm, hO2, dO2⟩
                obtain ⟨c, hc, cp⟩ := ac6.2 i x hi
                obtain ⟨ca, cvn, cpm, cxs, rfl, hca, dcvn, _⟩ := cp
                refine ⟨rfl, ?_⟩
                dsimp only [tYes]
                rw [if_pos rfl]
                have iD : IsL H' De := ⟨_, hO2⟩
                refine ⟨_, rfl, _, _, _, _, rfl, rfl, (tp_same sm hca).sq, atI_nat (j := 0) rfl, o2, hO2, ?_, _, same_mut sm hDe, upd_same, ?_⟩
                · rw [dO2.len, List.length_map, List.length_map]
                  refine Nat.lt_of_le_of_lt (List.length_take_le' _ _) (small1000 (by omega))
                · rw [take_next hc, List.map_append, List.map_append]
                  exact (dO2.xt iD Xt.upd).snoc ((dcvn.same sm).xt iD Xt.upd)
              · rintro H7 ⟨o2, s7, hO2, dO2⟩
                rw [ac6.1, List.take_length] at dO2
                refine ⟨_, _, rfl, SqL.of hO2, fun pk hpk => ⟨two_le, fun pn hpn => ⟨_, rfl, two_le, fun pr hpr => ?_⟩⟩⟩
                have s8 := same_new (o := .tup o2) hpk
                have s9 := same_new (o := .tup [.ref pt, .ref pk]) hpn
                have s10 := same_new (o := .tup [.ref pn, .ref Dm]) hpr
                have sA := ((s7.trans s8).trans s9).trans s10
                have xA : Xt pd H (upd (upd (upd H7 pk (.tup o2)) pn (.tup [.ref pt, .ref pk])) pr (.tup [.ref pn, .ref Dm])) := (((x1.trans x2).trans x3).trans x36).trans (Xt.of sA)
                have dK : DT K _ (.ref pk) (.tuple ((cs.map (·.1)).map nodeD)) := .tup (Tp.of (s10 _ _ (s9 _ _ upd_same))) ((((dO2.same s8).same s9)).same s10)
                have dN : DT K (upd (upd (upd H7 pk (.tup o2)) pn (.tup [.ref pt, .ref pk])) pr (.tup [.ref pn, .ref Dm])) (.ref pn) (nodeD (.mk prs (cs.map (·.1)))) := by
                  rw [nodeD_eq]
                  exact .mk2 (Tp.of (s10 _ _ upd_same)) (dP.same sA) dK
                refine fin _ pr (.ref pn) Dm xm (.mk prs (cs.map (·.1))) ms xA (D6.same sA) (Tp.of upd_same) dN (sA _ _ hxm6) (dxm6.same sA) ?_ ?_ mo
                · have f3 : H3 Dm = none := hDm
                  have f2 := xt_free x3 mn.1 f3
                  have f1 := xt_free x2 mn.1 f2
                  exact xt_free x1 mn.1 f1
                · cases m with
                  | zero =>
                    refine ⟨pso, ?_⟩
                    have : cs = [] := List.eq_nil_of_length_eq_zero (by rw [lcm]; exact mz rfl)
                    rw [this]
                    rfl
                  | succ m' =>
                    refine ⟨pso, ?_, ?_, fun k hk => ?_⟩
                    · show 0 < (cs.map (·.1)).length
                      rw [List.length_map, lcm]
                      exact mp (by omega)
                    · show (cs.map (·.1)).length ≤ 3
                      rw [List.length_map, lcm]
                      exact mm3
                    · obtain ⟨c, hc, rfl⟩ := List.mem_map.mp hk
                      obtain ⟨m2, em, nv, _⟩ := pc c hc
                      have : m' = m2 := by omega
                      subst this
                      exact nv
def sp_nodeA (K : PySem.W.Frag) : Sp := fun vs H Q E => ∃ m : Nat, m ≤ 2 ∧ sp_node K m vs H Q E
theorem ok__law_node (T : Top K mg) : FnOk P w K mg base CX0 7 T.a__law_node T.d__law_node ["d", "goods", "time", "last", "wild"] (sp_nodeA K) := by
  have z : FnOk P w K mg base CX0 4 T.a__law_node T.d__law_node ["d", "goods", "time", "last", "wild"] (spPrev K 0) := ⟨fun _ _ _ _ h => h.elim, fun _ _ _ _ _ _ _ _ _ _ _ _ _ h => h.elim⟩
  have f0 := node_step T (k := 4) (m := 0) (by decide) (by decide) z
  have f1 := node_step T (k := 5) (m := 1) (by decide) (by decide) f0
  have f2 := node_step T (k := 6) (m := 2) (by decide) (by decide) f1
  refine ⟨fun vs H Q E h => ?_, fun A outer s H args us vs Q E hr e0 hb hv h => ?_⟩
  · obtain ⟨m, _, _, _, _, _, _, rfl, _⟩ := h
    rfl
  · obtain ⟨m, hm, h⟩ := h
    match m, hm, h with
    | 0, _, h => exact (f0.mono (by decide)).run A outer s H args us vs Q E hr e0 hb hv h
    | 1, _, h => exact (f1.mono (by decide)).run A outer s H args us vs Q E hr e0 hb hv h
    | 2, _, h => exact f2.run A outer s H args us vs Q E hr e0 hb hv h
def sp_market (K : PySem.W.Frag) : Sp := fun vs H Q _ => ∃ pd ps : Addr, vs = [.ref pd, .int 4] ∧ Dst H pd ps ∧ ∀ v g n m H', Xt pd H H' → Dst H' pd ps → DT K H' v (marketD g n) → 1 ≤ g → g ≤ 4 → m ≤ 2 → NV g m n → Q v H'
theorem ok__law_market (T : Top K mg) : FnOk P w K mg base CX0 8 T.a__law_market T.d__law_market ["d", "most"] (sp_market K) := by
  refine T._law_market_F.ok sc__law_market (fun vs H Q E h => ?_) (fun cdv A outer s H vs Q E hr h => ?_)
  · obtain ⟨_, _, rfl, _⟩ := h
    rfl
  · obtain ⟨pd, ps, rfl, D, fin⟩ := h
    have b5 : ∀ {x : Int}, 0 ≤ x → x ≤ 7 → Bd 8000 x := fun h0 h1 => Bd.mono (k := 3) (by unfold Bd; omega) (by decide)
    refine ⟨_, (pss_cons (ps_set (i := 2) sc__law_market.nd rfl (Or.inl rfl) (pe_op op_add pe_int (pe_call (ok__law_take T) (hr.mono (by decide : 1 ≤ 7)) (by rfl) T.g__law_take T._law_take_F.kp T._law_take_b .nil pass0 (pa_cons (pv 0) (pa_cons (pv 1) pa_nil)))))
      (Evl.pss_cut (ps_if (PW.pt (pw_and (pt_cmpR op_eq (pv 2) pe_int (nomark _)) (pw_and1 (pt_cmpR op_gt (pe_call (ok__law_take T) (hr.mono (by decide : 1 ≤ 7)) (by rfl) T.g__law_take T._law_take_F.kp T._law_take_b .nil pass0 (pa_cons (pv 0) (pa_cons pe_int pa_nil))) pe_int (nomark _))))) (pss_one (ps_set (i := 2) sc__law_market.nd rfl (Or.inl rfl) pe_int)) pss_nil)
      (pss_cons (ps_set (i := 3) sc__law_market.nd rfl (Or.inl rfl) (pe_cmpR op_eq (pe_call (ok__law_take T) (hr.mono (by decide : 1 ≤ 7)) (by rfl) T.g__law_take T._law_take_F.kp T._law_take_b .nil pass0 (pa_cons (pv 0) (pa_cons pe_int pa_nil))) pe_int (nomark _)))
      (pss_one (ps_ret (pe_tup (pa_cons (pv 2) (pa_cons (pe_ix ix_tup (pe_call (ok__law_node T) (hr.mono (by decide : 7 ≤ 7)) (by rfl) T.g__law_node T._law_node_F.kp T._law_node_b .nil pass0 (pa_cons (pv 0) (pa_cons (pv 2) (pa_cons pe_int (pa_cons (pe_call (ok__law_take T) (hr.mono (by decide : 1 ≤ 7)) (by rfl) T.g__law_take T._law_take_F.kp T._law_take_b .nil pass0 (pa_cons (pv 0) (pa_cons pe_int pa_nil))) (pa_cons (pv 3) pa_nil)))))) pe_int (fun _ _ => rfl)) pa_nil)))))))), ?_⟩
    refine ⟨_, rfl, _, rfl, pd, ps, 4, rfl, D, by decide, b5 (by decide) (by decide), fun r H1 x1 D1 r0 r1 => ⟨_, _, rfl, rfl, ?_⟩⟩
    refine ⟨fun σ' H2 => ∃ g : Int, σ' = [some (.ref pd), some (.int 4), some (.int g), none] ∧ Xt pd H H2 ∧ Dst H2 pd ps ∧ 1 ≤ g ∧ g ≤ 4, ?_, ?_⟩
    · refine ⟨_, rfl, rfl, _, rfl, ite2 (fun e => ?_) (fun e => iteF ⟨1 + r, rfl, x1, D1, by omega, by omega⟩)⟩
      refine ⟨_, rfl, pd, ps, 3, rfl, D1, by decide, b5 (by decide) (by decide), fun q H2 x2 D2 q0 q1 => ⟨_, _, rfl, rfl, _, rfl, ite2 (fun e2 => ?_) (fun e2 => ?_)⟩⟩
      · exact ⟨2, rfl, x1.trans x2, D2, by decide, by decide⟩
      · exact ⟨1 + r, rfl, x1.trans x2, D2, by omega, by omega⟩
    · rintro σ' H2 ⟨g, rfl, x2, D2, g1, g4⟩
      refine ⟨_, rfl, pd, ps, 5, rfl, D2, by decide, b5 (by decide) (by decide), fun q H3 x3 D3 q0 q1 => ⟨rfl, ?_⟩⟩
      refine ⟨_, rfl, _, rfl, _, rfl, _, rfl, pd, ps, 3, rfl, D3, by decide, b5 (by decide) (by decide), fun l H4 x4 D4 l0 l1 => ?_⟩
      refine ⟨_, rfl, l.toNat, by omega, pd, ps, g, 0, decide (V.int q = V.int 1), ?_, D4, g1, g4, fun H5 a vn pm xs n ms x5 D5 ha dvn _ _ _ nv _ => ?_⟩
      · have : (0 : Int) + (l.toNat : Int) = l := by omega
        rw [this]
        rfl
      · refine ⟨_, _, _, _, rfl, rfl, ha.sq, atI_nat (j := 0) rfl, two_le, fun pt hpt => ?_⟩
        have s6 := same_new (o := .tup [.int g, vn]) hpt
        exact fin _ g n l.toNat _ ((((x2.trans x3).trans x4).trans x5).trans (Xt.of s6)) (D5.same s6) (.mk2 (Tp.of upd_same) (.int g) (dvn.same s6)) g1 g4 (by omega) nv
end
end Nl

namespace Nl
open PySem PySem.Spec PyProof.Rows L2
section
variable {P : Program} {w : World} {K : PySem.W.Frag} {mg : Str → Option Value} {base : Heap}
def sp_find (K : PySem.W.Frag) : Sp := fun vs H Q _ => ∃ (v va : V) (g : Int) (n : Node) (p : List Int), vs = [v, va] ∧ DT K H v (marketD g n) ∧ DT K H va (pathD p) ∧ (find n p = none → Q .non H) ∧ (∀ m, find n p = some m → ∀ v', DT K H v' (nodeD m) → Q v' H)
theorem ok__law_find (T : Top K mg) : FnOk P w K mg base CX0 1 T.a__law_find T.d__law_find ["market", "path"] (sp_find K) := by
  refine T._law_find_F.ok sc__law_find (fun vs H Q E h => ?_) (fun cdv A outer s H vs Q E hr h => ?_)
  · obtain ⟨_, _, _, _, _, rfl, _⟩ := h
    rfl
  · obtain ⟨_, _, g, n, p, rfl, dm, dp, kN, kQ⟩ := h
    obtain ⟨m, vn, rfl, hm, dn⟩ := dm.market_inv
    obtain ⟨a, rfl, ha⟩ := dp.path_inv
    refine ⟨_, (pss_cons (ps_set (i := 2) sc__law_find.nd rfl (Or.inl rfl) (pe_ix ix_tup (pv 0) pe_int (fun _ _ => rfl)))
      (pss_cons (ps_for PassesOwn.never rfl (pi_tup (pv 1)) (pg_name (i := 3) sc__law_find.nd rfl (Or.inl rfl)) (pss_cons (ps_if (PW.pt (pw_or (pt_cmpR op_lt (pv 3) pe_int (nomark _)) (pw_or1 (pt_cmpR op_ge (pv 3) (pe_callB call_lenT (by rfl) T.n_len (by decide +kernel) (pa_cons (pe_ix ix_tup (pv 2) pe_int (fun _ _ => rfl)) pa_nil)) (nomark _))))) (pss_one (ps_ret pe_non)) pss_nil)
      (pss_one (ps_set (i := 2) sc__law_find.nd rfl (Or.inl rfl) (pe_ix ix_tup (pe_ix ix_tup (pv 2) pe_int (fun _ _ => rfl)) (pv 3) (fun _ _ => rfl))))))
      (pss_one (ps_ret (pv 2))))), ?_⟩
    refine ⟨_, rfl, _, _, _, _, rfl, rfl, hm.sq, atI_nat (j := 1) rfl, ?_⟩
    refine ⟨_, rfl, a, rfl, ⟨_, ha.sq⟩, for_tup (fun i σ H' => ∃ (vn : V) (m' : Node) (y : Option V), σ = [some (.ref m), some (.ref a), some vn, y] ∧ H' = H ∧ DT K H vn (nodeD m') ∧ find n p = find m' (p.drop i)) ⟨vn, n, none, rfl, rfl, dn, rfl⟩ (fun i σ H' _ ⟨_, _, _, _, e, _⟩ => (e ▸ ha).sq) ?_ ?_⟩
    · rintro i x σ H' hi ⟨vn, m', y, rfl, rfl, dk, ef⟩
      rw [List.getElem?_map] at hi
      obtain ⟨j, hj, rfl⟩ := Option.map_eq_some_iff.mp hi
      obtain ⟨c, vq, vc, rfl, hc, dq, dc⟩ := dk.node_inv
      obtain ⟨cc, xk, rfl, hcc, dks⟩ := dc.inv
      have lk : xk.length = m'.ks.length := by rw [dks.len, List.length_map]
      have il := (List.getElem?_eq_some_iff.mp hj).1
      have ed : p.drop i = j :: p.drop (i + 1) := by
        rw [List.drop_eq_getElem_cons il]
        rw [List.getElem?_eq_getElem il] at hj
        rw [Option.some.inj hj]
      have out : ¬ (0 ≤ j ∧ j < (m'.ks.length : Int)) → find n p = none := fun z => by
        rw [ef, ed]
        exact find_out z
      refine ⟨_, rfl, _, _, rfl, rfl, _, rfl, ite2 (fun e1 => iteT (kN (out fun z => ?_))) (fun e1 => ⟨_, rfl, _, rfl, _, _, _, _, rfl, rfl, hc.sq, atI_nat (j := 1) rfl, _, _, rfl, (hcc).sq, _, _, rfl, rfl, _, rfl, ite2 (fun e2 => ?_) (fun e2 => ?_)⟩)⟩
      · have : j < 0 := of_decide_eq_true e1
        omega
      · exact kN (out fun z => by
          have : (xk.length : Int) ≤ j := of_decide_eq_true e2
          omega)
      · have j0 : ¬ j < 0 := fun z => e1 (decide_eq_true z)
        have j1 : ¬ (xk.length : Int) ≤ j := fun z => e2 (decide_eq_true z)
        obtain ⟨jn, rfl⟩ := Int.eq_ofNat_of_zero_le (show 0 ≤ j by omega)
        have hk : m'.ks[jn]? = some m'.ks[jn] := List.getElem?_eq_getElem (by omega)
        obtain ⟨xx, hxx, dxx⟩ := dks.at_ (i := jn) (d := nodeD m'.ks[jn]) (by rw [List.getElem?_map, hk]; rfl)
        refine ⟨_, rfl, _, _, _, _, rfl, rfl, hc.sq, atI_nat (j := 1) rfl, _, rfl, _, _, _, _, rfl, rfl, hcc.sq, atI_nat hxx, xx, _, _, rfl, rfl, dxx, ?_⟩
        rw [ef, ed, find_cons, hk]
        rfl
    · rintro σ H' ⟨vn, m', y, rfl, rfl, dk, ef⟩
      rw [List.length_map, List.drop_length] at ef
      exact ⟨_, rfl, kQ m' ef _ dk⟩
def sp_nodes (K : PySem.W.Frag) : Sp := fun vs H Q _ => ∃ (v : V) (g : Int) (n : Node), vs = [v] ∧ DT K H v (marketD g n) ∧ (pre [] n).length ≤ 200 ∧ (∀ x ∈ pre [] n, x.1.length ≤ 6) ∧ ∀ p xs H', Same H H' → H p = none → H' p = some (.lst xs) → DTs K H' xs ((pre [] n).map entD) → Q (.ref p) H'
theorem ok__law_nodes (T : Top K mg) : FnOk P w K mg base CX0 4 T.a__law_nodes T.d__law_nodes ["market"] (sp_nodes K) := by
  refine T._law_nodes_F.ok sc__law_nodes (fun vs H Q E h => ?_) (fun cdv A outer s H vs Q E hr h => ?_)
  · obtain ⟨_, _, _, rfl, _⟩ := h
    rfl
  · obtain ⟨v, g, n, rfl, dm, hn, h6, fin⟩ := h
    obtain ⟨m, vn, rfl, hm, dn⟩ := id dm.market_inv
    refine ⟨_, (pss_cons (ps_set (i := 1) sc__law_nodes.nd rfl (Or.inl rfl) (pe_lst pa_nil))
      (pss_cons (ps_set (i := 2) sc__law_nodes.nd rfl (Or.inl rfl) (pe_lst (pa_cons (pe_tup (pa_cons (pe_tup pa_nil) (pa_cons (pe_ix ix_tup (pv 0) pe_int (fun _ _ => rfl)) pa_nil))) pa_nil)))
      (pss_cons (ps_for PassesOwn.never rfl (pi_range1 rfl T.n_range (pa_cons pe_int pa_nil)) (pg_name (i := 3) sc__law_nodes.nd rfl (Or.inl rfl)) (pss_cons (ps_set (i := 1) sc__law_nodes.nd rfl (Or.inl rfl) (pe_op op_cat (pv 1) (pv 2)))
      (pss_cons (ps_set (i := 4) sc__law_nodes.nd rfl (Or.inl rfl) (pe_lst pa_nil))
      (pss_cons (ps_for PassesOwn.never rfl (pi_list (pv 2)) (pg_tup rfl (pgs_cons (pg_name (i := 5) sc__law_nodes.nd rfl (Or.inr rfl)) (pgs_cons (pg_name (i := 6) sc__law_nodes.nd rfl (Or.inr rfl)) pgs_nil))) (pss_one (ps_set (i := 4) sc__law_nodes.nd rfl (Or.inl rfl) (pe_op op_cat (pv 4) (pe_lc (own := [("k", 7)]) (g := (gName 7)) (tt := tYes) (by rfl) sc__law_nodes.nd (pi_range1 rfl T.n_range (pa_cons (pe_callB call_lenT (by rfl) T.n_len (by decide +kernel) (pa_cons (pe_ix ix_tup (pv 6) pe_int (fun _ _ => rfl)) pa_nil)) pa_nil)) (blkOk_by (own := [("k", 7)]) (N := ["market", "rows", "level", "turn", "fresh", "path", "node", "k", "row"]) (sc := defScope s__law_nodes) (by decide +kernel)) (fun _ _ _ _ _ => (pg_name (i := 7) sc__law_nodes.nd rfl (Or.inl rfl))) (fun _ _ _ _ _ => pts_nil) (fun _ _ _ _ _ => (pe_tup (pa_cons (pe_op (r := rCatP K) op_catP (pv 5) (pe_tup (pa_cons (pv 7) pa_nil))) (pa_cons (pe_ix (r := rIxT K) ix_tup (pe_ix (r := rIxT K) ix_tup (pv 6) pe_int (fun _ _ => rfl)) (pv 7) (fun _ _ => rfl)) pa_nil)))))))))
      (pss_one (ps_set (i := 2) sc__law_nodes.nd rfl (Or.inl rfl) (pv 4)))))))
      (pss_one (ps_ret (pe_lc (own := [("path", 5)]) (g := (gName 5)) (tt := tYes) (by rfl) sc__law_nodes.nd (pi_list (pe_callB (cr_sortQ (hr.mono (by decide))) (by rfl) T.n_sorted (by decide +kernel) (pa_cons (pe_lc (own := [("row", 8)]) (g := (gName 8)) (tt := tYes) (by rfl) sc__law_nodes.nd (pi_list (pv 1)) (blkOk_by (own := [("row", 8)]) (N := ["market", "rows", "level", "turn", "fresh", "path", "node", "k", "row"]) (sc := defScope s__law_nodes) (by decide +kernel)) (fun _ _ _ _ _ => (pg_name (i := 8) sc__law_nodes.nd rfl (Or.inl rfl))) (fun _ _ _ _ _ => pts_nil) (fun _ _ _ _ _ => (pe_ix (r := rIxT K) ix_tup (pv 8) pe_int (fun _ _ => rfl)))) pa_nil))) (blkOk_by (own := [("path", 5)]) (N := ["market", "rows", "level", "turn", "fresh", "path", "node", "k", "row"]) (sc := defScope s__law_nodes) (by decide +kernel)) (fun _ _ _ _ _ => (pg_name (i := 5) sc__law_nodes.nd rfl (Or.inl rfl))) (fun _ _ _ _ _ => pts_nil) (fun _ _ _ _ _ => (pe_tup (pa_cons (pv 5) (pa_cons (pe_call (ok__law_find T) (hr.mono (by decide : 1 ≤ 3)) (by rfl) T.g__law_find T._law_find_F.kp T._law_find_b .nil pass0 (pa_cons (pv 0) (pa_cons (pv 5) pa_nil))) pa_nil)))))))))), ?_⟩
    refine ⟨Nat.zero_le _, fun pr hpr => ?_⟩
    have s1 := same_new (o := .lst []) hpr
    refine ⟨Nat.zero_le _, fun pe he => ?_⟩
    have s2 := s1.trans (same_new (o := .tup []) he)
    refine ⟨_, rfl, _, _, _, _, rfl, rfl, (tp_same s2 hm).sq, atI_nat (j := 1) rfl, two_le, fun pt ht => ⟨(by decide : 1 ≤ sizeLine), fun pl hl => ?_⟩⟩
    have s3 := s2.trans (same_new (o := .tup [.ref pe, vn]) ht)
    have s4 := s3.trans (same_new (o := .lst [.ref pt]) hl)
    have dE : DT K (upd (upd (upd (upd H pr (.lst [])) pe (.tup [])) pt (.tup [.ref pe, vn])) pl (.lst [.ref pt])) (.ref pt) (entD ([], n)) := by
      refine .mk2 (Tp.of (same_new hl _ _ upd_same)) ?_ (dn.same s4)
      exact DT.path (Tp.of (same_new hl _ _ (same_new ht _ _ upd_same)))
    have hr0 : (upd (upd (upd (upd H pr (.lst [])) pe (.tup [])) pt (.tup [.ref pe, vn])) pl (.lst [.ref pt])) pr = some (.lst []) := same_new hl _ _ (same_new ht _ _ (same_new he _ _ upd_same))
    refine ⟨7, rfl, by decide, by decide, for_range (lo := 0) (n := (7 : Int).toNat) (fun t σ H' => ∃ (pr pl : Addr) (xr xl : List V) (y3 y4 y5 y6 : Option V), σ = [some (.ref m), some (.ref pr), some (.ref pl), y3, y4, y5, y6, none, none] ∧ Same H H' ∧ H' pr = some (.lst xr) ∧ DTs K H' xr ((rowsN n t).map entD) ∧ H' pl = some (.lst xl) ∧ DTs K H' xl ((lv n t).map entD)) ⟨pr, pl, [], [.ref pt], _, _, _, _, rfl, s4, hr0, .nil, upd_same, .cons dE .nil⟩ ?_ ?_⟩
    · rintro t σ H1 ht7 ⟨pr, pl, xr, xl, y3, y4, y5, y6, rfl, sm, hpr, dxr, hpl, dxl⟩
      have lr : xr.length = (rowsN n t).length := by rw [dxr.len, List.length_map]
      have ll : xl.length = (lv n t).length := by rw [dxl.len, List.length_map]
      have b1 := rows_len n t
      have b2 := lv_le n t
      refine ⟨_, rfl, _, rfl, _, _, _, _, rfl, rfl, hpr, hpl, len1000 (by omega), fun pr2 hp2 => ?_⟩
      have s5 := same_new (o := .lst (xr ++ xl)) hp2
      refine ⟨Nat.zero_le _, fun pf hpf => ?_⟩
      have s6 := s5.trans (same_new (o := .lst []) hpf)
      have hr2 : (upd (upd H1 pr2 (.lst (xr ++ xl))) pf (.lst [])) pr2 = some (.lst (xr ++ xl)) := same_new hpf _ _ upd_same
      have hl2 := s6 _ _ hpl
      have dl2 := dxl.same s6
      have dr2 : DTs K (upd (upd H1 pr2 (.lst (xr ++ xl))) pf (.lst [])) (xr ++ xl) ((rowsN n (t + 1)).map entD) := by
        show DTs K _ _ ((rowsN n t ++ lv n t).map entD)
        rw [List.map_append]
        exact (dxr.same s6).app dl2
      have hf0 : (upd (upd H1 pr2 (.lst (xr ++ xl))) pf (.lst [])) pf = some (.lst []) := upd_same
      generalize (upd (upd H1 pr2 (.lst (xr ++ xl))) pf (.lst [])) = H2 at *
      refine ⟨_, rfl, pl, rfl, ⟨_, SqL.of hl2⟩, for_list (K := K) (a := pl) (xs := xl) (fun j σ H' => ∃ (pf : Addr) (xf : List V) (y5 y6 : Option V), σ = [some (.ref m), some (.ref pr2), some (.ref pl), some (.int (0 + (t : Int))), some (.ref pf), y5, y6, none, none] ∧ Same H2 H' ∧ H' pf = some (.lst xf) ∧ DTs K H' xf ((((lv n t).take j).flatMap kidsOf).map entD)) ⟨pf, [], _, _, rfl, Same.refl _, hf0, .nil⟩ (fun i σ H' _ ⟨_, _, _, _, _, sm', _⟩ => SqL.of (sm' _ _ hl2)) ?_ ?_⟩
      · rintro j x σ H3 hj ⟨pf, xf, y5, y6, rfl, sm3, hf3, df3⟩
        obtain ⟨d, hd, dx⟩ := dl2.get hj
        rw [List.getElem?_map] at hd
        obtain ⟨e, he, rfl⟩ := Option.map_eq_some_iff.mp hd
        have em : e ∈ pre [] n := lv_mem n t e (List.mem_of_getElem? he)
        have ke := kids_mem_le em
        have e6 := h6 e em
        obtain ⟨b, vp, vk, rfl, hb2, dp, dk⟩ := (dx.same sm3).entD_inv
        obtain ⟨c, vq, vc, rfl, hc, dq, dc⟩ := dk.node_inv
        obtain ⟨cc, xk, rfl, hcc, dks⟩ := dc.inv
        obtain ⟨ap, rfl, hap⟩ := dp.path_inv
        have lk : xk.length = e.2.ks.length := by rw [dks.len, List.length_map]
        refine ⟨_, _, rfl, hb2.sq, rfl, _, _, rfl, _, _, rfl, rfl, ?_⟩
        refine ⟨_, rfl, _, rfl, _, _, _, _, rfl, rfl, hc.sq, atI_nat (j := 1) rfl, _, _, rfl, hcc, (xk.length : Int), rfl, by omega, by omega, fun D hD => lc_range (lo := 0) (n := (xk.length : Int).toNat) (fun i H' => ∃ o, Same H3 H' ∧ H' D = some (.lst o) ∧ DTs K H' o (((kidsOf e).take i).map entD)) ⟨[], same_new hD, upd_same, .nil⟩ ?_ ?_⟩
        · rintro i H4 hi ⟨o, s4', hO, dO⟩
          refine ⟨rfl, ?_⟩
          dsimp only [tYes]
          rw [if_pos rfl]
          have e0 : ((0 : Int) + (i : Int)) = (i : Int) := Int.zero_add _
          have hk : e.2.ks[i]? = some e.2.ks[i] := List.getElem?_eq_getElem (by omega)
          obtain ⟨xx, hxx, dxx⟩ := dks.at_ (i := i) (d := nodeD e.2.ks[i]) (by rw [List.getElem?_map, hk]; rfl)
          refine ⟨_, rfl, _, rfl, (by decide : 1 ≤ sizeLine), fun p1 hp1 => ?_⟩
          have s5' := same_new (o := .tup [.int ((0 : Int) + (i : Int))]) hp1
          refine ⟨ap, p1, _, _, rfl, rfl, tp_same (s4'.trans s5') hap, Tp.of upd_same, ?_, fun p2 H5 s6' hp2 => ?_⟩
          · rw [List.length_map]
            exact len1000 (show e.1.length + 1 ≤ 1000 by omega)
          have s56 := s5'.trans s6'
          refine ⟨_, rfl, _, _, _, _, rfl, rfl, (tp_same (s4'.trans s56) hc).sq, atI_nat (j := 1) rfl, _, rfl, _, _, _, _, rfl, rfl, (tp_same (s4'.trans s56) hcc).sq, by rw [e0]; exact atI_nat hxx, two_le, fun p3 hp3 => ?_⟩
          have s7 := same_new (o := .tup [.ref p2, xx]) hp3
          have s567 := s56.trans s7
          refine ⟨o, s567 _ _ hO, ?_, _, same_mut (s4'.trans s567) hD, upd_same, ?_⟩
          · rw [dO.len, List.length_map]
            exact Nat.lt_of_le_of_lt (List.length_take_le' _ _) (small1000 (by rw [kids_len]; omega))
          · have iD : IsL (upd H5 p3 (.tup [.ref p2, xx])) D := ⟨_, s567 _ _ hO⟩
            rw [take_next (kids_get hk), List.map_append]
            refine ((dO.same s567).xt iD Xt.upd).snoc ?_
            rw [e0] at hp2
            have hq : Tp H5 p2 ((e.1 ++ [(i : Int)]).map V.int) := by
              rw [List.map_append]
              exact hp2
            exact DT.xt (.mk2 (Tp.of upd_same) ((DT.path hq).same s7) ((dxx.same (s4'.trans s56)).same s7)) iD Xt.upd
        · rintro H4 ⟨o, s4', hO, dO⟩
          have et : (kidsOf e).take ((xk.length : Int).toNat) = kidsOf e := List.take_of_length_le (by rw [kids_len]; omega)
          rw [et] at dO
          have hf4 := s4' _ _ hf3
          refine ⟨_, _, _, _, rfl, rfl, hf4, hO, ?_, fun p hp => ?_⟩
          · rw [df3.len, dO.len, List.length_map, List.length_map, kids_len]
            have h1 : (((lv n t).take j).flatMap kidsOf).length ≤ (lv n (t + 1)).length := by
              show _ ≤ ((lv n t).flatMap kidsOf).length
              rw [← List.take_append_drop j (lv n t), List.flatMap_append, List.length_append, List.take_append_drop]
              omega
            have h2 := lv_le n (t + 1)
            exact len1000 (by omega)
          · have s8 := same_new (o := .lst (xf ++ o)) hp
            refine ⟨p, xf ++ o, _, _, rfl, (sm3.trans s4').trans s8, upd_same, ?_⟩
            rw [take_next he, List.flatMap_append, List.map_append]
            refine ((df3.same s4').same s8).app ?_
            rw [List.flatMap_singleton]
            exact dO.same s8
      · rintro σ H3 ⟨pf, xf, y5, y6, rfl, sm3, hf3, df3⟩
        rw [ll, List.take_length] at df3
        exact ⟨_, rfl, pr2, pf, _, _, _, _, _, _, rfl, (sm.trans s6).trans sm3, sm3 _ _ hr2, dr2.same sm3, hf3, df3⟩
    · rintro σ H1 ⟨pr, pl, xr, xl, y3, y4, y5, y6, rfl, sm, hpr, dxr, hpl, dxl⟩
      have dxr : DTs K H1 xr ((rowsN n 7).map entD) := dxr
      have lr : xr.length = (rowsN n 7).length := by rw [dxr.len, List.length_map]
      have b1 := rows_len n 7
      -- [row[0] for row in rows]
      refine ⟨_, rfl, pr, rfl, ⟨_, SqL.of hpr⟩, fun D hD => lc_list (K := K) (a := pr) (xs := xr) (fun i H' => ∃ o, Same H1 H' ∧ H' D = some (.lst o) ∧ DTs K H' o ((((rowsN n 7).take i).map (·.1)).map pathD)) ⟨[], same_new hD, upd_same, .nil⟩ (fun i H' _ ⟨_, sm', _⟩ => SqL.of (sm' _ _ hpr)) ?_ ?_⟩
      · rintro i x H' hi ⟨o, sm', hO, dO⟩
        obtain ⟨d, hd, dx⟩ := dxr.get hi
        rw [List.getElem?_map] at hd
        obtain ⟨e, he, rfl⟩ := Option.map_eq_some_iff.mp hd
        obtain ⟨b, vp, vk, rfl, hb2, dp, dk⟩ := (dx.same sm').entD_inv
        refine ⟨rfl, ?_⟩
        dsimp only [tYes]
        rw [if_pos rfl]
        have iD : IsL H' D := ⟨_, hO⟩
        refine ⟨_, rfl, _, _, _, _, rfl, rfl, hb2.sq, atI_nat (j := 0) rfl, o, hO, ?_, _, same_mut sm' hD, upd_same, ?_⟩
        · rw [dO.len, List.length_map, List.length_map]
          exact Nat.lt_of_le_of_lt (List.length_take_le' _ _) (small1000 (by omega))
        · rw [take_next he, List.map_append, List.map_append]
          exact (dO.xt iD Xt.upd).snoc (dp.xt iD Xt.upd)
      · rintro H2 ⟨o, s2, hO, dO⟩
        rw [lr, List.take_length] at dO
        refine ⟨D, o, (rowsN n 7).map (fun e : PN => e.1), rfl, SqL.of hO, dO, fun p hp => ?_, fun ys k p2 hperm hk hs hp2 => ?_⟩
        · rw [List.getElem?_map, rows_head n 6] at hp
          exact (Option.some.inj hp).symm
        have s3 := same_new (o := .lst ys) hp2
        have hy2 : (upd H2 p2 (.lst ys)) p2 = some (.lst ys) := upd_same
        have dO3 := dO.same s3
        have yk : ys.map k = (pre [] n).map (·.1) := by
          refine uniq_srt (((hperm.map k).trans (by rw [hk])).trans ((rows_all h6).symm.map _)) ?_ (paths_sorted n)
          rw [List.pairwise_map]
          exact hs
        have dy : ∀ (i : Nat) (y : V), ys[i]? = some y → DT K (upd H2 p2 (.lst ys)) y (pathD (k y)) := by
          intro i y hy
          have hm := hperm.mem_iff.mp (List.mem_of_getElem? hy)
          obtain ⟨j, hj, rfl⟩ := List.mem_iff_getElem.mp hm
          obtain ⟨d, hd, dx⟩ := dO3.get (List.getElem?_eq_getElem hj)
          rw [List.getElem?_map] at hd
          obtain ⟨q, hq, rfl⟩ := Option.map_eq_some_iff.mp hd
          have : k o[j] = q := by
            have h1 := congrArg (·[j]?) hk
            simp only [List.getElem?_map, List.getElem?_eq_getElem hj] at h1
            rw [List.getElem?_map] at hq
            rw [hq] at h1
            exact Option.some.inj h1
          rw [this]
          exact dx
        have ly : ys.length = (pre [] n).length := by
          have := congrArg List.length yk
          simpa using this
        generalize (upd H2 p2 (.lst ys)) = H3 at *
        have dm3 := dm.same ((sm.trans s2).trans s3)
        refine ⟨p2, rfl, ⟨_, SqL.of hy2⟩, fun D2 hD2 => lc_list (K := K) (a := p2) (xs := ys) (fun i H' => ∃ o, Same H3 H' ∧ H' D2 = some (.lst o) ∧ DTs K H' o (((pre [] n).take i).map entD)) ⟨[], same_new hD2, upd_same, .nil⟩ (fun i H' _ ⟨_, sm', _⟩ => SqL.of (sm' _ _ hy2)) ?_ ?_⟩
        · rintro i y H' hi ⟨o2, sm', hO2, dO2⟩
          have il := (List.getElem?_eq_some_iff.mp hi).1
          have he : (pre [] n)[i]? = some (pre [] n)[i] := List.getElem?_eq_getElem (by omega)
          have ek : k y = (pre [] n)[i].1 := by
            have h1 := congrArg (·[i]?) yk
            simp only [List.getElem?_map, hi, he] at h1
            exact Option.some.inj h1
          have dyi := dy i y hi
          rw [ek] at dyi
          obtain ⟨r, er, hf⟩ := pre_find _ ([], n) _ (Nat.le_refl _) (List.mem_of_getElem? he)
          have er' : (pre [] n)[i].1 = r := er
          rw [← er'] at hf
          refine ⟨rfl, ?_⟩
          dsimp only [tYes]
          rw [if_pos rfl]
          refine ⟨_, rfl, _, rfl, _, rfl, _, _, g, n, _, rfl, dm3.same sm', dyi.same sm', fun z => (by rw [show find n (pre [] n)[i].1 = some (pre [] n)[i].2 from hf] at z; cases z), fun m' em v' dv => ⟨two_le, fun p3 hp3 => ?_⟩⟩
          have em2 : m' = (pre [] n)[i].2 := by
            rw [show find n (pre [] n)[i].1 = some (pre [] n)[i].2 from hf] at em
            exact (Option.some.inj em).symm
          subst em2
          have s4 := same_new (o := .tup [y, v']) hp3
          have iD : IsL (upd H' p3 (.tup [y, v'])) D2 := ⟨_, s4 _ _ hO2⟩
          refine ⟨o2, s4 _ _ hO2, ?_, _, same_mut (sm'.trans s4) hD2, upd_same, ?_⟩
          · rw [dO2.len, List.length_map]
            exact Nat.lt_of_le_of_lt (List.length_take_le' _ _) (small1000 (by omega))
          · rw [take_next he, List.map_append]
            refine ((dO2.same s4).xt iD Xt.upd).snoc ?_
            exact DT.xt (.mk2 (Tp.of upd_same) ((dyi.same sm').same s4) (dv.same s4)) iD Xt.upd
        · rintro H4 ⟨o2, s4, hO2, dO2⟩
          rw [ly, List.take_length] at dO2
          refine fin D2 o2 H4 (((sm.trans s2).trans s3).trans s4) ?_ hO2 dO2
          exact (((sm.trans s2).trans s3)).free hD2
def sp_lprices (K : PySem.W.Frag) : Sp := fun vs H Q _ => ∃ (v va : V) (g : Int) (n m : Node) (p : List Int), vs = [v, va] ∧ DT K H v (marketD g n) ∧ DT K H va (pathD p) ∧ find n p = some m ∧ m.ps.length ≤ 900 ∧ ∀ v' H', Same H H' → DT K H' v' (.tuple (prD ((1, 1), (1, 1)) :: m.ps.map prD)) → Q v' H'
def sp_lends (K : PySem.W.Frag) : Sp := fun vs H Q _ => ∃ (v : V) (g : Int) (n : Node), vs = [v] ∧ DT K H v (marketD g n) ∧ (pre [] n).length ≤ 200 ∧ (∀ x ∈ pre [] n, x.1.length ≤ 6) ∧ ∀ p xs H', Same H H' → H p = none → H' p = some (.lst xs) → DTs K H' xs ((endsN n).map fun e => pathD e.1) → Q (.ref p) H'
end
end Nl

namespace Nl
open PySem PySem.Spec PyProof.Rows L2
open TL (tl numL)
open PySem.NumText
section
variable {P : Program} {w : World} {K : PySem.W.Frag} {mg : Str → Option Value} {base : Heap}
def sp_fraction (K : PySem.W.Frag) (Z : Addr) : Sp := fun vs H Q E => ∃ a b : Int, vs = [.int a, .int b] ∧ (b = 0 → E (.ref Z) none H) ∧ (b ≠ 0 → Bd 8000 b ∧ ∀ v H', Same H H' → DT K H' v (frD (frac a b)) → Q v H')
theorem ok_fraction (T : Top K mg) : FnOk P w K mg base (L2.CX P w) 1 T.a_fraction T.d_fraction ["numerator", "denominator"] (sp_fraction K T.c_ZeroDenominator) := by
  refine T.fraction_F.okX sc_fraction (fun vs H Q E h => ?_) (fun cdv A outer s H vs Q E hr h => ?_)
  · obtain ⟨a, b, rfl, _⟩ := h
    rfl
  · obtain ⟨a, b, rfl, h0, h1⟩ := h
    refine ⟨_, (pss_cons (ps_if (pt_cmpR op_eq (pv 1) pe_int (nomark _)) (pss_one (ps_raise rfl (takes_of rfl rfl rfl rfl) (pmk_own PySem.F.excBase_ValueError T.x_ZeroDenominator T.g_ZeroDenominator T.k_ZeroDenominator (raises_own T.b_ZeroDenominator T.t_ZeroDenominator) rfl))) pss_nil)
      (pss_cons (ps_set (i := 2) sc_fraction.nd rfl (Or.inl rfl) (pe_callBfun cr_gcd (by rfl) T.g_gcd (pa_cons (pv 0) (pa_cons (pv 1) pa_nil))))
      (pss_cons (ps_if (pt_cmpR op_lt (pv 1) pe_int (nomark _)) (pss_one (ps_set (i := 2) sc_fraction.nd rfl (Or.inl rfl) (pe_un un_neg (pv 2)))) pss_nil)
      (pss_one (ps_ret (pe_tup (pa_cons (pe_op op_fdivX (pv 0) (pv 2)) (pa_cons (pe_op op_fdivX (pv 1) (pv 2)) pa_nil)))))))), ?_⟩
    refine ⟨_, rfl, rfl, _, rfl, ite2 (fun e => ?_) (fun e => ?_)⟩
    · exact h0 (V.int.inj (of_decide_eq_true e))
    · have hb : b ≠ 0 := fun z => e (by rw [z]; exact decide_eq_true rfl)
      obtain ⟨hB, q⟩ := h1 hb
      have hs := sg_ne (a := a) hb
      have hz : Bd 8000 (sg a b) := hB.le (by rw [sg_abs]; exact Nat.le_of_dvd (by omega) (Nat.gcd_dvd_right _ _))
      have fin : ∀ s, s = sg a b → ∀ p, H p = none → Q (.ref p) (upd H p (.tup [.int (a.fdiv s), .int (b.fdiv s)])) := by
        rintro _ rfl p hp
        exact q _ _ (same_new hp) (DT.fr (Tp.of upd_same))
      have dv : ∀ s x, s = sg a b → CDivX x s := by
        rintro _ x rfl
        exact divX hs hz
      refine ⟨_, rfl, _, rfl, a, b, rfl, ?_⟩
      refine ⟨_, rfl, _, _, rfl, rfl, _, rfl, ite2 (fun e => ?_) (fun e => ?_)⟩
      · have e0 : b < 0 := of_decide_eq_true e
        have es : -((Nat.gcd a.natAbs b.natAbs : Nat) : Int) = sg a b := (if_pos e0).symm
        exact ⟨_, rfl, _, rfl, _, rfl, _, rfl, _, _, rfl, rfl, dv _ _ es, _, rfl, _, rfl, _, _, rfl, rfl, dv _ _ es, two_le, fin _ es⟩
      · have e0 : ¬ b < 0 := fun z => e (decide_eq_true z)
        have es : ((Nat.gcd a.natAbs b.natAbs : Nat) : Int) = sg a b := (if_neg e0).symm
        exact ⟨_, rfl, _, rfl, _, _, rfl, rfl, dv _ _ es, _, rfl, _, rfl, _, _, rfl, rfl, dv _ _ es, two_le, fin _ es⟩
end
theorem digit_low : ∀ c, c < 128 → Unicode.isDigit c = decide (48 ≤ c ∧ c ≤ 57) := by decide +kernel
theorem isascii_S (cs : List Nat) : Txt.isascii (SX.S cs) = cs.all (· < 128) := by
  unfold Txt.isascii
  rw [← Array.all_toList]
theorem isdigit_S {cs : List Nat} (h : ∀ c ∈ cs, c < 128) : Txt.isdigit (SX.S cs) = true ↔ cs ≠ [] ∧ AllDigits cs := by
  unfold Txt.isdigit
  rw [SX.S_len, ← Array.all_toList, Bool.and_eq_true, List.all_eq_true, decide_eq_true_iff]
  refine and_congr List.length_pos_iff ?_
  refine forall_congr' fun c => forall_congr' fun hc => ?_
  rw [digit_low c (h c hc), decide_eq_true_iff]
theorem digits_low {cs : List Nat} (h : AllDigits cs) : ∀ c ∈ cs, c < 128 := fun c hc => by
  have := h c hc
  omega
theorem lit (s : String) (l : List Nat) (h : s.toList.map Char.toNat = l) : Str.ofString s = SX.S l := TL.ext_tl (by rw [TL.tl_ofString, h])
theorem dstr (a b : List Nat) : decide (V.str (SX.S a) = V.str (SX.S b)) = decide (a = b) := by
  by_cases h : a = b
  · subst h
    rw [decide_eq_true rfl, decide_eq_true rfl]
  · rw [decide_eq_false h, decide_eq_false fun z => h (SX.S_inj (V.str.inj z))]
theorem str0 : Str.ofString "0" = SX.S [48] := lit _ _ (by decide)
section
variable {P : Program} {w : World} {K : PySem.W.Frag} {mg : Str → Option Value} {base : Heap}
def sp_isnat : Sp := fun vs H Q _ => ∃ cs : List Nat, vs = [.str (SX.S cs)] ∧ cs.length ≤ 1000 ∧ (NatT cs → Q (.bl true) H) ∧ (¬ NatT cs → Q (.bl false) H)
theorem ok_is_natural (T : Top K mg) : FnOk P w K mg base CX0 1 T.a_is_natural T.d_is_natural ["text"] sp_isnat := by
  refine T.is_natural_F.ok sc_is_natural (fun vs H Q E h => ?_) (fun cdv A outer s H vs Q E hr h => ?_)
  · obtain ⟨_, rfl, _⟩ := h
    rfl
  · obtain ⟨cs, rfl, hl, k1, k0⟩ := h
    refine ⟨_, (pss_one (ps_ret (pe_and (pe_m0 PySem.F.slot_str_isascii PySem.F.type_str_isascii mt_isascii (pv 0)) (pe_and (pe_m0 PySem.F.slot_str_isdigit PySem.F.type_str_isdigit mt_isdigit (pv 0)) (pe_one (pe_or (pe_cmpR op_ne (pe_ix ix_str (pv 0) pe_int (fun _ _ => rfl)) pe_str (nomark _)) (pe_one (pe_cmpR op_eq (pv 0) pe_str (nomark _))))))))), ?_⟩
    refine ⟨_, rfl, ⟨_, rfl⟩, _, rfl, rfl, trivial, ?_⟩
    refine ⟨_, rfl, ?_⟩
    by_cases ha : ∀ c ∈ cs, c < 128
    · refine if_true_of' (by rw [isascii_S, List.all_eq_true]; exact fun c hc => decide_eq_true (ha c hc)) ?_
      refine ⟨_, rfl, ⟨_, rfl⟩, _, rfl, rfl, trivial, _, rfl, ?_⟩
      by_cases hd : cs ≠ [] ∧ AllDigits cs
      · refine if_true_of' ((isdigit_S ha).mpr hd) ?_
        obtain ⟨h1, h2⟩ := hd
        cases cs with
        | nil => exact (h1 rfl).elim
        | cons c r =>
          refine ⟨_, rfl, _, _, c, rfl, rfl, by rw [SX.S_len]; exact len1000 hl, atI_nat (j := 0) rfl, ?_⟩
          refine ⟨rfl, _, rfl, ?_⟩
          rw [str0, show (⟨#[c]⟩ : Str) = SX.S [c] from rfl, dstr]
          by_cases hc : c = 48
          · refine if_false_of' (by rw [hc]; rfl) ?_
            refine ⟨_, rfl, rfl, ?_⟩
            rw [dstr]
            by_cases e : c :: r = [48]
            · rw [decide_eq_true e]
              refine k1 ⟨h2, h1, .inl (by rw [e]; rfl)⟩
            · rw [decide_eq_false e]
              refine k0 fun z => e ?_
              rcases z.lead with h | ⟨c', r', h, h9⟩
              · have : r = [] := List.length_eq_zero_iff.mp (by simpa using h)
                rw [hc, this]
              · cases h
                omega
          · refine if_true_of' (by rw [decide_eq_false (fun z => hc (List.cons.inj z).1)]; rfl) ?_
            have := h2.head
            exact k1 ⟨h2, h1, .inr ⟨c, r, rfl, by omega⟩⟩
      · refine if_false_of' (Bool.eq_false_iff.mpr fun z => hd ((isdigit_S ha).mp z)) ?_
        exact k0 fun z => hd ⟨z.ne, z.all⟩
    · refine if_false_of' (Bool.eq_false_iff.mpr fun z => ha ?_) ?_
      · rw [isascii_S, List.all_eq_true] at z
        exact fun c hc => of_decide_eq_true (z c hc)
      · exact k0 fun z => ha (digits_low z.all)
end
theorem zfill_S {l : List Nat} (h : AllDigits l) (hl : l.length ≤ 64) (hne : l ≠ []) : Txt.zfill (SX.S l) 64 = SX.S (padL 64 l) := by
  unfold Txt.zfill padL
  rw [SX.S_len]
  by_cases c : (64 : Int) ≤ (l.length : Int)
  · rw [if_pos c, show 64 - l.length = 0 by omega]
    rfl
  · rw [if_neg c]
    cases l with
    | nil => exact (hne rfl).elim
    | cons x r =>
      have hx := h.head
      have e : PySem.zfilled (SX.S (x :: r)) ((64 : Int).toNat - (x :: r).length) = Builtin.Str.padded (SX.S (x :: r)) ((64 : Int).toNat - (x :: r).length) 0 48 := by
        unfold PySem.zfilled
        show (match some x with
          | some 43 | some 45 => _
          | _ => _) = _
        split
        · rename_i q
          cases q
          omega
        · rename_i q
          cases q
          omega
        · rfl
      rw [e]
      refine TL.ext_tl ?_
      unfold Builtin.Str.padded
      simp [tl]
theorem joinL_nil : ∀ ls : List (List Nat), TL.joinL [] ls = ls.flatten
  | [] => rfl
  | [p] => by simp [TL.joinL]
  | p :: q :: r => by
    rw [TL.joinL, joinL_nil (q :: r), List.nil_append]
    rfl
theorem join_S (ls : List (List Nat)) : Txt.join Str.empty (ls.map SX.S) = SX.S ls.flatten := by
  rw [TL.join_eq]
  refine TL.ext_tl ?_
  rw [TL.tl_join]
  show TL.joinL [] ((ls.map SX.S).map tl) = _
  rw [List.map_map, joinL_nil]
  congr 1
  exact List.map_id _
theorem big_digits : 2 ^ 8000 ≤ 10 ^ (2409 + 1) := by decide +kernel
theorem numL_bd {z : Int} (h : Bd 8000 z) : (numL z.natAbs).length ≤ 2410 := numL_len 2409 _ (Nat.lt_of_lt_of_le h big_digits)
theorem log_lo {n : Nat} (h : n < 10 ^ (63 + 1)) : (n : Int).natAbs.log2 < 1920 := by
  by_cases h0 : n = 0
  · subst h0
    decide
  · exact (Nat.log2_lt (by omega)).mpr (Nat.lt_of_lt_of_le h (by decide +kernel))
section
variable {P : Program} {w : World} {K : PySem.W.Frag} {mg : Str → Option Value} {base : Heap}
def sp_wint : Sp := fun vs H Q _ => ∃ z : Int, vs = [.int z] ∧ Bd 8000 z ∧ ∀ H', Same H H' → Q (.str (SX.S (intL z))) H'
theorem ok_write_integer (T : Top K mg) : FnOk P w K mg base CX0 1 T.a_write_integer T.d_write_integer ["number"] sp_wint := by
  refine T.write_integer_F.ok sc_write_integer (fun vs H Q E h => ?_) (fun cdv A outer s H vs Q E hr h => ?_)
  · obtain ⟨_, rfl, _⟩ := h
    rfl
  · obtain ⟨z, rfl, hz, fin⟩ := h
    refine ⟨_, (pss_cons (ps_set (i := 1) sc_write_integer.nd rfl (Or.inl rfl) (pe_op op_pow pe_int pe_int))
      (pss_cons (ps_set (i := 2) sc_write_integer.nd rfl (Or.inl rfl) (pe_callB call_abs (by rfl) T.n_abs (by decide +kernel) (pa_cons (pv 0) pa_nil)))
      (pss_cons (ps_set (i := 3) sc_write_integer.nd rfl (Or.inl rfl) (pe_lst pa_nil))
      (pss_cons (ps_while PassesOwn.never (pt_cmpR op_ge (pv 2) (pv 1) (nomark _)) (pss_cons (ps_asg (pe_callB call_divmodW (by rfl) T.n_divmod (by decide +kernel) (pa_cons (pv 2) (pa_cons (pv 1) pa_nil))) (pg_tup rfl (pgs_cons (pg_name (i := 2) sc_write_integer.nd rfl (Or.inl rfl)) (pgs_cons (pg_name (i := 4) sc_write_integer.nd rfl (Or.inl rfl)) pgs_nil))))
      (pss_one (ps_expr (pe_bm PySem.F.plainAttrs_list PySem.F.slot_list_append PySem.F.type_list_append mt_append (pv 3) (pa_cons (pe_m1 PySem.F.slot_str_zfill PySem.F.type_str_zfill mt_zfill (pe_callTy call_str_int (by rfl) T.n_str (by decide +kernel) (pa_cons (pv 4) pa_nil)) pe_int) pa_nil))))))
      (pss_cons (ps_expr (pe_bm PySem.F.plainAttrs_list PySem.F.slot_list_append PySem.F.type_list_append mt_append (pv 3) (pa_cons (pe_callTy call_str_int (by rfl) T.n_str (by decide +kernel) (pa_cons (pv 2) pa_nil)) pa_nil)))
      (pss_cons (ps_if (pt_cmpR op_lt (pv 0) pe_int (nomark _)) (pss_one (ps_expr (pe_bm PySem.F.plainAttrs_list PySem.F.slot_list_append PySem.F.type_list_append mt_append (pv 3) (pa_cons pe_str pa_nil)))) pss_nil)
      (pss_one (ps_ret (pe_joinRev rfl pe_str (by rfl) T.n_reversed (pv 3)))))))))), ?_⟩
    have p64 : (0 : Int) < 10 ^ 64 := by decide
    have last : ∀ (L : List (List Nat)) (H' : Hp) (pl : Addr), Same H H' → H' pl = some (.lst (L.map fun p => V.str (SX.S p))) → L.reverse.flatten = intL z → (L.map List.length).sum + L.length ≤ 3000 →
        (∃ a : Str, V.str (Str.ofString "") = .str a) ∧ ∃ v, some (some (V.ref pl)) = some (some v) ∧ ∃ (a : Str) (q : Addr) (ys : List Str), V.str (Str.ofString "") = .str a ∧ v = .ref q ∧ SqL K H' q (ys.map V.str) ∧ (ys.map (·.length)).sum + ys.length * a.length ≤ 16777216 ∧ Q (.str (Txt.join a ys.reverse)) H' := by
      intro L H' pl sm hl hf hs
      have hd := SqL.of (K := K) hl
      refine ⟨⟨_, rfl⟩, _, rfl, Str.empty, pl, L.map SX.S, congrArg V.str (TL.ext_tl rfl), rfl, by rw [List.map_map]; exact hd, ?_, ?_⟩
      · rw [List.map_map, show ((fun x : Str => x.length) ∘ SX.S) = List.length from funext fun l => SX.S_len l]
        show _ + _ * 0 ≤ _
        omega
      · rw [← List.map_reverse, join_S, hf]
        exact fin H' sm
    refine ⟨_, _, rfl, rfl, ⟨by decide, by decide, by decide⟩, _, rfl, _, rfl, Nat.zero_le _, fun pl hpl => ?_⟩
    have ab : (if z < 0 then -z else z) = (z.natAbs : Int) := by split <;> omega
    rw [ab]
    have s0 := same_new (o := .lst []) hpl
    refine ⟨fun m σ H' => ∃ (r : Nat) (ps : List (List Nat)) (y : Option V), σ = [some (.int z), some (.int (10 ^ 64)), some (.int (r : Int)), some (.ref pl), y] ∧ Same H H' ∧ H' pl = some (.lst (ps.map fun p => V.str (SX.S p))) ∧ m = r ∧ (∀ p ∈ ps, p.length = 64) ∧ numL z.natAbs = numL r ++ ps.reverse.flatten,
      ⟨_, z.natAbs, [], none, rfl, s0, upd_same, rfl, fun p hp => (nomatch hp), by simp⟩, ?_⟩
    rintro m σ H' ⟨r, ps, y, rfl, sm, hl, rfl, h64, hn⟩
    have h2s : (ps.map List.length).sum = ps.length * 64 := by
      clear hn hl
      induction ps with
      | nil => rfl
      | cons p ps ih =>
        rw [List.map_cons, List.sum_cons, ih (fun q hq => h64 q (List.mem_cons_of_mem _ hq)), h64 p (by simp), List.length_cons]
        omega
    have hsum : (numL m).length + ps.length * 64 ≤ 2410 := by
      have h1 := numL_bd hz
      rw [hn, List.length_append, List.length_flatten] at h1
      rw [List.map_reverse, List.sum_reverse, h2s] at h1
      omega
    refine ⟨_, rfl, _, rfl, _, _, rfl, rfl, _, rfl, ite2 (fun c => ?_) (fun c => ?_)⟩
    · have c : (10 : Int) ^ 64 ≤ (m : Int) := of_decide_eq_true c
      refine ⟨_, fun _ _ z => z, ?_⟩
      refine ⟨_, rfl, _, rfl, _, _, rfl, ⟨p64, PyProof.noPylong_of_log2 (by decide +kernel)⟩, fun q hq => ?_⟩
      obtain ⟨qo, eq⟩ : ∃ qo : Nat, qo = m / 10 ^ 64 := ⟨_, rfl⟩
      obtain ⟨lo, el⟩ : ∃ lo : Nat, lo = m % 10 ^ 64 := ⟨_, rfl⟩
      have e1 : (m : Int) / 10 ^ 64 = (qo : Int) := by omega
      have e2 : (m : Int) % 10 ^ 64 = (lo : Int) := by omega
      have hlo : lo < 10 ^ (63 + 1) := by omega
      have hm : m = qo * 10 ^ (63 + 1) + lo := by omega
      have hq0 : 0 < qo := by omega
      have u1 := same_new (o := .tup [.int ((m : Int) / 10 ^ 64), .int ((m : Int) % 10 ^ 64)]) hq
      rw [e1, e2] at u1
      rw [e1, e2]
      have hl1 := u1 _ _ hl
      have hpad : (padL 64 (numL lo)).length = 64 := by
        unfold padL
        have := numL_len 63 lo hlo
        rw [List.length_append, List.length_replicate]
        omega
      refine ⟨_, _, rfl, (Tp.of upd_same).sq, rfl, _, _, rfl, _, _, rfl, rfl, ?_⟩
      refine ⟨_, rfl, .inl ⟨rfl, _, SqL.of hl1⟩, _, rfl, _, rfl, log_lo hlo, ⟨_, rfl⟩, _, _, rfl, rfl, rfl, _, _, _, rfl, rfl, hl1, ?_, ?_⟩
      · rw [List.length_map]
        exact small1000 (by omega)
      · rw [str_int, intL_pos (by omega), show ((lo : Nat) : Int).natAbs = lo by omega, zfill_S (natT_numL lo).all (numL_len 63 lo hlo) (natT_numL lo).ne]
        refine ⟨qo, by rw [eq]; exact Nat.div_lt_self (by omega) (by decide), qo, ps ++ [padL 64 (numL lo)], _, rfl, same_mut (sm.trans u1) hpl, by rw [upd_same, List.map_append]; rfl, rfl, fun p hp => ?_, ?_⟩
        · rcases List.mem_append.mp hp with hp | hp
          · exact h64 p hp
          · rw [List.mem_singleton.mp hp]
            exact hpad
        · rw [hn, hm, numL_split 63 qo lo hq0 hlo, List.reverse_append, List.append_assoc]
          rfl
    · have c : ¬ (10 : Int) ^ 64 ≤ (m : Int) := fun q => c (decide_eq_true q)
      have hm : m < 10 ^ (63 + 1) := by omega
      refine ⟨_, rfl, .inl ⟨rfl, _, SqL.of hl⟩, _, rfl, _, rfl, log_lo hm, _, _, _, rfl, rfl, hl, ?_, ?_⟩
      · rw [List.length_map]
        exact small1000 (by omega)
      · rw [str_int, intL_pos (by omega), show ((m : Nat) : Int).natAbs = m by omega]
        have hl2 : (upd H' pl (.lst (ps.map (fun p => V.str (SX.S p)) ++ [V.str (SX.S (numL m))]))) pl = some (.lst ((ps ++ [numL m]).map fun p => V.str (SX.S p))) := by
          rw [upd_same, List.map_append]
          rfl
        have s2 := same_mut (o := .lst (ps.map (fun p => V.str (SX.S p)) ++ [V.str (SX.S (numL m))])) sm hpl
        generalize (upd H' pl (.lst (ps.map (fun p => V.str (SX.S p)) ++ [V.str (SX.S (numL m))]))) = H2 at *
        refine ⟨_, rfl, _, _, rfl, rfl, _, rfl, ite2 (fun d => ?_) (fun d => ?_)⟩
        · have hneg : z < 0 := of_decide_eq_true d
          refine ⟨_, rfl, .inl ⟨rfl, _, SqL.of hl2⟩, _, _, _, rfl, rfl, hl2, ?_, ?_⟩
          · rw [List.length_map, List.length_append, List.length_singleton]
            exact small1000 (by omega)
          · have hl3 : (upd H2 pl (.lst ((ps ++ [numL m]).map (fun p => V.str (SX.S p)) ++ [V.str (Str.ofString "-")]))) pl = some (.lst ((ps ++ [numL m] ++ [[45]]).map fun p => V.str (SX.S p))) := by
              rw [upd_same, List.map_append (l₁ := ps ++ [numL m]), show Str.ofString "-" = SX.S [45] from lit _ _ (by decide)]
              rfl
            have s3 := same_mut (o := .lst ((ps ++ [numL m]).map (fun p => V.str (SX.S p)) ++ [V.str (Str.ofString "-")])) s2 hpl
            refine last _ _ _ s3 hl3 ?_ ?_
            · rw [List.reverse_append, List.reverse_append]
              show 45 :: (numL m ++ ps.reverse.flatten) = _
              rw [← hn]
              exact (if_pos hneg).symm
            · simp only [List.map_append, List.sum_append, List.map_cons, List.map_nil, List.sum_cons, List.sum_nil, List.length_append, List.length_cons, List.length_nil]
              omega
        · have hpos : ¬ z < 0 := fun q => d (decide_eq_true q)
          refine last _ _ _ s2 hl2 ?_ ?_
          · rw [List.reverse_append]
            show numL m ++ ps.reverse.flatten = _
            rw [← hn]
            exact (if_neg hpos).symm
          · simp only [List.map_append, List.sum_append, List.map_cons, List.map_nil, List.sum_cons, List.sum_nil, List.length_append, List.length_cons, List.length_nil]
            omega
end
theorem len1000' {n : Nat} (h : n ≤ 100000) : n ≤ sizeLine := Nat.le_trans h (by decide)
theorem intL_len {z : Int} (h : Bd 8000 z) : (intL z).length ≤ 2411 := by
  have := numL_bd h
  unfold intL
  split
  · rw [List.length_cons]
    omega
  · omega
theorem val_lt : ∀ {cs : List Nat}, AllDigits cs → digitsVal cs < 10 ^ cs.length := by
  intro cs
  induction cs using List.reverseRecOn' with
  | nil => exact fun _ => by decide
  | snoc l x ih =>
    intro h
    have h1 := ih fun c hc => h c (List.mem_append_left _ hc)
    have h2 := h x (by simp)
    rw [digitsVal_snoc, List.length_append, List.length_singleton, Nat.pow_succ]
    omega
theorem big_text : 10 ^ 1000 ≤ 2 ^ 3400 := by decide +kernel
theorem val_bd {cs : List Nat} (h : AllDigits cs) (hl : cs.length ≤ 1000) : Bd 3400 (digitsVal cs : Int) := by
  show ((digitsVal cs : Nat) : Int).natAbs < 2 ^ 3400
  rw [Int.natAbs_natCast]
  exact Nat.lt_of_lt_of_le (val_lt h) (Nat.le_trans (Nat.pow_le_pow_right (by decide) hl) big_text)
theorem intV_bd {a : List Nat} (h : NatT (stripL a)) (hl : a.length ≤ 1000) : Bd 3400 (intV a) := by
  cases a with
  | nil => exact (h.ne rfl).elim
  | cons c r =>
    by_cases hc : c = 45
    · subst hc
      have h : NatT r := h
      exact (val_bd h.all (by rw [List.length_cons] at hl; omega)).neg
    · have e1 : stripL (c :: r) = c :: r := by
        unfold stripL
        split
        · rename_i q
          cases q
          exact (hc rfl).elim
        · rfl
      rw [e1] at h
      rw [intV_digits h.all]
      exact val_bd h.all hl
theorem strip_len (a : List Nat) : (stripL a).length ≤ a.length := by
  unfold stripL
  split
  · rw [List.length_cons]
    omega
  · exact Nat.le_refl _
theorem prefix_S (a : List Nat) : Txt.removeprefix (SX.S a) (SX.S [45]) = SX.S (stripL a) := by
  rw [PySem.StrLaws.removeprefix_eq, PySem.StrLaws.subAt_eq]
  cases a with
  | nil => rfl
  | cons c r =>
    show (if (decide (0 + 1 ≤ (SX.S (c :: r)).length) && ([c] == [45])) = true then (⟨((c :: r).drop 1 |>.take ((SX.S (c :: r)).length - 1)).toArray⟩ : Str) else SX.S (c :: r)) = _
    rw [SX.S_len, List.length_cons, decide_eq_true (by omega), Bool.true_and]
    by_cases h : c = 45
    · subst h
      rw [if_pos (show ([45] == [45]) = true from rfl)]
      show SX.S (r.take (r.length + 1 - 1)) = SX.S r
      rw [Nat.add_sub_cancel, List.take_length]
    · rw [if_neg (by simpa using h)]
      have e1 : stripL (c :: r) = c :: r := by
        unfold stripL
        split
        · rename_i q
          cases q
          exact (h rfl).elim
        · rfl
      rw [e1]
theorem part_none {cs : List Nat} (h : 47 ∉ cs) : Txt.partition (SX.S cs) (SX.S [47]) = (SX.S cs, Str.empty, Str.empty) := TL.partition_none (s := 47) (S := []) rfl h
theorem part_some {a b : List Nat} (h : 47 ∉ a) : Txt.partition (SX.S (a ++ 47 :: b)) (SX.S [47]) = (SX.S a, SX.S [47], SX.S b) := by
  have e : SX.S (a ++ 47 :: b) = SX.S a ++ SX.S [47] ++ SX.S b := by rw [SX.S_cat, SX.S_cat, List.append_assoc]; rfl
  rw [e]
  exact TL.partition_app (s := 47) (S := []) rfl h
section
variable {P : Program} {w : World} {K : PySem.W.Frag} {mg : Str → Option Value} {base : Heap}
def sp_wfrac (K : PySem.W.Frag) : Sp := fun vs H Q _ => ∃ (v : V) (q : Int × Int), vs = [v] ∧ DT K H v (frD q) ∧ Bd 8000 q.1 ∧ Bd 8000 q.2 ∧ ∀ H', Same H H' → Q (.str (SX.S (fracT q))) H'
theorem ok_write_fraction (T : Top K mg) : FnOk P w K mg base CX0 2 T.a_write_fraction T.d_write_fraction ["a"] (sp_wfrac K) := by
  refine T.write_fraction_F.ok sc_write_fraction (fun vs H Q E h => ?_) (fun cdv A outer s H vs Q E hr h => ?_)
  · obtain ⟨_, _, rfl, _⟩ := h
    rfl
  · obtain ⟨v, q, rfl, dv, b1, b2, fin⟩ := h
    obtain ⟨a, rfl, ha⟩ := dv.fr_inv
    have l1 := intL_len b1
    have l2 := intL_len b2
    refine ⟨_, (pss_cons (ps_asg (pv 0) (pg_tup rfl (pgs_cons (pg_name (i := 1) sc_write_fraction.nd rfl (Or.inl rfl)) (pgs_cons (pg_name (i := 2) sc_write_fraction.nd rfl (Or.inl rfl)) pgs_nil))))
      (pss_cons (ps_if (pt_cmpR op_eq (pv 2) pe_int (nomark _)) (pss_one (ps_ret (pe_call (ok_write_integer T) (hr.mono (by decide : 1 ≤ 1)) (by rfl) T.g_write_integer T.write_integer_F.kp T.write_integer_b .nil pass0 (pa_cons (pv 1) pa_nil)))) pss_nil)
      (pss_one (ps_ret (pe_op op_add_str (pe_op op_add_str (pe_call (ok_write_integer T) (hr.mono (by decide : 1 ≤ 1)) (by rfl) T.g_write_integer T.write_integer_F.kp T.write_integer_b .nil pass0 (pa_cons (pv 1) pa_nil)) pe_str) (pe_call (ok_write_integer T) (hr.mono (by decide : 1 ≤ 1)) (by rfl) T.g_write_integer T.write_integer_F.kp T.write_integer_b .nil pass0 (pa_cons (pv 2) pa_nil))))))), ?_⟩
    refine ⟨_, rfl, _, _, rfl, ha.sq, rfl, _, _, rfl, _, _, rfl, rfl, ?_⟩
    refine ⟨_, rfl, rfl, _, rfl, ite2 (fun e => ?_) (fun e => ?_)⟩
    · have e : q.2 = 1 := V.int.inj (of_decide_eq_true e)
      refine ⟨_, rfl, _, rfl, b1, fun H1 s1 => ?_⟩
      have := fin H1 s1
      unfold fracT at this
      rw [if_pos e] at this
      exact this
    · have e : q.2 ≠ 1 := fun z => e (by rw [z]; exact decide_eq_true rfl)
      refine ⟨_, rfl, _, rfl, b1, fun H1 s1 => ?_⟩
      refine ⟨_, _, rfl, rfl, ?_, ?_⟩
      · rw [SX.S_len, show Str.ofString "/" = SX.S [47] from lit _ _ (by decide), SX.S_len]
        exact len1000' (by simp; omega)
      refine ⟨_, rfl, _, rfl, b2, fun H2 s2 => ?_⟩
      have e2 : Str.ofString "/" = SX.S [47] := lit _ _ (by decide)
      refine ⟨_, _, rfl, rfl, ?_, ?_⟩
      · rw [e2, SX.S_cat, SX.S_len, SX.S_len]
        exact len1000' (by simp; omega)
      · rw [e2, SX.S_cat, SX.S_cat, List.append_assoc]
        have := fin H2 (s1.trans s2)
        unfold fracT at this
        rw [if_neg e] at this
        exact this
end
section
variable {P : Program} {w : World} {K : PySem.W.Frag} {mg : Str → Option Value} {base : Heap}
def RdOk (cs : List Nat) (q : Int × Int) : Prop := cs.length ≤ 1000 ∧ Low q ∧ fracT q = cs
def sp_read (K : PySem.W.Frag) (Z : Addr) : Sp := fun vs H Q E => ∃ cs : List Nat, vs = [.str (SX.S cs)] ∧ cs.length ≤ 1000000 ∧ ((∀ q, ¬ RdOk cs q) → ∀ H', Same H H' → E (.ref Z) none H') ∧ (∀ q, RdOk cs q → ∀ v H', Same H H' → DT K H' v (frD q) → Q v H')
theorem ok_read_fraction (T : Top K mg) (nd : base.NoDigits) : FnOk P w K mg base (L2.CX P w) 3 T.a_read_fraction T.d_read_fraction ["text"] (sp_read K T.c_TextError) := by
  refine T.read_fraction_F.okX sc_read_fraction (fun vs H Q E h => ?_) (fun cdv A outer s H vs Q E hr h => ?_)
  · obtain ⟨_, rfl, _⟩ := h
    rfl
  · obtain ⟨cs, rfl, hl, kE, kQ⟩ := h
    refine ⟨_, (pss_cons (ps_if (pt_cmpR op_gt (pe_callB call_len_str (by rfl) T.n_len (by decide +kernel) (pa_cons (pv 0) pa_nil)) (pe_glob (v := .int 1000) (by rfl) T.g_TEXT_LIMIT ⟨_, rfl⟩) (nomark _)) (pss_one (ps_raise rfl (takes_of rfl rfl rfl rfl) (pmk_own PySem.F.excBase_ValueError T.x_TextError T.g_TextError T.k_TextError (raises_own T.b_TextError T.t_TextError) rfl))) pss_nil)
      (pss_cons (ps_asg (pe_m1 PySem.F.slot_str_partition PySem.F.type_str_partition mt_partition (pv 0) pe_str) (pg_tup rfl (pgs_cons (pg_name (i := 1) sc_read_fraction.nd rfl (Or.inl rfl)) (pgs_cons (pg_name (i := 2) sc_read_fraction.nd rfl (Or.inl rfl)) (pgs_cons (pg_name (i := 3) sc_read_fraction.nd rfl (Or.inl rfl)) pgs_nil)))))
      (pss_cons (ps_if (PW.pt (pw_or (pt_not (pt_val (pe_call (ok_is_natural T) (hr.mono (by decide : 1 ≤ 2)) (by rfl) T.g_is_natural T.is_natural_F.kp T.is_natural_b .nil pass0 (pa_cons (pe_m1 PySem.F.slot_str_removeprefix PySem.F.type_str_removeprefix mt_removeprefix (pv 1) pe_str) pa_nil)))) (pw_or1 (PW.pt (pw_and (pt_truth (pv 2) (by intro _; rfl)) (pw_and1 (pt_not (pt_val (pe_call (ok_is_natural T) (hr.mono (by decide : 1 ≤ 2)) (by rfl) T.g_is_natural T.is_natural_F.kp T.is_natural_b .nil pass0 (pa_cons (pv 3) pa_nil)))))))))) (pss_one (ps_raise rfl (takes_of rfl rfl rfl rfl) (pmk_own PySem.F.excBase_ValueError T.x_TextError T.g_TextError T.k_TextError (raises_own T.b_TextError T.t_TextError) rfl))) pss_nil)
      (pss_cons (ps_set (i := 4) sc_read_fraction.nd rfl (Or.inl rfl) (pe_callTy (call_int_long nd) (by rfl) T.n_int (by decide +kernel) (pa_cons (pv 1) pa_nil)))
      (pss_cons (ps_set (i := 5) sc_read_fraction.nd rfl (Or.inl rfl) (pe_ifExp (pt_truth (pv 2) (by intro _; rfl)) (pe_callTy (call_int_long nd) (by rfl) T.n_int (by decide +kernel) (pa_cons (pv 3) pa_nil)) pe_int))
      (pss_cons (ps_if (PW.pt (pw_or (pt_cmpR op_eq (pv 5) pe_int (nomark _)) (pw_or1 (pt_cmpR op_ne (pe_call (ok_write_fraction T) (hr.mono (by decide : 2 ≤ 2)) (by rfl) T.g_write_fraction T.write_fraction_F.kp T.write_fraction_b .nil pass0 (pa_cons (pe_callS (ok_fraction T) (hr.mono (by decide : 1 ≤ 2)) rfl T.g_fraction T.fraction_F.kp T.fraction_b (fun σ => passAt (takes_of rfl rfl rfl rfl) σ) (pa_cons (pv 4) (pa_cons (pv 5) pa_nil))) pa_nil)) (pv 0) (nomark _))))) (pss_one (ps_raise rfl (takes_of rfl rfl rfl rfl) (pmk_own PySem.F.excBase_ValueError T.x_TextError T.g_TextError T.k_TextError (raises_own T.b_TextError T.t_TextError) rfl))) pss_nil)
      (pss_one (ps_ret (pe_tup (pa_cons (pv 4) (pa_cons (pv 5) pa_nil))))))))))), ?_⟩
    refine ⟨_, rfl, _, rfl, by rw [SX.S_len]; exact Nat.le_trans hl (by decide), ?_⟩
    rw [SX.S_len]
    refine ⟨_, _, rfl, rfl, _, rfl, ite2 (fun c => ?_) (fun c => ?_)⟩
    · have c : (1000 : Int) < (cs.length : Int) := of_decide_eq_true c
      refine kE (fun q h => ?_) H (Same.refl H)
      have := h.1
      omega
    have c : ¬ (1000 : Int) < (cs.length : Int) := fun z => c (decide_eq_true z)
    have hl : cs.length ≤ 1000 := by omega
    refine ⟨_, rfl, ⟨_, rfl⟩, _, _, rfl, rfl, rfl, by rw [SX.S_len]; exact len1000 hl, fun p1 h1 => ?_⟩
    rw [show Str.ofString "/" = SX.S [47] from lit _ _ (by decide)]
    have u1 := same_new (o := .tup [.str (Txt.partition (SX.S cs) (SX.S [47])).1, .str (Txt.partition (SX.S cs) (SX.S [47])).2.1, .str (Txt.partition (SX.S cs) (SX.S [47])).2.2]) h1
    have eM : Str.ofString "-" = SX.S [45] := lit _ _ (by decide)
    have sl := strip_len cs
    rcases slash_cases cs with hs | ⟨a, b, ecs, hs⟩
    · rw [part_none hs] at u1 ⊢
      refine ⟨_, _, rfl, SqT.of upd_same, rfl, _, _, rfl, _, _, rfl, _, _, rfl, rfl, ?_⟩
      refine ⟨_, rfl, ⟨_, rfl⟩, _, _, rfl, rfl, by rw [SX.S_len]; exact len1000 hl, ?_⟩
      rw [eM, prefix_S]
      refine ⟨_, rfl, by omega, fun hn => ?_, fun hn => ?_⟩
      · refine ⟨_, rfl, if_false_of' rfl ?_⟩
        refine ⟨_, rfl, _, ⟨(show Str.empty.length ≤ sizeLine by decide), rfl⟩, if_false_of' rfl (if_false_of' rfl ?_)⟩
        obtain ⟨n1, n2⟩ := int_text hn (by omega)
        refine ⟨_, rfl, _, _, rfl, n1, by rw [SX.S_len]; omega, n2, ?_⟩
        refine ⟨_, rfl, _, ⟨(show Str.empty.length ≤ sizeLine by decide), rfl⟩, if_false_of' rfl ?_⟩
        have bn := intV_bd hn hl
        refine ⟨_, rfl, rfl, _, rfl, if_false_of' rfl ?_⟩
        refine ⟨_, rfl, _, rfl, _, _, rfl, fun z => absurd z (by decide), fun _ => ⟨Bd.mono (k := 1) (by unfold Bd; decide) (by decide), fun vf H2 s2 df => ?_⟩⟩
        have hf := frac_low (a := intV cs) (b := 1) (by decide)
        refine ⟨vf, frac (intV cs) 1, rfl, df, (frac_b1 (by decide) bn).mono (by decide), (frac_b2 (k := 1) (by decide) (by unfold Bd; decide)).mono (by decide), fun H3 s3 => ⟨_, rfl, rfl, _, rfl, ?_⟩⟩
        rw [dstr]
        have s13 := (u1.trans s2).trans s3
        by_cases hc : cs ≠ [45, 48]
        · obtain ⟨y1, y2⟩ := whole_yes hn hc
          have e1 : frac (intV cs) 1 = (intV cs, 1) := frac_lowest y1
          refine if_false_of' (by rw [e1, y2, decide_eq_true rfl]; rfl) ?_
          refine ⟨_, rfl, _, rfl, two_le, fun p2 h2 => ?_⟩
          exact kQ (intV cs, 1) ⟨hl, y1, y2⟩ _ _ (s13.trans (same_new h2)) (DT.fr (Tp.of upd_same))
        · refine if_true_of' (by rw [decide_eq_false (whole_no hs (fun z => hc z.2) _ hf)]; rfl) ?_
          exact kE (fun q hq => whole_no hs (fun z => hc z.2) q hq.2.1 hq.2.2) _ s13
      · refine ⟨_, rfl, if_true_of' rfl ?_⟩
        exact kE (fun q hq => whole_no hs (fun z => hn z.1) q hq.2.1 hq.2.2) _ u1
    · subst ecs
      rw [part_some hs] at u1 ⊢
      have hab : a.length + (b.length + 1) ≤ 1000 := by simpa using hl
      have sa := strip_len a
      refine ⟨_, _, rfl, SqT.of upd_same, rfl, _, _, rfl, _, _, rfl, _, _, rfl, rfl, ?_⟩
      refine ⟨_, rfl, ⟨_, rfl⟩, _, _, rfl, rfl, by rw [SX.S_len]; exact len1000 (by omega), ?_⟩
      rw [eM, prefix_S]
      refine ⟨_, rfl, by omega, fun hn => ?_, fun hn => ?_⟩
      · refine ⟨_, rfl, if_false_of' rfl ?_⟩
        refine ⟨_, rfl, _, ⟨(show (SX.S [47]).length ≤ sizeLine by decide), rfl⟩, if_true_of' rfl ?_⟩
        refine ⟨_, rfl, b, rfl, by omega, fun hb => ?_, fun hb => ?_⟩
        · refine ⟨_, rfl, if_false_of' rfl ?_⟩
          obtain ⟨n1, n2⟩ := int_text hn (by omega)
          have hb2 : NatT (stripL b) := by rw [strip_digits hb.all]; exact hb
          obtain ⟨m1, m2⟩ := int_text hb2 (by omega)
          rw [intV_digits hb.all] at m1
          refine ⟨_, rfl, _, _, rfl, n1, by rw [SX.S_len]; omega, n2, ?_⟩
          refine ⟨_, rfl, _, ⟨(show (SX.S [47]).length ≤ sizeLine by decide), rfl⟩, if_true_of' rfl ?_⟩
          refine ⟨_, rfl, _, _, rfl, m1, by rw [SX.S_len]; omega, m2, ?_⟩
          have bn := intV_bd hn (by omega)
          have bd := val_bd hb.all (by omega)
          refine ⟨_, rfl, rfl, _, rfl, ite2 (fun z => ?_) (fun z => ?_)⟩
          · have z : (digitsVal b : Int) = 0 := V.int.inj (of_decide_eq_true z)
            have z := val_zero hb (by omega)
            exact kE (fun q hq => parts_no hs (fun y => y.2.2.2.1 z) q hq.2.1 hq.2.2) _ u1
          have hd : (digitsVal b : Int) ≠ 0 := fun y => z (by rw [y]; exact decide_eq_true rfl)
          refine ⟨_, rfl, _, rfl, _, _, rfl, fun y => absurd y hd, fun _ => ⟨bd.mono (by decide), fun vf H2 s2 df => ?_⟩⟩
          have hf := frac_low (a := intV a) hd
          refine ⟨vf, frac (intV a) (digitsVal b), rfl, df, (frac_b1 hd bn).mono (by decide), (frac_b2 hd bd).mono (by decide), fun H3 s3 => ⟨_, rfl, rfl, _, rfl, ?_⟩⟩
          rw [dstr]
          have s13 := (u1.trans s2).trans s3
          by_cases hc : a ≠ [45, 48] ∧ b ≠ [48] ∧ b ≠ [49] ∧ Int.gcd (intV a) (digitsVal b) = 1
          · obtain ⟨y1, y2⟩ := parts_yes hn hb hc.1 hc.2.1 hc.2.2.1 hc.2.2.2
            have e1 : frac (intV a) (digitsVal b) = (intV a, (digitsVal b : Int)) := frac_lowest y1
            refine if_false_of' (by rw [e1, y2, decide_eq_true rfl]; rfl) ?_
            refine ⟨_, rfl, _, rfl, two_le, fun p2 h2 => ?_⟩
            exact kQ (intV a, (digitsVal b : Int)) ⟨hl, y1, y2⟩ _ _ (s13.trans (same_new h2)) (DT.fr (Tp.of upd_same))
          · refine if_true_of' (by rw [decide_eq_false (parts_no hs (fun z => hc z.2.2) _ hf)]; rfl) ?_
            exact kE (fun q hq => parts_no hs (fun z => hc z.2.2) q hq.2.1 hq.2.2) _ s13
        · refine ⟨_, rfl, if_true_of' rfl ?_⟩
          exact kE (fun q hq => parts_no hs (fun z => hb z.2.1) q hq.2.1 hq.2.2) _ u1
      · refine ⟨_, rfl, if_true_of' rfl ?_⟩
        exact kE (fun q hq => parts_no hs (fun z => hn z.1) q hq.2.1 hq.2.2) _ u1
end
end Nl

namespace Nl
open PySem PySem.Spec PyProof.Rows L2
open TL (tl numL)
open PySem.NumText
/-! ### texts of markets -/
def pathT (p : List Int) : List Nat := if p = [] then [45] else TL.joinL [46] (p.map intL)
def momentW : List Nat := [109, 111, 109, 101, 110, 116]
def goodsW : List Nat := [103, 111, 111, 100, 115]
def wordsE (p : List Int) (ps : List Pr) : List (List Nat) := momentW :: pathT p :: ps.flatMap fun r => [fracT r.1, fracT r.2]
def lineE (e : List Int × List Pr) : List Nat := TL.joinL [32] (wordsE e.1 e.2) ++ [10]
def lineG (g : Int) : List Nat := goodsW ++ [32] ++ intL g ++ [10]
def entE (n : Node) : List (List Int × List Pr) := (pre [] n).map fun e => (e.1, e.2.ps)
def linesM (g : Int) (n : Node) : List (List Nat) := lineG g :: (entE n).map lineE
def textM (g : Int) (n : Node) : List Nat := (linesM g n).flatten
theorem join_c (c : Nat) (ls : List (List Nat)) : Txt.join (SX.S [c]) (ls.map SX.S) = SX.S (TL.joinL [c] ls) := by
  rw [TL.join_eq]
  refine TL.ext_tl ?_
  rw [TL.tl_join]
  show TL.joinL [c] ((ls.map SX.S).map tl) = TL.joinL [c] ls
  rw [List.map_map]
  congr 1
  exact List.map_id _
theorem joinL_len (c : Nat) : ∀ ls : List (List Nat), (TL.joinL [c] ls).length ≤ (ls.map List.length).sum + ls.length
  | [] => Nat.zero_le _
  | [p] => by simp [TL.joinL]
  | p :: q :: r => by
    have := joinL_len c (q :: r)
    rw [TL.joinL, List.length_append, List.length_append]
    simp only [List.map_cons, List.sum_cons, List.length_cons, List.length_nil] at this ⊢
    omega
theorem sum_len {b : Nat} : ∀ ls : List (List Nat), (∀ l ∈ ls, l.length ≤ b) → (ls.map List.length).sum ≤ b * ls.length
  | [], _ => Nat.zero_le _
  | l :: ls, h => by
    have := sum_len ls fun x hx => h x (List.mem_cons_of_mem _ hx)
    have := h l (by simp)
    rw [List.map_cons, List.sum_cons, List.length_cons, Nat.mul_succ]
    omega
theorem lens_S (ls : List (List Nat)) : ((ls.map SX.S).map fun x : Str => x.length) = ls.map List.length := by
  rw [List.map_map]
  exact List.map_congr_left fun l _ => SX.S_len l
theorem pre_idx : ∀ (n : Nat) (e x : PN), (preE e).length ≤ n → x ∈ preE e → ∃ r, x.1 = e.1 ++ r ∧ ∀ i ∈ r, 0 ≤ i ∧ i < ((preE e).length : Int)
  | 0, e, x, hl, hx => by
    rw [preE_eq] at hl
    simp at hl
  | n + 1, e, x, hl, hx => by
    have hl0 := hl
    rw [preE_eq] at hl hx
    rcases List.mem_cons.mp hx with rfl | hx
    · exact ⟨[], by simp, fun i hi => by cases hi⟩
    · obtain ⟨k, hk, hxk⟩ := List.mem_flatMap.mp hx
      have h1 : (preE k).length ≤ ((kidsOf e).flatMap preE).length := by
        rw [List.length_flatMap]
        exact le_sum (List.mem_map.mpr ⟨k, hk, rfl⟩)
      rw [List.length_cons] at hl
      obtain ⟨r, e1, hr⟩ := pre_idx n k x (by omega) hxk
      obtain ⟨i, hi, rfl⟩ := List.mem_mapIdx.mp hk
      have h2 : (kidsOf e).length ≤ ((kidsOf e).flatMap preE).length := len_le_flat _
      have h3 : (kidsOf e).length = e.2.ks.length := by unfold kidsOf; rw [List.length_mapIdx]
      have h4 : (preE e).length = 1 + ((kidsOf e).flatMap preE).length := by rw [preE_eq, List.length_cons]; omega
      refine ⟨(i : Int) :: r, by rw [e1]; simp, fun j hj => ?_⟩
      rcases List.mem_cons.mp hj with rfl | hj
      · omega
      · have := hr j hj
        omega
theorem good_len {g : Int} {n : Node} (G : Good g n) : (pre [] n).length ≤ 40 := Decidable.byContradiction fun z => G.2 (.inl (by omega))
theorem good_path {g : Int} {n : Node} (G : Good g n) {x : PN} (hx : x ∈ pre [] n) : x.1.length ≤ 40 ∧ ∀ i ∈ x.1, Bd 30 i := by
  have h40 := good_len G
  obtain ⟨r, e, hr⟩ := pre_idx _ ([], n) x (Nat.le_refl _) hx
  have h1 := pre_len _ ([], n) x (Nat.le_refl _) hx
  have e : x.1 = r := e
  have h1 : x.1.length < 0 + (pre [] n).length := h1
  refine ⟨by omega, fun i hi => ?_⟩
  have h2 : 0 ≤ i ∧ i < ((pre [] n).length : Int) := hr i (e ▸ hi)
  unfold Bd
  omega
theorem intL_small {z : Int} (h : Bd 30 z) : (intL z).length ≤ 12 := by
  have := numL_len 10 z.natAbs (Nat.lt_of_lt_of_le h (by decide))
  unfold intL
  split
  · rw [List.length_cons]
    omega
  · omega
theorem intL_big {z : Int} (h : Bd 3400 z) : (intL z).length ≤ 1026 := by
  have := numL_len 1024 z.natAbs (Nat.lt_of_lt_of_le h (by decide +kernel))
  unfold intL
  split
  · rw [List.length_cons]
    omega
  · omega
theorem fracT_big {q : Int × Int} (h : Ok 3400 q) : (fracT q).length ≤ 2060 := by
  have h1 := intL_big h.b1
  have h2 := intL_big h.b2
  unfold fracT
  split
  · omega
  · rw [List.length_append, List.length_cons]
    omega
theorem pathT_len {p : List Int} (hl : p.length ≤ 1000) (hb : ∀ i ∈ p, Bd 30 i) : (pathT p).length ≤ 13 * p.length + 1 := by
  unfold pathT
  split
  · simp
  · have h1 := joinL_len 46 (p.map intL)
    have h2 := sum_len (b := 12) (p.map intL) fun l hl => by
      obtain ⟨k, hk, rfl⟩ := List.mem_map.mp hl
      exact intL_small (hb k hk)
    rw [List.length_map] at h1 h2
    omega
theorem flat2_len {α β : Type} {f g : α → β} (l : List α) : (l.flatMap fun r => [f r, g r]).length = 2 * l.length := by
  induction l with
  | nil => rfl
  | cons a l ih =>
    rw [List.flatMap_cons, List.length_append, ih]
    simp
    omega
theorem wordsE_len {p : List Int} {ps : List Pr} (hl : p.length ≤ 40) (hb : ∀ i ∈ p, Bd 30 i) (gl : ps.length ≤ 4) (pb : ∀ r ∈ ps, PrB r) : ((wordsE p ps).map List.length).sum + (wordsE p ps).length ≤ 30000 := by
  have e : (wordsE p ps).length = 2 + 2 * ps.length := by
    unfold wordsE
    rw [List.length_cons, List.length_cons, flat2_len]
    omega
  have := sum_len (b := 2060) (wordsE p ps) fun l hx => by
    unfold wordsE at hx
    rcases List.mem_cons.mp hx with rfl | hx
    · simp [momentW]
    · rcases List.mem_cons.mp hx with rfl | hx
      · have := pathT_len (p := p) (by omega) hb
        omega
      · obtain ⟨r, hr, hx⟩ := List.mem_flatMap.mp hx
        rcases List.mem_cons.mp hx with rfl | hx
        · exact fracT_big (pb r hr).1
        · rw [List.mem_singleton.mp hx]
          exact fracT_big (pb r hr).2
  rw [e] at this ⊢
  omega
theorem join_nil (ls : List (List Nat)) : Txt.join (SX.S []) (ls.map SX.S) = SX.S ls.flatten := by
  rw [TL.join_eq]
  refine TL.ext_tl ?_
  rw [TL.tl_join, joinL_nil, List.map_map]
  show (ls.map fun l => tl (SX.S l)).flatten = _
  congr 1
  exact List.map_id _
theorem linesM_len {K : PySem.W.Frag} {H : Hp} {v : V} {g : Int} {n : Node} (G : Good g n) (M : Mk K H v g n) : ((linesM g n).map List.length).sum ≤ 2000000 := by
  have h40 := good_len G
  have g1 : 1 ≤ g ∧ g ≤ 4 := Decidable.byContradiction fun z => G.1 (.inl z)
  have := sum_len (b := 40000) (linesM g n) fun l hl => by
    rcases List.mem_cons.mp hl with rfl | hl
    · have := intL_small (z := g) (by unfold Bd; omega)
      unfold lineG
      rw [List.length_append, List.length_append, List.length_append]
      simp [goodsW]
      omega
    · obtain ⟨x, hx, rfl⟩ := List.mem_map.mp hl
      obtain ⟨e, em, rfl⟩ := List.mem_map.mp hx
      obtain ⟨gp1, gp2⟩ := good_path G em
      have gl : e.2.ps.length ≤ 4 := by
        have : (e.2.ps.length : Int) = g - 1 := Decidable.byContradiction fun z => G.1 (.inr (.inl ⟨e, em, .inl z⟩))
        omega
      have wl := wordsE_len gp1 gp2 gl (M.b e em)
      have jl := joinL_len 32 (wordsE e.1 e.2.ps)
      show (TL.joinL [32] (wordsE e.1 e.2.ps) ++ [10]).length ≤ _
      rw [List.length_append]
      simp only [List.length_cons, List.length_nil]
      omega
  have e : (linesM g n).length = 1 + (pre [] n).length := by
    unfold linesM entE
    rw [List.length_cons, List.length_map, List.length_map]
    omega
  rw [e] at this
  omega
section
variable {P : Program} {w : World} {K : PySem.W.Frag} {mg : Str → Option Value} {base : Heap}
def sp_wpath (K : PySem.W.Frag) : Sp := fun vs H Q _ => ∃ (v : V) (p : List Int), vs = [v] ∧ DT K H v (pathD p) ∧ p.length ≤ 1000 ∧ (∀ i ∈ p, Bd 30 i) ∧ ∀ H', Same H H' → Q (.str (SX.S (pathT p))) H'
theorem ok__write_path (T : Top K mg) : FnOk P w K mg base CX0 2 T.a__write_path T.d__write_path ["path"] (sp_wpath K) := by
  refine T._write_path_F.ok sc__write_path (fun vs H Q E h => ?_) (fun cdv A outer s H vs Q E hr h => ?_)
  · obtain ⟨_, _, rfl, _⟩ := h
    rfl
  · obtain ⟨v, p, rfl, dv, hl, hb, fin⟩ := h
    obtain ⟨a, rfl, ha⟩ := id dv.path_inv
    refine ⟨_, (pss_cons (ps_if (pt_cmpR (op_eqD hr.units) (pv 0) (pe_tup pa_nil) (nomark _)) (pss_one (ps_ret pe_str)) pss_nil)
      (pss_one (ps_ret (pe_m1 PySem.F.slot_str_join PySem.F.type_str_join mt_join pe_str (pe_lc (own := [("index", 1)]) (g := (gName 1)) (tt := tYes) (by rfl) sc__write_path.nd (pi_tup (pv 0)) (blkOk_by (own := [("index", 1)]) (N := ["path", "index"]) (sc := defScope s__write_path) (by decide +kernel)) (fun _ _ _ _ _ => (pg_name (i := 1) sc__write_path.nd rfl (Or.inl rfl))) (fun _ _ _ _ _ => pts_nil) (fun _ _ _ _ _ => (pe_call (ok_write_integer T) (hr.mono (by decide : 1 ≤ 1)) (by rfl) T.g_write_integer T.write_integer_F.kp T.write_integer_b .nil pass0 (pa_cons (pv 1) pa_nil)))))))), ?_⟩
    refine ⟨_, rfl, Nat.zero_le _, fun p1 h1 => ?_⟩
    have u1 := same_new (o := .tup []) h1
    have d1 : DT K (upd H p1 (.tup [])) (.ref p1) (pathD []) := DT.path (Tp.of upd_same)
    refine ⟨_, _, (dv.same u1).dp, d1.dp, (sh_path _).shaped, (sh_path _).shaped, _, rfl, ?_⟩
    rw [eqv_path]
    by_cases e : p = []
    · refine if_true_of' (decide_eq_true e) ?_
      rw [show Str.ofString "-" = SX.S (pathT p) from by rw [pathT, if_pos e]; exact lit _ _ (by decide)]
      exact fin _ u1
    · refine if_false_of' (decide_eq_false e) ?_
      have ha1 := tp_same u1 ha
      have lp : (p.map V.int).length = p.length := List.length_map _
      refine ⟨⟨_, rfl⟩, _, rfl, a, rfl, ⟨_, ha1.sq⟩, fun D hD => lc_tup (K := K) (a := a) (xs := p.map V.int) (fun i H' => Same (upd H p1 (.tup [])) H' ∧ H' D = some (.lst ((p.take i).map fun k => V.str (SX.S (intL k))))) ⟨same_new hD, upd_same⟩ (fun i H' _ ⟨sm, _⟩ => (tp_same sm ha1).sq) ?_ ?_⟩
      · rintro i x H' hi ⟨sm, hO⟩
        rw [List.getElem?_map] at hi
        obtain ⟨k, hk, rfl⟩ := Option.map_eq_some_iff.mp hi
        refine ⟨rfl, ?_⟩
        dsimp only [tYes]
        rw [if_pos rfl]
        refine ⟨_, rfl, k, rfl, (hb k (List.mem_of_getElem? hk)).mono (by decide), fun H2 s2 => ?_⟩
        have hO2 := s2 _ _ hO
        refine ⟨_, hO2, ?_, same_mut (sm.trans s2) hD, ?_⟩
        · rw [List.length_map]
          exact Nat.lt_of_le_of_lt (List.length_take_le' _ _) (small1000 (by omega))
        · rw [upd_same, take_next hk, List.map_append]
          rfl
      · rintro H2 ⟨s2, hO⟩
        rw [lp, List.take_length] at hO
        have ed : Str.ofString "." = SX.S [46] := lit _ _ (by decide)
        rw [ed]
        refine ⟨_, D, (p.map intL).map SX.S, rfl, rfl, .inl (SqL.of (by rw [List.map_map, List.map_map]; exact hO)), ?_, ?_⟩
        · rw [lens_S, List.length_map, List.length_map, SX.S_len]
          have := sum_len (b := 12) (p.map intL) fun l hl => by
            obtain ⟨k, hk, rfl⟩ := List.mem_map.mp hl
            exact intL_small (hb k hk)
          rw [List.length_map] at this
          show _ + _ * 1 ≤ _
          omega
        · rw [join_c, show TL.joinL [46] (p.map intL) = pathT p from by rw [pathT, if_neg e]]
          exact fin _ (u1.trans s2)
def sp_wm (K : PySem.W.Frag) : Sp := fun vs H Q _ => ∃ (v : V) (g : Int) (n : Node), vs = [v] ∧ Mk K H v g n ∧ Good g n ∧ ∀ H', Same H H' → Q (.str (SX.S (textM g n))) H'
theorem ok_write_market (T : Top K mg) : FnOk P w K mg base (L2.CX P w) 4 T.a_write_market T.d_write_market ["market"] (sp_wm K) := by
  refine T.write_market_F.okX sc_write_market (fun vs H Q E h => ?_) (fun cdv A outer s H vs Q E hr h => ?_)
  · obtain ⟨_, _, _, rfl, _⟩ := h
    rfl
  · obtain ⟨v, g, n, rfl, M, G, fin⟩ := h
    refine ⟨_, (pss_cons (ps_expr (pe_callS (ok_check_market T) (hr.mono (by decide : 3 ≤ 3)) rfl T.g_check_market T.check_market_F.kp T.check_market_b (fun σ => passAt (takes_of rfl rfl rfl rfl) σ) (pa_cons (pv 0) pa_nil)))
      (pss_cons (ps_asg (pv 0) (pg_tup rfl (pgs_cons (pg_name (i := 1) sc_write_market.nd rfl (Or.inl rfl)) (pgs_cons (pg_name (i := 2) sc_write_market.nd rfl (Or.inl rfl)) pgs_nil))))
      (pss_cons (ps_set (i := 3) sc_write_market.nd rfl (Or.inl rfl) (pe_lst (pa_cons (pe_op op_add_str (pe_op op_add_str pe_str (pe_call (ok_write_integer T) (hr.mono (by decide : 1 ≤ 3)) (by rfl) T.g_write_integer T.write_integer_F.kp T.write_integer_b .nil pass0 (pa_cons (pv 1) pa_nil))) pe_str) pa_nil)))
      (pss_cons (ps_for (passes_of rfl) rfl (pi_list (pe_call (ok_walk T) (hr.mono (by decide : 1 ≤ 3)) (by rfl) T.g_walk T.walk_F.kp T.walk_b .nil pass0 (pa_cons (pv 0) pa_nil))) (pg_tup rfl (pgs_cons (pg_name (i := 4) sc_write_market.nd rfl (Or.inl rfl)) (pgs_cons (pg_name (i := 5) sc_write_market.nd rfl (Or.inl rfl)) pgs_nil))) (pss_cons (ps_set (i := 6) sc_write_market.nd rfl (Or.inl rfl) (pe_lst (pa_cons pe_str (pa_cons (pe_call (ok__write_path T) (hr.mono (by decide : 2 ≤ 3)) (by rfl) T.g__write_path T._write_path_F.kp T._write_path_b .nil pass0 (pa_cons (pv 4) pa_nil)) pa_nil))))
      (pss_cons (ps_for (passes_of rfl) rfl (pi_tup (pe_ix ix_tup (pv 5) pe_int (fun _ _ => rfl))) (pg_tup rfl (pgs_cons (pg_name (i := 7) sc_write_market.nd rfl (Or.inl rfl)) (pgs_cons (pg_name (i := 8) sc_write_market.nd rfl (Or.inl rfl)) pgs_nil))) (pss_one (ps_expr (pe_bm PySem.F.plainAttrs_list PySem.F.slot_list_extend PySem.F.type_list_extend mt_extend (pv 6) (pa_cons (pe_lst (pa_cons (pe_call (ok_write_fraction T) (hr.mono (by decide : 2 ≤ 3)) (by rfl) T.g_write_fraction T.write_fraction_F.kp T.write_fraction_b .nil pass0 (pa_cons (pv 7) pa_nil)) (pa_cons (pe_call (ok_write_fraction T) (hr.mono (by decide : 2 ≤ 3)) (by rfl) T.g_write_fraction T.write_fraction_F.kp T.write_fraction_b .nil pass0 (pa_cons (pv 8) pa_nil)) pa_nil))) pa_nil)))))
      (pss_one (ps_expr (pe_bm PySem.F.plainAttrs_list PySem.F.slot_list_append PySem.F.type_list_append mt_append (pv 3) (pa_cons (pe_op op_add_str (pe_m1 PySem.F.slot_str_join PySem.F.type_str_join mt_join pe_str (pv 6)) pe_str) pa_nil)))))))
      (pss_one (ps_ret (pe_m1 PySem.F.slot_str_join PySem.F.type_str_join mt_join pe_str (pv 3)))))))), ?_⟩
    refine ⟨_, rfl, v, g, n, rfl, M.d, M.b, M.l, fun z => (G.1 z).elim, fun _ z => (G.2 z).elim, fun _ _ H1 s1 => ?_⟩
    have M1 := M.same s1
    obtain ⟨am, vn, rfl, ham, dn⟩ := id M1.d.market_inv
    have g1 : 1 ≤ g ∧ g ≤ 4 := Decidable.byContradiction fun z => G.1 (.inl z)
    refine ⟨_, rfl, _, _, rfl, ham.sq, rfl, _, _, rfl, _, _, rfl, rfl, ?_⟩
    have eG : Str.ofString "goods " = SX.S (goodsW ++ [32]) := lit _ _ (by decide)
    have eN : Str.ofString "\n" = SX.S [10] := lit _ _ (by decide)
    rw [eG, eN]
    refine ⟨_, rfl, g, rfl, Bd.mono (k := 30) (by unfold Bd; omega) (by decide), fun H2 s2 => ?_⟩
    have lg := intL_small (z := g) (by unfold Bd; omega)
    refine ⟨_, _, rfl, rfl, by rw [SX.S_len, SX.S_len]; exact len1000 (by simp [goodsW]; omega), ?_⟩
    rw [SX.S_cat]
    refine ⟨_, _, rfl, rfl, by rw [SX.S_len, SX.S_len]; exact len1000 (by simp [goodsW]; omega), ?_⟩
    rw [SX.S_cat, show goodsW ++ [32] ++ intL g ++ [10] = lineG g from rfl]
    refine ⟨(by decide : 1 ≤ sizeLine), fun pl hpl => ?_⟩
    have u3 := same_new (o := .lst [.str (SX.S (lineG g))]) hpl
    have hL3 : (upd H2 pl (.lst [.str (SX.S (lineG g))])) pl = some (.lst ([lineG g].map fun l => V.str (SX.S l))) := upd_same
    have s13 := s2.trans u3
    have M3 := M1.same s13
    have s03 := s1.trans s13
    have nl : ∀ b o, H1 b = some o → b ≠ pl := fun b o e z => by
      have := s2 _ _ e
      rw [z, hpl] at this
      cases this
    generalize hH3 : (upd H2 pl (.lst [.str (SX.S (lineG g))])) = H3 at *
    refine ⟨_, rfl, _, g, n, rfl, M3.d, M.l, fun pn xn H4 s4 fpn hN dN => ?_⟩
    have hL4 := s4 _ _ hL3
    have ln : xn.length = (pre [] n).length := by rw [dN.len, List.length_map]
    have l40 := good_len G
    have npl : pn ≠ pl := fun z => by
      rw [z, hL3] at fpn
      cases fpn
    refine ⟨pn, rfl, ⟨_, SqL.of hN⟩, for_list (K := K) (a := pn) (xs := xn) (fun i σ H' => ∃ y4 y5 y6 y7 y8 : Option V, σ = [some (.ref am), some (.int g), some vn, some (.ref pl), y4, y5, y6, y7, y8] ∧ Xt pl H4 H' ∧ H' pl = some (.lst ((lineG g :: ((entE n).take i).map lineE).map fun l => V.str (SX.S l)))) ⟨_, _, _, _, _, rfl, Xt.refl _, hL4⟩ (fun i σ H' _ ⟨_, _, _, _, _, _, xm, _⟩ => SqL.of (xm _ _ npl hN)) ?_ ?_⟩
    · rintro i x σ H5 hi ⟨y4, y5, y6, y7, y8, rfl, x5, hL5⟩
      obtain ⟨d, hd, dx⟩ := dN.get hi
      rw [List.getElem?_map] at hd
      obtain ⟨e, he, rfl⟩ := Option.map_eq_some_iff.mp hd
      have em := List.mem_of_getElem? he
      have hlt := (List.getElem?_eq_some_iff.mp he).1
      have iL4 : IsL H4 pl := ⟨_, hL4⟩
      obtain ⟨b, vp, vk, rfl, hb2, dp, dk⟩ := (dx.xt iL4 x5).entD_inv
      obtain ⟨c, vq, vc, rfl, hc, dq, dc⟩ := dk.node_inv
      obtain ⟨gp1, gp2⟩ := good_path G em
      refine ⟨_, _, rfl, hb2.sq, rfl, _, _, rfl, _, _, rfl, rfl, ?_⟩
      have pb : ∀ r ∈ e.2.ps, PrB r := fun r hr => M.b e em r hr
      have gl : e.2.ps.length ≤ 4 := by
        have : (e.2.ps.length : Int) = g - 1 := Decidable.byContradiction fun z => G.1 (.inr (.inl ⟨e, em, .inl z⟩))
        omega
      have eM : Str.ofString "moment" = SX.S momentW := lit _ _ (by decide)
      rw [eM]
      refine ⟨_, rfl, vp, e.1, rfl, dp, by omega, gp2, fun H6 s6 => ⟨(by decide : 2 ≤ sizeLine), fun pw hpw => ?_⟩⟩
      have u7 := same_new (o := .lst [.str (SX.S momentW), .str (SX.S (pathT e.1))]) hpw
      have hW7 : (upd H6 pw (.lst [.str (SX.S momentW), .str (SX.S (pathT e.1))])) pw = some (.lst ((momentW :: pathT e.1 :: ((e.2.ps.take 0).flatMap fun r => [fracT r.1, fracT r.2])).map fun l => V.str (SX.S l))) := upd_same
      have s57 := s6.trans u7
      have hL7 := s57 _ _ hL5
      have npw : pl ≠ pw := fun z => by
        have := s6 _ _ hL5
        rw [z, hpw] at this
        cases this
      have dq7 := dq.same s57
      have hc7 := tp_same s57 hc
      generalize hH7 : (upd H6 pw (.lst [.str (SX.S momentW), .str (SX.S (pathT e.1))])) = H7 at *
      obtain ⟨aq, xq, rfl, haq, hxq⟩ := dq7.inv
      have lq : xq.length = e.2.ps.length := by rw [hxq.len, List.length_map]
      refine ⟨_, rfl, c, [.ref aq, vc], 0, .ref aq, rfl, rfl, hc7.sq, rfl, aq, rfl, ⟨_, haq.sq⟩, for_tup (K := K) (a := aq) (xs := xq) (fun i σ H' => ∃ y7 y8 : Option V, σ = [some (.ref am), some (.int g), some vn, some (.ref pl), some vp, some (.ref c), some (.ref pw), y7, y8] ∧ Xt pw H7 H' ∧ H' pw = some (.lst ((momentW :: pathT e.1 :: ((e.2.ps.take i).flatMap fun r => [fracT r.1, fracT r.2])).map fun l => V.str (SX.S l)))) ⟨_, _, rfl, Xt.refl _, hW7⟩ (fun i σ H' _ ⟨_, _, _, xm, _⟩ => ?_) ?_ ?_⟩
      · exact (tp_xt ⟨_, hW7⟩ xm haq).sq
      · rintro j x σ H8 hj ⟨y7, y8, rfl, x8, hW8⟩
        have iW : IsL H7 pw := ⟨_, hW7⟩
        obtain ⟨d, hd, dx⟩ := hxq.get hj
        rw [List.getElem?_map] at hd
        obtain ⟨r, hr2, rfl⟩ := Option.map_eq_some_iff.mp hd
        obtain ⟨b2, f1, f2, rfl, hb3, d1, d2⟩ := (dx.xt iW x8).inv2
        have pr := pb r (List.mem_of_getElem? hr2)
        have iW8 : IsL H8 pw := ⟨_, hW8⟩
        refine ⟨_, _, rfl, hb3.sq, rfl, _, _, rfl, _, _, rfl, rfl, ?_⟩
        refine ⟨_, rfl, .inl ⟨rfl, _, .of hW8⟩, _, rfl, f1, r.1, rfl, d1, Bd.mono (k := 3400) pr.1.b1 (by decide), Bd.mono (k := 3400) pr.1.b2 (by decide), fun H9 s9 => ?_⟩
        refine ⟨_, rfl, f2, r.2, rfl, d2.same s9, Bd.mono (k := 3400) pr.2.b1 (by decide), Bd.mono (k := 3400) pr.2.b2 (by decide), fun H10 s10 => ?_⟩
        have hW10 := s10 _ _ (s9 _ _ hW8)
        refine ⟨(by decide : 2 ≤ sizeLine), fun pz hpz => ?_⟩
        have uz := same_new (o := .lst [.str (SX.S (fracT r.1)), .str (SX.S (fracT r.2))]) hpz
        have hWz := uz _ _ hW10
        have npz : pz ≠ pw := fun z => by
          rw [z, hW10] at hpz
          cases hpz
        refine ⟨pw, pz, _, _, rfl, rfl, hWz, upd_same, ?_, _, _, rfl, ?_, ?_⟩
        · rw [List.length_map, List.length_cons, List.length_cons, flat2_len]
          have := List.length_take_le' j e.2.ps
          show _ + 2 ≤ _
          exact len1000 (by omega)
        · exact (x8.trans (Xt.of (s9.trans (s10.trans uz)))).trans Xt.upd
        · rw [upd_same, take_next hr2, List.flatMap_append]
          simp
      · rintro σ H8 ⟨y7, y8, rfl, x8, hW8⟩
        rw [lq, List.take_length] at hW8
        have hW8 : H8 pw = some (.lst ((wordsE e.1 e.2.ps).map fun l => V.str (SX.S l))) := hW8
        have eS : Str.ofString " " = SX.S [32] := lit _ _ (by decide)
        rw [eS]
        have hL8 := x8 _ _ npw hL7
        have wl := wordsE_len gp1 gp2 gl pb
        refine ⟨_, rfl, .inl ⟨rfl, _, .of hL8⟩, ⟨_, rfl⟩, _, rfl, _, pw, (wordsE e.1 e.2.ps).map SX.S, rfl, rfl, .inl (SqL.of (by rw [List.map_map]; exact hW8)), ?_, ?_⟩
        · rw [lens_S, List.length_map, SX.S_len]
          show _ + _ * 1 ≤ _
          omega
        · rw [join_c]
          have jl := joinL_len 32 (wordsE e.1 e.2.ps)
          refine ⟨_, _, rfl, rfl, ?_, ?_⟩
          · rw [SX.S_len, SX.S_len]
            exact Nat.le_trans (m := 40000) (by simp only [List.length_cons, List.length_nil]; omega) (by decide)
          · rw [SX.S_cat, show TL.joinL [32] (wordsE e.1 e.2.ps) ++ [10] = lineE (e.1, e.2.ps) from rfl]
            refine ⟨pl, _, _, rfl, rfl, hL8, ?_, _, _, _, _, _, rfl, ?_, ?_⟩
            · rw [List.length_map, List.length_cons, List.length_map]
              have := List.length_take_le' i (entE n)
              have : (entE n).length = (pre [] n).length := List.length_map _
              exact small1000 (by omega)
            · refine (x5.trans ?_).trans Xt.upd
              exact fun b o nb hb => x8 _ _ (fun z => by
                have := s6 _ _ hb
                rw [z, hpw] at this
                cases this) (s57 _ _ hb)
            · rw [upd_same, take_next (x := (e.1, e.2.ps)) (show (entE n)[i]? = _ by unfold entE; rw [List.getElem?_map, he]; rfl)]
              simp
    · rintro σ H5 ⟨y4, y5, y6, y7, y8, rfl, x5, hL5⟩
      have le : (entE n).length = xn.length := by rw [ln]; exact List.length_map _
      rw [← le, List.take_length] at hL5
      have ee : Str.ofString "" = SX.S [] := rfl
      rw [ee]
      have nlw := linesM_len G M
      refine ⟨⟨_, rfl⟩, _, rfl, _, pl, (linesM g n).map SX.S, rfl, rfl, .inl (SqL.of (by rw [List.map_map]; exact hL5)), ?_, ?_⟩
      · rw [lens_S, List.length_map, SX.S_len]
        show _ + _ * 0 ≤ _
        omega
      · rw [join_nil]
        refine fin _ fun b o hb => ?_
        have h3 := s03 _ _ hb
        exact x5 _ _ (nl b o (s1 _ _ hb)) (s4 _ _ h3)
end
end Nl

namespace Nl
open PySem PySem.Spec PyProof.Rows L2
open TL (tl numL)
open PySem.NumText
/-! ### a text, cut at one sign -/
def cut (c : Nat) (cs : List Nat) : List (List Nat) := TL.spl [c] 0 [] cs
theorem cut_split {c : Nat} (hc : c < 256) (cs : List Nat) : Txt.split (SX.S cs) (SX.S [c]) = (cut c cs).map SX.S := by
  refine TL.map_tl_inj ?_
  rw [TL.split_spl _ _ (by show ([c] : List Nat) ≠ []; simp) (TL.kind_ok (by show #[c].all (· < 256) = true; simpa using hc)), List.map_map]
  exact (List.map_id _).symm
theorem cut_none {c : Nat} {cs : List Nat} (h : c ∉ cs) : cut c cs = [cs] := TL.spl_last1 (S := []) (acc := []) h
theorem cut_some {c : Nat} {a b : List Nat} (h : c ∉ a) : cut c (a ++ c :: b) = a :: cut c b := TL.spl_part1 (S := []) (acc := []) h
theorem cut_cases (c : Nat) (cs : List Nat) : c ∉ cs ∨ ∃ a b, cs = a ++ c :: b ∧ c ∉ a := by
  induction cs with
  | nil => exact .inl (by simp)
  | cons x cs ih =>
    by_cases hx : x = c
    · subst hx
      exact .inr ⟨[], cs, rfl, by simp⟩
    · rcases ih with h | ⟨a, b, e, h⟩
      · exact .inl fun z => (List.mem_cons.mp z).elim (fun y => hx y.symm) h
      · exact .inr ⟨x :: a, b, by rw [e]; rfl, fun z => (List.mem_cons.mp z).elim (fun y => hx y.symm) h⟩
theorem cut_ind (c : Nat) {P : List Nat → Prop} (h0 : ∀ cs, c ∉ cs → P cs) (h1 : ∀ a b, c ∉ a → P b → P (a ++ c :: b)) : ∀ (n : Nat) (cs : List Nat), cs.length ≤ n → P cs
  | n, cs, hn => by
    rcases cut_cases c cs with h | ⟨a, b, e, h⟩
    · exact h0 cs h
    · subst e
      cases n with
      | zero => simp at hn
      | succ n => exact h1 a b h (cut_ind c h0 h1 n b (by simp at hn; omega))
theorem cut_all (c : Nat) (cs : List Nat) : cut c cs ≠ [] ∧ (∀ w ∈ cut c cs, c ∉ w ∧ w.length ≤ cs.length) ∧ TL.joinL [c] (cut c cs) = cs ∧ (cut c cs).length ≤ cs.length + 1 := by
  refine cut_ind c (P := fun cs => cut c cs ≠ [] ∧ (∀ w ∈ cut c cs, c ∉ w ∧ w.length ≤ cs.length) ∧ TL.joinL [c] (cut c cs) = cs ∧ (cut c cs).length ≤ cs.length + 1) (fun cs h => ?_) (fun a b h ⟨i1, i2, i3, i4⟩ => ?_) _ cs (Nat.le_refl _)
  · rw [cut_none h]
    refine ⟨by simp, fun w hw => ?_, rfl, by simp⟩
    rw [List.mem_singleton.mp hw]
    exact ⟨h, Nat.le_refl _⟩
  · rw [cut_some h]
    have hl : (a ++ c :: b).length = a.length + (b.length + 1) := by simp
    refine ⟨by simp, fun w hw => ?_, ?_, by rw [hl, List.length_cons]; omega⟩
    · rw [hl]
      rcases List.mem_cons.mp hw with rfl | hw
      · exact ⟨h, by omega⟩
      · have := i2 w hw
        exact ⟨this.1, by omega⟩
    · cases hb : cut c b with
      | nil => exact absurd hb i1
      | cons q r =>
        rw [hb] at i3
        rw [TL.joinL, i3]
        rfl
theorem cut_ne (c : Nat) (cs : List Nat) : cut c cs ≠ [] := (cut_all c cs).1
theorem cut_free {c : Nat} {cs w : List Nat} (h : w ∈ cut c cs) : c ∉ w := ((cut_all c cs).2.1 w h).1
theorem cut_wl {c : Nat} {cs w : List Nat} (h : w ∈ cut c cs) : w.length ≤ cs.length := ((cut_all c cs).2.1 w h).2
theorem cut_join (c : Nat) (cs : List Nat) : TL.joinL [c] (cut c cs) = cs := (cut_all c cs).2.2.1
theorem cut_len (c : Nat) (cs : List Nat) : (cut c cs).length ≤ cs.length + 1 := (cut_all c cs).2.2.2
theorem join_cut {c : Nat} {ps : List (List Nat)} (h : ps ≠ []) (hf : ∀ p ∈ ps, c ∉ p) : cut c (TL.joinL [c] ps) = ps := TL.spl_join h hf
end Nl

namespace Nl
open PySem PySem.Spec PyProof.Rows L2
open TL (tl numL)
open PySem.NumText
/-! ### numbers of at most nine digits -/
def IdxOk (cs : List Nat) : Prop := cs.length ≤ 9 ∧ NatT cs
theorem idx_of {cs : List Nat} (h : IdxOk cs) : 0 ≤ (digitsVal cs : Int) ∧ (digitsVal cs : Int) < 1000000000 ∧ intL (digitsVal cs) = cs := by
  have := val_lt h.2.all
  have : 10 ^ cs.length ≤ 10 ^ 9 := Nat.pow_le_pow_right (by decide) h.1
  refine ⟨by omega, by omega, ?_⟩
  rw [intL_pos (by omega), Int.natAbs_natCast]
  exact numL_val h.2
theorem idx_to {k : Int} (h0 : 0 ≤ k) (h1 : k < 1000000000) : IdxOk (intL k) ∧ (digitsVal (intL k) : Int) = k := by
  rw [intL_pos h0]
  refine ⟨⟨numL_len 8 _ (by omega), natT_numL _⟩, ?_⟩
  rw [val_numL]
  omega
/-- a path's text -/
def PathOk (cs : List Nat) (p : List Int) : Prop := pathT p = cs ∧ ∀ i ∈ p, 0 ≤ i ∧ i < 1000000000
theorem idx_dot {w : List Nat} (h : IdxOk w) : 46 ∉ w ∧ 45 ∉ w := ⟨fun z => by
  have := h.2.all 46 z
  omega, fun z => by
  have := h.2.all 45 z
  omega⟩
theorem joinL_ne45 {ps : List (List Nat)} (h : ∀ w ∈ ps, IdxOk w) : TL.joinL [46] ps ≠ [45] := fun e => by
  have hc : 45 ∈ TL.joinL [46] ps := by rw [e]; simp
  revert hc
  clear e
  induction ps with
  | nil => simp [TL.joinL]
  | cons p ps ih =>
    have hp := idx_dot (h p (by simp))
    have ih := ih fun w hw => h w (List.mem_cons_of_mem _ hw)
    cases ps with
    | nil => exact hp.2
    | cons q r =>
      intro z
      rw [TL.joinL] at z
      rcases List.mem_append.mp z with z | z
      · exact hp.2 z
      · rcases List.mem_append.mp z with z | z
        · simp at z
        · exact ih z
theorem path_no {cs : List Nat} (h1 : cs ≠ [45]) (h : ¬ ∀ w ∈ cut 46 cs, IdxOk w) (p : List Int) : ¬ PathOk cs p := fun ⟨e, hp⟩ => by
  unfold pathT at e
  split at e
  · exact h1 e.symm
  · rename_i hn
    refine h fun w hw => ?_
    rw [← e, join_cut (by simpa using hn)] at hw
    · obtain ⟨k, hk, rfl⟩ := List.mem_map.mp hw
      exact (idx_to (hp k hk).1 (hp k hk).2).1
    · intro q hq
      obtain ⟨k, hk, rfl⟩ := List.mem_map.mp hq
      exact (idx_dot (idx_to (hp k hk).1 (hp k hk).2).1).1
theorem path_yes {cs : List Nat} (h : ∀ w ∈ cut 46 cs, IdxOk w) : PathOk cs ((cut 46 cs).map fun w => (digitsVal w : Int)) := by
  refine ⟨?_, fun i hi => ?_⟩
  · unfold pathT
    rw [if_neg (by simpa using cut_ne 46 cs), List.map_map]
    rw [show (cut 46 cs).map (intL ∘ fun w => (digitsVal w : Int)) = cut 46 cs from ?_, cut_join]
    conv => rhs; rw [← List.map_id (cut 46 cs)]
    exact List.map_congr_left fun w hw => (idx_of (h w hw)).2.2
  · obtain ⟨w, hw, rfl⟩ := List.mem_map.mp hi
    exact ⟨(idx_of (h w hw)).1, (idx_of (h w hw)).2.1⟩
theorem path_dash : PathOk [45] [] := ⟨rfl, fun i hi => by cases hi⟩
section
variable {P : Program} {w : World} {K : PySem.W.Frag} {mg : Str → Option Value} {base : Heap}
def sp_rnat (Z : Addr) : Sp := fun vs H Q E => ∃ cs : List Nat, vs = [.str (SX.S cs)] ∧ cs.length ≤ 1000000 ∧ (¬ IdxOk cs → E (.ref Z) none H) ∧ (IdxOk cs → Q (.int (digitsVal cs)) H)
theorem ok_read_natural (T : Top K mg) (nd : base.NoDigits) : FnOk P w K mg base (L2.CX P w) 2 T.a_read_natural T.d_read_natural ["text"] (sp_rnat T.c_TextError) := by
  refine T.read_natural_F.okX sc_read_natural (fun vs H Q E h => ?_) (fun cdv A outer s H vs Q E hr h => ?_)
  · obtain ⟨_, rfl, _⟩ := h
    rfl
  · obtain ⟨cs, rfl, hl, kE, kQ⟩ := h
    refine ⟨_, (pss_cons (ps_if (PW.pt (pw_or (pt_cmpR op_gt (pe_callB call_len_str (by rfl) T.n_len (by decide +kernel) (pa_cons (pv 0) pa_nil)) (pe_glob (v := .int 9) (by rfl) T.g_DIGIT_LIMIT ⟨_, rfl⟩) (nomark _)) (pw_or1 (pt_not (pt_val (pe_call (ok_is_natural T) (hr.mono (by decide : 1 ≤ 1)) (by rfl) T.g_is_natural T.is_natural_F.kp T.is_natural_b .nil pass0 (pa_cons (pv 0) pa_nil))))))) (pss_one (ps_raise rfl (takes_of rfl rfl rfl rfl) (pmk_own PySem.F.excBase_ValueError T.x_TextError T.g_TextError T.k_TextError (raises_own T.b_TextError T.t_TextError) rfl))) pss_nil)
      (pss_one (ps_ret (pe_callTy (call_int_long nd) (by rfl) T.n_int (by decide +kernel) (pa_cons (pv 0) pa_nil))))), ?_⟩
    refine ⟨_, rfl, _, rfl, by rw [SX.S_len]; exact Nat.le_trans hl (by decide), ?_⟩
    rw [SX.S_len]
    refine ⟨_, _, rfl, rfl, _, rfl, ite2 (fun c => ?_) (fun c => ?_)⟩
    · refine if_true_of' rfl ?_
      have c : (9 : Int) < (cs.length : Int) := of_decide_eq_true c
      exact kE fun z => by have := z.1; omega
    · have c : ¬ (9 : Int) < (cs.length : Int) := fun z => c (decide_eq_true z)
      refine ⟨_, rfl, cs, rfl, by omega, fun hn => ?_, fun hn => ?_⟩
      · refine ⟨_, rfl, if_false_of' rfl ?_⟩
        have hs : NatT (stripL cs) := by rw [strip_digits hn.all]; exact hn
        obtain ⟨m1, m2⟩ := int_text hs (by omega)
        rw [intV_digits hn.all] at m1
        exact ⟨_, rfl, _, _, rfl, m1, by rw [SX.S_len]; omega, m2, kQ ⟨by omega, hn⟩⟩
      · refine ⟨_, rfl, if_true_of' rfl ?_⟩
        exact kE fun z => hn z.2
def sp_rpath (K : PySem.W.Frag) (Z : Addr) : Sp := fun vs H Q E => ∃ cs : List Nat, vs = [.str (SX.S cs)] ∧ cs.length ≤ 1000000 ∧ ((∀ p, ¬ PathOk cs p) → ∀ H', Same H H' → E (.ref Z) none H') ∧ (∀ p, PathOk cs p → ∀ v H', Same H H' → DT K H' v (pathD p) → Q v H')
theorem ok__read_path (T : Top K mg) (nd : base.NoDigits) : FnOk P w K mg base (L2.CX P w) 3 T.a__read_path T.d__read_path ["word"] (sp_rpath K T.c_TextError) := by
  refine T._read_path_F.okX sc__read_path (fun vs H Q E h => ?_) (fun cdv A outer s H vs Q E hr h => ?_)
  · obtain ⟨_, rfl, _⟩ := h
    rfl
  · obtain ⟨cs, rfl, hl, kE, kQ⟩ := h
    refine ⟨_, (pss_cons (ps_if (pt_cmpR op_eq (pv 0) pe_str (nomark _)) (pss_one (ps_ret (pe_tup pa_nil))) pss_nil)
      (pss_one (ps_ret (pe_callTy call_tupL (by rfl) T.n_tuple (by decide +kernel) (pa_cons (pe_lcX (own := [("index", 1)]) (g := (gName 1)) (tt := tYes) (by rfl) sc__read_path.nd rfl rfl (takes_of rfl rfl rfl rfl) (pi_list (pe_m1 PySem.F.slot_str_split PySem.F.type_str_split mt_split (pv 0) pe_str)) (blkOk_by (own := [("index", 1)]) (N := ["word", "index"]) (sc := defScope s__read_path) (by decide +kernel)) (fun _ _ _ _ _ => (pg_name (i := 1) sc__read_path.nd rfl (Or.inl rfl))) (fun _ _ _ _ _ => pts_nil) (fun _ _ _ _ _ _ tkb => (pe_callS (ok_read_natural T nd) (hr.mono (by decide : 2 ≤ 2)) rfl T.g_read_natural T.read_natural_F.kp T.read_natural_b (fun σ => passAt tkb σ) (pa_cons (pv 1) pa_nil)))) pa_nil))))), ?_⟩
    rw [show Str.ofString "-" = SX.S [45] from lit _ _ (by decide), show Str.ofString "." = SX.S [46] from lit _ _ (by decide)]
    refine ⟨_, rfl, rfl, _, rfl, ?_⟩
    rw [dstr]
    refine ite2 (fun c => ?_) (fun c => ?_)
    · have c := of_decide_eq_true c
      subst c
      refine ⟨Nat.zero_le _, fun p1 h1 => ?_⟩
      exact kQ [] path_dash _ _ (same_new h1) (DT.path (Tp.of upd_same))
    · have c : cs ≠ [45] := fun z => c (decide_eq_true z)
      refine ⟨_, rfl, ⟨_, rfl⟩, _, _, rfl, rfl, rfl, by rw [SX.S_len]; exact Nat.le_trans (m := 1000002) (by omega) (by decide), fun pw hpw => ?_⟩
      rw [cut_split (by decide)]
      have u1 := same_new (o := .lst (((cut 46 cs).map SX.S).map V.str)) hpw
      have hW1 : (upd H pw (.lst (((cut 46 cs).map SX.S).map V.str))) pw = some (.lst (((cut 46 cs).map SX.S).map V.str)) := upd_same
      generalize hH1 : (upd H pw (.lst (((cut 46 cs).map SX.S).map V.str))) = H1 at *
      have lw : (((cut 46 cs).map SX.S).map V.str).length = (cut 46 cs).length := by rw [List.length_map, List.length_map]
      have lw2 := cut_len 46 cs
      refine ⟨pw, rfl, ⟨_, SqL.of hW1⟩, fun D hD => lc_list (K := K) (a := pw) (xs := ((cut 46 cs).map SX.S).map V.str) (fun i H' => Same H1 H' ∧ (∀ w ∈ (cut 46 cs).take i, IdxOk w) ∧ H' D = some (.lst (((cut 46 cs).take i).map fun w => V.int (digitsVal w)))) ⟨same_new hD, fun w hw => by simp at hw, upd_same⟩ (fun i H' _ ⟨sm, _⟩ => SqL.of (sm _ _ hW1)) ?_ ?_⟩
      · rintro i x H' hi ⟨sm, hg, hO⟩
        rw [List.getElem?_map, List.getElem?_map] at hi
        obtain ⟨y, hy, rfl⟩ := Option.map_eq_some_iff.mp hi
        obtain ⟨w, hw, rfl⟩ := Option.map_eq_some_iff.mp hy
        have hm := List.mem_of_getElem? hw
        have hlt := (List.getElem?_eq_some_iff.mp hw).1
        have wl := cut_wl hm
        refine ⟨rfl, ?_⟩
        dsimp only [tYes]
        rw [if_pos rfl]
        refine ⟨_, rfl, w, rfl, by omega, fun hn => ?_, fun hn => ?_⟩
        · exact kE (path_no c fun z => hn (z w hm)) _ (u1.trans sm)
        · refine ⟨_, hO, ?_, same_mut sm hD, fun v hv => ?_, ?_⟩
          · rw [List.length_map]
            have := List.length_take_le' i (cut 46 cs)
            exact Nat.lt_of_lt_of_le (m := 1000002) (by omega) (by decide)
          · rw [take_next hw] at hv
            rcases List.mem_append.mp hv with hv | hv
            · exact hg v hv
            · rw [List.mem_singleton.mp hv]
              exact hn
          · rw [upd_same, take_next hw, List.map_append]
            rfl
      · rintro H2 ⟨s2, hg, hO⟩
        rw [lw, List.take_length] at hg hO
        refine ⟨D, _, rfl, SqL.of hO, fun p2 h2 => ?_⟩
        refine kQ _ (path_yes hg) _ _ ((u1.trans s2).trans (same_new h2)) (DT.path (Tp.of ?_))
        rw [upd_same, List.map_map]
        rfl
end
end Nl

namespace Nl
open PySem PySem.Spec PyProof.Rows L2
open TL (tl numL)
open PySem.NumText
def GoodsOk (cs : List Nat) (g : Int) : Prop := lineG g = cs ++ [10] ∧ 0 ≤ g ∧ g < 1000000000
theorem goods_yes {cs w : List Nat} (h : cut 32 cs = [goodsW, w]) (hw : IdxOk w) : GoodsOk cs (digitsVal w) := by
  have e := cut_join 32 cs
  rw [h] at e
  obtain ⟨h0, h1, h2⟩ := idx_of hw
  refine ⟨?_, h0, h1⟩
  unfold lineG
  rw [h2, ← e]
  simp [TL.joinL]
theorem goods_cut {cs : List Nat} {g : Int} (h : GoodsOk cs g) : ∃ w, cut 32 cs = [goodsW, w] ∧ IdxOk w := by
  obtain ⟨e, h0, h1⟩ := h
  have e1 : cs = goodsW ++ 32 :: intL g := by
    have := List.append_inj_left' e rfl
    rw [← this]
    simp
  have hi := (idx_to h0 h1).1
  refine ⟨intL g, ?_, hi⟩
  rw [e1, cut_some (by decide), cut_none fun z => ?_]
  have := hi.2.all 32 z
  omega
/-! ### pairs -/
def pairs2 : List (Int × Int) → List Pr
  | a :: b :: r => (a, b) :: pairs2 r
  | _ => []
theorem pairs2_len : ∀ (m : Nat) (qs : List (Int × Int)), qs.length = 2 * m → (pairs2 qs).length = m ∧ ((pairs2 qs).flatMap fun r => [fracT r.1, fracT r.2]) = qs.map fracT ∧ (∀ j a b, qs[2 * j]? = some a → qs[2 * j + 1]? = some b → (pairs2 qs)[j]? = some (a, b)) ∧ ∀ r ∈ pairs2 qs, r.1 ∈ qs ∧ r.2 ∈ qs
  | 0, qs, h => by
    have : qs = [] := List.length_eq_zero_iff.mp h
    subst this
    exact ⟨rfl, rfl, fun j a b e => by simp at e, fun r hr => by cases hr⟩
  | m + 1, qs, h => by
    match qs, h with
    | a :: b :: r, h =>
      obtain ⟨h1, h2, h3, h4⟩ := pairs2_len m r (by simp at h; omega)
      refine ⟨by rw [pairs2, List.length_cons, h1], by rw [pairs2, List.flatMap_cons, h2]; rfl, fun j x y e1 e2 => ?_, fun t ht => ?_⟩
      · cases j with
        | zero =>
          simp at e1 e2
          rw [pairs2, e1, e2]
          rfl
        | succ j =>
          rw [pairs2, List.getElem?_cons_succ]
          refine h3 j x y ?_ ?_
          · rw [← e1, show 2 * (j + 1) = 2 * j + 1 + 1 by omega, List.getElem?_cons_succ, List.getElem?_cons_succ]
          · rw [← e2, show 2 * (j + 1) + 1 = 2 * j + 1 + 1 + 1 by omega, List.getElem?_cons_succ, List.getElem?_cons_succ]
      · rw [pairs2] at ht
        rcases List.mem_cons.mp ht with rfl | ht
        · exact ⟨by simp, by simp⟩
        · have := h4 t ht
          exact ⟨List.mem_cons_of_mem _ (List.mem_cons_of_mem _ this.1), List.mem_cons_of_mem _ (List.mem_cons_of_mem _ this.2)⟩
theorem intL_sign (z : Int) : ∀ c ∈ intL z, c = 45 ∨ (48 ≤ c ∧ c ≤ 57) := natT_signs (by rw [intL_strip]; exact natT_numL _)
theorem fracT_sign (q : Int × Int) : ∀ c ∈ fracT q, c = 45 ∨ c = 47 ∨ (48 ≤ c ∧ c ≤ 57) := fun c hc => by
  unfold fracT at hc
  split at hc
  · exact (intL_sign _ c hc).elim .inl fun h => .inr (.inr h)
  · rcases List.mem_append.mp hc with hc | hc
    · exact (intL_sign _ c hc).elim .inl fun h => .inr (.inr h)
    · rcases List.mem_cons.mp hc with hc | hc
      · exact .inr (.inl hc)
      · exact (intL_sign _ c hc).elim .inl fun h => .inr (.inr h)
theorem join_sign {S : List Nat} : ∀ {ls : List (List Nat)} {c : Nat}, c ∈ TL.joinL S ls → c ∈ S ∨ ∃ l ∈ ls, c ∈ l
  | [], c, h => by cases h
  | [p], c, h => .inr ⟨p, by simp, h⟩
  | p :: q :: r, c, h => by
    rw [TL.joinL] at h
    rcases List.mem_append.mp h with h | h
    · exact .inr ⟨p, by simp, h⟩
    · rcases List.mem_append.mp h with h | h
      · exact .inl h
      · rcases join_sign h with h | ⟨l, hl, h⟩
        · exact .inl h
        · exact .inr ⟨l, List.mem_cons_of_mem _ hl, h⟩
theorem pathT_sign (p : List Int) : ∀ c ∈ pathT p, c = 45 ∨ c = 46 ∨ (48 ≤ c ∧ c ≤ 57) := fun c hc => by
  unfold pathT at hc
  split at hc
  · exact .inl (List.mem_singleton.mp hc)
  · rcases join_sign hc with h | ⟨l, hl, h⟩
    · exact .inr (.inl (List.mem_singleton.mp h))
    · obtain ⟨k, _, rfl⟩ := List.mem_map.mp hl
      exact (intL_sign _ c h).elim .inl fun h => .inr (.inr h)
theorem words_free (p : List Int) (ps : List Pr) : ∀ l ∈ wordsE p ps, 32 ∉ l ∧ 10 ∉ l := fun l hl => by
  unfold wordsE at hl
  rcases List.mem_cons.mp hl with rfl | hl
  · decide
  · rcases List.mem_cons.mp hl with rfl | hl
    · exact ⟨fun z => by have := pathT_sign p _ z; omega, fun z => by have := pathT_sign p _ z; omega⟩
    · obtain ⟨r, _, hl⟩ := List.mem_flatMap.mp hl
      rcases List.mem_cons.mp hl with rfl | hl
      · exact ⟨fun z => by have := fracT_sign r.1 _ z; omega, fun z => by have := fracT_sign r.1 _ z; omega⟩
      · rw [List.mem_singleton.mp hl]
        exact ⟨fun z => by have := fracT_sign r.2 _ z; omega, fun z => by have := fracT_sign r.2 _ z; omega⟩
theorem line_cut {cs : List Nat} {p : List Int} {ps : List Pr} (e : lineE (p, ps) = cs ++ [10]) : cut 32 cs = wordsE p ps := by
  have : TL.joinL [32] (wordsE p ps) = cs := List.append_inj_left' e rfl
  rw [← this]
  exact join_cut (by simp [wordsE]) fun l hl => (words_free p ps l hl).1
theorem cut_line {cs : List Nat} {p : List Int} {ps : List Pr} (e : cut 32 cs = wordsE p ps) : lineE (p, ps) = cs ++ [10] := by
  have := cut_join 32 cs
  rw [e] at this
  unfold lineE
  rw [this]
theorem cut2 (xs : List V) : cutV xs (some 2) none = xs.drop 2 := cut_drop xs 2
theorem rgc2 (m : Nat) (h : m ≤ 1000000) : RgC 0 ((2 * m : Nat) : Int) 2 m := by
  have e : Builtin.Range.rangeSize 0 ((2 * m : Nat) : Int) 2 = (m : Int) := by
    rw [PyProof.Rows.rangeSize_pos (by decide) (by omega)]
    omega
  refine ⟨by decide, by decide, ?_, e⟩
  unfold Builtin.Range.small
  rw [e]
  unfold Builtin.Range.rangeFitsLong
  generalize hz : ((2 * m : Nat) : Int) = z
  have h1 : 0 ≤ z := by omega
  have h2 : z ≤ 2000000 := by omega
  simp [Bool.and_eq_true]
  omega
section
variable {P : Program} {w : World} {K : PySem.W.Frag} {mg : Str → Option Value} {base : Heap}
def sp_rgoods (Z : Addr) : Sp := fun vs H Q E => ∃ cs : List Nat, vs = [.str (SX.S cs)] ∧ cs.length ≤ 1000000 ∧ ((∀ g, ¬ GoodsOk cs g) → ∀ H', Same H H' → E (.ref Z) none H') ∧ (∀ g, GoodsOk cs g → ∀ H', Same H H' → Q (.int g) H')
theorem ok__read_goods (T : Top K mg) (nd : base.NoDigits) : FnOk P w K mg base (L2.CX P w) 3 T.a__read_goods T.d__read_goods ["line"] (sp_rgoods T.c_TextError) := by
  refine T._read_goods_F.okX sc__read_goods (fun vs H Q E h => ?_) (fun cdv A outer s H vs Q E hr h => ?_)
  · obtain ⟨_, rfl, _⟩ := h
    rfl
  · obtain ⟨cs, rfl, hl, kE, kQ⟩ := h
    refine ⟨_, (pss_cons (ps_set (i := 1) sc__read_goods.nd rfl (Or.inl rfl) (pe_m1 PySem.F.slot_str_split PySem.F.type_str_split mt_split (pv 0) pe_str))
      (pss_cons (ps_if (PW.pt (pw_or (pt_cmpR op_ne (pe_callB call_lenL (by rfl) T.n_len (by decide +kernel) (pa_cons (pv 1) pa_nil)) pe_int (nomark _)) (pw_or1 (pt_cmpR op_ne (pe_ix ix_list (pv 1) pe_int (fun _ _ => rfl)) pe_str (nomark _))))) (pss_one (ps_raise rfl (takes_of rfl rfl rfl rfl) (pmk_own PySem.F.excBase_ValueError T.x_TextError T.g_TextError T.k_TextError (raises_own T.b_TextError T.t_TextError) rfl))) pss_nil)
      (pss_one (ps_ret (pe_callS (ok_read_natural T nd) (hr.mono (by decide : 2 ≤ 2)) rfl T.g_read_natural T.read_natural_F.kp T.read_natural_b (fun σ => passAt (takes_of rfl rfl rfl rfl) σ) (pa_cons (pe_ix ix_list (pv 1) pe_int (fun _ _ => rfl)) pa_nil)))))), ?_⟩
    rw [show Str.ofString " " = SX.S [32] from lit _ _ (by decide), show Str.ofString "goods" = SX.S goodsW from lit _ _ (by decide)]
    refine ⟨_, rfl, ⟨_, rfl⟩, _, _, rfl, rfl, rfl, by rw [SX.S_len]; exact Nat.le_trans (m := 1000002) (by omega) (by decide), fun pw hpw => ?_⟩
    rw [cut_split (by decide)]
    have u1 := same_new (o := .lst (((cut 32 cs).map SX.S).map V.str)) hpw
    have hW1 : (upd H pw (.lst (((cut 32 cs).map SX.S).map V.str))) pw = some (.lst (((cut 32 cs).map SX.S).map V.str)) := upd_same
    generalize hH1 : (upd H pw (.lst (((cut 32 cs).map SX.S).map V.str))) = H1 at *
    have lw : (((cut 32 cs).map SX.S).map V.str).length = (cut 32 cs).length := by rw [List.length_map, List.length_map]
    have split2 : (cut 32 cs).length = 2 → ∃ a b, cut 32 cs = [a, b] := fun e => by
      match h : cut 32 cs, e with
      | [a, b], _ => exact ⟨a, b, rfl⟩
    refine ⟨_, rfl, pw, _, rfl, SqL.of hW1, rfl, _, rfl, ite2 (fun c => ?_) (fun c => ?_)⟩
    · refine if_true_of' rfl ?_
      refine kE (fun g h => ?_) _ u1
      obtain ⟨w, hw, _⟩ := goods_cut h
      rw [lw, hw] at c
      exact absurd c (by simp)
    · obtain ⟨a, b, hab⟩ := split2 (by
        rw [lw] at c
        have : ((cut 32 cs).length : Int) = 2 := by simpa using c
        omega)
      rw [hab] at hW1
      refine ⟨_, rfl, pw, _, 0, _, rfl, rfl, SqL.of hW1, rfl, rfl, _, rfl, ?_⟩
      rw [dstr]
      by_cases ha : a = goodsW
      · subst ha
        refine if_false_of' (by rw [decide_eq_true rfl]; rfl) ?_
        have bl := cut_wl (c := 32) (cs := cs) (w := b) (by rw [hab]; simp)
        refine ⟨_, rfl, pw, _, 1, _, rfl, rfl, SqL.of hW1, rfl, b, rfl, by omega, fun hn => ?_, fun hn => ?_⟩
        · refine kE (fun g h => ?_) _ u1
          obtain ⟨w, hw, hi⟩ := goods_cut h
          rw [hab] at hw
          simp at hw
          exact hn (hw ▸ hi)
        · exact kQ _ (goods_yes hab hn) _ u1
      · refine if_true_of' (by rw [decide_eq_false ha]; rfl) ?_
        refine kE (fun g h => ?_) _ u1
        obtain ⟨w, hw, hi⟩ := goods_cut h
        rw [hab] at hw
        simp at hw
        exact ha hw.1
def MomOk (g : Int) (cs : List Nat) (p : List Int) (ps : List Pr) : Prop := lineE (p, ps) = cs ++ [10] ∧ (∀ i ∈ p, 0 ≤ i ∧ i < 1000000000) ∧ (ps.length : Int) = max 0 (g - 1) ∧ ∀ r ∈ ps, RdOk (fracT r.1) r.1 ∧ RdOk (fracT r.2) r.2
def momD (e : List Int × List Pr) : PyData := .tuple [pathD e.1, pricesD e.2]
def sp_rmom (K : PySem.W.Frag) (Z : Addr) : Sp := fun vs H Q E => ∃ (g : Int) (cs : List Nat), vs = [.int g, .str (SX.S cs)] ∧ 0 ≤ g ∧ g < 1000000000 ∧ cs.length ≤ 1000000 ∧ ((∀ p ps, ¬ MomOk g cs p ps) → ∀ H', Same H H' → E (.ref Z) none H') ∧ (∀ p ps, MomOk g cs p ps → ∀ v H', Same H H' → DT K H' v (momD (p, ps)) → Q v H')
theorem ok__read_moment (T : Top K mg) (nd : base.NoDigits) : FnOk P w K mg base (L2.CX P w) 4 T.a__read_moment T.d__read_moment ["goods", "line"] (sp_rmom K T.c_TextError) := by
  refine T._read_moment_F.okX sc__read_moment (fun vs H Q E h => ?_) (fun cdv A outer s H vs Q E hr h => ?_)
  · obtain ⟨_, _, rfl, _⟩ := h
    rfl
  · obtain ⟨g, cs, rfl, hg0, hg1, hl, kE, kQ⟩ := h
    refine ⟨_, (pss_cons (ps_set (i := 2) sc__read_moment.nd rfl (Or.inl rfl) (pe_m1 PySem.F.slot_str_split PySem.F.type_str_split mt_split (pv 1) pe_str))
      (pss_cons (ps_if (PW.pt (pw_or (pt_cmpR op_ne (pe_ix ix_list (pv 2) pe_int (fun _ _ => rfl)) pe_str (nomark _)) (pw_or1 (pt_cmpR op_ne (pe_callB call_lenL (by rfl) T.n_len (by decide +kernel) (pa_cons (pv 2) pa_nil)) (pe_op op_add pe_int (pe_op op_mul pe_int (pe_callB (call_max2 rfl) (by rfl) T.n_max (by decide +kernel) (pa_cons pe_int (pa_cons (pe_op op_sub (pv 0) pe_int) pa_nil))))) (nomark _))))) (pss_one (ps_raise rfl (takes_of rfl rfl rfl rfl) (pmk_own PySem.F.excBase_ValueError T.x_TextError T.g_TextError T.k_TextError (raises_own T.b_TextError T.t_TextError) rfl))) pss_nil)
      (pss_cons (ps_set (i := 3) sc__read_moment.nd rfl (Or.inr rfl) (pe_lcX (own := [("word", 5)]) (g := (gName 5)) (tt := tYes) (by rfl) sc__read_moment.nd rfl rfl (takes_of rfl rfl rfl rfl) (pi_list (pe_slice sl_list (pv 2) (po_some pe_int) po_none)) (blkOk_by (own := [("word", 5)]) (N := ["goods", "line", "words", "numbers", "prices", "word", "k"]) (sc := defScope s__read_moment) (by decide +kernel)) (fun _ _ _ _ _ => (pg_name (i := 5) sc__read_moment.nd rfl (Or.inl rfl))) (fun _ _ _ _ _ => pts_nil) (fun _ _ _ _ _ _ tkb => (pe_callS (ok_read_fraction T nd) (hr.mono (by decide : 3 ≤ 3)) rfl T.g_read_fraction T.read_fraction_F.kp T.read_fraction_b (fun σ => passAt tkb σ) (pa_cons (pv 5) pa_nil)))))
      (pss_cons (ps_setLc (i := 4) (own := [("k", 6)]) (g := (gName 6)) (tt := tYes) (by rfl) sc__read_moment.nd rfl rfl (sw_true rfl rfl rfl (by decide +kernel)) (pi_range3 rfl T.n_range (pa_cons pe_int (pa_cons (pe_callB call_lenL (by rfl) T.n_len (by decide +kernel) (pa_cons (pv 3) pa_nil)) (pa_cons pe_int pa_nil)))) (blkOk_by (own := [("k", 6)]) (N := ["goods", "line", "words", "numbers", "prices", "word", "k"]) (sc := defScope s__read_moment) (by decide +kernel)) (fun _ _ _ _ _ => (pg_name (i := 6) sc__read_moment.nd rfl (Or.inl rfl))) (fun _ _ _ _ _ => pts_nil) (fun _ _ _ _ _ => (pe_tup (pa_cons (pe_ix (r := rIxL K) ix_list (pv 3) (pv 6) (fun _ _ => rfl)) (pa_cons (pe_ix (r := rIxL K) ix_list (pv 3) (pe_op op_add (pv 6) pe_int) (fun _ _ => rfl)) pa_nil)))))
      (pss_one (ps_ret (pe_tup (pa_cons (pe_callS (ok__read_path T nd) (hr.mono (by decide : 3 ≤ 3)) rfl T.g__read_path T._read_path_F.kp T._read_path_b (fun σ => passAt (takes_of rfl rfl rfl rfl) σ) (pa_cons (pe_ix ix_list (pv 2) pe_int (fun _ _ => rfl)) pa_nil)) (pa_cons (pe_callTy call_tupL (by rfl) T.n_tuple (by decide +kernel) (pa_cons (pv 4) pa_nil)) pa_nil))))))))), ?_⟩
    rw [show Str.ofString " " = SX.S [32] from lit _ _ (by decide), show Str.ofString "moment" = SX.S momentW from lit _ _ (by decide)]
    refine ⟨_, rfl, ⟨_, rfl⟩, _, _, rfl, rfl, rfl, by rw [SX.S_len]; exact Nat.le_trans (m := 1000002) (by omega) (by decide), fun pw hpw => ?_⟩
    rw [cut_split (by decide)]
    have u1 := same_new (o := .lst (((cut 32 cs).map SX.S).map V.str)) hpw
    have hW1 : (upd H pw (.lst (((cut 32 cs).map SX.S).map V.str))) pw = some (.lst (((cut 32 cs).map SX.S).map V.str)) := upd_same
    generalize hH1 : (upd H pw (.lst (((cut 32 cs).map SX.S).map V.str))) = H1 at *
    have lw : (((cut 32 cs).map SX.S).map V.str).length = (cut 32 cs).length := by rw [List.length_map, List.length_map]
    have lw2 := cut_len 32 cs
    obtain ⟨w0, r0, hw0⟩ : ∃ w0 r0, cut 32 cs = w0 :: r0 := by
      match h : cut 32 cs, cut_ne 32 cs with
      | a :: b, _ => exact ⟨a, b, rfl⟩
    have hwl : ∀ w ∈ cut 32 cs, w.length ≤ 1000000 := fun w hw => Nat.le_trans (cut_wl hw) hl
    rw [hw0] at hW1 lw lw2 hwl
    have mcut : ∀ p ps, MomOk g cs p ps → w0 = momentW ∧ r0 = pathT p :: ps.flatMap fun r => [fracT r.1, fracT r.2] := fun p ps h => by
      have := line_cut h.1
      rw [hw0] at this
      unfold wordsE at this
      simpa using this
    refine ⟨_, rfl, pw, _, 0, V.str (SX.S w0), rfl, rfl, SqL.of hW1, atI_nat (j := 0) rfl, rfl, _, rfl, ?_⟩
    rw [dstr]
    by_cases hm : w0 = momentW
    rotate_left
    · refine if_true_of' (by rw [decide_eq_false hm]; rfl) ?_
      refine if_true_of' rfl ?_
      exact kE (fun p ps h => hm (mcut p ps h).1) _ u1
    refine if_false_of' (by rw [decide_eq_true hm]; rfl) ?_
    refine ⟨_, rfl, pw, _, rfl, SqL.of hW1, _, rfl, _, _, rfl, rfl, _, _, rfl, _, _, rfl, rfl, ?_, _, _, rfl, rfl, rfl, _, rfl, ite2 (fun c => ?_) (fun c => ?_)⟩
    · exact .inl ⟨by decide, by decide⟩
    · refine kE (fun p ps h => ?_) _ u1
      obtain ⟨_, e⟩ := mcut p ps h
      have h3 := h.2.2.1
      have e1 := congrArg List.length e
      rw [List.length_cons, flat2_len] at e1
      rw [lw, List.length_cons, e1] at c
      have c : ¬ ((1 + 2 * ps.length + 1 : Nat) : Int) = 2 + 2 * (if g - 1 > 0 then g - 1 else 0) := fun z => by
        rw [show (2 * ps.length + 1 + 1 : Nat) = 1 + 2 * ps.length + 1 by omega, z] at c
        simp at c
      refine c ?_
      split
      · rw [Int.max_eq_right (by omega)] at h3
        omega
      · rw [Int.max_eq_left (by omega)] at h3
        omega
    obtain ⟨m, hm1, hm2⟩ : ∃ m : Nat, (m : Int) = max 0 (g - 1) ∧ r0.length = 1 + 2 * m := by
      rw [lw, List.length_cons] at c
      have c : ((r0.length + 1 : Nat) : Int) = 2 + 2 * (if g - 1 > 0 then g - 1 else 0) := by simpa using c
      refine ⟨(g - 1).toNat, by omega, ?_⟩
      split at c <;> omega
    obtain ⟨wp, rest, rfl⟩ : ∃ wp rest, r0 = wp :: rest := by
      match r0, hm2 with
      | a :: b, _ => exact ⟨a, b, rfl⟩
      | [], h => exact absurd h (by simp; omega)
    have hm2 : rest.length = 2 * m := by rw [List.length_cons] at hm2; omega
    have mcut : ∀ p ps, MomOk g cs p ps → wp = pathT p ∧ rest = ps.flatMap fun r => [fracT r.1, fracT r.2] := fun p ps h => by
      have := (mcut p ps h).2
      simpa using this
    have hdrop : cutV (((w0 :: wp :: rest).map SX.S).map V.str) (some 2) none = (rest.map SX.S).map V.str := cut2 _
    rw [List.length_cons, List.length_cons] at lw2
    refine ⟨_, rfl, _, rfl, pw, _, rfl, SqL.of hW1, fun q1 k1 => ?_⟩
    rw [hdrop]
    have u2 := same_new (o := .lst ((rest.map SX.S).map V.str)) k1
    have hR2 : (upd H1 q1 (.lst ((rest.map SX.S).map V.str))) q1 = some (.lst ((rest.map SX.S).map V.str)) := upd_same
    have hW2 := u2 _ _ hW1
    generalize hH2 : (upd H1 q1 (.lst ((rest.map SX.S).map V.str))) = H2 at *
    have lr : ((rest.map SX.S).map V.str).length = rest.length := by rw [List.length_map, List.length_map]
    refine ⟨q1, rfl, ⟨_, SqL.of hR2⟩, fun D hD => lc_list (K := K) (a := q1) (xs := (rest.map SX.S).map V.str) (fun i H' => Same H2 H' ∧ ∃ (qs : List (Int × Int)) (acc : List V), qs.map fracT = rest.take i ∧ (∀ q ∈ qs, RdOk (fracT q) q) ∧ H' D = some (.lst acc) ∧ DTs K H' acc (qs.map frD)) ⟨same_new hD, [], [], rfl, fun q hq => absurd hq (by simp), upd_same, .nil⟩ (fun i H' _ ⟨sm, _⟩ => SqL.of (sm _ _ hR2)) ?_ ?_⟩
    · rintro i x H' hi ⟨sm, qs, acc, e1, g1, hO, dA⟩
      rw [List.getElem?_map, List.getElem?_map] at hi
      obtain ⟨y, hy, rfl⟩ := Option.map_eq_some_iff.mp hi
      obtain ⟨w, hw, rfl⟩ := Option.map_eq_some_iff.mp hy
      have hmem := List.mem_of_getElem? hw
      have hlt := (List.getElem?_eq_some_iff.mp hw).1
      refine ⟨rfl, ?_⟩
      dsimp only [tYes]
      rw [if_pos rfl]
      refine ⟨_, rfl, w, rfl, hwl w (by simp [hmem]), fun hn H3 s3 => ?_, fun q hq v H3 s3 dv => ?_⟩
      · refine kE (fun p ps h => ?_) _ (((u1.trans u2).trans sm).trans s3)
        rw [(mcut p ps h).2] at hmem
        obtain ⟨r, hr, hmem⟩ := List.mem_flatMap.mp hmem
        have h4 := h.2.2.2 r hr
        rcases List.mem_cons.mp hmem with e | hmem
        · exact hn _ (e ▸ h4.1)
        · exact hn _ (List.mem_singleton.mp hmem ▸ h4.2)
      · have hO3 := s3 _ _ hO
        have iD : IsL H3 D := ⟨_, hO3⟩
        have lq : acc.length = i := by
          rw [dA.len, List.length_map]
          have := congrArg List.length e1
          rw [List.length_map, List.length_take] at this
          omega
        refine ⟨acc, hO3, Nat.lt_of_lt_of_le (m := 1000002) (by omega) (by decide), same_mut (sm.trans s3) hD, qs ++ [q], acc ++ [v], ?_, fun t ht => ?_, upd_same, ?_⟩
        · rw [take_next hw, List.map_append, e1]
          show _ ++ [fracT q] = _
          rw [hq.2.2]
        · rcases List.mem_append.mp ht with ht | ht
          · exact g1 t ht
          · rw [List.mem_singleton.mp ht, hq.2.2]
            exact hq
        · rw [List.map_append]
          exact ((dA.same s3).snoc dv).xt iD Xt.upd
    · rintro H3 ⟨s3, qs, acc, e1, g1, hO, dA⟩
      rw [lr, List.take_length] at e1
      have lq : qs.length = 2 * m := by rw [← hm2, ← e1, List.length_map]
      have la : acc.length = 2 * m := by rw [dA.len, List.length_map, lq]
      obtain ⟨y1, y2, y3, y4⟩ := pairs2_len m qs lq
      have hm6 : m ≤ 1000000 := by omega
      have hW3 := s3 _ _ hW2
      have s13 := (u1.trans u2).trans s3
      refine ⟨_, rfl, D, _, rfl, SqL.of hO, 0, _, 2, m, rfl, la ▸ rgc2 m hm6, fun D2 hD2 => lc_it walk_rangeC (fun i H' => Same H3 H' ∧ ∃ ys : List V, H' D2 = some (.lst ys) ∧ DTs K H' ys (((pairs2 qs).take i).map prD)) ⟨same_new hD2, [], upd_same, .nil⟩ (fun _ _ _ _ => trivial) ?_ ?_⟩
      · rintro i x H4 H' hi ⟨s4, ys, hO4, dY⟩ ⟨e5, e6⟩
        subst e5 e6
        obtain ⟨v1, hv1, d1⟩ := dA.at_ (i := 2 * i) (d := frD (qs[2 * i]'(by omega))) (by rw [List.getElem?_map, List.getElem?_eq_getElem (by omega)]; rfl)
        obtain ⟨v2, hv2, d2⟩ := dA.at_ (i := 2 * i + 1) (d := frD (qs[2 * i + 1]'(by omega))) (by rw [List.getElem?_map, List.getElem?_eq_getElem (by omega)]; rfl)
        have hp := y3 i _ _ (List.getElem?_eq_getElem (by omega)) (List.getElem?_eq_getElem (by omega))
        have ei : (0 : Int) + (i : Nat) * 2 = ((2 * i : Nat) : Int) := by omega
        have ej : (0 : Int) + (i : Nat) * 2 + 1 = ((2 * i + 1 : Nat) : Int) := by omega
        have hD4 := s4 _ _ hO
        refine ⟨rfl, ?_⟩
        dsimp only [tYes]
        rw [if_pos rfl]
        refine ⟨_, rfl, _, rfl, D, acc, _, v1, rfl, rfl, SqL.of hD4, by rw [ei]; exact atI_nat hv1, _, rfl, _, rfl, _, _, rfl, rfl, D, acc, _, v2, rfl, rfl, SqL.of hD4, by rw [ej]; exact atI_nat hv2, two_le, fun p2 h2 => ?_⟩
        have u5 := same_new (o := .tup [v1, v2]) h2
        have hO5 := u5 _ _ hO4
        have iD5 : IsL (upd H' p2 (.tup [v1, v2])) D2 := ⟨_, hO5⟩
        have dp : DT K (upd H' p2 (.tup [v1, v2])) (.ref p2) (prD (qs[2 * i]'(by omega), qs[2 * i + 1]'(by omega))) := .mk2 (Tp.of upd_same) ((d1.same s4).same u5) ((d2.same s4).same u5)
        refine ⟨ys, hO5, ?_, same_mut (s4.trans u5) hD2, ys ++ [.ref p2], upd_same, ?_⟩
        · rw [dY.len, List.length_map]
          have := List.length_take_le' i (pairs2 qs)
          exact Nat.lt_of_lt_of_le (m := 1000002) (by omega) (by decide)
        · rw [take_next hp, List.map_append]
          exact ((dY.same u5).snoc dp).xt iD5 Xt.upd
      · rintro H4 ⟨s4, ys, hO4, dY⟩
        rw [← y1, List.take_length] at dY
        have hW4 := s4 _ _ hW3
        refine ⟨_, rfl, pw, _, 1, V.str (SX.S wp), rfl, rfl, SqL.of hW4, atI_nat (j := 1) rfl, wp, rfl, hwl wp (by simp), fun hn H5 s5 => ?_, fun p hp v H5 s5 dv => ?_⟩
        · refine kE (fun p ps h => ?_) _ ((s13.trans s4).trans s5)
          exact hn p ⟨(mcut p ps h).1.symm, h.2.1⟩
        · have hO5 := s5 _ _ hO4
          refine ⟨_, rfl, D2, _, rfl, SqL.of hO5, fun p2 h2 => ?_⟩
          have u6 := same_new (o := .tup ys) h2
          have dP : DT K (upd H5 p2 (.tup ys)) (.ref p2) (pricesD (pairs2 qs)) := DT.tup (Tp.of upd_same) ((dY.same s5).same u6)
          refine ⟨two_le, fun p3 h3 => ?_⟩
          have u7 := same_new (o := .tup [v, .ref p2]) h3
          refine kQ p (pairs2 qs) ⟨cut_line ?_, hp.2, by rw [y1]; exact hm1, fun r hr => ⟨g1 _ (y4 r hr).1, g1 _ (y4 r hr).2⟩⟩ _ _ ((((s13.trans s4).trans s5).trans u6).trans u7) (DT.mk2 (Tp.of upd_same) ((dv.same u6).same u7) (dP.same u7))
          rw [hw0, wordsE, y2, e1, hp.1, hm]
end
end Nl

namespace Nl
open PySem PySem.Spec PyProof.Rows L2
/-- {k: v}, k a tuple; the new dict stands empty while the pair is made -/
def tDispT (tk tv : TE) : TE := fun σ H Q => ∀ p, H p = none → tk σ (upd H p (.dT [])) fun y H1 => tv σ H1 fun z H2 => ∃ b k z', [(y, z)] = [(V.ref b, z')] ∧ H2 p = some (.dT []) ∧ H2 b = some (.tup (k.map kV)) ∧ Q (.ref p) (upd H2 p (.dT [(k, z')]))
theorem pe_disp1T {X : Cx} {k v : Expr} {tk tv : TE} {pos : Pos} (hu : X.A.units < cLine) (hk : PE X k tk) (hv : PE X v tv) : PE X (.Dict [some k] [v] pos) (tDispT tk tv) := by
  refine ⟨fun pins s σ H Q I q => ?_⟩
  have hn := I.hok.fresh (Nat.le_refl s.heap.objs.size)
  have I1 := I.laid (a := s.heap.objs.size) (o := .dT []) (h' := s.heap.push { cls := .type "dict", data := .dict #[] }) (t' := s.toks) (fun _ _ q => Heap.get?_push_of_some _ q) (Nat.le_refl _) (dt_empty s.heap I.big)
  refine wpAny_Dict_any rfl rfl (by simp) (by simp) ?_
  refine thn ((pps_cons hk hv pps_nil).run pins _ σ _ (fun ps H2 => ∃ b kk z, ps = [(.ref b, z)] ∧ H2 s.heap.objs.size = some (.dT []) ∧ H2 b = some (.tup (kk.map kV)) ∧ Q (.ref s.heap.objs.size) (upd H2 s.heap.objs.size (.dT [(kk, z)]))) I1 ?_) fun ws s2 ⟨ps, H2, I2, rel, b, kk, z, eps, hD, hb, q2⟩ => ?_
  · exact q _ hn
  · subst eps
    cases rel with
    | @cons p0 w0 _ _ h1 h2 =>
      cases h2
      obtain ⟨u, r⟩ := w0
      obtain ⟨ru, rr⟩ := h1
      obtain rfl : u = Value.ref b := ru
      unfold storeAll
      rw [List.forIn_cons]
      refine wpAny_bind (wpAny_bind (put_tup hu I2 hD hb (by decide) rr fun t' I' => wpAny_pure ?_))
      show wpAny _ _ (forIn [] PUnit.unit _) _ _ _
      rw [List.forIn_nil]
      refine wpAny_pure ?_
      exact ⟨.ref s.heap.objs.size, _, I', rfl, q2⟩
end Nl

namespace Nl
open PySem PySem.Spec PyProof.Rows L2
open TL (tl numL)
open PySem.NumText
/-! ### the order of moments -/
def cmS (f : List Int → Option Int) (p : List Int) : List Int → Option Int := fun q => if q = p then some 0 else if q = p.dropLast then (f q).map (· + 1) else f q
def cmL (l : List (List Int)) : List Int → Option Int := l.tail.foldl cmS fun q => if q = [] then some 0 else none
def stepOk (l : List (List Int)) (p : List Int) : Prop := HT.lexLt (l.getLastD []) p = true ∧ ∃ k, cmL l p.dropLast = some k ∧ p.getLast? = some k
def OrdOk (ps : List (List Int)) : Prop := ps.head? = some [] ∧ ∀ i p, 0 < i → ps[i]? = some p → stepOk (ps.take i) p
theorem cmL_snoc {l : List (List Int)} (h : l ≠ []) (p : List Int) : cmL (l ++ [p]) = cmS (cmL l) p := by
  unfold cmL
  cases l with
  | nil => exact absurd rfl h
  | cons a l =>
    show (l ++ [p]).foldl cmS _ = _
    rw [List.foldl_append]
    rfl
theorem cut_init (ks : List Int) : cutV (ks.map V.int) none (some (-1)) = ks.dropLast.map V.int := by
  unfold cutV
  rw [HT.sIx_none, List.dropLast_eq_take, List.map_take, List.length_map]
  have e : HT.sIx ks.length ks.length (some (-1)) = ks.length - 1 := by
    show (if (-1 : Int) < 0 then ((-1 : Int) + (ks.length : Int)).toNat else min (-1 : Int).toNat ks.length) = _
    rw [if_pos (by decide)]
    omega
  rw [e]
  rfl
theorem lex_ne {a b : List Int} (h : HT.lexLt a b = true) : b ≠ [] := fun e => by
  subst e
  cases a <;> simp [HT.lexLt] at h
theorem tp_dict {H H' : Hp} {d a : Addr} {xs : List V} {kvs : List (List Key × V)} (g : H d = some (.dT kvs)) (s : Xt d H H') (h : Tp H a xs) : Tp H' a xs := s _ _ (ne_of h g (by intro z; cases z)) h
theorem DictP.congr {H : Hp} {a : Addr} {m : Nat} {f g : List Int → Option V} (h : DictP H a m f) (e : ∀ q, f q = g q) : DictP H a m g := by
  obtain ⟨kvs, h1, h2, h3⟩ := h
  exact ⟨kvs, h1, h2, fun q => (h3 q).trans (e q)⟩
section
variable {P : Program} {w : World} {K : PySem.W.Frag} {mg : Str → Option Value} {base : Heap}
def sp_cord (K : PySem.W.Frag) (Z : Addr) : Sp := fun vs H Q E => ∃ (a : Addr) (xs : List V) (ps : List (List Int)), vs = [.ref a] ∧ H a = some (.lst xs) ∧ DTs K H xs (ps.map pathD) ∧ 0 < ps.length ∧ ps.length ≤ 400 ∧ (¬ OrdOk ps → ∀ H', Same H H' → E (.ref Z) none H') ∧ (OrdOk ps → ∀ H', Same H H' → Q .non H')
theorem ok__check_order (T : Top K mg) : FnOk P w K mg base (L2.CX P w) 1 T.a__check_order T.d__check_order ["paths"] (sp_cord K T.c_TextError) := by
  refine T._check_order_F.okX sc__check_order (fun vs H Q E h => ?_) (fun cdv A outer s H vs Q E hr h => ?_)
  · obtain ⟨_, _, _, rfl, _⟩ := h
    rfl
  · obtain ⟨a, xs, ps, rfl, ha, dx, h0, h9, kE, kQ⟩ := h
    refine ⟨_, (pss_cons (ps_if (pt_cmpR (op_neD hr.units) (pe_ix ix_list (pv 0) pe_int (fun _ _ => rfl)) (pe_tup pa_nil) (nomark _)) (pss_one (ps_raise rfl (takes_of rfl rfl rfl rfl) (pmk_own PySem.F.excBase_ValueError T.x_TextError T.g_TextError T.k_TextError (raises_own T.b_TextError T.t_TextError) rfl))) pss_nil)
      (pss_cons (ps_set (i := 1) sc__check_order.nd rfl (Or.inl rfl) (pe_disp1T hr.units0 (pe_tup pa_nil) pe_int))
      (pss_cons (ps_set (i := 2) sc__check_order.nd rfl (Or.inl rfl) (pe_tup pa_nil))
      (pss_one (ps_for (passes_of rfl) rfl (pi_list (pe_slice sl_list (pv 0) (po_some pe_int) po_none)) (pg_name (i := 3) sc__check_order.nd rfl (Or.inl rfl)) (pss_cons (ps_set (i := 4) sc__check_order.nd rfl (Or.inl rfl) (pe_slice sl_tupP (pv 3) po_none (po_some (pe_un un_neg pe_int))))
      (pss_cons (ps_if (PW.pt (pw_or (pt_cmpR (op_leP hr.units0) (pv 3) (pv 2) (nomark _)) (pw_or (pt_cmp (pc_dnotin (Nat.lt_of_le_of_lt (Nat.add_le_add_left (by decide : 1 ≤ 64) _) hr.units) (pv 4) (pv 1))) (pw_or1 (pt_cmpR op_ne (pe_ix ix_tup (pv 3) (pe_un un_neg pe_int) (fun _ _ => rfl)) (pe_dget (Nat.lt_of_le_of_lt (Nat.add_le_add_left (by decide : 1 ≤ 64) _) hr.units) (pv 1) (pv 4) (fun _ _ => rfl)) (nomark _)))))) (pss_one (ps_raise rfl (takes_of rfl rfl rfl rfl) (pmk_own PySem.F.excBase_ValueError T.x_TextError T.g_TextError T.k_TextError (raises_own T.b_TextError T.t_TextError) rfl))) pss_nil)
      (pss_cons (ps_daug (Nat.lt_of_le_of_lt (Nat.add_le_add_left (by decide : 1 ≤ 64) _) hr.units) (pv 1) (pv 4) pe_int ip_add (by intros; rfl))
      (pss_cons (ps_dput (Nat.lt_of_le_of_lt (Nat.add_le_add_left (by decide : 1 ≤ 64) _) hr.units) (pv 1) (pv 3) pe_int (by rfl))
      (pss_one (ps_set (i := 2) sc__check_order.nd rfl (Or.inl rfl) (pv 3)))))))))))), ?_⟩
    have lx : xs.length = ps.length := by rw [dx.len, List.length_map]
    obtain ⟨p0, r0, rfl⟩ : ∃ p0 r0, ps = p0 :: r0 := by
      match ps, h0 with
      | a :: b, _ => exact ⟨a, b, rfl⟩
    obtain ⟨v0, hv0, d0⟩ := dx.at_ (i := 0) (d := pathD p0) rfl
    refine ⟨_, rfl, a, _, 0, v0, rfl, rfl, SqL.of ha, atI_nat (j := 0) hv0, Nat.zero_le _, fun p1 h1 => ?_⟩
    have u1 := same_new (o := .tup []) h1
    have d1 : DT K (upd H p1 (.tup [])) (.ref p1) (pathD []) := DT.path (Tp.of upd_same)
    refine ⟨_, _, (d0.same u1).dp, d1.dp, (sh_path _).shaped, (sh_path _).shaped, _, rfl, ?_⟩
    rw [eqv_path]
    by_cases e : p0 = []
    rotate_left
    · refine if_true_of' (by rw [decide_eq_false e]; rfl) ?_
      exact kE (fun z => e (by simpa using z.1)) _ u1
    subst e
    refine if_false_of' (by rw [decide_eq_true rfl]; rfl) ?_
    generalize hH1 : (upd H p1 (.tup [])) = H1 at *
    refine fun pd hpd => ⟨Nat.zero_le _, fun p2 h2 => ⟨p2, [], _, rfl, ?_, upd_same, ?_⟩⟩
    · have : p2 ≠ pd := fun z => by
        rw [z, upd_same] at h2
        cases h2
      rw [upd_ne this.symm]
      exact upd_same
    have s4 : Same H (upd (upd (upd H1 pd (.dT [])) p2 (.tup [])) pd (.dT [([], .int 0)])) := same_mut (u1.trans ((same_new hpd).trans (same_new h2))) (by
      cases e : H pd with
      | none => rfl
      | some o => rw [u1 _ _ e] at hpd; cases hpd)
    have hd4 : (upd (upd (upd H1 pd (.dT [])) p2 (.tup [])) pd (.dT [([], .int 0)])) pd = some (.dT [([], .int 0)]) := upd_same
    have fpd : H pd = none := by
      cases e : H pd with
      | none => rfl
      | some o => rw [u1 _ _ e] at hpd; cases hpd
    generalize hH4 : (upd (upd (upd H1 pd (.dT [])) p2 (.tup [])) pd (.dT [([], .int 0)])) = H4 at *
    refine ⟨Nat.zero_le _, fun pb hpb => ?_⟩
    have u5 := same_new (o := .tup []) hpb
    have tb5 : Tp (upd H4 pb (.tup [])) pb (([] : List Int).map V.int) := Tp.of upd_same
    have hd5 := u5 _ _ hd4
    have s5 := s4.trans u5
    generalize hH5 : (upd H4 pb (.tup [])) = H5 at *
    have P5 : DictP H5 pd 1 fun q => (cmL [[]] q).map V.int := ⟨_, hd5, Nat.le_refl _, fun q => by
      show valV (putK [] [] (V.int 0)) (keyP q) = _
      rw [valV_put]
      show _ = (if q = [] then some 0 else none : Option Int).map V.int
      by_cases eq : q = []
      · rw [if_pos eq, if_pos (by rw [eq]; rfl)]
        rfl
      · rw [if_neg eq, if_neg (fun z => eq (by
          cases q with
          | nil => rfl
          | cons => cases z))]
        rfl⟩
    have ha5 := s5 _ _ ha
    have dx5 := dx.same s5
    refine ⟨_, rfl, _, rfl, a, _, rfl, SqL.of ha5, fun q1 k1 => ?_⟩
    rw [show cutV xs (some 1) none = xs.drop 1 from cut_drop xs 1]
    have u6 := same_new (o := .lst (xs.drop 1)) k1
    have hq6 : (upd H5 q1 (.lst (xs.drop 1))) q1 = some (.lst (xs.drop 1)) := upd_same
    have P6 := P5.same u6
    have hd6 := u6 _ _ hd5
    have tb6 := tp_same u6 tb5
    have dx6 := (dx5.same u6).drop 1
    have s6 := s5.trans u6
    generalize hH6 : (upd H5 q1 (.lst (xs.drop 1))) = H6 at *
    have nq : q1 ≠ pd := fun z => by
      rw [z, hd6] at hq6
      cases hq6
    have l1 : (xs.drop 1).length = r0.length := by rw [List.length_drop, lx]; simp
    refine ⟨q1, rfl, ⟨_, SqL.of hq6⟩, for_list (K := K) (a := q1) (xs := xs.drop 1) (fun i σ H' => ∃ (bq : Addr) (y3 y4 : Option V), σ = [some (.ref a), some (.ref pd), some (.ref bq), y3, y4] ∧ Xt pd H6 H' ∧ Tp H' bq ((([] :: r0.take i).getLastD []).map V.int) ∧ DictP H' pd (2 * i + 1) (fun q => (cmL ([] :: r0.take i) q).map V.int) ∧ ∀ j p, j < i → r0[j]? = some p → stepOk ([] :: r0.take j) p) ⟨pb, _, _, rfl, Xt.refl _, tb6, P6, fun j p hj => absurd hj (by omega)⟩ (fun i σ H' _ ⟨_, _, _, _, xm, _⟩ => SqL.of (xm _ _ nq hq6)) ?_ ?_⟩
    · rintro i x σ H7 hi ⟨bq, y3, y4, rfl, x7, tb7, P7, g7⟩
      obtain ⟨d, hd, dxi⟩ := dx6.get hi
      have hd : (r0.map pathD)[i]? = some d := hd
      rw [List.getElem?_map] at hd
      obtain ⟨p, hp, rfl⟩ := Option.map_eq_some_iff.mp hd
      have hlt := (List.getElem?_eq_some_iff.mp hp).1
      have h9' : r0.length + 1 ≤ 400 := h9
      obtain ⟨c, rfl, tc6⟩ := dxi.path_inv
      have tc7 := tp_dict hd6 x7 tc6
      refine ⟨_, rfl, _, rfl, _, rfl, c, _, rfl, tc7, fun pp H8 s8 t8 => ?_⟩
      rw [cut_init] at t8
      have tc8 := tp_same s8 tc7
      have tb8 := tp_same s8 tb7
      have P8 := P7.same s8
      have fH : ∀ {H'}, Xt pd H6 H' → Same H H' := fun x b o e => x _ _ (fun z => by rw [z, fpd] at e; cases e) (s6 _ _ e)
      have x8 := x7.trans (Xt.of s8)
      have bad : ¬ stepOk ([] :: r0.take i) p → ¬ OrdOk ([] :: r0) := fun z h => z (h.2 (i + 1) p (by omega) hp)
      refine ⟨_, rfl, _, rfl, c, bq, p, _, rfl, rfl, tc8.sq, tb8.sq, _, rfl, ?_⟩
      cases hlex : HT.lexLt (([] :: r0.take i).getLastD []) p with
      | false =>
        refine if_true_of' rfl ?_
        refine if_true_of' rfl ?_
        refine kE (bad fun z => ?_) _ (fH x8)
        have z := z.1
        rw [hlex] at z
        cases z
      | true =>
        refine if_false_of' rfl ?_
        refine ⟨_, rfl, _, rfl, pd, _, rfl, P8.get t8, _, rfl, ?_⟩
        cases hcm : cmL ([] :: r0.take i) p.dropLast with
        | none =>
          refine if_true_of' rfl ?_
          refine if_true_of' rfl ?_
          refine kE (bad fun z => ?_) _ (fH x8)
          obtain ⟨_, k, e, _⟩ := z
          rw [hcm] at e
          cases e
        | some k =>
          refine if_false_of' rfl ?_
          have hne := lex_ne hlex
          obtain ⟨j, hj, ep⟩ : ∃ j, p.getLast? = some j ∧ p = p.dropLast ++ [j] := ⟨p.getLast hne, List.getLast?_eq_some_getLast hne, (List.dropLast_concat_getLast hne).symm⟩
          have emap : p.map V.int = (p.dropLast.map V.int) ++ [V.int j] := by
            conv => lhs; rw [ep]
            rw [List.map_append]
            rfl
          have G8 := P8.get t8
          rw [hcm] at G8
          refine ⟨_, rfl, _, rfl, c, _, _, V.int j, rfl, rfl, tc8.sq, by rw [emap]; exact atI_last _ _, _, rfl, _, rfl, pd, V.int k, rfl, G8, rfl, _, rfl, ?_⟩
          by_cases ejk : j = k
          rotate_left
          · refine if_true_of' (by rw [decide_eq_false (fun z => ejk (V.int.inj z))]; rfl) ?_
            refine kE (bad fun z => ?_) _ (fH x8)
            obtain ⟨_, k', e, e'⟩ := z
            rw [hcm] at e
            rw [hj] at e'
            cases e
            cases e'
            exact ejk rfl
          subst ejk
          refine if_false_of' (by rw [decide_eq_true rfl]; rfl) ?_
          obtain ⟨kvs, kk, cc, ecc, hD, hcc, hl, P9⟩ := P8.put (v := V.int (j + 1)) (by omega) t8
          cases ecc
          refine ⟨_, rfl, _, rfl, pd, V.int j, rfl, G8, _, _, rfl, rfl, _, DPut.t hD hcc hl, ?_⟩
          have tc9 : Tp (upd H8 pd (.dT (putK kvs kk (.int (j + 1))))) c (p.map V.int) := tp_dict hD Xt.upd tc8
          have x9 : Xt pd H6 (upd H8 pd (.dT (putK kvs kk (.int (j + 1))))) := x8.trans Xt.upd
          generalize (upd H8 pd (.dT (putK kvs kk (.int (j + 1))))) = H9 at *
          obtain ⟨kvs2, k2, c2, ec2, hD2, hc2, hl2, P10⟩ := P9.put (v := V.int 0) (by omega) tc9
          cases ec2
          refine ⟨_, rfl, _, rfl, pd, _, rfl, DPut.t hD2 hc2 hl2, _, rfl, c, _, _, rfl, x9.trans Xt.upd, ?_, ?_, ?_⟩
          · rw [take_next hp, show ([] :: (r0.take i ++ [p])) = ([] :: r0.take i) ++ [p] from rfl, List.getLastD_concat]
            exact tp_dict hD2 Xt.upd tc9
          · rw [take_next hp, show ([] :: (r0.take i ++ [p])) = ([] :: r0.take i) ++ [p] from rfl, cmL_snoc (by simp)]
            refine P10.congr fun q => ?_
            unfold cmS
            by_cases e1 : q = p
            · rw [if_pos e1, if_pos e1]
              rfl
            · rw [if_neg e1, if_neg e1]
              by_cases e2 : q = p.dropLast
              · rw [if_pos e2, if_pos e2, e2, hcm]
                rfl
              · rw [if_neg e2, if_neg e2]
          · intro t p' ht hp'
            by_cases e1 : t = i
            · subst e1
              rw [hp] at hp'
              cases hp'
              exact ⟨hlex, j, hcm, hj⟩
            · exact g7 t p' (by omega) hp'
    · rintro σ H7 ⟨bq, y3, y4, rfl, x7, tb7, P7, g7⟩
      refine kQ ⟨rfl, fun i p hi hp => ?_⟩ _ fun b o e => x7 _ _ (fun z => by rw [z, fpd] at e; cases e) (s6 _ _ e)
      cases i with
      | zero => omega
      | succ i =>
        have hp : r0[i]? = some p := hp
        exact g7 i p (by rw [l1]; exact (List.getElem?_eq_some_iff.mp hp).1) hp
end
end Nl

namespace Nl
open PySem PySem.Spec PyProof.Rows L2
/-! ### trees, moment by moment -/
abbrev Row := List Int × List Pr
def rwN (n : Node) : List Row := (pre [] n).map fun e => (e.1, e.2.ps)
mutual
theorem preA (p : List Int) : ∀ (q : List Int) (n : Node), pre (p ++ q) n = (pre q n).map fun e => (p ++ e.1, e.2)
  | q, .mk ps ks => by rw [pre, pre, List.map_cons, presA p q 0 ks]
theorem presA (p : List Int) : ∀ (q : List Int) (i : Nat) (ks : List Node), pres (p ++ q) i ks = (pres q i ks).map fun e => (p ++ e.1, e.2)
  | q, i, [] => rfl
  | q, i, n :: r => by rw [pres, pres, List.map_append, List.append_assoc, preA p (q ++ [(i : Int)]) n, presA p q (i + 1) r]
end
def shs (i : Nat) : List Node → List Row
  | [] => []
  | k :: r => (rwN k).map (fun e => ((i : Int) :: e.1, e.2)) ++ shs (i + 1) r
theorem shs_eq : ∀ (ks : List Node) (i : Nat), (pres [] i ks).map (fun e => (e.1, e.2.ps)) = shs i ks
  | [], i => rfl
  | k :: r, i => by
    rw [pres, List.map_append, shs_eq r (i + 1), shs]
    congr 1
    have := preA [(i : Int)] [] k
    rw [List.append_nil] at this
    rw [List.nil_append, this]
    unfold rwN
    rw [List.map_map, List.map_map]
    rfl
theorem rw_mk (ps : List Pr) (ks : List Node) : rwN (.mk ps ks) = ([], ps) :: shs 0 ks := by
  unfold rwN
  rw [pre, List.map_cons, shs_eq]
  rfl
theorem shs_app : ∀ (a b : List Node) (i : Nat), shs i (a ++ b) = shs i a ++ shs (i + a.length) b
  | [], b, i => rfl
  | k :: a, b, i => by
    rw [List.cons_append, shs, shs, shs_app a b (i + 1), List.append_assoc, List.length_cons]
    congr 3
    omega
theorem rw_ne (n : Node) : rwN n ≠ [] := by
  cases n
  rw [rw_mk]
  simp
def lastP (l : List Row) : List Int := (l.map (·.1)).getLastD []
theorem lastP_app (a : List Row) {b : List Row} (h : b ≠ []) : lastP (a ++ b) = lastP b := by
  unfold lastP
  rw [List.map_append, List.getLastD_eq_getLast?, List.getLastD_eq_getLast?, List.getLast?_append]
  cases hb : (b.map (·.1)).getLast? with
  | none => exact absurd (List.getLast?_eq_none_iff.mp hb) (by simpa using h)
  | some x => rfl
theorem lastP_map (i : Int) {b : List Row} (h : b ≠ []) : lastP (b.map fun e => (i :: e.1, e.2)) = i :: lastP b := by
  unfold lastP
  rw [List.map_map, List.getLastD_eq_getLast?, List.getLastD_eq_getLast?]
  rw [show ((fun x : Row => x.1) ∘ fun e : Row => (i :: e.1, e.2)) = (fun p => i :: p) ∘ fun x : Row => x.1 from rfl, ← List.map_map, List.getLast?_map]
  cases hb : (b.map (·.1)).getLast? with
  | none => exact absurd (List.getLast?_eq_none_iff.mp hb) (by simpa using h)
  | some x => rfl
theorem lastP_mk (ps : List Pr) (ks : List Node) (k : Node) : lastP (rwN (.mk ps (ks ++ [k]))) = (ks.length : Int) :: lastP (rwN k) := by
  rw [rw_mk, shs_app]
  show lastP (([], ps) :: (shs 0 ks ++ shs (0 + ks.length) [k])) = _
  rw [← List.cons_append, lastP_app]
  · rw [shs, shs, List.append_nil, Nat.zero_add]
    exact lastP_map _ (rw_ne k)
  · rw [shs]
    intro z
    exact rw_ne k (by simpa using (List.append_eq_nil_iff.mp z).1)
def addAt (k : Node) : List Int → Node → Node
  | [], .mk ps ks => .mk ps (ks ++ [k])
  | i :: q, .mk ps ks => .mk ps (ks.modify i.toNat (addAt k q))
theorem mod_last {α : Type} (f : α → α) (x : α) : ∀ l : List α, (l ++ [x]).modify l.length f = l ++ [f x]
  | [] => rfl
  | a :: l => by
    show (a :: (l ++ [x])).modify (l.length + 1) f = a :: (l ++ [f x])
    rw [List.modify_succ_cons, mod_last f x l]
/-- the branch that a later path goes -/
theorem last_branch {ps : List Pr} {ks : List Node} {i : Int} {q r : List Int} {m : Node} (hf : find (.mk ps ks) (i :: q) = some m) (hl : HT.lexLt (lastP (rwN (.mk ps ks))) (i :: r) = true) :
    ∃ k0 k, ks = k0 ++ [k] ∧ i = (k0.length : Int) ∧ find k q = some m ∧ HT.lexLt (lastP (rwN k)) r = true := by
  rw [find] at hf
  by_cases h0 : 0 ≤ i
  · rw [if_pos h0] at hf
    change ((ks[i.toNat]?).bind fun k => find k q) = some m at hf
    obtain ⟨k, hk, hf2⟩ := Option.bind_eq_some_iff.mp hf
    clear hf
    have hlt := (List.getElem?_eq_some_iff.mp hk).1
    have hne : ks ≠ [] := fun z => by subst z; simp at hlt
    have ek := (List.dropLast_concat_getLast hne).symm
    generalize ks.dropLast = k0 at ek
    generalize ks.getLast hne = kl at ek
    subst ek
    rw [lastP_mk, HT.lexLt_cons] at hl
    rw [List.length_append, List.length_singleton] at hlt
    split at hl
    · rename_i e
      rw [← e, Int.toNat_natCast, List.getElem?_append_right (Nat.le_refl _), Nat.sub_self] at hk
      cases hk
      exact ⟨k0, _, rfl, e.symm, hf2, hl⟩
    · have := of_decide_eq_true hl
      omega
  · rw [if_neg h0] at hf
    cases hf
theorem grow {ps : List Pr} : ∀ (q : List Int) (n m : Node), find n q = some m → HT.lexLt (lastP (rwN n)) (q ++ [(m.ks.length : Int)]) = true → rwN (addAt (.mk ps []) q n) = rwN n ++ [(q ++ [(m.ks.length : Int)], ps)]
  | [], .mk p0 ks, m, hf, hl => by
    rw [find] at hf
    cases hf
    rw [addAt, rw_mk, rw_mk, shs_app, Nat.zero_add]
    rw [shs, shs, rw_mk]
    rfl
  | i :: q, .mk p0 ks, m, hf, hl => by
    obtain ⟨k0, k, rfl, rfl, hf, hl⟩ := last_branch hf hl
    rw [addAt, Int.toNat_natCast, mod_last, rw_mk, rw_mk, shs_app, shs_app, shs, shs, shs, shs, grow q k m hf hl]
    simp
inductive Built : List Row → Node → Prop
  | one (ps : List Pr) : Built [([], ps)] (.mk ps [])
  | more {l : List Row} {n : Node} {q : List Int} {m : Node} {ps : List Pr} : Built l n → find n q = some m → HT.lexLt (lastP l) (q ++ [(m.ks.length : Int)]) = true → Built (l ++ [(q ++ [(m.ks.length : Int)], ps)]) (addAt (.mk ps []) q n)
theorem Built.rows {l : List Row} {n : Node} (h : Built l n) : rwN n = l := by
  induction h with
  | one ps => rw [rw_mk]; rfl
  | more h hf hl ih => rw [grow _ _ _ hf (by rw [ih]; exact hl), ih]
theorem Built.ne {l : List Row} {n : Node} (h : Built l n) : l ≠ [] := by
  rw [← h.rows]
  exact rw_ne n
theorem lift {ps : List Pr} {k0 : List Node} {L l : List Row} {k : Node} (h : Built l k) (hL : Built L (.mk ps k0)) : Built (L ++ l.map fun e => ((k0.length : Int) :: e.1, e.2)) (.mk ps (k0 ++ [k])) := by
  induction h with
  | one p1 =>
    refine Built.more (q := []) hL (m := .mk ps k0) rfl ?_
    rw [← hL.rows]
    rcases List.eq_nil_or_concat k0 with e | ⟨a, b, e⟩
    · subst e
      rw [rw_mk]
      rfl
    · subst e
      rw [List.concat_eq_append, lastP_mk]
      show (if (a.length : Int) = ((a ++ [b]).length : Int) then _ else decide ((a.length : Int) < ((a ++ [b]).length : Int))) = true
      rw [List.length_append, List.length_singleton, if_neg (by omega)]
      exact decide_eq_true (by omega)
  | @more l n q m p2 hb hf hl ih =>
    have := Built.more (q := (k0.length : Int) :: q) (m := m) (ps := p2) ih (by
      rw [find_cons, show (Node.mk ps (k0 ++ [n])).ks = k0 ++ [n] from rfl, List.getElem?_append_right (Nat.le_refl _), Nat.sub_self]
      exact hf) (by
      rw [lastP_app _ (by simpa using hb.ne), lastP_map _ hb.ne]
      show (if _ then _ else _) = true
      rw [if_pos rfl]
      exact hl)
    rw [addAt, Int.toNat_natCast, mod_last] at this
    rw [List.map_append, ← List.append_assoc]
    exact this
mutual
theorem built : ∀ n : Node, Built (rwN n) n
  | .mk ps ks => builts ps ks [] (by rw [rw_mk]; exact Built.one ps)
theorem builts (ps : List Pr) : ∀ (ks k0 : List Node), Built (rwN (.mk ps k0)) (.mk ps k0) → Built (rwN (.mk ps (k0 ++ ks))) (.mk ps (k0 ++ ks))
  | [], k0, h => by rw [List.append_nil]; exact h
  | k :: r, k0, h => by
    have h1 := lift (built k) h
    have h2 := builts ps r (k0 ++ [k]) (by rw [h1.rows]; exact h1)
    rw [List.append_assoc] at h2
    exact h2
end
theorem find_leaf (ps : List Pr) (i : Int) (r : List Int) : find (.mk ps []) (i :: r) = none := find_out (by show ¬ (0 ≤ i ∧ i < (0 : Nat)); omega)
def kcnt (n : Node) (x : List Int) : Option Int := (find n x).map fun m => (m.ks.length : Int)
theorem kcnt_cons (ps : List Pr) (ks : List Node) (i : Nat) (r : List Int) : kcnt (.mk ps ks) ((i : Int) :: r) = (ks[i]?).bind fun k => kcnt k r := by
  unfold kcnt
  rw [find_cons]
  show Option.map _ ((ks[i]?).bind _) = _
  cases ks[i]? <;> rfl
theorem kcnt_neg (n : Node) {i : Int} (r : List Int) (h : ¬ 0 ≤ i) : kcnt n (i :: r) = none := by
  unfold kcnt
  rw [find_out (by omega)]
  rfl
theorem kcnt_add (ps : List Pr) (x : List Int) : ∀ (q : List Int) (n m : Node), find n q = some m → kcnt (addAt (.mk ps []) q n) x = if x = q ++ [(m.ks.length : Int)] then some 0 else if x = q then (kcnt n x).map (· + 1) else kcnt n x := by
  intro q
  induction q generalizing x with
  | nil =>
    intro n m hf
    cases n with
    | mk p0 ks =>
      rw [find] at hf
      cases hf
      rw [addAt]
      cases x with
      | nil =>
        rw [if_neg (by simp), if_pos rfl]
        show some (((ks ++ [Node.mk ps []]).length : Nat) : Int) = some ((ks.length : Int) + 1)
        rw [List.length_append]
        rfl
      | cons i r =>
        rw [if_neg (show ¬ (i :: r = []) by simp)]
        by_cases h0 : 0 ≤ i
        · obtain ⟨j, rfl⟩ := Int.eq_ofNat_of_zero_le h0
          rw [kcnt_cons, kcnt_cons]
          show _ = if (j : Int) :: r = [((ks.length : Nat) : Int)] then some 0 else _
          by_cases h1 : j < ks.length
          · rw [List.getElem?_append_left h1, if_neg]
            intro z
            have := (List.cons.inj z).1
            omega
          · by_cases h2 : j = ks.length
            · subst h2
              rw [List.getElem?_append_right (Nat.le_refl _), Nat.sub_self, List.getElem?_eq_none (Nat.le_refl _)]
              show kcnt (.mk ps []) r = _
              cases r with
              | nil => rw [if_pos rfl]; rfl
              | cons a b =>
                rw [if_neg (by simp)]
                unfold kcnt
                rw [find_leaf]
                rfl
            · rw [List.getElem?_eq_none (by rw [List.length_append, List.length_singleton]; omega), List.getElem?_eq_none (by omega), if_neg]
              intro z
              have := (List.cons.inj z).1
              omega
        · rw [kcnt_neg _ _ h0, kcnt_neg _ _ h0, if_neg]
          intro z
          have := (List.cons.inj z).1
          omega
  | cons i q ih =>
    intro n m hf
    cases n with
    | mk p0 ks =>
      rw [find] at hf
      by_cases h0 : 0 ≤ i
      · rw [if_pos h0] at hf
        obtain ⟨k, hk, hf2⟩ := Option.bind_eq_some_iff.mp hf
        obtain ⟨j, rfl⟩ := Int.eq_ofNat_of_zero_le h0
        have hk : ks[j]? = some k := hk
        rw [addAt, Int.toNat_natCast]
        cases x with
        | nil =>
          rw [if_neg (by simp), if_neg (by simp)]
          show some (((ks.modify j _).length : Nat) : Int) = some ((ks.length : Nat) : Int)
          rw [List.length_modify]
        | cons a r =>
          by_cases ha : 0 ≤ a
          · obtain ⟨b, rfl⟩ := Int.eq_ofNat_of_zero_le ha
            rw [kcnt_cons, kcnt_cons, List.getElem?_modify]
            by_cases e : j = b
            · subst e
              rw [hk]
              simp only [if_true, Option.map_some, Option.bind_some, Option.map_eq_map]
              rw [ih r k m hf2]
              simp
            · rw [if_neg (fun z => e (by have := (List.cons.inj z).1; omega)), if_neg (fun z => e (by have := (List.cons.inj z).1; omega))]
              simp only [if_neg e]
              cases ks[b]? <;> rfl
          · rw [kcnt_neg _ _ ha, kcnt_neg _ _ ha, if_neg (fun z => ha (by have := (List.cons.inj z).1; omega)), if_neg (fun z => ha (by have := (List.cons.inj z).1; omega))]
      · rw [if_neg h0] at hf
        cases hf
end Nl

namespace Nl
open PySem PySem.Spec PyProof.Rows L2
/-! ### a tree, from its last moment back: what is still to be put behind each moment -/
mutual
def plug (F : List Int → List Node) (p : List Int) : Node → Node
  | .mk ps ks => .mk ps (plugs F p 0 ks ++ F p)
def plugs (F : List Int → List Node) (p : List Int) (i : Nat) : List Node → List Node
  | [] => []
  | k :: r => plug F (p ++ [(i : Int)]) k :: plugs F p (i + 1) r
end
mutual
theorem plug_same {F G : List Int → List Node} : ∀ (p : List Int) (n : Node), (∀ r, F (p ++ r) = G (p ++ r)) → plug F p n = plug G p n
  | p, .mk ps ks, h => by
    rw [plug, plug, plugs_same p 0 ks (fun i r => h _), show F p = G p by have := h []; rwa [List.append_nil] at this]
theorem plugs_same {F G : List Int → List Node} : ∀ (p : List Int) (i : Nat) (ks : List Node), (∀ (j : Nat) r, F (p ++ ((i + j : Nat) : Int) :: r) = G (p ++ ((i + j : Nat) : Int) :: r)) → plugs F p i ks = plugs G p i ks
  | p, i, [], h => rfl
  | p, i, k :: r, h => by
    have h1 : plug F (p ++ [(i : Int)]) k = plug G (p ++ [(i : Int)]) k := plug_same _ k fun t => by
      have := h 0 t
      rw [List.append_assoc]
      exact this
    have h2 : plugs F p (i + 1) r = plugs G p (i + 1) r := plugs_same p (i + 1) r fun j t => by
      have := h (j + 1) t
      rw [show i + 1 + j = i + (j + 1) by omega]
      exact this
    rw [plugs, plugs, h1, h2]
end
theorem plugs_app (F : List Int → List Node) (p : List Int) : ∀ (a b : List Node) (i : Nat), plugs F p i (a ++ b) = plugs F p i a ++ plugs F p (i + a.length) b
  | [], b, i => rfl
  | k :: a, b, i => by
    rw [List.cons_append, plugs, plugs, plugs_app F p a b (i + 1), List.cons_append, List.length_cons]
    congr 3
    omega
mutual
theorem plug_nil : ∀ (p : List Int) (n : Node), plug (fun _ => []) p n = n
  | p, .mk ps ks => by rw [plug, plugs_nil p 0 ks, List.append_nil]
theorem plugs_nil : ∀ (p : List Int) (i : Nat) (ks : List Node), plugs (fun _ => []) p i ks = ks
  | p, i, [] => rfl
  | p, i, k :: r => by rw [plugs, plug_nil _ k, plugs_nil p (i + 1) r]
end
def putF (F : List Int → List Node) (q : List Int) (c : Int) (ps : List Pr) : List Int → List Node := fun x => if x = q then .mk ps (F (q ++ [c])) :: F q else F x
theorem putF_ne {F : List Int → List Node} {q x : List Int} {c : Int} {ps : List Pr} (h : x ≠ q) : putF F q c ps x = F x := if_neg h
theorem mod_get {α : Type} (f : α → α) : ∀ (i : Nat) (l : List α) (x : α), l[i]? = some x → ∃ a b, l = a ++ x :: b ∧ a.length = i ∧ l.modify i f = a ++ f x :: b
  | 0, y :: l, x, h => by
    cases h
    exact ⟨[], l, rfl, rfl, rfl⟩
  | i + 1, y :: l, x, h => by
    rw [List.getElem?_cons_succ] at h
    obtain ⟨a, b, e1, e2, e3⟩ := mod_get f i l x h
    exact ⟨y :: a, b, by rw [e1]; rfl, by rw [List.length_cons, e2], by rw [List.modify_succ_cons, e3]; rfl⟩
theorem plug_add (F : List Int → List Node) (ps : List Pr) : ∀ (q p : List Int) (n m : Node), find n q = some m → plug F p (addAt (.mk ps []) q n) = plug (putF F (p ++ q) (m.ks.length : Int) ps) p n
  | [], p, .mk p0 ks, m, hf => by
    rw [find] at hf
    cases hf
    rw [addAt, plug, plug, plugs_app, plugs, plugs, plug, plugs, List.nil_append, List.append_nil, Nat.zero_add]
    rw [plugs_same (F := putF F p _ ps) (G := F) p 0 ks (fun j r => putF_ne (fun z => by
      have := congrArg List.length z
      simp at this))]
    show Node.mk p0 (_ ++ [_] ++ F p) = Node.mk p0 (_ ++ putF F p _ ps p)
    unfold putF
    rw [if_pos rfl, List.append_assoc]
    rfl
  | i :: q, p, .mk p0 ks, m, hf => by
    rw [find] at hf
    by_cases h0 : 0 ≤ i
    · rw [if_pos h0] at hf
      obtain ⟨k, hk, hf2⟩ := Option.bind_eq_some_iff.mp hf
      obtain ⟨a, b, e1, e2, e3⟩ := mod_get (addAt (.mk ps []) q) i.toNat ks k hk
      rw [addAt, e3, plug, e1, plug, plugs_app, plugs_app, plugs, plugs]
      have ih := plug_add F ps q (p ++ [i]) k m hf2
      have ei : ((0 + a.length : Nat) : Int) = i := by omega
      rw [ei, ih, List.append_assoc]
      have d1 : ∀ j : Nat, (j : Int) ≠ i → ∀ r, putF F (p ++ ([i] ++ q)) (m.ks.length : Int) ps (p ++ (j : Int) :: r) = F (p ++ (j : Int) :: r) := fun j hj r => putF_ne fun z => hj (by
        have := List.append_cancel_left z
        exact (List.cons.inj this).1)
      have d2 : plugs (putF F (p ++ ([i] ++ q)) (m.ks.length : Int) ps) p 0 a = plugs F p 0 a := by
        have hl : ∀ (a : List Node) (t : Nat), t + a.length ≤ i.toNat → plugs (putF F (p ++ ([i] ++ q)) (m.ks.length : Int) ps) p t a = plugs F p t a := by
          intro a
          induction a with
          | nil => intro t _; rfl
          | cons x a ih2 =>
            intro t ht
            rw [List.length_cons] at ht
            rw [plugs, plugs, ih2 (t + 1) (by omega), plug_same (G := F) _ x (fun r => by
              have := d1 t (by omega) r
              rw [List.append_assoc]
              exact this)]
        exact hl a 0 (by omega)
      have d3 : plugs (putF F (p ++ ([i] ++ q)) (m.ks.length : Int) ps) p (0 + a.length + 1) b = plugs F p (0 + a.length + 1) b := plugs_same p _ b fun j r => d1 _ (by omega) r
      have d4 : putF F (p ++ ([i] ++ q)) (m.ks.length : Int) ps p = F p := putF_ne fun z => by
        have := congrArg List.length z
        simp at this
      show _ = Node.mk p0 ((plugs (putF F (p ++ ([i] ++ q)) (m.ks.length : Int) ps) p 0 a ++ _ :: plugs (putF F (p ++ ([i] ++ q)) (m.ks.length : Int) ps) p (0 + a.length + 1) b) ++ putF F (p ++ ([i] ++ q)) (m.ks.length : Int) ps p)
      rw [d2, d3, d4, List.append_assoc p [i] q, List.append_assoc]
      rfl
    · rw [if_neg h0] at hf
      cases hf
end Nl

namespace Nl
open PySem PySem.Spec PyProof.Rows L2
open TL (tl numL)
open PySem.NumText
theorem ent_rw (n : Node) : entE n = rwN n := rfl
theorem ord_cm {l : List Row} {n : Node} (h : Built l n) : ∀ q, cmL (l.map (·.1)) q = kcnt n q := by
  induction h with
  | one ps =>
    intro q
    cases q with
    | nil => rfl
    | cons i r =>
      unfold kcnt
      rw [find_leaf]
      rfl
  | @more l n q m ps hb hf hl ih =>
    intro x
    rw [List.map_append, List.map_singleton, cmL_snoc (by simpa using hb.ne), kcnt_add ps x q n m hf]
    unfold cmS
    rw [List.dropLast_concat, ih x]
theorem ord_of {l : List Row} {n : Node} (h : Built l n) : OrdOk (l.map (·.1)) := by
  induction h with
  | one ps => exact ⟨rfl, fun i p h0 hp => by
      rw [List.getElem?_eq_none (by show 1 ≤ i; exact h0)] at hp
      cases hp⟩
  | @more l n q m ps hb hf hl ih =>
    have hne := hb.ne
    refine ⟨?_, fun i p h0 hp => ?_⟩
    · cases l with
      | nil => exact absurd rfl hne
      | cons a l => exact ih.1
    · rw [List.map_append] at hp ⊢
      by_cases hi : i < (l.map (·.1)).length
      · rw [List.getElem?_append_left hi] at hp
        rw [List.take_append_of_le_length (Nat.le_of_lt hi)]
        exact ih.2 i p h0 hp
      · have hi2 : i = (l.map (·.1)).length := by
          have := (List.getElem?_eq_some_iff.mp hp).1
          rw [List.length_append, List.map_singleton, List.length_singleton] at this
          omega
        subst hi2
        rw [List.getElem?_append_right (Nat.le_refl _), Nat.sub_self] at hp
        cases hp
        rw [List.take_left']
        · refine ⟨hl, (m.ks.length : Int), ?_, ?_⟩
          · rw [ord_cm hb]
            show kcnt n (q ++ [(m.ks.length : Int)]).dropLast = _
            rw [List.dropLast_concat]
            unfold kcnt
            rw [hf]
            rfl
          · show (q ++ [(m.ks.length : Int)]).getLast? = _
            rw [List.getLast?_concat]
        · rfl
theorem ord_to : ∀ (k : Nat) (l : List Row), l.length = k + 1 → OrdOk (l.map (·.1)) → ∃ n, Built l n
  | 0, l, hk, h => by
    match l, hk with
    | [(p, ps)], _ =>
      have : some p = some [] := h.1
      cases this
      exact ⟨_, Built.one ps⟩
  | k + 1, l, hk, h => by
    rcases List.eq_nil_or_concat l with e | ⟨l, x, e⟩
    · subst e
      simp at hk
    · subst e
      rw [List.concat_eq_append] at h hk ⊢
      rw [List.length_append, List.length_singleton] at hk
      rw [List.map_append] at h
      have hl : (l.map (·.1)).length = k + 1 := by rw [List.length_map]; omega
      obtain ⟨n, hb⟩ := ord_to k l (by omega) ⟨by
        have := h.1
        cases l with
        | nil => simp at hl
        | cons a l => exact this, fun i p h0 hp => by
        have hi := (List.getElem?_eq_some_iff.mp hp).1
        have := h.2 i p h0 (by rw [List.getElem?_append_left hi]; exact hp)
        rw [List.take_append_of_le_length (Nat.le_of_lt hi)] at this
        exact this⟩
      obtain ⟨h1, c, h2, h3⟩ := h.2 (k + 1) x.1 (by omega) (by rw [List.getElem?_append_right (by omega), hl, Nat.sub_self]; rfl)
      rw [← hl, List.take_left'] at h1 h2
      · rw [ord_cm hb] at h2
        obtain ⟨m, hf, hc⟩ := Option.map_eq_some_iff.mp h2
        have hne := lex_ne h1
        have e : x.1.dropLast ++ [c] = x.1 := by
          have e1 := List.dropLast_concat_getLast hne
          rw [List.getLast?_eq_some_getLast hne] at h3
          cases h3
          exact e1
        have := Built.more (ps := x.2) hb hf (by rw [hc, e]; exact h1)
        rw [hc, e] at this
        exact ⟨_, this⟩
      · rfl
      · rfl
/-- the lists of what follows each moment -/
theorem Built.inv {l : List Row} {e : Row} {n : Node} (h : Built (l ++ [e]) n) (hl : l ≠ []) : ∃ n' q m ps, Built l n' ∧ find n' q = some m ∧ e = (q ++ [(m.ks.length : Int)], ps) ∧ n = addAt (.mk ps []) q n' := by
  generalize hL : l ++ [e] = L at h
  cases h with
  | one ps =>
    exfalso
    cases l with
    | nil => exact hl rfl
    | cons a l => simp at hL
  | @more l' n' q m ps hb hf hx =>
    obtain ⟨e1, e2⟩ := List.append_inj' hL rfl
    subst e1
    cases e2
    exact ⟨n', q, m, ps, hb, hf, rfl, rfl⟩
theorem DTs.rev {K : PySem.W.Frag} {H : Hp} : ∀ {xs : List V} {ds : List PyData}, DTs K H xs ds → DTs K H xs.reverse ds.reverse
  | _, _, .nil => .nil
  | _, _, .cons h t => by
    rw [List.reverse_cons, List.reverse_cons]
    exact t.rev.snoc h
theorem find_row {n m : Node} {q : List Int} (h : find n q = some m) : ∃ r ∈ rwN n, r.1 = q := ⟨(q, m.ps), List.mem_map.mpr ⟨(q, m), find_preE q ([], n) m h, rfl⟩, rfl⟩
structure Fol (K : PySem.W.Frag) (H0 : Hp) (D : Addr) (m : Nat) (F : List Int → List Node) (H' : Hp) (f : List Int → Option V) : Prop where
  d : DictP H' D m f
  l : ∀ p v, f p = some v → ∃ a xs, v = .ref a ∧ H0 a = none ∧ H' a = some (.lst xs) ∧ DTs K H' xs ((F p).reverse.map nodeD)
  inj : ∀ p q a, f p = some (.ref a) → f q = some (.ref a) → p = q
theorem Fol.same {K : PySem.W.Frag} {H0 : Hp} {D : Addr} {m : Nat} {F : List Int → List Node} {H' H2 : Hp} {f : List Int → Option V} (h : Fol K H0 D m F H' f) (s : Same H' H2) : Fol K H0 D m F H2 f :=
  ⟨h.d.same s, fun p v e => let ⟨a, xs, e1, e2, e3, e4⟩ := h.l p v e; ⟨a, xs, e1, e2, s _ _ e3, e4.same s⟩, h.inj⟩
theorem Fol.dne {K : PySem.W.Frag} {H0 : Hp} {D : Addr} {m : Nat} {F : List Int → List Node} {H' : Hp} {f : List Int → Option V} (h : Fol K H0 D m F H' f) {a : Addr} {xs : List V} (e : H' a = some (.lst xs)) : D ≠ a := fun z => by
  obtain ⟨kvs, hd, _⟩ := h.d
  rw [z, e] at hd
  cases hd
theorem Fol.app {K : PySem.W.Frag} {H0 : Hp} {D a : Addr} {m : Nat} {F : List Int → List Node} {H' : Hp} {f : List Int → Option V} {q : List Int} {xs : List V} {v : V} {c : Int} {ps : List Pr} (h : Fol K H0 D m F H' f) (e : f q = some (.ref a)) (hx : H' a = some (.lst xs))
    (hv : DT K H' v (nodeD (.mk ps (F (q ++ [c]))))) : Fol K H0 D m (putF F q c ps) (upd H' a (.lst (xs ++ [v]))) f := by
  have iA : IsL H' a := ⟨_, hx⟩
  refine ⟨?_, fun p w ew => ?_, h.inj⟩
  · obtain ⟨kvs, hd, h2, h3⟩ := h.d
    exact ⟨kvs, by rw [upd_ne (h.dne hx)]; exact hd, h2, h3⟩
  · obtain ⟨b, ys, rfl, e2, e3, e4⟩ := h.l p w ew
    by_cases eb : b = a
    · subst eb
      have ep := h.inj p q b ew e
      subst ep
      rw [hx] at e3
      cases e3
      refine ⟨b, _, rfl, e2, upd_same, ?_⟩
      unfold putF
      rw [if_pos rfl, List.reverse_cons, List.map_append]
      exact (e4.snoc hv).xt iA Xt.upd
    · refine ⟨b, ys, rfl, e2, by rw [upd_ne eb]; exact e3, ?_⟩
      have ne : p ≠ q := fun z => by
        subst z
        rw [e] at ew
        cases ew
        exact eb rfl
      rw [putF_ne ne]
      exact e4.xt iA Xt.upd
section
variable {P : Program} {w : World} {K : PySem.W.Frag} {mg : Str → Option Value} {base : Heap}
def sp_tree (K : PySem.W.Frag) : Sp := fun vs H Q E => ∃ (a : Addr) (xs : List V) (n : Node), vs = [.ref a] ∧ H a = some (.lst xs) ∧ DTs K H xs ((entE n).map momD) ∧ (entE n).length ≤ 400 ∧ ∀ v H', Same H H' → DT K H' v (nodeD n) → Q v H'
theorem ok__tree (T : Top K mg) : FnOk P w K mg base CX0 1 T.a__tree T.d__tree ["told"] (sp_tree K) := by
  refine T._tree_F.ok sc__tree (fun vs H Q E h => ?_) (fun cdv A outer s H vs Q E hr h => ?_)
  · obtain ⟨_, _, _, rfl, _⟩ := h
    rfl
  · obtain ⟨a, xs, n, rfl, ha, dx, hl, fin⟩ := h
    refine ⟨_, (pss_cons (ps_setDcT (i := 2) (own := [("path", 1), ("_", 4)]) (g := (gTup K 2 (gCons (gName 1) (gCons (gName 4) gNil)))) (by rfl) hr.units0 sc__tree.nd rfl rfl (sw_dict rfl rfl rfl (by decide +kernel)) (pi_list (pv 0)) (blkOk_by (own := [("path", 1), ("_", 4)]) (N := ["told", "path", "following", "prices", "_"]) (sc := defScope s__tree) (by decide +kernel)) (fun _ _ _ _ _ => (pg_tup rfl (pgs_cons (pg_name (i := 1) sc__tree.nd rfl (Or.inl rfl)) (pgs_cons (pg_name (i := 4) sc__tree.nd rfl (Or.inl rfl)) pgs_nil)))) (fun _ _ _ _ _ => (pv 1)) (fun _ _ _ _ _ => (pe_lst pa_nil)))
      (pss_cons (ps_for PassesOwn.never rfl (RT.pi_revA (by rfl) T.n_reversed (pe_slice sl_list (pv 0) (po_some pe_int) po_none)) (pg_tup rfl (pgs_cons (pg_name (i := 1) sc__tree.nd rfl (Or.inl rfl)) (pgs_cons (pg_name (i := 3) sc__tree.nd rfl (Or.inl rfl)) pgs_nil))) (pss_one (ps_expr (pe_bm PySem.F.plainAttrs_list PySem.F.slot_list_append PySem.F.type_list_append mt_append (pe_dget (Nat.lt_of_le_of_lt (Nat.add_le_add_left (by decide : 1 ≤ 64) _) hr.units) (pv 2) (pe_slice sl_tupP (pv 1) po_none (po_some (pe_un un_neg pe_int))) (fun _ _ => rfl)) (pa_cons (pe_tup (pa_cons (pv 3) (pa_cons (RT.pe_tupRev rfl (by rfl) T.n_tuple (by rfl) T.n_reversed (pe_dget (Nat.lt_of_le_of_lt (Nat.add_le_add_left (by decide : 1 ≤ 64) _) hr.units) (pv 2) (pv 1) (fun _ _ => rfl))) pa_nil))) pa_nil)))))
      (pss_one (ps_ret (pe_tup (pa_cons (pe_ix ix_tup (pe_ix ix_list (pv 0) pe_int (fun _ _ => rfl)) pe_int (fun _ _ => rfl)) (pa_cons (RT.pe_tupRev rfl (by rfl) T.n_tuple (by rfl) T.n_reversed (pe_dget (Nat.lt_of_le_of_lt (Nat.add_le_add_left (by decide : 1 ≤ 64) _) hr.units) (pv 2) (pe_tup pa_nil) (fun _ _ => rfl))) pa_nil))))))), ?_⟩
    have B := built n
    rw [← ent_rw] at B
    generalize hL : entE n = L at *
    have lx : xs.length = L.length := by rw [dx.len, List.length_map]
    refine ⟨_, rfl, a, rfl, ⟨_, SqL.of ha⟩, fun D hD => dcT_list (K := K) (a := a) (xs := xs) (fun i H' => Same H H' ∧ ∃ f, Fol K H D i (fun _ => []) H' f ∧ ∀ r ∈ L.take i, ∃ v, f r.1 = some v) ⟨same_new hD, fun _ => none, ⟨DictP.nil upd_same, fun p v e => (nomatch e), fun p q b e => (nomatch e)⟩, fun r hr => by simp at hr⟩ (fun i H' ⟨sm, _⟩ => SqL.of (sm _ _ ha)) ?_ ?_⟩
    · rintro i x H' hi ⟨sm, f, FO, hf⟩
      obtain ⟨d, hd, dxi⟩ := dx.get hi
      rw [List.getElem?_map] at hd
      obtain ⟨e, he, rfl⟩ := Option.map_eq_some_iff.mp hd
      have hlt := (List.getElem?_eq_some_iff.mp he).1
      obtain ⟨b, vp, vq, rfl, hb, dp, dq⟩ := (dxi.same sm).inv2
      obtain ⟨c, rfl, hc⟩ := dp.path_inv
      refine ⟨_, _, rfl, hb.sq, rfl, _, _, rfl, _, _, rfl, rfl, rfl, ?_⟩
      refine ⟨_, rfl, Nat.zero_le _, fun pl hpl => ?_⟩
      have u1 := same_new (o := .lst []) hpl
      have hL1 : (upd H' pl (.lst [])) pl = some (.lst []) := upd_same
      have fpl : H pl = none := by
        cases e : H pl with
        | none => rfl
        | some o => rw [sm _ _ e] at hpl; cases hpl
      have F1 := FO.same u1
      obtain ⟨kvs, kk, cc, e1, e2, e3, e4, P2⟩ := F1.d.put (v := .ref pl) (by omega) (tp_same u1 hc)
      generalize (upd H' pl (.lst [])) = H2 at *
      refine ⟨kvs, kk, cc, e1, e2, e3, e4, ?_, _, ⟨P2, ?_, ?_⟩, ?_⟩
      · exact same_mut (sm.trans u1) hD
      · intro p v ev
        by_cases e1 : p = e.1
        · rw [if_pos e1] at ev
          cases ev
          refine ⟨pl, [], rfl, fpl, by rw [upd_ne (F1.dne hL1).symm]; exact hL1, .nil⟩
        · rw [if_neg e1] at ev
          obtain ⟨a2, ys, e2, e3, e4, e5⟩ := F1.l p v ev
          cases e5
          exact ⟨a2, [], e2, e3, by rw [upd_ne (F1.dne e4).symm]; exact e4, .nil⟩
      · intro p q a2 ep eq
        by_cases e1 : p = e.1
        · by_cases e2 : q = e.1
          · rw [e1, e2]
          · rw [if_neg e2] at eq
            rw [if_pos e1] at ep
            cases ep
            obtain ⟨a3, ys, e3, _, e4, _⟩ := FO.l q _ eq
            cases e3
            rw [hpl] at e4
            cases e4
        · by_cases e2 : q = e.1
          · rw [if_neg e1] at ep
            rw [if_pos e2] at eq
            cases eq
            obtain ⟨a3, ys, e3, _, e4, _⟩ := FO.l p _ ep
            cases e3
            rw [hpl] at e4
            cases e4
          · rw [if_neg e1] at ep
            rw [if_neg e2] at eq
            exact FO.inj p q a2 ep eq
      · intro r hr2
        by_cases e1 : r.1 = e.1
        · exact ⟨.ref pl, if_pos e1⟩
        · rw [take_next he] at hr2
          rcases List.mem_append.mp hr2 with hr2 | hr2
          · obtain ⟨v, hv⟩ := hf r hr2
            exact ⟨v, by rw [if_neg e1]; exact hv⟩
          · exact absurd (by rw [List.mem_singleton.mp hr2]) e1
    · rintro H2 ⟨s2, f, FO, hf⟩
      rw [lx] at FO
      rw [lx, List.take_length] at hf
      have ha2 := s2 _ _ ha
      refine ⟨_, rfl, _, rfl, a, _, rfl, SqL.of ha2, fun q1 k1 => ?_⟩
      rw [show cutV xs (some 1) none = xs.drop 1 from cut_drop xs 1]
      have u3 := same_new (o := .lst (xs.drop 1)) k1
      have hq3 : (upd H2 q1 (.lst (xs.drop 1))) q1 = some (.lst (xs.drop 1)) := upd_same
      have F3 := FO.same u3
      have s3 := s2.trans u3
      generalize hH3 : (upd H2 q1 (.lst (xs.drop 1))) = H3 at *
      have l1 : (xs.drop 1).length = L.length - 1 := by rw [List.length_drop, lx]
      have hL0 : 0 < L.length := List.length_pos_iff.mpr B.ne
      have nf : ∀ p b, f p = some (.ref b) → b ≠ q1 := fun p b e z => by
        obtain ⟨a2, ys, e2, _, e4, _⟩ := FO.l p _ e
        cases e2
        rw [z, k1] at e4
        cases e4
      refine ⟨q1, xs.drop 1, rfl, .inl ⟨SqL.of hq3, for_it walk_rev (fun i σ H' => ∃ (y1 y3 y4 : Option V) (F : List Int → List Node) (ni : Node), σ = [some (.ref a), y1, some (.ref D), y3, y4] ∧ Same H H' ∧ H' q1 = some (.lst (xs.drop 1)) ∧ Fol K H D L.length F H' f ∧ Built (L.take (L.length - i)) ni ∧ plug F [] ni = n ∧ ∀ q, (F q).length ≤ i) ⟨_, _, _, fun _ => [], n, rfl, s3, hq3, F3, by rw [Nat.sub_zero, List.take_length]; exact B, plug_nil [] n, fun q => Nat.le_refl _⟩ (fun i σ H' _ ⟨_, _, _, _, _, _, _, hq, _⟩ => SqL.of hq) ?_ ?_⟩⟩
      · rintro i x σ H4 H5 hi ⟨y1, y3, y4, F, ni, rfl, s4, hq4, F4, B4, P4, N4⟩ ⟨e5, hx⟩
        subst e5
        have hi : i < L.length - 1 := by rw [← l1]; exact hi
        have ht1 : 1 ≤ L.length - 1 - i := by omega
        obtain ⟨t, ht⟩ : ∃ t, t = L.length - 1 - i := ⟨_, rfl⟩
        rw [List.getElem?_drop, l1, show 1 + (L.length - 1 - 1 - i) = t by omega] at hx
        obtain ⟨d, hd, dxi⟩ := dx.get hx
        rw [List.getElem?_map] at hd
        obtain ⟨e, he, rfl⟩ := Option.map_eq_some_iff.mp hd
        rw [show L.length - i = t + 1 by omega, take_next he] at B4
        obtain ⟨n', q, m, ps, B5, hfq, rfl, rfl⟩ := B4.inv (by
          intro z
          have := congrArg List.length z
          rw [List.length_take, List.length_nil] at this
          omega)
        obtain ⟨b, vp, vq, rfl, hb, dp, dq⟩ := (dxi.same s4).inv2
        obtain ⟨c, rfl, hc⟩ := dp.path_inv
        have hpm := List.mem_of_getElem? he
        obtain ⟨r, hr1, hr2⟩ := find_row hfq
        rw [B5.rows] at hr1
        obtain ⟨v1, hv1⟩ := hf r (List.mem_of_mem_take hr1)
        obtain ⟨v2, hv2⟩ := hf _ hpm
        rw [hr2] at hv1
        have hv2 : f (q ++ [(m.ks.length : Int)]) = some v2 := hv2
        obtain ⟨aq, xq, rfl, f1, g1, d1⟩ := F4.l _ _ hv1
        obtain ⟨ap, xp, rfl, f2, g2, d2⟩ := F4.l _ _ hv2
        refine ⟨_, _, rfl, hb.sq, rfl, _, _, rfl, _, _, rfl, rfl, ?_⟩
        refine ⟨_, rfl, _, rfl, _, rfl, _, rfl, c, _, rfl, hc, fun pp H6 s6 t6 => ?_⟩
        rw [cut_init, show ((q ++ [(m.ks.length : Int)], ps) : Row).1.dropLast = q from List.dropLast_concat] at t6
        have F6 := F4.same s6
        have hc6 := tp_same s6 hc
        refine ⟨D, .ref aq, rfl, hv1 ▸ F6.d.get t6, .inl ⟨rfl, _, SqL.of (s6 _ _ g1)⟩, _, rfl, _, rfl, _, rfl, D, .ref ap, rfl, hv2 ▸ F6.d.get hc6, ap, xp, rfl, SqL.of (s6 _ _ g2), fun r1 h1 => ?_⟩
        have u7 := same_new (o := .tup xp.reverse) h1
        have t7 : Tp (upd H6 r1 (.tup xp.reverse)) r1 xp.reverse := Tp.of upd_same
        have F7 := F6.same u7
        have hq7 := u7 _ _ (s6 _ _ hq4)
        have g7 := u7 _ _ (s6 _ _ g1)
        have d7 : DT K (upd H6 r1 (.tup xp.reverse)) (.ref r1) (.tuple ((F (q ++ [(m.ks.length : Int)])).map nodeD)) := by
          refine DT.tup t7 ?_
          have := (((d2.same s6).same u7).rev)
          rw [← List.map_reverse, List.reverse_reverse] at this
          exact this
        have dq7 := (dq.same s6).same u7
        have s7 := (s4.trans s6).trans u7
        generalize (upd H6 r1 (.tup xp.reverse)) = H7 at *
        refine ⟨two_le, fun p8 h8 => ?_⟩
        have u8 := same_new (o := .tup [vq, .ref r1]) h8
        have F8 := F7.same u8
        have hq8 := u8 _ _ hq7
        have g8 := u8 _ _ g7
        have s8 := s7.trans u8
        have d8 : DT K (upd H7 p8 (.tup [vq, .ref r1])) (.ref p8) (nodeD (.mk ps (F (q ++ [(m.ks.length : Int)])))) := by
          rw [nodeD_eq]
          exact DT.mk2 (Tp.of upd_same) (dq7.same u8) (d7.same u8)
        generalize (upd H7 p8 (.tup [vq, .ref r1])) = H8 at *
        have nq := nf _ _ hv1
        refine ⟨aq, _, _, rfl, rfl, g8, ?_, _, _, _, putF F q (m.ks.length : Int) ps, n', rfl, same_mut s8 f1, by rw [upd_ne nq.symm]; exact hq8, F8.app hv1 g8 d8, ?_, ?_, ?_⟩
        · have := d1.len
          rw [List.length_map, List.length_reverse] at this
          have := N4 q
          exact small1000 (by omega)
        · rw [show L.length - (i + 1) = t by omega]
          exact B5
        · rw [← P4]
          exact (plug_add F ps q [] n' m hfq).symm
        · intro x
          unfold putF
          by_cases ex : x = q
          · rw [if_pos ex, List.length_cons]
            have := N4 q
            omega
          · rw [if_neg ex]
            have := N4 x
            omega
      · rintro σ H4 ⟨y1, y3, y4, F, ni, rfl, s4, hq4, F4, B4, P4, N4⟩
        rw [l1, show L.length - (L.length - 1) = 1 by omega] at B4
        obtain ⟨e0, L0, rfl⟩ : ∃ e0 L0, L = e0 :: L0 := by
          match L, hL0 with
          | a :: b, _ => exact ⟨a, b, rfl⟩
        have B4 : Built ([] ++ [e0]) ni := B4
        obtain ⟨ps, rfl, rfl⟩ : ∃ ps, e0 = ([], ps) ∧ ni = .mk ps [] := by
          generalize hz : ([] ++ [e0] : List Row) = Z at B4
          cases B4 with
          | one ps =>
            cases hz
            exact ⟨ps, rfl, rfl⟩
          | @more l' n' q m ps hb hf hx =>
            have := congrArg List.length hz
            rw [List.length_append, List.length_append] at this
            exact absurd (List.length_eq_zero_iff.mp (by simpa using this.symm)) hb.ne
        obtain ⟨v0, hv0, d0⟩ := dx.at_ (i := 0) (d := momD ([], ps)) rfl
        obtain ⟨b, vp, vq, rfl, hb, dp, dq⟩ := (d0.same s4).inv2
        obtain ⟨v1, hv1⟩ := hf _ (List.mem_cons_self ..)
        have hv1 : f [] = some v1 := hv1
        obtain ⟨aq, xq, rfl, f1, g1, d1⟩ := F4.l _ _ hv1
        refine ⟨_, rfl, a, _, 0, .ref b, rfl, rfl, SqL.of (s4 _ _ ha), atI_nat (j := 0) hv0, b, [vp, vq], 1, vq, rfl, rfl, hb.sq, rfl, ?_⟩
        refine ⟨_, rfl, Nat.zero_le _, fun p5 h5 => ?_⟩
        have u5 := same_new (o := .tup []) h5
        have t5 : Tp (upd H4 p5 (.tup [])) p5 (([] : List Int).map V.int) := Tp.of upd_same
        have F5 := F4.same u5
        refine ⟨D, .ref aq, rfl, hv1 ▸ F5.d.get t5, aq, xq, rfl, SqL.of (u5 _ _ g1), fun r1 h1 => ?_⟩
        have u6 := same_new (o := .tup xq.reverse) h1
        have d6 : DT K (upd (upd H4 p5 (.tup [])) r1 (.tup xq.reverse)) (.ref r1) (.tuple ((F []).map nodeD)) := by
          refine DT.tup (Tp.of upd_same) ?_
          have := (((d1.same u5).same u6).rev)
          rw [← List.map_reverse, List.reverse_reverse] at this
          exact this
        have dq6 := (dq.same u5).same u6
        refine ⟨two_le, fun p8 h8 => ?_⟩
        have u8 := same_new (o := .tup [vq, .ref r1]) h8
        refine fin _ _ (((s4.trans u5).trans u6).trans u8) ?_
        rw [← P4, nodeD_eq, plug, plugs]
        exact DT.mk2 (Tp.of upd_same) (dq6.same u8) (d6.same u8)
end
end Nl

namespace Nl
open PySem PySem.Spec PyProof.Rows L2
open TL (tl numL)
open PySem.NumText
/-! ### the text of a market, read -/
def RowOk (g : Int) (e : Row) : Prop := (∀ i ∈ e.1, 0 ≤ i ∧ i < 1000000000) ∧ (e.2.length : Int) = max 0 (g - 1) ∧ ∀ r ∈ e.2, RdOk (fracT r.1) r.1 ∧ RdOk (fracT r.2) r.2
def FormM (cs : List Nat) (g : Int) (n : Node) : Prop := textM g n = cs ∧ 0 ≤ g ∧ g < 1000000000 ∧ ∀ e ∈ entE n, RowOk g e
def rowL (e : Row) : List Nat := TL.joinL [32] (wordsE e.1 e.2)
def headL (g : Int) : List Nat := goodsW ++ [32] ++ intL g
theorem flat_join : ∀ ls : List (List Nat), (ls.map fun l => l ++ [10]).flatten = TL.joinL [10] (ls ++ [[]])
  | [] => rfl
  | [l] => by simp [TL.joinL]
  | l :: q :: r => by
    have := flat_join (q :: r)
    rw [List.map_cons, List.flatten_cons, this]
    rw [show l :: q :: r ++ [[]] = l :: q :: (r ++ [[]]) from rfl, show q :: r ++ [[]] = q :: (r ++ [[]]) from rfl]
    rw [TL.joinL]
    simp
theorem row_free (e : Row) : 10 ∉ rowL e := fun z => by
  rcases join_sign z with h | ⟨l, hl, h⟩
  · simp at h
  · exact (words_free e.1 e.2 l hl).2 h
theorem head_free (g : Int) : 10 ∉ headL g := fun z => by
  unfold headL at z
  rcases List.mem_append.mp z with h | h
  · revert h
    decide
  · have := intL_sign g 10 h
    omega
theorem text_cut (g : Int) (n : Node) : cut 10 (textM g n) = (headL g :: (entE n).map rowL) ++ [[]] := by
  have e : textM g n = TL.joinL [10] ((headL g :: (entE n).map rowL) ++ [[]]) := by
    rw [← flat_join]
    unfold textM linesM
    rw [List.map_cons, List.map_map]
    rfl
  rw [e]
  refine join_cut (by simp) fun l hl => ?_
  rcases List.mem_append.mp hl with hl | hl
  · rcases List.mem_cons.mp hl with rfl | hl
    · exact head_free g
    · obtain ⟨x, _, rfl⟩ := List.mem_map.mp hl
      exact row_free x
  · rw [List.mem_singleton.mp hl]
    simp
theorem cut_text {cs : List Nat} {g : Int} {n : Node} (h : cut 10 cs = (headL g :: (entE n).map rowL) ++ [[]]) : textM g n = cs := by
  rw [← cut_join 10 cs, h, ← flat_join]
  unfold textM linesM
  rw [List.map_cons, List.map_map]
  rfl
theorem intL_inj {a b : Int} (h : intL a = intL b) : a = b := by rw [← intV_intL a, h, intV_intL]
theorem goods_inj {cs : List Nat} {a b : Int} (h1 : lineG a = cs ++ [10]) (h2 : lineG b = cs ++ [10]) : a = b := by
  have e : goodsW ++ [32] ++ intL a ++ [10] = goodsW ++ [32] ++ intL b ++ [10] := h1.trans h2.symm
  have e := List.append_inj_left' e rfl
  exact intL_inj (List.append_cancel_left e)
theorem pathT_inj {p q : List Int} (hp : ∀ i ∈ p, 0 ≤ i ∧ i < 1000000000) (hq : ∀ i ∈ q, 0 ≤ i ∧ i < 1000000000) (e : pathT p = pathT q) : p = q := by
  have ok : ∀ p : List Int, (∀ i ∈ p, 0 ≤ i ∧ i < 1000000000) → ∀ w ∈ p.map intL, IdxOk w := fun p h w hw => by
    obtain ⟨k, hk, rfl⟩ := List.mem_map.mp hw
    exact (idx_to (h k hk).1 (h k hk).2).1
  unfold pathT at e
  by_cases h1 : p = []
  · by_cases h2 : q = []
    · rw [h1, h2]
    · rw [if_pos h1, if_neg h2] at e
      exact absurd e.symm (joinL_ne45 (ok q hq))
  · by_cases h2 : q = []
    · rw [if_pos h2, if_neg h1] at e
      exact absurd e (joinL_ne45 (ok p hp))
    · rw [if_neg h1, if_neg h2] at e
      have c1 := join_cut (c := 46) (ps := p.map intL) (by simpa using h1) fun w hw => (idx_dot (ok p hp w hw)).1
      have c2 := join_cut (c := 46) (ps := q.map intL) (by simpa using h2) fun w hw => (idx_dot (ok q hq w hw)).1
      rw [e, c2] at c1
      have := congrArg (List.map intV) c1
      rw [List.map_map, List.map_map] at this
      have hid : ∀ l : List Int, l.map (intV ∘ intL) = l := fun l => by
        conv => rhs; rw [← List.map_id l]
        exact List.map_congr_left fun z _ => intV_intL z
      rw [hid, hid] at this
      exact this.symm
theorem row_paths {g g' : Int} : ∀ {a b : List Row}, a.map rowL = b.map rowL → (∀ e ∈ a, RowOk g e) → (∀ e ∈ b, RowOk g' e) → a.map (·.1) = b.map (·.1)
  | [], [], _, _, _ => rfl
  | x :: a, y :: b, h, ha, hb => by
    rw [List.map_cons, List.map_cons] at h ⊢
    obtain ⟨h1, h2⟩ := List.cons.inj h
    have e1 : lineE (y.1, y.2) = rowL x ++ [10] := by rw [h1]; rfl
    have c1 := line_cut (cs := rowL x) (p := x.1) (ps := x.2) rfl
    have c2 := line_cut e1
    rw [c1] at c2
    unfold wordsE at c2
    have := (List.cons.inj (List.cons.inj c2).2).1
    rw [pathT_inj (ha x (by simp)).1 (hb y (by simp)).1 this, row_paths h2 (fun e he => ha e (List.mem_cons_of_mem _ he)) fun e he => hb e (List.mem_cons_of_mem _ he)]
theorem intL_bd {z : Int} (h : (intL z).length ≤ 1000) : Bd 3400 z := by
  have hn : (numL z.natAbs).length ≤ 1000 := by
    unfold intL at h
    split at h
    · rw [List.length_cons] at h
      omega
    · exact h
  have := val_bd (natT_numL z.natAbs).all hn
  rw [val_numL] at this
  unfold Bd at this ⊢
  rw [Int.natAbs_natCast] at this
  exact this
theorem rd_ok {q : Int × Int} (h : RdOk (fracT q) q) : Ok 3400 q := by
  obtain ⟨h1, h2, _⟩ := h
  unfold fracT at h1
  split at h1
  · rename_i e
    refine ⟨h2, intL_bd h1, ?_⟩
    rw [e]
    exact Bd.mono (k := 2) (by unfold Bd; decide) (by decide)
  · rw [List.length_append, List.length_cons] at h1
    exact ⟨h2, intL_bd (by omega), intL_bd (by omega)⟩
section
variable {P : Program} {w : World} {K : PySem.W.Frag} {mg : Str → Option Value} {base : Heap}
def sp_rmk (K : PySem.W.Frag) (M L Z : Addr) : Sp := fun vs H Q E => ∃ cs : List Nat, vs = [.str (SX.S cs)] ∧ cs.length ≤ 1000000 ∧ (cut 10 cs).length ≤ 300 ∧ ((∀ g n, ¬ FormM cs g n) → ∀ H', Same H H' → E (.ref Z) none H') ∧
  ∀ g n, FormM cs g n → (BadM g n → ∀ H', Same H H' → E (.ref M) none H') ∧ (¬ BadM g n → BigM n → ∀ H', Same H H' → E (.ref L) none H') ∧ (Good g n → ∀ v H', Same H H' → Mk K H' v g n → Q v H')
theorem ok_read_market (T : Top K mg) (nd : base.NoDigits) : FnOk P w K mg base (L2.CX P w) 5 T.a_read_market T.d_read_market ["text"] (sp_rmk K T.c_MarketError T.c_TooLarge T.c_TextError) := by
  refine T.read_market_F.okX sc_read_market (fun vs H Q E h => ?_) (fun cdv A outer s H vs Q E hr h => ?_)
  · obtain ⟨_, rfl, _⟩ := h
    rfl
  · obtain ⟨cs, rfl, hl, hl2, kE, kQ⟩ := h
    refine ⟨_, (pss_cons (ps_set (i := 1) sc_read_market.nd rfl (Or.inl rfl) (pe_m1 PySem.F.slot_str_split PySem.F.type_str_split mt_split (pv 0) pe_str))
      (pss_cons (ps_if (pt_cmpR op_ne (pe_bm0 PySem.F.plainAttrs_list PySem.F.slot_list_pop PySem.F.type_list_pop mt_pop (pv 1)) pe_str (nomark _)) (pss_one (ps_raise rfl (takes_of rfl rfl rfl rfl) (pmk_own PySem.F.excBase_ValueError T.x_TextError T.g_TextError T.k_TextError (raises_own T.b_TextError T.t_TextError) rfl))) pss_nil)
      (pss_cons (ps_if (pt_cmpR op_lt (pe_callB call_lenL (by rfl) T.n_len (by decide +kernel) (pa_cons (pv 1) pa_nil)) pe_int (nomark _)) (pss_one (ps_raise rfl (takes_of rfl rfl rfl rfl) (pmk_own PySem.F.excBase_ValueError T.x_TextError T.g_TextError T.k_TextError (raises_own T.b_TextError T.t_TextError) rfl))) pss_nil)
      (pss_cons (ps_set (i := 2) sc_read_market.nd rfl (Or.inr rfl) (pe_callS (ok__read_goods T nd) (hr.mono (by decide : 3 ≤ 4)) rfl T.g__read_goods T._read_goods_F.kp T._read_goods_b (fun σ => passAt (takes_of rfl rfl rfl rfl) σ) (pa_cons (pe_ix ix_list (pv 1) pe_int (fun _ _ => rfl)) pa_nil)))
      (pss_cons (ps_setLcX (i := 3) (own := [("line", 5)]) (g := (gName 5)) (tt := tYes) (by rfl) sc_read_market.nd rfl rfl (sw_true rfl rfl rfl (by decide +kernel)) rfl rfl (takes_of rfl rfl rfl rfl) (pi_list (pe_slice sl_list (pv 1) (po_some pe_int) po_none)) (blkOk_by (own := [("line", 5)]) (N := ["text", "lines", "goods", "told", "market", "line", "path", "_"]) (sc := defScope s_read_market) (by decide +kernel)) (fun _ _ _ _ _ => (pg_name (i := 5) sc_read_market.nd rfl (Or.inl rfl))) (fun _ _ _ _ _ => pts_nil) (fun _ _ _ _ _ _ tkb => (pe_callS (ok__read_moment T nd) (hr.mono (by decide : 4 ≤ 4)) rfl T.g__read_moment T._read_moment_F.kp T._read_moment_b (fun σ => passAt tkb σ) (pa_cons (pv 2) (pa_cons (pv 5) pa_nil)))))
      (pss_cons (ps_expr (pe_callS (ok__check_order T) (hr.mono (by decide : 1 ≤ 4)) rfl T.g__check_order T._check_order_F.kp T._check_order_b (fun σ => passAt (takes_of rfl rfl rfl rfl) σ) (pa_cons (pe_lc (own := [("path", 6), ("_", 7)]) (g := (gTup K 2 (gCons (gName 6) (gCons (gName 7) gNil)))) (tt := tYes) (by rfl) sc_read_market.nd (pi_list (pv 3)) (blkOk_by (own := [("path", 6), ("_", 7)]) (N := ["text", "lines", "goods", "told", "market", "line", "path", "_"]) (sc := defScope s_read_market) (by decide +kernel)) (fun _ _ _ _ _ => (pg_tup rfl (pgs_cons (pg_name (i := 6) sc_read_market.nd rfl (Or.inl rfl)) (pgs_cons (pg_name (i := 7) sc_read_market.nd rfl (Or.inl rfl)) pgs_nil)))) (fun _ _ _ _ _ => pts_nil) (fun _ _ _ _ _ => (pv 6))) pa_nil)))
      (pss_cons (ps_set (i := 4) sc_read_market.nd rfl (Or.inl rfl) (pe_tup (pa_cons (pv 2) (pa_cons (pe_call (ok__tree T) (hr.mono (by decide : 1 ≤ 4)) (by rfl) T.g__tree T._tree_F.kp T._tree_b .nil pass0 (pa_cons (pv 3) pa_nil)) pa_nil))))
      (pss_cons (ps_expr (pe_callS (ok_check_market T) (hr.mono (by decide : 3 ≤ 4)) rfl T.g_check_market T.check_market_F.kp T.check_market_b (fun σ => passAt (takes_of rfl rfl rfl rfl) σ) (pa_cons (pv 4) pa_nil)))
      (pss_one (ps_ret (pv 4))))))))))), ?_⟩
    rw [show Str.ofString "\n" = SX.S [10] from lit _ _ (by decide), show Str.ofString "" = SX.S [] from rfl]
    refine ⟨_, rfl, ⟨_, rfl⟩, _, _, rfl, rfl, rfl, by rw [SX.S_len]; exact Nat.le_trans (m := 1000002) (by omega) (by decide), fun pw hpw => ?_⟩
    rw [cut_split (by decide)]
    have fcut : ∀ g n, FormM cs g n → cut 10 cs = (headL g :: (entE n).map rowL) ++ [[]] := fun g n h => by rw [← h.1]; exact text_cut g n
    have hwl : ∀ w ∈ cut 10 cs, w.length ≤ 1000000 := fun w hw => Nat.le_trans (cut_wl hw) hl
    have hc2 : ∀ g n, FormM cs g n → ∃ e r, entE n = e :: r := fun g n _ => by
      cases he : entE n with
      | nil => exact absurd he (rw_ne n)
      | cons e r => exact ⟨e, r, rfl⟩
    have hjoin := fun (g : Int) (n : Node) (h : cut 10 cs = (headL g :: (entE n).map rowL) ++ [[]]) => cut_text h
    obtain ⟨ls, lz, hls⟩ : ∃ ls lz, cut 10 cs = ls ++ [lz] := by
      rcases List.eq_nil_or_concat (cut 10 cs) with e | ⟨l, x, e⟩
      · exact absurd e (cut_ne 10 cs)
      · exact ⟨l, x, by rw [e, List.concat_eq_append]⟩
    rw [hls] at fcut hwl hl2 hjoin ⊢
    have hW1 : (upd H pw (.lst (((ls ++ [lz]).map SX.S).map V.str))) pw = some (.lst (((ls ++ [lz]).map SX.S).map V.str)) := upd_same
    have exs : ((ls ++ [lz]).map SX.S).map V.str = ((ls.map SX.S).map V.str) ++ [V.str (SX.S lz)] := by simp
    have s2 : Same H (upd (upd H pw (.lst (((ls ++ [lz]).map SX.S).map V.str))) pw (.lst (((ls ++ [lz]).map SX.S).map V.str).dropLast)) := same_mut (same_new hpw) hpw
    have hW2 : (upd (upd H pw (.lst (((ls ++ [lz]).map SX.S).map V.str))) pw (.lst (((ls ++ [lz]).map SX.S).map V.str).dropLast)) pw = some (.lst ((ls.map SX.S).map V.str)) := by
      rw [upd_same, exs, List.dropLast_concat]
    refine ⟨_, rfl, .inl ⟨rfl, _, SqL.of hW1⟩, pw, _, V.str (SX.S lz), rfl, rfl, hW1, by rw [exs, List.length_append, List.length_singleton, Nat.add_sub_cancel, List.getElem?_append_right (Nat.le_refl _), Nat.sub_self]; rfl, rfl, _, rfl, ?_⟩
    rw [dstr]
    generalize (upd (upd H pw (.lst (((ls ++ [lz]).map SX.S).map V.str))) pw (.lst (((ls ++ [lz]).map SX.S).map V.str).dropLast)) = H2 at *
    by_cases hz : lz = []
    rotate_left
    · refine if_true_of' (by rw [decide_eq_false hz]; rfl) ?_
      refine kE (fun g n h => hz ?_) _ s2
      have := (List.append_inj' (fcut g n h) rfl).2
      exact List.singleton_inj.mp this
    refine if_false_of' (by rw [decide_eq_true hz]; rfl) ?_
    subst hz
    have fcut : ∀ g n, FormM cs g n → ls = headL g :: (entE n).map rowL := fun g n h => (List.append_inj' (fcut g n h) rfl).1
    have lW : ((ls.map SX.S).map V.str).length = ls.length := by rw [List.length_map, List.length_map]
    rw [List.length_append, List.length_singleton] at hl2
    refine ⟨_, rfl, pw, _, rfl, SqL.of hW2, _, _, rfl, rfl, _, rfl, ite2 (fun c => ?_) (fun c => ?_)⟩
    · refine kE (fun g n h => ?_) _ s2
      obtain ⟨e, r, he⟩ := hc2 g n h
      have c := of_decide_eq_true c
      rw [lW, fcut g n h, he] at c
      simp at c
      omega
    obtain ⟨l0, l1, rest, rfl⟩ : ∃ l0 l1 rest, ls = l0 :: l1 :: rest := by
      have c : ¬ ((ls.length : Nat) : Int) < 2 := fun z => c (decide_eq_true (by rw [lW]; exact z))
      match ls, c with
      | a :: b :: r, _ => exact ⟨a, b, r, rfl⟩
      | [a], h => exact absurd h (by simp)
      | [], h => exact absurd h (by simp)
    refine ⟨_, rfl, pw, _, 0, V.str (SX.S l0), rfl, rfl, SqL.of hW2, atI_nat (j := 0) rfl, l0, rfl, hwl l0 (by simp), fun hn H3 s3 => ?_, fun g hg H3 s3 => ?_⟩
    · refine kE (fun g n h => hn g ?_) _ (s2.trans s3)
      rw [(List.cons.inj (fcut g n h)).1]
      exact ⟨rfl, h.2.1, h.2.2.1⟩
    have eg : ∀ g' n, FormM cs g' n → g' = g := fun g' n h => by
      have e := (List.cons.inj (fcut g' n h)).1
      exact goods_inj (cs := l0) (by rw [e]; rfl) hg.1
    have hW3 := s3 _ _ hW2
    have s03 := s2.trans s3
    have frest : ∀ g' n, FormM cs g' n → l1 :: rest = (entE n).map rowL := fun g' n h => (List.cons.inj (fcut g' n h)).2
    have hwl : ∀ w ∈ l1 :: rest, w.length ≤ 1000000 := fun w hw => hwl w (by
      rcases List.mem_cons.mp hw with rfl | hw
      · simp
      · simp [hw])
    have hbuild : ∀ n, l0 = headL g → l1 :: rest = (entE n).map rowL → textM g n = cs := fun n h1 h2 => hjoin g n (by rw [h1, h2])
    have el0 : l0 = headL g := (List.append_inj_left' hg.1 rfl).symm
    have hlr : (l1 :: rest).length ≤ 300 := by
      rw [List.length_cons] at hl2
      omega
    refine ⟨_, rfl, _, rfl, pw, _, rfl, SqL.of hW3, fun q1 k1 => ?_⟩
    rw [show cutV (((l0 :: l1 :: rest).map SX.S).map V.str) (some 1) none = ((l1 :: rest).map SX.S).map V.str from cut_drop _ 1]
    generalize hR : l1 :: rest = R at *
    have u4 := same_new (o := .lst ((R.map SX.S).map V.str)) k1
    have hq4 : (upd H3 q1 (.lst ((R.map SX.S).map V.str))) q1 = some (.lst ((R.map SX.S).map V.str)) := upd_same
    have s04 := s03.trans u4
    generalize (upd H3 q1 (.lst ((R.map SX.S).map V.str))) = H4 at *
    have lR : ((R.map SX.S).map V.str).length = R.length := by rw [List.length_map, List.length_map]
    refine ⟨q1, rfl, ⟨_, SqL.of hq4⟩, fun D hD => lc_list (K := K) (a := q1) (xs := (R.map SX.S).map V.str) (fun i H' => Same H4 H' ∧ ∃ (es : List Row) (acc : List V), es.map rowL = R.take i ∧ (∀ e ∈ es, RowOk g e) ∧ H' D = some (.lst acc) ∧ DTs K H' acc (es.map momD)) ⟨same_new hD, [], [], rfl, fun q hq => absurd hq (by simp), upd_same, .nil⟩ (fun i H' _ ⟨sm, _⟩ => SqL.of (sm _ _ hq4)) ?_ ?_⟩
    · rintro i x H' hi ⟨sm, es, acc, e1, g1, hO, dA⟩
      rw [List.getElem?_map, List.getElem?_map] at hi
      obtain ⟨y, hy, rfl⟩ := Option.map_eq_some_iff.mp hi
      obtain ⟨w, hw, rfl⟩ := Option.map_eq_some_iff.mp hy
      have hmem := List.mem_of_getElem? hw
      have hlt := (List.getElem?_eq_some_iff.mp hw).1
      refine ⟨rfl, ?_⟩
      dsimp only [tYes]
      rw [if_pos rfl]
      refine ⟨_, rfl, _, rfl, g, w, rfl, hg.2.1, hg.2.2, hwl w hmem, fun hn H5 s5 => ?_, fun p ps hm v H5 s5 dv => ?_⟩
      · refine kE (fun g' n h => ?_) _ ((s04.trans sm).trans s5)
        have e := eg g' n h
        subst e
        rw [frest g' n h] at hmem
        obtain ⟨e, he, rfl⟩ := List.mem_map.mp hmem
        exact hn e.1 e.2 ⟨rfl, h.2.2.2 e he⟩
      · have hO5 := s5 _ _ hO
        have iD : IsL H5 D := ⟨_, hO5⟩
        have lq : acc.length = i := by
          rw [dA.len, List.length_map]
          have := congrArg List.length e1
          rw [List.length_map, List.length_take] at this
          omega
        refine ⟨acc, hO5, Nat.lt_of_lt_of_le (m := 1000002) (by omega) (by decide), same_mut (sm.trans s5) hD, es ++ [(p, ps)], acc ++ [v], ?_, fun t ht => ?_, upd_same, ?_⟩
        · rw [take_next hw, List.map_append, e1]
          show _ ++ [rowL (p, ps)] = _
          rw [show rowL (p, ps) = w from List.append_inj_left' hm.1 rfl]
        · rcases List.mem_append.mp ht with ht | ht
          · exact g1 t ht
          · rw [List.mem_singleton.mp ht]
            exact hm.2
        · rw [List.map_append]
          exact ((dA.same s5).snoc dv).xt iD Xt.upd
    · rintro H5 ⟨s5, es, acc, e1, g1, hO, dA⟩
      rw [lR, List.take_length] at e1
      have le : es.length = R.length := by rw [← e1, List.length_map]
      have la : acc.length = es.length := by rw [dA.len, List.length_map]
      have s05 := s04.trans s5
      have R0 : 0 < R.length := by rw [← hR]; simp
      refine ⟨_, rfl, D, rfl, ⟨_, SqL.of hO⟩, fun D2 hD2 => lc_list (K := K) (a := D) (xs := acc) (fun i H' => Same H5 H' ∧ ∃ ys : List V, H' D2 = some (.lst ys) ∧ DTs K H' ys ((es.take i).map fun e => pathD e.1)) ⟨same_new hD2, [], upd_same, .nil⟩ (fun i H' _ ⟨sm, _⟩ => SqL.of (sm _ _ hO)) ?_ ?_⟩
      · rintro i x H6 hi ⟨sm, ys, hY, dY⟩
        obtain ⟨d, hd, dxi⟩ := dA.get hi
        rw [List.getElem?_map] at hd
        obtain ⟨e, he, rfl⟩ := Option.map_eq_some_iff.mp hd
        obtain ⟨b, vp, vq, rfl, hb, dp, dq⟩ := (dxi.same sm).inv2
        have hlt := (List.getElem?_eq_some_iff.mp he).1
        refine ⟨_, _, rfl, hb.sq, rfl, _, _, rfl, _, _, rfl, rfl, rfl, ?_⟩
        dsimp only [tYes]
        rw [if_pos rfl]
        refine ⟨_, rfl, ys, hY, ?_, same_mut sm hD2, ys ++ [vp], upd_same, ?_⟩
        · have := dY.len
          rw [List.length_map] at this
          have := List.length_take_le' i es
          exact small1000 (by omega)
        · rw [take_next he, List.map_append]
          exact (dY.snoc dp).xt ⟨_, hY⟩ Xt.upd
      · rintro H6 ⟨s6, ys, hY, dY⟩
        rw [la, List.take_length] at dY
        have s06 := s05.trans s6
        have hO6 := s6 _ _ hO
        have es0 : 0 < es.length := by omega
        have sameP : ∀ n, FormM cs g n → es.map (·.1) = (entE n).map (·.1) := fun n h => row_paths (g := g) (g' := g) (by rw [e1]; exact frest g n h) g1 h.2.2.2
        refine ⟨D2, ys, es.map (·.1), rfl, hY, by rw [List.map_map]; exact dY, by rw [List.length_map]; exact es0, by rw [List.length_map]; omega, fun hn H7 s7 => ?_, fun ho H7 s7 => ?_⟩
        · refine kE (fun g' n h => ?_) _ (s06.trans s7)
          have e := eg g' n h
          subst e
          rw [sameP n h] at hn
          exact hn (ord_of (built n))
        obtain ⟨n, B⟩ := ord_to (es.length - 1) es (by omega) ho
        have en : entE n = es := B.rows
        have fm : FormM cs g n := ⟨hbuild n el0 (by rw [en, e1]), hg.2.1, hg.2.2, by rw [en]; exact g1⟩
        obtain ⟨kM, kL, kG⟩ := kQ g n fm
        have s07 := s06.trans s7
        refine ⟨_, rfl, _, rfl, D, acc, n, rfl, s7 _ _ hO6, by rw [en]; exact (dA.same s6).same s7, by rw [en]; omega, fun vt H8 s8 dt => ⟨two_le, fun p9 h9 => ?_⟩⟩
        have u9 := same_new (o := .tup [.int g, vt]) h9
        have dm : DT K (upd H8 p9 (.tup [.int g, vt])) (.ref p9) (marketD g n) := DT.mk2 (Tp.of upd_same) (.int g) (dt.same u9)
        have s09 := (s07.trans s8).trans u9
        generalize (upd H8 p9 (.tup [.int g, vt])) = H9 at *
        have nb : NodeB n := fun e he r hr => by
          have h1 := fm.2.2.2 (e.1, e.2.ps) (List.mem_map.mpr ⟨e, he, rfl⟩)
          have h2 := h1.2.2 r hr
          exact ⟨rd_ok h2.1, rd_ok h2.2⟩
        have nl : (pre [] n).length ≤ 1000 := by
          have : (pre [] n).length = (entE n).length := (List.length_map _).symm
          rw [this, en]
          omega
        refine ⟨_, rfl, .ref p9, g, n, rfl, dm, nb, nl, fun b H10 s10 => kM b _ (s09.trans s10), fun b b2 H10 s10 => kL b b2 _ (s09.trans s10), fun b b2 H10 s10 => ?_⟩
        exact ⟨_, rfl, kG ⟨b, b2⟩ _ _ (s09.trans s10) ⟨dm.same s10, nb, nl⟩⟩
end
end Nl

namespace Nl
open PySem PySem.Spec PyProof.Rows L2
/-- str(i), i of up to 4300 digits -/
theorem call_str_long {X : Cx} (hc : X.calm = true) (nd : X.base.NoDigits) : CallR X (.type "str") (fun xs H Q => ∃ i, xs = [.int i] ∧ i.natAbs < 10 ^ 4300 ∧ Q (.str (Str.ofString (toString i))) H) := by
  intro pins s σ H xs us Q I r h
  obtain ⟨i, rfl, hz, q⟩ := h
  obtain ⟨u, rfl, t, rfl⟩ := vals1 r
  exact PyProof.Rows.str_of_int_or (I.ok.hd hc) (nd.keeps fun b o e => (I.bk b o e)) (fun _ => ⟨.str _, H, I.tok _, ⟨_, rfl⟩, q⟩) (fun hge => absurd hge (Nat.not_le.mpr hz))
theorem bd_4300 {z : Int} (h : z.natAbs < 2 ^ 8000) : z.natAbs < 10 ^ 4300 := Nat.lt_of_lt_of_le h (by decide +kernel)
end Nl

namespace Nl
open PySem PySem.Spec PyProof.Rows L2
open TL (tl numL)
open PySem.NumText
section
variable {P : Program} {w : World} {K : PySem.W.Frag} {mg : Str → Option Value} {base : Heap}
def sp_lword (K : PySem.W.Frag) : Sp := fun vs H Q _ => ∃ (v : V) (q : Int × Int), vs = [v] ∧ DT K H v (frD q) ∧ Bd 3400 q.1 ∧ Bd 3400 q.2 ∧ Q (.str (SX.S (fracT q))) H
theorem ok__law_word (T : Top K mg) (nd : base.NoDigits) : FnOk P w K mg base CX0 1 T.a__law_word T.d__law_word ["a"] (sp_lword K) := by
  refine T._law_word_F.ok sc__law_word (fun vs H Q E h => ?_) (fun cdv A outer s H vs Q E hr h => ?_)
  · obtain ⟨_, _, rfl, _⟩ := h
    rfl
  · obtain ⟨v, q, rfl, dv, b1, b2, fin⟩ := h
    obtain ⟨a, rfl, ha⟩ := dv.fr_inv
    refine ⟨_, (pss_one (ps_ret (pe_ifExp (pt_cmpR op_eq (pe_ix ix_tup (pv 0) pe_int (fun _ _ => rfl)) pe_int (nomark _)) (pe_callTy (call_str_long rfl nd) (by rfl) T.n_str (by decide +kernel) (pa_cons (pe_ix ix_tup (pv 0) pe_int (fun _ _ => rfl)) pa_nil)) (pe_op op_add_str (pe_op op_add_str (pe_callTy (call_str_long rfl nd) (by rfl) T.n_str (by decide +kernel) (pa_cons (pe_ix ix_tup (pv 0) pe_int (fun _ _ => rfl)) pa_nil)) pe_str) (pe_callTy (call_str_long rfl nd) (by rfl) T.n_str (by decide +kernel) (pa_cons (pe_ix ix_tup (pv 0) pe_int (fun _ _ => rfl)) pa_nil)))))), ?_⟩
    have c1 := bd_4300 (Bd.mono (m := 8000) b1 (by decide))
    have c2 := bd_4300 (Bd.mono (m := 8000) b2 (by decide))
    refine ⟨_, rfl, a, _, 1, _, rfl, rfl, ha.sq, rfl, rfl, _, rfl, ?_⟩
    by_cases e : q.2 = 1
    · refine if_true_of' (by rw [e]; exact decide_eq_true rfl) ?_
      refine ⟨_, rfl, a, _, 0, _, rfl, rfl, ha.sq, rfl, _, rfl, c1, ?_⟩
      rw [str_int, show intL q.1 = fracT q from by rw [fracT, if_pos e]]
      exact fin
    · refine if_false_of' (decide_eq_false fun z => e (V.int.inj z)) ?_
      have l1 := intL_big b1
      have l2 := intL_big b2
      refine ⟨_, rfl, a, _, 0, _, rfl, rfl, ha.sq, rfl, _, rfl, c1, ?_⟩
      rw [str_int, show Str.ofString "/" = SX.S [47] from lit _ _ (by decide)]
      refine ⟨_, _, rfl, rfl, by rw [SX.S_len, SX.S_len]; exact len1000' (by simp; omega), ?_⟩
      rw [SX.S_cat]
      refine ⟨_, rfl, a, _, 1, _, rfl, rfl, ha.sq, rfl, _, rfl, c2, ?_⟩
      rw [str_int]
      refine ⟨_, _, rfl, rfl, by rw [SX.S_len, SX.S_len]; exact len1000' (by simp; omega), ?_⟩
      rw [SX.S_cat, show intL q.1 ++ [47] ++ intL q.2 = fracT q from by rw [fracT, if_neg e]; simp]
      exact fin
def sp_ltold (K : PySem.W.Frag) : Sp := fun vs H Q _ => ∃ cs : List Nat, vs = [.str (SX.S cs)] ∧ cs.length ≤ 1000000 ∧ (cut 10 cs).length ≤ 300 ∧ ((∀ g n, ¬ FormM cs g n) → ∀ H', Same H H' → Q (.str (Str.ofString "text")) H') ∧
  ∀ g n, FormM cs g n → (¬ Good g n → ∀ H', Same H H' → Q (.str (Str.ofString "other")) H') ∧ (Good g n → ∀ v H', Same H H' → Mk K H' v g n → Q v H')
theorem ok__law_told (T : Top K mg) (nd : base.NoDigits) : FnOk P w K mg base CX0 6 T.a__law_told T.d__law_told ["text"] (sp_ltold K) := by
  refine T._law_told_F.ok sc__law_told (fun vs H Q E h => ?_) (fun cdv A outer s H vs Q E hr h => ?_)
  · obtain ⟨_, rfl, _⟩ := h
    rfl
  · obtain ⟨cs, rfl, hl, hl2, kE, kQ⟩ := h
    refine ⟨_, (pss_cons (ps_try_as (i := 2) rfl rfl sc__law_told.nd rfl rfl ⟨rfl, by decide, .inl T.g_MarketplaceError⟩ takes0 (fun W pn xe tk _ => (pss_one (ps_set (i := 1) sc__law_told.nd rfl (Or.inl rfl) (pe_callS (ok_read_market T nd) (hr.mono (by decide : 5 ≤ 5)) rfl T.g_read_market T.read_market_F.kp T.read_market_b (fun σ => passAt tk σ) (pa_cons (pv 0) pa_nil)))))
      (fun a oe cls d pn hz hf => (pss_one (ps_ret (pe_ifExp (pt_val (pe_hyp (p := ∃ D, cls = .ref D ∧ d = none ∧ ExcC K D) (fun z => pe_callB (r := rIsX K cls a) (call_isX z hz hf) (by rfl) T.n_isinstance (by decide +kernel) (pa_cons (pv 2) (pa_cons (pe_glob (v := .ref T.c_TextError) (by rfl) T.g_TextError rfl) pa_nil))))) pe_str pe_str)))))
      (pss_one (ps_ret (pv 1)))), ?_⟩
    refine ⟨_, rfl, cs, rfl, hl, hl2, fun z H1 s1 => ?_, fun g n hf => ⟨fun b H1 s1 => ?_, fun b1 b2 H1 s1 => ?_, fun G v H1 s1 M => ⟨_, rfl, (kQ g n hf).2 G v H1 s1 M⟩⟩⟩
    · exact ⟨true, PySem.W.exm_ref T.b_MarketplaceError T.h_MarketplaceError T.t_MarketplaceError T.s_TextError_MarketplaceError, fun _ x hx => ⟨⟨_, rfl, rfl, T.e_TextError⟩, _, rfl, _, _, true, rfl, fun _ u => u, (kit_ref T.h_TextError T.t_TextError T.s_TextError_TextError T.s_TextError_TextError), _, rfl, iteT (kE z H1 s1)⟩, fun z => nomatch z⟩
    · exact ⟨true, PySem.W.exm_ref T.b_MarketplaceError T.h_MarketplaceError T.t_MarketplaceError T.s_MarketError_MarketplaceError, fun _ x hx => ⟨⟨_, rfl, rfl, T.e_MarketError⟩, _, rfl, _, _, false, rfl, fun _ u => u, (kit_ref T.h_TextError T.t_TextError T.s_MarketError_TextError T.s_MarketError_MarketError), _, rfl, iteF ((kQ g n hf).1 (fun G => G.1 b) H1 s1)⟩, fun z => nomatch z⟩
    · exact ⟨true, PySem.W.exm_ref T.b_MarketplaceError T.h_MarketplaceError T.t_MarketplaceError T.s_TooLarge_MarketplaceError, fun _ x hx => ⟨⟨_, rfl, rfl, T.e_TooLarge⟩, _, rfl, _, _, false, rfl, fun _ u => u, (kit_ref T.h_TextError T.t_TextError T.s_TooLarge_TextError T.s_TooLarge_TooLarge), _, rfl, iteF ((kQ g n hf).1 (fun G => G.2 b2) H1 s1)⟩, fun z => nomatch z⟩
end
end Nl

namespace Nl
open PySem PySem.Spec PyProof.Rows L2
open TL (tl numL)
open PySem.NumText
theorem pre_in : ∀ (n : Nat) (e x y : PN), (preE e).length ≤ n → x ∈ preE e → y ∈ preE x → y ∈ preE e
  | 0, e, x, y, hl, hx, hy => by
    rw [preE_eq] at hl
    simp at hl
  | n + 1, e, x, y, hl, hx, hy => by
    rw [preE_eq] at hx ⊢
    rcases List.mem_cons.mp hx with rfl | hx
    · rwa [preE_eq] at hy
    · obtain ⟨k, hk, hxk⟩ := List.mem_flatMap.mp hx
      have h1 : (preE k).length ≤ ((kidsOf e).flatMap preE).length := by
        rw [List.length_flatMap]
        exact le_sum (List.mem_map.mpr ⟨k, hk, rfl⟩)
      rw [preE_eq, List.length_cons] at hl
      exact List.mem_cons_of_mem _ (List.mem_flatMap.mpr ⟨k, hk, pre_in n k x y (by omega) hxk hy⟩)
theorem good_time {g : Int} {n : Node} (G : Good g n) {x : PN} (hx : x ∈ pre [] n) : x.1.length ≤ 5 := by
  obtain ⟨y, hy, hz⟩ := some_end _ x (Nat.le_refl _)
  obtain ⟨r, hr⟩ := pre_ext _ x y (Nat.le_refl _) hy
  have hm : y ∈ pre [] n := pre_in _ ([], n) x y (Nat.le_refl _) hx hy
  have h5 : ¬ 5 < y.1.length := fun z => G.2 (.inr ⟨y.1.length, List.mem_map.mpr ⟨y, List.mem_filter.mpr ⟨hm, by rw [hz]; rfl⟩, rfl⟩, z⟩)
  rw [hr, List.length_append] at h5
  omega
theorem log_small {z : Int} (h : z.natAbs < 10 ^ 12) : z.natAbs.log2 < 1920 := by
  by_cases h0 : z.natAbs = 0
  · rw [h0]
    decide
  · exact (Nat.log2_lt h0).mpr (Nat.lt_trans h (by decide +kernel))
theorem via {tt : TT} {ta tb : TE} {σ : L2.St} {H : Hp} {Q : VK} (z : V) (h : ∀ H', Same H H' → Q z H') (g : (∀ H', Same H H' → Q z H') → tIf tt ta tb σ H Q) : tIf tt ta tb σ H Q := g h
section
variable {P : Program} {w : World} {K : PySem.W.Frag} {mg : Str → Option Value} {base : Heap}
def sp_ltext (K : PySem.W.Frag) : Sp := fun vs H Q _ => ∃ (v : V) (g : Int) (n : Node), vs = [v] ∧ Mk K H v g n ∧ Good g n ∧ ∀ H', Same H H' → Q (.str (SX.S (textM g n))) H'
theorem ok__law_text (T : Top K mg) (nd : base.NoDigits) : FnOk P w K mg base CX0 5 T.a__law_text T.d__law_text ["market"] (sp_ltext K) := by
  refine T._law_text_F.ok sc__law_text (fun vs H Q E h => ?_) (fun cdv A outer s H vs Q E hr h => ?_)
  · obtain ⟨_, _, _, rfl, _⟩ := h
    rfl
  · obtain ⟨v, g, n, rfl, M, G, fin⟩ := h
    refine ⟨_, (pss_cons (ps_set (i := 1) sc__law_text.nd rfl (Or.inl rfl) (pe_op op_add_str (pe_op op_add_str pe_str (pe_callTy call_str_int (by rfl) T.n_str (by decide +kernel) (pa_cons (pe_ix ix_tup (pv 0) pe_int (fun _ _ => rfl)) pa_nil))) pe_str))
      (pss_cons (ps_for PassesOwn.never rfl (pi_list (pe_call (ok__law_nodes T) (hr.mono (by decide : 4 ≤ 4)) (by rfl) T.g__law_nodes T._law_nodes_F.kp T._law_nodes_b .nil pass0 (pa_cons (pv 0) pa_nil))) (pg_tup rfl (pgs_cons (pg_name (i := 2) sc__law_text.nd rfl (Or.inl rfl)) (pgs_cons (pg_name (i := 3) sc__law_text.nd rfl (Or.inl rfl)) pgs_nil))) (pss_cons (ps_set (i := 4) sc__law_text.nd rfl (Or.inl rfl) (pe_lst (pa_cons pe_str (pa_cons (pe_ifExp (pt_cmpR op_gt (pe_callB call_lenT (by rfl) T.n_len (by decide +kernel) (pa_cons (pv 2) pa_nil)) pe_int (nomark _)) (pe_m1 PySem.F.slot_str_join PySem.F.type_str_join mt_join pe_str (pe_lc (own := [("k", 7)]) (g := (gName 7)) (tt := tYes) (by rfl) sc__law_text.nd (pi_tup (pv 2)) (blkOk_by (own := [("k", 7)]) (N := ["market", "text", "path", "node", "words", "buy", "sell", "k"]) (sc := defScope s__law_text) (by decide +kernel)) (fun _ _ _ _ _ => (pg_name (i := 7) sc__law_text.nd rfl (Or.inl rfl))) (fun _ _ _ _ _ => pts_nil) (fun _ _ _ _ _ => (pe_callTy call_str_int (by rfl) T.n_str (by decide +kernel) (pa_cons (pv 7) pa_nil))))) pe_str) pa_nil))))
      (pss_cons (ps_for PassesOwn.never rfl (pi_tup (pe_ix ix_tup (pv 3) pe_int (fun _ _ => rfl))) (pg_tup rfl (pgs_cons (pg_name (i := 5) sc__law_text.nd rfl (Or.inl rfl)) (pgs_cons (pg_name (i := 6) sc__law_text.nd rfl (Or.inl rfl)) pgs_nil))) (pss_one (ps_set (i := 4) sc__law_text.nd rfl (Or.inl rfl) (pe_op op_cat (pv 4) (pe_lst (pa_cons (pe_call (ok__law_word T nd) (hr.mono (by decide : 1 ≤ 4)) (by rfl) T.g__law_word T._law_word_F.kp T._law_word_b .nil pass0 (pa_cons (pv 5) pa_nil)) (pa_cons (pe_call (ok__law_word T nd) (hr.mono (by decide : 1 ≤ 4)) (by rfl) T.g__law_word T._law_word_F.kp T._law_word_b .nil pass0 (pa_cons (pv 6) pa_nil)) pa_nil)))))))
      (pss_one (ps_set (i := 1) sc__law_text.nd rfl (Or.inl rfl) (pe_op op_add_str (pe_op op_add_str (pv 1) (pe_m1 PySem.F.slot_str_join PySem.F.type_str_join mt_join pe_str (pv 4))) pe_str))))))
      (pss_one (ps_ret (pv 1))))), ?_⟩
    obtain ⟨am, vn, rfl, ham, dn⟩ := id M.d.market_inv
    have g1 : 1 ≤ g ∧ g ≤ 4 := Decidable.byContradiction fun z => G.1 (.inl z)
    have lg := intL_small (z := g) (by unfold Bd; omega)
    rw [show Str.ofString "goods " = SX.S (goodsW ++ [32]) from lit _ _ (by decide), show Str.ofString "\n" = SX.S [10] from lit _ _ (by decide)]
    refine ⟨_, rfl, am, _, 0, _, rfl, rfl, ham.sq, rfl, g, rfl, log_small (by omega), ?_⟩
    rw [str_int]
    refine ⟨_, _, rfl, rfl, by rw [SX.S_len, SX.S_len]; exact len1000 (by simp [goodsW]; omega), ?_⟩
    rw [SX.S_cat]
    refine ⟨_, _, rfl, rfl, by rw [SX.S_len, SX.S_len]; exact len1000 (by simp [goodsW]; omega), ?_⟩
    rw [SX.S_cat, show goodsW ++ [32] ++ intL g ++ [10] = lineG g from rfl]
    have l40 := good_len G
    refine ⟨_, rfl, _, g, n, rfl, M.d, by omega, fun x hx => Nat.le_succ_of_le (good_time G hx), fun pn xn H4 s4 fpn hN dN => ?_⟩
    have ln : xn.length = (pre [] n).length := by rw [dN.len, List.length_map]
    have le : (entE n).length = (pre [] n).length := List.length_map _
    have tl := linesM_len G M
    refine ⟨pn, rfl, ⟨_, SqL.of hN⟩, for_list (K := K) (a := pn) (xs := xn) (fun i σ H' => ∃ y2 y3 y4 y5 y6 y7 : Option V, σ = [some (.ref am), some (.str (SX.S ((lineG g :: ((entE n).take i).map lineE).flatten))), y2, y3, y4, y5, y6, y7] ∧ Same H4 H') ⟨_, _, _, _, _, _, by simp; rfl, Same.refl _⟩ (fun i σ H' _ ⟨_, _, _, _, _, _, _, sm⟩ => SqL.of (sm _ _ hN)) ?_ ?_⟩
    · rintro i x σ H5 hi ⟨y2, y3, y4, y5, y6, y7, rfl, s5⟩
      obtain ⟨d, hd, dx⟩ := dN.get hi
      rw [List.getElem?_map] at hd
      obtain ⟨e, he, rfl⟩ := Option.map_eq_some_iff.mp hd
      have em := List.mem_of_getElem? he
      obtain ⟨b, vp, vk, rfl, hb2, dp, dk⟩ := (dx.same s5).entD_inv
      obtain ⟨c, vq, vc, rfl, hc, dq, dc⟩ := dk.node_inv
      obtain ⟨cp, rfl, hcp⟩ := id dp.path_inv
      obtain ⟨gp1, gp2⟩ := good_path G em
      refine ⟨_, _, rfl, hb2.sq, rfl, _, _, rfl, _, _, rfl, rfl, ?_⟩
      have pb : ∀ r ∈ e.2.ps, PrB r := fun r hr => M.b e em r hr
      have gl : e.2.ps.length ≤ 4 := by
        have : (e.2.ps.length : Int) = g - 1 := Decidable.byContradiction fun z => G.1 (.inr (.inl ⟨e, em, .inl z⟩))
        omega
      have lp : (e.1.map V.int).length = e.1.length := List.length_map _
      rw [show Str.ofString "moment" = SX.S momentW from lit _ _ (by decide), show Str.ofString "." = SX.S [46] from lit _ _ (by decide), show Str.ofString "-" = SX.S [45] from lit _ _ (by decide), show Str.ofString " " = SX.S [32] from lit _ _ (by decide)]
      refine via (.str (SX.S (pathT e.1))) (fun H6 s6 => ⟨(by decide : 2 ≤ sizeLine), fun pw hpw => ?_⟩) (fun fin2 => ?_)
      rotate_left
      · refine ⟨_, rfl, cp, _, rfl, hcp.sq, _, _, rfl, rfl, _, rfl, ite2 (fun k => ?_) (fun k => ?_)⟩
        · have hne : e.1 ≠ [] := fun z => by
            rw [z] at k
            simp at k
          have ok2 : ∀ z ∈ e.1, Bd 30 z := gp2
          refine ⟨⟨_, rfl⟩, _, rfl, cp, rfl, ⟨_, hcp.sq⟩, fun D hD => lc_tup (K := K) (a := cp) (xs := e.1.map V.int) (fun i H' => Same H5 H' ∧ H' D = some (.lst ((e.1.take i).map fun k => V.str (SX.S (intL k))))) ⟨same_new hD, upd_same⟩ (fun i H' _ ⟨sm, _⟩ => (tp_same sm hcp).sq) ?_ ?_⟩
          · rintro i x H' hi ⟨sm, hO⟩
            rw [List.getElem?_map] at hi
            obtain ⟨t, ht, rfl⟩ := Option.map_eq_some_iff.mp hi
            refine ⟨rfl, ?_⟩
            dsimp only [tYes]
            rw [if_pos rfl]
            have bt := ok2 t (List.mem_of_getElem? ht)
            refine ⟨_, rfl, t, rfl, log_small (Nat.lt_trans bt (by decide)), ?_⟩
            rw [str_int]
            refine ⟨_, hO, ?_, same_mut sm hD, ?_⟩
            · rw [List.length_map]
              exact Nat.lt_of_le_of_lt (List.length_take_le' _ _) (small1000 (by omega))
            · rw [upd_same, take_next ht, List.map_append]
              rfl
          · rintro H2 ⟨s2, hO⟩
            rw [lp, List.take_length] at hO
            refine ⟨_, D, (e.1.map intL).map SX.S, rfl, rfl, .inl (SqL.of (by rw [List.map_map, List.map_map]; exact hO)), ?_, ?_⟩
            · rw [lens_S, List.length_map, List.length_map, SX.S_len]
              have := sum_len (b := 12) (e.1.map intL) fun l hl => by
                obtain ⟨t, ht, rfl⟩ := List.mem_map.mp hl
                exact intL_small (ok2 t ht)
              rw [List.length_map] at this
              show _ + _ * 1 ≤ _
              omega
            · rw [join_c, show TL.joinL [46] (e.1.map intL) = pathT e.1 from by rw [pathT, if_neg hne]]
              exact fin2 _ s2
        · have hz : e.1 = [] := by
            cases h1 : e.1 with
            | nil => rfl
            | cons a l => exact absurd (by rw [h1]; simp) k
          have := fin2 H5 (Same.refl _)
          rw [show pathT e.1 = [45] from by rw [hz]; rfl] at this
          exact this
      have u7 := same_new (o := .lst [.str (SX.S momentW), .str (SX.S (pathT e.1))]) hpw
      have hW7 : (upd H6 pw (.lst [.str (SX.S momentW), .str (SX.S (pathT e.1))])) pw = some (.lst ((momentW :: pathT e.1 :: ((e.2.ps.take 0).flatMap fun r => [fracT r.1, fracT r.2])).map fun l => V.str (SX.S l))) := upd_same
      have s57 := s6.trans u7
      have dq7 := dq.same s57
      have hc7 := tp_same s57 hc
      generalize (upd H6 pw (.lst [.str (SX.S momentW), .str (SX.S (pathT e.1))])) = H7 at *
      obtain ⟨aq, xq, rfl, haq, hxq⟩ := dq7.inv
      have lq : xq.length = e.2.ps.length := by rw [hxq.len, List.length_map]
      refine ⟨_, rfl, c, [.ref aq, vc], 0, .ref aq, rfl, rfl, hc7.sq, rfl, aq, rfl, ⟨_, haq.sq⟩, for_tup (K := K) (a := aq) (xs := xq) (fun j σ H' => ∃ (pq : Addr) (y5 y6 y7 : Option V), σ = [some (.ref am), some (.str (SX.S ((lineG g :: ((entE n).take i).map lineE).flatten))), some (.ref cp), some (.ref c), some (.ref pq), y5, y6, y7] ∧ Same H7 H' ∧ H' pq = some (.lst ((momentW :: pathT e.1 :: ((e.2.ps.take j).flatMap fun r => [fracT r.1, fracT r.2])).map fun l => V.str (SX.S l)))) ⟨pw, _, _, _, rfl, Same.refl _, hW7⟩ (fun j σ H' _ ⟨_, _, _, _, _, xm, _⟩ => (tp_same xm haq).sq) ?_ ?_⟩
      · rintro j x σ H8 hj ⟨pq, y5, y6, y7, rfl, x8, hW8⟩
        obtain ⟨d, hd, dx⟩ := hxq.get hj
        rw [List.getElem?_map] at hd
        obtain ⟨r, hr2, rfl⟩ := Option.map_eq_some_iff.mp hd
        obtain ⟨b2, f1, f2, rfl, hb3, d1, d2⟩ := (dx.same x8).inv2
        have pr := pb r (List.mem_of_getElem? hr2)
        refine ⟨_, _, rfl, hb3.sq, rfl, _, _, rfl, _, _, rfl, rfl, ?_⟩
        refine ⟨_, rfl, _, rfl, f1, r.1, rfl, d1, pr.1.b1, pr.1.b2, _, rfl, f2, r.2, rfl, d2, pr.2.b1, pr.2.b2, (by decide : 2 ≤ sizeLine), fun pz hpz => ?_⟩
        have uz := same_new (o := .lst [.str (SX.S (fracT r.1)), .str (SX.S (fracT r.2))]) hpz
        refine ⟨pq, pz, _, _, rfl, rfl, uz _ _ hW8, upd_same, ?_, fun p9 h9 => ?_⟩
        · rw [List.length_map, List.length_cons, List.length_cons, flat2_len]
          have := List.length_take_le' j e.2.ps
          show _ + 2 ≤ _
          exact len1000 (by omega)
        · refine ⟨p9, _, _, _, rfl, (x8.trans uz).trans (same_new h9), ?_⟩
          rw [upd_same, take_next hr2, List.flatMap_append]
          simp
      · rintro σ H8 ⟨pq, y5, y6, y7, rfl, x8, hW8⟩
        rw [lq, List.take_length] at hW8
        have hW8 : H8 pq = some (.lst ((wordsE e.1 e.2.ps).map fun l => V.str (SX.S l))) := hW8
        have wl := wordsE_len gp1 gp2 gl pb
        have jl := joinL_len 32 (wordsE e.1 e.2.ps)
        refine ⟨_, rfl, ⟨_, rfl⟩, _, rfl, _, pq, (wordsE e.1 e.2.ps).map SX.S, rfl, rfl, .inl (SqL.of (by rw [List.map_map]; exact hW8)), ?_, ?_⟩
        · rw [lens_S, List.length_map, SX.S_len]
          show _ + _ * 1 ≤ _
          omega
        · rw [join_c]
          have lt : ((lineG g :: ((entE n).take i).map lineE).flatten).length ≤ 2000000 := by
            have e2 : linesM g n = (lineG g :: ((entE n).take i).map lineE) ++ ((entE n).drop i).map lineE := by
              unfold linesM
              rw [List.cons_append, ← List.map_append, List.take_append_drop]
            have tl2 := tl
            rw [e2, List.map_append, List.sum_append] at tl2
            rw [List.length_flatten]
            omega
          refine ⟨_, _, rfl, rfl, by rw [SX.S_len, SX.S_len]; exact Nat.le_trans (m := 3000000) (by omega) (by decide), ?_⟩
          rw [SX.S_cat]
          refine ⟨_, _, rfl, rfl, by rw [SX.S_len, SX.S_len, List.length_append]; exact Nat.le_trans (m := 3000000) (by simp only [List.length_cons, List.length_nil]; omega) (by decide), ?_⟩
          rw [SX.S_cat]
          have et : (lineG g :: ((entE n).take i).map lineE).flatten ++ TL.joinL [32] (wordsE e.1 e.2.ps) ++ [10] = (lineG g :: ((entE n).take (i + 1)).map lineE).flatten := by
            rw [take_next (x := (e.1, e.2.ps)) (show (entE n)[i]? = _ by unfold entE; rw [List.getElem?_map, he]; rfl), List.map_append, ← List.cons_append, List.flatten_append, List.append_assoc]
            congr 1
            simp [lineE]
          rw [et]
          exact ⟨_, _, _, _, _, _, rfl, (s5.trans s57).trans x8⟩
    · rintro σ H5 ⟨y2, y3, y4, y5, y6, y7, rfl, s5⟩
      refine ⟨_, rfl, ?_⟩
      rw [ln, ← le, List.take_length]
      exact fin _ (s4.trans s5)
end
end Nl

namespace Nl
open PySem PySem.Spec PyProof.Rows L2
open TL (tl numL)
open PySem.NumText
theorem cut_count (c : Nat) (cs : List Nat) : (cut c cs).length = cs.count c + 1 := by
  refine cut_ind c (P := fun cs => (cut c cs).length = cs.count c + 1) (fun cs h => ?_) (fun a b h ih => ?_) _ cs (Nat.le_refl _)
  · rw [cut_none h, List.count_eq_zero.mpr h]
    rfl
  · rw [cut_some h, List.length_cons, ih, List.count_append, List.count_eq_zero.mpr h, List.count_cons_self]
    omega
theorem count_join (c : Nat) : ∀ ws : List (List Nat), (∀ w ∈ ws, c ∉ w) → (TL.joinL [c] ws).count c ≤ ws.length
  | [], _ => Nat.zero_le _
  | [w], h => by
    rw [show TL.joinL [c] [w] = w from rfl, List.count_eq_zero.mpr (h w (by simp))]
    exact Nat.zero_le _
  | w :: q :: r, h => by
    have ih := count_join c (q :: r) fun x hx => h x (List.mem_cons_of_mem _ hx)
    rw [TL.joinL, List.count_append, List.count_append, List.count_eq_zero.mpr (h w (by simp)), List.length_cons]
    have : List.count c [c] = 1 := by simp
    omega
theorem sum_join (S : List Nat) : ∀ ws : List (List Nat), (ws.map List.length).sum ≤ (TL.joinL S ws).length
  | [] => Nat.le_refl _
  | [w] => by simp [TL.joinL]
  | w :: q :: r => by
    have ih := sum_join S (q :: r)
    rw [TL.joinL, List.map_cons, List.sum_cons, List.length_append, List.length_append]
    omega
section
variable {P : Program} {w : World} {K : PySem.W.Frag} {mg : Str → Option Value} {base : Heap}
def sp_bent (K : PySem.W.Frag) : Sp := fun vs H Q _ => ∃ (pd ps : Addr) (cs : List Nat), vs = [.ref pd, .str (SX.S cs)] ∧ Dst H pd ps ∧ cs.length ≤ 250000 ∧ cs.count 10 ≤ 100 ∧ ∀ cs' H', Xt pd H H' → Dst H' pd ps → cs'.length ≤ 900000 → cs'.count 10 ≤ 250 → Q (.str (SX.S cs')) H'
theorem ok__law_bent (T : Top K mg) : FnOk P w K mg base CX0 2 T.a__law_bent T.d__law_bent ["d", "text"] (sp_bent K) := by
  refine T._law_bent_F.ok sc__law_bent (fun vs H Q E h => ?_) (fun cdv A outer s H vs Q E hr h => ?_)
  · obtain ⟨_, _, _, rfl, _⟩ := h
    rfl
  · obtain ⟨pd, ps, cs, rfl, D, hl, hc, fin⟩ := h
    refine ⟨_, (pss_cons (ps_set (i := 2) sc__law_bent.nd rfl (Or.inl rfl) (pe_call (ok__law_take T) (hr.mono (by decide : 1 ≤ 1)) (by rfl) T.g__law_take T._law_take_F.kp T._law_take_b .nil pass0 (pa_cons (pv 0) (pa_cons pe_int pa_nil))))
      (pss_cons (ps_set (i := 3) sc__law_bent.nd rfl (Or.inl rfl) (pe_m1 PySem.F.slot_str_split PySem.F.type_str_split mt_split (pv 1) pe_str))
      (pss_cons (ps_set (i := 4) sc__law_bent.nd rfl (Or.inl rfl) (pe_call (ok__law_take T) (hr.mono (by decide : 1 ≤ 1)) (by rfl) T.g__law_take T._law_take_F.kp T._law_take_b .nil pass0 (pa_cons (pv 0) (pa_cons (pe_callB call_lenL (by rfl) T.n_len (by decide +kernel) (pa_cons (pv 3) pa_nil)) pa_nil))))
      (pss_cons (ps_set (i := 5) sc__law_bent.nd rfl (Or.inl rfl) (pe_call (ok__law_take T) (hr.mono (by decide : 1 ≤ 1)) (by rfl) T.g__law_take T._law_take_F.kp T._law_take_b .nil pass0 (pa_cons (pv 0) (pa_cons (pe_op op_add (pe_callB call_len_str (by rfl) T.n_len (by decide +kernel) (pa_cons (pv 1) pa_nil)) pe_int) pa_nil))))
      (pss_cons (ps_set (i := 6) sc__law_bent.nd rfl (Or.inl rfl) (pe_ix ix_str pe_str (pe_call (ok__law_take T) (hr.mono (by decide : 1 ≤ 1)) (by rfl) T.g__law_take T._law_take_F.kp T._law_take_b .nil pass0 (pa_cons (pv 0) (pa_cons pe_int pa_nil))) (fun _ _ => rfl)))
      (pss_cons (ps_if (pt_cmpR op_lt (pv 2) pe_int (nomark _)) (pss_one (ps_ret (pe_op op_add_str (pe_op op_add_str (pe_slice sl_str (pv 1) po_none (po_some (pv 5))) (pv 6)) (pe_slice sl_str (pv 1) (po_some (pe_op op_add (pv 5) pe_int)) po_none)))) pss_nil)
      (pss_cons (ps_if (pt_cmpR op_eq (pv 2) pe_int (nomark _)) (pss_one (ps_ret (pe_op op_add_str (pe_op op_add_str (pe_slice sl_str (pv 1) po_none (po_some (pv 5))) (pv 6)) (pe_slice sl_str (pv 1) (po_some (pv 5)) po_none)))) pss_nil)
      (pss_cons (ps_if (pt_cmpR op_eq (pv 2) pe_int (nomark _)) (pss_one (ps_ret (pe_op op_add_str (pe_slice sl_str (pv 1) po_none (po_some (pv 5))) (pe_slice sl_str (pv 1) (po_some (pe_op op_add (pv 5) pe_int)) po_none)))) pss_nil)
      (pss_cons (ps_if (pt_cmpR op_eq (pv 2) pe_int (nomark _)) (pss_one (ps_ret (pe_m1 PySem.F.slot_str_join PySem.F.type_str_join mt_join pe_str (pe_op op_cat (pe_slice sl_list (pv 3) po_none (po_some (pv 4))) (pe_slice sl_list (pv 3) (po_some (pe_op op_add (pv 4) pe_int)) po_none))))) pss_nil)
      (pss_cons (ps_if (pt_cmpR op_eq (pv 2) pe_int (nomark _)) (pss_one (ps_ret (pe_m1 PySem.F.slot_str_join PySem.F.type_str_join mt_join pe_str (pe_op op_cat (pe_slice sl_list (pv 3) po_none (po_some (pe_op op_add (pv 4) pe_int))) (pe_slice sl_list (pv 3) (po_some (pv 4)) po_none))))) pss_nil)
      (pss_one (ps_ret (pe_m1 PySem.F.slot_str_join PySem.F.type_str_join mt_join pe_str (pe_op op_cat (pe_op op_cat (pe_slice sl_list (pv 3) po_none (po_some (pv 4))) (pe_revL (pe_slice sl_list (pv 3) (po_some (pv 4)) (po_some (pe_op op_add (pv 4) pe_int))))) (pe_slice sl_list (pv 3) (po_some (pe_op op_add (pv 4) pe_int)) po_none))))))))))))))), ?_⟩
    rw [show Str.ofString "\n" = SX.S [10] from lit _ _ (by decide)]
    have cl := cut_count 10 cs
    have b8 : ∀ z : Int, 0 ≤ z → z ≤ 1000000 → Bd 8000 z := fun z h0 h1 => Bd.mono (k := 30) (by unfold Bd; omega) (by decide)
    refine ⟨_, rfl, pd, ps, 7, rfl, D, by decide, b8 _ (by decide) (by decide), fun menu H1 x1 D1 _ _ => ?_⟩
    refine ⟨_, rfl, ⟨_, rfl⟩, _, _, rfl, rfl, rfl, by rw [SX.S_len]; exact Nat.le_trans (m := 1000002) (by omega) (by decide), fun pw hpw => ?_⟩
    rw [cut_split (by decide)]
    have u2 := same_new (o := .lst (((cut 10 cs).map SX.S).map V.str)) hpw
    have hW2 : (upd H1 pw (.lst (((cut 10 cs).map SX.S).map V.str))) pw = some (.lst (((cut 10 cs).map SX.S).map V.str)) := upd_same
    have D2 := D1.same u2
    have npw : pw ≠ pd := (D1.fresh hpw).1
    generalize (upd H1 pw (.lst (((cut 10 cs).map SX.S).map V.str))) = H2 at *
    have lw : (((cut 10 cs).map SX.S).map V.str).length = cs.count 10 + 1 := by rw [List.length_map, List.length_map, cl]
    refine ⟨_, rfl, _, rfl, pw, _, rfl, SqL.of hW2, pd, ps, _, rfl, D2, by rw [lw]; omega, by rw [lw]; exact b8 _ (by omega) (by omega), fun here H3 x3 D3 h30 h31 => ?_⟩
    refine ⟨_, rfl, _, rfl, SX.S cs, rfl, by rw [SX.S_len]; exact Nat.le_trans hl (by decide), ?_⟩
    rw [SX.S_len]
    refine ⟨_, _, rfl, rfl, pd, ps, _, rfl, D3, by omega, b8 _ (by omega) (by omega), fun place H4 x4 D4 p0 p1 => ?_⟩
    refine ⟨_, rfl, pd, ps, 17, rfl, D4, by decide, b8 _ (by decide) (by decide), fun r H5 x5 D5 r0 r1 => ?_⟩
    have hW5 := x5 _ _ npw (x4 _ _ npw (x3 _ _ npw hW2))
    have x15 : Xt pd H H5 := (((x1.trans (Xt.of u2)).trans x3).trans x4).trans x5
    obtain ⟨j, rfl⟩ := Int.eq_ofNat_of_zero_le r0
    obtain ⟨t, rfl⟩ := Int.eq_ofNat_of_zero_le p0
    obtain ⟨k, rfl⟩ := Int.eq_ofNat_of_zero_le h30
    have e17 : (Str.ofString "0123456789-/ .\nmg").cps.toList = [48, 49, 50, 51, 52, 53, 54, 55, 56, 57, 45, 47, 32, 46, 10, 109, 103] := TL.tl_ofString _
    have hcj : (Str.ofString "0123456789-/ .\nmg").cps.toList[j]? = some ((Str.ofString "0123456789-/ .\nmg").cps.toList[j]'(by rw [e17]; simp; omega)) := List.getElem?_eq_getElem _
    refine ⟨_, _, _, rfl, rfl, by rw [TL.len_tl, show TL.tl (Str.ofString "0123456789-/ .\nmg") = _ from e17]; decide, atI_nat hcj, ?_⟩
    generalize (Str.ofString "0123456789-/ .\nmg").cps.toList[j]'(by rw [e17]; simp; omega) = c
    have eT : ((t : Nat) : Int) + 1 = ((t + 1 : Nat) : Int) := by omega
    have cT : (cs.take t).count 10 ≤ cs.count 10 := (List.take_sublist t cs).count_le 10
    have cD : ∀ i, (cs.drop i).count 10 ≤ cs.count 10 := fun i => (List.drop_sublist i cs).count_le 10
    have lT : (cs.take t).length ≤ cs.length := List.length_take_le' t cs
    have lD : ∀ i, (cs.drop i).length ≤ cs.length := fun i => by rw [List.length_drop]; omega
    have cC : List.count 10 [c] ≤ 1 := by
      have := List.count_le_length (a := 10) (l := [c])
      simpa using this
    have bl : (SX.S cs).length ≤ sizeLine := by rw [SX.S_len]; exact Nat.le_trans hl (by decide)
    have szl : ∀ m : Nat, m ≤ 1000000 → m ≤ sizeLine := fun m h => Nat.le_trans h (by decide)
    refine ⟨_, rfl, _, _, rfl, rfl, _, rfl, ite2 (fun _ => ?_) (fun _ => ?_)⟩
    · refine ⟨_, rfl, _, rfl, _, rfl, _, rfl, bl, ?_⟩
      rw [cutS_take]
      refine ⟨_, rfl, _, SX.S [c], rfl, rfl, by rw [SX.S_len, SX.S_len]; exact szl _ (by simp only [List.length_cons, List.length_nil]; omega), ?_⟩
      rw [SX.S_cat]
      refine ⟨_, rfl, _, rfl, _, _, rfl, rfl, _, rfl, _, rfl, bl, ?_⟩
      rw [eT, cutS_drop]
      have := lD (t + 1)
      have := cD (t + 1)
      refine ⟨_, _, rfl, rfl, by rw [SX.S_len, SX.S_len, List.length_append]; exact szl _ (by simp only [List.length_cons, List.length_nil]; omega), ?_⟩
      rw [SX.S_cat]
      exact fin _ _ x15 D5 (by rw [List.length_append, List.length_append]; simp only [List.length_cons, List.length_nil]; omega) (by rw [List.count_append, List.count_append]; omega)
    refine ⟨_, rfl, rfl, _, rfl, ite2 (fun _ => ?_) (fun _ => ?_)⟩
    · refine ⟨_, rfl, _, rfl, _, rfl, _, rfl, bl, ?_⟩
      rw [cutS_take]
      refine ⟨_, rfl, _, SX.S [c], rfl, rfl, by rw [SX.S_len, SX.S_len]; exact szl _ (by simp only [List.length_cons, List.length_nil]; omega), ?_⟩
      rw [SX.S_cat]
      refine ⟨_, rfl, _, rfl, _, rfl, _, rfl, bl, ?_⟩
      rw [cutS_drop]
      have := lD t
      have := cD t
      refine ⟨_, _, rfl, rfl, by rw [SX.S_len, SX.S_len, List.length_append]; exact szl _ (by simp only [List.length_cons, List.length_nil]; omega), ?_⟩
      rw [SX.S_cat]
      exact fin _ _ x15 D5 (by rw [List.length_append, List.length_append]; simp only [List.length_cons, List.length_nil]; omega) (by rw [List.count_append, List.count_append]; omega)
    refine ⟨_, rfl, rfl, _, rfl, ite2 (fun _ => ?_) (fun _ => ?_)⟩
    · refine ⟨_, rfl, _, rfl, _, rfl, _, rfl, bl, ?_⟩
      rw [cutS_take]
      refine ⟨_, rfl, _, rfl, _, _, rfl, rfl, _, rfl, _, rfl, bl, ?_⟩
      rw [eT, cutS_drop]
      have := lD (t + 1)
      have := cD (t + 1)
      refine ⟨_, _, rfl, rfl, by rw [SX.S_len, SX.S_len]; exact szl _ (by omega), ?_⟩
      rw [SX.S_cat]
      exact fin _ _ x15 D5 (by rw [List.length_append]; omega) (by rw [List.count_append]; omega)
    have slen : ∀ ws : List (List Nat), (∀ w ∈ ws, w ∈ cut 10 cs) → ∀ w ∈ ws, 10 ∉ w := fun ws h w hw => cut_free (h w hw)
    have fin3 : ∀ (ws : List (List Nat)) (H' : Hp), Same H5 H' → (∀ w ∈ ws, w ∈ cut 10 cs) → ws.length ≤ 240 → (ws.map List.length).sum ≤ 800000 → Q (.str (Txt.join (SX.S [10]) (ws.map SX.S))) H' := fun ws H' sm h1 h2 h3 => by
      rw [join_c]
      have e1 := joinL_len 10 ws
      have e2 := count_join 10 ws (slen ws h1)
      exact fin _ _ (x15.trans (Xt.of sm)) (D5.same sm) (by omega) (by omega)
    have jlen : ∀ ws : List (List Nat), ws.length ≤ 240 → (ws.map List.length).sum ≤ 800000 → ((ws.map SX.S).map fun x : Str => x.length).sum + (ws.map SX.S).length * (SX.S [10]).length ≤ 16777216 := fun ws h2 h3 => by
      rw [lens_S, List.length_map, SX.S_len]
      show _ + _ * 1 ≤ _
      omega
    have tot : ((cut 10 cs).map List.length).sum ≤ cs.length := by
      have := sum_join [10] (cut 10 cs)
      rw [cut_join] at this
      exact this
    have sumT : ∀ i, (((cut 10 cs).take i).map List.length).sum ≤ cs.length := fun i => by
      have e : (((cut 10 cs).take i).map List.length).sum + (((cut 10 cs).drop i).map List.length).sum = ((cut 10 cs).map List.length).sum := by
        rw [← List.sum_append, ← List.map_append, List.take_append_drop]
      omega
    have sumD : ∀ i, (((cut 10 cs).drop i).map List.length).sum ≤ cs.length := fun i => by
      have e : (((cut 10 cs).take i).map List.length).sum + (((cut 10 cs).drop i).map List.length).sum = ((cut 10 cs).map List.length).sum := by
        rw [← List.sum_append, ← List.map_append, List.take_append_drop]
      omega
    have lT2 : ∀ i, ((cut 10 cs).take i).length ≤ 101 := fun i => by
      have := List.length_take_le' i (cut 10 cs)
      omega
    have lD2 : ∀ i, ((cut 10 cs).drop i).length ≤ 101 := fun i => by
      rw [List.length_drop]
      omega
    have eK : ((k : Nat) : Int) + 1 = ((k + 1 : Nat) : Int) := by omega
    have eK2 : ((k : Nat) : Int) + 2 = ((k + 2 : Nat) : Int) := by omega
    have cvT : ∀ i : Nat, cutV (((cut 10 cs).map SX.S).map V.str) none (some (i : Int)) = (((cut 10 cs).take i).map SX.S).map V.str := fun i => by rw [cut_take, List.map_take, List.map_take]
    have cvD : ∀ i : Nat, cutV (((cut 10 cs).map SX.S).map V.str) (some (i : Int)) none = (((cut 10 cs).drop i).map SX.S).map V.str := fun i => by rw [cut_drop, List.map_drop, List.map_drop]
    have lenV : ∀ ws : List (List Nat), ((ws.map SX.S).map V.str).length = ws.length := fun ws => by rw [List.length_map, List.length_map]
    refine ⟨_, rfl, rfl, _, rfl, ite2 (fun _ => ?_) (fun _ => ?_)⟩
    · refine ⟨⟨_, rfl⟩, _, rfl, _, rfl, _, rfl, pw, _, rfl, SqL.of hW5, fun q1 k1 => ?_⟩
      rw [cvT k]
      have v1 := same_new (o := .lst ((((cut 10 cs).take k).map SX.S).map V.str)) k1
      refine ⟨_, rfl, _, rfl, _, _, rfl, rfl, _, rfl, pw, _, rfl, SqL.of (v1 _ _ hW5), fun q2 k2 => ?_⟩
      rw [eK, cvD (k + 1)]
      have v2 := same_new (o := .lst ((((cut 10 cs).drop (k + 1)).map SX.S).map V.str)) k2
      have t1 := lT2 k
      have t2 := lD2 (k + 1)
      refine ⟨q1, q2, _, _, rfl, rfl, v2 _ _ upd_same, upd_same, by rw [lenV, lenV]; exact szl _ (by omega), fun q3 k3 => ?_⟩
      have h2 : ((cut 10 cs).take k ++ (cut 10 cs).drop (k + 1)).length ≤ 240 := by rw [List.length_append]; omega
      have h3 : (((cut 10 cs).take k ++ (cut 10 cs).drop (k + 1)).map List.length).sum ≤ 800000 := by
        rw [List.map_append, List.sum_append]
        have := sumT k
        have := sumD (k + 1)
        omega
      refine ⟨_, q3, ((cut 10 cs).take k ++ (cut 10 cs).drop (k + 1)).map SX.S, rfl, rfl, .inl (SqL.of (by rw [upd_same, List.map_append, List.map_append])), jlen _ h2 h3, ?_⟩
      refine fin3 _ _ ((v1.trans v2).trans (same_new k3)) (fun w hw => ?_) h2 h3
      rcases List.mem_append.mp hw with hw | hw
      · exact List.mem_of_mem_take hw
      · exact List.mem_of_mem_drop hw
    refine ⟨_, rfl, rfl, _, rfl, ite2 (fun _ => ?_) (fun _ => ?_)⟩
    · refine ⟨⟨_, rfl⟩, _, rfl, _, rfl, _, _, rfl, rfl, _, rfl, pw, _, rfl, SqL.of hW5, fun q1 k1 => ?_⟩
      rw [eK, cvT (k + 1)]
      have v1 := same_new (o := .lst ((((cut 10 cs).take (k + 1)).map SX.S).map V.str)) k1
      refine ⟨_, rfl, _, rfl, _, rfl, pw, _, rfl, SqL.of (v1 _ _ hW5), fun q2 k2 => ?_⟩
      rw [cvD k]
      have v2 := same_new (o := .lst ((((cut 10 cs).drop k).map SX.S).map V.str)) k2
      have t1 := lT2 (k + 1)
      have t2 := lD2 k
      refine ⟨q1, q2, _, _, rfl, rfl, v2 _ _ upd_same, upd_same, by rw [lenV, lenV]; exact szl _ (by omega), fun q3 k3 => ?_⟩
      have h2 : ((cut 10 cs).take (k + 1) ++ (cut 10 cs).drop k).length ≤ 240 := by rw [List.length_append]; omega
      have h3 : (((cut 10 cs).take (k + 1) ++ (cut 10 cs).drop k).map List.length).sum ≤ 800000 := by
        rw [List.map_append, List.sum_append]
        have := sumT (k + 1)
        have := sumD k
        omega
      refine ⟨_, q3, ((cut 10 cs).take (k + 1) ++ (cut 10 cs).drop k).map SX.S, rfl, rfl, .inl (SqL.of (by rw [upd_same, List.map_append, List.map_append])), jlen _ h2 h3, ?_⟩
      refine fin3 _ _ ((v1.trans v2).trans (same_new k3)) (fun w hw => ?_) h2 h3
      rcases List.mem_append.mp hw with hw | hw
      · exact List.mem_of_mem_take hw
      · exact List.mem_of_mem_drop hw
    · obtain ⟨a, b, hab⟩ : ∃ a b, cutV (((cut 10 cs).map SX.S).map V.str) (some ((k : Nat) : Int)) (some (((k : Nat) : Int) + 2)) = ((((cut 10 cs).drop a).take b).map SX.S).map V.str := ⟨_, _, by
        rw [List.map_take, List.map_drop, List.map_take, List.map_drop]
        rfl⟩
      generalize hseg : ((cut 10 cs).drop a).take b = seg at hab
      have mseg : ∀ w ∈ seg, w ∈ cut 10 cs := fun w hw => by
        rw [← hseg] at hw
        exact List.mem_of_mem_drop (List.mem_of_mem_take hw)
      have lseg : seg.length ≤ 101 := by
        have := lD2 a
        rw [← hseg]
        have := List.length_take_le' b ((cut 10 cs).drop a)
        omega
      have sseg : (seg.map List.length).sum ≤ cs.length := by
        have e : ((((cut 10 cs).drop a).take b).map List.length).sum + ((((cut 10 cs).drop a).drop b).map List.length).sum = (((cut 10 cs).drop a).map List.length).sum := by
          rw [← List.sum_append, ← List.map_append, List.take_append_drop]
        have := sumD a
        rw [hseg] at e
        omega
      refine ⟨⟨_, rfl⟩, _, rfl, _, rfl, _, rfl, pw, _, rfl, SqL.of hW5, fun q1 k1 => ?_⟩
      rw [cvT k]
      have v1 := same_new (o := .lst ((((cut 10 cs).take k).map SX.S).map V.str)) k1
      refine ⟨_, rfl, _, rfl, _, rfl, _, rfl, _, _, rfl, rfl, _, rfl, pw, _, rfl, SqL.of (v1 _ _ hW5), fun q2 k2 => ?_⟩
      rw [hab]
      have v2 := same_new (o := .lst ((seg.map SX.S).map V.str)) k2
      refine ⟨q2, _, rfl, SqL.of upd_same, fun q3 k3 => ?_⟩
      have v3 := same_new (o := .lst ((seg.map SX.S).map V.str).reverse) k3
      have t1 := lT2 k
      have t2 := lD2 (k + 2)
      have hrev : ((seg.map SX.S).map V.str).reverse = ((seg.reverse).map SX.S).map V.str := by rw [List.map_reverse, List.map_reverse]
      refine ⟨q1, q3, _, _, rfl, rfl, v3 _ _ (v2 _ _ upd_same), upd_same, by rw [List.length_reverse, lenV, lenV]; exact szl _ (by omega), fun q4 k4 => ?_⟩
      have v4 := same_new (o := .lst (((((cut 10 cs).take k).map SX.S).map V.str) ++ ((seg.map SX.S).map V.str).reverse)) k4
      have s54 := ((v1.trans v2).trans v3).trans v4
      refine ⟨_, rfl, _, rfl, _, _, rfl, rfl, _, rfl, pw, _, rfl, SqL.of (s54 _ _ hW5), fun q5 k5 => ?_⟩
      rw [eK2, cvD (k + 2)]
      have v5 := same_new (o := .lst ((((cut 10 cs).drop (k + 2)).map SX.S).map V.str)) k5
      refine ⟨q4, q5, _, _, rfl, rfl, v5 _ _ upd_same, upd_same, by rw [List.length_append, List.length_reverse, lenV, lenV, lenV]; exact szl _ (by omega), fun q6 k6 => ?_⟩
      have h2 : ((cut 10 cs).take k ++ seg.reverse ++ (cut 10 cs).drop (k + 2)).length ≤ 240 := by
        have : ((cut 10 cs).take k).length + ((cut 10 cs).drop (k + 2)).length ≤ 101 := by
          rw [List.length_drop]
          have := List.length_take (i := k) (l := cut 10 cs)
          omega
        rw [List.length_append, List.length_append, List.length_reverse]
        omega
      have h3 : (((cut 10 cs).take k ++ seg.reverse ++ (cut 10 cs).drop (k + 2)).map List.length).sum ≤ 800000 := by
        rw [List.map_append, List.map_append, List.sum_append, List.sum_append, List.map_reverse, List.sum_reverse]
        have := sumT k
        have := sumD (k + 2)
        omega
      refine ⟨_, q6, ((cut 10 cs).take k ++ seg.reverse ++ (cut 10 cs).drop (k + 2)).map SX.S, rfl, rfl, .inl (SqL.of (by rw [upd_same, hrev, List.map_append, List.map_append, List.map_append, List.map_append])), jlen _ h2 h3, ?_⟩
      refine fin3 _ _ ((s54.trans v5).trans (same_new k6)) (fun w hw => ?_) h2 h3
      rcases List.mem_append.mp hw with hw | hw
      · rcases List.mem_append.mp hw with hw | hw
        · exact List.mem_of_mem_take hw
        · exact mseg w (List.mem_reverse.mp hw)
      · exact List.mem_of_mem_drop hw
end
end Nl

namespace Nl
open PySem PySem.Spec PyProof.Rows L2
section
variable {X : Cx}
def rNotInT (K : PySem.W.Frag) : R2 := fun x y H Q => ∃ d ds, Dp K H x d ∧ Dp K H y (.tuple ds) ∧ SeqAt.shaped d = true ∧ SeqAt.shaped (.tuple ds) = true ∧ Q (.bl (!(ds.any fun z => PyData.eqv z d))) H
theorem op_notInT (hu : X.A.units + 65 < cLine) : OpR X (compareOp .NotIn) (rNotInT X.K) := by
  intro pins s σ H x y v u Q I rx ry h
  obtain ⟨d, ds, hd, he, sd, se, q⟩ := h
  obtain ⟨as, r1⟩ := Dp.reads I d x v hd rx
  obtain ⟨bs, r2⟩ := Dp.reads I (.tuple ds) y u he ry
  refine SeqAt.notIn_tuple_reads r2 r1 (SeqAt.canLay_of_shaped (d := .tuple ds) se) (SeqAt.canLay_of_shaped sd) (room_in_shaped sd hu) ⟨.bl _, H, I, rfl, q⟩
end
end Nl

namespace Nl
open PySem PySem.Spec PyProof.Rows L2
open TL (tl numL)
open PySem.NumText
/-! ### no blank behind a blank -/
def Bk (c : Nat) : Prop := c = 32 ∨ c = 10
def Ch : List Nat → Prop
  | [] => True
  | [_] => True
  | a :: b :: r => (Bk b → ¬ Bk a) ∧ Ch (b :: r)
theorem ch_at : ∀ (u v : List Nat) (a b : Nat), Ch (u ++ a :: b :: v) → Bk b → ¬ Bk a
  | [], v, a, b, h => h.1
  | [x], v, a, b, h => ch_at [] v a b h.2
  | x :: y :: u, v, a, b, h => ch_at (y :: u) v a b h.2
theorem ch_free : ∀ w : List Nat, (∀ c ∈ w, ¬ Bk c) → Ch w
  | [], _ => trivial
  | [_], _ => trivial
  | a :: b :: r, h => ⟨fun z => (h b (by simp) z).elim, ch_free (b :: r) fun c hc => h c (List.mem_cons_of_mem _ hc)⟩
theorem ch_tok {s : Nat} {cs : List Nat} (hc : Ch (s :: cs)) : ∀ w : List Nat, w ≠ [] → (∀ c ∈ w, ¬ Bk c) → Ch (w ++ s :: cs)
  | [], h, _ => (h rfl).elim
  | [a], _, h => ⟨fun _ => h a (by simp), hc⟩
  | a :: b :: r, _, h => ⟨fun z => (h b (by simp) z).elim, ch_tok hc (b :: r) (by simp) fun c hc => h c (List.mem_cons_of_mem _ hc)⟩
/-- a text that is empty or begins with a sign that is no blank, and has no two blanks -/
def Tk (cs : List Nat) : Prop := Ch cs ∧ ∀ c, cs.head? = some c → ¬ Bk c
theorem tk_nil : Tk [] := ⟨trivial, fun c h => by simp at h⟩
theorem tk_tok {s : Nat} {w cs : List Nat} (h : Tk cs) (hw : w ≠ []) (hf : ∀ c ∈ w, ¬ Bk c) : Tk (w ++ s :: cs) := by
  have h1 : Ch (s :: cs) := by
    match cs, h with
    | [], _ => trivial
    | c :: r, h => exact ⟨fun z => (h.2 c rfl z).elim, h.1⟩
  refine ⟨ch_tok h1 w hw hf, fun c hc => ?_⟩
  match w, hw, hf, hc with
  | a :: r, _, hf, hc => 
    have : a = c := by simpa using hc
    exact hf c (by rw [this]; simp)
theorem tk_line {cs : List Nat} (h : Tk cs) : ∀ ws : List (List Nat), ws ≠ [] → (∀ w ∈ ws, w ≠ [] ∧ ∀ c ∈ w, ¬ Bk c) → Tk (TL.joinL [32] ws ++ 10 :: cs)
  | [], hn, _ => (hn rfl).elim
  | [w], _, hf => tk_tok h (hf w (by simp)).1 (hf w (by simp)).2
  | w :: q :: r, _, hf => by
    have ih := tk_line h (q :: r) (by simp) fun x hx => hf x (List.mem_cons_of_mem _ hx)
    have := tk_tok (s := 32) ih (hf w (by simp)).1 (hf w (by simp)).2
    rw [TL.joinL]
    simpa using this
theorem intL_nn (z : Int) : intL z ≠ [] := fun e => by
  have := intV_intL z
  have h := (natT_numL z.natAbs).ne
  unfold intL at e
  split at e
  · cases e
  · exact h e
theorem fracT_nn (q : Int × Int) : fracT q ≠ [] := fun e => by
  unfold fracT at e
  split at e
  · exact intL_nn _ e
  · simp at e
theorem pathT_nn (p : List Int) : pathT p ≠ [] := fun e => by
  unfold pathT at e
  split at e
  · cases e
  · rename_i h
    match p, h with
    | [i], _ => exact intL_nn i e
    | i :: j :: r, _ =>
      rw [List.map_cons, List.map_cons, TL.joinL] at e
      exact intL_nn i (List.append_eq_nil_iff.mp e).1
theorem words_ok (p : List Int) (ps : List Pr) : ∀ w ∈ wordsE p ps, w ≠ [] ∧ ∀ c ∈ w, ¬ Bk c := fun w hw => by
  have hf := words_free p ps w hw
  refine ⟨?_, fun c hc z => ?_⟩
  · rcases List.mem_cons.mp hw with rfl | hw
    · decide
    · rcases List.mem_cons.mp hw with rfl | hw
      · exact pathT_nn p
      · obtain ⟨r, _, hr⟩ := List.mem_flatMap.mp hw
        rcases List.mem_cons.mp hr with rfl | hr
        · exact fracT_nn _
        · rw [List.mem_singleton.mp hr]
          exact fracT_nn _
  · rcases z with rfl | rfl
    · exact hf.1 hc
    · exact hf.2 hc
theorem tk_lines : ∀ es : List Row, Tk (es.map lineE).flatten
  | [] => tk_nil
  | e :: r => by
    rw [List.map_cons, List.flatten_cons]
    have := tk_line (tk_lines r) (wordsE e.1 e.2) (by unfold wordsE; simp) (words_ok e.1 e.2)
    rw [show lineE e = TL.joinL [32] (wordsE e.1 e.2) ++ [10] from rfl, List.append_assoc]
    exact this
theorem tk_text (g : Int) (n : Node) : Tk (textM g n) := by
  have h : Tk (intL g ++ 10 :: ((entE n).map lineE).flatten) := tk_tok (tk_lines _) (intL_nn g) fun c hc z => by
    have := intL_sign g c hc
    rcases z with rfl | rfl <;> omega
  have hg : ∀ c ∈ goodsW, ¬ Bk c := fun c hc z => by
    have h0 : ∀ c ∈ goodsW, c ≠ 32 ∧ c ≠ 10 := by decide
    rcases z with z | z
    · exact (h0 c hc).1 z
    · exact (h0 c hc).2 z
  have := tk_tok (s := 32) (w := goodsW) h (by decide) hg
  unfold textM linesM lineG
  rw [List.flatten_cons]
  simpa using this
theorem text_end (g : Int) (n : Node) : ∃ u, textM g n = u ++ [10] := by
  have hr : entE n ≠ [] := rw_ne n
  have e : entE n = (entE n).dropLast ++ [(entE n).getLast hr] := (List.dropLast_concat_getLast hr).symm
  unfold textM linesM
  rw [e, List.map_append, List.flatten_cons, List.flatten_append]
  unfold lineE
  exact ⟨_, by simp only [List.map_cons, List.map_nil, List.flatten_cons, List.flatten_nil, List.append_nil]; rw [← List.append_assoc, ← List.append_assoc]⟩
theorem found2 {cs : List Nat} {a b : Nat} (h : (!(Builtin.Str.occurrences (SX.S cs) (SX.S [a, b]) 0 (SX.S cs).length 1).isEmpty) = true) : ∃ u v, cs = u ++ a :: b :: v := by
  obtain ⟨i, h1, h2⟩ := (StrLaws.found_iff _ _).mp h
  rw [SX.S_len, SX.S_len] at h1
  unfold Builtin.Str.subAt at h2
  rw [SX.S_len] at h2
  have e := eq_of_beq h2
  have e := congrArg Array.toList e
  rw [Array.toList_extract] at e
  have e' : (cs.drop i).take 2 = [a, b] := by
    have : (List.extract cs i (i + [a, b].length)) = [a, b] := e
    rw [List.extract_eq_take_drop] at this
    simpa using this
  refine ⟨cs.take i, (cs.drop i).drop 2, ?_⟩
  have : cs = cs.take i ++ ((cs.drop i).take 2 ++ (cs.drop i).drop 2) := by rw [List.take_append_drop, List.take_append_drop]
  rw [e'] at this
  simpa using this
theorem form_two {cs : List Nat} {g : Int} {n : Node} (h : FormM cs g n) {a b : Nat} (ha : Bk a) (hb : Bk b) : (!(Builtin.Str.occurrences (SX.S cs) (SX.S [a, b]) 0 (SX.S cs).length 1).isEmpty) = false := by
  cases e : (!(Builtin.Str.occurrences (SX.S cs) (SX.S [a, b]) 0 (SX.S cs).length 1).isEmpty) with
  | false => rfl
  | true =>
    obtain ⟨u, v, rfl⟩ := found2 e
    have := (tk_text g n).1
    rw [h.1] at this
    exact (ch_at u v a b this hb ha).elim
theorem form_end {cs : List Nat} {g : Int} {n : Node} (h : FormM cs g n) : cs.drop (cs.length - 1) = [10] := by
  obtain ⟨u, e⟩ := text_end g n
  rw [← h.1, e, List.length_append]
  simp
theorem form_none0 (g : Int) (n : Node) : ¬ FormM [] g n := fun h => by
  obtain ⟨u, e⟩ := text_end g n
  rw [h.1] at e
  simp at e
theorem form_none1 {cs : List Nat} {u : List Nat} (e : cs = u ++ [10]) (g : Int) (n : Node) : ¬ FormM (cs ++ [10]) g n := fun h => by
  have h2 : u ++ 10 :: 10 :: [] = cs ++ [10] := by rw [e]; simp
  have := (tk_text g n).1
  rw [h.1, ← h2] at this
  exact ch_at u [] 10 10 this (.inr rfl) (.inr rfl)
theorem form_none2 (g : Int) (n : Node) : ¬ FormM [103, 111, 111, 100, 115, 32, 49, 10] g n := fun h => by
  have e := text_cut g n
  rw [h.1, show cut 10 [103, 111, 111, 100, 115, 32, 49, 10] = [[103, 111, 111, 100, 115, 32, 49], []] from by decide] at e
  have l := congrArg List.length e
  have : entE n ≠ [] := rw_ne n
  have : 0 < (entE n).length := List.length_pos_iff.mpr this
  simp only [List.length_append, List.length_cons, List.length_map, List.length_nil] at l
  omega
theorem fr_short {q : Int × Int} (h : Ok 201 q) : (fracT q).length ≤ 200 := by
  have key : ∀ z : Int, Bd 201 z → (intL z).length ≤ 63 := fun z hz => by
    have := numL_len 60 z.natAbs (Nat.lt_of_lt_of_le hz (by decide +kernel))
    unfold intL
    split
    · simp only [List.length_cons]
      omega
    · omega
  have h1 := key _ h.b1
  have h2 := key _ h.b2
  unfold fracT
  split
  · omega
  · simp only [List.length_append, List.length_cons]
    omega
theorem form_own {g : Int} {n : Node} (G : Good g n) (g1 : 1 ≤ g) (g4 : g ≤ 4) (np : ∀ x ∈ pre [] n, PsOk g x.2.ps) : FormM (textM g n) g n := by
  refine ⟨rfl, by omega, by omega, fun e he => ?_⟩
  obtain ⟨x, hx, rfl⟩ := List.mem_map.mp he
  have po := np x hx
  refine ⟨fun i hi => ?_, ?_, fun r hr => ?_⟩
  · obtain ⟨r, e1, e2⟩ := pre_idx _ ([], n) x (Nat.le_refl _) hx
    have e1 : x.1 = r := by simpa using e1
    have hi : i ∈ r := by rw [← e1]; exact hi
    have := e2 i hi
    have h40 := good_len G
    have : (preE ([], n)).length = (pre [] n).length := rfl
    omega
  · have := po.len
    show (x.2.ps.length : Int) = _
    omega
  · have hb := po.b r hr
    exact ⟨⟨Nat.le_trans (fr_short hb.1) (by decide), hb.1.low, rfl⟩, ⟨Nat.le_trans (fr_short hb.2) (by decide), hb.2.low, rfl⟩⟩
theorem text_small {g : Int} {n : Node} (G : Good g n) (g1 : 1 ≤ g) (g4 : g ≤ 4) (np : ∀ x ∈ pre [] n, PsOk g x.2.ps) (hL : (pre [] n).length ≤ 13) : (textM g n).length ≤ 250000 ∧ (textM g n).count 10 ≤ 100 := by
  have le : (entE n).length = (pre [] n).length := List.length_map _
  constructor
  · have := sum_len (b := 4000) (linesM g n) fun l hl => by
      rcases List.mem_cons.mp hl with rfl | hl
      · have := intL_small (z := g) (by unfold Bd; omega)
        unfold lineG
        rw [List.length_append, List.length_append, List.length_append]
        simp [goodsW]
        omega
      · obtain ⟨x, hx, rfl⟩ := List.mem_map.mp hl
        obtain ⟨e, em, rfl⟩ := List.mem_map.mp hx
        obtain ⟨gp1, gp2⟩ := good_path G em
        have po := np e em
        have gl : e.2.ps.length ≤ 3 := by
          have := po.len
          omega
        have e2 : (wordsE e.1 e.2.ps).length = 2 + 2 * e.2.ps.length := by
          unfold wordsE
          rw [List.length_cons, List.length_cons, flat2_len]
          omega
        have wl := sum_len (b := 400) (wordsE e.1 e.2.ps) fun l hx => by
          unfold wordsE at hx
          rcases List.mem_cons.mp hx with rfl | hx
          · simp [momentW]
          · rcases List.mem_cons.mp hx with rfl | hx
            · have h5 := good_time G em
              have := pathT_len (p := e.1) (by omega) gp2
              omega
            · obtain ⟨r, hr, hx⟩ := List.mem_flatMap.mp hx
              have hb := po.b r hr
              rcases List.mem_cons.mp hx with rfl | hx
              · exact Nat.le_trans (fr_short hb.1) (by decide)
              · rw [List.mem_singleton.mp hx]
                exact Nat.le_trans (fr_short hb.2) (by decide)
        have jl := joinL_len 32 (wordsE e.1 e.2.ps)
        rw [e2] at wl
        show (TL.joinL [32] (wordsE e.1 e.2.ps) ++ [10]).length ≤ _
        rw [List.length_append]
        simp only [List.length_cons, List.length_nil]
        omega
    have e : (linesM g n).length = 1 + (pre [] n).length := by
      unfold linesM
      rw [List.length_cons, List.length_map, le]
      omega
    rw [e] at this
    unfold textM
    rw [List.length_flatten]
    omega
  · have h := cut_count 10 (textM g n)
    rw [text_cut] at h
    simp only [List.length_append, List.length_cons, List.length_map, List.length_nil] at h
    omega
theorem un65 {k : Nat} {A : Around} (r : Room k A) : A.units + 65 < cLine := by
  have := r.un
  omega
theorem cut1 (cs : List Nat) : cutS (SX.S cs) (some (-1)) none = SX.S (cs.drop (cs.length - 1)) := by
  rw [cutS_S]
  have e : HT.sIx cs.length 0 (some (-1)) = cs.length - 1 := by
    show (if (-1 : Int) < 0 then ((-1 : Int) + (cs.length : Int)).toNat else min (-1 : Int).toNat cs.length) = _
    rw [if_pos (by decide)]
    omega
  have e2 : HT.sIx cs.length cs.length none = cs.length := rfl
  rw [e, e2]
  congr 1
  rw [List.take_of_length_le]
  rw [List.length_drop]
  omega
theorem Sh.str {l : List Nat} {k : Nat} (h : ∀ c ∈ l, c < 1114112) : Sh k (.str (SX.S l)) := by
  refine ⟨?_, Nat.zero_le _⟩
  rw [PyData.canLay0]
  unfold PyData.strOk
  rw [← Array.all_toList, List.all_eq_true]
  exact fun c hc => decide_eq_true (by have := h c hc; omega)
theorem eqv_str (a b : Str) : PyData.eqv (.str a) (.str b) = decide (a = b) := by
  show (a == b) = _
  by_cases h : a = b
  · subst h
    rw [decide_eq_true rfl, beq_self_eq_true]
  · rw [decide_eq_false h]
    exact beq_eq_false_iff_ne.mpr h
def textW : List Nat := [116, 101, 120, 116]
def otherW : List Nat := [111, 116, 104, 101, 114]
theorem lit_text : Str.ofString "text" = SX.S textW := lit _ _ (by decide)
theorem lit_other : Str.ofString "other" = SX.S otherW := lit _ _ (by decide)
theorem sh_text : SeqAt.shaped (.str (SX.S textW)) = true := (Sh.str (k := 0) (by decide)).shaped
theorem sh_words : SeqAt.shaped (.tuple [.str (SX.S textW), .str (SX.S otherW)]) = true := (Sh.tup (k := 0) fun d hd => by
  rcases List.mem_cons.mp hd with rfl | hd
  · exact Sh.str (by decide)
  · rw [List.mem_singleton.mp hd]
    exact Sh.str (by decide)).shaped
theorem sh_other : SeqAt.shaped (.str (SX.S otherW)) = true := (Sh.str (k := 0) (by decide)).shaped
theorem eqv_tt : PyData.eqv (.str (SX.S textW)) (.str (SX.S textW)) = true := by rw [eqv_str, decide_eq_true rfl]
theorem eqv_to : PyData.eqv (.str (SX.S textW)) (.str (SX.S otherW)) = false := by
  rw [eqv_str]
  exact decide_eq_false fun z => by
    have := congrArg (fun s : Str => s.cps.toList) z
    revert this
    decide
theorem eqv_ot : PyData.eqv (.str (SX.S otherW)) (.str (SX.S textW)) = false := by
  rw [eqv_str]
  exact decide_eq_false fun z => by
    have := congrArg (fun s : Str => s.cps.toList) z
    revert this
    decide
theorem eqv_oo : PyData.eqv (.str (SX.S otherW)) (.str (SX.S otherW)) = true := by rw [eqv_str, decide_eq_true rfl]
theorem built_one {e : Row} {n : Node} (h : Built [e] n) : n = .mk e.2 [] := by
  generalize hL : [e] = L at h
  cases h with
  | one ps =>
    cases hL
    rfl
  | @more l' n' q m ps hb hf hx =>
    exfalso
    have := congrArg List.length hL
    have h0 := List.length_pos_iff.mpr hb.ne
    simp only [List.length_append, List.length_cons, List.length_nil] at this
    omega
theorem built_uniq : ∀ (k : Nat) (l : List Row) (n m : Node), l.length = k + 1 → Built l n → Built l m → n = m
  | 0, l, n, m, hl, hn, hm => by
    match l, hl with
    | [e], _ => rw [built_one hn, built_one hm]
  | k + 1, l, n, m, hl, hn, hm => by
    have hne : l ≠ [] := fun z => by rw [z] at hl; cases hl
    obtain ⟨l', e, rfl⟩ : ∃ l' e, l = l' ++ [e] := ⟨l.dropLast, l.getLast hne, (List.dropLast_concat_getLast hne).symm⟩
    have hl' : l'.length = k + 1 := by rw [List.length_append] at hl; simpa using hl
    have hne' : l' ≠ [] := fun z => by rw [z] at hl'; cases hl'
    obtain ⟨n1, q1, m1, p1, b1, f1, e1, r1⟩ := hn.inv hne'
    obtain ⟨n2, q2, m2, p2, b2, f2, e2, r2⟩ := hm.inv hne'
    have := built_uniq k l' n1 n2 hl' b1 b2
    subst this
    rw [e1] at e2
    obtain ⟨h1, h2⟩ := Prod.mk.inj e2
    have := List.append_inj_left' h1 rfl
    rw [r1, r2, this, h2]
theorem flat2_inj : ∀ (a b : List Pr), (∀ r ∈ a, RdOk (fracT r.1) r.1 ∧ RdOk (fracT r.2) r.2) → (∀ r ∈ b, RdOk (fracT r.1) r.1 ∧ RdOk (fracT r.2) r.2) → a.flatMap (fun r => [fracT r.1, fracT r.2]) = b.flatMap (fun r => [fracT r.1, fracT r.2]) → a = b
  | [], [], _, _, _ => rfl
  | [], y :: b, _, _, h => by simp at h
  | x :: a, [], _, _, h => by simp at h
  | x :: a, y :: b, ha, hb, h => by
    rw [List.flatMap_cons, List.flatMap_cons] at h
    obtain ⟨h1, h2⟩ := List.cons.inj h
    obtain ⟨h3, h4⟩ := List.cons.inj h2
    have e1 := fracT_inj (ha x (by simp)).1.2.1 (hb y (by simp)).1.2.1 h1
    have e2 := fracT_inj (ha x (by simp)).2.2.1 (hb y (by simp)).2.2.1 h3
    have e3 := flat2_inj a b (fun r hr => ha r (List.mem_cons_of_mem _ hr)) (fun r hr => hb r (List.mem_cons_of_mem _ hr)) h4
    rw [e3, Prod.ext e1 e2]
theorem row_inj {g g' : Int} : ∀ {a b : List Row}, a.map rowL = b.map rowL → (∀ e ∈ a, RowOk g e) → (∀ e ∈ b, RowOk g' e) → a = b
  | [], [], _, _, _ => rfl
  | [], y :: b, h, _, _ => by cases h
  | x :: a, [], h, _, _ => by cases h
  | x :: a, y :: b, h, ha, hb => by
    rw [List.map_cons, List.map_cons] at h
    obtain ⟨e1, h2⟩ := List.cons.inj h
    have c1 := line_cut (cs := rowL x) (p := x.1) (ps := x.2) rfl
    have c2 := line_cut (cs := rowL x) (p := y.1) (ps := y.2) (by rw [e1]; rfl)
    rw [c1] at c2
    unfold wordsE at c2
    obtain ⟨c3, c4⟩ := List.cons.inj (List.cons.inj c2).2
    have p1 := pathT_inj (ha x (by simp)).1 (hb y (by simp)).1 c3
    have p2 := flat2_inj x.2 y.2 (ha x (by simp)).2.2 (hb y (by simp)).2.2 c4
    rw [row_inj h2 (fun e he => ha e (List.mem_cons_of_mem _ he)) fun e he => hb e (List.mem_cons_of_mem _ he), Prod.ext p1 p2]
theorem form_uniq {cs : List Nat} {g g' : Int} {n n' : Node} (h : FormM cs g n) (h' : FormM cs g' n') : g' = g ∧ n' = n := by
  have c1 := text_cut g n
  have c2 := text_cut g' n'
  rw [h.1] at c1
  rw [h'.1, c1] at c2
  obtain ⟨c3, c4⟩ := List.cons.inj (List.append_inj_left' c2 rfl)
  have eg : g' = g := by
    unfold headL at c3
    exact (intL_inj (List.append_cancel_left c3)).symm
  have er := row_inj c4 h.2.2.2 h'.2.2.2
  refine ⟨eg, ?_⟩
  have b1 := built n'
  have b2 := built n
  rw [show rwN n' = entE n' from rfl, ← er] at b1
  have hne : entE n ≠ [] := rw_ne n
  have : 0 < (entE n).length := List.length_pos_iff.mpr hne
  exact built_uniq ((entE n).length - 1) _ _ _ (by omega) b1 b2
theorem Sh.mono {k m : Nat} {d : PyData} (h : Sh k d) (e : k ≤ m) : Sh m d := ⟨h.1, Nat.le_trans h.2 e⟩
theorem sh_prices (ps : List Pr) : Sh 3 (pricesD ps) := Sh.tup (k := 2) fun d hd => by
  obtain ⟨p, _, rfl⟩ := List.mem_map.mp hd
  exact sh_pr p
theorem sh_deep : ∀ (m : Nat) (e : PN), (∀ x ∈ preE e, x.1.length ≤ e.1.length + m) → Sh (2 * m + 5) (nodeD e.2)
  | 0, e, h => by
    have hk : e.2.ks = [] := by
      cases hks : e.2.ks with
      | nil => rfl
      | cons k r =>
        have h0 : e.2.ks[0]? = some k := by rw [hks]; rfl
        have := h _ (by rw [preE_eq]; exact List.mem_cons_of_mem _ (List.mem_flatMap.mpr ⟨_, List.mem_of_getElem? (kids_get h0), by rw [preE_eq]; exact List.mem_cons_self ..⟩))
        simp at this
        omega
    rw [nodeD_eq, hk]
    refine Sh.tup (k := 4) fun d hd => ?_
    rcases List.mem_cons.mp hd with rfl | hd
    · exact (sh_prices _).mono (by decide)
    · rw [List.mem_singleton.mp hd]
      exact (Sh.tup (k := 0) (ds := []) fun d hd => by cases hd).mono (by decide)
  | m + 1, e, h => by
    rw [nodeD_eq]
    refine Sh.tup (k := 2 * m + 6) fun d hd => ?_
    rcases List.mem_cons.mp hd with rfl | hd
    · exact (sh_prices _).mono (by omega)
    · rw [List.mem_singleton.mp hd]
      refine Sh.tup (k := 2 * m + 5) fun d hd => ?_
      obtain ⟨k, hk, rfl⟩ := List.mem_map.mp hd
      obtain ⟨i, hi⟩ := List.getElem?_of_mem hk
      have hm := List.mem_of_getElem? (kids_get hi)
      refine sh_deep m (e.1 ++ [(i : Int)], k) fun x hx => ?_
      have := h x (by rw [preE_eq]; exact List.mem_cons_of_mem _ (List.mem_flatMap.mpr ⟨_, hm, hx⟩))
      simp only [List.length_append, List.length_cons, List.length_nil]
      omega
theorem sh_good {g : Int} {n : Node} (G : Good g n) : SeqAt.shaped (marketD g n) = true := (Sh.tup (k := 15) fun d hd => by
  rcases List.mem_cons.mp hd with rfl | hd
  · exact .int
  · rw [List.mem_singleton.mp hd]
    exact (sh_deep 5 ([], n) fun x hx => by have := good_time G hx; simpa using this).mono (by decide) : Sh 16 (marketD g n)).shaped
inductive Told (K : PySem.W.Frag) (H : Hp) (cs : List Nat) : V → Prop
  | text : (∀ g n, ¬ FormM cs g n) → Told K H cs (.str (SX.S textW))
  | other : (∃ g n, FormM cs g n) → Told K H cs (.str (SX.S otherW))
  | mk (v : V) (g : Int) (n : Node) : FormM cs g n → Good g n → Mk K H v g n → Told K H cs v
section
variable {P : Program} {w : World} {K : PySem.W.Frag} {mg : Str → Option Value} {base : Heap}
theorem ltold_of {vs : List V} {H : Hp} {Q : VK} {E : XK} {cs : List Nat} (h1 : vs = [.str (SX.S cs)]) (h2 : cs.length ≤ 1000000) (h3 : (cut 10 cs).length ≤ 300) (key : ∀ v H', Same H H' → Told K H' cs v → Q v H') : sp_ltold K vs H Q E :=
  ⟨cs, h1, h2, h3, fun nf H' s => by rw [lit_text]; exact key _ H' s (.text nf), fun g n f => ⟨fun _ H' s => by rw [lit_other]; exact key _ H' s (.other ⟨g, n, f⟩), fun G v H' s M => key v H' s (.mk v g n f G M)⟩⟩
def sp_law (K : PySem.W.Frag) : Sp := fun vs H Q _ => ∃ (a : Addr) (ns : List Int), vs = [.ref a] ∧ SqL K H a (ns.map V.int) ∧ ns.length ≤ 63 ∧ ∀ H', Q (.bl true) H'
theorem ok_law {f : Addr} {fd : FuncData} (T : Top K mg) (nd : base.NoDigits) (F : Fun K "law" "law" s_law f fd) : FnOk P w K mg base CX0 9 f fd ["script"] (sp_law K) := by
  refine F.ok sc_law (fun vs H Q E h => ?_) (fun cdv A outer s H vs Q E hr h => ?_)
  · obtain ⟨_, _, rfl, _⟩ := h
    rfl
  · obtain ⟨a, ns, rfl, hS, _, fin⟩ := h
    refine ⟨_, (pss_cons (ps_set (i := 1) sc_law.nd rfl (Or.inl rfl) (pe_call (ok__law_begin T) (hr.mono (by decide : 1 ≤ 8)) (by rfl) T.g__law_begin T._law_begin_F.kp T._law_begin_b .nil pass0 (pa_cons (pv 0) pa_nil)))
      (pss_cons (ps_set (i := 2) sc_law.nd rfl (Or.inl rfl) (pe_call (ok__law_market T) (hr.mono (by decide : 8 ≤ 8)) (by rfl) T.g__law_market T._law_market_F.kp T._law_market_b .nil pass0 (pa_cons (pv 1) (pa_cons pe_int pa_nil))))
      (pss_cons (ps_set (i := 3) sc_law.nd rfl (Or.inl rfl) (pe_call (ok__law_text T nd) (hr.mono (by decide : 5 ≤ 8)) (by rfl) T.g__law_text T._law_text_F.kp T._law_text_b .nil pass0 (pa_cons (pv 2) pa_nil)))
      (pss_cons (ps_if (PW.pt (pw_or (pt_cmpR op_ne (pe_call (ok_write_market T) (hr.mono (by decide : 4 ≤ 8)) (by rfl) T.g_write_market T.write_market_F.kp T.write_market_b .nil passL (pa_cons (pv 2) pa_nil)) (pv 3) (nomark _)) (pw_or1 (pt_cmpR (op_neD hr.units) (pe_call (ok__law_told T nd) (hr.mono (by decide : 6 ≤ 8)) (by rfl) T.g__law_told T._law_told_F.kp T._law_told_b .nil pass0 (pa_cons (pv 3) pa_nil)) (pv 2) (nomark _))))) (pss_one (ps_ret pe_bl)) pss_nil)
      (pss_cons (ps_for PassesOwn.never rfl (pi_range1 rfl T.n_range (pa_cons pe_int pa_nil)) (pg_name (i := 4) sc_law.nd rfl (Or.inl rfl)) (pss_cons (ps_set (i := 5) sc_law.nd rfl (Or.inl rfl) (pe_call (ok__law_bent T) (hr.mono (by decide : 2 ≤ 8)) (by rfl) T.g__law_bent T._law_bent_F.kp T._law_bent_b .nil pass0 (pa_cons (pv 1) (pa_cons (pv 3) pa_nil))))
      (pss_cons (ps_set (i := 6) sc_law.nd rfl (Or.inl rfl) (pe_call (ok__law_told T nd) (hr.mono (by decide : 6 ≤ 8)) (by rfl) T.g__law_told T._law_told_F.kp T._law_told_b .nil pass0 (pa_cons (pv 5) pa_nil)))
      (pss_cons (ps_if (PW.pt (pw_and (pt_cmpR (op_notInT (un65 hr)) (pv 6) (pe_tup (pa_cons pe_str (pa_cons pe_str pa_nil))) (by rfl)) (pw_and1 (pt_cmpR op_ne (pe_call (ok__law_text T nd) (hr.mono (by decide : 5 ≤ 8)) (by rfl) T.g__law_text T._law_text_F.kp T._law_text_b .nil pass0 (pa_cons (pv 6) pa_nil)) (pv 5) (nomark _))))) (pss_one (ps_ret pe_bl)) pss_nil)
      (pss_one (ps_if (PW.pt (pw_and (PW.pt (pw_or (pt_cmpR op_ne (pe_slice sl_str (pv 5) (po_some (pe_un un_neg pe_int)) po_none) pe_str (nomark _)) (pw_or (pt_cmpR op_in_str pe_str (pv 5) (by rfl)) (pw_or (pt_cmpR op_in_str pe_str (pv 5) (by rfl)) (pw_or1 (pt_cmpR op_in_str pe_str (pv 5) (by rfl))))))) (pw_and1 (pt_cmpR (op_neD hr.units) (pv 6) pe_str (nomark _))))) (pss_one (ps_ret pe_bl)) pss_nil))))))
      (pss_one (ps_ret (pe_and (pe_cmpR op_eq (pe_call (ok__law_told T nd) (hr.mono (by decide : 6 ≤ 8)) (by rfl) T.g__law_told T._law_told_F.kp T._law_told_b .nil pass0 (pa_cons pe_str pa_nil)) pe_str (nomark _)) (pe_and (pe_cmpR op_eq (pe_call (ok__law_told T nd) (hr.mono (by decide : 6 ≤ 8)) (by rfl) T.g__law_told T._law_told_F.kp T._law_told_b .nil pass0 (pa_cons (pe_op op_add_str (pv 3) pe_str) pa_nil)) pe_str (nomark _)) (pe_one (pe_cmpR op_eq (pe_call (ok__law_told T nd) (hr.mono (by decide : 6 ≤ 8)) (by rfl) T.g__law_told T._law_told_F.kp T._law_told_b .nil pass0 (pa_cons pe_str pa_nil)) pe_str (nomark _)))))))))))), ?_⟩
    rw [show Str.ofString "\n" = SX.S [10] from lit _ _ (by decide), show Str.ofString "  " = SX.S [32, 32] from lit _ _ (by decide), show Str.ofString " \n" = SX.S [32, 10] from lit _ _ (by decide), show Str.ofString "\n\n" = SX.S [10, 10] from lit _ _ (by decide), show Str.ofString "" = SX.S [] from lit _ _ (by decide), lit_text, lit_other, show Str.ofString "goods 1\n" = SX.S [103, 111, 111, 100, 115, 32, 49, 10] from lit _ _ (by decide)]
    refine ⟨_, rfl, a, ns, rfl, hS, fun pd ps H1 s1 n1 n2 D1 => ?_⟩
    refine ⟨_, rfl, pd, ps, rfl, D1, fun v g n m H2 x2 D2 dm g1 g4 m2 nv => ?_⟩
    obtain ⟨G, hB, hL⟩ := nv_good nv m2 g1 g4
    have np : ∀ x ∈ pre [] n, PsOk g x.2.ps := fun x hx => ((nv_pre m ([], n) nv).1 x hx).1
    have M2 : Mk K H2 v g n := ⟨dm, hB, by omega⟩
    have fo := form_own G g1 g4 np
    obtain ⟨tl1, tl2⟩ := text_small G g1 g4 np hL
    have tend := text_end g n
    refine ⟨_, rfl, v, g, n, rfl, M2, G, fun H3 s3 => ?_⟩
    generalize htx : textM g n = cs at *
    have M3 := M2.same s3
    have D3 := D2.same s3
    refine ⟨_, rfl, v, g, n, rfl, M3, G, fun H4 s4 => ⟨_, rfl, rfl, _, rfl, ?_⟩⟩
    have nn : (!decide (V.str (SX.S (textM g n)) = V.str (SX.S cs))) = false := by rw [htx, decide_eq_true rfl]; rfl
    refine if_false_of' nn ?_
    have M4 := M3.same s4
    have D4 := D3.same s4
    have c300 : (cut 10 cs).length ≤ 300 := by rw [cut_count]; omega
    refine ⟨_, rfl, cs, rfl, by omega, c300, fun z => (z g n fo).elim, fun g' n' fo' => ⟨fun z => ?_, fun G' v5 H5 s5 M5 => ?_⟩⟩
    · have := form_uniq fo fo'
      obtain ⟨rfl, rfl⟩ := this
      exact (z G).elim
    have := form_uniq fo fo'
    obtain ⟨rfl, rfl⟩ := this
    refine ⟨_, rfl, _, _, M5.d.dp, (M4.same s5).d.dp, sh_good G, sh_good G, _, rfl, ?_⟩
    have n2 : (!PyData.eqv (marketD g' n') (marketD g' n')) = false := by rw [SeqAt.eqv_refl _ (SeqAt.canLay_of_shaped (sh_good G))]; rfl
    refine if_false_of' n2 ?_
    have D5 := D4.same s5
    have M5' := M4.same s5
    have i5 := D5.isL'
    refine ⟨_, rfl, by decide, by decide, for_range (lo := 0) (n := 5) (fun k σ H' => ∃ y4 y5 y6 : Option V, σ = [some (.ref a), some (.ref pd), some v, some (.str (SX.S cs)), y4, y5, y6] ∧ Xt pd H5 H' ∧ Dst H' pd ps) ⟨_, _, _, rfl, Xt.refl _, D5⟩ ?_ ?_⟩
    · rintro k σ H6 hk ⟨y4, y5, y6, rfl, x6, D6⟩
      refine ⟨_, rfl, _, rfl, pd, ps, cs, rfl, D6, tl1, tl2, fun bs H7 x7 D7 b1 b2 => ?_⟩
      have c3 : (cut 10 bs).length ≤ 300 := by rw [cut_count]; omega
      refine ⟨_, rfl, ?_⟩
      dsimp only [tNil, tCall, tCons, tC, List.cons_append, List.nil_append]
      refine ltold_of rfl (by omega) c3 fun tv H8 s8 hT => ?_
      have fin8 : ∃ y4 y5 y6 : Option V, [some (V.ref a), some (.ref pd), some v, some (.str (SX.S cs)), some (.int (0 + (k : Int))), some (.str (SX.S bs)), some tv] = [some (.ref a), some (.ref pd), some v, some (.str (SX.S cs)), y4, y5, y6] ∧ Xt pd H5 H8 ∧ Dst H8 pd ps := ⟨_, _, _, rfl, (x6.trans x7).trans (Xt.of s8), D7.same s8⟩
      have slb : (SX.S bs).length ≤ sizeLine := by rw [SX.S_len]; exact Nat.le_trans b1 (by decide)
      rcases hT with ⟨nf⟩ | ⟨g2, n2, f2⟩ | ⟨_, g2, n2, f2, G2, M2⟩
      · refine ⟨_, rfl, two_le, fun p9 h9 => ⟨_, _, .str _, .tup (SqT.of upd_same) (.cons (.str _) (.cons (.str _) .nil)), sh_text, sh_words, _, rfl, if_false_of' (by simp [eqv_tt]) (iteF ?_)⟩⟩
        have s9 := same_new (o := .tup [V.str (SX.S textW), V.str (SX.S otherW)]) h9
        refine ⟨_, rfl, _, rfl, _, rfl, _, rfl, slb, ?_⟩
        rw [cut1]
        have last : ∀ H' : Hp, Same (upd H8 p9 (.tup [V.str (SX.S textW), V.str (SX.S otherW)])) H' → ∃ y4 y5 y6 : Option V, [some (V.ref a), some (.ref pd), some v, some (.str (SX.S cs)), some (.int (0 + (k : Int))), some (.str (SX.S bs)), some (V.str (SX.S textW))] = [some (.ref a), some (.ref pd), some v, some (.str (SX.S cs)), y4, y5, y6] ∧ Xt pd H5 H' ∧ Dst H' pd ps := fun H' s' => ⟨_, _, _, rfl, ((x6.trans x7).trans (Xt.of s8)).trans (Xt.of (s9.trans s')), (D7.same s8).same (s9.trans s')⟩
        have stop : (!PyData.eqv (.str (SX.S textW)) (.str (SX.S textW))) = false := by rw [eqv_tt]; rfl
        refine ⟨rfl, _, rfl, ite2 (fun _ => ?_) (fun _ => ?_)⟩
        · exact ⟨_, rfl, _, _, .str _, .str _, sh_text, sh_text, _, rfl, if_false_of' stop (last _ (Same.refl _))⟩
        refine ⟨_, rfl, _, _, rfl, rfl, _, rfl, ite2 (fun _ => ?_) (fun _ => ?_)⟩
        · exact ⟨_, rfl, _, _, .str _, .str _, sh_text, sh_text, _, rfl, if_false_of' stop (last _ (Same.refl _))⟩
        refine ⟨_, rfl, _, _, rfl, rfl, _, rfl, ite2 (fun _ => ?_) (fun _ => ?_)⟩
        · exact ⟨_, rfl, _, _, .str _, .str _, sh_text, sh_text, _, rfl, if_false_of' stop (last _ (Same.refl _))⟩
        refine ⟨_, rfl, _, _, rfl, rfl, _, rfl, ite2 (fun _ => ?_) (fun _ => ?_)⟩
        · exact ⟨_, rfl, _, _, .str _, .str _, sh_text, sh_text, _, rfl, if_false_of' stop (last _ (Same.refl _))⟩
        exact iteF (last _ (Same.refl _))
      · refine ⟨_, rfl, two_le, fun p9 h9 => ⟨_, _, .str _, .tup (SqT.of upd_same) (.cons (.str _) (.cons (.str _) .nil)), sh_other, sh_words, _, rfl, if_false_of' (by simp [eqv_oo]) (iteF ?_)⟩⟩
        have s9 := same_new (o := .tup [V.str (SX.S textW), V.str (SX.S otherW)]) h9
        refine ⟨_, rfl, _, rfl, _, rfl, _, rfl, slb, ?_⟩
        rw [cut1]
        have e1 : (!decide (V.str (SX.S (bs.drop (bs.length - 1))) = V.str (SX.S [10]))) = false := by rw [form_end f2, decide_eq_true rfl]; rfl
        refine ⟨rfl, _, rfl, if_false_of' e1 ?_⟩
        refine ⟨_, rfl, _, _, rfl, rfl, _, rfl, if_false_of' (form_two f2 (.inl rfl) (.inl rfl)) ?_⟩
        refine ⟨_, rfl, _, _, rfl, rfl, _, rfl, if_false_of' (form_two f2 (.inl rfl) (.inr rfl)) ?_⟩
        refine ⟨_, rfl, _, _, rfl, rfl, _, rfl, if_false_of' (form_two f2 (.inr rfl) (.inr rfl)) ?_⟩
        exact iteF ⟨_, _, _, rfl, ((x6.trans x7).trans (Xt.of s8)).trans (Xt.of s9), (D7.same s8).same s9⟩
      · refine ⟨_, rfl, two_le, fun p9 h9 => ?_⟩
        have s9 := same_new (o := .tup [V.str (SX.S textW), V.str (SX.S otherW)]) h9
        have M9 := M2.same s9
        refine ⟨_, _, M9.d.dp, .tup (SqT.of upd_same) (.cons (.str _) (.cons (.str _) .nil)), sh_good G2, sh_words, _, rfl, if_true_of' (by rfl) ?_⟩
        have n3 : (!decide (V.str (SX.S (textM g2 n2)) = V.str (SX.S bs))) = false := by rw [f2.1, decide_eq_true rfl]; rfl
        refine ⟨_, rfl, tv, g2, n2, rfl, M9, G2, fun H10 s10 => ⟨_, rfl, rfl, _, rfl, if_false_of' n3 ?_⟩⟩
        have s90 := s9.trans s10
        refine ⟨_, rfl, _, rfl, _, rfl, _, rfl, slb, ?_⟩
        rw [cut1]
        have e1 : (!decide (V.str (SX.S (bs.drop (bs.length - 1))) = V.str (SX.S [10]))) = false := by rw [form_end f2, decide_eq_true rfl]; rfl
        refine ⟨rfl, _, rfl, if_false_of' e1 ?_⟩
        refine ⟨_, rfl, _, _, rfl, rfl, _, rfl, if_false_of' (form_two f2 (.inl rfl) (.inl rfl)) ?_⟩
        refine ⟨_, rfl, _, _, rfl, rfl, _, rfl, if_false_of' (form_two f2 (.inl rfl) (.inr rfl)) ?_⟩
        refine ⟨_, rfl, _, _, rfl, rfl, _, rfl, if_false_of' (form_two f2 (.inr rfl) (.inr rfl)) ?_⟩
        exact iteF ⟨_, _, _, rfl, ((x6.trans x7).trans (Xt.of s8)).trans (Xt.of s90), (D7.same s8).same s90⟩
    · rintro σ H6 ⟨y4, y5, y6, rfl, x6, D6⟩
      dsimp only [tRet, tAndV, tOp, tNil, tCall, tCons, tC, List.cons_append, List.nil_append]
      have dT : decide (V.str (SX.S textW) = V.str (SX.S textW)) = true := decide_eq_true rfl
      refine ⟨[], rfl, by decide, by decide, fun _ H7 s7 => ?_, fun g2 n2 f2 => (form_none0 g2 n2 f2).elim⟩
      rw [lit_text]
      refine ⟨rfl, _, rfl, if_true_of' dT ?_⟩
      obtain ⟨u, hu⟩ := tend
      have lc : (SX.S cs).length + (SX.S [10]).length ≤ sizeLine := by rw [SX.S_len, SX.S_len]; exact Nat.le_trans (m := 1000000) (by simp; omega) (by decide)
      have cc : (cut 10 (cs ++ [10])).length ≤ 300 := by
        rw [cut_count, List.count_append]
        have : List.count 10 [10] = 1 := by decide
        omega
      refine ⟨_, rfl, _, _, rfl, rfl, lc, ?_⟩
      rw [SX.S_cat]
      refine ⟨cs ++ [10], rfl, by rw [List.length_append]; simp; omega, cc, fun _ H8 s8 => ?_, fun g2 n2 f2 => (form_none1 hu g2 n2 f2).elim⟩
      rw [lit_text]
      refine ⟨rfl, _, rfl, if_true_of' dT ?_⟩
      refine ⟨[103, 111, 111, 100, 115, 32, 49, 10], rfl, by decide, by decide, fun _ H9 s9 => ?_, fun g2 n2 f2 => (form_none2 g2 n2 f2).elim⟩
      rw [lit_text]
      refine ⟨rfl, ?_⟩
      rw [dT]
      exact fin _
end
end Nl

namespace Nl
open PySem PySem.Spec PyProof.Rows L2
theorem all_mk {l : PySem.W.OpenLaw} {w : World} {K : PySem.W.Frag} {h : Heap} {mg : Str → Option Value} {fa : Addr} (X : K.In h) (G : h.Ns mainGlobals mg) (hfa : mg "law" = some (.ref fa)) (hnd : h.NoDigits)
    {f_is_natural : Addr} {od_is_natural an_is_natural : Option Addr} {sl_is_natural : Array (Option Value)} {oc_is_natural kV_is_natural dc_is_natural pm_is_natural cd_is_natural ct_is_natural : Value}
    {f_read_natural : Addr} {od_read_natural an_read_natural : Option Addr} {sl_read_natural : Array (Option Value)} {oc_read_natural kV_read_natural dc_read_natural pm_read_natural cd_read_natural ct_read_natural : Value}
    {f_write_integer : Addr} {od_write_integer an_write_integer : Option Addr} {sl_write_integer : Array (Option Value)} {oc_write_integer kV_write_integer dc_write_integer pm_write_integer cd_write_integer ct_write_integer : Value}
    {f_fraction : Addr} {od_fraction an_fraction : Option Addr} {sl_fraction : Array (Option Value)} {oc_fraction kV_fraction dc_fraction pm_fraction cd_fraction ct_fraction : Value}
    {f_compare : Addr} {od_compare an_compare : Option Addr} {sl_compare : Array (Option Value)} {oc_compare kV_compare dc_compare pm_compare cd_compare ct_compare : Value}
    {f_write_fraction : Addr} {od_write_fraction an_write_fraction : Option Addr} {sl_write_fraction : Array (Option Value)} {oc_write_fraction kV_write_fraction dc_write_fraction pm_write_fraction cd_write_fraction ct_write_fraction : Value}
    {f_read_fraction : Addr} {od_read_fraction an_read_fraction : Option Addr} {sl_read_fraction : Array (Option Value)} {oc_read_fraction kV_read_fraction dc_read_fraction pm_read_fraction cd_read_fraction ct_read_fraction : Value}
    {f_check_market : Addr} {od_check_market an_check_market : Option Addr} {sl_check_market : Array (Option Value)} {oc_check_market kV_check_market dc_check_market pm_check_market cd_check_market ct_check_market : Value}
    {f__check_prices : Addr} {od__check_prices an__check_prices : Option Addr} {sl__check_prices : Array (Option Value)} {oc__check_prices kV__check_prices dc__check_prices pm__check_prices cd__check_prices ct__check_prices : Value}
    {f_walk : Addr} {od_walk an_walk : Option Addr} {sl_walk : Array (Option Value)} {oc_walk kV_walk dc_walk pm_walk cd_walk ct_walk : Value}
    {f_write_market : Addr} {od_write_market an_write_market : Option Addr} {sl_write_market : Array (Option Value)} {oc_write_market kV_write_market dc_write_market pm_write_market cd_write_market ct_write_market : Value}
    {f_read_market : Addr} {od_read_market an_read_market : Option Addr} {sl_read_market : Array (Option Value)} {oc_read_market kV_read_market dc_read_market pm_read_market cd_read_market ct_read_market : Value}
    {f__write_path : Addr} {od__write_path an__write_path : Option Addr} {sl__write_path : Array (Option Value)} {oc__write_path kV__write_path dc__write_path pm__write_path cd__write_path ct__write_path : Value}
    {f__read_path : Addr} {od__read_path an__read_path : Option Addr} {sl__read_path : Array (Option Value)} {oc__read_path kV__read_path dc__read_path pm__read_path cd__read_path ct__read_path : Value}
    {f__read_goods : Addr} {od__read_goods an__read_goods : Option Addr} {sl__read_goods : Array (Option Value)} {oc__read_goods kV__read_goods dc__read_goods pm__read_goods cd__read_goods ct__read_goods : Value}
    {f__read_moment : Addr} {od__read_moment an__read_moment : Option Addr} {sl__read_moment : Array (Option Value)} {oc__read_moment kV__read_moment dc__read_moment pm__read_moment cd__read_moment ct__read_moment : Value}
    {f__check_order : Addr} {od__check_order an__check_order : Option Addr} {sl__check_order : Array (Option Value)} {oc__check_order kV__check_order dc__check_order pm__check_order cd__check_order ct__check_order : Value}
    {f__tree : Addr} {od__tree an__tree : Option Addr} {sl__tree : Array (Option Value)} {oc__tree kV__tree dc__tree pm__tree cd__tree ct__tree : Value}
    {f__law_begin : Addr} {od__law_begin an__law_begin : Option Addr} {sl__law_begin : Array (Option Value)} {oc__law_begin kV__law_begin dc__law_begin pm__law_begin cd__law_begin ct__law_begin : Value}
    {f__law_take : Addr} {od__law_take an__law_take : Option Addr} {sl__law_take : Array (Option Value)} {oc__law_take kV__law_take dc__law_take pm__law_take cd__law_take ct__law_take : Value}
    {f__law_gcd : Addr} {od__law_gcd an__law_gcd : Option Addr} {sl__law_gcd : Array (Option Value)} {oc__law_gcd kV__law_gcd dc__law_gcd pm__law_gcd cd__law_gcd ct__law_gcd : Value}
    {f__law_f : Addr} {od__law_f an__law_f : Option Addr} {sl__law_f : Array (Option Value)} {oc__law_f kV__law_f dc__law_f pm__law_f cd__law_f ct__law_f : Value}
    {f__law_plus : Addr} {od__law_plus an__law_plus : Option Addr} {sl__law_plus : Array (Option Value)} {oc__law_plus kV__law_plus dc__law_plus pm__law_plus cd__law_plus ct__law_plus : Value}
    {f__law_minus : Addr} {od__law_minus an__law_minus : Option Addr} {sl__law_minus : Array (Option Value)} {oc__law_minus kV__law_minus dc__law_minus pm__law_minus cd__law_minus ct__law_minus : Value}
    {f__law_times : Addr} {od__law_times an__law_times : Option Addr} {sl__law_times : Array (Option Value)} {oc__law_times kV__law_times dc__law_times pm__law_times cd__law_times ct__law_times : Value}
    {f__law_spread : Addr} {od__law_spread an__law_spread : Option Addr} {sl__law_spread : Array (Option Value)} {oc__law_spread kV__law_spread dc__law_spread pm__law_spread cd__law_spread ct__law_spread : Value}
    {f__law_node : Addr} {od__law_node an__law_node : Option Addr} {sl__law_node : Array (Option Value)} {oc__law_node kV__law_node dc__law_node pm__law_node cd__law_node ct__law_node : Value}
    {f__law_market : Addr} {od__law_market an__law_market : Option Addr} {sl__law_market : Array (Option Value)} {oc__law_market kV__law_market dc__law_market pm__law_market cd__law_market ct__law_market : Value}
    {f__law_nodes : Addr} {od__law_nodes an__law_nodes : Option Addr} {sl__law_nodes : Array (Option Value)} {oc__law_nodes kV__law_nodes dc__law_nodes pm__law_nodes cd__law_nodes ct__law_nodes : Value}
    {f__law_find : Addr} {od__law_find an__law_find : Option Addr} {sl__law_find : Array (Option Value)} {oc__law_find kV__law_find dc__law_find pm__law_find cd__law_find ct__law_find : Value}
    {f__law_word : Addr} {od__law_word an__law_word : Option Addr} {sl__law_word : Array (Option Value)} {oc__law_word kV__law_word dc__law_word pm__law_word cd__law_word ct__law_word : Value}
    {f__law_text : Addr} {od__law_text an__law_text : Option Addr} {sl__law_text : Array (Option Value)} {oc__law_text kV__law_text dc__law_text pm__law_text cd__law_text ct__law_text : Value}
    {f__law_told : Addr} {od__law_told an__law_told : Option Addr} {sl__law_told : Array (Option Value)} {oc__law_told kV__law_told dc__law_told pm__law_told cd__law_told ct__law_told : Value}
    {f__law_bent : Addr} {od__law_bent an__law_bent : Option Addr} {sl__law_bent : Array (Option Value)} {oc__law_bent kV__law_bent dc__law_bent pm__law_bent cd__law_bent ct__law_bent : Value}
    {f_law : Addr} {od_law an_law : Option Addr} {sl_law : Array (Option Value)} {oc_law kV_law dc_law pm_law cd_law ct_law : Value}
    {tk_DIGIT_LIMIT : Tok}
    {tk_TEXT_LIMIT : Tok}
    {tk_GOODS_LIMIT : Tok}
    {tk_MOMENT_LIMIT : Tok}
    {tk_TIME_LIMIT : Tok}
    {C_MarketplaceError : Addr}
    {C_ZeroDenominator : Addr}
    {C_TextError : Addr}
    {C_MarketError : Addr}
    {C_TooLarge : Addr}
    (a_is_natural : PySem.W.nsIn K mainGlobals "is_natural" = some (some (.ref f_is_natural))) (l_is_natural : K.lookup f_is_natural = some ⟨oc_is_natural, od_is_natural, .func (PySem.W.fnOf "is_natural" "is_natural" (defArgs s_is_natural) (defBody s_is_natural) (defScope s_is_natural) .none kV_is_natural dc_is_natural pm_is_natural an_is_natural cd_is_natural ct_is_natural), sl_is_natural⟩) (c_is_natural : PySem.W.codeIn K cd_is_natural "is_natural" = true) (k_is_natural : PySem.W.keepIn K (.ref f_is_natural) = true)
    (a_read_natural : PySem.W.nsIn K mainGlobals "read_natural" = some (some (.ref f_read_natural))) (l_read_natural : K.lookup f_read_natural = some ⟨oc_read_natural, od_read_natural, .func (PySem.W.fnOf "read_natural" "read_natural" (defArgs s_read_natural) (defBody s_read_natural) (defScope s_read_natural) .none kV_read_natural dc_read_natural pm_read_natural an_read_natural cd_read_natural ct_read_natural), sl_read_natural⟩) (c_read_natural : PySem.W.codeIn K cd_read_natural "read_natural" = true) (k_read_natural : PySem.W.keepIn K (.ref f_read_natural) = true)
    (a_write_integer : PySem.W.nsIn K mainGlobals "write_integer" = some (some (.ref f_write_integer))) (l_write_integer : K.lookup f_write_integer = some ⟨oc_write_integer, od_write_integer, .func (PySem.W.fnOf "write_integer" "write_integer" (defArgs s_write_integer) (defBody s_write_integer) (defScope s_write_integer) .none kV_write_integer dc_write_integer pm_write_integer an_write_integer cd_write_integer ct_write_integer), sl_write_integer⟩) (c_write_integer : PySem.W.codeIn K cd_write_integer "write_integer" = true) (k_write_integer : PySem.W.keepIn K (.ref f_write_integer) = true)
    (a_fraction : PySem.W.nsIn K mainGlobals "fraction" = some (some (.ref f_fraction))) (l_fraction : K.lookup f_fraction = some ⟨oc_fraction, od_fraction, .func (PySem.W.fnOf "fraction" "fraction" (defArgs s_fraction) (defBody s_fraction) (defScope s_fraction) .none kV_fraction dc_fraction pm_fraction an_fraction cd_fraction ct_fraction), sl_fraction⟩) (c_fraction : PySem.W.codeIn K cd_fraction "fraction" = true) (k_fraction : PySem.W.keepIn K (.ref f_fraction) = true)
    (a_compare : PySem.W.nsIn K mainGlobals "compare" = some (some (.ref f_compare))) (l_compare : K.lookup f_compare = some ⟨oc_compare, od_compare, .func (PySem.W.fnOf "compare" "compare" (defArgs s_compare) (defBody s_compare) (defScope s_compare) .none kV_compare dc_compare pm_compare an_compare cd_compare ct_compare), sl_compare⟩) (c_compare : PySem.W.codeIn K cd_compare "compare" = true) (k_compare : PySem.W.keepIn K (.ref f_compare) = true)
    (a_write_fraction : PySem.W.nsIn K mainGlobals "write_fraction" = some (some (.ref f_write_fraction))) (l_write_fraction : K.lookup f_write_fraction = some ⟨oc_write_fraction, od_write_fraction, .func (PySem.W.fnOf "write_fraction" "write_fraction" (defArgs s_write_fraction) (defBody s_write_fraction) (defScope s_write_fraction) .none kV_write_fraction dc_write_fraction pm_write_fraction an_write_fraction cd_write_fraction ct_write_fraction), sl_write_fraction⟩) (c_write_fraction : PySem.W.codeIn K cd_write_fraction "write_fraction" = true) (k_write_fraction : PySem.W.keepIn K (.ref f_write_fraction) = true)
    (a_read_fraction : PySem.W.nsIn K mainGlobals "read_fraction" = some (some (.ref f_read_fraction))) (l_read_fraction : K.lookup f_read_fraction = some ⟨oc_read_fraction, od_read_fraction, .func (PySem.W.fnOf "read_fraction" "read_fraction" (defArgs s_read_fraction) (defBody s_read_fraction) (defScope s_read_fraction) .none kV_read_fraction dc_read_fraction pm_read_fraction an_read_fraction cd_read_fraction ct_read_fraction), sl_read_fraction⟩) (c_read_fraction : PySem.W.codeIn K cd_read_fraction "read_fraction" = true) (k_read_fraction : PySem.W.keepIn K (.ref f_read_fraction) = true)
    (a_check_market : PySem.W.nsIn K mainGlobals "check_market" = some (some (.ref f_check_market))) (l_check_market : K.lookup f_check_market = some ⟨oc_check_market, od_check_market, .func (PySem.W.fnOf "check_market" "check_market" (defArgs s_check_market) (defBody s_check_market) (defScope s_check_market) .none kV_check_market dc_check_market pm_check_market an_check_market cd_check_market ct_check_market), sl_check_market⟩) (c_check_market : PySem.W.codeIn K cd_check_market "check_market" = true) (k_check_market : PySem.W.keepIn K (.ref f_check_market) = true)
    (a__check_prices : PySem.W.nsIn K mainGlobals "_check_prices" = some (some (.ref f__check_prices))) (l__check_prices : K.lookup f__check_prices = some ⟨oc__check_prices, od__check_prices, .func (PySem.W.fnOf "_check_prices" "_check_prices" (defArgs s__check_prices) (defBody s__check_prices) (defScope s__check_prices) .none kV__check_prices dc__check_prices pm__check_prices an__check_prices cd__check_prices ct__check_prices), sl__check_prices⟩) (c__check_prices : PySem.W.codeIn K cd__check_prices "_check_prices" = true) (k__check_prices : PySem.W.keepIn K (.ref f__check_prices) = true)
    (a_walk : PySem.W.nsIn K mainGlobals "walk" = some (some (.ref f_walk))) (l_walk : K.lookup f_walk = some ⟨oc_walk, od_walk, .func (PySem.W.fnOf "walk" "walk" (defArgs s_walk) (defBody s_walk) (defScope s_walk) .none kV_walk dc_walk pm_walk an_walk cd_walk ct_walk), sl_walk⟩) (c_walk : PySem.W.codeIn K cd_walk "walk" = true) (k_walk : PySem.W.keepIn K (.ref f_walk) = true)
    (a_write_market : PySem.W.nsIn K mainGlobals "write_market" = some (some (.ref f_write_market))) (l_write_market : K.lookup f_write_market = some ⟨oc_write_market, od_write_market, .func (PySem.W.fnOf "write_market" "write_market" (defArgs s_write_market) (defBody s_write_market) (defScope s_write_market) .none kV_write_market dc_write_market pm_write_market an_write_market cd_write_market ct_write_market), sl_write_market⟩) (c_write_market : PySem.W.codeIn K cd_write_market "write_market" = true) (k_write_market : PySem.W.keepIn K (.ref f_write_market) = true)
    (a_read_market : PySem.W.nsIn K mainGlobals "read_market" = some (some (.ref f_read_market))) (l_read_market : K.lookup f_read_market = some ⟨oc_read_market, od_read_market, .func (PySem.W.fnOf "read_market" "read_market" (defArgs s_read_market) (defBody s_read_market) (defScope s_read_market) .none kV_read_market dc_read_market pm_read_market an_read_market cd_read_market ct_read_market), sl_read_market⟩) (c_read_market : PySem.W.codeIn K cd_read_market "read_market" = true) (k_read_market : PySem.W.keepIn K (.ref f_read_market) = true)
    (a__write_path : PySem.W.nsIn K mainGlobals "_write_path" = some (some (.ref f__write_path))) (l__write_path : K.lookup f__write_path = some ⟨oc__write_path, od__write_path, .func (PySem.W.fnOf "_write_path" "_write_path" (defArgs s__write_path) (defBody s__write_path) (defScope s__write_path) .none kV__write_path dc__write_path pm__write_path an__write_path cd__write_path ct__write_path), sl__write_path⟩) (c__write_path : PySem.W.codeIn K cd__write_path "_write_path" = true) (k__write_path : PySem.W.keepIn K (.ref f__write_path) = true)
    (a__read_path : PySem.W.nsIn K mainGlobals "_read_path" = some (some (.ref f__read_path))) (l__read_path : K.lookup f__read_path = some ⟨oc__read_path, od__read_path, .func (PySem.W.fnOf "_read_path" "_read_path" (defArgs s__read_path) (defBody s__read_path) (defScope s__read_path) .none kV__read_path dc__read_path pm__read_path an__read_path cd__read_path ct__read_path), sl__read_path⟩) (c__read_path : PySem.W.codeIn K cd__read_path "_read_path" = true) (k__read_path : PySem.W.keepIn K (.ref f__read_path) = true)
    (a__read_goods : PySem.W.nsIn K mainGlobals "_read_goods" = some (some (.ref f__read_goods))) (l__read_goods : K.lookup f__read_goods = some ⟨oc__read_goods, od__read_goods, .func (PySem.W.fnOf "_read_goods" "_read_goods" (defArgs s__read_goods) (defBody s__read_goods) (defScope s__read_goods) .none kV__read_goods dc__read_goods pm__read_goods an__read_goods cd__read_goods ct__read_goods), sl__read_goods⟩) (c__read_goods : PySem.W.codeIn K cd__read_goods "_read_goods" = true) (k__read_goods : PySem.W.keepIn K (.ref f__read_goods) = true)
    (a__read_moment : PySem.W.nsIn K mainGlobals "_read_moment" = some (some (.ref f__read_moment))) (l__read_moment : K.lookup f__read_moment = some ⟨oc__read_moment, od__read_moment, .func (PySem.W.fnOf "_read_moment" "_read_moment" (defArgs s__read_moment) (defBody s__read_moment) (defScope s__read_moment) .none kV__read_moment dc__read_moment pm__read_moment an__read_moment cd__read_moment ct__read_moment), sl__read_moment⟩) (c__read_moment : PySem.W.codeIn K cd__read_moment "_read_moment" = true) (k__read_moment : PySem.W.keepIn K (.ref f__read_moment) = true)
    (a__check_order : PySem.W.nsIn K mainGlobals "_check_order" = some (some (.ref f__check_order))) (l__check_order : K.lookup f__check_order = some ⟨oc__check_order, od__check_order, .func (PySem.W.fnOf "_check_order" "_check_order" (defArgs s__check_order) (defBody s__check_order) (defScope s__check_order) .none kV__check_order dc__check_order pm__check_order an__check_order cd__check_order ct__check_order), sl__check_order⟩) (c__check_order : PySem.W.codeIn K cd__check_order "_check_order" = true) (k__check_order : PySem.W.keepIn K (.ref f__check_order) = true)
    (a__tree : PySem.W.nsIn K mainGlobals "_tree" = some (some (.ref f__tree))) (l__tree : K.lookup f__tree = some ⟨oc__tree, od__tree, .func (PySem.W.fnOf "_tree" "_tree" (defArgs s__tree) (defBody s__tree) (defScope s__tree) .none kV__tree dc__tree pm__tree an__tree cd__tree ct__tree), sl__tree⟩) (c__tree : PySem.W.codeIn K cd__tree "_tree" = true) (k__tree : PySem.W.keepIn K (.ref f__tree) = true)
    (a__law_begin : PySem.W.nsIn K mainGlobals "_law_begin" = some (some (.ref f__law_begin))) (l__law_begin : K.lookup f__law_begin = some ⟨oc__law_begin, od__law_begin, .func (PySem.W.fnOf "_law_begin" "_law_begin" (defArgs s__law_begin) (defBody s__law_begin) (defScope s__law_begin) .none kV__law_begin dc__law_begin pm__law_begin an__law_begin cd__law_begin ct__law_begin), sl__law_begin⟩) (c__law_begin : PySem.W.codeIn K cd__law_begin "_law_begin" = true) (k__law_begin : PySem.W.keepIn K (.ref f__law_begin) = true)
    (a__law_take : PySem.W.nsIn K mainGlobals "_law_take" = some (some (.ref f__law_take))) (l__law_take : K.lookup f__law_take = some ⟨oc__law_take, od__law_take, .func (PySem.W.fnOf "_law_take" "_law_take" (defArgs s__law_take) (defBody s__law_take) (defScope s__law_take) .none kV__law_take dc__law_take pm__law_take an__law_take cd__law_take ct__law_take), sl__law_take⟩) (c__law_take : PySem.W.codeIn K cd__law_take "_law_take" = true) (k__law_take : PySem.W.keepIn K (.ref f__law_take) = true)
    (a__law_gcd : PySem.W.nsIn K mainGlobals "_law_gcd" = some (some (.ref f__law_gcd))) (l__law_gcd : K.lookup f__law_gcd = some ⟨oc__law_gcd, od__law_gcd, .func (PySem.W.fnOf "_law_gcd" "_law_gcd" (defArgs s__law_gcd) (defBody s__law_gcd) (defScope s__law_gcd) .none kV__law_gcd dc__law_gcd pm__law_gcd an__law_gcd cd__law_gcd ct__law_gcd), sl__law_gcd⟩) (c__law_gcd : PySem.W.codeIn K cd__law_gcd "_law_gcd" = true) (k__law_gcd : PySem.W.keepIn K (.ref f__law_gcd) = true)
    (a__law_f : PySem.W.nsIn K mainGlobals "_law_f" = some (some (.ref f__law_f))) (l__law_f : K.lookup f__law_f = some ⟨oc__law_f, od__law_f, .func (PySem.W.fnOf "_law_f" "_law_f" (defArgs s__law_f) (defBody s__law_f) (defScope s__law_f) .none kV__law_f dc__law_f pm__law_f an__law_f cd__law_f ct__law_f), sl__law_f⟩) (c__law_f : PySem.W.codeIn K cd__law_f "_law_f" = true) (k__law_f : PySem.W.keepIn K (.ref f__law_f) = true)
    (a__law_plus : PySem.W.nsIn K mainGlobals "_law_plus" = some (some (.ref f__law_plus))) (l__law_plus : K.lookup f__law_plus = some ⟨oc__law_plus, od__law_plus, .func (PySem.W.fnOf "_law_plus" "_law_plus" (defArgs s__law_plus) (defBody s__law_plus) (defScope s__law_plus) .none kV__law_plus dc__law_plus pm__law_plus an__law_plus cd__law_plus ct__law_plus), sl__law_plus⟩) (c__law_plus : PySem.W.codeIn K cd__law_plus "_law_plus" = true) (k__law_plus : PySem.W.keepIn K (.ref f__law_plus) = true)
    (a__law_minus : PySem.W.nsIn K mainGlobals "_law_minus" = some (some (.ref f__law_minus))) (l__law_minus : K.lookup f__law_minus = some ⟨oc__law_minus, od__law_minus, .func (PySem.W.fnOf "_law_minus" "_law_minus" (defArgs s__law_minus) (defBody s__law_minus) (defScope s__law_minus) .none kV__law_minus dc__law_minus pm__law_minus an__law_minus cd__law_minus ct__law_minus), sl__law_minus⟩) (c__law_minus : PySem.W.codeIn K cd__law_minus "_law_minus" = true) (k__law_minus : PySem.W.keepIn K (.ref f__law_minus) = true)
    (a__law_times : PySem.W.nsIn K mainGlobals "_law_times" = some (some (.ref f__law_times))) (l__law_times : K.lookup f__law_times = some ⟨oc__law_times, od__law_times, .func (PySem.W.fnOf "_law_times" "_law_times" (defArgs s__law_times) (defBody s__law_times) (defScope s__law_times) .none kV__law_times dc__law_times pm__law_times an__law_times cd__law_times ct__law_times), sl__law_times⟩) (c__law_times : PySem.W.codeIn K cd__law_times "_law_times" = true) (k__law_times : PySem.W.keepIn K (.ref f__law_times) = true)
    (a__law_spread : PySem.W.nsIn K mainGlobals "_law_spread" = some (some (.ref f__law_spread))) (l__law_spread : K.lookup f__law_spread = some ⟨oc__law_spread, od__law_spread, .func (PySem.W.fnOf "_law_spread" "_law_spread" (defArgs s__law_spread) (defBody s__law_spread) (defScope s__law_spread) .none kV__law_spread dc__law_spread pm__law_spread an__law_spread cd__law_spread ct__law_spread), sl__law_spread⟩) (c__law_spread : PySem.W.codeIn K cd__law_spread "_law_spread" = true) (k__law_spread : PySem.W.keepIn K (.ref f__law_spread) = true)
    (a__law_node : PySem.W.nsIn K mainGlobals "_law_node" = some (some (.ref f__law_node))) (l__law_node : K.lookup f__law_node = some ⟨oc__law_node, od__law_node, .func (PySem.W.fnOf "_law_node" "_law_node" (defArgs s__law_node) (defBody s__law_node) (defScope s__law_node) .none kV__law_node dc__law_node pm__law_node an__law_node cd__law_node ct__law_node), sl__law_node⟩) (c__law_node : PySem.W.codeIn K cd__law_node "_law_node" = true) (k__law_node : PySem.W.keepIn K (.ref f__law_node) = true)
    (a__law_market : PySem.W.nsIn K mainGlobals "_law_market" = some (some (.ref f__law_market))) (l__law_market : K.lookup f__law_market = some ⟨oc__law_market, od__law_market, .func (PySem.W.fnOf "_law_market" "_law_market" (defArgs s__law_market) (defBody s__law_market) (defScope s__law_market) .none kV__law_market dc__law_market pm__law_market an__law_market cd__law_market ct__law_market), sl__law_market⟩) (c__law_market : PySem.W.codeIn K cd__law_market "_law_market" = true) (k__law_market : PySem.W.keepIn K (.ref f__law_market) = true)
    (a__law_nodes : PySem.W.nsIn K mainGlobals "_law_nodes" = some (some (.ref f__law_nodes))) (l__law_nodes : K.lookup f__law_nodes = some ⟨oc__law_nodes, od__law_nodes, .func (PySem.W.fnOf "_law_nodes" "_law_nodes" (defArgs s__law_nodes) (defBody s__law_nodes) (defScope s__law_nodes) .none kV__law_nodes dc__law_nodes pm__law_nodes an__law_nodes cd__law_nodes ct__law_nodes), sl__law_nodes⟩) (c__law_nodes : PySem.W.codeIn K cd__law_nodes "_law_nodes" = true) (k__law_nodes : PySem.W.keepIn K (.ref f__law_nodes) = true)
    (a__law_find : PySem.W.nsIn K mainGlobals "_law_find" = some (some (.ref f__law_find))) (l__law_find : K.lookup f__law_find = some ⟨oc__law_find, od__law_find, .func (PySem.W.fnOf "_law_find" "_law_find" (defArgs s__law_find) (defBody s__law_find) (defScope s__law_find) .none kV__law_find dc__law_find pm__law_find an__law_find cd__law_find ct__law_find), sl__law_find⟩) (c__law_find : PySem.W.codeIn K cd__law_find "_law_find" = true) (k__law_find : PySem.W.keepIn K (.ref f__law_find) = true)
    (a__law_word : PySem.W.nsIn K mainGlobals "_law_word" = some (some (.ref f__law_word))) (l__law_word : K.lookup f__law_word = some ⟨oc__law_word, od__law_word, .func (PySem.W.fnOf "_law_word" "_law_word" (defArgs s__law_word) (defBody s__law_word) (defScope s__law_word) .none kV__law_word dc__law_word pm__law_word an__law_word cd__law_word ct__law_word), sl__law_word⟩) (c__law_word : PySem.W.codeIn K cd__law_word "_law_word" = true) (k__law_word : PySem.W.keepIn K (.ref f__law_word) = true)
    (a__law_text : PySem.W.nsIn K mainGlobals "_law_text" = some (some (.ref f__law_text))) (l__law_text : K.lookup f__law_text = some ⟨oc__law_text, od__law_text, .func (PySem.W.fnOf "_law_text" "_law_text" (defArgs s__law_text) (defBody s__law_text) (defScope s__law_text) .none kV__law_text dc__law_text pm__law_text an__law_text cd__law_text ct__law_text), sl__law_text⟩) (c__law_text : PySem.W.codeIn K cd__law_text "_law_text" = true) (k__law_text : PySem.W.keepIn K (.ref f__law_text) = true)
    (a__law_told : PySem.W.nsIn K mainGlobals "_law_told" = some (some (.ref f__law_told))) (l__law_told : K.lookup f__law_told = some ⟨oc__law_told, od__law_told, .func (PySem.W.fnOf "_law_told" "_law_told" (defArgs s__law_told) (defBody s__law_told) (defScope s__law_told) .none kV__law_told dc__law_told pm__law_told an__law_told cd__law_told ct__law_told), sl__law_told⟩) (c__law_told : PySem.W.codeIn K cd__law_told "_law_told" = true) (k__law_told : PySem.W.keepIn K (.ref f__law_told) = true)
    (a__law_bent : PySem.W.nsIn K mainGlobals "_law_bent" = some (some (.ref f__law_bent))) (l__law_bent : K.lookup f__law_bent = some ⟨oc__law_bent, od__law_bent, .func (PySem.W.fnOf "_law_bent" "_law_bent" (defArgs s__law_bent) (defBody s__law_bent) (defScope s__law_bent) .none kV__law_bent dc__law_bent pm__law_bent an__law_bent cd__law_bent ct__law_bent), sl__law_bent⟩) (c__law_bent : PySem.W.codeIn K cd__law_bent "_law_bent" = true) (k__law_bent : PySem.W.keepIn K (.ref f__law_bent) = true)
    (a_law : PySem.W.nsIn K mainGlobals "law" = some (some (.ref f_law))) (l_law : K.lookup f_law = some ⟨oc_law, od_law, .func (PySem.W.fnOf "law" "law" (defArgs s_law) (defBody s_law) (defScope s_law) .none kV_law dc_law pm_law an_law cd_law ct_law), sl_law⟩) (c_law : PySem.W.codeIn K cd_law "law" = true) (k_law : PySem.W.keepIn K (.ref f_law) = true)
    (z_abs : PySem.W.nsIn K mainGlobals "abs" = some none)
    (z_divmod : PySem.W.nsIn K mainGlobals "divmod" = some none)
    (z_int : PySem.W.nsIn K mainGlobals "int" = some none)
    (z_isinstance : PySem.W.nsIn K mainGlobals "isinstance" = some none)
    (z_len : PySem.W.nsIn K mainGlobals "len" = some none)
    (z_list : PySem.W.nsIn K mainGlobals "list" = some none)
    (z_max : PySem.W.nsIn K mainGlobals "max" = some none)
    (z_min : PySem.W.nsIn K mainGlobals "min" = some none)
    (z_range : PySem.W.nsIn K mainGlobals "range" = some none)
    (z_reversed : PySem.W.nsIn K mainGlobals "reversed" = some none)
    (z_sorted : PySem.W.nsIn K mainGlobals "sorted" = some none)
    (z_str : PySem.W.nsIn K mainGlobals "str" = some none)
    (z_sum : PySem.W.nsIn K mainGlobals "sum" = some none)
    (z_tuple : PySem.W.nsIn K mainGlobals "tuple" = some none)
    (i_gcd : PySem.W.nsIn K mainGlobals "gcd" = some (some (.builtin "math.gcd")))
    (j_DIGIT_LIMIT : PySem.W.nsIn K mainGlobals "DIGIT_LIMIT" = some (some (.int 9 tk_DIGIT_LIMIT)))
    (j_TEXT_LIMIT : PySem.W.nsIn K mainGlobals "TEXT_LIMIT" = some (some (.int 1000 tk_TEXT_LIMIT)))
    (j_GOODS_LIMIT : PySem.W.nsIn K mainGlobals "GOODS_LIMIT" = some (some (.int 4 tk_GOODS_LIMIT)))
    (j_MOMENT_LIMIT : PySem.W.nsIn K mainGlobals "MOMENT_LIMIT" = some (some (.int 40 tk_MOMENT_LIMIT)))
    (j_TIME_LIMIT : PySem.W.nsIn K mainGlobals "TIME_LIMIT" = some (some (.int 5 tk_TIME_LIMIT)))
    (ca_MarketplaceError : PySem.W.nsIn K mainGlobals "MarketplaceError" = some (some (.ref C_MarketplaceError)))
    (cx_MarketplaceError : PySem.W.excIn K C_MarketplaceError [.type "ValueError", .type "Exception", .type "BaseException", .type "object"] "ValueError.__new__" = true)
    (ck_MarketplaceError : PySem.W.keepIn K (.ref C_MarketplaceError) = true) (cb_MarketplaceError : PySem.W.subIn K (.ref C_MarketplaceError) (.type "BaseException") = some true) (ct0_MarketplaceError : PySem.W.typeIn K (.ref C_MarketplaceError) = some (.type "type")) (ch_MarketplaceError : PySem.W.hasDictIn K C_MarketplaceError = true)
    (e1_MarketplaceError : PySem.W.findIn K (.ref C_MarketplaceError) "__getattribute__" = some (some (.builtin "BaseException.__getattribute__"))) (e2_MarketplaceError : PySem.W.findIn K (.ref C_MarketplaceError) "__getattr__" = some none) (e3_MarketplaceError : PySem.W.findIn K (.ref C_MarketplaceError) "__class__" = some (some (.builtin "object.__class__"))) (e4_MarketplaceError : PySem.W.mroIn K C_MarketplaceError (.type "object") = some true)
    (ca_ZeroDenominator : PySem.W.nsIn K mainGlobals "ZeroDenominator" = some (some (.ref C_ZeroDenominator)))
    (cx_ZeroDenominator : PySem.W.excIn K C_ZeroDenominator [.type "ValueError", .type "Exception", .type "BaseException", .type "object"] "ValueError.__new__" = true)
    (ck_ZeroDenominator : PySem.W.keepIn K (.ref C_ZeroDenominator) = true) (cb_ZeroDenominator : PySem.W.subIn K (.ref C_ZeroDenominator) (.type "BaseException") = some true) (ct0_ZeroDenominator : PySem.W.typeIn K (.ref C_ZeroDenominator) = some (.type "type")) (ch_ZeroDenominator : PySem.W.hasDictIn K C_ZeroDenominator = true)
    (e1_ZeroDenominator : PySem.W.findIn K (.ref C_ZeroDenominator) "__getattribute__" = some (some (.builtin "BaseException.__getattribute__"))) (e2_ZeroDenominator : PySem.W.findIn K (.ref C_ZeroDenominator) "__getattr__" = some none) (e3_ZeroDenominator : PySem.W.findIn K (.ref C_ZeroDenominator) "__class__" = some (some (.builtin "object.__class__"))) (e4_ZeroDenominator : PySem.W.mroIn K C_ZeroDenominator (.type "object") = some true)
    (ca_TextError : PySem.W.nsIn K mainGlobals "TextError" = some (some (.ref C_TextError)))
    (cx_TextError : PySem.W.excIn K C_TextError [.type "ValueError", .type "Exception", .type "BaseException", .type "object"] "ValueError.__new__" = true)
    (ck_TextError : PySem.W.keepIn K (.ref C_TextError) = true) (cb_TextError : PySem.W.subIn K (.ref C_TextError) (.type "BaseException") = some true) (ct0_TextError : PySem.W.typeIn K (.ref C_TextError) = some (.type "type")) (ch_TextError : PySem.W.hasDictIn K C_TextError = true)
    (e1_TextError : PySem.W.findIn K (.ref C_TextError) "__getattribute__" = some (some (.builtin "BaseException.__getattribute__"))) (e2_TextError : PySem.W.findIn K (.ref C_TextError) "__getattr__" = some none) (e3_TextError : PySem.W.findIn K (.ref C_TextError) "__class__" = some (some (.builtin "object.__class__"))) (e4_TextError : PySem.W.mroIn K C_TextError (.type "object") = some true)
    (ca_MarketError : PySem.W.nsIn K mainGlobals "MarketError" = some (some (.ref C_MarketError)))
    (cx_MarketError : PySem.W.excIn K C_MarketError [.type "ValueError", .type "Exception", .type "BaseException", .type "object"] "ValueError.__new__" = true)
    (ck_MarketError : PySem.W.keepIn K (.ref C_MarketError) = true) (cb_MarketError : PySem.W.subIn K (.ref C_MarketError) (.type "BaseException") = some true) (ct0_MarketError : PySem.W.typeIn K (.ref C_MarketError) = some (.type "type")) (ch_MarketError : PySem.W.hasDictIn K C_MarketError = true)
    (e1_MarketError : PySem.W.findIn K (.ref C_MarketError) "__getattribute__" = some (some (.builtin "BaseException.__getattribute__"))) (e2_MarketError : PySem.W.findIn K (.ref C_MarketError) "__getattr__" = some none) (e3_MarketError : PySem.W.findIn K (.ref C_MarketError) "__class__" = some (some (.builtin "object.__class__"))) (e4_MarketError : PySem.W.mroIn K C_MarketError (.type "object") = some true)
    (ca_TooLarge : PySem.W.nsIn K mainGlobals "TooLarge" = some (some (.ref C_TooLarge)))
    (cx_TooLarge : PySem.W.excIn K C_TooLarge [.type "ValueError", .type "Exception", .type "BaseException", .type "object"] "ValueError.__new__" = true)
    (ck_TooLarge : PySem.W.keepIn K (.ref C_TooLarge) = true) (cb_TooLarge : PySem.W.subIn K (.ref C_TooLarge) (.type "BaseException") = some true) (ct0_TooLarge : PySem.W.typeIn K (.ref C_TooLarge) = some (.type "type")) (ch_TooLarge : PySem.W.hasDictIn K C_TooLarge = true)
    (e1_TooLarge : PySem.W.findIn K (.ref C_TooLarge) "__getattribute__" = some (some (.builtin "BaseException.__getattribute__"))) (e2_TooLarge : PySem.W.findIn K (.ref C_TooLarge) "__getattr__" = some none) (e3_TooLarge : PySem.W.findIn K (.ref C_TooLarge) "__class__" = some (some (.builtin "object.__class__"))) (e4_TooLarge : PySem.W.mroIn K C_TooLarge (.type "object") = some true)
    (e5 : PySem.W.specialIn K (.builtin "object.__class__") "__get__" = some (some (.builtin "getset_descriptor.__get__"))) (e6 : PySem.W.takesIn K (.builtin "object.__class__") = some true)
    (s_MarketError_MarketplaceError : PySem.W.subIn K (.ref C_MarketError) (.ref C_MarketplaceError) = some true)
    (s_MarketError_TextError : PySem.W.subIn K (.ref C_MarketError) (.ref C_TextError) = some false)
    (s_MarketError_MarketError : PySem.W.subIn K (.ref C_MarketError) (.ref C_MarketError) = some true)
    (s_TooLarge_MarketplaceError : PySem.W.subIn K (.ref C_TooLarge) (.ref C_MarketplaceError) = some true)
    (s_TooLarge_TextError : PySem.W.subIn K (.ref C_TooLarge) (.ref C_TextError) = some false)
    (s_TooLarge_TooLarge : PySem.W.subIn K (.ref C_TooLarge) (.ref C_TooLarge) = some true)
    (s_TextError_MarketplaceError : PySem.W.subIn K (.ref C_TextError) (.ref C_MarketplaceError) = some true)
    (s_TextError_TextError : PySem.W.subIn K (.ref C_TextError) (.ref C_TextError) = some true)
    (nd0 : PySem.W.nsIn K cStatics "sys.int_max_str_digits" = some none)
    : LamX.LawAtS l w K L2.CX0 9 63 "script" mg fa h := by
  have e := hfa.symm.trans (PySem.W.mg_of X G a_law)
  cases e
  have F_is_natural := fun_mk (st := s_is_natural) l_is_natural c_is_natural k_is_natural
  have F_read_natural := fun_mk (st := s_read_natural) l_read_natural c_read_natural k_read_natural
  have F_write_integer := fun_mk (st := s_write_integer) l_write_integer c_write_integer k_write_integer
  have F_fraction := fun_mk (st := s_fraction) l_fraction c_fraction k_fraction
  have F_compare := fun_mk (st := s_compare) l_compare c_compare k_compare
  have F_write_fraction := fun_mk (st := s_write_fraction) l_write_fraction c_write_fraction k_write_fraction
  have F_read_fraction := fun_mk (st := s_read_fraction) l_read_fraction c_read_fraction k_read_fraction
  have F_check_market := fun_mk (st := s_check_market) l_check_market c_check_market k_check_market
  have F__check_prices := fun_mk (st := s__check_prices) l__check_prices c__check_prices k__check_prices
  have F_walk := fun_mk (st := s_walk) l_walk c_walk k_walk
  have F_write_market := fun_mk (st := s_write_market) l_write_market c_write_market k_write_market
  have F_read_market := fun_mk (st := s_read_market) l_read_market c_read_market k_read_market
  have F__write_path := fun_mk (st := s__write_path) l__write_path c__write_path k__write_path
  have F__read_path := fun_mk (st := s__read_path) l__read_path c__read_path k__read_path
  have F__read_goods := fun_mk (st := s__read_goods) l__read_goods c__read_goods k__read_goods
  have F__read_moment := fun_mk (st := s__read_moment) l__read_moment c__read_moment k__read_moment
  have F__check_order := fun_mk (st := s__check_order) l__check_order c__check_order k__check_order
  have F__tree := fun_mk (st := s__tree) l__tree c__tree k__tree
  have F__law_begin := fun_mk (st := s__law_begin) l__law_begin c__law_begin k__law_begin
  have F__law_take := fun_mk (st := s__law_take) l__law_take c__law_take k__law_take
  have F__law_gcd := fun_mk (st := s__law_gcd) l__law_gcd c__law_gcd k__law_gcd
  have F__law_f := fun_mk (st := s__law_f) l__law_f c__law_f k__law_f
  have F__law_plus := fun_mk (st := s__law_plus) l__law_plus c__law_plus k__law_plus
  have F__law_minus := fun_mk (st := s__law_minus) l__law_minus c__law_minus k__law_minus
  have F__law_times := fun_mk (st := s__law_times) l__law_times c__law_times k__law_times
  have F__law_spread := fun_mk (st := s__law_spread) l__law_spread c__law_spread k__law_spread
  have F__law_node := fun_mk (st := s__law_node) l__law_node c__law_node k__law_node
  have F__law_market := fun_mk (st := s__law_market) l__law_market c__law_market k__law_market
  have F__law_nodes := fun_mk (st := s__law_nodes) l__law_nodes c__law_nodes k__law_nodes
  have F__law_find := fun_mk (st := s__law_find) l__law_find c__law_find k__law_find
  have F__law_word := fun_mk (st := s__law_word) l__law_word c__law_word k__law_word
  have F__law_text := fun_mk (st := s__law_text) l__law_text c__law_text k__law_text
  have F__law_told := fun_mk (st := s__law_told) l__law_told c__law_told k__law_told
  have F__law_bent := fun_mk (st := s__law_bent) l__law_bent c__law_bent k__law_bent
  have F_law := fun_mk (st := s_law) l_law c_law k_law
  have T : Top K mg := {
    a_is_natural := f_is_natural, d_is_natural := _, is_natural_F := F_is_natural, is_natural_b := F_is_natural.binds (ps := ["text"]) fun _ _ _ _ _ _ us hl => match us, hl with | [_], _ => rfl, g_is_natural := PySem.W.mg_of X G a_is_natural,
    a_read_natural := f_read_natural, d_read_natural := _, read_natural_F := F_read_natural, read_natural_b := F_read_natural.binds (ps := ["text"]) fun _ _ _ _ _ _ us hl => match us, hl with | [_], _ => rfl, g_read_natural := PySem.W.mg_of X G a_read_natural,
    a_write_integer := f_write_integer, d_write_integer := _, write_integer_F := F_write_integer, write_integer_b := F_write_integer.binds (ps := ["number"]) fun _ _ _ _ _ _ us hl => match us, hl with | [_], _ => rfl, g_write_integer := PySem.W.mg_of X G a_write_integer,
    a_fraction := f_fraction, d_fraction := _, fraction_F := F_fraction, fraction_b := F_fraction.binds (ps := ["numerator", "denominator"]) fun _ _ _ _ _ _ us hl => match us, hl with | [_, _], _ => rfl, g_fraction := PySem.W.mg_of X G a_fraction,
    a_compare := f_compare, d_compare := _, compare_F := F_compare, compare_b := F_compare.binds (ps := ["a", "b"]) fun _ _ _ _ _ _ us hl => match us, hl with | [_, _], _ => rfl, g_compare := PySem.W.mg_of X G a_compare,
    a_write_fraction := f_write_fraction, d_write_fraction := _, write_fraction_F := F_write_fraction, write_fraction_b := F_write_fraction.binds (ps := ["a"]) fun _ _ _ _ _ _ us hl => match us, hl with | [_], _ => rfl, g_write_fraction := PySem.W.mg_of X G a_write_fraction,
    a_read_fraction := f_read_fraction, d_read_fraction := _, read_fraction_F := F_read_fraction, read_fraction_b := F_read_fraction.binds (ps := ["text"]) fun _ _ _ _ _ _ us hl => match us, hl with | [_], _ => rfl, g_read_fraction := PySem.W.mg_of X G a_read_fraction,
    a_check_market := f_check_market, d_check_market := _, check_market_F := F_check_market, check_market_b := F_check_market.binds (ps := ["market"]) fun _ _ _ _ _ _ us hl => match us, hl with | [_], _ => rfl, g_check_market := PySem.W.mg_of X G a_check_market,
    a__check_prices := f__check_prices, d__check_prices := _, _check_prices_F := F__check_prices, _check_prices_b := F__check_prices.binds (ps := ["goods", "prices"]) fun _ _ _ _ _ _ us hl => match us, hl with | [_, _], _ => rfl, g__check_prices := PySem.W.mg_of X G a__check_prices,
    a_walk := f_walk, d_walk := _, walk_F := F_walk, walk_b := F_walk.binds (ps := ["market"]) fun _ _ _ _ _ _ us hl => match us, hl with | [_], _ => rfl, g_walk := PySem.W.mg_of X G a_walk,
    a_write_market := f_write_market, d_write_market := _, write_market_F := F_write_market, write_market_b := F_write_market.binds (ps := ["market"]) fun _ _ _ _ _ _ us hl => match us, hl with | [_], _ => rfl, g_write_market := PySem.W.mg_of X G a_write_market,
    a_read_market := f_read_market, d_read_market := _, read_market_F := F_read_market, read_market_b := F_read_market.binds (ps := ["text"]) fun _ _ _ _ _ _ us hl => match us, hl with | [_], _ => rfl, g_read_market := PySem.W.mg_of X G a_read_market,
    a__write_path := f__write_path, d__write_path := _, _write_path_F := F__write_path, _write_path_b := F__write_path.binds (ps := ["path"]) fun _ _ _ _ _ _ us hl => match us, hl with | [_], _ => rfl, g__write_path := PySem.W.mg_of X G a__write_path,
    a__read_path := f__read_path, d__read_path := _, _read_path_F := F__read_path, _read_path_b := F__read_path.binds (ps := ["word"]) fun _ _ _ _ _ _ us hl => match us, hl with | [_], _ => rfl, g__read_path := PySem.W.mg_of X G a__read_path,
    a__read_goods := f__read_goods, d__read_goods := _, _read_goods_F := F__read_goods, _read_goods_b := F__read_goods.binds (ps := ["line"]) fun _ _ _ _ _ _ us hl => match us, hl with | [_], _ => rfl, g__read_goods := PySem.W.mg_of X G a__read_goods,
    a__read_moment := f__read_moment, d__read_moment := _, _read_moment_F := F__read_moment, _read_moment_b := F__read_moment.binds (ps := ["goods", "line"]) fun _ _ _ _ _ _ us hl => match us, hl with | [_, _], _ => rfl, g__read_moment := PySem.W.mg_of X G a__read_moment,
    a__check_order := f__check_order, d__check_order := _, _check_order_F := F__check_order, _check_order_b := F__check_order.binds (ps := ["paths"]) fun _ _ _ _ _ _ us hl => match us, hl with | [_], _ => rfl, g__check_order := PySem.W.mg_of X G a__check_order,
    a__tree := f__tree, d__tree := _, _tree_F := F__tree, _tree_b := F__tree.binds (ps := ["told"]) fun _ _ _ _ _ _ us hl => match us, hl with | [_], _ => rfl, g__tree := PySem.W.mg_of X G a__tree,
    a__law_begin := f__law_begin, d__law_begin := _, _law_begin_F := F__law_begin, _law_begin_b := F__law_begin.binds (ps := ["script"]) fun _ _ _ _ _ _ us hl => match us, hl with | [_], _ => rfl, g__law_begin := PySem.W.mg_of X G a__law_begin,
    a__law_take := f__law_take, d__law_take := _, _law_take_F := F__law_take, _law_take_b := F__law_take.binds (ps := ["d", "many"]) fun _ _ _ _ _ _ us hl => match us, hl with | [_, _], _ => rfl, g__law_take := PySem.W.mg_of X G a__law_take,
    a__law_gcd := f__law_gcd, d__law_gcd := _, _law_gcd_F := F__law_gcd, _law_gcd_b := F__law_gcd.binds (ps := ["a", "b"]) fun _ _ _ _ _ _ us hl => match us, hl with | [_, _], _ => rfl, g__law_gcd := PySem.W.mg_of X G a__law_gcd,
    a__law_f := f__law_f, d__law_f := _, _law_f_F := F__law_f, _law_f_b := F__law_f.binds (ps := ["a", "b"]) fun _ _ _ _ _ _ us hl => match us, hl with | [_, _], _ => rfl, g__law_f := PySem.W.mg_of X G a__law_f,
    a__law_plus := f__law_plus, d__law_plus := _, _law_plus_F := F__law_plus, _law_plus_b := F__law_plus.binds (ps := ["a", "b"]) fun _ _ _ _ _ _ us hl => match us, hl with | [_, _], _ => rfl, g__law_plus := PySem.W.mg_of X G a__law_plus,
    a__law_minus := f__law_minus, d__law_minus := _, _law_minus_F := F__law_minus, _law_minus_b := F__law_minus.binds (ps := ["a", "b"]) fun _ _ _ _ _ _ us hl => match us, hl with | [_, _], _ => rfl, g__law_minus := PySem.W.mg_of X G a__law_minus,
    a__law_times := f__law_times, d__law_times := _, _law_times_F := F__law_times, _law_times_b := F__law_times.binds (ps := ["a", "b"]) fun _ _ _ _ _ _ us hl => match us, hl with | [_, _], _ => rfl, g__law_times := PySem.W.mg_of X G a__law_times,
    a__law_spread := f__law_spread, d__law_spread := _, _law_spread_F := F__law_spread, _law_spread_b := F__law_spread.binds (ps := ["d", "mid"]) fun _ _ _ _ _ _ us hl => match us, hl with | [_, _], _ => rfl, g__law_spread := PySem.W.mg_of X G a__law_spread,
    a__law_node := f__law_node, d__law_node := _, _law_node_F := F__law_node, _law_node_b := F__law_node.binds (ps := ["d", "goods", "time", "last", "wild"]) fun _ _ _ _ _ _ us hl => match us, hl with | [_, _, _, _, _], _ => rfl, g__law_node := PySem.W.mg_of X G a__law_node,
    a__law_market := f__law_market, d__law_market := _, _law_market_F := F__law_market, _law_market_b := F__law_market.binds (ps := ["d", "most"]) fun _ _ _ _ _ _ us hl => match us, hl with | [_, _], _ => rfl, g__law_market := PySem.W.mg_of X G a__law_market,
    a__law_nodes := f__law_nodes, d__law_nodes := _, _law_nodes_F := F__law_nodes, _law_nodes_b := F__law_nodes.binds (ps := ["market"]) fun _ _ _ _ _ _ us hl => match us, hl with | [_], _ => rfl, g__law_nodes := PySem.W.mg_of X G a__law_nodes,
    a__law_find := f__law_find, d__law_find := _, _law_find_F := F__law_find, _law_find_b := F__law_find.binds (ps := ["market", "path"]) fun _ _ _ _ _ _ us hl => match us, hl with | [_, _], _ => rfl, g__law_find := PySem.W.mg_of X G a__law_find,
    a__law_word := f__law_word, d__law_word := _, _law_word_F := F__law_word, _law_word_b := F__law_word.binds (ps := ["a"]) fun _ _ _ _ _ _ us hl => match us, hl with | [_], _ => rfl, g__law_word := PySem.W.mg_of X G a__law_word,
    a__law_text := f__law_text, d__law_text := _, _law_text_F := F__law_text, _law_text_b := F__law_text.binds (ps := ["market"]) fun _ _ _ _ _ _ us hl => match us, hl with | [_], _ => rfl, g__law_text := PySem.W.mg_of X G a__law_text,
    a__law_told := f__law_told, d__law_told := _, _law_told_F := F__law_told, _law_told_b := F__law_told.binds (ps := ["text"]) fun _ _ _ _ _ _ us hl => match us, hl with | [_], _ => rfl, g__law_told := PySem.W.mg_of X G a__law_told,
    a__law_bent := f__law_bent, d__law_bent := _, _law_bent_F := F__law_bent, _law_bent_b := F__law_bent.binds (ps := ["d", "text"]) fun _ _ _ _ _ _ us hl => match us, hl with | [_, _], _ => rfl, g__law_bent := PySem.W.mg_of X G a__law_bent,
    n_abs := PySem.W.mg_none_of X G z_abs,
    n_divmod := PySem.W.mg_none_of X G z_divmod,
    n_int := PySem.W.mg_none_of X G z_int,
    n_isinstance := PySem.W.mg_none_of X G z_isinstance,
    n_len := PySem.W.mg_none_of X G z_len,
    n_list := PySem.W.mg_none_of X G z_list,
    n_max := PySem.W.mg_none_of X G z_max,
    n_min := PySem.W.mg_none_of X G z_min,
    n_range := PySem.W.mg_none_of X G z_range,
    n_reversed := PySem.W.mg_none_of X G z_reversed,
    n_sorted := PySem.W.mg_none_of X G z_sorted,
    n_str := PySem.W.mg_none_of X G z_str,
    n_sum := PySem.W.mg_none_of X G z_sum,
    n_tuple := PySem.W.mg_none_of X G z_tuple,
    g_gcd := PySem.W.mg_of X G i_gcd,
    t_DIGIT_LIMIT := tk_DIGIT_LIMIT, g_DIGIT_LIMIT := PySem.W.mg_of X G j_DIGIT_LIMIT,
    t_TEXT_LIMIT := tk_TEXT_LIMIT, g_TEXT_LIMIT := PySem.W.mg_of X G j_TEXT_LIMIT,
    t_GOODS_LIMIT := tk_GOODS_LIMIT, g_GOODS_LIMIT := PySem.W.mg_of X G j_GOODS_LIMIT,
    t_MOMENT_LIMIT := tk_MOMENT_LIMIT, g_MOMENT_LIMIT := PySem.W.mg_of X G j_MOMENT_LIMIT,
    t_TIME_LIMIT := tk_TIME_LIMIT, g_TIME_LIMIT := PySem.W.mg_of X G j_TIME_LIMIT,
    c_MarketplaceError := C_MarketplaceError, g_MarketplaceError := PySem.W.mg_of X G ca_MarketplaceError, x_MarketplaceError := cx_MarketplaceError, k_MarketplaceError := ck_MarketplaceError, b_MarketplaceError := cb_MarketplaceError, t_MarketplaceError := ct0_MarketplaceError, h_MarketplaceError := ch_MarketplaceError, e_MarketplaceError := ⟨e1_MarketplaceError, e2_MarketplaceError, cb_MarketplaceError, ch_MarketplaceError, e3_MarketplaceError, e5, e6, e4_MarketplaceError⟩,
    c_ZeroDenominator := C_ZeroDenominator, g_ZeroDenominator := PySem.W.mg_of X G ca_ZeroDenominator, x_ZeroDenominator := cx_ZeroDenominator, k_ZeroDenominator := ck_ZeroDenominator, b_ZeroDenominator := cb_ZeroDenominator, t_ZeroDenominator := ct0_ZeroDenominator, h_ZeroDenominator := ch_ZeroDenominator, e_ZeroDenominator := ⟨e1_ZeroDenominator, e2_ZeroDenominator, cb_ZeroDenominator, ch_ZeroDenominator, e3_ZeroDenominator, e5, e6, e4_ZeroDenominator⟩,
    c_TextError := C_TextError, g_TextError := PySem.W.mg_of X G ca_TextError, x_TextError := cx_TextError, k_TextError := ck_TextError, b_TextError := cb_TextError, t_TextError := ct0_TextError, h_TextError := ch_TextError, e_TextError := ⟨e1_TextError, e2_TextError, cb_TextError, ch_TextError, e3_TextError, e5, e6, e4_TextError⟩,
    c_MarketError := C_MarketError, g_MarketError := PySem.W.mg_of X G ca_MarketError, x_MarketError := cx_MarketError, k_MarketError := ck_MarketError, b_MarketError := cb_MarketError, t_MarketError := ct0_MarketError, h_MarketError := ch_MarketError, e_MarketError := ⟨e1_MarketError, e2_MarketError, cb_MarketError, ch_MarketError, e3_MarketError, e5, e6, e4_MarketError⟩,
    c_TooLarge := C_TooLarge, g_TooLarge := PySem.W.mg_of X G ca_TooLarge, x_TooLarge := cx_TooLarge, k_TooLarge := ck_TooLarge, b_TooLarge := cb_TooLarge, t_TooLarge := ct0_TooLarge, h_TooLarge := ch_TooLarge, e_TooLarge := ⟨e1_TooLarge, e2_TooLarge, cb_TooLarge, ch_TooLarge, e3_TooLarge, e5, e6, e4_TooLarge⟩,
    s_MarketError_MarketplaceError := s_MarketError_MarketplaceError,
    s_MarketError_TextError := s_MarketError_TextError,
    s_MarketError_MarketError := s_MarketError_MarketError,
    s_TooLarge_MarketplaceError := s_TooLarge_MarketplaceError,
    s_TooLarge_TextError := s_TooLarge_TextError,
    s_TooLarge_TooLarge := s_TooLarge_TooLarge,
    s_TextError_MarketplaceError := s_TextError_MarketplaceError,
    s_TextError_TextError := s_TextError_TextError }
  exact ⟨_, [], sp_law K, fun p hp => (nomatch hp), fun p hp => (nomatch hp), fun p hp => (nomatch hp), fun s v => .of_eq rfl, fun H a ns hl _ ht hS => ⟨a, ns, rfl, hS, hl, fun _ => rfl⟩, fun base XB _ tb => ok_law T (nodig_base X XB hnd nd0) F_law⟩
end Nl

open PySem PySem.W PyProof.Rows
set_option maxHeartbeats 0 in
theorem PySem.Challenge.cw_nolunch_k05_texts_of_markets_holds : PySem.Challenge.rw_nolunch_k05_texts_of_markets.Holds := by
  w_on; o_law; k_head; (case hw => w_witness2)
  k_fill
  refine Nl.walk_ofTD (l := PySem.Challenge.rw_nolunch_k05_texts_of_markets) (n := 63) (k := 9) (x := "script") (CX := fun _ => L2.CX0) [] rfl (by decide) rfl ⟨rfl, by decide, by decide⟩ (fun y hy => (nomatch hy)) (fun w h Y => PySem.W.kIn_of Y) ?F (fun _ _ _ _ _ h => h)
  case F =>
    intro w mg fa h Y KX G hmg hnd tabs
    refine' Nl.all_mk KX G hmg hnd ?a_is_natural ?l_is_natural ?c_is_natural ?k_is_natural ?a_read_natural ?l_read_natural ?c_read_natural ?k_read_natural ?a_write_integer ?l_write_integer ?c_write_integer ?k_write_integer ?a_fraction ?l_fraction ?c_fraction ?k_fraction ?a_compare ?l_compare ?c_compare ?k_compare ?a_write_fraction ?l_write_fraction ?c_write_fraction ?k_write_fraction ?a_read_fraction ?l_read_fraction ?c_read_fraction ?k_read_fraction ?a_check_market ?l_check_market ?c_check_market ?k_check_market ?a__check_prices ?l__check_prices ?c__check_prices ?k__check_prices ?a_walk ?l_walk ?c_walk ?k_walk ?a_write_market ?l_write_market ?c_write_market ?k_write_market ?a_read_market ?l_read_market ?c_read_market ?k_read_market ?a__write_path ?l__write_path ?c__write_path ?k__write_path ?a__read_path ?l__read_path ?c__read_path ?k__read_path ?a__read_goods ?l__read_goods ?c__read_goods ?k__read_goods ?a__read_moment ?l__read_moment ?c__read_moment ?k__read_moment ?a__check_order ?l__check_order ?c__check_order ?k__check_order ?a__tree ?l__tree ?c__tree ?k__tree ?a__law_begin ?l__law_begin ?c__law_begin ?k__law_begin ?a__law_take ?l__law_take ?c__law_take ?k__law_take ?a__law_gcd ?l__law_gcd ?c__law_gcd ?k__law_gcd ?a__law_f ?l__law_f ?c__law_f ?k__law_f ?a__law_plus ?l__law_plus ?c__law_plus ?k__law_plus ?a__law_minus ?l__law_minus ?c__law_minus ?k__law_minus ?a__law_times ?l__law_times ?c__law_times ?k__law_times ?a__law_spread ?l__law_spread ?c__law_spread ?k__law_spread ?a__law_node ?l__law_node ?c__law_node ?k__law_node ?a__law_market ?l__law_market ?c__law_market ?k__law_market ?a__law_nodes ?l__law_nodes ?c__law_nodes ?k__law_nodes ?a__law_find ?l__law_find ?c__law_find ?k__law_find ?a__law_word ?l__law_word ?c__law_word ?k__law_word ?a__law_text ?l__law_text ?c__law_text ?k__law_text ?a__law_told ?l__law_told ?c__law_told ?k__law_told ?a__law_bent ?l__law_bent ?c__law_bent ?k__law_bent ?a_law ?l_law ?c_law ?k_law ?z_abs ?z_divmod ?z_int ?z_isinstance ?z_len ?z_list ?z_max ?z_min ?z_range ?z_reversed ?z_sorted ?z_str ?z_sum ?z_tuple ?i_gcd ?j_DIGIT_LIMIT ?j_TEXT_LIMIT ?j_GOODS_LIMIT ?j_MOMENT_LIMIT ?j_TIME_LIMIT ?ca_MarketplaceError ?cx_MarketplaceError ?ck_MarketplaceError ?cb_MarketplaceError ?ct0_MarketplaceError ?ch_MarketplaceError ?e1_MarketplaceError ?e2_MarketplaceError ?e3_MarketplaceError ?e4_MarketplaceError ?ca_ZeroDenominator ?cx_ZeroDenominator ?ck_ZeroDenominator ?cb_ZeroDenominator ?ct0_ZeroDenominator ?ch_ZeroDenominator ?e1_ZeroDenominator ?e2_ZeroDenominator ?e3_ZeroDenominator ?e4_ZeroDenominator ?ca_TextError ?cx_TextError ?ck_TextError ?cb_TextError ?ct0_TextError ?ch_TextError ?e1_TextError ?e2_TextError ?e3_TextError ?e4_TextError ?ca_MarketError ?cx_MarketError ?ck_MarketError ?cb_MarketError ?ct0_MarketError ?ch_MarketError ?e1_MarketError ?e2_MarketError ?e3_MarketError ?e4_MarketError ?ca_TooLarge ?cx_TooLarge ?ck_TooLarge ?cb_TooLarge ?ct0_TooLarge ?ch_TooLarge ?e1_TooLarge ?e2_TooLarge ?e3_TooLarge ?e4_TooLarge ?e5 ?e6 ?s_MarketError_MarketplaceError ?s_MarketError_TextError ?s_MarketError_MarketError ?s_TooLarge_MarketplaceError ?s_TooLarge_TextError ?s_TooLarge_TooLarge ?s_TextError_MarketplaceError ?s_TextError_TextError ?nd0
    (case a_is_natural => k_is); (case l_is_natural => k_is); (case c_is_natural => k_is); (case k_is_natural => k_is); (case a_read_natural => k_is); (case l_read_natural => k_is)
    (case c_read_natural => k_is); (case k_read_natural => k_is); (case a_write_integer => k_is); (case l_write_integer => k_is); (case c_write_integer => k_is); (case k_write_integer => k_is)
    (case a_fraction => k_is); (case l_fraction => k_is); (case c_fraction => k_is); (case k_fraction => k_is); (case a_compare => k_is); (case l_compare => k_is)
    (case c_compare => k_is); (case k_compare => k_is); (case a_write_fraction => k_is); (case l_write_fraction => k_is); (case c_write_fraction => k_is); (case k_write_fraction => k_is)
    (case a_read_fraction => k_is); (case l_read_fraction => k_is); (case c_read_fraction => k_is); (case k_read_fraction => k_is); (case a_check_market => k_is); (case l_check_market => k_is)
    (case c_check_market => k_is); (case k_check_market => k_is); (case a__check_prices => k_is); (case l__check_prices => k_is); (case c__check_prices => k_is); (case k__check_prices => k_is)
    (case a_walk => k_is); (case l_walk => k_is); (case c_walk => k_is); (case k_walk => k_is); (case a_write_market => k_is); (case l_write_market => k_is)
    (case c_write_market => k_is); (case k_write_market => k_is); (case a_read_market => k_is); (case l_read_market => k_is); (case c_read_market => k_is); (case k_read_market => k_is)
    (case a__write_path => k_is); (case l__write_path => k_is); (case c__write_path => k_is); (case k__write_path => k_is); (case a__read_path => k_is); (case l__read_path => k_is)
    (case c__read_path => k_is); (case k__read_path => k_is); (case a__read_goods => k_is); (case l__read_goods => k_is); (case c__read_goods => k_is); (case k__read_goods => k_is)
    (case a__read_moment => k_is); (case l__read_moment => k_is); (case c__read_moment => k_is); (case k__read_moment => k_is); (case a__check_order => k_is); (case l__check_order => k_is)
    (case c__check_order => k_is); (case k__check_order => k_is); (case a__tree => k_is); (case l__tree => k_is); (case c__tree => k_is); (case k__tree => k_is)
    (case a__law_begin => k_is); (case l__law_begin => k_is); (case c__law_begin => k_is); (case k__law_begin => k_is); (case a__law_take => k_is); (case l__law_take => k_is)
    (case c__law_take => k_is); (case k__law_take => k_is); (case a__law_gcd => k_is); (case l__law_gcd => k_is); (case c__law_gcd => k_is); (case k__law_gcd => k_is)
    (case a__law_f => k_is); (case l__law_f => k_is); (case c__law_f => k_is); (case k__law_f => k_is); (case a__law_plus => k_is); (case l__law_plus => k_is)
    (case c__law_plus => k_is); (case k__law_plus => k_is); (case a__law_minus => k_is); (case l__law_minus => k_is); (case c__law_minus => k_is); (case k__law_minus => k_is)
    (case a__law_times => k_is); (case l__law_times => k_is); (case c__law_times => k_is); (case k__law_times => k_is); (case a__law_spread => k_is); (case l__law_spread => k_is)
    (case c__law_spread => k_is); (case k__law_spread => k_is); (case a__law_node => k_is); (case l__law_node => k_is); (case c__law_node => k_is); (case k__law_node => k_is)
    (case a__law_market => k_is); (case l__law_market => k_is); (case c__law_market => k_is); (case k__law_market => k_is); (case a__law_nodes => k_is); (case l__law_nodes => k_is)
    (case c__law_nodes => k_is); (case k__law_nodes => k_is); (case a__law_find => k_is); (case l__law_find => k_is); (case c__law_find => k_is); (case k__law_find => k_is)
    (case a__law_word => k_is); (case l__law_word => k_is); (case c__law_word => k_is); (case k__law_word => k_is); (case a__law_text => k_is); (case l__law_text => k_is)
    (case c__law_text => k_is); (case k__law_text => k_is); (case a__law_told => k_is); (case l__law_told => k_is); (case c__law_told => k_is); (case k__law_told => k_is)
    (case a__law_bent => k_is); (case l__law_bent => k_is); (case c__law_bent => k_is); (case k__law_bent => k_is); (case a_law => k_is); (case l_law => k_is)
    (case c_law => k_is); (case k_law => k_is); (case z_abs => k_is); (case z_divmod => k_is); (case z_int => k_is); (case z_isinstance => k_is)
    (case z_len => k_is); (case z_list => k_is); (case z_max => k_is); (case z_min => k_is); (case z_range => k_is); (case z_reversed => k_is)
    (case z_sorted => k_is); (case z_str => k_is); (case z_sum => k_is); (case z_tuple => k_is); (case i_gcd => k_is); (case j_DIGIT_LIMIT => k_is)
    (case j_TEXT_LIMIT => k_is); (case j_GOODS_LIMIT => k_is); (case j_MOMENT_LIMIT => k_is); (case j_TIME_LIMIT => k_is); (case ca_MarketplaceError => k_is); (case cx_MarketplaceError => k_exc)
    (case ck_MarketplaceError => k_is); (case cb_MarketplaceError => k_is); (case ct0_MarketplaceError => k_is); (case ch_MarketplaceError => k_is); (case e1_MarketplaceError => k_is); (case e2_MarketplaceError => k_is)
    (case e3_MarketplaceError => k_is); (case e4_MarketplaceError => k_is); (case ca_ZeroDenominator => k_is); (case cx_ZeroDenominator => k_exc); (case ck_ZeroDenominator => k_is); (case cb_ZeroDenominator => k_is)
    (case ct0_ZeroDenominator => k_is); (case ch_ZeroDenominator => k_is); (case e1_ZeroDenominator => k_is); (case e2_ZeroDenominator => k_is); (case e3_ZeroDenominator => k_is); (case e4_ZeroDenominator => k_is)
    (case ca_TextError => k_is); (case cx_TextError => k_exc); (case ck_TextError => k_is); (case cb_TextError => k_is); (case ct0_TextError => k_is); (case ch_TextError => k_is)
    (case e1_TextError => k_is); (case e2_TextError => k_is); (case e3_TextError => k_is); (case e4_TextError => k_is); (case ca_MarketError => k_is); (case cx_MarketError => k_exc)
    (case ck_MarketError => k_is); (case cb_MarketError => k_is); (case ct0_MarketError => k_is); (case ch_MarketError => k_is); (case e1_MarketError => k_is); (case e2_MarketError => k_is)
    (case e3_MarketError => k_is); (case e4_MarketError => k_is); (case ca_TooLarge => k_is); (case cx_TooLarge => k_exc); (case ck_TooLarge => k_is); (case cb_TooLarge => k_is)
    (case ct0_TooLarge => k_is); (case ch_TooLarge => k_is); (case e1_TooLarge => k_is); (case e2_TooLarge => k_is); (case e3_TooLarge => k_is); (case e4_TooLarge => k_is)
    (case e5 => k_is); (case e6 => k_is); (case s_MarketError_MarketplaceError => k_is); (case s_MarketError_TextError => k_is); (case s_MarketError_MarketError => k_is); (case s_TooLarge_MarketplaceError => k_is)
    (case s_TooLarge_TextError => k_is); (case s_TooLarge_TooLarge => k_is); (case s_TextError_MarketplaceError => k_is); (case s_TextError_TextError => k_is); (case nd0 => k_is)

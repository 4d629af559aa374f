import PyProof.Rows.All
import Wide.All
import OpenK.AllK
import Wide.FinOn
import PySem.Challenge.RW_nolunch_k14_what_contracts_ask_and_pay
import HandS.ForExc
import HandS.Wide
import HandS.Gcd
import HandS.IsInst
import HandS.ExcIs
import HandS.Iter
import HandS.Evl
import HandS.SortRule
import HandS.SortInts
import HandS.TupAny
import KE.GoesNew
import KE.GoesMore
import HandS.DictComp
import HandS.Nested
import HandS.EndTab
import HandS.Exc
import HandS.ForMost
import HandS.ExcOwn
import HandS.MapJoin
import HandS.Rev
import HandS.StrMore
import KE.KIntText
import PyProof.Rows.Digits
import HandS.Deep
import HandS.WideBits
import HandS.Codes
import HandS.Steps
import HandS.TupLe
import HandS.More
import HandS.HeadHook3
import HandS.RevRange
import HandS.TupMul
import HandS.Walk
import HandS.Zip
import HandS.CallLocal
set_option Elab.async false
set_option linter.all false
set_option maxRecDepth 100000
set_option maxHeartbeats 4000000
namespace Nl
/-- a size in bits -/
def Bd (k : Nat) (x : Int) : Prop := x.natAbs < 2 ^ k
theorem Bd.mono {k m : Nat} {x : Int} (h : Bd k x) (e : k ≤ m) : Bd m x := Nat.lt_of_lt_of_le h (Nat.pow_le_pow_right (by decide) e)
theorem Bd.mul {k m : Nat} {x y : Int} (h : Bd k x) (g : Bd m y) : Bd (k + m) (x * y) := by
  unfold Bd at *
  rw [Int.natAbs_mul, Nat.pow_add]
  exact Nat.mul_lt_mul'' h g
theorem Bd.add {k m : Nat} {x y : Int} (h : Bd k x) (g : Bd m y) : Bd (max k m + 1) (x + y) := by
  have h1 := h.mono (Nat.le_max_left k m)
  have g1 := g.mono (Nat.le_max_right k m)
  unfold Bd at *
  have := Int.natAbs_add_le x y
  rw [Nat.pow_succ]
  omega
theorem Bd.neg {k : Nat} {x : Int} (h : Bd k x) : Bd k (-x) := by
  unfold Bd at *
  rw [Int.natAbs_neg]
  exact h
theorem Bd.sub {k m : Nat} {x y : Int} (h : Bd k x) (g : Bd m y) : Bd (max k m + 1) (x - y) := by
  rw [Int.sub_eq_add_neg]
  exact h.add g.neg
theorem Bd.le {k : Nat} {x y : Int} (h : Bd k y) (e : x.natAbs ≤ y.natAbs) : Bd k x := Nat.lt_of_le_of_lt e h

/-- lowest terms -/
structure Low (q : Int × Int) : Prop where
  pos : 0 < q.2
  cop : Int.gcd q.1 q.2 = 1
/-- the greatest common divisor, with the sign of b -/
def sg (a b : Int) : Int := if b < 0 then -(Int.gcd a b : Int) else (Int.gcd a b : Int)
def frac (a b : Int) : Int × Int := (a.fdiv (sg a b), b.fdiv (sg a b))
theorem gcd_pos {a b : Int} (h : b ≠ 0) : 0 < Int.gcd a b := Int.gcd_pos_of_ne_zero_right a h
theorem sg_ne {a b : Int} (h : b ≠ 0) : sg a b ≠ 0 := by
  have := gcd_pos (a := a) h
  unfold sg
  split <;> omega
theorem sg_abs (a b : Int) : (sg a b).natAbs = Int.gcd a b := by
  unfold sg
  split <;> simp
theorem sg_dvd1 (a b : Int) : sg a b ∣ a := by
  have h : (Int.gcd a b : Int) ∣ a := Int.gcd_dvd_left a b
  unfold sg
  split
  · exact Int.neg_dvd.mpr h
  · exact h
theorem sg_dvd2 (a b : Int) : sg a b ∣ b := by
  have h : (Int.gcd a b : Int) ∣ b := Int.gcd_dvd_right a b
  unfold sg
  split
  · exact Int.neg_dvd.mpr h
  · exact h
theorem frac_e1 {a b : Int} (_ : b ≠ 0) : (frac a b).1 * sg a b = a := Int.fdiv_mul_cancel (sg_dvd1 a b)
theorem frac_e2 {a b : Int} (_ : b ≠ 0) : (frac a b).2 * sg a b = b := Int.fdiv_mul_cancel (sg_dvd2 a b)
theorem frac_low {a b : Int} (h : b ≠ 0) : Low (frac a b) := by
  have e1 := frac_e1 (a := a) h
  have e2 := frac_e2 (a := a) h
  have g0 := gcd_pos (a := a) h
  have hs := sg_ne (a := a) h
  generalize hx : frac a b = q at *
  obtain ⟨n, d⟩ := q
  simp only at e1 e2
  refine ⟨?_, ?_⟩
  · show 0 < d
    have hd : d ≠ 0 := fun z => by
      rw [z, Int.zero_mul] at e2
      exact h e2.symm
    by_cases hb : b < 0
    · have s0 : sg a b < 0 := by
        unfold sg
        rw [if_pos hb]
        omega
      by_cases q : d < 0
      · have := Int.mul_pos_of_neg_of_neg q s0
        omega
      · omega
    · have s0 : 0 < sg a b := by
        unfold sg
        rw [if_neg hb]
        omega
      by_cases q : d < 0
      · have := Int.mul_neg_of_neg_of_pos q s0
        omega
      · omega
  · show Int.gcd n d = 1
    have hg : Int.gcd (n * sg a b) (d * sg a b) = Int.gcd n d * (sg a b).natAbs := Int.gcd_mul_right n (sg a b) d
    rw [e1, e2, sg_abs] at hg
    exact Nat.eq_of_mul_eq_mul_right g0 (by rw [← hg, Nat.one_mul])
theorem frac_cross {a b : Int} (h : b ≠ 0) : (frac a b).1 * b = a * (frac a b).2 := by
  have e1 := frac_e1 (a := a) h
  have e2 := frac_e2 (a := a) h
  generalize hx : frac a b = q at *
  obtain ⟨n, d⟩ := q
  simp only at e1 e2 ⊢
  generalize sg a b = s at *
  rw [← e1, ← e2, Int.mul_assoc, Int.mul_comm d s]
theorem abs_of_mul {x s y : Int} (e : x * s = y) (h : s ≠ 0) : x.natAbs ≤ y.natAbs := by
  rw [← e, Int.natAbs_mul]
  exact Nat.le_mul_of_pos_right _ (by omega)
theorem frac_b1 {a b : Int} {k : Nat} (h : b ≠ 0) (g : Bd k a) : Bd k (frac a b).1 := g.le (abs_of_mul (frac_e1 h) (sg_ne h))
theorem frac_b2 {a b : Int} {k : Nat} (h : b ≠ 0) (g : Bd k b) : Bd k (frac a b).2 := g.le (abs_of_mul (frac_e2 h) (sg_ne h))
theorem dvd_cop {a b d : Int} (h : b ∣ a * d) (g : Int.gcd a b = 1) : b ∣ d := by
  have h1 : b.natAbs ∣ a.natAbs * d.natAbs := by
    rw [← Int.natAbs_mul]
    exact Int.natAbs_dvd_natAbs.mpr h
  have h2 : Nat.Coprime b.natAbs a.natAbs := (Nat.gcd_comm _ _).trans g
  exact Int.natAbs_dvd_natAbs.mp (h2.dvd_of_dvd_mul_left h1)
theorem low_uniq {p q : Int × Int} (hp : Low p) (hq : Low q) (e : p.1 * q.2 = q.1 * p.2) : p = q := by
  obtain ⟨a, b⟩ := p
  obtain ⟨c, d⟩ := q
  obtain ⟨pb, cb⟩ := hp
  obtain ⟨pd, cd⟩ := hq
  simp only at *
  have d1 : b ∣ d := by
    have h : b ∣ a * d := ⟨c, by rw [e, Int.mul_comm]⟩
    exact dvd_cop h cb
  have d2 : d ∣ b := by
    have h : d ∣ c * b := ⟨a, by rw [← e, Int.mul_comm]⟩
    exact dvd_cop h cd
  have ebd : b = d := Int.dvd_antisymm (by omega) (by omega) d1 d2
  subst ebd
  have : a = c := Int.eq_of_mul_eq_mul_right (by omega) e
  rw [this]
/-- a fraction of at most k bits -/
structure Ok (k : Nat) (q : Int × Int) : Prop where
  low : Low q
  b1 : Bd k q.1
  b2 : Bd k q.2
theorem Ok.pos {k : Nat} {q : Int × Int} (h : Ok k q) : 0 < q.2 := h.low.pos
theorem Ok.mono {k m : Nat} {q : Int × Int} (h : Ok k q) (e : k ≤ m) : Ok m q := ⟨h.low, h.b1.mono e, h.b2.mono e⟩
theorem frac_ok {a b : Int} {k : Nat} (h : b ≠ 0) (g : Bd k a) (f : Bd k b) : Ok k (frac a b) := ⟨frac_low h, frac_b1 h g, frac_b2 h f⟩
def addF (p q : Int × Int) : Int × Int := frac (p.1 * q.2 + q.1 * p.2) (p.2 * q.2)
def subF (p q : Int × Int) : Int × Int := frac (p.1 * q.2 - q.1 * p.2) (p.2 * q.2)
def mulF (p q : Int × Int) : Int × Int := frac (p.1 * q.1) (p.2 * q.2)
def divF (p q : Int × Int) : Int × Int := frac (p.1 * q.2) (p.2 * q.1)
theorem pos_ne {x y : Int} (h : 0 < x) (g : 0 < y) : x * y ≠ 0 := by
  have := Int.mul_pos h g
  omega
theorem addF_ok {k m n : Nat} {p q : Int × Int} (hp : Ok k p) (hq : Ok m q) (e : k + m + 1 ≤ n) : Ok n (addF p q) :=
  frac_ok (pos_ne hp.pos hq.pos) (((hp.b1.mul hq.b2).add (hq.b1.mul hp.b2)).mono (by omega)) ((hp.b2.mul hq.b2).mono (by omega))
theorem subF_ok {k m n : Nat} {p q : Int × Int} (hp : Ok k p) (hq : Ok m q) (e : k + m + 1 ≤ n) : Ok n (subF p q) :=
  frac_ok (pos_ne hp.pos hq.pos) (((hp.b1.mul hq.b2).sub (hq.b1.mul hp.b2)).mono (by omega)) ((hp.b2.mul hq.b2).mono (by omega))
theorem mulF_ok {k m n : Nat} {p q : Int × Int} (hp : Ok k p) (hq : Ok m q) (e : k + m ≤ n) : Ok n (mulF p q) :=
  frac_ok (pos_ne hp.pos hq.pos) ((hp.b1.mul hq.b1).mono (by omega)) ((hp.b2.mul hq.b2).mono (by omega))
theorem divF_ok {k m n : Nat} {p q : Int × Int} (hp : Ok k p) (hq : Ok m q) (h0 : q.1 ≠ 0) (e : k + m ≤ n) : Ok n (divF p q) := by
  have h : p.2 * q.1 ≠ 0 := Int.mul_ne_zero (by have := hp.pos; omega) h0
  exact frac_ok h ((hp.b1.mul hq.b2).mono (by omega)) ((hp.b2.mul hq.b1).mono (by omega))
/-- the law's own normal form -/
def fracL (a b : Int) : Int × Int :=
  let a' := if b < 0 then 0 - a else a
  let b' := if b < 0 then 0 - b else b
  (a' / (Int.gcd a' b' : Int), b' / (Int.gcd a' b' : Int))
theorem fracL_eq {a b : Int} (h : b ≠ 0) : fracL a b = frac a b := by
  have g0 := gcd_pos (a := a) h
  have key : ∀ x : Int, (sg a b ∣ x) → (if b < 0 then 0 - x else x) / (Int.gcd a b : Int) = x.fdiv (sg a b) := fun x hx => by
    obtain ⟨c, rfl⟩ := hx
    have hs := sg_ne (a := a) h
    rw [Int.mul_fdiv_cancel_left c hs]
    unfold sg
    split
    · have e : 0 - -(Int.gcd a b : Int) * c = (Int.gcd a b : Int) * c := by rw [Int.neg_mul]; omega
      rw [e]
      exact Int.mul_ediv_cancel_left c (by omega)
    · exact Int.mul_ediv_cancel_left c (by omega)
  have eg : Int.gcd (if b < 0 then 0 - a else a) (if b < 0 then 0 - b else b) = Int.gcd a b := by
    split
    · rw [Int.zero_sub, Int.zero_sub, Int.neg_gcd, Int.gcd_neg]
    · rfl
  unfold fracL frac
  simp only [eg]
  rw [key a (sg_dvd1 a b), key b (sg_dvd2 a b)]
theorem List.reverseRecOn' {α : Type} {P : List α → Prop} (l : List α) (nil : P []) (snoc : ∀ l x, P l → P (l ++ [x])) : P l := by
  have : ∀ n (l : List α), l.length = n → P l := by
    intro n
    induction n with
    | zero => intro l h; rw [List.eq_nil_of_length_eq_zero h]; exact nil
    | succ n ih =>
      intro l h
      have hne : l ≠ [] := fun e => by rw [e] at h; cases h
      rw [← List.dropLast_concat_getLast hne]
      exact snoc _ _ (ih _ (by rw [List.length_dropLast]; omega))
  exact this _ l rfl
def totF (l : List (Int × Int)) : Int × Int := l.foldl addF (0, 1)
theorem totF_add (l : List (Int × Int)) (q : Int × Int) : totF (l ++ [q]) = addF (totF l) q := by
  unfold totF
  rw [List.foldl_append]
  rfl
theorem ok_zero : Ok 1 (0, 1) := ⟨⟨by decide, by decide⟩, by unfold Bd; decide, by unfold Bd; decide⟩
theorem totF_ok {k : Nat} : ∀ (l : List (Int × Int)), (∀ q ∈ l, Ok k q) → Ok ((k + 1) * l.length + 1) (totF l) := by
  intro l
  induction l using Nl.List.reverseRecOn' with
  | nil => exact fun _ => ok_zero
  | snoc l q ih =>
      intro h
      rw [totF_add]
      have h1 := ih fun z hz => h z (List.mem_append_left _ hz)
      have h2 := h q (by simp)
      refine addF_ok h1 h2 ?_
      rw [List.length_append, List.length_singleton, Nat.mul_add]
      omega
end Nl
namespace Nl
open PySem PySem.Spec PyProof.Rows L2
def CDivX (_ j : Int) : Prop := j ≠ 0 ∧ j.natAbs.log2 < 9000
theorem op_fdivX {X : Cx} : OpR X (binaryOp .FloorDiv) (rI CDivX fun i j => .int (i.fdiv j)) := opI fun _ _ _ _ _ _ _ hc q => floordiv_int hc.1 q (.inl (PyProof.noPylong_of_log2 hc.2))
theorem divX {i j : Int} {b : Nat} (h : j ≠ 0) (hb : Bd b j) (h0 : 0 < b := by decide) (h9 : b ≤ 9000 := by decide) : CDivX i j := ⟨h, Nat.lt_of_lt_of_le (PySem.Flt.log2_lt_of h0 hb) h9⟩
theorem mulX {i j : Int} {a b : Nat} (ha : Bd a i) (hb : Bd b j) (h0 : 0 < a := by decide) (h1 : 0 < b := by decide) (h : a + b ≤ 1000000 := by decide) : CMulW i j := wide_mul ha hb h0 h1 h
/-- all that was tracked is as it was, but for what stands at d -/
def Xt (d : Addr) (H H' : Hp) : Prop := ∀ b o, b ≠ d → H b = some o → H' b = some o
theorem Xt.refl {d : Addr} (H : Hp) : Xt d H H := fun _ _ _ h => h
theorem Xt.trans {d : Addr} {H H1 H2 : Hp} (a : Xt d H H1) (b : Xt d H1 H2) : Xt d H H2 := fun c o n h => b c o n (a c o n h)
theorem Xt.of {d : Addr} {H H' : Hp} (s : Same H H') : Xt d H H' := fun b o _ h => s b o h
theorem Xt.upd {d : Addr} {H : Hp} {o : HO} : Xt d H (upd H d o) := fun b u n h => by
  rw [upd_ne n]
  exact h
theorem same_new {H : Hp} {p : Addr} {o : HO} (h : H p = none) : Same H (upd H p o) := fun b x e => by
  rw [upd_ne (ne_of_none e h)]
  exact e
/-- v is the fraction q -/
def Fr (H : Hp) (v : V) (q : Int × Int) : Prop := ∃ p, v = .ref p ∧ H p = some (.tup [.int q.1, .int q.2])
theorem Fr.same {H H' : Hp} {v : V} {q : Int × Int} (h : Fr H v q) (s : Same H H') : Fr H' v q := by
  obtain ⟨p, e, hp⟩ := h
  exact ⟨p, e, s _ _ hp⟩
theorem ne_tl {H : Hp} {a d : Addr} {xs ys : List V} (h : H a = some (.tup xs)) (g : H d = some (.lst ys)) : a ≠ d := ne_of h g (by intro z; cases z)
theorem Fr.xt {H H' : Hp} {d : Addr} {ys : List V} {v : V} {q : Int × Int} (h : Fr H v q) (g : H d = some (.lst ys)) (s : Xt d H H') : Fr H' v q := by
  obtain ⟨p, e, hp⟩ := h
  exact ⟨p, e, s _ _ (ne_tl hp g) hp⟩
theorem two_le : ([a, b] : List V).length ≤ sizeLine := (by decide : 2 ≤ sizeLine)
section
variable {X : Cx}
theorem CallR.imp {f : Value} {r r' : List V → Hp → VK → Prop} (h : CallR X f r) (hi : ∀ xs H Q, r' xs H Q → r xs H Q) : CallR X f r' := fun pins s σ H vs us Q I rr q => h pins s σ H vs us Q I rr (hi _ _ _ q)
def rInt : List V → Hp → VK → Prop := fun xs H Q => ∃ i, xs = [.int i] ∧ Q (.int i) H
theorem call_intI : CallR X (.type "int") rInt := CallR.imp call_int1 fun _ _ _ h => .inl h
def rLenL (K : PySem.W.Frag) : List V → Hp → VK → Prop := fun xs H Q => ∃ p ys, xs = [.ref p] ∧ SqL K H p ys ∧ Q (.int (ys.length : Int)) H
theorem call_lenL : CallR X (.builtin "len") (rLenL X.K) := CallR.imp call_len_seq fun _ _ _ ⟨p, ys, e, h, q⟩ => ⟨p, ys, e, .inl h, q⟩
def rLenT (K : PySem.W.Frag) : List V → Hp → VK → Prop := fun xs H Q => ∃ p ys, xs = [.ref p] ∧ SqT K H p ys ∧ Q (.int (ys.length : Int)) H
theorem call_lenT : CallR X (.builtin "len") (rLenT X.K) := CallR.imp call_len_seq fun _ _ _ ⟨p, ys, e, h, q⟩ => ⟨p, ys, e, .inr h, q⟩
def rListL (K : PySem.W.Frag) : List V → Hp → VK → Prop := fun xs H Q => ∃ p ys, xs = [.ref p] ∧ SqL K H p ys ∧ ∀ l, H l = none → Q (.ref l) (upd H l (.lst ys))
theorem call_listL : CallR X (.type "list") (rListL X.K) := CallR.imp call_list_of fun _ _ _ ⟨p, ys, e, h, q⟩ => ⟨p, ys, e, .inl h, q⟩
def rTupL (K : PySem.W.Frag) : List V → Hp → VK → Prop := fun xs H Q => ∃ p ys, xs = [.ref p] ∧ SqL K H p ys ∧ ∀ l, H l = none → Q (.ref l) (upd H l (.tup ys))
theorem call_tupL : CallR X (.type "tuple") (rTupL X.K) := CallR.imp call_tuple_of fun _ _ _ ⟨p, ys, e, h, q⟩ => ⟨p, ys, e, .inl ⟨h, q⟩⟩
/-- where something is known of what is raised -/
theorem pe_hyp {e : Expr} {t : TE} {p : Prop} (h : p → PE X e t) : PE X e (fun σ H Q => p ∧ t σ H Q) := ⟨fun pins s σ H Q I hw => (h hw.1).run pins s σ H Q I hw.2⟩
end
theorem mulC {i j : Int} (h : -(2 ^ 64) < j ∧ j < 2 ^ 64) : CMul i j := .inr h
theorem mulC' {i j : Int} (h : -(2 ^ 64) < i ∧ i < 2 ^ 64) : CMul i j := .inl h
/-- the state that the law's draws go on: [its script, a place, a rest, a seed] -/
structure DstI (H : Hp) (pd ps : Addr) (i r : Int) (ns : List Int) : Prop where
  at_d : ∃ s : Int, H pd = some (.lst [.ref ps, .int i, .int r, .int s])
  at_s : H ps = some (.lst (ns.map V.int))
  ne : ps ≠ pd
  i0 : 0 ≤ i
  r0 : 0 ≤ r
def Dst (H : Hp) (pd ps : Addr) : Prop := ∃ i r ns, DstI H pd ps i r ns
theorem Dst.same {H H' : Hp} {pd ps : Addr} (h : Dst H pd ps) (s : Same H H') : Dst H' pd ps := by
  obtain ⟨i, r, ns, ⟨⟨sd, h1⟩, h2, h3, h4, h5⟩⟩ := h
  exact ⟨i, r, ns, ⟨⟨sd, s _ _ h1⟩, s _ _ h2, h3, h4, h5⟩⟩
theorem Dst.xt {H H' : Hp} {pd ps x : Addr} (h : Dst H pd ps) (n1 : x ≠ pd) (n2 : x ≠ ps) (s : Xt x H H') : Dst H' pd ps := by
  obtain ⟨i, r, ns, ⟨⟨sd, h1⟩, h2, h3, h4, h5⟩⟩ := h
  exact ⟨i, r, ns, ⟨⟨sd, s _ _ (Ne.symm n1) h1⟩, s _ _ (Ne.symm n2) h2, h3, h4, h5⟩⟩
theorem Dst.fresh {H : Hp} {pd ps x : Addr} (h : Dst H pd ps) (n : H x = none) : x ≠ pd ∧ x ≠ ps := by
  obtain ⟨i, r, ns, ⟨⟨sd, h1⟩, h2, h3, h4, h5⟩⟩ := h
  exact ⟨fun e => (by rw [e, h1] at n; cases n), fun e => (by rw [e, h2] at n; cases n)⟩
theorem Dst.lst {H : Hp} {pd ps : Addr} (h : Dst H pd ps) : ∃ ys, H pd = some (.lst ys) := by
  obtain ⟨i, r, ns, ⟨⟨sd, h1⟩, _⟩⟩ := h
  exact ⟨_, h1⟩
theorem Fr.dst {H H' : Hp} {pd ps : Addr} {v : V} {q : Int × Int} (h : Fr H v q) (g : Dst H pd ps) (s : Xt pd H H') : Fr H' v q := by
  obtain ⟨ys, e⟩ := g.lst
  exact h.xt e s
theorem DstI.set {H : Hp} {pd ps : Addr} {i r i' r' s' : Int} {ns : List Int} (h : DstI H pd ps i r ns) (hi : 0 ≤ i') (hr : 0 ≤ r') : DstI (upd H pd (.lst [.ref ps, .int i', .int r', .int s'])) pd ps i' r' ns :=
  ⟨⟨s', upd_same⟩, by rw [upd_ne h.ne]; exact h.at_s, h.ne, hi, hr⟩
theorem DstI.upd2 {H : Hp} {pd ps : Addr} {i r i' r' s' : Int} {ns : List Int} {o : HO} (h : DstI H pd ps i r ns) (hi : 0 ≤ i') (hr : 0 ≤ r') : DstI (upd (upd H pd o) pd (.lst [.ref ps, .int i', .int r', .int s'])) pd ps i' r' ns := by
  rw [upd_upd]
  exact h.set hi hr
theorem dec_eq {a b : V} (h : a = b) : decide (a = b) = true := decide_eq_true h
def FrAll (H : Hp) (xs : List V) (qs : List (Int × Int)) : Prop := xs.length = qs.length ∧ ∀ (i : Nat) (x : V), xs[i]? = some x → ∃ q, qs[i]? = some q ∧ Fr H x q
theorem FrAll.same {H H' : Hp} {xs : List V} {qs : List (Int × Int)} (h : FrAll H xs qs) (s : Same H H') : FrAll H' xs qs := ⟨h.1, fun i x e => by
  obtain ⟨q, h1, h2⟩ := h.2 i x e
  exact ⟨q, h1, h2.same s⟩⟩
theorem FrAll.xt {H H' : Hp} {d : Addr} {ys xs : List V} {qs : List (Int × Int)} (h : FrAll H xs qs) (g : H d = some (.lst ys)) (s : Xt d H H') : FrAll H' xs qs := ⟨h.1, fun i x e => by
  obtain ⟨q, h1, h2⟩ := h.2 i x e
  exact ⟨q, h1, h2.xt g s⟩⟩
theorem FrAll.add {H : Hp} {xs : List V} {qs : List (Int × Int)} {v : V} {q : Int × Int} (h : FrAll H xs qs) (g : Fr H v q) : FrAll H (xs ++ [v]) (qs ++ [q]) := by
  refine ⟨by simp [h.1], fun i x e => ?_⟩
  by_cases hi : i < xs.length
  · rw [List.getElem?_append_left hi] at e
    obtain ⟨z, h1, h2⟩ := h.2 i x e
    exact ⟨z, by rw [List.getElem?_append_left (by rw [← h.1]; exact hi)]; exact h1, h2⟩
  · have hl := (List.getElem?_eq_some_iff.mp e).1
    rw [List.length_append, List.length_singleton] at hl
    have ei : i = xs.length := by omega
    subst ei
    rw [List.getElem?_concat_length] at e
    cases e
    exact ⟨q, by rw [h.1, List.getElem?_concat_length], g⟩
theorem take_next {α : Type} {l : List α} {i : Nat} {x : α} (h : l[i]? = some x) : l.take (i + 1) = l.take i ++ [x] := by
  rw [List.take_add_one, h]
  rfl
theorem gcd_step (x y : Int) (hx : 0 ≤ x) (hy : 0 ≤ y) : Int.gcd y (x % y) = Int.gcd x y := by
  obtain ⟨a, rfl⟩ := Int.eq_ofNat_of_zero_le hx
  obtain ⟨b, rfl⟩ := Int.eq_ofNat_of_zero_le hy
  rw [← Int.natCast_emod]
  show Nat.gcd b (a % b) = Nat.gcd a b
  rw [Nat.gcd_comm b, ← Nat.gcd_rec b a, Nat.gcd_comm]
theorem if_true_of' {c : Bool} {A B : Prop} (hc : c = true) (h : A) : if c = true then A else B := by
  rw [if_pos hc]
  exact h
theorem if_false_of' {c : Bool} {A B : Prop} (hc : c = false) (h : B) : if c = true then A else B := by
  rw [hc, if_neg Bool.false_ne_true]
  exact h
def frD (q : Int × Int) : PyData := .tuple [.int q.1, .int q.2]
theorem Fr.dp {K : PySem.W.Frag} {H : Hp} {v : V} {q : Int × Int} (h : Fr H v q) : Dp K H v (frD q) := by
  obtain ⟨p, rfl, hp⟩ := h
  exact .tup (SqT.of hp) (.cons (.int _) (.cons (.int _) .nil))
theorem frD_shaped (q : Int × Int) : SeqAt.shaped (frD q) = true := rfl
theorem frD_eqv (q : Int × Int) : PyData.eqv (frD q) (frD q) = true := SeqAt.eqv_refl _ rfl
theorem kit_self {K : PySem.W.Frag} {C : Addr} : PySem.W.kitOne K (.ref C) (.ref C) = some true := by
  unfold PySem.W.kitOne
  simp
theorem pow38 : Bd 127 (10 ^ 38) := by unfold Bd; decide
end Nl

namespace Nl
/-! ### sorted of tuples of ints of any lengths, the first of which is empty -/
section
open PySem PySem.W PySem.Calls PyProof.Rows SrtO
theorem lex_asym : ∀ a b : List Int, HT.lexLt a b = true → HT.lexLt b a = false
  | [], [], h => by simp [HT.lexLt] at h
  | [], _ :: _, _ => rfl
  | _ :: _, [], h => by simp [HT.lexLt] at h
  | x :: a, y :: b, h => by
    rw [HT.lexLt_cons] at h ⊢
    by_cases e : x = y
    · rw [if_pos e] at h
      rw [if_pos e.symm]
      exact lex_asym a b h
    · rw [if_neg e] at h
      rw [if_neg (Ne.symm e)]
      have := of_decide_eq_true h
      exact decide_eq_false (by omega)
theorem lex_tr : ∀ a b c : List Int, HT.lexLt b a = false → HT.lexLt c b = false → HT.lexLt c a = false
  | _, _, [], _, h => by
    rename_i a b h0
    cases b with
    | nil => exact h0
    | cons y b => simp [HT.lexLt] at h
  | _, [], z :: c, h1, h2 => by
    rename_i a
    cases a with
    | nil => rfl
    | cons x a => simp [HT.lexLt] at h1
  | [], y :: b, z :: c, _, _ => rfl
  | x :: a, y :: b, z :: c, h1, h2 => by
    rw [HT.lexLt_cons] at h1 h2 ⊢
    by_cases e : y = x
    · rw [if_pos e] at h1
      by_cases e2 : z = y
      · rw [if_pos e2] at h2
        rw [if_pos (e2.trans e)]
        exact lex_tr a b c h1 h2
      · rw [if_neg e2] at h2
        rw [if_neg (fun q => e2 (q.trans e.symm))]
        have := of_decide_eq_false h2
        exact decide_eq_false (by omega)
    · rw [if_neg e] at h1
      have q1 := of_decide_eq_false h1
      by_cases e2 : z = y
      · rw [if_neg (fun q => e (e2.symm.trans q))]
        exact decide_eq_false (by omega)
      · rw [if_neg e2] at h2
        have q2 := of_decide_eq_false h2
        rw [if_neg (by omega)]
        exact decide_eq_false (by omega)
theorem swo_path {α : Type} (k : α → List Int) : Swo fun v u => HT.lexLt (k v) (k u) := ⟨fun x y h => lex_asym _ _ h, fun x y z h1 h2 => lex_tr _ _ _ h1 h2⟩
section
variable {prog : Program} {w : World} {A : Around} {E : Value → Shared → Prop} {s : Shared}
theorem keyLt_tup {l b : Addr} {items items2 : Array Value} {ns ms : List Int} {Q : Bool → Shared → Prop} (hl : IsTup s.heap l items) (hb : IsTup s.heap b items2) (hi : IntsAre items.toList ns) (hj : IntsAre items2.toList ms)
    (hu : A.units < cLine) (h : Q (HT.lexLt ns ms) s) : wpAny (model prog w) A (keyLt' oneType' (.ref l) (.ref b)) Q E s := by
  obtain ⟨⟨cls, dd, data, sl⟩, ho, hc, n, hd⟩ := id hl
  obtain ⟨⟨cls2, dd2, data2, sl2⟩, ho2, hc2, n2, hd2⟩ := id hb
  simp only at hc hd hc2 hd2
  subst hc hd hc2 hd2
  rw [keyLt'_oneType, oneLt'_eq]
  simp only [if_true]
  refine wpAny_bind (wpAny_cRoomFor hu ?_)
  have hT : s.TypeIs (.ref l) "tuple" := ⟨_, ho, rfl⟩
  refine wpAny_bind (wpAny_callSpecialIfBound?_slot hT PySem.F.slot_tuple_lt (call_meets PySem.F.slot_tuple_lt hT PySem.F.entry_tuple_lt (PySem.F.args_tuple_lt_2 _ _) (HT.tuple_lt_ints l b items items2 n n2 dd dd2 sl sl2 ns ms hi hj) ⟨ho, ho2, ?_⟩))
  exact wpAny_truthy_bool h
/-- what firstOfTuple gives -/
theorem firsts_any : ∀ (vs : List Value) {Q : List (Option Value) → Shared → Prop}, (∀ v ∈ vs, ∃ a xs, v = .ref a ∧ IsTup s.heap a xs) →
    (∀ fs : List (Option Value), (∀ (v : Value) (r : List Value) (a : Addr) (xs : Array Value), vs = v :: r → v = .ref a → IsTup s.heap a xs → fs[0]? = some xs[0]?) → Q fs s) → wpAny (model prog w) A (vs.mapM firstOfTuple') Q E s
  | [], Q, _, h => by
    rw [List.mapM_nil]
    exact wpAny_pure (h [] fun _ _ _ _ e => by cases e)
  | v :: vs, Q, hv, h => by
    obtain ⟨a, xs, rfl, ht⟩ := hv v (List.mem_cons_self ..)
    obtain ⟨o, ho, hc, n, hd⟩ := id ht
    rw [List.mapM_cons]
    refine wpAny_bind ?_
    rw [kas_first_eq]
    refine wpAny_bind (Looks.here (show Looks (model prog w) s.heap (typeOf (.ref a)) o.cls from (Looks.ld ho).andThen .now) ?_)
    rw [hc, if_neg (by first | decide | simp)]
    refine wpAny_bind (listItems_at ho hd (wpAny_pure ?_))
    refine wpAny_bind (firsts_any vs (fun u hu => hv u (List.mem_cons_of_mem _ hu)) fun fs _ => wpAny_pure (h _ fun v' r a' xs' e1 e2 ht' => ?_))
    cases e1
    cases e2
    obtain ⟨o', ho', hc', n', hd'⟩ := ht'
    rw [ho] at ho'
    cases ho'
    rw [hd] at hd'
    cases hd'
    rfl
theorem kind_paths {vs : List Value} {Q : SortKind → Shared → Prop} (h2 : 2 ≤ vs.length) (hv : ∀ v ∈ vs, ∃ a xs, v = .ref a ∧ IsTup s.heap a xs) (h0 : ∀ (v : Value) (r : List Value), vs = v :: r → ∃ a xs, v = .ref a ∧ IsTup s.heap a xs ∧ xs[0]? = none)
    (h : Q oneType' s) : wpAny (model prog w) A (keyKind' vs.toArray) Q E s := by
  obtain ⟨v₁, v₂, rest, rfl⟩ : ∃ v₁ v₂ rest, vs = v₁ :: v₂ :: rest := by
    match vs, h2 with
    | [], h2 => simp at h2
    | [_], h2 => simp at h2
    | v₁ :: v₂ :: rest, _ => exact ⟨v₁, v₂, rest, rfl⟩
  rw [keyKind'_eq, List.mapM_toArray, map_eq_pure_bind]
  refine wpAny_bind (wpAny_bind (firsts_any _ hv fun fs hf => wpAny_pure ?_))
  obtain ⟨a, xs, ev, ht, hx⟩ := h0 v₁ (v₂ :: rest) rfl
  have f0 := hf v₁ (v₂ :: rest) a xs rfl ev ht
  rw [hx] at f0
  have hall : ¬ ((fs.toArray.all fun x => x.isSome) = true) := by
    cases fs with
    | nil => simp at f0
    | cons f fs =>
      have e : f = none := by simpa using f0
      subst e
      simp
  have h1 : (fs.toArray[0]?.bind id) = none := by
    have e : fs.toArray[0]? = some none := by simpa using f0
    rw [e]
    rfl
  rw [if_neg hall, h1]
  rw [if_neg (by simp)]
  rw [oneTypeOnly'_eq, List.mapM_toArray, map_eq_pure_bind]
  refine wpAny_bind (wpAny_bind (wpAny_bind (kas_mapM (r := Value.type "tuple") _ (fun v hm Q' hq => ?_) (wpAny_pure ?_))))
  · obtain ⟨a, xs, rfl, o, ho, hc, n, hd⟩ := hv v hm
    exact Looks.here (show Looks (model prog w) s.heap (typeOf (.ref a)) (.type "tuple") from hc ▸ (Looks.ld ho).andThen .now) hq
  · have hall : ((List.map (fun _ => Value.type "tuple") (v₁ :: v₂ :: rest)).toArray.all fun x => x == Value.type "tuple") = true := by
      simp only [List.all_toArray, List.all_map, List.all_eq_true]
      intro _ _
      simp
    have h0 : (List.map (fun _ => Value.type "tuple") (v₁ :: v₂ :: rest)).toArray[0]? = some (Value.type "tuple") := by simp
    rw [h0]
    simp only [hall, if_true]
    exact wpAny_pure (wpAny_pure h)
end
end
section
open PySem PySem.Spec PyProof.Rows L2
variable {X : Cx}
abbrev ltK (k : V → List Int) (x y : V) : Bool := HT.lexLt (k x) (k y)
def rSortP (K : PySem.W.Frag) : List V → Hp → VK → Prop := fun vs H Q => ∃ (a : Addr) (xs : List V) (k : V → List Int), vs = [V.ref a] ∧ SqL K H a xs ∧ (∀ x ∈ xs, ∃ t, x = V.ref t ∧ SqT K H t ((k x).map V.int)) ∧ (∀ x, xs[0]? = some x → k x = []) ∧
  ∀ ys p, ys.Perm xs → SrtO.Srtd (ltK k) ys → H p = none → Q (.ref p) (upd H p (.lst ys))
theorem cr_sortP (hr : Room 2 X.A) : CallR X (.builtin "sorted") (rSortP X.K) := by
  intro pins s σ H vs us Q I r h
  obtain ⟨a, xs, k, rfl, hs, hx, hx0, q⟩ := h
  obtain ⟨its, rv, hl, hz⟩ := I.list hs
  obtain ⟨u, rfl, ru⟩ := vals1 r
  obtain rfl : u = Value.ref a := ru
  obtain ⟨e1, e2⟩ := refs_back rv fun x m => by
    obtain ⟨t, e, _⟩ := hx x m
    exact ⟨t, e⟩
  have hu : X.A.in1.in1.units < cLine := by
    have h1 : Room 0 X.A.in1.in1 := Room.in1 (k := 0) (Room.in1 (k := 1) hr)
    exact h1.units0
  have tup : ∀ v ∈ its, ∃ t ws, v = Value.ref t ∧ IsTup s.heap t ws ∧ IntsAre ws.toList (k (backV v)) := fun v hv => by
    obtain ⟨t, rfl⟩ := e2 v hv
    have hm : V.ref t ∈ xs := by rw [e1]; exact List.mem_map.mpr ⟨_, hv, rfl⟩
    obtain ⟨t', e, ht⟩ := hx _ hm
    cases e
    obtain ⟨ws, rw', hw, _⟩ := I.tuple ht
    exact ⟨t, ws.toArray, rfl, hw, (show IntsAre ws (k (V.ref t)) from Vals.ints rw')⟩
  refine SrtO.sorted_ord (swo_path fun v => k (backV v)) hl.isList (by rw [← rv.length]; exact hz) (fun h2 h₁ a' ha kk => ?_) fun out h1 h2 => ?_
  · intro h' hk
    have keep : ∀ b o, s.heap.get? b = some o → h'.get? b = some o := fun b o e => hk b o (kk b o e).1 (kk b o e).2
    have tk : ∀ {t : Addr} {ws : Array Value}, IsTup s.heap t ws → IsTup h' t ws := fun ⟨o, ho, hc⟩ => ⟨o, keep _ _ ho, hc⟩
    refine ⟨oneType', fun Q' E hq => ?_, fun p q hm hm' => ?_⟩
    · refine kind_paths h2 (fun v hv => ?_) (fun v r e => ?_) hq
      · obtain ⟨t, ws, e, hw, _⟩ := tup v hv
        exact ⟨t, ws, e, tk hw⟩
      · have hv : v ∈ its := by rw [e]; exact List.mem_cons_self ..
        obtain ⟨t, ws, e', hw, hi⟩ := tup v hv
        refine ⟨t, ws, e', tk hw, ?_⟩
        have ex : xs[0]? = some (backV v) := by rw [e1, e]; rfl
        rw [hx0 _ ex] at hi
        have : ws.toList = [] := by
          generalize ws.toList = l at hi
          cases hi
          rfl
        obtain ⟨l⟩ := ws
        simp only at this
        subst this
        rfl
    · obtain ⟨t, ws, ev, hw, hi⟩ := tup _ hm
      obtain ⟨t', ws', ev', hw', hi'⟩ := tup _ hm'
      show wpAny (model X.prog X.w) X.A.in1.in1 (keyLt' oneType' p.1 q.1) (fun r s' => s' = _ ∧ r = HT.lexLt (k (backV p.1)) (k (backV q.1))) (fun _ _ => False) _
      rw [ev, ev'] at *
      exact keyLt_tup (tk hw) (tk hw') hi hi' hu ⟨rfl, rfl⟩
  · obtain ⟨ep, he'⟩ := PyProof.Rows.sortedAll_at s.heap its out.toArray
    have h3 : ∀ u ∈ out, ∃ a, u = Value.ref a := fun u hu => e2 u (h2.perm.mem_iff.mp hu)
    have hp : (out.map backV).Perm xs := by
      rw [e1]
      exact h2.perm.map backV
    refine ⟨.ref (s.heap.objs.size + 1), upd H (s.heap.objs.size + 1) (.lst (out.map backV)), I.laid (t' := s.toks) (fun _ _ => PyProof.Rows.sortedAll_old) (Nat.le_succ _) ⟨?_, out, ep, vals_back h3, he'⟩, rfl, q _ _ hp (SrtO.srtd_map h1) (I.hok.fresh (Nat.le_succ _))⟩
    rw [hp.length_eq]
    exact hz
end
end Nl

namespace Nl
open PySem PySem.Spec PyProof.Rows L2
/-! ### data that never changes: numbers, texts, None and tuples of such -/
/-- a tuple that was made, at a -/
def Tp (H : Hp) (a : Addr) (xs : List V) : Prop := H a = some (.tup xs)
mutual
inductive DT (K : PySem.W.Frag) (H : Hp) : V → PyData → Prop
  | non : DT K H .non .none
  | bl (b : Bool) : DT K H (.bl b) (.bool b)
  | int (i : Int) : DT K H (.int i) (.int i)
  | str (x : Str) : DT K H (.str x) (.str x)
  | tup {a : Addr} {xs : List V} {ds : List PyData} : Tp H a xs → DTs K H xs ds → DT K H (.ref a) (.tuple ds)
inductive DTs (K : PySem.W.Frag) (H : Hp) : List V → List PyData → Prop
  | nil : DTs K H [] []
  | cons {v : V} {vs : List V} {d : PyData} {ds : List PyData} : DT K H v d → DTs K H vs ds → DTs K H (v :: vs) (d :: ds)
end
section
variable {K : PySem.W.Frag} {H H' : Hp}
theorem Tp.of {a : Addr} {xs : List V} (h : H a = some (.tup xs)) : Tp H a xs := h
theorem Tp.sq {a : Addr} {xs : List V} (h : Tp H a xs) : SqT K H a xs := SqT.of h
instance instTpSq {a : Addr} {xs : List V} : Coe (Tp H a xs) (SqT K H a xs) := ⟨Tp.sq⟩
mutual
theorem DT.mono (hs : ∀ a xs, Tp H a xs → Tp H' a xs) : ∀ (d : PyData) (v : V), DT K H v d → DT K H' v d
  | .none, _, h => by cases h; exact .non
  | .bool _, _, h => by cases h; exact .bl _
  | .int _, _, h => by cases h; exact .int _
  | .str _, _, h => by cases h; exact .str _
  | .tuple ds, _, h => by
    cases h with
    | tup h1 h2 => exact .tup (hs _ _ h1) (DTs.mono hs ds _ h2)
  | .list _, _, h => by cases h
  | .dict _, _, h => by cases h
theorem DTs.mono (hs : ∀ a xs, Tp H a xs → Tp H' a xs) : ∀ (ds : List PyData) (vs : List V), DTs K H vs ds → DTs K H' vs ds
  | [], _, h => by cases h; exact .nil
  | d :: ds, _, h => by
    cases h with
    | cons h1 h2 => exact .cons (DT.mono hs d _ h1) (DTs.mono hs ds _ h2)
end
mutual
theorem DT.dp : ∀ (d : PyData) (v : V), DT K H v d → Dp K H v d
  | .none, _, h => by cases h; exact .non
  | .bool _, _, h => by cases h; exact .bl _
  | .int _, _, h => by cases h; exact .int _
  | .str _, _, h => by cases h; exact .str _
  | .tuple ds, _, h => by
    cases h with
    | tup h1 h2 => exact .tup h1 (DTs.dp ds _ h2)
  | .list _, _, h => by cases h
  | .dict _, _, h => by cases h
theorem DTs.dp : ∀ (ds : List PyData) (vs : List V), DTs K H vs ds → DpAll K H vs ds
  | [], _, h => by cases h; exact .nil
  | d :: ds, _, h => by
    cases h with
    | cons h1 h2 => exact .cons (DT.dp d _ h1) (DTs.dp ds _ h2)
end
theorem tp_same {a : Addr} {xs : List V} (s : Same H H') (h : Tp H a xs) : Tp H' a xs := s _ _ h
/-- what stands at d is a list -/
def IsL (H : Hp) (d : Addr) : Prop := ∃ ys, H d = some (.lst ys)
theorem tp_xt {d a : Addr} {xs : List V} (g : IsL H d) (s : Xt d H H') (h : Tp H a xs) : Tp H' a xs := by
  obtain ⟨ys, g⟩ := g
  exact s _ _ (ne_of h g (by intro z; cases z)) h
theorem DT.same {v : V} {d : PyData} (h : DT K H v d) (s : Same H H') : DT K H' v d := DT.mono (fun _ _ => tp_same s) d v h
theorem DTs.same {v : List V} {d : List PyData} (h : DTs K H v d) (s : Same H H') : DTs K H' v d := DTs.mono (fun _ _ => tp_same s) d v h
theorem DT.xt {v : V} {d : PyData} {p : Addr} (h : DT K H v d) (g : IsL H p) (s : Xt p H H') : DT K H' v d := DT.mono (fun _ _ => tp_xt g s) d v h
theorem DTs.xt {v : List V} {d : List PyData} {p : Addr} (h : DTs K H v d) (g : IsL H p) (s : Xt p H H') : DTs K H' v d := DTs.mono (fun _ _ => tp_xt g s) d v h
theorem DT.inv {v : V} {ds : List PyData} (h : DT K H v (.tuple ds)) : ∃ a xs, v = .ref a ∧ Tp H a xs ∧ DTs K H xs ds := by
  cases h with
  | tup h1 h2 => exact ⟨_, _, rfl, h1, h2⟩
theorem DTs.len : ∀ {xs : List V} {ds : List PyData}, DTs K H xs ds → xs.length = ds.length
  | _, _, .nil => rfl
  | _, _, .cons _ t => congrArg (· + 1) (DTs.len t)
theorem DTs.inv1 {xs : List V} {d : PyData} (h : DTs K H xs [d]) : ∃ x, xs = [x] ∧ DT K H x d := by
  cases h with
  | cons h1 h2 =>
    cases h2
    exact ⟨_, rfl, h1⟩
theorem DTs.inv2 {xs : List V} {d e : PyData} (h : DTs K H xs [d, e]) : ∃ x y, xs = [x, y] ∧ DT K H x d ∧ DT K H y e := by
  cases h with
  | cons h1 h2 =>
    obtain ⟨y, rfl, h3⟩ := h2.inv1
    exact ⟨_, _, rfl, h1, h3⟩
theorem DT.inv2 {v : V} {d e : PyData} (h : DT K H v (.tuple [d, e])) : ∃ a x y, v = .ref a ∧ Tp H a [x, y] ∧ DT K H x d ∧ DT K H y e := by
  obtain ⟨a, xs, rfl, h1, h2⟩ := h.inv
  obtain ⟨x, y, rfl, h3, h4⟩ := h2.inv2
  exact ⟨a, x, y, rfl, h1, h3, h4⟩
theorem DT.mk2 {a : Addr} {x y : V} {d e : PyData} (h : Tp H a [x, y]) (h1 : DT K H x d) (h2 : DT K H y e) : DT K H (.ref a) (.tuple [d, e]) := .tup h (.cons h1 (.cons h2 .nil))
theorem DT.int_inv {v : V} {i : Int} (h : DT K H v (.int i)) : v = .int i := by cases h; rfl
theorem DTs.get : ∀ {xs : List V} {ds : List PyData} {i : Nat} {x : V}, DTs K H xs ds → xs[i]? = some x → ∃ d, ds[i]? = some d ∧ DT K H x d
  | _, _, _, _, .nil, e => by simp at e
  | _, _, 0, _, .cons r _, e => by simp at e; subst e; exact ⟨_, rfl, r⟩
  | _, _, i + 1, x, .cons _ t, e => by
    obtain ⟨u, h1, h2⟩ := DTs.get (i := i) (x := x) t (by simpa using e)
    exact ⟨u, by simpa using h1, h2⟩
theorem DTs.at_ : ∀ {xs : List V} {ds : List PyData} {i : Nat} {d : PyData}, DTs K H xs ds → ds[i]? = some d → ∃ x, xs[i]? = some x ∧ DT K H x d
  | _, _, _, _, .nil, e => by simp at e
  | _, _, 0, _, .cons r _, e => by simp at e; subst e; exact ⟨_, rfl, r⟩
  | _, _, i + 1, x, .cons _ t, e => by
    obtain ⟨u, h1, h2⟩ := DTs.at_ (i := i) (d := x) t (by simpa using e)
    exact ⟨u, by simpa using h1, h2⟩
theorem DTs.app : ∀ {xs ys : List V} {ds es : List PyData}, DTs K H xs ds → DTs K H ys es → DTs K H (xs ++ ys) (ds ++ es)
  | _, _, _, _, .nil, h => h
  | _, _, _, _, .cons a t, h => .cons a (t.app h)
theorem DTs.snoc {xs : List V} {ds : List PyData} {x : V} {d : PyData} (h : DTs K H xs ds) (g : DT K H x d) : DTs K H (xs ++ [x]) (ds ++ [d]) := h.app (.cons g .nil)
theorem DTs.drop : ∀ {xs : List V} {ds : List PyData} (n : Nat), DTs K H xs ds → DTs K H (xs.drop n) (ds.drop n)
  | _, _, 0, h => h
  | _, _, _ + 1, .nil => .nil
  | _, _, n + 1, .cons _ t => t.drop n
theorem DTs.take : ∀ {xs : List V} {ds : List PyData} (n : Nat), DTs K H xs ds → DTs K H (xs.take n) (ds.take n)
  | _, _, 0, _ => .nil
  | _, _, _ + 1, .nil => .nil
  | _, _, n + 1, .cons h t => .cons h (t.take n)
theorem DTs.ints {ns : List Int} : ∀ {xs : List V}, DTs K H xs (ns.map PyData.int) → xs = ns.map V.int := by
  induction ns with
  | nil =>
    intro xs h
    cases h
    rfl
  | cons n ns ih =>
    intro xs h
    cases h with
    | cons h1 h2 => rw [h1.int_inv, ih h2]; rfl
theorem DTs.of_ints : ∀ (ns : List Int), DTs K H (ns.map V.int) (ns.map PyData.int)
  | [] => .nil
  | _ :: r => .cons (.int _) (DTs.of_ints r)
/-- a fraction -/
theorem DT.fr_inv {v : V} {q : Int × Int} (h : DT K H v (frD q)) : ∃ p, v = .ref p ∧ Tp H p [.int q.1, .int q.2] := by
  obtain ⟨a, x, y, rfl, h1, h2, h3⟩ := h.inv2
  rw [h2.int_inv, h3.int_inv] at h1
  exact ⟨a, rfl, h1⟩
theorem DT.fr {p : Addr} {q : Int × Int} (h : Tp H p [.int q.1, .int q.2]) : DT K H (.ref p) (frD q) := .mk2 h (.int _) (.int _)
/-- a path -/
def pathD (p : List Int) : PyData := .tuple (p.map PyData.int)
theorem DT.path_inv {v : V} {p : List Int} (h : DT K H v (pathD p)) : ∃ a, v = .ref a ∧ Tp H a (p.map V.int) := by
  obtain ⟨a, xs, rfl, h1, h2⟩ := h.inv
  rw [h2.ints] at h1
  exact ⟨a, rfl, h1⟩
theorem DT.path {a : Addr} {p : List Int} (h : Tp H a (p.map V.int)) : DT K H (.ref a) (pathD p) := .tup h (.of_ints p)
end
/-! ### trees -/
abbrev Pr := (Int × Int) × (Int × Int)
inductive Node where
  | mk (ps : List Pr) (ks : List Node)
def Node.ps : Node → List Pr
  | .mk ps _ => ps
def Node.ks : Node → List Node
  | .mk _ ks => ks
def prD (p : Pr) : PyData := .tuple [frD p.1, frD p.2]
def pricesD (ps : List Pr) : PyData := .tuple (ps.map prD)
mutual
def nodeD : Node → PyData
  | .mk ps ks => .tuple [pricesD ps, .tuple (nodesD ks)]
def nodesD : List Node → List PyData
  | [] => []
  | n :: r => nodeD n :: nodesD r
end
theorem nodesD_map : ∀ ks : List Node, nodesD ks = ks.map nodeD
  | [] => rfl
  | n :: r => by rw [nodesD, nodesD_map r]; rfl
theorem nodeD_eq (n : Node) : nodeD n = .tuple [pricesD n.ps, .tuple (n.ks.map nodeD)] := by
  cases n
  rw [nodeD, nodesD_map]
  rfl
abbrev PN := List Int × Node
def entD (e : PN) : PyData := .tuple [pathD e.1, nodeD e.2]
def kidsOf (e : PN) : List PN := e.2.ks.mapIdx fun i k => (e.1 ++ [(i : Int)], k)
mutual
def pre (p : List Int) : Node → List PN
  | .mk ps ks => (p, .mk ps ks) :: pres p 0 ks
def pres (p : List Int) (i : Nat) : List Node → List PN
  | [] => []
  | n :: r => pre (p ++ [(i : Int)]) n ++ pres p (i + 1) r
end
def preE (e : PN) : List PN := pre e.1 e.2
theorem pres_eq (p : List Int) : ∀ (ks : List Node) (i : Nat), pres p i ks = (ks.mapIdx fun j k => (p ++ [((i + j : Nat) : Int)], k)).flatMap preE
  | [], i => rfl
  | n :: r, i => by
    rw [pres, List.mapIdx_cons, List.flatMap_cons, pres_eq p r (i + 1)]
    have e : ∀ j : Nat, i + 1 + j = i + (j + 1) := fun j => by omega
    simp only [Nat.add_zero, e]
    rfl
theorem preE_eq (e : PN) : preE e = e :: (kidsOf e).flatMap preE := by
  obtain ⟨p, n⟩ := e
  cases n with
  | mk ps ks =>
    show pre p (.mk ps ks) = _
    rw [pre, pres_eq]
    simp only [Nat.zero_add]
    rfl
theorem le_sum {x : Nat} : ∀ {l : List Nat}, x ∈ l → x ≤ l.sum
  | [], h => by cases h
  | y :: l, h => by
    rw [List.sum_cons]
    rcases List.mem_cons.mp h with rfl | h
    · omega
    · have := le_sum h
      omega
/-- paths behind p -/
theorem pre_ext : ∀ (n : Nat) (e x : PN), (preE e).length ≤ n → x ∈ preE e → ∃ r, x.1 = e.1 ++ r
  | 0, e, x, hl, hx => by
    rw [preE_eq] at hl
    simp at hl
  | n + 1, e, x, hl, hx => by
    rw [preE_eq] at hl hx
    rcases List.mem_cons.mp hx with rfl | hx
    · exact ⟨[], by simp⟩
    · obtain ⟨k, hk, hxk⟩ := List.mem_flatMap.mp hx
      have hlen : (preE k).length ≤ n := by
        have h1 : (preE k).length ≤ ((kidsOf e).flatMap preE).length := by
          rw [List.length_flatMap]
          exact le_sum (List.mem_map.mpr ⟨k, hk, rfl⟩)
        rw [List.length_cons] at hl
        omega
      obtain ⟨r, hr⟩ := pre_ext n k x hlen hxk
      obtain ⟨i, hi, rfl⟩ := List.mem_mapIdx.mp hk
      exact ⟨(i : Int) :: r, by rw [hr]; simp⟩
theorem pre_len : ∀ (n : Nat) (e x : PN), (preE e).length ≤ n → x ∈ preE e → x.1.length < e.1.length + (preE e).length
  | 0, e, x, hl, hx => by
    rw [preE_eq] at hl
    simp at hl
  | n + 1, e, x, hl, hx => by
    rw [preE_eq] at hl hx
    rcases List.mem_cons.mp hx with rfl | hx
    · have : 0 < (preE x).length := by rw [preE_eq]; simp
      omega
    · obtain ⟨k, hk, hxk⟩ := List.mem_flatMap.mp hx
      have h1 : (preE k).length ≤ ((kidsOf e).flatMap preE).length := by
        rw [List.length_flatMap]
        exact le_sum (List.mem_map.mpr ⟨k, hk, rfl⟩)
      rw [List.length_cons] at hl
      have h2 := pre_len n k x (by omega) hxk
      obtain ⟨i, hi, rfl⟩ := List.mem_mapIdx.mp hk
      have h3 : (preE e).length = 1 + ((kidsOf e).flatMap preE).length := by rw [preE_eq]; simp; omega
      simp only [List.length_append, List.length_singleton] at h2
      omega
section
variable {X : Cx}
theorem OpR.imp {f : Value → Value → Sem Value} {r r' : R2} (h : OpR X f r) (hi : ∀ x y H Q, r' x y H Q → r x y H Q) : OpR X f r' := fun pins s σ H x y v u Q I rx ry q => h pins s σ H x y v u Q I rx ry (hi _ _ _ _ q)
def rCatP (K : PySem.W.Frag) : R2 := fun x y H Q => ∃ a b xs ys, x = .ref a ∧ y = .ref b ∧ Tp H a xs ∧ Tp H b ys ∧ xs.length + ys.length ≤ sizeLine ∧ ∀ p H', Same H H' → Tp H' p (xs ++ ys) → Q (.ref p) H'
theorem op_catP : OpR X (binaryOp .Add) (rCatP X.K) := OpR.imp op_catA fun x y H Q ⟨a, b, xs, ys, ex, ey, ha, hb, hl, q⟩ => ⟨a, b, xs, ys, ex, ey, ha, hb, hl,
  fun e => q b H (Same.refl H) (by rw [e]; exact hb), fun _ e => q a H (Same.refl H) (by rw [e, List.append_nil]; exact ha), fun _ _ p hp => q p _ (same_new hp) (Tp.of upd_same)⟩
theorem SlR.imp {r r' : V → Option Int → Option Int → Hp → VK → Prop} (h : SlR X r) (hi : ∀ x lo u H Q, r' x lo u H Q → r x lo u H Q) : SlR X r' := fun pins s σ H x v vl vu lo u sl Q I rx hs pl pu q => h pins s σ H x v vl vu lo u sl Q I rx hs pl pu (hi _ _ _ _ _ q)
def rSlP (K : PySem.W.Frag) : V → Option Int → Option Int → Hp → VK → Prop := fun x lo u H Q => ∃ a xs, x = .ref a ∧ Tp H a xs ∧ ∀ p H', Same H H' → Tp H' p (cutV xs lo u) → Q (.ref p) H'
theorem cut_whole {xs : List V} {lo u : Option Int} (h : HT.sIx xs.length 0 lo = 0 ∧ HT.sIx xs.length xs.length u = xs.length) : cutV xs lo u = xs := by
  unfold cutV
  rw [h.1, h.2]
  simp
theorem sl_tupP : SlR X (rSlP X.K) := SlR.imp sl_tupA fun x lo u H Q ⟨a, xs, e, ha, q⟩ => ⟨a, xs, e, ha, fun h => q a H (Same.refl H) (by rw [cut_whole h]; exact ha), fun _ p hp => q p _ (same_new hp) (Tp.of upd_same)⟩
end
def tTruK (K : PySem.W.Frag) (ta : TE) : TT := fun σ H Q => ta σ H fun x H' => ∃ k, TruV K x H' k ∧ Q k H'
theorem same_mut {H H' : Hp} {p : Addr} {o : HO} (e : Same H H') (h : H p = none) : Same H (upd H' p o) := fun a u ha => by
  rw [upd_ne (ne_of_none ha h)]
  exact e a u ha
def cmpF (p q : Int × Int) : Int := if p.1 * q.2 < q.1 * p.2 then -1 else if q.1 * p.2 < p.1 * q.2 then 1 else 0
def FB (p : Int × Int) : Prop := Bd 4000 p.1 ∧ Bd 4000 p.2
theorem FB.of {k : Nat} {p : Int × Int} (h : Ok k p) (hk : k ≤ 4000) : FB p := ⟨h.b1.mono hk, h.b2.mono hk⟩
theorem fb_zero : FB (0, 1) := FB.of ok_zero (by decide)
theorem mulF3 {i j : Int} (ha : Bd 4000 i) (hb : Bd 4000 j) : CMulW i j := mulX ha hb
def PrK (k : Nat) (p : Pr) : Prop := Ok k p.1 ∧ Ok k p.2
theorem PrK.mono {k m : Nat} {p : Pr} (h : PrK k p) (e : k ≤ m) : PrK m p := ⟨h.1.mono e, h.2.mono e⟩
abbrev PrB (p : Pr) : Prop := PrK 3400 p
def badPr (p : Pr) : Prop := cmpF p.2 (0, 1) < 0 ∨ cmpF p.1 p.2 < 0
def badPs (g : Int) (ps : List Pr) : Prop := (ps.length : Int) ≠ g - 1 ∨ ∃ p ∈ ps, badPr p
def marketD (g : Int) (n : Node) : PyData := .tuple [.int g, nodeD n]
def NodeB (n : Node) : Prop := ∀ e ∈ pre [] n, ∀ p ∈ e.2.ps, PrB p
theorem len1000 {n : Nat} (h : n ≤ 1000) : n ≤ sizeLine := Nat.le_trans h (by decide)
theorem kids_get {e : PN} {i : Nat} {k : Node} (h : e.2.ks[i]? = some k) : (kidsOf e)[i]? = some (e.1 ++ [(i : Int)], k) := by
  unfold kidsOf
  rw [List.getElem?_mapIdx, h]
  rfl
theorem kids_len (e : PN) : (kidsOf e).length = e.2.ks.length := List.length_mapIdx
theorem preE_pos (e : PN) : 0 < (preE e).length := by
  rw [preE_eq]
  simp
theorem kids_le (e : PN) : (kidsOf e).length < (preE e).length := by
  rw [preE_eq, List.length_cons, List.length_flatMap]
  have : ∀ l : List PN, l.length ≤ (l.map fun a => (preE a).length).sum := by
    intro l
    induction l with
    | nil => simp
    | cons a l ih =>
      have := preE_pos a
      simp only [List.map_cons, List.sum_cons, List.length_cons]
      omega
  have := this (kidsOf e)
  omega
theorem DT.entD_inv {K : PySem.W.Frag} {H : Hp} {v : V} {e : PN} (h : DT K H v (entD e)) : ∃ a x y, v = .ref a ∧ Tp H a [x, y] ∧ DT K H x (pathD e.1) ∧ DT K H y (nodeD e.2) := h.inv2
theorem DT.node_inv {K : PySem.W.Frag} {H : Hp} {v : V} {n : Node} (h : DT K H v (nodeD n)) : ∃ a x y, v = .ref a ∧ Tp H a [x, y] ∧ DT K H x (pricesD n.ps) ∧ DT K H y (.tuple (n.ks.map nodeD)) := by
  rw [nodeD_eq] at h
  exact h.inv2
theorem DT.market_inv {K : PySem.W.Frag} {H : Hp} {v : V} {g : Int} {n : Node} (h : DT K H v (marketD g n)) : ∃ a y, v = .ref a ∧ Tp H a [.int g, y] ∧ DT K H y (nodeD n) := by
  obtain ⟨a, x, y, rfl, h1, h2, h3⟩ := h.inv2
  rw [h2.int_inv] at h1
  exact ⟨a, y, rfl, h1, h3⟩
theorem len_le_flat : ∀ l : List PN, l.length ≤ (l.flatMap preE).length
  | [] => by simp
  | a :: l => by
    have := preE_pos a
    have := len_le_flat l
    simp only [List.flatMap_cons, List.length_append, List.length_cons]
    omega
/-- the node at a path -/
def find : Node → List Int → Option Node
  | n, [] => some n
  | n, i :: r => if 0 ≤ i then (n.ks[i.toNat]?).bind fun k => find k r else none
theorem find_cons (n : Node) (i : Nat) (r : List Int) : find n ((i : Int) :: r) = (n.ks[i]?).bind fun k => find k r := by
  rw [find, if_pos (by omega)]
  rfl
theorem find_out {n : Node} {i : Int} {r : List Int} (h : ¬ (0 ≤ i ∧ i < (n.ks.length : Int))) : find n (i :: r) = none := by
  rw [find]
  by_cases h0 : 0 ≤ i
  · rw [if_pos h0, List.getElem?_eq_none (by omega)]
    rfl
  · rw [if_neg h0]
theorem pre_find : ∀ (n : Nat) (e x : PN), (preE e).length ≤ n → x ∈ preE e → ∃ r, x.1 = e.1 ++ r ∧ find e.2 r = some x.2
  | 0, e, x, hl, hx => by
    rw [preE_eq] at hl
    simp at hl
  | n + 1, e, x, hl, hx => by
    rw [preE_eq] at hl hx
    rcases List.mem_cons.mp hx with rfl | hx
    · exact ⟨[], by simp, rfl⟩
    · obtain ⟨k, hk, hxk⟩ := List.mem_flatMap.mp hx
      have h1 : (preE k).length ≤ ((kidsOf e).flatMap preE).length := by
        rw [List.length_flatMap]
        exact le_sum (List.mem_map.mpr ⟨k, hk, rfl⟩)
      rw [List.length_cons] at hl
      obtain ⟨r, hr, hf⟩ := pre_find n k x (by omega) hxk
      obtain ⟨i, hi, rfl⟩ := List.mem_mapIdx.mp hk
      refine ⟨(i : Int) :: r, by rw [hr]; simp, ?_⟩
      rw [find_cons, List.getElem?_eq_getElem hi]
      exact hf
/-- the times of the ends -/
def endLens (n : Node) : List Nat := ((pre [] n).filter fun e => e.2.ks.isEmpty).map fun e => e.1.length
theorem some_end : ∀ (n : Nat) (e : PN), (preE e).length ≤ n → ∃ x ∈ preE e, x.2.ks = []
  | 0, e, hl => by
    rw [preE_eq] at hl
    simp at hl
  | n + 1, e, hl => by
    cases hk : e.2.ks with
    | nil => exact ⟨e, by rw [preE_eq]; exact List.mem_cons_self .., hk⟩
    | cons k ks =>
      have h0 : (kidsOf e)[0]? = some (e.1 ++ [((0 : Nat) : Int)], k) := kids_get (by rw [hk]; rfl)
      have hm := List.mem_of_getElem? h0
      have h1 : (preE (e.1 ++ [((0 : Nat) : Int)], k)).length ≤ ((kidsOf e).flatMap preE).length := by
        rw [List.length_flatMap]
        exact le_sum (List.mem_map.mpr ⟨_, hm, rfl⟩)
      rw [preE_eq, List.length_cons] at hl
      obtain ⟨x, hx, hz⟩ := some_end n _ (Nat.le_trans h1 (by omega))
      refine ⟨x, ?_, hz⟩
      rw [preE_eq]
      exact List.mem_cons_of_mem _ (List.mem_flatMap.mpr ⟨_, hm, hx⟩)
theorem ends_pos (n : Node) : 0 < (endLens n).length := by
  obtain ⟨x, hx, hz⟩ := some_end _ ([], n) (Nat.le_refl _)
  unfold endLens
  rw [List.length_map]
  exact List.length_pos_of_mem (List.mem_filter.mpr ⟨hx, by rw [hz]; rfl⟩)
def BadM (g : Int) (n : Node) : Prop := ¬ (1 ≤ g ∧ g ≤ 4) ∨ (∃ e ∈ pre [] n, badPs g e.2.ps) ∨ ∃ a ∈ endLens n, ∃ b ∈ endLens n, a ≠ b
def BigM (n : Node) : Prop := 40 < (pre [] n).length ∨ ∃ a ∈ endLens n, 5 < a
theorem tru_tup {K : PySem.W.Frag} {H : Hp} {a : Addr} {xs : List V} (h : Tp H a xs) : TruV K (.ref a) H (!xs.isEmpty) := .inr (.inl ⟨xs, h, rfl⟩)
theorem tru_tup' {K : PySem.W.Frag} {H : Hp} {a : Addr} {xs : List V} {b : Bool} (h : Tp H a xs) (e : xs.isEmpty = b) : TruV K (.ref a) H (!b) := .inr (.inl ⟨xs, h, by rw [e]⟩)
theorem tru_lst {K : PySem.W.Frag} {H : Hp} {a : Addr} {xs : List V} (h : SqL K H a xs) : TruV K (.ref a) H (!xs.isEmpty) := .inl ⟨xs, h, rfl⟩
theorem filter_next {α : Type} {l : List α} {i : Nat} {x : α} {p : α → Bool} (h : l[i]? = some x) : (l.take (i + 1)).filter p = (l.take i).filter p ++ (if p x then [x] else []) := by
  rw [take_next h, List.filter_append]
  congr 1
  by_cases hp : p x
  · simp [hp]
  · simp [hp]
theorem find_preE : ∀ (r : List Int) (e : PN) (m : Node), find e.2 r = some m → (e.1 ++ r, m) ∈ preE e
  | [], e, m, h => by
    have : e.2 = m := Option.some.inj h
    rw [preE_eq, List.append_nil, ← this]
    exact List.mem_cons_self ..
  | i :: r, e, m, h => by
    by_cases hi : 0 ≤ i ∧ i < (e.2.ks.length : Int)
    · obtain ⟨j, rfl⟩ := Int.eq_ofNat_of_zero_le hi.1
      have hk : e.2.ks[j]? = some e.2.ks[j] := List.getElem?_eq_getElem (by omega)
      rw [find_cons, hk] at h
      have ih := find_preE r (e.1 ++ [(j : Int)], e.2.ks[j]) m h
      rw [preE_eq]
      refine List.mem_cons_of_mem _ (List.mem_flatMap.mpr ⟨_, List.mem_of_getElem? (kids_get hk), ?_⟩)
      simpa using ih
    · rw [find_out hi] at h
      cases h
theorem find_pre (n : Node) (p : List Int) (m : Node) (h : find n p = some m) : ∃ e ∈ pre [] n, e.2 = m := ⟨_, find_preE p ([], n) m h, rfl⟩
/-! ### drawn markets -/
def leF (p q : Int × Int) : Prop := p.1 * q.2 ≤ q.1 * p.2
theorem frac_nonneg {a b : Int} (ha : 0 ≤ a) (hb : 0 < b) : 0 ≤ (frac a b).1 := by
  have c := frac_cross (a := a) (show b ≠ 0 by omega)
  have l := (frac_low (a := a) (show b ≠ 0 by omega)).pos
  by_cases h : 0 ≤ (frac a b).1
  · exact h
  · have h1 := Int.mul_neg_of_neg_of_pos (show (frac a b).1 < 0 by omega) hb
    have h2 := Int.mul_nonneg ha (Int.le_of_lt l)
    omega
theorem frac_le {a b c : Int} (hb : 0 < b) (h : a ≤ c) : leF (frac a b) (frac c b) := by
  have h1 := frac_cross (a := a) (show b ≠ 0 by omega)
  have h2 := frac_cross (a := c) (show b ≠ 0 by omega)
  have l1 := (frac_low (a := a) (show b ≠ 0 by omega)).pos
  have l2 := (frac_low (a := c) (show b ≠ 0 by omega)).pos
  unfold leF
  generalize frac a b = x at *
  generalize frac c b = y at *
  have e1 : x.1 * y.2 * b = a * (x.2 * y.2) := by
    rw [Int.mul_assoc, Int.mul_comm y.2 b, ← Int.mul_assoc, h1, Int.mul_assoc]
  have e2 : y.1 * x.2 * b = c * (x.2 * y.2) := by
    rw [Int.mul_assoc, Int.mul_comm x.2 b, ← Int.mul_assoc, h2, Int.mul_assoc, Int.mul_comm y.2 x.2]
  have h3 : x.1 * y.2 * b ≤ y.1 * x.2 * b := by
    rw [e1, e2]
    exact Int.mul_le_mul_of_nonneg_right h (Int.le_of_lt (Int.mul_pos l1 l2))
  exact Int.le_of_mul_le_mul_right h3 hb
theorem cmp_le {p q : Int × Int} (h : leF q p) : ¬ cmpF p q < 0 := by
  unfold leF at h
  unfold cmpF
  rw [if_neg (by omega)]
  split <;> omega
theorem cmp_zero {p : Int × Int} (h : 0 ≤ p.1) : ¬ cmpF p (0, 1) < 0 := cmp_le (by
  unfold leF
  simp
  exact h)
theorem good_pair {m s : Int × Int} (hm : 0 ≤ m.1) (pm : 0 < m.2) (hs : 0 ≤ s.1) (ps : 0 < s.2) (low : Int × Int) (hl : low = subF m s ∧ 0 ≤ low.1 ∨ low = (0, 1)) : ¬ badPr (addF m s, low) := by
  have den := Int.mul_pos pm ps
  rintro (h | h)
  · rcases hl with ⟨rfl, h0⟩ | rfl
    · exact cmp_zero h0 h
    · exact cmp_zero (p := (0, 1)) (by decide) h
  · have h1 : 0 ≤ m.1 * s.2 := Int.mul_nonneg hm (Int.le_of_lt ps)
    have h2 : 0 ≤ s.1 * m.2 := Int.mul_nonneg hs (Int.le_of_lt pm)
    rcases hl with ⟨rfl, h0⟩ | rfl
    · exact cmp_le (frac_le den (by omega)) h
    · exact cmp_zero (frac_nonneg (by omega) den) h
structure PsOk (g : Int) (ps : List Pr) : Prop where
  len : (ps.length : Int) = g - 1
  good : ∀ p ∈ ps, ¬ badPr p
  b : ∀ p ∈ ps, PrK 201 p
theorem PsOk.bad {g : Int} {ps : List Pr} (h : PsOk g ps) : ¬ badPs g ps := by
  rintro (z | ⟨p, hp, z⟩)
  · exact z h.len
  · exact h.good p hp z
def NV (g : Int) : Nat → Node → Prop
  | 0, n => PsOk g n.ps ∧ n.ks = []
  | m + 1, n => PsOk g n.ps ∧ 0 < n.ks.length ∧ n.ks.length ≤ 3 ∧ ∀ k ∈ n.ks, NV g m k
def cnt : Nat → Nat
  | 0 => 1
  | m + 1 => 1 + 3 * cnt m
theorem NV.ps {g : Int} : ∀ {m : Nat} {n : Node}, NV g m n → PsOk g n.ps
  | 0, _, h => h.1
  | _ + 1, _, h => h.1
theorem nv_pre {g : Int} : ∀ (m : Nat) (e : PN), NV g m e.2 → (∀ x ∈ preE e, PsOk g x.2.ps ∧ x.2.ks.length ≤ 3 ∧ x.1.length ≤ e.1.length + m ∧ (x.2.ks = [] → x.1.length = e.1.length + m)) ∧ (preE e).length ≤ cnt m
  | 0, e, h => by
    have hk : kidsOf e = [] := by
      unfold kidsOf
      rw [h.2]
      rfl
    rw [preE_eq, hk]
    refine ⟨fun x hx => ?_, by simp [cnt]⟩
    simp at hx
    subst hx
    exact ⟨h.1, by rw [h.2]; simp, by simp, fun _ => rfl⟩
  | m + 1, e, h => by
    obtain ⟨h1, h2, h3, h4⟩ := h
    have ih : ∀ k ∈ kidsOf e, (∀ x ∈ preE k, PsOk g x.2.ps ∧ x.2.ks.length ≤ 3 ∧ x.1.length ≤ e.1.length + (m + 1) ∧ (x.2.ks = [] → x.1.length = e.1.length + (m + 1))) ∧ (preE k).length ≤ cnt m := by
      intro k hk
      obtain ⟨i, hi, rfl⟩ := List.mem_mapIdx.mp hk
      obtain ⟨a, b⟩ := nv_pre m (e.1 ++ [(i : Int)], e.2.ks[i]) (h4 _ (List.getElem_mem hi))
      refine ⟨fun x hx => ?_, b⟩
      obtain ⟨q1, q2, q3, q4⟩ := a x hx
      simp only [List.length_append, List.length_singleton] at q3 q4
      exact ⟨q1, q2, by omega, fun z => by have := q4 z; omega⟩
    rw [preE_eq]
    refine ⟨fun x hx => ?_, ?_⟩
    · rcases List.mem_cons.mp hx with rfl | hx
      · exact ⟨h1, h3, by omega, fun z => by rw [z] at h2; simp at h2⟩
      · obtain ⟨k, hk, hx⟩ := List.mem_flatMap.mp hx
        exact (ih k hk).1 x hx
    · have : ∀ l : List PN, (∀ k ∈ l, (preE k).length ≤ cnt m) → (l.flatMap preE).length ≤ l.length * cnt m := by
        intro l
        induction l with
        | nil => simp
        | cons a l ih =>
          intro hl
          have a1 := hl a (by simp)
          have a2 := ih fun k hk => hl k (by simp [hk])
          simp only [List.flatMap_cons, List.length_append, List.length_cons, Nat.add_mul]
          omega
      have q := this (kidsOf e) fun k hk => (ih k hk).2
      rw [kids_len] at q
      have q2 := Nat.mul_le_mul_right (cnt m) h3
      simp only [List.length_cons, cnt]
      omega
theorem nv_good {g : Int} {m : Nat} {n : Node} (h : NV g m n) (hm : m ≤ 2) (h1 : 1 ≤ g) (h4 : g ≤ 4) : (¬ BadM g n ∧ ¬ BigM n) ∧ NodeB n ∧ (pre [] n).length ≤ 13 := by
  obtain ⟨a, b⟩ := nv_pre m ([], n) h
  have c13 : cnt m ≤ 13 := by
    match m, hm with
    | 0, _ => decide
    | 1, _ => decide
    | 2, _ => decide
  have lens : ∀ x ∈ endLens n, x = m := by
    intro x hx
    obtain ⟨e, he, rfl⟩ := List.mem_map.mp hx
    obtain ⟨he1, he2⟩ := List.mem_filter.mp he
    have := (a e he1).2.2.2 (List.isEmpty_iff.mp he2)
    simpa using this
  refine ⟨⟨?_, ?_⟩, fun e he p hp => ((a e he).1.b p hp).mono (by decide), Nat.le_trans b c13⟩
  · rintro (z | ⟨e, he, z⟩ | ⟨x, hx, y, hy, z⟩)
    · exact z ⟨h1, h4⟩
    · exact (a e he).1.bad z
    · exact z ((lens x hx).trans (lens y hy).symm)
  · rintro (z | ⟨x, hx, z⟩)
    · have : (pre [] n).length ≤ 13 := Nat.le_trans b c13
      omega
    · have := lens x hx
      omega
def kb : Nat → Nat
  | 0 => 4
  | m + 1 => 3 * kb m + 14
theorem xt_mut {H H' : Hp} {d p : Addr} {o : HO} (e : Xt d H H') (h : H p = none) : Xt d H (upd H' p o) := fun a u na ha => by
  rw [upd_ne (ne_of_none ha h)]
  exact e a u na ha
theorem xt_free {H H' : Hp} {d p : Addr} (e : Xt d H H') (hd : p ≠ d) (h : H' p = none) : H p = none := by
  cases q : H p with
  | none => rfl
  | some o =>
    rw [e p o hd q] at h
    cases h
/-- a drawn node with its mids -/
def ChildP (K : PySem.W.Frag) (ex : List Addr) (H : Hp) (v : V) (c : Node × List (Int × Int)) : Prop := ∃ a vn pm xs, v = .ref a ∧ Tp H a [vn, .ref pm] ∧ DT K H vn (nodeD c.1) ∧ H pm = some (.lst xs) ∧ DTs K H xs (c.2.map frD) ∧ ∀ x ∈ ex, pm ≠ x
theorem ChildP.xt {K : PySem.W.Frag} {ex : List Addr} {H H' : Hp} {v : V} {c : Node × List (Int × Int)} {p : Addr} (h : ChildP K ex H v c) (hp : p ∈ ex) (g : IsL H p) (s : Xt p H H') : ChildP K ex H' v c := by
  obtain ⟨a, vn, pm, xs, rfl, h1, h2, h3, h4, h5⟩ := h
  exact ⟨a, vn, pm, xs, rfl, tp_xt g s h1, h2.xt g s, s _ _ (h5 p hp) h3, h4.xt g s, h5⟩
theorem Dst.isL {H : Hp} {pd ps : Addr} (h : Dst H pd ps) : IsL H pd := h.lst
def All2 {β : Type} (P : V → β → Prop) (xs : List V) (cs : List β) : Prop := xs.length = cs.length ∧ ∀ (i : Nat) (x : V), xs[i]? = some x → ∃ c, cs[i]? = some c ∧ P x c
theorem All2.nil {β : Type} {P : V → β → Prop} : All2 P [] [] := ⟨rfl, fun i x e => by simp at e⟩
theorem All2.imp {β : Type} {P Q : V → β → Prop} {xs : List V} {cs : List β} (h : All2 P xs cs) (f : ∀ x c, P x c → Q x c) : All2 Q xs cs := ⟨h.1, fun i x e => by
  obtain ⟨c, h1, h2⟩ := h.2 i x e
  exact ⟨c, h1, f _ _ h2⟩⟩
theorem All2.snoc {β : Type} {P : V → β → Prop} {xs : List V} {cs : List β} {v : V} {q : β} (h : All2 P xs cs) (g : P v q) : All2 P (xs ++ [v]) (cs ++ [q]) := by
  refine ⟨by simp [h.1], fun i x e => ?_⟩
  by_cases hi : i < xs.length
  · rw [List.getElem?_append_left hi] at e
    obtain ⟨z, h1, h2⟩ := h.2 i x e
    exact ⟨z, by rw [List.getElem?_append_left (by rw [← h.1]; exact hi)]; exact h1, h2⟩
  · have hl := (List.getElem?_eq_some_iff.mp e).1
    rw [List.length_append, List.length_singleton] at hl
    have ei : i = xs.length := by omega
    subst ei
    rw [List.getElem?_concat_length] at e
    cases e
    exact ⟨q, by rw [h.1, List.getElem?_concat_length], g⟩
theorem All2.at_ {β : Type} {P : V → β → Prop} {xs : List V} {cs : List β} {i : Nat} {c : β} (h : All2 P xs cs) (e : cs[i]? = some c) : ∃ x, xs[i]? = some x ∧ P x c := by
  have il := (List.getElem?_eq_some_iff.mp e).1
  obtain ⟨c', h1, h2⟩ := h.2 i _ (List.getElem?_eq_getElem (by rw [h.1]; exact il))
  rw [e] at h1
  cases h1
  exact ⟨_, List.getElem?_eq_getElem (by rw [h.1]; exact il), h2⟩
/-! ### sorted paths -/
section
variable {X : Cx}
def rSortQ (K : PySem.W.Frag) : List V → Hp → VK → Prop := fun vs H Q => ∃ (a : Addr) (xs : List V) (ps : List (List Int)), vs = [V.ref a] ∧ SqL K H a xs ∧ DTs K H xs (ps.map pathD) ∧ (∀ p, ps[0]? = some p → p = []) ∧
  ∀ (ys : List V) (k : V → List Int) (p : Addr), ys.Perm xs → xs.map k = ps → SrtO.Srtd (ltK k) ys → H p = none → Q (.ref p) (upd H p (.lst ys))
theorem map_int_inj : ∀ {a b : List Int}, a.map V.int = b.map V.int → a = b
  | [], [], _ => rfl
  | [], _ :: _, h => by cases h
  | _ :: _, [], h => by cases h
  | x :: a, y :: b, h => by
    simp only [List.map_cons, List.cons.injEq, V.int.injEq] at h
    rw [h.1, map_int_inj h.2]
open Classical in
theorem cr_sortQ (hr : Room 2 X.A) : CallR X (.builtin "sorted") (rSortQ X.K) := by
  intro pins s σ H vs us Q I r h
  obtain ⟨a, xs, ps, rfl, hs, hd, h0, q⟩ := h
  let k : V → List Int := fun x => if h : ∃ p : List Int, ∃ t, x = V.ref t ∧ Tp H t (p.map V.int) then h.choose else []
  have lx : xs.length = ps.length := by rw [hd.len, List.length_map]
  have key : ∀ (i : Nat) (x : V), xs[i]? = some x → ∃ t, x = V.ref t ∧ Tp H t ((k x).map V.int) ∧ ps[i]? = some (k x) := by
    intro i x hx
    obtain ⟨d, hd1, hd2⟩ := hd.get hx
    rw [List.getElem?_map] at hd1
    obtain ⟨p, hp, rfl⟩ := Option.map_eq_some_iff.mp hd1
    obtain ⟨t, rfl, ht⟩ := hd2.path_inv
    have ex : ∃ p : List Int, ∃ t', V.ref t = V.ref t' ∧ Tp H t' (p.map V.int) := ⟨p, t, rfl, ht⟩
    have ek : k (V.ref t) = ex.choose := dif_pos ex
    obtain ⟨t', e', ht'⟩ := ex.choose_spec
    cases e'
    rw [← ek] at ht'
    have := map_int_inj (I.tuple_inj ht'.sq ht.sq)
    exact ⟨t, rfl, ht', by rw [this]; exact hp⟩
  refine cr_sortP hr pins s σ H _ us Q I r ⟨a, xs, k, rfl, hs, fun x hx => ?_, fun x hx => ?_, fun ys p hp hq hf => q ys k p hp ?_ hq hf⟩
  · obtain ⟨i, hi, rfl⟩ := List.mem_iff_getElem.mp hx
    obtain ⟨t, e, ht, _⟩ := key i _ (List.getElem?_eq_getElem hi)
    exact ⟨t, e, ht⟩
  · obtain ⟨t, e, ht, hp⟩ := key 0 x hx
    exact h0 _ hp
  · refine List.ext_getElem? fun i => ?_
    rw [List.getElem?_map]
    cases hx : xs[i]? with
    | none =>
      rw [List.getElem?_eq_none_iff] at hx
      rw [List.getElem?_eq_none (by omega)]
      rfl
    | some x =>
      obtain ⟨t, e, ht, hp⟩ := key i x hx
      rw [hp]
      rfl
end
theorem lex_pre (p a b : List Int) : HT.lexLt (p ++ a) (p ++ b) = HT.lexLt a b := by
  induction p with
  | nil => rfl
  | cons x p ih =>
    rw [List.cons_append, List.cons_append, HT.lexLt_cons, if_pos rfl]
    exact ih
theorem lex_anti : ∀ a b : List Int, HT.lexLt a b = false → HT.lexLt b a = false → a = b
  | [], [], _, _ => rfl
  | [], _ :: _, h, _ => by simp [HT.lexLt] at h
  | _ :: _, [], _, h => by simp [HT.lexLt] at h
  | x :: a, y :: b, h1, h2 => by
    rw [HT.lexLt_cons] at h1 h2
    by_cases e : x = y
    · rw [if_pos e] at h1
      rw [if_pos e.symm] at h2
      rw [e, lex_anti a b h1 h2]
    · rw [if_neg e] at h1
      rw [if_neg (Ne.symm e)] at h2
      have q1 := of_decide_eq_false h1
      have q2 := of_decide_eq_false h2
      exact absurd (show x = y by omega) e
theorem uniq_srt : ∀ {l m : List (List Int)}, l.Perm m → (l.Pairwise fun a b => HT.lexLt b a = false) → (m.Pairwise fun a b => HT.lexLt b a = false) → l = m
  | [], m, h, _, _ => (List.Perm.nil_eq h)
  | x :: l, [], h, _, _ => absurd h.length_eq (by simp)
  | x :: l, y :: m, h, h1, h2 => by
    have e : x = y := by
      rcases List.mem_cons.mp (h.mem_iff.mp (List.mem_cons_self (a := x) (l := l))) with e | hx
      · exact e
      · rcases List.mem_cons.mp (h.mem_iff.mpr (List.mem_cons_self (a := y) (l := m))) with e | hy
        · exact e.symm
        · exact lex_anti x y ((List.pairwise_cons.mp h2).1 x hx) ((List.pairwise_cons.mp h1).1 y hy)
    subst e
    rw [uniq_srt h.cons_inv (List.pairwise_cons.mp h1).2 (List.pairwise_cons.mp h2).2]
theorem pre_sorted : ∀ (n : Nat) (e : PN), (preE e).length ≤ n → (preE e).Pairwise fun a b => HT.lexLt a.1 b.1 = true
  | 0, e, h => by
    rw [preE_eq] at h
    simp at h
  | n + 1, e, h => by
    have hk : ∀ k ∈ kidsOf e, (preE k).length ≤ n := by
      intro k hk
      have h1 : (preE k).length ≤ ((kidsOf e).flatMap preE).length := by
        rw [List.length_flatMap]
        exact le_sum (List.mem_map.mpr ⟨_, hk, rfl⟩)
      rw [preE_eq, List.length_cons] at h
      omega
    rw [preE_eq]
    refine List.pairwise_cons.mpr ⟨fun x hx => ?_, List.pairwise_flatMap.mpr ⟨fun k hk' => pre_sorted n k (hk k hk'), ?_⟩⟩
    · obtain ⟨k, hk', hx⟩ := List.mem_flatMap.mp hx
      obtain ⟨r, hr⟩ := pre_ext n k x (hk k hk') hx
      obtain ⟨i, hi, rfl⟩ := List.mem_mapIdx.mp hk'
      rw [hr, List.append_assoc]
      have := lex_pre e.1 [] ([(i : Int)] ++ r)
      rw [List.append_nil] at this
      rw [this]
      rfl
    · rw [List.pairwise_iff_getElem]
      intro i j hi hj hij x hx y hy
      have ei : (kidsOf e)[i] = (e.1 ++ [(i : Int)], e.2.ks[i]'(by rw [kids_len] at hi; exact hi)) := Option.some.inj ((List.getElem?_eq_getElem hi).symm.trans (kids_get (List.getElem?_eq_getElem _)))
      have ej : (kidsOf e)[j] = (e.1 ++ [(j : Int)], e.2.ks[j]'(by rw [kids_len] at hj; exact hj)) := Option.some.inj ((List.getElem?_eq_getElem hj).symm.trans (kids_get (List.getElem?_eq_getElem _)))
      obtain ⟨r, hr⟩ := pre_ext n _ x (hk _ (List.getElem_mem hi)) hx
      obtain ⟨q, hq⟩ := pre_ext n _ y (hk _ (List.getElem_mem hj)) hy
      rw [ei] at hr
      rw [ej] at hq
      rw [hr, hq, List.append_assoc, List.append_assoc, lex_pre]
      show HT.lexLt ((i : Int) :: r) ((j : Int) :: q) = true
      rw [HT.lexLt_cons, if_neg (by omega)]
      exact decide_eq_true (by omega)
theorem flat_perm : ∀ F : List PN, (F.flatMap preE).Perm (F ++ (F.flatMap kidsOf).flatMap preE)
  | [] => by simp
  | e :: F => by
    have ih := flat_perm F
    rw [List.flatMap_cons, preE_eq, List.flatMap_cons, List.flatMap_append, List.cons_append, List.cons_append]
    refine List.Perm.cons e ?_
    refine (List.Perm.append_left _ ih).trans ?_
    rw [← List.append_assoc, ← List.append_assoc]
    exact List.Perm.append_right _ List.perm_append_comm
def lv (n : Node) : Nat → List PN
  | 0 => [([], n)]
  | t + 1 => (lv n t).flatMap kidsOf
def rowsN (n : Node) : Nat → List PN
  | 0 => []
  | t + 1 => rowsN n t ++ lv n t
theorem rows_perm (n : Node) : ∀ t, (pre [] n).Perm (rowsN n t ++ (lv n t).flatMap preE)
  | 0 => by
    show (pre [] n).Perm ([] ++ [([], n)].flatMap preE)
    simp [preE]
  | t + 1 => by
    refine (rows_perm n t).trans ?_
    show (rowsN n t ++ (lv n t).flatMap preE).Perm (rowsN n t ++ lv n t ++ ((lv n t).flatMap kidsOf).flatMap preE)
    rw [List.append_assoc]
    exact List.Perm.append_left _ (flat_perm (lv n t))
theorem lv_len (n : Node) : ∀ t, ∀ x ∈ lv n t, x.1.length = t
  | 0, x, h => by
    rw [List.mem_singleton.mp h]
    rfl
  | t + 1, x, h => by
    obtain ⟨y, hy, hx⟩ := List.mem_flatMap.mp h
    obtain ⟨i, hi, rfl⟩ := List.mem_mapIdx.mp hx
    simp [lv_len n t y hy]
theorem lv_mem (n : Node) (t : Nat) (x : PN) (h : x ∈ lv n t) : x ∈ pre [] n := by
  refine (rows_perm n (t + 1)).mem_iff.mpr (List.mem_append_left _ (List.mem_append_right _ h))
theorem rows_all {n : Node} (h : ∀ x ∈ pre [] n, x.1.length ≤ 6) : (pre [] n).Perm (rowsN n 7) := by
  have e : lv n 7 = [] := by
    cases q : lv n 7 with
    | nil => rfl
    | cons x l =>
      have hm : x ∈ lv n 7 := by rw [q]; exact List.mem_cons_self ..
      have h1 := lv_len n 7 x hm
      have h2 := h x (lv_mem n 7 x hm)
      omega
  have := rows_perm n 7
  rw [e] at this
  simpa using this
theorem paths_sorted (n : Node) : ((pre [] n).map (·.1)).Pairwise fun a b => HT.lexLt b a = false := by
  rw [List.pairwise_map]
  exact (pre_sorted _ ([], n) (Nat.le_refl _)).imp fun h => lex_asym _ _ h
/-! ### isinstance of a caught error whose class is told by what was wished -/
section
variable {X : Cx}
def rIsX (K : PySem.W.Frag) (cls : Value) (a : Addr) : List V → Hp → VK → Prop := fun xs H Q => ∃ (c : V) (cv : Value) (b : Bool), xs = [.ref a, c] ∧ (∀ u, RelV c u → u = cv) ∧ PySem.W.kitOne K cls cv = some b ∧ Q (.bl b) H
theorem call_isX {a : Addr} {oe : Obj} {cls : Value} {d : Option Addr} {pn : List (Addr × Obj)} (z : ∃ D, cls = .ref D ∧ d = none ∧ ExcC X.K D) (hz : Zc cls d oe) (hf : ∃ vs, oe.data = .fields vs) : CallR (X.suite a ((a, oe) :: pn)) (.builtin "isinstance") (rIsX X.K cls a) := by
  obtain ⟨D, rfl, rfl, C⟩ := z
  exact call_isE C hz hf
end
theorem kit_ref {K : PySem.W.Frag} {D C : Addr} {b : Bool} (h : PySem.W.hasDictIn K C = true) (t : PySem.W.typeIn K (.ref C) = some (.type "type")) (s : PySem.W.subIn K (.ref D) (.ref C) = some b) (r : PySem.W.subIn K (.ref D) (.ref D) = some true) : PySem.W.kitOne K (.ref D) (.ref C) = some b := by
  unfold PySem.W.kitOne
  by_cases e : D = C
  · subst e
    rw [r] at s
    cases s
    simp
  · have e1 : (Value.ref D == Value.ref C) = false := by simp [e]
    rw [e1]
    obtain ⟨cd, hc, _⟩ := PySem.W.any_some h
    have e2 : ((PySem.W.clsIn K C).isSome && PySem.W.typeIn K (.ref C) == some (.type "type")) = true := by rw [hc, t] <;> rfl
    show (if false = true then some true else PySem.W.kitCls K (.ref D) (.ref C)) = some b
    rw [if_neg (by decide)]
    unfold PySem.W.kitCls
    simp only [e2, if_true]
    exact s
theorem rows_head (n : Node) : ∀ t, (rowsN n (t + 1))[0]? = some ([], n)
  | 0 => rfl
  | t + 1 => by
    show (rowsN n (t + 1) ++ lv n (t + 1))[0]? = _
    have h := rows_head n t
    have l := (List.getElem?_eq_some_iff.mp h).1
    rw [List.getElem?_append_left l]
    exact h
theorem rows_len (n : Node) (t : Nat) : (rowsN n t).length ≤ (pre [] n).length := by
  have := (rows_perm n t).length_eq
  rw [List.length_append] at this
  omega
theorem lv_le (n : Node) (t : Nat) : (lv n t).length ≤ (pre [] n).length := by
  have := rows_len n (t + 1)
  have e : (rowsN n (t + 1)).length = (rowsN n t).length + (lv n t).length := by
    show (rowsN n t ++ lv n t).length = _
    rw [List.length_append]
  omega
theorem kids_mem_le {n : Node} {e : PN} (h : e ∈ pre [] n) : e.2.ks.length < (pre [] n).length := by
  obtain ⟨r, _, hf⟩ := pre_find _ ([], n) e (Nat.le_refl _) h
  have h1 := kids_le e
  rw [kids_len] at h1
  have h2 : ∀ (k : Nat) (a x : PN), (preE a).length ≤ k → x ∈ preE a → (preE x).length ≤ (preE a).length := by
    intro k
    induction k with
    | zero =>
      intro a x hl
      rw [preE_eq] at hl
      simp at hl
    | succ k ih =>
      intro a x hl hx
      rw [preE_eq] at hx
      rcases List.mem_cons.mp hx with rfl | hx
      · exact Nat.le_refl _
      · obtain ⟨c, hc, hx⟩ := List.mem_flatMap.mp hx
        have h1 : (preE c).length ≤ ((kidsOf a).flatMap preE).length := by
          rw [List.length_flatMap]
          exact le_sum (List.mem_map.mpr ⟨_, hc, rfl⟩)
        have h3 : (preE a).length = 1 + ((kidsOf a).flatMap preE).length := by rw [preE_eq]; simp; omega
        have := ih c x (by omega) hx
        omega
  have := h2 _ ([], n) e (Nat.le_refl _) h
  have e3 : (preE ([], n)).length = (pre [] n).length := rfl
  omega
/-! ### nodes of bounded height all of whose prices are P -/
def HP (P : List Pr → Prop) : Nat → Node → Prop
  | 0, n => P n.ps ∧ n.ks = []
  | m + 1, n => P n.ps ∧ ∀ k ∈ n.ks, HP P m k
theorem HP.ps {P : List Pr → Prop} : ∀ {m : Nat} {n : Node}, HP P m n → P n.ps
  | 0, _, h => h.1
  | _ + 1, _, h => h.1
theorem HP.up {P Q : List Pr → Prop} (f : ∀ l, P l → Q l) : ∀ {m : Nat} {n : Node}, HP P m n → HP Q (m + 1) n
  | 0, _, h => ⟨f _ h.1, fun k hk => by rw [h.2] at hk; cases hk⟩
  | _ + 1, _, h => ⟨f _ h.1, fun k hk => HP.up f (h.2 k hk)⟩
theorem HP.pre {P : List Pr → Prop} : ∀ {m : Nat} {e : PN}, HP P m e.2 → ∀ x ∈ preE e, P x.2.ps ∧ x.1.length ≤ e.1.length + m
  | 0, e, h, x, hx => by
    have hk : kidsOf e = [] := by
      unfold kidsOf
      rw [h.2]
      rfl
    rw [preE_eq, hk] at hx
    simp at hx
    subst hx
    exact ⟨h.1, by omega⟩
  | m + 1, e, h, x, hx => by
    rw [preE_eq] at hx
    rcases List.mem_cons.mp hx with rfl | hx
    · exact ⟨h.1, by omega⟩
    · obtain ⟨k, hk, hx⟩ := List.mem_flatMap.mp hx
      obtain ⟨i, hi, rfl⟩ := List.mem_mapIdx.mp hk
      have := HP.pre (e := (e.1 ++ [(i : Int)], e.2.ks[i])) (h.2 _ (List.getElem_mem hi)) x hx
      simp only [List.length_append, List.length_singleton] at this
      exact ⟨this.1, by omega⟩
mutual
def nsz : Node → Nat
  | .mk _ ks => 1 + nszs ks
def nszs : List Node → Nat
  | [] => 0
  | k :: r => nsz k + nszs r
end
theorem nsz_eq (n : Node) : nsz n = 1 + nszs n.ks := by
  cases n
  rw [nsz]
  rfl
theorem nszs_app : ∀ a b : List Node, nszs (a ++ b) = nszs a + nszs b
  | [], b => by simp [nszs]
  | x :: a, b => by
    rw [List.cons_append, nszs, nszs, nszs_app a b]
    omega
mutual
theorem pre_nsz (p : List Int) : ∀ n : Node, (pre p n).length = nsz n
  | .mk ps ks => by
    rw [pre, nsz, List.length_cons, pres_nsz p 0 ks]
    omega
theorem pres_nsz (p : List Int) (i : Nat) : ∀ ks : List Node, (pres p i ks).length = nszs ks
  | [] => rfl
  | n :: r => by
    rw [pres, nszs, List.length_append, pre_nsz _ n, pres_nsz p (i + 1) r]
end
theorem nv_hp {g : Int} (h4 : g ≤ 4) : ∀ {m : Nat} {n : Node}, NV g m n → HP (fun l => (∀ p ∈ l, PrK 201 p) ∧ l.length ≤ 3) m n
  | 0, n, h => ⟨⟨h.1.b, by have := h.1.len; omega⟩, h.2⟩
  | m + 1, n, h => ⟨⟨h.1.b, by have := h.1.len; omega⟩, fun k hk => nv_hp h4 (h.2.2.2 k hk)⟩
theorem find_app : ∀ (p q : List Int) (n m : Node), find n p = some m → find n (p ++ q) = find m q
  | [], q, n, m, h => by
    cases h
    rfl
  | i :: p, q, n, m, h => by
    by_cases hi : 0 ≤ i ∧ i < (n.ks.length : Int)
    · obtain ⟨j, rfl⟩ := Int.eq_ofNat_of_zero_le hi.1
      have hk : n.ks[j]? = some n.ks[j] := List.getElem?_eq_getElem (by omega)
      rw [find_cons, hk] at h
      rw [List.cons_append, find_cons, hk]
      exact find_app p q _ m h
    · rw [find_out hi] at h
      cases h
theorem cut_drop (xs : List V) (k : Nat) : cutV xs (some (k : Int)) none = xs.drop k := by
  unfold cutV
  rw [HT.sIx_nat xs.length 0 k, HT.sIx_none]
  by_cases h : k ≤ xs.length
  · rw [Nat.min_eq_left h]
    exact List.take_of_length_le (by rw [List.length_drop]; omega)
  · rw [Nat.min_eq_right (by omega), List.drop_length, List.drop_eq_nil_of_le (by omega)]
    simp
theorem cut_take (xs : List V) (k : Nat) : cutV xs none (some (k : Int)) = xs.take k := by
  unfold cutV
  rw [HT.sIx_nat xs.length xs.length k, HT.sIx_none, List.drop_zero, Nat.sub_zero]
  by_cases h : k ≤ xs.length
  · rw [Nat.min_eq_left h]
  · rw [Nat.min_eq_right (by omega), List.take_length, List.take_of_length_le (by omega)]
theorem cmp_neg {p q : Int × Int} : cmpF p q < 0 ↔ p.1 * q.2 < q.1 * p.2 := by
  unfold cmpF
  constructor
  · intro h
    by_cases c : p.1 * q.2 < q.1 * p.2
    · exact c
    · rw [if_neg c] at h
      split at h <;> omega
  · intro h
    rw [if_pos h]
    decide
theorem bad_iff (p : Pr) : badPr p ↔ p.2.1 < 0 ∨ p.1.1 * p.2.2 < p.2.1 * p.1.2 := by
  unfold badPr
  rw [cmp_neg, cmp_neg]
  simp
end Nl

namespace Nl
open PySem PySem.Spec PyProof.Rows L2
/-! ### zip of three tuples -/
def It3 (K : PySem.W.Frag) (a b c : Addr) : It :=
  ⟨fun i H => ∃ xs ys zs : List V, SqT K H a xs ∧ SqT K H b ys ∧ SqT K H c zs ∧ i < min (min xs.length ys.length) zs.length,
    fun i H v H' => ∃ T x y z, v = .ref T ∧ H T = none ∧ H' = upd H T (.tup [x, y, z]) ∧ (∀ xs, SqT K H a xs → xs[i]? = some x) ∧ (∀ ys, SqT K H b ys → ys[i]? = some y) ∧ ∀ zs, SqT K H c zs → zs[i]? = some z,
    fun i H => ∃ xs ys zs : List V, SqT K H a xs ∧ SqT K H b ys ∧ SqT K H c zs ∧ i = min (min xs.length ys.length) zs.length⟩
theorem neA {x y : Nat} (h : x ≠ y) : @Ne Addr x y := h
theorem nin2 {x y z : Nat} (h1 : x ≠ y) (h2 : x ≠ z) : ¬ ((x : Addr) ∈ ([y, z] : List Addr)) := fun h => by
  rcases List.mem_cons.mp h with e | h
  · exact h1 e
  · exact h2 (List.mem_singleton.mp h)
def fp3 (I : Addr) : List Addr := [I + 5, I + 3, I + 4, I, I + 1, I + 2]
theorem fp3_cases {I d : Nat} (h : d ∈ fp3 I) : d = I + 5 ∨ d = I + 3 ∨ d = I + 4 ∨ d = I ∨ d = I + 1 ∨ d = I + 2 := by simpa [fp3] using h
theorem fp3_lt {I d n : Nat} (h : d ∈ fp3 I) (hn : I + 5 < n) : d < n := by
  rcases fp3_cases h with rfl | rfl | rfl | rfl | rfl | rfl <;> omega
theorem fp3_le {I d : Nat} (h : d ∈ fp3 I) : I ≤ d := by
  rcases fp3_cases h with rfl | rfl | rfl | rfl | rfl | rfl <;> omega
theorem fp3_nin {I d : Nat} (h : ¬ d ∈ fp3 I) : ¬ d ∈ ([I + 5, I + 4, I, I + 1, I + 2] : List Addr) := fun z => h (by
  simp only [fp3, List.mem_cons, List.not_mem_nil, or_false] at z ⊢
  rcases z with z | z | z | z | z
  · exact .inl z
  · exact .inr (.inr (.inl z))
  · exact .inr (.inr (.inr (.inl z)))
  · exact .inr (.inr (.inr (.inr (.inl z))))
  · exact .inr (.inr (.inr (.inr (.inr z)))))
theorem sep3 {I a b c : Nat} (h1 : a < I) (h2 : b < I) (h3 : c < I) : ZipSep3 (I + 5) (I + 3) (I + 4) I (I + 1) (I + 2) [I, a] [I + 1, b] [I + 2, c] := by
  constructor <;> first | exact neA (by omega) | exact nin2 (by omega) (by omega) | exact List.mem_cons_self
structure St3 (I a b c : Addr) (i : Nat) (h : Heap) : Prop where
  z : IsZip h (I + 5) (I + 3) (I + 4) .none
  ti : IsTupOf3 h (I + 3) (.ref I) (.ref (I + 1)) (.ref (I + 2))
  to : ∃ x y u, IsTupOf3 h (I + 4) x y u
  i1 : h.IsTupleIter I a i
  i2 : h.IsTupleIter (I + 1) b i
  i3 : h.IsTupleIter (I + 2) c i
theorem vals_at {xs : List V} {us : List Value} {i : Nat} {u : Value} (r : Vals xs us) (h : us.toArray[i]? = some u) : ∃ x, xs[i]? = some x ∧ RelV x u := by
  have hl := r.length
  have hlt : i < xs.length := by
    rcases Nat.lt_or_ge i xs.length with z | z
    · exact z
    · rw [Array.getElem?_eq_none (by rw [List.size_toArray]; omega)] at h
      cases h
  obtain ⟨u', e, rv⟩ := r.get (List.getElem?_eq_getElem hlt)
  have : us.toArray[i]? = us[i]? := by simp
  rw [this, e] at h
  cases h
  exact ⟨_, List.getElem?_eq_getElem hlt, rv⟩
theorem turn3 {P : Program} {w : World} {K : PySem.W.Frag} {elts : List Expr} {kk : Nat} {tpos : Pos} {I a b c : Addr} (ha : a < I) (hb : b < I) (hc : c < I) :
    Turn P w K (.Tuple elts kk tpos) (It3 K a b c) (fp3 I) (I + 5) (St3 I a b c) where
  mem := by simp [fp3]
  obj := fun i h st d hd => by
    obtain ⟨hz, hti, ⟨x, y, u, hto⟩, ⟨o1, e1, _, d1⟩, ⟨o2, e2, _, d2⟩, ⟨o3, e3, _, d3⟩⟩ := st
    have e' := fp3_cases hd
    rcases e' with rfl | rfl | rfl | rfl | rfl | rfl
    · exact ⟨_, hz, fun v q => nomatch q⟩
    · exact ⟨_, hti, fun v q => nomatch q⟩
    · exact ⟨_, hto, fun v q => nomatch q⟩
    · exact ⟨o1, e1, fun v q => by rw [d1] at q; cases q⟩
    · exact ⟨o2, e2, fun v q => by rw [d2] at q; cases q⟩
    · exact ⟨o3, e3, fun v q => by rw [d3] at q; cases q⟩
  keep := fun i h h' st k => by
    obtain ⟨hz, hti, ⟨x, y, u, hto⟩, h1, h2, h3⟩ := st
    exact ⟨k _ (by simp [fp3]) _ hz, k _ (by simp [fp3]) _ hti, ⟨x, y, u, k _ (by simp [fp3]) _ hto⟩, h1.at fun o q => k _ (by simp [fp3]) o q, h2.at fun o q => k _ (by simp [fp3]) o q, h3.at fun o q => k _ (by simp [fp3]) o q⟩
  item := by
    intro X hP hw hK hcalm i pins s σ H E J hf st hg
    subst hP hw hK
    obtain ⟨xs, ys, zs, qa, qb, qc, hlt⟩ := hg
    obtain ⟨ia, ra, pa, _⟩ := J.tuple qa
    obtain ⟨ib, rb, pb, _⟩ := J.tuple qb
    obtain ⟨ic, rc, pc, _⟩ := J.tuple qc
    have la := ra.length
    have lb := rb.length
    have lc := rc.length
    have hh : X.A.in1.handled = none := J.ok.hd hcalm
    have W := GoesN.zip3 (prog := X.prog) (w := X.w) (A := X.A) (elts := elts) (x1 := kk) (pos := tpos) (sep3 ha hb hc) (Draws.tuple hh I a (Nat.ne_of_lt ha) ia.toArray) (Draws.tuple hh (I + 1) b (Nat.ne_of_lt (Nat.lt_succ_of_lt hb)) ib.toArray) (Draws.tuple hh (I + 2) c (Nat.ne_of_lt (Nat.lt_succ_of_lt (Nat.lt_succ_of_lt hc))) ic.toArray)
    obtain ⟨hz, hti, hto, h1, h2, h3⟩ := st
    have old : ∀ d ∈ fp3 I, d < s.heap.objs.size := fun d hd => fp3_lt hd (Heap.lt_size hz)
    refine W.goes i s _ _ (by simp only [List.size_toArray]; omega) ⟨hz, hti, hto, ⟨h1, pa⟩, ⟨h2, pb⟩, h3, pc⟩ fun v h' tk y st' hk htk => ?_
    obtain ⟨T, x, y, u, rfl, hT, hx, hy, hu, hTup⟩ := y
    obtain ⟨vx, ex, rx⟩ := vals_at ra hx
    obtain ⟨vy, ey, ry⟩ := vals_at rb hy
    obtain ⟨vu, eu, ru⟩ := vals_at rc hu
    obtain ⟨hz', hti', hto', ⟨h1', _⟩, ⟨h2', _⟩, h3', _⟩ := st'
    have new : ObjOk X.prog X.w (upd H T (.tup [vx, vy, vu])) h' T (.tup [vx, vy, vu]) :=
      ⟨by show 3 ≤ sizeLine; decide, [x, y, u], .cons rx (.cons ry (.cons ru .nil)), hTup⟩
    have J1 := J.turnedNew (t' := tk) (ch := fp3 I) (T := T) (fun d o hd q => hk d o (fp3_nin hd) q) hf hT new
    refine ⟨.ref T, _, J1, rfl, ⟨T, vx, vy, vu, rfl, J.hok.fresh hT, rfl, fun l hl => by rw [J.tuple_inj hl qa]; exact ex, fun l hl => by rw [J.tuple_inj hl qb]; exact ey, fun l hl => by rw [J.tuple_inj hl qc]; exact eu⟩, ⟨hz', hti', hto', h1', h2', h3'⟩, fun d hd => ?_⟩
    rw [upd_ne (Nat.ne_of_lt (Nat.lt_of_lt_of_le (old d hd) hT))]
    exact (hf d hd).1
  done := by
    intro X hP hw hK hcalm i pins s σ H E J hf st hg
    subst hP hw hK
    obtain ⟨xs, ys, zs, qa, qb, qc, he⟩ := hg
    obtain ⟨ia, ra, pa, _⟩ := J.tuple qa
    obtain ⟨ib, rb, pb, _⟩ := J.tuple qb
    obtain ⟨ic, rc, pc, _⟩ := J.tuple qc
    have la := ra.length
    have lb := rb.length
    have lc := rc.length
    have hh : X.A.in1.handled = none := J.ok.hd hcalm
    have W := GoesN.zip3 (prog := X.prog) (w := X.w) (A := X.A) (elts := elts) (x1 := kk) (pos := tpos) (sep3 ha hb hc) (Draws.tuple hh I a (Nat.ne_of_lt ha) ia.toArray) (Draws.tuple hh (I + 1) b (Nat.ne_of_lt (Nat.lt_succ_of_lt hb)) ib.toArray) (Draws.tuple hh (I + 2) c (Nat.ne_of_lt (Nat.lt_succ_of_lt (Nat.lt_succ_of_lt hc))) ic.toArray)
    obtain ⟨hz, hti, hto, h1, h2, h3⟩ := st
    have ei : i = min (min ia.toArray.size ib.toArray.size) ic.toArray.size := by simp only [List.size_toArray]; omega
    refine W.stops s _ _ (by rw [← ei]; exact ⟨hz, hti, hto, ⟨h1, pa⟩, ⟨h2, pb⟩, h3, pc⟩) fun h' tk hk htk => ?_
    exact J.turnedL (t' := tk) (ch := fp3 I) (fun d o hd q => hk d o (fp3_nin hd) q) hf
  self := fun A i s Q E st h => wpAny_pyIter_zip st.z h
def iZip3 (K : PySem.W.Frag) (ta : TA) : TI := fun σ H R => ta σ H fun vs H1 => ∃ a b c xs ys zs, vs = [.ref a, .ref b, .ref c] ∧ SqT K H1 a xs ∧ SqT K H1 b ys ∧ SqT K H1 c zs ∧ R (It3 K a b c) H1
theorem pi_zip3 {X : Cx} {e e2 e3 : Expr} {ta : TA} {p pos tpos : Pos} {elts : List Expr} {kk : Nat} (hg : Gl X "zip") (hm : X.mg "zip" = none) (ha : PA X [e, e2, e3] ta)
    (hs : starEach [e, e2, e3] X.env = (false, eval e X.env) :: starEach [e2, e3] X.env := by rfl) (hpl : (backTo pos (starEach [e2, e3] X.env)).any (·.1) = false := by rfl) :
    PI X (.Tuple elts kk tpos) (.Call (.Name "zip" p) [e, e2, e3] [] pos) (iZip3 X.K ta) := by
  refine ⟨fun pins s σ H R I h => ?_⟩
  refine Call_ (ld_blt I hg hm PyProof.Rows.boot_zip (PyProof.Rows.callWith_type1 (thn (ha.run pos pins s σ H _ I h) fun us s1 ⟨vs, H1, J, r1, a, b, c, xs, ys, zs, ex, qa, qb, qc, q⟩ => ?_) hs hpl))
  subst ex
  cases r1 with
  | cons r rr =>
    cases rr with
    | cons r' rr =>
      cases rr with
      | cons r'' rr =>
        cases rr
        cases r
        cases r'
        cases r''
        obtain ⟨ia, ra, pa, _⟩ := J.tuple qa
        obtain ⟨ib, rb, pb, _⟩ := J.tuple qb
        obtain ⟨ic, rc, pc, _⟩ := J.tuple qc
        obtain ⟨o1, ho1, _⟩ := id pa
        obtain ⟨o2, ho2, _⟩ := id pb
        obtain ⟨o3, ho3, _⟩ := id pc
        refine zip_begins3 (begins_tuple a ia.toArray) (begins_tuple b ib.toArray) (begins_tuple c ic.toArray) pa pb pc fun h' hz hti hto g1 g2 g3 hsz hk => wpAny_pyIter_zip hz ?_
        have J2 : Inv X pins σ H1 { s1 with heap := h' } := J.kept (t' := s1.toks) hk
        refine ⟨s1.heap.objs.size + 5, fp3 s1.heap.objs.size, _, _, H1, rfl, J2, turn3 (Heap.lt_size ho1) (Heap.lt_size ho2) (Heap.lt_size ho3), ⟨hz, hti, ⟨_, _, _, hto⟩, ⟨_, g1, rfl, rfl⟩, ⟨_, g2, rfl, rfl⟩, ⟨_, g3, rfl, rfl⟩⟩, fun d hd => ?_, q⟩
        have hle : s1.heap.objs.size ≤ d := fp3_le hd
        exact J.fpOk hle (J.hok.fresh hle)
theorem for_zip3 {K : PySem.W.Frag} {a b c : Addr} {xs ys zs : List V} {g : TG} {tb : TS} {D : Ends} {σ : L2.St} {H : Hp} (l1 : ys.length = xs.length) (l2 : zs.length = xs.length) (Pv : Nat → L2.St → Hp → Prop) (h0 : Pv 0 σ H) (hq : ∀ i σ H, Pv i σ H → SqT K H a xs ∧ SqT K H b ys ∧ SqT K H c zs)
    (hs : ∀ (i : Nat) (x y z : V) (T : Addr) (σ : L2.St) (H : Hp), xs[i]? = some x → ys[i]? = some y → zs[i]? = some z → Pv i σ H → H T = none → g (.ref T) σ (upd H T (.tup [x, y, z])) fun σ2 H2 => tb { D with nx := Pv (i + 1), ct := Pv (i + 1), bk := D.nx } σ2 H2)
    (hd : ∀ σ H, Pv xs.length σ H → D.nx σ H) :
    ∃ W : Nat → Nat → L2.St → Hp → Prop, (∃ m, W 0 m σ H) ∧ ∀ i m σ H, W i m σ H →
      ((It3 K a b c).stop i H ∧ D.nx σ H) ∨ ((It3 K a b c).go i H ∧ ∃ N : L2.St → Hp → Prop, (∀ σ' H', N σ' H' → ∃ m', m' < m ∧ W (i + 1) m' σ' H') ∧ ∀ v H', (It3 K a b c).yld i H v H' → g v σ H' fun σ2 H2 => tb { D with nx := N, ct := N, bk := D.nx } σ2 H2) := by
  refine ⟨fun i m σ H => m + i = xs.length ∧ Pv i σ H, ⟨xs.length, rfl, h0⟩, ?_⟩
  rintro i m σ H ⟨em, p⟩
  obtain ⟨qa, qb, qc⟩ := hq i σ H p
  by_cases hlt : i < xs.length
  · refine .inr ⟨⟨xs, ys, zs, qa, qb, qc, by omega⟩, Pv (i + 1), fun σ' H' p' => ⟨m - 1, by omega, by omega, p'⟩, ?_⟩
    rintro v H' ⟨T, x, y, z, rfl, hT, rfl, f1, f2, f3⟩
    exact hs i x y z T σ H (f1 xs qa) (f2 ys qb) (f3 zs qc) p hT
  · have e : i = xs.length := by omega
    subst e
    exact .inl ⟨⟨xs, ys, zs, qa, qb, qc, by omega⟩, hd σ H p⟩
end Nl

namespace Nl
open PySem PySem.Spec PyProof.Rows L2
/-! ### dicts whose keys are tuples, by a comprehension without tests -/
theorem put_tup {X : Cx} {pins : List (Addr × Obj)} {τ : L2.St} {H : Hp} {t : Shared} {F : Value → Shared → Prop} {D b : Addr} {kvs : List (List Key × V)} {k : List Key} {v : V} {r : Value} {R : Unit → Shared → Prop} (hu : X.A.units < cLine) (I : Inv X pins τ H t)
    (hD : H D = some (.dT kvs)) (hb : H b = some (.tup (k.map kV))) (hl : kvs.length < sizeLine) (rv : RelV v r) (fin : ∀ t', Inv X pins τ (upd H D (.dT (putK kvs k v))) t' → R () t') : wpAny (model X.prog X.w) X.A (dictSet D (.ref b) r) R F t := by
  obtain ⟨big, sys, xs, rel, dd⟩ := dt_of I.hok hD
  have hxs : xs.length ≤ sizeLine := by rw [← Paired.length rel]; exact big
  have grown := length_putK kvs k v
  refine wpAny_dictSet_heap (hsz := hxs) hu (key_of I.hok hb) dd (fun h' dd' sb => fin _ ?_)
  obtain ⟨q, es, ep, hq, a2, a3, a4, _, a5⟩ := dd'
  have kept : KT (upd H D (.dT (putK kvs k v))) (putK kvs k v) _ := (rel.put k hb rv).keeps fun c ys ec => by
    rw [upd_ne (ne_of ec hD (fun z => nomatch z))]
    exact ec
  exact d_write I (by rw [hD]; exact True.intro) sb ⟨q, hq⟩ ⟨by omega, sys, _, kept, q, es, ep, hq, a2, a3, a4, a5⟩
/-- {k: v for target in iter}: D the new dict -/
def tDcT (wi : TI) (g : TG) (tk tv : TE) (vs : List Nat) : TE := fun σ H Q => wi σ H fun J H1 => ∀ D, H1 D = none → ∃ W : Nat → Nat → Hp → Prop, (∃ m, W 0 m (upd H1 D (.dT []))) ∧ ∀ i m H, W i m H →
  (J.stop i H ∧ Q (.ref D) H) ∨ (J.go i H ∧ ∃ Nx : Hp → Prop, (∀ H', Nx H' → ∃ m', m' < m ∧ W (i + 1) m' H') ∧ ∀ x H', J.yld i H x H' → g x (wipe σ vs) H' fun σ2 H2 => wipe σ2 vs = wipe σ vs ∧
    tk σ2 H2 fun y H4 => tv σ2 H4 fun z H5 => ∃ kvs k b, y = .ref b ∧ H5 D = some (.dT kvs) ∧ H5 b = some (.tup (k.map kV)) ∧ kvs.length < sizeLine ∧ Nx (upd H5 D (.dT (putK kvs k z))))
theorem dcT_core {X : Cx} {pins : List (Addr × Obj)} {t0 : Shared} {τ : L2.St} {G : Hp} {Q : VK} {kx vx tg iter : Expr} {scope : Scope} {own : List (Str × Nat)} {pos pos' : Pos} {wi : TI} {g : TG} {tk tv : TE} {use : Option (Value → Sem Unit)} {Qf : Value → Shared → Prop}
    (calm : X.calm = true) (hu : X.A.units < cLine) (nd : X.N.Nodup) (I : Inv X pins τ G t0) (src : PI X tg iter wi) (ok : BlkOk X.N X.env.scope scope own)
    (ptg : ∀ (s : Shared) (H : Hp) (C : Addr) (cl : List (Str × Addr)) (fp : List Addr), PG (X.blk s H scope (compEnvC scope cl C X.env) fp) tg g)
    (pkey : ∀ (s : Shared) (H : Hp) (C : Addr) (cl : List (Str × Addr)) (fp : List Addr), PE (X.blk s H scope (compEnvC scope cl C X.env) fp) kx tk)
    (pval : ∀ (s : Shared) (H : Hp) (C : Addr) (cl : List (Str × Addr)) (fp : List Addr), PE (X.blk s H scope (compEnvC scope cl C X.env) fp) vx tv) (fold : ∀ x, foldedSetIterable iter X.env x = pure x)
    (goal : tDcT wi g tk tv (own.map (·.2)) τ G Q)
    (post : ∀ D C s' m H', Inv X pins τ H' s' → Q (.ref D) H' → s'.heap.Ns C m → FpOk X pins H' C → compPost (model X.prog X.w) X.A X.xe use Qf (.ref D) C (.ok .next) s') :
    wpAny (model X.prog X.w) X.A (comprehension (.DictComp kx vx [⟨tg, iter, [], 0⟩] scope pos) scope X.env pos' newDict false (eval iter X.env) use) Qf X.xe t0 := by
  have clos : ∀ y ∈ scope.names, y.2 = .free → ∃ c, X.env.cells.lookup y.1 = some c := fun y hy e => (ok.free y hy e).elim (fun k => I.ok.has _ (.inl k)) fun k => I.ok.has _ (.inr k)
  refine wpAny_comprehension_free (use := use) rfl fold (closure_ok clos) ok.kind (fun y hy e => by rw [ok.uniq y hy, e]) (thn (src.run pins t0 τ G _ I goal) fun itv t1 h1 => thn h1 fun itw t2 h2 => ?_)
  obtain ⟨it, fp, tn, J, G2, rfl, I2, turn, st2, f2, q⟩ := h2
  refine wpAny_newObj_type (newEnv_comp ?_)
  generalize eD : t2.heap.objs.size = D
  have newD : G2 D = none := I2.hok.fresh (Nat.le_of_eq eD)
  obtain ⟨W, ⟨m0, w0⟩, steps⟩ := q D newD
  generalize e3 : ({ t2 with heap := t2.heap.push { cls := .type "dict", data := .dict #[] } } : Shared) = t3
  have h3 : t3.heap = t2.heap.push { cls := .type "dict", data := .dict #[] } := by rw [← e3]
  have I3 : Inv X pins τ (upd G2 D (.dT [])) t3 := by
    subst e3 eD
    exact I2.laid (t' := t2.toks) (fun b o e => Heap.get?_push_of_some _ e) (Nat.le_refl _) (dt_empty t2.heap I2.big)
  have below : ∀ b ∈ fp, b < t2.heap.objs.size := fun b hb => (turn.obj _ _ st2 b hb).elim fun o e => Heap.lt_size e.1
  have f3 : ∀ b ∈ fp, FpOk X pins (upd G2 D (.dT [])) b ∧ b < t3.heap.objs.size := fun b hb => by
    refine ⟨⟨?_, (f2 b hb).2⟩, ?_⟩
    · rw [upd_ne (by rw [← eD]; exact Nat.ne_of_lt (below b hb))]
      exact (f2 b hb).1
    · rw [h3, Heap.size_push]
      exact Nat.lt_succ_of_lt (below b hb)
  have st3 : tn 0 t3.heap := turn.keep _ _ _ st2 fun b _ o e => by rw [h3]; exact Heap.get?_push_of_some _ e
  have I4 := block_start I3 ok nd f3
  have pt := ptg t3 (upd G2 D (.dT [])) t3.heap.objs.size (cellsFrom (t3.heap.objs.size + 1) scope.names (cloFrom X.env.cells scope.names [])) fp
  have pk := pkey t3 (upd G2 D (.dT [])) t3.heap.objs.size (cellsFrom (t3.heap.objs.size + 1) scope.names (cloFrom X.env.cells scope.names [])) fp
  have pv' := pval t3 (upd G2 D (.dT [])) t3.heap.objs.size (cellsFrom (t3.heap.objs.size + 1) scope.names (cloFrom X.env.cells scope.names [])) fp
  show codeAny _ _ (.compStart (.DictComp kx vx [⟨tg, iter, [], 0⟩] scope pos) 0 (.ref it) (.ref D) (compEnvC scope (cellsFrom (t3.heap.objs.size + 1) scope.names (cloFrom X.env.cells scope.names [])) t3.heap.objs.size X.env)) (compPost (model X.prog X.w) X.A X.xe use Qf (.ref D) t3.heap.objs.size) { t3 with heap := pushCells (t3.heap.push { cls := .type "dict", data := .dict #[] }) scope.names }
  have none3 : ∀ b ∈ fp, (upd G2 D (.dT [])) b = none := fun b hb => (f3 b hb).1.1
  generalize eC : compEnvC scope (cellsFrom (t3.heap.objs.size + 1) scope.names (cloFrom X.env.cells scope.names [])) t3.heap.objs.size X.env = ce at I4 pt pk pv' ⊢
  have loc : ce.locals = t3.heap.objs.size := by subst eC; rfl
  generalize eG : upd G2 D (.dT []) = G3 at I3 I4 pt pk pv' w0 none3 f3
  generalize e4 : ({ t3 with heap := pushCells (t3.heap.push { cls := .type "dict", data := .dict #[] }) scope.names } : Shared) = t4 at I4 ⊢
  have st4 : tn 0 t4.heap := turn.keep _ _ _ st3 fun b _ o e => by rw [← e4]; exact pushCells_keeps _ _ _ _ (Heap.get?_push_of_some _ e)
  have live : ∀ {τ' : L2.St} {H' : Hp} {s' : Shared}, Inv (X.blk t3 G3 scope ce fp) [] τ' H' s' → (∀ b ∈ fp, H' b = none) → ∀ b ∈ fp, FpOk (X.blk t3 G3 scope ce fp) [] H' b := fun {τ' H' s'} K' n b hb => by
    refine ⟨n b hb, (K'.ok.exf b hb).1, K'.ok.exfs b hb, .inl hb, fun x c e => (K'.ok.exf b hb).2 x c e, ?_⟩
    intro p hp
    exact absurd (show p ∈ ([] : List (Addr × Obj)) ++ [] from hp) (by simp)
  have loop : codeAny (model X.prog X.w) X.A (.compLoop (.DictComp kx vx [⟨tg, iter, [], 0⟩] scope pos) 0 (.ref it) (.ref D) ce) (compPost (model X.prog X.w) X.A X.xe use Qf (.ref D) t3.heap.objs.size) t4 := by
    refine compLoop_anyD (fun n s' => ∃ i H', Inv (X.blk t3 G3 scope ce fp) [] (wipe τ (own.map (·.2))) H' s' ∧ tn i s'.heap ∧ (∀ b ∈ fp, H' b = none) ∧ W i n H') ?_ m0 ⟨0, G3, I4, st4, none3, w0⟩
    rintro n s5 ⟨i, H5, I5, st5, n5, w5⟩
    rcases steps i n H5 w5 with ⟨stop, qq⟩ | ⟨go, Nx, hNx, step⟩
    · refine thnF (turn.done (X.blk t3 G3 scope ce fp) rfl rfl rfl calm i [] s5 _ H5 (fun _ _ => False) I5 (live I5 n5) st5 stop) fun r s6 ⟨er, I6⟩ => ?_
      subst er
      have back : Inv X pins τ H5 s6 := I3.call' (ch := fp) I6.os I6.base I6.hok I6.bare fun b hb => ⟨(f3 b hb).1.2.2.2.1, (f3 b hb).1.2.1, (f3 b hb).1.2.2.2.2.1, (f3 b hb).1.2.2.2.2.2⟩
      have nC : H5 t3.heap.objs.size = none := by rw [← loc]; exact I6.free
      obtain ⟨m, hn, _⟩ := I6.loc
      refine post D t3.heap.objs.size s6 m H5 back qq ?_ (I3.fpOk (Nat.le_refl _) nC)
      rw [← loc]
      exact hn
    · refine thnF (turn.item (X.blk t3 G3 scope ce fp) rfl rfl rfl calm i [] s5 _ H5 (fun _ _ => False) I5 (live I5 n5) st5 go) fun r s6 ⟨u, er, h6⟩ => ?_
      subst er
      refine thnF h6 fun _ s7 ⟨x, H7, I7, r7, y7, st7, n7⟩ => ?_
      have I7p := I7.pinned (live I7 n7) (turn.obj _ _ st7)
      refine thnF (pt.run _ s7 _ H7 x u _ I7p r7 (step x H7 y7)) fun _ s8 ⟨τ8, H8, I8, hw8, q8⟩ => ?_
      have fin : ∀ {s' : Shared} {H' : Hp}, Inv (X.blk t3 G3 scope ce fp) ([] ++ pinsAt fp s7.heap) τ8 H' s' → Nx H' → ∃ m, m < n ∧ ∃ i H', Inv (X.blk t3 G3 scope ce fp) [] (wipe τ (own.map (·.2))) H' s' ∧ tn i s'.heap ∧ (∀ b ∈ fp, H' b = none) ∧ W i m H' := fun {s' H'} I' nx => by
        obtain ⟨m', hm, w'⟩ := hNx H' nx
        have pin : ∀ b ∈ fp, ∀ o, s7.heap.get? b = some o → s'.heap.get? b = some o ∧ H' b = none := fun b hb o e => by
          have z := I'.pin (b, o) (List.mem_append_right _ (List.mem_append_right _ (mem_pinsAt hb e)))
          exact ⟨z.1, z.2.1⟩
        refine ⟨m', hm, i + 1, H', (I'.unpinned (pins := [])).weak (by rw [← hw8, wipe_length]) (fun j v e => ?_), turn.keep _ _ _ st7 fun b hb o e => (pin b hb o e).1, fun b hb => ?_, w'⟩
        · rw [← hw8] at e
          exact (wipe_some e).1
        · exact (turn.obj _ _ st7 b hb).elim fun o e => (pin b hb o e.1).2
      refine wpAny_pure ?_
      simp only [if_true]
      refine thnF (pk.run _ s8 τ8 H8 _ I8 q8) fun kv s10 ⟨yk, H10, I10, r10, q10⟩ => ?_
      refine thnF (pv'.run _ s10 τ8 H10 _ I10 q10) fun vv s11 ⟨yv, H11, I11, r11, kvs, k, b, ek, hD11, hb11, hz11, nx⟩ => ?_
      subst ek
      cases (show kv = Value.ref b from r10)
      exact put_tup (X := X.blk t3 G3 scope ce fp) hu I11 hD11 hb11 hz11 r11 fun s12 I12 => fin I12 nx
  exact codeAny_compStart_dict loop (turn.self X.A 0 _ _ _ st4 loop)
theorem pe_dcT {X : Cx} {kx vx tg iter : Expr} {scope : Scope} {own : List (Str × Nat)} {pos : Pos} {wi : TI} {g : TG} {tk tv : TE} (calm : X.calm = true) (hu : X.A.units < cLine) (nd : X.N.Nodup) (src : PI X tg iter wi) (ok : BlkOk X.N X.env.scope scope own)
    (ptg : ∀ (s : Shared) (H : Hp) (C : Addr) (cl : List (Str × Addr)) (fp : List Addr), PG (X.blk s H scope (compEnvC scope cl C X.env) fp) tg g)
    (pkey : ∀ (s : Shared) (H : Hp) (C : Addr) (cl : List (Str × Addr)) (fp : List Addr), PE (X.blk s H scope (compEnvC scope cl C X.env) fp) kx tk)
    (pval : ∀ (s : Shared) (H : Hp) (C : Addr) (cl : List (Str × Addr)) (fp : List Addr), PE (X.blk s H scope (compEnvC scope cl C X.env) fp) vx tv) (fold : ∀ x, foldedSetIterable iter X.env x = pure x := by intro _; rfl) :
    PE X (.DictComp kx vx [⟨tg, iter, [], 0⟩] scope pos) (tDcT wi g tk tv (own.map (·.2))) := by
  refine ⟨fun pins s τ H Q I goal => ?_⟩
  rw [arm_eval_DictComp]
  refine dcT_core calm hu nd I src ok ptg pkey pval fold goal fun D C s' m H' J q hn f => ⟨m, hn, fun h'' sb => ?_⟩
  obtain ⟨f0, f1, f2, f3, f4, f5⟩ := f
  exact ⟨.ref D, H', J.turned (t' := s'.toks) (fun b o hb e => (sb.2 b hb).trans e) f0 f1 f3 f4 f5, rfl, q⟩
/-- name = {..} on one line, the name a local -/
theorem ps_setDcT {X : Cx} {i : Nat} {y : Str} {py : Pos} {kx vx tg iter : Expr} {scope : Scope} {own : List (Str × Nat)} {pos spos : Pos} {wi : TI} {g : TG} {tk tv : TE} (calm : X.calm = true) (hu : X.A.units < cLine) (nd : X.N.Nodup) (at_ : X.N[i]? = some y) (kind : X.env.scope.names.lookup y = some .local)
    (sw : swapsWith (.DictComp kx vx [⟨tg, iter, [], 0⟩] scope pos) (some (.Name y py)) spos.line X.env = pure true) (src : PI X tg iter wi) (ok : BlkOk X.N X.env.scope scope own)
    (ptg : ∀ (s : Shared) (H : Hp) (C : Addr) (cl : List (Str × Addr)) (fp : List Addr), PG (X.blk s H scope (compEnvC scope cl C X.env) fp) tg g)
    (pkey : ∀ (s : Shared) (H : Hp) (C : Addr) (cl : List (Str × Addr)) (fp : List Addr), PE (X.blk s H scope (compEnvC scope cl C X.env) fp) kx tk)
    (pval : ∀ (s : Shared) (H : Hp) (C : Addr) (cl : List (Str × Addr)) (fp : List Addr), PE (X.blk s H scope (compEnvC scope cl C X.env) fp) vx tv) (fold : ∀ x, foldedSetIterable iter X.env x = pure x := by intro _; rfl) :
    PS X (.Assign [.Name y py] (.DictComp kx vx [⟨tg, iter, [], 0⟩] scope pos) spos) (tAsg (tDcT wi g tk tv (own.map (·.2))) (gName i)) := by
  refine ⟨fun pins s τ H D I goal => ?_⟩
  rw [exec_Assign_Name_used _ _ _ _ sw]
  refine wpAny_bind (wpAny_standAt (wpAny_bind ?_))
  show wpAny _ X.A (do let _ ← comprehension (.DictComp kx vx [⟨tg, iter, [], 0⟩] scope pos) scope X.env (firstIterPos [⟨tg, iter, [], 0⟩] pos) newDict false (eval iter X.env) (some (assign (.Name y py) X.env))) _ _ s
  have goal : tDcT wi g tk tv (own.map (·.2)) τ H (fun x H1 => gName i x τ H1 D.nx) := goal
  refine wpAny_bind (thn (dcT_core (Qf := fun _ s' => SP X pins D .next s') calm hu nd I src ok ptg pkey pval fold goal fun L C s' m H' J q hn f => ?_) fun _ s' hq => wpAny_pure (wpAny_pure hq))
  show wpAny _ _ (assign (.Name y py) X.env (.ref L)) _ _ _
  refine wpAny_assign_Name (store_ok2 (v := V.ref L) J nd at_ (.inl kind) rfl (fun s2 J2 ⟨a, sb, ha⟩ => ?_) (.inr kind))
  obtain ⟨f0, f1, f2, f3, f4, f5⟩ := f
  have apart : C ≠ a := by
    rcases ha with z | z
    · rw [z]
      exact f1
    · exact fun e => f4 y a z e.symm
  refine ⟨m, hn.sameBut sb apart, fun h3 sb3 => ?_⟩
  exact ⟨_, H', J2.turned (t' := s2.toks) (fun b o hb e => (sb3.2 b hb).trans e) f0 f1 f3 f4 f5, q⟩
theorem sw_dict {kx vx : Expr} {gs : List Comprehension} {scope : Scope} {pos py : Pos} {y : Str} {l : Nat} {env : Env} (kind : env.scope.kind = .function) (loc : env.scope.names.lookup y = some .local) (line : (py.line == pos.line) = true)
    (other : (scope.names.any fun (n, k) => n == y && (k == .local || k == .cell)) = false) : swapsWith (.DictComp kx vx gs scope pos) (some (.Name y py)) l env = pure true := by
  have k1 : env.kindOf y = some .local := loc
  have k2 : env.blockKind = .function := by
    unfold Env.blockKind
    rw [kind]
    rfl
  unfold swapsWith
  simp only [k2, k1, other, Expr.pos, line]
  rfl
end Nl

namespace Nl
open PySem PySem.Spec PyProof.Rows L2 LamX NdefX
/-! ### a function that is handed on: its captured cell stands still while the call runs -/
theorem mod_up {K : PySem.W.Frag} {mg : Str → Option Value} {h h' : Heap} (m : Mod K mg h) (k : ∀ b o, h.get? b = some o → h'.get? b = some o) : Mod K mg h' :=
  ⟨m.kin.keeps k, m.glob.keeps k, let ⟨mb, n, e⟩ := m.blt; ⟨mb, n.keeps k, e⟩, m.nolimit.keeps k⟩
section
variable {X : Cx} {pins : List (Addr × Obj)} {τ : L2.St} {H : Hp} {s : Shared} {x : Str} {c : Addr} {u : Option Value}
theorem cell_noframe (I : Inv X pins τ H s) (hfn : X.fn x = true) (hc : X.env.cells.lookup x = some c) : c ∉ frs X.stack := fun hm => by
  rcases List.mem_cons.mp (I.stkSub c hm) with e | hb
  · exact I.cne x c hc e
  · obtain ⟨_, o, ho, _⟩ := I.ok.funs.mem hb
    exact absurd (Nat.lt_of_lt_of_le (Heap.lt_size ho) (I.ok.cab x c hfn hc)) (Nat.lt_irrefl _)
theorem env0_cell (I : Inv X pins τ H s) (hfn : X.fn x = true) (hc : X.env.cells.lookup x = some c) (hu : s.heap.IsCell c u) :
    ∃ B : Heap, (∀ b o, X.base.get? b = some o → B.get? b = some o) ∧ B.IsCell c u ∧ Env0 X.prog X.w X.K X.mg B X.A X.stack s H := by
  obtain ⟨l, hl⟩ : ∃ l : List Addr, l = (List.range s.heap.objs.size).filter fun b => !((X.base.get? b).isSome || decide (b = c)) := ⟨_, rfl⟩
  have out : ∀ b, ((X.base.get? b).isSome || decide (b = c)) = true → b ∉ l := fun b hb hm => by
    rw [hl] at hm
    have z := (List.mem_filter.mp hm).2
    rw [hb] at z
    cases z
  have keep : ∀ b o, X.base.get? b = some o → (PySem.W.hideAll s.heap l).get? b = some o := fun b o e => PySem.W.hideAll_get l (I.bk b o e) (out b (by rw [e]; rfl))
  obtain ⟨oc, hoc, hd⟩ := id hu
  have inn : ∀ b o, (PySem.W.hideAll s.heap l).get? b = some o → s.heap.get? b = some o ∧ ((X.base.get? b).isSome = true ∨ b = c) := fun b o e => by
    have z := PySem.W.of_hideAll l e
    refine ⟨z, ?_⟩
    cases q : (X.base.get? b).isSome with
    | true => exact .inl rfl
    | false =>
      refine .inr (Decidable.byContradiction fun ne => ?_)
      rw [PySem.W.hideAll_none l (by
        rw [hl]
        exact List.mem_filter.mpr ⟨List.mem_range.mpr (Heap.lt_size z), by rw [q, decide_eq_false ne]; rfl⟩)] at e
      cases e
  refine ⟨PySem.W.hideAll s.heap l, keep, ⟨oc, PySem.W.hideAll_get l hoc (out c (by simp)), hd⟩, ?_⟩
  have e0 := I.env0
  refine ⟨e0.frames, mod_up e0.mod keep, fun b o e => ?_, Nat.le_of_eq (PySem.W.hideAll_size l s.heap), funFrames_none e0.funs fun L hL => ?_, e0.frf, e0.hok, e0.bare⟩
  · obtain ⟨h1, h2 | h2⟩ := inn b o e
    · obtain ⟨o', ho'⟩ := Option.isSome_iff_exists.mp h2
      exact ⟨h1, (I.bs b o' ho').2⟩
    · subst h2
      exact ⟨h1, I.freeC x _ hc⟩
  · cases e : (PySem.W.hideAll s.heap l).get? L with
    | none => rfl
    | some o =>
      obtain ⟨_, h2 | h2⟩ := inn L o e
      · rw [(e0.funs.mem hL).1] at h2
        cases h2
      · subst h2
        exact (cell_noframe I hfn hc hL).elim
end
/-- the promise of a function value, its captured cells being what they are -/
structure HeldF (P : Program) (w : World) (K : PySem.W.Frag) (mg : Str → Option Value) (base : Heap) (k : Nat) (F : NF) (n : Nat) (sp : Sp) : Prop where
  len : ∀ vs H Q E, sp vs H Q E → vs.length = n
  run : ∀ (f : Addr) (A : Around) (outer : List Env) (s : Shared) (H : Hp) (us : List Value) (vs : List V) (Q : VK) (E : XK), Room k A → Env0 P w K mg base A outer s H → H f = some (FnO f F) → H F.c = some (CodeO F.c F.qual) → Vals vs us → sp vs H Q E →
    codeAny (model P w) A (.call (.ref f) ⟨us, []⟩) (CR CX0 outer P w H s Q E) s
/-- .. of a nested def with one captured name, whose cell stands in the ground -/
theorem held_of {P : Program} {w : World} {K : PySem.W.Frag} {mg : Str → Option Value} {base : Heap} {k : Nat} {F : NF} {ps : List Str} {y : Str} {c : Addr} {v : V} {u : Value} {sp : List (Option V) → Sp} (N : ∀ f, NOk P w K mg base CX0 k f F ps [y] sp) (hy : F.cl.lookup y = some c) (one : ∀ z d, F.cl.lookup z = some d → z = y)
    (hc : base.IsCell c (some u)) (rv : RelV v u) : HeldF P w K mg base k F ps.length (sp [some v]) where
  len := fun vs H Q E h => (N 0).len [some v] vs H Q E h
  run := fun f A outer s H us vs Q E hr e0 hf hco rr h => by
    obtain ⟨o, ho, hd⟩ := hc
    obtain ⟨h1, h2⟩ := e0.bs c o ho
    refine (N f).run A outer s H us vs [some v] Q E hr e0 hf hco ⟨rfl, fun z d e => ?_, fun z z' d e e' => ?_, fun i z e => ?_⟩ rr h
    · obtain rfl := one z d e
      rw [hy] at e
      cases e
      exact ⟨h2, _, o, h1, hd⟩
    · rw [one z d e, one z' d e']
    · cases i with
      | succ i => simp at e
      | zero =>
        have e : some y = some z := e
        cases e
        refine ⟨c, hy, fun v' e' => ?_⟩
        have e' : some (some v) = some (some v') := e'
        cases e'
        exact ⟨u, rv, o, h1, hd⟩
/-- f(..), f a name that holds such a function -/
def tCallH (i : Nat) (F : NF) (sp : Sp) (t : TA) : TE := fun σ H Q => ∃ f, σ[i]? = some (some (.ref f)) ∧ H f = some (FnO f F) ∧ t σ H fun vs H1 => H1 f = some (FnO f F) ∧ H1 F.c = some (CodeO F.c F.qual) ∧ sp vs H1 Q E0
theorem pe_callH {X : Cx} {k j i n : Nat} {F : NF} {sp : Sp} {x : Str} {e : Expr} {es : List Expr} {t : TA} {p pos : Pos} (Hd : HeldF X.prog X.w X.K X.mg X.base k F n sp) (hr : Room j X.A) (hk : k ≤ j) (at_ : X.N[i]? = some x) (vis : Vis X.env.scope x) (ha : PA X (e :: es) t)
    (d1 : (x == ("__debug__" : Str)) = false := by decide) (d2 : (x == ("__classdict__" : Str)) = false := by decide)
    (he : starEach (e :: es) X.env = (false, eval e X.env) :: starEach es X.env := by rfl) (hpl : (backTo pos (starEach es X.env)).any (·.1) = false := by rfl) : PE X (.Call (.Name x p) (e :: es) [] pos) (tCallH i F sp t) := by
  refine ⟨fun pins s τ H Q I h => ?_⟩
  obtain ⟨f, hs, hf, ht⟩ := h
  refine wpAny_Call_Name_kw (thn ((pe_var (pos := p) at_ vis d1 d2).run pins s τ H (fun v H1 => v = .ref f ∧ H1 = H) I ⟨.ref f, hs, rfl, rfl⟩) fun u s1 ⟨v, H1, J, r1, q1⟩ => ?_)
  obtain ⟨rfl, rfl⟩ := q1
  obtain rfl : u = Value.ref f := r1
  refine PySem.W.callWith_F (first := []) (fnAt_of J hf) (thn (ha.run pos pins s1 τ _ _ J ht) fun us s2 ⟨vs, H2, J2, r, h1, h2, q⟩ => ⟨fnAt_of J2 h1, ?_⟩) he hpl
  show wpAny _ _ (call (.ref f) us) _ _ _
  refine wpAny_call (codeAny_mono (Hd.run f X.A X.stack s2 H2 us vs Q E0 (hr.mono hk) J2.env0 h1 h2 r q) fun r s' hq => ?_)
  cases r with
  | error e => exact pass0 pins τ H2 s2 e s' J2 hq
  | ok fl =>
    cases fl with
    | ret u => exact J2.after hq
    | next => exact False.elim hq
    | brk => exact False.elim hq
    | cont => exact False.elim hq
end Nl

namespace Nl
open PySem PySem.Spec PyProof.Rows L2 LamX NdefX
/-! ### a nested def with one captured name and one parameter, which a comprehension captures -/
abbrev cellO : Obj := { cls := .type "cell", data := .cell none }
structure OneCell (N : List Str) (x y : Str) (sc : Scope) : Prop where
  kind : sc.kind = .function
  co : sc.isCoroutine = false
  gen : sc.isGenerator = false
  nd : N.Nodup
  at0 : N[0]? = some x
  at1 : N[1]? = some y
  kx : sc.names.lookup x = some .cell
  ky : sc.names.lookup y = some .free
  cells : ∀ n acc, cellsFrom n sc.names acc = (x, n) :: acc
  push : ∀ h : Heap, pushCells h sc.names = h.push cellO
  free : ∀ z ∈ sc.names, z.2 = .free → z.1 = y
  cell : ∀ z ∈ sc.names, z.2 = .cell → z.1 = x
abbrev envD (F : NF) (x : Str) (f L : Addr) : Env := PySem.W.envX F.qual F.scope L f (.ref F.c) ((x, L + 1) :: F.cl)
def dcx (CX : CXT) (P : Program) (w : World) (K : PySem.W.Frag) (mg : Str → Option Value) (base : Heap) (N : List Str) (F : NF) (x : Str) (f : Addr) (A : Around) (outer : List Env) (s : Shared) (H : Hp) (E : XK) : Cx where
  prog := P
  w := w
  K := K
  mg := mg
  base := base
  A := A.deeper (envD F x f s.heap.objs.size)
  N := N
  s_0 := s
  H_0 := H
  env := envD F x f s.heap.objs.size
  outer := outer
  stack := envD F x f s.heap.objs.size :: outer
  ex := []
  calm := true
  fn := fun _ => false
  pn := []
  xe := fun e s' => wpAny (model P w) (A.deeper (envD F x f s.heap.objs.size)) (leaving (envD F x f s.heap.objs.size) e) (fun _ s'' => CX outer H s E e s'') (fun e' s'' => CX outer H s E e' s'') s'
theorem newEnv_one {M : Model} {A : Around} {E : Value → Shared → Prop} {s : Shared} {sc : Scope} {N : List Str} {x y : Str} {globals : Addr} {cl : List (Str × Addr)} {v : Value} {qual : Str} {func : Option Addr} {code : Value} {builtins : Addr} {Q : Env → Shared → Prop} (S : OneCell N x y sc)
    (hQ : ∀ h' tk, h'.Ns s.heap.objs.size (fun _ => none) → h'.IsCell (s.heap.objs.size + 1) (some v) → (∀ b o, s.heap.get? b = some o → h'.get? b = some o) → Q (newEnv sc s.heap.objs.size globals ((x, s.heap.objs.size + 1) :: cl) qual func code none builtins) { s with heap := h', toks := tk }) :
    wpAny M A (newFunctionEnv sc globals cl [(x, v)] qual func code none builtins) Q E s := by
  simp only [newFunctionEnv, Option.isSome_none, Bool.false_eq_true, if_false]
  refine wpAny_bind (wpAny_alloc ?_)
  refine wpAny_bind (wpAny_layCells _ (fun name kind cells => by cases q : kind == NameKind.cell <;> simp [q]) _ _ _ _ ?_)
  rw [show ({ s with heap := s.heap.push { cls := .type "frame", data := .dict #[] } } : Shared).heap.objs.size = s.heap.objs.size + 1 from Heap.size_push .., S.cells, S.push]
  simp only [List.forIn_cons, List.forIn_nil]
  have c0 : ((s.heap.push { cls := .type "frame", data := .dict #[] }).push cellO).IsCell (s.heap.objs.size + 1) none := by
    refine ⟨cellO, ?_, rfl⟩
    have := Heap.get?_push_size (s.heap.push { cls := .type "frame", data := .dict #[] }) (o := cellO) rfl
    rw [Heap.size_push] at this
    exact this
  have n0 := ((Heap.Ns.new s.heap (.type "frame")).keeps fun b o e => Heap.get?_push_of_some cellO e)
  refine wpAny_bind (wpAny_bind (wpAny_bind (wpAny_storeName_cell (c := s.heap.objs.size + 1) S.kind S.kx (List.lookup_cons_self ..) c0 fun h' hc sb => wpAny_pure (wpAny_pure (wpAny_pure ?_)))))
  refine hQ h' _ (n0.sameBut sb (Nat.ne_of_lt (Nat.lt_succ_self _))) hc fun b o e => ?_
  have hlt := Heap.lt_size e
  exact (sb.2 b (Nat.ne_of_lt (Nat.lt_succ_of_lt hlt))).trans (Heap.get?_push_of_some _ (Heap.get?_push_of_some _ e))
section
variable {CX : CXT} {P : Program} {w : World} {K : PySem.W.Frag} {mg : Str → Option Value} {base : Heap} {N : List Str} {x y : Str} {F : NF} {f : Addr} {k : Nat} {sp : List (Option V) → Sp}
theorem inv_startD {A : Around} {outer : List Env} {s : Shared} {H : Hp} {E : XK} {v : V} {u : Value} {o : Option V} {h₁ : Heap} {tk : Nat} (S : OneCell N x y F.scope) (hd : A.handled = none) (e0 : Env0 P w K mg base A outer s H) (r : RelV v u) (C : CellsAt F.cl [y] [o] s.heap H)
    (hns : h₁.Ns s.heap.objs.size fun _ => none) (hc : h₁.IsCell (s.heap.objs.size + 1) (some u)) (kp : ∀ b o, s.heap.get? b = some o → h₁.get? b = some o) :
    Inv (dcx CX P w K mg base N F x f A outer s H E) [] (some v :: o :: List.replicate (N.length - 2) none) H { s with heap := h₁, toks := tk } := by
  have hN : 2 ≤ N.length := by
    have := (List.getElem?_eq_some_iff.mp S.at1).1
    omega
  have noA : ∀ b : Addr, ¬ b ∈ (dcx CX P w K mg base N F x f A outer s H E).ex := fun b z => absurd (show b ∈ ([] : List Addr) from z) (by simp)
  have cellK : ∀ {c : Addr} {v : Option Value}, s.heap.IsCell c v → h₁.IsCell c v := fun {c v} ⟨o, ho, hd⟩ => ⟨o, kp _ _ ho, hd⟩
  have old : ∀ z c, F.cl.lookup z = some c → c < s.heap.objs.size := fun z c e => by
    obtain ⟨_, v, q⟩ := C.all z c e
    exact q.lt
  have split : ∀ z c, (((x, s.heap.objs.size + 1) :: F.cl) : List (Str × Addr)).lookup z = some c → (z = x ∧ c = s.heap.objs.size + 1) ∨ (z ≠ x ∧ F.cl.lookup z = some c) := fun z c e => by
    rw [List.lookup_cons] at e
    by_cases q : z = x
    · rw [beq_iff_eq.mpr q] at e
      cases e
      exact .inl ⟨q, rfl⟩
    · rw [beq_eq_false_iff_ne.mpr q] at e
      exact .inr ⟨q, e⟩
  have apart : ∀ z z' c, (((x, s.heap.objs.size + 1) :: F.cl) : List (Str × Addr)).lookup z = some c → (((x, s.heap.objs.size + 1) :: F.cl) : List (Str × Addr)).lookup z' = some c → z = z' := fun z z' c e e' => by
    rcases split z c e with ⟨a, b⟩ | ⟨a, b⟩ <;> rcases split z' c e' with ⟨a', b'⟩ | ⟨a', b'⟩
    · rw [a, a']
    · have := old z' c b'
      rw [b] at this
      exact absurd this (Nat.not_lt.mpr (Nat.le_succ _))
    · have := old z c b
      rw [b'] at this
      exact absurd this (Nat.not_lt.mpr (Nat.le_succ _))
    · exact C.inj z z' c b b'
  have ne_xy : y ≠ x := fun z => by
    have := S.kx
    rw [← z, S.ky] at this
    cases this
  obtain ⟨cy, hcy, hvy⟩ := C.has 0 y rfl
  have hy' : (((x, s.heap.objs.size + 1) :: F.cl) : List (Str × Addr)).lookup y = some cy := by
    rw [List.lookup_cons, beq_eq_false_iff_ne.mpr ne_xy]
    exact hcy
  refine ⟨⟨e0.mod, S.kind, rfl, rfl, Nat.le_refl _, fun z z' c => apart z z' c, fun z hz => ?_, fun z c q _ => ?_, fun _ => hd, Around.frames_deeper e0.frames, .inr ⟨rfl, rfl⟩, fun b z => absurd z (noA b), e0.bs, e0.bsz, fun b _ _ => noA b,
      fun b z => absurd z (noA b), e0.funs, e0.frf⟩,
    rfl, e0.bare, Un.kept kp, ⟨_, hns, fun i z v' e1 e2 e3 => ?_⟩, fun z c e => ?_, e0.hok.fresh (Nat.le_refl _), fun z c e => ?_, fun q hq => absurd (show q ∈ ([] : List (Addr × Obj)) ++ [] from hq) (by simp), e0.hok.kept kp, ?_⟩
  · have hz : F.scope.names.lookup z = some .cell ∨ F.scope.names.lookup z = some .free := hz
    rcases hz with hz | hz
    · obtain rfl : z = x := S.cell _ (PySem.mem_of_lookup hz) rfl
      exact ⟨_, List.lookup_cons_self ..⟩
    · obtain rfl : z = y := S.free _ (PySem.mem_of_lookup hz) rfl
      exact ⟨cy, hy'⟩
  · have q : false = true := q
    cases q
  · have e1 : N[i]? = some z := e1
    match i, e1, e2 with
    | 0, e1, e2 =>
      rw [S.at0] at e1
      cases e1
      have e2 : some (some v) = some (some v') := e2
      cases e2
      exact ⟨u, r, .inr ⟨.inl S.kx, _, List.lookup_cons_self .., hc⟩⟩
    | 1, e1, e2 =>
      rw [S.at1] at e1
      cases e1
      have e2 : some o = some (some v') := e2
      cases e2
      obtain ⟨uy, ry, iy⟩ := hvy v' rfl
      exact ⟨uy, ry, .inr ⟨.inr S.ky, cy, hy', cellK iy⟩⟩
    | i + 2, e1, e2 =>
      rw [List.getElem?_cons_succ, List.getElem?_cons_succ, List.getElem?_replicate] at e2
      split at e2 <;> cases e2
  · rcases split z c e with ⟨_, rfl⟩ | ⟨_, b⟩
    · exact ⟨_, hc⟩
    · obtain ⟨v', q⟩ := (C.all z c b).2
      exact ⟨v', cellK q⟩
  · rcases split z c e with ⟨_, rfl⟩ | ⟨_, b⟩
    · exact e0.hok.fresh (Nat.le_succ _)
    · exact (C.all z c b).1
  · show _ = N.length
    rw [List.length_cons, List.length_cons, List.length_replicate]
    omega
theorem nokD_of (S : OneCell N x y F.scope) (hb : ∀ (doc pm ctv : Value) (us : List Value), us.length = 1 → bindArgs (F.fd doc pm ctv) ⟨us, []⟩ = pure ([x].zip us)) (len : ∀ ws vs H Q E, sp ws vs H Q E → vs.length = 1)
    (hbody : ∀ (A : Around) (outer : List Env) (s : Shared) (H : Hp) (v : V) (o : Option V) (Q : VK) (E : XK), Room k (A.deeper (envD F x f s.heap.objs.size)) → sp [o] [v] H Q E →
      ∃ t, PSs (dcx CX P w K mg base N F x f A outer s H E) F.body t ∧ t { nx := fun _ H' => Q .non H', rt := Q } (some v :: o :: List.replicate (N.length - 2) none) H) :
    NOk P w K mg base CX (k + 1) f F [x] [y] sp := by
  refine ⟨len, fun A outer s H us vs ws Q E hr e0 hf hc C r hsp => ?_⟩
  have hl := len _ _ _ _ _ hsp
  have lim : s.heap.NoLimit := e0.mod.nolimit.keeps fun b o e => (e0.bs b o e).1
  obtain ⟨od, sl, doc, pm, ctv, ho⟩ := fnO_at e0.hok hf
  obtain ⟨v, rfl⟩ : ∃ v, vs = [v] := by
    match vs, hl with
    | [v], _ => exact ⟨v, rfl⟩
  obtain ⟨o, rfl⟩ : ∃ o, ws = [o] := by
    match ws, C.len with
    | [o], _ => exact ⟨o, rfl⟩
  cases r with
  | cons r0 rr =>
    cases rr
    rename_i u
    refine codeAny_call_function hr.depth ho rfl S.co S.gen rfl (codeO_at e0.hok hc) ?_
    rw [hb doc pm ctv [u] rfl]
    refine wpAny_pure (newEnv_one S fun h₁ tk hns hcell kp => ⟨lim.keeps kp, ?_⟩)
    show codeAny _ _ (.func F.body (envD F x f s.heap.objs.size)) _ _
    refine codeAny_func ?_
    obtain ⟨t, ht, hq⟩ := hbody A outer s H v o Q E (hr.deeper _) hsp
    have I : Inv (dcx CX P w K mg base N F x f A outer s H E) [] (some v :: o :: List.replicate (N.length - 2) none) H { s with heap := h₁, toks := tk } := inv_startD S hr.hd e0 r0 C hns hcell kp
    refine wpAny_mono (ht.run [] _ _ H _ I hq) (fun fl s' hs => ?_) fun e s' hs => hs
    have fin : ∀ {σ' : L2.St} {H' : Hp} {v : V} {u : Value}, Inv (dcx CX P w K mg base N F x f A outer s H E) [] σ' H' s' → L2.RelV v u → Q v H' → CE outer P w H s Q u s' :=
      fun {σ' H' v u} J rv q => ⟨v, H', J.os, J.bare, J.base, J.hok, rv, q⟩
    cases fl with
    | ret u =>
      obtain ⟨v, σ', H', J, rv, q⟩ := hs
      exact fin J rv q
    | next =>
      obtain ⟨σ', H', J, q⟩ := hs
      exact fin (v := V.non) (u := Value.none) J rfl q
    | brk =>
      obtain ⟨_, _, _, q⟩ := hs
      exact False.elim q
    | cont =>
      obtain ⟨_, _, _, q⟩ := hs
      exact False.elim q
end
/-- a def of the text whose code object is at c -/
structure FunC (K : PySem.W.Frag) (x qual : Str) (st : Stmt) (f : Addr) (fd : FuncData) (c : Addr) : Prop where
  ex : ∃ (oc : Value) (od : Option Addr) (kV doc pm : Value) (an : Option Addr) (ct : Value) (osl : Array (Option Value)),
    fd = PySem.W.fnOf x qual (defArgs st) (defBody st) (defScope st) .none kV doc pm an (.ref c) ct ∧ K.lookup f = some ⟨oc, od, .func fd, osl⟩ ∧ PySem.W.codeIn K (.ref c) qual = true
theorem FunC.okX {P : Program} {w : World} {K : PySem.W.Frag} {mg : Str → Option Value} {base : Heap} {x qual : Str} {st : Stmt} {f c : Addr} {fd : FuncData} {N ps : List Str} {k : Nat} {sp : Sp} (F : FunC K x qual st f fd c) (S : FnScope N ps (defScope st)) (len : ∀ vs H Q E, sp vs H Q E → vs.length = ps.length)
    (body : ∀ (A : Around) (outer : List Env) (s : Shared) (H : Hp) (vs : List V) (Q : VK) (E : XK), Room k (A.deeper (envOfC qual (defScope st) s.heap.objs.size f (.ref c))) → sp vs H Q E →
      ∃ t, PSs (cxOf (L2.CX P w) P w K mg base N qual (defScope st) f (.ref c) A outer s H E) (defBody st) t ∧ t { nx := fun _ H' => Q .non H', rt := Q } (L2.start N vs) H) : FnOk P w K mg base (L2.CX P w) (k + 1) f fd ps sp := by
  obtain ⟨oc, od, kV, doc, pm, an, ct, osl, rfl, lk, hcd⟩ := F.ex
  exact fn_of lk hcd S len fun A outer s H vs Q E hr hsp => body A outer s H vs Q E hr hsp
/-- a call of a def of the text, in the ground with one cell more -/
def tCallG (i : Nat) (sp : Addr → V → Sp) (t : TA) : TE := fun σ H Q => ∃ z v, σ[i]? = some (some v) ∧ t σ H fun vs H1 => sp z v vs H1 Q E0
theorem pe_callG {X : Cx} {i k j : Nat} {f : Addr} {fd : FuncData} {ps : List Str} {x y : Str} {sp : Addr → V → Sp} {e : Expr} {es : List Expr} {t : TA} {p pos : Pos}
    (F : ∀ (z : Addr) (B : Heap) (c : Addr) (u : Value) (v : V), X.env.cells.lookup y = some c → RelV v u → B.IsCell c (some u) → (∀ b o, X.base.get? b = some o → B.get? b = some o) → FnOk X.prog X.w X.K X.mg B CX0 k f fd ps (sp z v))
    (hr : Room j X.A) (hk : k ≤ j) (hg : Gl X x) (hm : X.mg x = some (.ref f)) (hkp : PySem.W.keepIn X.K (.ref f) = true) (hb : Binds X.K fd ps []) (at_ : X.N[i]? = some y) (kind : X.env.scope.names.lookup y = some .cell) (hfn : X.fn y = true) (ha : PA X (e :: es) t)
    (hdb : (x == ("__debug__" : Str)) = false := by decide) (he : starEach (e :: es) X.env = (false, eval e X.env) :: starEach es X.env := by rfl) (hpl : (backTo pos (starEach es X.env)).any (·.1) = false := by rfl) :
    PE X (.Call (.Name x p) (e :: es) [] pos) (tCallG i sp t) := by
  refine ⟨fun pins s τ H Q I h => ?_⟩
  obtain ⟨z, v, hv, ht⟩ := h
  refine wpAny_Call_Name_kw (ld_glob I hg hm ?_ hdb)
  refine PySem.W.callWith_K (h₀ := X.base) I.ok.mod.kin hkp (thn (ha.run pos pins s τ H _ I ht) fun us s1 ⟨vs, H1, J, r, q⟩ => ⟨J.kIn, ?_⟩) he hpl
  obtain ⟨m, _, hl⟩ := J.loc
  obtain ⟨u, rv, look⟩ := hl i y v at_ hv (.inr (.inl kind))
  rcases look with ⟨z, _⟩ | ⟨_, c, hc, hcell⟩
  · have z : X.env.scope.names.lookup y = some .local := z
    rw [kind] at z
    cases z
  · obtain ⟨B, keep, hB, e0⟩ := env0_cell J hfn hc hcell
    have G := F z B c u v hc rv hB keep
    have hl : us.length = ps.length := by rw [← r.length]; exact G.len _ _ _ _ q
    refine wpAny_call (codeAny_mono (G.run X.A X.stack s1 H1 ⟨us, []⟩ us vs Q E0 (hr.mono hk) e0 (by have := hb s1 us J.kIn (by simpa using hl); simpa using this) r q) fun rr s' hq => ?_)
    cases rr with
    | error e => exact pass0 pins τ H1 s1 e s' J hq
    | ok fl =>
      cases fl with
      | ret u => exact J.after hq
      | next => exact False.elim hq
      | brk => exact False.elim hq
      | cont => exact False.elim hq
theorem HeldF.imp {P : Program} {w : World} {K : PySem.W.Frag} {mg : Str → Option Value} {base : Heap} {k n : Nat} {F : NF} {sp sp' : Sp} (h : HeldF P w K mg base k F n sp) (g : ∀ vs H Q E, sp' vs H Q E → sp vs H Q E) : HeldF P w K mg base k F n sp' :=
  ⟨fun vs H Q E q => h.len vs H Q E (g _ _ _ _ q), fun f A outer s H us vs Q E hr e0 hf hc r q => h.run f A outer s H us vs Q E hr e0 hf hc r (g _ _ _ _ q)⟩
/-- what a closure with one captured name holds -/
theorem clo_one {cells : List (Str × Addr)} {names : List (Str × NameKind)} {y : Str} {c : Addr} (only : ∀ z ∈ names, z.2 = .free → z.1 = y) (hy : (y, NameKind.free) ∈ names) (hc : cells.lookup y = some c) :
    (cloFrom cells names []).lookup y = some c ∧ ∀ z d, (cloFrom cells names []).lookup z = some d → z = y := by
  refine ⟨clo_has (fun z hz e => ⟨c, by rw [only z hz e]; exact hc⟩) hy hc, fun z d e => ?_⟩
  rcases cloFrom_mem (PySem.mem_of_lookup e) with hm | ⟨h1, _⟩
  · cases hm
  · exact only _ h1 rfl
theorem tp_ext {H H' : Hp} {a : Addr} {xs : List V} (s : ExtN H H') (h : Tp H a xs) : Tp H' a xs := s _ _ h fun _ z => nomatch z
theorem DT.ext {K : PySem.W.Frag} {H H' : Hp} {v : V} {d : PyData} (h : DT K H v d) (s : ExtN H H') : DT K H' v d := DT.mono (fun _ _ => tp_ext s) d v h
theorem DTs.ext {K : PySem.W.Frag} {H H' : Hp} {v : List V} {d : List PyData} (h : DTs K H v d) (s : ExtN H H') : DTs K H' v d := DTs.mono (fun _ _ => tp_ext s) d v h
theorem Same.ext {H H' : Hp} (s : Same H H') : ExtN H H' := fun b o h _ => s b o h
theorem TabsN.same {T : List NTab} {H H' : Hp} (h : TabsN T H) (s : Same H H') : TabsN T H' := h.ext s
end Nl

/-! a list comprehension whose element may let an exception out -/
namespace Nl
open PySem PySem.Spec PyProof.Rows L2
theorem note_frame {x : Value} {a b : Env} (h : a.frame = b.frame) : noteFrame x a = noteFrame x b := by
  unfold noteFrame PySem.frameOf
  rw [h]
section
variable {M : Model} {A : Around} {E : Value → Shared → Prop} {s : Shared} {env : Env}
/-- what holds behind a comprehension's code, its environment told -/
def postX (M : Model) (A : Around) (E : Value → Shared → Prop) (use : Option (Value → Sem Unit)) (Q : Value → Shared → Prop) (acc : Value) (ce : Env) : Result → Shared → Prop
  | .ok f, s' => compPost M A E use Q acc ce.locals (.ok f) s'
  | .error x, s' => ∃ m, s'.heap.Ns ce.locals m ∧ ∀ h', Heap.SameBut ce.locals s'.heap h' →
      wpAny M A (passOn "comprehension.variables-let-go" x ce : Sem Value) (fun _ _ => False) E { s' with heap := h' }
theorem comp_freeX {e : Expr} {scope : Scope} {pos : Pos} {mk first : Sem Value} {g : Comprehension} {gs : List Comprehension} {cl : List (Str × Addr)} {use : Option (Value → Sem Unit)} {Q : Value → Shared → Prop}
    (hcl : clausesOf e = g :: gs) (hfold : ∀ x, foldedSetIterable g.iter env x = pure x) (hclo : closureFor scope env = pure cl) (hk : scope.kind = .function) (hloc : ∀ x ∈ scope.names, x.2 = .local → scope.names.lookup x.1 = some .local)
    (h : wpAny M A first (fun x s1 => wpAny M A (pyIter x) (fun it s2 => wpAny M A mk (fun acc s3 =>
        wpAny M A (newFunctionEnv scope env.globals cl [] env.qual none .none (some env))
          (fun ce s4 => codeAny M A (.compStart e 0 it acc { ce with scope := relabel scope env }) (postX M A E use Q acc { ce with scope := relabel scope env }) s4) E s3) E s2) E s1) E s) :
    wpAny M A (comprehension e scope env pos mk false first use) Q E s := by
  have up : ∀ {α : Type} {t : Sem α} {R R' : α → Shared → Prop} {s : Shared}, wpAny M A t R E s → (∀ a s, R a s → R' a s) → wpAny M A t R' E s := fun h k => wpAny_mono h k fun _ _ z => z
  unfold comprehension
  rw [hclo, hcl]
  refine wpAny_bind (up h fun x s1 h1 => ?_)
  refine wpAny_bind (wpAny_standAt (wpAny_bind (wpAny_of_eq (hfold x) (wpAny_bind (wpAny_holding (up h1 fun it s2 h2 => ?_))))))
  refine wpAny_standIf (wpAny_bind (up h2 fun acc s3 h3 => wpAny_bind (wpAny_pure (wpAny_bind (up h3 fun ce s4 h4 => ?_)))))
  dsimp only
  have lo : ∀ (vs : List (Str × NameKind)), (∀ x ∈ vs, x ∈ scope.names) → ∀ x ∈ vs, x.2 = .local → Env.kindOf { ce with scope := relabel scope env } x.1 = some .local :=
    fun vs hvs x hx hl => lookup_relabel_local (hloc x (hvs x hx) hl)
  have sub1 : ∀ x ∈ (scope.names.filter fun x => (x.2 == .local || x.2 == .cell) && x.1 != (".0" : Str)).reverse, x ∈ scope.names := fun x hx => (List.mem_filter.mp (List.mem_reverse.mp hx)).1
  have sub2 : ∀ x ∈ (scope.names.filter fun x => (x.2 == .local || x.2 == .cell) && x.1 != (".0" : Str)).reverse.drop 1 ++ (scope.names.filter fun x => (x.2 == .local || x.2 == .cell) && x.1 != (".0" : Str)).reverse.take 1, x ∈ scope.names := fun x hx => by
    rcases List.mem_append.mp hx with q | q
    · exact sub1 x (List.mem_of_mem_drop q)
    · exact sub1 x (List.mem_of_mem_take q)
  refine wpAny_holding (wpAny_bind (wpAny_attempt (wpAny_holding (wpAny_run (codeAny_mono h4 fun r s' hr => ?_)))))
  cases r with
  | ok f =>
    cases use with
    | none =>
      obtain ⟨m, hn, hr⟩ := (show compPost M A E none Q acc ce.locals (.ok f) s' from hr)
      exact wpAny_bind (wpAny_holding (wpAny_comp_letGo (cenv := { ce with scope := relabel scope env }) hk _ s' m (lo _ sub1) hn fun h' _ _ sb => wpAny_pure (hr h' sb)))
    | some u =>
      have hr : wpAny M A (u acc) (fun _ s'' => ∃ m, s''.heap.Ns ce.locals m ∧ ∀ h', Heap.SameBut ce.locals s''.heap h' → Q .none { s'' with heap := h' }) E s' := hr
      refine wpAny_bind (wpAny_rule (wpAny_bind (wpAny_holding (up hr fun _ s'' q => ?_))))
      obtain ⟨m, hn, q⟩ := q
      exact wpAny_bind (wpAny_comp_letGo (cenv := { ce with scope := relabel scope env }) hk _ s'' m (lo _ sub2) hn fun h' _ _ sb => wpAny_pure (q h' sb))
  | error x =>
    have hr : ∃ m, s'.heap.Ns ce.locals m ∧ ∀ h', Heap.SameBut ce.locals s'.heap h' →
      wpAny M A (passOn "comprehension.variables-let-go" x { ce with scope := relabel scope env } : Sem Value) (fun _ _ => False) E { s' with heap := h' } := by cases use <;> exact hr
    obtain ⟨m, hn, hr⟩ := hr
    exact wpAny_bind (wpAny_holding (wpAny_comp_letGo (cenv := { ce with scope := relabel scope env }) hk _ s' m (lo _ sub1) hn fun h' _ _ sb => wpAny_mono (hr h' sb) (fun _ _ f => f.elim) fun _ _ y => y))
end
/-- a heap without one object -/
abbrev less (h : Heap) (C : Addr) : Heap := PySem.W.hideAll h [C]
theorem less_get {h : Heap} {C b : Addr} {o : Obj} (e : h.get? b = some o) (n : b ≠ C) : (less h C).get? b = some o := PySem.W.hideAll_get _ e (by simpa using n)
theorem of_less {h : Heap} {C b : Addr} {o : Obj} (e : (less h C).get? b = some o) : h.get? b = some o ∧ b ≠ C := by
  refine ⟨PySem.W.of_hideAll _ e, fun z => ?_⟩
  rw [PySem.W.hideAll_none [C] (by simp [z])] at e
  cases e
theorem ff_keep {h h' base : Heap} : ∀ {l : List Env}, (∀ L ∈ frs l, ∀ o, h.get? L = some o → h'.get? L = some o) → h.FunFrames base l → h'.FunFrames base l
  | [], _, _ => trivial
  | env :: l, k, x => by
    obtain ⟨hk, ⟨L, o, hf, hn, ho, hd⟩, hr⟩ := x
    exact ⟨hk, ⟨L, o, hf, hn, k L (List.mem_filterMap.mpr ⟨env, List.mem_cons_self, hf⟩) o ho, hd⟩, ff_keep (fun L hL => k L (by
      obtain ⟨e, he, q⟩ := List.mem_filterMap.mp hL
      exact List.mem_filterMap.mpr ⟨e, List.mem_cons_of_mem _ he, q⟩)) hr⟩
/-- noted in another place before: the entry of this frame is new -/
theorem look_other {M : Model} {A : Around} {E : Value → Shared → Prop} {s : Shared} {Z : Obj → Prop} {base : Heap} {env : Env} {outer : List Env} {L e : Addr} {fl : Value} {Q : Unit → Shared → Prop} (hZ : HandSPX.Steady Z)
    (hfr : A.frames = some (env :: outer)) (hf : env.frame = some L) (hkb : base.StaysIn s.heap) (hen : base.get? e = none) (hl : s.heap.FunFrames base (env :: outer)) (ht : HandSPX.TracedZ s.heap base e Z fl) (hfl : (fl == rawInt L) = false)
    (hQ : ∀ h', HandSPX.HeldZ base (env :: outer) e Z L h' → s.heap.UpToSlots h' → Q () { s with heap := h' }) : wpAny M A (noteFrame (.ref e) env) Q E s := by
  obtain ⟨oe, vs, T, oT, ts, he, hz, hd, h1, hnT, hTe, hT, hdT, h3⟩ := ht
  have ne : ∀ b, b ≠ T → (s.heap.update T (Obj.mapFields (·.setIfInBounds 3 Value.none))).get? b = s.heap.get? b :=
    fun b hb => Heap.get?_update_other _ _ (Ne.symm hb)
  have nT : ∀ b o, s.heap.get? b = some o → (∀ vs, o.data ≠ .fields vs) → b ≠ T := fun b o hb nf z => by
    subst z
    rw [hT] at hb
    cases hb
    exact nf ts hdT
  unfold noteFrame
  simp only [hf]
  refine wpAny_bind (wpAny_field he hd h1 ?_)
  rw [if_pos (show (Value.ref T != Value.none) = true from by simp)]
  refine wpAny_bind (wpAny_field hT hdT h3 ?_)
  rw [if_neg (by rw [hfl]; exact Bool.false_ne_true)]
  refine wpAny_bind (wpAny_setField hT hdT (Array.getElem?_eq_some_iff.mp h3).1 ?_)
  refine HandSPX.wpAny_entryZ hZ hfr (hl.of_keeps fun b o hb nf => ⟨o, (ne b (nT b o hb nf)).trans hb, rfl⟩) hf ((ne e (Ne.symm hTe)).trans he)
    (fun b o hb => (ne b fun z => by rw [z, hnT] at hb; cases hb).trans (hkb b o hb)) hen hd (Array.getElem?_eq_some_iff.mp h1).1 hz fun h' hN => ?_
  obtain ⟨x1, x2, x3, x4⟩ := hN
  exact hQ h' ⟨x1, hen, x2, x3⟩ fun b o hb nf => x4 b o ((ne b (nT b o hb nf)).trans hb) nf
section
variable {X : Cx} {pins : List (Addr × Obj)} {σ : L2.St} {H H' : Hp}
/-- an exception out of a block's element: noted in the def's frame, the block's names let go, and in the def's air -/
theorem block_out {Wk : XK} {s0 : Shared} {H0 : Hp} {scope : Scope} {ce : Env} {fp : List Addr} {u : Value} {s' : Shared}
    (tk : Takes X fun cls d _ H => Wk cls d H) (hs : X.stack = X.env :: X.outer) (hf : X.env.frame = some X.env.locals) (hce : ce.frame = X.env.frame)
    (I0 : Inv X pins σ H0 s0) (hC : ce.locals = s0.heap.objs.size) (hfp : ∀ b ∈ fp, FpOk X pins H0 b)
    (x : XE (X.blk s0 H0 scope ce fp) (fun cls d _ H => Wk cls d H) u s') :
    notedBy (model X.prog X.w) X.A ce (fun e s1 => ∃ m, s1.heap.Ns ce.locals m ∧ ∀ h', Heap.SameBut ce.locals s1.heap h' →
      wpAny (model X.prog X.w) X.A (passOn "comprehension.variables-let-go" e ce : Sem Value) (fun _ _ => False) X.xe { s1 with heap := h' }) u s' := by
  obtain ⟨a, B, sI, pb, σb, H', cls, d, rfl, Ib, nb, up, sky, na, os, ag, w⟩ := x
  have nb : ∀ b o, sI.heap.get? b = some o → b ∉ frs X.stack → B.get? b = some o := nb
  have I7 : Inv X pins σ H' sI := I0.call' (ch := fp) Ib.os Ib.base Ib.hok Ib.bare fun b hb => ⟨(hfp b hb).2.2.2.1, (hfp b hb).2.1, (hfp b hb).2.2.2.2.1, (hfp b hb).2.2.2.2.2⟩
  have nC : H' ce.locals = none := Ib.free
  have fC := I0.fpOk (b := ce.locals) (H' := H') (by rw [hC]; exact Nat.le_refl _) nC
  obtain ⟨f0, f1, f2, f3, f4, f5⟩ := fC
  obtain ⟨m, hn, _⟩ := Ib.loc
  have hn : sI.heap.Ns ce.locals m := hn
  obtain ⟨oC, es, ep, hoC, rest⟩ := id hn
  have cF : ce.locals ∉ frs X.stack := fun z => by
    obtain ⟨_, o, ho, _⟩ := I0.stack.mem z
    have := Heap.lt_size ho
    rw [hC] at this
    exact absurd this (Nat.lt_irrefl _)
  have bC : B.get? ce.locals = some oC := nb _ _ hoC cF
  have hfr : X.A.frames = some (X.env :: X.outer) := by rw [I7.ok.frames, hs]
  show wpAny (model X.prog X.w) X.A (noteFrame (.ref a) ce) _ _ s'
  rw [note_frame hce]
  have go : ∀ h1, HandSPX.HeldZ B (X.env :: X.outer) a (Zc cls d) X.env.locals h1 → s'.heap.UpToSlots h1 →
      ∃ m, h1.Ns ce.locals m ∧ ∀ h', Heap.SameBut ce.locals h1 h' →
        wpAny (model X.prog X.w) X.A (passOn "comprehension.variables-let-go" (.ref a) ce : Sem Value) (fun _ _ => False) X.xe { s' with heap := h' } := by
    intro h1 hh up1
    obtain ⟨g1, g2, g3, oe, vs, T, oT, ts, t1, t2, t3, t4, t5, t6, t7, t8, t9⟩ := hh
    refine ⟨m, ⟨oC, es, ep, g1 _ _ bC, rest⟩, fun h' sb => ?_⟩
    have aC : a ≠ ce.locals := fun z => by
      rw [z, bC] at g2
      cases g2
    have tC : T ≠ ce.locals := fun z => by
      rw [z, bC] at t5
      cases t5
    have keep : ∀ b o, b ≠ ce.locals → h1.get? b = some o → h'.get? b = some o := fun b o n e => (sb.2 b n).trans e
    have frB : ∀ L ∈ frs (X.env :: X.outer), (less B ce.locals).get? L = none := fun L hL => by
      cases q : (less B ce.locals).get? L with
      | none => rfl
      | some o =>
        have := (g3.mem hL).1
        rw [(of_less q).1] at this
        cases this
    have held : HandSPX.HeldZ (less B ce.locals) (X.env :: X.outer) a (Zc cls d) X.env.locals h' := by
      refine ⟨fun b o e => keep b o (of_less e).2 (g1 b o (of_less e).1), ?_, ?_, oe, vs, T, oT, ts, keep _ _ aC t1, t2, t3, t4, ?_, t6, keep _ _ tC t7, t8, t9⟩
      · cases q : (less B ce.locals).get? a with
        | none => rfl
        | some o =>
          rw [(of_less q).1] at g2
          cases g2
      · exact ff_keep (fun L hL o e => keep L o (fun z => cF (by rw [hs, ← z]; exact hL)) e) (funFrames_none g3 frB)
      · cases q : (less B ce.locals).get? T with
        | none => rfl
        | some o =>
          rw [(of_less q).1] at t5
          cases t5
    unfold PySem.passOn
    refine wpAny_bind (wpAny_field (keep _ _ aC t1) t3 t4 ?_)
    rw [if_neg (by simp)]
    dsimp only
    rw [hce, hf]
    refine wpAny_bind (HandSPX.setFlight_onZ held fun h2 hh2 up2 => wpAny_throw (tk _ _ ⟨a, less B ce.locals, { sI with heap := less sI.heap ce.locals }, pins, σ, H', cls, d, rfl, ?_, ?_, ?_, ?_, na, os, ag, w⟩))
    · exact I7.turned (t' := sI.toks) (fun b o n e => less_get e n) f0 f1 f3 f4 f5
    · exact fun b o e n => less_get (nb b o (of_less e).1 n) (of_less e).2
    · intro b o e nf
      obtain ⟨e1, n1⟩ := of_less e
      obtain ⟨sl, e2⟩ := up b o e1 nf
      obtain ⟨sl2, e3⟩ := up1 b _ e2 nf
      obtain ⟨sl3, e4⟩ := up2 b _ (keep b _ n1 e3) nf
      exact ⟨sl3, e4⟩
    · rw [hs]
      exact .inr (.inr hh2)
  rw [hs] at sky
  rcases sky with ⟨hB, hn', hl, oe, vs, he, hz, hd, h1⟩ | fl | hh
  · exact HandSPX.look_newZ Zc.steady hfr hl hf he hB hn' hd h1 hz fun h1 hh up1 => go h1 hh up1
  · exact HandSPX.looks_onZ Zc.steady hfr hf fl fun h1 hh up1 => go h1 hh up1
  · obtain ⟨k1, k2, k3, k4⟩ := hh
    refine look_other Zc.steady hfr hf k1 k2 k3 k4 ?_ fun h1 hh up1 => go h1 hh up1
    have h1 := I0.lt
    have h2 : ce.locals ≠ X.env.locals := by
      rw [hC]
      exact Nat.ne_of_gt h1
    show (rawInt (ce.locals : Int) == rawInt (X.env.locals : Int)) = false
    simpa [rawInt] using fun z => h2 (Int.ofNat.inj z)
end
end Nl

namespace Nl
open PySem PySem.Spec PyProof.Rows L2
section
variable {X : Cx}
/-- an element that may let an exception out -/
def ElX (X : Cx) (scope : Scope) (Wk : XK) (elt : Expr) (te : TE) : Prop :=
  ∀ (s : Shared) (H : Hp) (C : Addr) (cl : List (Str × Addr)) (fp : List Addr) (E : Value → Shared → Prop),
    Takes ((X.blk s H scope (compEnvC scope cl C X.env) fp).wish E) (fun cls d _ H => Wk cls d H) →
      PE ((X.blk s H scope (compEnvC scope cl C X.env) fp).wish E) elt te
abbrev TgX (X : Cx) (scope : Scope) (tg : Expr) (g : TG) : Prop :=
  ∀ (s : Shared) (H : Hp) (C : Addr) (cl : List (Str × Addr)) (fp : List Addr), PG (X.blk s H scope (compEnvC scope cl C X.env) fp) tg g
abbrev TsX (X : Cx) (scope : Scope) (ifs : List Expr) (tt : TT) : Prop :=
  ∀ (s : Shared) (H : Hp) (C : Addr) (cl : List (Str × Addr)) (fp : List Addr), PTs (X.blk s H scope (compEnvC scope cl C X.env) fp) ifs tt
theorem lcx_core {pins : List (Addr × Obj)} {s : Shared} {σ : L2.St} {H : Hp} {Q : VK} {elt tg iter : Expr} {ifs : List Expr} {scope : Scope} {own : List (Str × Nat)} {pos pos' : Pos} {wi : TI} {g : TG} {tt : TT} {te : TE}
    {use : Option (Value → Sem Unit)} {Qf : Value → Shared → Prop} {Wk : XK} (hc : X.calm = true) (hN : X.N.Nodup) (hs : X.stack = X.env :: X.outer) (hf : X.env.frame = some X.env.locals)
    (tk : Takes X fun cls d _ H => Wk cls d H) (I : Inv X pins σ H s) (hi : PI X tg iter wi) (ok : BlkOk X.N X.env.scope scope own) (hg : TgX X scope tg g) (ht : TsX X scope ifs tt) (he : ElX X scope Wk elt te)
    (hfold : ∀ x, foldedSetIterable iter X.env x = pure x) (h : tLc wi g tt te (own.map (·.2)) σ H Q)
    (hRR : ∀ D C s' m H', Inv X pins σ H' s' → Q (.ref D) H' → s'.heap.Ns C m → FpOk X pins H' C → compPost (model X.prog X.w) X.A X.xe use Qf (.ref D) C (.ok .next) s') :
    wpAny (model X.prog X.w) X.A (comprehension (.ListComp elt [⟨tg, iter, ifs, 0⟩] scope pos) scope X.env pos' (newList []) false (eval iter X.env) use) Qf X.xe s := by
  have free : ∀ y ∈ scope.names, y.2 = .free → ∃ c, X.env.cells.lookup y.1 = some c := fun y hy e => by
    rcases ok.free y hy e with k | k
    · exact I.ok.has _ (.inl k)
    · exact I.ok.has _ (.inr k)
  refine comp_freeX (use := use) rfl hfold (closure_ok free) ok.kind (fun y hy e => by rw [ok.uniq y hy, e])
    (thn (hi.run pins s σ H _ I h) fun xv s1 hx => thn hx fun itv s2 hit => ?_)
  obtain ⟨it, fp, tn, J, H2, e, I2, T, st2, f2, q⟩ := hit
  subst e
  refine wpAny_newObj_type (newEnv_comp ?_) (by show 0 ≤ sizeLine; decide)
  generalize hD : s2.heap.objs.size = D
  have freshD : H2 D = none := I2.hok.fresh (Nat.le_of_eq hD)
  obtain ⟨W, ⟨m0, w0⟩, turn⟩ := q D freshD
  -- the state with the new list
  generalize hs3 : ({ s2 with heap := s2.heap.push { cls := .type "list", data := .seq ([] : List Value).toArray } } : Shared) = s3
  have h3 : s3.heap = s2.heap.push { cls := .type "list", data := .seq ([] : List Value).toArray } := by rw [← hs3]
  have I3 : Inv X pins σ (upd H2 D (.lst [])) s3 := by
    rw [← hs3]
    refine I2.laid (t' := s2.toks) (fun b o e => Heap.get?_push_of_some _ e) (Nat.le_of_eq hD) ⟨Nat.zero_le _, [], 0, .nil, ?_⟩
    rw [← hD]
    exact Heap.get?_push_size _ rfl
  have f3 : ∀ b ∈ fp, FpOk X pins (upd H2 D (.lst [])) b ∧ b < s3.heap.objs.size := fun b hb => by
    obtain ⟨o, eo, _⟩ := T.obj _ _ st2 b hb
    have lt := Heap.lt_size eo
    refine ⟨⟨?_, (f2 b hb).2⟩, by rw [h3, Heap.size_push]; exact Nat.lt_succ_of_lt lt⟩
    rw [upd_ne (by rw [← hD]; exact Nat.ne_of_lt lt)]
    exact (f2 b hb).1
  have st3 : tn 0 s3.heap := T.keep _ _ _ st2 fun b _ o e => by
    rw [h3]
    exact Heap.get?_push_of_some _ e
  have I4 := block_start I3 ok hN f3
  -- the block's rules
  generalize hcl : cellsFrom (s3.heap.objs.size + 1) scope.names (cloFrom X.env.cells scope.names []) = cl at I4
  have pg := hg s3 (upd H2 D (.lst [])) s3.heap.objs.size cl fp
  have pt := ht s3 (upd H2 D (.lst [])) s3.heap.objs.size cl fp
  have pe := he s3 (upd H2 D (.lst [])) s3.heap.objs.size cl fp (XE (X.blk s3 (upd H2 D (.lst [])) scope (compEnvC scope cl s3.heap.objs.size X.env) fp) fun cls d _ H => Wk cls d H) (fun u s' x => by
    obtain ⟨a, B, sI, pb, σb, H', cls, d, e, Ib, r⟩ := x
    exact ⟨a, B, sI, pb, σb, H', cls, d, e, Ib.unwish, r⟩)
  show codeAny _ _ (.compStart (.ListComp elt [⟨tg, iter, ifs, 0⟩] scope pos) 0 (.ref it) (.ref D) (compEnvC scope cl s3.heap.objs.size X.env))
    (postX (model X.prog X.w) X.A X.xe use Qf (.ref D) (compEnvC scope cl s3.heap.objs.size X.env)) { s3 with heap := pushCells (s3.heap.push { cls := .type "dict", data := .dict #[] }) scope.names }
  have nfp : ∀ b ∈ fp, (upd H2 D (.lst [])) b = none := fun b hb => (f3 b hb).1.1
  generalize hce : compEnvC scope cl s3.heap.objs.size X.env = ce at I4 pg pt pe ⊢
  have cL : ce.locals = s3.heap.objs.size := by rw [← hce]; rfl
  have cFr : ce.frame = X.env.frame := by rw [← hce]; rfl
  generalize hH3 : upd H2 D (.lst []) = H3 at I3 I4 pg pt pe w0 nfp f3
  generalize hs4 : ({ s3 with heap := pushCells (s3.heap.push { cls := .type "dict", data := .dict #[] }) scope.names } : Shared) = s4 at I4 ⊢
  have st4 : tn 0 s4.heap := T.keep _ _ _ st3 fun b _ o e => by
    rw [← hs4]
    exact pushCells_keeps _ _ _ _ (Heap.get?_push_of_some _ e)
  have stat : ∀ {τ : L2.St} {H' : Hp} {s' : Shared}, Inv (X.blk s3 H3 scope ce fp) [] τ H' s' → (∀ b ∈ fp, H' b = none) → ∀ b ∈ fp, FpOk (X.blk s3 H3 scope ce fp) [] H' b :=
    fun {τ H' s'} I' hn b hb => ⟨hn b hb, (I'.ok.exf b hb).1, I'.ok.exfs b hb, .inl hb, fun x c e => (I'.ok.exf b hb).2 x c e, fun p hp => absurd (show p ∈ ([] : List (Addr × Obj)) ++ [] from hp) (by simp)⟩
  have loop : codeAny (model X.prog X.w) X.A (.compLoop (.ListComp elt [⟨tg, iter, ifs, 0⟩] scope pos) 0 (.ref it) (.ref D) ce) (postX (model X.prog X.w) X.A X.xe use Qf (.ref D) ce) s4 := by
    refine compLoop_any (fun n s' => ∃ i H', Inv (X.blk s3 H3 scope ce fp) [] (wipe σ (own.map (·.2))) H' s' ∧ tn i s'.heap ∧ (∀ b ∈ fp, H' b = none) ∧ W i n H') ?_ m0 ⟨0, H3, I4, st4, nfp, w0⟩
    rintro n s5 ⟨i, H5, I5, st5, n5, w5⟩
    rcases turn i n H5 w5 with ⟨stop, qq⟩ | ⟨go, Nx, hNx, step⟩
    · refine thnF (T.done (X.blk s3 H3 scope ce fp) rfl rfl rfl hc i [] s5 _ H5 (fun _ _ => False) I5 (stat I5 n5) st5 stop) fun r s6 ⟨hr, I6⟩ => ?_
      subst hr
      have I7 : Inv X pins σ H5 s6 := I3.call' (ch := fp) I6.os I6.base I6.hok I6.bare fun b hb => ⟨(f3 b hb).1.2.2.2.1, (f3 b hb).1.2.1, (f3 b hb).1.2.2.2.2.1, (f3 b hb).1.2.2.2.2.2⟩
      have nC : H5 ce.locals = none := I6.free
      obtain ⟨m, hn, _⟩ := I6.loc
      have hn : s6.heap.Ns ce.locals m := hn
      exact hRR D ce.locals s6 m H5 I7 qq hn (I3.fpOk (Nat.le_of_eq cL.symm) nC)
    · refine thnF (T.item (X.blk s3 H3 scope ce fp) rfl rfl rfl hc i [] s5 _ H5 (fun _ _ => False) I5 (stat I5 n5) st5 go) fun r s6 ⟨u, hr, h6⟩ => ?_
      subst hr
      refine thnF h6 fun _ s7 ⟨x, H7, I7, r7, y7, st7, n7⟩ => ?_
      refine thnF (pg.run _ s7 _ H7 x u _ (I7.pinned (stat I7 n7) (T.obj _ _ st7)) r7 (step x H7 y7)) fun _ s8 ⟨σ8, H8, I8, hw8, q8⟩ => ?_
      refine thnF (pt.run _ s8 σ8 H8 _ I8 q8) fun b s9 ⟨H9, I9, q9⟩ => ?_
      have fin : ∀ {s' : Shared} {H' : Hp}, Inv (X.blk s3 H3 scope ce fp) ([] ++ pinsAt fp s7.heap) σ8 H' s' → Nx H' →
          ∃ m, m < n ∧ ∃ i H', Inv (X.blk s3 H3 scope ce fp) [] (wipe σ (own.map (·.2))) H' s' ∧ tn i s'.heap ∧ (∀ b ∈ fp, H' b = none) ∧ W i m H' := fun {s' H'} I' nx => by
        obtain ⟨m', hm, w'⟩ := hNx H' nx
        have pin' : ∀ b ∈ fp, ∀ o, s7.heap.get? b = some o → s'.heap.get? b = some o ∧ H' b = none := fun b hb o e =>
          have z := I'.pin (b, o) (List.mem_append_right _ (List.mem_append_right _ (mem_pinsAt hb e)))
          ⟨z.1, z.2.1⟩
        refine ⟨m', hm, i + 1, H', (I'.unpinned (pins := [])).weak (by rw [← hw8, wipe_length]) (fun j v e => ?_), T.keep _ _ _ st7 fun b hb o e => (pin' b hb o e).1, fun b hb => ?_, w'⟩
        · rw [← hw8] at e
          exact (wipe_some e).1
        · obtain ⟨o, e, _⟩ := T.obj _ _ st7 b hb
          exact (pin' b hb o e).2
      cases b with
      | false =>
        rw [if_neg Bool.false_ne_true] at q9 ⊢
        exact fin I9 q9
      | true =>
        rw [if_pos rfl] at q9 ⊢
        refine wpAny_mono (pe.run _ s9 σ8 H9 _ (I9.wish _) q9) (fun z s10 hz => ?_) fun u s' x => block_out tk hs hf cFr I3 cL (fun b hb => (f3 b hb).1) x
        obtain ⟨yv, H10, I10, r10, acc, hD10, hz10, nx⟩ := hz
        exact app_ok (X := X.blk s3 H3 scope ce fp) I10.unwish hD10 hz10 r10 fun s11 I11 => fin I11 nx
  exact codeAny_compStart_list loop (T.self X.A 0 _ _ _ st4 loop)
/-- as a value -/
theorem pe_lcX {elt tg iter : Expr} {ifs : List Expr} {scope : Scope} {own : List (Str × Nat)} {pos : Pos} {wi : TI} {g : TG} {tt : TT} {te : TE} {Wk : XK} (hc : X.calm = true) (hN : X.N.Nodup) (hs : X.stack = X.env :: X.outer) (hf : X.env.frame = some X.env.locals)
    (tk : Takes X fun cls d _ H => Wk cls d H) (hi : PI X tg iter wi) (ok : BlkOk X.N X.env.scope scope own) (hg : TgX X scope tg g) (ht : TsX X scope ifs tt) (he : ElX X scope Wk elt te)
    (hfold : ∀ x, foldedSetIterable iter X.env x = pure x := by intro _; rfl) :
    PE X (.ListComp elt [⟨tg, iter, ifs, 0⟩] scope pos) (tLc wi g tt te (own.map (·.2))) := by
  refine ⟨fun pins s σ H Q I h => ?_⟩
  rw [eval_ListComp]
  refine lcx_core hc hN hs hf tk I hi ok hg ht he hfold h fun D C s' m H' I' q hn f => ⟨m, hn, fun h' sb => ?_⟩
  obtain ⟨f0, f1, f2, f3, f4, f5⟩ := f
  exact ⟨.ref D, H', I'.turned (t' := s'.toks) (fun b o hb e => (sb.2 b hb).trans e) f0 f1 f3 f4 f5, rfl, q⟩
/-- name = [..] -/
theorem ps_setLcX {i : Nat} {y : Str} {py : Pos} {elt tg iter : Expr} {ifs : List Expr} {scope : Scope} {own : List (Str × Nat)} {pos spos : Pos} {wi : TI} {g : TG} {tt : TT} {te : TE} {Wk : XK} (hc : X.calm = true) (hN : X.N.Nodup) (hy : X.N[i]? = some y) (hyl : X.env.scope.names.lookup y = some .local)
    (hsw : swapsWith (.ListComp elt [⟨tg, iter, ifs, 0⟩] scope pos) (some (.Name y py)) spos.line X.env = pure true) (hs : X.stack = X.env :: X.outer) (hf : X.env.frame = some X.env.locals)
    (tk : Takes X fun cls d _ H => Wk cls d H) (hi : PI X tg iter wi) (ok : BlkOk X.N X.env.scope scope own) (hg : TgX X scope tg g) (ht : TsX X scope ifs tt) (he : ElX X scope Wk elt te)
    (hfold : ∀ x, foldedSetIterable iter X.env x = pure x := by intro _; rfl) :
    PS X (.Assign [.Name y py] (.ListComp elt [⟨tg, iter, ifs, 0⟩] scope pos) spos) (tAsg (tLc wi g tt te (own.map (·.2))) (gName i)) := by
  refine ⟨fun pins s σ H D I h => ?_⟩
  rw [exec_Assign_Name_used _ _ _ _ hsw]
  refine wpAny_bind (wpAny_standAt (wpAny_bind ?_))
  show wpAny _ X.A (do let _ ← comprehension (.ListComp elt [⟨tg, iter, ifs, 0⟩] scope pos) scope X.env (firstIterPos [⟨tg, iter, ifs, 0⟩] pos) (newList []) false (eval iter X.env) (some (assign (.Name y py) X.env))) _ _ s
  have h : tLc wi g tt te (own.map (·.2)) σ H (fun x H1 => gName i x σ H1 D.nx) := h
  refine wpAny_bind (thn (lcx_core (Qf := fun _ s' => SP X pins D .next s') hc hN hs hf tk I hi ok hg ht he hfold h fun L C s' m H' I' q hn f => ?_) fun _ s' hq => wpAny_pure (wpAny_pure hq))
  show wpAny _ _ (assign (.Name y py) X.env (.ref L)) _ _ _
  refine wpAny_assign_Name (store_ok2 (v := V.ref L) I' hN hy (.inl hyl) rfl (fun s2 I2 ⟨a, sb, ha⟩ => ?_) (.inr hyl))
  obtain ⟨f0, f1, f2, f3, f4, f5⟩ := f
  have ne : C ≠ a := by
    rcases ha with z | z
    · rw [z]
      exact f1
    · exact fun e => f4 y a z e.symm
  refine ⟨m, hn.sameBut sb ne, fun h3 sb3 => ?_⟩
  exact ⟨_, H', I2.turned (t' := s2.toks) (fun b o hb e => (sb3.2 b hb).trans e) f0 f1 f3 f4 f5, q⟩
end
end Nl

namespace Nl
open PySem PySem.Spec PyProof.Rows L2
section
variable {prog : Program} {w : World} {A : Around} {E : Value → Shared → Prop} {s : Shared}
theorem join_rev {x : Str} {t : Tok} {it l : Addr} {items : Array Value} {ys : List Str} {Q : Value → Shared → Prop} (hh : A.handled = none)
    (hit : s.heap.IsRevIter it l ((items.size : Int) - 1)) (hl : s.heap.IsList l items) (hne : l ≠ it) (hn : items.size ≤ sizeLine)
    (hP : ∀ acc : Array Value, ItemsOf (fun i v => items[items.size - 1 - i]? = some v) acc items.size → StrsAre acc.toList ys)
    (hok : (ys.map (·.length)).sum + ys.length * x.length ≤ 16777216)
    (hq : ∀ h' t' k, (∀ b o, b ≠ it → s.heap.get? b = some o → h'.get? b = some o) → Q (.str (Txt.join x ys) t') { s with heap := h', toks := k }) :
    wpAny (model prog w) A (call (.builtin "str.join") [.str x t, .ref it]) Q E s := by
  refine wpAny_call (codeAny_call_builtin F.slot_str_join.plain F.entry_str_join (F.slot_str_join.check _ _ _ _ _ _ _ _ (typeIs_str _ _ _) (F.args_str_join_2 _ _) ?_))
  rw [join_tree_other]
  refine wpAny_bind (wpAny_typeOf hit.typeIs ?_)
  show wpAny _ A.in1 ((pyIter (.ref it)).tryCatch _ >>= fun it => collect it >>= fun items => joinTail x items) _ _ s
  refine wpAny_bind (wpAny_tryCatch (wpAny_pyIter_revIter hit ?_))
  refine wpAny_bind (RT.collect_rev hh hit hl hne hn fun h' tk acc hk hacc => ?_)
  obtain ⟨l, hl, ht⟩ := strsAre_values (hP acc hacc)
  subst ht
  rw [hl]
  have ok := joinOk_of hok
  unfold JoinOk at ok
  rw [Bool.not_eq_true'] at ok
  have g : Gives (joinTail x (strValues l)) (joinMade x l) := by
    have g0 := gives_joinTail x l ok
    cases l with
    | nil => exact g0
    | cons p r =>
      cases r with
      | nil => exact g0
      | cons q r' => exact g0
  exact g prog w A (wants Q E) _ (post_join l ⟨joinFit_length ok, fun t' k => hq h' t' k hk⟩)
end
section
variable {X : Cx}
/-- sep.join(reversed(xs)), xs a list of texts -/
def tJoinRev (K : PySem.W.Frag) (to te : TE) : TE := fun σ H Q => to σ H fun x H1 => (∃ a, x = .str a) ∧ te σ H1 fun v H2 => ∃ (a : Str) (q : Addr) (ys : List Str),
  x = .str a ∧ v = .ref q ∧ SqL K H2 q (ys.map V.str) ∧ (ys.map (·.length)).sum + ys.length * a.length ≤ 16777216 ∧ Q (.str (Txt.join a ys.reverse)) H2
theorem pe_joinRev {o e : Expr} {to te : TE} {apos pos p pos2 : Pos} (hc : X.calm = true) (ho : PE X o to) (hg : Gl X "reversed") (hm : X.mg "reversed" = none) (he : PE X e te)
    (hs1 : starEach [.Call (.Name "reversed" p) [e] [] pos2] X.env = [(false, eval (.Call (.Name "reversed" p) [e] [] pos2) X.env)] := by rfl)
    (hs : starEach [e] X.env = (false, eval e X.env) :: starEach [] X.env := by rfl)
    (hbase : attributeBase o "join" X.env (eval o X.env) = eval o X.env := by rfl) (hline : (apos.endLine == pos.line) = true := by rfl) :
    PE X (.Call (.Attribute o "join" apos) [.Call (.Name "reversed" p) [e] [] pos2] [] pos) (tJoinRev X.K to te) := by
  refine ⟨fun pins s σ H Q I h => ?_⟩
  refine PySem.Call_method1 hbase hs1 hline (thn (ho.run pins s σ H _ I h) fun v s1 ⟨x, H1, I1, r1, q1⟩ => ?_)
  obtain ⟨⟨a, rfl⟩, q1⟩ := q1
  obtain ⟨t, rfl⟩ := _root_.id r1
  refine ⟨"str", _, F.plainAttrs_str, F.slot_str_join, F.type_str_join, typeIs_str _ _ _, (fun _ e => nomatch e), Calls.callWith_builtin rfl (Calls.evalArgs_plain (Calls.spliced_cons ?_))⟩
  refine Call_ (ld_blt I1 hg hm PyProof.Rows.boot_reversed (PyProof.Rows.callWith_type1 (args_cons (thn (he.run pins s1 σ H1 _ I1 q1) fun u s2 ⟨v, H2, I2, r2, q2⟩ => args_nil ?_) hs) hs rfl))
  obtain ⟨a', q, ys, ea, rfl, hq, hz, q3⟩ := q2
  cases ea
  obtain rfl : u = Value.ref q := r2
  obtain ⟨its, rv, p', hsz⟩ := I2.list hq
  refine call_reversed_list p'.isList (Calls.spliced_nil ?_)
  have hl := p'.isList
  obtain ⟨ol, hol, _⟩ := id hl
  have hne : q ≠ s2.heap.objs.size := Nat.ne_of_lt (Heap.lt_size hol)
  have hn : its.toArray.size ≤ sizeLine := by rw [List.size_toArray, ← rv.length]; exact hsz
  have k0 : ∀ b o, s2.heap.get? b = some o → (s2.heap.push (revObj q ((its.toArray.size : Int) - 1))).get? b = some o := fun b o e => Heap.get?_push_of_some _ e
  have J2 : Inv X pins σ H2 { s2 with heap := s2.heap.push (revObj q ((its.toArray.size : Int) - 1)) } := I2.kept (t' := s2.toks) k0
  obtain ⟨f0, f1, f2, f3, f4, f5⟩ := I2.fpOk (H' := H2) (b := s2.heap.objs.size) (Nat.le_refl _) (I2.hok.fresh (Nat.le_refl _))
  refine join_rev (s := { s2 with heap := s2.heap.push (revObj q ((its.toArray.size : Int) - 1)) }) (ys := ys.reverse) (Q := EP X pins σ Q) (E := X.xe) (I1.ok.hd hc) ⟨_, Heap.get?_push_size _ rfl, rfl, rfl⟩ (hl.push _) hne hn (fun acc hacc => ?_) ?_ fun h' t' k hk => ?_
  · have r := RT.vals_rev rv hacc
    rw [← List.map_reverse] at r
    exact Vals.strs r
  · rw [List.map_reverse, List.sum_reverse, List.length_reverse]
    exact hz
  · have J3 : Inv X pins σ H2 { s2 with heap := h', toks := k } := J2.turned (t' := k) (fun b o hb e => hk b o hb e) f0 f1 f3 f4 f5
    exact ⟨.str _, H2, J3, ⟨t', rfl⟩, q3⟩
end
end Nl

namespace Nl
open PySem PySem.Spec PyProof.Rows L2
open PySem.NumText
theorem wp_big {M : Model} {A : Around} {E : Value → Shared → Prop} {s : Shared} {Q : Value → Shared → Prop} {v : Value} {text : List Nat} {n : Int}
    (nd : s.heap.NoDigits) (hs : ¬ (text.takeWhile (· != 0)).length ≤ 640)
    (hr : (int_private% "readNumeral") 4300 10 (text.takeWhile (· != 0)) = (int_private% "Numeral.value") n)
    (ha : ((text.takeWhile (· != 0)).length == text.length) = true)
    (h : Q (.int n s.toks) { s with toks := s.toks + 1 }) :
    wpAny M A ((int_private% "intFromText") v text 10) Q E s := by
  obtain ⟨mc, hns, hnone⟩ := nd
  obtain ⟨hp, g, d, tk, os⟩ := s
  repeat (any_goals (first
    | assumption
    | (with_reducible refine wpAny_ite_false (decide_eq_false hs) ?_)
    | (with_reducible refine wpAny_nsGet hns ?_)
    | wp_step))
  rw [hnone]
  refine wpAny_pure ?_
  dsimp only
  rw [hr]
  dsimp only
  rw [if_pos ha]
  exact wpAny_mkInt h
theorem meets_big {x : PySem.Str} {u : Tok} {n : Int} (hl : ¬ x.length ≤ 640) (hx : x.length ≤ 4300) (hk : (numSeenOf x).length = x.length) (hn : PySem.intText? x = some n) :
    Meets (Builtin.«int.__new__» ⟨[.type "int", .str x u], []⟩) (fun _ R s => s.heap.NoDigits ∧ R (.ok (.ret (.int n s.toks))) { s with toks := s.toks + 1 }) := by
  intro prog w A R s hs
  obtain ⟨nd, h⟩ := hs
  have f1 := F.conv_sub_int
  have f2 := F.madeHere_int
  have f3 := PySem.W.KIN.str_int
  have f4 := PySem.W.KIN.str_idx
  have f5 := PySem.W.KIN.str_trunc
  have f6 : typeOf (.str x u) = pure (.type "str") := rfl
  have hs : ¬ (numSeenOf x).length ≤ 640 := by rw [hk]; exact hl
  have hr : (int_private% "readNumeral") 4300 10 (numSeenOf x) = (int_private% "Numeral.value") n ∧ ((numSeenOf x).length == (numTextOf x).length) = true := by
    rcases read4300 x (Nat.le_trans hx (by decide)) with ⟨m, h1, h2, h3⟩ | ⟨h1, _⟩
    · rw [hn] at h1
      cases h1
      exact ⟨h3, h2⟩
    · rw [hn] at h1
      cases h1
  have q := PySem.W.KIN.Hid.mk (And.intro nd (And.intro hs hr))
  clear hs hr hl hx hk hn nd
  obtain ⟨hp, g, d, tk, os⟩ := s
  repeat (any_goals (first
    | assumption
    | ((with_reducible show wpAny _ _ ((int_private% "intFromText") _ _ _) _ _ _); refine wp_big q.out.1 q.out.2.1 q.out.2.2.1 q.out.2.2.2 ?_)
    | wp_step))
  all_goals trace_state
  all_goals first | exact h | skip
/-- int(text), of up to 4300 digits -/
def NoDig (X : Cx) : Prop := X.base.NoDigits
theorem call_int_long {X : Cx} (nd : X.base.NoDigits) : CallR X (.type "int") (fun xs H Q => ∃ a n, xs = [.str a] ∧ PySem.intText? a = some n ∧ a.length ≤ 4300 ∧ (numSeenOf a).length = a.length ∧ Q (.int n) H) := by
  intro pins s σ H xs us Q I rs h
  obtain ⟨a, n, rfl, hn, hl, hk, h⟩ := h
  cases rs with
  | cons r1 rs =>
    cases rs
    obtain ⟨t, rfl⟩ := r1
    by_cases hs : a.length ≤ 640
    · exact PySem.W.KIN.call_text hn hs ⟨.int n, H, I.tok _, ⟨_, rfl⟩, h⟩
    · exact call_int_1 (meets_big hs hl hk hn) ⟨nd.keeps fun b o e => (I.bk b o e), rfl, .int n, H, I.tok _, ⟨_, rfl⟩, h⟩
end Nl

namespace Nl
open PySem PySem.Spec PyProof.Rows L2
section
variable {X : Cx}
def rInT (K : PySem.W.Frag) : R2 := fun x y H Q => ∃ d ds, Dp K H x d ∧ Dp K H y (.tuple ds) ∧ SeqAt.shaped d = true ∧ SeqAt.shaped (.tuple ds) = true ∧ Q (.bl (ds.any fun z => PyData.eqv z d)) H
theorem op_inT (hu : X.A.units + 65 < cLine) : OpR X (compareOp .In) (rInT X.K) := by
  intro pins s σ H x y v u Q I rx ry h
  obtain ⟨d, ds, hd, he, sd, se, q⟩ := h
  obtain ⟨as, r1⟩ := Dp.reads I d x v hd rx
  obtain ⟨bs, r2⟩ := Dp.reads I (.tuple ds) y u he ry
  refine SeqAt.in_tuple_reads r2 r1 (SeqAt.canLay_of_shaped (d := .tuple ds) se) (SeqAt.canLay_of_shaped sd) (room_in_shaped sd hu) ⟨.bl _, H, I, rfl, q⟩
/-- text * number -/
def rMulS : R2 := fun x y H Q => ∃ (a : Str) (n : Int), x = .str a ∧ y = .int n ∧ 2 ≤ n ∧ n ≤ 2000 ∧ 0 < a.length ∧ a.length ≤ 100 ∧ Q (.str (Txt.mul a n)) H
theorem op_mulS : OpR X (binaryOp .Mult) rMulS := by
  intro pins s σ H x y v u Q I rx ry h
  obtain ⟨a, n, rfl, rfl, n2, n3, h0, h1, q⟩ := h
  obtain ⟨t, rfl⟩ := rx
  obtain ⟨t', rfl⟩ := ry
  refine SB.mul ⟨?_, fun _ _ => ?_, fun _ _ => ?_⟩ fun k' k => ⟨.str _, H, I.tok _, ⟨_, rfl⟩, q⟩
  · rw [decide_eq_false (by omega), decide_eq_false (by omega)]
    rfl
  · have : (4611686018427387 : Int) ≤ (2 ^ 63 - 1) / n := Int.le_ediv_of_mul_le (by omega) (by omega)
    omega
  · have : a.length * n.toNat ≤ 100 * 2000 := Nat.mul_le_mul h1 (by omega)
    unfold Builtin.Str.tooLong
    rw [decide_eq_false_iff_not, sizeLine_eq]
    omega
end
end Nl

namespace Nl
open PySem PySem.Spec PyProof.Rows L2
open TL (tl numL)
open PySem.NumText
/-! ### decimal texts as lists of code points -/
def padL (k : Nat) (l : List Nat) : List Nat := List.replicate (k - l.length) 48 ++ l
theorem numL_len : ∀ (k n : Nat), n < 10 ^ (k + 1) → (numL n).length ≤ k + 1
  | 0, n, h => by
    rw [TL.numL_lt (by simpa using h)]
    simp
  | k + 1, n, h => by
    by_cases c : n < 10
    · rw [TL.numL_lt c]
      simp
    · rw [TL.numL_step (by omega), List.length_append]
      have := numL_len k (n / 10) (by rw [Nat.pow_succ] at h; omega)
      simp
      omega
theorem numL_split : ∀ (k q low : Nat), 0 < q → low < 10 ^ (k + 1) → numL (q * 10 ^ (k + 1) + low) = numL q ++ padL (k + 1) (numL low)
  | 0, q, low, hq, h => by
    have h : low < 10 := by simpa using h
    have e1 : (q * 10 ^ (0 + 1) + low) / 10 = q := by
      rw [show q * 10 ^ (0 + 1) = q * 10 by simp]
      omega
    have e2 : (q * 10 ^ (0 + 1) + low) % 10 = low := by
      rw [show q * 10 ^ (0 + 1) = q * 10 by simp]
      omega
    rw [TL.numL_step (by rw [show q * 10 ^ (0 + 1) = q * 10 by simp]; omega), e1, e2, TL.numL_lt h]
    rfl
  | k + 1, q, low, hq, h => by
    have hp : 10 ^ (k + 1 + 1) = 10 ^ (k + 1) * 10 := Nat.pow_succ ..
    have hpos : 0 < 10 ^ (k + 1) := Nat.pow_pos (by decide)
    have e0 : q * 10 ^ (k + 1 + 1) = q * 10 ^ (k + 1) * 10 := by rw [hp, Nat.mul_assoc]
    have hx : 1 ≤ q * 10 ^ (k + 1) := Nat.mul_pos hq hpos
    have e1 : (q * 10 ^ (k + 1 + 1) + low) / 10 = q * 10 ^ (k + 1) + low / 10 := by rw [e0]; omega
    have e2 : (q * 10 ^ (k + 1 + 1) + low) % 10 = low % 10 := by rw [e0]; omega
    rw [TL.numL_step (by rw [e0]; omega), e1, e2, numL_split k q (low / 10) hq (by rw [hp] at h; omega), List.append_assoc]
    refine congrArg (numL q ++ ·) ?_
    unfold padL
    by_cases c : low < 10
    · rw [TL.numL_lt c, TL.numL_lt (show low / 10 < 10 by omega), show low / 10 = 0 by omega, show low % 10 = low by omega]
      show List.replicate (k + 1 - 1) 48 ++ [48] ++ [48 + low] = List.replicate (k + 1 + 1 - 1) 48 ++ [48 + low]
      rw [show k + 1 + 1 - 1 = (k + 1 - 1) + 1 by omega, List.replicate_succ']
    · rw [TL.numL_step (show 10 ≤ low by omega), List.length_append]
      show List.replicate (k + 1 - (numL (low / 10)).length) 48 ++ numL (low / 10) ++ [48 + low % 10] = List.replicate (k + 1 + 1 - ((numL (low / 10)).length + 1)) 48 ++ (numL (low / 10) ++ [48 + low % 10])
      rw [show k + 1 + 1 - ((numL (low / 10)).length + 1) = k + 1 - (numL (low / 10)).length by omega, List.append_assoc]
/-- the text of a number without leading zeros -/
structure NatT (cs : List Nat) : Prop where
  all : AllDigits cs
  ne : cs ≠ []
  lead : cs.length = 1 ∨ ∃ c r, cs = c :: r ∧ 49 ≤ c
theorem val_numL (n : Nat) : digitsVal (numL n) = n := PySem.W.KIN.val_back n
theorem numL_pos : ∀ (m n : Nat), n ≤ m → 0 < n → ∃ c r, numL n = c :: r ∧ 49 ≤ c
  | 0, n, h, h0 => by omega
  | m + 1, n, h, h0 => by
    by_cases c : n < 10
    · exact ⟨48 + n, [], TL.numL_lt c, by omega⟩
    · obtain ⟨c, r, e, hc⟩ := numL_pos m (n / 10) (by omega) (by omega)
      exact ⟨c, r ++ [48 + n % 10], by rw [TL.numL_step (by omega), e]; rfl, hc⟩
theorem natT_numL (n : Nat) : NatT (numL n) := by
  refine ⟨TL.numL_digits n, fun e => ?_, ?_⟩
  · by_cases c : n < 10
    · rw [TL.numL_lt c] at e
      cases e
    · rw [TL.numL_step (by omega)] at e
      simp at e
  · by_cases c : n = 0
    · subst c
      exact .inl rfl
    · exact .inr (numL_pos n n (Nat.le_refl _) (by omega))
theorem numL_val {cs : List Nat} (h : NatT cs) : numL (digitsVal cs) = cs := by
  obtain ⟨h1, h2, h3⟩ := h
  obtain ⟨n, hn⟩ : ∃ n, cs.length = n + 1 := ⟨cs.length - 1, by
    have : 0 < cs.length := List.length_pos_iff.mpr h2
    omega⟩
  have e := toDigits_digitsVal n cs hn h1 (h3.imp (fun z => by omega) id)
  unfold numL
  rw [e, List.map_map]
  refine (List.map_congr_left fun c hc => ?_).trans (List.map_id _)
  have := h1 c hc
  show (Char.ofNat c).toNat = c
  have hv : c.isValidChar := Or.inl (by omega)
  unfold Char.ofNat
  rw [dif_pos hv]
  rfl
def intL (z : Int) : List Nat := if z < 0 then 45 :: numL z.natAbs else numL z.natAbs
theorem tl_int (z : Int) : tl (Str.ofString (toString z)) = intL z := by
  cases z with
  | ofNat n =>
    unfold intL
    rw [if_neg (by show ¬ ((n : Nat) : Int) < 0; omega)]
    exact TL.tl_num n
  | negSucc n =>
    unfold intL
    rw [if_pos (Int.negSucc_lt_zero n)]
    have e : toString (Int.negSucc n) = "-" ++ Nat.repr (n + 1) := rfl
    rw [e, TL.tl_ofString, String.toList_append, List.map_append]
    show 45 :: (Nat.repr (n + 1)).toList.map Char.toNat = 45 :: numL (n + 1)
    rw [Nat.toList_repr]
    rfl
theorem str_int (z : Int) : Str.ofString (toString z) = SX.S (intL z) := TL.ext_tl (tl_int z)
def stripL : List Nat → List Nat
  | 45 :: r => r
  | cs => cs
def intV : List Nat → Int
  | 45 :: r => -(digitsVal r : Int)
  | cs => digitsVal cs
theorem no_minus {cs : List Nat} (h : AllDigits cs) : ∀ r, cs ≠ 45 :: r := fun r e => by
  have := h 45 (by rw [e]; simp)
  omega
theorem strip_digits {cs : List Nat} (h : AllDigits cs) : stripL cs = cs := by
  unfold stripL
  split
  · rename_i r
    exact (no_minus h r rfl).elim
  · rfl
theorem intV_digits {cs : List Nat} (h : AllDigits cs) : intV cs = digitsVal cs := by
  unfold intV
  split
  · rename_i r
    exact (no_minus h r rfl).elim
  · rfl
theorem intL_strip (z : Int) : stripL (intL z) = numL z.natAbs := by
  unfold intL
  split
  · rfl
  · exact strip_digits (natT_numL _).all
theorem intV_intL (z : Int) : intV (intL z) = z := by
  unfold intL
  split
  · show -(digitsVal (numL z.natAbs) : Int) = z
    rw [val_numL]
    omega
  · rw [intV_digits (natT_numL _).all, val_numL]
    omega
theorem intL_ne (z : Int) : intL z ≠ [45, 48] := fun e => by
  have h := intV_intL z
  rw [e] at h
  have h : (0 : Int) = z := h
  subst h
  have e : ([48] : List Nat) = [45, 48] := e
  cases e
theorem intL_slash (z : Int) : 47 ∉ intL z := fun h => by
  unfold intL at h
  split at h
  · rcases List.mem_cons.mp h with h | h
    · cases h
    · have := (natT_numL _).all 47 h
      omega
  · have := (natT_numL _).all 47 h
    omega
theorem val_zero {cs : List Nat} (h : NatT cs) (z : digitsVal cs = 0) : cs = [48] := by
  rw [← numL_val h, z]
  rfl
theorem intL_intV {a : List Nat} (h : NatT (stripL a)) (hn : a ≠ [45, 48]) : intL (intV a) = a := by
  cases a with
  | nil => exact (h.ne rfl).elim
  | cons c r =>
    by_cases hc : c = 45
    · subst hc
      have h : NatT r := h
      have h0 : digitsVal r ≠ 0 := fun z => hn (by rw [val_zero h z])
      show intL (-(digitsVal r : Int)) = _
      unfold intL
      rw [if_pos (by omega), show (-(digitsVal r : Int)).natAbs = digitsVal r by omega, numL_val h]
    · have e1 : stripL (c :: r) = c :: r := by
        unfold stripL
        split
        · rename_i q
          cases q
          exact (hc rfl).elim
        · rfl
      rw [e1] at h
      rw [intV_digits h.all]
      unfold intL
      rw [if_neg (by omega), show ((digitsVal (c :: r) : Nat) : Int).natAbs = digitsVal (c :: r) by omega, numL_val h]
/-! ### texts of fractions -/
def fracT (q : Int × Int) : List Nat := if q.2 = 1 then intL q.1 else intL q.1 ++ 47 :: intL q.2
theorem slash_inj {a b c d : List Nat} (ha : 47 ∉ a) (hc : 47 ∉ c) (e : a ++ 47 :: b = c ++ 47 :: d) : a = c ∧ b = d := by
  induction a generalizing c with
  | nil =>
    cases c with
    | nil =>
      cases e
      exact ⟨rfl, rfl⟩
    | cons x c =>
      cases e
      exact (hc (by simp)).elim
  | cons x a ih =>
    cases c with
    | nil =>
      cases e
      exact (ha (by simp)).elim
    | cons y c =>
      injection e with e1 e2
      obtain ⟨h1, h2⟩ := ih (fun z => ha (List.mem_cons_of_mem _ z)) (fun z => hc (List.mem_cons_of_mem _ z)) e2
      exact ⟨by rw [e1, h1], h2⟩
theorem slash_cases (cs : List Nat) : 47 ∉ cs ∨ ∃ a b, cs = a ++ 47 :: b ∧ 47 ∉ a := by
  induction cs with
  | nil => exact .inl (by simp)
  | cons x cs ih =>
    by_cases hx : x = 47
    · subst hx
      exact .inr ⟨[], cs, rfl, by simp⟩
    · rcases ih with h | ⟨a, b, e, h⟩
      · exact .inl fun z => (List.mem_cons.mp z).elim (fun y => hx y.symm) h
      · exact .inr ⟨x :: a, b, by rw [e]; rfl, fun z => (List.mem_cons.mp z).elim (fun y => hx y.symm) h⟩
theorem intL_pos {z : Int} (h : 0 ≤ z) : intL z = numL z.natAbs := if_neg (by omega)
/-- what it says that a text is that of a fraction -/
theorem frac_whole {q : Int × Int} {cs : List Nat} (h : Low q) (e : fracT q = cs) (hs : 47 ∉ cs) : q.2 = 1 ∧ cs = intL q.1 := by
  unfold fracT at e
  split at e
  · exact ⟨‹_›, e.symm⟩
  · exact (hs (by rw [← e]; simp)).elim
theorem frac_parts {q : Int × Int} {a b : List Nat} (h : Low q) (e : fracT q = a ++ 47 :: b) (hs : 47 ∉ a) : q.2 ≠ 1 ∧ a = intL q.1 ∧ b = numL q.2.natAbs := by
  unfold fracT at e
  split at e
  · exact (intL_slash q.1 (by rw [e]; simp)).elim
  · obtain ⟨h1, h2⟩ := slash_inj (intL_slash q.1) hs e
    have := h.pos
    rw [intL_pos (by omega)] at h2
    exact ⟨‹_›, h1.symm, h2.symm⟩
theorem frac_lowest {q : Int × Int} (h : Low q) : frac q.1 q.2 = q := by
  have ne : q.2 ≠ 0 := by have := h.pos; omega
  exact low_uniq (frac_low ne) h (frac_cross ne)
theorem fracT_inj {p q : Int × Int} (hp : Low p) (hq : Low q) (e : fracT p = fracT q) : p = q := by
  by_cases c : q.2 = 1
  · have e2 : fracT q = intL q.1 := if_pos c
    obtain ⟨h1, h2⟩ := frac_whole hp (e.trans e2) (intL_slash _)
    have h3 := congrArg intV h2
    rw [intV_intL, intV_intL] at h3
    exact Prod.ext h3.symm (by rw [h1, c])
  · have e2 : fracT q = intL q.1 ++ 47 :: intL q.2 := if_neg c
    obtain ⟨h1, h2, h3⟩ := frac_parts hp (e.trans e2) (intL_slash _)
    have h4 := congrArg intV h2
    rw [intV_intL, intV_intL] at h4
    have h5 := congrArg digitsVal h3
    have := hq.pos
    have := hp.pos
    rw [intL_pos (by omega), val_numL, val_numL] at h5
    exact Prod.ext h4.symm (by omega)
/-- whether a text is that of a fraction, told by its parts -/
theorem whole_no {cs : List Nat} (hs : 47 ∉ cs) (h : ¬ (NatT (stripL cs) ∧ cs ≠ [45, 48])) (q : Int × Int) (hq : Low q) : fracT q ≠ cs := fun e => by
  obtain ⟨_, h2⟩ := frac_whole hq e hs
  subst h2
  exact h ⟨by rw [intL_strip]; exact natT_numL _, intL_ne _⟩
theorem whole_yes {cs : List Nat} (h : NatT (stripL cs)) (hn : cs ≠ [45, 48]) : Low (intV cs, 1) ∧ fracT (intV cs, 1) = cs := ⟨⟨by show (0 : Int) < 1; decide, Int.gcd_one_right _⟩, by
  unfold fracT
  rw [if_pos rfl]
  exact intL_intV h hn⟩
theorem parts_no {a b : List Nat} (hs : 47 ∉ a) (h : ¬ (NatT (stripL a) ∧ NatT b ∧ a ≠ [45, 48] ∧ b ≠ [48] ∧ b ≠ [49] ∧ Int.gcd (intV a) (digitsVal b) = 1)) (q : Int × Int) (hq : Low q) : fracT q ≠ a ++ 47 :: b := fun e => by
  obtain ⟨h1, h2, h3⟩ := frac_parts hq e hs
  have hp := hq.pos
  subst h2 h3
  refine h ⟨by rw [intL_strip]; exact natT_numL _, natT_numL _, intL_ne _, fun z => ?_, fun z => ?_, ?_⟩
  · have := congrArg digitsVal z
    rw [val_numL] at this
    have this : q.2.natAbs = 0 := this
    omega
  · have := congrArg digitsVal z
    rw [val_numL] at this
    have this : q.2.natAbs = 1 := this
    omega
  · rw [intV_intL, val_numL, show ((q.2.natAbs : Nat) : Int) = q.2 by omega]
    exact hq.cop
theorem parts_yes {a b : List Nat} (ha : NatT (stripL a)) (hb : NatT b) (h0 : a ≠ [45, 48]) (h1 : b ≠ [48]) (h2 : b ≠ [49]) (h3 : Int.gcd (intV a) (digitsVal b) = 1) :
    Low (intV a, (digitsVal b : Int)) ∧ fracT (intV a, (digitsVal b : Int)) = a ++ 47 :: b := by
  have p : digitsVal b ≠ 0 := fun z => h1 (val_zero hb z)
  have n : digitsVal b ≠ 1 := fun z => h2 (by rw [← numL_val hb, z]; rfl)
  refine ⟨⟨by show (0 : Int) < digitsVal b; omega, h3⟩, ?_⟩
  unfold fracT
  rw [if_neg (by show ¬ ((digitsVal b : Nat) : Int) = 1; omega), intL_intV ha h0, intL_pos (by show (0 : Int) ≤ digitsVal b; omega)]
  show a ++ 47 :: numL ((digitsVal b : Nat) : Int).natAbs = _
  rw [show ((digitsVal b : Nat) : Int).natAbs = digitsVal b by omega, numL_val hb]
/-! ### int of such a text -/
theorem natT_signs {a : List Nat} (h : NatT (stripL a)) : ∀ c ∈ a, c = 45 ∨ (48 ≤ c ∧ c ≤ 57) := fun c hc => by
  cases a with
  | nil => cases hc
  | cons x r =>
    by_cases hx : x = 45
    · subst hx
      rcases List.mem_cons.mp hc with rfl | hc
      · exact .inl rfl
      · exact .inr (h.all c hc)
    · have e1 : stripL (x :: r) = x :: r := by
        unfold stripL
        split
        · rename_i q
          cases q
          exact (hx rfl).elim
        · rfl
      rw [e1] at h
      exact .inr (h.all c hc)
theorem int_text {a : List Nat} (h : NatT (stripL a)) (hl : a.length ≤ 4300) : PySem.intText? (SX.S a) = some (intV a) ∧ (numSeenOf (SX.S a)).length = (SX.S a).length := by
  have hs : ∀ c ∈ (SX.S a).cps.toList, c = 45 ∨ (48 ≤ c ∧ c ≤ 57) := natT_signs h
  refine ⟨?_, ?_⟩
  · cases a with
    | nil => exact (h.ne rfl).elim
    | cons x r =>
      by_cases hx : x = 45
      · subst hx
        exact intText_neg (cs := r) rfl h.all h.ne (by rw [SX.S_len]; exact hl)
      · have e1 : stripL (x :: r) = x :: r := by
          unfold stripL
          split
          · rename_i q
            cases q
            exact (hx rfl).elim
          · rfl
        rw [e1] at h
        rw [intV_digits h.all]
        exact intText_digits h.all h.ne (by rw [SX.S_len]; exact hl)
  · rw [(numText_signs hs).2, SX.S_len]
end Nl

namespace Nl
open PySem PySem.Spec PyProof.Rows L2
/-- a comprehension over a text, sign by sign -/
theorem lc_its {x : Str} {g : TG} {tt : TT} {te : TE} {vs : List Nat} {σ : L2.St} {H1 : Hp} {D : Addr} {Qd : Hp → Prop}
    (Pv : Nat → Hp → Prop) (h0 : Pv 0 (upd H1 D (.lst [])))
    (hs : ∀ i c H, x.cps.toList[i]? = some c → Pv i H →
      g (.str (SX.S [c])) (wipe σ vs) H fun σ2 H2 =>
        wipe σ2 vs = wipe σ vs ∧ tt σ2 H2 fun b H3 =>
          if b = true then te σ2 H3 fun y H4 => ∃ acc, H4 D = some (.lst acc) ∧
            acc.length < sizeLine ∧ Pv (i + 1) (upd H4 D (.lst (acc ++ [y])))
          else Pv (i + 1) H3)
    (hd : ∀ H, Pv x.cps.toList.length H → Qd H) :
    ∃ W : Nat → Nat → Hp → Prop, (∃ m, W 0 m (upd H1 D (.lst []))) ∧
      ∀ i m H, W i m H → ((Its x).stop i H ∧ Qd H) ∨
        ((Its x).go i H ∧ ∃ Nx : Hp → Prop, (∀ H', Nx H' → ∃ m', m' < m ∧ W (i + 1) m' H') ∧
          ∀ y H', (Its x).yld i H y H' → g y (wipe σ vs) H' fun σ2 H2 =>
            wipe σ2 vs = wipe σ vs ∧ tt σ2 H2 fun b H3 =>
              if b = true then te σ2 H3 fun z H4 => ∃ acc, H4 D = some (.lst acc) ∧
                acc.length < sizeLine ∧ Nx (upd H4 D (.lst (acc ++ [z])))
              else Nx H3) := by
  have el : x.cps.toList.length = x.cps.size := Array.length_toList
  refine ⟨fun i m H => m = x.cps.size - i ∧ i ≤ x.cps.size ∧ Pv i H, ⟨x.cps.size, by simp, Nat.zero_le _, h0⟩, ?_⟩
  rintro i m H ⟨rfl, hi, p⟩
  by_cases hlt : i < x.cps.size
  · refine .inr ⟨hlt, Pv (i + 1), fun H' p' => ⟨x.cps.size - (i + 1), by omega, rfl, hlt, p'⟩, fun y H' yl => ?_⟩
    obtain ⟨e, c, hc, ey⟩ := yl
    subst e ey
    exact hs i c _ (by rw [Array.getElem?_toList]; exact hc) p
  · have e : i = x.cps.size := by omega
    subst e
    exact .inl ⟨Nat.le_refl _, hd H (by rw [el]; exact p)⟩
theorem cutS_S (cs : List Nat) (lo hi : Option Int) : cutS (SX.S cs) lo hi = SX.S ((cs.drop (HT.sIx cs.length 0 lo)).take (HT.sIx cs.length cs.length hi - HT.sIx cs.length 0 lo)) := by
  unfold cutS
  rw [SX.S_len]
theorem cutS_take (cs : List Nat) (k : Nat) : cutS (SX.S cs) none (some (k : Int)) = SX.S (cs.take k) := by
  rw [cutS_S, HT.sIx_none, HT.sIx_nat, List.drop_zero, Nat.sub_zero]
  by_cases h : k ≤ cs.length
  · rw [Nat.min_eq_left h]
  · rw [Nat.min_eq_right (by omega), List.take_length, List.take_of_length_le (by omega)]
theorem cutS_drop (cs : List Nat) (k : Nat) : cutS (SX.S cs) (some (k : Int)) none = SX.S (cs.drop k) := by
  rw [cutS_S, HT.sIx_none, HT.sIx_nat]
  by_cases h : k ≤ cs.length
  · rw [Nat.min_eq_left h, List.take_of_length_le (by rw [List.length_drop]; omega)]
  · rw [Nat.min_eq_right (by omega), List.drop_length, List.drop_eq_nil_of_le (by omega)]
    simp
end Nl

namespace Nl
open PySem PySem.Spec PyProof.Rows L2
def Sh (k : Nat) (d : PyData) : Prop := d.canLay0 = true ∧ d.depth ≤ k
theorem Sh.shaped {k : Nat} {d : PyData} (h : Sh k d) (hk : k ≤ 64 := by decide) : SeqAt.shaped d = true := by
  unfold SeqAt.shaped
  rw [h.1, decide_eq_true (Nat.le_trans h.2 hk)]
  rfl
theorem Sh.int {i : Int} {k : Nat} : Sh k (.int i) := ⟨rfl, Nat.zero_le _⟩
theorem Sh.non {k : Nat} : Sh k .none := ⟨rfl, Nat.zero_le _⟩
theorem sh_all {k : Nat} : ∀ {ds : List PyData}, (∀ d ∈ ds, Sh k d) → PyData.canLayAll0 ds = true ∧ PyData.depthAll ds ≤ k
  | [], _ => ⟨rfl, Nat.zero_le _⟩
  | d :: ds, h => by
    have h1 := h d (by simp)
    have h2 := sh_all (ds := ds) fun x hx => h x (List.mem_cons_of_mem _ hx)
    refine ⟨?_, ?_⟩
    · rw [PyData.canLayAll0, h1.1, h2.1]
      rfl
    · rw [PyData.depthAll]
      exact Nat.max_le.mpr ⟨h1.2, h2.2⟩
theorem Sh.tup {k : Nat} {ds : List PyData} (h : ∀ d ∈ ds, Sh k d) : Sh (k + 1) (.tuple ds) := by
  obtain ⟨h1, h2⟩ := sh_all h
  refine ⟨?_, ?_⟩
  · rw [PyData.canLay0]
    exact h1
  · rw [PyData.depth]
    omega
theorem Sh.ne {k : Nat} {d : PyData} (h : Sh k d) : (!PyData.eqv d d) = false := by
  rw [SeqAt.eqv_refl d h.1]
  rfl
theorem Sh.eq {k : Nat} {d : PyData} (h : Sh k d) : PyData.eqv d d = true := SeqAt.eqv_refl d h.1
theorem sh_path (p : List Int) : Sh 1 (pathD p) := Sh.tup (k := 0) fun d hd => by
  obtain ⟨i, _, rfl⟩ := List.mem_map.mp hd
  exact .int
theorem sh_fr (q : Int × Int) : Sh 1 (frD q) := Sh.tup (k := 0) fun d hd => by
  rcases List.mem_cons.mp hd with rfl | hd
  · exact .int
  · rw [List.mem_singleton.mp hd]
    exact .int
theorem sh_pr (p : Pr) : Sh 2 (prD p) := Sh.tup (k := 1) fun d hd => by
  rcases List.mem_cons.mp hd with rfl | hd
  · exact sh_fr _
  · rw [List.mem_singleton.mp hd]
    exact sh_fr _
theorem sh_paths {α : Type} (l : List α) (f : α → List Int) : Sh 2 (.tuple (l.map fun e => pathD (f e))) := Sh.tup (k := 1) fun d hd => by
  obtain ⟨e, _, rfl⟩ := List.mem_map.mp hd
  exact sh_path _
/-! ### nodes all of whose ends have one time -/
def UD : Nat → Node → Prop
  | 0, n => n.ks = []
  | m + 1, n => n.ks ≠ [] ∧ ∀ k ∈ n.ks, UD m k
theorem ud_ends : ∀ (m : Nat) (e : PN), UD m e.2 → ∀ x ∈ preE e, x.2.ks = [] → x.1.length = e.1.length + m
  | 0, e, h, x, hx, _ => by
    have hk : kidsOf e = [] := by
      unfold kidsOf
      rw [show e.2.ks = [] from h]
      rfl
    rw [preE_eq, hk] at hx
    simp at hx
    subst hx
    rfl
  | m + 1, e, h, x, hx, hz => by
    rw [preE_eq] at hx
    rcases List.mem_cons.mp hx with rfl | hx
    · exact (h.1 hz).elim
    · obtain ⟨k, hk, hx⟩ := List.mem_flatMap.mp hx
      obtain ⟨i, hi, rfl⟩ := List.mem_mapIdx.mp hk
      have := ud_ends m (e.1 ++ [(i : Int)], e.2.ks[i]) (h.2 _ (List.getElem_mem hi)) x hx hz
      simp only [List.length_append, List.length_singleton] at this
      omega
theorem ud_lens {m : Nat} {n : Node} (h : UD m n) : ∀ a ∈ endLens n, a = m := by
  intro x hx
  obtain ⟨e, he, rfl⟩ := List.mem_map.mp hx
  obtain ⟨he1, he2⟩ := List.mem_filter.mp he
  have := ud_ends m ([], n) h e he1 (List.isEmpty_iff.mp he2)
  simpa using this
/-- nodes without goods -/
theorem bare_ok {m : Nat} {n : Node} (h : HP (fun l => l = []) m n) (u : UD m n) : ¬ BadM 1 n := by
  rintro (z | ⟨e, he, z⟩ | ⟨x, hx, y, hy, z⟩)
  · exact z (by decide)
  · have := (HP.pre (e := ([], n)) h e he).1
    rw [this] at z
    rcases z with z | ⟨p, hp, _⟩
    · simp at z
    · cases hp
  · exact z ((ud_lens u x hx).trans (ud_lens u y hy).symm)
theorem bare_small {m : Nat} {n : Node} (u : UD m n) (hs : nsz n ≤ 40) (hm : m ≤ 5) : ¬ BigM n := by
  rintro (z | ⟨x, hx, z⟩)
  · rw [pre_nsz] at z
    omega
  · have := ud_lens u x hx
    omega
theorem bare_b {m : Nat} {n : Node} (h : HP (fun l => l = []) m n) : NodeB n := fun e he p hp => by
  have := (HP.pre (e := ([], n)) h e he).1
  rw [this] at hp
  cases hp
theorem big_count {n : Node} (h : 40 < nsz n) : BigM n := .inl (by rw [pre_nsz]; exact h)
theorem big_time {m : Nat} {n : Node} (u : UD m n) (h : 5 < m) : BigM n := by
  have hp := ends_pos n
  refine .inr ⟨(endLens n)[0], List.getElem_mem hp, ?_⟩
  rw [ud_lens u _ (List.getElem_mem hp)]
  exact h
def rowN : Nat → Node
  | 0 => .mk [] []
  | k + 1 => .mk [] [rowN k]
theorem row_hp : ∀ k, HP (fun l => l = []) k (rowN k)
  | 0 => ⟨rfl, rfl⟩
  | k + 1 => ⟨rfl, fun x hx => by rw [List.mem_singleton.mp hx]; exact row_hp k⟩
theorem row_ud : ∀ k, UD k (rowN k)
  | 0 => rfl
  | k + 1 => ⟨(by intro h; cases h), fun x hx => (by rw [List.mem_singleton.mp hx]; exact row_ud k)⟩
theorem row_sz : ∀ k, nsz (rowN k) = k + 1
  | 0 => rfl
  | k + 1 => by
    rw [rowN, nsz, nszs, nszs, row_sz k]
    omega
def wideN (k : Nat) : Node := .mk [] (List.replicate k (rowN 0))
theorem wide_hp (k : Nat) : HP (fun l => l = []) 1 (wideN k) := ⟨rfl, fun x hx => by rw [(List.mem_replicate.mp hx).2]; exact row_hp 0⟩
theorem wide_ud {k : Nat} (h : 0 < k) : UD 1 (wideN k) := ⟨fun z => by
  have : (List.replicate k (rowN 0)).length = 0 := by rw [show List.replicate k (rowN 0) = [] from z]; rfl
  rw [List.length_replicate] at this
  omega, fun x hx => by rw [(List.mem_replicate.mp hx).2]; exact row_ud 0⟩
theorem wide_sz (k : Nat) : nsz (wideN k) = k + 1 := by
  have : ∀ k, nszs (List.replicate k (rowN 0)) = k := by
    intro k
    induction k with
    | zero => rfl
    | succ k ih => rw [List.replicate_succ, nszs, ih]; show 1 + k = k + 1; omega
  rw [wideN, nsz, this]
  omega
theorem find_neg (n : Node) : find n [-1] = none := find_out fun z => by omega
theorem find_end {n m : Node} {p : List Int} (h : find n p = some m) : find n (p ++ [(m.ks.length : Int)]) = none := by
  rw [find_app p _ n m h]
  exact find_out fun z => by omega
end Nl

namespace Nl
open PySem PySem.Spec PyProof.Rows L2 LamX NdefX
theorem xt_keep {d b : Addr} {H H' : Hp} {o : HO} (i : IsL H d) (s : Xt d H H') (e : H b = some o) (n : ∀ ys, o ≠ .lst ys) : H' b = some o := s b o (fun z => by
  obtain ⟨ys, h⟩ := i
  rw [z, h] at e
  cases e
  exact n _ rfl) e
theorem TabN.xt {d P : Addr} {nm : Nat → Nat → Str} {H H' : Hp} (t : TabN H P nm) (i : IsL H d) (s : Xt d H H') : TabN H' P nm := by
  obtain ⟨ps, h1, h2, h3⟩ := t
  refine ⟨ps, xt_keep i s h1 (fun _ z => nomatch z), h2, fun pos cv hc => ?_⟩
  obtain ⟨c, e, h⟩ := h3 pos cv hc
  exact ⟨c, e, xt_keep i s h (fun _ z => nomatch z)⟩
theorem TabsN.xt {d : Addr} {T : List NTab} {H H' : Hp} (t : TabsN T H) (i : IsL H d) (s : Xt d H H') : TabsN T H' := fun p hp => TabN.xt (t p hp) i s
theorem Dst.ext {H H' : Hp} {pd ps : Addr} (h : Dst H pd ps) (s : ExtN H H') : Dst H' pd ps := by
  obtain ⟨i, r, ns, ⟨⟨sd, h1⟩, h2, h3, h4, h5⟩⟩ := h
  exact ⟨i, r, ns, ⟨⟨sd, s _ _ h1 fun _ z => nomatch z⟩, s _ _ h2 (fun _ z => nomatch z), h3, h4, h5⟩⟩
theorem Dst.isL' {H : Hp} {pd ps : Addr} (h : Dst H pd ps) : IsL H pd := by
  obtain ⟨i, r, ns, ⟨⟨sd, h1⟩, h2, h3, h4, h5⟩⟩ := h
  exact ⟨_, h1⟩
theorem Sh.lst {k : Nat} {ds : List PyData} (h : ∀ d ∈ ds, Sh k d) : Sh (k + 1) (.list ds) := by
  obtain ⟨h1, h2⟩ := sh_all h
  refine ⟨?_, ?_⟩
  · rw [PyData.canLay0]
    exact h1
  · rw [PyData.depth]
    omega
theorem walk_ofTabs {l : PySem.W.OpenLaw} {n k : Nat} {q : Program} {loose : List Str} {XP : (Str → Option Value) → Heap → Prop} {YP : World → Heap → Prop} {d : DefRec} {K : Params → PySem.W.Frag} {CX : World → CXT} {x : Str} (xs : List Str)
    (hn : l.most = some n) (hn2 : n ≤ sizeLine) (hdf : d.params.defaults = []) (hr : Room k callerA) (hrec : ∀ y ∈ xs, ((recsOf q).find? fun e => e.name == y).isSome = true) (hY : ∀ (w : World) (h : Heap), YP w h → (K w.params).In h)
    (F : ∀ (w : World) (mg : Str → Option Value) (fa : Addr) (h : Heap), YP w h → (K w.params).In h → h.Ns mainGlobals mg → mg d.name = some (.ref fa) →
      (∀ y ∈ xs, ∀ c P, PySem.W.tabIn (K w.params) y = some (c, P) → PySem.W.CodeHd h c P ∧ h.get? P = some { cls := .none, data := .fields #[] }) → LawAtS l w (K w.params) (CX w) k n x mg fa h)
    (hCX : ∀ (w : World) (H : Hp) (s : Shared) (e : Value) (s' : Shared), CX w [] H s (fun _ _ _ => False) e s' → False) :
    PySem.W.WalkO q loose XP YP l.row.toRowW d [] (fun f vs => PySem.call f vs) := by
  refine Att.attach_callB hn hdf fun w s₀ s₁ mg mb fa o pm cd doc a vs ns G Y ho hd hcd hmg hobj hints hlen hbits hg => ?_
  have KX := hY w _ Y
  have own : ∀ y ∈ xs, ∀ c P, PySem.W.tabIn (K w.params) y = some (c, P) → PySem.W.CodeHd s₁.heap c P ∧ s₁.heap.get? P = some { cls := .none, data := .fields #[] } := fun y hy c P ht => by
    obtain ⟨dd, hdd⟩ := Option.isSome_iff_exists.mp (hrec y hy)
    exact PySem.W.tab_of G.T KX hdd ht
  obtain ⟨fd, cs, sp, hT, nT, C, hb, hsp, hF⟩ := F w mg fa _ Y KX G.T.g hmg own
  exact law_callTs KX G.T.g G.T.b G.T.builtins G.T.nolimit hg hT nT C G.T.bmain hobj hints (Nat.le_trans hlen hn2) hr hF hb (fun H hH hS => hsp H a ns hlen hbits hH hS) fun H e s' => hCX w H s₁ e s'
/-- no table stands in the fragment -/
theorem notab_look {K : PySem.W.Frag} {h : Heap} (X : K.In h) (nt : PySem.W.noTabs K = true) {P : Addr} (e : h.get? P = some { cls := .none, data := .fields #[] }) : K.lookup P = none := by
  cases q : K.lookup P with
  | none => rfl
  | some o =>
    have e2 := X _ _ q
    rw [e] at e2
    cases e2
    have h2 := List.all_eq_true.mp nt (P, _) (PySem.W.mem_of_lookupK q)
    exact absurd (show false = true from h2) Bool.false_ne_true
end Nl

namespace Nl
open PySem PySem.Spec PyProof.Rows L2 LamX NdefX
theorem nodig_base {K : PySem.W.Frag} {h base : Heap} (X : K.In h) (XB : K.In base) (nd : h.NoDigits)
    (e : PySem.W.nsIn K cStatics "sys.int_max_str_digits" = some none) : base.NoDigits := by
  obtain ⟨mc, ⟨o, es, ep, ho, r⟩, hn⟩ := nd
  refine ⟨mc, ⟨o, es, ep, ?_, r⟩, hn⟩
  unfold PySem.W.nsIn at e
  cases hk : K.lookup cStatics with
  | none =>
    rw [hk] at e
    cases e
  | some ob =>
    have h2 := X _ _ hk
    rw [ho] at h2
    cases h2
    exact XB _ _ hk
/-- the end of a law row: tables of code objects, and the limit of digits as it is at first -/
theorem walk_ofTD {l : PySem.W.OpenLaw} {n k : Nat} {q : Program} {loose : List Str}
    {XP : (Str → Option Value) → Heap → Prop} {YP : World → Heap → Prop} {d : DefRec}
    {K : Params → PySem.W.Frag} {CX : World → CXT} {x : Str} (xs : List Str)
    (hn : l.most = some n) (hn2 : n ≤ sizeLine) (hdf : d.params.defaults = []) (hr : Room k callerA)
    (hrec : ∀ y ∈ xs, ((recsOf q).find? fun e => e.name == y).isSome = true)
    (hY : ∀ (w : World) (h : Heap), YP w h → (K w.params).In h)
    (F : ∀ (w : World) (mg : Str → Option Value) (fa : Addr) (h : Heap), YP w h → (K w.params).In h →
      h.Ns mainGlobals mg → mg d.name = some (.ref fa) → h.NoDigits →
      (∀ y ∈ xs, ∀ c P, PySem.W.tabIn (K w.params) y = some (c, P) →
        PySem.W.CodeHd h c P ∧ h.get? P = some { cls := .none, data := .fields #[] }) →
      LawAtS l w (K w.params) (CX w) k n x mg fa h)
    (hCX : ∀ (w : World) (H : Hp) (s : Shared) (e : Value) (s' : Shared),
      CX w [] H s (fun _ _ _ => False) e s' → False) :
    PySem.W.WalkO q loose XP YP l.row.toRowW d []
      (fun f vs => PySem.call f vs) := by
  refine Att.attach_callB hn hdf fun w s₀ s₁ mg mb fa o pm cd doc a vs ns G Y ho hd hcd hmg hobj hints hlen hbits hg => ?_
  have KX := hY w _ Y
  have own : ∀ y ∈ xs, ∀ c P, PySem.W.tabIn (K w.params) y = some (c, P) → PySem.W.CodeHd s₁.heap c P ∧ s₁.heap.get? P = some { cls := .none, data := .fields #[] } := fun y hy c P ht => by
    obtain ⟨dd, hdd⟩ := Option.isSome_iff_exists.mp (hrec y hy)
    exact PySem.W.tab_of G.T KX hdd ht
  obtain ⟨fd, cs, sp, hT, nT, C, hb, hsp, hF⟩ := F w mg fa _ Y KX G.T.g hmg G.T.nodigits own
  exact law_callTs KX G.T.g G.T.b G.T.builtins G.T.nolimit hg hT nT C G.T.bmain hobj hints
    (Nat.le_trans hlen hn2) hr hF hb (fun H hH hS => hsp H a ns hlen hbits hH hS) fun H e s' => hCX w H s₁ e s'
end Nl

namespace Nl
open PySem PySem.Spec PyProof.Rows L2
/-! ### keys -/
def keyP (p : List Int) : List Key := p.map Sum.inl
theorem keyP_v (p : List Int) : (keyP p).map kV = p.map V.int := by
  unfold keyP
  rw [List.map_map]
  rfl
theorem keyP_inj {p q : List Int} (h : keyP p = keyP q) : p = q := by
  induction p generalizing q with
  | nil =>
    cases q with
    | nil => rfl
    | cons y ys => cases h
  | cons x xs ih =>
    cases q with
    | nil => cases h
    | cons y ys =>
      have h : (Sum.inl x :: keyP xs : List Key) = Sum.inl y :: keyP ys := h
      injection h with h1 h2
      cases h1
      rw [ih h2]
theorem tp_key {H : Hp} {a : Addr} {p : List Int} (h : Tp H a (p.map V.int)) : H a = some (.tup ((keyP p).map kV)) := by
  rw [keyP_v]
  exact h
/-- the dict at a tells of each path what f tells -/
def DictP (H : Hp) (a : Addr) (m : Nat) (f : List Int → Option V) : Prop := ∃ kvs, H a = some (.dT kvs) ∧ kvs.length ≤ m ∧ ∀ p, valV kvs (keyP p) = f p
theorem DictP.get {H : Hp} {a b : Addr} {m : Nat} {f : List Int → Option V} {p : List Int} (h : DictP H a m f) (hb : Tp H b (p.map V.int)) : DGet H a (.ref b) (f p) := by
  obtain ⟨kvs, e, _, g⟩ := h
  rw [← g p]
  exact DGet.t e (tp_key hb)
theorem DictP.same {H H' : Hp} {a : Addr} {m : Nat} {f : List Int → Option V} (h : DictP H a m f) (s : Same H H') : DictP H' a m f := by
  obtain ⟨kvs, e, g⟩ := h
  exact ⟨kvs, s _ _ e, g⟩
theorem DictP.nil {H : Hp} {a : Addr} (h : H a = some (.dT [])) : DictP H a 0 fun _ => none := ⟨[], h, Nat.le_refl _, fun _ => rfl⟩
theorem DictP.put {H : Hp} {D b : Addr} {m : Nat} {f : List Int → Option V} {p : List Int} {v : V} (h : DictP H D m f) (hl : m < 1000) (hb : Tp H b (p.map V.int)) :
    ∃ kvs k c, V.ref b = .ref c ∧ H D = some (.dT kvs) ∧ H c = some (.tup (k.map kV)) ∧ kvs.length < sizeLine ∧ DictP (upd H D (.dT (putK kvs k v))) D (m + 1) fun q => if q = p then some v else f q := by
  obtain ⟨kvs, e, l, g⟩ := h
  refine ⟨kvs, keyP p, b, rfl, e, tp_key hb, Nat.lt_of_le_of_lt l (Nat.lt_of_lt_of_le hl (by decide)), _, upd_same, ?_, fun q => ?_⟩
  · have := length_putK kvs (keyP p) v
    omega
  · rw [valV_put, g q]
    show _ = if q = p then some v else f q
    by_cases eq : q = p
    · rw [if_pos eq, if_pos (by rw [eq])]
    · rw [if_neg eq, if_neg (fun z => eq (keyP_inj z))]
/-! ### a dict comprehension over a list, over a tuple -/
section
variable {K : PySem.W.Frag} {a D : Addr} {xs : List V} {g : TG} {tk tv : TE} {vs : List Nat} {τ : L2.St} {H1 : Hp} {R : Hp → Prop}
def dcTurn (J : It) (D : Addr) (g : TG) (tk tv : TE) (vs : List Nat) (τ : L2.St) (R : Hp → Prop) (W : Nat → Nat → Hp → Prop) : Prop := ∀ i m H, W i m H →
  (J.stop i H ∧ R H) ∨ (J.go i H ∧ ∃ Nx : Hp → Prop, (∀ H', Nx H' → ∃ m', m' < m ∧ W (i + 1) m' H') ∧ ∀ x H', J.yld i H x H' → g x (wipe τ vs) H' fun σ2 H2 => wipe σ2 vs = wipe τ vs ∧
    tk σ2 H2 fun y H4 => tv σ2 H4 fun z H5 => ∃ kvs k b, y = .ref b ∧ H5 D = some (.dT kvs) ∧ H5 b = some (.tup (k.map kV)) ∧ kvs.length < sizeLine ∧ Nx (upd H5 D (.dT (putK kvs k z))))
theorem dcT_list (Pv : Nat → Hp → Prop) (h0 : Pv 0 (upd H1 D (.dT []))) (hl : ∀ i H, Pv i H → SqL K H a xs)
    (hs : ∀ i x H, xs[i]? = some x → Pv i H → g x (wipe τ vs) H fun σ2 H2 => wipe σ2 vs = wipe τ vs ∧
      tk σ2 H2 fun y H4 => tv σ2 H4 fun z H5 => ∃ kvs k b, y = .ref b ∧ H5 D = some (.dT kvs) ∧ H5 b = some (.tup (k.map kV)) ∧ kvs.length < sizeLine ∧ Pv (i + 1) (upd H5 D (.dT (putK kvs k z))))
    (hd : ∀ H, Pv xs.length H → R H) : ∃ W : Nat → Nat → Hp → Prop, (∃ m, W 0 m (upd H1 D (.dT []))) ∧ dcTurn (Itl K a) D g tk tv vs τ R W := by
  refine ⟨fun i m H => m + i = xs.length ∧ Pv i H, ⟨xs.length, rfl, h0⟩, fun i m H ⟨em, p⟩ => ?_⟩
  by_cases hlt : i < xs.length
  · exact .inr ⟨⟨xs, xs[i], hl i H p, List.getElem?_eq_getElem hlt⟩, Pv (i + 1), fun H' p' => ⟨m - 1, by omega, by omega, p'⟩, fun x H' ⟨e, y⟩ => by
      subst e
      exact hs i x _ (y xs (hl i _ p)) p⟩
  · have e : i = xs.length := by omega
    subst e
    exact .inl ⟨⟨xs, hl _ H p, Nat.le_refl _⟩, hd H p⟩
theorem dcT_tup (Pv : Nat → Hp → Prop) (h0 : Pv 0 (upd H1 D (.dT []))) (hl : ∀ i H, Pv i H → SqT K H a xs)
    (hs : ∀ i x H, xs[i]? = some x → Pv i H → g x (wipe τ vs) H fun σ2 H2 => wipe σ2 vs = wipe τ vs ∧
      tk σ2 H2 fun y H4 => tv σ2 H4 fun z H5 => ∃ kvs k b, y = .ref b ∧ H5 D = some (.dT kvs) ∧ H5 b = some (.tup (k.map kV)) ∧ kvs.length < sizeLine ∧ Pv (i + 1) (upd H5 D (.dT (putK kvs k z))))
    (hd : ∀ H, Pv xs.length H → R H) : ∃ W : Nat → Nat → Hp → Prop, (∃ m, W 0 m (upd H1 D (.dT []))) ∧ dcTurn (Itt K a) D g tk tv vs τ R W := by
  refine ⟨fun i m H => m + i = xs.length ∧ Pv i H, ⟨xs.length, rfl, h0⟩, fun i m H ⟨em, p⟩ => ?_⟩
  by_cases hlt : i < xs.length
  · exact .inr ⟨⟨xs, xs[i], hl i H p, List.getElem?_eq_getElem hlt⟩, Pv (i + 1), fun H' p' => ⟨m - 1, by omega, by omega, p'⟩, fun x H' ⟨e, y⟩ => by
      subst e
      exact hs i x _ (y xs (hl i _ p)) p⟩
  · have e : i = xs.length := by omega
    subst e
    exact .inl ⟨⟨xs, hl _ H p, Nat.le_refl _⟩, hd H p⟩
end
/-! ### order of paths -/
theorem lexAt_le (a b : List Int) : ∀ (xs ys : List Int) (i : Nat), i = a.length → a.length = b.length →
    Ob.lexAt (fun j => decide ((a ++ xs).getD j 0 = (b ++ ys).getD j 0)) (fun j => decide ((a ++ xs).getD j 0 ≤ (b ++ ys).getD j 0)) (decide ((a ++ xs).length ≤ (b ++ ys).length)) i (min xs.length ys.length) = !HT.lexLt ys xs := by
  intro xs
  induction xs generalizing a b with
  | nil =>
    intro ys i hi hab
    have hm : min ([] : List Int).length ys.length = 0 := by simp
    rw [hm, Ob.lexAt_zero]
    cases ys with
    | nil => simp [HT.lexLt, hab]
    | cons y ys => simp [HT.lexLt, hab]
  | cons x xs ih =>
    intro ys i hi hab
    cases ys with
    | nil =>
      have hm : min (x :: xs).length ([] : List Int).length = 0 := by simp
      rw [hm, Ob.lexAt_zero]
      simp [HT.lexLt, hab]
    | cons y ys =>
      have hm : min (x :: xs).length (y :: ys).length = min xs.length ys.length + 1 := by simp
      have e1 : (a ++ x :: xs).getD i 0 = x := by subst hi; simp
      have e2 : (b ++ y :: ys).getD i 0 = y := by rw [hi, hab]; simp
      rw [hm, Ob.lexAt_succ, e1, e2, HT.lexLt_cons]
      by_cases e : x = y
      · have h := ih (a ++ [x]) (b ++ [y]) ys (i + 1) (by simp [hi]) (by simp [hab])
        simp only [List.append_assoc, List.singleton_append] at h
        rw [if_pos (decide_eq_true e), if_pos e.symm]
        exact h
      · rw [if_neg (by simpa using e), if_neg (fun z => e z.symm)]
        by_cases l : x ≤ y
        · rw [decide_eq_true l, decide_eq_false (by omega)]
          rfl
        · rw [decide_eq_false l, decide_eq_true (by omega)]
          rfl
def rLeP (K : PySem.W.Frag) : R2 := fun x y H Q => ∃ (a b : Addr) (p q : List Int), x = .ref a ∧ y = .ref b ∧ SqT K H a (p.map V.int) ∧ SqT K H b (q.map V.int) ∧ Q (.bl (!HT.lexLt q p)) H
theorem op_leP {X : Cx} (hu : X.A.units < cLine) : OpR X (compareOp .LtE) (rLeP X.K) := OpR.imp (op_leT hu) fun x y H Q ⟨a, b, p, q, ex, ey, ha, hb, h⟩ => ⟨a, b, p, q, ex, ey, ha, hb, by
  have := lexAt_le [] [] p q 0 rfl rfl
  simp only [List.nil_append] at this
  rw [this]
  exact h⟩
/-! ### plans -/
abbrev Q2 := Int × Int
def fracsD (l : List Q2) : PyData := .tuple (l.map frD)
abbrev PE2 := List Int × List Q2
def pentD (e : PE2) : PyData := .tuple [pathD e.1, fracsD e.2]
def planD (l : List PE2) : PyData := .tuple (l.map pentD)
/-- the j-th pair of a plan is as it must be -/
def okAt (n : Node) (g : Int) (l : List PE2) (j : Nat) : Prop := ∀ e, l[j]? = some e →
  (∃ x ∈ pre [] n, x.1 = e.1) ∧ (∀ i f, j = i + 1 → l[i]? = some f → HT.lexLt f.1 e.1 = true) ∧ (e.2.length : Int) = g - 1
def PlanOk (n : Node) (g : Int) (l : List PE2) : Prop := ∀ j, okAt n g l j
def pick (a : Q2) (p : Pr) : Q2 := if 0 < a.1 then p.1 else p.2
def moneyF (m : Q2) (l : List (Q2 × Pr)) : Q2 := l.foldl (fun m x => subF m (mulF x.1 (pick x.1 x.2))) m
def tradeF (h : List Q2) (ps : List Pr) (am : List Q2) : List Q2 := moneyF (h.headD (0, 1)) (am.zip ps) :: List.zipWith addF h.tail am
theorem cmp_pos (a : Q2) : 0 < cmpF a (0, 1) ↔ 0 < a.1 := by
  unfold cmpF
  simp only [Int.mul_one, Int.zero_mul]
  by_cases h : a.1 < 0
  · rw [if_pos h]
    omega
  · rw [if_neg h]
    by_cases h' : 0 < a.1
    · rw [if_pos h']
      omega
    · rw [if_neg h']
      omega
theorem pick_ok {a : Q2} {p : Pr} {k : Nat} (h : PrK k p) : Ok k (pick a p) := by
  unfold pick
  split
  · exact h.1
  · exact h.2
theorem moneyF_ok {k : Nat} : ∀ (l : List (Q2 × Pr)) (m : Q2), Ok k m → (∀ x ∈ l, Ok 10 x.1 ∧ PrK 201 x.2) → Ok (k + 212 * l.length) (moneyF m l)
  | [], m, h, _ => h
  | x :: l, m, h, hl => by
    have h0 := hl x (by simp)
    have h1 := subF_ok h (mulF_ok h0.1 (pick_ok h0.2 (a := x.1)) (Nat.le_refl _)) (n := k + 212) (by omega)
    have := moneyF_ok (k := k + 212) l _ h1 fun y hy => hl y (List.mem_cons_of_mem _ hy)
    refine Ok.mono (show Ok (k + 212 + 212 * l.length) (moneyF m (x :: l)) from this) ?_
    simp only [List.length_cons]
    omega
theorem moneyF_snoc (m : Q2) (l : List (Q2 × Pr)) (x : Q2 × Pr) : moneyF m (l ++ [x]) = subF (moneyF m l) (mulF x.1 (pick x.1 x.2)) := by
  unfold moneyF
  rw [List.foldl_append]
  rfl
theorem tradeF_ok {k : Nat} {h : List Q2} {ps : List Pr} {am : List Q2} (hh : ∀ x ∈ h, Ok k x) (h0 : 0 < h.length) (hp : ∀ p ∈ ps, PrK 201 p) (ha : ∀ a ∈ am, Ok 10 a) (hl : am.length ≤ 3) : ∀ x ∈ tradeF h ps am, Ok (k + 636) x := by
  intro x hx
  rcases List.mem_cons.mp hx with rfl | hx
  · have hd : Ok k (h.headD (0, 1)) := by
      cases h with
      | nil => simp at h0
      | cons a r => exact hh a (by simp)
    have := moneyF_ok (am.zip ps) _ hd fun y hy => ⟨ha _ (List.of_mem_zip hy).1, hp _ (List.of_mem_zip hy).2⟩
    refine this.mono ?_
    have : (am.zip ps).length ≤ am.length := by simp; omega
    omega
  · obtain ⟨i, hi, rfl⟩ := List.mem_iff_getElem.mp hx
    rw [List.getElem_zipWith]
    refine addF_ok (hh _ (List.mem_of_mem_tail (List.getElem_mem _))) (ha _ (List.getElem_mem _)) (by omega)
theorem tradeF_len {h : List Q2} {ps : List Pr} {am : List Q2} (hl : h.length = am.length + 1) : (tradeF h ps am).length = am.length + 1 := by
  unfold tradeF
  simp
  omega
/-! ### what is held at an end -/
def psAt (n : Node) (p : List Int) : List Pr := ((find n p).map Node.ps).getD []
def look (l : List PE2) (p : List Int) : Option (List Q2) := (l.find? fun e => decide (e.1 = p)).map (·.2)
def stepT (n : Node) (l : List PE2) (e : List Int) (h : List Q2) (t : Nat) : List Q2 := match look l (e.take t) with
  | some am => tradeF h (psAt n (e.take t)) am
  | none => h
def heldF (n : Node) (l : List PE2) (e : List Int) (h : List Q2) : Nat → List Q2
  | 0 => h
  | t + 1 => stepT n l e (heldF n l e h t) t
def stepL (n : Node) (e : List Int) (h : List Q2) (x : PE2) : List Q2 := if e.take x.1.length = x.1 then tradeF h (psAt n x.1) x.2 else h
theorem lex_take (e : List Int) : ∀ (a b : Nat), HT.lexLt (e.take a) (e.take b) = true → a < b := by
  induction e with
  | nil => intro a b h; simp [HT.lexLt] at h
  | cons x e ih =>
    intro a b h
    cases a with
    | zero =>
      cases b with
      | zero => simp [HT.lexLt] at h
      | succ b => omega
    | succ a =>
      cases b with
      | zero => simp [HT.lexLt] at h
      | succ b =>
        rw [List.take_succ_cons, List.take_succ_cons, HT.lexLt_cons, if_pos rfl] at h
        have := ih a b h
        omega
theorem filt_step {α : Type} (f : α → Nat) (T : Nat) : ∀ L : List α, (L.Pairwise fun a b => f a < f b) → L.filter (fun x => decide (f x < T + 1)) = L.filter (fun x => decide (f x < T)) ++ L.filter (fun x => decide (f x = T))
  | [], _ => rfl
  | x :: L, h => by
    obtain ⟨h1, h2⟩ := List.pairwise_cons.mp h
    have ih := filt_step f T L h2
    rcases Nat.lt_trichotomy (f x) T with c | c | c
    · rw [List.filter_cons_of_pos (by simpa using by omega), List.filter_cons_of_pos (by simpa using c), List.filter_cons_of_neg (by simpa using by omega), ih]
      rfl
    · have e1 : L.filter (fun x => decide (f x < T + 1)) = [] := List.filter_eq_nil_iff.mpr fun y hy => by have := h1 y hy; simp; omega
      have e2 : L.filter (fun x => decide (f x < T)) = [] := List.filter_eq_nil_iff.mpr fun y hy => by have := h1 y hy; simp; omega
      have e3 : L.filter (fun x => decide (f x = T)) = [] := List.filter_eq_nil_iff.mpr fun y hy => by have := h1 y hy; simp; omega
      rw [List.filter_cons_of_pos (by simpa using by omega), List.filter_cons_of_neg (by simpa using by omega), List.filter_cons_of_pos (by simpa using c), e1, e2, e3]
      rfl
    · rw [List.filter_cons_of_neg (by simpa using by omega), List.filter_cons_of_neg (by simpa using by omega), List.filter_cons_of_neg (by simpa using by omega), ih]
theorem lex_irr : ∀ p : List Int, HT.lexLt p p = false
  | [] => rfl
  | x :: p => by
    rw [HT.lexLt_cons, if_pos rfl]
    exact lex_irr p
def Sorted (l : List PE2) : Prop := l.Pairwise fun a b => HT.lexLt a.1 b.1 = true
theorem look_filter (p : List Int) : ∀ l : List PE2, Sorted l → l.filter (fun x => decide (x.1 = p)) = ((look l p).map fun am => (p, am)).toList
  | [], _ => rfl
  | x :: l, h => by
    obtain ⟨h1, h2⟩ := List.pairwise_cons.mp h
    by_cases e : x.1 = p
    · have e2 : l.filter (fun x => decide (x.1 = p)) = [] := List.filter_eq_nil_iff.mpr fun y hy => by
        have z := h1 y hy
        intro c
        rw [of_decide_eq_true c, e, lex_irr] at z
        cases z
      have e3 : look (x :: l) p = some x.2 := by simp [look, List.find?_cons, e]
      rw [List.filter_cons_of_pos (by simpa using e), e2, e3]
      cases x
      cases e
      rfl
    · have e3 : look (x :: l) p = look l p := by simp [look, List.find?_cons, e]
      rw [List.filter_cons_of_neg (by simpa using e), e3, look_filter p l h2]
theorem foldl_if {α β : Type} (g : β → α → β) (c : α → Prop) [DecidablePred c] : ∀ (l : List α) (b : β), l.foldl (fun b x => if c x then g b x else b) b = (l.filter fun x => decide (c x)).foldl g b
  | [], _ => rfl
  | x :: l, b => by
    by_cases h : c x
    · rw [List.filter_cons_of_pos (by simpa using h), List.foldl_cons, List.foldl_cons, if_pos h]
      exact foldl_if g c l _
    · rw [List.filter_cons_of_neg (by simpa using h), List.foldl_cons, if_neg h]
      exact foldl_if g c l _
theorem held_eq {n : Node} {l : List PE2} {e : List Int} {h : List Q2} (hs : Sorted l) : heldF n l e h (e.length + 1) = l.foldl (stepL n e) h := by
  have e1 : l.foldl (stepL n e) h = (l.filter fun x => decide (e.take x.1.length = x.1)).foldl (fun h x => tradeF h (psAt n x.1) x.2) h := foldl_if _ _ l h
  rw [e1]
  have hL : (l.filter fun x => decide (e.take x.1.length = x.1)).Pairwise fun a b => a.1.length < b.1.length := by
    refine List.Pairwise.imp_of_mem ?_ (List.Pairwise.filter _ hs)
    intro a b ha hb hab
    have ea : e.take a.1.length = a.1 := of_decide_eq_true (List.mem_filter.mp ha).2
    have eb : e.take b.1.length = b.1 := of_decide_eq_true (List.mem_filter.mp hb).2
    refine lex_take e _ _ ?_
    rw [ea, eb]
    exact hab
  have key : ∀ T, T ≤ e.length + 1 → heldF n l e h T = ((l.filter fun x => decide (e.take x.1.length = x.1)).filter fun x => decide (x.1.length < T)).foldl (fun h x => tradeF h (psAt n x.1) x.2) h := by
    intro T
    induction T with
    | zero =>
      intro _
      rw [List.filter_eq_nil_iff.mpr (fun y _ => by simp)]
      rfl
    | succ T ih =>
      intro hT
      have hlen : (e.take T).length = T := by rw [List.length_take]; omega
      have e2 : (l.filter fun x => decide (e.take x.1.length = x.1)).filter (fun x => decide (x.1.length = T)) = l.filter fun x => decide (x.1 = e.take T) := by
        rw [List.filter_filter]
        refine List.filter_congr fun x _ => ?_
        rw [← Bool.decide_and]
        refine decide_eq_decide.mpr ⟨fun ⟨a, b⟩ => ?_, fun a => ?_⟩
        · rw [← a, b]
        · rw [a, hlen]
          exact ⟨rfl, rfl⟩
      rw [filt_step (fun x : PE2 => x.1.length) T _ hL, e2, look_filter _ _ hs, List.foldl_append, ← ih (by omega)]
      show stepT n l e (heldF n l e h T) T = _
      unfold stepT
      cases look l (e.take T) <;> rfl
  rw [key _ (Nat.le_refl _), List.filter_eq_self.mpr]
  intro x hx
  have ex : e.take x.1.length = x.1 := of_decide_eq_true (List.mem_filter.mp hx).2
  have := congrArg List.length ex
  rw [List.length_take] at this
  exact decide_eq_true (by omega)
theorem heldF_ok {n : Node} {l : List PE2} {e : List Int} {h : List Q2} {k g : Nat} (hh : ∀ x ∈ h, Ok k x) (hg : h.length = g) (g1 : 1 ≤ g) (g4 : g ≤ 4) (hp : ∀ x ∈ pre [] n, ∀ p ∈ x.2.ps, PrK 201 p) (ha : ∀ x ∈ l, x.2.length + 1 = g ∧ ∀ a ∈ x.2, Ok 10 a) :
    ∀ T, (∀ x ∈ heldF n l e h T, Ok (k + 636 * T) x) ∧ (heldF n l e h T).length = g
  | 0 => ⟨hh, hg⟩
  | T + 1 => by
    obtain ⟨i1, i2⟩ := heldF_ok (e := e) hh hg g1 g4 hp ha T
    show (∀ x ∈ stepT n l e (heldF n l e h T) T, _) ∧ (stepT n l e (heldF n l e h T) T).length = g
    unfold stepT
    cases hl : look l (e.take T) with
    | none => exact ⟨fun x hx => (i1 x hx).mono (by omega), i2⟩
    | some am =>
      obtain ⟨x, hx, rfl⟩ := Option.map_eq_some_iff.mp hl
      have hm := ha x (List.mem_of_find?_eq_some hx)
      have hps : ∀ p ∈ psAt n (e.take T), PrK 201 p := by
        intro p hpp
        unfold psAt at hpp
        cases hf : find n (e.take T) with
        | none => rw [hf] at hpp; simp at hpp
        | some m =>
          rw [hf] at hpp
          obtain ⟨y, hy, rfl⟩ := find_pre n _ _ hf
          exact hp y hy p hpp
      refine ⟨fun y hy => (tradeF_ok i1 (by omega) hps hm.2 (by omega) y hy).mono (by omega), ?_⟩
      show (tradeF (heldF n l e h T) (psAt n (e.take T)) x.2).length = g
      rw [tradeF_len (by omega)]
      omega
theorem eqv_path (p q : List Int) : PyData.eqv (pathD p) (pathD q) = decide (p = q) := by
  have all : ∀ p q : List Int, PyData.eqvAll (p.map PyData.int) (q.map PyData.int) = decide (p = q) := by
    intro p
    induction p with
    | nil =>
      intro q
      cases q with
      | nil => simp [PyData.eqvAll]
      | cons y q => simp [PyData.eqvAll]
    | cons x p ih =>
      intro q
      cases q with
      | nil => simp [PyData.eqvAll]
      | cons y q =>
        rw [List.map_cons, List.map_cons, PyData.eqvAll, PyData.eqv, ih q]
        by_cases e : x = y
        · simp [e]
        · simp [e]
  unfold pathD
  rw [PyData.eqv, all]
theorem lex_trans : ∀ a b c : List Int, HT.lexLt a b = true → HT.lexLt b c = true → HT.lexLt a c = true
  | a, [], c, h, _ => by cases a <;> simp [HT.lexLt] at h
  | [], y :: b, [], _, g => by simp [HT.lexLt] at g
  | [], y :: b, z :: c, _, _ => rfl
  | x :: a, y :: b, [], _, g => by simp [HT.lexLt] at g
  | x :: a, y :: b, z :: c, h, g => by
    rw [HT.lexLt_cons] at h g ⊢
    by_cases e1 : x = y
    · rw [if_pos e1] at h
      subst e1
      by_cases e2 : x = z
      · rw [if_pos e2] at g ⊢
        exact lex_trans a b c h g
      · rw [if_neg e2] at g ⊢
        exact g
    · rw [if_neg e1] at h
      have l1 : x < y := of_decide_eq_true h
      by_cases e2 : y = z
      · subst e2
        rw [if_neg e1]
        exact h
      · rw [if_neg e2] at g
        have l2 : y < z := of_decide_eq_true g
        rw [if_neg (by omega)]
        exact decide_eq_true (by omega)
theorem PlanOk.sorted {n : Node} {g : Int} {l : List PE2} (h : PlanOk n g l) : Sorted l := by
  have key : ∀ d i (h1 : i + d + 1 < l.length), HT.lexLt l[i].1 l[i + d + 1].1 = true := by
    intro d
    induction d with
    | zero =>
      intro i h1
      exact (h (i + 1) _ (List.getElem?_eq_getElem h1)).2.1 i _ rfl (List.getElem?_eq_getElem (by omega))
    | succ d ih =>
      intro i h1
      have h2 := ih i (by omega)
      have h3 := (h (i + d + 1 + 1) _ (List.getElem?_eq_getElem (by omega))).2.1 (i + d + 1) _ rfl (List.getElem?_eq_getElem (by omega))
      exact lex_trans _ _ _ h2 h3
  refine List.pairwise_iff_getElem.mpr fun i j hi hj hij => ?_
  have := key (j - i - 1) i (by omega)
  have e : i + (j - i - 1) + 1 = j := by omega
  simp only [e] at this
  exact this
end Nl

namespace Nl
open PySem PySem.Spec PyProof.Rows L2
/-! ### contracts, values and conditions -/
inductive Wd where
  | number | buy | sell | plus | minus | times | least | greatest | less | same | not_ | and_ | nothing | one | scale | both | give | or_ | at_ | when_ | until_ | early | later
deriving DecidableEq
inductive Kn where
  | size | good | time | value | condition | contract
deriving DecidableEq
def Wd.s : Wd → String
  | .number => "number" | .buy => "buy" | .sell => "sell" | .plus => "plus" | .minus => "minus" | .times => "times" | .least => "least" | .greatest => "greatest"
  | .less => "less" | .same => "same" | .not_ => "not" | .and_ => "and" | .nothing => "nothing" | .one => "one" | .scale => "scale" | .both => "both" | .give => "give"
  | .or_ => "or" | .at_ => "at" | .when_ => "when" | .until_ => "until" | .early => "early" | .later => "later"
def Kn.s : Kn → String
  | .size => "size" | .good => "good" | .time => "time" | .value => "value" | .condition => "condition" | .contract => "contract"
abbrev Wd.str (w : Wd) : Str := Str.ofString w.s
abbrev Kn.str (k : Kn) : Str := Str.ofString k.s
def Wd.all : List Wd := [.number, .buy, .sell, .plus, .minus, .times, .least, .greatest, .less, .same, .not_, .and_, .nothing, .one, .scale, .both, .give, .or_, .at_, .when_, .until_, .early, .later]
def Kn.all : List Kn := [.size, .good, .time, .value, .condition, .contract]
theorem Wd.mem_all (w : Wd) : w ∈ Wd.all := by cases w <;> decide
theorem Kn.mem_all (k : Kn) : k ∈ Kn.all := by cases k <;> decide
theorem wd_key : ∀ a ∈ Wd.all, ∀ b ∈ Wd.all, a.str = b.str → a = b := by decide +kernel
theorem kn_key : ∀ a ∈ Kn.all, ∀ b ∈ Kn.all, a.str = b.str → a = b := by decide +kernel
theorem Wd.inj {a b : Wd} (h : a.str = b.str) : a = b := wd_key a a.mem_all b b.mem_all h
theorem Kn.inj {a b : Kn} (h : a.str = b.str) : a = b := kn_key a a.mem_all b b.mem_all h
theorem wd_dec (a b : Wd) : decide (V.str a.str = V.str b.str) = decide (a = b) := by
  by_cases h : a = b
  · rw [decide_eq_true h, decide_eq_true (by rw [h])]
  · rw [decide_eq_false h, decide_eq_false fun z => h (Wd.inj (V.str.inj z))]
theorem kn_dec (a b : Kn) : decide (V.str a.str = V.str b.str) = decide (a = b) := by
  by_cases h : a = b
  · rw [decide_eq_true h, decide_eq_true (by rw [h])]
  · rw [decide_eq_false h, decide_eq_false fun z => h (Kn.inj (V.str.inj z))]
/-- the kind of the part that begins with a word -/
def Wd.cls : Wd → Kn
  | .number => .value | .buy => .value | .sell => .value | .plus => .value | .minus => .value | .times => .value | .least => .value | .greatest => .value
  | .less => .condition | .same => .condition | .not_ => .condition | .and_ => .condition
  | _ => .contract
/-- the kinds of what stands behind a word -/
def Wd.kn : Wd → List Kn
  | .number => [.size] | .buy => [.good] | .sell => [.good]
  | .plus => [.value, .value] | .minus => [.value, .value] | .times => [.value, .value] | .least => [.value, .value] | .greatest => [.value, .value]
  | .less => [.value, .value] | .same => [.value, .value] | .not_ => [.condition] | .and_ => [.condition, .condition]
  | .nothing => [] | .one => [.good] | .scale => [.value, .contract] | .both => [.contract, .contract] | .give => [.contract] | .or_ => [.contract, .contract]
  | .at_ => [.time, .contract] | .when_ => [.condition, .contract] | .until_ => [.condition, .contract] | .early => [.time, .contract] | .later => [.contract]
inductive Lit where
  | non | size (q : Int × Int) | good (i : Int) | time (i : Int)
def Lit.kn : Lit → List Kn
  | .non => [] | .size _ => [.size] | .good _ => [.good] | .time _ => [.time]
def Lit.ds : Lit → List PyData
  | .non => [] | .size q => [frD q] | .good i => [.int i] | .time i => [.int i]
theorem Lit.len (l : Lit) : l.kn.length = l.ds.length := by cases l <;> rfl
inductive Part where
  | p0 (w : Wd) (l : Lit)
  | p1 (w : Wd) (l : Lit) (a : Part)
  | p2 (w : Wd) (l : Lit) (a b : Part)
namespace Part
def wd : Part → Wd
  | p0 w _ => w | p1 w _ _ => w | p2 w _ _ _ => w
def lit : Part → Lit
  | p0 _ l => l | p1 _ l _ => l | p2 _ l _ _ => l
def ks : Part → List Part
  | p0 _ _ => [] | p1 _ _ a => [a] | p2 _ _ a b => [a, b]
def size : Part → Nat
  | p0 _ _ => 1 | p1 _ _ a => 1 + a.size | p2 _ _ a b => 1 + (a.size + b.size)
def depth : Part → Nat
  | p0 _ _ => 1 | p1 _ _ a => 1 + a.depth | p2 _ _ a b => 1 + max a.depth b.depth
def D : Part → PyData
  | p0 w l => .tuple (.str w.str :: l.ds)
  | p1 w l a => .tuple (.str w.str :: (l.ds ++ [a.D]))
  | p2 w l a b => .tuple (.str w.str :: (l.ds ++ [a.D, b.D]))
theorem D_eq (p : Part) : p.D = .tuple (.str p.wd.str :: (p.lit.ds ++ p.ks.map D)) := by
  cases p <;> simp [D, wd, lit, ks]
/-- the form of a contract, a value, a condition -/
def WF : Part → Prop
  | p0 w l => w.kn = l.kn
  | p1 w l a => w.kn = l.kn ++ [a.wd.cls] ∧ a.WF
  | p2 w l a b => w.kn = l.kn ++ [a.wd.cls, b.wd.cls] ∧ a.WF ∧ b.WF
theorem WF.kn {p : Part} (h : p.WF) : p.wd.kn = p.lit.kn ++ p.ks.map (·.wd.cls) := by
  cases p with
  | p0 w l => simpa [ks, wd, lit, WF] using h
  | p1 w l a => exact h.1
  | p2 w l a b => exact h.1
theorem WF.kid {p k : Part} (h : p.WF) (hk : k ∈ p.ks) : k.WF := by
  cases p with
  | p0 w l => cases hk
  | p1 w l a => 
    rw [List.mem_singleton.mp hk]
    exact h.2
  | p2 w l a b =>
    rcases List.mem_cons.mp hk with rfl | hk
    · exact h.2.1
    · rw [List.mem_singleton.mp hk]
      exact h.2.2
/-- a part and all in it, from the left, with how deep they are -/
def pre (n : Nat) : Part → List (Part × Nat)
  | p0 w l => [(p0 w l, n)]
  | p1 w l a => (p1 w l a, n) :: a.pre (n + 1)
  | p2 w l a b => (p2 w l a b, n) :: (a.pre (n + 1) ++ b.pre (n + 1))
theorem pre_eq (n : Nat) (p : Part) : p.pre n = (p, n) :: p.ks.flatMap (fun k => k.pre (n + 1)) := by
  cases p <;> simp [pre, ks]
theorem pre_len (p : Part) : ∀ n : Nat, (p.pre n).length = p.size := by
  induction p with
  | p0 w l => intro n; rfl
  | p1 w l a ih => intro n; simp only [pre, size, List.length_cons, ih]; omega
  | p2 w l a b iha ihb => intro n; simp only [pre, size, List.length_cons, List.length_append, iha, ihb]; omega
theorem size_pos (p : Part) : 0 < p.size := by cases p <;> simp only [size] <;> omega
theorem depth_pos (p : Part) : 0 < p.depth := by cases p <;> simp only [depth] <;> omega
theorem size_eq (p : Part) : p.size = 1 + (p.ks.map size).sum := by
  cases p <;> simp [size, ks]
theorem depth_le_size (p : Part) : p.depth ≤ p.size := by
  induction p with
  | p0 w l => simp [depth, size]
  | p1 w l a ih => simp only [depth, size]; omega
  | p2 w l a b iha ihb => simp only [depth, size]; omega
theorem ks_len (p : Part) : p.ks.length ≤ 2 := by cases p <;> simp [ks]
theorem kid_depth {p k : Part} (h : k ∈ p.ks) : k.depth < p.depth := by
  cases p with
  | p0 w l => cases h
  | p1 w l a => rw [List.mem_singleton.mp h]; simp only [depth]; omega
  | p2 w l a b =>
    simp only [depth]
    rcases List.mem_cons.mp h with rfl | h
    · omega
    · rw [List.mem_singleton.mp h]; omega
theorem pre_depth (p : Part) : ∀ (n : Nat), (∀ x ∈ p.pre n, n ≤ x.2 ∧ x.2 < n + p.depth) ∧ ∃ x ∈ p.pre n, x.2 + 1 = n + p.depth := by
  induction p with
  | p0 w l => intro n; simp [pre, depth]
  | p1 w l a ih =>
    intro n
    obtain ⟨h1, x, hx, e⟩ := ih (n + 1)
    constructor
    · intro y hy
      simp only [depth]
      rcases List.mem_cons.mp hy with rfl | hy
      · exact ⟨Nat.le_refl _, by show n < n + _; omega⟩
      · have := h1 y hy
        omega
    · exact ⟨x, List.mem_cons_of_mem _ hx, by simp only [depth]; omega⟩
  | p2 w l a b iha ihb =>
    intro n
    obtain ⟨h1, x, hx, e⟩ := iha (n + 1)
    obtain ⟨h2, y, hy, e2⟩ := ihb (n + 1)
    constructor
    · intro z hz
      simp only [depth]
      rcases List.mem_cons.mp hz with rfl | hz
      · exact ⟨Nat.le_refl _, by show n < n + _; omega⟩
      · rcases List.mem_append.mp hz with hz | hz
        · have := h1 z hz
          omega
        · have := h2 z hz
          omega
    · by_cases c : a.depth ≤ b.depth
      · exact ⟨y, List.mem_cons_of_mem _ (List.mem_append_right _ hy), by simp only [depth]; omega⟩
      · exact ⟨x, List.mem_cons_of_mem _ (List.mem_append_left _ hx), by simp only [depth]; omega⟩
theorem WF.pre {p : Part} (h : p.WF) : ∀ (n : Nat), ∀ x ∈ p.pre n, x.1.WF := by
  induction p with
  | p0 w l => intro n x hx; rw [List.mem_singleton.mp hx]; exact h
  | p1 w l a ih =>
    intro n x hx
    rcases List.mem_cons.mp hx with rfl | hx
    · exact h
    · exact ih h.2 (n + 1) x hx
  | p2 w l a b iha ihb =>
    intro n x hx
    rcases List.mem_cons.mp hx with rfl | hx
    · exact h
    · rcases List.mem_append.mp hx with hx | hx
      · exact iha h.2.1 (n + 1) x hx
      · exact ihb h.2.2 (n + 1) x hx
/-- all numbers of a part -/
def All (P : Wd → Lit → Prop) (p : Part) : Prop := ∀ x ∈ p.pre 1, P x.1.wd x.1.lit
theorem pre_fst (p : Part) : ∀ n m : Nat, (p.pre n).map (·.1) = (p.pre m).map (·.1) := by
  induction p with
  | p0 w l => intro n m; rfl
  | p1 w l a ih => intro n m; simp only [Part.pre, List.map_cons, ih (n + 1) (m + 1)]
  | p2 w l a b iha ihb => intro n m; simp only [Part.pre, List.map_cons, List.map_append, iha (n + 1) (m + 1), ihb (n + 1) (m + 1)]
theorem all_iff (P : Wd → Lit → Prop) (p : Part) (n : Nat) : p.All P ↔ ∀ x ∈ p.pre n, P x.1.wd x.1.lit := by
  have e := pre_fst p n 1
  constructor
  · intro h x hx
    have : x.1 ∈ (p.pre 1).map (·.1) := by rw [← e]; exact List.mem_map.mpr ⟨x, hx, rfl⟩
    obtain ⟨y, hy, q⟩ := List.mem_map.mp this
    rw [← q]
    exact h y hy
  · intro h x hx
    have : x.1 ∈ (p.pre n).map (·.1) := by rw [e]; exact List.mem_map.mpr ⟨x, hx, rfl⟩
    obtain ⟨y, hy, q⟩ := List.mem_map.mp this
    rw [← q]
    exact h y hy
theorem All.here {P : Wd → Lit → Prop} {p : Part} (h : p.All P) : P p.wd p.lit := h (p, 1) (by rw [pre_eq]; simp)
theorem All.kid {P : Wd → Lit → Prop} {p k : Part} (h : p.All P) (hk : k ∈ p.ks) : k.All P := by
  rw [all_iff P k 2]
  intro x hx
  refine h x ?_
  rw [pre_eq]
  exact List.mem_cons_of_mem _ (List.mem_flatMap.mpr ⟨k, hk, hx⟩)
theorem all_mk {P : Wd → Lit → Prop} {p : Part} (h : P p.wd p.lit) (hk : ∀ k ∈ p.ks, k.All P) : p.All P := by
  intro x hx
  rw [pre_eq] at hx
  rcases List.mem_cons.mp hx with rfl | hx
  · exact h
  · obtain ⟨k, kk, hx⟩ := List.mem_flatMap.mp hx
    exact (all_iff P k 2).mp (hk k kk) x hx
/-- a number that does not fit -/
def BadL (g : Int) : Lit → Prop
  | .good i => ¬ (0 ≤ i ∧ i < g)
  | .time i => i < 0
  | _ => False
instance (g : Int) (l : Lit) : Decidable (BadL g l) := by cases l <;> unfold BadL <;> infer_instance
def Bad (g : Int) (p : Part) : Prop := 40 < p.size ∨ 20 < p.depth ∨ ∃ x ∈ p.pre 1, BadL g x.1.lit
end Part
/-! ### in memory -/
theorem DT.part_inv {K : PySem.W.Frag} {H : Hp} {v : V} {p : Part} (h : DT K H v p.D) : ∃ a ls kv, v = .ref a ∧ Tp H a (.str p.wd.str :: (ls ++ kv)) ∧ DTs K H ls p.lit.ds ∧ DTs K H kv (p.ks.map Part.D) := by
  rw [p.D_eq] at h
  obtain ⟨a, xs, rfl, ha, hd⟩ := h.inv
  cases hd with
  | cons h1 h2 =>
    cases h1
    have hl := h2.take p.lit.ds.length
    have hr := h2.drop p.lit.ds.length
    rw [List.take_left] at hl
    rw [List.drop_left] at hr
    exact ⟨a, _, _, rfl, by rw [List.take_append_drop]; exact ha, hl, hr⟩
theorem DT.part {K : PySem.W.Frag} {H : Hp} {a : Addr} {p : Part} {ls kv : List V} (h : Tp H a (.str p.wd.str :: (ls ++ kv))) (hl : DTs K H ls p.lit.ds) (hk : DTs K H kv (p.ks.map Part.D)) : DT K H (.ref a) p.D := by
  rw [p.D_eq]
  exact .tup h (.cons (.str _) (hl.app hk))
end Nl

namespace Nl
open PySem PySem.Spec PyProof.Rows L2
/-! ### dicts of the top, with texts as keys and tuples of texts as values -/
section
variable {X : Cx}
theorem op_in_kdE {d : Addr} (D : ∃ es n, KDict X.K X.w d es n) : OpR X (compareOp .In) (fun x y H Q => ∃ (z : Str) (r : Option Value), x = .str z ∧ y = .ref d ∧ PySem.W.nsIn X.K d z = some r ∧ Q (.bl r.isSome) H) := by
  obtain ⟨es, n, D⟩ := D
  exact op_in_kd D
end
/-- a written tuple of texts -/
def tupW (K : PySem.W.Frag) (a : Addr) (ss : List Str) : Bool := match K.lookup a with
  | some ⟨.type c, _, .seq its _, _⟩ => decide (c = "tuple") && decide (its.size ≤ sizeLine) && decide (its.toList.map (fun v => match v with | .str x _ => some x | _ => none) = ss.map some)
  | _ => false
theorem vals_strs : ∀ (us : List Value) (ss : List Str), us.map (fun v => match v with | .str x _ => some x | _ => none) = ss.map some → Vals (ss.map V.str) us
  | [], [], _ => .nil
  | [], s :: r, h => by simp at h
  | u :: r, [], h => by simp at h
  | u :: r, s :: q, h => by
    rw [List.map_cons, List.map_cons] at h
    obtain ⟨h1, h2⟩ := List.cons.inj h
    cases u with
    | str x t =>
      have : x = s := Option.some.inj h1
      subst this
      exact .cons ⟨t, rfl⟩ (vals_strs r q h2)
    | _ => cases h1
theorem tupW_ok {K : PySem.W.Frag} {a : Addr} {ss : List Str} (h : tupW K a ss = true) (H : Hp) : SqT K H a (ss.map V.str) := by
  unfold tupW at h
  split at h
  · rename_i c od its n sl e
    simp only [Bool.and_eq_true, decide_eq_true_eq] at h
    obtain ⟨⟨h1, h2⟩, h3⟩ := h
    exact .inr ⟨_, its, n, e, by rw [h1], rfl, h2, vals_strs _ _ h3⟩
  · cases h
theorem kdct_of {K : PySem.W.Frag} {w : World} {d t : Addr} {x : Str} (D : ∃ es n, KDict K w d es n) (h : PySem.W.nsIn K d x = some (some (.ref t))) : KDct K w d x (.ref t) := by
  obtain ⟨es, n, D⟩ := D
  exact ⟨es, n, _, D.at_, D.lit, h, rfl⟩
end Nl

namespace Nl
open PySem PySem.Spec PyProof.Rows L2
section
variable {X : Cx}
def rNotInT (K : PySem.W.Frag) : R2 := fun x y H Q => ∃ d ds, Dp K H x d ∧ Dp K H y (.tuple ds) ∧ SeqAt.shaped d = true ∧ SeqAt.shaped (.tuple ds) = true ∧ Q (.bl (!(ds.any fun z => PyData.eqv z d))) H
theorem op_notInT (hu : X.A.units + 65 < cLine) : OpR X (compareOp .NotIn) (rNotInT X.K) := by
  intro pins s σ H x y v u Q I rx ry h
  obtain ⟨d, ds, hd, he, sd, se, q⟩ := h
  obtain ⟨as, r1⟩ := Dp.reads I d x v hd rx
  obtain ⟨bs, r2⟩ := Dp.reads I (.tuple ds) y u he ry
  refine SeqAt.notIn_tuple_reads r2 r1 (SeqAt.canLay_of_shaped (d := .tuple ds) se) (SeqAt.canLay_of_shaped sd) (room_in_shaped sd hu) ⟨.bl _, H, I, rfl, q⟩
end
end Nl

namespace Nl
open PySem PySem.Spec PyProof.Rows L2
def top (i : Nat) : Stmt := PySem.Challenge.pw_nolunch_k14_what_contracts_ask_and_pay.main.body.getD i (.Pass ⟨0, 0, 0, 0⟩)
abbrev s_kinds_behind : Stmt := top 14
theorem sc_kinds_behind : FnScope ["word"] ["word"] (defScope s_kinds_behind) := ⟨rfl, rfl, rfl, by decide +kernel, rfl, by decide +kernel, by decide +kernel⟩
abbrev s_parts_behind : Stmt := top 15
theorem sc_parts_behind : FnScope ["part", "kind", "thing"] ["part"] (defScope s_parts_behind) := ⟨rfl, rfl, rfl, by decide +kernel, rfl, by decide +kernel, by decide +kernel⟩
abbrev s_walk_parts : Stmt := top 16
theorem sc_walk_parts : FnScope ["part", "found", "waiting", "each", "depth", "behind"] ["part"] (defScope s_walk_parts) := ⟨rfl, rfl, rfl, by decide +kernel, rfl, by decide +kernel, by decide +kernel⟩
abbrev s_check_contract : Stmt := top 17
theorem sc_check_contract : FnScope ["goods", "contract", "many", "waiting", "part", "depth", "behind"] ["goods", "contract"] (defScope s_check_contract) := ⟨rfl, rfl, rfl, by decide +kernel, rfl, by decide +kernel, by decide +kernel⟩
abbrev s_check_numbers : Stmt := top 18
theorem sc_check_numbers : FnScope ["goods", "part", "kind", "thing"] ["goods", "part"] (defScope s_check_numbers) := ⟨rfl, rfl, rfl, by decide +kernel, rfl, by decide +kernel, by decide +kernel⟩
abbrev s_fraction : Stmt := top 20
theorem sc_fraction : FnScope ["numerator", "denominator", "shared"] ["numerator", "denominator"] (defScope s_fraction) := ⟨rfl, rfl, rfl, by decide +kernel, rfl, by decide +kernel, by decide +kernel⟩
abbrev s_plus : Stmt := top 21
theorem sc_plus : FnScope ["a", "b"] ["a", "b"] (defScope s_plus) := ⟨rfl, rfl, rfl, by decide +kernel, rfl, by decide +kernel, by decide +kernel⟩
abbrev s_minus : Stmt := top 22
theorem sc_minus : FnScope ["a", "b"] ["a", "b"] (defScope s_minus) := ⟨rfl, rfl, rfl, by decide +kernel, rfl, by decide +kernel, by decide +kernel⟩
abbrev s_times : Stmt := top 23
theorem sc_times : FnScope ["a", "b"] ["a", "b"] (defScope s_times) := ⟨rfl, rfl, rfl, by decide +kernel, rfl, by decide +kernel, by decide +kernel⟩
abbrev s_compare : Stmt := top 24
theorem sc_compare : FnScope ["a", "b", "left", "right"] ["a", "b"] (defScope s_compare) := ⟨rfl, rfl, rfl, by decide +kernel, rfl, by decide +kernel, by decide +kernel⟩
abbrev s_added : Stmt := top 25
theorem sc_added : FnScope ["a", "b", "x", "y"] ["a", "b"] (defScope s_added) := ⟨rfl, rfl, rfl, by decide +kernel, rfl, by decide +kernel, by decide +kernel⟩
abbrev s_multiplied : Stmt := top 26
theorem sc_multiplied : FnScope ["row", "factor", "number"] ["row", "factor"] (defScope s_multiplied) := ⟨rfl, rfl, rfl, by decide +kernel, rfl, by decide +kernel, by decide +kernel⟩
abbrev s_check_market : Stmt := top 31
theorem sc_check_market : FnScope ["market", "goods", "_", "nodes", "node", "end_times", "path"] ["market"] (defScope s_check_market) := ⟨rfl, rfl, rfl, by decide +kernel, rfl, by decide +kernel, by decide +kernel⟩
abbrev s__check_prices : Stmt := top 32
theorem sc__check_prices : FnScope ["goods", "prices", "pair", "buy", "sell"] ["goods", "prices"] (defScope s__check_prices) := ⟨rfl, rfl, rfl, by decide +kernel, rfl, by decide +kernel, by decide +kernel⟩
abbrev s_walk : Stmt := top 33
theorem sc_walk : FnScope ["market", "found", "waiting", "path", "node", "following", "index"] ["market"] (defScope s_walk) := ⟨rfl, rfl, rfl, by decide +kernel, rfl, by decide +kernel, by decide +kernel⟩
abbrev s_node_at : Stmt := top 34
theorem sc_node_at : FnScope ["market", "path", "node", "index", "following"] ["market", "path"] (defScope s_node_at) := ⟨rfl, rfl, rfl, by decide +kernel, rfl, by decide +kernel, by decide +kernel⟩
abbrev s__worked_out : Stmt := top 36
theorem sc__worked_out : FnScope ["prices", "part", "found", "each", "_", "word", "first", "second"] ["prices", "part"] (defScope s__worked_out) := ⟨rfl, rfl, rfl, by decide +kernel, rfl, by decide +kernel, by decide +kernel⟩
abbrev s__price : Stmt := top 37
theorem sc__price : FnScope ["prices", "word", "good", "buy", "sell"] ["prices", "word", "good"] (defScope s__price) := ⟨rfl, rfl, rfl, by decide +kernel, rfl, by decide +kernel, by decide +kernel⟩
abbrev s__joined : Stmt := top 38
theorem sc__joined : FnScope ["word", "first", "second"] ["word", "first", "second"] (defScope s__joined) := ⟨rfl, rfl, rfl, by decide +kernel, rfl, by decide +kernel, by decide +kernel⟩
abbrev s_faced : Stmt := top 39
theorem sc_faced : FnScope ["market", "path", "contract", "prices", "_"] ["market", "path", "contract"] (defScope s_faced) := ⟨rfl, rfl, rfl, by decide +kernel, rfl, by decide +kernel, by decide +kernel⟩
abbrev s_face : Stmt := top 40
theorem sc_face : FnScope ["time", "prices", "contract", "step"] ["time", "prices", "contract"] (defScope s_face) := ⟨rfl, rfl, rfl, by decide +kernel, rfl, by decide +kernel, by decide +kernel⟩
abbrev s__idle : Stmt := top 41
theorem sc__idle : FnScope ["prices", "left"] ["prices", "left"] (defScope s__idle) := ⟨rfl, rfl, rfl, by decide +kernel, rfl, by decide +kernel, by decide +kernel⟩
abbrev s__face_nothing : Stmt := top 42
theorem sc__face_nothing : FnScope ["_", "prices", "contract"] ["_", "prices", "contract"] (defScope s__face_nothing) := ⟨rfl, rfl, rfl, by decide +kernel, rfl, by decide +kernel, by decide +kernel⟩
abbrev s__face_one : Stmt := top 43
theorem sc__face_one : FnScope ["_", "prices", "contract", "amounts"] ["_", "prices", "contract"] (defScope s__face_one) := ⟨rfl, rfl, rfl, by decide +kernel, rfl, by decide +kernel, by decide +kernel⟩
abbrev s__face_scale : Stmt := top 44
theorem sc__face_scale : FnScope ["time", "prices", "contract", "_", "value", "inner", "told", "factor"] ["time", "prices", "contract"] (defScope s__face_scale) := ⟨rfl, rfl, rfl, by decide +kernel, rfl, by decide +kernel, by decide +kernel⟩
abbrev s__face_both : Stmt := top 45
theorem sc__face_both : FnScope ["time", "prices", "contract", "_", "first", "second", "one", "other"] ["time", "prices", "contract"] (defScope s__face_both) := ⟨rfl, rfl, rfl, by decide +kernel, rfl, by decide +kernel, by decide +kernel⟩
abbrev s__face_give : Stmt := top 46
theorem sc__face_give : FnScope ["time", "prices", "contract", "told", "side"] ["time", "prices", "contract"] (defScope s__face_give) := ⟨rfl, rfl, rfl, by decide +kernel, rfl, by decide +kernel, by decide +kernel⟩
abbrev s__face_or : Stmt := top 47
theorem sc__face_or : FnScope ["_", "prices", "contract"] ["_", "prices", "contract"] (defScope s__face_or) := ⟨rfl, rfl, rfl, by decide +kernel, rfl, by decide +kernel, by decide +kernel⟩
abbrev s__face_at : Stmt := top 48
theorem sc__face_at : FnScope ["time", "prices", "contract", "_", "begin", "inner"] ["time", "prices", "contract"] (defScope s__face_at) := ⟨rfl, rfl, rfl, by decide +kernel, rfl, by decide +kernel, by decide +kernel⟩
abbrev s__face_when : Stmt := top 49
theorem sc__face_when : FnScope ["time", "prices", "contract", "_", "condition", "inner"] ["time", "prices", "contract"] (defScope s__face_when) := ⟨rfl, rfl, rfl, by decide +kernel, rfl, by decide +kernel, by decide +kernel⟩
abbrev s__face_until : Stmt := top 50
theorem sc__face_until : FnScope ["time", "prices", "contract", "_", "condition", "inner", "told"] ["time", "prices", "contract"] (defScope s__face_until) := ⟨rfl, rfl, rfl, by decide +kernel, rfl, by decide +kernel, by decide +kernel⟩
abbrev s__face_early : Stmt := top 51
theorem sc__face_early : FnScope ["time", "prices", "contract", "_", "end", "inner"] ["time", "prices", "contract"] (defScope s__face_early) := ⟨rfl, rfl, rfl, by decide +kernel, rfl, by decide +kernel, by decide +kernel⟩
abbrev s__face_later : Stmt := top 52
theorem sc__face_later : FnScope ["_", "prices", "contract"] ["_", "prices", "contract"] (defScope s__face_later) := ⟨rfl, rfl, rfl, by decide +kernel, rfl, by decide +kernel, by decide +kernel⟩
abbrev s__law_begin : Stmt := top 55
theorem sc__law_begin : FnScope ["script", "seed", "cell"] ["script"] (defScope s__law_begin) := ⟨rfl, rfl, rfl, by decide +kernel, rfl, by decide +kernel, by decide +kernel⟩
abbrev s__law_take : Stmt := top 56
theorem sc__law_take : FnScope ["d", "many", "small", "digit"] ["d", "many"] (defScope s__law_take) := ⟨rfl, rfl, rfl, by decide +kernel, rfl, by decide +kernel, by decide +kernel⟩
abbrev s__law_signed : Stmt := top 57
theorem sc__law_signed : FnScope ["d", "most"] ["d", "most"] (defScope s__law_signed) := ⟨rfl, rfl, rfl, by decide +kernel, rfl, by decide +kernel, by decide +kernel⟩
abbrev s__law_gcd : Stmt := top 58
theorem sc__law_gcd : FnScope ["a", "b"] ["a", "b"] (defScope s__law_gcd) := ⟨rfl, rfl, rfl, by decide +kernel, rfl, by decide +kernel, by decide +kernel⟩
abbrev s__law_f : Stmt := top 59
theorem sc__law_f : FnScope ["a", "b", "c"] ["a", "b"] (defScope s__law_f) := ⟨rfl, rfl, rfl, by decide +kernel, rfl, by decide +kernel, by decide +kernel⟩
abbrev s__law_plus : Stmt := top 60
theorem sc__law_plus : FnScope ["a", "b"] ["a", "b"] (defScope s__law_plus) := ⟨rfl, rfl, rfl, by decide +kernel, rfl, by decide +kernel, by decide +kernel⟩
abbrev s__law_minus : Stmt := top 61
theorem sc__law_minus : FnScope ["a", "b"] ["a", "b"] (defScope s__law_minus) := ⟨rfl, rfl, rfl, by decide +kernel, rfl, by decide +kernel, by decide +kernel⟩
abbrev s__law_times : Stmt := top 62
theorem sc__law_times : FnScope ["a", "b"] ["a", "b"] (defScope s__law_times) := ⟨rfl, rfl, rfl, by decide +kernel, rfl, by decide +kernel, by decide +kernel⟩
abbrev s__law_less : Stmt := top 63
theorem sc__law_less : FnScope ["a", "b"] ["a", "b"] (defScope s__law_less) := ⟨rfl, rfl, rfl, by decide +kernel, rfl, by decide +kernel, by decide +kernel⟩
abbrev s__law_min : Stmt := top 64
theorem sc__law_min : FnScope ["a", "b"] ["a", "b"] (defScope s__law_min) := ⟨rfl, rfl, rfl, by decide +kernel, rfl, by decide +kernel, by decide +kernel⟩
abbrev s__law_max : Stmt := top 65
theorem sc__law_max : FnScope ["a", "b"] ["a", "b"] (defScope s__law_max) := ⟨rfl, rfl, rfl, by decide +kernel, rfl, by decide +kernel, by decide +kernel⟩
abbrev s__law_part : Stmt := top 66
theorem sc__law_part : FnScope ["d", "most"] ["d", "most"] (defScope s__law_part) := ⟨rfl, rfl, rfl, by decide +kernel, rfl, by decide +kernel, by decide +kernel⟩
abbrev s__law_spread : Stmt := top 67
theorem sc__law_spread : FnScope ["d", "mid", "s", "low"] ["d", "mid"] (defScope s__law_spread) := ⟨rfl, rfl, rfl, by decide +kernel, rfl, by decide +kernel, by decide +kernel⟩
abbrev s__law_node : Stmt := top 68
theorem sc__law_node : FnScope ["d", "goods", "time", "last", "wild", "many", "k", "children", "weights", "mids", "good", "mid", "total", "prices", "child"] ["d", "goods", "time", "last", "wild"] (defScope s__law_node) := ⟨rfl, rfl, rfl, by decide +kernel, rfl, by decide +kernel, by decide +kernel⟩
abbrev s__law_market : Stmt := top 69
theorem sc__law_market : FnScope ["d", "most", "goods", "wild"] ["d", "most"] (defScope s__law_market) := ⟨rfl, rfl, rfl, by decide +kernel, rfl, by decide +kernel, by decide +kernel⟩
abbrev s__law_nodes : Stmt := top 70
theorem sc__law_nodes : FnScope ["market", "rows", "level", "turn", "fresh", "path", "node", "k", "row"] ["market"] (defScope s__law_nodes) := ⟨rfl, rfl, rfl, by decide +kernel, rfl, by decide +kernel, by decide +kernel⟩
abbrev s__law_find : Stmt := top 71
theorem sc__law_find : FnScope ["market", "path", "node", "k"] ["market", "path"] (defScope s__law_find) := ⟨rfl, rfl, rfl, by decide +kernel, rfl, by decide +kernel, by decide +kernel⟩
abbrev s__law_prices : Stmt := top 72
theorem sc__law_prices : FnScope ["market", "path"] ["market", "path"] (defScope s__law_prices) := ⟨rfl, rfl, rfl, by decide +kernel, rfl, by decide +kernel, by decide +kernel⟩
abbrev s__law_number : Stmt := top 73
theorem sc__law_number : FnScope ["d"] ["d"] (defScope s__law_number) := ⟨rfl, rfl, rfl, by decide +kernel, rfl, by decide +kernel, by decide +kernel⟩
abbrev s__law_value : Stmt := top 74
theorem sc__law_value : FnScope ["d", "goods", "deep", "menu", "word"] ["d", "goods", "deep"] (defScope s__law_value) := ⟨rfl, rfl, rfl, by decide +kernel, rfl, by decide +kernel, by decide +kernel⟩
abbrev s__law_condition : Stmt := top 75
theorem sc__law_condition : FnScope ["d", "goods", "deep", "menu"] ["d", "goods", "deep"] (defScope s__law_condition) := ⟨rfl, rfl, rfl, by decide +kernel, rfl, by decide +kernel, by decide +kernel⟩
abbrev s__law_contract : Stmt := top 76
theorem sc__law_contract : FnScope ["d", "goods", "deep", "asks", "menu"] ["d", "goods", "deep", "asks"] (defScope s__law_contract) := ⟨rfl, rfl, rfl, by decide +kernel, rfl, by decide +kernel, by decide +kernel⟩
abbrev s__law_parts : Stmt := top 77
theorem sc__law_parts : FnScope ["part", "word", "inner", "found", "one"] ["part"] (defScope s__law_parts) := ⟨rfl, rfl, rfl, by decide +kernel, rfl, by decide +kernel, by decide +kernel⟩
abbrev s__law_depth : Stmt := top 78
theorem sc__law_depth : FnScope ["part", "word", "inner", "one"] ["part"] (defScope s__law_depth) := ⟨rfl, rfl, rfl, by decide +kernel, rfl, by decide +kernel, by decide +kernel⟩
abbrev s__law_worth : Stmt := top 79
theorem sc__law_worth : FnScope ["prices", "value", "word", "a", "b"] ["prices", "value"] (defScope s__law_worth) := ⟨rfl, rfl, rfl, by decide +kernel, rfl, by decide +kernel, by decide +kernel⟩
abbrev s__law_so : Stmt := top 80
theorem sc__law_so : FnScope ["prices", "condition", "word", "a", "b"] ["prices", "condition"] (defScope s__law_so) := ⟨rfl, rfl, rfl, by decide +kernel, rfl, by decide +kernel, by decide +kernel⟩
abbrev s__law_into : Stmt := top 81
theorem sc__law_into : FnScope ["found", "before", "behind"] ["found", "before", "behind"] (defScope s__law_into) := ⟨rfl, rfl, rfl, by decide +kernel, rfl, by decide +kernel, by decide +kernel⟩
abbrev s__law_idle : Stmt := top 82
theorem sc__law_idle : FnScope ["goods", "contract"] ["goods", "contract"] (defScope s__law_idle) := ⟨rfl, rfl, rfl, by decide +kernel, rfl, by decide +kernel, by decide +kernel⟩
abbrev s__law_faced : Stmt := top 83
theorem sc__law_faced : FnScope ["prices", "time", "contract", "goods", "word", "found", "one", "other", "inner", "number", "k", "a"] ["prices", "time", "contract"] (defScope s__law_faced) := ⟨rfl, rfl, rfl, by decide +kernel, rfl, by decide +kernel, by decide +kernel⟩
abbrev s__law_branches : Stmt := top 84
theorem sc__law_branches : FnScope ["market", "path", "found", "k"] ["market", "path", "found"] (defScope s__law_branches) := ⟨rfl, rfl, rfl, by decide +kernel, rfl, by decide +kernel, by decide +kernel⟩
abbrev s__law_told : Stmt := top 85
theorem sc__law_told : FnScope ["market", "path", "contract", "found", "e"] ["market", "path", "contract"] (defScope s__law_told) := ⟨rfl, rfl, rfl, by decide +kernel, rfl, by decide +kernel, by decide +kernel⟩
abbrev s__law_small : Stmt := top 86
theorem sc__law_small : FnScope ["contract"] ["contract"] (defScope s__law_small) := ⟨rfl, rfl, rfl, by decide +kernel, rfl, by decide +kernel, by decide +kernel⟩
abbrev s_law : Stmt := top 87
theorem sc_law : FnScope ["script", "d", "market", "contract", "nodes", "path", "turn", "due", "places", "bad"] ["script"] (defScope s_law) := ⟨rfl, rfl, rfl, by decide +kernel, rfl, by decide +kernel, by decide +kernel⟩
structure Top (w : World) (K : PySem.W.Frag) (mg : Str → Option Value) where
  a_kinds_behind : Addr
  d_kinds_behind : FuncData
  kinds_behind_F : Fun K "kinds_behind" "kinds_behind" s_kinds_behind a_kinds_behind d_kinds_behind
  kinds_behind_b : Binds K d_kinds_behind ["word"] []
  g_kinds_behind : mg "kinds_behind" = some (.ref a_kinds_behind)
  a_parts_behind : Addr
  d_parts_behind : FuncData
  parts_behind_F : Fun K "parts_behind" "parts_behind" s_parts_behind a_parts_behind d_parts_behind
  parts_behind_b : Binds K d_parts_behind ["part"] []
  g_parts_behind : mg "parts_behind" = some (.ref a_parts_behind)
  a_walk_parts : Addr
  d_walk_parts : FuncData
  walk_parts_F : Fun K "walk_parts" "walk_parts" s_walk_parts a_walk_parts d_walk_parts
  walk_parts_b : Binds K d_walk_parts ["part"] []
  g_walk_parts : mg "walk_parts" = some (.ref a_walk_parts)
  a_check_contract : Addr
  d_check_contract : FuncData
  check_contract_F : Fun K "check_contract" "check_contract" s_check_contract a_check_contract d_check_contract
  check_contract_b : Binds K d_check_contract ["goods", "contract"] []
  g_check_contract : mg "check_contract" = some (.ref a_check_contract)
  a_check_numbers : Addr
  d_check_numbers : FuncData
  check_numbers_F : Fun K "check_numbers" "check_numbers" s_check_numbers a_check_numbers d_check_numbers
  check_numbers_b : Binds K d_check_numbers ["goods", "part"] []
  g_check_numbers : mg "check_numbers" = some (.ref a_check_numbers)
  a_fraction : Addr
  d_fraction : FuncData
  fraction_F : Fun K "fraction" "fraction" s_fraction a_fraction d_fraction
  fraction_b : Binds K d_fraction ["numerator", "denominator"] []
  g_fraction : mg "fraction" = some (.ref a_fraction)
  a_plus : Addr
  d_plus : FuncData
  plus_F : Fun K "plus" "plus" s_plus a_plus d_plus
  plus_b : Binds K d_plus ["a", "b"] []
  g_plus : mg "plus" = some (.ref a_plus)
  a_minus : Addr
  d_minus : FuncData
  minus_F : Fun K "minus" "minus" s_minus a_minus d_minus
  minus_b : Binds K d_minus ["a", "b"] []
  g_minus : mg "minus" = some (.ref a_minus)
  a_times : Addr
  d_times : FuncData
  times_F : Fun K "times" "times" s_times a_times d_times
  times_b : Binds K d_times ["a", "b"] []
  g_times : mg "times" = some (.ref a_times)
  a_compare : Addr
  d_compare : FuncData
  compare_F : Fun K "compare" "compare" s_compare a_compare d_compare
  compare_b : Binds K d_compare ["a", "b"] []
  g_compare : mg "compare" = some (.ref a_compare)
  a_added : Addr
  d_added : FuncData
  added_F : Fun K "added" "added" s_added a_added d_added
  added_b : Binds K d_added ["a", "b"] []
  g_added : mg "added" = some (.ref a_added)
  a_multiplied : Addr
  d_multiplied : FuncData
  multiplied_F : Fun K "multiplied" "multiplied" s_multiplied a_multiplied d_multiplied
  multiplied_b : Binds K d_multiplied ["row", "factor"] []
  g_multiplied : mg "multiplied" = some (.ref a_multiplied)
  a_check_market : Addr
  d_check_market : FuncData
  check_market_F : Fun K "check_market" "check_market" s_check_market a_check_market d_check_market
  check_market_b : Binds K d_check_market ["market"] []
  g_check_market : mg "check_market" = some (.ref a_check_market)
  a__check_prices : Addr
  d__check_prices : FuncData
  _check_prices_F : Fun K "_check_prices" "_check_prices" s__check_prices a__check_prices d__check_prices
  _check_prices_b : Binds K d__check_prices ["goods", "prices"] []
  g__check_prices : mg "_check_prices" = some (.ref a__check_prices)
  a_walk : Addr
  d_walk : FuncData
  walk_F : Fun K "walk" "walk" s_walk a_walk d_walk
  walk_b : Binds K d_walk ["market"] []
  g_walk : mg "walk" = some (.ref a_walk)
  a_node_at : Addr
  d_node_at : FuncData
  node_at_F : Fun K "node_at" "node_at" s_node_at a_node_at d_node_at
  node_at_b : Binds K d_node_at ["market", "path"] []
  g_node_at : mg "node_at" = some (.ref a_node_at)
  a__worked_out : Addr
  d__worked_out : FuncData
  _worked_out_F : Fun K "_worked_out" "_worked_out" s__worked_out a__worked_out d__worked_out
  _worked_out_b : Binds K d__worked_out ["prices", "part"] []
  g__worked_out : mg "_worked_out" = some (.ref a__worked_out)
  a__price : Addr
  d__price : FuncData
  _price_F : Fun K "_price" "_price" s__price a__price d__price
  _price_b : Binds K d__price ["prices", "word", "good"] []
  g__price : mg "_price" = some (.ref a__price)
  a__joined : Addr
  d__joined : FuncData
  _joined_F : Fun K "_joined" "_joined" s__joined a__joined d__joined
  _joined_b : Binds K d__joined ["word", "first", "second"] []
  g__joined : mg "_joined" = some (.ref a__joined)
  a_faced : Addr
  d_faced : FuncData
  faced_F : Fun K "faced" "faced" s_faced a_faced d_faced
  faced_b : Binds K d_faced ["market", "path", "contract"] []
  g_faced : mg "faced" = some (.ref a_faced)
  a_face : Addr
  d_face : FuncData
  face_F : Fun K "face" "face" s_face a_face d_face
  face_b : Binds K d_face ["time", "prices", "contract"] []
  g_face : mg "face" = some (.ref a_face)
  a__idle : Addr
  d__idle : FuncData
  _idle_F : Fun K "_idle" "_idle" s__idle a__idle d__idle
  _idle_b : Binds K d__idle ["prices", "left"] []
  g__idle : mg "_idle" = some (.ref a__idle)
  a__face_nothing : Addr
  d__face_nothing : FuncData
  _face_nothing_F : Fun K "_face_nothing" "_face_nothing" s__face_nothing a__face_nothing d__face_nothing
  _face_nothing_b : Binds K d__face_nothing ["_", "prices", "contract"] []
  g__face_nothing : mg "_face_nothing" = some (.ref a__face_nothing)
  a__face_one : Addr
  d__face_one : FuncData
  _face_one_F : Fun K "_face_one" "_face_one" s__face_one a__face_one d__face_one
  _face_one_b : Binds K d__face_one ["_", "prices", "contract"] []
  g__face_one : mg "_face_one" = some (.ref a__face_one)
  a__face_scale : Addr
  d__face_scale : FuncData
  _face_scale_F : Fun K "_face_scale" "_face_scale" s__face_scale a__face_scale d__face_scale
  _face_scale_b : Binds K d__face_scale ["time", "prices", "contract"] []
  g__face_scale : mg "_face_scale" = some (.ref a__face_scale)
  a__face_both : Addr
  d__face_both : FuncData
  _face_both_F : Fun K "_face_both" "_face_both" s__face_both a__face_both d__face_both
  _face_both_b : Binds K d__face_both ["time", "prices", "contract"] []
  g__face_both : mg "_face_both" = some (.ref a__face_both)
  a__face_give : Addr
  d__face_give : FuncData
  _face_give_F : Fun K "_face_give" "_face_give" s__face_give a__face_give d__face_give
  _face_give_b : Binds K d__face_give ["time", "prices", "contract"] []
  g__face_give : mg "_face_give" = some (.ref a__face_give)
  a__face_or : Addr
  d__face_or : FuncData
  _face_or_F : Fun K "_face_or" "_face_or" s__face_or a__face_or d__face_or
  _face_or_b : Binds K d__face_or ["_", "prices", "contract"] []
  g__face_or : mg "_face_or" = some (.ref a__face_or)
  a__face_at : Addr
  d__face_at : FuncData
  _face_at_F : Fun K "_face_at" "_face_at" s__face_at a__face_at d__face_at
  _face_at_b : Binds K d__face_at ["time", "prices", "contract"] []
  g__face_at : mg "_face_at" = some (.ref a__face_at)
  a__face_when : Addr
  d__face_when : FuncData
  _face_when_F : Fun K "_face_when" "_face_when" s__face_when a__face_when d__face_when
  _face_when_b : Binds K d__face_when ["time", "prices", "contract"] []
  g__face_when : mg "_face_when" = some (.ref a__face_when)
  a__face_until : Addr
  d__face_until : FuncData
  _face_until_F : Fun K "_face_until" "_face_until" s__face_until a__face_until d__face_until
  _face_until_b : Binds K d__face_until ["time", "prices", "contract"] []
  g__face_until : mg "_face_until" = some (.ref a__face_until)
  a__face_early : Addr
  d__face_early : FuncData
  _face_early_F : Fun K "_face_early" "_face_early" s__face_early a__face_early d__face_early
  _face_early_b : Binds K d__face_early ["time", "prices", "contract"] []
  g__face_early : mg "_face_early" = some (.ref a__face_early)
  a__face_later : Addr
  d__face_later : FuncData
  _face_later_F : Fun K "_face_later" "_face_later" s__face_later a__face_later d__face_later
  _face_later_b : Binds K d__face_later ["_", "prices", "contract"] []
  g__face_later : mg "_face_later" = some (.ref a__face_later)
  a__law_begin : Addr
  d__law_begin : FuncData
  _law_begin_F : Fun K "_law_begin" "_law_begin" s__law_begin a__law_begin d__law_begin
  _law_begin_b : Binds K d__law_begin ["script"] []
  g__law_begin : mg "_law_begin" = some (.ref a__law_begin)
  a__law_take : Addr
  d__law_take : FuncData
  _law_take_F : Fun K "_law_take" "_law_take" s__law_take a__law_take d__law_take
  _law_take_b : Binds K d__law_take ["d", "many"] []
  g__law_take : mg "_law_take" = some (.ref a__law_take)
  a__law_signed : Addr
  d__law_signed : FuncData
  _law_signed_F : Fun K "_law_signed" "_law_signed" s__law_signed a__law_signed d__law_signed
  _law_signed_b : Binds K d__law_signed ["d", "most"] []
  g__law_signed : mg "_law_signed" = some (.ref a__law_signed)
  a__law_gcd : Addr
  d__law_gcd : FuncData
  _law_gcd_F : Fun K "_law_gcd" "_law_gcd" s__law_gcd a__law_gcd d__law_gcd
  _law_gcd_b : Binds K d__law_gcd ["a", "b"] []
  g__law_gcd : mg "_law_gcd" = some (.ref a__law_gcd)
  a__law_f : Addr
  d__law_f : FuncData
  _law_f_F : Fun K "_law_f" "_law_f" s__law_f a__law_f d__law_f
  _law_f_b : Binds K d__law_f ["a", "b"] []
  g__law_f : mg "_law_f" = some (.ref a__law_f)
  a__law_plus : Addr
  d__law_plus : FuncData
  _law_plus_F : Fun K "_law_plus" "_law_plus" s__law_plus a__law_plus d__law_plus
  _law_plus_b : Binds K d__law_plus ["a", "b"] []
  g__law_plus : mg "_law_plus" = some (.ref a__law_plus)
  a__law_minus : Addr
  d__law_minus : FuncData
  _law_minus_F : Fun K "_law_minus" "_law_minus" s__law_minus a__law_minus d__law_minus
  _law_minus_b : Binds K d__law_minus ["a", "b"] []
  g__law_minus : mg "_law_minus" = some (.ref a__law_minus)
  a__law_times : Addr
  d__law_times : FuncData
  _law_times_F : Fun K "_law_times" "_law_times" s__law_times a__law_times d__law_times
  _law_times_b : Binds K d__law_times ["a", "b"] []
  g__law_times : mg "_law_times" = some (.ref a__law_times)
  a__law_less : Addr
  d__law_less : FuncData
  _law_less_F : Fun K "_law_less" "_law_less" s__law_less a__law_less d__law_less
  _law_less_b : Binds K d__law_less ["a", "b"] []
  g__law_less : mg "_law_less" = some (.ref a__law_less)
  a__law_min : Addr
  d__law_min : FuncData
  _law_min_F : Fun K "_law_min" "_law_min" s__law_min a__law_min d__law_min
  _law_min_b : Binds K d__law_min ["a", "b"] []
  g__law_min : mg "_law_min" = some (.ref a__law_min)
  a__law_max : Addr
  d__law_max : FuncData
  _law_max_F : Fun K "_law_max" "_law_max" s__law_max a__law_max d__law_max
  _law_max_b : Binds K d__law_max ["a", "b"] []
  g__law_max : mg "_law_max" = some (.ref a__law_max)
  a__law_part : Addr
  d__law_part : FuncData
  _law_part_F : Fun K "_law_part" "_law_part" s__law_part a__law_part d__law_part
  _law_part_b : Binds K d__law_part ["d", "most"] []
  g__law_part : mg "_law_part" = some (.ref a__law_part)
  a__law_spread : Addr
  d__law_spread : FuncData
  _law_spread_F : Fun K "_law_spread" "_law_spread" s__law_spread a__law_spread d__law_spread
  _law_spread_b : Binds K d__law_spread ["d", "mid"] []
  g__law_spread : mg "_law_spread" = some (.ref a__law_spread)
  a__law_node : Addr
  d__law_node : FuncData
  _law_node_F : Fun K "_law_node" "_law_node" s__law_node a__law_node d__law_node
  _law_node_b : Binds K d__law_node ["d", "goods", "time", "last", "wild"] []
  g__law_node : mg "_law_node" = some (.ref a__law_node)
  a__law_market : Addr
  d__law_market : FuncData
  _law_market_F : Fun K "_law_market" "_law_market" s__law_market a__law_market d__law_market
  _law_market_b : Binds K d__law_market ["d", "most"] []
  g__law_market : mg "_law_market" = some (.ref a__law_market)
  a__law_nodes : Addr
  d__law_nodes : FuncData
  _law_nodes_F : Fun K "_law_nodes" "_law_nodes" s__law_nodes a__law_nodes d__law_nodes
  _law_nodes_b : Binds K d__law_nodes ["market"] []
  g__law_nodes : mg "_law_nodes" = some (.ref a__law_nodes)
  a__law_find : Addr
  d__law_find : FuncData
  _law_find_F : Fun K "_law_find" "_law_find" s__law_find a__law_find d__law_find
  _law_find_b : Binds K d__law_find ["market", "path"] []
  g__law_find : mg "_law_find" = some (.ref a__law_find)
  a__law_prices : Addr
  d__law_prices : FuncData
  _law_prices_F : Fun K "_law_prices" "_law_prices" s__law_prices a__law_prices d__law_prices
  _law_prices_b : Binds K d__law_prices ["market", "path"] []
  g__law_prices : mg "_law_prices" = some (.ref a__law_prices)
  a__law_number : Addr
  d__law_number : FuncData
  _law_number_F : Fun K "_law_number" "_law_number" s__law_number a__law_number d__law_number
  _law_number_b : Binds K d__law_number ["d"] []
  g__law_number : mg "_law_number" = some (.ref a__law_number)
  a__law_value : Addr
  d__law_value : FuncData
  _law_value_F : Fun K "_law_value" "_law_value" s__law_value a__law_value d__law_value
  _law_value_b : Binds K d__law_value ["d", "goods", "deep"] []
  g__law_value : mg "_law_value" = some (.ref a__law_value)
  a__law_condition : Addr
  d__law_condition : FuncData
  _law_condition_F : Fun K "_law_condition" "_law_condition" s__law_condition a__law_condition d__law_condition
  _law_condition_b : Binds K d__law_condition ["d", "goods", "deep"] []
  g__law_condition : mg "_law_condition" = some (.ref a__law_condition)
  a__law_contract : Addr
  d__law_contract : FuncData
  _law_contract_F : Fun K "_law_contract" "_law_contract" s__law_contract a__law_contract d__law_contract
  _law_contract_b : Binds K d__law_contract ["d", "goods", "deep", "asks"] []
  g__law_contract : mg "_law_contract" = some (.ref a__law_contract)
  a__law_parts : Addr
  d__law_parts : FuncData
  _law_parts_F : Fun K "_law_parts" "_law_parts" s__law_parts a__law_parts d__law_parts
  _law_parts_b : Binds K d__law_parts ["part"] []
  g__law_parts : mg "_law_parts" = some (.ref a__law_parts)
  a__law_depth : Addr
  d__law_depth : FuncData
  _law_depth_F : Fun K "_law_depth" "_law_depth" s__law_depth a__law_depth d__law_depth
  _law_depth_b : Binds K d__law_depth ["part"] []
  g__law_depth : mg "_law_depth" = some (.ref a__law_depth)
  a__law_worth : Addr
  d__law_worth : FuncData
  _law_worth_F : Fun K "_law_worth" "_law_worth" s__law_worth a__law_worth d__law_worth
  _law_worth_b : Binds K d__law_worth ["prices", "value"] []
  g__law_worth : mg "_law_worth" = some (.ref a__law_worth)
  a__law_so : Addr
  d__law_so : FuncData
  _law_so_F : Fun K "_law_so" "_law_so" s__law_so a__law_so d__law_so
  _law_so_b : Binds K d__law_so ["prices", "condition"] []
  g__law_so : mg "_law_so" = some (.ref a__law_so)
  a__law_into : Addr
  d__law_into : FuncData
  _law_into_F : Fun K "_law_into" "_law_into" s__law_into a__law_into d__law_into
  _law_into_b : Binds K d__law_into ["found", "before", "behind"] []
  g__law_into : mg "_law_into" = some (.ref a__law_into)
  a__law_idle : Addr
  d__law_idle : FuncData
  _law_idle_F : Fun K "_law_idle" "_law_idle" s__law_idle a__law_idle d__law_idle
  _law_idle_b : Binds K d__law_idle ["goods", "contract"] []
  g__law_idle : mg "_law_idle" = some (.ref a__law_idle)
  a__law_faced : Addr
  d__law_faced : FuncData
  _law_faced_F : Fun K "_law_faced" "_law_faced" s__law_faced a__law_faced d__law_faced
  _law_faced_b : Binds K d__law_faced ["prices", "time", "contract"] []
  g__law_faced : mg "_law_faced" = some (.ref a__law_faced)
  a__law_branches : Addr
  d__law_branches : FuncData
  _law_branches_F : Fun K "_law_branches" "_law_branches" s__law_branches a__law_branches d__law_branches
  _law_branches_b : Binds K d__law_branches ["market", "path", "found"] []
  g__law_branches : mg "_law_branches" = some (.ref a__law_branches)
  a__law_told : Addr
  d__law_told : FuncData
  _law_told_F : Fun K "_law_told" "_law_told" s__law_told a__law_told d__law_told
  _law_told_b : Binds K d__law_told ["market", "path", "contract"] []
  g__law_told : mg "_law_told" = some (.ref a__law_told)
  a__law_small : Addr
  d__law_small : FuncData
  _law_small_F : Fun K "_law_small" "_law_small" s__law_small a__law_small d__law_small
  _law_small_b : Binds K d__law_small ["contract"] []
  g__law_small : mg "_law_small" = some (.ref a__law_small)
  n_abs : mg "abs" = none
  n_int : mg "int" = none
  n_isinstance : mg "isinstance" = none
  n_len : mg "len" = none
  n_list : mg "list" = none
  n_max : mg "max" = none
  n_min : mg "min" = none
  n_range : mg "range" = none
  n_reversed : mg "reversed" = none
  n_sorted : mg "sorted" = none
  n_sum : mg "sum" = none
  n_tuple : mg "tuple" = none
  n_zip : mg "zip" = none
  g_gcd : mg "gcd" = some (.builtin "math.gcd")
  t_PART_LIMIT : Tok
  g_PART_LIMIT : mg "PART_LIMIT" = some (.int 40 t_PART_LIMIT)
  t_DEPTH_LIMIT : Tok
  g_DEPTH_LIMIT : mg "DEPTH_LIMIT" = some (.int 20 t_DEPTH_LIMIT)
  t_GOODS_LIMIT : Tok
  g_GOODS_LIMIT : mg "GOODS_LIMIT" = some (.int 4 t_GOODS_LIMIT)
  t_MOMENT_LIMIT : Tok
  g_MOMENT_LIMIT : mg "MOMENT_LIMIT" = some (.int 40 t_MOMENT_LIMIT)
  t_TIME_LIMIT : Tok
  g_TIME_LIMIT : mg "TIME_LIMIT" = some (.int 5 t_TIME_LIMIT)
  a_VALUES : Addr
  g_VALUES : mg "VALUES" = some (.ref a_VALUES)
  D_VALUES : ∃ es n, KDict K w a_VALUES es n
  a_CONDITIONS : Addr
  g_CONDITIONS : mg "CONDITIONS" = some (.ref a_CONDITIONS)
  D_CONDITIONS : ∃ es n, KDict K w a_CONDITIONS es n
  a_CONTRACTS : Addr
  g_CONTRACTS : mg "CONTRACTS" = some (.ref a_CONTRACTS)
  D_CONTRACTS : ∃ es n, KDict K w a_CONTRACTS es n
  a_STEPS : Addr
  g_STEPS : mg "STEPS" = some (.ref a_STEPS)
  D_STEPS : ∃ es n, KDict K w a_STEPS es n
  t_VALUES_number : Addr
  n_VALUES_number : PySem.W.nsIn K a_VALUES "number" = some (some (.ref t_VALUES_number))
  q_VALUES_number : tupW K t_VALUES_number ["size"] = true
  t_VALUES_buy : Addr
  n_VALUES_buy : PySem.W.nsIn K a_VALUES "buy" = some (some (.ref t_VALUES_buy))
  q_VALUES_buy : tupW K t_VALUES_buy ["good"] = true
  t_VALUES_sell : Addr
  n_VALUES_sell : PySem.W.nsIn K a_VALUES "sell" = some (some (.ref t_VALUES_sell))
  q_VALUES_sell : tupW K t_VALUES_sell ["good"] = true
  t_VALUES_plus : Addr
  n_VALUES_plus : PySem.W.nsIn K a_VALUES "plus" = some (some (.ref t_VALUES_plus))
  q_VALUES_plus : tupW K t_VALUES_plus ["value", "value"] = true
  t_VALUES_minus : Addr
  n_VALUES_minus : PySem.W.nsIn K a_VALUES "minus" = some (some (.ref t_VALUES_minus))
  q_VALUES_minus : tupW K t_VALUES_minus ["value", "value"] = true
  t_VALUES_times : Addr
  n_VALUES_times : PySem.W.nsIn K a_VALUES "times" = some (some (.ref t_VALUES_times))
  q_VALUES_times : tupW K t_VALUES_times ["value", "value"] = true
  t_VALUES_least : Addr
  n_VALUES_least : PySem.W.nsIn K a_VALUES "least" = some (some (.ref t_VALUES_least))
  q_VALUES_least : tupW K t_VALUES_least ["value", "value"] = true
  t_VALUES_greatest : Addr
  n_VALUES_greatest : PySem.W.nsIn K a_VALUES "greatest" = some (some (.ref t_VALUES_greatest))
  q_VALUES_greatest : tupW K t_VALUES_greatest ["value", "value"] = true
  n_VALUES_less : PySem.W.nsIn K a_VALUES "less" = some none
  n_VALUES_same : PySem.W.nsIn K a_VALUES "same" = some none
  n_VALUES_not : PySem.W.nsIn K a_VALUES "not" = some none
  n_VALUES_and : PySem.W.nsIn K a_VALUES "and" = some none
  n_VALUES_nothing : PySem.W.nsIn K a_VALUES "nothing" = some none
  n_VALUES_one : PySem.W.nsIn K a_VALUES "one" = some none
  n_VALUES_scale : PySem.W.nsIn K a_VALUES "scale" = some none
  n_VALUES_both : PySem.W.nsIn K a_VALUES "both" = some none
  n_VALUES_give : PySem.W.nsIn K a_VALUES "give" = some none
  n_VALUES_or : PySem.W.nsIn K a_VALUES "or" = some none
  n_VALUES_at : PySem.W.nsIn K a_VALUES "at" = some none
  n_VALUES_when : PySem.W.nsIn K a_VALUES "when" = some none
  n_VALUES_until : PySem.W.nsIn K a_VALUES "until" = some none
  n_VALUES_early : PySem.W.nsIn K a_VALUES "early" = some none
  n_VALUES_later : PySem.W.nsIn K a_VALUES "later" = some none
  n_CONDITIONS_number : PySem.W.nsIn K a_CONDITIONS "number" = some none
  n_CONDITIONS_buy : PySem.W.nsIn K a_CONDITIONS "buy" = some none
  n_CONDITIONS_sell : PySem.W.nsIn K a_CONDITIONS "sell" = some none
  n_CONDITIONS_plus : PySem.W.nsIn K a_CONDITIONS "plus" = some none
  n_CONDITIONS_minus : PySem.W.nsIn K a_CONDITIONS "minus" = some none
  n_CONDITIONS_times : PySem.W.nsIn K a_CONDITIONS "times" = some none
  n_CONDITIONS_least : PySem.W.nsIn K a_CONDITIONS "least" = some none
  n_CONDITIONS_greatest : PySem.W.nsIn K a_CONDITIONS "greatest" = some none
  t_CONDITIONS_less : Addr
  n_CONDITIONS_less : PySem.W.nsIn K a_CONDITIONS "less" = some (some (.ref t_CONDITIONS_less))
  q_CONDITIONS_less : tupW K t_CONDITIONS_less ["value", "value"] = true
  t_CONDITIONS_same : Addr
  n_CONDITIONS_same : PySem.W.nsIn K a_CONDITIONS "same" = some (some (.ref t_CONDITIONS_same))
  q_CONDITIONS_same : tupW K t_CONDITIONS_same ["value", "value"] = true
  t_CONDITIONS_not : Addr
  n_CONDITIONS_not : PySem.W.nsIn K a_CONDITIONS "not" = some (some (.ref t_CONDITIONS_not))
  q_CONDITIONS_not : tupW K t_CONDITIONS_not ["condition"] = true
  t_CONDITIONS_and : Addr
  n_CONDITIONS_and : PySem.W.nsIn K a_CONDITIONS "and" = some (some (.ref t_CONDITIONS_and))
  q_CONDITIONS_and : tupW K t_CONDITIONS_and ["condition", "condition"] = true
  n_CONDITIONS_nothing : PySem.W.nsIn K a_CONDITIONS "nothing" = some none
  n_CONDITIONS_one : PySem.W.nsIn K a_CONDITIONS "one" = some none
  n_CONDITIONS_scale : PySem.W.nsIn K a_CONDITIONS "scale" = some none
  n_CONDITIONS_both : PySem.W.nsIn K a_CONDITIONS "both" = some none
  n_CONDITIONS_give : PySem.W.nsIn K a_CONDITIONS "give" = some none
  n_CONDITIONS_or : PySem.W.nsIn K a_CONDITIONS "or" = some none
  n_CONDITIONS_at : PySem.W.nsIn K a_CONDITIONS "at" = some none
  n_CONDITIONS_when : PySem.W.nsIn K a_CONDITIONS "when" = some none
  n_CONDITIONS_until : PySem.W.nsIn K a_CONDITIONS "until" = some none
  n_CONDITIONS_early : PySem.W.nsIn K a_CONDITIONS "early" = some none
  n_CONDITIONS_later : PySem.W.nsIn K a_CONDITIONS "later" = some none
  n_CONTRACTS_number : PySem.W.nsIn K a_CONTRACTS "number" = some none
  n_CONTRACTS_buy : PySem.W.nsIn K a_CONTRACTS "buy" = some none
  n_CONTRACTS_sell : PySem.W.nsIn K a_CONTRACTS "sell" = some none
  n_CONTRACTS_plus : PySem.W.nsIn K a_CONTRACTS "plus" = some none
  n_CONTRACTS_minus : PySem.W.nsIn K a_CONTRACTS "minus" = some none
  n_CONTRACTS_times : PySem.W.nsIn K a_CONTRACTS "times" = some none
  n_CONTRACTS_least : PySem.W.nsIn K a_CONTRACTS "least" = some none
  n_CONTRACTS_greatest : PySem.W.nsIn K a_CONTRACTS "greatest" = some none
  n_CONTRACTS_less : PySem.W.nsIn K a_CONTRACTS "less" = some none
  n_CONTRACTS_same : PySem.W.nsIn K a_CONTRACTS "same" = some none
  n_CONTRACTS_not : PySem.W.nsIn K a_CONTRACTS "not" = some none
  n_CONTRACTS_and : PySem.W.nsIn K a_CONTRACTS "and" = some none
  t_CONTRACTS_nothing : Addr
  n_CONTRACTS_nothing : PySem.W.nsIn K a_CONTRACTS "nothing" = some (some (.ref t_CONTRACTS_nothing))
  q_CONTRACTS_nothing : tupW K t_CONTRACTS_nothing [] = true
  t_CONTRACTS_one : Addr
  n_CONTRACTS_one : PySem.W.nsIn K a_CONTRACTS "one" = some (some (.ref t_CONTRACTS_one))
  q_CONTRACTS_one : tupW K t_CONTRACTS_one ["good"] = true
  t_CONTRACTS_scale : Addr
  n_CONTRACTS_scale : PySem.W.nsIn K a_CONTRACTS "scale" = some (some (.ref t_CONTRACTS_scale))
  q_CONTRACTS_scale : tupW K t_CONTRACTS_scale ["value", "contract"] = true
  t_CONTRACTS_both : Addr
  n_CONTRACTS_both : PySem.W.nsIn K a_CONTRACTS "both" = some (some (.ref t_CONTRACTS_both))
  q_CONTRACTS_both : tupW K t_CONTRACTS_both ["contract", "contract"] = true
  t_CONTRACTS_give : Addr
  n_CONTRACTS_give : PySem.W.nsIn K a_CONTRACTS "give" = some (some (.ref t_CONTRACTS_give))
  q_CONTRACTS_give : tupW K t_CONTRACTS_give ["contract"] = true
  t_CONTRACTS_or : Addr
  n_CONTRACTS_or : PySem.W.nsIn K a_CONTRACTS "or" = some (some (.ref t_CONTRACTS_or))
  q_CONTRACTS_or : tupW K t_CONTRACTS_or ["contract", "contract"] = true
  t_CONTRACTS_at : Addr
  n_CONTRACTS_at : PySem.W.nsIn K a_CONTRACTS "at" = some (some (.ref t_CONTRACTS_at))
  q_CONTRACTS_at : tupW K t_CONTRACTS_at ["time", "contract"] = true
  t_CONTRACTS_when : Addr
  n_CONTRACTS_when : PySem.W.nsIn K a_CONTRACTS "when" = some (some (.ref t_CONTRACTS_when))
  q_CONTRACTS_when : tupW K t_CONTRACTS_when ["condition", "contract"] = true
  t_CONTRACTS_until : Addr
  n_CONTRACTS_until : PySem.W.nsIn K a_CONTRACTS "until" = some (some (.ref t_CONTRACTS_until))
  q_CONTRACTS_until : tupW K t_CONTRACTS_until ["condition", "contract"] = true
  t_CONTRACTS_early : Addr
  n_CONTRACTS_early : PySem.W.nsIn K a_CONTRACTS "early" = some (some (.ref t_CONTRACTS_early))
  q_CONTRACTS_early : tupW K t_CONTRACTS_early ["time", "contract"] = true
  t_CONTRACTS_later : Addr
  n_CONTRACTS_later : PySem.W.nsIn K a_CONTRACTS "later" = some (some (.ref t_CONTRACTS_later))
  q_CONTRACTS_later : tupW K t_CONTRACTS_later ["contract"] = true
  n_STEPS_nothing : PySem.W.nsIn K a_STEPS "nothing" = some (some (.ref a__face_nothing))
  n_STEPS_one : PySem.W.nsIn K a_STEPS "one" = some (some (.ref a__face_one))
  n_STEPS_scale : PySem.W.nsIn K a_STEPS "scale" = some (some (.ref a__face_scale))
  n_STEPS_both : PySem.W.nsIn K a_STEPS "both" = some (some (.ref a__face_both))
  n_STEPS_give : PySem.W.nsIn K a_STEPS "give" = some (some (.ref a__face_give))
  n_STEPS_or : PySem.W.nsIn K a_STEPS "or" = some (some (.ref a__face_or))
  n_STEPS_at : PySem.W.nsIn K a_STEPS "at" = some (some (.ref a__face_at))
  n_STEPS_when : PySem.W.nsIn K a_STEPS "when" = some (some (.ref a__face_when))
  n_STEPS_until : PySem.W.nsIn K a_STEPS "until" = some (some (.ref a__face_until))
  n_STEPS_early : PySem.W.nsIn K a_STEPS "early" = some (some (.ref a__face_early))
  n_STEPS_later : PySem.W.nsIn K a_STEPS "later" = some (some (.ref a__face_later))
  c_MarketplaceError : Addr
  g_MarketplaceError : mg "MarketplaceError" = some (.ref c_MarketplaceError)
  x_MarketplaceError : PySem.W.excIn K c_MarketplaceError [.type "ValueError", .type "Exception", .type "BaseException", .type "object"] "ValueError.__new__" = true
  k_MarketplaceError : PySem.W.keepIn K (.ref c_MarketplaceError) = true
  b_MarketplaceError : PySem.W.subIn K (.ref c_MarketplaceError) (.type "BaseException") = some true
  t_MarketplaceError : PySem.W.typeIn K (.ref c_MarketplaceError) = some (.type "type")
  h_MarketplaceError : PySem.W.hasDictIn K c_MarketplaceError = true
  e_MarketplaceError : ExcC K c_MarketplaceError
  c_ZeroDenominator : Addr
  g_ZeroDenominator : mg "ZeroDenominator" = some (.ref c_ZeroDenominator)
  x_ZeroDenominator : PySem.W.excIn K c_ZeroDenominator [.type "ValueError", .type "Exception", .type "BaseException", .type "object"] "ValueError.__new__" = true
  k_ZeroDenominator : PySem.W.keepIn K (.ref c_ZeroDenominator) = true
  b_ZeroDenominator : PySem.W.subIn K (.ref c_ZeroDenominator) (.type "BaseException") = some true
  t_ZeroDenominator : PySem.W.typeIn K (.ref c_ZeroDenominator) = some (.type "type")
  h_ZeroDenominator : PySem.W.hasDictIn K c_ZeroDenominator = true
  e_ZeroDenominator : ExcC K c_ZeroDenominator
  c_MarketError : Addr
  g_MarketError : mg "MarketError" = some (.ref c_MarketError)
  x_MarketError : PySem.W.excIn K c_MarketError [.type "ValueError", .type "Exception", .type "BaseException", .type "object"] "ValueError.__new__" = true
  k_MarketError : PySem.W.keepIn K (.ref c_MarketError) = true
  b_MarketError : PySem.W.subIn K (.ref c_MarketError) (.type "BaseException") = some true
  t_MarketError : PySem.W.typeIn K (.ref c_MarketError) = some (.type "type")
  h_MarketError : PySem.W.hasDictIn K c_MarketError = true
  e_MarketError : ExcC K c_MarketError
  c_TooLarge : Addr
  g_TooLarge : mg "TooLarge" = some (.ref c_TooLarge)
  x_TooLarge : PySem.W.excIn K c_TooLarge [.type "ValueError", .type "Exception", .type "BaseException", .type "object"] "ValueError.__new__" = true
  k_TooLarge : PySem.W.keepIn K (.ref c_TooLarge) = true
  b_TooLarge : PySem.W.subIn K (.ref c_TooLarge) (.type "BaseException") = some true
  t_TooLarge : PySem.W.typeIn K (.ref c_TooLarge) = some (.type "type")
  h_TooLarge : PySem.W.hasDictIn K c_TooLarge = true
  e_TooLarge : ExcC K c_TooLarge
  c_MomentError : Addr
  g_MomentError : mg "MomentError" = some (.ref c_MomentError)
  x_MomentError : PySem.W.excIn K c_MomentError [.type "ValueError", .type "Exception", .type "BaseException", .type "object"] "ValueError.__new__" = true
  k_MomentError : PySem.W.keepIn K (.ref c_MomentError) = true
  b_MomentError : PySem.W.subIn K (.ref c_MomentError) (.type "BaseException") = some true
  t_MomentError : PySem.W.typeIn K (.ref c_MomentError) = some (.type "type")
  h_MomentError : PySem.W.hasDictIn K c_MomentError = true
  e_MomentError : ExcC K c_MomentError
  c_ContractError : Addr
  g_ContractError : mg "ContractError" = some (.ref c_ContractError)
  x_ContractError : PySem.W.excIn K c_ContractError [.type "ValueError", .type "Exception", .type "BaseException", .type "object"] "ValueError.__new__" = true
  k_ContractError : PySem.W.keepIn K (.ref c_ContractError) = true
  b_ContractError : PySem.W.subIn K (.ref c_ContractError) (.type "BaseException") = some true
  t_ContractError : PySem.W.typeIn K (.ref c_ContractError) = some (.type "type")
  h_ContractError : PySem.W.hasDictIn K c_ContractError = true
  e_ContractError : ExcC K c_ContractError
  s_MarketError_MarketplaceError : PySem.W.subIn K (.ref c_MarketError) (.ref c_MarketplaceError) = some true
  s_MarketError_MomentError : PySem.W.subIn K (.ref c_MarketError) (.ref c_MomentError) = some false
  s_MarketError_ContractError : PySem.W.subIn K (.ref c_MarketError) (.ref c_ContractError) = some false
  s_TooLarge_MarketplaceError : PySem.W.subIn K (.ref c_TooLarge) (.ref c_MarketplaceError) = some true
  s_TooLarge_MomentError : PySem.W.subIn K (.ref c_TooLarge) (.ref c_MomentError) = some false
  s_TooLarge_ContractError : PySem.W.subIn K (.ref c_TooLarge) (.ref c_ContractError) = some false
  s_MomentError_MarketplaceError : PySem.W.subIn K (.ref c_MomentError) (.ref c_MarketplaceError) = some true
  s_MomentError_MomentError : PySem.W.subIn K (.ref c_MomentError) (.ref c_MomentError) = some true
  s_MomentError_ContractError : PySem.W.subIn K (.ref c_MomentError) (.ref c_ContractError) = some false
  s_ContractError_MarketplaceError : PySem.W.subIn K (.ref c_ContractError) (.ref c_MarketplaceError) = some true
  s_ContractError_MomentError : PySem.W.subIn K (.ref c_ContractError) (.ref c_MomentError) = some false
  s_ContractError_ContractError : PySem.W.subIn K (.ref c_ContractError) (.ref c_ContractError) = some true
  s_MarketError_MarketError : PySem.W.subIn K (.ref c_MarketError) (.ref c_MarketError) = some true
  s_TooLarge_TooLarge : PySem.W.subIn K (.ref c_TooLarge) (.ref c_TooLarge) = some true
end Nl

namespace Nl
open PySem PySem.Spec PyProof.Rows L2
section
variable {P : Program} {w : World} {K : PySem.W.Frag} {mg : Str → Option Value} {base : Heap}
def sp_compare (K : PySem.W.Frag) : Sp := fun vs H Q _ => ∃ (va vb : V) (p q : Int × Int), vs = [va, vb] ∧ DT K H va (frD p) ∧ DT K H vb (frD q) ∧ FB p ∧ FB q ∧ Q (.int (cmpF p q)) H
theorem ok_compare (T : Top w K mg) : FnOk P w K mg base CX0 1 T.a_compare T.d_compare ["a", "b"] (sp_compare K) := by
  refine T.compare_F.ok sc_compare (fun vs H Q E h => ?_) (fun cdv A outer s H vs Q E hr h => ?_)
  · obtain ⟨_, _, _, _, rfl, _⟩ := h
    rfl
  · obtain ⟨_, _, p, q, rfl, da, db, ⟨p1, p2⟩, ⟨q1, q2⟩, fin⟩ := h
    obtain ⟨a, rfl, ha⟩ := da.fr_inv
    obtain ⟨b, rfl, hb⟩ := db.fr_inv
    refine ⟨_, (pss_cons (ps_set (i := 2) sc_compare.nd rfl (Or.inl rfl) (pe_op op_mulW (pe_ix ix_tup (pv 0) pe_int (fun _ _ => rfl)) (pe_ix ix_tup (pv 1) pe_int (fun _ _ => rfl))))
      (pss_cons (ps_set (i := 3) sc_compare.nd rfl (Or.inl rfl) (pe_op op_mulW (pe_ix ix_tup (pv 1) pe_int (fun _ _ => rfl)) (pe_ix ix_tup (pv 0) pe_int (fun _ _ => rfl))))
      (pss_cons (ps_if (pt_cmpR op_lt (pv 2) (pv 3) (nomark _)) (pss_one (ps_ret (pe_un un_neg pe_int))) pss_nil)
      (pss_one (ps_ret (pe_ifExp (pt_cmpR op_gt (pv 2) (pv 3) (nomark _)) pe_int pe_int)))))), ?_⟩
    refine ⟨_, rfl, _, _, _, _, rfl, rfl, (SqT.of ha), (atI_nat (j := 0) rfl), _, rfl, _, _, _, _, rfl, rfl, (SqT.of hb), (atI_nat (j := 1) rfl), _, _, rfl, rfl, (by first | exact mulK hk (by assumption) (by assumption) | exact mulF3 (by assumption) (by assumption) | exact mulB8 (by assumption) (by assumption)), _, rfl, _, _, _, _, rfl, rfl, (SqT.of hb), (atI_nat (j := 0) rfl), _, rfl, _, _, _, _, rfl, rfl, (SqT.of ha), (atI_nat (j := 1) rfl), _, _, rfl, rfl, (by first | exact mulK hk (by assumption) (by assumption) | exact mulF3 (by assumption) (by assumption) | exact mulB8 (by assumption) (by assumption)), ?_⟩
    refine ⟨_, rfl, _, rfl, _, _, rfl, rfl, _, rfl, ite2 (fun e => ?_) (fun e => ?_)⟩
    · have c : cmpF p q = -1 := if_pos (of_decide_eq_true e)
      rw [c] at fin
      exact ⟨_, rfl, fin⟩
    · have e0 : ¬ p.1 * q.2 < q.1 * p.2 := fun z => e (decide_eq_true z)
      refine ⟨_, rfl, _, rfl, _, _, rfl, rfl, _, rfl, ite2 (fun e => ?_) (fun e => ?_)⟩
      · have c : cmpF p q = 1 := (if_neg e0).trans (if_pos (of_decide_eq_true e))
        rw [c] at fin
        exact fin
      · have c : cmpF p q = 0 := (if_neg e0).trans (if_neg fun z => e (decide_eq_true z))
        rw [c] at fin
        exact fin
def sp_prices (K : PySem.W.Frag) (M : Addr) : Sp := fun vs H Q E => ∃ (g : Int) (v : V) (ps : List Pr), vs = [.int g, v] ∧ DT K H v (pricesD ps) ∧ (∀ p ∈ ps, PrB p) ∧ (badPs g ps → ∀ H', Same H H' → E (.ref M) none H') ∧ (¬ badPs g ps → ∀ H', Same H H' → Q .non H')
theorem ok__check_prices (T : Top w K mg) : FnOk P w K mg base (L2.CX P w) 2 T.a__check_prices T.d__check_prices ["goods", "prices"] (sp_prices K T.c_MarketError) := by
  refine T._check_prices_F.okX sc__check_prices (fun vs H Q E h => ?_) (fun cdv A outer s H vs Q E hr h => ?_)
  · obtain ⟨_, _, _, rfl, _⟩ := h
    rfl
  · obtain ⟨g, v, ps, rfl, dv, hb, kE, kQ⟩ := h
    obtain ⟨a, xs, rfl, ha, hx⟩ := dv.inv
    have lx : xs.length = ps.length := by rw [hx.len, List.length_map]
    refine ⟨_, (pss_cons (ps_if (pt_cmpR op_ne (pe_callB call_lenT (by rfl) T.n_len (by decide +kernel) (pa_cons (pv 1) pa_nil)) (pe_op op_sub (pv 0) pe_int) (nomark _)) (pss_one (ps_raise rfl (takes_of rfl rfl rfl rfl) (pmk_own PySem.F.excBase_ValueError T.x_MarketError T.g_MarketError T.k_MarketError (raises_own T.b_MarketError T.t_MarketError) rfl))) pss_nil)
      (pss_one (ps_for (passes_of rfl) rfl (pi_tup (pv 1)) (pg_name (i := 2) sc__check_prices.nd rfl (Or.inl rfl)) (pss_cons (ps_if (pt_cmpR op_ne (pe_callB call_lenT (by rfl) T.n_len (by decide +kernel) (pa_cons (pv 2) pa_nil)) pe_int (nomark _)) (pss_one (ps_raise rfl (takes_of rfl rfl rfl rfl) (pmk_own PySem.F.excBase_ValueError T.x_MarketError T.g_MarketError T.k_MarketError (raises_own T.b_MarketError T.t_MarketError) rfl))) pss_nil)
      (pss_cons (ps_asg (pv 2) (pg_tup rfl (pgs_cons (pg_name (i := 3) sc__check_prices.nd rfl (Or.inl rfl)) (pgs_cons (pg_name (i := 4) sc__check_prices.nd rfl (Or.inl rfl)) pgs_nil))))
      (pss_one (ps_if (PW.pt (pw_or (pt_cmpR op_lt (pe_call (ok_compare T) (hr.mono (by decide : 1 ≤ 1)) (by rfl) T.g_compare T.compare_F.kp T.compare_b .nil pass0 (pa_cons (pv 4) (pa_cons (pe_tup (pa_cons pe_int (pa_cons pe_int pa_nil))) pa_nil))) pe_int (nomark _)) (pw_or1 (pt_cmpR op_lt (pe_call (ok_compare T) (hr.mono (by decide : 1 ≤ 1)) (by rfl) T.g_compare T.compare_F.kp T.compare_b .nil pass0 (pa_cons (pv 3) (pa_cons (pv 4) pa_nil))) pe_int (nomark _))))) (pss_one (ps_raise rfl (takes_of rfl rfl rfl rfl) (pmk_own PySem.F.excBase_ValueError T.x_MarketError T.g_MarketError T.k_MarketError (raises_own T.b_MarketError T.t_MarketError) rfl))) pss_nil))))))), ?_⟩
    refine ⟨_, rfl, _, _, rfl, ha.sq, _, rfl, _, _, rfl, rfl, rfl, _, rfl, ite2 (fun e => ?_) (fun e => ?_)⟩
    · refine kE (.inl fun z => ?_) H (Same.refl H)
      rw [lx, z] at e
      simp at e
    · have hl : (ps.length : Int) = g - 1 := by
        rw [lx] at e
        simpa using e
      refine ⟨_, rfl, a, rfl, ⟨_, ha.sq⟩, for_tup (fun i σ H' => ∃ (y z u : Option V), σ = [some (.int g), some (.ref a), y, z, u] ∧ Same H H' ∧ ∀ p ∈ ps.take i, ¬ badPr p) ⟨none, none, none, rfl, Same.refl H, fun p hp => by simp at hp⟩ (fun i σ H' _ ⟨_, _, _, _, sm, _⟩ => (tp_same sm ha).sq) ?_ ?_⟩
      · rintro i x σ H' hi ⟨y, z, u, rfl, sm, hg⟩
        obtain ⟨d, hd, dx⟩ := hx.get hi
        rw [List.getElem?_map] at hd
        obtain ⟨p, hp, rfl⟩ := Option.map_eq_some_iff.mp hd
        have dx := dx.same sm
        obtain ⟨b, x1, x2, rfl, hb2, d1, d2⟩ := dx.inv2
        have pb := hb p (List.mem_of_getElem? hp)
        refine ⟨_, rfl, _, _, rfl, hb2.sq, rfl, _, rfl, iteNS rfl ?_⟩
        refine ⟨_, rfl, _, _, rfl, hb2.sq, rfl, _, _, rfl, _, _, rfl, rfl, ?_⟩
        refine ⟨_, rfl, two_le, fun pz hz => ?_⟩
        have s1 := same_new (o := .tup [.int 0, .int 1]) hz
        refine ⟨_, _, p.2, (0, 1), rfl, d2.same s1, DT.fr (Tp.of upd_same), FB.of pb.2 (by decide), fb_zero, _, _, rfl, rfl, _, rfl, ?_⟩
        by_cases c1 : cmpF p.2 (0, 1) < 0
        · refine if_true_of' (decide_eq_true c1) (iteT ?_)
          exact kE (.inr ⟨p, List.mem_of_getElem? hp, .inl c1⟩) _ (sm.trans s1)
        · refine if_false_of' (decide_eq_false c1) ?_
          refine ⟨_, rfl, _, rfl, _, _, p.1, p.2, rfl, d1.same s1, d2.same s1, FB.of pb.1 (by decide), FB.of pb.2 (by decide), _, _, rfl, rfl, _, rfl, ?_⟩
          by_cases c2 : cmpF p.1 p.2 < 0
          · refine if_true_of' (decide_eq_true c2) ?_
            exact kE (.inr ⟨p, List.mem_of_getElem? hp, .inr c2⟩) _ (sm.trans s1)
          · refine if_false_of' (decide_eq_false c2) ?_
            refine ⟨_, _, _, rfl, sm.trans s1, fun q hq => ?_⟩
            rw [take_next hp] at hq
            rcases List.mem_append.mp hq with hq | hq
            · exact hg q hq
            · rw [List.mem_singleton.mp hq]
              exact fun z => z.elim c1 c2
      · rintro σ H' ⟨y, z, u, rfl, sm, hg⟩
        refine kQ (fun z => ?_) H' sm
        rw [lx, List.take_length] at hg
        rcases z with z | ⟨p, hp, z⟩
        · exact z hl
        · exact hg p hp z
def sp_walk (K : PySem.W.Frag) : Sp := fun vs H Q _ => ∃ (v : V) (g : Int) (n : Node), vs = [v] ∧ DT K H v (marketD g n) ∧ (pre [] n).length ≤ 1000 ∧ ∀ p xs H', Same H H' → H p = none → H' p = some (.lst xs) → DTs K H' xs ((pre [] n).map entD) → Q (.ref p) H'
theorem ok_walk (T : Top w K mg) : FnOk P w K mg base CX0 1 T.a_walk T.d_walk ["market"] (sp_walk K) := by
  refine T.walk_F.ok sc_walk (fun vs H Q E h => ?_) (fun cdv A outer s H vs Q E hr h => ?_)
  · obtain ⟨_, _, _, rfl, _⟩ := h
    rfl
  · obtain ⟨v, g, n, rfl, dm, hn, fin⟩ := h
    obtain ⟨m, vn, rfl, hm, dn⟩ := dm.market_inv
    refine ⟨_, (pss_cons (ps_set (i := 1) sc_walk.nd rfl (Or.inl rfl) (pe_lst pa_nil))
      (pss_cons (ps_set (i := 2) sc_walk.nd rfl (Or.inl rfl) (pe_lst (pa_cons (pe_tup (pa_cons (pe_tup pa_nil) (pa_cons (pe_ix ix_tup (pv 0) pe_int (fun _ _ => rfl)) pa_nil))) pa_nil)))
      (pss_cons (ps_while PassesOwn.never (pt_truth (pv 2) (by intro _; rfl)) (pss_cons (ps_asg (pe_bm0 PySem.F.plainAttrs_list PySem.F.slot_list_pop PySem.F.type_list_pop mt_pop (pv 2)) (pg_tup rfl (pgs_cons (pg_name (i := 3) sc_walk.nd rfl (Or.inl rfl)) (pgs_cons (pg_name (i := 4) sc_walk.nd rfl (Or.inl rfl)) pgs_nil))))
      (pss_cons (ps_expr (pe_bm PySem.F.plainAttrs_list PySem.F.slot_list_append PySem.F.type_list_append mt_append (pv 1) (pa_cons (pe_tup (pa_cons (pv 3) (pa_cons (pv 4) pa_nil))) pa_nil)))
      (pss_cons (ps_set (i := 5) sc_walk.nd rfl (Or.inl rfl) (pe_ix ix_tup (pv 4) pe_int (fun _ _ => rfl)))
      (pss_one (ps_for PassesOwn.never rfl (pi_revR (by rfl) T.n_reversed (prg_1 (by rfl) T.n_range (pe_callB call_lenT (by rfl) T.n_len (by decide +kernel) (pa_cons (pv 5) pa_nil)))) (pg_name (i := 6) sc_walk.nd rfl (Or.inl rfl)) (pss_one (ps_expr (pe_bm PySem.F.plainAttrs_list PySem.F.slot_list_append PySem.F.type_list_append mt_append (pv 2) (pa_cons (pe_tup (pa_cons (pe_op op_catP (pv 3) (pe_tup (pa_cons (pv 6) pa_nil))) (pa_cons (pe_ix ix_tup (pv 5) (pv 6) (fun _ _ => rfl)) pa_nil))) pa_nil))))))))))
      (pss_one (ps_ret (pv 1)))))), ?_⟩
    refine ⟨Nat.zero_le _, fun pf hf => ?_⟩
    have s1 := same_new (o := .lst []) hf
    refine ⟨Nat.zero_le _, fun pe he => ?_⟩
    have s2 := s1.trans (same_new (o := .tup []) he)
    refine ⟨_, rfl, _, _, _, _, rfl, rfl, (tp_same s2 hm).sq, atI_nat (j := 1) rfl, two_le, fun pt ht => ⟨(by decide : 1 ≤ sizeLine), fun pw hw => ?_⟩⟩
    have s3 := s2.trans (same_new (o := .tup [.ref pe, vn]) ht)
    have s4 := s3.trans (same_new (o := .lst [.ref pt]) hw)
    have fw : pf ≠ pw := ne_of_none (show (upd (upd (upd H pf (.lst [])) pe (.tup [])) pt (.tup [.ref pe, vn])) pf = some (.lst []) from same_new ht _ _ (same_new he _ _ upd_same)) hw
    have hw0 := s3.free hw
    have dE : DT K (upd (upd (upd (upd H pf (.lst [])) pe (.tup [])) pt (.tup [.ref pe, vn])) pw (.lst [.ref pt])) (.ref pt) (entD ([], n)) := by
      refine .mk2 (Tp.of (same_new hw _ _ upd_same)) ?_ (dn.same s4)
      exact DT.path (Tp.of (same_new hw _ _ (same_new ht _ _ upd_same)))
    refine ⟨fun k σ H' => ∃ (fs ws : List PN) (xf xw : List V) (y3 y4 y5 y6 : Option V), σ = [some (.ref m), some (.ref pf), some (.ref pw), y3, y4, y5, y6] ∧ Same H H' ∧ H' pf = some (.lst xf) ∧ H' pw = some (.lst xw) ∧ DTs K H' xf (fs.map entD) ∧ DTs K H' xw (ws.map entD) ∧ fs ++ ws.reverse.flatMap preE = pre [] n ∧ k = (ws.reverse.flatMap preE).length, ⟨_, [], [([], n)], [], [.ref pt], none, none, none, none, rfl, s4, ?_, upd_same, .nil, .cons dE .nil, ?_, rfl⟩, ?_⟩
    · exact same_new hw _ _ (same_new ht _ _ (same_new he _ _ upd_same))
    · simp [preE]
    · rintro k σ H' ⟨fs, ws, xf, xw, y3, y4, y5, y6, rfl, sm, hF, hW, dF, dW, eq, rfl⟩
      refine ⟨_, rfl, _, .inl ⟨xw, SqL.of hW, rfl⟩, ?_⟩
      rcases List.eq_nil_or_concat ws with rfl | ⟨ws0, e, rfl⟩
      · cases dW
        refine iteF ?_
        rw [List.reverse_nil, List.flatMap_nil, List.append_nil] at eq
        rw [eq] at dF
        exact ⟨_, rfl, fin pf xf H' sm hf hF dF⟩
      · rw [List.concat_eq_append] at *
        obtain ⟨xw0, x, rfl, dW0, dx⟩ : ∃ xw0 x, xw = xw0 ++ [x] ∧ DTs K H' xw0 (ws0.map entD) ∧ DT K H' x (entD e) := by
          have hl := dW.len
          rw [List.map_append, List.length_append] at hl
          have h1 := dW.take (ws0.map entD).length
          have h2 := dW.drop (ws0.map entD).length
          rw [List.map_append, List.take_left' rfl] at h1
          rw [List.map_append, List.drop_left' rfl] at h2
          obtain ⟨x, ex, dx⟩ := h2.inv1
          exact ⟨_, x, by rw [← ex, List.take_append_drop], h1, dx⟩
        have ne : (!(xw0 ++ [x]).isEmpty) = true := by simp
        refine if_true_of' ne ?_
        obtain ⟨b, vp, vk, rfl, hb, dp, dk⟩ := dx.entD_inv
        obtain ⟨c, vq, vc, rfl, hc, dq, dc⟩ := dk.node_inv
        obtain ⟨cc, xk, rfl, hcc, dks⟩ := dc.inv
        have eqn : (ws0 ++ [e]).reverse.flatMap preE = e :: ((kidsOf e).flatMap preE ++ ws0.reverse.flatMap preE) := by
          rw [List.reverse_append, List.reverse_singleton, List.flatMap_append, List.flatMap_singleton, preE_eq]
          rfl
        have kl : e.2.ks.length ≤ 1000 := by
          have h1 := kids_le e
          have h2 : (preE e).length ≤ (pre [] n).length := by
            rw [← eq, List.length_append, eqn, ]
            have : (preE e).length = 1 + ((kidsOf e).flatMap preE).length := by rw [preE_eq]; simp; omega
            rw [this]
            simp
            omega
          rw [kids_len] at h1
          omega
        refine ⟨fun σ2 H2 => ∃ m', m' < ((ws0 ++ [e]).reverse.flatMap preE).length ∧ ∃ (fs ws : List PN) (xf xw : List V) (y3 y4 y5 y6 : Option V), σ2 = [some (.ref m), some (.ref pf), some (.ref pw), y3, y4, y5, y6] ∧ Same H H2 ∧ H2 pf = some (.lst xf) ∧ H2 pw = some (.lst xw) ∧ DTs K H2 xf (fs.map entD) ∧ DTs K H2 xw (ws.map entD) ∧ fs ++ ws.reverse.flatMap preE = pre [] n ∧ m' = (ws.reverse.flatMap preE).length, fun σ2 H2 z => z, ?_⟩
        refine ⟨_, rfl, .inl ⟨rfl, _, SqL.of hW⟩, _, _, _, rfl, rfl, hW, (by simp : (xw0 ++ [V.ref b])[(xw0 ++ [V.ref b]).length - 1]? = some (V.ref b)), ?_⟩
        have x1 : Xt pw H' (upd H' pw (.lst (xw0 ++ [V.ref b]).dropLast)) := Xt.upd
        have iw : IsL H' pw := ⟨_, hW⟩
        have sm1 := same_mut (o := .lst (xw0 ++ [V.ref b]).dropLast) sm hw0
        rw [List.dropLast_concat] at *
        refine ⟨_, _, rfl, (tp_xt iw x1 hb).sq, rfl, _, _, rfl, _, _, rfl, rfl, ?_⟩
        have hF1 := x1 _ _ fw hF
        have hW1 : (upd H' pw (.lst xw0)) pw = some (.lst xw0) := upd_same
        refine ⟨_, rfl, .inl ⟨rfl, _, SqL.of hF1⟩, _, rfl, _, rfl, two_le, fun pu hu => ?_⟩
        have s5 := same_new (o := .tup [vp, V.ref c]) hu
        have hF2 := s5 _ _ hF1
        refine ⟨_, _, _, rfl, rfl, hF2, ?_, ?_⟩
        · have l1 : xf.length = fs.length := by rw [dF.len, List.length_map]
          have l2 : fs.length ≤ 1000 := by
            have := congrArg List.length eq
            rw [List.length_append] at this
            omega
          rw [l1]
          exact small1000 l2
        have if2 : IsL (upd (upd H' pw (.lst xw0)) pu (.tup [vp, V.ref c])) pf := ⟨_, hF2⟩
        have x2 : Xt pf (upd (upd H' pw (.lst xw0)) pu (.tup [vp, V.ref c])) (upd (upd (upd H' pw (.lst xw0)) pu (.tup [vp, V.ref c])) pf (.lst (xf ++ [.ref pu]))) := Xt.upd
        have sm2 := same_mut (o := .lst (xf ++ [.ref pu])) (sm1.trans s5) hf
        have up : ∀ {v : V} {d : PyData}, DT K H' v d → DT K (upd (upd (upd H' pw (.lst xw0)) pu (.tup [vp, V.ref c])) pf (.lst (xf ++ [.ref pu]))) v d := fun h => ((h.xt iw x1).same s5).xt if2 x2
        have ups : ∀ {v : List V} {d : List PyData}, DTs K H' v d → DTs K (upd (upd (upd H' pw (.lst xw0)) pu (.tup [vp, V.ref c])) pf (.lst (xf ++ [.ref pu]))) v d := fun h => ((h.xt iw x1).same s5).xt if2 x2
        have upq : ∀ {a : Addr} {xs : List V}, Tp H' a xs → Tp (upd (upd (upd H' pw (.lst xw0)) pu (.tup [vp, V.ref c])) pf (.lst (xf ++ [.ref pu]))) a xs := fun h => tp_xt if2 x2 (tp_same s5 (tp_xt iw x1 h))
        have dU : DT K (upd (upd (upd H' pw (.lst xw0)) pu (.tup [vp, V.ref c])) pf (.lst (xf ++ [.ref pu]))) (.ref pu) (entD e) := .mk2 (tp_xt if2 x2 (Tp.of upd_same)) (up dp) (up dk)
        refine ⟨_, rfl, _, _, _, _, rfl, rfl, (upq hc).sq, atI_nat (j := 1) rfl, ?_⟩
        refine ⟨_, rfl, _, _, rfl, (upq hcc).sq, _, rfl, by decide, by decide, by omega, ?_, ?_⟩
        · rw [dks.len, List.length_map]
          omega
        generalize hH3 : upd (upd (upd H' pw (.lst xw0)) pu (.tup [vp, V.ref c])) pf (.lst (xf ++ [.ref pu])) = H3 at *
        have hF3 : H3 pf = some (.lst (xf ++ [.ref pu])) := by rw [← hH3]; exact upd_same
        have hW3 : H3 pw = some (.lst xw0) := x2 _ _ (Ne.symm fw) (s5 _ _ hW1)
        have lk : xk.length = e.2.ks.length := by rw [dks.len, List.length_map]
        refine for_rangeC (fun i σ' H4 => ∃ (xw4 : List V) (y6 : Option V), σ' = [some (.ref m), some (.ref pf), some (.ref pw), some vp, some (.ref c), some (.ref cc), y6] ∧ Same H H4 ∧ Xt pw H3 H4 ∧ H4 pw = some (.lst xw4) ∧ DTs K H4 xw4 ((ws0 ++ (kidsOf e).reverse.take i).map entD)) ⟨xw0, y6, rfl, sm2, Xt.refl _, hW3, ?_⟩ ?_ ?_
        · simpa using ups dW0
        · rintro i σ' H4 hi ⟨xw4, y6, rfl, sm4, x4, hW4, dW4⟩
          have ia : i < e.2.ks.length := by
            rw [← lk]
            omega
          have iw3 : IsL H3 pw := ⟨_, hW3⟩
          have iw4 : IsL H4 pw := ⟨_, hW4⟩
          have ei : (0 : Int) + ((((xk.length : Int) - 0).toNat : Nat) : Int) - 1 + (i : Int) * (-1) = ((e.2.ks.length - 1 - i : Nat) : Int) := by
            rw [lk]
            omega
          have hk : e.2.ks[e.2.ks.length - 1 - i]? = some e.2.ks[e.2.ks.length - 1 - i] := List.getElem?_eq_getElem (by omega)
          obtain ⟨xx, hxx, dxx⟩ := (ups dks).at_ (i := e.2.ks.length - 1 - i) (d := nodeD e.2.ks[e.2.ks.length - 1 - i]) (by rw [List.getElem?_map, hk]; rfl)
          have dxx4 := dxx.xt iw3 x4
          obtain ⟨ap, rfl, hap⟩ := ((up dp).xt iw3 x4).path_inv
          have hsz : e.1.length ≤ 1000 := by
            have hm : e ∈ preE ([], n) := by
              show e ∈ pre [] n
              rw [← eq, eqn]
              simp
            have := pre_len _ ([], n) e (Nat.le_refl _) hm
            have h2 : (preE ([], n)).length ≤ 1000 := hn
            simp only [List.length_nil] at this
            omega
          refine ⟨_, rfl, .inl ⟨rfl, _, SqL.of hW4⟩, _, rfl, _, rfl, (by decide : 1 ≤ sizeLine), fun p1 hp1 => ?_⟩
          have s6 := same_new (o := .tup [.int ((0 : Int) + ((((xk.length : Int) - 0).toNat : Nat) : Int) - 1 + (i : Int) * (-1))]) hp1
          refine ⟨ap, p1, _, _, rfl, rfl, tp_same s6 hap, Tp.of upd_same, ?_, fun p2 H5 s7 hp2 => ?_⟩
          · rw [List.length_map]
            exact Nat.le_trans (show e.1.length + 1 ≤ 2000 by omega) (by decide)
          rw [ei] at hp2
          have s67 := s6.trans s7
          have xkk : Tp H5 cc xk := tp_same s67 (tp_xt iw3 x4 (upq hcc))
          refine ⟨_, rfl, _, rfl, _, _, _, _, rfl, rfl, xkk, by rw [ei]; exact atI_nat hxx, two_le, fun p3 hp3 => ?_⟩
          have s8 := same_new (o := .tup [.ref p2, xx]) hp3
          have s678 := s67.trans s8
          have hW5 := s678 _ _ hW4
          refine ⟨_, _, _, rfl, rfl, hW5, ?_, ?_⟩
          · rw [dW4.len, List.length_map]
            have h1 : ws0.length ≤ 1000 := by
              have h0 := len_le_flat ws0.reverse
              rw [List.length_reverse] at h0
              have := congrArg List.length eq
              rw [List.length_append, eqn] at this
              simp only [List.length_cons, List.length_append] at this
              omega
            rw [List.length_append, List.length_take]
            exact Nat.lt_of_le_of_lt (show _ ≤ 5000 by omega) (by decide)
          · have x5 : Xt pw H4 (upd (upd H5 p3 (.tup [.ref p2, xx])) pw (.lst (xw4 ++ [.ref p3]))) := (Xt.of s678).trans Xt.upd
            have x6 : Xt pw (upd H5 p3 (.tup [.ref p2, xx])) (upd (upd H5 p3 (.tup [.ref p2, xx])) pw (.lst (xw4 ++ [.ref p3]))) := Xt.upd
            have iw5 : IsL (upd H5 p3 (.tup [.ref p2, xx])) pw := ⟨_, hW5⟩
            refine ⟨xw4 ++ [.ref p3], _, rfl, same_mut (sm4.trans s678) hw0, x4.trans x5, upd_same, ?_⟩
            have hr : (kidsOf e).reverse[i]? = some (e.1 ++ [((e.2.ks.length - 1 - i : Nat) : Int)], e.2.ks[e.2.ks.length - 1 - i]) := by
              rw [List.getElem?_reverse (by rw [kids_len]; exact ia), kids_len]
              exact kids_get hk
            rw [take_next hr, ← List.append_assoc, List.map_append]
            refine (dW4.xt iw4 x5).snoc ?_
            refine .mk2 (tp_xt iw5 x6 (Tp.of upd_same)) ?_ (((dxx4.same s67).same s8).xt iw5 x6)
            have hq : Tp H5 p2 ((e.1 ++ [((e.2.ks.length - 1 - i : Nat) : Int)]).map V.int) := by
              rw [List.map_append]
              exact hp2
            exact ((DT.path hq).same s8).xt iw5 x6
        · rintro σ' H4 ⟨xw4, y6, rfl, sm4, x4, hW4, dW4⟩
          have iw3 : IsL H3 pw := ⟨_, hW3⟩
          have et : (kidsOf e).reverse.take (((xk.length : Int) - 0).toNat) = (kidsOf e).reverse := by
            refine List.take_of_length_le ?_
            rw [List.length_reverse, kids_len, lk]
            omega
          rw [et] at dW4
          have er : (ws0 ++ (kidsOf e).reverse).reverse.flatMap preE = (kidsOf e).flatMap preE ++ ws0.reverse.flatMap preE := by
            rw [List.reverse_append, List.reverse_reverse, List.flatMap_append]
          refine ⟨_, ?_, fs ++ [e], ws0 ++ (kidsOf e).reverse, xf ++ [.ref pu], xw4, _, _, _, _, rfl, sm4, x4 _ _ fw hF3, hW4, ?_, dW4, ?_, rfl⟩
          · rw [er, eqn]
            simp
          · rw [List.map_append]
            refine DTs.xt (DTs.snoc (ups dF) dU) iw3 x4
          · rw [er, ← eq, eqn]
            simp
def sp_check (K : PySem.W.Frag) (M L : Addr) : Sp := fun vs H Q E => ∃ (v : V) (g : Int) (n : Node), vs = [v] ∧ DT K H v (marketD g n) ∧ NodeB n ∧ (pre [] n).length ≤ 1000 ∧ (BadM g n → ∀ H', Same H H' → E (.ref M) none H') ∧ (¬ BadM g n → BigM n → ∀ H', Same H H' → E (.ref L) none H') ∧ (¬ BadM g n → ¬ BigM n → ∀ H', Same H H' → Q .non H')
theorem ok_check_market (T : Top w K mg) : FnOk P w K mg base (L2.CX P w) 3 T.a_check_market T.d_check_market ["market"] (sp_check K T.c_MarketError T.c_TooLarge) := by
  refine T.check_market_F.okX sc_check_market (fun vs H Q E h => ?_) (fun cdv A outer s H vs Q E hr h => ?_)
  · obtain ⟨_, _, _, rfl, _⟩ := h
    rfl
  · obtain ⟨v, g, n, rfl, dm, hb, hn, kM, kL, kQ⟩ := h
    obtain ⟨m, vn, rfl, hm, dn⟩ := dm.market_inv
    refine ⟨_, (pss_cons (ps_asg (pv 0) (pg_tup rfl (pgs_cons (pg_name (i := 1) sc_check_market.nd rfl (Or.inl rfl)) (pgs_cons (pg_name (i := 2) sc_check_market.nd rfl (Or.inl rfl)) pgs_nil))))
      (pss_cons (ps_if (pt_not (pt_chain op_le op_le pe_int (pv 1) (pe_glob (v := .int 4) (by rfl) T.g_GOODS_LIMIT ⟨_, rfl⟩))) (pss_one (ps_raise rfl (takes_of rfl rfl rfl rfl) (pmk_own PySem.F.excBase_ValueError T.x_MarketError T.g_MarketError T.k_MarketError (raises_own T.b_MarketError T.t_MarketError) rfl))) pss_nil)
      (pss_cons (ps_set (i := 3) sc_check_market.nd rfl (Or.inl rfl) (pe_call (ok_walk T) (hr.mono (by decide : 1 ≤ 2)) (by rfl) T.g_walk T.walk_F.kp T.walk_b .nil pass0 (pa_cons (pv 0) pa_nil)))
      (pss_cons (ps_for (passes_of rfl) rfl (pi_list (pv 3)) (pg_tup rfl (pgs_cons (pg_name (i := 2) sc_check_market.nd rfl (Or.inl rfl)) (pgs_cons (pg_name (i := 4) sc_check_market.nd rfl (Or.inl rfl)) pgs_nil))) (pss_one (ps_expr (pe_callS (ok__check_prices T) (hr.mono (by decide : 2 ≤ 2)) rfl T.g__check_prices T._check_prices_F.kp T._check_prices_b (fun σ => passAt (takes_of rfl rfl rfl rfl) σ) (pa_cons (pv 1) (pa_cons (pe_ix ix_tup (pv 4) pe_int (fun _ _ => rfl)) pa_nil))))))
      (pss_cons (ps_setLc (i := 5) (own := [("path", 6), ("node", 4)]) (g := (gTup K 2 (gCons (gName 6) (gCons (gName 4) gNil)))) (tt := tNot (tTruK K (tOp (rIxT K) (tVar 4) (tC (.int 1))))) (by rfl) sc_check_market.nd rfl rfl (sw_true rfl rfl rfl (by decide +kernel)) (pi_list (pv 3)) (blkOk_by (own := [("path", 6), ("node", 4)]) (N := ["market", "goods", "_", "nodes", "node", "end_times", "path"]) (sc := defScope s_check_market) (by decide +kernel)) (fun _ _ _ _ _ => (pg_tup rfl (pgs_cons (pg_name (i := 6) sc_check_market.nd rfl (Or.inl rfl)) (pgs_cons (pg_name (i := 4) sc_check_market.nd rfl (Or.inl rfl)) pgs_nil)))) (fun _ _ _ _ _ => (pts_one (pt_not (pt_truth (pe_ix (r := rIxT K) ix_tup (pv 4) pe_int (fun _ _ => rfl)) (by intro _; rfl))))) (fun _ _ _ _ _ => (pe_callB (r := rLenT K) call_lenT (by rfl) T.n_len (by decide +kernel) (pa_cons (pv 6) pa_nil))))
      (pss_cons (ps_if (pt_cmpR op_ne (pe_callB (cr_min rfl) (by rfl) T.n_min (by decide +kernel) (pa_cons (pv 5) pa_nil)) (pe_callB (cr_max rfl) (by rfl) T.n_max (by decide +kernel) (pa_cons (pv 5) pa_nil)) (nomark _)) (pss_one (ps_raise rfl (takes_of rfl rfl rfl rfl) (pmk_own PySem.F.excBase_ValueError T.x_MarketError T.g_MarketError T.k_MarketError (raises_own T.b_MarketError T.t_MarketError) rfl))) pss_nil)
      (pss_one (ps_if (PW.pt (pw_or (pt_cmpR op_gt (pe_callB call_lenL (by rfl) T.n_len (by decide +kernel) (pa_cons (pv 3) pa_nil)) (pe_glob (v := .int 40) (by rfl) T.g_MOMENT_LIMIT ⟨_, rfl⟩) (nomark _)) (pw_or1 (pt_cmpR op_gt (pe_ix ix_list (pv 5) pe_int (fun _ _ => rfl)) (pe_glob (v := .int 5) (by rfl) T.g_TIME_LIMIT ⟨_, rfl⟩) (nomark _))))) (pss_one (ps_raise rfl (takes_of rfl rfl rfl rfl) (pmk_own PySem.F.excBase_ValueError T.x_TooLarge T.g_TooLarge T.k_TooLarge (raises_own T.b_TooLarge T.t_TooLarge) rfl))) pss_nil)))))))), ?_⟩
    refine ⟨_, rfl, _, _, rfl, hm.sq, rfl, _, _, rfl, _, _, rfl, rfl, ?_⟩
    -- goods
    refine ⟨_, rfl, _, _, rfl, rfl, _, rfl, ite2 (fun e1 => ⟨_, _, rfl, rfl, _, rfl, ?_⟩) (fun e1 => ⟨_, rfl, iteT (kM (.inl fun z => e1 (decide_eq_true z.1)) H (Same.refl H))⟩)⟩
    have g1 : 1 ≤ g := of_decide_eq_true e1
    by_cases g4 : g ≤ 4
    · rw [decide_eq_true g4]
      refine iteF ?_
      -- nodes
      refine ⟨_, rfl, .ref m, g, n, rfl, dm, hn, fun pf xf H1 s1 hf hF dF => ?_⟩
      have lf : xf.length = (pre [] n).length := by rw [dF.len, List.length_map]
      refine ⟨_, rfl, pf, rfl, ⟨_, SqL.of hF⟩, for_list (K := K) (a := pf) (xs := xf) (fun i σ H' => ∃ (y2 y4 y5 y6 : Option V), σ = [some (.ref m), some (.int g), y2, some (.ref pf), y4, y5, y6] ∧ Same H1 H' ∧ ∀ e ∈ (pre [] n).take i, ¬ badPs g e.2.ps) ⟨_, _, _, _, rfl, Same.refl _, fun e he => by simp at he⟩ (fun i σ H' _ ⟨_, _, _, _, _, sm, _⟩ => SqL.of (sm _ _ hF)) ?_ ?_⟩
      · rintro i x σ H' hi ⟨y2, y4, y5, y6, rfl, sm, hg⟩
        obtain ⟨d, hd, dx⟩ := dF.get hi
        rw [List.getElem?_map] at hd
        obtain ⟨e, he, rfl⟩ := Option.map_eq_some_iff.mp hd
        obtain ⟨b, vp, vk, rfl, hb2, dp, dk⟩ := (dx.same sm).entD_inv
        obtain ⟨c, vq, vc, rfl, hc, dq, dc⟩ := dk.node_inv
        refine ⟨_, _, rfl, hb2.sq, rfl, _, _, rfl, _, _, rfl, rfl, ?_⟩
        refine ⟨_, rfl, _, rfl, _, _, _, _, rfl, rfl, hc.sq, atI_nat (j := 0) rfl, g, vq, e.2.ps, rfl, dq, hb e (List.mem_of_getElem? he), fun z H2 s2 => ?_, fun z H2 s2 => ?_⟩
        · exact kM (.inr (.inl ⟨e, List.mem_of_getElem? he, z⟩)) H2 ((s1.trans sm).trans s2)
        · refine ⟨_, _, _, _, rfl, sm.trans s2, fun q hq => ?_⟩
          rw [take_next he] at hq
          rcases List.mem_append.mp hq with hq | hq
          · exact hg q hq
          · rw [List.mem_singleton.mp hq]
            exact z
      · rintro σ H2 ⟨y2, y4, y5, y6, rfl, s2, hg⟩
        rw [lf, List.take_length] at hg
        have hF2 := s2 _ _ hF
        have dF2 := dF.same s2
        -- end_times
        refine ⟨_, rfl, pf, rfl, ⟨_, SqL.of hF2⟩, fun D hD => lc_list (K := K) (a := pf) (xs := xf) (fun i H' => ∃ o, Same H2 H' ∧ H' D = some (.lst o) ∧ o = (((pre [] n).take i).filter fun e => e.2.ks.isEmpty).map fun e => V.int (e.1.length : Int)) ⟨[], same_new hD, upd_same, rfl⟩ (fun i H' _ ⟨_, sm, _⟩ => SqL.of (sm _ _ hF2)) ?_ ?_⟩
        · rintro i x H' hi ⟨o, sm, hO, eO⟩
          obtain ⟨d, hd, dx⟩ := dF2.get hi
          rw [List.getElem?_map] at hd
          obtain ⟨e, he, rfl⟩ := Option.map_eq_some_iff.mp hd
          obtain ⟨b, vp, vk, rfl, hb2, dp, dk⟩ := (dx.same sm).entD_inv
          obtain ⟨c, vq, vc, rfl, hc, dq, dc⟩ := dk.node_inv
          obtain ⟨cc, xk, rfl, hcc, dks⟩ := dc.inv
          obtain ⟨ap, rfl, hap⟩ := dp.path_inv
          have lk : xk.length = e.2.ks.length := by rw [dks.len, List.length_map]
          have ek : xk.isEmpty = e.2.ks.isEmpty := by
            rw [Bool.eq_iff_iff, List.isEmpty_iff_length_eq_zero, List.isEmpty_iff_length_eq_zero, lk]
          refine ⟨_, _, rfl, hb2.sq, rfl, _, _, rfl, _, _, rfl, rfl, rfl, ?_⟩
          cases hz : e.2.ks.isEmpty with
          | true =>
            refine ⟨_, rfl, _, _, _, _, rfl, rfl, hc.sq, atI_nat (j := 1) rfl, _, tru_tup' hcc (ek.trans hz), ?_⟩
            refine iteT ⟨_, rfl, _, _, rfl, (hap).sq, o, hO, ?_, _, same_mut sm hD, upd_same, ?_⟩
            · rw [eO, List.length_map]
              refine Nat.lt_of_le_of_lt (List.length_filter_le _ _) (Nat.lt_of_le_of_lt (List.length_take_le' _ _) (small1000 hn))
            · rw [filter_next he, hz, eO]
              simp
          | false =>
            refine ⟨_, rfl, _, _, _, _, rfl, rfl, hc.sq, atI_nat (j := 1) rfl, _, tru_tup' hcc (ek.trans hz), ?_⟩
            refine iteF ⟨o, sm, hO, ?_⟩
            rw [filter_next he, hz, eO]
            simp
        · rintro H3 ⟨o, s3, hO, eO⟩
          rw [lf, List.take_length] at eO
          have eO2 : o = ((endLens n).map fun a : Nat => (a : Int)).map V.int := by
            rw [eO]
            unfold endLens
            rw [List.map_map, List.map_map]
            rfl
          rw [eO2] at hO
          have lp : 0 < ((endLens n).map fun a : Nat => (a : Int)).length := by
            rw [List.length_map]
            exact ends_pos n
          have sAll := (s1.trans s2).trans s3
          have hF3 := s3 _ _ hF2
          refine ⟨_, rfl, D, _, rfl, SqL.of hO, lp, fun lo hlo hlo2 => ⟨_, rfl, D, _, rfl, SqL.of hO, lp, fun hi hhi hhi2 => ?_⟩⟩
          obtain ⟨la, hla, rfl⟩ := List.mem_map.mp hlo
          obtain ⟨lb, hlb, rfl⟩ := List.mem_map.mp hhi
          have same_iff : la = lb ↔ ∀ a ∈ endLens n, ∀ b ∈ endLens n, a = b := by
            constructor
            · intro e a ha b hb
              have h1 := hlo2 _ (List.mem_map.mpr ⟨a, ha, rfl⟩)
              have h2 := hhi2 _ (List.mem_map.mpr ⟨a, ha, rfl⟩)
              have h3 := hlo2 _ (List.mem_map.mpr ⟨b, hb, rfl⟩)
              have h4 := hhi2 _ (List.mem_map.mpr ⟨b, hb, rfl⟩)
              omega
            · exact fun h => h la hla lb hlb
          refine ⟨rfl, _, rfl, ite2 (fun e => ?_) (fun e => ?_)⟩
          · have hne : la ≠ lb := fun z => by
              rw [z] at e
              simp at e
            exact kM (.inr (.inr ⟨la, hla, lb, hlb, hne⟩)) H3 sAll
          · have heq : la = lb := by
              have : (V.int (la : Int)) = V.int (lb : Int) := by simpa using e
              have := V.int.inj this
              omega
            have good : ¬ BadM g n := by
              rintro (z | ⟨e, he, z⟩ | ⟨a, ha, b, hb', z⟩)
              · exact z ⟨g1, g4⟩
              · exact hg e he z
              · exact z (same_iff.mp heq a ha b hb')
            refine ⟨_, rfl, _, _, rfl, SqL.of hF3, _, _, rfl, rfl, _, rfl, ?_⟩
            have e0 : ∃ a0, (endLens n)[0]? = some a0 := ⟨_, List.getElem?_eq_getElem (ends_pos n)⟩
            obtain ⟨a0, h0⟩ := e0
            have hm0 := List.mem_of_getElem? h0
            have h0' : (((endLens n).map fun a : Nat => (a : Int)).map V.int)[0]? = some (.int (a0 : Int)) := by
              rw [List.getElem?_map, List.getElem?_map, h0]
              rfl
            by_cases c1 : (4 * 10 : Int) < (xf.length : Int)
            · refine if_true_of' (decide_eq_true c1) (iteT (kL good (.inl ?_) H3 sAll))
              omega
            · refine if_false_of' (decide_eq_false c1) ⟨_, rfl, _, _, _, _, rfl, rfl, SqL.of hO, atI_nat (j := 0) h0', _, _, rfl, rfl, _, rfl, ?_⟩
              by_cases c2 : (5 : Int) < (a0 : Int)
              · exact if_true_of' (decide_eq_true c2) (kL good (.inr ⟨a0, hm0, by omega⟩) H3 sAll)
              · refine if_false_of' (decide_eq_false c2) (kQ good ?_ H3 sAll)
                rintro (z | ⟨a, ha, z⟩)
                · omega
                · have := same_iff.mp heq a ha a0 hm0
                  omega
    · rw [decide_eq_false g4]
      exact iteT (kM (.inl fun z => g4 z.2) H (Same.refl H))
end
end Nl

namespace Nl
open PySem PySem.Spec PyProof.Rows L2
section
variable {P : Program} {w : World} {K : PySem.W.Frag} {mg : Str → Option Value} {base : Heap}
def sp_node_at (K : PySem.W.Frag) (M : Addr) : Sp := fun vs H Q E => ∃ (v va : V) (g : Int) (n : Node) (p : List Int), vs = [v, va] ∧ DT K H v (marketD g n) ∧ DT K H va (pathD p) ∧ (find n p = none → E (.ref M) none H) ∧ (∀ m, find n p = some m → ∀ v', DT K H v' (nodeD m) → Q v' H)
theorem ok_node_at (T : Top w K mg) : FnOk P w K mg base (L2.CX P w) 1 T.a_node_at T.d_node_at ["market", "path"] (sp_node_at K T.c_MomentError) := by
  refine T.node_at_F.okX sc_node_at (fun vs H Q E h => ?_) (fun cdv A outer s H vs Q E hr h => ?_)
  · obtain ⟨_, _, _, _, _, rfl, _⟩ := h
    rfl
  · obtain ⟨_, _, g, n, p, rfl, dm, dp, kE, kQ⟩ := h
    obtain ⟨m, vn, rfl, hm, dn⟩ := dm.market_inv
    obtain ⟨a, rfl, ha⟩ := dp.path_inv
    refine ⟨_, (pss_cons (ps_set (i := 2) sc_node_at.nd rfl (Or.inl rfl) (pe_ix ix_tup (pv 0) pe_int (fun _ _ => rfl)))
      (pss_cons (ps_for (passes_of rfl) rfl (pi_tup (pv 1)) (pg_name (i := 3) sc_node_at.nd rfl (Or.inl rfl)) (pss_cons (ps_set (i := 4) sc_node_at.nd rfl (Or.inl rfl) (pe_ix ix_tup (pv 2) pe_int (fun _ _ => rfl)))
      (pss_cons (ps_if (pt_not (pt_chain op_le op_lt pe_int (pv 3) (pe_callB call_lenT (by rfl) T.n_len (by decide +kernel) (pa_cons (pv 4) pa_nil)))) (pss_one (ps_raise rfl (takes_of rfl rfl rfl rfl) (pmk_own PySem.F.excBase_ValueError T.x_MomentError T.g_MomentError T.k_MomentError (raises_own T.b_MomentError T.t_MomentError) rfl))) pss_nil)
      (pss_one (ps_set (i := 2) sc_node_at.nd rfl (Or.inl rfl) (pe_ix ix_tup (pv 4) (pv 3) (fun _ _ => rfl)))))))
      (pss_one (ps_ret (pv 2))))), ?_⟩
    refine ⟨_, rfl, _, _, _, _, rfl, rfl, hm.sq, atI_nat (j := 1) rfl, ?_⟩
    refine ⟨_, rfl, a, rfl, ⟨_, ha.sq⟩, for_tup (fun i σ H' => ∃ (vn : V) (m' : Node) (y z : Option V), σ = [some (.ref m), some (.ref a), some vn, y, z] ∧ H' = H ∧ DT K H vn (nodeD m') ∧ find n p = find m' (p.drop i)) ⟨vn, n, none, none, rfl, rfl, dn, rfl⟩ (fun i σ H' _ ⟨_, _, _, _, _, e, _⟩ => (e ▸ ha).sq) ?_ ?_⟩
    · rintro i x σ H' hi ⟨vn, m', y, z, rfl, rfl, dk, ef⟩
      rw [List.getElem?_map] at hi
      obtain ⟨j, hj, rfl⟩ := Option.map_eq_some_iff.mp hi
      obtain ⟨c, vq, vc, rfl, hc, dq, dc⟩ := dk.node_inv
      obtain ⟨cc, xk, rfl, hcc, dks⟩ := dc.inv
      have lk : xk.length = m'.ks.length := by rw [dks.len, List.length_map]
      have il := (List.getElem?_eq_some_iff.mp hj).1
      have ed : p.drop i = j :: p.drop (i + 1) := by
        rw [List.drop_eq_getElem_cons il]
        rw [List.getElem?_eq_getElem il] at hj
        rw [Option.some.inj hj]
      have out : ¬ (0 ≤ j ∧ j < (m'.ks.length : Int)) → find n p = none := fun z => by
        rw [ef, ed]
        exact find_out z
      refine ⟨_, rfl, _, _, _, _, rfl, rfl, hc.sq, atI_nat (j := 1) rfl, ?_⟩
      refine ⟨_, rfl, _, _, rfl, rfl, _, rfl, ite2 (fun e1 => ⟨_, rfl, _, _, rfl, (hcc).sq, _, _, rfl, rfl, _, rfl, ?_⟩) (fun e1 => ⟨_, rfl, iteT (kE (out fun z => e1 (decide_eq_true z.1)))⟩)⟩
      have j0 : 0 ≤ j := of_decide_eq_true e1
      by_cases j1 : j < (xk.length : Int)
      · rw [decide_eq_true j1]
        refine iteF ?_
        obtain ⟨jn, rfl⟩ := Int.eq_ofNat_of_zero_le j0
        have hk : m'.ks[jn]? = some m'.ks[jn] := List.getElem?_eq_getElem (by omega)
        obtain ⟨xx, hxx, dxx⟩ := dks.at_ (i := jn) (d := nodeD m'.ks[jn]) (by rw [List.getElem?_map, hk]; rfl)
        refine ⟨_, rfl, _, rfl, _, _, _, _, rfl, rfl, hcc.sq, atI_nat hxx, xx, _, _, _, rfl, rfl, dxx, ?_⟩
        rw [ef, ed, find_cons, hk]
        rfl
      · rw [decide_eq_false j1]
        exact iteT (kE (out fun z => j1 (by rw [lk]; exact z.2)))
    · rintro σ H' ⟨vn, m', y, z, rfl, rfl, dk, ef⟩
      rw [List.length_map, List.drop_length] at ef
      exact ⟨_, rfl, kQ m' ef _ dk⟩
def Good (g : Int) (n : Node) : Prop := ¬ BadM g n ∧ ¬ BigM n
/-- a market that is fine -/
structure Mk (K : PySem.W.Frag) (H : Hp) (v : V) (g : Int) (n : Node) : Prop where
  d : DT K H v (marketD g n)
  b : NodeB n
  l : (pre [] n).length ≤ 1000
theorem Mk.same {H H' : Hp} {v : V} {g : Int} {n : Node} (h : Mk K H v g n) (s : Same H H') : Mk K H' v g n := ⟨h.d.same s, h.b, h.l⟩
theorem Mk.xt {H H' : Hp} {v : V} {g : Int} {n : Node} {p : Addr} (h : Mk K H v g n) (i : IsL H p) (s : Xt p H H') : Mk K H' v g n := ⟨h.d.xt i s, h.b, h.l⟩
/-- what checks ahead of all -/
def spM (K : PySem.W.Frag) (M L : Addr) (vs : List V) (v : V) (H : Hp) (E : XK) (k : Hp → Prop) : Prop := ∃ (g : Int) (n : Node), Mk K H v g n ∧ (BadM g n → ∀ H', Same H H' → E (.ref M) none H') ∧ (¬ BadM g n → BigM n → ∀ H', Same H H' → E (.ref L) none H')
def sp_moments (K : PySem.W.Frag) : Sp := fun vs H Q _ => ∃ (v : V) (g : Int) (n : Node), vs = [v] ∧ Mk K H v g n ∧ Good g n ∧ ∀ v' H', Same H H' → DT K H' v' (.tuple ((pre [] n).map fun e => pathD e.1)) → Q v' H'
def endsN (n : Node) : List PN := (pre [] n).filter fun e => e.2.ks.isEmpty
def sp_ends (K : PySem.W.Frag) : Sp := fun vs H Q _ => ∃ (v : V) (g : Int) (n : Node), vs = [v] ∧ Mk K H v g n ∧ Good g n ∧ ∀ v' H', Same H H' → DT K H' v' (.tuple ((endsN n).map fun e => pathD e.1)) → Q v' H'
def sp_last (K : PySem.W.Frag) : Sp := fun vs H Q _ => ∃ (v : V) (g : Int) (n : Node), vs = [v] ∧ Mk K H v g n ∧ Good g n ∧ ∀ H' e, Same H H' → (endsN n)[0]? = some e → Q (.int (e.1.length : Int)) H'
theorem endsN_pos (n : Node) : 0 < (endsN n).length := by
  have := ends_pos n
  unfold endLens at this
  rw [List.length_map] at this
  exact this
def sp_price (K : PySem.W.Frag) (M L N : Addr) : Sp := fun vs H Q E => ∃ (v va : V) (g : Int) (n : Node) (p : List Int) (k : Int), vs = [v, va, .int k] ∧ Mk K H v g n ∧ DT K H va (pathD p) ∧ (BadM g n → ∀ H', Same H H' → E (.ref M) none H') ∧ (¬ BadM g n → BigM n → ∀ H', Same H H' → E (.ref L) none H') ∧
  (Good g n → (find n p = none ∨ ¬ (0 ≤ k ∧ k < g)) → ∀ H', Same H H' → E (.ref N) none H') ∧ (Good g n → ∀ m, find n p = some m → 0 ≤ k → k < g → ∀ v' H' d, Same H H' → (prD ((1, 1), (1, 1)) :: m.ps.map prD)[k.toNat]? = some d → DT K H' v' d → Q v' H')
def sp_nexts (K : PySem.W.Frag) (M L N : Addr) : Sp := fun vs H Q E => ∃ (v va : V) (g : Int) (n : Node) (p : List Int), vs = [v, va] ∧ Mk K H v g n ∧ DT K H va (pathD p) ∧ (BadM g n → ∀ H', Same H H' → E (.ref M) none H') ∧ (¬ BadM g n → BigM n → ∀ H', Same H H' → E (.ref L) none H') ∧
  (Good g n → find n p = none → ∀ H', Same H H' → E (.ref N) none H') ∧ (Good g n → ∀ m, find n p = some m → ∀ H', Same H H' → Q (.int (m.ks.length : Int)) H')
end
end Nl

namespace Nl
open PySem PySem.Spec PyProof.Rows L2
section
variable {P : Program} {w : World} {K : PySem.W.Frag} {mg : Str → Option Value} {base : Heap}
theorem mulK {k : Nat} {i j : Int} (hk : k ≤ 3000) (ha : Bd k i) (hb : Bd k j) : CMulW i j := mulX (ha.mono hk) (hb.mono hk)
def sp_begin (K : PySem.W.Frag) : Sp := fun vs H Q _ => ∃ (a : Addr) (ns : List Int), vs = [.ref a] ∧ SqL K H a (ns.map V.int) ∧ ∀ pd ps H', Same H H' → H pd = none → H ps = none → Dst H' pd ps → Q (.ref pd) H'
theorem ok__law_begin (T : Top w K mg) : FnOk P w K mg base CX0 1 T.a__law_begin T.d__law_begin ["script"] (sp_begin K) := by
  refine T._law_begin_F.ok sc__law_begin (fun vs H Q E h => ?_) (fun cdv A outer s H vs Q E hr h => ?_)
  · obtain ⟨_, _, rfl, _⟩ := h
    rfl
  · obtain ⟨a, ns, rfl, hS, fin⟩ := h
    refine ⟨_, (pss_cons (ps_set (i := 1) sc__law_begin.nd rfl (Or.inl rfl) pe_int)
      (pss_cons (ps_for PassesOwn.never rfl (pi_list (pv 0)) (pg_name (i := 2) sc__law_begin.nd rfl (Or.inl rfl)) (pss_one (ps_set (i := 1) sc__law_begin.nd rfl (Or.inl rfl) (pe_op op_mod (pe_op op_add (pe_op op_add (pe_op op_mul (pv 1) pe_int) (pe_op op_mod (pe_callTy call_intI (by rfl) T.n_int (by decide +kernel) (pa_cons (pv 2) pa_nil)) pe_int)) pe_int) pe_int))))
      (pss_one (ps_ret (pe_lst (pa_cons (pe_callTy call_listL (by rfl) T.n_list (by decide +kernel) (pa_cons (pv 0) pa_nil)) (pa_cons pe_int (pa_cons pe_int (pa_cons (pv 1) pa_nil))))))))), ?_⟩
    refine ⟨_, rfl, a, rfl, ⟨_, hS⟩, for_list (K := K) (a := a) (xs := ns.map V.int) (fun i σ H' => ∃ (r : Int) (y : Option V), σ = [some (.ref a), some (.int r), y] ∧ H' = H) ⟨_, none, rfl, rfl⟩ (fun i σ H' _ ⟨_, _, _, e⟩ => e ▸ hS) ?_ ?_⟩
    · rintro i x σ H' hi ⟨r, y, rfl, rfl⟩
      obtain ⟨z, rfl⟩ : ∃ z, x = V.int z := by
        rw [List.getElem?_map] at hi
        cases e : ns[i]? with
        | none =>
          rw [e] at hi
          cases hi
        | some z =>
          rw [e] at hi
          exact ⟨z, (Option.some.inj hi).symm⟩
      exact ⟨_, rfl, _, _, rfl, rfl, mulC ⟨by decide, by decide⟩, _, rfl, _, rfl, _, _, rfl, rfl, (by show (0 : Int) < 2147483629; decide), _, _, rfl, rfl, _, _, rfl, rfl, _, _, rfl, rfl, (by show (0 : Int) < 2147483647; decide), _, _, rfl, rfl⟩
    · rintro σ H' ⟨r, y, rfl, rfl⟩
      refine ⟨_, rfl, _, _, rfl, hS, fun l hl => ⟨_, rfl, (by decide : 4 ≤ sizeLine), fun p hp => ?_⟩⟩
      have s1 := same_new (o := .lst (ns.map V.int)) hl
      have s2 := same_new (o := .lst [.ref l, .int 0, .int 0, .int r]) hp
      have nlp : l ≠ p := fun e => by
        rw [← e, upd_same] at hp
        cases hp
      exact fin p l _ (s1.trans s2) (s1.free hp) hl ⟨0, 0, ns, ⟨⟨_, upd_same⟩, by rw [upd_ne nlp, upd_same], nlp, by decide, by decide⟩⟩
def sp_take : Sp := fun vs H Q _ => ∃ (pd ps : Addr) (many : Int), vs = [.ref pd, .int many] ∧ Dst H pd ps ∧ 0 < many ∧ Bd 8000 many ∧ ∀ r H', Xt pd H H' → Dst H' pd ps → 0 ≤ r → r < many → Q (.int r) H'
theorem ok__law_take (T : Top w K mg) : FnOk P w K mg base CX0 1 T.a__law_take T.d__law_take ["d", "many"] sp_take := by
  refine T._law_take_F.ok sc__law_take (fun vs H Q E h => ?_) (fun cdv A outer s H vs Q E hr h => ?_)
  · obtain ⟨_, _, _, rfl, _⟩ := h
    rfl
  · obtain ⟨pd, ps, many, rfl, ⟨i, r, ns, D⟩, hm, hM, fin⟩ := h
    have md : ∀ x H', Xt pd H H' → Dst H' pd ps → Q (.int (x % many)) H' := fun x H' h1 h2 => fin _ H' h1 h2 (Int.emod_nonneg x (by omega)) (Int.emod_lt_of_pos x hm)
    refine ⟨_, (Evl.pss_cut (ps_if (PW.pt (pw_and (pt_cmpR op_eq (pe_ix ix_list (pv 0) pe_int (fun _ _ => rfl)) pe_int (nomark _)) (pw_and1 (pt_cmpR op_lt (pe_ix ix_list (pv 0) pe_int (fun _ _ => rfl)) (pe_callB call_lenL (by rfl) T.n_len (by decide +kernel) (pa_cons (pe_ix ix_list (pv 0) pe_int (fun _ _ => rfl)) pa_nil)) (nomark _))))) (pss_cons (ps_asg (pe_callB call_abs (by rfl) T.n_abs (by decide +kernel) (pa_cons (pe_callTy call_intI (by rfl) T.n_int (by decide +kernel) (pa_cons (pe_ix ix_list (pe_ix ix_list (pv 0) pe_int (fun _ _ => rfl)) (pe_ix ix_list (pv 0) pe_int (fun _ _ => rfl)) (fun _ _ => rfl)) pa_nil)) pa_nil)) (pg_sub (pv 0) pe_int set_list))
      (pss_cons (ps_asg (pe_op op_add (pe_ix ix_list (pv 0) pe_int (fun _ _ => rfl)) pe_int) (pg_sub (pv 0) pe_int set_list))
      (pss_one (ps_if (pt_cmpR op_lt (pe_ix ix_list (pv 0) pe_int (fun _ _ => rfl)) (pe_op op_pow pe_int pe_int) (nomark _)) (pss_cons (ps_set (i := 2) sc__law_take.nd rfl (Or.inl rfl) (pe_callTy call_intI (by rfl) T.n_int (by decide +kernel) (pa_cons (pe_ix ix_list (pv 0) pe_int (fun _ _ => rfl)) pa_nil)))
      (pss_cons (ps_asg pe_int (pg_sub (pv 0) pe_int set_list))
      (pss_one (ps_ret (pe_op op_mod (pv 2) (pv 1)))))) pss_nil)))) pss_nil)
      (pss_cons (ps_if (pt_cmpR op_gt (pe_ix ix_list (pv 0) pe_int (fun _ _ => rfl)) pe_int (nomark _)) (pss_cons (ps_set (i := 3) sc__law_take.nd rfl (Or.inl rfl) (pe_op op_mod (pe_callTy call_intI (by rfl) T.n_int (by decide +kernel) (pa_cons (pe_ix ix_list (pv 0) pe_int (fun _ _ => rfl)) pa_nil)) (pv 1)))
      (pss_cons (ps_asg (pe_op op_fdivX (pe_callTy call_intI (by rfl) T.n_int (by decide +kernel) (pa_cons (pe_ix ix_list (pv 0) pe_int (fun _ _ => rfl)) pa_nil)) (pv 1)) (pg_sub (pv 0) pe_int set_list))
      (pss_one (ps_ret (pv 3))))) pss_nil)
      (pss_cons (ps_asg (pe_op op_mod (pe_callTy call_intI (by rfl) T.n_int (by decide +kernel) (pa_cons (pe_op op_add (pe_op op_mul (pe_ix ix_list (pv 0) pe_int (fun _ _ => rfl)) pe_int) pe_int) pa_nil)) pe_int) (pg_sub (pv 0) pe_int set_list))
      (pss_one (ps_ret (pe_op op_mod (pe_callTy call_intI (by rfl) T.n_int (by decide +kernel) (pa_cons (pe_op op_fdivX (pe_ix ix_list (pv 0) pe_int (fun _ _ => rfl)) pe_int) pa_nil)) (pv 1))))))), ?_⟩
    refine ⟨fun σ H' => ∃ y z r', σ = [some (.ref pd), some (.int many), y, z] ∧ Xt pd H H' ∧ ∃ i', DstI H' pd ps i' r' ns, ?_, ?_⟩
    · obtain ⟨sd, hd⟩ := D.at_d
      have stay : ∃ y z r', ([some (.ref pd), some (.int many), none, none] : List (Option V)) = [some (.ref pd), some (.int many), y, z] ∧ Xt pd H H ∧ ∃ i', DstI H pd ps i' r' ns := ⟨none, none, r, rfl, Xt.refl H, i, D⟩
      refine ⟨_, rfl, _, _, _, _, rfl, rfl, (SqL.of hd), (atI_nat (j := 2) rfl), rfl, _, rfl, ite2 (fun e => ?_) (fun e => iteF stay)⟩
      refine ⟨_, rfl, _, _, _, _, rfl, rfl, (SqL.of hd), (atI_nat (j := 1) rfl), _, rfl, _, _, _, _, rfl, rfl, (SqL.of hd), (atI_nat (j := 0) rfl), _, _, rfl, SqL.of D.at_s, _, _, rfl, rfl, _, rfl, ite2 (fun e1 => ?_) (fun e1 => stay)⟩
      have e2 : i < ((ns.map V.int).length : Int) := of_decide_eq_true e1
      rw [List.length_map] at e2
      obtain ⟨j, rfl⟩ := Int.eq_ofNat_of_zero_le D.i0
      have jl : j < ns.length := by omega
      have gj : (ns.map V.int)[j]? = some (.int ns[j]) := by
        rw [List.getElem?_map, List.getElem?_eq_getElem jl]
        rfl
      have ab : ∀ x : Int, 0 ≤ (if x < 0 then -x else x) := fun x => by split <;> omega
      refine ⟨_, rfl, _, _, _, _, rfl, rfl, (SqL.of hd), (atI_nat (j := 0) rfl), _, rfl, _, _, _, _, rfl, rfl, (SqL.of hd), (atI_nat (j := 1) rfl), _, _, _, _, rfl, rfl, SqL.of D.at_s, atI_nat gj, _, rfl, _, rfl, _, rfl, _, _, _, _, rfl, rfl, hd, rfl, ?_⟩
      have D1 := D.set (s' := sd) D.i0 (ab ns[j])
      obtain ⟨_, hd1⟩ := D1.at_d
      have hd1 : (upd H pd (.lst [.ref ps, .int (j : Int), .int (if ns[j] < 0 then -ns[j] else ns[j]), .int sd])) pd = _ := upd_same
      refine ⟨_, rfl, _, _, _, _, rfl, rfl, (SqL.of hd1), (atI_nat (j := 1) rfl), _, _, rfl, rfl, _, rfl, _, _, _, _, rfl, rfl, hd1, rfl, ?_⟩
      have D2 := D1.upd2 (i' := (j : Int) + 1) (r' := if ns[j] < 0 then -ns[j] else ns[j]) (s' := sd) (o := .lst [.ref ps, .int (j : Int), .int (if ns[j] < 0 then -ns[j] else ns[j]), .int sd]) (by omega) (ab ns[j])
      rw [upd_upd]
      have hd2 : (upd H pd (.lst [.ref ps, .int ((j : Int) + 1), .int (if ns[j] < 0 then -ns[j] else ns[j]), .int sd])) pd = _ := upd_same
      have D2 := D.set (i' := (j : Int) + 1) (r' := if ns[j] < 0 then -ns[j] else ns[j]) (s' := sd) (by omega) (ab ns[j])
      refine ⟨_, rfl, _, _, _, _, rfl, rfl, (SqL.of hd2), (atI_nat (j := 2) rfl), _, _, rfl, rfl, ⟨by decide, by decide, by decide⟩, _, _, rfl, rfl, _, rfl, ite2 (fun e3 => ?_) (fun e3 => ?_)⟩
      · refine ⟨_, rfl, _, _, _, _, rfl, rfl, (SqL.of hd2), (atI_nat (j := 2) rfl), _, rfl, _, rfl, _, _, _, _, rfl, rfl, hd2, rfl, _, rfl, _, rfl, _, _, rfl, rfl, hm, ?_⟩
        rw [upd_upd]
        exact md _ _ Xt.upd ⟨_, _, _, D.set (by omega) (by decide)⟩
      · exact ⟨none, none, _, rfl, Xt.upd, _, D2⟩
    · rintro σ H' ⟨y, z, r', rfl, hx, i', D'⟩
      obtain ⟨sd, hd⟩ := D'.at_d
      refine ⟨_, rfl, _, _, _, _, rfl, rfl, (SqL.of hd), (atI_nat (j := 2) rfl), _, _, rfl, rfl, _, rfl, ite2 (fun e => ?_) (fun e => ?_)⟩
      · refine ⟨_, rfl, _, _, _, _, rfl, rfl, (SqL.of hd), (atI_nat (j := 2) rfl), _, rfl, _, rfl, _, _, rfl, rfl, hm, _, rfl, _, _, _, _, rfl, rfl, (SqL.of hd), (atI_nat (j := 2) rfl), _, rfl, _, rfl, _, _, rfl, rfl, divX (by omega) hM, _, rfl, _, _, _, _, rfl, rfl, hd, rfl, _, rfl, ?_⟩
        refine md _ _ (hx.trans Xt.upd) ⟨_, _, _, D'.set D'.i0 ?_⟩
        rw [Int.fdiv_eq_ediv_of_nonneg _ (by omega)]
        exact Int.ediv_nonneg D'.r0 (by omega)
      · refine ⟨_, rfl, _, _, _, _, rfl, rfl, (SqL.of hd), (atI_nat (j := 3) rfl), _, _, rfl, rfl, mulC ⟨by decide, by decide⟩, _, _, rfl, rfl, _, rfl, _, _, rfl, rfl, (by show (0 : Int) < 2147483647; decide), _, rfl, _, _, _, _, rfl, rfl, hd, rfl, ?_⟩
        have D2 := D'.set (i' := i') (r' := r') (s' := (sd * 48271 + 11) % 2147483647) D'.i0 D'.r0
        have hd2 : (upd H' pd (.lst [.ref ps, .int i', .int r', .int ((sd * 48271 + 11) % 2147483647)])) pd = _ := upd_same
        exact ⟨_, rfl, _, _, _, _, rfl, rfl, (SqL.of hd2), (atI_nat (j := 3) rfl), _, _, rfl, rfl, ⟨by decide, by decide⟩, _, rfl, _, rfl, _, _, rfl, rfl, hm, md _ _ (hx.trans Xt.upd) ⟨_, _, _, D2⟩⟩
def sp_gcd : Sp := fun vs H Q _ => ∃ a b : Int, vs = [.int a, .int b] ∧ 0 ≤ a ∧ 0 ≤ b ∧ Q (.int (Int.gcd a b : Int)) H
theorem ok__law_gcd (T : Top w K mg) : FnOk P w K mg base CX0 1 T.a__law_gcd T.d__law_gcd ["a", "b"] sp_gcd := by
  refine T._law_gcd_F.ok sc__law_gcd (fun vs H Q E h => ?_) (fun cdv A outer s H vs Q E hr h => ?_)
  · obtain ⟨_, _, rfl, _⟩ := h
    rfl
  · obtain ⟨a, b, rfl, ha, hb, fin⟩ := h
    refine ⟨_, (pss_cons (ps_while PassesOwn.never (pt_cmpR op_ne (pv 1) pe_int (nomark _)) (pss_one (ps_par (i := 0) (j := 1) (by rfl) sc__law_gcd.nd rfl rfl (by decide) rfl rfl (pa_cons (pv 1) (pa_cons (pe_op op_mod (pe_callTy call_intI (by rfl) T.n_int (by decide +kernel) (pa_cons (pv 0) pa_nil)) (pv 1)) pa_nil)) (by rfl))))
      (pss_one (ps_ret (pe_callB call_abs (by rfl) T.n_abs (by decide +kernel) (pa_cons (pv 0) pa_nil))))), ?_⟩
    refine ⟨fun m σ H' => ∃ x y : Int, σ = [some (.int x), some (.int y)] ∧ H' = H ∧ 0 ≤ x ∧ 0 ≤ y ∧ m = y.toNat ∧ Int.gcd x y = Int.gcd a b, ⟨_, a, b, rfl, rfl, ha, hb, rfl, rfl⟩, ?_⟩
    rintro m σ H' ⟨x, y, rfl, rfl, hx, hy, rfl, hg⟩
    refine ⟨_, rfl, rfl, _, rfl, ?_⟩
    by_cases e : y = 0
    · subst e
      refine iteNS rfl ?_
      have e1 : (if x < 0 then -x else x) = (Int.gcd a b : Int) := by
        rw [if_neg (by omega), ← hg, Int.gcd_zero_right]
        omega
      rw [← e1] at fin
      exact ⟨_, rfl, _, rfl, fin⟩
    · refine ite2 (fun _ => ?_) (fun z => (z (by simp [e])).elim)
      refine ⟨_, fun _ _ z => z, ?_⟩
      have hp : 0 < y := by omega
      refine ⟨_, rfl, _, rfl, _, rfl, _, rfl, _, _, rfl, rfl, hp, _, _, rfl, (x % y).toNat, ?_, y, x % y, rfl, rfl, hy, Int.emod_nonneg _ e, rfl, ?_⟩
      · have := Int.emod_lt_of_pos x hp
        have := Int.emod_nonneg x e
        omega
      · rw [gcd_step x y hx hy, hg]
def sp_f (K : PySem.W.Frag) : Sp := fun vs H Q _ => ∃ a b : Int, vs = [.int a, .int b] ∧ b ≠ 0 ∧ Bd 8000 b ∧ ∀ v H', Same H H' → DT K H' v (frD (frac a b)) → Q v H'
theorem ok__law_f (T : Top w K mg) : FnOk P w K mg base CX0 2 T.a__law_f T.d__law_f ["a", "b"] (sp_f K) := by
  refine T._law_f_F.ok sc__law_f (fun vs H Q E h => ?_) (fun cdv A outer s H vs Q E hr h => ?_)
  · obtain ⟨_, _, rfl, _⟩ := h
    rfl
  · obtain ⟨a, b, rfl, hb, hB, fin⟩ := h
    have eL := fracL_eq (a := a) hb
    have ab : ∀ x : Int, 0 ≤ (if x < 0 then -x else x) := fun x => by split <;> omega
    have key : ∀ x y : Int, 0 < y → Bd 8000 y → (x / (Int.gcd x y : Int), y / (Int.gcd x y : Int)) = frac a b → ∀ p, H p = none → 
        CDivX x (Int.gcd (if x < 0 then -x else x) y : Int) ∧ CDivX y (Int.gcd (if x < 0 then -x else x) y : Int) ∧ Q (.ref p) (upd H p (.tup [.int (x.fdiv (Int.gcd (if x < 0 then -x else x) y : Int)), .int (y.fdiv (Int.gcd (if x < 0 then -x else x) y : Int))])) := by
      intro x y hy hY e p hp
      have eg : Int.gcd (if x < 0 then -x else x) y = Int.gcd x y := by
        split
        · exact Int.neg_gcd
        · rfl
      have g0 : 0 < Int.gcd x y := gcd_pos (by omega)
      have gB : Bd 8000 (Int.gcd x y : Int) := hY.le (by
        show Int.gcd x y ≤ y.natAbs
        exact Nat.le_of_dvd (by omega) (Nat.gcd_dvd_right _ _))
      rw [eg]
      refine ⟨divX (by omega) gB, divX (by omega) gB, fin _ _ (same_new hp) (DT.fr (Tp.of ?_))⟩
      rw [Int.fdiv_eq_ediv_of_nonneg _ (by omega), Int.fdiv_eq_ediv_of_nonneg _ (by omega), ← e]
      exact upd_same
    have go : ∀ x y : Int, 0 < y → Bd 8000 y → (x / (Int.gcd x y : Int), y / (Int.gcd x y : Int)) = frac a b → ∃ (u v : Int), u = (Int.gcd (if x < 0 then -x else x) y : Int) ∧ CDivX x u ∧ CDivX y u ∧ ∀ p, H p = none → Q (.ref p) (upd H p (.tup [.int (x.fdiv u), .int (y.fdiv u)])) := by
      intro x y hy hY e
      have eg : Int.gcd (if x < 0 then -x else x) y = Int.gcd x y := by
        split
        · exact Int.neg_gcd
        · rfl
      have g0 : 0 < Int.gcd x y := gcd_pos (by omega)
      have gB : Bd 8000 (Int.gcd x y : Int) := hY.le (by
        show Int.gcd x y ≤ y.natAbs
        exact Nat.le_of_dvd (by omega) (Nat.gcd_dvd_right _ _))
      refine ⟨_, 0, rfl, ?_, ?_, fun p hp => (key x y hy hY e p hp).2.2⟩
      · rw [eg]; exact divX (by omega) gB
      · rw [eg]; exact divX (by omega) gB
    refine ⟨_, (pss_cons (ps_if (pt_cmpR op_lt (pv 1) pe_int (nomark _)) (pss_cons (ps_set (i := 0) sc__law_f.nd rfl (Or.inl rfl) (pe_op op_sub pe_int (pv 0)))
      (pss_one (ps_set (i := 1) sc__law_f.nd rfl (Or.inl rfl) (pe_op op_sub pe_int (pv 1))))) pss_nil)
      (pss_cons (ps_set (i := 2) sc__law_f.nd rfl (Or.inl rfl) (pe_call (ok__law_gcd T) (hr.mono (by decide : 1 ≤ 1)) (by rfl) T.g__law_gcd T._law_gcd_F.kp T._law_gcd_b .nil pass0 (pa_cons (pe_callB call_abs (by rfl) T.n_abs (by decide +kernel) (pa_cons (pv 0) pa_nil)) (pa_cons (pv 1) pa_nil))))
      (pss_one (ps_ret (pe_tup (pa_cons (pe_op op_fdivX (pv 0) (pv 2)) (pa_cons (pe_op op_fdivX (pv 1) (pv 2)) pa_nil))))))), ?_⟩
    refine ⟨_, rfl, _, _, rfl, rfl, _, rfl, ite2 (fun e => ?_) (fun e => ?_)⟩
    · have e0 : b < 0 := of_decide_eq_true e
      obtain ⟨u, _, eu, c1, c2, k⟩ := go (0 - a) (0 - b) (by omega) (by rw [Int.zero_sub]; exact hB.neg) (by
        rw [← eL]
        unfold fracL
        simp only [if_pos e0])
      subst eu
      exact ⟨_, rfl, _, _, rfl, rfl, _, rfl, _, _, rfl, rfl, _, rfl, _, rfl, _, rfl, _, _, rfl, ab _, by omega, _, rfl, _, rfl, _, _, rfl, rfl, c1, _, rfl, _, rfl, _, _, rfl, rfl, c2, two_le, k⟩
    · have e0 : ¬ b < 0 := fun z => e (decide_eq_true z)
      obtain ⟨u, _, eu, c1, c2, k⟩ := go a b (by omega) hB (by
        rw [← eL]
        unfold fracL
        simp only [if_neg e0])
      subst eu
      exact ⟨_, rfl, _, rfl, _, rfl, _, _, rfl, ab _, by omega, _, rfl, _, rfl, _, _, rfl, rfl, c1, _, rfl, _, rfl, _, _, rfl, rfl, c2, two_le, k⟩
def sp2 (K : PySem.W.Frag) (R : Int × Int → Int × Int → Int × Int) : Sp := fun vs H Q _ => ∃ (va vb : V) (p q : Int × Int) (k : Nat), vs = [va, vb] ∧ DT K H va (frD p) ∧ DT K H vb (frD q) ∧ Ok k p ∧ Ok k q ∧ k ≤ 3000 ∧ ∀ v H', Same H H' → DT K H' v (frD (R p q)) → Q v H'
theorem ok__law_plus (T : Top w K mg) : FnOk P w K mg base CX0 3 T.a__law_plus T.d__law_plus ["a", "b"] (sp2 K addF) := by
  refine T._law_plus_F.ok sc__law_plus (fun vs H Q E h => ?_) (fun cdv A outer s H vs Q E hr h => ?_)
  · obtain ⟨_, _, _, _, _, rfl, _⟩ := h
    rfl
  · obtain ⟨_, _, p, q, k, rfl, da, db, ⟨lp, p1, p2⟩, ⟨lq, q1, q2⟩, hk, fin⟩ := h
    obtain ⟨a, rfl, ha⟩ := da.fr_inv
    obtain ⟨b, rfl, hb⟩ := db.fr_inv
    have ne := pos_ne lp.pos lq.pos
    refine ⟨_, (pss_one (ps_ret (pe_call (ok__law_f T) (hr.mono (by decide : 2 ≤ 2)) (by rfl) T.g__law_f T._law_f_F.kp T._law_f_b .nil pass0 (pa_cons (pe_op op_add (pe_op op_mulW (pe_ix ix_tup (pv 0) pe_int (fun _ _ => rfl)) (pe_ix ix_tup (pv 1) pe_int (fun _ _ => rfl))) (pe_op op_mulW (pe_ix ix_tup (pv 1) pe_int (fun _ _ => rfl)) (pe_ix ix_tup (pv 0) pe_int (fun _ _ => rfl)))) (pa_cons (pe_op op_mulW (pe_ix ix_tup (pv 0) pe_int (fun _ _ => rfl)) (pe_ix ix_tup (pv 1) pe_int (fun _ _ => rfl))) pa_nil))))), ?_⟩
    exact ⟨_, rfl, _, _, _, _, rfl, rfl, (SqT.of ha), (atI_nat (j := 0) rfl), _, rfl, _, _, _, _, rfl, rfl, (SqT.of hb), (atI_nat (j := 1) rfl), _, _, rfl, rfl, (by first | exact mulK hk (by assumption) (by assumption) | exact mulF3 (by assumption) (by assumption) | exact mulB8 (by assumption) (by assumption)), _, rfl, _, _, _, _, rfl, rfl, (SqT.of hb), (atI_nat (j := 0) rfl), _, rfl, _, _, _, _, rfl, rfl, (SqT.of ha), (atI_nat (j := 1) rfl), _, _, rfl, rfl, (by first | exact mulK hk (by assumption) (by assumption) | exact mulF3 (by assumption) (by assumption) | exact mulB8 (by assumption) (by assumption)), _, _, rfl, rfl, _, rfl, _, _, _, _, rfl, rfl, (SqT.of ha), (atI_nat (j := 1) rfl), _, rfl, _, _, _, _, rfl, rfl, (SqT.of hb), (atI_nat (j := 1) rfl), _, _, rfl, rfl, (by first | exact mulK hk (by assumption) (by assumption) | exact mulF3 (by assumption) (by assumption) | exact mulB8 (by assumption) (by assumption)), _, _, rfl, ne, (p2.mul q2).mono (by omega), fun v H' s f => fin v H' s f⟩
theorem ok__law_minus (T : Top w K mg) : FnOk P w K mg base CX0 3 T.a__law_minus T.d__law_minus ["a", "b"] (sp2 K subF) := by
  refine T._law_minus_F.ok sc__law_minus (fun vs H Q E h => ?_) (fun cdv A outer s H vs Q E hr h => ?_)
  · obtain ⟨_, _, _, _, _, rfl, _⟩ := h
    rfl
  · obtain ⟨_, _, p, q, k, rfl, da, db, ⟨lp, p1, p2⟩, ⟨lq, q1, q2⟩, hk, fin⟩ := h
    obtain ⟨a, rfl, ha⟩ := da.fr_inv
    obtain ⟨b, rfl, hb⟩ := db.fr_inv
    have ne := pos_ne lp.pos lq.pos
    refine ⟨_, (pss_one (ps_ret (pe_call (ok__law_f T) (hr.mono (by decide : 2 ≤ 2)) (by rfl) T.g__law_f T._law_f_F.kp T._law_f_b .nil pass0 (pa_cons (pe_op op_sub (pe_op op_mulW (pe_ix ix_tup (pv 0) pe_int (fun _ _ => rfl)) (pe_ix ix_tup (pv 1) pe_int (fun _ _ => rfl))) (pe_op op_mulW (pe_ix ix_tup (pv 1) pe_int (fun _ _ => rfl)) (pe_ix ix_tup (pv 0) pe_int (fun _ _ => rfl)))) (pa_cons (pe_op op_mulW (pe_ix ix_tup (pv 0) pe_int (fun _ _ => rfl)) (pe_ix ix_tup (pv 1) pe_int (fun _ _ => rfl))) pa_nil))))), ?_⟩
    exact ⟨_, rfl, _, _, _, _, rfl, rfl, (SqT.of ha), (atI_nat (j := 0) rfl), _, rfl, _, _, _, _, rfl, rfl, (SqT.of hb), (atI_nat (j := 1) rfl), _, _, rfl, rfl, (by first | exact mulK hk (by assumption) (by assumption) | exact mulF3 (by assumption) (by assumption) | exact mulB8 (by assumption) (by assumption)), _, rfl, _, _, _, _, rfl, rfl, (SqT.of hb), (atI_nat (j := 0) rfl), _, rfl, _, _, _, _, rfl, rfl, (SqT.of ha), (atI_nat (j := 1) rfl), _, _, rfl, rfl, (by first | exact mulK hk (by assumption) (by assumption) | exact mulF3 (by assumption) (by assumption) | exact mulB8 (by assumption) (by assumption)), _, _, rfl, rfl, _, rfl, _, _, _, _, rfl, rfl, (SqT.of ha), (atI_nat (j := 1) rfl), _, rfl, _, _, _, _, rfl, rfl, (SqT.of hb), (atI_nat (j := 1) rfl), _, _, rfl, rfl, (by first | exact mulK hk (by assumption) (by assumption) | exact mulF3 (by assumption) (by assumption) | exact mulB8 (by assumption) (by assumption)), _, _, rfl, ne, (p2.mul q2).mono (by omega), fun v H' s f => fin v H' s f⟩
theorem ok__law_times (T : Top w K mg) : FnOk P w K mg base CX0 3 T.a__law_times T.d__law_times ["a", "b"] (sp2 K mulF) := by
  refine T._law_times_F.ok sc__law_times (fun vs H Q E h => ?_) (fun cdv A outer s H vs Q E hr h => ?_)
  · obtain ⟨_, _, _, _, _, rfl, _⟩ := h
    rfl
  · obtain ⟨_, _, p, q, k, rfl, da, db, ⟨lp, p1, p2⟩, ⟨lq, q1, q2⟩, hk, fin⟩ := h
    obtain ⟨a, rfl, ha⟩ := da.fr_inv
    obtain ⟨b, rfl, hb⟩ := db.fr_inv
    have ne := pos_ne lp.pos lq.pos
    refine ⟨_, (pss_one (ps_ret (pe_call (ok__law_f T) (hr.mono (by decide : 2 ≤ 2)) (by rfl) T.g__law_f T._law_f_F.kp T._law_f_b .nil pass0 (pa_cons (pe_op op_mulW (pe_ix ix_tup (pv 0) pe_int (fun _ _ => rfl)) (pe_ix ix_tup (pv 1) pe_int (fun _ _ => rfl))) (pa_cons (pe_op op_mulW (pe_ix ix_tup (pv 0) pe_int (fun _ _ => rfl)) (pe_ix ix_tup (pv 1) pe_int (fun _ _ => rfl))) pa_nil))))), ?_⟩
    exact ⟨_, rfl, _, _, _, _, rfl, rfl, (SqT.of ha), (atI_nat (j := 0) rfl), _, rfl, _, _, _, _, rfl, rfl, (SqT.of hb), (atI_nat (j := 0) rfl), _, _, rfl, rfl, (by first | exact mulK hk (by assumption) (by assumption) | exact mulF3 (by assumption) (by assumption) | exact mulB8 (by assumption) (by assumption)), _, rfl, _, _, _, _, rfl, rfl, (SqT.of ha), (atI_nat (j := 1) rfl), _, rfl, _, _, _, _, rfl, rfl, (SqT.of hb), (atI_nat (j := 1) rfl), _, _, rfl, rfl, (by first | exact mulK hk (by assumption) (by assumption) | exact mulF3 (by assumption) (by assumption) | exact mulB8 (by assumption) (by assumption)), _, _, rfl, ne, (p2.mul q2).mono (by omega), fun v H' s f => fin v H' s f⟩
def sp_less (K : PySem.W.Frag) : Sp := fun vs H Q _ => ∃ (va vb : V) (p q : Int × Int), vs = [va, vb] ∧ DT K H va (frD p) ∧ DT K H vb (frD q) ∧ FB p ∧ FB q ∧ Q (.bl (decide (p.1 * q.2 < q.1 * p.2))) H
theorem ok__law_less (T : Top w K mg) : FnOk P w K mg base CX0 1 T.a__law_less T.d__law_less ["a", "b"] (sp_less K) := by
  refine T._law_less_F.ok sc__law_less (fun vs H Q E h => ?_) (fun cdv A outer s H vs Q E hr h => ?_)
  · obtain ⟨_, _, _, _, rfl, _⟩ := h
    rfl
  · obtain ⟨_, _, p, q, rfl, da, db, ⟨p1, p2⟩, ⟨q1, q2⟩, fin⟩ := h
    obtain ⟨a, rfl, ha⟩ := da.fr_inv
    obtain ⟨b, rfl, hb⟩ := db.fr_inv
    refine ⟨_, (pss_one (ps_ret (pe_cmpR op_lt (pe_op op_mulW (pe_ix ix_tup (pv 0) pe_int (fun _ _ => rfl)) (pe_ix ix_tup (pv 1) pe_int (fun _ _ => rfl))) (pe_op op_mulW (pe_ix ix_tup (pv 1) pe_int (fun _ _ => rfl)) (pe_ix ix_tup (pv 0) pe_int (fun _ _ => rfl))) (nomark _)))), ?_⟩
    exact ⟨_, rfl, _, _, _, _, rfl, rfl, (SqT.of ha), (atI_nat (j := 0) rfl), _, rfl, _, _, _, _, rfl, rfl, (SqT.of hb), (atI_nat (j := 1) rfl), _, _, rfl, rfl, (by first | exact mulK hk (by assumption) (by assumption) | exact mulF3 (by assumption) (by assumption) | exact mulB8 (by assumption) (by assumption)), _, rfl, _, _, _, _, rfl, rfl, (SqT.of hb), (atI_nat (j := 0) rfl), _, rfl, _, _, _, _, rfl, rfl, (SqT.of ha), (atI_nat (j := 1) rfl), _, _, rfl, rfl, (by first | exact mulK hk (by assumption) (by assumption) | exact mulF3 (by assumption) (by assumption) | exact mulB8 (by assumption) (by assumption)), _, _, rfl, rfl, fin⟩
def sp_spread (K : PySem.W.Frag) : Sp := fun vs H Q _ => ∃ (pd ps : Addr) (v : V) (m : Int × Int), vs = [.ref pd, v] ∧ Dst H pd ps ∧ DT K H v (frD m) ∧ Ok 100 m ∧ 0 ≤ m.1 ∧ ∀ v' pr H', Xt pd H H' → Dst H' pd ps → DT K H' v' (prD pr) → ¬ badPr pr → PrK 201 pr → Q v' H'
theorem five {r : Int} (h0 : 0 ≤ r) (h1 : r < 5) : r = 0 ∨ r = 1 ∨ r = 2 ∨ r = 3 ∨ r = 4 := by omega
theorem ok__law_spread (T : Top w K mg) : FnOk P w K mg base CX0 4 T.a__law_spread T.d__law_spread ["d", "mid"] (sp_spread K) := by
  refine T._law_spread_F.ok sc__law_spread (fun vs H Q E h => ?_) (fun cdv A outer s H vs Q E hr h => ?_)
  · obtain ⟨_, _, _, _, rfl, _⟩ := h
    rfl
  · obtain ⟨pd, ps, v, m, rfl, D, dv, om, m0, fin⟩ := h
    refine ⟨_, (Evl.pss_cut (ps_set (i := 2) sc__law_spread.nd rfl (Or.inl rfl) (pe_ix ix_tup (pe_tup (pa_cons (pe_tup (pa_cons pe_int (pa_cons pe_int pa_nil))) (pa_cons (pe_tup (pa_cons pe_int (pa_cons pe_int pa_nil))) (pa_cons (pe_tup (pa_cons pe_int (pa_cons pe_int pa_nil))) (pa_cons (pe_tup (pa_cons pe_int (pa_cons pe_int pa_nil))) (pa_cons (pe_tup (pa_cons pe_int (pa_cons pe_int pa_nil))) pa_nil)))))) (pe_call (ok__law_take T) (hr.mono (by decide : 1 ≤ 3)) (by rfl) T.g__law_take T._law_take_F.kp T._law_take_b .nil pass0 (pa_cons (pv 0) (pa_cons pe_int pa_nil))) (fun _ _ => rfl)))
      (pss_cons (ps_set (i := 3) sc__law_spread.nd rfl (Or.inl rfl) (pe_call (ok__law_minus T) (hr.mono (by decide : 3 ≤ 3)) (by rfl) T.g__law_minus T._law_minus_F.kp T._law_minus_b .nil pass0 (pa_cons (pv 1) (pa_cons (pv 2) pa_nil))))
      (pss_one (ps_ret (pe_tup (pa_cons (pe_call (ok__law_plus T) (hr.mono (by decide : 3 ≤ 3)) (by rfl) T.g__law_plus T._law_plus_F.kp T._law_plus_b .nil pass0 (pa_cons (pv 1) (pa_cons (pv 2) pa_nil))) (pa_cons (pe_ifExp (pt_cmpR op_ge (pe_ix ix_tup (pv 3) pe_int (fun _ _ => rfl)) pe_int (nomark _)) (pv 3) (pe_tup (pa_cons pe_int (pa_cons pe_int pa_nil)))) pa_nil))))))), ?_⟩
    refine ⟨fun σ' H1 => ∃ (vs : V) (s : Int × Int), σ' = [some (.ref pd), some v, some vs, none] ∧ Xt pd H H1 ∧ Dst H1 pd ps ∧ DT K H1 vs (frD s) ∧ Ok 3 s ∧ 0 ≤ s.1, ?_, ?_⟩
    · refine ⟨two_le, fun p1 h1 => ⟨two_le, fun p2 h2 => ⟨two_le, fun p3 h3 => ⟨two_le, fun p4 h4 => ⟨two_le, fun p5 h5 => ⟨(by decide : 5 ≤ sizeLine), fun p6 h6 => ?_⟩⟩⟩⟩⟩⟩
      have s1 := same_new (o := .tup [.int 0, .int 1]) h1
      have s2 := same_new (o := .tup [.int 0, .int 1]) h2
      have s3 := same_new (o := .tup [.int 1, .int 4]) h3
      have s4 := same_new (o := .tup [.int 1, .int 2]) h4
      have s5 := same_new (o := .tup [.int 1, .int 1]) h5
      have s6 := same_new (o := .tup [.ref p1, .ref p2, .ref p3, .ref p4, .ref p5]) h6
      have d1 : DT K _ (.ref p1) (frD (0, 1)) := DT.fr (Tp.of (s6 _ _ (s5 _ _ (s4 _ _ (s3 _ _ (s2 _ _ upd_same))))))
      have d2 : DT K _ (.ref p2) (frD (0, 1)) := DT.fr (Tp.of (s6 _ _ (s5 _ _ (s4 _ _ (s3 _ _ upd_same)))))
      have d3 : DT K _ (.ref p3) (frD (1, 4)) := DT.fr (Tp.of (s6 _ _ (s5 _ _ (s4 _ _ upd_same))))
      have d4 : DT K _ (.ref p4) (frD (1, 2)) := DT.fr (Tp.of (s6 _ _ (s5 _ _ upd_same)))
      have d5 : DT K _ (.ref p5) (frD (1, 1)) := DT.fr (Tp.of (s6 _ _ upd_same))
      have sm := ((((s1.trans s2).trans s3).trans s4).trans s5).trans s6
      have D6 := D.same sm
      generalize hH6 : (upd (upd (upd (upd (upd (upd H p1 (.tup [.int 0, .int 1])) p2 (.tup [.int 0, .int 1])) p3 (.tup [.int 1, .int 4])) p4 (.tup [.int 1, .int 2])) p5 (.tup [.int 1, .int 1])) p6 (.tup [.ref p1, .ref p2, .ref p3, .ref p4, .ref p5])) = H6 at *
      have h66 : H6 p6 = some (.tup [.ref p1, .ref p2, .ref p3, .ref p4, .ref p5]) := by rw [← hH6]; exact upd_same
      refine ⟨_, rfl, pd, ps, 5, rfl, D6, by decide, Bd.mono (k := 3) (by unfold Bd; decide) (by decide), fun r H7 x7 D7 r0 r1 => ?_⟩
      have q7 := tp_xt D6.isL x7 (Tp.of h66)
      have xx := (Xt.of sm).trans x7
      have o0 : Ok 3 (0, 1) := ok_zero.mono (by decide)
      have o1 : Ok 3 (1, 4) := ⟨⟨by decide, by decide⟩, by unfold Bd; decide, by unfold Bd; decide⟩
      have o2 : Ok 3 (1, 2) := ⟨⟨by decide, by decide⟩, by unfold Bd; decide, by unfold Bd; decide⟩
      have o3 : Ok 3 (1, 1) := ⟨⟨by decide, by decide⟩, by unfold Bd; decide, by unfold Bd; decide⟩
      rcases five r0 r1 with rfl | rfl | rfl | rfl | rfl
      · exact ⟨_, _, _, _, rfl, rfl, q7.sq, atI_nat (j := 0) rfl, _, _, rfl, xx, D7, d1.xt D6.isL x7, o0, by decide⟩
      · exact ⟨_, _, _, _, rfl, rfl, q7.sq, atI_nat (j := 1) rfl, _, _, rfl, xx, D7, d2.xt D6.isL x7, o0, by decide⟩
      · exact ⟨_, _, _, _, rfl, rfl, q7.sq, atI_nat (j := 2) rfl, _, _, rfl, xx, D7, d3.xt D6.isL x7, o1, by decide⟩
      · exact ⟨_, _, _, _, rfl, rfl, q7.sq, atI_nat (j := 3) rfl, _, _, rfl, xx, D7, d4.xt D6.isL x7, o2, by decide⟩
      · exact ⟨_, _, _, _, rfl, rfl, q7.sq, atI_nat (j := 4) rfl, _, _, rfl, xx, D7, d5.xt D6.isL x7, o3, by decide⟩
    · rintro σ' H1 ⟨vs, s, rfl, x1, D1, ds, os, s0⟩
      have dv1 := dv.xt D.isL x1
      have os5 : Ok 100 s := os.mono (by decide)
      refine ⟨_, rfl, _, rfl, _, _, m, s, 100, rfl, dv1, ds, om, os5, by decide, fun vl H2 s2 dl => ?_⟩
      refine ⟨_, rfl, _, rfl, _, _, m, s, 100, rfl, dv1.same s2, ds.same s2, om, os5, by decide, fun vp H3 s3 dp => ?_⟩
      have dl3 := dl.same s3
      obtain ⟨pl, rfl, hl⟩ := dl3.fr_inv
      have oa := addF_ok om os5 (n := 201) (by decide)
      have ol := subF_ok om os5 (n := 201) (by decide)
      refine ⟨_, rfl, _, _, _, _, rfl, rfl, hl.sq, atI_nat (j := 0) rfl, _, _, rfl, rfl, _, rfl, ite2 (fun e => ?_) (fun e => ?_)⟩
      · refine ⟨_, rfl, two_le, fun pt ht => ?_⟩
        have s4 := same_new (o := .tup [vp, .ref pl]) ht
        exact fin _ (addF m s, subF m s) _ (x1.trans (Xt.of ((s2.trans s3).trans s4))) (D1.same ((s2.trans s3).trans s4)) (.mk2 (Tp.of upd_same) (dp.same s4) (dl3.same s4)) (good_pair m0 om.pos s0 os.pos _ (.inl ⟨rfl, of_decide_eq_true e⟩)) ⟨oa, ol⟩
      · refine ⟨two_le, fun pz hz => ⟨two_le, fun pt ht => ?_⟩⟩
        have s4 := same_new (o := .tup [.int 0, .int 1]) hz
        have s5 := same_new (o := .tup [vp, .ref pz]) ht
        exact fin _ (addF m s, (0, 1)) _ (x1.trans (Xt.of (((s2.trans s3).trans s4).trans s5))) (D1.same (((s2.trans s3).trans s4).trans s5)) (.mk2 (Tp.of upd_same) ((dp.same s4).same s5) (DT.fr (Tp.of (s5 _ _ upd_same)))) (good_pair m0 om.pos s0 os.pos _ (.inr rfl)) ⟨oa, ok_zero.mono (by decide)⟩
end
end Nl

namespace Nl
open PySem PySem.Spec PyProof.Rows L2
section
variable {P : Program} {w : World} {K : PySem.W.Frag} {mg : Str → Option Value} {base : Heap}
/-- a node's mids -/
structure MsOk (g : Int) (m : Nat) (ms : List (Int × Int)) : Prop where
  len : (ms.length : Int) = g - 1
  ok : ∀ q ∈ ms, Ok (kb m) q ∧ 0 ≤ q.1
def sp_node (K : PySem.W.Frag) (m : Nat) : Sp := fun vs H Q _ => ∃ (pd ps : Addr) (g t : Int) (wild : Bool), vs = [.ref pd, .int g, .int t, .int (t + m), .bl wild] ∧ Dst H pd ps ∧ 1 ≤ g ∧ g ≤ 4 ∧
  ∀ H' (a : Addr) (vn : V) (pm : Addr) (xs : List V) (n : Node) (ms : List (Int × Int)), Xt pd H H' → Dst H' pd ps → Tp H' a [vn, .ref pm] → DT K H' vn (nodeD n) → H' pm = some (.lst xs) → DTs K H' xs (ms.map frD) → H pm = none → NV g m n → MsOk g m ms → Q (.ref a) H'
def spPrev (K : PySem.W.Frag) : Nat → Sp
  | 0 => fun _ _ _ _ => False
  | m + 1 => sp_node K m
theorem kb_le {m : Nat} (h : m ≤ 2) : kb m ≤ 92 := by
  match m, h with
  | 0, _ => decide
  | 1, _ => decide
  | 2, _ => decide
theorem kb_ge : ∀ m : Nat, 4 ≤ kb m
  | 0 => by decide
  | m + 1 => by
    have := kb_ge m
    show 4 ≤ 3 * kb m + 14
    omega
theorem ok_wt {x : Int} (h0 : 1 ≤ x) (h1 : x ≤ 3) : Ok 2 (x, 1) := ⟨⟨(by show (0 : Int) < 1; decide), Int.gcd_one_right x⟩, (by unfold Bd; show x.natAbs < 4; omega), (by unfold Bd; show (1 : Int).natAbs < 4; decide)⟩
theorem frac_one_low {x : Int} (h : 0 < x) : Low (1, x) := ⟨h, Int.gcd_one_left x⟩
theorem addF_nn {p q : Int × Int} (hp : 0 ≤ p.1) (hq : 0 ≤ q.1) (lp : 0 < p.2) (lq : 0 < q.2) : 0 ≤ (addF p q).1 := by
  have h1 := Int.mul_nonneg hp (Int.le_of_lt lq)
  have h2 := Int.mul_nonneg hq (Int.le_of_lt lp)
  exact frac_nonneg (by omega) (Int.mul_pos lp lq)
theorem mulF_nn {p q : Int × Int} (hp : 0 ≤ p.1) (hq : 0 ≤ q.1) (lp : 0 < p.2) (lq : 0 < q.2) : 0 ≤ (mulF p q).1 := frac_nonneg (Int.mul_nonneg hp hq) (Int.mul_pos lp lq)
theorem sum_bd : ∀ ws : List Int, (∀ x ∈ ws, 1 ≤ x ∧ x ≤ 3) → (ws.length : Int) ≤ ws.sum ∧ ws.sum ≤ 3 * ws.length
  | [], _ => by simp
  | a :: l, h => by
    have h1 := h a (by simp)
    have h2 := sum_bd l fun x hx => h x (by simp [hx])
    simp only [List.sum_cons, List.length_cons]
    omega
theorem node_step (T : Top w K mg) {k m : Nat} (hk : 4 ≤ k) (hm : m ≤ 2) (ih : FnOk P w K mg base CX0 k T.a__law_node T.d__law_node ["d", "goods", "time", "last", "wild"] (spPrev K m)) :
    FnOk P w K mg base CX0 (k + 1) T.a__law_node T.d__law_node ["d", "goods", "time", "last", "wild"] (sp_node K m) := by
  refine T._law_node_F.ok sc__law_node (fun vs H Q E h => ?_) (fun cdv A outer s H vs Q E hr h => ?_)
  · obtain ⟨_, _, _, _, _, rfl, _⟩ := h
    rfl
  · obtain ⟨pd, ps, g, t, wild, rfl, D0, g1, g4, fin⟩ := h
    refine ⟨_, (Evl.pss_cut (ps_set (i := 5) sc__law_node.nd rfl (Or.inl rfl) (pe_ifExp (pt_cmpR op_eq (pv 2) (pv 3) (nomark _)) pe_int (pe_op op_add pe_int (pe_call (ok__law_take T) (hr.mono (by omega)) (by rfl) T.g__law_take T._law_take_F.kp T._law_take_b .nil pass0 (pa_cons (pv 0) (pa_cons (pe_ifExp (pt_cmpR op_eq (pv 3) pe_int (nomark _)) pe_int pe_int) pa_nil))))))
      (pss_cons (ps_setLc (i := 7) (own := [("k", 6)]) (g := (gName 6)) (tt := tYes) (by rfl) sc__law_node.nd rfl rfl (sw_true rfl rfl rfl (by decide +kernel)) (pi_range1 rfl T.n_range (pa_cons (pv 5) pa_nil)) (blkOk_by (own := [("k", 6)]) (N := ["d", "goods", "time", "last", "wild", "many", "k", "children", "weights", "mids", "good", "mid", "total", "prices", "child"]) (sc := defScope s__law_node) (by decide +kernel)) (fun _ _ _ _ _ => (pg_name (i := 6) sc__law_node.nd rfl (Or.inl rfl))) (fun _ _ _ _ _ => pts_nil) (fun _ _ _ _ _ => (pe_call ih (hr.mono (by omega)) (by rfl) T.g__law_node T._law_node_F.kp T._law_node_b .nil pass0 (pa_cons (pv 0) (pa_cons (pv 1) (pa_cons (pe_op op_add (pv 2) pe_int) (pa_cons (pv 3) (pa_cons (pv 4) pa_nil))))))))
      (pss_cons (ps_setLc (i := 8) (own := [("k", 6)]) (g := (gName 6)) (tt := tYes) (by rfl) sc__law_node.nd rfl rfl (sw_true rfl rfl rfl (by decide +kernel)) (pi_range1 rfl T.n_range (pa_cons (pv 5) pa_nil)) (blkOk_by (own := [("k", 6)]) (N := ["d", "goods", "time", "last", "wild", "many", "k", "children", "weights", "mids", "good", "mid", "total", "prices", "child"]) (sc := defScope s__law_node) (by decide +kernel)) (fun _ _ _ _ _ => (pg_name (i := 6) sc__law_node.nd rfl (Or.inl rfl))) (fun _ _ _ _ _ => pts_nil) (fun _ _ _ _ _ => (pe_op op_add pe_int (pe_call (ok__law_take T) (hr.mono (by omega)) (by rfl) T.g__law_take T._law_take_F.kp T._law_take_b .nil pass0 (pa_cons (pv 0) (pa_cons pe_int pa_nil))))))
      (pss_cons (ps_set (i := 9) sc__law_node.nd rfl (Or.inl rfl) (pe_lst pa_nil))
      (pss_cons (ps_for PassesOwn.never rfl (pi_range1 rfl T.n_range (pa_cons (pe_op op_sub (pv 1) pe_int) pa_nil)) (pg_name (i := 10) sc__law_node.nd rfl (Or.inl rfl)) (pss_cons (ps_set (i := 11) sc__law_node.nd rfl (Or.inl rfl) (pe_call (ok__law_f T) (hr.mono (by omega)) (by rfl) T.g__law_f T._law_f_F.kp T._law_f_b .nil pass0 (pa_cons (pe_call (ok__law_take T) (hr.mono (by omega)) (by rfl) T.g__law_take T._law_take_F.kp T._law_take_b .nil pass0 (pa_cons (pv 0) (pa_cons pe_int pa_nil))) (pa_cons (pe_op op_add pe_int (pe_call (ok__law_take T) (hr.mono (by omega)) (by rfl) T.g__law_take T._law_take_F.kp T._law_take_b .nil pass0 (pa_cons (pv 0) (pa_cons pe_int pa_nil)))) pa_nil))))
      (Evl.pss_cut (ps_if (PW.pt (pw_and (pt_cmpR op_gt (pv 5) pe_int (nomark _)) (pw_and1 (pt_not (pt_truth (pv 4) (by intro _; rfl)))))) (pss_cons (ps_set (i := 12) sc__law_node.nd rfl (Or.inl rfl) (pe_tup (pa_cons pe_int (pa_cons pe_int pa_nil))))
      (pss_cons (ps_for PassesOwn.never rfl (pi_range1 rfl T.n_range (pa_cons (pv 5) pa_nil)) (pg_name (i := 6) sc__law_node.nd rfl (Or.inl rfl)) (pss_one (ps_set (i := 12) sc__law_node.nd rfl (Or.inl rfl) (pe_call (ok__law_plus T) (hr.mono (by omega)) (by rfl) T.g__law_plus T._law_plus_F.kp T._law_plus_b .nil pass0 (pa_cons (pv 12) (pa_cons (pe_call (ok__law_times T) (hr.mono (by omega)) (by rfl) T.g__law_times T._law_times_F.kp T._law_times_b .nil pass0 (pa_cons (pe_ix ix_list (pe_ix ix_tup (pe_ix ix_list (pv 7) (pv 6) (fun _ _ => rfl)) pe_int (fun _ _ => rfl)) (pv 10) (fun _ _ => rfl)) (pa_cons (pe_tup (pa_cons (pe_ix ix_list (pv 8) (pv 6) (fun _ _ => rfl)) (pa_cons pe_int pa_nil))) pa_nil))) pa_nil))))))
      (pss_one (ps_set (i := 11) sc__law_node.nd rfl (Or.inl rfl) (pe_call (ok__law_times T) (hr.mono (by omega)) (by rfl) T.g__law_times T._law_times_F.kp T._law_times_b .nil pass0 (pa_cons (pv 12) (pa_cons (pe_tup (pa_cons pe_int (pa_cons (pe_callB (cr_sum rfl) (by rfl) T.n_sum (by decide +kernel) (pa_cons (pv 8) pa_nil)) pa_nil))) pa_nil))))))) pss_nil)
      (pss_one (ps_expr (pe_bm PySem.F.plainAttrs_list PySem.F.slot_list_append PySem.F.type_list_append mt_append (pv 9) (pa_cons (pv 11) pa_nil)))))))
      (pss_cons (ps_set (i := 13) sc__law_node.nd rfl (Or.inl rfl) (pe_callTy call_tupL (by rfl) T.n_tuple (by decide +kernel) (pa_cons (pe_lc (own := [("mid", 11)]) (g := (gName 11)) (tt := tYes) (by rfl) sc__law_node.nd (pi_list (pv 9)) (blkOk_by (own := [("mid", 11)]) (N := ["d", "goods", "time", "last", "wild", "many", "k", "children", "weights", "mids", "good", "mid", "total", "prices", "child"]) (sc := defScope s__law_node) (by decide +kernel)) (fun _ _ _ _ _ => (pg_name (i := 11) sc__law_node.nd rfl (Or.inl rfl))) (fun _ _ _ _ _ => pts_nil) (fun _ _ _ _ _ => (pe_call (ok__law_spread T) (hr.mono (by omega)) (by rfl) T.g__law_spread T._law_spread_F.kp T._law_spread_b .nil pass0 (pa_cons (pv 0) (pa_cons (pv 11) pa_nil))))) pa_nil)))
      (pss_one (ps_ret (pe_tup (pa_cons (pe_tup (pa_cons (pv 13) (pa_cons (pe_callTy call_tupL (by rfl) T.n_tuple (by decide +kernel) (pa_cons (pe_lc (own := [("child", 14)]) (g := (gName 14)) (tt := tYes) (by rfl) sc__law_node.nd (pi_list (pv 7)) (blkOk_by (own := [("child", 14)]) (N := ["d", "goods", "time", "last", "wild", "many", "k", "children", "weights", "mids", "good", "mid", "total", "prices", "child"]) (sc := defScope s__law_node) (by decide +kernel)) (fun _ _ _ _ _ => (pg_name (i := 14) sc__law_node.nd rfl (Or.inl rfl))) (fun _ _ _ _ _ => pts_nil) (fun _ _ _ _ _ => (pe_ix (r := rIxT K) ix_tup (pv 14) pe_int (fun _ _ => rfl)))) pa_nil)) pa_nil))) (pa_cons (pv 9) pa_nil))))))))))), ?_⟩
    -- many
    refine ⟨fun σ' H1 => ∃ mm : Nat, σ' = [some (.ref pd), some (.int g), some (.int t), some (.int (t + m)), some (.bl wild), some (.int (mm : Int)), none, none, none, none, none, none, none, none, none] ∧ Xt pd H H1 ∧ Dst H1 pd ps ∧ mm ≤ 3 ∧ (m = 0 → mm = 0) ∧ (m ≠ 0 → 0 < mm), ?_, ?_⟩
    · refine ⟨_, rfl, _, rfl, rfl, _, rfl, ite2 (fun e => ?_) (fun e => ?_)⟩
      · have e0 : t = t + m := V.int.inj (of_decide_eq_true e)
        exact ⟨0, rfl, Xt.refl H, D0, by decide, fun _ => rfl, fun z => (z (by omega)).elim⟩
      · have e0 : m ≠ 0 := fun z => e (by rw [z]; exact decide_eq_true (by simp))
        have b3 : Bd 8000 3 := Bd.mono (k := 2) (by unfold Bd; decide) (by decide)
        have b2 : Bd 8000 2 := Bd.mono (k := 2) (by unfold Bd; decide) (by decide)
        refine ⟨_, rfl, _, rfl, rfl, _, rfl, ite2 (fun e2 => ?_) (fun e2 => ?_)⟩
        · refine ⟨pd, ps, 3, rfl, D0, by decide, b3, fun r H1 x1 D1 r0 r1 => ⟨_, _, rfl, rfl, 1 + r.toNat, ?_, x1, D1, by omega, fun z => (e0 z).elim, fun _ => by omega⟩⟩
          have : ((1 + r.toNat : Nat) : Int) = 1 + r := by omega
          rw [this]
          rfl
        · refine ⟨pd, ps, 2, rfl, D0, by decide, b2, fun r H1 x1 D1 r0 r1 => ⟨_, _, rfl, rfl, 1 + r.toNat, ?_, x1, D1, by omega, fun z => (e0 z).elim, fun _ => by omega⟩⟩
          have : ((1 + r.toNat : Nat) : Int) = 1 + r := by omega
          rw [this]
          rfl
    · rintro σ' H1 ⟨mm, rfl, x1, D1, mm3, mz, mp⟩
      -- children
      refine ⟨_, rfl, (mm : Int), rfl, by omega, by omega, fun Dc hDc => lc_range (lo := 0) (n := (mm : Int).toNat) (fun i H' => ∃ (xs : List V) (cs : List (Node × List (Int × Int))), Xt pd H1 H' ∧ Dst H' pd ps ∧ H' Dc = some (.lst xs) ∧ All2 (ChildP K [pd, Dc] H') xs cs ∧ cs.length = i ∧ ∀ c ∈ cs, ∃ m', m = m' + 1 ∧ NV g m' c.1 ∧ MsOk g m' c.2) ?_ ?_ ?_⟩
      · exact ⟨[], [], Xt.of (same_new hDc), D1.same (same_new hDc), upd_same, .nil, rfl, fun c hc => by cases hc⟩
      · rintro i H' hi ⟨xs, cs, xc, Dd, hxs, ac, lc, pc⟩
        refine ⟨rfl, ?_⟩
        dsimp only [tYes]
        rw [if_pos rfl]
        obtain ⟨m', rfl⟩ : ∃ m', m = m' + 1 := by
          cases m with
          | zero =>
            have := mz rfl
            omega
          | succ m' => exact ⟨m', rfl⟩
        have dn : Dc ≠ pd := (D1.fresh hDc).1
        have ds' : Dc ≠ ps := (D1.fresh hDc).2
        refine ⟨_, rfl, _, rfl, _, rfl, _, _, rfl, rfl, _, rfl, _, rfl, ?_⟩
        refine ⟨pd, ps, g, t + 1, wild, ?_, Dd, g1, g4, fun H2 a vn pm ys n ms x2 D2 ha dvn hpm dms npm nv mo => ?_⟩
        · have : t + ((m' + 1 : Nat) : Int) = t + 1 + (m' : Int) := by omega
          rw [this]
          rfl
        have hxs2 := x2 _ _ dn hxs
        have e1 : pm ≠ pd := fun z => by
          obtain ⟨ys, hy⟩ := Dd.lst
          rw [z, hy] at npm
          cases npm
        have e2 : pm ≠ Dc := fun z => by
          rw [z, hxs] at npm
          cases npm
        have il2 : IsL H2 Dc := ⟨_, hxs2⟩
        have xu : Xt Dc H2 (upd H2 Dc (.lst (xs ++ [.ref a]))) := Xt.upd
        refine ⟨xs, hxs2, ?_, xs ++ [.ref a], cs ++ [(n, ms)], xt_mut (xc.trans x2) hDc, D2.xt dn ds' xu, upd_same, ?_, by simp [lc], fun c hc => ?_⟩
        · rw [ac.1, lc]
          exact small1000 (by omega)
        · refine All2.snoc (ac.imp fun x c h => (h.xt (by simp) Dd.isL x2).xt (by simp) il2 xu) ?_
          refine ChildP.xt (p := Dc) ⟨a, vn, pm, ys, rfl, ha, dvn, hpm, dms, fun x hx => ?_⟩ (by simp) il2 xu
          rcases List.mem_cons.mp hx with rfl | hx
          · exact e1
          · rw [List.mem_singleton.mp hx]
            exact e2
        · rcases List.mem_append.mp hc with hc | hc
          · exact pc c hc
          · rw [List.mem_singleton.mp hc]
            exact ⟨m', rfl, nv, mo⟩
      · rintro H2 ⟨xs, cs, x2, D2, hxs, ac, lc, pc⟩
        have lcm : cs.length = mm := by omega
        have dn : Dc ≠ pd := (D1.fresh hDc).1
        -- weights
        refine ⟨_, rfl, (mm : Int), rfl, by omega, by omega, fun Dw hDw => lc_range (lo := 0) (n := (mm : Int).toNat) (fun i H' => ∃ (ws : List Int), Xt pd H2 H' ∧ Dst H' pd ps ∧ H' Dw = some (.lst (ws.map V.int)) ∧ ws.length = i ∧ ∀ x ∈ ws, 1 ≤ x ∧ x ≤ 3) ?_ ?_ ?_⟩
        · exact ⟨[], Xt.of (same_new hDw), D2.same (same_new hDw), upd_same, rfl, fun x hx => by cases hx⟩
        · rintro i H' hi ⟨ws, xc, Dd, hws, lw, pw⟩
          have wn := D2.fresh hDw
          refine ⟨rfl, ?_⟩
          dsimp only [tYes]
          rw [if_pos rfl]
          refine ⟨_, rfl, pd, ps, 3, rfl, Dd, by decide, Bd.mono (k := 2) (by unfold Bd; decide) (by decide), fun r H3 x3 D3 r0 r1 => ⟨_, _, rfl, rfl, ?_⟩⟩
          have hws3 := x3 _ _ wn.1 hws
          refine ⟨_, hws3, ?_, ws ++ [1 + r], xt_mut (xc.trans x3) hDw, D3.xt wn.1 wn.2 Xt.upd, ?_, by simp [lw], fun x hx => ?_⟩
          · rw [List.length_map, lw]
            exact small1000 (by omega)
          · rw [upd_same, List.map_append]
            rfl
          · rcases List.mem_append.mp hx with hx | hx
            · exact pw x hx
            · rw [List.mem_singleton.mp hx]
              omega
        · rintro H3 ⟨ws, x3, D3, hws, lw, pw⟩
          have lwm : ws.length = mm := by omega
          have wn := D2.fresh hDw
          have hxs3 := x3 _ _ dn hxs
          have ac3 := ac.imp fun x c h => h.xt (by simp) D2.isL x3
          -- mids
          refine ⟨Nat.zero_le _, fun Dm hDm => ?_⟩
          have mn := D3.fresh hDm
          refine ⟨_, rfl, _, _, rfl, rfl, _, rfl, by omega, by omega, for_range (lo := 0) (n := (g - 1).toNat) (fun i σ H' => ∃ (y6 y10 y11 y12 : Option V) (ms : List (Int × Int)) (xm : List V), σ = [some (.ref pd), some (.int g), some (.int t), some (.int (t + m)), some (.bl wild), some (.int (mm : Int)), y6, some (.ref Dc), some (.ref Dw), some (.ref Dm), y10, y11, y12, none, none] ∧ Xt pd H3 H' ∧ Dst H' pd ps ∧ H' Dm = some (.lst xm) ∧ DTs K H' xm (ms.map frD) ∧ ms.length = i ∧ ∀ q ∈ ms, Ok (kb m) q ∧ 0 ≤ q.1) ?_ ?_ ?_⟩
          · exact ⟨_, _, _, _, [], [], rfl, Xt.of (same_new hDm), D3.same (same_new hDm), upd_same, .nil, rfl, fun q hq => by cases hq⟩
          · rintro i σ H4 hi ⟨y6, y10, y11, y12, ms, xm, rfl, x4, D4, hxm, dxm, lm, pm⟩
            have b9 : Bd 8000 9 := Bd.mono (k := 4) (by unfold Bd; decide) (by decide)
            have b2 : Bd 8000 2 := Bd.mono (k := 2) (by unfold Bd; decide) (by decide)
            refine ⟨_, rfl, pd, ps, 9, rfl, D4, by decide, b9, fun a H5 x5 D5 a0 a1 => ⟨_, rfl, pd, ps, 2, rfl, D5, by decide, b2, fun b H6 x6 D6 b0 b1 => ⟨_, _, rfl, rfl, a, 1 + b, rfl, by omega, ?_, fun v H7 s7 dv => ?_⟩⟩⟩
            · refine Bd.mono (k := 2) ?_ (by decide)
              unfold Bd
              show (1 + b).natAbs < 4
              omega
            have okm : Ok 4 (frac a (1 + b)) := frac_ok (by omega) (by unfold Bd; show a.natAbs < 16; omega) (by unfold Bd; show (1 + b).natAbs < 16; omega)
            have nnm : 0 ≤ (frac a (1 + b)).1 := frac_nonneg a0 (by omega)
            have x37 : Xt pd H3 H7 := ((x4.trans x5).trans x6).trans (Xt.of s7)
            have D7 := D6.same s7
            have hxm7 : H7 Dm = some (.lst xm) := s7 _ _ (x6 _ _ mn.1 (x5 _ _ mn.1 hxm))
            have dxm7 := ((dxm.xt D4.isL x5).xt D5.isL x6).same s7
            -- the mean
            refine ⟨fun σ' H8 => ∃ (vm : V) (q : Int × Int) (y6 y12 : Option V), σ' = [some (.ref pd), some (.int g), some (.int t), some (.int (t + m)), some (.bl wild), some (.int (mm : Int)), y6, some (.ref Dc), some (.ref Dw), some (.ref Dm), some (.int (0 + (i : Int))), some vm, y12, none, none] ∧ Same H7 H8 ∧ DT K H8 vm (frD q) ∧ Ok (kb m) q ∧ 0 ≤ q.1, ?_, ?_⟩
            · have skip : ∃ (vm : V) (q : Int × Int) (y6' y12' : Option V), ([some (.ref pd), some (.int g), some (.int t), some (.int (t + m)), some (.bl wild), some (.int (mm : Int)), y6, some (.ref Dc), some (.ref Dw), some (.ref Dm), some (.int (0 + (i : Int))), some v, y12, none, none] : List (Option V)) = [some (.ref pd), some (.int g), some (.int t), some (.int (t + m)), some (.bl wild), some (.int (mm : Int)), y6', some (.ref Dc), some (.ref Dw), some (.ref Dm), some (.int (0 + (i : Int))), some vm, y12', none, none] ∧ Same H7 H7 ∧ DT K H7 vm (frD q) ∧ Ok (kb m) q ∧ 0 ≤ q.1 := ⟨v, _, _, _, rfl, Same.refl _, dv, okm.mono (kb_ge m), nnm⟩
              refine ⟨_, rfl, _, _, rfl, rfl, _, rfl, ite2 (fun e1 => ?_) (fun e1 => iteF skip)⟩
              have mpos : 0 < mm := by
                have : (0 : Int) < (mm : Int) := of_decide_eq_true e1
                omega
              obtain ⟨m', rfl⟩ : ∃ m', m = m' + 1 := by
                cases m with
                | zero =>
                  have := mz rfl
                  omega
                | succ m' => exact ⟨m', rfl⟩
              refine ⟨_, rfl, wild, rfl, ?_⟩
              cases wild with
              | true => exact iteF skip
              | false =>
                refine iteT ?_
                refine ⟨two_le, fun pz hz => ?_⟩
                have s8 := same_new (o := .tup [.int 0, .int 1]) hz
                have hxs7 := x37 _ _ dn hxs3
                have hws7 := x37 _ _ wn.1 hws
                have ac7 := ac3.imp fun x c h => h.xt (by simp) D3.isL x37
                have kl := kb_le hm
                have kl' : 3 * kb m' + 14 ≤ 92 := kl
                refine ⟨_, rfl, (mm : Int), rfl, by omega, by omega, for_range (lo := 0) (n := (mm : Int).toNat) (fun j σ H' => ∃ (vt : V) (q : Int × Int) (y6 : Option V), σ = [some (.ref pd), some (.int g), some (.int t), some (.int (t + (m' + 1 : Nat))), some (.bl false), some (.int (mm : Int)), y6, some (.ref Dc), some (.ref Dw), some (.ref Dm), some (.int (0 + (i : Int))), some v, some vt, none, none] ∧ Same H7 H' ∧ DT K H' vt (frD q) ∧ Ok (1 + j * (kb m' + 3)) q ∧ 0 ≤ q.1) ?_ ?_ ?_⟩
                · exact ⟨_, (0, 1), _, rfl, s8, DT.fr (Tp.of upd_same), ok_zero.mono (by omega), by decide⟩
                · rintro j σ H8 hj ⟨vt, q, y6', rfl, s78, dvt, oq, nq⟩
                  have jm : j < mm := by omega
                  have jc : cs[j]? = some cs[j] := List.getElem?_eq_getElem (by omega)
                  obtain ⟨xj, hxj, cp⟩ := ac7.at_ jc
                  obtain ⟨ca, cvn, cpm, cxs, rfl, hca, dcvn, hcpm, dcms, _⟩ := cp
                  obtain ⟨m2, em, nvc, moc⟩ := pc _ (List.mem_of_getElem? jc)
                  have em2 : m' = m2 := by omega
                  subst em2
                  have il : i < cs[j].2.length := by
                    have := moc.len
                    omega
                  have hq : cs[j].2[i]? = some cs[j].2[i] := List.getElem?_eq_getElem il
                  obtain ⟨xq, hxq, dxq⟩ := dcms.at_ (i := i) (d := frD cs[j].2[i]) (by rw [List.getElem?_map, hq]; rfl)
                  have okq := moc.ok _ (List.mem_of_getElem? hq)
                  have jw : ws[j]? = some ws[j] := List.getElem?_eq_getElem (by omega)
                  have pwj := pw _ (List.mem_of_getElem? jw)
                  have hw7 : (ws.map V.int)[j]? = some (.int ws[j]) := by
                    rw [List.getElem?_map, jw]
                    rfl
                  have e0 : ((0 : Int) + (j : Int)) = (j : Int) := Int.zero_add _
                  have e0i : ((0 : Int) + (i : Int)) = (i : Int) := Int.zero_add _
                  refine ⟨_, rfl, _, rfl, _, rfl, _, _, _, _, rfl, rfl, SqL.of (s78 _ _ hxs7), by rw [e0]; exact atI_nat hxj, _, _, _, _, rfl, rfl, (tp_same s78 hca).sq, atI_nat (j := 1) rfl, _, rfl, _, _, _, _, rfl, rfl, SqL.of (s78 _ _ hcpm), by rw [e0i]; exact atI_nat hxq, ?_⟩
                  refine ⟨_, rfl, _, rfl, _, _, _, _, rfl, rfl, SqL.of (s78 _ _ hws7), by rw [e0]; exact atI_nat hw7, two_le, fun pw1 hw1 => ?_⟩
                  have s9 := same_new (o := .tup [.int ws[j], .int 1]) hw1
                  refine ⟨_, _, cs[j].2[i], (ws[j], 1), 200, rfl, (dxq.same s78).same s9, DT.fr (Tp.of upd_same), okq.1.mono (by omega), (ok_wt pwj.1 pwj.2).mono (by decide), by decide, fun v1 H9 s10 dv1 => ?_⟩
                  have ok1 : Ok (kb m' + 2) (mulF cs[j].2[i] (ws[j], 1)) := mulF_ok okq.1 (ok_wt pwj.1 pwj.2) (Nat.le_refl _)
                  have nn1 : 0 ≤ (mulF cs[j].2[i] (ws[j], 1)).1 := mulF_nn okq.2 (by show 0 ≤ ws[j]; omega) okq.1.pos (by show (0 : Int) < 1; decide)
                  have jb : j * (kb m' + 3) ≤ 2 * (kb m' + 3) := Nat.mul_le_mul_right _ (by omega)
                  refine ⟨_, _, q, mulF cs[j].2[i] (ws[j], 1), 500, rfl, (dvt.same s9).same s10, dv1, oq.mono (by omega), ok1.mono (by omega), by decide, fun v2 H10 s11 dv2 => ?_⟩
                  refine ⟨v2, _, _, rfl, ((s78.trans s9).trans s10).trans s11, dv2, addF_ok oq ok1 ?_, addF_nn nq nn1 oq.pos ok1.pos⟩
                  rw [Nat.add_mul]
                  omega
                · rintro σ H8 ⟨vt, q, y6', rfl, s78, dvt, oq, nq⟩
                  obtain ⟨b1, b2⟩ := sum_bd ws pw
                  have hs0 : 0 < ws.sum := by omega
                  have hs9 : ws.sum ≤ 9 := by omega
                  have os : Ok 4 (1, ws.sum) := ⟨frac_one_low hs0, (by unfold Bd; show (1 : Int).natAbs < 16; decide), (by unfold Bd; show ws.sum.natAbs < 16; omega)⟩
                  have jb : (mm : Int).toNat * (kb m' + 3) ≤ 3 * (kb m' + 3) := Nat.mul_le_mul_right _ (by omega)
                  refine ⟨_, rfl, _, rfl, Dw, ws, rfl, SqL.of (s78 _ _ hws7), two_le, fun ps1 hs1 => ?_⟩
                  have s9 := same_new (o := .tup [.int 1, .int ws.sum]) hs1
                  refine ⟨_, _, q, (1, ws.sum), 500, rfl, dvt.same s9, DT.fr (Tp.of upd_same), oq.mono (by omega), os.mono (by decide), by decide, fun v1 H9 s10 dv1 => ?_⟩
                  refine ⟨v1, _, _, _, rfl, (s78.trans s9).trans s10, dv1, mulF_ok oq os ?_, mulF_nn nq (by show (0 : Int) ≤ 1; decide) oq.pos hs0⟩
                  show _ ≤ 3 * kb m' + 14
                  omega
            · rintro σ' H8 ⟨vm, q, y6', y12', rfl, s78, dvm, oq, nq⟩
              have hxm8 := s78 _ _ hxm7
              have il8 : IsL H8 Dm := ⟨_, hxm8⟩
              have xu : Xt Dm H8 (upd H8 Dm (.lst (xm ++ [vm]))) := Xt.upd
              refine ⟨_, rfl, .inl ⟨rfl, _, SqL.of hxm8⟩, _, rfl, _, _, _, rfl, rfl, hxm8, ?_, ?_⟩
              · rw [dxm.len, List.length_map, lm]
                exact small1000 (by omega)
              · refine ⟨_, _, _, _, ms ++ [q], xm ++ [vm], rfl, xt_mut (x37.trans (Xt.of s78)) hDm, (D7.same s78).xt mn.1 mn.2 xu, upd_same, ?_, by simp [lm], fun z hz => ?_⟩
                · rw [List.map_append]
                  exact ((dxm7.same s78).xt il8 xu).snoc (dvm.xt il8 xu)
                · rcases List.mem_append.mp hz with hz | hz
                  · exact pm z hz
                  · rw [List.mem_singleton.mp hz]
                    exact ⟨oq, nq⟩
          · rintro σ H4 ⟨y6, y10, y11, y12, ms, xm, rfl, x4, D4, hxm, dxm, lm, pm⟩
            have mo : MsOk g m ms := ⟨by omega, pm⟩
            have kl := kb_le hm
            have lxm : xm.length = ms.length := by rw [dxm.len, List.length_map]
            -- prices
            refine ⟨_, rfl, Dm, rfl, ⟨_, SqL.of hxm⟩, fun Dp hDp => lc_list (K := K) (a := Dm) (xs := xm) (fun i H' => ∃ (prs : List Pr) (o : List V), Xt pd H4 H' ∧ Dst H' pd ps ∧ H' Dp = some (.lst o) ∧ DTs K H' o (prs.map prD) ∧ prs.length = i ∧ ∀ p ∈ prs, ¬ badPr p ∧ PrK 201 p) ?_ ?_ ?_ ?_⟩
            · exact ⟨[], [], Xt.of (same_new hDp), D4.same (same_new hDp), upd_same, .nil, rfl, fun p hp => by cases hp⟩
            · rintro i H' _ ⟨_, _, xc, _⟩
              exact SqL.of (xc _ _ mn.1 hxm)
            · rintro i x H' hi ⟨prs, o, xc, Dd, hO, dO, lp, pp⟩
              have pn := D4.fresh hDp
              obtain ⟨d, hd, dx⟩ := dxm.get hi
              rw [List.getElem?_map] at hd
              obtain ⟨q, hq, rfl⟩ := Option.map_eq_some_iff.mp hd
              have oq := pm q (List.mem_of_getElem? hq)
              refine ⟨rfl, ?_⟩
              dsimp only [tYes]
              rw [if_pos rfl]
              refine ⟨_, rfl, _, rfl, pd, ps, x, q, rfl, Dd, dx.xt D4.isL xc, oq.1.mono (by omega), oq.2, fun v' pr H5 x5 D5 dv' nb pb => ?_⟩
              have hO5 := x5 _ _ pn.1 hO
              have il5 : IsL H5 Dp := ⟨_, hO5⟩
              have xu : Xt Dp H5 (upd H5 Dp (.lst (o ++ [v']))) := Xt.upd
              refine ⟨o, hO5, ?_, prs ++ [pr], o ++ [v'], xt_mut (xc.trans x5) hDp, D5.xt pn.1 pn.2 xu, upd_same, ?_, by simp [lp], fun z hz => ?_⟩
              · rw [dO.len, List.length_map, lp]
                have := (List.getElem?_eq_some_iff.mp hq).1
                exact small1000 (by omega)
              · rw [List.map_append]
                exact ((dO.xt Dd.isL x5).xt il5 xu).snoc (dv'.xt il5 xu)
              · rcases List.mem_append.mp hz with hz | hz
                · exact pp z hz
                · rw [List.mem_singleton.mp hz]
                  exact ⟨nb, pb⟩
            · rintro H5 ⟨prs, o, x5, D5, hO, dO, lp, pp⟩
              refine ⟨_, _, rfl, SqL.of hO, fun pt hpt => ?_⟩
              have s6 := same_new (o := .tup o) hpt
              have pso : PsOk g prs := ⟨by have := mo.len; omega, fun p hp => (pp p hp).1, fun p hp => (pp p hp).2⟩
              have x36 : Xt pd H3 _ := (x4.trans x5).trans (Xt.of s6)
              have D6 := D5.same s6
              have dP : DT K _ (.ref pt) (pricesD prs) := .tup (Tp.of upd_same) (dO.same s6)
              have hxs6 := x36 _ _ dn hxs3
              have ac6 := ac3.imp fun x c h => h.xt (by simp) D3.isL x36
              have hxm6 := s6 _ _ (x5 _ _ mn.1 hxm)
              have dxm6 := (dxm.xt D4.isL x5).same s6
              generalize (upd H5 pt (.tup o)) = H6 at *
              -- the children's nodes
              refine ⟨_, rfl, _, rfl, Dc, rfl, ⟨_, SqL.of hxs6⟩, fun De hDe => lc_list (K := K) (a := Dc) (xs := xs) (fun i H' => ∃ o2, Same H6 H' ∧ H' De = some (.lst o2) ∧ DTs K H' o2 (((cs.take i).map (·.1)).map nodeD)) ⟨[], same_new hDe, upd_same, .nil⟩ (fun i H' _ ⟨_, sm, _⟩ => SqL.of (sm _ _ hxs6)) ?_ ?_⟩
              · rintro i x H' hi ⟨o2, sm, hO2, dO2⟩
                obtain ⟨c, hc, cp⟩ := ac6.2 i x hi
                obtain ⟨ca, cvn, cpm, cxs, rfl, hca, dcvn, _⟩ := cp
                refine ⟨rfl, ?_⟩
                dsimp only [tYes]
                rw [if_pos rfl]
                have iD : IsL H' De := ⟨_, hO2⟩
                refine ⟨_, rfl, _, _, _, _, rfl, rfl, (tp_same sm hca).sq, atI_nat (j := 0) rfl, o2, hO2, ?_, _, same_mut sm hDe, upd_same, ?_⟩
                · rw [dO2.len, List.length_map, List.length_map]
                  refine Nat.lt_of_le_of_lt (List.length_take_le' _ _) (small1000 (by omega))
                · rw [take_next hc, List.map_append, List.map_append]
                  exact (dO2.xt iD Xt.upd).snoc ((dcvn.same sm).xt iD Xt.upd)
              · rintro H7 ⟨o2, s7, hO2, dO2⟩
                rw [ac6.1, List.take_length] at dO2
                refine ⟨_, _, rfl, SqL.of hO2, fun pk hpk => ⟨two_le, fun pn hpn => ⟨_, rfl, two_le, fun pr hpr => ?_⟩⟩⟩
                have s8 := same_new (o := .tup o2) hpk
                have s9 := same_new (o := .tup [.ref pt, .ref pk]) hpn
                have s10 := same_new (o := .tup [.ref pn, .ref Dm]) hpr
                have sA := ((s7.trans s8).trans s9).trans s10
                have xA : Xt pd H (upd (upd (upd H7 pk (.tup o2)) pn (.tup [.ref pt, .ref pk])) pr (.tup [.ref pn, .ref Dm])) := (((x1.trans x2).trans x3).trans x36).trans (Xt.of sA)
                have dK : DT K _ (.ref pk) (.tuple ((cs.map (·.1)).map nodeD)) := .tup (Tp.of (s10 _ _ (s9 _ _ upd_same))) ((((dO2.same s8).same s9)).same s10)
                have dN : DT K (upd (upd (upd H7 pk (.tup o2)) pn (.tup [.ref pt, .ref pk])) pr (.tup [.ref pn, .ref Dm])) (.ref pn) (nodeD (.mk prs (cs.map (·.1)))) := by
                  rw [nodeD_eq]
                  exact .mk2 (Tp.of (s10 _ _ upd_same)) (dP.same sA) dK
                refine fin _ pr (.ref pn) Dm xm (.mk prs (cs.map (·.1))) ms xA (D6.same sA) (Tp.of upd_same) dN (sA _ _ hxm6) (dxm6.same sA) ?_ ?_ mo
                · have f3 : H3 Dm = none := hDm
                  have f2 := xt_free x3 mn.1 f3
                  have f1 := xt_free x2 mn.1 f2
                  exact xt_free x1 mn.1 f1
                · cases m with
                  | zero =>
                    refine ⟨pso, ?_⟩
                    have : cs = [] := List.eq_nil_of_length_eq_zero (by rw [lcm]; exact mz rfl)
                    rw [this]
                    rfl
                  | succ m' =>
                    refine ⟨pso, ?_, ?_, fun k hk => ?_⟩
                    · show 0 < (cs.map (·.1)).length
                      rw [List.length_map, lcm]
                      exact mp (by omega)
                    · show (cs.map (·.1)).length ≤ 3
                      rw [List.length_map, lcm]
                      exact mm3
                    · obtain ⟨c, hc, rfl⟩ := List.mem_map.mp hk
                      obtain ⟨m2, em, nv, _⟩ := pc c hc
                      have : m' = m2 := by omega
                      subst this
                      exact nv
def sp_nodeA (K : PySem.W.Frag) : Sp := fun vs H Q E => ∃ m : Nat, m ≤ 2 ∧ sp_node K m vs H Q E
theorem ok__law_node (T : Top w K mg) : FnOk P w K mg base CX0 7 T.a__law_node T.d__law_node ["d", "goods", "time", "last", "wild"] (sp_nodeA K) := by
  have z : FnOk P w K mg base CX0 4 T.a__law_node T.d__law_node ["d", "goods", "time", "last", "wild"] (spPrev K 0) := ⟨fun _ _ _ _ h => h.elim, fun _ _ _ _ _ _ _ _ _ _ _ _ _ h => h.elim⟩
  have f0 := node_step T (k := 4) (m := 0) (by decide) (by decide) z
  have f1 := node_step T (k := 5) (m := 1) (by decide) (by decide) f0
  have f2 := node_step T (k := 6) (m := 2) (by decide) (by decide) f1
  refine ⟨fun vs H Q E h => ?_, fun A outer s H args us vs Q E hr e0 hb hv h => ?_⟩
  · obtain ⟨m, _, _, _, _, _, _, rfl, _⟩ := h
    rfl
  · obtain ⟨m, hm, h⟩ := h
    match m, hm, h with
    | 0, _, h => exact (f0.mono (by decide)).run A outer s H args us vs Q E hr e0 hb hv h
    | 1, _, h => exact (f1.mono (by decide)).run A outer s H args us vs Q E hr e0 hb hv h
    | 2, _, h => exact f2.run A outer s H args us vs Q E hr e0 hb hv h
def sp_market (K : PySem.W.Frag) : Sp := fun vs H Q _ => ∃ pd ps : Addr, vs = [.ref pd, .int 4] ∧ Dst H pd ps ∧ ∀ v g n m H', Xt pd H H' → Dst H' pd ps → DT K H' v (marketD g n) → 1 ≤ g → g ≤ 4 → m ≤ 2 → NV g m n → Q v H'
theorem ok__law_market (T : Top w K mg) : FnOk P w K mg base CX0 8 T.a__law_market T.d__law_market ["d", "most"] (sp_market K) := by
  refine T._law_market_F.ok sc__law_market (fun vs H Q E h => ?_) (fun cdv A outer s H vs Q E hr h => ?_)
  · obtain ⟨_, _, rfl, _⟩ := h
    rfl
  · obtain ⟨pd, ps, rfl, D, fin⟩ := h
    have b5 : ∀ {x : Int}, 0 ≤ x → x ≤ 7 → Bd 8000 x := fun h0 h1 => Bd.mono (k := 3) (by unfold Bd; omega) (by decide)
    refine ⟨_, (pss_cons (ps_set (i := 2) sc__law_market.nd rfl (Or.inl rfl) (pe_op op_add pe_int (pe_call (ok__law_take T) (hr.mono (by decide : 1 ≤ 7)) (by rfl) T.g__law_take T._law_take_F.kp T._law_take_b .nil pass0 (pa_cons (pv 0) (pa_cons (pv 1) pa_nil)))))
      (Evl.pss_cut (ps_if (PW.pt (pw_and (pt_cmpR op_eq (pv 2) pe_int (nomark _)) (pw_and1 (pt_cmpR op_gt (pe_call (ok__law_take T) (hr.mono (by decide : 1 ≤ 7)) (by rfl) T.g__law_take T._law_take_F.kp T._law_take_b .nil pass0 (pa_cons (pv 0) (pa_cons pe_int pa_nil))) pe_int (nomark _))))) (pss_one (ps_set (i := 2) sc__law_market.nd rfl (Or.inl rfl) pe_int)) pss_nil)
      (pss_cons (ps_set (i := 3) sc__law_market.nd rfl (Or.inl rfl) (pe_cmpR op_eq (pe_call (ok__law_take T) (hr.mono (by decide : 1 ≤ 7)) (by rfl) T.g__law_take T._law_take_F.kp T._law_take_b .nil pass0 (pa_cons (pv 0) (pa_cons pe_int pa_nil))) pe_int (nomark _)))
      (pss_one (ps_ret (pe_tup (pa_cons (pv 2) (pa_cons (pe_ix ix_tup (pe_call (ok__law_node T) (hr.mono (by decide : 7 ≤ 7)) (by rfl) T.g__law_node T._law_node_F.kp T._law_node_b .nil pass0 (pa_cons (pv 0) (pa_cons (pv 2) (pa_cons pe_int (pa_cons (pe_call (ok__law_take T) (hr.mono (by decide : 1 ≤ 7)) (by rfl) T.g__law_take T._law_take_F.kp T._law_take_b .nil pass0 (pa_cons (pv 0) (pa_cons pe_int pa_nil))) (pa_cons (pv 3) pa_nil)))))) pe_int (fun _ _ => rfl)) pa_nil)))))))), ?_⟩
    refine ⟨_, rfl, _, rfl, pd, ps, 4, rfl, D, by decide, b5 (by decide) (by decide), fun r H1 x1 D1 r0 r1 => ⟨_, _, rfl, rfl, ?_⟩⟩
    refine ⟨fun σ' H2 => ∃ g : Int, σ' = [some (.ref pd), some (.int 4), some (.int g), none] ∧ Xt pd H H2 ∧ Dst H2 pd ps ∧ 1 ≤ g ∧ g ≤ 4, ?_, ?_⟩
    · refine ⟨_, rfl, rfl, _, rfl, ite2 (fun e => ?_) (fun e => iteF ⟨1 + r, rfl, x1, D1, by omega, by omega⟩)⟩
      refine ⟨_, rfl, pd, ps, 3, rfl, D1, by decide, b5 (by decide) (by decide), fun q H2 x2 D2 q0 q1 => ⟨_, _, rfl, rfl, _, rfl, ite2 (fun e2 => ?_) (fun e2 => ?_)⟩⟩
      · exact ⟨2, rfl, x1.trans x2, D2, by decide, by decide⟩
      · exact ⟨1 + r, rfl, x1.trans x2, D2, by omega, by omega⟩
    · rintro σ' H2 ⟨g, rfl, x2, D2, g1, g4⟩
      refine ⟨_, rfl, pd, ps, 5, rfl, D2, by decide, b5 (by decide) (by decide), fun q H3 x3 D3 q0 q1 => ⟨rfl, ?_⟩⟩
      refine ⟨_, rfl, _, rfl, _, rfl, _, rfl, pd, ps, 3, rfl, D3, by decide, b5 (by decide) (by decide), fun l H4 x4 D4 l0 l1 => ?_⟩
      refine ⟨_, rfl, l.toNat, by omega, pd, ps, g, 0, decide (V.int q = V.int 1), ?_, D4, g1, g4, fun H5 a vn pm xs n ms x5 D5 ha dvn _ _ _ nv _ => ?_⟩
      · have : (0 : Int) + (l.toNat : Int) = l := by omega
        rw [this]
        rfl
      · refine ⟨_, _, _, _, rfl, rfl, ha.sq, atI_nat (j := 0) rfl, two_le, fun pt hpt => ?_⟩
        have s6 := same_new (o := .tup [.int g, vn]) hpt
        exact fin _ g n l.toNat _ ((((x2.trans x3).trans x4).trans x5).trans (Xt.of s6)) (D5.same s6) (.mk2 (Tp.of upd_same) (.int g) (dvn.same s6)) g1 g4 (by omega) nv
end
end Nl

namespace Nl
open PySem PySem.Spec PyProof.Rows L2
section
variable {P : Program} {w : World} {K : PySem.W.Frag} {mg : Str → Option Value} {base : Heap}
def sp_find (K : PySem.W.Frag) : Sp := fun vs H Q _ => ∃ (v va : V) (g : Int) (n : Node) (p : List Int), vs = [v, va] ∧ DT K H v (marketD g n) ∧ DT K H va (pathD p) ∧ (find n p = none → Q .non H) ∧ (∀ m, find n p = some m → ∀ v', DT K H v' (nodeD m) → Q v' H)
theorem ok__law_find (T : Top w K mg) : FnOk P w K mg base CX0 1 T.a__law_find T.d__law_find ["market", "path"] (sp_find K) := by
  refine T._law_find_F.ok sc__law_find (fun vs H Q E h => ?_) (fun cdv A outer s H vs Q E hr h => ?_)
  · obtain ⟨_, _, _, _, _, rfl, _⟩ := h
    rfl
  · obtain ⟨_, _, g, n, p, rfl, dm, dp, kN, kQ⟩ := h
    obtain ⟨m, vn, rfl, hm, dn⟩ := dm.market_inv
    obtain ⟨a, rfl, ha⟩ := dp.path_inv
    refine ⟨_, (pss_cons (ps_set (i := 2) sc__law_find.nd rfl (Or.inl rfl) (pe_ix ix_tup (pv 0) pe_int (fun _ _ => rfl)))
      (pss_cons (ps_for PassesOwn.never rfl (pi_tup (pv 1)) (pg_name (i := 3) sc__law_find.nd rfl (Or.inl rfl)) (pss_cons (ps_if (PW.pt (pw_or (pt_cmpR op_lt (pv 3) pe_int (nomark _)) (pw_or1 (pt_cmpR op_ge (pv 3) (pe_callB call_lenT (by rfl) T.n_len (by decide +kernel) (pa_cons (pe_ix ix_tup (pv 2) pe_int (fun _ _ => rfl)) pa_nil)) (nomark _))))) (pss_one (ps_ret pe_non)) pss_nil)
      (pss_one (ps_set (i := 2) sc__law_find.nd rfl (Or.inl rfl) (pe_ix ix_tup (pe_ix ix_tup (pv 2) pe_int (fun _ _ => rfl)) (pv 3) (fun _ _ => rfl))))))
      (pss_one (ps_ret (pv 2))))), ?_⟩
    refine ⟨_, rfl, _, _, _, _, rfl, rfl, hm.sq, atI_nat (j := 1) rfl, ?_⟩
    refine ⟨_, rfl, a, rfl, ⟨_, ha.sq⟩, for_tup (fun i σ H' => ∃ (vn : V) (m' : Node) (y : Option V), σ = [some (.ref m), some (.ref a), some vn, y] ∧ H' = H ∧ DT K H vn (nodeD m') ∧ find n p = find m' (p.drop i)) ⟨vn, n, none, rfl, rfl, dn, rfl⟩ (fun i σ H' _ ⟨_, _, _, _, e, _⟩ => (e ▸ ha).sq) ?_ ?_⟩
    · rintro i x σ H' hi ⟨vn, m', y, rfl, rfl, dk, ef⟩
      rw [List.getElem?_map] at hi
      obtain ⟨j, hj, rfl⟩ := Option.map_eq_some_iff.mp hi
      obtain ⟨c, vq, vc, rfl, hc, dq, dc⟩ := dk.node_inv
      obtain ⟨cc, xk, rfl, hcc, dks⟩ := dc.inv
      have lk : xk.length = m'.ks.length := by rw [dks.len, List.length_map]
      have il := (List.getElem?_eq_some_iff.mp hj).1
      have ed : p.drop i = j :: p.drop (i + 1) := by
        rw [List.drop_eq_getElem_cons il]
        rw [List.getElem?_eq_getElem il] at hj
        rw [Option.some.inj hj]
      have out : ¬ (0 ≤ j ∧ j < (m'.ks.length : Int)) → find n p = none := fun z => by
        rw [ef, ed]
        exact find_out z
      refine ⟨_, rfl, _, _, rfl, rfl, _, rfl, ite2 (fun e1 => iteT (kN (out fun z => ?_))) (fun e1 => ⟨_, rfl, _, rfl, _, _, _, _, rfl, rfl, hc.sq, atI_nat (j := 1) rfl, _, _, rfl, (hcc).sq, _, _, rfl, rfl, _, rfl, ite2 (fun e2 => ?_) (fun e2 => ?_)⟩)⟩
      · have : j < 0 := of_decide_eq_true e1
        omega
      · exact kN (out fun z => by
          have : (xk.length : Int) ≤ j := of_decide_eq_true e2
          omega)
      · have j0 : ¬ j < 0 := fun z => e1 (decide_eq_true z)
        have j1 : ¬ (xk.length : Int) ≤ j := fun z => e2 (decide_eq_true z)
        obtain ⟨jn, rfl⟩ := Int.eq_ofNat_of_zero_le (show 0 ≤ j by omega)
        have hk : m'.ks[jn]? = some m'.ks[jn] := List.getElem?_eq_getElem (by omega)
        obtain ⟨xx, hxx, dxx⟩ := dks.at_ (i := jn) (d := nodeD m'.ks[jn]) (by rw [List.getElem?_map, hk]; rfl)
        refine ⟨_, rfl, _, _, _, _, rfl, rfl, hc.sq, atI_nat (j := 1) rfl, _, rfl, _, _, _, _, rfl, rfl, hcc.sq, atI_nat hxx, xx, _, _, rfl, rfl, dxx, ?_⟩
        rw [ef, ed, find_cons, hk]
        rfl
    · rintro σ H' ⟨vn, m', y, rfl, rfl, dk, ef⟩
      rw [List.length_map, List.drop_length] at ef
      exact ⟨_, rfl, kQ m' ef _ dk⟩
def sp_nodes (K : PySem.W.Frag) : Sp := fun vs H Q _ => ∃ (v : V) (g : Int) (n : Node), vs = [v] ∧ DT K H v (marketD g n) ∧ (pre [] n).length ≤ 200 ∧ (∀ x ∈ pre [] n, x.1.length ≤ 6) ∧ ∀ p xs H', Same H H' → H p = none → H' p = some (.lst xs) → DTs K H' xs ((pre [] n).map entD) → Q (.ref p) H'
theorem ok__law_nodes (T : Top w K mg) : FnOk P w K mg base CX0 4 T.a__law_nodes T.d__law_nodes ["market"] (sp_nodes K) := by
  refine T._law_nodes_F.ok sc__law_nodes (fun vs H Q E h => ?_) (fun cdv A outer s H vs Q E hr h => ?_)
  · obtain ⟨_, _, _, rfl, _⟩ := h
    rfl
  · obtain ⟨v, g, n, rfl, dm, hn, h6, fin⟩ := h
    obtain ⟨m, vn, rfl, hm, dn⟩ := id dm.market_inv
    refine ⟨_, (pss_cons (ps_set (i := 1) sc__law_nodes.nd rfl (Or.inl rfl) (pe_lst pa_nil))
      (pss_cons (ps_set (i := 2) sc__law_nodes.nd rfl (Or.inl rfl) (pe_lst (pa_cons (pe_tup (pa_cons (pe_tup pa_nil) (pa_cons (pe_ix ix_tup (pv 0) pe_int (fun _ _ => rfl)) pa_nil))) pa_nil)))
      (pss_cons (ps_for PassesOwn.never rfl (pi_range1 rfl T.n_range (pa_cons pe_int pa_nil)) (pg_name (i := 3) sc__law_nodes.nd rfl (Or.inl rfl)) (pss_cons (ps_set (i := 1) sc__law_nodes.nd rfl (Or.inl rfl) (pe_op op_cat (pv 1) (pv 2)))
      (pss_cons (ps_set (i := 4) sc__law_nodes.nd rfl (Or.inl rfl) (pe_lst pa_nil))
      (pss_cons (ps_for PassesOwn.never rfl (pi_list (pv 2)) (pg_tup rfl (pgs_cons (pg_name (i := 5) sc__law_nodes.nd rfl (Or.inr rfl)) (pgs_cons (pg_name (i := 6) sc__law_nodes.nd rfl (Or.inr rfl)) pgs_nil))) (pss_one (ps_set (i := 4) sc__law_nodes.nd rfl (Or.inl rfl) (pe_op op_cat (pv 4) (pe_lc (own := [("k", 7)]) (g := (gName 7)) (tt := tYes) (by rfl) sc__law_nodes.nd (pi_range1 rfl T.n_range (pa_cons (pe_callB call_lenT (by rfl) T.n_len (by decide +kernel) (pa_cons (pe_ix ix_tup (pv 6) pe_int (fun _ _ => rfl)) pa_nil)) pa_nil)) (blkOk_by (own := [("k", 7)]) (N := ["market", "rows", "level", "turn", "fresh", "path", "node", "k", "row"]) (sc := defScope s__law_nodes) (by decide +kernel)) (fun _ _ _ _ _ => (pg_name (i := 7) sc__law_nodes.nd rfl (Or.inl rfl))) (fun _ _ _ _ _ => pts_nil) (fun _ _ _ _ _ => (pe_tup (pa_cons (pe_op (r := rCatP K) op_catP (pv 5) (pe_tup (pa_cons (pv 7) pa_nil))) (pa_cons (pe_ix (r := rIxT K) ix_tup (pe_ix (r := rIxT K) ix_tup (pv 6) pe_int (fun _ _ => rfl)) (pv 7) (fun _ _ => rfl)) pa_nil)))))))))
      (pss_one (ps_set (i := 2) sc__law_nodes.nd rfl (Or.inl rfl) (pv 4)))))))
      (pss_one (ps_ret (pe_lc (own := [("path", 5)]) (g := (gName 5)) (tt := tYes) (by rfl) sc__law_nodes.nd (pi_list (pe_callB (cr_sortQ (hr.mono (by decide))) (by rfl) T.n_sorted (by decide +kernel) (pa_cons (pe_lc (own := [("row", 8)]) (g := (gName 8)) (tt := tYes) (by rfl) sc__law_nodes.nd (pi_list (pv 1)) (blkOk_by (own := [("row", 8)]) (N := ["market", "rows", "level", "turn", "fresh", "path", "node", "k", "row"]) (sc := defScope s__law_nodes) (by decide +kernel)) (fun _ _ _ _ _ => (pg_name (i := 8) sc__law_nodes.nd rfl (Or.inl rfl))) (fun _ _ _ _ _ => pts_nil) (fun _ _ _ _ _ => (pe_ix (r := rIxT K) ix_tup (pv 8) pe_int (fun _ _ => rfl)))) pa_nil))) (blkOk_by (own := [("path", 5)]) (N := ["market", "rows", "level", "turn", "fresh", "path", "node", "k", "row"]) (sc := defScope s__law_nodes) (by decide +kernel)) (fun _ _ _ _ _ => (pg_name (i := 5) sc__law_nodes.nd rfl (Or.inl rfl))) (fun _ _ _ _ _ => pts_nil) (fun _ _ _ _ _ => (pe_tup (pa_cons (pv 5) (pa_cons (pe_call (ok__law_find T) (hr.mono (by decide : 1 ≤ 3)) (by rfl) T.g__law_find T._law_find_F.kp T._law_find_b .nil pass0 (pa_cons (pv 0) (pa_cons (pv 5) pa_nil))) pa_nil)))))))))), ?_⟩
    refine ⟨Nat.zero_le _, fun pr hpr => ?_⟩
    have s1 := same_new (o := .lst []) hpr
    refine ⟨Nat.zero_le _, fun pe he => ?_⟩
    have s2 := s1.trans (same_new (o := .tup []) he)
    refine ⟨_, rfl, _, _, _, _, rfl, rfl, (tp_same s2 hm).sq, atI_nat (j := 1) rfl, two_le, fun pt ht => ⟨(by decide : 1 ≤ sizeLine), fun pl hl => ?_⟩⟩
    have s3 := s2.trans (same_new (o := .tup [.ref pe, vn]) ht)
    have s4 := s3.trans (same_new (o := .lst [.ref pt]) hl)
    have dE : DT K (upd (upd (upd (upd H pr (.lst [])) pe (.tup [])) pt (.tup [.ref pe, vn])) pl (.lst [.ref pt])) (.ref pt) (entD ([], n)) := by
      refine .mk2 (Tp.of (same_new hl _ _ upd_same)) ?_ (dn.same s4)
      exact DT.path (Tp.of (same_new hl _ _ (same_new ht _ _ upd_same)))
    have hr0 : (upd (upd (upd (upd H pr (.lst [])) pe (.tup [])) pt (.tup [.ref pe, vn])) pl (.lst [.ref pt])) pr = some (.lst []) := same_new hl _ _ (same_new ht _ _ (same_new he _ _ upd_same))
    refine ⟨7, rfl, by decide, by decide, for_range (lo := 0) (n := (7 : Int).toNat) (fun t σ H' => ∃ (pr pl : Addr) (xr xl : List V) (y3 y4 y5 y6 : Option V), σ = [some (.ref m), some (.ref pr), some (.ref pl), y3, y4, y5, y6, none, none] ∧ Same H H' ∧ H' pr = some (.lst xr) ∧ DTs K H' xr ((rowsN n t).map entD) ∧ H' pl = some (.lst xl) ∧ DTs K H' xl ((lv n t).map entD)) ⟨pr, pl, [], [.ref pt], _, _, _, _, rfl, s4, hr0, .nil, upd_same, .cons dE .nil⟩ ?_ ?_⟩
    · rintro t σ H1 ht7 ⟨pr, pl, xr, xl, y3, y4, y5, y6, rfl, sm, hpr, dxr, hpl, dxl⟩
      have lr : xr.length = (rowsN n t).length := by rw [dxr.len, List.length_map]
      have ll : xl.length = (lv n t).length := by rw [dxl.len, List.length_map]
      have b1 := rows_len n t
      have b2 := lv_le n t
      refine ⟨_, rfl, _, rfl, _, _, _, _, rfl, rfl, hpr, hpl, len1000 (by omega), fun pr2 hp2 => ?_⟩
      have s5 := same_new (o := .lst (xr ++ xl)) hp2
      refine ⟨Nat.zero_le _, fun pf hpf => ?_⟩
      have s6 := s5.trans (same_new (o := .lst []) hpf)
      have hr2 : (upd (upd H1 pr2 (.lst (xr ++ xl))) pf (.lst [])) pr2 = some (.lst (xr ++ xl)) := same_new hpf _ _ upd_same
      have hl2 := s6 _ _ hpl
      have dl2 := dxl.same s6
      have dr2 : DTs K (upd (upd H1 pr2 (.lst (xr ++ xl))) pf (.lst [])) (xr ++ xl) ((rowsN n (t + 1)).map entD) := by
        show DTs K _ _ ((rowsN n t ++ lv n t).map entD)
        rw [List.map_append]
        exact (dxr.same s6).app dl2
      have hf0 : (upd (upd H1 pr2 (.lst (xr ++ xl))) pf (.lst [])) pf = some (.lst []) := upd_same
      generalize (upd (upd H1 pr2 (.lst (xr ++ xl))) pf (.lst [])) = H2 at *
      refine ⟨_, rfl, pl, rfl, ⟨_, SqL.of hl2⟩, for_list (K := K) (a := pl) (xs := xl) (fun j σ H' => ∃ (pf : Addr) (xf : List V) (y5 y6 : Option V), σ = [some (.ref m), some (.ref pr2), some (.ref pl), some (.int (0 + (t : Int))), some (.ref pf), y5, y6, none, none] ∧ Same H2 H' ∧ H' pf = some (.lst xf) ∧ DTs K H' xf ((((lv n t).take j).flatMap kidsOf).map entD)) ⟨pf, [], _, _, rfl, Same.refl _, hf0, .nil⟩ (fun i σ H' _ ⟨_, _, _, _, _, sm', _⟩ => SqL.of (sm' _ _ hl2)) ?_ ?_⟩
      · rintro j x σ H3 hj ⟨pf, xf, y5, y6, rfl, sm3, hf3, df3⟩
        obtain ⟨d, hd, dx⟩ := dl2.get hj
        rw [List.getElem?_map] at hd
        obtain ⟨e, he, rfl⟩ := Option.map_eq_some_iff.mp hd
        have em : e ∈ pre [] n := lv_mem n t e (List.mem_of_getElem? he)
        have ke := kids_mem_le em
        have e6 := h6 e em
        obtain ⟨b, vp, vk, rfl, hb2, dp, dk⟩ := (dx.same sm3).entD_inv
        obtain ⟨c, vq, vc, rfl, hc, dq, dc⟩ := dk.node_inv
        obtain ⟨cc, xk, rfl, hcc, dks⟩ := dc.inv
        obtain ⟨ap, rfl, hap⟩ := dp.path_inv
        have lk : xk.length = e.2.ks.length := by rw [dks.len, List.length_map]
        refine ⟨_, _, rfl, hb2.sq, rfl, _, _, rfl, _, _, rfl, rfl, ?_⟩
        refine ⟨_, rfl, _, rfl, _, _, _, _, rfl, rfl, hc.sq, atI_nat (j := 1) rfl, _, _, rfl, hcc, (xk.length : Int), rfl, by omega, by omega, fun D hD => lc_range (lo := 0) (n := (xk.length : Int).toNat) (fun i H' => ∃ o, Same H3 H' ∧ H' D = some (.lst o) ∧ DTs K H' o (((kidsOf e).take i).map entD)) ⟨[], same_new hD, upd_same, .nil⟩ ?_ ?_⟩
        · rintro i H4 hi ⟨o, s4', hO, dO⟩
          refine ⟨rfl, ?_⟩
          dsimp only [tYes]
          rw [if_pos rfl]
          have e0 : ((0 : Int) + (i : Int)) = (i : Int) := Int.zero_add _
          have hk : e.2.ks[i]? = some e.2.ks[i] := List.getElem?_eq_getElem (by omega)
          obtain ⟨xx, hxx, dxx⟩ := dks.at_ (i := i) (d := nodeD e.2.ks[i]) (by rw [List.getElem?_map, hk]; rfl)
          refine ⟨_, rfl, _, rfl, (by decide : 1 ≤ sizeLine), fun p1 hp1 => ?_⟩
          have s5' := same_new (o := .tup [.int ((0 : Int) + (i : Int))]) hp1
          refine ⟨ap, p1, _, _, rfl, rfl, tp_same (s4'.trans s5') hap, Tp.of upd_same, ?_, fun p2 H5 s6' hp2 => ?_⟩
          · rw [List.length_map]
            exact len1000 (show e.1.length + 1 ≤ 1000 by omega)
          have s56 := s5'.trans s6'
          refine ⟨_, rfl, _, _, _, _, rfl, rfl, (tp_same (s4'.trans s56) hc).sq, atI_nat (j := 1) rfl, _, rfl, _, _, _, _, rfl, rfl, (tp_same (s4'.trans s56) hcc).sq, by rw [e0]; exact atI_nat hxx, two_le, fun p3 hp3 => ?_⟩
          have s7 := same_new (o := .tup [.ref p2, xx]) hp3
          have s567 := s56.trans s7
          refine ⟨o, s567 _ _ hO, ?_, _, same_mut (s4'.trans s567) hD, upd_same, ?_⟩
          · rw [dO.len, List.length_map]
            exact Nat.lt_of_le_of_lt (List.length_take_le' _ _) (small1000 (by rw [kids_len]; omega))
          · have iD : IsL (upd H5 p3 (.tup [.ref p2, xx])) D := ⟨_, s567 _ _ hO⟩
            rw [take_next (kids_get hk), List.map_append]
            refine ((dO.same s567).xt iD Xt.upd).snoc ?_
            rw [e0] at hp2
            have hq : Tp H5 p2 ((e.1 ++ [(i : Int)]).map V.int) := by
              rw [List.map_append]
              exact hp2
            exact DT.xt (.mk2 (Tp.of upd_same) ((DT.path hq).same s7) ((dxx.same (s4'.trans s56)).same s7)) iD Xt.upd
        · rintro H4 ⟨o, s4', hO, dO⟩
          have et : (kidsOf e).take ((xk.length : Int).toNat) = kidsOf e := List.take_of_length_le (by rw [kids_len]; omega)
          rw [et] at dO
          have hf4 := s4' _ _ hf3
          refine ⟨_, _, _, _, rfl, rfl, hf4, hO, ?_, fun p hp => ?_⟩
          · rw [df3.len, dO.len, List.length_map, List.length_map, kids_len]
            have h1 : (((lv n t).take j).flatMap kidsOf).length ≤ (lv n (t + 1)).length := by
              show _ ≤ ((lv n t).flatMap kidsOf).length
              rw [← List.take_append_drop j (lv n t), List.flatMap_append, List.length_append, List.take_append_drop]
              omega
            have h2 := lv_le n (t + 1)
            exact len1000 (by omega)
          · have s8 := same_new (o := .lst (xf ++ o)) hp
            refine ⟨p, xf ++ o, _, _, rfl, (sm3.trans s4').trans s8, upd_same, ?_⟩
            rw [take_next he, List.flatMap_append, List.map_append]
            refine ((df3.same s4').same s8).app ?_
            rw [List.flatMap_singleton]
            exact dO.same s8
      · rintro σ H3 ⟨pf, xf, y5, y6, rfl, sm3, hf3, df3⟩
        rw [ll, List.take_length] at df3
        exact ⟨_, rfl, pr2, pf, _, _, _, _, _, _, rfl, (sm.trans s6).trans sm3, sm3 _ _ hr2, dr2.same sm3, hf3, df3⟩
    · rintro σ H1 ⟨pr, pl, xr, xl, y3, y4, y5, y6, rfl, sm, hpr, dxr, hpl, dxl⟩
      have dxr : DTs K H1 xr ((rowsN n 7).map entD) := dxr
      have lr : xr.length = (rowsN n 7).length := by rw [dxr.len, List.length_map]
      have b1 := rows_len n 7
      -- [row[0] for row in rows]
      refine ⟨_, rfl, pr, rfl, ⟨_, SqL.of hpr⟩, fun D hD => lc_list (K := K) (a := pr) (xs := xr) (fun i H' => ∃ o, Same H1 H' ∧ H' D = some (.lst o) ∧ DTs K H' o ((((rowsN n 7).take i).map (·.1)).map pathD)) ⟨[], same_new hD, upd_same, .nil⟩ (fun i H' _ ⟨_, sm', _⟩ => SqL.of (sm' _ _ hpr)) ?_ ?_⟩
      · rintro i x H' hi ⟨o, sm', hO, dO⟩
        obtain ⟨d, hd, dx⟩ := dxr.get hi
        rw [List.getElem?_map] at hd
        obtain ⟨e, he, rfl⟩ := Option.map_eq_some_iff.mp hd
        obtain ⟨b, vp, vk, rfl, hb2, dp, dk⟩ := (dx.same sm').entD_inv
        refine ⟨rfl, ?_⟩
        dsimp only [tYes]
        rw [if_pos rfl]
        have iD : IsL H' D := ⟨_, hO⟩
        refine ⟨_, rfl, _, _, _, _, rfl, rfl, hb2.sq, atI_nat (j := 0) rfl, o, hO, ?_, _, same_mut sm' hD, upd_same, ?_⟩
        · rw [dO.len, List.length_map, List.length_map]
          exact Nat.lt_of_le_of_lt (List.length_take_le' _ _) (small1000 (by omega))
        · rw [take_next he, List.map_append, List.map_append]
          exact (dO.xt iD Xt.upd).snoc (dp.xt iD Xt.upd)
      · rintro H2 ⟨o, s2, hO, dO⟩
        rw [lr, List.take_length] at dO
        refine ⟨D, o, (rowsN n 7).map (fun e : PN => e.1), rfl, SqL.of hO, dO, fun p hp => ?_, fun ys k p2 hperm hk hs hp2 => ?_⟩
        · rw [List.getElem?_map, rows_head n 6] at hp
          exact (Option.some.inj hp).symm
        have s3 := same_new (o := .lst ys) hp2
        have hy2 : (upd H2 p2 (.lst ys)) p2 = some (.lst ys) := upd_same
        have dO3 := dO.same s3
        have yk : ys.map k = (pre [] n).map (·.1) := by
          refine uniq_srt (((hperm.map k).trans (by rw [hk])).trans ((rows_all h6).symm.map _)) ?_ (paths_sorted n)
          rw [List.pairwise_map]
          exact hs
        have dy : ∀ (i : Nat) (y : V), ys[i]? = some y → DT K (upd H2 p2 (.lst ys)) y (pathD (k y)) := by
          intro i y hy
          have hm := hperm.mem_iff.mp (List.mem_of_getElem? hy)
          obtain ⟨j, hj, rfl⟩ := List.mem_iff_getElem.mp hm
          obtain ⟨d, hd, dx⟩ := dO3.get (List.getElem?_eq_getElem hj)
          rw [List.getElem?_map] at hd
          obtain ⟨q, hq, rfl⟩ := Option.map_eq_some_iff.mp hd
          have : k o[j] = q := by
            have h1 := congrArg (·[j]?) hk
            simp only [List.getElem?_map, List.getElem?_eq_getElem hj] at h1
            rw [List.getElem?_map] at hq
            rw [hq] at h1
            exact Option.some.inj h1
          rw [this]
          exact dx
        have ly : ys.length = (pre [] n).length := by
          have := congrArg List.length yk
          simpa using this
        generalize (upd H2 p2 (.lst ys)) = H3 at *
        have dm3 := dm.same ((sm.trans s2).trans s3)
        refine ⟨p2, rfl, ⟨_, SqL.of hy2⟩, fun D2 hD2 => lc_list (K := K) (a := p2) (xs := ys) (fun i H' => ∃ o, Same H3 H' ∧ H' D2 = some (.lst o) ∧ DTs K H' o (((pre [] n).take i).map entD)) ⟨[], same_new hD2, upd_same, .nil⟩ (fun i H' _ ⟨_, sm', _⟩ => SqL.of (sm' _ _ hy2)) ?_ ?_⟩
        · rintro i y H' hi ⟨o2, sm', hO2, dO2⟩
          have il := (List.getElem?_eq_some_iff.mp hi).1
          have he : (pre [] n)[i]? = some (pre [] n)[i] := List.getElem?_eq_getElem (by omega)
          have ek : k y = (pre [] n)[i].1 := by
            have h1 := congrArg (·[i]?) yk
            simp only [List.getElem?_map, hi, he] at h1
            exact Option.some.inj h1
          have dyi := dy i y hi
          rw [ek] at dyi
          obtain ⟨r, er, hf⟩ := pre_find _ ([], n) _ (Nat.le_refl _) (List.mem_of_getElem? he)
          have er' : (pre [] n)[i].1 = r := er
          rw [← er'] at hf
          refine ⟨rfl, ?_⟩
          dsimp only [tYes]
          rw [if_pos rfl]
          refine ⟨_, rfl, _, rfl, _, rfl, _, _, g, n, _, rfl, dm3.same sm', dyi.same sm', fun z => (by rw [show find n (pre [] n)[i].1 = some (pre [] n)[i].2 from hf] at z; cases z), fun m' em v' dv => ⟨two_le, fun p3 hp3 => ?_⟩⟩
          have em2 : m' = (pre [] n)[i].2 := by
            rw [show find n (pre [] n)[i].1 = some (pre [] n)[i].2 from hf] at em
            exact (Option.some.inj em).symm
          subst em2
          have s4 := same_new (o := .tup [y, v']) hp3
          have iD : IsL (upd H' p3 (.tup [y, v'])) D2 := ⟨_, s4 _ _ hO2⟩
          refine ⟨o2, s4 _ _ hO2, ?_, _, same_mut (sm'.trans s4) hD2, upd_same, ?_⟩
          · rw [dO2.len, List.length_map]
            exact Nat.lt_of_le_of_lt (List.length_take_le' _ _) (small1000 (by omega))
          · rw [take_next he, List.map_append]
            refine ((dO2.same s4).xt iD Xt.upd).snoc ?_
            exact DT.xt (.mk2 (Tp.of upd_same) ((dyi.same sm').same s4) (dv.same s4)) iD Xt.upd
        · rintro H4 ⟨o2, s4, hO2, dO2⟩
          rw [ly, List.take_length] at dO2
          refine fin D2 o2 H4 (((sm.trans s2).trans s3).trans s4) ?_ hO2 dO2
          exact (((sm.trans s2).trans s3)).free hD2
def sp_lprices (K : PySem.W.Frag) : Sp := fun vs H Q _ => ∃ (v va : V) (g : Int) (n m : Node) (p : List Int), vs = [v, va] ∧ DT K H v (marketD g n) ∧ DT K H va (pathD p) ∧ find n p = some m ∧ m.ps.length ≤ 900 ∧ ∀ v' H', Same H H' → DT K H' v' (.tuple (prD ((1, 1), (1, 1)) :: m.ps.map prD)) → Q v' H'
theorem ok__law_prices (T : Top w K mg) : FnOk P w K mg base CX0 2 T.a__law_prices T.d__law_prices ["market", "path"] (sp_lprices K) := by
  refine T._law_prices_F.ok sc__law_prices (fun vs H Q E h => ?_) (fun cdv A outer s H vs Q E hr h => ?_)
  · obtain ⟨_, _, _, _, _, _, rfl, _⟩ := h
    rfl
  · obtain ⟨_, _, g, n, m, p, rfl, dm, dp, em, lm, fin⟩ := h
    refine ⟨_, (pss_one (ps_ret (pe_op op_catP (pe_tup (pa_cons (pe_tup (pa_cons (pe_tup (pa_cons pe_int (pa_cons pe_int pa_nil))) (pa_cons (pe_tup (pa_cons pe_int (pa_cons pe_int pa_nil))) pa_nil))) pa_nil)) (pe_ix ix_tup (pe_call (ok__law_find T) (hr.mono (by decide : 1 ≤ 1)) (by rfl) T.g__law_find T._law_find_F.kp T._law_find_b .nil pass0 (pa_cons (pv 0) (pa_cons (pv 1) pa_nil))) pe_int (fun _ _ => rfl))))), ?_⟩
    refine ⟨two_le, fun p1 h1 => ⟨two_le, fun p2 h2 => ⟨two_le, fun p3 h3 => ⟨(by decide : 1 ≤ sizeLine), fun p4 h4 => ?_⟩⟩⟩⟩
    have s1 := same_new (o := .tup [.int 1, .int 1]) h1
    have s2 := same_new (o := .tup [.int 1, .int 1]) h2
    have s3 := same_new (o := .tup [.ref p1, .ref p2]) h3
    have s4 := same_new (o := .tup [.ref p3]) h4
    have sm := ((s1.trans s2).trans s3).trans s4
    have dO : DT K _ (.ref p3) (prD ((1, 1), (1, 1))) := .mk2 (Tp.of (s4 _ _ upd_same)) (DT.fr (Tp.of (s4 _ _ (s3 _ _ (s2 _ _ upd_same))))) (DT.fr (Tp.of (s4 _ _ (s3 _ _ upd_same))))
    refine ⟨_, rfl, _, rfl, _, _, g, n, p, rfl, dm.same sm, dp.same sm, fun z => (by rw [em] at z; cases z), fun m' em' v' dv => ?_⟩
    rw [em] at em'
    cases em'
    obtain ⟨c, vq, vc, rfl, hc, dq, dc⟩ := dv.node_inv
    obtain ⟨b, xs, rfl, hb, hx⟩ := dq.inv
    have lx : xs.length = m.ps.length := by rw [hx.len, List.length_map]
    refine ⟨_, _, _, _, rfl, rfl, hc.sq, atI_nat (j := 0) rfl, _, _, _, _, rfl, rfl, Tp.of upd_same, hb, ?_, fun p5 H' s5 hp5 => ?_⟩
    · rw [lx]
      exact len1000 (show 1 + m.ps.length ≤ 1000 by omega)
    · refine fin _ H' (sm.trans s5) (.tup hp5 ?_)
      exact (DTs.cons dO hx).same s5
def sp_lends (K : PySem.W.Frag) : Sp := fun vs H Q _ => ∃ (v : V) (g : Int) (n : Node), vs = [v] ∧ DT K H v (marketD g n) ∧ (pre [] n).length ≤ 200 ∧ (∀ x ∈ pre [] n, x.1.length ≤ 6) ∧ ∀ p xs H', Same H H' → H p = none → H' p = some (.lst xs) → DTs K H' xs ((endsN n).map fun e => pathD e.1) → Q (.ref p) H'
end
end Nl

namespace Nl
open PySem PySem.Spec PyProof.Rows L2
section
variable {P : Program} {w : World} {K : PySem.W.Frag} {mg : Str → Option Value} {base : Heap}
def sp_fraction (K : PySem.W.Frag) (Z : Addr) : Sp := fun vs H Q E => ∃ a b : Int, vs = [.int a, .int b] ∧ (b = 0 → E (.ref Z) none H) ∧ (b ≠ 0 → Bd 8000 b ∧ ∀ v H', Same H H' → DT K H' v (frD (frac a b)) → Q v H')
theorem ok_fraction (T : Top w K mg) : FnOk P w K mg base (L2.CX P w) 1 T.a_fraction T.d_fraction ["numerator", "denominator"] (sp_fraction K T.c_ZeroDenominator) := by
  refine T.fraction_F.okX sc_fraction (fun vs H Q E h => ?_) (fun cdv A outer s H vs Q E hr h => ?_)
  · obtain ⟨a, b, rfl, _⟩ := h
    rfl
  · obtain ⟨a, b, rfl, h0, h1⟩ := h
    refine ⟨_, (pss_cons (ps_if (pt_cmpR op_eq (pv 1) pe_int (nomark _)) (pss_one (ps_raise rfl (takes_of rfl rfl rfl rfl) (pmk_own PySem.F.excBase_ValueError T.x_ZeroDenominator T.g_ZeroDenominator T.k_ZeroDenominator (raises_own T.b_ZeroDenominator T.t_ZeroDenominator) rfl))) pss_nil)
      (pss_cons (ps_set (i := 2) sc_fraction.nd rfl (Or.inl rfl) (pe_callBfun cr_gcd (by rfl) T.g_gcd (pa_cons (pv 0) (pa_cons (pv 1) pa_nil))))
      (pss_cons (ps_if (pt_cmpR op_lt (pv 1) pe_int (nomark _)) (pss_one (ps_set (i := 2) sc_fraction.nd rfl (Or.inl rfl) (pe_un un_neg (pv 2)))) pss_nil)
      (pss_one (ps_ret (pe_tup (pa_cons (pe_op op_fdivX (pv 0) (pv 2)) (pa_cons (pe_op op_fdivX (pv 1) (pv 2)) pa_nil)))))))), ?_⟩
    refine ⟨_, rfl, rfl, _, rfl, ite2 (fun e => ?_) (fun e => ?_)⟩
    · exact h0 (V.int.inj (of_decide_eq_true e))
    · have hb : b ≠ 0 := fun z => e (by rw [z]; exact decide_eq_true rfl)
      obtain ⟨hB, q⟩ := h1 hb
      have hs := sg_ne (a := a) hb
      have hz : Bd 8000 (sg a b) := hB.le (by rw [sg_abs]; exact Nat.le_of_dvd (by omega) (Nat.gcd_dvd_right _ _))
      have fin : ∀ s, s = sg a b → ∀ p, H p = none → Q (.ref p) (upd H p (.tup [.int (a.fdiv s), .int (b.fdiv s)])) := by
        rintro _ rfl p hp
        exact q _ _ (same_new hp) (DT.fr (Tp.of upd_same))
      have dv : ∀ s x, s = sg a b → CDivX x s := by
        rintro _ x rfl
        exact divX hs hz
      refine ⟨_, rfl, _, rfl, a, b, rfl, ?_⟩
      refine ⟨_, rfl, _, _, rfl, rfl, _, rfl, ite2 (fun e => ?_) (fun e => ?_)⟩
      · have e0 : b < 0 := of_decide_eq_true e
        have es : -((Nat.gcd a.natAbs b.natAbs : Nat) : Int) = sg a b := (if_pos e0).symm
        exact ⟨_, rfl, _, rfl, _, rfl, _, rfl, _, _, rfl, rfl, dv _ _ es, _, rfl, _, rfl, _, _, rfl, rfl, dv _ _ es, two_le, fin _ es⟩
      · have e0 : ¬ b < 0 := fun z => e (decide_eq_true z)
        have es : ((Nat.gcd a.natAbs b.natAbs : Nat) : Int) = sg a b := (if_neg e0).symm
        exact ⟨_, rfl, _, rfl, _, _, rfl, rfl, dv _ _ es, _, rfl, _, rfl, _, _, rfl, rfl, dv _ _ es, two_le, fin _ es⟩
theorem ok_plus (T : Top w K mg) : FnOk P w K mg base CX0 2 T.a_plus T.d_plus ["a", "b"] (sp2 K addF) := by
  refine T.plus_F.ok sc_plus (fun vs H Q E h => ?_) (fun cdv A outer s H vs Q E hr h => ?_)
  · obtain ⟨_, _, _, _, _, rfl, _⟩ := h
    rfl
  · obtain ⟨_, _, p, q, k, rfl, da, db, ⟨lp, p1, p2⟩, ⟨lq, q1, q2⟩, hk, fin⟩ := h
    obtain ⟨a, rfl, ha⟩ := da.fr_inv
    obtain ⟨b, rfl, hb⟩ := db.fr_inv
    have ne := pos_ne lp.pos lq.pos
    refine ⟨_, (pss_one (ps_ret (pe_call (ok_fraction T) (hr.mono (by decide : 1 ≤ 1)) (by rfl) T.g_fraction T.fraction_F.kp T.fraction_b .nil passL (pa_cons (pe_op op_add (pe_op op_mulW (pe_ix ix_tup (pv 0) pe_int (fun _ _ => rfl)) (pe_ix ix_tup (pv 1) pe_int (fun _ _ => rfl))) (pe_op op_mulW (pe_ix ix_tup (pv 1) pe_int (fun _ _ => rfl)) (pe_ix ix_tup (pv 0) pe_int (fun _ _ => rfl)))) (pa_cons (pe_op op_mulW (pe_ix ix_tup (pv 0) pe_int (fun _ _ => rfl)) (pe_ix ix_tup (pv 1) pe_int (fun _ _ => rfl))) pa_nil))))), ?_⟩
    exact ⟨_, rfl, _, _, _, _, rfl, rfl, (SqT.of ha), (atI_nat (j := 0) rfl), _, rfl, _, _, _, _, rfl, rfl, (SqT.of hb), (atI_nat (j := 1) rfl), _, _, rfl, rfl, (by first | exact mulK hk (by assumption) (by assumption) | exact mulF3 (by assumption) (by assumption) | exact mulB8 (by assumption) (by assumption)), _, rfl, _, _, _, _, rfl, rfl, (SqT.of hb), (atI_nat (j := 0) rfl), _, rfl, _, _, _, _, rfl, rfl, (SqT.of ha), (atI_nat (j := 1) rfl), _, _, rfl, rfl, (by first | exact mulK hk (by assumption) (by assumption) | exact mulF3 (by assumption) (by assumption) | exact mulB8 (by assumption) (by assumption)), _, _, rfl, rfl, _, rfl, _, _, _, _, rfl, rfl, (SqT.of ha), (atI_nat (j := 1) rfl), _, rfl, _, _, _, _, rfl, rfl, (SqT.of hb), (atI_nat (j := 1) rfl), _, _, rfl, rfl, (by first | exact mulK hk (by assumption) (by assumption) | exact mulF3 (by assumption) (by assumption) | exact mulB8 (by assumption) (by assumption)), _, _, rfl, fun z => (ne z).elim, fun _ => ⟨(p2.mul q2).mono (by omega), fun v H' s f => fin v H' s f⟩⟩
theorem ok_minus (T : Top w K mg) : FnOk P w K mg base CX0 2 T.a_minus T.d_minus ["a", "b"] (sp2 K subF) := by
  refine T.minus_F.ok sc_minus (fun vs H Q E h => ?_) (fun cdv A outer s H vs Q E hr h => ?_)
  · obtain ⟨_, _, _, _, _, rfl, _⟩ := h
    rfl
  · obtain ⟨_, _, p, q, k, rfl, da, db, ⟨lp, p1, p2⟩, ⟨lq, q1, q2⟩, hk, fin⟩ := h
    obtain ⟨a, rfl, ha⟩ := da.fr_inv
    obtain ⟨b, rfl, hb⟩ := db.fr_inv
    have ne := pos_ne lp.pos lq.pos
    refine ⟨_, (pss_one (ps_ret (pe_call (ok_fraction T) (hr.mono (by decide : 1 ≤ 1)) (by rfl) T.g_fraction T.fraction_F.kp T.fraction_b .nil passL (pa_cons (pe_op op_sub (pe_op op_mulW (pe_ix ix_tup (pv 0) pe_int (fun _ _ => rfl)) (pe_ix ix_tup (pv 1) pe_int (fun _ _ => rfl))) (pe_op op_mulW (pe_ix ix_tup (pv 1) pe_int (fun _ _ => rfl)) (pe_ix ix_tup (pv 0) pe_int (fun _ _ => rfl)))) (pa_cons (pe_op op_mulW (pe_ix ix_tup (pv 0) pe_int (fun _ _ => rfl)) (pe_ix ix_tup (pv 1) pe_int (fun _ _ => rfl))) pa_nil))))), ?_⟩
    exact ⟨_, rfl, _, _, _, _, rfl, rfl, (SqT.of ha), (atI_nat (j := 0) rfl), _, rfl, _, _, _, _, rfl, rfl, (SqT.of hb), (atI_nat (j := 1) rfl), _, _, rfl, rfl, (by first | exact mulK hk (by assumption) (by assumption) | exact mulF3 (by assumption) (by assumption) | exact mulB8 (by assumption) (by assumption)), _, rfl, _, _, _, _, rfl, rfl, (SqT.of hb), (atI_nat (j := 0) rfl), _, rfl, _, _, _, _, rfl, rfl, (SqT.of ha), (atI_nat (j := 1) rfl), _, _, rfl, rfl, (by first | exact mulK hk (by assumption) (by assumption) | exact mulF3 (by assumption) (by assumption) | exact mulB8 (by assumption) (by assumption)), _, _, rfl, rfl, _, rfl, _, _, _, _, rfl, rfl, (SqT.of ha), (atI_nat (j := 1) rfl), _, rfl, _, _, _, _, rfl, rfl, (SqT.of hb), (atI_nat (j := 1) rfl), _, _, rfl, rfl, (by first | exact mulK hk (by assumption) (by assumption) | exact mulF3 (by assumption) (by assumption) | exact mulB8 (by assumption) (by assumption)), _, _, rfl, fun z => (ne z).elim, fun _ => ⟨(p2.mul q2).mono (by omega), fun v H' s f => fin v H' s f⟩⟩
theorem ok_times (T : Top w K mg) : FnOk P w K mg base CX0 2 T.a_times T.d_times ["a", "b"] (sp2 K mulF) := by
  refine T.times_F.ok sc_times (fun vs H Q E h => ?_) (fun cdv A outer s H vs Q E hr h => ?_)
  · obtain ⟨_, _, _, _, _, rfl, _⟩ := h
    rfl
  · obtain ⟨_, _, p, q, k, rfl, da, db, ⟨lp, p1, p2⟩, ⟨lq, q1, q2⟩, hk, fin⟩ := h
    obtain ⟨a, rfl, ha⟩ := da.fr_inv
    obtain ⟨b, rfl, hb⟩ := db.fr_inv
    have ne := pos_ne lp.pos lq.pos
    refine ⟨_, (pss_one (ps_ret (pe_call (ok_fraction T) (hr.mono (by decide : 1 ≤ 1)) (by rfl) T.g_fraction T.fraction_F.kp T.fraction_b .nil passL (pa_cons (pe_op op_mulW (pe_ix ix_tup (pv 0) pe_int (fun _ _ => rfl)) (pe_ix ix_tup (pv 1) pe_int (fun _ _ => rfl))) (pa_cons (pe_op op_mulW (pe_ix ix_tup (pv 0) pe_int (fun _ _ => rfl)) (pe_ix ix_tup (pv 1) pe_int (fun _ _ => rfl))) pa_nil))))), ?_⟩
    exact ⟨_, rfl, _, _, _, _, rfl, rfl, (SqT.of ha), (atI_nat (j := 0) rfl), _, rfl, _, _, _, _, rfl, rfl, (SqT.of hb), (atI_nat (j := 0) rfl), _, _, rfl, rfl, (by first | exact mulK hk (by assumption) (by assumption) | exact mulF3 (by assumption) (by assumption) | exact mulB8 (by assumption) (by assumption)), _, rfl, _, _, _, _, rfl, rfl, (SqT.of ha), (atI_nat (j := 1) rfl), _, rfl, _, _, _, _, rfl, rfl, (SqT.of hb), (atI_nat (j := 1) rfl), _, _, rfl, rfl, (by first | exact mulK hk (by assumption) (by assumption) | exact mulF3 (by assumption) (by assumption) | exact mulB8 (by assumption) (by assumption)), _, _, rfl, fun z => (ne z).elim, fun _ => ⟨(p2.mul q2).mono (by omega), fun v H' s f => fin v H' s f⟩⟩
end
end Nl

namespace Nl
open PySem PySem.Spec PyProof.Rows L2
section
variable {P : Program} {w : World} {K : PySem.W.Frag} {mg : Str → Option Value} {base : Heap}
def sp_signed : Sp := fun vs H Q _ => ∃ (pd ps : Addr) (most : Int), vs = [.ref pd, .int most] ∧ Dst H pd ps ∧ 0 ≤ most ∧ most ≤ 100 ∧ ∀ r H', Xt pd H H' → Dst H' pd ps → -most ≤ r → r ≤ most → Q (.int r) H'
theorem ok__law_signed (T : Top w K mg) : FnOk P w K mg base CX0 2 T.a__law_signed T.d__law_signed ["d", "most"] sp_signed := by
  refine T._law_signed_F.ok sc__law_signed (fun vs H Q E h => ?_) (fun cdv A outer s H vs Q E hr h => ?_)
  · obtain ⟨_, _, _, rfl, _⟩ := h
    rfl
  · obtain ⟨pd, ps, most, rfl, D, h0, h1, fin⟩ := h
    refine ⟨_, (pss_one (ps_ret (pe_op op_sub (pe_call (ok__law_take T) (hr.mono (by decide : 1 ≤ 1)) (by rfl) T.g__law_take T._law_take_F.kp T._law_take_b .nil pass0 (pa_cons (pv 0) (pa_cons (pe_op op_add (pe_op op_mul pe_int (pv 1)) pe_int) pa_nil))) (pv 1)))), ?_⟩
    refine ⟨_, rfl, _, rfl, _, _, rfl, rfl, mulC (by constructor <;> omega), _, _, rfl, rfl, pd, ps, _, rfl, D, by omega, Bd.mono (k := 10) (by unfold Bd; omega) (by decide), fun r H1 x1 D1 r0 r1 => ?_⟩
    refine ⟨_, rfl, _, _, rfl, rfl, fin _ _ x1 D1 (by omega) (by omega)⟩
def sp_part (K : PySem.W.Frag) : Sp := fun vs H Q _ => ∃ (pd ps : Addr) (most : Int), vs = [.ref pd, .int most] ∧ Dst H pd ps ∧ 0 ≤ most ∧ most ≤ 10 ∧ ∀ v q H', Xt pd H H' → Dst H' pd ps → DT K H' v (frD q) → Ok 10 q → Q v H'
theorem ok__law_part (T : Top w K mg) : FnOk P w K mg base CX0 3 T.a__law_part T.d__law_part ["d", "most"] (sp_part K) := by
  refine T._law_part_F.ok sc__law_part (fun vs H Q E h => ?_) (fun cdv A outer s H vs Q E hr h => ?_)
  · obtain ⟨_, _, _, rfl, _⟩ := h
    rfl
  · obtain ⟨pd, ps, most, rfl, D, h0, h1, fin⟩ := h
    refine ⟨_, (pss_one (ps_ret (pe_call (ok__law_f T) (hr.mono (by decide : 2 ≤ 2)) (by rfl) T.g__law_f T._law_f_F.kp T._law_f_b .nil pass0 (pa_cons (pe_call (ok__law_signed T) (hr.mono (by decide : 2 ≤ 2)) (by rfl) T.g__law_signed T._law_signed_F.kp T._law_signed_b .nil pass0 (pa_cons (pv 0) (pa_cons (pe_op op_mul (pv 1) pe_int) pa_nil))) (pa_cons (pe_op op_add pe_int (pe_call (ok__law_take T) (hr.mono (by decide : 1 ≤ 2)) (by rfl) T.g__law_take T._law_take_F.kp T._law_take_b .nil pass0 (pa_cons (pv 0) (pa_cons pe_int pa_nil)))) pa_nil))))), ?_⟩
    refine ⟨_, rfl, _, rfl, _, _, rfl, rfl, mulC' (by constructor <;> omega), pd, ps, _, rfl, D, by omega, by omega, fun r H1 x1 D1 r0 r1 => ?_⟩
    refine ⟨_, rfl, pd, ps, 3, rfl, D1, by decide, Bd.mono (k := 2) (by unfold Bd; decide) (by decide), fun u H2 x2 D2 u0 u1 => ?_⟩
    refine ⟨_, _, rfl, rfl, r, 1 + u, rfl, by omega, Bd.mono (k := 5) (by unfold Bd; omega) (by decide), fun v H3 s3 dv => ?_⟩
    exact fin v _ H3 ((x1.trans x2).trans (Xt.of s3)) (D2.same s3) dv (frac_ok (by omega) (by unfold Bd; omega) (by unfold Bd; omega))
end
end Nl

namespace Nl
open PySem PySem.Spec PyProof.Rows L2
theorem walk_zipT {K : PySem.W.Frag} {a b : Addr} {xs ys : List V} {n : Nat} (hn : n = min xs.length ys.length) : Walk (RZ.ItzT K a b) n (fun H => SqT K H a xs ∧ SqT K H b ys) (YPair (fun i => xs[i]?) (fun i => ys[i]?)) := by
  subst hn
  refine ⟨fun i _ hi q => ?_, fun _ q => ⟨xs, ys, q.1, q.2, by omega⟩, fun i H v H' _ q y => ?_⟩
  · have h1 : i < xs.length := by omega
    have h2 : i < ys.length := by omega
    exact ⟨xs, ys, xs[i], ys[i], q.1, q.2, by simp [h1], by simp [h2]⟩
  · obtain ⟨T, x, z, h1, h2, h3, h4, h5⟩ := y
    exact ⟨T, x, z, h1, h2, h3, h4 xs q.1, h5 ys q.2⟩
theorem eqv_str (a b : Str) : PyData.eqv (.str a) (.str b) = decide (a = b) := by
  show (a == b) = _
  by_cases h : a = b
  · subst h
    rw [decide_eq_true rfl, beq_self_eq_true]
  · rw [decide_eq_false h]
    exact beq_eq_false_iff_ne.mpr h
theorem any_wd (l : List Wd) (w : Wd) : (l.map fun k => PyData.str k.str).any (fun z => PyData.eqv z (.str w.str)) = decide (w ∈ l) := by
  induction l with
  | nil => rfl
  | cons a l ih =>
    rw [List.map_cons, List.any_cons, ih, eqv_str]
    by_cases h : w = a
    · subst h
      simp
    · have : ¬ a.str = w.str := fun z => h (Wd.inj z).symm
      rw [decide_eq_false this]
      simp [h]
theorem any_kn (l : List Kn) (w : Kn) : (l.map fun k => PyData.str k.str).any (fun z => PyData.eqv z (.str w.str)) = decide (w ∈ l) := by
  induction l with
  | nil => rfl
  | cons a l ih =>
    rw [List.map_cons, List.any_cons, ih, eqv_str]
    by_cases h : w = a
    · subst h
      simp
    · have : ¬ a.str = w.str := fun z => h (Kn.inj z).symm
      rw [decide_eq_false this]
      simp [h]
end Nl
namespace Nl
open PySem PySem.Spec PyProof.Rows L2
abbrev PD := Part × Nat
def entP (e : PD) : PyData := .tuple [e.1.D, .int e.2]
def preP (e : PD) : List PD := e.1.pre e.2
def kidsP (e : PD) : List PD := e.1.ks.map fun k => (k, e.2 + 1)
theorem preP_eq (e : PD) : preP e = e :: (kidsP e).flatMap preP := by
  unfold preP kidsP
  rw [Part.pre_eq, List.flatMap_map]
theorem preP_pos (e : PD) : 0 < (preP e).length := by rw [preP_eq]; simp
theorem kidsP_len (e : PD) : (kidsP e).length = e.1.ks.length := List.length_map _
theorem len_le_flatP : ∀ l : List PD, l.length ≤ (l.flatMap preP).length
  | [] => Nat.le_refl _
  | a :: l => by
    rw [List.flatMap_cons, List.length_append, List.length_cons]
    have := len_le_flatP l
    have := preP_pos a
    omega
theorem DT.entP_inv {K : PySem.W.Frag} {H : Hp} {v : V} {e : PD} (h : DT K H v (entP e)) : ∃ a x, v = .ref a ∧ Tp H a [x, .int e.2] ∧ DT K H x e.1.D := by
  obtain ⟨a, x, y, rfl, ha, hx, hy⟩ := h.inv2
  rw [hy.int_inv] at ha
  exact ⟨a, x, rfl, ha, hx⟩
end Nl
namespace Nl
open PySem PySem.Spec PyProof.Rows L2
/-! ### what the law draws -/
def LG (g : Int) : Lit → Prop
  | .non => True
  | .size q => Ok 10 q
  | .good i => 0 ≤ i ∧ i < g
  | .time i => 0 ≤ i ∧ i ≤ 3
structure PG (g : Int) (c : Kn) (sz dp : Nat) (p : Part) : Prop where
  wf : p.WF
  cls : p.wd.cls = c
  size : p.size ≤ sz
  depth : p.depth ≤ dp
  lits : p.All fun _ l => LG g l
theorem PG.mono {g : Int} {c : Kn} {s d s' d' : Nat} {p : Part} (h : PG g c s d p) (hs : s ≤ s') (hd : d ≤ d') : PG g c s' d' p := ⟨h.wf, h.cls, Nat.le_trans h.size hs, Nat.le_trans h.depth hd, h.lits⟩
theorem pg0 {g : Int} {x : Wd} {l : Lit} (hk : x.kn = l.kn) (hl : LG g l) : PG g x.cls 1 1 (.p0 x l) :=
  ⟨hk, rfl, Nat.le_refl _, Nat.le_refl _, Part.all_mk hl fun k hk => by cases hk⟩
theorem pg1 {g : Int} {x : Wd} {l : Lit} {c : Kn} {s d : Nat} {a : Part} (hk : x.kn = l.kn ++ [c]) (hl : LG g l) (ha : PG g c s d a) : PG g x.cls (1 + s) (1 + d) (.p1 x l a) :=
  ⟨⟨by rw [ha.cls]; exact hk, ha.wf⟩, rfl, Nat.add_le_add_left ha.size 1, Nat.add_le_add_left ha.depth 1, Part.all_mk hl fun k hk => by
    rw [List.mem_singleton.mp hk]
    exact ha.lits⟩
theorem pg2 {g : Int} {x : Wd} {l : Lit} {c c' : Kn} {s d s' d' : Nat} {a b : Part} (hk : x.kn = l.kn ++ [c, c']) (hl : LG g l) (ha : PG g c s d a) (hb : PG g c' s' d' b) : PG g x.cls (1 + (s + s')) (1 + max d d') (.p2 x l a b) :=
  ⟨⟨by rw [ha.cls, hb.cls]; exact hk, ha.wf, hb.wf⟩, rfl, Nat.add_le_add_left (Nat.add_le_add ha.size hb.size) 1, Nat.add_le_add_left (by have := ha.depth; have := hb.depth; omega) 1, Part.all_mk hl fun k hk => by
    rcases List.mem_cons.mp hk with rfl | hk
    · exact ha.lits
    · rw [List.mem_singleton.mp hk]
      exact hb.lits⟩
theorem DT.p0n {K : PySem.W.Frag} {H : Hp} {a : Addr} {x : Wd} (h : Tp H a [.str x.str]) : DT K H (.ref a) (Part.p0 x .non).D := DT.part (p := .p0 x .non) (ls := []) (kv := []) h .nil .nil
theorem DT.p0s {K : PySem.W.Frag} {H : Hp} {a : Addr} {x : Wd} {v : V} {q : Int × Int} (h : Tp H a [.str x.str, v]) (d : DT K H v (frD q)) : DT K H (.ref a) (Part.p0 x (.size q)).D := DT.part (p := .p0 x (.size q)) (ls := [v]) (kv := []) h (.cons d .nil) .nil
theorem DT.p0g {K : PySem.W.Frag} {H : Hp} {a : Addr} {x : Wd} {i : Int} (h : Tp H a [.str x.str, .int i]) : DT K H (.ref a) (Part.p0 x (.good i)).D := DT.part (p := .p0 x (.good i)) (ls := [.int i]) (kv := []) h (.cons (.int i) .nil) .nil
theorem DT.p1n {K : PySem.W.Frag} {H : Hp} {a : Addr} {x : Wd} {v : V} {p : Part} (h : Tp H a [.str x.str, v]) (d : DT K H v p.D) : DT K H (.ref a) (Part.p1 x .non p).D := DT.part (p := .p1 x .non p) (ls := []) (kv := [v]) h .nil (.cons d .nil)
theorem DT.p1t {K : PySem.W.Frag} {H : Hp} {a : Addr} {x : Wd} {v : V} {i : Int} {p : Part} (h : Tp H a [.str x.str, .int i, v]) (d : DT K H v p.D) : DT K H (.ref a) (Part.p1 x (.time i) p).D := DT.part (p := .p1 x (.time i) p) (ls := [.int i]) (kv := [v]) h (.cons (.int i) .nil) (.cons d .nil)
theorem DT.p2n {K : PySem.W.Frag} {H : Hp} {a : Addr} {x : Wd} {v u : V} {p q : Part} (h : Tp H a [.str x.str, v, u]) (d : DT K H v p.D) (e : DT K H u q.D) : DT K H (.ref a) (Part.p2 x .non p q).D := DT.part (p := .p2 x .non p q) (ls := []) (kv := [v, u]) h .nil (.cons d (.cons e .nil))
def szV : Nat → Nat
  | 0 => 1
  | m + 1 => 1 + (szV m + szV m)
def szC : Nat → Nat
  | 0 => 5
  | m + 1 => 1 + (szC m + szC m)
def szK : Nat → Nat
  | 0 => 1
  | m + 1 => 12 + (szK m + szK m)
theorem szV_pos : ∀ m, 1 ≤ szV m
  | 0 => Nat.le_refl _
  | m + 1 => by unfold szV; omega
theorem szC_pos : ∀ m, 5 ≤ szC m
  | 0 => Nat.le_refl _
  | m + 1 => by have := szC_pos m; unfold szC; omega
theorem szK_pos : ∀ m, 1 ≤ szK m
  | 0 => Nat.le_refl _
  | m + 1 => by unfold szK; omega
end Nl
namespace Nl
open PySem PySem.Spec PyProof.Rows L2
def K3 : List Kn := [.value, .condition, .contract]
theorem cls_k3 (x : Wd) : x.cls ∈ K3 := by cases x <;> decide
theorem litkn_k3 (l : Lit) : ∀ k ∈ l.kn, k ∉ K3 := by cases l <;> simp [Lit.kn, K3]
theorem Part.WF.lit_kn {p : Part} (h : p.WF) : p.lit.kn = p.wd.kn.filter (fun k => decide (k ∉ K3)) := by
  rw [h.kn, List.filter_append, List.filter_eq_self.mpr fun k hk => decide_eq_true (litkn_k3 _ k hk)]
  rw [List.filter_eq_nil_iff.mpr fun k hk => by
    obtain ⟨q, _, rfl⟩ := List.mem_map.mp hk
    rw [decide_eq_false fun z => z (cls_k3 _)]
    decide]
  rw [List.append_nil]
theorem Part.WF.ks_kn {p : Part} (h : p.WF) : p.ks.map (·.wd.cls) = p.wd.kn.filter (fun k => decide (k ∈ K3)) := by
  rw [h.kn, List.filter_append, List.filter_eq_nil_iff.mpr fun k hk => by
    rw [decide_eq_false (litkn_k3 _ k hk)]
    decide]
  rw [List.filter_eq_self.mpr fun k hk => by
    obtain ⟨q, _, rfl⟩ := List.mem_map.mp hk
    exact decide_eq_true (cls_k3 _)]
  rfl
def L5 : List Wd := [.one, .buy, .sell, .number, .nothing]
def L2' : List Wd := [.at_, .early]
theorem wf_l5 {p : Part} (h : p.WF) (hw : p.wd ∈ L5) : p.ks = [] := by
  have e := h.ks_kn
  have : ∀ x ∈ L5, x.kn.filter (fun k => decide (k ∈ K3)) = [] := by decide
  rw [this _ hw] at e
  exact List.map_eq_nil_iff.mp e
theorem wf_l2 {p : Part} (h : p.WF) (hw : p.wd ∈ L2') : p.lit.ds.length = 1 := by
  have e := h.lit_kn
  have : ∀ x ∈ L2', (x.kn.filter (fun k => decide (k ∉ K3))).length = 1 := by decide
  rw [← Lit.len, e, this _ hw]
theorem wf_l0 {p : Part} (h : p.WF) (h5 : p.wd ∉ L5) (h2 : p.wd ∉ L2') : p.lit.ds.length = 0 := by
  have e := h.lit_kn
  have : ∀ x ∈ Wd.all, x ∉ L5 → x ∉ L2' → (x.kn.filter (fun k => decide (k ∉ K3))).length = 0 := by decide
  rw [← Lit.len, e, this _ (Wd.mem_all _) h5 h2]
theorem sh_wd (x : Wd) : SeqAt.shaped (.str x.str) = true := by cases x <;> decide +kernel
theorem sh_l5 : SeqAt.shaped (.tuple (L5.map fun k => .str k.str)) = true := by decide +kernel
theorem sh_l2 : SeqAt.shaped (.tuple (L2'.map fun k => .str k.str)) = true := by decide +kernel
theorem sh_knd (k : Kn) : SeqAt.shaped (.str k.str) = true := by cases k <;> decide +kernel
theorem sh_k3 : SeqAt.shaped (.tuple (K3.map fun k => .str k.str)) = true := by decide +kernel
def partsP (p : Part) : List Part := (p.pre 1).map (·.1)
theorem partsP_eq (p : Part) : partsP p = p :: p.ks.flatMap partsP := by
  unfold partsP
  rw [Part.pre_eq, List.map_cons, List.map_flatMap]
  have : ∀ l : List Part, (l.flatMap fun k => (k.pre (1 + 1)).map (·.1)) = l.flatMap fun p => (p.pre 1).map (·.1) := fun l => by
    induction l with
    | nil => rfl
    | cons a l ih => rw [List.flatMap_cons, List.flatMap_cons, ih, Part.pre_fst a (1 + 1) 1]
  rw [this]
theorem partsP_len (p : Part) : (partsP p).length = p.size := by rw [partsP, List.length_map, p.pre_len]
theorem dts_l5 {K : PySem.W.Frag} {H : Hp} {a : Addr} (l : List Wd) (h : H a = some (.tup (l.map fun x => V.str x.str))) : Dp K H (.ref a) (.tuple (l.map fun x => PyData.str x.str)) := by
  refine .tup (SqT.of h) ?_
  clear h
  induction l with
  | nil => exact .nil
  | cons x l ih => exact .cons (.str _) ih
end Nl

namespace Nl
open PySem PySem.Spec PyProof.Rows L2
section
variable {P : Program} {w : World} {K : PySem.W.Frag} {mg : Str → Option Value} {base : Heap}
theorem un65 {k : Nat} {A : Around} (r : Room k A) : A.units + 65 < cLine := by
  have := r.un
  omega
theorem kinds_of (T : Top w K mg) (x : Wd) : (∃ t, PySem.W.nsIn K T.a_VALUES x.str = some (some (.ref t)) ∧ tupW K t (x.kn.map Kn.str) = true) ∨
    (PySem.W.nsIn K T.a_VALUES x.str = some none ∧ ∃ t, PySem.W.nsIn K T.a_CONDITIONS x.str = some (some (.ref t)) ∧ tupW K t (x.kn.map Kn.str) = true) ∨
    (PySem.W.nsIn K T.a_VALUES x.str = some none ∧ PySem.W.nsIn K T.a_CONDITIONS x.str = some none ∧ ∃ t, PySem.W.nsIn K T.a_CONTRACTS x.str = some (some (.ref t)) ∧ tupW K t (x.kn.map Kn.str) = true) := by
  cases x with
  | number => exact .inl ⟨_, T.n_VALUES_number, T.q_VALUES_number⟩
  | buy => exact .inl ⟨_, T.n_VALUES_buy, T.q_VALUES_buy⟩
  | sell => exact .inl ⟨_, T.n_VALUES_sell, T.q_VALUES_sell⟩
  | plus => exact .inl ⟨_, T.n_VALUES_plus, T.q_VALUES_plus⟩
  | minus => exact .inl ⟨_, T.n_VALUES_minus, T.q_VALUES_minus⟩
  | times => exact .inl ⟨_, T.n_VALUES_times, T.q_VALUES_times⟩
  | least => exact .inl ⟨_, T.n_VALUES_least, T.q_VALUES_least⟩
  | greatest => exact .inl ⟨_, T.n_VALUES_greatest, T.q_VALUES_greatest⟩
  | less => exact .inr (.inl ⟨T.n_VALUES_less, _, T.n_CONDITIONS_less, T.q_CONDITIONS_less⟩)
  | same => exact .inr (.inl ⟨T.n_VALUES_same, _, T.n_CONDITIONS_same, T.q_CONDITIONS_same⟩)
  | not_ => exact .inr (.inl ⟨T.n_VALUES_not, _, T.n_CONDITIONS_not, T.q_CONDITIONS_not⟩)
  | and_ => exact .inr (.inl ⟨T.n_VALUES_and, _, T.n_CONDITIONS_and, T.q_CONDITIONS_and⟩)
  | nothing => exact .inr (.inr ⟨T.n_VALUES_nothing, T.n_CONDITIONS_nothing, _, T.n_CONTRACTS_nothing, T.q_CONTRACTS_nothing⟩)
  | one => exact .inr (.inr ⟨T.n_VALUES_one, T.n_CONDITIONS_one, _, T.n_CONTRACTS_one, T.q_CONTRACTS_one⟩)
  | scale => exact .inr (.inr ⟨T.n_VALUES_scale, T.n_CONDITIONS_scale, _, T.n_CONTRACTS_scale, T.q_CONTRACTS_scale⟩)
  | both => exact .inr (.inr ⟨T.n_VALUES_both, T.n_CONDITIONS_both, _, T.n_CONTRACTS_both, T.q_CONTRACTS_both⟩)
  | give => exact .inr (.inr ⟨T.n_VALUES_give, T.n_CONDITIONS_give, _, T.n_CONTRACTS_give, T.q_CONTRACTS_give⟩)
  | or_ => exact .inr (.inr ⟨T.n_VALUES_or, T.n_CONDITIONS_or, _, T.n_CONTRACTS_or, T.q_CONTRACTS_or⟩)
  | at_ => exact .inr (.inr ⟨T.n_VALUES_at, T.n_CONDITIONS_at, _, T.n_CONTRACTS_at, T.q_CONTRACTS_at⟩)
  | when_ => exact .inr (.inr ⟨T.n_VALUES_when, T.n_CONDITIONS_when, _, T.n_CONTRACTS_when, T.q_CONTRACTS_when⟩)
  | until_ => exact .inr (.inr ⟨T.n_VALUES_until, T.n_CONDITIONS_until, _, T.n_CONTRACTS_until, T.q_CONTRACTS_until⟩)
  | early => exact .inr (.inr ⟨T.n_VALUES_early, T.n_CONDITIONS_early, _, T.n_CONTRACTS_early, T.q_CONTRACTS_early⟩)
  | later => exact .inr (.inr ⟨T.n_VALUES_later, T.n_CONDITIONS_later, _, T.n_CONTRACTS_later, T.q_CONTRACTS_later⟩)
def sp_kinds (K : PySem.W.Frag) : Sp := fun vs H Q _ => ∃ x : Wd, vs = [.str x.str] ∧ ∀ t, (∀ H', SqT K H' t (x.kn.map fun k => V.str k.str)) → Q (.ref t) H
theorem ok_kinds_behind (T : Top w K mg) : FnOk P w K mg base CX0 1 T.a_kinds_behind T.d_kinds_behind ["word"] (sp_kinds K) := by
  refine T.kinds_behind_F.ok sc_kinds_behind (fun vs H Q E h => ?_) (fun cdv A outer s H vs Q E hr h => ?_)
  · obtain ⟨_, rfl, _⟩ := h
    rfl
  · obtain ⟨x, rfl, fin⟩ := h
    refine ⟨_, (pss_cons (ps_if (pt_cmpR (op_in_kdE T.D_VALUES) (pv 0) (pe_glob (v := .ref T.a_VALUES) (by rfl) T.g_VALUES rfl) (by rfl)) (pss_one (ps_ret (pe_ix ix_kdict (pe_glob (v := .ref T.a_VALUES) (by rfl) T.g_VALUES rfl) (pv 0) (fun _ _ => rfl)))) pss_nil)
      (pss_cons (ps_if (pt_cmpR (op_in_kdE T.D_CONDITIONS) (pv 0) (pe_glob (v := .ref T.a_CONDITIONS) (by rfl) T.g_CONDITIONS rfl) (by rfl)) (pss_one (ps_ret (pe_ix ix_kdict (pe_glob (v := .ref T.a_CONDITIONS) (by rfl) T.g_CONDITIONS rfl) (pv 0) (fun _ _ => rfl)))) pss_nil)
      (pss_one (ps_ret (pe_ix ix_kdict (pe_glob (v := .ref T.a_CONTRACTS) (by rfl) T.g_CONTRACTS rfl) (pv 0) (fun _ _ => rfl)))))), ?_⟩
    have tq : ∀ t, tupW K t (x.kn.map Kn.str) = true → ∀ H', SqT K H' t (x.kn.map fun k => V.str k.str) := fun t h H' => by
      have := tupW_ok h H'
      rw [List.map_map] at this
      exact this
    rcases kinds_of T x with ⟨t, h1, h2⟩ | ⟨h0, t, h1, h2⟩ | ⟨h0, h00, t, h1, h2⟩
    · refine ⟨_, rfl, x.str, _, rfl, rfl, h1, _, rfl, if_true_of' rfl ?_⟩
      exact ⟨_, rfl, T.a_VALUES, x.str, _, rfl, rfl, kdct_of T.D_VALUES h1, fin t (tq t h2)⟩
    · refine ⟨_, rfl, x.str, _, rfl, rfl, h0, _, rfl, if_false_of' rfl ?_⟩
      refine ⟨_, rfl, x.str, _, rfl, rfl, h1, _, rfl, if_true_of' rfl ?_⟩
      exact ⟨_, rfl, T.a_CONDITIONS, x.str, _, rfl, rfl, kdct_of T.D_CONDITIONS h1, fin t (tq t h2)⟩
    · refine ⟨_, rfl, x.str, _, rfl, rfl, h0, _, rfl, if_false_of' rfl ?_⟩
      refine ⟨_, rfl, x.str, _, rfl, rfl, h00, _, rfl, if_false_of' rfl ?_⟩
      exact ⟨_, rfl, T.a_CONTRACTS, x.str, _, rfl, rfl, kdct_of T.D_CONTRACTS h1, fin t (tq t h2)⟩
def sp_pbehind (K : PySem.W.Frag) : Sp := fun vs H Q _ => ∃ (v : V) (p : Part), vs = [v] ∧ DT K H v p.D ∧ p.WF ∧ ∀ l kv H', Same H H' → H l = none → H' l = some (.lst kv) → DTs K H' kv (p.ks.map Part.D) → Q (.ref l) H'
theorem ok_parts_behind (T : Top w K mg) : FnOk P w K mg base CX0 2 T.a_parts_behind T.d_parts_behind ["part"] (sp_pbehind K) := by
  refine T.parts_behind_F.ok sc_parts_behind (fun vs H Q E h => ?_) (fun cdv A outer s H vs Q E hr h => ?_)
  · obtain ⟨_, _, rfl, _⟩ := h
    rfl
  · obtain ⟨v, p, rfl, dp, wf, fin⟩ := h
    obtain ⟨a, ls, kv, rfl, ha, dl, dk⟩ := dp.part_inv
    refine ⟨_, (pss_one (ps_ret (pe_lc (own := [("kind", 1), ("thing", 2)]) (g := (gTup K 2 (gCons (gName 1) (gCons (gName 2) gNil)))) (by rfl) sc_parts_behind.nd (RZ.pi_zipA (by rfl) T.n_zip (pa_cons (pe_call (ok_kinds_behind T) (hr.mono (by decide : 1 ≤ 1)) (by rfl) T.g_kinds_behind T.kinds_behind_F.kp T.kinds_behind_b .nil pass0 (pa_cons (pe_ix ix_tup (pv 0) pe_int (fun _ _ => rfl)) pa_nil)) (pa_cons (pe_slice sl_tupP (pv 0) (po_some pe_int) po_none) pa_nil))) (blkOk_by (own := [("kind", 1), ("thing", 2)]) (N := ["part", "kind", "thing"]) (sc := defScope s_parts_behind) (by decide +kernel)) (fun _ _ _ _ _ => (pg_tup rfl (pgs_cons (pg_name (i := 1) sc_parts_behind.nd rfl (Or.inl rfl)) (pgs_cons (pg_name (i := 2) sc_parts_behind.nd rfl (Or.inl rfl)) pgs_nil)))) (fun _ _ _ _ _ => (pts_one (pt_cmpR (show OpR _ _ (rInT K) from op_inT (un65 hr)) (pv 1) (pe_tup (pa_cons pe_str (pa_cons pe_str (pa_cons pe_str pa_nil)))) (by rfl)))) (fun _ _ _ _ _ => (pv 2))))), ?_⟩
    have ll : ls.length = p.lit.kn.length := by rw [dl.len, Lit.len]
    have lk : kv.length = p.ks.length := by rw [dk.len, List.length_map]
    refine ⟨_, rfl, _, _, _, _, rfl, rfl, ha.sq, atI_nat (j := 0) rfl, p.wd, rfl, fun t ht => ?_⟩
    refine ⟨_, rfl, _, rfl, a, _, rfl, ha, fun q H1 s1 hq => ?_⟩
    have e1 : cutV (V.str p.wd.str :: (ls ++ kv)) (some 1) none = ls ++ kv := cut_drop _ 1
    rw [e1] at hq
    have nlen : (p.wd.kn.map fun k => V.str k.str).length = (ls ++ kv).length := by
      rw [List.length_map, wf.kn, List.length_append, List.length_map, List.length_append, ll, lk]
    refine ⟨t, q, _, _, rfl, .inr ⟨ht H1, hq.sq, fun D hD => lc_it (walk_zipT (xs := p.wd.kn.map fun k => V.str k.str) (ys := ls ++ kv) (n := (ls ++ kv).length) (by omega))
      (fun i H' => Same H1 H' ∧ H' D = some (.lst (kv.take (i - ls.length)))) ⟨same_new hD, ?_⟩ (fun i H' _ ⟨sm, _⟩ => ⟨ht H', (tp_same sm hq).sq⟩) ?_ ?_⟩⟩
    · rw [Nat.zero_sub]
      exact upd_same
    · rintro i z H2 H3 hi ⟨sm, hD2⟩ ⟨b, x, y, rfl, hb, rfl, hx, hy⟩
      have s3 := same_new (o := .tup [x, y]) hb
      refine ⟨_, _, rfl, SqT.of upd_same, rfl, _, _, rfl, _, _, rfl, rfl, rfl, ?_⟩
      obtain ⟨k, hk, rfl⟩ : ∃ k, p.wd.kn[i]? = some k ∧ x = V.str k.str := by
        have hx : (p.wd.kn.map fun k => V.str k.str)[i]? = some x := hx
        rw [List.getElem?_map] at hx
        obtain ⟨k, hk, rfl⟩ := Option.map_eq_some_iff.mp hx
        exact ⟨k, hk, rfl⟩
      refine ⟨_, rfl, by decide, fun p9 h9 => ⟨_, K3.map fun k => PyData.str k.str, .str _, .tup (SqT.of upd_same) (.cons (.str _) (.cons (.str _) (.cons (.str _) .nil))), sh_knd k, sh_k3, _, rfl, ?_⟩⟩
      have s4 := s3.trans (same_new (o := .tup [V.str Kn.value.str, V.str Kn.condition.str, V.str Kn.contract.str]) h9)
      rw [any_kn]
      rw [wf.kn] at hk
      by_cases hlt : i < ls.length
      · have hk0 : k ∈ p.lit.kn := by
          rw [List.getElem?_append_left (by omega)] at hk
          exact List.mem_of_getElem? hk
        refine if_false_of' (decide_eq_false (litkn_k3 _ k hk0)) ⟨sm.trans s4, ?_⟩
        have h0 : i - ls.length = 0 ∧ i + 1 - ls.length = 0 := by omega
        rw [h0.2]
        rw [h0.1] at hD2
        exact s4 _ _ hD2
      · have hk0 : k ∈ K3 := by
          rw [List.getElem?_append_right (by omega)] at hk
          obtain ⟨q, hq, rfl⟩ := List.mem_map.mp (List.mem_of_getElem? hk)
          exact cls_k3 _
        have hy : (ls ++ kv)[i]? = some y := hy
        rw [List.getElem?_append_right (by omega)] at hy
        have e2 : i + 1 - ls.length = (i - ls.length) + 1 := by omega
        refine if_true_of' (decide_eq_true hk0) ⟨_, rfl, _, s4 _ _ hD2, ?_, same_mut (sm.trans s4) hD, ?_⟩
        · have := p.ks_len
          rw [List.length_take]
          exact Nat.lt_of_le_of_lt (m := 2) (by omega) (by decide)
        · rw [e2, take_next hy]
          exact upd_same
    · rintro H2 ⟨sm, hD2⟩
      have e3 : (ls ++ kv).length - ls.length = kv.length := by rw [List.length_append]; omega
      rw [e3, List.take_length] at hD2
      have := s1.trans sm
      exact fin D kv H2 this (s1.free hD) hD2 (dk.same this)
def sp_wparts (K : PySem.W.Frag) : Sp := fun vs H Q _ => ∃ (v : V) (p : Part), vs = [v] ∧ DT K H v p.D ∧ p.WF ∧ p.size ≤ 1000 ∧ ∀ l xs H', Same H H' → H l = none → H' l = some (.lst xs) → DTs K H' xs ((p.pre 1).map entP) → Q (.ref l) H'
theorem ok_walk_parts (T : Top w K mg) : FnOk P w K mg base CX0 3 T.a_walk_parts T.d_walk_parts ["part"] (sp_wparts K) := by
  refine T.walk_parts_F.ok sc_walk_parts (fun vs H Q E h => ?_) (fun cdv A outer s H vs Q E hr h => ?_)
  · obtain ⟨_, _, rfl, _⟩ := h
    rfl
  · obtain ⟨v, p, rfl, dp, wf, hn, fin⟩ := h
    refine ⟨_, (pss_cons (ps_set (i := 1) sc_walk_parts.nd rfl (Or.inl rfl) (pe_lst pa_nil))
      (pss_cons (ps_set (i := 2) sc_walk_parts.nd rfl (Or.inl rfl) (pe_lst (pa_cons (pe_tup (pa_cons (pv 0) (pa_cons pe_int pa_nil))) pa_nil)))
      (pss_cons (ps_while PassesOwn.never (pt_truth (pv 2) (by intro _; rfl)) (pss_cons (ps_asg (pe_bm0 PySem.F.plainAttrs_list PySem.F.slot_list_pop PySem.F.type_list_pop mt_pop (pv 2)) (pg_tup rfl (pgs_cons (pg_name (i := 3) sc_walk_parts.nd rfl (Or.inl rfl)) (pgs_cons (pg_name (i := 4) sc_walk_parts.nd rfl (Or.inl rfl)) pgs_nil))))
      (pss_cons (ps_expr (pe_bm PySem.F.plainAttrs_list PySem.F.slot_list_append PySem.F.type_list_append mt_append (pv 1) (pa_cons (pe_tup (pa_cons (pv 3) (pa_cons (pv 4) pa_nil))) pa_nil)))
      (pss_one (ps_for PassesOwn.never rfl (RT.pi_revA (by rfl) T.n_reversed (pe_call (ok_parts_behind T) (hr.mono (by decide : 2 ≤ 2)) (by rfl) T.g_parts_behind T.parts_behind_F.kp T.parts_behind_b .nil pass0 (pa_cons (pv 3) pa_nil))) (pg_name (i := 5) sc_walk_parts.nd rfl (Or.inl rfl)) (pss_one (ps_expr (pe_bm PySem.F.plainAttrs_list PySem.F.slot_list_append PySem.F.type_list_append mt_append (pv 2) (pa_cons (pe_tup (pa_cons (pv 5) (pa_cons (pe_op op_add (pv 4) pe_int) pa_nil))) pa_nil)))))))))
      (pss_one (ps_ret (pv 1)))))), ?_⟩
    refine ⟨Nat.zero_le _, fun pf hf => ?_⟩
    have s1 := same_new (o := .lst []) hf
    refine ⟨_, rfl, two_le, fun pt ht => ⟨(by decide : 1 ≤ sizeLine), fun pw hw => ?_⟩⟩
    have s3 := s1.trans (same_new (o := .tup [v, .int 1]) ht)
    have s4 := s3.trans (same_new (o := .lst [.ref pt]) hw)
    have hF0 : (upd (upd (upd H pf (.lst [])) pt (.tup [v, .int 1])) pw (.lst [.ref pt])) pf = some (.lst []) := same_new hw _ _ (same_new ht _ _ upd_same)
    have fw : pf ≠ pw := ne_of_none (show (upd (upd H pf (.lst [])) pt (.tup [v, .int 1])) pf = some (.lst []) from same_new ht _ _ upd_same) hw
    have hw0 := s3.free hw
    have dE : DT K (upd (upd (upd H pf (.lst [])) pt (.tup [v, .int 1])) pw (.lst [.ref pt])) (.ref pt) (entP (p, 1)) := .mk2 (Tp.of (same_new hw _ _ upd_same)) (dp.same s4) (.int _)
    have lenP : (p.pre 1).length = p.size := p.pre_len 1
    refine ⟨fun k σ H' => ∃ (fs ws : List PD) (xf xw : List V) (y3 y4 y5 : Option V), σ = [some v, some (.ref pf), some (.ref pw), y3, y4, y5] ∧ Same H H' ∧ H' pf = some (.lst xf) ∧ H' pw = some (.lst xw) ∧ DTs K H' xf (fs.map entP) ∧ DTs K H' xw (ws.map entP) ∧ (∀ e ∈ ws, e.1.WF) ∧ fs ++ ws.reverse.flatMap preP = p.pre 1 ∧ k = (ws.reverse.flatMap preP).length, ⟨_, [], [(p, 1)], [], [.ref pt], none, none, none, rfl, s4, hF0, upd_same, .nil, .cons dE .nil, ?_, ?_, rfl⟩, ?_⟩
    · intro e he
      rw [List.mem_singleton.mp he]
      exact wf
    · simp [preP]
    · rintro k σ H' ⟨fs, ws, xf, xw, y3, y4, y5, rfl, sm, hF, hW, dF, dW, wfs, eq, rfl⟩
      refine ⟨_, rfl, _, .inl ⟨xw, SqL.of hW, rfl⟩, ?_⟩
      rcases List.eq_nil_or_concat ws with rfl | ⟨ws0, e, rfl⟩
      · cases dW
        refine iteF ?_
        rw [List.reverse_nil, List.flatMap_nil, List.append_nil] at eq
        rw [eq] at dF
        exact ⟨_, rfl, fin pf xf H' sm hf hF dF⟩
      · rw [List.concat_eq_append] at *
        obtain ⟨xw0, x, rfl, dW0, dx⟩ : ∃ xw0 x, xw = xw0 ++ [x] ∧ DTs K H' xw0 (ws0.map entP) ∧ DT K H' x (entP e) := by
          have hl := dW.len
          rw [List.map_append, List.length_append] at hl
          have h1 := dW.take (ws0.map entP).length
          have h2 := dW.drop (ws0.map entP).length
          rw [List.map_append, List.take_left' rfl] at h1
          rw [List.map_append, List.drop_left' rfl] at h2
          obtain ⟨x, ex, dx⟩ := h2.inv1
          exact ⟨_, x, by rw [← ex, List.take_append_drop], h1, dx⟩
        have ne : (!(xw0 ++ [x]).isEmpty) = true := by simp
        refine if_true_of' ne ?_
        obtain ⟨b, vp, rfl, hb, dk⟩ := dx.entP_inv
        have wfe := wfs e (by simp)
        have eqn : (ws0 ++ [e]).reverse.flatMap preP = e :: ((kidsP e).flatMap preP ++ ws0.reverse.flatMap preP) := by
          rw [List.reverse_append, List.reverse_singleton, List.flatMap_append, List.flatMap_singleton, preP_eq]
          rfl
        refine ⟨fun σ2 H2 => ∃ m', m' < ((ws0 ++ [e]).reverse.flatMap preP).length ∧ ∃ (fs ws : List PD) (xf xw : List V) (y3 y4 y5 : Option V), σ2 = [some v, some (.ref pf), some (.ref pw), y3, y4, y5] ∧ Same H H2 ∧ H2 pf = some (.lst xf) ∧ H2 pw = some (.lst xw) ∧ DTs K H2 xf (fs.map entP) ∧ DTs K H2 xw (ws.map entP) ∧ (∀ e ∈ ws, e.1.WF) ∧ fs ++ ws.reverse.flatMap preP = p.pre 1 ∧ m' = (ws.reverse.flatMap preP).length, fun σ2 H2 z => z, ?_⟩
        refine ⟨_, rfl, .inl ⟨rfl, _, SqL.of hW⟩, _, _, _, rfl, rfl, hW, (by simp : (xw0 ++ [V.ref b])[(xw0 ++ [V.ref b]).length - 1]? = some (V.ref b)), ?_⟩
        have x1 : Xt pw H' (upd H' pw (.lst (xw0 ++ [V.ref b]).dropLast)) := Xt.upd
        have iw : IsL H' pw := ⟨_, hW⟩
        have sm1 := same_mut (o := .lst (xw0 ++ [V.ref b]).dropLast) sm hw0
        rw [List.dropLast_concat] at *
        refine ⟨_, _, rfl, (tp_xt iw x1 hb).sq, rfl, _, _, rfl, _, _, rfl, rfl, ?_⟩
        have hF1 := x1 _ _ fw hF
        have hW1 : (upd H' pw (.lst xw0)) pw = some (.lst xw0) := upd_same
        refine ⟨_, rfl, .inl ⟨rfl, _, SqL.of hF1⟩, _, rfl, _, rfl, two_le, fun pu hu => ?_⟩
        have s5 := same_new (o := .tup [vp, V.int e.2]) hu
        have hF2 := s5 _ _ hF1
        have lT : fs.length + ((kidsP e).flatMap preP).length + (ws0.reverse.flatMap preP).length + 1 ≤ 1000 := by
          have := congrArg List.length eq
          rw [List.length_append, eqn, lenP] at this
          simp only [List.length_cons, List.length_append] at this
          omega
        refine ⟨_, _, _, rfl, rfl, hF2, ?_, ?_⟩
        · have l1 : xf.length = fs.length := by rw [dF.len, List.length_map]
          rw [l1]
          exact small1000 (by omega)
        have if2 : IsL (upd (upd H' pw (.lst xw0)) pu (.tup [vp, V.int e.2])) pf := ⟨_, hF2⟩
        have x2 : Xt pf (upd (upd H' pw (.lst xw0)) pu (.tup [vp, V.int e.2])) (upd (upd (upd H' pw (.lst xw0)) pu (.tup [vp, V.int e.2])) pf (.lst (xf ++ [.ref pu]))) := Xt.upd
        have sm2 := same_mut (o := .lst (xf ++ [.ref pu])) (sm1.trans s5) hf
        have up : ∀ {v : V} {d : PyData}, DT K H' v d → DT K (upd (upd (upd H' pw (.lst xw0)) pu (.tup [vp, V.int e.2])) pf (.lst (xf ++ [.ref pu]))) v d := fun h => ((h.xt iw x1).same s5).xt if2 x2
        have ups : ∀ {v : List V} {d : List PyData}, DTs K H' v d → DTs K (upd (upd (upd H' pw (.lst xw0)) pu (.tup [vp, V.int e.2])) pf (.lst (xf ++ [.ref pu]))) v d := fun h => ((h.xt iw x1).same s5).xt if2 x2
        have dU : DT K (upd (upd (upd H' pw (.lst xw0)) pu (.tup [vp, V.int e.2])) pf (.lst (xf ++ [.ref pu]))) (.ref pu) (entP e) := .mk2 (tp_xt if2 x2 (Tp.of upd_same)) (up dk) (.int _)
        refine ⟨_, rfl, vp, e.1, rfl, up dk, wfe, fun l kv H3 s6 hl hL dkv => ?_⟩
        have sm3 := sm2.trans s6
        have hF3 := s6 _ _ (show (upd (upd (upd H' pw (.lst xw0)) pu (.tup [vp, V.int e.2])) pf (.lst (xf ++ [.ref pu]))) pf = _ from upd_same)
        have hW3 : H3 pw = some (.lst xw0) := s6 _ _ (x2 _ _ (Ne.symm fw) (s5 _ _ hW1))
        have dF3 : DTs K H3 (xf ++ [.ref pu]) ((fs ++ [e]).map entP) := by
          rw [List.map_append]
          exact ((ups dF).same s6).snoc (dU.same s6)
        have dW3 := (ups dW0).same s6
        have lw : l ≠ pw := fun z => by
          rw [z] at hl
          rw [x2 _ _ (Ne.symm fw) (s5 _ _ hW1)] at hl
          cases hl
        have lk : kv.length = e.1.ks.length := by rw [dkv.len, List.length_map]
        have iw3 : IsL H3 pw := ⟨_, hW3⟩
        refine ⟨l, kv, rfl, .inl ⟨SqL.of hL, for_it (walk_rev (K := K) (a := l) (xs := kv)) (fun i σ' H4 => ∃ (xw4 : List V) (y5 : Option V), σ' = [some v, some (.ref pf), some (.ref pw), some vp, some (.int e.2), y5] ∧ Same H H4 ∧ Xt pw H3 H4 ∧ H4 pw = some (.lst xw4) ∧ DTs K H4 xw4 ((ws0 ++ (kidsP e).reverse.take i).map entP)) ⟨xw0, y5, rfl, sm3, Xt.refl _, hW3, ?_⟩ (fun i σ' H4 _ ⟨_, _, _, _, x4, _, _⟩ => SqL.of (x4 _ _ lw hL)) ?_ ?_⟩⟩
        · simpa using dW3
        · rintro i x σ' H4 H4' hi ⟨xw4, y6, rfl, sm4, x4, hW4, dW4⟩ ⟨rfl, hx⟩
          have iw4 : IsL H4' pw := ⟨_, hW4⟩
          refine ⟨_, rfl, .inl ⟨rfl, _, SqL.of hW4⟩, _, rfl, _, rfl, _, _, rfl, rfl, two_le, fun p3 hp3 => ?_⟩
          have s8 := same_new (o := .tup [x, .int ((e.2 : Int) + 1)]) hp3
          have hW5 := s8 _ _ hW4
          refine ⟨_, _, _, rfl, rfl, hW5, ?_, ?_⟩
          · rw [dW4.len, List.length_map, List.length_append, List.length_take]
            have h0 := len_le_flatP ws0.reverse
            rw [List.length_reverse] at h0
            have h1 := len_le_flatP (kidsP e)
            rw [List.length_reverse]
            exact small1000 (by omega)
          · have x5 : Xt pw H4' (upd (upd H4' p3 (.tup [x, .int ((e.2 : Int) + 1)])) pw (.lst (xw4 ++ [.ref p3]))) := (Xt.of s8).trans Xt.upd
            have iw5 : IsL (upd H4' p3 (.tup [x, .int ((e.2 : Int) + 1)])) pw := ⟨_, hW5⟩
            refine ⟨xw4 ++ [.ref p3], _, rfl, same_mut (sm4.trans s8) hw0, x4.trans x5, upd_same, ?_⟩
            obtain ⟨d, hd, dx⟩ := dkv.get hx
            rw [List.getElem?_map] at hd
            obtain ⟨k, hk, rfl⟩ := Option.map_eq_some_iff.mp hd
            have hi' : i < e.1.ks.length := by omega
            have hr : (kidsP e).reverse[i]? = some (k, e.2 + 1) := by
              rw [List.getElem?_reverse (by rw [kidsP_len]; exact hi'), kidsP_len]
              unfold kidsP
              rw [List.getElem?_map, ← lk, hk]
              rfl
            rw [take_next hr, ← List.append_assoc, List.map_append]
            refine (dW4.xt iw4 x5).snoc ?_
            exact .mk2 (tp_xt iw5 Xt.upd (Tp.of upd_same)) ((dx.xt iw3 x4).xt iw4 x5) (by rw [show ((e.2 : Int) + 1) = ((e.2 + 1 : Nat) : Int) from rfl]; exact .int _)
        · rintro σ' H4 ⟨xw4, y6, rfl, sm4, x4, hW4, dW4⟩
          have e4 : (kidsP e).reverse.take kv.length = (kidsP e).reverse := List.take_of_length_le (by rw [List.length_reverse, kidsP_len]; omega)
          rw [e4] at dW4
          refine ⟨(((ws0 ++ (kidsP e).reverse).reverse).flatMap preP).length, ?_, fs ++ [e], ws0 ++ (kidsP e).reverse, _, xw4, _, _, _, rfl, sm4, x4 _ _ fw hF3, hW4, dF3.xt iw3 x4, dW4, ?_, ?_, rfl⟩
          · rw [eqn, List.reverse_append, List.reverse_reverse, List.flatMap_append]
            simp
          · intro e' he'
            rcases List.mem_append.mp he' with he' | he'
            · exact wfs e' (List.mem_append_left _ he')
            · obtain ⟨k, hk, rfl⟩ := List.mem_map.mp (List.mem_reverse.mp he')
              exact wfe.kid hk
          · rw [← eq, eqn, List.reverse_append, List.reverse_reverse, List.flatMap_append]
            simp
end
end Nl

namespace Nl
open PySem PySem.Spec PyProof.Rows L2
section
variable {P : Program} {w : World} {K : PySem.W.Frag} {mg : Str → Option Value} {base : Heap}
theorem kn_no {k : Kn} (b : Kn) (h : k ≠ b) : decide (V.str k.str = V.str b.str) = false := by rw [kn_dec]; exact decide_eq_false h
theorem kn_yes (k : Kn) : decide (V.str k.str = V.str k.str) = true := decide_eq_true rfl
def sp_cnum (K : PySem.W.Frag) (Z : Addr) : Sp := fun vs H Q E => ∃ (g : Int) (v : V) (p : Part), vs = [.int g, v] ∧ DT K H v p.D ∧ p.WF ∧ (Part.BadL g p.lit → ∀ H', Same H H' → E (.ref Z) none H') ∧ (¬ Part.BadL g p.lit → ∀ H', Same H H' → Q .non H')
theorem ok_check_numbers (T : Top w K mg) : FnOk P w K mg base (L2.CX P w) 2 T.a_check_numbers T.d_check_numbers ["goods", "part"] (sp_cnum K T.c_ContractError) := by
  refine T.check_numbers_F.okX sc_check_numbers (fun vs H Q E h => ?_) (fun cdv A outer s H vs Q E hr h => ?_)
  · obtain ⟨_, _, _, rfl, _⟩ := h
    rfl
  · obtain ⟨g, v, p, rfl, dp, wf, kE, kQ⟩ := h
    obtain ⟨a, ls, kv, rfl, ha, dl, dk⟩ := dp.part_inv
    refine ⟨_, (pss_one (ps_for (passes_of rfl) rfl (RZ.pi_zipA (by rfl) T.n_zip (pa_cons (pe_call (ok_kinds_behind T) (hr.mono (by decide : 1 ≤ 1)) (by rfl) T.g_kinds_behind T.kinds_behind_F.kp T.kinds_behind_b .nil pass0 (pa_cons (pe_ix ix_tup (pv 1) pe_int (fun _ _ => rfl)) pa_nil)) (pa_cons (pe_slice sl_tupP (pv 1) (po_some pe_int) po_none) pa_nil))) (pg_tup rfl (pgs_cons (pg_name (i := 2) sc_check_numbers.nd rfl (Or.inl rfl)) (pgs_cons (pg_name (i := 3) sc_check_numbers.nd rfl (Or.inl rfl)) pgs_nil))) (pss_cons (ps_if (PW.pt (pw_and (pt_cmpR op_eq (pv 2) pe_str (nomark _)) (pw_and1 (pt_not (pt_chain op_le op_lt pe_int (pv 3) (pv 0)))))) (pss_one (ps_raise rfl (takes_of rfl rfl rfl rfl) (pmk_own PySem.F.excBase_ValueError T.x_ContractError T.g_ContractError T.k_ContractError (raises_own T.b_ContractError T.t_ContractError) rfl))) pss_nil)
      (pss_one (ps_if (PW.pt (pw_and (pt_cmpR op_eq (pv 2) pe_str (nomark _)) (pw_and1 (pt_cmpR op_lt (pv 3) pe_int (nomark _))))) (pss_one (ps_raise rfl (takes_of rfl rfl rfl rfl) (pmk_own PySem.F.excBase_ValueError T.x_ContractError T.g_ContractError T.k_ContractError (raises_own T.b_ContractError T.t_ContractError) rfl))) pss_nil))))), ?_⟩
    have ll : ls.length = p.lit.kn.length := by rw [dl.len, Lit.len]
    have lk : kv.length = p.ks.length := by rw [dk.len, List.length_map]
    refine ⟨_, rfl, _, _, _, _, rfl, rfl, ha.sq, atI_nat (j := 0) rfl, p.wd, rfl, fun t ht => ?_⟩
    refine ⟨_, rfl, _, rfl, a, _, rfl, ha, fun q H1 s1 hq => ?_⟩
    have e1 : cutV (V.str p.wd.str :: (ls ++ kv)) (some 1) none = ls ++ kv := cut_drop _ 1
    rw [e1] at hq
    have nlen : (p.wd.kn.map fun k => V.str k.str).length = (ls ++ kv).length := by
      rw [List.length_map, wf.kn, List.length_append, List.length_map, List.length_append, ll, lk]
    refine ⟨t, q, _, _, rfl, .inr ⟨ht H1, hq.sq, for_it (walk_zipT (xs := p.wd.kn.map fun k => V.str k.str) (ys := ls ++ kv) (n := (ls ++ kv).length) (by omega))
      (fun i σ H' => ∃ y2 y3 : Option V, σ = [some (.int g), some (.ref a), y2, y3] ∧ Same H1 H' ∧ (0 < i → 0 < ls.length → ¬ Part.BadL g p.lit)) ⟨_, _, rfl, Same.refl _, fun z => (by cases z)⟩ (fun i σ H' _ ⟨_, _, _, sm, _⟩ => ⟨ht H', (tp_same sm hq).sq⟩) ?_ ?_⟩⟩
    · rintro i z σ H2 H3 hi ⟨y2, y3, rfl, sm, nb⟩ ⟨b, x, y, rfl, hb, rfl, hx, hy⟩
      have s3 := same_new (o := .tup [x, y]) hb
      have sm3 := sm.trans s3
      refine ⟨_, _, rfl, SqT.of upd_same, rfl, _, _, rfl, _, _, rfl, rfl, ?_⟩
      obtain ⟨k, hk, rfl⟩ : ∃ k, p.wd.kn[i]? = some k ∧ x = V.str k.str := by
        have hx : (p.wd.kn.map fun k => V.str k.str)[i]? = some x := hx
        rw [List.getElem?_map] at hx
        obtain ⟨k, hk, rfl⟩ := Option.map_eq_some_iff.mp hx
        exact ⟨k, hk, rfl⟩
      have hy : (ls ++ kv)[i]? = some y := hy
      rw [wf.kn] at hk
      generalize hl : p.lit = l at *
      by_cases hlt : i < ls.length
      · rw [List.getElem?_append_left (by omega)] at hk hy
        cases l with
        | non => 
          have : ls.length = 0 := ll
          omega
        | size q0 =>
          have : ls.length = 1 := ll
          have i0 : i = 0 := by omega
          subst i0
          cases hk
          refine ⟨_, rfl, rfl, _, rfl, if_false_of' (kn_no .good (by decide)) (iteF ?_)⟩
          refine ⟨_, rfl, rfl, _, rfl, if_false_of' (kn_no .time (by decide)) (iteF ?_)⟩
          exact ⟨_, _, rfl, sm3, fun _ _ z => z⟩
        | good j =>
          have : ls.length = 1 := ll
          have i0 : i = 0 := by omega
          subst i0
          cases hk
          obtain ⟨x0, rfl, dx0⟩ := dl.inv1
          cases dx0
          cases hy
          refine ⟨_, rfl, rfl, _, rfl, if_true_of' (kn_yes .good) ?_⟩
          refine ⟨_, rfl, _, _, rfl, rfl, _, rfl, ite2 (fun e => ⟨_, rfl, _, _, rfl, rfl, _, rfl, ?_⟩) (fun e => ⟨_, rfl, iteT (kE (fun z => e (decide_eq_true z.1)) _ (s1.trans sm3))⟩)⟩
          have j0 : 0 ≤ j := of_decide_eq_true e
          by_cases h1 : j < g
          · rw [decide_eq_true h1]
            refine iteF ?_
            refine ⟨_, rfl, rfl, _, rfl, if_false_of' (kn_no .time (by decide)) (iteF ?_)⟩
            exact ⟨_, _, rfl, sm3, fun _ _ z => z ⟨j0, h1⟩⟩
          · rw [decide_eq_false h1]
            exact iteT (kE (fun z => h1 z.2) _ (s1.trans sm3))
        | time j =>
          have : ls.length = 1 := ll
          have i0 : i = 0 := by omega
          subst i0
          cases hk
          obtain ⟨x0, rfl, dx0⟩ := dl.inv1
          cases dx0
          cases hy
          refine ⟨_, rfl, rfl, _, rfl, if_false_of' (kn_no .good (by decide)) (iteF ?_)⟩
          refine ⟨_, rfl, rfl, _, rfl, if_true_of' (kn_yes .time) ?_⟩
          refine ⟨_, rfl, _, _, rfl, rfl, _, rfl, ite2 (fun e => ?_) (fun e => ?_)⟩
          · exact kE (of_decide_eq_true e) _ (s1.trans sm3)
          · exact ⟨_, _, rfl, sm3, fun _ _ z => e (decide_eq_true z)⟩
      · rw [List.getElem?_append_right (by omega)] at hk
        have hk0 : k ∈ K3 := by
          obtain ⟨q, hq, rfl⟩ := List.mem_map.mp (List.mem_of_getElem? hk)
          exact cls_k3 _
        refine ⟨_, rfl, rfl, _, rfl, if_false_of' (kn_no .good (fun z => by rw [z] at hk0; revert hk0; decide)) (iteF ?_)⟩
        refine ⟨_, rfl, rfl, _, rfl, if_false_of' (kn_no .time (fun z => by rw [z] at hk0; revert hk0; decide)) (iteF ?_)⟩
        refine ⟨_, _, rfl, sm3, fun _ h0 => ?_⟩
        exact nb (by omega) h0
    · rintro σ H2 ⟨y2, y3, rfl, sm, nb⟩
      refine kQ (fun z => ?_) _ (s1.trans sm)
      have h0 : 0 < ls.length := by
        cases hl : p.lit with
        | non => rw [hl] at z; exact z.elim
        | _ => rw [ll, hl]; exact Nat.zero_lt_one
      exact nb (by rw [List.length_append]; omega) h0 z
/-! ### check_contract -/
theorem badP_iff (g : Int) (p : Part) : Part.Bad g p ↔ (40 < p.size ∨ ∃ x ∈ p.pre 1, 20 < x.2 ∨ Part.BadL g x.1.lit) := by
  have hd := p.pre_depth 1
  unfold Part.Bad
  constructor
  · rintro (h | h | ⟨x, hx, h⟩)
    · exact .inl h
    · obtain ⟨x, hx, e⟩ := hd.2
      exact .inr ⟨x, hx, .inl (by omega)⟩
    · exact .inr ⟨x, hx, .inr h⟩
  · rintro (h | ⟨x, hx, h | h⟩)
    · exact .inl h
    · have := hd.1 x hx
      exact .inr (.inl (by omega))
    · exact .inr (.inr ⟨x, hx, h⟩)
def BadX (g : Int) (x : PD) : Prop := 20 < x.2 ∨ Part.BadL g x.1.lit
def sp_ccon (K : PySem.W.Frag) (Z : Addr) : Sp := fun vs H Q E => ∃ (g : Int) (v : V) (p : Part), vs = [.int g, v] ∧ DT K H v p.D ∧ p.WF ∧ (Part.Bad g p → ∀ H', Same H H' → E (.ref Z) none H') ∧ (¬ Part.Bad g p → ∀ H', Same H H' → Q .non H')
theorem ok_check_contract (T : Top w K mg) : FnOk P w K mg base (L2.CX P w) 3 T.a_check_contract T.d_check_contract ["goods", "contract"] (sp_ccon K T.c_ContractError) := by
  refine T.check_contract_F.okX sc_check_contract (fun vs H Q E h => ?_) (fun cdv A outer s H vs Q E hr h => ?_)
  · obtain ⟨_, _, _, rfl, _⟩ := h
    rfl
  · obtain ⟨g, v, p, rfl, dp, wf, kE, kQ⟩ := h
    refine ⟨_, (pss_cons (ps_set (i := 2) sc_check_contract.nd rfl (Or.inl rfl) pe_int)
      (pss_cons (ps_set (i := 3) sc_check_contract.nd rfl (Or.inl rfl) (pe_lst (pa_cons (pe_tup (pa_cons (pv 1) (pa_cons pe_int pa_nil))) pa_nil)))
      (pss_one (ps_while (passes_of rfl) (pt_truth (pv 3) (by intro _; rfl)) (pss_cons (ps_asg (pe_bm0 PySem.F.plainAttrs_list PySem.F.slot_list_pop PySem.F.type_list_pop mt_pop (pv 3)) (pg_tup rfl (pgs_cons (pg_name (i := 4) sc_check_contract.nd rfl (Or.inl rfl)) (pgs_cons (pg_name (i := 5) sc_check_contract.nd rfl (Or.inl rfl)) pgs_nil))))
      (pss_cons (ps_aug (i := 2) sc_check_contract.nd rfl (Or.inl rfl) pe_int ip_add)
      (pss_cons (ps_if (PW.pt (pw_or (pt_cmpR op_gt (pv 2) (pe_glob (v := .int 40) (by rfl) T.g_PART_LIMIT ⟨_, rfl⟩) (nomark _)) (pw_or1 (pt_cmpR op_gt (pv 5) (pe_glob (v := .int 20) (by rfl) T.g_DEPTH_LIMIT ⟨_, rfl⟩) (nomark _))))) (pss_one (ps_raise rfl (takes_of rfl rfl rfl rfl) (pmk_own PySem.F.excBase_ValueError T.x_ContractError T.g_ContractError T.k_ContractError (raises_own T.b_ContractError T.t_ContractError) rfl))) pss_nil)
      (pss_cons (ps_expr (pe_callS (ok_check_numbers T) (hr.mono (by decide : 2 ≤ 2)) rfl T.g_check_numbers T.check_numbers_F.kp T.check_numbers_b (fun σ => passAt (takes_of rfl rfl rfl rfl) σ) (pa_cons (pv 0) (pa_cons (pv 4) pa_nil))))
      (pss_one (ps_for (passes_of rfl) rfl (pi_list (pe_call (ok_parts_behind T) (hr.mono (by decide : 2 ≤ 2)) (by rfl) T.g_parts_behind T.parts_behind_F.kp T.parts_behind_b .nil pass0 (pa_cons (pv 4) pa_nil))) (pg_name (i := 6) sc_check_contract.nd rfl (Or.inl rfl)) (pss_one (ps_expr (pe_bm PySem.F.plainAttrs_list PySem.F.slot_list_append PySem.F.type_list_append mt_append (pv 3) (pa_cons (pe_tup (pa_cons (pv 6) (pa_cons (pe_op op_add (pv 5) pe_int) pa_nil))) pa_nil)))))))))))))), ?_⟩
    refine ⟨_, rfl, two_le, fun pt ht => ⟨(by decide : 1 ≤ sizeLine), fun pw hw => ?_⟩⟩
    have s3 := same_new (o := .tup [v, .int 1]) ht
    have s4 := s3.trans (same_new (o := .lst [.ref pt]) hw)
    have hw0 := s3.free hw
    have dE : DT K (upd (upd H pt (.tup [v, .int 1])) pw (.lst [.ref pt])) (.ref pt) (entP (p, 1)) := .mk2 (Tp.of (same_new hw _ _ upd_same)) (dp.same s4) (.int _)
    have lenP : (p.pre 1).length = p.size := p.pre_len 1
    refine ⟨fun k σ H' => ∃ (n : Nat) (ws : List PD) (xw : List V) (y4 y5 y6 : Option V), σ = [some (.int g), some v, some (.int n), some (.ref pw), y4, y5, y6] ∧ Same H H' ∧ H' pw = some (.lst xw) ∧ DTs K H' xw (ws.map entP) ∧ (∀ e ∈ ws, e.1.WF) ∧ n + (ws.flatMap preP).length = p.size ∧ n ≤ 40 ∧ ws.length ≤ n + 1 ∧ ((∃ x ∈ p.pre 1, BadX g x) ↔ ∃ x ∈ ws.flatMap preP, BadX g x) ∧ k = (ws.flatMap preP).length, ⟨_, 0, [(p, 1)], [.ref pt], none, none, none, rfl, s4, upd_same, .cons dE .nil, ?_, ?_, by decide, by simp, ?_, rfl⟩, ?_⟩
    · intro e he
      rw [List.mem_singleton.mp he]
      exact wf
    · simp [preP, lenP]
    · simp [preP]
    · rintro k σ H' ⟨n, ws, xw, y4, y5, y6, rfl, sm, hW, dW, wfs, cnt, n40, lws, bad, rfl⟩
      refine ⟨_, rfl, _, .inl ⟨xw, SqL.of hW, rfl⟩, ?_⟩
      rcases List.eq_nil_or_concat ws with rfl | ⟨ws0, e, rfl⟩
      · cases dW
        refine iteF ?_
        refine kQ (fun z => ?_) _ sm
        rcases (badP_iff g p).mp z with h | h
        · rw [List.flatMap_nil, List.length_nil] at cnt
          omega
        · obtain ⟨x, hx, _⟩ := bad.mp h
          cases hx
      · rw [List.concat_eq_append] at *
        obtain ⟨xw0, x, rfl, dW0, dx⟩ : ∃ xw0 x, xw = xw0 ++ [x] ∧ DTs K H' xw0 (ws0.map entP) ∧ DT K H' x (entP e) := by
          have hl := dW.len
          rw [List.map_append, List.length_append] at hl
          have h1 := dW.take (ws0.map entP).length
          have h2 := dW.drop (ws0.map entP).length
          rw [List.map_append, List.take_left' rfl] at h1
          rw [List.map_append, List.drop_left' rfl] at h2
          obtain ⟨x, ex, dx⟩ := h2.inv1
          exact ⟨_, x, by rw [← ex, List.take_append_drop], h1, dx⟩
        have ne : (!(xw0 ++ [x]).isEmpty) = true := by simp
        refine if_true_of' ne ?_
        obtain ⟨b, vp, rfl, hb, dk⟩ := dx.entP_inv
        have wfe := wfs e (by simp)
        have eqn : (ws0 ++ [e]).flatMap preP = ws0.flatMap preP ++ e :: (kidsP e).flatMap preP := by
          rw [List.flatMap_append, List.flatMap_singleton, preP_eq]
        rw [eqn] at cnt bad
        refine ⟨fun σ2 H2 => ∃ m', m' < ((ws0 ++ [e]).flatMap preP).length ∧ ∃ (n : Nat) (ws : List PD) (xw : List V) (y4 y5 y6 : Option V), σ2 = [some (.int g), some v, some (.int n), some (.ref pw), y4, y5, y6] ∧ Same H H2 ∧ H2 pw = some (.lst xw) ∧ DTs K H2 xw (ws.map entP) ∧ (∀ e ∈ ws, e.1.WF) ∧ n + (ws.flatMap preP).length = p.size ∧ n ≤ 40 ∧ ws.length ≤ n + 1 ∧ ((∃ x ∈ p.pre 1, BadX g x) ↔ ∃ x ∈ ws.flatMap preP, BadX g x) ∧ m' = (ws.flatMap preP).length, fun σ2 H2 z => z, ?_⟩
        refine ⟨_, rfl, .inl ⟨rfl, _, SqL.of hW⟩, _, _, _, rfl, rfl, hW, (by simp : (xw0 ++ [V.ref b])[(xw0 ++ [V.ref b]).length - 1]? = some (V.ref b)), ?_⟩
        have x1 : Xt pw H' (upd H' pw (.lst (xw0 ++ [V.ref b]).dropLast)) := Xt.upd
        have iw : IsL H' pw := ⟨_, hW⟩
        have sm1 := same_mut (o := .lst (xw0 ++ [V.ref b]).dropLast) sm hw0
        rw [List.dropLast_concat] at *
        refine ⟨_, _, rfl, (tp_xt iw x1 hb).sq, rfl, _, _, rfl, _, _, rfl, rfl, ?_⟩
        have hW1 : (upd H' pw (.lst xw0)) pw = some (.lst xw0) := upd_same
        have dW1 := dW0.xt iw x1
        have dk1 := dk.xt iw x1
        generalize (upd H' pw (.lst xw0)) = H1 at *
        have c2 : n + 1 + ((ws0.flatMap preP).length + ((kidsP e).flatMap preP).length) = p.size := by
          simp only [List.length_append, List.length_cons] at cnt
          omega
        refine ⟨_, rfl, _, _, rfl, rfl, ?_⟩
        have mem_e : e ∈ ws0.flatMap preP ++ e :: (kidsP e).flatMap preP := by simp
        have kB : BadX g e → Part.Bad g p := fun z => (badP_iff g p).mpr (.inr (bad.mpr ⟨e, mem_e, z⟩))
        refine ⟨_, rfl, _, _, rfl, rfl, _, rfl, ite2 (fun e1 => ?_) (fun e1 => ?_)⟩
        · refine kE (.inl ?_) _ sm1
          have : (40 : Int) < (n : Int) + 1 := of_decide_eq_true e1
          omega
        have n40' : n + 1 ≤ 40 := by
          have : ¬ (40 : Int) < (n : Int) + 1 := fun z => e1 (decide_eq_true z)
          omega
        refine ⟨_, rfl, _, _, rfl, rfl, _, rfl, ite2 (fun e2 => ?_) (fun e2 => ?_)⟩
        · refine kE (kB (.inl ?_)) _ sm1
          have : (20 : Int) < (e.2 : Int) := of_decide_eq_true e2
          omega
        have d20 : ¬ 20 < e.2 := fun z => e2 (decide_eq_true (by show (20 : Int) < (e.2 : Int); omega))
        refine ⟨_, rfl, _, rfl, g, vp, e.1, rfl, dk1, wfe, fun z H2 s2 => kE (kB (.inr z)) _ (sm1.trans s2), fun nb H2 s2 => ?_⟩
        have hW2 := s2 _ _ hW1
        have dk2 := dk1.same s2
        refine ⟨_, rfl, vp, e.1, rfl, dk2, wfe, fun l kv H3 s6 hl hL dkv => ?_⟩
        have sm3 := (sm1.trans s2).trans s6
        have hW3 : H3 pw = some (.lst xw0) := s6 _ _ hW2
        have dW3 := (dW1.same s2).same s6
        have lw : l ≠ pw := fun z => by
          rw [z, hW2] at hl
          cases hl
        have lk : kv.length = e.1.ks.length := by rw [dkv.len, List.length_map]
        have iw3 : IsL H3 pw := ⟨_, hW3⟩
        have l40 : ws0.length + (kidsP e).length ≤ p.size := by
          have := len_le_flatP ws0
          have := len_le_flatP (kidsP e)
          omega
        refine ⟨l, rfl, ⟨_, SqL.of hL⟩, for_list (K := K) (a := l) (xs := kv) (fun i σ' H4 => ∃ (xw4 : List V) (y6 : Option V), σ' = [some (.int g), some v, some (.int ((n : Int) + 1)), some (.ref pw), some vp, some (.int e.2), y6] ∧ Same H H4 ∧ Xt pw H3 H4 ∧ H4 pw = some (.lst xw4) ∧ DTs K H4 xw4 ((ws0 ++ (kidsP e).take i).map entP)) ⟨xw0, y6, rfl, sm3, Xt.refl _, hW3, by simpa using dW3⟩ (fun i σ' H4 _ ⟨_, _, _, _, x4, _, _⟩ => SqL.of (x4 _ _ lw hL)) ?_ ?_⟩
        · rintro i x σ' H4 hx ⟨xw4, y6, rfl, sm4, x4, hW4, dW4⟩
          have iw4 : IsL H4 pw := ⟨_, hW4⟩
          refine ⟨_, rfl, .inl ⟨rfl, _, SqL.of hW4⟩, _, rfl, _, rfl, _, _, rfl, rfl, two_le, fun p3 hp3 => ?_⟩
          have s8 := same_new (o := .tup [x, .int ((e.2 : Int) + 1)]) hp3
          have hW5 := s8 _ _ hW4
          refine ⟨_, _, _, rfl, rfl, hW5, ?_, ?_⟩
          · rw [dW4.len, List.length_map, List.length_append, List.length_take]
            have := e.1.ks_len
            have : (kidsP e).length ≤ 2 := by rw [kidsP_len]; exact this
            rw [List.length_append, List.length_singleton] at lws
            exact small1000 (by omega)
          · have x5 : Xt pw H4 (upd (upd H4 p3 (.tup [x, .int ((e.2 : Int) + 1)])) pw (.lst (xw4 ++ [.ref p3]))) := (Xt.of s8).trans Xt.upd
            have iw5 : IsL (upd H4 p3 (.tup [x, .int ((e.2 : Int) + 1)])) pw := ⟨_, hW5⟩
            refine ⟨xw4 ++ [.ref p3], _, rfl, same_mut (sm4.trans s8) hw0, x4.trans x5, upd_same, ?_⟩
            obtain ⟨d, hd, dx⟩ := dkv.get hx
            rw [List.getElem?_map] at hd
            obtain ⟨k, hk, rfl⟩ := Option.map_eq_some_iff.mp hd
            have hr : (kidsP e)[i]? = some (k, e.2 + 1) := by
              unfold kidsP
              rw [List.getElem?_map, hk]
              rfl
            rw [take_next hr, ← List.append_assoc, List.map_append]
            refine (dW4.xt iw4 x5).snoc ?_
            exact .mk2 (tp_xt iw5 Xt.upd (Tp.of upd_same)) ((dx.xt iw3 x4).xt iw4 x5) (by rw [show ((e.2 : Int) + 1) = ((e.2 + 1 : Nat) : Int) from rfl]; exact .int _)
        · rintro σ' H4 ⟨xw4, y6, rfl, sm4, x4, hW4, dW4⟩
          have e4 : (kidsP e).take kv.length = kidsP e := List.take_of_length_le (by rw [kidsP_len]; omega)
          rw [e4] at dW4
          refine ⟨((ws0 ++ kidsP e).flatMap preP).length, ?_, n + 1, ws0 ++ kidsP e, xw4, _, _, _, rfl, sm4, hW4, dW4, ?_, ?_, n40', ?_, ?_, rfl⟩
          · rw [eqn, List.flatMap_append]
            simp
          · intro e' he'
            rcases List.mem_append.mp he' with he' | he'
            · exact wfs e' (List.mem_append_left _ he')
            · obtain ⟨k, hk, rfl⟩ := List.mem_map.mp he'
              exact wfe.kid hk
          · rw [List.flatMap_append, List.length_append]
            exact c2
          · have := e.1.ks_len
            have : (kidsP e).length ≤ 2 := by rw [kidsP_len]; exact this
            rw [List.length_append, List.length_singleton] at lws
            rw [List.length_append]
            omega
          · rw [bad, List.flatMap_append]
            constructor
            · rintro ⟨x, hx, z⟩
              rcases List.mem_append.mp hx with hx | hx
              · exact ⟨x, List.mem_append_left _ hx, z⟩
              · rcases List.mem_cons.mp hx with rfl | hx
                · rcases z with z | z
                  · exact (d20 z).elim
                  · exact (nb z).elim
                · exact ⟨x, List.mem_append_right _ hx, z⟩
            · rintro ⟨x, hx, z⟩
              rcases List.mem_append.mp hx with hx | hx
              · exact ⟨x, List.mem_append_left _ hx, z⟩
              · exact ⟨x, List.mem_append_right _ (List.mem_cons_of_mem _ hx), z⟩
def sp_size (K : PySem.W.Frag) : Sp := fun vs H Q _ => ∃ (v : V) (p : Part), vs = [v] ∧ DT K H v p.D ∧ p.WF ∧ p.size ≤ 1000 ∧ ∀ H', Same H H' → Q (.int (p.size : Int)) H'
def sp_depth (K : PySem.W.Frag) : Sp := fun vs H Q _ => ∃ (v : V) (p : Part), vs = [v] ∧ DT K H v p.D ∧ p.WF ∧ p.size ≤ 1000 ∧ ∀ H', Same H H' → Q (.int (p.depth : Int)) H'
end
end Nl

namespace Nl
open PySem PySem.Spec PyProof.Rows L2
/-! ### what values and conditions are -/
def prF (ps : List Pr) (x : Wd) (j : Int) : Int × Int := if j = 0 then (1, 1) else
  match ps[(j - 1).toNat]? with
  | some r => if x = .buy then r.1 else r.2
  | none => (1, 1)
def minF (a b : Int × Int) : Int × Int := if cmpF a b < 0 then a else b
def maxF (a b : Int × Int) : Int × Int := if cmpF a b > 0 then a else b
def jnV (x : Wd) (a b : Int × Int) : Int × Int := match x with
  | .plus => addF a b
  | .minus => subF a b
  | .times => mulF a b
  | .least => minF a b
  | .greatest => maxF a b
  | _ => (0, 1)
def jnC (x : Wd) (a b : Int × Int) : Bool := match x with
  | .less => decide (cmpF a b < 0)
  | .same => decide (a = b)
  | _ => false
def evV (ps : List Pr) : Part → Int × Int
  | .p0 x (.size q) => q
  | .p0 x (.good j) => prF ps x j
  | .p2 x _ a b => jnV x (evV ps a) (evV ps b)
  | _ => (0, 1)
def evC (ps : List Pr) : Part → Bool
  | .p1 _ _ a => !evC ps a
  | .p2 x _ a b => if x = .and_ then evC ps a && evC ps b else jnC x (evV ps a) (evV ps b)
  | _ => false
def evD (ps : List Pr) (p : Part) : PyData := if p.wd.cls = .value then frD (evV ps p) else .bool (evC ps p)
namespace Part
def lv : Part → Nat
  | p0 _ _ => 1
  | p1 _ _ a => a.lv
  | p2 _ _ a b => a.lv + b.lv
theorem lv_pos (p : Part) : 0 < p.lv := by
  induction p with
  | p0 w l => exact Nat.zero_lt_one
  | p1 w l a ih => exact ih
  | p2 w l a b iha ihb => simp only [lv]; omega
theorem lv_size (p : Part) : 2 * p.lv ≤ p.size + 1 := by
  induction p with
  | p0 w l => simp [lv, size]
  | p1 w l a ih => simp only [lv, size]; omega
  | p2 w l a b iha ihb => simp only [lv, size]; omega
theorem lv_pre (p : Part) : ∀ (n : Nat), ∀ x ∈ p.pre n, x.1.lv ≤ p.lv := by
  induction p with
  | p0 w l => intro n x hx; rw [List.mem_singleton.mp hx]; exact Nat.le_refl _
  | p1 w l a ih =>
    intro n x hx
    rcases List.mem_cons.mp hx with rfl | hx
    · exact Nat.le_refl _
    · exact ih (n + 1) x hx
  | p2 w l a b iha ihb =>
    intro n x hx
    simp only [lv]
    rcases List.mem_cons.mp hx with rfl | hx
    · exact Nat.le_refl _
    · rcases List.mem_append.mp hx with hx | hx
      · have := iha (n + 1) x hx; omega
      · have := ihb (n + 1) x hx; omega
/-- no contract in it -/
theorem not_con {p : Part} (h : p.WF) (hc : p.wd.cls ≠ .contract) : ∀ k ∈ p.ks, k.wd.cls ≠ .contract := by
  intro k hk e
  have h1 : k.wd.cls ∈ p.wd.kn := by
    rw [h.kn]
    exact List.mem_append_right _ (List.mem_map.mpr ⟨k, hk, rfl⟩)
  rw [e] at h1
  have : ∀ x ∈ Wd.all, x.cls ≠ .contract → Kn.contract ∉ x.kn := by decide
  exact this _ (Wd.mem_all _) hc h1
theorem not_con_pre {p : Part} (h : p.WF) (hc : p.wd.cls ≠ .contract) : ∀ (n : Nat), ∀ x ∈ p.pre n, x.1.wd.cls ≠ .contract := by
  induction p with
  | p0 w l => intro n x hx; rw [List.mem_singleton.mp hx]; exact hc
  | p1 w l a ih =>
    intro n x hx
    rcases List.mem_cons.mp hx with rfl | hx
    · exact hc
    · exact ih h.2 (not_con h hc a (by simp [ks])) (n + 1) x hx
  | p2 w l a b iha ihb =>
    intro n x hx
    rcases List.mem_cons.mp hx with rfl | hx
    · exact hc
    · rcases List.mem_append.mp hx with hx | hx
      · exact iha h.2.1 (not_con h hc a (by simp [ks])) (n + 1) x hx
      · exact ihb h.2.2 (not_con h hc b (by simp [ks])) (n + 1) x hx
end Part
/-- every number of a part has at most k bits -/
def LK (k : Nat) (l : Lit) : Prop := ∀ q, l = .size q → Ok k q
def PsK (k : Nat) (ps : List Pr) : Prop := ∀ r ∈ ps, PrK k r
theorem ok_one {k : Nat} (h : 1 ≤ k) : Ok k (1, 1) := Ok.mono (k := 1) ⟨⟨by decide, by decide⟩, by unfold Bd; decide, by unfold Bd; decide⟩ h
theorem prF_ok {k : Nat} {ps : List Pr} (hk : 1 ≤ k) (h : PsK k ps) (x : Wd) (j : Int) : Ok k (prF ps x j) := by
  unfold prF
  split
  · exact ok_one hk
  · cases e : ps[(j - 1).toNat]? with
    | none => exact ok_one hk
    | some r =>
      have := h r (List.mem_of_getElem? e)
      dsimp only
      split
      · exact this.1
      · exact this.2
theorem minF_ok {k m n : Nat} {a b : Int × Int} (ha : Ok k a) (hb : Ok m b) (h1 : k ≤ n) (h2 : m ≤ n) : Ok n (minF a b) := by
  unfold minF
  split
  · exact ha.mono h1
  · exact hb.mono h2
theorem maxF_ok {k m n : Nat} {a b : Int × Int} (ha : Ok k a) (hb : Ok m b) (h1 : k ≤ n) (h2 : m ≤ n) : Ok n (maxF a b) := by
  unfold maxF
  split
  · exact ha.mono h1
  · exact hb.mono h2
theorem jnV_ok {k m n : Nat} {a b : Int × Int} (x : Wd) (ha : Ok k a) (hb : Ok m b) (h : k + m + 1 ≤ n) : Ok n (jnV x a b) := by
  unfold jnV
  split
  · exact addF_ok ha hb h
  · exact subF_ok ha hb h
  · exact mulF_ok ha hb (by omega)
  · exact minF_ok ha hb (by omega) (by omega)
  · exact maxF_ok ha hb (by omega) (by omega)
  · exact ok_zero.mono (by omega)
theorem evV_ok {k : Nat} {ps : List Pr} (hk : 1 ≤ k) (h : PsK k ps) : ∀ p : Part, (p.All fun _ l => LK k l) → ∃ n, n + 1 ≤ (k + 1) * p.lv ∧ Ok n (evV ps p)
  | .p0 x .non, _ => ⟨1, by simp [Part.lv]; omega, ok_zero⟩
  | .p0 x (.time _), _ => ⟨1, by simp [Part.lv]; omega, ok_zero⟩
  | .p0 x (.size q), hl => ⟨k, by simp [Part.lv], hl.here q rfl⟩
  | .p0 x (.good j), hl => ⟨k, by simp [Part.lv], prF_ok hk h x j⟩
  | .p1 x l a, hl => by
    have := a.lv_pos
    refine ⟨1, ?_, ok_zero⟩
    have : (k + 1) * 1 ≤ (k + 1) * (Part.p1 x l a).lv := Nat.mul_le_mul_left _ this
    omega
  | .p2 x l a b, hl => by
    obtain ⟨n1, h1, o1⟩ := evV_ok hk h a (hl.kid (by simp [Part.ks]))
    obtain ⟨n2, h2, o2⟩ := evV_ok hk h b (hl.kid (by simp [Part.ks]))
    refine ⟨n1 + n2 + 1, ?_, jnV_ok x o1 o2 (Nat.le_refl _)⟩
    simp only [Part.lv, Nat.mul_add]
    omega
theorem evV_3000 {k : Nat} {ps : List Pr} {p : Part} (hk : 1 ≤ k) (h : PsK k ps) (hl : p.All fun _ l => LK k l) (hb : (k + 1) * p.lv ≤ 3000) : Ok 2999 (evV ps p) := by
  obtain ⟨n, h1, o⟩ := evV_ok hk h p hl
  exact o.mono (by omega)
/-! ### from the last part back -/
def stepF : List PD → List PD
  | [] => []
  | e :: r => kidsP e ++ r
def sufF (F : List PD) : Nat → List PD
  | 0 => F
  | j + 1 => stepF (sufF F j)
theorem step_flat (G : List PD) : (stepF G).flatMap preP = (G.flatMap preP).tail := by
  cases G with
  | nil => rfl
  | cons e r =>
    rw [List.flatMap_cons, preP_eq]
    simp [stepF]
theorem suf_flat (F : List PD) : ∀ j, (sufF F j).flatMap preP = (F.flatMap preP).drop j
  | 0 => rfl
  | j + 1 => by
    rw [sufF, step_flat, suf_flat F j, List.tail_drop]
theorem suf_at {F : List PD} {j : Nat} {e : PD} (h : (F.flatMap preP)[j]? = some e) : ∃ r, sufF F j = e :: r ∧ sufF F (j + 1) = kidsP e ++ r := by
  have h1 := suf_flat F j
  have h2 : ((F.flatMap preP).drop j).head? = some e := by rw [List.head?_drop]; exact h
  rw [← h1] at h2
  cases hs : sufF F j with
  | nil => rw [hs] at h2; simp at h2
  | cons x r =>
    rw [hs, List.flatMap_cons, preP_eq] at h2
    have : x = e := by simpa using h2
    subst this
    exact ⟨r, rfl, by rw [sufF, hs]; rfl⟩
theorem suf_end {F : List PD} {n : Nat} (h : (F.flatMap preP).length ≤ n) : sufF F n = [] := by
  have h1 := suf_flat F n
  rw [List.drop_eq_nil_iff.mpr h] at h1
  cases hs : sufF F n with
  | nil => rfl
  | cons x r =>
    rw [hs, List.flatMap_cons, preP_eq] at h1
    simp at h1
theorem eqv_int (a b : Int) : PyData.eqv (.int a) (.int b) = decide (a = b) := by
  show (a == b) = _
  by_cases h : a = b
  · subst h
    rw [decide_eq_true rfl, beq_self_eq_true]
  · rw [decide_eq_false h]
    exact beq_eq_false_iff_ne.mpr h
theorem eqv_fr (a b : Int × Int) : PyData.eqv (frD a) (frD b) = decide (a = b) := by
  show (PyData.eqv (.int a.1) (.int b.1) && (PyData.eqv (.int a.2) (.int b.2) && true)) = _
  rw [eqv_int, eqv_int, Bool.and_true]
  by_cases h : a = b
  · subst h
    simp
  · rw [decide_eq_false h]
    by_cases h1 : a.1 = b.1
    · have h2 : a.2 ≠ b.2 := fun z => h (Prod.ext h1 z)
      rw [decide_eq_false h2, Bool.and_false]
    · rw [decide_eq_false h1, Bool.false_and]
end Nl
namespace Nl
open PySem PySem.Spec PyProof.Rows L2
theorem nc_p0 {x : Wd} {l : Lit} (h : x.kn = l.kn) (hc : x.cls ≠ .contract) : (x = .number ∧ ∃ q, l = .size q) ∨ (x ∈ [Wd.buy, Wd.sell] ∧ ∃ j, l = .good j) := by
  cases x <;> cases l <;> simp_all [Wd.kn, Lit.kn, Wd.cls]
theorem nc_p1 {x : Wd} {l : Lit} {c : Kn} (h : x.kn = l.kn ++ [c]) (hc : x.cls ≠ .contract) (h3 : c ∈ K3) : x = .not_ ∧ l = .non ∧ c = .condition := by
  cases x <;> cases l <;> simp [Wd.kn, Lit.kn, Wd.cls, K3] at h hc h3 ⊢ <;> subst h <;> simp at h3 ⊢
theorem nc_p2 {x : Wd} {l : Lit} {c c' : Kn} (h : x.kn = l.kn ++ [c, c']) (hc : x.cls ≠ .contract) : (x.kn = [.value, .value] ∧ x ≠ .and_ ∧ c = .value ∧ c' = .value ∧ l = .non) ∨ (x = .and_ ∧ c = .condition ∧ c' = .condition ∧ l = .non) := by
  cases x <;> cases l <;> simp [Wd.kn, Lit.kn, Wd.cls] at h hc ⊢ <;> obtain ⟨rfl, rfl⟩ := h <;> exact ⟨rfl, rfl⟩
structure WO (ps : List Pr) (p : Part) : Prop where
  wf : p.WF
  nc : p.wd.cls ≠ .contract
  size : p.size ≤ 1000
  goods : ∀ x ∈ p.pre 1, ∀ j, x.1.lit = .good j → 0 ≤ j ∧ j ≤ ps.length
  bits : ∃ k, 1 ≤ k ∧ PsK k ps ∧ (p.All fun _ l => LK k l) ∧ (k + 1) * p.lv ≤ 3000
theorem WO.val {ps : List Pr} {p : Part} (h : WO ps p) {x : PD} (hx : x ∈ p.pre 1) : Ok 2999 (evV ps x.1) := by
  obtain ⟨k, hk, hp, hl, hb⟩ := h.bits
  refine evV_3000 hk hp ?_ (Nat.le_trans (Nat.mul_le_mul_left _ (p.lv_pre 1 x hx)) hb)
  have key : ∀ (q : Part) (n : Nat), (∀ y ∈ q.pre n, LK k y.1.lit) → ∀ y ∈ q.pre n, y.1.All fun _ l => LK k l := by
    intro q
    induction q with
    | p0 w l => intro n h y hy; rw [List.mem_singleton.mp hy]; exact (Part.all_iff (fun _ l => LK k l) _ n).mpr h
    | p1 w l a ih =>
      intro n h y hy
      rcases List.mem_cons.mp hy with rfl | hy
      · exact (Part.all_iff (fun _ l => LK k l) _ n).mpr h
      · exact ih (n + 1) (fun z hz => h z (List.mem_cons_of_mem _ hz)) y hy
    | p2 w l a b iha ihb =>
      intro n h y hy
      rcases List.mem_cons.mp hy with rfl | hy
      · exact (Part.all_iff (fun _ l => LK k l) _ n).mpr h
      · rcases List.mem_append.mp hy with hy | hy
        · exact iha (n + 1) (fun z hz => h z (List.mem_cons_of_mem _ (List.mem_append_left _ hz))) y hy
        · exact ihb (n + 1) (fun z hz => h z (List.mem_cons_of_mem _ (List.mem_append_right _ hz))) y hy
  exact key p 1 hl x hx
theorem evD_val {ps : List Pr} {p : Part} (h : p.wd.cls = .value) : evD ps p = frD (evV ps p) := if_pos h
theorem evD_con {ps : List Pr} {p : Part} (h : p.wd.cls = .condition) : evD ps p = .bool (evC ps p) := if_neg (by rw [h]; decide)
def B2 : List Wd := [.buy, .sell]
theorem sh_b2 : SeqAt.shaped (.tuple (B2.map fun k => .str k.str)) = true := by decide +kernel
end Nl
namespace Nl
open PySem PySem.Spec PyProof.Rows L2
theorem DTs.snoc_inv {K : PySem.W.Frag} {H : Hp} {xs : List V} {ds : List PyData} {d : PyData} (h : DTs K H xs (ds ++ [d])) : ∃ zs v, xs = zs ++ [v] ∧ DTs K H zs ds ∧ DT K H v d := by
  have h1 := h.take ds.length
  have h2 := h.drop ds.length
  rw [List.take_left' rfl] at h1
  rw [List.drop_left' rfl] at h2
  obtain ⟨x, ex, dx⟩ := h2.inv1
  exact ⟨_, x, by rw [← ex, List.take_append_drop], h1, dx⟩
theorem DT.bool_inv {K : PySem.W.Frag} {H : Hp} {v : V} {b : Bool} (h : DT K H v (.bool b)) : v = .bl b := by cases h; rfl
end Nl
namespace Nl
open PySem PySem.Spec PyProof.Rows L2
theorem kid_pre {p k : Part} (h : k ∈ p.ks) : ∀ x ∈ k.pre 2, x ∈ p.pre 1 := fun x hx => by
  rw [Part.pre_eq]
  exact List.mem_cons_of_mem _ (List.mem_flatMap.mpr ⟨k, h, hx⟩)
theorem kid_one {p k : Part} (h : k ∈ p.ks) : ∀ x ∈ k.pre 1, ∃ y ∈ p.pre 1, y.1 = x.1 := fun x hx => by
  have : x.1 ∈ (k.pre 2).map (·.1) := by rw [Part.pre_fst k 2 1]; exact List.mem_map.mpr ⟨x, hx, rfl⟩
  obtain ⟨y, hy, e⟩ := List.mem_map.mp this
  exact ⟨y, kid_pre h y hy, e⟩
theorem kid_size {p k : Part} (h : k ∈ p.ks) : k.size < p.size := by
  have : k.size ≤ (p.ks.map Part.size).sum := le_sum (List.mem_map.mpr ⟨k, h, rfl⟩)
  have := p.size_eq
  omega
theorem kid_lv {p k : Part} (h : k ∈ p.ks) : k.lv ≤ p.lv := p.lv_pre 1 (k, 2) (kid_pre h _ (by rw [Part.pre_eq]; exact List.mem_cons_self ..))
theorem WO.kid {ps : List Pr} {p k : Part} (h : WO ps p) (hk : k ∈ p.ks) : WO ps k := by
  obtain ⟨b, h1, h2, h3, h4⟩ := h.bits
  refine ⟨h.wf.kid hk, Part.not_con h.wf h.nc k hk, by have := kid_size hk; have := h.size; omega, fun x hx j e => ?_, ⟨b, h1, h2, h3.kid hk, Nat.le_trans (Nat.mul_le_mul_left _ (kid_lv hk)) h4⟩⟩
  obtain ⟨y, hy, e2⟩ := kid_one hk x hx
  exact h.goods y hy j (by rw [e2]; exact e)
theorem WO.val0 {ps : List Pr} {p : Part} (h : WO ps p) : Ok 2999 (evV ps p) := h.val (x := (p, 1)) (by rw [Part.pre_eq]; exact List.mem_cons_self ..)
theorem WO.good0 {ps : List Pr} {x : Wd} {j : Int} (h : WO ps (.p0 x (.good j))) : 0 ≤ j ∧ j ≤ ps.length := h.goods (.p0 x (.good j), 1) (by rw [Part.pre_eq]; exact List.mem_cons_self ..) j rfl
theorem cmp_lt {a b : Int × Int} : cmpF a b < 0 ↔ a.1 * b.2 < b.1 * a.2 := by
  unfold cmpF
  split
  · rename_i h
    exact ⟨fun _ => h, fun _ => by decide⟩
  · rename_i h
    split
    · exact ⟨fun z => absurd z (by decide), fun z => (h z).elim⟩
    · exact ⟨fun z => absurd z (by decide), fun z => (h z).elim⟩
theorem cmp_gt {a b : Int × Int} : cmpF a b > 0 ↔ b.1 * a.2 < a.1 * b.2 := by
  unfold cmpF
  split
  · rename_i h
    exact ⟨fun z => absurd z (by decide), fun z => by omega⟩
  · rename_i h
    split
    · rename_i h2
      exact ⟨fun _ => h2, fun _ => by decide⟩
    · rename_i h2
      exact ⟨fun z => absurd z (by decide), fun z => (h2 z).elim⟩
theorem minF_law {a b : Int × Int} (ha : Low a) (hb : Low b) : minF a b = if b.1 * a.2 < a.1 * b.2 then b else a := by
  unfold minF
  by_cases h : cmpF a b < 0
  · rw [if_pos h, if_neg (by have := cmp_lt.mp h; omega)]
  · rw [if_neg h]
    split
    · rfl
    · rename_i h2
      have h3 : ¬ a.1 * b.2 < b.1 * a.2 := fun z => h (cmp_lt.mpr z)
      exact (low_uniq ha hb (by omega)).symm
theorem maxF_law {a b : Int × Int} (ha : Low a) (hb : Low b) : maxF a b = if a.1 * b.2 < b.1 * a.2 then b else a := by
  unfold maxF
  by_cases h : cmpF a b > 0
  · rw [if_pos h, if_neg (by have := cmp_gt.mp h; omega)]
  · rw [if_neg h]
    split
    · rfl
    · rename_i h2
      have h3 : ¬ b.1 * a.2 < a.1 * b.2 := fun z => h (cmp_gt.mpr z)
      exact (low_uniq ha hb (by omega)).symm
theorem jnC_less (a b : Int × Int) : jnC .less a b = decide (a.1 * b.2 < b.1 * a.2) := by
  show decide (cmpF a b < 0) = _
  exact decide_eq_decide.mpr cmp_lt
end Nl
namespace Nl
open PySem PySem.Spec PyProof.Rows L2
theorem prF_at {ps : List Pr} (x : Wd) {j : Nat} (h : j ≤ ps.length) : ∃ r : Pr, (prD ((1, 1), (1, 1)) :: ps.map prD)[j]? = some (prD r) ∧ prF ps x (j : Int) = if x = .buy then r.1 else r.2 := by
  cases j with
  | zero => exact ⟨((1, 1), (1, 1)), rfl, by unfold prF; rw [if_pos (by rfl)]; split <;> rfl⟩
  | succ i =>
    have hr : ps[i]? = some ps[i] := List.getElem?_eq_getElem (by omega)
    refine ⟨ps[i], by rw [List.getElem?_cons_succ, List.getElem?_map, hr]; rfl, ?_⟩
    unfold prF
    rw [if_neg (by omega), show (((i + 1 : Nat) : Int) - 1).toNat = i by omega, hr]
end Nl
namespace Nl
open PySem PySem.Spec PyProof.Rows L2
theorem wo_of {g : Int} {c : Kn} {sz dp : Nat} {p : Part} {ps : List Pr} (h : PG g c sz dp p) (hc : c ≠ .contract) (po : PsOk g ps) (hs : p.size ≤ 28) : WO ps p := by
  refine ⟨h.wf, by rw [h.cls]; exact hc, by omega, fun x hx j e => ?_, 201, by decide, fun r hr => po.b r hr, fun x hx q e => ?_, ?_⟩
  · have h1 := h.lits x hx
    rw [e] at h1
    have := po.len
    have h2 : 0 ≤ j ∧ j < g := h1
    omega
  · have h1 := h.lits x hx
    rw [e] at h1
    have h2 : Ok 10 q := h1
    exact h2.mono (by decide)
  · have := p.lv_size
    have : p.lv ≤ 14 := by omega
    exact Nat.le_trans (Nat.mul_le_mul_left _ this) (by decide)
def BadG (g : Int) (p : Part) : Prop := ∃ x ∈ p.pre 1, Part.BadL g x.1.lit
theorem pg_good {g : Int} {c : Kn} {sz dp : Nat} {p : Part} (h : PG g c sz dp p) : ¬ BadG g p := by
  rintro ⟨x, hx, z⟩
  have h1 := h.lits x hx
  cases e : x.1.lit with
  | good j => rw [e] at h1 z; exact z h1
  | time j =>
    rw [e] at h1 z
    have h2 : 0 ≤ j ∧ j ≤ 3 := h1
    have h3 : j < 0 := z
    omega
  | non => rw [e] at z; exact z
  | size q => rw [e] at z; exact z
theorem badG_kid {g : Int} {p k : Part} (h : k ∈ p.ks) (hb : BadG g k) : BadG g p := by
  obtain ⟨x, hx, z⟩ := hb
  obtain ⟨y, hy, e⟩ := kid_one h x hx
  exact ⟨y, hy, by rw [e]; exact z⟩
end Nl
namespace Nl
open PySem PySem.Spec PyProof.Rows L2
theorem mulB8 {i j : Int} (ha : Bd 8000 i) (hb : Bd 8000 j) : CMulW i j := mulX ha hb
end Nl

namespace Nl
open PySem PySem.Spec PyProof.Rows L2
/-! ### what a contract asks or pays -/
inductive Told where
  | ask (holder : Bool) (c d : Part)
  | pay (am : List (Int × Int)) (left : Part)
def Told.map (f : Part → Part) : Told → Told
  | .ask h c d => .ask h (f c) (f d)
  | .pay am l => .pay am (f l)
def zeroF (n : Nat) : List (Int × Int) := List.replicate n (0, 1)
def oneF (n : Nat) (j : Int) : List (Int × Int) := (zeroF n).set j.toNat (1, 1)
def negF (q : Int × Int) : Int × Int := mulF q (-1, 1)
def noth : Part := .p0 .nothing .non
def faceF (ps : List Pr) (t : Int) : Part → Told
  | .p0 x l => match l with
    | .good j => .pay (oneF (ps.length + 1) j) noth
    | _ => .pay (zeroF (ps.length + 1)) (.p0 x l)
  | .p1 x l a => match x with
    | .give => match faceF ps t a with
      | .ask h c d => .ask (!h) (.p1 .give .non c) (.p1 .give .non d)
      | .pay am r => .pay (am.map negF) (.p1 .give .non r)
    | .at_ => match l with
      | .time b => if t = b then faceF ps t a else if t < b then .pay (zeroF (ps.length + 1)) (.p1 .at_ l a) else .pay (zeroF (ps.length + 1)) noth
      | _ => .pay (zeroF (ps.length + 1)) noth
    | .early => match l with
      | .time b => if t > b then .pay (zeroF (ps.length + 1)) noth else .ask true a (.p1 .later .non (.p1 .early l a))
      | _ => .pay (zeroF (ps.length + 1)) noth
    | .later => .pay (zeroF (ps.length + 1)) a
    | _ => .pay (zeroF (ps.length + 1)) noth
  | .p2 x l a b => match x with
    | .scale => match faceF ps t b with
      | .ask h c d => .ask h (.p2 .scale .non a c) (.p2 .scale .non a d)
      | .pay am r => .pay (am.map fun q => mulF q (evV ps a)) (.p2 .scale .non (.p0 .number (.size (evV ps a))) r)
    | .both => match faceF ps t a with
      | .ask h c d => .ask h (.p2 .both .non c b) (.p2 .both .non d b)
      | .pay am r => match faceF ps t b with
        | .ask h c d => .ask h (.p2 .both .non a c) (.p2 .both .non a d)
        | .pay am' r' => .pay (List.zipWith addF am am') (.p2 .both .non r r')
    | .or_ => .ask true a b
    | .when_ => if evC ps a then faceF ps t b else .pay (zeroF (ps.length + 1)) (.p2 .when_ l a b)
    | .until_ => if evC ps a then .pay (zeroF (ps.length + 1)) noth else (faceF ps t b).map fun r => .p2 .until_ .non a r
    | _ => .pay (zeroF (ps.length + 1)) noth
def sideS (h : Bool) : Str := if h then "holder" else "giver"
def Told.D : Told → PyData
  | .ask h c d => .tuple [.str "ask", .str (sideS h), c.D, d.D]
  | .pay am l => .tuple [.str "pay", .tuple (am.map frD), l.D]
/-- a value within a contract: an early one, or a number that it was -/
def ValG (g : Int) (v : Part) : Prop := v.WF ∧ v.wd.cls = .value ∧ v.size ≤ 3 ∧ (v.All fun _ l => LG g l) ∨ ∃ q, v = .p0 .number (.size q) ∧ Ok 404 q
def CndG (g : Int) (v : Part) : Prop := v.WF ∧ v.wd.cls = .condition ∧ v.size ≤ 11 ∧ v.depth ≤ 6 ∧ v.All fun _ l => LG g l
/-- a contract whose values are small and whose goods are there -/
def FC (g : Int) : Part → Prop
  | .p0 x l => x.kn = l.kn ∧ x.cls = .contract ∧ ∀ j, l = .good j → 0 ≤ j ∧ j < g
  | .p1 x l a => x.kn = l.kn ++ [.contract] ∧ FC g a
  | .p2 x l a b => (x = .scale ∧ l = .non ∧ ValG g a ∧ FC g b) ∨ ((x = .when_ ∨ x = .until_) ∧ l = .non ∧ CndG g a ∧ FC g b) ∨ ((x = .both ∨ x = .or_) ∧ l = .non ∧ FC g a ∧ FC g b)
theorem ValG.cls {g : Int} {v : Part} (h : ValG g v) : v.wd.cls = .value := by
  rcases h with h | ⟨q, rfl, _⟩
  · exact h.2.1
  · rfl
theorem ValG.wf {g : Int} {v : Part} (h : ValG g v) : v.WF := by
  rcases h with h | ⟨q, rfl, _⟩
  · exact h.1
  · rfl
theorem FC.wf {g : Int} : ∀ {c : Part}, FC g c → c.WF ∧ c.wd.cls = .contract
  | .p0 x l, h => ⟨h.1, h.2.1⟩
  | .p1 x l a, h => by
    have ih := FC.wf h.2
    refine ⟨⟨by rw [ih.2]; exact h.1, ih.1⟩, ?_⟩
    have h1 := h.1
    show x.cls = .contract
    cases x <;> cases l <;> simp [Wd.kn, Lit.kn, Wd.cls] at h1 ⊢
  | .p2 x l a b, h => by
    rcases h with ⟨rfl, rfl, ha, hb⟩ | ⟨hx, rfl, ha, hb⟩ | ⟨hx, rfl, ha, hb⟩
    · have ih := FC.wf hb
      exact ⟨⟨by rw [ha.cls, ih.2]; rfl, ha.wf, ih.1⟩, rfl⟩
    · have ih := FC.wf hb
      refine ⟨⟨?_, ha.1, ih.1⟩, ?_⟩
      · rw [ha.2.1, ih.2]
        rcases hx with rfl | rfl <;> rfl
      · rcases hx with rfl | rfl <;> rfl
    · have ia := FC.wf ha
      have ih := FC.wf hb
      refine ⟨⟨?_, ia.1, ih.1⟩, ?_⟩
      · rw [ia.2, ih.2]
        rcases hx with rfl | rfl <;> rfl
      · rcases hx with rfl | rfl <;> rfl
def tb : Part → Nat
  | .p0 _ _ => 1
  | .p1 _ _ a => tb a
  | .p2 x _ a b => if x = .scale then tb b + 404 else if x = .both ∨ x = .or_ then tb a + tb b + 1 else tb b
theorem tb_pos : ∀ c : Part, 1 ≤ tb c
  | .p0 _ _ => Nat.le_refl _
  | .p1 _ _ a => tb_pos a
  | .p2 x _ a b => by
    have := tb_pos b
    unfold tb
    split
    · omega
    · split <;> omega
theorem tb_size : ∀ c : Part, tb c + 201 ≤ 202 * c.size
  | .p0 _ _ => by simp [tb, Part.size]
  | .p1 _ _ a => by have := tb_size a; simp only [tb, Part.size]; omega
  | .p2 x _ a b => by
    have h1 := tb_size a
    have h2 := tb_size b
    have := a.size_pos
    simp only [tb, Part.size]
    split
    · omega
    · split <;> omega
structure ToldOk (g : Int) (n : Nat) (k : Nat) (t : Told) : Prop where
  fc : match t with
    | .ask _ c d => FC g c ∧ FC g d ∧ tb c ≤ k ∧ tb d ≤ k
    | .pay am l => am.length = n ∧ (∀ q ∈ am, Ok k q) ∧ FC g l ∧ tb l ≤ k
theorem fc_noth (g : Int) : FC g noth := ⟨rfl, rfl, fun j h => nomatch h⟩
theorem zeroF_len (n : Nat) : (zeroF n).length = n := List.length_replicate
theorem zeroF_ok {k n : Nat} (hk : 1 ≤ k) : ∀ q ∈ zeroF n, Ok k q := fun q hq => by
  rw [(List.mem_replicate.mp hq).2]
  exact ok_zero.mono hk
theorem oneF_ok {k n : Nat} (hk : 1 ≤ k) (j : Int) : ∀ q ∈ oneF n j, Ok k q := fun q hq => by
  rcases List.mem_or_eq_of_mem_set hq with hq | rfl
  · exact zeroF_ok hk q hq
  · exact ok_one hk
theorem ok_m1 {k : Nat} (h : 1 ≤ k) : Ok k (-1, 1) := Ok.mono (k := 1) ⟨⟨by decide, by decide⟩, by unfold Bd; decide, by unfold Bd; decide⟩ h
theorem negF_eq {q : Int × Int} (h : Low q) : negF q = (-q.1, q.2) := by
  refine low_uniq (frac_low ?_) ⟨h.pos, by rw [Int.neg_gcd]; exact h.cop⟩ ?_
  · have := h.pos
    show q.2 * 1 ≠ 0
    omega
  · have e := frac_cross (a := q.1 * -1) (b := q.2 * 1) (by have := h.pos; omega)
    show (frac (q.1 * -1) (q.2 * 1)).1 * q.2 = -q.1 * (frac (q.1 * -1) (q.2 * 1)).2
    rw [Int.mul_one] at e ⊢
    rw [show -q.1 = q.1 * -1 by omega]
    exact e
theorem negF_ok {k : Nat} {q : Int × Int} (h : Ok k q) : Ok k (negF q) := by
  rw [negF_eq h.low]
  refine ⟨⟨h.low.pos, by rw [Int.neg_gcd]; exact h.low.cop⟩, h.b1.neg, h.b2⟩
theorem wo_val {g : Int} {v : Part} {ps : List Pr} (h : ValG g v) (po : PsOk g ps) : WO ps v ∧ Ok 404 (evV ps v) := by
  rcases h with ⟨wf, hc, hs, hl⟩ | ⟨q, rfl, hq⟩
  · have h1 : WO ps v := wo_of (sz := 3) (dp := v.depth) ⟨wf, hc, hs, Nat.le_refl _, hl⟩ (by decide) po (by omega)
    refine ⟨h1, ?_⟩
    have hl2 : v.All fun _ l => LK 201 l := fun x hx q e => by
      have h1 := hl x hx
      rw [e] at h1
      have h2 : Ok 10 q := h1
      exact h2.mono (by decide)
    obtain ⟨n, hn, o⟩ := evV_ok (k := 201) (by decide) (fun r hr => po.b r hr) v hl2
    have := v.lv_size
    have hlv : v.lv ≤ 2 := by omega
    have : 202 * v.lv ≤ 404 := by omega
    exact o.mono (by omega)
  · refine ⟨⟨rfl, (by decide : Kn.value ≠ Kn.contract), (by decide : 1 ≤ 1000), fun x hx j e => ?_, 404, by decide, fun r hr => (po.b r hr).mono (by decide), fun x hx q' e => ?_, (by decide : (404 + 1) * 1 ≤ 3000)⟩, hq⟩
    · rw [List.mem_singleton.mp hx] at e
      cases e
    · rw [List.mem_singleton.mp hx] at e
      cases e
      exact hq
theorem wo_cnd {g : Int} {v : Part} {ps : List Pr} (h : CndG g v) (po : PsOk g ps) : WO ps v := 
  wo_of (sz := 11) (dp := v.depth) ⟨h.1, h.2.1, h.2.2.1, Nat.le_refl _, h.2.2.2.2⟩ (by decide) po (by have := h.2.2.1; omega)
theorem ToldOk.map_ok {g : Int} {n k k' : Nat} {t : Told} {f : Part → Part} (h : ToldOk g n k t) (hk : k ≤ k') (hf : ∀ c, FC g c → tb c ≤ k → FC g (f c) ∧ tb (f c) ≤ k') : ToldOk g n k' (t.map f) := by
  cases t with
  | ask s c d =>
    obtain ⟨h1, h2, h3, h4⟩ := h.fc
    exact ⟨⟨(hf c h1 h3).1, (hf d h2 h4).1, (hf c h1 h3).2, (hf d h2 h4).2⟩⟩
  | pay am l =>
    obtain ⟨h1, h2, h3, h4⟩ := h.fc
    exact ⟨⟨h1, fun q hq => (h2 q hq).mono hk, (hf l h3 h4).1, (hf l h3 h4).2⟩⟩
theorem face_ok {g : Int} {ps : List Pr} (po : PsOk g ps) (t : Int) : ∀ c : Part, FC g c → ToldOk g (ps.length + 1) (tb c) (faceF ps t c)
  | .p0 x l, h => by
    have hz : ToldOk g (ps.length + 1) (tb (.p0 x l)) (.pay (zeroF (ps.length + 1)) (.p0 x l)) := ⟨⟨zeroF_len _, zeroF_ok (Nat.le_refl _), h, Nat.le_refl _⟩⟩
    cases l with
    | good j => exact ⟨⟨by unfold oneF; rw [List.length_set, zeroF_len], oneF_ok (Nat.le_refl _) j, fc_noth g, Nat.le_refl _⟩⟩
    | non => exact hz
    | size q => exact hz
    | time i => exact hz
  | .p1 x l a, h => by
    have ih := face_ok po t a h.2
    have pa := tb_pos a
    have zn : ToldOk g (ps.length + 1) (tb (.p1 x l a)) (.pay (zeroF (ps.length + 1)) noth) := ⟨⟨zeroF_len _, zeroF_ok pa, fc_noth g, pa⟩⟩
    unfold faceF
    split
    · have hl : l = .non := by have := h.1; cases l <;> simp [Wd.kn, Lit.kn] at this ⊢
      cases e : faceF ps t a with
      | ask s c d =>
        rw [e] at ih
        obtain ⟨h1, h2, h3, h4⟩ := ih.fc
        exact ⟨⟨⟨rfl, h1⟩, ⟨rfl, h2⟩, h3, h4⟩⟩
      | pay am r =>
        rw [e] at ih
        obtain ⟨h1, h2, h3, h4⟩ := ih.fc
        refine ⟨⟨by rw [List.length_map, h1], fun q hq => ?_, ⟨rfl, h3⟩, h4⟩⟩
        obtain ⟨q', hq', rfl⟩ := List.mem_map.mp hq
        exact negF_ok (h2 q' hq')
    · split
      · split
        · exact ih
        · split
          · exact ⟨⟨zeroF_len _, zeroF_ok pa, h, Nat.le_refl _⟩⟩
          · exact zn
      · exact zn
    · split
      · split
        · exact zn
        · exact ⟨⟨h.2, ⟨rfl, h⟩, Nat.le_refl _, Nat.le_refl _⟩⟩
      · exact zn
    · exact ⟨⟨zeroF_len _, zeroF_ok pa, h.2, Nat.le_refl _⟩⟩
    · exact zn
  | .p2 x l a b, h => by
    have pb := tb_pos b
    rcases h with ⟨rfl, rfl, ha, hb⟩ | ⟨hx, rfl, ha, hb⟩ | ⟨hx, rfl, ha, hb⟩
    · have ih := face_ok po t b hb
      have et : tb (.p2 .scale .non a b) = tb b + 404 := rfl
      rw [et]
      unfold faceF
      have es : ∀ c, tb (.p2 .scale .non a c) = tb c + 404 := fun c => rfl
      cases e : faceF ps t b with
      | ask s c d =>
        rw [e] at ih
        obtain ⟨h1, h2, h3, h4⟩ := ih.fc
        exact ⟨⟨.inl ⟨rfl, rfl, ha, h1⟩, .inl ⟨rfl, rfl, ha, h2⟩, by rw [es]; omega, by rw [es]; omega⟩⟩
      | pay am r =>
        rw [e] at ih
        obtain ⟨h1, h2, h3, h4⟩ := ih.fc
        have ov := (wo_val ha po).2
        refine ⟨⟨by rw [List.length_map, h1], fun q hq => ?_, .inl ⟨rfl, rfl, .inr ⟨_, rfl, ov⟩, h3⟩, by show tb r + 404 ≤ _; omega⟩⟩
        obtain ⟨q', hq', rfl⟩ := List.mem_map.mp hq
        exact mulF_ok (h2 q' hq') ov (Nat.le_refl _)
    · have ih := face_ok po t b hb
      have et : tb (.p2 x .non a b) = tb b := by rcases hx with rfl | rfl <;> rfl
      have zn : ToldOk g (ps.length + 1) (tb b) (.pay (zeroF (ps.length + 1)) noth) := ⟨⟨zeroF_len _, zeroF_ok pb, fc_noth g, pb⟩⟩
      rw [et]
      rcases hx with rfl | rfl
      · unfold faceF
        dsimp only
        split
        · exact ih
        · exact ⟨⟨zeroF_len _, zeroF_ok pb, .inr (.inl ⟨.inl rfl, rfl, ha, hb⟩), by rw [et]; exact Nat.le_refl _⟩⟩
      · unfold faceF
        dsimp only
        split
        · exact zn
        · exact ih.map_ok (Nat.le_refl _) fun c hc hk => ⟨.inr (.inl ⟨.inr rfl, rfl, ha, hc⟩), hk⟩
    · have et : tb (.p2 x .non a b) = tb a + tb b + 1 := by rcases hx with rfl | rfl <;> rfl
      rw [et]
      rcases hx with rfl | rfl
      · have ia := face_ok po t a ha
        have ib := face_ok po t b hb
        have es : ∀ c d, tb (.p2 .both .non c d) = tb c + tb d + 1 := fun c d => rfl
        have fb : ∀ c d, FC g c → FC g d → FC g (.p2 .both .non c d) := fun c d h1 h2 => .inr (.inr ⟨.inl rfl, rfl, h1, h2⟩)
        unfold faceF
        dsimp only
        cases e : faceF ps t a with
        | ask s c d =>
          rw [e] at ia
          obtain ⟨h1, h2, h3, h4⟩ := ia.fc
          exact ⟨⟨fb _ _ h1 hb, fb _ _ h2 hb, by rw [es]; omega, by rw [es]; omega⟩⟩
        | pay am r =>
          rw [e] at ia
          obtain ⟨h1, h2, h3, h4⟩ := ia.fc
          dsimp only
          cases e' : faceF ps t b with
          | ask s c d =>
            rw [e'] at ib
            obtain ⟨k1, k2, k3, k4⟩ := ib.fc
            exact ⟨⟨fb _ _ ha k1, fb _ _ ha k2, by rw [es]; omega, by rw [es]; omega⟩⟩
          | pay am' r' =>
            rw [e'] at ib
            obtain ⟨k1, k2, k3, k4⟩ := ib.fc
            refine ⟨⟨by rw [List.length_zipWith, h1, k1, Nat.min_self], fun q hq => ?_, fb _ _ h3 k3, by rw [es]; omega⟩⟩
            obtain ⟨i, hi⟩ := List.getElem?_of_mem hq
            rw [List.getElem?_zipWith] at hi
            cases ea : am[i]? with
            | none => rw [ea] at hi; cases hi
            | some q1 =>
              cases eb : am'[i]? with
              | none => rw [ea, eb] at hi; cases hi
              | some q2 =>
                rw [ea, eb] at hi
                cases hi
                exact addF_ok (h2 q1 (List.mem_of_getElem? ea)) (k2 q2 (List.mem_of_getElem? eb)) (Nat.le_refl _)
      · exact ⟨⟨ha, hb, by omega, by omega⟩⟩
end Nl

namespace Nl
open PySem PySem.Spec PyProof.Rows L2
section
variable {P : Program} {w : World} {K : PySem.W.Frag} {mg : Str → Option Value} {base : Heap}
def sp_lnum (K : PySem.W.Frag) : Sp := fun vs H Q _ => ∃ pd ps : Addr, vs = [.ref pd] ∧ Dst H pd ps ∧ ∀ v q H', Xt pd H H' → Dst H' pd ps → DT K H' v (Part.p0 .number (.size q)).D → Ok 10 q → Q v H'
theorem ok__law_number (T : Top w K mg) : FnOk P w K mg base CX0 4 T.a__law_number T.d__law_number ["d"] (sp_lnum K) := by
  refine T._law_number_F.ok sc__law_number (fun vs H Q E h => ?_) (fun cdv A outer s H vs Q E hr h => ?_)
  · obtain ⟨_, _, rfl, _⟩ := h
    rfl
  · obtain ⟨pd, ps, rfl, D, fin⟩ := h
    refine ⟨_, (pss_one (ps_ret (pe_tup (pa_cons pe_str (pa_cons (pe_call (ok__law_part T) (hr.mono (by decide : 3 ≤ 3)) (by rfl) T.g__law_part T._law_part_F.kp T._law_part_b .nil pass0 (pa_cons (pv 0) (pa_cons pe_int pa_nil))) pa_nil))))), ?_⟩
    refine ⟨_, rfl, pd, ps, 3, rfl, D, by decide, by decide, fun v q H1 x1 D1 dv ok => ⟨two_le, fun p hp => ?_⟩⟩
    have s2 := same_new (o := .tup [V.str Wd.number.str, v]) hp
    exact fin _ q _ (x1.trans (Xt.of s2)) (D1.same s2) (DT.p0s (Tp.of upd_same) (dv.same s2)) ok
def sp_val (K : PySem.W.Frag) (m : Nat) : Sp := fun vs H Q _ => ∃ (pd ps : Addr) (g d : Int), vs = [.ref pd, .int g, .int d] ∧ d = (m : Int) ∧ Dst H pd ps ∧ 1 ≤ g ∧ g ≤ 10 ∧ ∀ v p H', Xt pd H H' → Dst H' pd ps → DT K H' v p.D → PG g .value (szV m) (m + 1) p → Q v H'
def spPV (K : PySem.W.Frag) : Nat → Sp
  | 0 => fun _ _ _ _ => False
  | m + 1 => sp_val K m
theorem val_step (T : Top w K mg) {k m : Nat} (hk : 4 ≤ k) (ih : FnOk P w K mg base CX0 k T.a__law_value T.d__law_value ["d", "goods", "deep"] (spPV K m)) :
    FnOk P w K mg base CX0 (k + 1) T.a__law_value T.d__law_value ["d", "goods", "deep"] (sp_val K m) := by
  refine T._law_value_F.ok sc__law_value (fun vs H Q E h => ?_) (fun cdv A outer s H vs Q E hr h => ?_)
  · obtain ⟨_, _, _, _, rfl, _⟩ := h
    rfl
  · obtain ⟨pd, ps, g, d, rfl, rfl, D0, g1, g4, fin⟩ := h
    refine ⟨_, (Evl.pss_cut (ps_set (i := 3) sc__law_value.nd rfl (Or.inl rfl) (pe_ifExp (pt_cmpR op_gt (pv 2) pe_int (nomark _)) (pe_call (ok__law_take T) (hr.mono (by omega)) (by rfl) T.g__law_take T._law_take_F.kp T._law_take_b .nil pass0 (pa_cons (pv 0) (pa_cons pe_int pa_nil))) (pe_call (ok__law_take T) (hr.mono (by omega)) (by rfl) T.g__law_take T._law_take_F.kp T._law_take_b .nil pass0 (pa_cons (pv 0) (pa_cons pe_int pa_nil)))))
      (pss_cons (ps_if (pt_cmpR op_eq (pv 3) pe_int (nomark _)) (pss_one (ps_ret (pe_call (ok__law_number T) (hr.mono (by omega)) (by rfl) T.g__law_number T._law_number_F.kp T._law_number_b .nil pass0 (pa_cons (pv 0) pa_nil)))) pss_nil)
      (pss_cons (ps_if (pt_cmpR op_lt (pv 3) pe_int (nomark _)) (pss_one (ps_ret (pe_tup (pa_cons (pe_ix ix_tup (pe_tup (pa_cons pe_str (pa_cons pe_str pa_nil))) (pe_op op_sub (pv 3) pe_int) (fun _ _ => rfl)) (pa_cons (pe_call (ok__law_take T) (hr.mono (by omega)) (by rfl) T.g__law_take T._law_take_F.kp T._law_take_b .nil pass0 (pa_cons (pv 0) (pa_cons (pv 1) pa_nil))) pa_nil))))) pss_nil)
      (pss_cons (ps_set (i := 4) sc__law_value.nd rfl (Or.inl rfl) (pe_ix ix_tup (pe_tup (pa_cons pe_str (pa_cons pe_str (pa_cons pe_str (pa_cons pe_str (pa_cons pe_str pa_nil)))))) (pe_op op_sub (pv 3) pe_int) (fun _ _ => rfl)))
      (pss_one (ps_ret (pe_tup (pa_cons (pv 4) (pa_cons (pe_call ih (hr.mono (by omega)) (by rfl) T.g__law_value T._law_value_F.kp T._law_value_b .nil pass0 (pa_cons (pv 0) (pa_cons (pv 1) (pa_cons (pe_op op_sub (pv 2) pe_int) pa_nil)))) (pa_cons (pe_call ih (hr.mono (by omega)) (by rfl) T.g__law_value T._law_value_F.kp T._law_value_b .nil pass0 (pa_cons (pv 0) (pa_cons (pv 1) (pa_cons (pe_op op_sub (pv 2) pe_int) pa_nil)))) pa_nil)))))))))), ?_⟩
    have b8 : ∀ {x : Int}, 0 ≤ x → x ≤ 15 → Bd 8000 x := fun h0 h1 => Bd.mono (k := 4) (by unfold Bd; omega) (by decide)
    refine ⟨fun σ' H1 => ∃ menu : Int, σ' = [some (.ref pd), some (.int g), some (.int (m : Int)), some (.int menu), none] ∧ Xt pd H H1 ∧ Dst H1 pd ps ∧ 0 ≤ menu ∧ menu < 8 ∧ (m = 0 → menu < 3), ?_, ?_⟩
    · refine ⟨_, rfl, _, _, rfl, rfl, _, rfl, ite2 (fun e => ?_) (fun e => ?_)⟩
      · have e0 : (0 : Int) < (m : Int) := of_decide_eq_true e
        exact ⟨_, rfl, pd, ps, 8, rfl, D0, by decide, b8 (by decide) (by decide), fun r H1 x1 D1 r0 r1 => ⟨r, rfl, x1, D1, r0, r1, fun z => by omega⟩⟩
      · exact ⟨_, rfl, pd, ps, 3, rfl, D0, by decide, b8 (by decide) (by decide), fun r H1 x1 D1 r0 r1 => ⟨r, rfl, x1, D1, r0, by omega, fun _ => r1⟩⟩
    · rintro σ' H1 ⟨menu, rfl, x1, D1, m0, m8, m3⟩
      have sp := szV_pos m
      refine ⟨_, rfl, rfl, _, rfl, ite2 (fun e => ?_) (fun e => ?_)⟩
      · refine ⟨_, rfl, pd, ps, rfl, D1, fun v q H2 x2 D2 dv ok => ?_⟩
        exact fin _ _ _ (x1.trans x2) D2 dv ((pg0 (x := .number) (l := .size q) rfl ok).mono sp (by omega))
      have n0 : menu ≠ 0 := fun z => e (decide_eq_true (by rw [z]))
      refine ⟨_, rfl, _, _, rfl, rfl, _, rfl, ite2 (fun e => ?_) (fun e => ?_)⟩
      · have e3 : menu < 3 := of_decide_eq_true e
        refine ⟨two_le, fun p hp => ?_⟩
        have s2 := same_new (o := .tup [V.str Wd.buy.str, V.str Wd.sell.str]) hp
        have hx : ∃ x : Wd, atI [V.str Wd.buy.str, V.str Wd.sell.str] (menu - 1) = some (.str x.str) ∧ x.kn = [.good] ∧ x.cls = .value := by
          have : menu = 1 ∨ menu = 2 := by omega
          rcases this with rfl | rfl
          · exact ⟨.buy, atI_nat (j := 0) rfl, rfl, rfl⟩
          · exact ⟨.sell, atI_nat (j := 1) rfl, rfl, rfl⟩
        obtain ⟨x, hx, kx, cx⟩ := hx
        refine ⟨_, rfl, _, _, rfl, rfl, _, _, _, _, rfl, rfl, SqT.of upd_same, hx, ?_⟩
        have D2 := D1.same s2
        refine ⟨_, rfl, _, rfl, pd, ps, g, rfl, D2, by omega, b8 (by omega) (by omega), fun r H3 x3 D3 r0 r1 => ⟨two_le, fun p4 hp4 => ?_⟩⟩
        have s4 := same_new (o := .tup [V.str x.str, .int r]) hp4
        have := pg0 (g := g) (x := x) (l := .good r) kx ⟨r0, r1⟩
        rw [cx] at this
        exact fin _ _ _ (((x1.trans (Xt.of s2)).trans x3).trans (Xt.of s4)) (D3.same s4) (DT.p0g (Tp.of upd_same)) (this.mono sp (by omega))
      · have e3 : ¬ menu < 3 := fun z => e (decide_eq_true z)
        match m, ih, m3, fin with
        | 0, _, m3, _ => exact (e3 (m3 rfl)).elim
        | m + 1, ih, _, fin =>
          refine ⟨by decide, fun p hp => ?_⟩
          have s2 := same_new (o := .tup [V.str Wd.plus.str, V.str Wd.minus.str, V.str Wd.times.str, V.str Wd.least.str, V.str Wd.greatest.str]) hp
          have hx : ∃ x : Wd, atI [V.str Wd.plus.str, V.str Wd.minus.str, V.str Wd.times.str, V.str Wd.least.str, V.str Wd.greatest.str] (menu - 3) = some (.str x.str) ∧ x.kn = [.value, .value] ∧ x.cls = .value := by
            have : menu = 3 ∨ menu = 4 ∨ menu = 5 ∨ menu = 6 ∨ menu = 7 := by omega
            rcases this with rfl | rfl | rfl | rfl | rfl
            · exact ⟨.plus, atI_nat (j := 0) rfl, rfl, rfl⟩
            · exact ⟨.minus, atI_nat (j := 1) rfl, rfl, rfl⟩
            · exact ⟨.times, atI_nat (j := 2) rfl, rfl, rfl⟩
            · exact ⟨.least, atI_nat (j := 3) rfl, rfl, rfl⟩
            · exact ⟨.greatest, atI_nat (j := 4) rfl, rfl, rfl⟩
          obtain ⟨x, hx, kx, cx⟩ := hx
          refine ⟨_, rfl, _, _, rfl, rfl, _, _, _, _, rfl, rfl, SqT.of upd_same, hx, ?_⟩
          have D2 := D1.same s2
          have ed : (((m + 1 : Nat) : Int) - 1) = (m : Int) := by omega
          refine ⟨_, rfl, _, rfl, _, rfl, _, rfl, _, _, rfl, rfl, pd, ps, g, _, rfl, ed, D2, g1, g4, fun v1 p1 H3 x3 D3 d1 pg1 => ?_⟩
          refine ⟨_, rfl, _, rfl, _, rfl, _, _, rfl, rfl, pd, ps, g, _, rfl, ed, D3, g1, g4, fun v2 p2 H4 x4 D4 d2 pg2' => ⟨(by decide : 3 ≤ sizeLine), fun p5 hp5 => ?_⟩⟩
          have s5 := same_new (o := .tup [V.str x.str, v1, v2]) hp5
          have := pg2 (g := g) (x := x) (l := .non) kx trivial pg1 pg2'
          rw [cx] at this
          exact fin _ _ _ ((((x1.trans (Xt.of s2)).trans x3).trans x4).trans (Xt.of s5)) (D4.same s5) (DT.p2n (Tp.of upd_same) ((d1.xt D3.isL' x4).same s5) (d2.same s5)) (this.mono (Nat.le_refl _) (by omega))
def sp_valA (K : PySem.W.Frag) : Sp := fun vs H Q E => ∃ m : Nat, m ≤ 3 ∧ sp_val K m vs H Q E
theorem ok__law_value (T : Top w K mg) : FnOk P w K mg base CX0 8 T.a__law_value T.d__law_value ["d", "goods", "deep"] (sp_valA K) := by
  have z : FnOk P w K mg base CX0 4 T.a__law_value T.d__law_value ["d", "goods", "deep"] (spPV K 0) := ⟨fun _ _ _ _ h => h.elim, fun _ _ _ _ _ _ _ _ _ _ _ _ _ h => h.elim⟩
  have f0 := val_step T (k := 4) (m := 0) (by decide) z
  have f1 := val_step T (k := 5) (m := 1) (by decide) f0
  have f2 := val_step T (k := 6) (m := 2) (by decide) f1
  have f3 := val_step T (k := 7) (m := 3) (by decide) f2
  refine ⟨fun vs H Q E h => ?_, fun A outer s H args us vs Q E hr e0 hb hv h => ?_⟩
  · obtain ⟨m, _, _, _, _, _, rfl, _⟩ := h
    rfl
  · obtain ⟨m, hm, h⟩ := h
    match m, hm, h with
    | 0, _, h => exact (f0.mono (by decide)).run A outer s H args us vs Q E hr e0 hb hv h
    | 1, _, h => exact (f1.mono (by decide)).run A outer s H args us vs Q E hr e0 hb hv h
    | 2, _, h => exact (f2.mono (by decide)).run A outer s H args us vs Q E hr e0 hb hv h
    | 3, _, h => exact f3.run A outer s H args us vs Q E hr e0 hb hv h
def sp_cnd (K : PySem.W.Frag) (m : Nat) : Sp := fun vs H Q _ => ∃ (pd ps : Addr) (g d : Int), vs = [.ref pd, .int g, .int d] ∧ d = (m : Int) ∧ Dst H pd ps ∧ 1 ≤ g ∧ g ≤ 10 ∧ ∀ v p H', Xt pd H H' → Dst H' pd ps → DT K H' v p.D → PG g .condition (szC m) (m + 3) p → Q v H'
def spPC (K : PySem.W.Frag) : Nat → Sp
  | 0 => fun _ _ _ _ => False
  | m + 1 => sp_cnd K m
theorem cnd_step (T : Top w K mg) {k m : Nat} (hk : 8 ≤ k) (ih : FnOk P w K mg base CX0 k T.a__law_condition T.d__law_condition ["d", "goods", "deep"] (spPC K m)) :
    FnOk P w K mg base CX0 (k + 1) T.a__law_condition T.d__law_condition ["d", "goods", "deep"] (sp_cnd K m) := by
  refine T._law_condition_F.ok sc__law_condition (fun vs H Q E h => ?_) (fun cdv A outer s H vs Q E hr h => ?_)
  · obtain ⟨_, _, _, _, rfl, _⟩ := h
    rfl
  · obtain ⟨pd, ps, g, d, rfl, rfl, D0, g1, g4, fin⟩ := h
    refine ⟨_, (Evl.pss_cut (ps_set (i := 3) sc__law_condition.nd rfl (Or.inl rfl) (pe_ifExp (pt_cmpR op_gt (pv 2) pe_int (nomark _)) (pe_call (ok__law_take T) (hr.mono (by omega)) (by rfl) T.g__law_take T._law_take_F.kp T._law_take_b .nil pass0 (pa_cons (pv 0) (pa_cons pe_int pa_nil))) (pe_call (ok__law_take T) (hr.mono (by omega)) (by rfl) T.g__law_take T._law_take_F.kp T._law_take_b .nil pass0 (pa_cons (pv 0) (pa_cons pe_int pa_nil)))))
      (pss_cons (ps_if (pt_cmpR op_lt (pv 3) pe_int (nomark _)) (pss_one (ps_ret (pe_tup (pa_cons (pe_ix ix_tup (pe_tup (pa_cons pe_str (pa_cons pe_str (pa_cons pe_str pa_nil)))) (pv 3) (fun _ _ => rfl)) (pa_cons (pe_call (ok__law_value T) (hr.mono (by omega)) (by rfl) T.g__law_value T._law_value_F.kp T._law_value_b .nil pass0 (pa_cons (pv 0) (pa_cons (pv 1) (pa_cons pe_int pa_nil)))) (pa_cons (pe_call (ok__law_value T) (hr.mono (by omega)) (by rfl) T.g__law_value T._law_value_F.kp T._law_value_b .nil pass0 (pa_cons (pv 0) (pa_cons (pv 1) (pa_cons pe_int pa_nil)))) pa_nil)))))) pss_nil)
      (pss_cons (ps_if (pt_cmpR op_lt (pv 3) pe_int (nomark _)) (pss_one (ps_ret (pe_tup (pa_cons pe_str (pa_cons (pe_call ih (hr.mono (by omega)) (by rfl) T.g__law_condition T._law_condition_F.kp T._law_condition_b .nil pass0 (pa_cons (pv 0) (pa_cons (pv 1) (pa_cons (pe_op op_sub (pv 2) pe_int) pa_nil)))) pa_nil))))) pss_nil)
      (pss_one (ps_ret (pe_tup (pa_cons pe_str (pa_cons (pe_call ih (hr.mono (by omega)) (by rfl) T.g__law_condition T._law_condition_F.kp T._law_condition_b .nil pass0 (pa_cons (pv 0) (pa_cons (pv 1) (pa_cons (pe_op op_sub (pv 2) pe_int) pa_nil)))) (pa_cons (pe_call ih (hr.mono (by omega)) (by rfl) T.g__law_condition T._law_condition_F.kp T._law_condition_b .nil pass0 (pa_cons (pv 0) (pa_cons (pv 1) (pa_cons (pe_op op_sub (pv 2) pe_int) pa_nil)))) pa_nil))))))))), ?_⟩
    have b8 : ∀ {x : Int}, 0 ≤ x → x ≤ 15 → Bd 8000 x := fun h0 h1 => Bd.mono (k := 4) (by unfold Bd; omega) (by decide)
    refine ⟨fun σ' H1 => ∃ menu : Int, σ' = [some (.ref pd), some (.int g), some (.int (m : Int)), some (.int menu)] ∧ Xt pd H H1 ∧ Dst H1 pd ps ∧ 0 ≤ menu ∧ menu < 6 ∧ (m = 0 → menu < 3), ?_, ?_⟩
    · refine ⟨_, rfl, _, _, rfl, rfl, _, rfl, ite2 (fun e => ?_) (fun e => ?_)⟩
      · have e0 : (0 : Int) < (m : Int) := of_decide_eq_true e
        exact ⟨_, rfl, pd, ps, 6, rfl, D0, by decide, b8 (by decide) (by decide), fun r H1 x1 D1 r0 r1 => ⟨r, rfl, x1, D1, r0, r1, fun z => by omega⟩⟩
      · exact ⟨_, rfl, pd, ps, 3, rfl, D0, by decide, b8 (by decide) (by decide), fun r H1 x1 D1 r0 r1 => ⟨r, rfl, x1, D1, r0, by omega, fun _ => r1⟩⟩
    · rintro σ' H1 ⟨menu, rfl, x1, D1, m0, m8, m3⟩
      have sp := szC_pos m
      refine ⟨_, rfl, _, _, rfl, rfl, _, rfl, ite2 (fun e => ?_) (fun e => ?_)⟩
      · have e3 : menu < 3 := of_decide_eq_true e
        refine ⟨(by decide : 3 ≤ sizeLine), fun p hp => ?_⟩
        have s2 := same_new (o := .tup [V.str Wd.less.str, V.str Wd.less.str, V.str Wd.same.str]) hp
        have hx : ∃ x : Wd, atI [V.str Wd.less.str, V.str Wd.less.str, V.str Wd.same.str] menu = some (.str x.str) ∧ x.kn = [.value, .value] ∧ x.cls = .condition := by
          have : menu = 0 ∨ menu = 1 ∨ menu = 2 := by omega
          rcases this with rfl | rfl | rfl
          · exact ⟨.less, atI_nat (j := 0) rfl, rfl, rfl⟩
          · exact ⟨.less, atI_nat (j := 1) rfl, rfl, rfl⟩
          · exact ⟨.same, atI_nat (j := 2) rfl, rfl, rfl⟩
        obtain ⟨x, hx, kx, cx⟩ := hx
        refine ⟨_, rfl, _, _, _, _, rfl, rfl, SqT.of upd_same, hx, ?_⟩
        have D2 := D1.same s2
        refine ⟨_, rfl, _, rfl, 1, by decide, pd, ps, g, 1, rfl, rfl, D2, g1, g4, fun v1 p1 H3 x3 D3 d1 pg1 => ?_⟩
        refine ⟨_, rfl, _, rfl, 0, by decide, pd, ps, g, 0, rfl, rfl, D3, g1, g4, fun v2 p2 H4 x4 D4 d2 pg2' => ⟨(by decide : 3 ≤ sizeLine), fun p5 hp5 => ?_⟩⟩
        have s5 := same_new (o := .tup [V.str x.str, v1, v2]) hp5
        have := pg2 (g := g) (x := x) (l := .non) kx trivial pg1 pg2'
        rw [cx] at this
        exact fin _ _ _ ((((x1.trans (Xt.of s2)).trans x3).trans x4).trans (Xt.of s5)) (D4.same s5) (DT.p2n (Tp.of upd_same) ((d1.xt D3.isL' x4).same s5) (d2.same s5)) (this.mono (by simp only [szV]; omega) (by omega))
      have e3 : ¬ menu < 3 := fun z => e (decide_eq_true z)
      match m, ih, m3, fin with
      | 0, _, m3, _ => exact (e3 (m3 rfl)).elim
      | m + 1, ih, _, fin =>
        have ed : (((m + 1 : Nat) : Int) - 1) = (m : Int) := by omega
        refine ⟨_, rfl, _, _, rfl, rfl, _, rfl, ite2 (fun e => ?_) (fun e => ?_)⟩
        · refine ⟨_, rfl, _, rfl, _, rfl, _, _, rfl, rfl, pd, ps, g, _, rfl, ed, D1, g1, g4, fun v1 p1 H3 x3 D3 d1 pg1' => ⟨two_le, fun p5 hp5 => ?_⟩⟩
          have s5 := same_new (o := .tup [V.str Wd.not_.str, v1]) hp5
          have := pg1 (g := g) (x := .not_) (l := .non) rfl trivial pg1'
          exact fin _ _ _ ((x1.trans x3).trans (Xt.of s5)) (D3.same s5) (DT.p1n (x := .not_) (Tp.of upd_same) (d1.same s5)) (this.mono (by simp only [szC]; omega) (by omega))
        · refine ⟨_, rfl, _, rfl, _, rfl, _, _, rfl, rfl, pd, ps, g, _, rfl, ed, D1, g1, g4, fun v1 p1 H3 x3 D3 d1 pg1 => ?_⟩
          refine ⟨_, rfl, _, rfl, _, rfl, _, _, rfl, rfl, pd, ps, g, _, rfl, ed, D3, g1, g4, fun v2 p2 H4 x4 D4 d2 pg2' => ⟨(by decide : 3 ≤ sizeLine), fun p5 hp5 => ?_⟩⟩
          have s5 := same_new (o := .tup [V.str Wd.and_.str, v1, v2]) hp5
          have := pg2 (g := g) (x := .and_) (l := .non) rfl trivial pg1 pg2'
          exact fin _ _ _ (((x1.trans x3).trans x4).trans (Xt.of s5)) (D4.same s5) (DT.p2n (x := .and_) (Tp.of upd_same) ((d1.xt D3.isL' x4).same s5) (d2.same s5)) (this.mono (Nat.le_refl _) (by omega))
def sp_cndA (K : PySem.W.Frag) : Sp := fun vs H Q E => ∃ m : Nat, m ≤ 3 ∧ sp_cnd K m vs H Q E
theorem ok__law_condition (T : Top w K mg) : FnOk P w K mg base CX0 12 T.a__law_condition T.d__law_condition ["d", "goods", "deep"] (sp_cndA K) := by
  have z : FnOk P w K mg base CX0 8 T.a__law_condition T.d__law_condition ["d", "goods", "deep"] (spPC K 0) := ⟨fun _ _ _ _ h => h.elim, fun _ _ _ _ _ _ _ _ _ _ _ _ _ h => h.elim⟩
  have f0 := cnd_step T (k := 8) (m := 0) (by decide) z
  have f1 := cnd_step T (k := 9) (m := 1) (by decide) f0
  have f2 := cnd_step T (k := 10) (m := 2) (by decide) f1
  have f3 := cnd_step T (k := 11) (m := 3) (by decide) f2
  refine ⟨fun vs H Q E h => ?_, fun A outer s H args us vs Q E hr e0 hb hv h => ?_⟩
  · obtain ⟨m, _, _, _, _, _, rfl, _⟩ := h
    rfl
  · obtain ⟨m, hm, h⟩ := h
    match m, hm, h with
    | 0, _, h => exact (f0.mono (by decide)).run A outer s H args us vs Q E hr e0 hb hv h
    | 1, _, h => exact (f1.mono (by decide)).run A outer s H args us vs Q E hr e0 hb hv h
    | 2, _, h => exact (f2.mono (by decide)).run A outer s H args us vs Q E hr e0 hb hv h
    | 3, _, h => exact f3.run A outer s H args us vs Q E hr e0 hb hv h
def sp_con (K : PySem.W.Frag) (m : Nat) : Sp := fun vs H Q _ => ∃ (pd ps : Addr) (g d a : Int), vs = [.ref pd, .int g, .int d, .int a] ∧ d = (m : Int) ∧ 0 ≤ a ∧ Dst H pd ps ∧ 1 ≤ g ∧ g ≤ 10 ∧ ∀ v p H', Xt pd H H' → Dst H' pd ps → DT K H' v p.D → PG g .contract (szK m) (m + 5) p → FC g p → Q v H'
def spPK (K : PySem.W.Frag) : Nat → Sp
  | 0 => fun _ _ _ _ => False
  | m + 1 => sp_con K m
theorem con_step (T : Top w K mg) {k m : Nat} (hk : 12 ≤ k) (ih : FnOk P w K mg base CX0 k T.a__law_contract T.d__law_contract ["d", "goods", "deep", "asks"] (spPK K m)) :
    FnOk P w K mg base CX0 (k + 1) T.a__law_contract T.d__law_contract ["d", "goods", "deep", "asks"] (sp_con K m) := by
  refine T._law_contract_F.ok sc__law_contract (fun vs H Q E h => ?_) (fun cdv A outer s H vs Q E hr h => ?_)
  · obtain ⟨_, _, _, _, _, rfl, _⟩ := h
    rfl
  · obtain ⟨pd, ps, g, d, a, rfl, rfl, a0, D0, g1, g4, fin⟩ := h
    refine ⟨_, (pss_cons (ps_set (i := 4) sc__law_contract.nd rfl (Or.inl rfl) (pe_call (ok__law_take T) (hr.mono (by omega)) (by rfl) T.g__law_take T._law_take_F.kp T._law_take_b .nil pass0 (pa_cons (pv 0) (pa_cons pe_int pa_nil))))
      (pss_cons (ps_if (PW.pt (pw_or (pt_cmpR op_eq (pv 2) pe_int (nomark _)) (pw_or1 (pt_cmpR op_lt (pv 4) pe_int (nomark _))))) (pss_one (ps_ret (pe_ifExp (pt_cmpR op_eq (pv 4) pe_int (nomark _)) (pe_tup (pa_cons pe_str pa_nil)) (pe_tup (pa_cons pe_str (pa_cons (pe_call (ok__law_take T) (hr.mono (by omega)) (by rfl) T.g__law_take T._law_take_F.kp T._law_take_b .nil pass0 (pa_cons (pv 0) (pa_cons (pv 1) pa_nil))) pa_nil)))))) pss_nil)
      (pss_cons (ps_if (pt_cmpR op_lt (pv 4) pe_int (nomark _)) (pss_one (ps_ret (pe_tup (pa_cons pe_str (pa_cons (pe_call (ok__law_value T) (hr.mono (by omega)) (by rfl) T.g__law_value T._law_value_F.kp T._law_value_b .nil pass0 (pa_cons (pv 0) (pa_cons (pv 1) (pa_cons pe_int pa_nil)))) (pa_cons (pe_call ih (hr.mono (by omega)) (by rfl) T.g__law_contract T._law_contract_F.kp T._law_contract_b .nil pass0 (pa_cons (pv 0) (pa_cons (pv 1) (pa_cons (pe_op op_sub (pv 2) pe_int) (pa_cons (pv 3) pa_nil))))) pa_nil)))))) pss_nil)
      (pss_cons (ps_if (pt_cmpR op_lt (pv 4) pe_int (nomark _)) (pss_one (ps_ret (pe_tup (pa_cons pe_str (pa_cons (pe_call ih (hr.mono (by omega)) (by rfl) T.g__law_contract T._law_contract_F.kp T._law_contract_b .nil pass0 (pa_cons (pv 0) (pa_cons (pv 1) (pa_cons (pe_op op_sub (pv 2) pe_int) (pa_cons (pv 3) pa_nil))))) (pa_cons (pe_call ih (hr.mono (by omega)) (by rfl) T.g__law_contract T._law_contract_F.kp T._law_contract_b .nil pass0 (pa_cons (pv 0) (pa_cons (pv 1) (pa_cons (pe_op op_sub (pv 2) pe_int) (pa_cons pe_int pa_nil))))) pa_nil)))))) pss_nil)
      (pss_cons (ps_if (pt_cmpR op_eq (pv 4) pe_int (nomark _)) (pss_one (ps_ret (pe_tup (pa_cons pe_str (pa_cons (pe_call ih (hr.mono (by omega)) (by rfl) T.g__law_contract T._law_contract_F.kp T._law_contract_b .nil pass0 (pa_cons (pv 0) (pa_cons (pv 1) (pa_cons (pe_op op_sub (pv 2) pe_int) (pa_cons (pv 3) pa_nil))))) pa_nil))))) pss_nil)
      (pss_cons (ps_if (pt_cmpR op_eq (pv 4) pe_int (nomark _)) (pss_one (ps_ret (pe_tup (pa_cons pe_str (pa_cons (pe_call (ok__law_take T) (hr.mono (by omega)) (by rfl) T.g__law_take T._law_take_F.kp T._law_take_b .nil pass0 (pa_cons (pv 0) (pa_cons pe_int pa_nil))) (pa_cons (pe_call ih (hr.mono (by omega)) (by rfl) T.g__law_contract T._law_contract_F.kp T._law_contract_b .nil pass0 (pa_cons (pv 0) (pa_cons (pv 1) (pa_cons (pe_op op_sub (pv 2) pe_int) (pa_cons (pv 3) pa_nil))))) pa_nil)))))) pss_nil)
      (pss_cons (ps_if (pt_cmpR op_eq (pv 4) pe_int (nomark _)) (pss_one (ps_ret (pe_tup (pa_cons pe_str (pa_cons (pe_call (ok__law_condition T) (hr.mono (by omega)) (by rfl) T.g__law_condition T._law_condition_F.kp T._law_condition_b .nil pass0 (pa_cons (pv 0) (pa_cons (pv 1) (pa_cons pe_int pa_nil)))) (pa_cons (pe_call ih (hr.mono (by omega)) (by rfl) T.g__law_contract T._law_contract_F.kp T._law_contract_b .nil pass0 (pa_cons (pv 0) (pa_cons (pv 1) (pa_cons (pe_op op_sub (pv 2) pe_int) (pa_cons (pv 3) pa_nil))))) pa_nil)))))) pss_nil)
      (pss_cons (ps_if (pt_cmpR op_eq (pv 4) pe_int (nomark _)) (pss_one (ps_ret (pe_tup (pa_cons pe_str (pa_cons (pe_call (ok__law_condition T) (hr.mono (by omega)) (by rfl) T.g__law_condition T._law_condition_F.kp T._law_condition_b .nil pass0 (pa_cons (pv 0) (pa_cons (pv 1) (pa_cons pe_int pa_nil)))) (pa_cons (pe_call ih (hr.mono (by omega)) (by rfl) T.g__law_contract T._law_contract_F.kp T._law_contract_b .nil pass0 (pa_cons (pv 0) (pa_cons (pv 1) (pa_cons (pe_op op_sub (pv 2) pe_int) (pa_cons (pv 3) pa_nil))))) pa_nil)))))) pss_nil)
      (pss_cons (ps_if (pt_cmpR op_eq (pv 4) pe_int (nomark _)) (pss_one (ps_ret (pe_tup (pa_cons pe_str (pa_cons (pe_call ih (hr.mono (by omega)) (by rfl) T.g__law_contract T._law_contract_F.kp T._law_contract_b .nil pass0 (pa_cons (pv 0) (pa_cons (pv 1) (pa_cons (pe_op op_sub (pv 2) pe_int) (pa_cons (pv 3) pa_nil))))) pa_nil))))) pss_nil)
      (pss_cons (ps_if (pt_cmpR op_eq (pv 3) pe_int (nomark _)) (pss_one (ps_ret (pe_tup (pa_cons pe_str (pa_cons (pe_call (ok__law_number T) (hr.mono (by omega)) (by rfl) T.g__law_number T._law_number_F.kp T._law_number_b .nil pass0 (pa_cons (pv 0) pa_nil)) (pa_cons (pe_tup (pa_cons pe_str (pa_cons (pe_call (ok__law_take T) (hr.mono (by omega)) (by rfl) T.g__law_take T._law_take_F.kp T._law_take_b .nil pass0 (pa_cons (pv 0) (pa_cons (pv 1) pa_nil))) pa_nil))) pa_nil)))))) pss_nil)
      (pss_cons (ps_if (pt_cmpR op_lt (pv 4) pe_int (nomark _)) (pss_one (ps_ret (pe_tup (pa_cons pe_str (pa_cons (pe_call ih (hr.mono (by omega)) (by rfl) T.g__law_contract T._law_contract_F.kp T._law_contract_b .nil pass0 (pa_cons (pv 0) (pa_cons (pv 1) (pa_cons (pe_op op_sub (pv 2) pe_int) (pa_cons (pe_op op_sub (pv 3) pe_int) pa_nil))))) (pa_cons (pe_call ih (hr.mono (by omega)) (by rfl) T.g__law_contract T._law_contract_F.kp T._law_contract_b .nil pass0 (pa_cons (pv 0) (pa_cons (pv 1) (pa_cons (pe_op op_sub (pv 2) pe_int) (pa_cons pe_int pa_nil))))) pa_nil)))))) pss_nil)
      (pss_one (ps_ret (pe_tup (pa_cons pe_str (pa_cons (pe_call (ok__law_take T) (hr.mono (by omega)) (by rfl) T.g__law_take T._law_take_F.kp T._law_take_b .nil pass0 (pa_cons (pv 0) (pa_cons pe_int pa_nil))) (pa_cons (pe_call ih (hr.mono (by omega)) (by rfl) T.g__law_contract T._law_contract_F.kp T._law_contract_b .nil pass0 (pa_cons (pv 0) (pa_cons (pv 1) (pa_cons (pe_op op_sub (pv 2) pe_int) (pa_cons pe_int pa_nil))))) pa_nil))))))))))))))))), ?_⟩
    have b8 : ∀ {x : Int}, 0 ≤ x → x ≤ 15 → Bd 8000 x := fun h0 h1 => Bd.mono (k := 4) (by unfold Bd; omega) (by decide)
    refine ⟨_, rfl, pd, ps, 15, rfl, D0, by decide, b8 (by decide) (by decide), fun menu H1 x1 D1 m0 m15 => ?_⟩
    match m, ih, fin with
    | 0, _, fin =>
      refine ⟨_, rfl, rfl, _, rfl, iteT ?_⟩
      refine ⟨_, rfl, rfl, _, rfl, ite2 (fun e => ?_) (fun e => ?_)⟩
      · refine ⟨(by decide : 1 ≤ sizeLine), fun p5 hp5 => ?_⟩
        have s5 := same_new (o := .tup [V.str Wd.nothing.str]) hp5
        exact fin _ _ _ (x1.trans (Xt.of s5)) (D1.same s5) (DT.p0n (x := .nothing) (Tp.of upd_same)) ((pg0 (x := .nothing) (l := .non) rfl trivial).mono (Nat.le_refl _) (by omega)) (fc_noth g)
      · refine ⟨_, rfl, _, rfl, pd, ps, g, rfl, D1, by omega, b8 (by omega) (by omega), fun r H3 x3 D3 r0 r1 => ⟨two_le, fun p5 hp5 => ?_⟩⟩
        have s5 := same_new (o := .tup [V.str Wd.one.str, V.int r]) hp5
        exact fin _ _ _ ((x1.trans x3).trans (Xt.of s5)) (D3.same s5) (DT.p0g (x := .one) (Tp.of upd_same)) ((pg0 (x := .one) (l := .good r) rfl ⟨r0, r1⟩).mono (Nat.le_refl _) (by omega)) ⟨rfl, rfl, fun j h => by cases h; exact ⟨r0, r1⟩⟩
    | m + 1, ih, fin =>
      have ed : (((m + 1 : Nat) : Int) - 1) = (m : Int) := by omega
      have sp := szK_pos m
      have nz : decide (V.int ((m + 1 : Nat) : Int) = V.int 0) = false := decide_eq_false fun z => by have := V.int.inj z; omega
      refine ⟨_, rfl, rfl, _, rfl, if_false_of' nz ?_⟩
      refine ⟨_, rfl, _, _, rfl, rfl, _, rfl, ite2 (fun e => ?_) (fun e => ?_)⟩
      · refine ⟨_, rfl, rfl, _, rfl, ite2 (fun e => ?_) (fun e => ?_)⟩
        · refine ⟨(by decide : 1 ≤ sizeLine), fun p5 hp5 => ?_⟩
          have s5 := same_new (o := .tup [V.str Wd.nothing.str]) hp5
          exact fin _ _ _ (x1.trans (Xt.of s5)) (D1.same s5) (DT.p0n (x := .nothing) (Tp.of upd_same)) ((pg0 (x := .nothing) (l := .non) rfl trivial).mono (by simp only [szK]; omega) (by omega)) (fc_noth g)
        · refine ⟨_, rfl, _, rfl, pd, ps, g, rfl, D1, by omega, b8 (by omega) (by omega), fun r H3 x3 D3 r0 r1 => ⟨two_le, fun p5 hp5 => ?_⟩⟩
          have s5 := same_new (o := .tup [V.str Wd.one.str, V.int r]) hp5
          exact fin _ _ _ ((x1.trans x3).trans (Xt.of s5)) (D3.same s5) (DT.p0g (x := .one) (Tp.of upd_same)) ((pg0 (x := .one) (l := .good r) rfl ⟨r0, r1⟩).mono (by simp only [szK]; omega) (by omega)) ⟨rfl, rfl, fun j h => by cases h; exact ⟨r0, r1⟩⟩
      refine ⟨_, rfl, _, _, rfl, rfl, _, rfl, ite2 (fun e => ?_) (fun e => ?_)⟩
      · refine ⟨_, rfl, _, rfl, 1, by decide, pd, ps, g, 1, rfl, rfl, D1, g1, g4, fun v1 p1 H3 x3 D3 d1 q1 => ?_⟩
        refine ⟨_, rfl, _, rfl, _, rfl, _, _, rfl, rfl, _, rfl, pd, ps, g, _, _, rfl, ed, a0, D3, g1, g4, fun v2 p2 H4 x4 D4 d2 q2 f2 => ⟨(by decide : 3 ≤ sizeLine), fun p5 hp5 => ?_⟩⟩
        have s5 := same_new (o := .tup [V.str Wd.scale.str, v1, v2]) hp5
        have := pg2 (g := g) (x := .scale) (l := .non) rfl trivial q1 q2
        exact fin _ _ _ (((x1.trans x3).trans x4).trans (Xt.of s5)) (D4.same s5) (DT.p2n (x := .scale) (Tp.of upd_same) ((d1.xt D3.isL' x4).same s5) (d2.same s5)) (this.mono (by simp only [szK, szV]; omega) (by omega)) (.inl ⟨rfl, rfl, .inl ⟨q1.wf, q1.cls, q1.size, q1.lits⟩, f2⟩)
      refine ⟨_, rfl, _, _, rfl, rfl, _, rfl, ite2 (fun e => ?_) (fun e => ?_)⟩
      · refine ⟨_, rfl, _, rfl, _, rfl, _, _, rfl, rfl, _, rfl, pd, ps, g, _, _, rfl, ed, a0, D1, g1, g4, fun v1 p1 H3 x3 D3 d1 q1 f1 => ?_⟩
        refine ⟨_, rfl, _, rfl, _, rfl, _, _, rfl, rfl, pd, ps, g, _, 0, rfl, ed, by decide, D3, g1, g4, fun v2 p2 H4 x4 D4 d2 q2 f2 => ⟨(by decide : 3 ≤ sizeLine), fun p5 hp5 => ?_⟩⟩
        have s5 := same_new (o := .tup [V.str Wd.both.str, v1, v2]) hp5
        have := pg2 (g := g) (x := .both) (l := .non) rfl trivial q1 q2
        exact fin _ _ _ (((x1.trans x3).trans x4).trans (Xt.of s5)) (D4.same s5) (DT.p2n (x := .both) (Tp.of upd_same) ((d1.xt D3.isL' x4).same s5) (d2.same s5)) (this.mono (by simp only [szK]; omega) (by omega)) (.inr (.inr ⟨.inl rfl, rfl, f1, f2⟩))
      refine ⟨_, rfl, rfl, _, rfl, ite2 (fun e => ?_) (fun e => ?_)⟩
      · refine ⟨_, rfl, _, rfl, _, rfl, _, _, rfl, rfl, _, rfl, pd, ps, g, _, _, rfl, ed, a0, D1, g1, g4, fun v1 p1 H3 x3 D3 d1 q1 f1 => ⟨two_le, fun p5 hp5 => ?_⟩⟩
        have s5 := same_new (o := .tup [V.str Wd.give.str, v1]) hp5
        have := pg1 (g := g) (x := .give) (l := .non) rfl trivial q1
        exact fin _ _ _ ((x1.trans x3).trans (Xt.of s5)) (D3.same s5) (DT.p1n (x := .give) (Tp.of upd_same) (d1.same s5)) (this.mono (by simp only [szK]; omega) (by omega)) ⟨rfl, f1⟩
      refine ⟨_, rfl, rfl, _, rfl, ite2 (fun e => ?_) (fun e => ?_)⟩
      · refine ⟨_, rfl, pd, ps, 4, rfl, D1, by decide, b8 (by decide) (by decide), fun r H2 x2 D2 r0 r1 => ?_⟩
        refine ⟨_, rfl, _, rfl, _, rfl, _, _, rfl, rfl, _, rfl, pd, ps, g, _, _, rfl, ed, a0, D2, g1, g4, fun v1 p1 H3 x3 D3 d1 q1 f1 => ⟨(by decide : 3 ≤ sizeLine), fun p5 hp5 => ?_⟩⟩
        have s5 := same_new (o := .tup [V.str Wd.at_.str, V.int r, v1]) hp5
        have := pg1 (g := g) (x := .at_) (l := .time r) rfl ⟨r0, by omega⟩ q1
        exact fin _ _ _ (((x1.trans x2).trans x3).trans (Xt.of s5)) (D3.same s5) (DT.p1t (x := .at_) (Tp.of upd_same) (d1.same s5)) (this.mono (by simp only [szK]; omega) (by omega)) ⟨rfl, f1⟩
      refine ⟨_, rfl, rfl, _, rfl, ite2 (fun e => ?_) (fun e => ?_)⟩
      · refine ⟨_, rfl, _, rfl, 1, by decide, pd, ps, g, 1, rfl, rfl, D1, g1, g4, fun v1 p1 H3 x3 D3 d1 q1 => ?_⟩
        refine ⟨_, rfl, _, rfl, _, rfl, _, _, rfl, rfl, _, rfl, pd, ps, g, _, _, rfl, ed, a0, D3, g1, g4, fun v2 p2 H4 x4 D4 d2 q2 f2 => ⟨(by decide : 3 ≤ sizeLine), fun p5 hp5 => ?_⟩⟩
        have s5 := same_new (o := .tup [V.str Wd.when_.str, v1, v2]) hp5
        have := pg2 (g := g) (x := .when_) (l := .non) rfl trivial q1 q2
        exact fin _ _ _ (((x1.trans x3).trans x4).trans (Xt.of s5)) (D4.same s5) (DT.p2n (x := .when_) (Tp.of upd_same) ((d1.xt D3.isL' x4).same s5) (d2.same s5)) (this.mono (by simp only [szK, szC]; omega) (by omega)) (.inr (.inl ⟨.inl rfl, rfl, ⟨q1.wf, q1.cls, q1.size, Nat.le_trans q1.depth (by decide), q1.lits⟩, f2⟩))
      refine ⟨_, rfl, rfl, _, rfl, ite2 (fun e => ?_) (fun e => ?_)⟩
      · refine ⟨_, rfl, _, rfl, 1, by decide, pd, ps, g, 1, rfl, rfl, D1, g1, g4, fun v1 p1 H3 x3 D3 d1 q1 => ?_⟩
        refine ⟨_, rfl, _, rfl, _, rfl, _, _, rfl, rfl, _, rfl, pd, ps, g, _, _, rfl, ed, a0, D3, g1, g4, fun v2 p2 H4 x4 D4 d2 q2 f2 => ⟨(by decide : 3 ≤ sizeLine), fun p5 hp5 => ?_⟩⟩
        have s5 := same_new (o := .tup [V.str Wd.until_.str, v1, v2]) hp5
        have := pg2 (g := g) (x := .until_) (l := .non) rfl trivial q1 q2
        exact fin _ _ _ (((x1.trans x3).trans x4).trans (Xt.of s5)) (D4.same s5) (DT.p2n (x := .until_) (Tp.of upd_same) ((d1.xt D3.isL' x4).same s5) (d2.same s5)) (this.mono (by simp only [szK, szC]; omega) (by omega)) (.inr (.inl ⟨.inr rfl, rfl, ⟨q1.wf, q1.cls, q1.size, Nat.le_trans q1.depth (by decide), q1.lits⟩, f2⟩))
      refine ⟨_, rfl, rfl, _, rfl, ite2 (fun e => ?_) (fun e => ?_)⟩
      · refine ⟨_, rfl, _, rfl, _, rfl, _, _, rfl, rfl, _, rfl, pd, ps, g, _, _, rfl, ed, a0, D1, g1, g4, fun v1 p1 H3 x3 D3 d1 q1 f1 => ⟨two_le, fun p5 hp5 => ?_⟩⟩
        have s5 := same_new (o := .tup [V.str Wd.later.str, v1]) hp5
        have := pg1 (g := g) (x := .later) (l := .non) rfl trivial q1
        exact fin _ _ _ ((x1.trans x3).trans (Xt.of s5)) (D3.same s5) (DT.p1n (x := .later) (Tp.of upd_same) (d1.same s5)) (this.mono (by simp only [szK]; omega) (by omega)) ⟨rfl, f1⟩
      refine ⟨_, rfl, rfl, _, rfl, ite2 (fun e => ?_) (fun e => ?_)⟩
      · refine ⟨_, rfl, pd, ps, rfl, D1, fun v1 q H3 x3 D3 d1 ok => ?_⟩
        refine ⟨_, rfl, _, rfl, pd, ps, g, rfl, D3, by omega, b8 (by omega) (by omega), fun r H4 x4 D4 r0 r1 => ⟨two_le, fun p4 hp4 => ⟨(by decide : 3 ≤ sizeLine), fun p5 hp5 => ?_⟩⟩⟩
        have s4 := same_new (o := .tup [V.str Wd.one.str, V.int r]) hp4
        have s5 := same_new (o := .tup [V.str Wd.scale.str, v1, V.ref p4]) hp5
        have := pg2 (g := g) (x := .scale) (l := .non) rfl trivial (pg0 (g := g) (x := .number) (l := .size q) rfl ok) (pg0 (g := g) (x := .one) (l := .good r) rfl ⟨r0, r1⟩)
        exact fin _ _ _ ((((x1.trans x3).trans x4).trans (Xt.of s4)).trans (Xt.of s5)) ((D4.same s4).same s5) (DT.p2n (x := .scale) (Tp.of upd_same) (((d1.xt D3.isL' x4).same s4).same s5) (DT.p0g (x := .one) (Tp.of (s5 _ _ upd_same)))) (this.mono (by simp only [szK]; omega) (by omega)) (.inl ⟨rfl, rfl, .inl ⟨rfl, rfl, (by decide : 1 ≤ 3), (pg0 (g := g) (x := .number) (l := .size q) rfl ok).lits⟩, ⟨rfl, rfl, fun j h => by cases h; exact ⟨r0, r1⟩⟩⟩)
      have a1 : 0 ≤ a - 1 := by
        have : a ≠ 0 := fun z => e (decide_eq_true (by rw [z]))
        omega
      refine ⟨_, rfl, _, _, rfl, rfl, _, rfl, ite2 (fun e => ?_) (fun e => ?_)⟩
      · refine ⟨_, rfl, _, rfl, _, rfl, _, _, rfl, rfl, _, rfl, _, _, rfl, rfl, pd, ps, g, _, _, rfl, ed, a1, D1, g1, g4, fun v1 p1 H3 x3 D3 d1 q1 f1 => ?_⟩
        refine ⟨_, rfl, _, rfl, _, rfl, _, _, rfl, rfl, pd, ps, g, _, 0, rfl, ed, by decide, D3, g1, g4, fun v2 p2 H4 x4 D4 d2 q2 f2 => ⟨(by decide : 3 ≤ sizeLine), fun p5 hp5 => ?_⟩⟩
        have s5 := same_new (o := .tup [V.str Wd.or_.str, v1, v2]) hp5
        have := pg2 (g := g) (x := .or_) (l := .non) rfl trivial q1 q2
        exact fin _ _ _ (((x1.trans x3).trans x4).trans (Xt.of s5)) (D4.same s5) (DT.p2n (x := .or_) (Tp.of upd_same) ((d1.xt D3.isL' x4).same s5) (d2.same s5)) (this.mono (by simp only [szK]; omega) (by omega)) (.inr (.inr ⟨.inr rfl, rfl, f1, f2⟩))
      · refine ⟨_, rfl, pd, ps, 3, rfl, D1, by decide, b8 (by decide) (by decide), fun r H2 x2 D2 r0 r1 => ?_⟩
        refine ⟨_, rfl, _, rfl, _, rfl, _, _, rfl, rfl, pd, ps, g, _, 0, rfl, ed, by decide, D2, g1, g4, fun v1 p1 H3 x3 D3 d1 q1 f1 => ⟨(by decide : 3 ≤ sizeLine), fun p5 hp5 => ?_⟩⟩
        have s5 := same_new (o := .tup [V.str Wd.early.str, V.int r, v1]) hp5
        have := pg1 (g := g) (x := .early) (l := .time r) rfl ⟨r0, by omega⟩ q1
        exact fin _ _ _ (((x1.trans x2).trans x3).trans (Xt.of s5)) (D3.same s5) (DT.p1t (x := .early) (Tp.of upd_same) (d1.same s5)) (this.mono (by simp only [szK]; omega) (by omega)) ⟨rfl, f1⟩
def sp_conA (K : PySem.W.Frag) : Sp := fun vs H Q E => ∃ m : Nat, m ≤ 5 ∧ sp_con K m vs H Q E
theorem ok__law_contract (T : Top w K mg) : FnOk P w K mg base CX0 18 T.a__law_contract T.d__law_contract ["d", "goods", "deep", "asks"] (sp_conA K) := by
  have z : FnOk P w K mg base CX0 12 T.a__law_contract T.d__law_contract ["d", "goods", "deep", "asks"] (spPK K 0) := ⟨fun _ _ _ _ h => h.elim, fun _ _ _ _ _ _ _ _ _ _ _ _ _ h => h.elim⟩
  have f0 := con_step T (k := 12) (m := 0) (by decide) z
  have f1 := con_step T (k := 13) (m := 1) (by decide) f0
  have f2 := con_step T (k := 14) (m := 2) (by decide) f1
  have f3 := con_step T (k := 15) (m := 3) (by decide) f2
  have f4 := con_step T (k := 16) (m := 4) (by decide) f3
  have f5 := con_step T (k := 17) (m := 5) (by decide) f4
  refine ⟨fun vs H Q E h => ?_, fun A outer s H args us vs Q E hr e0 hb hv h => ?_⟩
  · obtain ⟨m, _, _, _, _, _, _, rfl, _⟩ := h
    rfl
  · obtain ⟨m, hm, h⟩ := h
    match m, hm, h with
    | 0, _, h => exact (f0.mono (by decide)).run A outer s H args us vs Q E hr e0 hb hv h
    | 1, _, h => exact (f1.mono (by decide)).run A outer s H args us vs Q E hr e0 hb hv h
    | 2, _, h => exact (f2.mono (by decide)).run A outer s H args us vs Q E hr e0 hb hv h
    | 3, _, h => exact (f3.mono (by decide)).run A outer s H args us vs Q E hr e0 hb hv h
    | 4, _, h => exact (f4.mono (by decide)).run A outer s H args us vs Q E hr e0 hb hv h
    | 5, _, h => exact f5.run A outer s H args us vs Q E hr e0 hb hv h
end
end Nl

namespace Nl
open PySem PySem.Spec PyProof.Rows L2
section
variable {P : Program} {w : World} {K : PySem.W.Frag} {mg : Str → Option Value} {base : Heap}
theorem wd_no {x : Wd} (b : Wd) (h : x ≠ b) : decide (V.str x.str = V.str b.str) = false := by rw [wd_dec]; exact decide_eq_false h
theorem wd_yes (x : Wd) : decide (V.str x.str = V.str x.str) = true := decide_eq_true rfl
def sp_price1 (K : PySem.W.Frag) : Sp := fun vs H Q _ => ∃ (vp : V) (ps : List Pr) (x : Wd) (j : Int), vs = [vp, .str x.str, .int j] ∧ DT K H vp (pricesD ps) ∧ 0 ≤ j ∧ j ≤ ps.length ∧ ∀ v H', Same H H' → DT K H' v (frD (prF ps x j)) → Q v H'
theorem ok__price (T : Top w K mg) : FnOk P w K mg base CX0 1 T.a__price T.d__price ["prices", "word", "good"] (sp_price1 K) := by
  refine T._price_F.ok sc__price (fun vs H Q E h => ?_) (fun cdv A outer s H vs Q E hr h => ?_)
  · obtain ⟨_, _, _, _, rfl, _⟩ := h
    rfl
  · obtain ⟨vp, ps, x, j, rfl, dp, j0, j1, fin⟩ := h
    refine ⟨_, (pss_cons (ps_if (pt_cmpR op_eq (pv 2) pe_int (nomark _)) (pss_one (ps_ret (pe_tup (pa_cons pe_int (pa_cons pe_int pa_nil))))) pss_nil)
      (pss_cons (ps_asg (pe_ix ix_tup (pv 0) (pe_op op_sub (pv 2) pe_int) (fun _ _ => rfl)) (pg_tup rfl (pgs_cons (pg_name (i := 3) sc__price.nd rfl (Or.inl rfl)) (pgs_cons (pg_name (i := 4) sc__price.nd rfl (Or.inl rfl)) pgs_nil))))
      (pss_one (ps_ret (pe_ifExp (pt_cmpR op_eq (pv 1) pe_str (nomark _)) (pv 3) (pv 4)))))), ?_⟩
    refine ⟨_, rfl, rfl, _, rfl, ite2 (fun e => ?_) (fun e => ?_)⟩
    · have e0 : j = 0 := V.int.inj (of_decide_eq_true e)
      refine ⟨two_le, fun p hp => fin _ _ (same_new hp) ?_⟩
      rw [show prF ps x j = (1, 1) from if_pos e0]
      exact DT.fr (q := (1, 1)) (Tp.of upd_same)
    · have e0 : j ≠ 0 := fun z => e (decide_eq_true (by rw [z]))
      obtain ⟨a, xs, rfl, ha, dx⟩ := dp.inv
      have ln : xs.length = ps.length := by rw [dx.len, List.length_map]
      obtain ⟨i, hi⟩ := Int.eq_ofNat_of_zero_le (show 0 ≤ j - 1 by omega)
      have il : i < ps.length := by omega
      have hr : ps[i]? = some ps[i] := List.getElem?_eq_getElem il
      obtain ⟨xi, hxi, dxi⟩ := dx.at_ (i := i) (d := prD ps[i]) (by rw [List.getElem?_map, hr]; rfl)
      obtain ⟨b, vb, vs', rfl, hb, db, ds⟩ := dxi.inv2
      refine ⟨_, rfl, _, rfl, _, _, rfl, rfl, _, _, _, _, rfl, rfl, ha.sq, by rw [hi]; exact atI_nat hxi, _, _, rfl, hb.sq, rfl, _, _, rfl, _, _, rfl, rfl, ?_⟩
      have ep : prF ps x j = if x = .buy then (ps[i]).1 else (ps[i]).2 := by
        unfold prF
        rw [if_neg e0, hi, Int.toNat_natCast, hr]
      by_cases hx : x = .buy
      · subst hx
        refine ⟨_, rfl, rfl, _, rfl, if_true_of' (wd_yes _) ⟨_, rfl, fin _ _ (Same.refl _) ?_⟩⟩
        rw [ep, if_pos rfl]
        exact db
      · refine ⟨_, rfl, rfl, _, rfl, if_false_of' (wd_no .buy hx) ⟨_, rfl, fin _ _ (Same.refl _) ?_⟩⟩
        rw [ep, if_neg hx]
        exact ds
def jnD (x : Wd) (a b : Int × Int) : PyData := if x.cls = .value then frD (jnV x a b) else .bool (jnC x a b)
def sp_joined (K : PySem.W.Frag) : Sp := fun vs H Q _ => ∃ (x : Wd) (v1 v2 : V), vs = [.str x.str, v1, v2] ∧ ((x.kn = [.value, .value] ∧ ∃ a b, DT K H v1 (frD a) ∧ DT K H v2 (frD b) ∧ Ok 2999 a ∧ Ok 2999 b ∧ ∀ v H', Same H H' → DT K H' v (jnD x a b) → Q v H') ∨
  (x = .and_ ∧ ∃ b1 b2, v1 = .bl b1 ∧ v2 = .bl b2 ∧ Q (.bl (b1 && b2)) H))
theorem ok__joined (T : Top w K mg) : FnOk P w K mg base CX0 3 T.a__joined T.d__joined ["word", "first", "second"] (sp_joined K) := by
  refine T._joined_F.ok sc__joined (fun vs H Q E h => ?_) (fun cdv A outer s H vs Q E hr h => ?_)
  · obtain ⟨_, _, _, rfl, _⟩ := h
    rfl
  · obtain ⟨x, v1, v2, rfl, h⟩ := h
    refine ⟨_, (pss_cons (ps_if (pt_cmpR op_eq (pv 0) pe_str (nomark _)) (pss_one (ps_ret (pe_call (ok_plus T) (hr.mono (by decide : 2 ≤ 2)) (by rfl) T.g_plus T.plus_F.kp T.plus_b .nil pass0 (pa_cons (pv 1) (pa_cons (pv 2) pa_nil))))) pss_nil)
      (pss_cons (ps_if (pt_cmpR op_eq (pv 0) pe_str (nomark _)) (pss_one (ps_ret (pe_call (ok_minus T) (hr.mono (by decide : 2 ≤ 2)) (by rfl) T.g_minus T.minus_F.kp T.minus_b .nil pass0 (pa_cons (pv 1) (pa_cons (pv 2) pa_nil))))) pss_nil)
      (pss_cons (ps_if (pt_cmpR op_eq (pv 0) pe_str (nomark _)) (pss_one (ps_ret (pe_call (ok_times T) (hr.mono (by decide : 2 ≤ 2)) (by rfl) T.g_times T.times_F.kp T.times_b .nil pass0 (pa_cons (pv 1) (pa_cons (pv 2) pa_nil))))) pss_nil)
      (pss_cons (ps_if (pt_cmpR op_eq (pv 0) pe_str (nomark _)) (pss_one (ps_ret (pe_ifExp (pt_cmpR op_lt (pe_call (ok_compare T) (hr.mono (by decide : 1 ≤ 2)) (by rfl) T.g_compare T.compare_F.kp T.compare_b .nil pass0 (pa_cons (pv 1) (pa_cons (pv 2) pa_nil))) pe_int (nomark _)) (pv 1) (pv 2)))) pss_nil)
      (pss_cons (ps_if (pt_cmpR op_eq (pv 0) pe_str (nomark _)) (pss_one (ps_ret (pe_ifExp (pt_cmpR op_gt (pe_call (ok_compare T) (hr.mono (by decide : 1 ≤ 2)) (by rfl) T.g_compare T.compare_F.kp T.compare_b .nil pass0 (pa_cons (pv 1) (pa_cons (pv 2) pa_nil))) pe_int (nomark _)) (pv 1) (pv 2)))) pss_nil)
      (pss_cons (ps_if (pt_cmpR op_eq (pv 0) pe_str (nomark _)) (pss_one (ps_ret (pe_cmpR op_lt (pe_call (ok_compare T) (hr.mono (by decide : 1 ≤ 2)) (by rfl) T.g_compare T.compare_F.kp T.compare_b .nil pass0 (pa_cons (pv 1) (pa_cons (pv 2) pa_nil))) pe_int (nomark _)))) pss_nil)
      (pss_cons (ps_if (pt_cmpR op_eq (pv 0) pe_str (nomark _)) (pss_one (ps_ret (pe_cmpR (op_eqD hr.units) (pv 1) (pv 2) (nomark _)))) pss_nil)
      (pss_one (ps_ret (pe_and (pv 1) (pe_one (pv 2)))))))))))), ?_⟩
    rcases h with ⟨hk, a, b, da, db, oa, ob, fin⟩ | ⟨rfl, b1, b2, rfl, rfl, fin⟩
    · have fa := FB.of oa (by decide)
      have fb := FB.of ob (by decide)
      have o3a := oa.mono (m := 3000) (by decide)
      have o3b := ob.mono (m := 3000) (by decide)
      cases x with
      | plus =>
        refine ⟨_, rfl, rfl, _, rfl, if_true_of' (wd_yes _) ?_⟩
        exact ⟨_, rfl, _, rfl, v1, v2, a, b, 3000, rfl, da, db, o3a, o3b, by decide, fun v H' s f => fin v H' s f⟩
      | minus =>
        refine ⟨_, rfl, rfl, _, rfl, if_false_of' (wd_no .plus (by decide)) ?_⟩
        refine ⟨_, rfl, rfl, _, rfl, if_true_of' (wd_yes _) ?_⟩
        exact ⟨_, rfl, _, rfl, v1, v2, a, b, 3000, rfl, da, db, o3a, o3b, by decide, fun v H' s f => fin v H' s f⟩
      | times =>
        refine ⟨_, rfl, rfl, _, rfl, if_false_of' (wd_no .plus (by decide)) ?_⟩
        refine ⟨_, rfl, rfl, _, rfl, if_false_of' (wd_no .minus (by decide)) ?_⟩
        refine ⟨_, rfl, rfl, _, rfl, if_true_of' (wd_yes _) ?_⟩
        exact ⟨_, rfl, _, rfl, v1, v2, a, b, 3000, rfl, da, db, o3a, o3b, by decide, fun v H' s f => fin v H' s f⟩
      | least =>
        refine ⟨_, rfl, rfl, _, rfl, if_false_of' (wd_no .plus (by decide)) ?_⟩
        refine ⟨_, rfl, rfl, _, rfl, if_false_of' (wd_no .minus (by decide)) ?_⟩
        refine ⟨_, rfl, rfl, _, rfl, if_false_of' (wd_no .times (by decide)) ?_⟩
        refine ⟨_, rfl, rfl, _, rfl, if_true_of' (wd_yes _) ?_⟩
        refine ⟨_, rfl, _, rfl, v1, v2, a, b, rfl, da, db, fa, fb, _, _, rfl, rfl, _, rfl, ite2 (fun e => ⟨_, rfl, fin _ _ (Same.refl _) ?_⟩) (fun e => ⟨_, rfl, fin _ _ (Same.refl _) ?_⟩)⟩
        · show DT K H v1 (frD (minF a b))
          rw [show minF a b = a from if_pos (of_decide_eq_true e)]
          exact da
        · show DT K H v2 (frD (minF a b))
          rw [show minF a b = b from if_neg fun z => e (decide_eq_true z)]
          exact db
      | greatest =>
        refine ⟨_, rfl, rfl, _, rfl, if_false_of' (wd_no .plus (by decide)) ?_⟩
        refine ⟨_, rfl, rfl, _, rfl, if_false_of' (wd_no .minus (by decide)) ?_⟩
        refine ⟨_, rfl, rfl, _, rfl, if_false_of' (wd_no .times (by decide)) ?_⟩
        refine ⟨_, rfl, rfl, _, rfl, if_false_of' (wd_no .least (by decide)) ?_⟩
        refine ⟨_, rfl, rfl, _, rfl, if_true_of' (wd_yes _) ?_⟩
        refine ⟨_, rfl, _, rfl, v1, v2, a, b, rfl, da, db, fa, fb, _, _, rfl, rfl, _, rfl, ite2 (fun e => ⟨_, rfl, fin _ _ (Same.refl _) ?_⟩) (fun e => ⟨_, rfl, fin _ _ (Same.refl _) ?_⟩)⟩
        · show DT K H v1 (frD (maxF a b))
          rw [show maxF a b = a from if_pos (of_decide_eq_true e)]
          exact da
        · show DT K H v2 (frD (maxF a b))
          rw [show maxF a b = b from if_neg fun z => e (decide_eq_true z)]
          exact db
      | less =>
        refine ⟨_, rfl, rfl, _, rfl, if_false_of' (wd_no .plus (by decide)) ?_⟩
        refine ⟨_, rfl, rfl, _, rfl, if_false_of' (wd_no .minus (by decide)) ?_⟩
        refine ⟨_, rfl, rfl, _, rfl, if_false_of' (wd_no .times (by decide)) ?_⟩
        refine ⟨_, rfl, rfl, _, rfl, if_false_of' (wd_no .least (by decide)) ?_⟩
        refine ⟨_, rfl, rfl, _, rfl, if_false_of' (wd_no .greatest (by decide)) ?_⟩
        refine ⟨_, rfl, rfl, _, rfl, if_true_of' (wd_yes _) ?_⟩
        exact ⟨_, rfl, _, rfl, v1, v2, a, b, rfl, da, db, fa, fb, _, _, rfl, rfl, fin _ _ (Same.refl _) (.bl _)⟩
      | same =>
        refine ⟨_, rfl, rfl, _, rfl, if_false_of' (wd_no .plus (by decide)) ?_⟩
        refine ⟨_, rfl, rfl, _, rfl, if_false_of' (wd_no .minus (by decide)) ?_⟩
        refine ⟨_, rfl, rfl, _, rfl, if_false_of' (wd_no .times (by decide)) ?_⟩
        refine ⟨_, rfl, rfl, _, rfl, if_false_of' (wd_no .least (by decide)) ?_⟩
        refine ⟨_, rfl, rfl, _, rfl, if_false_of' (wd_no .greatest (by decide)) ?_⟩
        refine ⟨_, rfl, rfl, _, rfl, if_false_of' (wd_no .less (by decide)) ?_⟩
        refine ⟨_, rfl, rfl, _, rfl, if_true_of' (wd_yes _) ?_⟩
        refine ⟨_, rfl, _, rfl, _, _, da.dp, db.dp, (sh_fr a).shaped, (sh_fr b).shaped, ?_⟩
        rw [eqv_fr]
        exact fin _ _ (Same.refl _) (.bl _)
      | _ => cases hk
    · refine ⟨_, rfl, rfl, _, rfl, if_false_of' (wd_no .plus (by decide)) ?_⟩
      refine ⟨_, rfl, rfl, _, rfl, if_false_of' (wd_no .minus (by decide)) ?_⟩
      refine ⟨_, rfl, rfl, _, rfl, if_false_of' (wd_no .times (by decide)) ?_⟩
      refine ⟨_, rfl, rfl, _, rfl, if_false_of' (wd_no .least (by decide)) ?_⟩
      refine ⟨_, rfl, rfl, _, rfl, if_false_of' (wd_no .greatest (by decide)) ?_⟩
      refine ⟨_, rfl, rfl, _, rfl, if_false_of' (wd_no .less (by decide)) ?_⟩
      refine ⟨_, rfl, rfl, _, rfl, if_false_of' (wd_no .same (by decide)) ?_⟩
      refine ⟨_, rfl, _, rfl, ?_⟩
      cases b1 with
      | false => exact iteF fin
      | true => exact iteT ⟨_, rfl, fin⟩
def sp_wout (K : PySem.W.Frag) : Sp := fun vs H Q _ => ∃ (vps vp : V) (ps : List Pr) (p : Part), vs = [vps, vp] ∧ DT K H vps (pricesD ps) ∧ DT K H vp p.D ∧ WO ps p ∧ ∀ v H', Same H H' → DT K H' v (evD ps p) → Q v H'
theorem ok__worked_out (T : Top w K mg) : FnOk P w K mg base CX0 4 T.a__worked_out T.d__worked_out ["prices", "part"] (sp_wout K) := by
  refine T._worked_out_F.ok sc__worked_out (fun vs H Q E h => ?_) (fun cdv A outer s H vs Q E hr h => ?_)
  · obtain ⟨_, _, _, _, rfl, _⟩ := h
    rfl
  · obtain ⟨vps, vp, ps, p, rfl, dps, dp, wo, fin⟩ := h
    refine ⟨_, (pss_cons (ps_set (i := 2) sc__worked_out.nd rfl (Or.inl rfl) (pe_lst pa_nil))
      (pss_cons (ps_for PassesOwn.never rfl (RT.pi_revA (by rfl) T.n_reversed (pe_call (ok_walk_parts T) (hr.mono (by decide : 3 ≤ 3)) (by rfl) T.g_walk_parts T.walk_parts_F.kp T.walk_parts_b .nil pass0 (pa_cons (pv 1) pa_nil))) (pg_tup rfl (pgs_cons (pg_name (i := 3) sc__worked_out.nd rfl (Or.inl rfl)) (pgs_cons (pg_name (i := 4) sc__worked_out.nd rfl (Or.inl rfl)) pgs_nil))) (pss_cons (ps_set (i := 5) sc__worked_out.nd rfl (Or.inl rfl) (pe_ix ix_tup (pv 3) pe_int (fun _ _ => rfl)))
      (pss_one (ps_if (pt_cmpR op_eq (pv 5) pe_str (nomark _)) (pss_one (ps_expr (pe_bm PySem.F.plainAttrs_list PySem.F.slot_list_append PySem.F.type_list_append mt_append (pv 2) (pa_cons (pe_ix ix_tup (pv 3) pe_int (fun _ _ => rfl)) pa_nil)))) (pss_one (ps_if (pt_cmpR (op_inT (un65 hr)) (pv 5) (pe_tup (pa_cons pe_str (pa_cons pe_str pa_nil))) (by rfl)) (pss_one (ps_expr (pe_bm PySem.F.plainAttrs_list PySem.F.slot_list_append PySem.F.type_list_append mt_append (pv 2) (pa_cons (pe_call (ok__price T) (hr.mono (by decide : 1 ≤ 3)) (by rfl) T.g__price T._price_F.kp T._price_b .nil pass0 (pa_cons (pv 0) (pa_cons (pv 5) (pa_cons (pe_ix ix_tup (pv 3) pe_int (fun _ _ => rfl)) pa_nil)))) pa_nil)))) (pss_one (ps_if (pt_cmpR op_eq (pv 5) pe_str (nomark _)) (pss_one (ps_expr (pe_bm PySem.F.plainAttrs_list PySem.F.slot_list_append PySem.F.type_list_append mt_append (pv 2) (pa_cons (pe_not (pe_bm0 PySem.F.plainAttrs_list PySem.F.slot_list_pop PySem.F.type_list_pop mt_pop (pv 2))) pa_nil)))) (pss_cons (ps_set (i := 6) sc__worked_out.nd rfl (Or.inl rfl) (pe_bm0 PySem.F.plainAttrs_list PySem.F.slot_list_pop PySem.F.type_list_pop mt_pop (pv 2)))
      (pss_cons (ps_set (i := 7) sc__worked_out.nd rfl (Or.inl rfl) (pe_bm0 PySem.F.plainAttrs_list PySem.F.slot_list_pop PySem.F.type_list_pop mt_pop (pv 2)))
      (pss_one (ps_expr (pe_bm PySem.F.plainAttrs_list PySem.F.slot_list_append PySem.F.type_list_append mt_append (pv 2) (pa_cons (pe_call (ok__joined T) (hr.mono (by decide : 3 ≤ 3)) (by rfl) T.g__joined T._joined_F.kp T._joined_b .nil pass0 (pa_cons (pv 5) (pa_cons (pv 6) (pa_cons (pv 7) pa_nil)))) pa_nil))))))))))))))
      (pss_one (ps_ret (pe_bm0 PySem.F.plainAttrs_list PySem.F.slot_list_pop PySem.F.type_list_pop mt_pop (pv 2)))))), ?_⟩
    refine ⟨Nat.zero_le _, fun pf hf => ?_⟩
    have s1 := same_new (o := .lst []) hf
    have hF0 : (upd H pf (.lst [])) pf = some (.lst []) := upd_same
    generalize (upd H pf (.lst [])) = H1 at *
    refine ⟨_, rfl, vp, p, rfl, dp.same s1, wo.wf, wo.size, fun l xs H2 s2 nl hL dL => ?_⟩
    have lenP : (p.pre 1).length = p.size := p.pre_len 1
    have ln : xs.length = p.size := by rw [dL.len, List.length_map, lenP]
    have lf : l ≠ pf := fun z => by rw [z, hF0] at nl; cases nl
    have hF2 := s2 _ _ hF0
    have eL : [(p, 1)].flatMap preP = p.pre 1 := by simp [preP]
    have iF2 : IsL H2 pf := ⟨_, hF2⟩
    refine ⟨l, xs, rfl, .inl ⟨SqL.of hL, for_it (walk_rev (K := K) (a := l) (xs := xs)) (fun i σ' H' => ∃ (xf : List V) (y3 y4 y5 y6 y7 : Option V), σ' = [some vps, some vp, some (.ref pf), y3, y4, y5, y6, y7] ∧ Same H H' ∧ Xt pf H2 H' ∧ H' pf = some (.lst xf) ∧ DTs K H' xf (((sufF [(p, 1)] (xs.length - i)).map fun e => evD ps e.1).reverse)) ⟨[], _, _, _, _, _, rfl, s1.trans s2, Xt.refl _, hF2, ?_⟩ (fun i σ' H' _ ⟨_, _, _, _, _, _, _, _, x, _⟩ => SqL.of (x _ _ lf hL)) ?_ ?_⟩⟩
    · rw [Nat.sub_zero, suf_end (by rw [eL, lenP, ln]; exact Nat.le_refl _)]
      exact .nil
    · rintro i x σ' H3 H3' hi ⟨xf, y3, y4, y5, y6, y7, rfl, sm, x23, hF, dF⟩ ⟨rfl, hx⟩
      have ej : xs.length - i = (xs.length - 1 - i) + 1 := by omega
      have ej2 : xs.length - (i + 1) = xs.length - 1 - i := by omega
      rw [ej] at dF
      rw [ej2]
      generalize xs.length - 1 - i = j at *
      obtain ⟨d, hd, dx⟩ := dL.get hx
      rw [List.getElem?_map] at hd
      obtain ⟨e, he, rfl⟩ := Option.map_eq_some_iff.mp hd
      obtain ⟨r, hr0, hr1⟩ := suf_at (F := [(p, 1)]) (j := j) (e := e) (by rw [eL]; exact he)
      rw [hr1] at dF
      rw [hr0]
      have me : e ∈ p.pre 1 := List.mem_of_getElem? he
      have wfe := wo.wf.pre 1 e me
      have nce := Part.not_con_pre wo.wf wo.nc 1 e me
      have dx3 := dx.xt iF2 x23
      have iF3 : IsL H3' pf := ⟨_, hF⟩
      obtain ⟨b, vk, rfl, hb, dk⟩ := dx3.entP_inv
      obtain ⟨a, ls, kv, rfl, ha, dl, dks⟩ := dk.part_inv
      have lxf : xf.length ≤ 1001 := by
        rw [dF.len, List.length_reverse, List.length_map]
        have h1 := len_le_flatP (kidsP e ++ r)
        rw [← hr1, suf_flat, List.length_drop, eL, lenP] at h1
        rw [← hr1]
        have := wo.size
        omega
      refine ⟨_, _, rfl, hb.sq, rfl, _, _, rfl, _, _, rfl, rfl, ?_⟩
      refine ⟨_, rfl, _, _, _, _, rfl, rfl, ha.sq, atI_nat (j := 0) rfl, ?_⟩
      have done : ∀ (v : V) (zs : List V) (H5 : Hp) (y3 y4 y5 y6 y7 : Option V), Same H H5 → Xt pf H2 H5 → H5 pf = some (.lst (zs ++ [v])) → DTs K H5 zs ((r.map fun e => evD ps e.1).reverse) → DT K H5 v (evD ps e.1) →
          ∃ (xf : List V) (z3 z4 z5 z6 z7 : Option V), [some vps, some vp, some (.ref pf), y3, y4, y5, y6, y7] = [some vps, some vp, some (.ref pf), z3, z4, z5, z6, z7] ∧ Same H H5 ∧ Xt pf H2 H5 ∧ H5 pf = some (.lst xf) ∧ DTs K H5 xf (((e :: r).map fun e => evD ps e.1).reverse) := fun v zs H5 y3 y4 y5 y6 y7 h1 h2 h3 h4 h5 => by
        refine ⟨_, _, _, _, _, _, rfl, h1, h2, h3, ?_⟩
        rw [List.map_cons, List.reverse_cons]
        exact h4.snoc h5
      obtain ⟨e1, e2⟩ := e
      cases e1 with
      | p0 x li =>
        have wk : x.kn = li.kn := wfe
        rw [show kidsP (Part.p0 x li, e2) = [] from rfl, List.nil_append] at dF
        rcases nc_p0 wk nce with ⟨rfl, q, rfl⟩ | ⟨hx, jg⟩
        · obtain ⟨x0, rfl, dx0⟩ := dl.inv1
          cases dks
          refine ⟨_, rfl, rfl, _, rfl, if_true_of' (wd_yes _) ?_⟩
          refine ⟨_, rfl, .inl ⟨rfl, _, SqL.of hF⟩, _, rfl, _, _, _, _, rfl, rfl, ha.sq, atI_nat (j := 1) rfl, _, _, _, rfl, rfl, hF, Nat.lt_of_le_of_lt lxf (by decide), ?_⟩
          exact done _ _ _ _ _ _ _ _ (same_mut sm hf) (x23.trans Xt.upd) upd_same (dF.xt iF3 Xt.upd) (dx0.xt iF3 Xt.upd)
        · obtain ⟨jg, rfl⟩ := jg
          obtain ⟨x0, rfl, dx0⟩ := dl.inv1
          cases dks
          cases dx0
          obtain ⟨j0, j1⟩ := wo.goods _ me jg rfl
          have hn : x ≠ .number := fun z => by rw [z] at hx; revert hx; decide
          refine ⟨_, rfl, rfl, _, rfl, if_false_of' (wd_no .number hn) ?_⟩
          refine ⟨_, rfl, two_le, fun p8 h8 => ?_⟩
          have s8 := same_new (o := .tup (B2.map fun x => V.str x.str)) h8
          refine ⟨_, B2.map fun x => PyData.str x.str, .str _, dts_l5 B2 upd_same, sh_wd _, sh_b2, _, rfl, ?_⟩
          rw [any_wd]
          refine if_true_of' (decide_eq_true hx) ?_
          have hF8 := s8 _ _ hF
          refine ⟨_, rfl, .inl ⟨rfl, _, SqL.of hF8⟩, _, rfl, _, rfl, _, rfl, _, _, _, _, rfl, rfl, (tp_same s8 ha).sq, atI_nat (j := 1) rfl, vps, ps, x, jg, rfl, dps.same (sm.trans s8), j0, j1, fun v H5 s5 dv => ?_⟩
          have hF5 := s5 _ _ hF8
          have iF5 : IsL H5 pf := ⟨_, hF5⟩
          refine ⟨_, _, _, rfl, rfl, hF5, Nat.lt_of_le_of_lt lxf (by decide), ?_⟩
          refine done _ _ _ _ _ _ _ _ (same_mut ((sm.trans s8).trans s5) hf) (((x23.trans (Xt.of s8)).trans (Xt.of s5)).trans Xt.upd) upd_same (((dF.same s8).same s5).xt iF5 Xt.upd) ?_
          have ev : evD ps (Part.p0 x (.good jg)) = frD (prF ps x jg) := evD_val (by
            rcases List.mem_cons.mp hx with rfl | hx
            · rfl
            · rw [List.mem_singleton.mp hx]; rfl)
          rw [ev]
          exact dv.xt iF5 Xt.upd
      | p1 x li k1 =>
        obtain ⟨rfl, rfl, ck⟩ := nc_p1 (show x.kn = li.kn ++ [k1.wd.cls] from wfe.1) nce (cls_k3 _)
        cases dl
        rw [show kidsP (Part.p1 .not_ .non k1, e2) = [(k1, e2 + 1)] from rfl, List.singleton_append, List.map_cons, List.reverse_cons] at dF
        obtain ⟨zs, v1, rfl, dZ, d1⟩ := dF.snoc_inv
        rw [evD_con ck] at d1
        rw [d1.bool_inv] at hF lxf
        refine ⟨_, rfl, rfl, _, rfl, if_false_of' (wd_no .number (show Wd.not_ ≠ .number by decide)) ?_⟩
        refine ⟨_, rfl, two_le, fun p8 h8 => ?_⟩
        have s8 := same_new (o := .tup (B2.map fun x => V.str x.str)) h8
        refine ⟨_, B2.map fun x => PyData.str x.str, .str _, dts_l5 B2 upd_same, sh_wd _, sh_b2, _, rfl, ?_⟩
        rw [any_wd]
        refine if_false_of' (decide_eq_false (show Wd.not_ ∉ B2 by decide)) ?_
        refine ⟨_, rfl, rfl, _, rfl, if_true_of' (wd_yes _) ?_⟩
        have hF8 := s8 _ _ hF
        refine ⟨_, rfl, .inl ⟨rfl, _, SqL.of hF8⟩, _, rfl, .inl ⟨rfl, _, SqL.of hF8⟩, _, _, _, rfl, rfl, hF8, (by simp : (zs ++ [V.bl (evC ps k1)])[(zs ++ [V.bl (evC ps k1)]).length - 1]? = some (V.bl (evC ps k1))), _, rfl, ?_⟩
        rw [List.dropLast_concat]
        have iF8 : IsL (upd (upd H3' p8 (.tup (B2.map fun x => V.str x.str))) pf (.lst zs)) pf := ⟨_, upd_same⟩
        refine ⟨_, _, _, rfl, rfl, upd_same, ?_, ?_⟩
        · rw [List.length_append] at lxf
          exact Nat.lt_of_le_of_lt (m := 1001) (by simp at lxf; omega) (by decide)
        rw [upd_upd]
        refine done _ _ _ _ _ _ _ _ (same_mut (sm.trans s8) hf) ((x23.trans (Xt.of s8)).trans Xt.upd) upd_same ((dZ.same s8).xt ⟨_, hF8⟩ Xt.upd) ?_
        rw [evD_con (show (Part.p1 .not_ .non k1).wd.cls = .condition from rfl)]
        exact .bl _
      | p2 x li k1 k2 =>
        have kk := nc_p2 (show x.kn = li.kn ++ [k1.wd.cls, k2.wd.cls] from wfe.1) nce
        have el : li = .non := by rcases kk with ⟨_, _, _, _, e⟩ | ⟨_, _, _, e⟩ <;> exact e
        subst el
        cases dl
        rw [show kidsP (Part.p2 x .non k1 k2, e2) = [(k1, e2 + 1), (k2, e2 + 1)] from rfl, List.cons_append, List.singleton_append, List.map_cons, List.map_cons, List.reverse_cons, List.reverse_cons] at dF
        obtain ⟨zs1, v1, rfl, dZ1, d1⟩ := dF.snoc_inv
        obtain ⟨zs, v2, rfl, dZ, d2⟩ := dZ1.snoc_inv
        have nn : x ≠ .number ∧ x ∉ B2 ∧ x ≠ .not_ := by
          rcases kk with ⟨h, _⟩ | ⟨rfl, _⟩
          · refine ⟨fun z => ?_, fun z => ?_, fun z => ?_⟩
            · rw [z] at h; cases h
            · rcases List.mem_cons.mp z with z | z
              · rw [z] at h; cases h
              · rw [List.mem_singleton.mp z] at h; cases h
            · rw [z] at h; cases h
          · decide
        refine ⟨_, rfl, rfl, _, rfl, if_false_of' (wd_no .number nn.1) ?_⟩
        refine ⟨_, rfl, two_le, fun p8 h8 => ?_⟩
        have s8 := same_new (o := .tup (B2.map fun x => V.str x.str)) h8
        refine ⟨_, B2.map fun x => PyData.str x.str, .str _, dts_l5 B2 upd_same, sh_wd _, sh_b2, _, rfl, ?_⟩
        rw [any_wd]
        refine if_false_of' (decide_eq_false nn.2.1) ?_
        refine ⟨_, rfl, rfl, _, rfl, if_false_of' (wd_no .not_ nn.2.2) ?_⟩
        have hF8 := s8 _ _ hF
        have iF8 : IsL (upd H3' p8 (.tup (B2.map fun x => V.str x.str))) pf := ⟨_, hF8⟩
        have x8 : Xt pf (upd H3' p8 (.tup (B2.map fun x => V.str x.str))) (upd (upd H3' p8 (.tup (B2.map fun x => V.str x.str))) pf (.lst zs)) := Xt.upd
        refine ⟨_, rfl, .inl ⟨rfl, _, SqL.of hF8⟩, _, _, _, rfl, rfl, hF8, (by simp : ((zs ++ [v2]) ++ [v1])[((zs ++ [v2]) ++ [v1]).length - 1]? = some v1), ?_⟩
        rw [List.dropLast_concat]
        refine ⟨_, rfl, .inl ⟨rfl, _, SqL.of upd_same⟩, _, _, _, rfl, rfl, upd_same, (by simp : (zs ++ [v2])[(zs ++ [v2]).length - 1]? = some v2), ?_⟩
        rw [List.dropLast_concat, upd_upd]
        have sm9 : Same H (upd (upd H3' p8 (.tup (B2.map fun x => V.str x.str))) pf (.lst zs)) := same_mut (sm.trans s8) hf
        have x29 : Xt pf H2 (upd (upd H3' p8 (.tup (B2.map fun x => V.str x.str))) pf (.lst zs)) := (x23.trans (Xt.of s8)).trans x8
        have hF9 : (upd (upd H3' p8 (.tup (B2.map fun x => V.str x.str))) pf (.lst zs)) pf = some (.lst zs) := upd_same
        have d1' := (d1.same s8).xt iF8 x8
        have d2' := (d2.same s8).xt iF8 x8
        have dZ' := (dZ.same s8).xt iF8 x8
        have iF9 : IsL (upd (upd H3' p8 (.tup (B2.map fun x => V.str x.str))) pf (.lst zs)) pf := ⟨_, hF9⟩
        have lzs : zs.length < sizeLine := by
          simp only [List.length_append, List.length_cons, List.length_nil] at lxf
          exact Nat.lt_of_le_of_lt (m := 1001) (by omega) (by decide)
        refine ⟨_, rfl, .inl ⟨rfl, _, SqL.of hF9⟩, _, rfl, _, rfl, _, rfl, ?_⟩
        rcases kk with ⟨hk, hna, c1, c2, _⟩ | ⟨rfl, c1, c2, _⟩
        · have eqL : (sufF [(p, 1)] (j + 1)).flatMap preP = (p.pre 1).drop (j + 1) := by rw [suf_flat, eL]
          rw [hr1] at eqL
          have kmem : ∀ y ∈ kidsP (Part.p2 x .non k1 k2, e2), y ∈ p.pre 1 := fun y hy => by
            have : y ∈ (p.pre 1).drop (j + 1) := by
              rw [← eqL]
              exact List.mem_flatMap.mpr ⟨y, List.mem_append_left _ hy, by rw [preP_eq]; exact List.mem_cons_self ..⟩
            exact List.mem_of_mem_drop this
          have m1 : (k1, e2 + 1) ∈ p.pre 1 := kmem _ (by simp [kidsP, Part.ks])
          have m2 : (k2, e2 + 1) ∈ p.pre 1 := kmem _ (by simp [kidsP, Part.ks])
          rw [evD_val c1] at d1'
          rw [evD_val c2] at d2'
          refine ⟨x, v1, v2, rfl, .inl ⟨hk, _, _, d1', d2', wo.val m1, wo.val m2, fun v H5 s5 dv => ?_⟩⟩
          have hF5 := s5 _ _ hF9
          refine ⟨_, _, _, rfl, rfl, hF5, lzs, ?_⟩
          refine done _ _ _ _ _ _ _ _ (same_mut (sm9.trans s5) hf) ((x29.trans (Xt.of s5)).trans Xt.upd) upd_same ((dZ'.same s5).xt ⟨_, hF5⟩ Xt.upd) ?_
          have ev : evD ps (Part.p2 x .non k1 k2) = jnD x (evV ps k1) (evV ps k2) := by
            unfold evD jnD
            show (if x.cls = .value then frD (jnV x _ _) else .bool (if x = .and_ then _ else jnC x _ _)) = _
            rw [if_neg hna]
          rw [ev]
          exact dv.xt ⟨_, hF5⟩ Xt.upd
        · rw [evD_con c1] at d1'
          rw [evD_con c2] at d2'
          refine ⟨.and_, v1, v2, rfl, .inr ⟨rfl, _, _, d1'.bool_inv, d2'.bool_inv, ?_⟩⟩
          refine ⟨_, _, _, rfl, rfl, hF9, lzs, ?_⟩
          refine done _ _ _ _ _ _ _ _ (same_mut sm9 hf) (x29.trans Xt.upd) upd_same (dZ'.xt iF9 Xt.upd) ?_
          rw [evD_con (show (Part.p2 .and_ .non k1 k2).wd.cls = .condition from rfl)]
          exact .bl _
    · rintro σ' H3 ⟨xf, y3, y4, y5, y6, y7, rfl, sm, x23, hF, dF⟩
      rw [Nat.sub_self] at dF
      obtain ⟨x, rfl, dx⟩ := dF.inv1
      refine ⟨_, rfl, .inl ⟨rfl, _, SqL.of hF⟩, _, _, _, rfl, rfl, hF, rfl, ?_⟩
      exact fin _ _ (same_mut sm hf) (dx.xt ⟨_, hF⟩ Xt.upd)
end
end Nl

namespace Nl
open PySem PySem.Spec PyProof.Rows L2
section
variable {P : Program} {w : World} {K : PySem.W.Frag} {mg : Str → Option Value} {base : Heap}
def sp2b (K : PySem.W.Frag) (R : Int × Int → Int × Int → Int × Int) : Sp := fun vs H Q _ => ∃ (va vb : V) (p q : Int × Int) (k m : Nat), vs = [va, vb] ∧ DT K H va (frD p) ∧ DT K H vb (frD q) ∧ Ok k p ∧ Ok m q ∧ k + m ≤ 8000 ∧ ∀ v H', Same H H' → DT K H' v (frD (R p q)) → Q v H'
theorem ok_plusB (T : Top w K mg) : FnOk P w K mg base CX0 2 T.a_plus T.d_plus ["a", "b"] (sp2b K addF) := by
  refine T.plus_F.ok sc_plus (fun vs H Q E h => ?_) (fun cdv A outer s H vs Q E hr h => ?_)
  · obtain ⟨_, _, _, _, _, _, rfl, _⟩ := h
    rfl
  · obtain ⟨_, _, p, q, k, m, rfl, da, db, ⟨lp, p1, p2⟩, ⟨lq, q1, q2⟩, hk, fin⟩ := h
    obtain ⟨a, rfl, ha⟩ := da.fr_inv
    obtain ⟨b, rfl, hb⟩ := db.fr_inv
    have ne := pos_ne lp.pos lq.pos
    have p1' := p1.mono (m := 8000) (by omega)
    have p2' := p2.mono (m := 8000) (by omega)
    have q1' := q1.mono (m := 8000) (by omega)
    have q2' := q2.mono (m := 8000) (by omega)
    refine ⟨_, (pss_one (ps_ret (pe_call (ok_fraction T) (hr.mono (by decide : 1 ≤ 1)) (by rfl) T.g_fraction T.fraction_F.kp T.fraction_b .nil passL (pa_cons (pe_op op_add (pe_op op_mulW (pe_ix ix_tup (pv 0) pe_int (fun _ _ => rfl)) (pe_ix ix_tup (pv 1) pe_int (fun _ _ => rfl))) (pe_op op_mulW (pe_ix ix_tup (pv 1) pe_int (fun _ _ => rfl)) (pe_ix ix_tup (pv 0) pe_int (fun _ _ => rfl)))) (pa_cons (pe_op op_mulW (pe_ix ix_tup (pv 0) pe_int (fun _ _ => rfl)) (pe_ix ix_tup (pv 1) pe_int (fun _ _ => rfl))) pa_nil))))), ?_⟩
    exact ⟨_, rfl, _, _, _, _, rfl, rfl, (SqT.of ha), (atI_nat (j := 0) rfl), _, rfl, _, _, _, _, rfl, rfl, (SqT.of hb), (atI_nat (j := 1) rfl), _, _, rfl, rfl, (by first | exact mulK hk (by assumption) (by assumption) | exact mulF3 (by assumption) (by assumption) | exact mulB8 (by assumption) (by assumption)), _, rfl, _, _, _, _, rfl, rfl, (SqT.of hb), (atI_nat (j := 0) rfl), _, rfl, _, _, _, _, rfl, rfl, (SqT.of ha), (atI_nat (j := 1) rfl), _, _, rfl, rfl, (by first | exact mulK hk (by assumption) (by assumption) | exact mulF3 (by assumption) (by assumption) | exact mulB8 (by assumption) (by assumption)), _, _, rfl, rfl, _, rfl, _, _, _, _, rfl, rfl, (SqT.of ha), (atI_nat (j := 1) rfl), _, rfl, _, _, _, _, rfl, rfl, (SqT.of hb), (atI_nat (j := 1) rfl), _, _, rfl, rfl, (by first | exact mulK hk (by assumption) (by assumption) | exact mulF3 (by assumption) (by assumption) | exact mulB8 (by assumption) (by assumption)), _, _, rfl, fun z => (ne z).elim, fun _ => ⟨(p2.mul q2).mono (by omega), fun v H' s f => fin v H' s f⟩⟩
theorem ok_minusB (T : Top w K mg) : FnOk P w K mg base CX0 2 T.a_minus T.d_minus ["a", "b"] (sp2b K subF) := by
  refine T.minus_F.ok sc_minus (fun vs H Q E h => ?_) (fun cdv A outer s H vs Q E hr h => ?_)
  · obtain ⟨_, _, _, _, _, _, rfl, _⟩ := h
    rfl
  · obtain ⟨_, _, p, q, k, m, rfl, da, db, ⟨lp, p1, p2⟩, ⟨lq, q1, q2⟩, hk, fin⟩ := h
    obtain ⟨a, rfl, ha⟩ := da.fr_inv
    obtain ⟨b, rfl, hb⟩ := db.fr_inv
    have ne := pos_ne lp.pos lq.pos
    have p1' := p1.mono (m := 8000) (by omega)
    have p2' := p2.mono (m := 8000) (by omega)
    have q1' := q1.mono (m := 8000) (by omega)
    have q2' := q2.mono (m := 8000) (by omega)
    refine ⟨_, (pss_one (ps_ret (pe_call (ok_fraction T) (hr.mono (by decide : 1 ≤ 1)) (by rfl) T.g_fraction T.fraction_F.kp T.fraction_b .nil passL (pa_cons (pe_op op_sub (pe_op op_mulW (pe_ix ix_tup (pv 0) pe_int (fun _ _ => rfl)) (pe_ix ix_tup (pv 1) pe_int (fun _ _ => rfl))) (pe_op op_mulW (pe_ix ix_tup (pv 1) pe_int (fun _ _ => rfl)) (pe_ix ix_tup (pv 0) pe_int (fun _ _ => rfl)))) (pa_cons (pe_op op_mulW (pe_ix ix_tup (pv 0) pe_int (fun _ _ => rfl)) (pe_ix ix_tup (pv 1) pe_int (fun _ _ => rfl))) pa_nil))))), ?_⟩
    exact ⟨_, rfl, _, _, _, _, rfl, rfl, (SqT.of ha), (atI_nat (j := 0) rfl), _, rfl, _, _, _, _, rfl, rfl, (SqT.of hb), (atI_nat (j := 1) rfl), _, _, rfl, rfl, (by first | exact mulK hk (by assumption) (by assumption) | exact mulF3 (by assumption) (by assumption) | exact mulB8 (by assumption) (by assumption)), _, rfl, _, _, _, _, rfl, rfl, (SqT.of hb), (atI_nat (j := 0) rfl), _, rfl, _, _, _, _, rfl, rfl, (SqT.of ha), (atI_nat (j := 1) rfl), _, _, rfl, rfl, (by first | exact mulK hk (by assumption) (by assumption) | exact mulF3 (by assumption) (by assumption) | exact mulB8 (by assumption) (by assumption)), _, _, rfl, rfl, _, rfl, _, _, _, _, rfl, rfl, (SqT.of ha), (atI_nat (j := 1) rfl), _, rfl, _, _, _, _, rfl, rfl, (SqT.of hb), (atI_nat (j := 1) rfl), _, _, rfl, rfl, (by first | exact mulK hk (by assumption) (by assumption) | exact mulF3 (by assumption) (by assumption) | exact mulB8 (by assumption) (by assumption)), _, _, rfl, fun z => (ne z).elim, fun _ => ⟨(p2.mul q2).mono (by omega), fun v H' s f => fin v H' s f⟩⟩
theorem ok_timesB (T : Top w K mg) : FnOk P w K mg base CX0 2 T.a_times T.d_times ["a", "b"] (sp2b K mulF) := by
  refine T.times_F.ok sc_times (fun vs H Q E h => ?_) (fun cdv A outer s H vs Q E hr h => ?_)
  · obtain ⟨_, _, _, _, _, _, rfl, _⟩ := h
    rfl
  · obtain ⟨_, _, p, q, k, m, rfl, da, db, ⟨lp, p1, p2⟩, ⟨lq, q1, q2⟩, hk, fin⟩ := h
    obtain ⟨a, rfl, ha⟩ := da.fr_inv
    obtain ⟨b, rfl, hb⟩ := db.fr_inv
    have ne := pos_ne lp.pos lq.pos
    have p1' := p1.mono (m := 8000) (by omega)
    have p2' := p2.mono (m := 8000) (by omega)
    have q1' := q1.mono (m := 8000) (by omega)
    have q2' := q2.mono (m := 8000) (by omega)
    refine ⟨_, (pss_one (ps_ret (pe_call (ok_fraction T) (hr.mono (by decide : 1 ≤ 1)) (by rfl) T.g_fraction T.fraction_F.kp T.fraction_b .nil passL (pa_cons (pe_op op_mulW (pe_ix ix_tup (pv 0) pe_int (fun _ _ => rfl)) (pe_ix ix_tup (pv 1) pe_int (fun _ _ => rfl))) (pa_cons (pe_op op_mulW (pe_ix ix_tup (pv 0) pe_int (fun _ _ => rfl)) (pe_ix ix_tup (pv 1) pe_int (fun _ _ => rfl))) pa_nil))))), ?_⟩
    exact ⟨_, rfl, _, _, _, _, rfl, rfl, (SqT.of ha), (atI_nat (j := 0) rfl), _, rfl, _, _, _, _, rfl, rfl, (SqT.of hb), (atI_nat (j := 0) rfl), _, _, rfl, rfl, (by first | exact mulK hk (by assumption) (by assumption) | exact mulF3 (by assumption) (by assumption) | exact mulB8 (by assumption) (by assumption)), _, rfl, _, _, _, _, rfl, rfl, (SqT.of ha), (atI_nat (j := 1) rfl), _, rfl, _, _, _, _, rfl, rfl, (SqT.of hb), (atI_nat (j := 1) rfl), _, _, rfl, rfl, (by first | exact mulK hk (by assumption) (by assumption) | exact mulF3 (by assumption) (by assumption) | exact mulB8 (by assumption) (by assumption)), _, _, rfl, fun z => (ne z).elim, fun _ => ⟨(p2.mul q2).mono (by omega), fun v H' s f => fin v H' s f⟩⟩
theorem ok__law_plusB (T : Top w K mg) : FnOk P w K mg base CX0 3 T.a__law_plus T.d__law_plus ["a", "b"] (sp2b K addF) := by
  refine T._law_plus_F.ok sc__law_plus (fun vs H Q E h => ?_) (fun cdv A outer s H vs Q E hr h => ?_)
  · obtain ⟨_, _, _, _, _, _, rfl, _⟩ := h
    rfl
  · obtain ⟨_, _, p, q, k, m, rfl, da, db, ⟨lp, p1, p2⟩, ⟨lq, q1, q2⟩, hk, fin⟩ := h
    obtain ⟨a, rfl, ha⟩ := da.fr_inv
    obtain ⟨b, rfl, hb⟩ := db.fr_inv
    have ne := pos_ne lp.pos lq.pos
    have p1' := p1.mono (m := 8000) (by omega)
    have p2' := p2.mono (m := 8000) (by omega)
    have q1' := q1.mono (m := 8000) (by omega)
    have q2' := q2.mono (m := 8000) (by omega)
    refine ⟨_, (pss_one (ps_ret (pe_call (ok__law_f T) (hr.mono (by decide : 2 ≤ 2)) (by rfl) T.g__law_f T._law_f_F.kp T._law_f_b .nil pass0 (pa_cons (pe_op op_add (pe_op op_mulW (pe_ix ix_tup (pv 0) pe_int (fun _ _ => rfl)) (pe_ix ix_tup (pv 1) pe_int (fun _ _ => rfl))) (pe_op op_mulW (pe_ix ix_tup (pv 1) pe_int (fun _ _ => rfl)) (pe_ix ix_tup (pv 0) pe_int (fun _ _ => rfl)))) (pa_cons (pe_op op_mulW (pe_ix ix_tup (pv 0) pe_int (fun _ _ => rfl)) (pe_ix ix_tup (pv 1) pe_int (fun _ _ => rfl))) pa_nil))))), ?_⟩
    exact ⟨_, rfl, _, _, _, _, rfl, rfl, (SqT.of ha), (atI_nat (j := 0) rfl), _, rfl, _, _, _, _, rfl, rfl, (SqT.of hb), (atI_nat (j := 1) rfl), _, _, rfl, rfl, (by first | exact mulK hk (by assumption) (by assumption) | exact mulF3 (by assumption) (by assumption) | exact mulB8 (by assumption) (by assumption)), _, rfl, _, _, _, _, rfl, rfl, (SqT.of hb), (atI_nat (j := 0) rfl), _, rfl, _, _, _, _, rfl, rfl, (SqT.of ha), (atI_nat (j := 1) rfl), _, _, rfl, rfl, (by first | exact mulK hk (by assumption) (by assumption) | exact mulF3 (by assumption) (by assumption) | exact mulB8 (by assumption) (by assumption)), _, _, rfl, rfl, _, rfl, _, _, _, _, rfl, rfl, (SqT.of ha), (atI_nat (j := 1) rfl), _, rfl, _, _, _, _, rfl, rfl, (SqT.of hb), (atI_nat (j := 1) rfl), _, _, rfl, rfl, (by first | exact mulK hk (by assumption) (by assumption) | exact mulF3 (by assumption) (by assumption) | exact mulB8 (by assumption) (by assumption)), _, _, rfl, ne, (p2.mul q2).mono (by omega), fun v H' s f => fin v H' s f⟩
theorem ok__law_minusB (T : Top w K mg) : FnOk P w K mg base CX0 3 T.a__law_minus T.d__law_minus ["a", "b"] (sp2b K subF) := by
  refine T._law_minus_F.ok sc__law_minus (fun vs H Q E h => ?_) (fun cdv A outer s H vs Q E hr h => ?_)
  · obtain ⟨_, _, _, _, _, _, rfl, _⟩ := h
    rfl
  · obtain ⟨_, _, p, q, k, m, rfl, da, db, ⟨lp, p1, p2⟩, ⟨lq, q1, q2⟩, hk, fin⟩ := h
    obtain ⟨a, rfl, ha⟩ := da.fr_inv
    obtain ⟨b, rfl, hb⟩ := db.fr_inv
    have ne := pos_ne lp.pos lq.pos
    have p1' := p1.mono (m := 8000) (by omega)
    have p2' := p2.mono (m := 8000) (by omega)
    have q1' := q1.mono (m := 8000) (by omega)
    have q2' := q2.mono (m := 8000) (by omega)
    refine ⟨_, (pss_one (ps_ret (pe_call (ok__law_f T) (hr.mono (by decide : 2 ≤ 2)) (by rfl) T.g__law_f T._law_f_F.kp T._law_f_b .nil pass0 (pa_cons (pe_op op_sub (pe_op op_mulW (pe_ix ix_tup (pv 0) pe_int (fun _ _ => rfl)) (pe_ix ix_tup (pv 1) pe_int (fun _ _ => rfl))) (pe_op op_mulW (pe_ix ix_tup (pv 1) pe_int (fun _ _ => rfl)) (pe_ix ix_tup (pv 0) pe_int (fun _ _ => rfl)))) (pa_cons (pe_op op_mulW (pe_ix ix_tup (pv 0) pe_int (fun _ _ => rfl)) (pe_ix ix_tup (pv 1) pe_int (fun _ _ => rfl))) pa_nil))))), ?_⟩
    exact ⟨_, rfl, _, _, _, _, rfl, rfl, (SqT.of ha), (atI_nat (j := 0) rfl), _, rfl, _, _, _, _, rfl, rfl, (SqT.of hb), (atI_nat (j := 1) rfl), _, _, rfl, rfl, (by first | exact mulK hk (by assumption) (by assumption) | exact mulF3 (by assumption) (by assumption) | exact mulB8 (by assumption) (by assumption)), _, rfl, _, _, _, _, rfl, rfl, (SqT.of hb), (atI_nat (j := 0) rfl), _, rfl, _, _, _, _, rfl, rfl, (SqT.of ha), (atI_nat (j := 1) rfl), _, _, rfl, rfl, (by first | exact mulK hk (by assumption) (by assumption) | exact mulF3 (by assumption) (by assumption) | exact mulB8 (by assumption) (by assumption)), _, _, rfl, rfl, _, rfl, _, _, _, _, rfl, rfl, (SqT.of ha), (atI_nat (j := 1) rfl), _, rfl, _, _, _, _, rfl, rfl, (SqT.of hb), (atI_nat (j := 1) rfl), _, _, rfl, rfl, (by first | exact mulK hk (by assumption) (by assumption) | exact mulF3 (by assumption) (by assumption) | exact mulB8 (by assumption) (by assumption)), _, _, rfl, ne, (p2.mul q2).mono (by omega), fun v H' s f => fin v H' s f⟩
theorem ok__law_timesB (T : Top w K mg) : FnOk P w K mg base CX0 3 T.a__law_times T.d__law_times ["a", "b"] (sp2b K mulF) := by
  refine T._law_times_F.ok sc__law_times (fun vs H Q E h => ?_) (fun cdv A outer s H vs Q E hr h => ?_)
  · obtain ⟨_, _, _, _, _, _, rfl, _⟩ := h
    rfl
  · obtain ⟨_, _, p, q, k, m, rfl, da, db, ⟨lp, p1, p2⟩, ⟨lq, q1, q2⟩, hk, fin⟩ := h
    obtain ⟨a, rfl, ha⟩ := da.fr_inv
    obtain ⟨b, rfl, hb⟩ := db.fr_inv
    have ne := pos_ne lp.pos lq.pos
    have p1' := p1.mono (m := 8000) (by omega)
    have p2' := p2.mono (m := 8000) (by omega)
    have q1' := q1.mono (m := 8000) (by omega)
    have q2' := q2.mono (m := 8000) (by omega)
    refine ⟨_, (pss_one (ps_ret (pe_call (ok__law_f T) (hr.mono (by decide : 2 ≤ 2)) (by rfl) T.g__law_f T._law_f_F.kp T._law_f_b .nil pass0 (pa_cons (pe_op op_mulW (pe_ix ix_tup (pv 0) pe_int (fun _ _ => rfl)) (pe_ix ix_tup (pv 1) pe_int (fun _ _ => rfl))) (pa_cons (pe_op op_mulW (pe_ix ix_tup (pv 0) pe_int (fun _ _ => rfl)) (pe_ix ix_tup (pv 1) pe_int (fun _ _ => rfl))) pa_nil))))), ?_⟩
    exact ⟨_, rfl, _, _, _, _, rfl, rfl, (SqT.of ha), (atI_nat (j := 0) rfl), _, rfl, _, _, _, _, rfl, rfl, (SqT.of hb), (atI_nat (j := 0) rfl), _, _, rfl, rfl, (by first | exact mulK hk (by assumption) (by assumption) | exact mulF3 (by assumption) (by assumption) | exact mulB8 (by assumption) (by assumption)), _, rfl, _, _, _, _, rfl, rfl, (SqT.of ha), (atI_nat (j := 1) rfl), _, rfl, _, _, _, _, rfl, rfl, (SqT.of hb), (atI_nat (j := 1) rfl), _, _, rfl, rfl, (by first | exact mulK hk (by assumption) (by assumption) | exact mulF3 (by assumption) (by assumption) | exact mulB8 (by assumption) (by assumption)), _, _, rfl, ne, (p2.mul q2).mono (by omega), fun v H' s f => fin v H' s f⟩
end
end Nl

namespace Nl
open PySem PySem.Spec PyProof.Rows L2
/-- a call of a local name; what it holds keeps a promise -/
def tCallHd (P : Program) (w : World) (K : PySem.W.Frag) (mg : Str → Option Value) (base : Heap) (k i : Nat) (t : TA) : TE := fun σ H Q => ∃ f sp, σ[i]? = some (some (.ref f)) ∧ Held P w K mg base k f sp ∧ t σ H fun vs H1 => sp vs H1 Q (fun _ _ _ => False)
section
variable {X : Cx} {k i : Nat} {x : Str} {p pos : Pos} {e : Expr} {es : List Expr} {t : TA}
theorem pe_callHd (hr : Room k X.A) (hN : X.N[i]? = some x) (hv : Vis X.env.scope x) (ha : PA X (e :: es) t)
    (hdb : (x == ("__debug__" : Str)) = false := by decide) (hcd : (x == ("__classdict__" : Str)) = false := by decide)
    (he : starEach (e :: es) X.env = (false, eval e X.env) :: starEach es X.env := by rfl) (hpl : (backTo pos (starEach es X.env)).any (·.1) = false := by rfl) : PE X (.Call (.Name x p) (e :: es) [] pos) (tCallHd X.prog X.w X.K X.mg X.base k i t) := by
  refine ⟨fun pins s σ H Q I h => ?_⟩
  obtain ⟨f, sp, hs, hS, ht⟩ := h
  obtain ⟨fd, ps, F, hk, hb⟩ := hS.ex
  refine (pe_callL (i := i) (f := f) (sp := sp) (dvs := []) (E := fun _ _ _ => False) F hr hN hv hk hb .nil (fun _ _ _ _ _ _ _ z => z.elim) ha hdb hcd he hpl).run pins s σ H Q I ⟨hs, ?_⟩
  have e0 : (fun (vs : List V) (H1 : Hp) => sp (vs ++ []) H1 Q (fun _ _ _ => False)) = fun vs H1 => sp vs H1 Q (fun _ _ _ => False) := by
    funext vs H1
    rw [List.append_nil]
  show t σ H (fun vs H1 => sp (vs ++ []) H1 Q (fun _ _ _ => False))
  rw [e0]
  exact ht
end
theorem DT.ask_inv {K : PySem.W.Frag} {H : Hp} {v : V} {h : Bool} {c d : Part} (g : DT K H v (Told.ask h c d).D) : ∃ a x y, v = .ref a ∧ Tp H a [.str "ask", .str (sideS h), x, y] ∧ DT K H x c.D ∧ DT K H y d.D := by
  obtain ⟨a, xs, rfl, ha, hd⟩ := g.inv
  cases hd with
  | cons h1 h2 => cases h2 with
    | cons h3 h4 => cases h1; cases h3; obtain ⟨x, y, rfl, dx, dy⟩ := h4.inv2; exact ⟨a, x, y, rfl, ha, dx, dy⟩
theorem DT.pay_inv {K : PySem.W.Frag} {H : Hp} {v : V} {am : List (Int × Int)} {l : Part} (g : DT K H v (Told.pay am l).D) : ∃ a x y, v = .ref a ∧ Tp H a [.str "pay", x, y] ∧ DT K H x (.tuple (am.map frD)) ∧ DT K H y l.D := by
  obtain ⟨a, xs, rfl, ha, hd⟩ := g.inv
  cases hd with
  | cons h1 h2 => cases h1; obtain ⟨x, y, rfl, dx, dy⟩ := h2.inv2; exact ⟨a, x, y, rfl, ha, dx, dy⟩
theorem DT.ask {K : PySem.W.Frag} {H : Hp} {a : Addr} {h : Bool} {c d : Part} {x y : V} (ha : Tp H a [.str "ask", .str (sideS h), x, y]) (dx : DT K H x c.D) (dy : DT K H y d.D) : DT K H (.ref a) (Told.ask h c d).D := .tup ha (.cons (.str _) (.cons (.str _) (.cons dx (.cons dy .nil))))
theorem DT.pay {K : PySem.W.Frag} {H : Hp} {a : Addr} {am : List (Int × Int)} {l : Part} {x y : V} (ha : Tp H a [.str "pay", x, y]) (dx : DT K H x (.tuple (am.map frD))) (dy : DT K H y l.D) : DT K H (.ref a) (Told.pay am l).D := .tup ha (.cons (.str _) (.cons dx (.cons dy .nil)))
theorem pay_ask : decide (V.str (Str.ofString "pay") = V.str (Str.ofString "ask")) = false := by decide +kernel
theorem ask_ask : decide (V.str (Str.ofString "ask") = V.str (Str.ofString "ask")) = true := decide_eq_true rfl
theorem side_h (h : Bool) : decide (V.str (sideS h) = V.str (Str.ofString "holder")) = h := by cases h <;> decide +kernel
theorem dts_rep {K : PySem.W.Frag} {H : Hp} {v : V} {d : PyData} (h : DT K H v d) : ∀ n : Nat, DTs K H (List.replicate n v) (List.replicate n d)
  | 0 => .nil
  | n + 1 => .cons h (dts_rep h n)
end Nl
namespace Nl
open PySem PySem.Spec PyProof.Rows L2
theorem dts_set {K : PySem.W.Frag} {H : Hp} : ∀ {xs : List V} {ds : List PyData} {i : Nat} {x : V} {d : PyData}, DTs K H xs ds → DT K H x d → DTs K H (xs.set i x) (ds.set i d)
  | [], [], _, _, _, .nil, _ => .nil
  | _ :: _, _ :: _, 0, _, _, .cons _ h, g => .cons g h
  | _ :: _, _ :: _, i + 1, _, _, .cons h1 h2, g => .cons h1 (dts_set (i := i) h2 g)
end Nl

namespace Nl
open PySem PySem.Spec PyProof.Rows L2
theorem tuple_mul1 (l : Addr) (items : Array Value) (n : Nat) (dd : Option Addr) (sl : Array (Option Value)) (u : Tok) (c1 : (items.isEmpty || (1 : Int) == 1) = true) :
    Meets (Builtin.«tuple.__mul__» ⟨[.ref l, .int 1 u], []⟩) (fun _ R s => s.heap.get? l = some { cls := .type "tuple", dict := dd, data := .seq items n, slots := sl } ∧
      R (.ok (.ret (Value.ref l))) s) :=
  .of_wp fun prog w A R s h => by
    obtain ⟨hp, g, d, tk, os⟩ := s
    obtain ⟨hl, h⟩ := h
    have f1 := AutoSeq1.idx_int
    wp_walk using wpAny_loadPart' hl
    repeat (first
      | (refine wpAny_ite_true (decide_eq_true c1) ?_; wp_walk using wpAny_loadPart' hl)
      | (refine wpAny_ite_true (by decide) ?_; wp_walk using wpAny_loadPart' hl)
      | (refine wpAny_ite_false (by decide) ?_; wp_walk using wpAny_loadPart' hl))
    exact ⟨_, rfl, h⟩
end Nl
namespace Nl
open PySem PySem.Spec PyProof.Rows L2
def rRepK (K : PySem.W.Frag) : R2 := fun x y H Q => ∃ l k xs, x = .ref l ∧ y = .int k ∧ Tp H l xs ∧ xs ≠ [] ∧ 1 ≤ k ∧ k ≤ 1000 ∧ xs.length ≤ 1000 ∧ ∀ p H', Same H H' → Tp H' p (List.replicate k.toNat xs).flatten → Q (.ref p) H'
section
variable {X : Cx}
theorem op_repK : OpR X (binaryOp .Mult) (rRepK X.K) := by
  intro pins s σ H x y v u Q I rx ry h
  obtain ⟨l, k, xs, rfl, rfl, hT, hne, h1, h2, hz, q⟩ := h
  by_cases hk : k = 1
  · subst hk
    cases rx
    obtain ⟨t, rfl⟩ := ry
    obtain ⟨its, r, ⟨⟨cls, dd, data, sl⟩, ho, hc, n, hd⟩, hs⟩ := I.tuple (SqT.of hT)
    simp only at hc hd
    subst hc hd
    have c1 : (its.toArray.isEmpty || (1 : Int) == 1) = true := by simp
    refine wpAny_binaryOp_repeat_ref (T := "tuple") (U := "int") (by decide) ⟨_, ho, rfl⟩ (fun s' => typeIs_int s' 1 t) noFill_tuple_mul F.fills_int_mul F.slot_int_rmul repeat_tuple F.slot_int_index.lookup
      (call_meets F.slot_int_rmul (typeIs_int s 1 t) F.entry_int_rmul (F.args_int_rmul_2 _ _) (int_rmul_tuple 1 t l its.toArray n dd sl)
        ⟨ho, rfl, ⟨_, ho, rfl⟩, call_meets F.slot_tuple_mul ⟨_, ho, rfl⟩ F.entry_tuple_mul (F.args_tuple_mul_2 _ _) (tuple_mul1 l its.toArray n dd sl t c1) ⟨ho, ?_⟩⟩)
    refine ⟨.ref l, H, I, rfl, q _ _ (Same.refl _) ?_⟩
    simpa using hT
  · exact op_repT pins s σ H _ _ v u Q I rx ry ⟨l, k, xs, rfl, rfl, SqT.of hT, hne, by omega, h2, hz, fun p hp => q p _ (same_new hp) (Tp.of upd_same)⟩
end
end Nl

namespace Nl
open PySem PySem.Spec PyProof.Rows L2
section
variable {P : Program} {w : World} {K : PySem.W.Frag} {mg : Str → Option Value} {base : Heap}
def amD (l : List (Int × Int)) : PyData := .tuple (l.map frD)
def sp_added (K : PySem.W.Frag) : Sp := fun vs H Q _ => ∃ (va vb : V) (A B : List (Int × Int)) (k m : Nat), vs = [va, vb] ∧ DT K H va (amD A) ∧ DT K H vb (amD B) ∧ A.length = B.length ∧ B.length ≤ 10 ∧ (∀ q ∈ A, Ok k q) ∧ (∀ q ∈ B, Ok m q) ∧ k + m ≤ 8000 ∧ ∀ v H', Same H H' → DT K H' v (amD (List.zipWith addF A B)) → Q v H'
theorem ok_added (T : Top w K mg) : FnOk P w K mg base CX0 3 T.a_added T.d_added ["a", "b"] (sp_added K) := by
  refine T.added_F.ok sc_added (fun vs H Q E h => ?_) (fun cdv A outer s H vs Q E hr h => ?_)
  · obtain ⟨_, _, _, _, _, _, rfl, _⟩ := h
    rfl
  · obtain ⟨va, vb, A0, B0, k, m, rfl, da, db, hl, h10, oa, ob, hk, fin⟩ := h
    obtain ⟨a, xa, rfl, ha, dxa⟩ := da.inv
    obtain ⟨b, xb, rfl, hb, dxb⟩ := db.inv
    have la : xa.length = A0.length := by rw [dxa.len, List.length_map]
    have lb : xb.length = B0.length := by rw [dxb.len, List.length_map]
    refine ⟨_, (pss_one (ps_ret (pe_callTy call_tupL (by rfl) T.n_tuple (by decide +kernel) (pa_cons (pe_lc (own := [("x", 2), ("y", 3)]) (g := (gTup K 2 (gCons (gName 2) (gCons (gName 3) gNil)))) (tt := tYes) (by rfl) sc_added.nd (RZ.pi_zipA (by rfl) T.n_zip (pa_cons (pv 0) (pa_cons (pv 1) pa_nil))) (blkOk_by (own := [("x", 2), ("y", 3)]) (N := ["a", "b", "x", "y"]) (sc := defScope s_added) (by decide +kernel)) (fun _ _ _ _ _ => (pg_tup rfl (pgs_cons (pg_name (i := 2) sc_added.nd rfl (Or.inl rfl)) (pgs_cons (pg_name (i := 3) sc_added.nd rfl (Or.inl rfl)) pgs_nil)))) (fun _ _ _ _ _ => pts_nil) (fun _ _ _ _ _ => (pe_call (ok_plusB T) (hr.mono (by decide : 2 ≤ 2)) (by rfl) T.g_plus T.plus_F.kp T.plus_b .nil pass0 (pa_cons (pv 2) (pa_cons (pv 3) pa_nil))))) pa_nil)))), ?_⟩
    refine ⟨_, rfl, _, rfl, a, b, xa, xb, rfl, .inr ⟨ha.sq, hb.sq, fun D hD => lc_it (walk_zipT (xs := xa) (ys := xb) (n := xb.length) (by omega)) (fun i H' => Same H H' ∧ ∃ o, H' D = some (.lst o) ∧ DTs K H' o (((List.zipWith addF A0 B0).take i).map frD)) ⟨same_new hD, [], upd_same, .nil⟩ (fun i H' _ ⟨sm, _⟩ => ⟨(tp_same sm ha).sq, (tp_same sm hb).sq⟩) ?_ ?_⟩⟩
    · rintro i z H2 H3 hi ⟨sm, o, hO, dO⟩ ⟨c, x, y, rfl, hc, rfl, hx, hy⟩
      have s3 := same_new (o := .tup [x, y]) hc
      have hx : xa[i]? = some x := hx
      have hy : xb[i]? = some y := hy
      obtain ⟨d1, e1, dx⟩ := dxa.get hx
      obtain ⟨d2, e2, dy⟩ := dxb.get hy
      rw [List.getElem?_map] at e1 e2
      obtain ⟨q1, g1, rfl⟩ := Option.map_eq_some_iff.mp e1
      obtain ⟨q2, g2, rfl⟩ := Option.map_eq_some_iff.mp e2
      refine ⟨_, _, rfl, SqT.of upd_same, rfl, _, _, rfl, _, _, rfl, rfl, rfl, ?_⟩
      dsimp only [tYes]
      rw [if_pos rfl]
      have sm3 := sm.trans s3
      refine ⟨_, rfl, _, rfl, x, y, q1, q2, k, m, rfl, dx.same sm3, dy.same sm3, oa q1 (List.mem_of_getElem? g1), ob q2 (List.mem_of_getElem? g2), hk, fun v H4 s4 dv => ?_⟩
      have hO4 := (s3.trans s4) _ _ hO
      have lo : o.length ≤ 10 := by
        rw [dO.len, List.length_map, List.length_take]
        omega
      refine ⟨o, hO4, small1000 (by omega), same_mut (sm3.trans s4) hD, o ++ [v], upd_same, ?_⟩
      have gz : (List.zipWith addF A0 B0)[i]? = some (addF q1 q2) := by rw [List.getElem?_zipWith, g1, g2]
      rw [take_next gz, List.map_append]
      exact ((dO.same (s3.trans s4)).snoc dv).xt ⟨_, hO4⟩ Xt.upd
    · rintro H2 ⟨sm, o, hO, dO⟩
      rw [List.take_of_length_le (by rw [List.length_zipWith]; omega)] at dO
      refine ⟨D, o, rfl, SqL.of hO, fun q hq => ?_⟩
      exact fin _ _ (sm.trans (same_new hq)) (.tup (Tp.of upd_same) (dO.same (same_new hq)))
def sp_mult (K : PySem.W.Frag) : Sp := fun vs H Q _ => ∃ (va vb : V) (A : List (Int × Int)) (f : Int × Int) (k m : Nat), vs = [va, vb] ∧ DT K H va (amD A) ∧ DT K H vb (frD f) ∧ A.length ≤ 10 ∧ (∀ q ∈ A, Ok k q) ∧ Ok m f ∧ k + m ≤ 8000 ∧ ∀ v H', Same H H' → DT K H' v (amD (A.map fun q => mulF q f)) → Q v H'
theorem ok_multiplied (T : Top w K mg) : FnOk P w K mg base CX0 3 T.a_multiplied T.d_multiplied ["row", "factor"] (sp_mult K) := by
  refine T.multiplied_F.ok sc_multiplied (fun vs H Q E h => ?_) (fun cdv A outer s H vs Q E hr h => ?_)
  · obtain ⟨_, _, _, _, _, _, rfl, _⟩ := h
    rfl
  · obtain ⟨va, vb, A0, f, k, m, rfl, da, db, h10, oa, ob, hk, fin⟩ := h
    obtain ⟨a, xa, rfl, ha, dxa⟩ := da.inv
    have la : xa.length = A0.length := by rw [dxa.len, List.length_map]
    refine ⟨_, (pss_one (ps_ret (pe_callTy call_tupL (by rfl) T.n_tuple (by decide +kernel) (pa_cons (pe_lc (own := [("number", 2)]) (g := (gName 2)) (tt := tYes) (by rfl) sc_multiplied.nd (pi_tup (pv 0)) (blkOk_by (own := [("number", 2)]) (N := ["row", "factor", "number"]) (sc := defScope s_multiplied) (by decide +kernel)) (fun _ _ _ _ _ => (pg_name (i := 2) sc_multiplied.nd rfl (Or.inl rfl))) (fun _ _ _ _ _ => pts_nil) (fun _ _ _ _ _ => (pe_call (ok_timesB T) (hr.mono (by decide : 2 ≤ 2)) (by rfl) T.g_times T.times_F.kp T.times_b .nil pass0 (pa_cons (pv 2) (pa_cons (pv 1) pa_nil))))) pa_nil)))), ?_⟩
    refine ⟨_, rfl, a, rfl, ⟨_, ha.sq⟩, fun D hD => lc_it (walk_tup (K := K) (a := a) (xs := xa)) (fun i H' => Same H H' ∧ ∃ o, H' D = some (.lst o) ∧ DTs K H' o (((A0.map fun q => mulF q f).take i).map frD)) ⟨same_new hD, [], upd_same, .nil⟩ (fun i H' _ ⟨sm, _⟩ => (tp_same sm ha).sq) ?_ ?_⟩
    · rintro i x H2 H2' hi ⟨sm, o, hO, dO⟩ ⟨rfl, hx⟩
      obtain ⟨d1, e1, dx⟩ := dxa.get hx
      rw [List.getElem?_map] at e1
      obtain ⟨q1, g1, rfl⟩ := Option.map_eq_some_iff.mp e1
      refine ⟨rfl, ?_⟩
      dsimp only [tYes]
      rw [if_pos rfl]
      refine ⟨_, rfl, _, rfl, x, vb, q1, f, k, m, rfl, dx.same sm, db.same sm, oa q1 (List.mem_of_getElem? g1), ob, hk, fun v H4 s4 dv => ?_⟩
      have hO4 := s4 _ _ hO
      have lo : o.length ≤ 10 := by
        rw [dO.len, List.length_map, List.length_take, List.length_map]
        omega
      refine ⟨o, hO4, small1000 (by omega), same_mut (sm.trans s4) hD, o ++ [v], upd_same, ?_⟩
      have gz : (A0.map fun q => mulF q f)[i]? = some (mulF q1 f) := by rw [List.getElem?_map, g1]; rfl
      rw [take_next gz, List.map_append]
      exact ((dO.same s4).snoc dv).xt ⟨_, hO4⟩ Xt.upd
    · rintro H2 ⟨sm, o, hO, dO⟩
      rw [List.take_of_length_le (by rw [List.length_map]; omega)] at dO
      refine ⟨D, o, rfl, SqL.of hO, fun q hq => ?_⟩
      exact fin _ _ (sm.trans (same_new hq)) (.tup (Tp.of upd_same) (dO.same (same_new hq)))
def sp_idle (K : PySem.W.Frag) : Sp := fun vs H Q _ => ∃ (vps vl : V) (ps : List Pr) (l : Part), vs = [vps, vl] ∧ DT K H vps (pricesD ps) ∧ ps.length ≤ 10 ∧ DT K H vl l.D ∧ ∀ v H', Same H H' → DT K H' v (Told.pay (zeroF (ps.length + 1)) l).D → Q v H'
theorem ok__idle (T : Top w K mg) : FnOk P w K mg base CX0 1 T.a__idle T.d__idle ["prices", "left"] (sp_idle K) := by
  refine T._idle_F.ok sc__idle (fun vs H Q E h => ?_) (fun cdv A outer s H vs Q E hr h => ?_)
  · obtain ⟨_, _, _, _, rfl, _⟩ := h
    rfl
  · obtain ⟨vps, vl, ps, l, rfl, dps, h10, dl, fin⟩ := h
    obtain ⟨a, xa, rfl, ha, dxa⟩ := dps.inv
    have la : xa.length = ps.length := by rw [dxa.len, List.length_map]
    refine ⟨_, (pss_one (ps_ret (pe_tup (pa_cons pe_str (pa_cons (pe_op op_repK (pe_tup (pa_cons (pe_tup (pa_cons pe_int (pa_cons pe_int pa_nil))) pa_nil)) (pe_op op_add (pe_callB call_lenT (by rfl) T.n_len (by decide +kernel) (pa_cons (pv 0) pa_nil)) pe_int)) (pa_cons (pv 1) pa_nil)))))), ?_⟩
    refine ⟨two_le, fun p1 h1 => ⟨(by decide : 1 ≤ sizeLine), fun p2 h2 => ?_⟩⟩
    have s1 := same_new (o := .tup [V.int 0, V.int 1]) h1
    have s2 := s1.trans (same_new (o := .tup [V.ref p1]) h2)
    have d0 : DT K (upd (upd H p1 (.tup [V.int 0, V.int 1])) p2 (.tup [V.ref p1])) (.ref p1) (frD (0, 1)) := DT.fr (q := (0, 1)) (Tp.of (same_new h2 _ _ upd_same))
    refine ⟨_, rfl, a, xa, rfl, (tp_same s2 ha).sq, _, _, rfl, rfl, p2, _, _, rfl, rfl, Tp.of upd_same, by simp, by omega, by omega, (by decide : 1 ≤ 1000), fun q H3 s3 hq => ?_⟩
    refine ⟨_, rfl, (by decide : 3 ≤ sizeLine), fun p4 h4 => ?_⟩
    have s4 := same_new (o := .tup [V.str "pay", V.ref q, vl]) h4
    have en : ((xa.length : Int) + 1).toNat = ps.length + 1 := by omega
    rw [en] at hq
    refine fin _ _ ((s2.trans s3).trans s4) (DT.pay (Tp.of upd_same) (.tup (tp_same s4 hq) ?_) (((dl.same s2).same s3).same s4))
    have er : (List.replicate (ps.length + 1) [V.ref p1]).flatten = List.replicate (ps.length + 1) (V.ref p1) := by simp
    rw [er]
    unfold zeroF
    rw [List.map_replicate]
    exact dts_rep ((d0.same s3).same s4) _
end
end Nl

namespace Nl
open PySem PySem.Spec PyProof.Rows L2
section
variable {P : Program} {w : World} {K : PySem.W.Frag} {mg : Str → Option Value} {base : Heap}
/-- the face of a contract, asked at some prices -/
structure FaceP (K : PySem.W.Frag) (n : Nat) (vs : List V) (H : Hp) (Q : VK) (t : Int) (vps vc : V) (g : Int) (ps : List Pr) (c : Part) : Prop where
  vs : vs = [.int t, vps, vc]
  dps : DT K H vps (pricesD ps)
  dc : DT K H vc c.D
  po : PsOk g ps
  g1 : 1 ≤ g
  g4 : g ≤ 4
  fc : FC g c
  dep : c.depth ≤ n
  tb : tb c ≤ 7900
  fin : ∀ v H', Same H H' → DT K H' v (faceF ps t c).D → Q v H'
def sp_face (K : PySem.W.Frag) (n : Nat) : Sp := fun vs H Q _ => ∃ (t : Int) (vps vc : V) (g : Int) (ps : List Pr) (c : Part), FaceP K n vs H Q t vps vc g ps c
def sp_fx (K : PySem.W.Frag) (n : Nat) (x : Wd) : Sp := fun vs H Q _ => ∃ (t : Int) (vps vc : V) (g : Int) (ps : List Pr) (c : Part), FaceP K n vs H Q t vps vc g ps c ∧ c.wd = x
theorem FaceP.pl {K : PySem.W.Frag} {n : Nat} {vs : List V} {H : Hp} {Q : VK} {t : Int} {vps vc : V} {g : Int} {ps : List Pr} {c : Part} (h : FaceP K n vs H Q t vps vc g ps c) : ps.length ≤ 3 := by
  have := h.po.len
  have := h.g4
  omega
theorem fcd_one {g : Int} {c : Part} (h : FC g c) (e : c.wd = .one) : ∃ j, c = .p0 .one (.good j) ∧ 0 ≤ j ∧ j < g := by
  cases c with
  | p0 x l =>
    have e : x = .one := e
    subst e
    obtain ⟨h1, _, h3⟩ := h
    cases l with
    | good j => exact ⟨j, rfl, h3 j rfl⟩
    | _ => cases h1
  | p1 x l a =>
    have e : x = .one := e
    subst e
    obtain ⟨h1, _⟩ := h
    cases l <;> cases h1
  | p2 x l a b =>
    have e : x = .one := e
    subst e
    rcases h with ⟨h, _⟩ | ⟨h | h, _⟩ | ⟨h | h, _⟩ <;> cases h
theorem fcd_noth {g : Int} {c : Part} (h : FC g c) (e : c.wd = .nothing) : c = noth := by
  cases c with
  | p0 x l =>
    have e : x = .nothing := e
    subst e
    obtain ⟨h1, _, h3⟩ := h
    cases l with
    | non => rfl
    | _ => cases h1
  | p1 x l a =>
    have e : x = .nothing := e
    subst e
    obtain ⟨h1, _⟩ := h
    cases l <;> cases h1
  | p2 x l a b =>
    have e : x = .nothing := e
    subst e
    rcases h with ⟨h, _⟩ | ⟨h | h, _⟩ | ⟨h | h, _⟩ <;> cases h
theorem fcd_p1 {g : Int} {c : Part} {x : Wd} (h : FC g c) (e : c.wd = x) (hx : x = .give ∨ x = .later) : ∃ a, c = .p1 x .non a ∧ FC g a := by
  cases c with
  | p0 y l =>
    have e : y = x := e
    subst e
    obtain ⟨h1, _⟩ := h
    rcases hx with rfl | rfl <;> cases l <;> cases h1
  | p1 y l a =>
    have e : y = x := e
    subst e
    obtain ⟨h1, h2⟩ := h
    have : l = .non := by rcases hx with rfl | rfl <;> cases l <;> simp [Wd.kn, Lit.kn] at h1 ⊢
    exact ⟨a, by rw [this], h2⟩
  | p2 y l a b =>
    have e : y = x := e
    subst e
    rcases hx with rfl | rfl <;> rcases h with ⟨h, _⟩ | ⟨h | h, _⟩ | ⟨h | h, _⟩ <;> cases h
theorem fcd_t {g : Int} {c : Part} {x : Wd} (h : FC g c) (e : c.wd = x) (hx : x = .at_ ∨ x = .early) : ∃ i a, c = .p1 x (.time i) a ∧ FC g a := by
  cases c with
  | p0 y l =>
    have e : y = x := e
    subst e
    obtain ⟨h1, _⟩ := h
    rcases hx with rfl | rfl <;> cases l <;> cases h1
  | p1 y l a =>
    have e : y = x := e
    subst e
    obtain ⟨h1, h2⟩ := h
    cases l with
    | time i => exact ⟨i, a, rfl, h2⟩
    | _ => rcases hx with rfl | rfl <;> simp [Wd.kn, Lit.kn] at h1
  | p2 y l a b =>
    have e : y = x := e
    subst e
    rcases hx with rfl | rfl <;> rcases h with ⟨h, _⟩ | ⟨h | h, _⟩ | ⟨h | h, _⟩ <;> cases h
theorem fcd_2 {g : Int} {c : Part} {x : Wd} (h : FC g c) (e : c.wd = x) (hx : x = .scale ∨ x = .when_ ∨ x = .until_ ∨ x = .both ∨ x = .or_) : ∃ a b, c = .p2 x .non a b ∧ ((x = .scale ∧ ValG g a ∧ FC g b) ∨ ((x = .when_ ∨ x = .until_) ∧ CndG g a ∧ FC g b) ∨ ((x = .both ∨ x = .or_) ∧ FC g a ∧ FC g b)) := by
  cases c with
  | p0 y l =>
    have e : y = x := e
    subst e
    obtain ⟨h1, _⟩ := h
    rcases hx with rfl | rfl | rfl | rfl | rfl <;> cases l <;> cases h1
  | p1 y l a =>
    have e : y = x := e
    subst e
    obtain ⟨h1, h2⟩ := h
    rcases hx with rfl | rfl | rfl | rfl | rfl <;> cases l <;> simp [Wd.kn, Lit.kn] at h1
  | p2 y l a b =>
    have e : y = x := e
    subst e
    rcases h with ⟨h, rfl, h1, h2⟩ | ⟨h, rfl, h1, h2⟩ | ⟨h, rfl, h1, h2⟩
    · exact ⟨a, b, rfl, .inl ⟨h, h1, h2⟩⟩
    · exact ⟨a, b, rfl, .inr (.inl ⟨h, h1, h2⟩)⟩
    · exact ⟨a, b, rfl, .inr (.inr ⟨h, h1, h2⟩)⟩
theorem fx_nothing (T : Top w K mg) {k n : Nat} (hk : 4 ≤ k) (ih : FnOk P w K mg base CX0 k T.a_face T.d_face ["time", "prices", "contract"] (sp_face K n)) :
    FnOk P w K mg base CX0 (k + 1) T.a__face_nothing T.d__face_nothing ["_", "prices", "contract"] (sp_fx K (n + 1) .nothing) := by
  refine T._face_nothing_F.ok sc__face_nothing (fun vs H Q E h => ?_) (fun cdv A outer s H vs Q E hr h => ?_)
  · obtain ⟨_, _, _, _, _, _, h, _⟩ := h
    rw [h.vs]
    rfl
  · obtain ⟨t, vps, vc, g, ps, c, h, cw⟩ := h
    obtain ⟨rfl, dps, dc, po, g1, g4, fc, dep, tbc, fin⟩ := id h
    have pl := h.pl
    have ec := fcd_noth fc cw
    subst ec
    refine ⟨_, (pss_one (ps_ret (pe_call (ok__idle T) (hr.mono (by omega)) (by rfl) T.g__idle T._idle_F.kp T._idle_b .nil pass0 (pa_cons (pv 1) (pa_cons (pv 2) pa_nil))))), ?_⟩
    exact ⟨_, rfl, _, rfl, vps, vc, ps, noth, rfl, dps, by omega, dc, fun v H' s d => fin v H' s d⟩
theorem fx_one (T : Top w K mg) {k n : Nat} (hk : 4 ≤ k) (ih : FnOk P w K mg base CX0 k T.a_face T.d_face ["time", "prices", "contract"] (sp_face K n)) :
    FnOk P w K mg base CX0 (k + 1) T.a__face_one T.d__face_one ["_", "prices", "contract"] (sp_fx K (n + 1) .one) := by
  refine T._face_one_F.ok sc__face_one (fun vs H Q E h => ?_) (fun cdv A outer s H vs Q E hr h => ?_)
  · obtain ⟨_, _, _, _, _, _, h, _⟩ := h
    rw [h.vs]
    rfl
  · obtain ⟨t, vps, vc, g, ps, c, h, cw⟩ := h
    obtain ⟨rfl, dps, dc, po, g1, g4, fc, dep, tbc, fin⟩ := id h
    have pl := h.pl
    obtain ⟨j, rfl, j0, j1⟩ := fcd_one fc cw
    obtain ⟨ap, xp, rfl, hap, dxp⟩ := dps.inv
    have la : xp.length = ps.length := by rw [dxp.len, List.length_map]
    obtain ⟨a, ls, kv, rfl, ha, dl, dks⟩ := dc.part_inv
    obtain ⟨x0, rfl, dx0⟩ := dl.inv1
    cases dks
    cases dx0
    obtain ⟨j, rfl⟩ := Int.eq_ofNat_of_zero_le j0
    have plen := po.len
    refine ⟨_, (pss_cons (ps_set (i := 3) sc__face_one.nd rfl (Or.inl rfl) (pe_op op_rep (pe_lst (pa_cons (pe_tup (pa_cons pe_int (pa_cons pe_int pa_nil))) pa_nil)) (pe_op op_add (pe_callB call_lenT (by rfl) T.n_len (by decide +kernel) (pa_cons (pv 1) pa_nil)) pe_int)))
      (pss_cons (ps_asg (pe_tup (pa_cons pe_int (pa_cons pe_int pa_nil))) (pg_sub (pv 3) (pe_ix ix_tup (pv 2) pe_int (fun _ _ => rfl)) set_list))
      (pss_one (ps_ret (pe_tup (pa_cons pe_str (pa_cons (pe_callTy call_tupL (by rfl) T.n_tuple (by decide +kernel) (pa_cons (pv 3) pa_nil)) (pa_cons (pe_tup (pa_cons pe_str pa_nil)) pa_nil)))))))), ?_⟩
    refine ⟨two_le, fun p1 h1 => ⟨(by decide : 1 ≤ sizeLine), fun p2 h2 => ?_⟩⟩
    have s1 := same_new (o := .tup [V.int 0, V.int 1]) h1
    have s2 := s1.trans (same_new (o := .lst [V.ref p1]) h2)
    have d0 : DT K (upd (upd H p1 (.tup [V.int 0, V.int 1])) p2 (.lst [V.ref p1])) (.ref p1) (frD (0, 1)) := DT.fr (q := (0, 1)) (Tp.of (same_new h2 _ _ upd_same))
    refine ⟨_, rfl, ap, xp, rfl, (tp_same s2 hap).sq, _, _, rfl, rfl, p2, _, _, rfl, rfl, upd_same, by omega, by omega, ?_, fun p3 h3 => ?_⟩
    · have : ((xp.length : Int) + 1).toNat ≤ 4 := by omega
      exact Nat.le_trans (m := 4) (by simp only [List.length_cons, List.length_nil]; omega) (by decide)
    have en : ((xp.length : Int) + 1).toNat = ps.length + 1 := by omega
    rw [en]
    have er : (List.replicate (ps.length + 1) [V.ref p1]).flatten = List.replicate (ps.length + 1) (V.ref p1) := by simp
    rw [er]
    have s3 := same_new (o := .lst (List.replicate (ps.length + 1) (V.ref p1))) h3
    refine ⟨two_le, fun p4 h4 => ?_⟩
    have s4 := same_new (o := .tup [V.int 1, V.int 1]) h4
    have s234 := (s2.trans s3).trans s4
    have hL4 := s4 _ _ (show (upd (upd (upd H p1 (.tup [V.int 0, V.int 1])) p2 (.lst [V.ref p1])) p3 (.lst (List.replicate (ps.length + 1) (V.ref p1)))) p3 = some (.lst (List.replicate (ps.length + 1) (V.ref p1))) from upd_same)
    refine ⟨_, rfl, _, rfl, _, _, _, _, rfl, rfl, (tp_same s234 ha).sq, atI_nat (j := 1) rfl, p3, _, _, j, rfl, rfl, hL4, Evl.ixN_nat (by rw [List.length_replicate]; omega), ?_⟩
    have i4 : IsL (upd (upd (upd (upd H p1 (.tup [V.int 0, V.int 1])) p2 (.lst [V.ref p1])) p3 (.lst (List.replicate (ps.length + 1) (V.ref p1)))) p4 (.tup [V.int 1, V.int 1])) p3 := ⟨_, hL4⟩
    have n3 : H p3 = none := s2.free h3
    have sm5 := same_mut (o := .lst ((List.replicate (ps.length + 1) (V.ref p1)).set j (V.ref p4))) s234 n3
    refine ⟨_, rfl, p3, _, rfl, SqL.of upd_same, fun p6 h6 => ⟨(by decide : 1 ≤ sizeLine), fun p7 h7 => ⟨(by decide : 3 ≤ sizeLine), fun p8 h8 => ?_⟩⟩⟩
    have s6 := same_new (o := .tup ((List.replicate (ps.length + 1) (V.ref p1)).set j (V.ref p4))) h6
    have s7 := same_new (o := .tup [V.str Wd.nothing.str]) h7
    have s8 := same_new (o := .tup [V.str "pay", V.ref p6, V.ref p7]) h8
    have x5 : Xt p3 (upd (upd (upd (upd H p1 (.tup [V.int 0, V.int 1])) p2 (.lst [V.ref p1])) p3 (.lst (List.replicate (ps.length + 1) (V.ref p1)))) p4 (.tup [V.int 1, V.int 1])) (upd (upd (upd (upd (upd H p1 (.tup [V.int 0, V.int 1])) p2 (.lst [V.ref p1])) p3 (.lst (List.replicate (ps.length + 1) (V.ref p1)))) p4 (.tup [V.int 1, V.int 1])) p3 (.lst ((List.replicate (ps.length + 1) (V.ref p1)).set j (V.ref p4)))) := Xt.upd
    have up : ∀ {v : V} {d : PyData}, DT K (upd (upd (upd (upd H p1 (.tup [V.int 0, V.int 1])) p2 (.lst [V.ref p1])) p3 (.lst (List.replicate (ps.length + 1) (V.ref p1)))) p4 (.tup [V.int 1, V.int 1])) v d → DT K _ v d := fun h => (((h.xt i4 x5).same s6).same s7).same s8
    have d1 := up (DT.fr (q := (1, 1)) (Tp.of (show (upd (upd (upd (upd H p1 (.tup [V.int 0, V.int 1])) p2 (.lst [V.ref p1])) p3 (.lst (List.replicate (ps.length + 1) (V.ref p1)))) p4 (.tup [V.int 1, V.int 1])) p4 = _ from upd_same)))
    have d0' := up ((d0.same s3).same s4)
    refine fin _ _ (((sm5.trans s6).trans s7).trans s8) (DT.pay (Tp.of upd_same) (.tup (tp_same s8 (tp_same s7 (Tp.of upd_same))) ?_) (DT.p0n (x := .nothing) (tp_same s8 (Tp.of upd_same))))
    unfold oneF zeroF
    rw [Int.toNat_natCast, List.map_set, List.map_replicate]
    exact dts_set (dts_rep d0' _) d1
theorem fx_scale (T : Top w K mg) {k n : Nat} (hk : 4 ≤ k) (ih : FnOk P w K mg base CX0 k T.a_face T.d_face ["time", "prices", "contract"] (sp_face K n)) :
    FnOk P w K mg base CX0 (k + 1) T.a__face_scale T.d__face_scale ["time", "prices", "contract"] (sp_fx K (n + 1) .scale) := by
  refine T._face_scale_F.ok sc__face_scale (fun vs H Q E h => ?_) (fun cdv A outer s H vs Q E hr h => ?_)
  · obtain ⟨_, _, _, _, _, _, h, _⟩ := h
    rw [h.vs]
    rfl
  · obtain ⟨t, vps, vc, g, ps, c, h, cw⟩ := h
    obtain ⟨rfl, dps, dc, po, g1, g4, fc, dep, tbc, fin⟩ := id h
    have pl := h.pl
    obtain ⟨a, b, rfl, hh⟩ := fcd_2 fc cw (.inl rfl)
    obtain ⟨_, va, fb⟩ : Wd.scale = Wd.scale ∧ ValG g a ∧ FC g b := by
      rcases hh with h | ⟨h | h, _⟩ | ⟨h | h, _⟩
      · exact h
      all_goals cases h
    obtain ⟨ac, ls, kv, rfl, hac, dl, dks⟩ := dc.part_inv
    cases dl
    obtain ⟨y1, y2, rfl, d1, d2⟩ := dks.inv2
    obtain ⟨wv, ov⟩ := wo_val va po
    have dep : 1 + max a.depth b.depth ≤ n + 1 := dep
    have tbc : tb b + 404 ≤ 7900 := tbc
    have fo := face_ok po t b fb
    refine ⟨_, (pss_cons (ps_asg (pv 2) (pg_tup rfl (pgs_cons (pg_name (i := 3) sc__face_scale.nd rfl (Or.inl rfl)) (pgs_cons (pg_name (i := 4) sc__face_scale.nd rfl (Or.inl rfl)) (pgs_cons (pg_name (i := 5) sc__face_scale.nd rfl (Or.inl rfl)) pgs_nil)))))
      (pss_cons (ps_set (i := 6) sc__face_scale.nd rfl (Or.inl rfl) (pe_call ih (hr.mono (by omega)) (by rfl) T.g_face T.face_F.kp T.face_b .nil pass0 (pa_cons (pv 0) (pa_cons (pv 1) (pa_cons (pv 5) pa_nil)))))
      (pss_cons (ps_if (pt_cmpR op_eq (pe_ix ix_tup (pv 6) pe_int (fun _ _ => rfl)) pe_str (nomark _)) (pss_one (ps_ret (pe_tup (pa_cons pe_str (pa_cons (pe_ix ix_tup (pv 6) pe_int (fun _ _ => rfl)) (pa_cons (pe_tup (pa_cons pe_str (pa_cons (pv 4) (pa_cons (pe_ix ix_tup (pv 6) pe_int (fun _ _ => rfl)) pa_nil)))) (pa_cons (pe_tup (pa_cons pe_str (pa_cons (pv 4) (pa_cons (pe_ix ix_tup (pv 6) pe_int (fun _ _ => rfl)) pa_nil)))) pa_nil))))))) pss_nil)
      (pss_cons (ps_set (i := 7) sc__face_scale.nd rfl (Or.inl rfl) (pe_call (ok__worked_out T) (hr.mono (by omega)) (by rfl) T.g__worked_out T._worked_out_F.kp T._worked_out_b .nil pass0 (pa_cons (pv 1) (pa_cons (pv 4) pa_nil))))
      (pss_one (ps_ret (pe_tup (pa_cons pe_str (pa_cons (pe_call (ok_multiplied T) (hr.mono (by omega)) (by rfl) T.g_multiplied T.multiplied_F.kp T.multiplied_b .nil pass0 (pa_cons (pe_ix ix_tup (pv 6) pe_int (fun _ _ => rfl)) (pa_cons (pv 7) pa_nil))) (pa_cons (pe_tup (pa_cons pe_str (pa_cons (pe_tup (pa_cons pe_str (pa_cons (pv 7) pa_nil))) (pa_cons (pe_ix ix_tup (pv 6) pe_int (fun _ _ => rfl)) pa_nil)))) pa_nil)))))))))), ?_⟩
    refine ⟨_, rfl, _, _, rfl, hac.sq, rfl, _, _, rfl, _, _, rfl, _, _, rfl, rfl, ?_⟩
    refine ⟨_, rfl, _, rfl, _, rfl, t, vps, y2, g, ps, b, ⟨rfl, dps, d2, po, g1, g4, fb, by omega, by omega, fun vt H1 s1 dt => ?_⟩⟩
    have ef : faceF ps t (.p2 .scale .non a b) = (match faceF ps t b with
      | .ask h c d => .ask h (.p2 .scale .non a c) (.p2 .scale .non a d)
      | .pay am r => .pay (am.map fun q => mulF q (evV ps a)) (.p2 .scale .non (.p0 .number (.size (evV ps a))) r)) := rfl
    rw [ef] at fin
    cases e : faceF ps t b with
    | ask sd c d =>
      rw [e] at dt fin
      obtain ⟨at', x, y, rfl, hat, dx, dy⟩ := dt.ask_inv
      refine ⟨_, rfl, _, _, _, _, rfl, rfl, hat.sq, atI_nat (j := 0) rfl, rfl, _, rfl, if_true_of' ask_ask ?_⟩
      refine ⟨_, rfl, _, _, _, _, rfl, rfl, hat.sq, atI_nat (j := 1) rfl, _, rfl, _, rfl, _, _, _, _, rfl, rfl, hat.sq, atI_nat (j := 2) rfl, (by decide : 3 ≤ sizeLine), fun p1 h1 => ?_⟩
      have t1 := same_new (o := .tup [V.str Wd.scale.str, y1, x]) h1
      refine ⟨_, rfl, _, rfl, _, _, _, _, rfl, rfl, (tp_same t1 hat).sq, atI_nat (j := 3) rfl, (by decide : 3 ≤ sizeLine), fun p2 h2 => ⟨(by decide : 4 ≤ sizeLine), fun p3 h3 => ?_⟩⟩
      have t2 := same_new (o := .tup [V.str Wd.scale.str, y1, y]) h2
      have t3 := same_new (o := .tup [V.str "ask", V.str (sideS sd), V.ref p1, V.ref p2]) h3
      have d1' := (d1.same s1)
      exact fin _ _ (((s1.trans t1).trans t2).trans t3) (DT.ask (Tp.of upd_same) (DT.p2n (x := .scale) (tp_same t3 (tp_same t2 (Tp.of upd_same))) (((d1'.same t1).same t2).same t3) (((dx.same t1).same t2).same t3)) (DT.p2n (x := .scale) (tp_same t3 (Tp.of upd_same)) (((d1'.same t1).same t2).same t3) (((dy.same t1).same t2).same t3)))
    | pay am r =>
      rw [e] at dt fin fo
      obtain ⟨f1, f2, f3, f4⟩ := fo.fc
      obtain ⟨at', x, y, rfl, hat, dx, dy⟩ := dt.pay_inv
      refine ⟨_, rfl, _, _, _, _, rfl, rfl, hat.sq, atI_nat (j := 0) rfl, rfl, _, rfl, if_false_of' pay_ask ?_⟩
      refine ⟨_, rfl, _, rfl, vps, y1, ps, a, rfl, dps.same s1, d1.same s1, wv, fun vf H2 s2 df => ?_⟩
      rw [evD_val va.cls] at df
      refine ⟨_, rfl, _, _, _, _, rfl, rfl, (tp_same s2 hat).sq, atI_nat (j := 1) rfl, _, rfl, x, vf, am, evV ps a, tb b, 404, rfl, dx.same s2, df, by omega, f2, ov, by omega, fun va' H3 s3 dm => ?_⟩
      refine ⟨_, rfl, two_le, fun p1 h1 => ?_⟩
      have t1 := same_new (o := .tup [V.str Wd.number.str, vf]) h1
      refine ⟨_, rfl, _, _, _, _, rfl, rfl, (tp_same t1 (tp_same s3 (tp_same s2 hat))).sq, atI_nat (j := 2) rfl, (by decide : 3 ≤ sizeLine), fun p2 h2 => ⟨(by decide : 3 ≤ sizeLine), fun p3 h3 => ?_⟩⟩
      have t2 := same_new (o := .tup [V.str Wd.scale.str, V.ref p1, y]) h2
      have t3 := same_new (o := .tup [V.str "pay", va', V.ref p2]) h3
      have t123 := (t1.trans t2).trans t3
      exact fin _ _ (((s1.trans s2).trans s3).trans t123) (DT.pay (Tp.of upd_same) (dm.same t123) (DT.p2n (x := .scale) (tp_same t3 (Tp.of upd_same)) (DT.p0s (x := .number) (tp_same t3 (tp_same t2 (Tp.of upd_same))) ((df.same s3).same t123)) (((dy.same s2).same s3).same t123)))
theorem fx_both (T : Top w K mg) {k n : Nat} (hk : 4 ≤ k) (ih : FnOk P w K mg base CX0 k T.a_face T.d_face ["time", "prices", "contract"] (sp_face K n)) :
    FnOk P w K mg base CX0 (k + 1) T.a__face_both T.d__face_both ["time", "prices", "contract"] (sp_fx K (n + 1) .both) := by
  refine T._face_both_F.ok sc__face_both (fun vs H Q E h => ?_) (fun cdv A outer s H vs Q E hr h => ?_)
  · obtain ⟨_, _, _, _, _, _, h, _⟩ := h
    rw [h.vs]
    rfl
  · obtain ⟨t, vps, vc, g, ps, c, h, cw⟩ := h
    obtain ⟨rfl, dps, dc, po, g1, g4, fc, dep, tbc, fin⟩ := id h
    have pl := h.pl
    obtain ⟨a, b, rfl, hh⟩ := fcd_2 fc cw (.inr (.inr (.inr (.inl rfl))))
    obtain ⟨fa, fb⟩ : FC g a ∧ FC g b := by
      rcases hh with ⟨h, _⟩ | ⟨h | h, _⟩ | ⟨_, h⟩
      · cases h
      · cases h
      · cases h
      · exact h
    obtain ⟨ac, ls, kv, rfl, hac, dl, dks⟩ := dc.part_inv
    cases dl
    obtain ⟨y1, y2, rfl, d1, d2⟩ := dks.inv2
    have dep : 1 + max a.depth b.depth ≤ n + 1 := dep
    have tbc : tb a + tb b + 1 ≤ 7900 := tbc
    have foa := face_ok po t a fa
    have fob := face_ok po t b fb
    refine ⟨_, (pss_cons (ps_asg (pv 2) (pg_tup rfl (pgs_cons (pg_name (i := 3) sc__face_both.nd rfl (Or.inl rfl)) (pgs_cons (pg_name (i := 4) sc__face_both.nd rfl (Or.inl rfl)) (pgs_cons (pg_name (i := 5) sc__face_both.nd rfl (Or.inl rfl)) pgs_nil)))))
      (pss_cons (ps_set (i := 6) sc__face_both.nd rfl (Or.inl rfl) (pe_call ih (hr.mono (by omega)) (by rfl) T.g_face T.face_F.kp T.face_b .nil pass0 (pa_cons (pv 0) (pa_cons (pv 1) (pa_cons (pv 4) pa_nil)))))
      (pss_cons (ps_if (pt_cmpR op_eq (pe_ix ix_tup (pv 6) pe_int (fun _ _ => rfl)) pe_str (nomark _)) (pss_one (ps_ret (pe_tup (pa_cons pe_str (pa_cons (pe_ix ix_tup (pv 6) pe_int (fun _ _ => rfl)) (pa_cons (pe_tup (pa_cons pe_str (pa_cons (pe_ix ix_tup (pv 6) pe_int (fun _ _ => rfl)) (pa_cons (pv 5) pa_nil)))) (pa_cons (pe_tup (pa_cons pe_str (pa_cons (pe_ix ix_tup (pv 6) pe_int (fun _ _ => rfl)) (pa_cons (pv 5) pa_nil)))) pa_nil))))))) pss_nil)
      (pss_cons (ps_set (i := 7) sc__face_both.nd rfl (Or.inl rfl) (pe_call ih (hr.mono (by omega)) (by rfl) T.g_face T.face_F.kp T.face_b .nil pass0 (pa_cons (pv 0) (pa_cons (pv 1) (pa_cons (pv 5) pa_nil)))))
      (pss_cons (ps_if (pt_cmpR op_eq (pe_ix ix_tup (pv 7) pe_int (fun _ _ => rfl)) pe_str (nomark _)) (pss_one (ps_ret (pe_tup (pa_cons pe_str (pa_cons (pe_ix ix_tup (pv 7) pe_int (fun _ _ => rfl)) (pa_cons (pe_tup (pa_cons pe_str (pa_cons (pv 4) (pa_cons (pe_ix ix_tup (pv 7) pe_int (fun _ _ => rfl)) pa_nil)))) (pa_cons (pe_tup (pa_cons pe_str (pa_cons (pv 4) (pa_cons (pe_ix ix_tup (pv 7) pe_int (fun _ _ => rfl)) pa_nil)))) pa_nil))))))) pss_nil)
      (pss_one (ps_ret (pe_tup (pa_cons pe_str (pa_cons (pe_call (ok_added T) (hr.mono (by omega)) (by rfl) T.g_added T.added_F.kp T.added_b .nil pass0 (pa_cons (pe_ix ix_tup (pv 6) pe_int (fun _ _ => rfl)) (pa_cons (pe_ix ix_tup (pv 7) pe_int (fun _ _ => rfl)) pa_nil))) (pa_cons (pe_tup (pa_cons pe_str (pa_cons (pe_ix ix_tup (pv 6) pe_int (fun _ _ => rfl)) (pa_cons (pe_ix ix_tup (pv 7) pe_int (fun _ _ => rfl)) pa_nil)))) pa_nil))))))))))), ?_⟩
    refine ⟨_, rfl, _, _, rfl, hac.sq, rfl, _, _, rfl, _, _, rfl, _, _, rfl, rfl, ?_⟩
    refine ⟨_, rfl, _, rfl, _, rfl, t, vps, y1, g, ps, a, ⟨rfl, dps, d1, po, g1, g4, fa, by omega, by omega, fun vt H1 s1 dt => ?_⟩⟩
    have ef : faceF ps t (.p2 .both .non a b) = (match faceF ps t a with
      | .ask h c d => .ask h (.p2 .both .non c b) (.p2 .both .non d b)
      | .pay am r => match faceF ps t b with
        | .ask h c d => .ask h (.p2 .both .non a c) (.p2 .both .non a d)
        | .pay am' r' => .pay (List.zipWith addF am am') (.p2 .both .non r r')) := rfl
    rw [ef] at fin
    cases e : faceF ps t a with
    | ask sd c d =>
      rw [e] at dt fin
      obtain ⟨at', x, y, rfl, hat, dx, dy⟩ := dt.ask_inv
      refine ⟨_, rfl, _, _, _, _, rfl, rfl, hat.sq, atI_nat (j := 0) rfl, rfl, _, rfl, if_true_of' ask_ask ?_⟩
      refine ⟨_, rfl, _, _, _, _, rfl, rfl, hat.sq, atI_nat (j := 1) rfl, _, rfl, _, _, _, _, rfl, rfl, hat.sq, atI_nat (j := 2) rfl, _, rfl, (by decide : 3 ≤ sizeLine), fun p1 h1 => ?_⟩
      have t1 := same_new (o := .tup [V.str Wd.both.str, x, y2]) h1
      refine ⟨_, rfl, _, _, _, _, rfl, rfl, (tp_same t1 hat).sq, atI_nat (j := 3) rfl, _, rfl, (by decide : 3 ≤ sizeLine), fun p2 h2 => ⟨(by decide : 4 ≤ sizeLine), fun p3 h3 => ?_⟩⟩
      have t2 := same_new (o := .tup [V.str Wd.both.str, y, y2]) h2
      have t3 := same_new (o := .tup [V.str "ask", V.str (sideS sd), V.ref p1, V.ref p2]) h3
      have d2' := (d2.same s1)
      exact fin _ _ (((s1.trans t1).trans t2).trans t3) (DT.ask (Tp.of upd_same) (DT.p2n (x := .both) (tp_same t3 (tp_same t2 (Tp.of upd_same))) (((dx.same t1).same t2).same t3) (((d2'.same t1).same t2).same t3)) (DT.p2n (x := .both) (tp_same t3 (Tp.of upd_same)) (((dy.same t1).same t2).same t3) (((d2'.same t1).same t2).same t3)))
    | pay am r =>
      rw [e] at dt fin foa
      obtain ⟨f1, f2, f3, f4⟩ := foa.fc
      obtain ⟨at', x, y, rfl, hat, dx, dy⟩ := dt.pay_inv
      refine ⟨_, rfl, _, _, _, _, rfl, rfl, hat.sq, atI_nat (j := 0) rfl, rfl, _, rfl, if_false_of' pay_ask ?_⟩
      refine ⟨_, rfl, _, rfl, _, rfl, t, vps, y2, g, ps, b, ⟨rfl, dps.same s1, d2.same s1, po, g1, g4, fb, by omega, by omega, fun vt2 H2 s2 dt2 => ?_⟩⟩
      have hat2 := tp_same s2 hat
      dsimp only at fin
      cases e' : faceF ps t b with
      | ask sd c d =>
        rw [e'] at dt2 fin
        obtain ⟨au, x2, y2', rfl, hau, dx2, dy2⟩ := dt2.ask_inv
        refine ⟨_, rfl, _, _, _, _, rfl, rfl, hau.sq, atI_nat (j := 0) rfl, rfl, _, rfl, if_true_of' ask_ask ?_⟩
        refine ⟨_, rfl, _, _, _, _, rfl, rfl, hau.sq, atI_nat (j := 1) rfl, _, rfl, _, rfl, _, _, _, _, rfl, rfl, hau.sq, atI_nat (j := 2) rfl, (by decide : 3 ≤ sizeLine), fun p1 h1 => ?_⟩
        have t1 := same_new (o := .tup [V.str Wd.both.str, y1, x2]) h1
        refine ⟨_, rfl, _, rfl, _, _, _, _, rfl, rfl, (tp_same t1 hau).sq, atI_nat (j := 3) rfl, (by decide : 3 ≤ sizeLine), fun p2 h2 => ⟨(by decide : 4 ≤ sizeLine), fun p3 h3 => ?_⟩⟩
        have t2 := same_new (o := .tup [V.str Wd.both.str, y1, y2']) h2
        have t3 := same_new (o := .tup [V.str "ask", V.str (sideS sd), V.ref p1, V.ref p2]) h3
        have d1' := (d1.same s1).same s2
        exact fin _ _ ((((s1.trans s2).trans t1).trans t2).trans t3) (DT.ask (Tp.of upd_same) (DT.p2n (x := .both) (tp_same t3 (tp_same t2 (Tp.of upd_same))) (((d1'.same t1).same t2).same t3) (((dx2.same t1).same t2).same t3)) (DT.p2n (x := .both) (tp_same t3 (Tp.of upd_same)) (((d1'.same t1).same t2).same t3) (((dy2.same t1).same t2).same t3)))
      | pay am' r' =>
        rw [e'] at dt2 fin fob
        obtain ⟨k1, k2, k3, k4⟩ := fob.fc
        obtain ⟨au, x2, y2', rfl, hau, dx2, dy2⟩ := dt2.pay_inv
        refine ⟨_, rfl, _, _, _, _, rfl, rfl, hau.sq, atI_nat (j := 0) rfl, rfl, _, rfl, if_false_of' pay_ask ?_⟩
        refine ⟨_, rfl, _, _, _, _, rfl, rfl, hat2.sq, atI_nat (j := 1) rfl, _, rfl, _, _, _, _, rfl, rfl, hau.sq, atI_nat (j := 1) rfl, x, x2, am, am', tb a, tb b, rfl, dx.same s2, dx2, by omega, by omega, f2, k2, by omega, fun va' H3 s3 dm => ?_⟩
        refine ⟨_, rfl, _, _, _, _, rfl, rfl, (tp_same s3 hat2).sq, atI_nat (j := 2) rfl, _, rfl, _, _, _, _, rfl, rfl, (tp_same s3 hau).sq, atI_nat (j := 2) rfl, (by decide : 3 ≤ sizeLine), fun p2 h2 => ⟨(by decide : 3 ≤ sizeLine), fun p3 h3 => ?_⟩⟩
        have t2 := same_new (o := .tup [V.str Wd.both.str, y, y2']) h2
        have t3 := same_new (o := .tup [V.str "pay", va', V.ref p2]) h3
        exact fin _ _ ((((s1.trans s2).trans s3).trans t2).trans t3) (DT.pay (Tp.of upd_same) ((dm.same t2).same t3) (DT.p2n (x := .both) (tp_same t3 (Tp.of upd_same)) ((((dy.same s2).same s3).same t2).same t3) (((dy2.same s3).same t2).same t3)))
end
end Nl

namespace Nl
open PySem PySem.Spec PyProof.Rows L2
section
variable {P : Program} {w : World} {K : PySem.W.Frag} {mg : Str → Option Value} {base : Heap}
theorem fx_give (T : Top w K mg) {k n : Nat} (hk : 4 ≤ k) (ih : FnOk P w K mg base CX0 k T.a_face T.d_face ["time", "prices", "contract"] (sp_face K n)) :
    FnOk P w K mg base CX0 (k + 1) T.a__face_give T.d__face_give ["time", "prices", "contract"] (sp_fx K (n + 1) .give) := by
  refine T._face_give_F.ok sc__face_give (fun vs H Q E h => ?_) (fun cdv A outer s H vs Q E hr h => ?_)
  · obtain ⟨_, _, _, _, _, _, h, _⟩ := h
    rw [h.vs]
    rfl
  · obtain ⟨t, vps, vc, g, ps, c, h, cw⟩ := h
    obtain ⟨rfl, dps, dc, po, g1, g4, fc, dep, tbc, fin⟩ := id h
    have pl := h.pl
    obtain ⟨a, rfl, fa⟩ := fcd_p1 fc cw (.inl rfl)
    obtain ⟨ac, ls, kv, rfl, hac, dl, dks⟩ := dc.part_inv
    cases dl
    obtain ⟨y1, rfl, d1⟩ := dks.inv1
    have dep : 1 + a.depth ≤ n + 1 := dep
    have tbc : tb a ≤ 7900 := tbc
    have foa := face_ok po t a fa
    refine ⟨_, (pss_cons (ps_set (i := 3) sc__face_give.nd rfl (Or.inl rfl) (pe_call ih (hr.mono (by omega)) (by rfl) T.g_face T.face_F.kp T.face_b .nil pass0 (pa_cons (pv 0) (pa_cons (pv 1) (pa_cons (pe_ix ix_tup (pv 2) pe_int (fun _ _ => rfl)) pa_nil)))))
      (pss_cons (ps_if (pt_cmpR op_eq (pe_ix ix_tup (pv 3) pe_int (fun _ _ => rfl)) pe_str (nomark _)) (pss_cons (ps_set (i := 4) sc__face_give.nd rfl (Or.inl rfl) (pe_ifExp (pt_cmpR op_eq (pe_ix ix_tup (pv 3) pe_int (fun _ _ => rfl)) pe_str (nomark _)) pe_str pe_str))
      (pss_one (ps_ret (pe_tup (pa_cons pe_str (pa_cons (pv 4) (pa_cons (pe_tup (pa_cons pe_str (pa_cons (pe_ix ix_tup (pv 3) pe_int (fun _ _ => rfl)) pa_nil))) (pa_cons (pe_tup (pa_cons pe_str (pa_cons (pe_ix ix_tup (pv 3) pe_int (fun _ _ => rfl)) pa_nil))) pa_nil)))))))) pss_nil)
      (pss_one (ps_ret (pe_tup (pa_cons pe_str (pa_cons (pe_call (ok_multiplied T) (hr.mono (by omega)) (by rfl) T.g_multiplied T.multiplied_F.kp T.multiplied_b .nil pass0 (pa_cons (pe_ix ix_tup (pv 3) pe_int (fun _ _ => rfl)) (pa_cons (pe_tup (pa_cons (pe_un un_neg pe_int) (pa_cons pe_int pa_nil))) pa_nil))) (pa_cons (pe_tup (pa_cons pe_str (pa_cons (pe_ix ix_tup (pv 3) pe_int (fun _ _ => rfl)) pa_nil))) pa_nil)))))))), ?_⟩
    refine ⟨_, rfl, _, rfl, _, rfl, _, _, _, _, rfl, rfl, hac.sq, atI_nat (j := 1) rfl, t, vps, y1, g, ps, a, ⟨rfl, dps, d1, po, g1, g4, fa, by omega, by omega, fun vt H1 s1 dt => ?_⟩⟩
    have ef : faceF ps t (.p1 .give .non a) = (match faceF ps t a with
      | .ask h c d => .ask (!h) (.p1 .give .non c) (.p1 .give .non d)
      | .pay am r => .pay (am.map negF) (.p1 .give .non r)) := rfl
    rw [ef] at fin
    cases e : faceF ps t a with
    | ask sd c d =>
      rw [e] at dt fin
      obtain ⟨at', x, y, rfl, hat, dx, dy⟩ := dt.ask_inv
      refine ⟨_, rfl, _, _, _, _, rfl, rfl, hat.sq, atI_nat (j := 0) rfl, rfl, _, rfl, if_true_of' ask_ask ?_⟩
      cases sd with
      | true =>
        refine ⟨_, rfl, _, _, _, _, rfl, rfl, hat.sq, atI_nat (j := 1) rfl, rfl, _, rfl, if_true_of' (side_h true) ?_⟩
        refine ⟨_, rfl, _, rfl, _, _, _, _, rfl, rfl, hat.sq, atI_nat (j := 2) rfl, two_le, fun p1 h1 => ?_⟩
        have t1 := same_new (o := .tup [V.str Wd.give.str, x]) h1
        refine ⟨_, rfl, _, _, _, _, rfl, rfl, (tp_same t1 hat).sq, atI_nat (j := 3) rfl, two_le, fun p2 h2 => ⟨(by decide : 4 ≤ sizeLine), fun p3 h3 => ?_⟩⟩
        have t2 := same_new (o := .tup [V.str Wd.give.str, y]) h2
        have t3 := same_new (o := .tup [V.str "ask", V.str (sideS false), V.ref p1, V.ref p2]) h3
        exact fin _ _ (((s1.trans t1).trans t2).trans t3) (DT.ask (h := false) (Tp.of upd_same) (DT.p1n (x := .give) (tp_same t3 (tp_same t2 (Tp.of upd_same))) (((dx.same t1).same t2).same t3)) (DT.p1n (x := .give) (tp_same t3 (Tp.of upd_same)) (((dy.same t1).same t2).same t3)))
      | false =>
        refine ⟨_, rfl, _, _, _, _, rfl, rfl, hat.sq, atI_nat (j := 1) rfl, rfl, _, rfl, if_false_of' (side_h false) ?_⟩
        refine ⟨_, rfl, _, rfl, _, _, _, _, rfl, rfl, hat.sq, atI_nat (j := 2) rfl, two_le, fun p1 h1 => ?_⟩
        have t1 := same_new (o := .tup [V.str Wd.give.str, x]) h1
        refine ⟨_, rfl, _, _, _, _, rfl, rfl, (tp_same t1 hat).sq, atI_nat (j := 3) rfl, two_le, fun p2 h2 => ⟨(by decide : 4 ≤ sizeLine), fun p3 h3 => ?_⟩⟩
        have t2 := same_new (o := .tup [V.str Wd.give.str, y]) h2
        have t3 := same_new (o := .tup [V.str "ask", V.str (sideS true), V.ref p1, V.ref p2]) h3
        exact fin _ _ (((s1.trans t1).trans t2).trans t3) (DT.ask (h := true) (Tp.of upd_same) (DT.p1n (x := .give) (tp_same t3 (tp_same t2 (Tp.of upd_same))) (((dx.same t1).same t2).same t3)) (DT.p1n (x := .give) (tp_same t3 (Tp.of upd_same)) (((dy.same t1).same t2).same t3)))
    | pay am r =>
      rw [e] at dt fin foa
      obtain ⟨f1, f2, f3, f4⟩ := foa.fc
      obtain ⟨at', x, y, rfl, hat, dx, dy⟩ := dt.pay_inv
      refine ⟨_, rfl, _, _, _, _, rfl, rfl, hat.sq, atI_nat (j := 0) rfl, rfl, _, rfl, if_false_of' pay_ask ?_⟩
      refine ⟨_, rfl, _, _, _, _, rfl, rfl, hat.sq, atI_nat (j := 1) rfl, _, rfl, two_le, fun p0 h0 => ?_⟩
      have t0 := same_new (o := .tup [V.int (-1), V.int 1]) h0
      have p1 := tb_pos a
      refine ⟨x, .ref p0, am, (-1, 1), tb a, 1, rfl, dx.same t0, DT.fr (q := (-1, 1)) (Tp.of upd_same), by omega, f2, ok_m1 (Nat.le_refl _), by omega, fun va' H3 s3 dm => ?_⟩
      have t03 := t0.trans s3
      refine ⟨_, rfl, _, _, _, _, rfl, rfl, (tp_same t03 hat).sq, atI_nat (j := 2) rfl, two_le, fun p2 h2 => ⟨(by decide : 3 ≤ sizeLine), fun p3 h3 => ?_⟩⟩
      have t2 := same_new (o := .tup [V.str Wd.give.str, y]) h2
      have t3 := same_new (o := .tup [V.str "pay", va', V.ref p2]) h3
      exact fin _ _ (((s1.trans t03).trans t2).trans t3) (DT.pay (Tp.of upd_same) ((dm.same t2).same t3) (DT.p1n (x := .give) (tp_same t3 (Tp.of upd_same)) (((dy.same t03).same t2).same t3)))
theorem fx_or (T : Top w K mg) {k n : Nat} (hk : 4 ≤ k) (ih : FnOk P w K mg base CX0 k T.a_face T.d_face ["time", "prices", "contract"] (sp_face K n)) :
    FnOk P w K mg base CX0 (k + 1) T.a__face_or T.d__face_or ["_", "prices", "contract"] (sp_fx K (n + 1) .or_) := by
  refine T._face_or_F.ok sc__face_or (fun vs H Q E h => ?_) (fun cdv A outer s H vs Q E hr h => ?_)
  · obtain ⟨_, _, _, _, _, _, h, _⟩ := h
    rw [h.vs]
    rfl
  · obtain ⟨t, vps, vc, g, ps, c, h, cw⟩ := h
    obtain ⟨rfl, dps, dc, po, g1, g4, fc, dep, tbc, fin⟩ := id h
    have pl := h.pl
    obtain ⟨a, b, rfl, hh⟩ := fcd_2 fc cw (.inr (.inr (.inr (.inr rfl))))
    obtain ⟨ac, ls, kv, rfl, hac, dl, dks⟩ := dc.part_inv
    cases dl
    obtain ⟨y1, y2, rfl, d1, d2⟩ := dks.inv2
    refine ⟨_, (pss_one (ps_ret (pe_tup (pa_cons pe_str (pa_cons pe_str (pa_cons (pe_ix ix_tup (pv 2) pe_int (fun _ _ => rfl)) (pa_cons (pe_ix ix_tup (pv 2) pe_int (fun _ _ => rfl)) pa_nil))))))), ?_⟩
    refine ⟨_, rfl, _, _, _, _, rfl, rfl, hac.sq, atI_nat (j := 1) rfl, _, rfl, _, _, _, _, rfl, rfl, hac.sq, atI_nat (j := 2) rfl, (by decide : 4 ≤ sizeLine), fun p3 h3 => ?_⟩
    have t3 := same_new (o := .tup [V.str "ask", V.str (sideS true), y1, y2]) h3
    exact fin _ _ t3 (DT.ask (h := true) (Tp.of upd_same) (d1.same t3) (d2.same t3))
theorem fx_at (T : Top w K mg) {k n : Nat} (hk : 4 ≤ k) (ih : FnOk P w K mg base CX0 k T.a_face T.d_face ["time", "prices", "contract"] (sp_face K n)) :
    FnOk P w K mg base CX0 (k + 1) T.a__face_at T.d__face_at ["time", "prices", "contract"] (sp_fx K (n + 1) .at_) := by
  refine T._face_at_F.ok sc__face_at (fun vs H Q E h => ?_) (fun cdv A outer s H vs Q E hr h => ?_)
  · obtain ⟨_, _, _, _, _, _, h, _⟩ := h
    rw [h.vs]
    rfl
  · obtain ⟨t, vps, vc, g, ps, c, h, cw⟩ := h
    obtain ⟨rfl, dps, dc, po, g1, g4, fc, dep, tbc, fin⟩ := id h
    have pl := h.pl
    obtain ⟨i, a, rfl, fa⟩ := fcd_t fc cw (.inl rfl)
    obtain ⟨ac, ls, kv, rfl, hac, dl, dks⟩ := id dc.part_inv
    obtain ⟨x0, rfl, dx0⟩ := dl.inv1
    cases dx0
    obtain ⟨y1, rfl, d1⟩ := dks.inv1
    have dep : 1 + a.depth ≤ n + 1 := dep
    have tbc : tb a ≤ 7900 := tbc
    have ef : faceF ps t (.p1 .at_ (.time i) a) = (if t = i then faceF ps t a else if t < i then .pay (zeroF (ps.length + 1)) (.p1 .at_ (.time i) a) else .pay (zeroF (ps.length + 1)) noth) := rfl
    rw [ef] at fin
    refine ⟨_, (pss_cons (ps_asg (pv 2) (pg_tup rfl (pgs_cons (pg_name (i := 3) sc__face_at.nd rfl (Or.inl rfl)) (pgs_cons (pg_name (i := 4) sc__face_at.nd rfl (Or.inl rfl)) (pgs_cons (pg_name (i := 5) sc__face_at.nd rfl (Or.inl rfl)) pgs_nil)))))
      (pss_cons (ps_if (pt_cmpR op_eq (pv 0) (pv 4) (nomark _)) (pss_one (ps_ret (pe_call ih (hr.mono (by omega)) (by rfl) T.g_face T.face_F.kp T.face_b .nil pass0 (pa_cons (pv 0) (pa_cons (pv 1) (pa_cons (pv 5) pa_nil)))))) pss_nil)
      (pss_one (ps_ret (pe_call (ok__idle T) (hr.mono (by omega)) (by rfl) T.g__idle T._idle_F.kp T._idle_b .nil pass0 (pa_cons (pv 1) (pa_cons (pe_ifExp (pt_cmpR op_lt (pv 0) (pv 4) (nomark _)) (pv 2) (pe_tup (pa_cons pe_str pa_nil))) pa_nil))))))), ?_⟩
    refine ⟨_, rfl, _, _, rfl, hac.sq, rfl, _, _, rfl, _, _, rfl, _, _, rfl, rfl, ?_⟩
    refine ⟨_, rfl, _, rfl, rfl, _, rfl, ite2 (fun e => ?_) (fun e => ?_)⟩
    · have e0 : t = i := V.int.inj (of_decide_eq_true e)
      rw [if_pos e0] at fin
      exact ⟨_, rfl, _, rfl, _, rfl, t, vps, y1, g, ps, a, ⟨rfl, dps, d1, po, g1, g4, fa, by omega, by omega, fin⟩⟩
    · have e0 : t ≠ i := fun z => e (decide_eq_true (by rw [z]))
      rw [if_neg e0] at fin
      refine ⟨_, rfl, _, rfl, _, rfl, _, _, rfl, rfl, _, rfl, ite2 (fun e1 => ?_) (fun e1 => ?_)⟩
      · rw [if_pos (show t < i from of_decide_eq_true e1)] at fin
        exact ⟨_, rfl, vps, .ref ac, ps, _, rfl, dps, by omega, dc, fin⟩
      · rw [if_neg (fun z : t < i => e1 (decide_eq_true z))] at fin
        refine ⟨(by decide : 1 ≤ sizeLine), fun p2 h2 => ?_⟩
        have t2 := same_new (o := .tup [V.str Wd.nothing.str]) h2
        exact ⟨vps, .ref p2, ps, noth, rfl, dps.same t2, by omega, DT.p0n (x := .nothing) (Tp.of upd_same), fun v H' s d => fin v H' (t2.trans s) d⟩
theorem fx_when (T : Top w K mg) {k n : Nat} (hk : 4 ≤ k) (ih : FnOk P w K mg base CX0 k T.a_face T.d_face ["time", "prices", "contract"] (sp_face K n)) :
    FnOk P w K mg base CX0 (k + 1) T.a__face_when T.d__face_when ["time", "prices", "contract"] (sp_fx K (n + 1) .when_) := by
  refine T._face_when_F.ok sc__face_when (fun vs H Q E h => ?_) (fun cdv A outer s H vs Q E hr h => ?_)
  · obtain ⟨_, _, _, _, _, _, h, _⟩ := h
    rw [h.vs]
    rfl
  · obtain ⟨t, vps, vc, g, ps, c, h, cw⟩ := h
    obtain ⟨rfl, dps, dc, po, g1, g4, fc, dep, tbc, fin⟩ := id h
    have pl := h.pl
    obtain ⟨a, b, rfl, hh⟩ := fcd_2 fc cw (.inr (.inl rfl))
    obtain ⟨ca, fb⟩ : CndG g a ∧ FC g b := by
      rcases hh with ⟨h, _⟩ | ⟨_, h⟩ | ⟨h | h, _⟩
      · cases h
      · exact h
      · cases h
      · cases h
    obtain ⟨ac, ls, kv, rfl, hac, dl, dks⟩ := id dc.part_inv
    cases dl
    obtain ⟨y1, y2, rfl, d1, d2⟩ := dks.inv2
    have wv := wo_cnd ca po
    have dep : 1 + max a.depth b.depth ≤ n + 1 := dep
    have tbc : tb b ≤ 7900 := tbc
    have ef : faceF ps t (.p2 .when_ .non a b) = (if evC ps a then faceF ps t b else .pay (zeroF (ps.length + 1)) (.p2 .when_ .non a b)) := rfl
    rw [ef] at fin
    refine ⟨_, (pss_cons (ps_asg (pv 2) (pg_tup rfl (pgs_cons (pg_name (i := 3) sc__face_when.nd rfl (Or.inl rfl)) (pgs_cons (pg_name (i := 4) sc__face_when.nd rfl (Or.inl rfl)) (pgs_cons (pg_name (i := 5) sc__face_when.nd rfl (Or.inl rfl)) pgs_nil)))))
      (pss_cons (ps_if (pt_val (pe_call (ok__worked_out T) (hr.mono (by omega)) (by rfl) T.g__worked_out T._worked_out_F.kp T._worked_out_b .nil pass0 (pa_cons (pv 1) (pa_cons (pv 4) pa_nil)))) (pss_one (ps_ret (pe_call ih (hr.mono (by omega)) (by rfl) T.g_face T.face_F.kp T.face_b .nil pass0 (pa_cons (pv 0) (pa_cons (pv 1) (pa_cons (pv 5) pa_nil)))))) pss_nil)
      (pss_one (ps_ret (pe_call (ok__idle T) (hr.mono (by omega)) (by rfl) T.g__idle T._idle_F.kp T._idle_b .nil pass0 (pa_cons (pv 1) (pa_cons (pv 2) pa_nil))))))), ?_⟩
    refine ⟨_, rfl, _, _, rfl, hac.sq, rfl, _, _, rfl, _, _, rfl, _, _, rfl, rfl, ?_⟩
    refine ⟨_, rfl, _, rfl, vps, y1, ps, a, rfl, dps, d1, wv, fun vf H2 s2 df => ?_⟩
    rw [evD_con ca.2.1] at df
    rw [df.bool_inv]
    refine ⟨_, rfl, ?_⟩
    cases hc : evC ps a with
    | true =>
      rw [hc, if_pos rfl] at fin
      exact iteT ⟨_, rfl, _, rfl, _, rfl, t, vps, y2, g, ps, b, ⟨rfl, dps.same s2, d2.same s2, po, g1, g4, fb, by omega, by omega, fun v H' s d => fin v H' (s2.trans s) d⟩⟩
    | false =>
      rw [hc, if_neg Bool.false_ne_true] at fin
      exact iteF ⟨_, rfl, _, rfl, vps, .ref ac, ps, _, rfl, dps.same s2, by omega, dc.same s2, fun v H' s d => fin v H' (s2.trans s) d⟩
theorem fx_until (T : Top w K mg) {k n : Nat} (hk : 4 ≤ k) (ih : FnOk P w K mg base CX0 k T.a_face T.d_face ["time", "prices", "contract"] (sp_face K n)) :
    FnOk P w K mg base CX0 (k + 1) T.a__face_until T.d__face_until ["time", "prices", "contract"] (sp_fx K (n + 1) .until_) := by
  refine T._face_until_F.ok sc__face_until (fun vs H Q E h => ?_) (fun cdv A outer s H vs Q E hr h => ?_)
  · obtain ⟨_, _, _, _, _, _, h, _⟩ := h
    rw [h.vs]
    rfl
  · obtain ⟨t, vps, vc, g, ps, c, h, cw⟩ := h
    obtain ⟨rfl, dps, dc, po, g1, g4, fc, dep, tbc, fin⟩ := id h
    have pl := h.pl
    obtain ⟨a, b, rfl, hh⟩ := fcd_2 fc cw (.inr (.inr (.inl rfl)))
    obtain ⟨ca, fb⟩ : CndG g a ∧ FC g b := by
      rcases hh with ⟨h, _⟩ | ⟨_, h⟩ | ⟨h | h, _⟩
      · cases h
      · exact h
      · cases h
      · cases h
    obtain ⟨ac, ls, kv, rfl, hac, dl, dks⟩ := id dc.part_inv
    cases dl
    obtain ⟨y1, y2, rfl, d1, d2⟩ := dks.inv2
    have wv := wo_cnd ca po
    have dep : 1 + max a.depth b.depth ≤ n + 1 := dep
    have tbc : tb b ≤ 7900 := tbc
    have ef : faceF ps t (.p2 .until_ .non a b) = (if evC ps a then .pay (zeroF (ps.length + 1)) noth else (faceF ps t b).map fun r => .p2 .until_ .non a r) := rfl
    rw [ef] at fin
    refine ⟨_, (pss_cons (ps_asg (pv 2) (pg_tup rfl (pgs_cons (pg_name (i := 3) sc__face_until.nd rfl (Or.inl rfl)) (pgs_cons (pg_name (i := 4) sc__face_until.nd rfl (Or.inl rfl)) (pgs_cons (pg_name (i := 5) sc__face_until.nd rfl (Or.inl rfl)) pgs_nil)))))
      (pss_cons (ps_if (pt_val (pe_call (ok__worked_out T) (hr.mono (by omega)) (by rfl) T.g__worked_out T._worked_out_F.kp T._worked_out_b .nil pass0 (pa_cons (pv 1) (pa_cons (pv 4) pa_nil)))) (pss_one (ps_ret (pe_call (ok__idle T) (hr.mono (by omega)) (by rfl) T.g__idle T._idle_F.kp T._idle_b .nil pass0 (pa_cons (pv 1) (pa_cons (pe_tup (pa_cons pe_str pa_nil)) pa_nil))))) pss_nil)
      (pss_cons (ps_set (i := 6) sc__face_until.nd rfl (Or.inl rfl) (pe_call ih (hr.mono (by omega)) (by rfl) T.g_face T.face_F.kp T.face_b .nil pass0 (pa_cons (pv 0) (pa_cons (pv 1) (pa_cons (pv 5) pa_nil)))))
      (pss_cons (ps_if (pt_cmpR op_eq (pe_ix ix_tup (pv 6) pe_int (fun _ _ => rfl)) pe_str (nomark _)) (pss_one (ps_ret (pe_tup (pa_cons pe_str (pa_cons (pe_ix ix_tup (pv 6) pe_int (fun _ _ => rfl)) (pa_cons (pe_tup (pa_cons pe_str (pa_cons (pv 4) (pa_cons (pe_ix ix_tup (pv 6) pe_int (fun _ _ => rfl)) pa_nil)))) (pa_cons (pe_tup (pa_cons pe_str (pa_cons (pv 4) (pa_cons (pe_ix ix_tup (pv 6) pe_int (fun _ _ => rfl)) pa_nil)))) pa_nil))))))) pss_nil)
      (pss_one (ps_ret (pe_tup (pa_cons pe_str (pa_cons (pe_ix ix_tup (pv 6) pe_int (fun _ _ => rfl)) (pa_cons (pe_tup (pa_cons pe_str (pa_cons (pv 4) (pa_cons (pe_ix ix_tup (pv 6) pe_int (fun _ _ => rfl)) pa_nil)))) pa_nil)))))))))), ?_⟩
    refine ⟨_, rfl, _, _, rfl, hac.sq, rfl, _, _, rfl, _, _, rfl, _, _, rfl, rfl, ?_⟩
    refine ⟨_, rfl, _, rfl, vps, y1, ps, a, rfl, dps, d1, wv, fun vf H2 s2 df => ?_⟩
    rw [evD_con ca.2.1] at df
    rw [df.bool_inv]
    refine ⟨_, rfl, ?_⟩
    cases hc : evC ps a with
    | true =>
      rw [hc, if_pos rfl] at fin
      refine iteT ⟨_, rfl, (by decide : 1 ≤ sizeLine), fun p2 h2 => ?_⟩
      have t2 := same_new (o := .tup [V.str Wd.nothing.str]) h2
      exact ⟨vps, .ref p2, ps, noth, rfl, (dps.same s2).same t2, by omega, DT.p0n (x := .nothing) (Tp.of upd_same), fun v H' s d => fin v H' ((s2.trans t2).trans s) d⟩
    | false =>
      rw [hc, if_neg Bool.false_ne_true] at fin
      refine iteF ⟨_, rfl, _, rfl, _, rfl, t, vps, y2, g, ps, b, ⟨rfl, dps.same s2, d2.same s2, po, g1, g4, fb, by omega, by omega, fun vt H1 s1 dt => ?_⟩⟩
      have s21 := s2.trans s1
      have d1' := d1.same s21
      cases e : faceF ps t b with
      | ask sd c d =>
        rw [e] at dt fin
        obtain ⟨at', x, y, rfl, hat, dx, dy⟩ := dt.ask_inv
        refine ⟨_, rfl, _, _, _, _, rfl, rfl, hat.sq, atI_nat (j := 0) rfl, rfl, _, rfl, if_true_of' ask_ask ?_⟩
        refine ⟨_, rfl, _, _, _, _, rfl, rfl, hat.sq, atI_nat (j := 1) rfl, _, rfl, _, rfl, _, _, _, _, rfl, rfl, hat.sq, atI_nat (j := 2) rfl, (by decide : 3 ≤ sizeLine), fun p1 h1 => ?_⟩
        have t1 := same_new (o := .tup [V.str Wd.until_.str, y1, x]) h1
        refine ⟨_, rfl, _, rfl, _, _, _, _, rfl, rfl, (tp_same t1 hat).sq, atI_nat (j := 3) rfl, (by decide : 3 ≤ sizeLine), fun p2 h2 => ⟨(by decide : 4 ≤ sizeLine), fun p3 h3 => ?_⟩⟩
        have t2 := same_new (o := .tup [V.str Wd.until_.str, y1, y]) h2
        have t3 := same_new (o := .tup [V.str "ask", V.str (sideS sd), V.ref p1, V.ref p2]) h3
        exact fin _ _ (((s21.trans t1).trans t2).trans t3) (DT.ask (Tp.of upd_same) (DT.p2n (x := .until_) (tp_same t3 (tp_same t2 (Tp.of upd_same))) (((d1'.same t1).same t2).same t3) (((dx.same t1).same t2).same t3)) (DT.p2n (x := .until_) (tp_same t3 (Tp.of upd_same)) (((d1'.same t1).same t2).same t3) (((dy.same t1).same t2).same t3)))
      | pay am r =>
        rw [e] at dt fin
        obtain ⟨at', x, y, rfl, hat, dx, dy⟩ := dt.pay_inv
        refine ⟨_, rfl, _, _, _, _, rfl, rfl, hat.sq, atI_nat (j := 0) rfl, rfl, _, rfl, if_false_of' pay_ask ?_⟩
        refine ⟨_, rfl, _, _, _, _, rfl, rfl, hat.sq, atI_nat (j := 1) rfl, _, rfl, _, rfl, _, _, _, _, rfl, rfl, hat.sq, atI_nat (j := 2) rfl, (by decide : 3 ≤ sizeLine), fun p2 h2 => ⟨(by decide : 3 ≤ sizeLine), fun p3 h3 => ?_⟩⟩
        have t2 := same_new (o := .tup [V.str Wd.until_.str, y1, y]) h2
        have t3 := same_new (o := .tup [V.str "pay", x, V.ref p2]) h3
        exact fin _ _ ((s21.trans t2).trans t3) (DT.pay (Tp.of upd_same) ((dx.same t2).same t3) (DT.p2n (x := .until_) (tp_same t3 (Tp.of upd_same)) ((d1'.same t2).same t3) ((dy.same t2).same t3)))
theorem fx_early (T : Top w K mg) {k n : Nat} (hk : 4 ≤ k) (ih : FnOk P w K mg base CX0 k T.a_face T.d_face ["time", "prices", "contract"] (sp_face K n)) :
    FnOk P w K mg base CX0 (k + 1) T.a__face_early T.d__face_early ["time", "prices", "contract"] (sp_fx K (n + 1) .early) := by
  refine T._face_early_F.ok sc__face_early (fun vs H Q E h => ?_) (fun cdv A outer s H vs Q E hr h => ?_)
  · obtain ⟨_, _, _, _, _, _, h, _⟩ := h
    rw [h.vs]
    rfl
  · obtain ⟨t, vps, vc, g, ps, c, h, cw⟩ := h
    obtain ⟨rfl, dps, dc, po, g1, g4, fc, dep, tbc, fin⟩ := id h
    have pl := h.pl
    obtain ⟨i, a, rfl, fa⟩ := fcd_t fc cw (.inr rfl)
    obtain ⟨ac, ls, kv, rfl, hac, dl, dks⟩ := id dc.part_inv
    obtain ⟨x0, rfl, dx0⟩ := dl.inv1
    cases dx0
    obtain ⟨y1, rfl, d1⟩ := dks.inv1
    have ef : faceF ps t (.p1 .early (.time i) a) = (if t > i then .pay (zeroF (ps.length + 1)) noth else .ask true a (.p1 .later .non (.p1 .early (.time i) a))) := rfl
    rw [ef] at fin
    refine ⟨_, (pss_cons (ps_asg (pv 2) (pg_tup rfl (pgs_cons (pg_name (i := 3) sc__face_early.nd rfl (Or.inl rfl)) (pgs_cons (pg_name (i := 4) sc__face_early.nd rfl (Or.inl rfl)) (pgs_cons (pg_name (i := 5) sc__face_early.nd rfl (Or.inl rfl)) pgs_nil)))))
      (pss_cons (ps_if (pt_cmpR op_gt (pv 0) (pv 4) (nomark _)) (pss_one (ps_ret (pe_call (ok__idle T) (hr.mono (by omega)) (by rfl) T.g__idle T._idle_F.kp T._idle_b .nil pass0 (pa_cons (pv 1) (pa_cons (pe_tup (pa_cons pe_str pa_nil)) pa_nil))))) pss_nil)
      (pss_one (ps_ret (pe_tup (pa_cons pe_str (pa_cons pe_str (pa_cons (pv 5) (pa_cons (pe_tup (pa_cons pe_str (pa_cons (pv 2) pa_nil))) pa_nil))))))))), ?_⟩
    refine ⟨_, rfl, _, _, rfl, hac.sq, rfl, _, _, rfl, _, _, rfl, _, _, rfl, rfl, ?_⟩
    refine ⟨_, rfl, _, rfl, _, _, rfl, rfl, _, rfl, ite2 (fun e => ?_) (fun e => ?_)⟩
    · rw [if_pos (show t > i from of_decide_eq_true e)] at fin
      refine ⟨_, rfl, (by decide : 1 ≤ sizeLine), fun p2 h2 => ?_⟩
      have t2 := same_new (o := .tup [V.str Wd.nothing.str]) h2
      exact ⟨vps, .ref p2, ps, noth, rfl, dps.same t2, by omega, DT.p0n (x := .nothing) (Tp.of upd_same), fun v H' s d => fin v H' (t2.trans s) d⟩
    · rw [if_neg (fun z : t > i => e (decide_eq_true z))] at fin
      refine ⟨_, rfl, _, rfl, two_le, fun p2 h2 => ⟨(by decide : 4 ≤ sizeLine), fun p3 h3 => ?_⟩⟩
      have t2 := same_new (o := .tup [V.str Wd.later.str, V.ref ac]) h2
      have t3 := same_new (o := .tup [V.str "ask", V.str (sideS true), y1, V.ref p2]) h3
      exact fin _ _ (t2.trans t3) (DT.ask (h := true) (Tp.of upd_same) ((d1.same t2).same t3) (DT.p1n (x := .later) (tp_same t3 (Tp.of upd_same)) ((dc.same t2).same t3)))
theorem fx_later (T : Top w K mg) {k n : Nat} (hk : 4 ≤ k) (ih : FnOk P w K mg base CX0 k T.a_face T.d_face ["time", "prices", "contract"] (sp_face K n)) :
    FnOk P w K mg base CX0 (k + 1) T.a__face_later T.d__face_later ["_", "prices", "contract"] (sp_fx K (n + 1) .later) := by
  refine T._face_later_F.ok sc__face_later (fun vs H Q E h => ?_) (fun cdv A outer s H vs Q E hr h => ?_)
  · obtain ⟨_, _, _, _, _, _, h, _⟩ := h
    rw [h.vs]
    rfl
  · obtain ⟨t, vps, vc, g, ps, c, h, cw⟩ := h
    obtain ⟨rfl, dps, dc, po, g1, g4, fc, dep, tbc, fin⟩ := id h
    have pl := h.pl
    obtain ⟨a, rfl, fa⟩ := fcd_p1 fc cw (.inr rfl)
    obtain ⟨ac, ls, kv, rfl, hac, dl, dks⟩ := dc.part_inv
    cases dl
    obtain ⟨y1, rfl, d1⟩ := dks.inv1
    refine ⟨_, (pss_one (ps_ret (pe_call (ok__idle T) (hr.mono (by omega)) (by rfl) T.g__idle T._idle_F.kp T._idle_b .nil pass0 (pa_cons (pv 1) (pa_cons (pe_ix ix_tup (pv 2) pe_int (fun _ _ => rfl)) pa_nil))))), ?_⟩
    exact ⟨_, rfl, _, rfl, _, _, _, _, rfl, rfl, hac.sq, atI_nat (j := 1) rfl, vps, y1, ps, a, rfl, dps, by omega, d1, fun v H' s d => fin v H' s d⟩
theorem steps_of (T : Top w K mg) {k n : Nat} (hk : 4 ≤ k) (ih : FnOk P w K mg base CX0 k T.a_face T.d_face ["time", "prices", "contract"] (sp_face K n)) (x : Wd) (hx : x.cls = .contract) :
    ∃ f, PySem.W.nsIn K T.a_STEPS x.str = some (some (.ref f)) ∧ Held P w K mg base (k + 1) f (sp_fx K (n + 1) x) := by
  cases x with
  | nothing => exact ⟨_, T.n_STEPS_nothing, ⟨_, _, fx_nothing T hk ih, T._face_nothing_F.kp, T._face_nothing_b⟩⟩
  | one => exact ⟨_, T.n_STEPS_one, ⟨_, _, fx_one T hk ih, T._face_one_F.kp, T._face_one_b⟩⟩
  | scale => exact ⟨_, T.n_STEPS_scale, ⟨_, _, fx_scale T hk ih, T._face_scale_F.kp, T._face_scale_b⟩⟩
  | both => exact ⟨_, T.n_STEPS_both, ⟨_, _, fx_both T hk ih, T._face_both_F.kp, T._face_both_b⟩⟩
  | give => exact ⟨_, T.n_STEPS_give, ⟨_, _, fx_give T hk ih, T._face_give_F.kp, T._face_give_b⟩⟩
  | or_ => exact ⟨_, T.n_STEPS_or, ⟨_, _, fx_or T hk ih, T._face_or_F.kp, T._face_or_b⟩⟩
  | at_ => exact ⟨_, T.n_STEPS_at, ⟨_, _, fx_at T hk ih, T._face_at_F.kp, T._face_at_b⟩⟩
  | when_ => exact ⟨_, T.n_STEPS_when, ⟨_, _, fx_when T hk ih, T._face_when_F.kp, T._face_when_b⟩⟩
  | until_ => exact ⟨_, T.n_STEPS_until, ⟨_, _, fx_until T hk ih, T._face_until_F.kp, T._face_until_b⟩⟩
  | early => exact ⟨_, T.n_STEPS_early, ⟨_, _, fx_early T hk ih, T._face_early_F.kp, T._face_early_b⟩⟩
  | later => exact ⟨_, T.n_STEPS_later, ⟨_, _, fx_later T hk ih, T._face_later_F.kp, T._face_later_b⟩⟩
  | _ => cases hx
theorem face_step (T : Top w K mg) {k0 n : Nat} (hk : 4 ≤ k0) (ih : FnOk P w K mg base CX0 k0 T.a_face T.d_face ["time", "prices", "contract"] (sp_face K n)) :
    FnOk P w K mg base CX0 (k0 + 2) T.a_face T.d_face ["time", "prices", "contract"] (sp_face K (n + 1)) := by
  refine T.face_F.ok sc_face (fun vs H Q E h => ?_) (fun cdv A outer s H vs Q E hr h => ?_)
  · obtain ⟨_, _, _, _, _, _, h⟩ := h
    rw [h.vs]
    rfl
  · obtain ⟨t, vps, vc, g, ps, c, h⟩ := h
    obtain ⟨rfl, dps, dc, po, g1, g4, fc, dep, tbc, fin⟩ := id h
    obtain ⟨ac, ls, kv, rfl, hac, dl, dks⟩ := id dc.part_inv
    obtain ⟨f, hf, hd⟩ := steps_of T hk ih c.wd fc.wf.2
    refine ⟨_, (pss_cons (ps_set (i := 3) sc_face.nd rfl (Or.inl rfl) (pe_ix ix_kdict (pe_glob (v := .ref T.a_STEPS) (by rfl) T.g_STEPS rfl) (pe_ix ix_tup (pv 2) pe_int (fun _ _ => rfl)) (fun _ _ => rfl)))
      (pss_one (ps_ret (pe_callHd (k := k0 + 1) (i := 3) hr rfl (by first | exact .inl rfl | exact .inr (.inl rfl)) (pa_cons (pv 0) (pa_cons (pv 1) (pa_cons (pv 2) pa_nil))))))), ?_⟩
    refine ⟨_, rfl, _, _, _, _, rfl, rfl, hac.sq, atI_nat (j := 0) rfl, T.a_STEPS, c.wd.str, _, rfl, rfl, kdct_of T.D_STEPS hf, ?_⟩
    exact ⟨f, _, rfl, hd, _, rfl, _, rfl, _, rfl, t, vps, .ref ac, g, ps, c, h, rfl⟩
theorem face_all (T : Top w K mg) : ∀ n : Nat, FnOk P w K mg base CX0 (2 * n + 4) T.a_face T.d_face ["time", "prices", "contract"] (sp_face K n)
  | 0 => ⟨fun _ _ _ _ ⟨_, _, _, _, _, c, h⟩ => by have := c.depth_pos; have := h.dep; omega, fun _ _ _ _ _ _ _ _ _ _ _ _ _ ⟨_, _, _, _, _, c, h⟩ => by have := c.depth_pos; have := h.dep; omega⟩
  | n + 1 => by
    have := face_step T (by omega) (face_all T n)
    rw [show 2 * (n + 1) + 4 = 2 * n + 4 + 2 by omega]
    exact this
theorem ok_face (T : Top w K mg) : FnOk P w K mg base CX0 44 T.a_face T.d_face ["time", "prices", "contract"] (sp_face K 20) := face_all T 20
end
end Nl

namespace Nl
open PySem PySem.Spec PyProof.Rows L2
section
variable {P : Program} {w : World} {K : PySem.W.Frag} {mg : Str → Option Value} {base : Heap}
theorem ls_nil {K : PySem.W.Frag} {H : Hp} {ls : List V} {ds : List PyData} (h : DTs K H ls ds) (e : ds.length = 0) : ls = [] := List.eq_nil_of_length_eq_zero (by rw [h.len, e])
def sp_lparts (K : PySem.W.Frag) (n : Nat) : Sp := fun vs H Q _ => ∃ (v : V) (p : Part), vs = [v] ∧ DT K H v p.D ∧ p.WF ∧ p.depth ≤ n ∧ p.size ≤ 1000 ∧ ∀ l xs H', Same H H' → H l = none → H' l = some (.lst xs) → DTs K H' xs ((partsP p).map Part.D) → Q (.ref l) H'
theorem lparts_step (T : Top w K mg) {k n : Nat} (hk : 1 ≤ k) (ih : FnOk P w K mg base CX0 k T.a__law_parts T.d__law_parts ["part"] (sp_lparts K n)) :
    FnOk P w K mg base CX0 (k + 1) T.a__law_parts T.d__law_parts ["part"] (sp_lparts K (n + 1)) := by
  refine T._law_parts_F.ok sc__law_parts (fun vs H Q E h => ?_) (fun cdv A outer s H vs Q E hr h => ?_)
  · obtain ⟨_, _, rfl, _⟩ := h
    rfl
  · obtain ⟨v, p, rfl, dp, wf, hd, hn, fin⟩ := h
    obtain ⟨a, ls, kv, rfl, ha, dl, dk⟩ := dp.part_inv
    refine ⟨_, (pss_cons (ps_set (i := 1) sc__law_parts.nd rfl (Or.inl rfl) (pe_ix ix_tup (pv 0) pe_int (fun _ _ => rfl)))
      (pss_cons (ps_set (i := 2) sc__law_parts.nd rfl (Or.inl rfl) (pe_slice sl_tupP (pv 0) (po_some pe_int) po_none))
      (Evl.pss_cut (ps_if (pt_cmpR (op_inT (un65 hr)) (pv 1) (pe_tup (pa_cons pe_str (pa_cons pe_str (pa_cons pe_str (pa_cons pe_str (pa_cons pe_str pa_nil)))))) (by rfl)) (pss_one (ps_set (i := 2) sc__law_parts.nd rfl (Or.inl rfl) (pe_tup pa_nil))) (pss_one (ps_if (pt_cmpR (op_inT (un65 hr)) (pv 1) (pe_tup (pa_cons pe_str (pa_cons pe_str pa_nil))) (by rfl)) (pss_one (ps_set (i := 2) sc__law_parts.nd rfl (Or.inl rfl) (pe_slice sl_tupP (pv 0) (po_some pe_int) po_none))) pss_nil)))
      (pss_cons (ps_set (i := 3) sc__law_parts.nd rfl (Or.inl rfl) (pe_lst (pa_cons (pv 0) pa_nil)))
      (pss_cons (ps_for PassesOwn.never rfl (pi_tup (pv 2)) (pg_name (i := 4) sc__law_parts.nd rfl (Or.inl rfl)) (pss_one (ps_set (i := 3) sc__law_parts.nd rfl (Or.inl rfl) (pe_op op_cat (pv 3) (pe_call ih (hr.mono (by omega)) (by rfl) T.g__law_parts T._law_parts_F.kp T._law_parts_b .nil pass0 (pa_cons (pv 4) pa_nil))))))
      (pss_one (ps_ret (pv 3)))))))), ?_⟩
    refine ⟨_, rfl, _, _, _, _, rfl, rfl, ha.sq, atI_nat (j := 0) rfl, ?_⟩
    refine ⟨_, rfl, _, rfl, a, _, rfl, ha, fun q1 H1 s1 hq1 => ?_⟩
    have e1 : cutV (V.str p.wd.str :: (ls ++ kv)) (some 1) none = ls ++ kv := cut_drop _ 1
    rw [e1] at hq1
    refine ⟨fun σ' H2 => ∃ q : Addr, σ' = [some (.ref a), some (.str p.wd.str), some (.ref q), none, none] ∧ Same H H2 ∧ Tp H2 q kv, ?_, ?_⟩
    · refine ⟨_, rfl, (by decide : 5 ≤ sizeLine), fun p2 h2 => ?_⟩
      have s2 := s1.trans (same_new (o := .tup (L5.map fun x => V.str x.str)) h2)
      refine ⟨_, L5.map fun x => PyData.str x.str, .str _, dts_l5 L5 upd_same, sh_wd _, sh_l5, _, rfl, ?_⟩
      rw [any_wd]
      refine ite2 (fun e => ?_) (fun e => ?_)
      · have h5 : p.wd ∈ L5 := of_decide_eq_true e
        have ek := wf_l5 wf h5
        rw [ek] at dk
        cases dk
        refine ⟨Nat.zero_le _, fun p3 h3 => ?_⟩
        exact ⟨p3, rfl, s2.trans (same_new (o := .tup []) h3), Tp.of upd_same⟩
      · have h5 : p.wd ∉ L5 := fun z => e (decide_eq_true z)
        refine ⟨_, rfl, two_le, fun p3 h3 => ?_⟩
        have s3 := s2.trans (same_new (o := .tup (L2'.map fun x => V.str x.str)) h3)
        refine ⟨_, L2'.map fun x => PyData.str x.str, .str _, dts_l5 L2' upd_same, sh_wd _, sh_l2, _, rfl, ?_⟩
        rw [any_wd]
        refine ite2 (fun e => ?_) (fun e => ?_)
        · have h2' : p.wd ∈ L2' := of_decide_eq_true e
          have el := wf_l2 wf h2'
          obtain ⟨x0, hx0⟩ : ∃ x0, ls = [x0] := by
            have : ls.length = 1 := by rw [dl.len, el]
            match ls, this with
            | [x0], _ => exact ⟨x0, rfl⟩
          subst hx0
          refine ⟨_, rfl, _, rfl, a, _, rfl, tp_same s3 ha, fun q4 H4 s4 hq4 => ?_⟩
          rw [show cutV (V.str p.wd.str :: ([x0] ++ kv)) (some 2) none = kv from cut_drop _ 2] at hq4
          exact ⟨q4, rfl, s3.trans s4, hq4⟩
        · have h2' : p.wd ∉ L2' := fun z => e (decide_eq_true z)
          have := ls_nil dl (wf_l0 wf h5 h2')
          subst this
          exact ⟨q1, rfl, s3, tp_same (same_new h3) (tp_same (same_new h2) hq1)⟩
    · rintro σ' H2 ⟨q, rfl, s2, hq⟩
      refine ⟨_, rfl, (by decide : 1 ≤ sizeLine), fun pl hl => ?_⟩
      have s3 := s2.trans (same_new (o := .lst [.ref a]) hl)
      have lk : kv.length = p.ks.length := by rw [dk.len, List.length_map]
      have hsz := p.size_eq
      refine ⟨_, rfl, q, rfl, ⟨_, (tp_same (same_new hl) hq).sq⟩, for_tup (K := K) (a := q) (xs := kv) (fun i σ H' => ∃ (l : Addr) (xs : List V) (y4 : Option V), σ = [some (.ref a), some (.str p.wd.str), some (.ref q), some (.ref l), y4] ∧ Same H H' ∧ Tp H' q kv ∧ H l = none ∧ H' l = some (.lst xs) ∧ DTs K H' xs ((p :: (p.ks.take i).flatMap partsP).map Part.D)) ⟨pl, [.ref a], _, rfl, s3, tp_same (same_new hl) hq, s2.free hl, upd_same, .cons (dp.same s3) .nil⟩ (fun i σ H' _ ⟨_, _, _, _, _, hq, _⟩ => hq.sq) ?_ ?_⟩
      · rintro i x σ H3 hi ⟨l, xs, y4, rfl, sm, hq3, nl, hL, dL⟩
        obtain ⟨d, hd', dx⟩ := dk.get hi
        rw [List.getElem?_map] at hd'
        obtain ⟨k', hk', rfl⟩ := Option.map_eq_some_iff.mp hd'
        have mk : k' ∈ p.ks := List.mem_of_getElem? hk'
        have kd := Part.kid_depth mk
        have ksz : k'.size ≤ (p.ks.map Part.size).sum := le_sum (List.mem_map.mpr ⟨k', mk, rfl⟩)
        refine ⟨_, rfl, _, rfl, x, k', rfl, dx.same sm, wf.kid mk, by omega, by omega, fun l2 ys H4 s4 nl2 hL2 dL2 => ?_⟩
        have lxs : xs.length = ((p :: (p.ks.take i).flatMap partsP)).length := by rw [dL.len, List.length_map]
        have lys : ys.length = k'.size := by rw [dL2.len, List.length_map, partsP_len]
        have tot : ((p :: (p.ks.take i).flatMap partsP)).length ≤ p.size := by
          have := partsP_eq p
          have e2 := congrArg List.length this
          rw [partsP_len] at e2
          rw [e2, List.length_cons, List.length_cons]
          refine Nat.succ_le_succ ?_
          have : p.ks.flatMap partsP = (p.ks.take i).flatMap partsP ++ (p.ks.drop i).flatMap partsP := by rw [← List.flatMap_append, List.take_append_drop]
          rw [this, List.length_append]
          omega
        refine ⟨l, l2, _, _, rfl, rfl, s4 _ _ hL, hL2, by rw [lxs, lys]; exact Nat.le_trans (m := 2000) (by omega) (by decide), fun p5 h5 => ?_⟩
        have s5 := s4.trans (same_new (o := .lst (xs ++ ys)) h5)
        refine ⟨p5, xs ++ ys, _, rfl, sm.trans s5, tp_same s5 hq3, (sm.trans s4).free h5, upd_same, ?_⟩
        rw [take_next hk', List.flatMap_append, List.flatMap_singleton, ← List.cons_append, List.map_append]
        exact (dL.same s5).app (dL2.same (same_new h5))
      · rintro σ H3 ⟨l, xs, y4, rfl, sm, hq3, nl, hL, dL⟩
        rw [lk, List.take_length, ← partsP_eq] at dL
        exact ⟨_, rfl, fin l xs _ sm nl hL dL⟩
theorem lparts_all (T : Top w K mg) : ∀ n : Nat, FnOk P w K mg base CX0 (n + 1) T.a__law_parts T.d__law_parts ["part"] (sp_lparts K n)
  | 0 => ⟨fun _ _ _ _ ⟨_, p, _, _, _, h, _⟩ => by have := p.depth_pos; omega, fun _ _ _ _ _ _ _ _ _ _ _ _ _ ⟨_, p, _, _, _, h, _⟩ => by have := p.depth_pos; omega⟩
  | n + 1 => lparts_step T (by omega) (lparts_all T n)
theorem ok__law_parts (T : Top w K mg) : FnOk P w K mg base CX0 26 T.a__law_parts T.d__law_parts ["part"] (sp_lparts K 25) := lparts_all T 25
theorem depth_max {p : Part} {m : Int} (h1 : m ∈ (0 : Int) :: p.ks.map (fun k => (k.depth : Int))) (h2 : ∀ y, y ∈ (0 : Int) :: p.ks.map (fun k => (k.depth : Int)) → y ≤ m) : (1 : Int) + m = (p.depth : Int) := by
  cases p with
  | p0 w l =>
    simp only [Part.ks, List.map_nil, List.mem_singleton] at h1
    subst h1
    simp [Part.depth]
  | p1 w l a =>
    simp only [Part.ks, List.map_cons, List.map_nil, List.mem_cons, List.not_mem_nil, or_false] at h1 h2
    have := h2 _ (.inr rfl)
    have := a.depth_pos
    simp only [Part.depth]
    rcases h1 with rfl | rfl <;> omega
  | p2 w l a b =>
    simp only [Part.ks, List.map_cons, List.map_nil, List.mem_cons, List.not_mem_nil, or_false] at h1 h2
    have := h2 _ (.inr (.inl rfl))
    have := h2 _ (.inr (.inr rfl))
    have := a.depth_pos
    simp only [Part.depth]
    rcases h1 with rfl | rfl | rfl <;> omega
def sp_ldep (K : PySem.W.Frag) (n : Nat) : Sp := fun vs H Q _ => ∃ (v : V) (p : Part), vs = [v] ∧ DT K H v p.D ∧ p.WF ∧ p.depth ≤ n ∧ ∀ H', Same H H' → Q (.int (p.depth : Int)) H'
theorem ldep_step (T : Top w K mg) {k n : Nat} (hk : 1 ≤ k) (ih : FnOk P w K mg base CX0 k T.a__law_depth T.d__law_depth ["part"] (sp_ldep K n)) :
    FnOk P w K mg base CX0 (k + 1) T.a__law_depth T.d__law_depth ["part"] (sp_ldep K (n + 1)) := by
  refine T._law_depth_F.ok sc__law_depth (fun vs H Q E h => ?_) (fun cdv A outer s H vs Q E hr h => ?_)
  · obtain ⟨_, _, rfl, _⟩ := h
    rfl
  · obtain ⟨v, p, rfl, dp, wf, hd, fin⟩ := h
    obtain ⟨a, ls, kv, rfl, ha, dl, dk⟩ := dp.part_inv
    refine ⟨_, (pss_cons (ps_set (i := 1) sc__law_depth.nd rfl (Or.inl rfl) (pe_ix ix_tup (pv 0) pe_int (fun _ _ => rfl)))
      (pss_cons (ps_set (i := 2) sc__law_depth.nd rfl (Or.inl rfl) (pe_slice sl_tupP (pv 0) (po_some pe_int) po_none))
      (Evl.pss_cut (ps_if (pt_cmpR (op_inT (un65 hr)) (pv 1) (pe_tup (pa_cons pe_str (pa_cons pe_str (pa_cons pe_str (pa_cons pe_str (pa_cons pe_str pa_nil)))))) (by rfl)) (pss_one (ps_set (i := 2) sc__law_depth.nd rfl (Or.inl rfl) (pe_tup pa_nil))) (pss_one (ps_if (pt_cmpR (op_inT (un65 hr)) (pv 1) (pe_tup (pa_cons pe_str (pa_cons pe_str pa_nil))) (by rfl)) (pss_one (ps_set (i := 2) sc__law_depth.nd rfl (Or.inl rfl) (pe_slice sl_tupP (pv 0) (po_some pe_int) po_none))) pss_nil)))
      (pss_one (ps_ret (pe_op op_add pe_int (pe_callB (cr_max rfl) (by rfl) T.n_max (by decide +kernel) (pa_cons (pe_op op_cat (pe_lst (pa_cons pe_int pa_nil)) (pe_lc (own := [("one", 3)]) (g := (gName 3)) (tt := tYes) (by rfl) sc__law_depth.nd (pi_tup (pv 2)) (blkOk_by (own := [("one", 3)]) (N := ["part", "word", "inner", "one"]) (sc := defScope s__law_depth) (by decide +kernel)) (fun _ _ _ _ _ => (pg_name (i := 3) sc__law_depth.nd rfl (Or.inl rfl))) (fun _ _ _ _ _ => pts_nil) (fun _ _ _ _ _ => (pe_call ih (hr.mono (by omega)) (by rfl) T.g__law_depth T._law_depth_F.kp T._law_depth_b .nil pass0 (pa_cons (pv 3) pa_nil))))) pa_nil)))))))), ?_⟩
    refine ⟨_, rfl, _, _, _, _, rfl, rfl, ha.sq, atI_nat (j := 0) rfl, ?_⟩
    refine ⟨_, rfl, _, rfl, a, _, rfl, ha, fun q1 H1 s1 hq1 => ?_⟩
    have e1 : cutV (V.str p.wd.str :: (ls ++ kv)) (some 1) none = ls ++ kv := cut_drop _ 1
    rw [e1] at hq1
    refine ⟨fun σ' H2 => ∃ q : Addr, σ' = [some (.ref a), some (.str p.wd.str), some (.ref q), none] ∧ Same H H2 ∧ Tp H2 q kv, ?_, ?_⟩
    · refine ⟨_, rfl, (by decide : 5 ≤ sizeLine), fun p2 h2 => ?_⟩
      have s2 := s1.trans (same_new (o := .tup (L5.map fun x => V.str x.str)) h2)
      refine ⟨_, L5.map fun x => PyData.str x.str, .str _, dts_l5 L5 upd_same, sh_wd _, sh_l5, _, rfl, ?_⟩
      rw [any_wd]
      refine ite2 (fun e => ?_) (fun e => ?_)
      · have h5 : p.wd ∈ L5 := of_decide_eq_true e
        have ek := wf_l5 wf h5
        rw [ek] at dk
        cases dk
        refine ⟨Nat.zero_le _, fun p3 h3 => ?_⟩
        exact ⟨p3, rfl, s2.trans (same_new (o := .tup []) h3), Tp.of upd_same⟩
      · have h5 : p.wd ∉ L5 := fun z => e (decide_eq_true z)
        refine ⟨_, rfl, two_le, fun p3 h3 => ?_⟩
        have s3 := s2.trans (same_new (o := .tup (L2'.map fun x => V.str x.str)) h3)
        refine ⟨_, L2'.map fun x => PyData.str x.str, .str _, dts_l5 L2' upd_same, sh_wd _, sh_l2, _, rfl, ?_⟩
        rw [any_wd]
        refine ite2 (fun e => ?_) (fun e => ?_)
        · have h2' : p.wd ∈ L2' := of_decide_eq_true e
          have el := wf_l2 wf h2'
          obtain ⟨x0, hx0⟩ : ∃ x0, ls = [x0] := by
            have : ls.length = 1 := by rw [dl.len, el]
            match ls, this with
            | [x0], _ => exact ⟨x0, rfl⟩
          subst hx0
          refine ⟨_, rfl, _, rfl, a, _, rfl, tp_same s3 ha, fun q4 H4 s4 hq4 => ?_⟩
          rw [show cutV (V.str p.wd.str :: ([x0] ++ kv)) (some 2) none = kv from cut_drop _ 2] at hq4
          exact ⟨q4, rfl, s3.trans s4, hq4⟩
        · have h2' : p.wd ∉ L2' := fun z => e (decide_eq_true z)
          have := ls_nil dl (wf_l0 wf h5 h2')
          subst this
          exact ⟨q1, rfl, s3, tp_same (same_new h3) (tp_same (same_new h2) hq1)⟩
    · rintro σ' H2 ⟨q, rfl, s2, hq⟩
      refine ⟨(by decide : 1 ≤ sizeLine), fun pl hl => ?_⟩
      have s3 := s2.trans (same_new (o := .lst [.int 0]) hl)
      have lk : kv.length = p.ks.length := by rw [dk.len, List.length_map]
      have hq3 := tp_same (same_new (o := .lst [.int 0]) hl) hq
      have hpl : (upd H2 pl (.lst [.int 0])) pl = some (.lst [.int 0]) := upd_same
      generalize (upd H2 pl (.lst [.int 0])) = H3 at *
      refine ⟨_, rfl, q, rfl, ⟨_, hq3.sq⟩, fun D hD => lc_it (walk_tup (K := K) (a := q) (xs := kv)) (fun i H' => Same H3 H' ∧ H' D = some (.lst ((p.ks.take i).map fun k => V.int (k.depth : Int)))) ⟨same_new hD, upd_same⟩ (fun i H' _ ⟨sm, _⟩ => (tp_same sm hq3).sq) ?_ ?_⟩
      · rintro i x H4 H4' hi ⟨sm, hO⟩ ⟨rfl, hx⟩
        obtain ⟨d, hd', dx⟩ := dk.get hx
        rw [List.getElem?_map] at hd'
        obtain ⟨k', hk', rfl⟩ := Option.map_eq_some_iff.mp hd'
        have mk : k' ∈ p.ks := List.mem_of_getElem? hk'
        have kd := Part.kid_depth mk
        refine ⟨rfl, ?_⟩
        dsimp only [tYes]
        rw [if_pos rfl]
        refine ⟨_, rfl, x, k', rfl, dx.same (s3.trans sm), wf.kid mk, by omega, fun H5 s5 => ⟨_, s5 _ _ hO, ?_, same_mut (sm.trans s5) hD, ?_⟩⟩
        · rw [List.length_map, List.length_take]
          have := p.ks_len
          exact small1000 (by omega)
        · rw [take_next hk', List.map_append]
          exact upd_same
      · rintro H4 ⟨sm, hO⟩
        rw [lk, List.take_length] at hO
        have := p.ks_len
        refine ⟨pl, D, _, _, rfl, rfl, sm _ _ hpl, hO, Nat.le_trans (m := 10) (by rw [List.length_map]; simp; omega) (by decide), fun p5 h5 => ?_⟩
        refine ⟨p5, 0 :: p.ks.map (fun k => (k.depth : Int)), rfl, SqL.of (by rw [upd_same, List.map_cons, List.map_map]; rfl), by simp, fun m h1 h2 => ⟨_, _, rfl, rfl, ?_⟩⟩
        show Q (.int (1 + m)) _
        rw [depth_max h1 h2]
        exact fin _ ((s3.trans sm).trans (same_new h5))
theorem ldep_all (T : Top w K mg) : ∀ n : Nat, FnOk P w K mg base CX0 (n + 1) T.a__law_depth T.d__law_depth ["part"] (sp_ldep K n)
  | 0 => ⟨fun _ _ _ _ ⟨_, p, _, _, _, h, _⟩ => by have := p.depth_pos; omega, fun _ _ _ _ _ _ _ _ _ _ _ _ _ ⟨_, p, _, _, _, h, _⟩ => by have := p.depth_pos; omega⟩
  | n + 1 => ldep_step T (by omega) (ldep_all T n)
theorem ok__law_depth (T : Top w K mg) : FnOk P w K mg base CX0 26 T.a__law_depth T.d__law_depth ["part"] (sp_ldep K 25) := ldep_all T 25
end
end Nl

namespace Nl
open PySem PySem.Spec PyProof.Rows L2
section
variable {P : Program} {w : World} {K : PySem.W.Frag} {mg : Str → Option Value} {base : Heap}
def sp_lmin (K : PySem.W.Frag) (R : Int × Int → Int × Int → Int × Int) : Sp := fun vs H Q _ => ∃ (v1 v2 : V) (a b : Int × Int), vs = [v1, v2] ∧ DT K H v1 (frD a) ∧ DT K H v2 (frD b) ∧ Ok 2999 a ∧ Ok 2999 b ∧ ∀ v, DT K H v (frD (R a b)) → Q v H
theorem ok__law_min (T : Top w K mg) : FnOk P w K mg base CX0 2 T.a__law_min T.d__law_min ["a", "b"] (sp_lmin K minF) := by
  refine T._law_min_F.ok sc__law_min (fun vs H Q E h => ?_) (fun cdv A outer s H vs Q E hr h => ?_)
  · obtain ⟨_, _, _, _, rfl, _⟩ := h
    rfl
  · obtain ⟨v1, v2, a, b, rfl, da, db, oa, ob, fin⟩ := h
    refine ⟨_, (pss_one (ps_ret (pe_ifExp (pt_val (pe_call (ok__law_less T) (hr.mono (by decide : 1 ≤ 1)) (by rfl) T.g__law_less T._law_less_F.kp T._law_less_b .nil pass0 (pa_cons (pv 1) (pa_cons (pv 0) pa_nil)))) (pv 1) (pv 0)))), ?_⟩
    have fa := FB.of oa (by decide)
    have fb := FB.of ob (by decide)
    have em := minF_law oa.low ob.low
    refine ⟨_, rfl, _, rfl, v2, v1, b, a, rfl, db, da, fb, fa, _, rfl, ite2 (fun e => ⟨_, rfl, fin _ ?_⟩) (fun e => ⟨_, rfl, fin _ ?_⟩)⟩
    · rw [em, if_pos (of_decide_eq_true e)]
      exact db
    · rw [em, if_neg fun z => e (decide_eq_true z)]
      exact da
theorem ok__law_max (T : Top w K mg) : FnOk P w K mg base CX0 2 T.a__law_max T.d__law_max ["a", "b"] (sp_lmin K maxF) := by
  refine T._law_max_F.ok sc__law_max (fun vs H Q E h => ?_) (fun cdv A outer s H vs Q E hr h => ?_)
  · obtain ⟨_, _, _, _, rfl, _⟩ := h
    rfl
  · obtain ⟨v1, v2, a, b, rfl, da, db, oa, ob, fin⟩ := h
    refine ⟨_, (pss_one (ps_ret (pe_ifExp (pt_val (pe_call (ok__law_less T) (hr.mono (by decide : 1 ≤ 1)) (by rfl) T.g__law_less T._law_less_F.kp T._law_less_b .nil pass0 (pa_cons (pv 0) (pa_cons (pv 1) pa_nil)))) (pv 1) (pv 0)))), ?_⟩
    have fa := FB.of oa (by decide)
    have fb := FB.of ob (by decide)
    have em := maxF_law oa.low ob.low
    refine ⟨_, rfl, _, rfl, v1, v2, a, b, rfl, da, db, fa, fb, _, rfl, ite2 (fun e => ⟨_, rfl, fin _ ?_⟩) (fun e => ⟨_, rfl, fin _ ?_⟩)⟩
    · rw [em, if_pos (of_decide_eq_true e)]
      exact db
    · rw [em, if_neg fun z => e (decide_eq_true z)]
      exact da
def lpD (ps : List Pr) : PyData := .tuple (prD ((1, 1), (1, 1)) :: ps.map prD)
def sp_worth (K : PySem.W.Frag) (n : Nat) : Sp := fun vs H Q _ => ∃ (vps vp : V) (ps : List Pr) (p : Part), vs = [vps, vp] ∧ DT K H vps (lpD ps) ∧ DT K H vp p.D ∧ WO ps p ∧ p.wd.cls = .value ∧ p.depth ≤ n ∧ ∀ v H', Same H H' → DT K H' v (frD (evV ps p)) → Q v H'
theorem worth_step (T : Top w K mg) {k n : Nat} (hk : 3 ≤ k) (ih : FnOk P w K mg base CX0 k T.a__law_worth T.d__law_worth ["prices", "value"] (sp_worth K n)) :
    FnOk P w K mg base CX0 (k + 1) T.a__law_worth T.d__law_worth ["prices", "value"] (sp_worth K (n + 1)) := by
  refine T._law_worth_F.ok sc__law_worth (fun vs H Q E h => ?_) (fun cdv A outer s H vs Q E hr h => ?_)
  · obtain ⟨_, _, _, _, rfl, _⟩ := h
    rfl
  · obtain ⟨vps, vp, ps, p, rfl, dps, dp, wo, cv, hd, fin⟩ := h
    obtain ⟨a, ls, kv, rfl, ha, dl, dks⟩ := dp.part_inv
    refine ⟨_, (pss_cons (ps_set (i := 2) sc__law_worth.nd rfl (Or.inl rfl) (pe_ix ix_tup (pv 1) pe_int (fun _ _ => rfl)))
      (pss_cons (ps_if (pt_cmpR op_eq (pv 2) pe_str (nomark _)) (pss_one (ps_ret (pe_ix ix_tup (pv 1) pe_int (fun _ _ => rfl)))) pss_nil)
      (pss_cons (ps_if (pt_cmpR (op_inT (un65 hr)) (pv 2) (pe_tup (pa_cons pe_str (pa_cons pe_str pa_nil))) (by rfl)) (pss_one (ps_ret (pe_ix ix_tup (pe_ix ix_tup (pv 0) (pe_ix ix_tup (pv 1) pe_int (fun _ _ => rfl)) (fun _ _ => rfl)) (pe_ifExp (pt_cmpR op_eq (pv 2) pe_str (nomark _)) pe_int pe_int) (fun _ _ => rfl)))) pss_nil)
      (pss_cons (ps_set (i := 3) sc__law_worth.nd rfl (Or.inl rfl) (pe_call ih (hr.mono (by omega)) (by rfl) T.g__law_worth T._law_worth_F.kp T._law_worth_b .nil pass0 (pa_cons (pv 0) (pa_cons (pe_ix ix_tup (pv 1) pe_int (fun _ _ => rfl)) pa_nil))))
      (pss_cons (ps_set (i := 4) sc__law_worth.nd rfl (Or.inl rfl) (pe_call ih (hr.mono (by omega)) (by rfl) T.g__law_worth T._law_worth_F.kp T._law_worth_b .nil pass0 (pa_cons (pv 0) (pa_cons (pe_ix ix_tup (pv 1) pe_int (fun _ _ => rfl)) pa_nil))))
      (pss_cons (ps_if (pt_cmpR op_eq (pv 2) pe_str (nomark _)) (pss_one (ps_ret (pe_call (ok__law_plus T) (hr.mono (by omega)) (by rfl) T.g__law_plus T._law_plus_F.kp T._law_plus_b .nil pass0 (pa_cons (pv 3) (pa_cons (pv 4) pa_nil))))) pss_nil)
      (pss_cons (ps_if (pt_cmpR op_eq (pv 2) pe_str (nomark _)) (pss_one (ps_ret (pe_call (ok__law_minus T) (hr.mono (by omega)) (by rfl) T.g__law_minus T._law_minus_F.kp T._law_minus_b .nil pass0 (pa_cons (pv 3) (pa_cons (pv 4) pa_nil))))) pss_nil)
      (pss_cons (ps_if (pt_cmpR op_eq (pv 2) pe_str (nomark _)) (pss_one (ps_ret (pe_call (ok__law_times T) (hr.mono (by omega)) (by rfl) T.g__law_times T._law_times_F.kp T._law_times_b .nil pass0 (pa_cons (pv 3) (pa_cons (pv 4) pa_nil))))) pss_nil)
      (pss_one (ps_ret (pe_ifExp (pt_cmpR op_eq (pv 2) pe_str (nomark _)) (pe_call (ok__law_min T) (hr.mono (by omega)) (by rfl) T.g__law_min T._law_min_F.kp T._law_min_b .nil pass0 (pa_cons (pv 3) (pa_cons (pv 4) pa_nil))) (pe_call (ok__law_max T) (hr.mono (by omega)) (by rfl) T.g__law_max T._law_max_F.kp T._law_max_b .nil pass0 (pa_cons (pv 3) (pa_cons (pv 4) pa_nil)))))))))))))), ?_⟩
    refine ⟨_, rfl, _, _, _, _, rfl, rfl, ha.sq, atI_nat (j := 0) rfl, ?_⟩
    have v0 := wo.val0
    cases p with
    | p0 x li =>
      rcases nc_p0 (show x.kn = li.kn from wo.wf) wo.nc with ⟨rfl, q, rfl⟩ | ⟨hx, jg⟩
      · obtain ⟨x0, rfl, dx0⟩ := dl.inv1
        cases dks
        refine ⟨_, rfl, rfl, _, rfl, if_true_of' (wd_yes _) ?_⟩
        exact ⟨_, rfl, _, _, _, _, rfl, rfl, ha.sq, atI_nat (j := 1) rfl, fin _ _ (Same.refl _) dx0⟩
      · obtain ⟨jg, rfl⟩ := jg
        obtain ⟨x0, rfl, dx0⟩ := dl.inv1
        cases dks
        cases dx0
        obtain ⟨j0, j1⟩ := wo.good0
        obtain ⟨j, rfl⟩ := Int.eq_ofNat_of_zero_le j0
        have hn : x ≠ .number := fun z => by rw [z] at hx; revert hx; decide
        refine ⟨_, rfl, rfl, _, rfl, if_false_of' (wd_no .number hn) ?_⟩
        refine ⟨_, rfl, two_le, fun p8 h8 => ?_⟩
        have s8 := same_new (o := .tup (B2.map fun x => V.str x.str)) h8
        refine ⟨_, B2.map fun x => PyData.str x.str, .str _, dts_l5 B2 upd_same, sh_wd _, sh_b2, _, rfl, ?_⟩
        rw [any_wd]
        refine if_true_of' (decide_eq_true hx) ?_
        obtain ⟨r, hr1, hr2⟩ := prF_at (ps := ps) x (j := j) (by omega)
        obtain ⟨ap, xp, rfl, hap, dxp⟩ := (dps.same s8).inv
        obtain ⟨xj, hxj, dxj⟩ := dxp.at_ hr1
        obtain ⟨ar, vb, vs', rfl, har, db, dsl⟩ := dxj.inv2
        refine ⟨_, rfl, _, rfl, _, _, _, _, rfl, rfl, (tp_same s8 ha).sq, atI_nat (j := 1) rfl, _, _, _, _, rfl, rfl, hap.sq, atI_nat hxj, ?_⟩
        by_cases hb : x = .buy
        · subst hb
          rw [if_pos rfl] at hr2
          refine ⟨_, rfl, rfl, _, rfl, if_true_of' (wd_yes _) ⟨_, _, _, _, rfl, rfl, har.sq, atI_nat (j := 0) rfl, fin _ _ s8 ?_⟩⟩
          show DT K _ vb (frD (prF ps .buy j))
          rw [hr2]
          exact db
        · rw [if_neg hb] at hr2
          refine ⟨_, rfl, rfl, _, rfl, if_false_of' (wd_no .buy hb) ⟨_, _, _, _, rfl, rfl, har.sq, atI_nat (j := 1) rfl, fin _ _ s8 ?_⟩⟩
          show DT K _ vs' (frD (prF ps x j))
          rw [hr2]
          exact dsl
    | p1 x li k1 =>
      have cv : x.cls = .value := cv
      obtain ⟨rfl, _, _⟩ := nc_p1 (show x.kn = li.kn ++ [k1.wd.cls] from wo.wf.1) wo.nc (cls_k3 _)
      cases cv
    | p2 x li k1 k2 =>
      have cv : x.cls = .value := cv
      rcases nc_p2 (show x.kn = li.kn ++ [k1.wd.cls, k2.wd.cls] from wo.wf.1) wo.nc with ⟨hk2, hna, c1, c2, rfl⟩ | ⟨rfl, _⟩
      · cases dl
        obtain ⟨y1, y2, rfl, d1, d2⟩ := dks.inv2
        have nn : x ≠ .number ∧ x ∉ B2 := by
          refine ⟨fun z => ?_, fun z => ?_⟩
          · rw [z] at hk2; cases hk2
          · rcases List.mem_cons.mp z with z | z
            · rw [z] at hk2; cases hk2
            · rw [List.mem_singleton.mp z] at hk2; cases hk2
        have wo1 := wo.kid (k := k1) (by simp [Part.ks])
        have wo2 := wo.kid (k := k2) (by simp [Part.ks])
        have hd : 1 + max k1.depth k2.depth ≤ n + 1 := hd
        refine ⟨_, rfl, rfl, _, rfl, if_false_of' (wd_no .number nn.1) ?_⟩
        refine ⟨_, rfl, two_le, fun p8 h8 => ?_⟩
        have s8 := same_new (o := .tup (B2.map fun x => V.str x.str)) h8
        refine ⟨_, B2.map fun x => PyData.str x.str, .str _, dts_l5 B2 upd_same, sh_wd _, sh_b2, _, rfl, ?_⟩
        rw [any_wd]
        refine if_false_of' (decide_eq_false nn.2) ?_
        refine ⟨_, rfl, _, rfl, _, _, _, _, rfl, rfl, (tp_same s8 ha).sq, atI_nat (j := 1) rfl, vps, y1, ps, k1, rfl, dps.same s8, d1.same s8, wo1, c1, by omega, fun v1 H1 s1 dv1 => ?_⟩
        have s81 := s8.trans s1
        refine ⟨_, rfl, _, rfl, _, _, _, _, rfl, rfl, (tp_same s81 ha).sq, atI_nat (j := 2) rfl, vps, y2, ps, k2, rfl, dps.same s81, d2.same s81, wo2, c2, by omega, fun v2 H2 s2 dv2 => ?_⟩
        have s82 := s81.trans s2
        have oa := wo1.val0
        have ob := wo2.val0
        have o3a := oa.mono (m := 3000) (by decide)
        have o3b := ob.mono (m := 3000) (by decide)
        have dv1 := dv1.same s2
        have fin2 : ∀ v H', Same H2 H' → DT K H' v (frD (jnV x (evV ps k1) (evV ps k2))) → Q v H' := fun v H' s' d' => fin v H' (s82.trans s') d'
        cases x with
        | plus =>
          refine ⟨_, rfl, rfl, _, rfl, if_true_of' (wd_yes _) ?_⟩
          exact ⟨_, rfl, _, rfl, v1, v2, _, _, 3000, rfl, dv1, dv2, o3a, o3b, by decide, fun v H' s f => fin2 v H' s f⟩
        | minus =>
          refine ⟨_, rfl, rfl, _, rfl, if_false_of' (wd_no .plus (fun z => nomatch z)) ?_⟩
          refine ⟨_, rfl, rfl, _, rfl, if_true_of' (wd_yes _) ?_⟩
          exact ⟨_, rfl, _, rfl, v1, v2, _, _, 3000, rfl, dv1, dv2, o3a, o3b, by decide, fun v H' s f => fin2 v H' s f⟩
        | times =>
          refine ⟨_, rfl, rfl, _, rfl, if_false_of' (wd_no .plus (fun z => nomatch z)) ?_⟩
          refine ⟨_, rfl, rfl, _, rfl, if_false_of' (wd_no .minus (fun z => nomatch z)) ?_⟩
          refine ⟨_, rfl, rfl, _, rfl, if_true_of' (wd_yes _) ?_⟩
          exact ⟨_, rfl, _, rfl, v1, v2, _, _, 3000, rfl, dv1, dv2, o3a, o3b, by decide, fun v H' s f => fin2 v H' s f⟩
        | least =>
          refine ⟨_, rfl, rfl, _, rfl, if_false_of' (wd_no .plus (fun z => nomatch z)) ?_⟩
          refine ⟨_, rfl, rfl, _, rfl, if_false_of' (wd_no .minus (fun z => nomatch z)) ?_⟩
          refine ⟨_, rfl, rfl, _, rfl, if_false_of' (wd_no .times (fun z => nomatch z)) ?_⟩
          refine ⟨_, rfl, rfl, _, rfl, if_true_of' (wd_yes _) ?_⟩
          exact ⟨_, rfl, _, rfl, v1, v2, _, _, rfl, dv1, dv2, oa, ob, fun v f => fin2 v _ (Same.refl _) f⟩
        | greatest =>
          refine ⟨_, rfl, rfl, _, rfl, if_false_of' (wd_no .plus (fun z => nomatch z)) ?_⟩
          refine ⟨_, rfl, rfl, _, rfl, if_false_of' (wd_no .minus (fun z => nomatch z)) ?_⟩
          refine ⟨_, rfl, rfl, _, rfl, if_false_of' (wd_no .times (fun z => nomatch z)) ?_⟩
          refine ⟨_, rfl, rfl, _, rfl, if_false_of' (wd_no .least (fun z => nomatch z)) ?_⟩
          exact ⟨_, rfl, _, rfl, v1, v2, _, _, rfl, dv1, dv2, oa, ob, fun v f => fin2 v _ (Same.refl _) f⟩
        | _ => first | exact absurd hk2 (by decide) | exact nomatch cv
      · cases cv
theorem worth_all (T : Top w K mg) : ∀ n : Nat, FnOk P w K mg base CX0 (n + 4) T.a__law_worth T.d__law_worth ["prices", "value"] (sp_worth K n)
  | 0 => ⟨fun _ _ _ _ ⟨_, _, _, p, _, _, _, _, _, h, _⟩ => by have := p.depth_pos; omega, fun _ _ _ _ _ _ _ _ _ _ _ _ _ ⟨_, _, _, p, _, _, _, _, _, h, _⟩ => by have := p.depth_pos; omega⟩
  | n + 1 => worth_step T (by omega) (worth_all T n)
theorem ok__law_worth (T : Top w K mg) : FnOk P w K mg base CX0 10 T.a__law_worth T.d__law_worth ["prices", "value"] (sp_worth K 6) := worth_all T 6
def sp_so (K : PySem.W.Frag) (n : Nat) : Sp := fun vs H Q _ => ∃ (vps vp : V) (ps : List Pr) (p : Part), vs = [vps, vp] ∧ DT K H vps (lpD ps) ∧ DT K H vp p.D ∧ WO ps p ∧ p.wd.cls = .condition ∧ p.depth ≤ n ∧ n ≤ 6 ∧ ∀ H', Same H H' → Q (.bl (evC ps p)) H'
theorem so_step (T : Top w K mg) {k n : Nat} (hk : 10 ≤ k) (ih : FnOk P w K mg base CX0 k T.a__law_so T.d__law_so ["prices", "condition"] (sp_so K n)) :
    FnOk P w K mg base CX0 (k + 1) T.a__law_so T.d__law_so ["prices", "condition"] (sp_so K (n + 1)) := by
  refine T._law_so_F.ok sc__law_so (fun vs H Q E h => ?_) (fun cdv A outer s H vs Q E hr h => ?_)
  · obtain ⟨_, _, _, _, rfl, _⟩ := h
    rfl
  · obtain ⟨vps, vp, ps, p, rfl, dps, dp, wo, cv, hd, hn6, fin⟩ := h
    obtain ⟨a, ls, kv, rfl, ha, dl, dks⟩ := dp.part_inv
    refine ⟨_, (pss_cons (ps_set (i := 2) sc__law_so.nd rfl (Or.inl rfl) (pe_ix ix_tup (pv 1) pe_int (fun _ _ => rfl)))
      (pss_cons (ps_if (pt_cmpR op_eq (pv 2) pe_str (nomark _)) (pss_one (ps_ret (pe_not (pe_call ih (hr.mono (by omega)) (by rfl) T.g__law_so T._law_so_F.kp T._law_so_b .nil pass0 (pa_cons (pv 0) (pa_cons (pe_ix ix_tup (pv 1) pe_int (fun _ _ => rfl)) pa_nil)))))) pss_nil)
      (pss_cons (ps_if (pt_cmpR op_eq (pv 2) pe_str (nomark _)) (pss_one (ps_ret (pe_and (pe_call ih (hr.mono (by omega)) (by rfl) T.g__law_so T._law_so_F.kp T._law_so_b .nil pass0 (pa_cons (pv 0) (pa_cons (pe_ix ix_tup (pv 1) pe_int (fun _ _ => rfl)) pa_nil))) (pe_one (pe_call ih (hr.mono (by omega)) (by rfl) T.g__law_so T._law_so_F.kp T._law_so_b .nil pass0 (pa_cons (pv 0) (pa_cons (pe_ix ix_tup (pv 1) pe_int (fun _ _ => rfl)) pa_nil))))))) pss_nil)
      (pss_cons (ps_set (i := 3) sc__law_so.nd rfl (Or.inl rfl) (pe_call (ok__law_worth T) (hr.mono (by omega)) (by rfl) T.g__law_worth T._law_worth_F.kp T._law_worth_b .nil pass0 (pa_cons (pv 0) (pa_cons (pe_ix ix_tup (pv 1) pe_int (fun _ _ => rfl)) pa_nil))))
      (pss_cons (ps_set (i := 4) sc__law_so.nd rfl (Or.inl rfl) (pe_call (ok__law_worth T) (hr.mono (by omega)) (by rfl) T.g__law_worth T._law_worth_F.kp T._law_worth_b .nil pass0 (pa_cons (pv 0) (pa_cons (pe_ix ix_tup (pv 1) pe_int (fun _ _ => rfl)) pa_nil))))
      (pss_one (ps_ret (pe_ifExp (pt_cmpR op_eq (pv 2) pe_str (nomark _)) (pe_call (ok__law_less T) (hr.mono (by omega)) (by rfl) T.g__law_less T._law_less_F.kp T._law_less_b .nil pass0 (pa_cons (pv 3) (pa_cons (pv 4) pa_nil))) (pe_cmpR (op_eqD hr.units) (pv 3) (pv 4) (nomark _)))))))))), ?_⟩
    refine ⟨_, rfl, _, _, _, _, rfl, rfl, ha.sq, atI_nat (j := 0) rfl, ?_⟩
    cases p with
    | p0 x li =>
      have cv : x.cls = .condition := cv
      rcases nc_p0 (show x.kn = li.kn from wo.wf) wo.nc with ⟨rfl, _⟩ | ⟨hx, _⟩
      · cases cv
      · rcases List.mem_cons.mp hx with rfl | hx
        · cases cv
        · rw [List.mem_singleton.mp hx] at cv; cases cv
    | p1 x li k1 =>
      obtain ⟨rfl, rfl, c1⟩ := nc_p1 (show x.kn = li.kn ++ [k1.wd.cls] from wo.wf.1) wo.nc (cls_k3 _)
      cases dl
      obtain ⟨y1, rfl, d1⟩ := dks.inv1
      have hd : 1 + k1.depth ≤ n + 1 := hd
      refine ⟨_, rfl, rfl, _, rfl, if_true_of' (wd_yes _) ?_⟩
      exact ⟨_, rfl, _, rfl, _, _, _, _, rfl, rfl, ha.sq, atI_nat (j := 1) rfl, vps, y1, ps, k1, rfl, dps, d1, wo.kid (by simp [Part.ks]), c1, by omega, by omega, fun H1 s1 => ⟨_, rfl, fin _ s1⟩⟩
    | p2 x li k1 k2 =>
      have cv : x.cls = .condition := cv
      have wo1 := wo.kid (k := k1) (by simp [Part.ks])
      have wo2 := wo.kid (k := k2) (by simp [Part.ks])
      have hd : 1 + max k1.depth k2.depth ≤ n + 1 := hd
      rcases nc_p2 (show x.kn = li.kn ++ [k1.wd.cls, k2.wd.cls] from wo.wf.1) wo.nc with ⟨hk2, hna, c1, c2, rfl⟩ | ⟨rfl, c1, c2, rfl⟩
      · cases dl
        obtain ⟨y1, y2, rfl, d1, d2⟩ := dks.inv2
        have nn : x ≠ .not_ := fun z => by rw [z] at hk2; cases hk2
        refine ⟨_, rfl, rfl, _, rfl, if_false_of' (wd_no .not_ nn) ?_⟩
        refine ⟨_, rfl, rfl, _, rfl, if_false_of' (wd_no .and_ hna) ?_⟩
        refine ⟨_, rfl, _, rfl, _, _, _, _, rfl, rfl, ha.sq, atI_nat (j := 1) rfl, vps, y1, ps, k1, rfl, dps, d1, wo1, c1, by omega, fun v1 H1 s1 dv1 => ?_⟩
        refine ⟨_, rfl, _, rfl, _, _, _, _, rfl, rfl, (tp_same s1 ha).sq, atI_nat (j := 2) rfl, vps, y2, ps, k2, rfl, dps.same s1, d2.same s1, wo2, c2, by omega, fun v2 H2 s2 dv2 => ?_⟩
        have oa := wo1.val0
        have ob := wo2.val0
        have fa := FB.of oa (by decide)
        have fb := FB.of ob (by decide)
        have dv1 := dv1.same s2
        have ev : evC ps (.p2 x .non k1 k2) = jnC x (evV ps k1) (evV ps k2) := if_neg hna
        rw [ev] at fin
        cases x with
        | less =>
          rw [jnC_less] at fin
          refine ⟨_, rfl, rfl, _, rfl, if_true_of' (wd_yes _) ?_⟩
          exact ⟨_, rfl, _, rfl, v1, v2, _, _, rfl, dv1, dv2, fa, fb, fin _ (s1.trans s2)⟩
        | same =>
          refine ⟨_, rfl, rfl, _, rfl, if_false_of' (wd_no .less (fun z => nomatch z)) ?_⟩
          refine ⟨_, rfl, _, rfl, _, _, dv1.dp, dv2.dp, (sh_fr _).shaped, (sh_fr _).shaped, ?_⟩
          rw [eqv_fr]
          exact fin _ (s1.trans s2)
        | _ => first | exact absurd hk2 (by decide) | exact nomatch cv
      · cases dl
        obtain ⟨y1, y2, rfl, d1, d2⟩ := dks.inv2
        refine ⟨_, rfl, rfl, _, rfl, if_false_of' (wd_no .not_ (fun z => nomatch z)) ?_⟩
        refine ⟨_, rfl, rfl, _, rfl, if_true_of' (wd_yes _) ?_⟩
        have ev : evC ps (.p2 .and_ .non k1 k2) = (evC ps k1 && evC ps k2) := if_pos rfl
        rw [ev] at fin
        refine ⟨_, rfl, _, rfl, _, _, _, _, rfl, rfl, ha.sq, atI_nat (j := 1) rfl, vps, y1, ps, k1, rfl, dps, d1, wo1, c1, by omega, by omega, fun H1 s1 => ⟨_, rfl, ?_⟩⟩
        cases h1 : evC ps k1 with
        | false =>
          rw [h1] at fin
          exact iteF (fin _ s1)
        | true =>
          rw [h1] at fin
          refine iteT ⟨_, rfl, _, rfl, _, _, _, _, rfl, rfl, (tp_same s1 ha).sq, atI_nat (j := 2) rfl, vps, y2, ps, k2, rfl, dps.same s1, d2.same s1, wo2, c2, by omega, by omega, fun H2 s2 => ?_⟩
          exact fin _ (s1.trans s2)
theorem so_all (T : Top w K mg) : ∀ n : Nat, FnOk P w K mg base CX0 (n + 10) T.a__law_so T.d__law_so ["prices", "condition"] (sp_so K n)
  | 0 => ⟨fun _ _ _ _ ⟨_, _, _, p, _, _, _, _, _, h, _⟩ => by have := p.depth_pos; omega, fun _ _ _ _ _ _ _ _ _ _ _ _ _ ⟨_, _, _, p, _, _, _, _, _, h, _⟩ => by have := p.depth_pos; omega⟩
  | n + 1 => so_step T (by omega) (so_all T n)
theorem ok__law_so (T : Top w K mg) : FnOk P w K mg base CX0 16 T.a__law_so T.d__law_so ["prices", "condition"] (sp_so K 6) := so_all T 6
end
end Nl

namespace Nl
open PySem PySem.Spec PyProof.Rows L2
section
variable {P : Program} {w : World} {K : PySem.W.Frag} {mg : Str → Option Value} {base : Heap}
def sp_faced (K : PySem.W.Frag) (N Z : Addr) : Sp := fun vs H Q E => ∃ (v va vc : V) (g : Int) (n : Node) (pt : List Int) (c : Part), vs = [v, va, vc] ∧ Mk K H v g n ∧ Good g n ∧ DT K H va (pathD pt) ∧ DT K H vc c.D ∧ c.WF ∧
  (Part.Bad g c → ∀ H', Same H H' → E (.ref Z) none H') ∧ (¬ Part.Bad g c → (find n pt = none → ∀ H', Same H H' → E (.ref N) none H') ∧
    ∀ m, find n pt = some m → PsOk g m.ps ∧ FC g c ∧ tb c ≤ 7900 ∧ ∀ v H', Same H H' → DT K H' v (faceF m.ps (pt.length : Int) c).D → Q v H')
theorem ok_faced (T : Top w K mg) : FnOk P w K mg base (L2.CX P w) 45 T.a_faced T.d_faced ["market", "path", "contract"] (sp_faced K T.c_MomentError T.c_ContractError) := by
  refine T.faced_F.okX sc_faced (fun vs H Q E h => ?_) (fun cdv A outer s H vs Q E hr h => ?_)
  · obtain ⟨_, _, _, _, _, _, _, rfl, _⟩ := h
    rfl
  · obtain ⟨v, va, vc, g, n, pt, c, rfl, M, G, dpt, dc, wf, kZ, kQ⟩ := h
    refine ⟨_, (pss_cons (ps_expr (pe_callS (ok_check_market T) (hr.mono (by decide : 3 ≤ 44)) rfl T.g_check_market T.check_market_F.kp T.check_market_b (fun σ => passAt (takes_of rfl rfl rfl rfl) σ) (pa_cons (pv 0) pa_nil)))
      (pss_cons (ps_expr (pe_callS (ok_check_contract T) (hr.mono (by decide : 3 ≤ 44)) rfl T.g_check_contract T.check_contract_F.kp T.check_contract_b (fun σ => passAt (takes_of rfl rfl rfl rfl) σ) (pa_cons (pe_ix ix_tup (pv 0) pe_int (fun _ _ => rfl)) (pa_cons (pv 2) pa_nil))))
      (pss_cons (ps_asg (pe_callS (ok_node_at T) (hr.mono (by decide : 1 ≤ 44)) rfl T.g_node_at T.node_at_F.kp T.node_at_b (fun σ => passAt (takes_of rfl rfl rfl rfl) σ) (pa_cons (pv 0) (pa_cons (pv 1) pa_nil))) (pg_tup rfl (pgs_cons (pg_name (i := 3) sc_faced.nd rfl (Or.inl rfl)) (pgs_cons (pg_name (i := 4) sc_faced.nd rfl (Or.inl rfl)) pgs_nil))))
      (pss_one (ps_ret (pe_call (ok_face T) (hr.mono (by decide : 44 ≤ 44)) (by rfl) T.g_face T.face_F.kp T.face_b .nil pass0 (pa_cons (pe_callB call_lenT (by rfl) T.n_len (by decide +kernel) (pa_cons (pv 1) pa_nil)) (pa_cons (pv 3) (pa_cons (pv 2) pa_nil))))))))), ?_⟩
    have g14 : 1 ≤ g ∧ g ≤ 4 := Decidable.byContradiction fun z => G.1 (.inl z)
    refine ⟨_, rfl, v, g, n, rfl, M.d, M.b, M.l, fun z => (G.1 z).elim, fun _ z => (G.2 z).elim, fun _ _ H1 s1 => ?_⟩
    have M1 := M.same s1
    obtain ⟨am, vn, rfl, ham, dn⟩ := id M1.d.market_inv
    refine ⟨_, rfl, _, _, _, _, rfl, rfl, ham.sq, atI_nat (j := 0) rfl, _, rfl, g, vc, c, rfl, dc.same s1, wf, fun z H2 s2 => kZ z _ (s1.trans s2), fun nb H2 s2 => ?_⟩
    obtain ⟨kN, kF⟩ := kQ nb
    have s12 := s1.trans s2
    have M2 := M1.same s2
    obtain ⟨ap, rfl, hap⟩ := id dpt.path_inv
    refine ⟨_, rfl, _, rfl, .ref am, .ref ap, g, n, pt, rfl, M2.d, dpt.same s12, fun z => kN z _ s12, fun m hm vnode dnode => ?_⟩
    obtain ⟨po, fc, tbc, fin⟩ := kF m hm
    obtain ⟨an, vps, vks, rfl, han, dps, dks⟩ := dnode.node_inv
    refine ⟨_, _, rfl, han.sq, rfl, _, _, rfl, _, _, rfl, rfl, ?_⟩
    have dep : c.depth ≤ 20 := Decidable.byContradiction fun z => nb (.inr (.inl (by omega)))
    refine ⟨_, rfl, ap, _, rfl, (tp_same s12 hap).sq, _, rfl, _, rfl, ?_⟩
    rw [List.length_map]
    exact ⟨(pt.length : Int), vps, vc, g, m.ps, c, ⟨rfl, dps, dc.same s12, po, g14.1, g14.2, fc, dep, tbc, fun v H' s d => fin v H' (s12.trans s) d⟩⟩
/-! ### the law's own -/
def sp_into (K : PySem.W.Frag) : Sp := fun vs H Q _ => ∃ (vf vb vh : V) (told : Told) (f : Part → Part) (db dh : List PyData), vs = [vf, vb, vh] ∧ DT K H vf told.D ∧ DT K H vb (.tuple db) ∧ DT K H vh (.tuple dh) ∧ db.length ≤ 10 ∧ dh.length ≤ 10 ∧ (∀ c, (f c).D = .tuple (db ++ [c.D] ++ dh)) ∧ ∀ v H', Same H H' → DT K H' v (told.map f).D → Q v H'
theorem ok__law_into (T : Top w K mg) : FnOk P w K mg base CX0 1 T.a__law_into T.d__law_into ["found", "before", "behind"] (sp_into K) := by
  refine T._law_into_F.ok sc__law_into (fun vs H Q E h => ?_) (fun cdv A outer s H vs Q E hr h => ?_)
  · obtain ⟨_, _, _, _, _, _, _, rfl, _⟩ := h
    rfl
  · obtain ⟨vf, vb, vh, told, f, db, dh, rfl, dt, dvb, dvh, lb, lh, hf, fin⟩ := h
    obtain ⟨ab, xb, rfl, hb, dxb⟩ := id dvb.inv
    obtain ⟨ah, xh, rfl, hh, dxh⟩ := id dvh.inv
    have lxb : xb.length ≤ 10 := by rw [dxb.len]; exact lb
    have lxh : xh.length ≤ 10 := by rw [dxh.len]; exact lh
    refine ⟨_, (pss_cons (ps_if (pt_cmpR op_eq (pe_ix ix_tup (pv 0) pe_int (fun _ _ => rfl)) pe_str (nomark _)) (pss_one (ps_ret (pe_tup (pa_cons pe_str (pa_cons (pe_ix ix_tup (pv 0) pe_int (fun _ _ => rfl)) (pa_cons (pe_op op_catP (pe_op op_catP (pv 1) (pe_tup (pa_cons (pe_ix ix_tup (pv 0) pe_int (fun _ _ => rfl)) pa_nil))) (pv 2)) (pa_cons (pe_op op_catP (pe_op op_catP (pv 1) (pe_tup (pa_cons (pe_ix ix_tup (pv 0) pe_int (fun _ _ => rfl)) pa_nil))) (pv 2)) pa_nil))))))) pss_nil)
      (pss_one (ps_ret (pe_tup (pa_cons pe_str (pa_cons (pe_ix ix_tup (pv 0) pe_int (fun _ _ => rfl)) (pa_cons (pe_op op_catP (pe_op op_catP (pv 1) (pe_tup (pa_cons (pe_ix ix_tup (pv 0) pe_int (fun _ _ => rfl)) pa_nil))) (pv 2)) pa_nil))))))), ?_⟩
    have cat : ∀ {x : V} {c : Part} {H1 : Hp} {q : Addr}, Same H H1 → DT K H1 x c.D → Tp H1 q (xb ++ [x] ++ xh) → DT K H1 (.ref q) (f c).D := fun {x c H1 q} s d h => by
      rw [hf]
      exact .tup h (((dxb.same s).app (.cons d .nil)).app (dxh.same s))
    cases told with
    | ask sd c d =>
      obtain ⟨at', x, y, rfl, hat, dx, dy⟩ := dt.ask_inv
      refine ⟨_, rfl, _, _, _, _, rfl, rfl, hat.sq, atI_nat (j := 0) rfl, rfl, _, rfl, if_true_of' ask_ask ?_⟩
      refine ⟨_, rfl, _, _, _, _, rfl, rfl, hat.sq, atI_nat (j := 1) rfl, ?_⟩
      refine ⟨_, rfl, _, rfl, _, _, _, _, rfl, rfl, hat.sq, atI_nat (j := 2) rfl, (by decide : 1 ≤ sizeLine), fun p1 h1 => ?_⟩
      have t1 := same_new (o := .tup [x]) h1
      refine ⟨ab, p1, xb, [x], rfl, rfl, tp_same t1 hb, Tp.of upd_same, len1000 (by simp; omega), fun q2 H2 s2 hq2 => ?_⟩
      refine ⟨_, rfl, q2, ah, _, xh, rfl, rfl, hq2, tp_same s2 (tp_same t1 hh), len1000 (by simp; omega), fun q3 H3 s3 hq3 => ?_⟩
      have s13 := (t1.trans s2).trans s3
      refine ⟨_, rfl, _, rfl, _, _, _, _, rfl, rfl, (tp_same s13 hat).sq, atI_nat (j := 3) rfl, (by decide : 1 ≤ sizeLine), fun p4 h4 => ?_⟩
      have t4 := same_new (o := .tup [y]) h4
      have s14 := s13.trans t4
      refine ⟨ab, p4, xb, [y], rfl, rfl, tp_same s14 hb, Tp.of upd_same, len1000 (by simp; omega), fun q5 H5 s5 hq5 => ?_⟩
      refine ⟨_, rfl, q5, ah, _, xh, rfl, rfl, hq5, tp_same s5 (tp_same s14 hh), len1000 (by simp; omega), fun q6 H6 s6 hq6 => ⟨(by decide : 4 ≤ sizeLine), fun p7 h7 => ?_⟩⟩
      have s16 := (s14.trans s5).trans s6
      have t7 := same_new (o := .tup [V.str "ask", V.str (sideS sd), V.ref q3, V.ref q6]) h7
      have s36 := (t4.trans s5).trans s6
      exact fin _ _ (s16.trans t7) (DT.ask (Tp.of upd_same) (((cat s13 (dx.same s13) hq3).same s36).same t7) ((cat s16 (dy.same s16) hq6).same t7))
    | pay am r =>
      obtain ⟨at', x, y, rfl, hat, dx, dy⟩ := dt.pay_inv
      refine ⟨_, rfl, _, _, _, _, rfl, rfl, hat.sq, atI_nat (j := 0) rfl, rfl, _, rfl, if_false_of' pay_ask ?_⟩
      refine ⟨_, rfl, _, _, _, _, rfl, rfl, hat.sq, atI_nat (j := 1) rfl, ?_⟩
      refine ⟨_, rfl, _, rfl, _, _, _, _, rfl, rfl, hat.sq, atI_nat (j := 2) rfl, (by decide : 1 ≤ sizeLine), fun p1 h1 => ?_⟩
      have t1 := same_new (o := .tup [y]) h1
      refine ⟨ab, p1, xb, [y], rfl, rfl, tp_same t1 hb, Tp.of upd_same, len1000 (by simp; omega), fun q2 H2 s2 hq2 => ?_⟩
      refine ⟨_, rfl, q2, ah, _, xh, rfl, rfl, hq2, tp_same s2 (tp_same t1 hh), len1000 (by simp; omega), fun q3 H3 s3 hq3 => ⟨(by decide : 3 ≤ sizeLine), fun p7 h7 => ?_⟩⟩
      have s13 := (t1.trans s2).trans s3
      have t7 := same_new (o := .tup [V.str "pay", x, V.ref q3]) h7
      exact fin _ _ (s13.trans t7) (DT.pay (Tp.of upd_same) ((dx.same s13).same t7) ((cat s13 (dy.same s13) hq3).same t7))
def sp_lidle (K : PySem.W.Frag) : Sp := fun vs H Q _ => ∃ (vl : V) (n : Nat) (l : Part), vs = [.int (n : Int), vl] ∧ 1 ≤ n ∧ n ≤ 10 ∧ DT K H vl l.D ∧ ∀ v H', Same H H' → DT K H' v (Told.pay (zeroF n) l).D → Q v H'
theorem ok__law_idle (T : Top w K mg) : FnOk P w K mg base CX0 1 T.a__law_idle T.d__law_idle ["goods", "contract"] (sp_lidle K) := by
  refine T._law_idle_F.ok sc__law_idle (fun vs H Q E h => ?_) (fun cdv A outer s H vs Q E hr h => ?_)
  · obtain ⟨_, _, _, rfl, _⟩ := h
    rfl
  · obtain ⟨vl, n, l, rfl, n1, n10, dl, fin⟩ := h
    refine ⟨_, (pss_one (ps_ret (pe_tup (pa_cons pe_str (pa_cons (pe_op op_repK (pe_tup (pa_cons (pe_tup (pa_cons pe_int (pa_cons pe_int pa_nil))) pa_nil)) (pv 0)) (pa_cons (pv 1) pa_nil)))))), ?_⟩
    refine ⟨two_le, fun p1 h1 => ⟨(by decide : 1 ≤ sizeLine), fun p2 h2 => ?_⟩⟩
    have s1 := same_new (o := .tup [V.int 0, V.int 1]) h1
    have s2 := s1.trans (same_new (o := .tup [V.ref p1]) h2)
    have d0 : DT K (upd (upd H p1 (.tup [V.int 0, V.int 1])) p2 (.tup [V.ref p1])) (.ref p1) (frD (0, 1)) := DT.fr (q := (0, 1)) (Tp.of (same_new h2 _ _ upd_same))
    refine ⟨_, rfl, p2, _, _, rfl, rfl, Tp.of upd_same, by simp, by omega, by omega, (by decide : 1 ≤ 1000), fun q H3 s3 hq => ?_⟩
    refine ⟨_, rfl, (by decide : 3 ≤ sizeLine), fun p4 h4 => ?_⟩
    have s4 := same_new (o := .tup [V.str "pay", V.ref q, vl]) h4
    rw [Int.toNat_natCast] at hq
    refine fin _ _ ((s2.trans s3).trans s4) (DT.pay (Tp.of upd_same) (.tup (tp_same s4 hq) ?_) (((dl.same s2).same s3).same s4))
    have er : (List.replicate n [V.ref p1]).flatten = List.replicate n (V.ref p1) := by simp
    rw [er]
    unfold zeroF
    rw [List.map_replicate]
    exact dts_rep ((d0.same s3).same s4) _
structure LFaceP (K : PySem.W.Frag) (n : Nat) (vs : List V) (H : Hp) (Q : VK) (t : Int) (vps vc : V) (g : Int) (ps : List Pr) (c : Part) : Prop where
  vs : vs = [vps, .int t, vc]
  dps : DT K H vps (lpD ps)
  dc : DT K H vc c.D
  po : PsOk g ps
  g1 : 1 ≤ g
  g4 : g ≤ 4
  fc : FC g c
  dep : c.depth ≤ n
  tb : tb c ≤ 7900
  fin : ∀ v H', Same H H' → DT K H' v (faceF ps t c).D → Q v H'
def sp_lface (K : PySem.W.Frag) (n : Nat) : Sp := fun vs H Q _ => ∃ (t : Int) (vps vc : V) (g : Int) (ps : List Pr) (c : Part), LFaceP K n vs H Q t vps vc g ps c
theorem oneF_at {n j i : Nat} (h : i < n) : (oneF n (j : Int))[i]? = some (if i = j then (1, 1) else (0, 1)) := by
  unfold oneF zeroF
  rw [Int.toNat_natCast, List.getElem?_set]
  by_cases e : j = i
  · subst e
    simp [h]
  · rw [if_neg e, if_neg (fun z => e z.symm), List.getElem?_replicate, if_pos h]
theorem lface_step (T : Top w K mg) {k n : Nat} (hk : 16 ≤ k) (ih : FnOk P w K mg base CX0 k T.a__law_faced T.d__law_faced ["prices", "time", "contract"] (sp_lface K n)) :
    FnOk P w K mg base CX0 (k + 1) T.a__law_faced T.d__law_faced ["prices", "time", "contract"] (sp_lface K (n + 1)) := by
  refine T._law_faced_F.ok sc__law_faced (fun vs H Q E h => ?_) (fun cdv A outer s H vs Q E hr h => ?_)
  · obtain ⟨_, _, _, _, _, _, h⟩ := h
    rw [h.vs]
    rfl
  · obtain ⟨t, vps, vc, g, ps, c, h⟩ := h
    obtain ⟨rfl, dps, dc, po, g1, g4, fc, dep, tbc, fin⟩ := id h
    have plen := po.len
    obtain ⟨ap, xp, rfl, hap, dxp⟩ := id dps.inv
    have lxp : xp.length = ps.length + 1 := by rw [dxp.len, List.length_cons, List.length_map]
    obtain ⟨ac, ls, kv, rfl, hac, dl, dks⟩ := id dc.part_inv
    refine ⟨_, (pss_cons (ps_set (i := 3) sc__law_faced.nd rfl (Or.inl rfl) (pe_callB call_lenT (by rfl) T.n_len (by decide +kernel) (pa_cons (pv 0) pa_nil)))
      (pss_cons (ps_set (i := 4) sc__law_faced.nd rfl (Or.inl rfl) (pe_ix ix_tup (pv 2) pe_int (fun _ _ => rfl)))
      (pss_cons (ps_if (pt_cmpR op_eq (pv 4) pe_str (nomark _)) (pss_one (ps_ret (pe_call (ok__law_idle T) (hr.mono (by omega)) (by rfl) T.g__law_idle T._law_idle_F.kp T._law_idle_b .nil pass0 (pa_cons (pv 3) (pa_cons (pv 2) pa_nil))))) pss_nil)
      (pss_cons (ps_if (pt_cmpR op_eq (pv 4) pe_str (nomark _)) (pss_one (ps_ret (pe_tup (pa_cons pe_str (pa_cons (pe_callTy call_tupL (by rfl) T.n_tuple (by decide +kernel) (pa_cons (pe_lc (own := [("k", 10)]) (g := (gName 10)) (tt := tYes) (by rfl) sc__law_faced.nd (pi_range1 rfl T.n_range (pa_cons (pv 3) pa_nil)) (blkOk_by (own := [("k", 10)]) (N := ["prices", "time", "contract", "goods", "word", "found", "one", "other", "inner", "number", "k", "a"]) (sc := defScope s__law_faced) (by decide +kernel)) (fun _ _ _ _ _ => (pg_name (i := 10) sc__law_faced.nd rfl (Or.inl rfl))) (fun _ _ _ _ _ => pts_nil) (fun _ _ _ _ _ => (pe_ifExp (pt_cmpR op_eq (pv 10) (pe_ix (r := rIxT K) ix_tup (pv 2) pe_int (fun _ _ => rfl)) (nomark _)) (pe_tup (pa_cons pe_int (pa_cons pe_int pa_nil))) (pe_tup (pa_cons pe_int (pa_cons pe_int pa_nil)))))) pa_nil)) (pa_cons (pe_tup (pa_cons pe_str pa_nil)) pa_nil)))))) pss_nil)
      (pss_cons (ps_if (pt_cmpR op_eq (pv 4) pe_str (nomark _)) (pss_one (ps_ret (pe_call (ok__law_idle T) (hr.mono (by omega)) (by rfl) T.g__law_idle T._law_idle_F.kp T._law_idle_b .nil pass0 (pa_cons (pv 3) (pa_cons (pe_ix ix_tup (pv 2) pe_int (fun _ _ => rfl)) pa_nil))))) pss_nil)
      (pss_cons (ps_if (pt_cmpR op_eq (pv 4) pe_str (nomark _)) (pss_one (ps_ret (pe_tup (pa_cons pe_str (pa_cons pe_str (pa_cons (pe_ix ix_tup (pv 2) pe_int (fun _ _ => rfl)) (pa_cons (pe_ix ix_tup (pv 2) pe_int (fun _ _ => rfl)) pa_nil))))))) pss_nil)
      (pss_cons (ps_if (pt_cmpR op_eq (pv 4) pe_str (nomark _)) (pss_cons (ps_set (i := 5) sc__law_faced.nd rfl (Or.inl rfl) (pe_call ih (hr.mono (by omega)) (by rfl) T.g__law_faced T._law_faced_F.kp T._law_faced_b .nil pass0 (pa_cons (pv 0) (pa_cons (pv 1) (pa_cons (pe_ix ix_tup (pv 2) pe_int (fun _ _ => rfl)) pa_nil)))))
      (pss_cons (ps_if (pt_cmpR op_eq (pe_ix ix_tup (pv 5) pe_int (fun _ _ => rfl)) pe_str (nomark _)) (pss_one (ps_ret (pe_tup (pa_cons pe_str (pa_cons (pe_ifExp (pt_cmpR op_eq (pe_ix ix_tup (pv 5) pe_int (fun _ _ => rfl)) pe_str (nomark _)) pe_str pe_str) (pa_cons (pe_tup (pa_cons pe_str (pa_cons (pe_ix ix_tup (pv 5) pe_int (fun _ _ => rfl)) pa_nil))) (pa_cons (pe_tup (pa_cons pe_str (pa_cons (pe_ix ix_tup (pv 5) pe_int (fun _ _ => rfl)) pa_nil))) pa_nil))))))) pss_nil)
      (pss_one (ps_ret (pe_tup (pa_cons pe_str (pa_cons (pe_callTy call_tupL (by rfl) T.n_tuple (by decide +kernel) (pa_cons (pe_lc (own := [("a", 11)]) (g := (gName 11)) (tt := tYes) (by rfl) sc__law_faced.nd (pi_tup (pe_ix ix_tup (pv 5) pe_int (fun _ _ => rfl))) (blkOk_by (own := [("a", 11)]) (N := ["prices", "time", "contract", "goods", "word", "found", "one", "other", "inner", "number", "k", "a"]) (sc := defScope s__law_faced) (by decide +kernel)) (fun _ _ _ _ _ => (pg_name (i := 11) sc__law_faced.nd rfl (Or.inl rfl))) (fun _ _ _ _ _ => pts_nil) (fun _ _ _ _ _ => (pe_tup (pa_cons (pe_op op_sub pe_int (pe_ix (r := rIxT K) ix_tup (pv 11) pe_int (fun _ _ => rfl))) (pa_cons (pe_ix (r := rIxT K) ix_tup (pv 11) pe_int (fun _ _ => rfl)) pa_nil))))) pa_nil)) (pa_cons (pe_tup (pa_cons pe_str (pa_cons (pe_ix ix_tup (pv 5) pe_int (fun _ _ => rfl)) pa_nil))) pa_nil)))))))) pss_nil)
      (pss_cons (ps_if (pt_cmpR op_eq (pv 4) pe_str (nomark _)) (pss_cons (ps_set (i := 6) sc__law_faced.nd rfl (Or.inr rfl) (pe_call ih (hr.mono (by omega)) (by rfl) T.g__law_faced T._law_faced_F.kp T._law_faced_b .nil pass0 (pa_cons (pv 0) (pa_cons (pv 1) (pa_cons (pe_ix ix_tup (pv 2) pe_int (fun _ _ => rfl)) pa_nil)))))
      (pss_cons (ps_if (pt_cmpR op_eq (pe_ix ix_tup (pv 6) pe_int (fun _ _ => rfl)) pe_str (nomark _)) (pss_one (ps_ret (pe_call (ok__law_into T) (hr.mono (by omega)) (by rfl) T.g__law_into T._law_into_F.kp T._law_into_b .nil pass0 (pa_cons (pv 6) (pa_cons (pe_tup (pa_cons pe_str pa_nil)) (pa_cons (pe_tup (pa_cons (pe_ix ix_tup (pv 2) pe_int (fun _ _ => rfl)) pa_nil)) pa_nil)))))) pss_nil)
      (pss_cons (ps_set (i := 7) sc__law_faced.nd rfl (Or.inr rfl) (pe_call ih (hr.mono (by omega)) (by rfl) T.g__law_faced T._law_faced_F.kp T._law_faced_b .nil pass0 (pa_cons (pv 0) (pa_cons (pv 1) (pa_cons (pe_ix ix_tup (pv 2) pe_int (fun _ _ => rfl)) pa_nil)))))
      (pss_cons (ps_if (pt_cmpR op_eq (pe_ix ix_tup (pv 7) pe_int (fun _ _ => rfl)) pe_str (nomark _)) (pss_one (ps_ret (pe_call (ok__law_into T) (hr.mono (by omega)) (by rfl) T.g__law_into T._law_into_F.kp T._law_into_b .nil pass0 (pa_cons (pv 7) (pa_cons (pe_tup (pa_cons pe_str (pa_cons (pe_ix ix_tup (pv 2) pe_int (fun _ _ => rfl)) pa_nil))) (pa_cons (pe_tup pa_nil) pa_nil)))))) pss_nil)
      (pss_one (ps_ret (pe_tup (pa_cons pe_str (pa_cons (pe_callTy call_tupL (by rfl) T.n_tuple (by decide +kernel) (pa_cons (pe_lc (own := [("k", 10)]) (g := (gName 10)) (tt := tYes) (by rfl) sc__law_faced.nd (pi_range1 rfl T.n_range (pa_cons (pv 3) pa_nil)) (blkOk_by (own := [("k", 10)]) (N := ["prices", "time", "contract", "goods", "word", "found", "one", "other", "inner", "number", "k", "a"]) (sc := defScope s__law_faced) (by decide +kernel)) (fun _ _ _ _ _ => (pg_name (i := 10) sc__law_faced.nd rfl (Or.inl rfl))) (fun _ _ _ _ _ => pts_nil) (fun _ _ _ _ _ => (pe_call (ok__law_plusB T) (hr.mono (by omega)) (by rfl) T.g__law_plus T._law_plus_F.kp T._law_plus_b .nil pass0 (pa_cons (pe_ix (r := rIxT K) ix_tup (pe_ix (r := rIxT K) ix_tup (pv 6) pe_int (fun _ _ => rfl)) (pv 10) (fun _ _ => rfl)) (pa_cons (pe_ix (r := rIxT K) ix_tup (pe_ix (r := rIxT K) ix_tup (pv 7) pe_int (fun _ _ => rfl)) (pv 10) (fun _ _ => rfl)) pa_nil))))) pa_nil)) (pa_cons (pe_tup (pa_cons pe_str (pa_cons (pe_ix ix_tup (pv 6) pe_int (fun _ _ => rfl)) (pa_cons (pe_ix ix_tup (pv 7) pe_int (fun _ _ => rfl)) pa_nil)))) pa_nil)))))))))) pss_nil)
      (pss_cons (ps_set (i := 8) sc__law_faced.nd rfl (Or.inl rfl) (pe_ix ix_tup (pv 2) pe_int (fun _ _ => rfl)))
      (pss_cons (ps_if (pt_cmpR op_eq (pv 4) pe_str (nomark _)) (pss_cons (ps_set (i := 5) sc__law_faced.nd rfl (Or.inl rfl) (pe_call ih (hr.mono (by omega)) (by rfl) T.g__law_faced T._law_faced_F.kp T._law_faced_b .nil pass0 (pa_cons (pv 0) (pa_cons (pv 1) (pa_cons (pv 8) pa_nil)))))
      (pss_cons (ps_if (pt_cmpR op_eq (pe_ix ix_tup (pv 5) pe_int (fun _ _ => rfl)) pe_str (nomark _)) (pss_one (ps_ret (pe_call (ok__law_into T) (hr.mono (by omega)) (by rfl) T.g__law_into T._law_into_F.kp T._law_into_b .nil pass0 (pa_cons (pv 5) (pa_cons (pe_tup (pa_cons pe_str (pa_cons (pe_ix ix_tup (pv 2) pe_int (fun _ _ => rfl)) pa_nil))) (pa_cons (pe_tup pa_nil) pa_nil)))))) pss_nil)
      (pss_cons (ps_set (i := 9) sc__law_faced.nd rfl (Or.inr rfl) (pe_call (ok__law_worth T) (hr.mono (by omega)) (by rfl) T.g__law_worth T._law_worth_F.kp T._law_worth_b .nil pass0 (pa_cons (pv 0) (pa_cons (pe_ix ix_tup (pv 2) pe_int (fun _ _ => rfl)) pa_nil))))
      (pss_one (ps_ret (pe_tup (pa_cons pe_str (pa_cons (pe_callTy call_tupL (by rfl) T.n_tuple (by decide +kernel) (pa_cons (pe_lc (own := [("a", 11)]) (g := (gName 11)) (tt := tYes) (by rfl) sc__law_faced.nd (pi_tup (pe_ix ix_tup (pv 5) pe_int (fun _ _ => rfl))) (blkOk_by (own := [("a", 11)]) (N := ["prices", "time", "contract", "goods", "word", "found", "one", "other", "inner", "number", "k", "a"]) (sc := defScope s__law_faced) (by decide +kernel)) (fun _ _ _ _ _ => (pg_name (i := 11) sc__law_faced.nd rfl (Or.inl rfl))) (fun _ _ _ _ _ => pts_nil) (fun _ _ _ _ _ => (pe_call (ok__law_timesB T) (hr.mono (by omega)) (by rfl) T.g__law_times T._law_times_F.kp T._law_times_b .nil pass0 (pa_cons (pv 11) (pa_cons (pv 9) pa_nil))))) pa_nil)) (pa_cons (pe_tup (pa_cons pe_str (pa_cons (pe_tup (pa_cons pe_str (pa_cons (pv 9) pa_nil))) (pa_cons (pe_ix ix_tup (pv 5) pe_int (fun _ _ => rfl)) pa_nil)))) pa_nil))))))))) pss_nil)
      (pss_cons (ps_if (pt_cmpR op_eq (pv 4) pe_str (nomark _)) (pss_one (ps_ret (pe_ifExp (pt_val (pe_call (ok__law_so T) (hr.mono (by omega)) (by rfl) T.g__law_so T._law_so_F.kp T._law_so_b .nil pass0 (pa_cons (pv 0) (pa_cons (pe_ix ix_tup (pv 2) pe_int (fun _ _ => rfl)) pa_nil)))) (pe_call ih (hr.mono (by omega)) (by rfl) T.g__law_faced T._law_faced_F.kp T._law_faced_b .nil pass0 (pa_cons (pv 0) (pa_cons (pv 1) (pa_cons (pv 8) pa_nil)))) (pe_call (ok__law_idle T) (hr.mono (by omega)) (by rfl) T.g__law_idle T._law_idle_F.kp T._law_idle_b .nil pass0 (pa_cons (pv 3) (pa_cons (pv 2) pa_nil)))))) pss_nil)
      (pss_cons (ps_if (pt_cmpR op_eq (pv 4) pe_str (nomark _)) (pss_cons (ps_if (pt_val (pe_call (ok__law_so T) (hr.mono (by omega)) (by rfl) T.g__law_so T._law_so_F.kp T._law_so_b .nil pass0 (pa_cons (pv 0) (pa_cons (pe_ix ix_tup (pv 2) pe_int (fun _ _ => rfl)) pa_nil)))) (pss_one (ps_ret (pe_call (ok__law_idle T) (hr.mono (by omega)) (by rfl) T.g__law_idle T._law_idle_F.kp T._law_idle_b .nil pass0 (pa_cons (pv 3) (pa_cons (pe_tup (pa_cons pe_str pa_nil)) pa_nil))))) pss_nil)
      (pss_one (ps_ret (pe_call (ok__law_into T) (hr.mono (by omega)) (by rfl) T.g__law_into T._law_into_F.kp T._law_into_b .nil pass0 (pa_cons (pe_call ih (hr.mono (by omega)) (by rfl) T.g__law_faced T._law_faced_F.kp T._law_faced_b .nil pass0 (pa_cons (pv 0) (pa_cons (pv 1) (pa_cons (pv 8) pa_nil)))) (pa_cons (pe_tup (pa_cons pe_str (pa_cons (pe_ix ix_tup (pv 2) pe_int (fun _ _ => rfl)) pa_nil))) (pa_cons (pe_tup pa_nil) pa_nil))))))) pss_nil)
      (pss_cons (ps_if (pt_cmpR op_gt (pv 1) (pe_ix ix_tup (pv 2) pe_int (fun _ _ => rfl)) (nomark _)) (pss_one (ps_ret (pe_call (ok__law_idle T) (hr.mono (by omega)) (by rfl) T.g__law_idle T._law_idle_F.kp T._law_idle_b .nil pass0 (pa_cons (pv 3) (pa_cons (pe_tup (pa_cons pe_str pa_nil)) pa_nil))))) pss_nil)
      (pss_cons (ps_if (pt_cmpR op_eq (pv 4) pe_str (nomark _)) (pss_one (ps_ret (pe_tup (pa_cons pe_str (pa_cons pe_str (pa_cons (pv 8) (pa_cons (pe_tup (pa_cons pe_str (pa_cons (pv 2) pa_nil))) pa_nil))))))) pss_nil)
      (pss_one (ps_ret (pe_ifExp (pt_cmpR op_eq (pv 1) (pe_ix ix_tup (pv 2) pe_int (fun _ _ => rfl)) (nomark _)) (pe_call ih (hr.mono (by omega)) (by rfl) T.g__law_faced T._law_faced_F.kp T._law_faced_b .nil pass0 (pa_cons (pv 0) (pa_cons (pv 1) (pa_cons (pv 8) pa_nil)))) (pe_call (ok__law_idle T) (hr.mono (by omega)) (by rfl) T.g__law_idle T._law_idle_F.kp T._law_idle_b .nil pass0 (pa_cons (pv 3) (pa_cons (pv 2) pa_nil)))))))))))))))))))), ?_⟩
    refine ⟨_, rfl, ap, xp, rfl, hap.sq, ?_⟩
    rw [lxp]
    refine ⟨_, rfl, _, _, _, _, rfl, rfl, hac.sq, atI_nat (j := 0) rfl, ?_⟩
    generalize hx : c.wd = x at *
    cases x with
    | nothing =>
      have ec := fcd_noth fc hx
      subst ec
      refine ⟨_, rfl, rfl, _, rfl, if_true_of' (wd_yes _) ?_⟩
      exact ⟨_, rfl, _, rfl, .ref ac, ps.length + 1, noth, rfl, by omega, by omega, dc, fin⟩
    | one =>
      obtain ⟨j, rfl, j0, j1⟩ := fcd_one fc hx
      obtain ⟨x0, rfl, dx0⟩ := dl.inv1
      cases dks
      cases dx0
      obtain ⟨j, rfl⟩ := Int.eq_ofNat_of_zero_le j0
      refine ⟨_, rfl, rfl, _, rfl, if_false_of' (wd_no .nothing (fun z => nomatch z)) ?_⟩
      refine ⟨_, rfl, rfl, _, rfl, if_true_of' (wd_yes _) ?_⟩
      refine ⟨_, rfl, _, rfl, by omega, by omega, fun D hD => lc_range (lo := 0) (n := ((ps.length + 1 : Nat) : Int).toNat) (fun i H' => Same H H' ∧ ∃ o, H' D = some (.lst o) ∧ DTs K H' o (((oneF (ps.length + 1) (j : Int)).take i).map frD)) ⟨same_new hD, [], upd_same, .nil⟩ ?_ ?_⟩
      · rintro i H' hi ⟨sm, o, hO, dO⟩
        refine ⟨rfl, ?_⟩
        dsimp only [tYes]
        rw [if_pos rfl]
        have hi' : i < ps.length + 1 := by omega
        have ho := oneF_at (j := j) hi'
        have lo : o.length ≤ 10 := by
          rw [dO.len, List.length_map, List.length_take]
          omega
        refine ⟨_, rfl, _, rfl, _, _, _, _, rfl, rfl, (tp_same sm hac).sq, atI_nat (j := 1) rfl, rfl, _, rfl, ite2 (fun e => ?_) (fun e => ?_)⟩
        · have e0 : i = j := by have := V.int.inj (of_decide_eq_true e); omega
          rw [if_pos e0] at ho
          refine ⟨two_le, fun p1 h1 => ?_⟩
          have t1 := same_new (o := .tup [V.int 1, V.int 1]) h1
          have hO1 := t1 _ _ hO
          refine ⟨o, hO1, small1000 (by omega), same_mut (sm.trans t1) hD, _, upd_same, ?_⟩
          rw [take_next ho, List.map_append]
          exact ((dO.same t1).snoc (DT.fr (q := (1, 1)) (Tp.of upd_same))).xt ⟨_, hO1⟩ Xt.upd
        · have e0 : i ≠ j := fun z => e (decide_eq_true (congrArg V.int (by omega)))
          rw [if_neg e0] at ho
          refine ⟨two_le, fun p1 h1 => ?_⟩
          have t1 := same_new (o := .tup [V.int 0, V.int 1]) h1
          have hO1 := t1 _ _ hO
          refine ⟨o, hO1, small1000 (by omega), same_mut (sm.trans t1) hD, _, upd_same, ?_⟩
          rw [take_next ho, List.map_append]
          exact ((dO.same t1).snoc (DT.fr (q := (0, 1)) (Tp.of upd_same))).xt ⟨_, hO1⟩ Xt.upd
      · rintro H' ⟨sm, o, hO, dO⟩
        rw [List.take_of_length_le (by unfold oneF; rw [List.length_set, zeroF_len]; omega)] at dO
        refine ⟨D, o, rfl, SqL.of hO, fun q hq => ⟨(by decide : 1 ≤ sizeLine), fun p2 h2 => ⟨(by decide : 3 ≤ sizeLine), fun p3 h3 => ?_⟩⟩⟩
        have t1 := same_new (o := .tup o) hq
        have t2 := same_new (o := .tup [V.str Wd.nothing.str]) h2
        have t3 := same_new (o := .tup [V.str "pay", V.ref q, V.ref p2]) h3
        exact fin _ _ (((sm.trans t1).trans t2).trans t3) (DT.pay (Tp.of upd_same) (.tup (tp_same t3 (tp_same t2 (Tp.of upd_same))) (((dO.same t1).same t2).same t3)) (DT.p0n (x := .nothing) (tp_same t3 (Tp.of upd_same))))
    | later =>
      obtain ⟨a, rfl, fa⟩ := fcd_p1 fc hx (.inr rfl)
      cases dl
      obtain ⟨y1, rfl, d1⟩ := dks.inv1
      refine ⟨_, rfl, rfl, _, rfl, if_false_of' (wd_no .nothing (fun z => nomatch z)) ?_⟩
      refine ⟨_, rfl, rfl, _, rfl, if_false_of' (wd_no .one (fun z => nomatch z)) ?_⟩
      refine ⟨_, rfl, rfl, _, rfl, if_true_of' (wd_yes _) ?_⟩
      exact ⟨_, rfl, _, rfl, _, _, _, _, rfl, rfl, hac.sq, atI_nat (j := 1) rfl, y1, ps.length + 1, a, rfl, by omega, by omega, d1, fin⟩
    | or_ =>
      obtain ⟨a, b, rfl, hh⟩ := fcd_2 fc hx (.inr (.inr (.inr (.inr rfl))))
      cases dl
      obtain ⟨y1, y2, rfl, d1, d2⟩ := dks.inv2
      refine ⟨_, rfl, rfl, _, rfl, if_false_of' (wd_no .nothing (fun z => nomatch z)) ?_⟩
      refine ⟨_, rfl, rfl, _, rfl, if_false_of' (wd_no .one (fun z => nomatch z)) ?_⟩
      refine ⟨_, rfl, rfl, _, rfl, if_false_of' (wd_no .later (fun z => nomatch z)) ?_⟩
      refine ⟨_, rfl, rfl, _, rfl, if_true_of' (wd_yes _) ?_⟩
      refine ⟨_, rfl, _, _, _, _, rfl, rfl, hac.sq, atI_nat (j := 1) rfl, _, rfl, _, _, _, _, rfl, rfl, hac.sq, atI_nat (j := 2) rfl, (by decide : 4 ≤ sizeLine), fun p3 h3 => ?_⟩
      have t3 := same_new (o := .tup [V.str "ask", V.str (sideS true), y1, y2]) h3
      exact fin _ _ t3 (DT.ask (h := true) (Tp.of upd_same) (d1.same t3) (d2.same t3))
    | give =>
      obtain ⟨a, rfl, fa⟩ := fcd_p1 fc hx (.inl rfl)
      cases dl
      obtain ⟨y1, rfl, d1⟩ := dks.inv1
      have dep : 1 + a.depth ≤ n + 1 := dep
      have tbc : tb a ≤ 7900 := tbc
      have foa := face_ok po t a fa
      have ef : faceF ps t (.p1 .give .non a) = (match faceF ps t a with
        | .ask h c d => .ask (!h) (.p1 .give .non c) (.p1 .give .non d)
        | .pay am r => .pay (am.map negF) (.p1 .give .non r)) := rfl
      rw [ef] at fin
      refine ⟨_, rfl, rfl, _, rfl, if_false_of' (wd_no .nothing (fun z => nomatch z)) ?_⟩
      refine ⟨_, rfl, rfl, _, rfl, if_false_of' (wd_no .one (fun z => nomatch z)) ?_⟩
      refine ⟨_, rfl, rfl, _, rfl, if_false_of' (wd_no .later (fun z => nomatch z)) ?_⟩
      refine ⟨_, rfl, rfl, _, rfl, if_false_of' (wd_no .or_ (fun z => nomatch z)) ?_⟩
      refine ⟨_, rfl, rfl, _, rfl, if_true_of' (wd_yes _) ?_⟩
      refine ⟨_, rfl, _, rfl, _, rfl, _, _, _, _, rfl, rfl, hac.sq, atI_nat (j := 1) rfl, t, .ref ap, y1, g, ps, a, ⟨rfl, dps, d1, po, g1, g4, fa, by omega, by omega, fun vt H1 s1 dt => ?_⟩⟩
      cases e : faceF ps t a with
      | ask sd c d =>
        rw [e] at dt fin
        obtain ⟨at', x, y, rfl, hat, dx, dy⟩ := dt.ask_inv
        refine ⟨_, rfl, _, _, _, _, rfl, rfl, hat.sq, atI_nat (j := 0) rfl, rfl, _, rfl, if_true_of' ask_ask ?_⟩
        cases sd with
        | true =>
          refine ⟨_, rfl, _, _, _, _, rfl, rfl, hat.sq, atI_nat (j := 1) rfl, rfl, _, rfl, if_true_of' (side_h true) ?_⟩
          refine ⟨_, rfl, _, _, _, _, rfl, rfl, hat.sq, atI_nat (j := 2) rfl, two_le, fun p1 h1 => ?_⟩
          have t1 := same_new (o := .tup [V.str Wd.give.str, x]) h1
          refine ⟨_, rfl, _, _, _, _, rfl, rfl, (tp_same t1 hat).sq, atI_nat (j := 3) rfl, two_le, fun p2 h2 => ⟨(by decide : 4 ≤ sizeLine), fun p3 h3 => ?_⟩⟩
          have t2 := same_new (o := .tup [V.str Wd.give.str, y]) h2
          have t3 := same_new (o := .tup [V.str "ask", V.str (sideS false), V.ref p1, V.ref p2]) h3
          exact fin _ _ (((s1.trans t1).trans t2).trans t3) (DT.ask (h := false) (Tp.of upd_same) (DT.p1n (x := .give) (tp_same t3 (tp_same t2 (Tp.of upd_same))) (((dx.same t1).same t2).same t3)) (DT.p1n (x := .give) (tp_same t3 (Tp.of upd_same)) (((dy.same t1).same t2).same t3)))
        | false =>
          refine ⟨_, rfl, _, _, _, _, rfl, rfl, hat.sq, atI_nat (j := 1) rfl, rfl, _, rfl, if_false_of' (side_h false) ?_⟩
          refine ⟨_, rfl, _, _, _, _, rfl, rfl, hat.sq, atI_nat (j := 2) rfl, two_le, fun p1 h1 => ?_⟩
          have t1 := same_new (o := .tup [V.str Wd.give.str, x]) h1
          refine ⟨_, rfl, _, _, _, _, rfl, rfl, (tp_same t1 hat).sq, atI_nat (j := 3) rfl, two_le, fun p2 h2 => ⟨(by decide : 4 ≤ sizeLine), fun p3 h3 => ?_⟩⟩
          have t2 := same_new (o := .tup [V.str Wd.give.str, y]) h2
          have t3 := same_new (o := .tup [V.str "ask", V.str (sideS true), V.ref p1, V.ref p2]) h3
          exact fin _ _ (((s1.trans t1).trans t2).trans t3) (DT.ask (h := true) (Tp.of upd_same) (DT.p1n (x := .give) (tp_same t3 (tp_same t2 (Tp.of upd_same))) (((dx.same t1).same t2).same t3)) (DT.p1n (x := .give) (tp_same t3 (Tp.of upd_same)) (((dy.same t1).same t2).same t3)))
      | pay am r =>
        rw [e] at dt fin foa
        obtain ⟨f1, f2, f3, f4⟩ := foa.fc
        obtain ⟨at', x, y, rfl, hat, dx, dy⟩ := dt.pay_inv
        obtain ⟨aa, xa, rfl, haa, dxa⟩ := id dx.inv
        have la : xa.length = am.length := by rw [dxa.len, List.length_map]
        refine ⟨_, rfl, _, _, _, _, rfl, rfl, hat.sq, atI_nat (j := 0) rfl, rfl, _, rfl, if_false_of' pay_ask ?_⟩
        refine ⟨_, rfl, _, _, _, _, rfl, rfl, hat.sq, atI_nat (j := 1) rfl, aa, rfl, ⟨_, haa.sq⟩, fun D hD => lc_it (walk_tup (K := K) (a := aa) (xs := xa)) (fun i H' => Same H1 H' ∧ ∃ o, H' D = some (.lst o) ∧ DTs K H' o (((am.map negF).take i).map frD)) ⟨same_new hD, [], upd_same, .nil⟩ (fun i H' _ ⟨sm, _⟩ => (tp_same sm haa).sq) ?_ ?_⟩
        · rintro i z H2 H2' hi ⟨sm, o, hO, dO⟩ ⟨rfl, hz⟩
          obtain ⟨dd, e1, dz⟩ := dxa.get hz
          rw [List.getElem?_map] at e1
          obtain ⟨q1, g1', rfl⟩ := Option.map_eq_some_iff.mp e1
          obtain ⟨pz, rfl, hpz⟩ := (dz.same sm).fr_inv
          refine ⟨rfl, ?_⟩
          dsimp only [tYes]
          rw [if_pos rfl]
          refine ⟨_, rfl, _, _, _, _, rfl, rfl, hpz.sq, atI_nat (j := 0) rfl, _, _, rfl, rfl, _, rfl, _, _, _, _, rfl, rfl, hpz.sq, atI_nat (j := 1) rfl, two_le, fun p1 h1 => ?_⟩
          have t1 := same_new (o := .tup [V.int (0 - q1.1), V.int q1.2]) h1
          have hO1 := t1 _ _ hO
          have lo : o.length ≤ 10 := by
            rw [dO.len, List.length_map, List.length_take, List.length_map]
            omega
          refine ⟨o, hO1, small1000 (by omega), same_mut (sm.trans t1) hD, _, upd_same, ?_⟩
          have gz : (am.map negF)[i]? = some (negF q1) := by rw [List.getElem?_map, g1']; rfl
          rw [take_next gz, List.map_append]
          refine ((dO.same t1).snoc (DT.fr (q := negF q1) (Tp.of ?_))).xt ⟨_, hO1⟩ Xt.upd
          rw [negF_eq (f2 q1 (List.mem_of_getElem? g1')).low, upd_same, Int.zero_sub]
        · rintro H2 ⟨sm, o, hO, dO⟩
          rw [List.take_of_length_le (by rw [List.length_map]; omega)] at dO
          refine ⟨D, o, rfl, SqL.of hO, fun q hq => ?_⟩
          have t1 := same_new (o := .tup o) hq
          refine ⟨_, rfl, _, _, _, _, rfl, rfl, (tp_same t1 (tp_same sm hat)).sq, atI_nat (j := 2) rfl, two_le, fun p2 h2 => ⟨(by decide : 3 ≤ sizeLine), fun p3 h3 => ?_⟩⟩
          have t2 := same_new (o := .tup [V.str Wd.give.str, y]) h2
          have t3 := same_new (o := .tup [V.str "pay", V.ref q, V.ref p2]) h3
          exact fin _ _ ((((s1.trans sm).trans t1).trans t2).trans t3) (DT.pay (Tp.of upd_same) (.tup (tp_same t3 (tp_same t2 (Tp.of upd_same))) (((dO.same t1).same t2).same t3)) (DT.p1n (x := .give) (tp_same t3 (Tp.of upd_same)) ((((dy.same sm).same t1).same t2).same t3)))
    | both =>
      obtain ⟨a, b, rfl, hh⟩ := fcd_2 fc hx (.inr (.inr (.inr (.inl rfl))))
      obtain ⟨fa, fb⟩ : FC g a ∧ FC g b := by
        rcases hh with ⟨h, _⟩ | ⟨h | h, _⟩ | ⟨_, h⟩
        · cases h
        · cases h
        · cases h
        · exact h
      cases dl
      obtain ⟨y1, y2, rfl, d1, d2⟩ := dks.inv2
      have dep : 1 + max a.depth b.depth ≤ n + 1 := dep
      have tbc : tb a + tb b + 1 ≤ 7900 := tbc
      have foa := face_ok po t a fa
      have fob := face_ok po t b fb
      have ef : faceF ps t (.p2 .both .non a b) = (match faceF ps t a with
        | .ask h c d => .ask h (.p2 .both .non c b) (.p2 .both .non d b)
        | .pay am r => match faceF ps t b with
          | .ask h c d => .ask h (.p2 .both .non a c) (.p2 .both .non a d)
          | .pay am' r' => .pay (List.zipWith addF am am') (.p2 .both .non r r')) := rfl
      rw [ef] at fin
      refine ⟨_, rfl, rfl, _, rfl, if_false_of' (wd_no .nothing (fun z => nomatch z)) ?_⟩
      refine ⟨_, rfl, rfl, _, rfl, if_false_of' (wd_no .one (fun z => nomatch z)) ?_⟩
      refine ⟨_, rfl, rfl, _, rfl, if_false_of' (wd_no .later (fun z => nomatch z)) ?_⟩
      refine ⟨_, rfl, rfl, _, rfl, if_false_of' (wd_no .or_ (fun z => nomatch z)) ?_⟩
      refine ⟨_, rfl, rfl, _, rfl, if_false_of' (wd_no .give (fun z => nomatch z)) ?_⟩
      refine ⟨_, rfl, rfl, _, rfl, if_true_of' (wd_yes _) ?_⟩
      refine ⟨_, rfl, _, rfl, _, rfl, _, _, _, _, rfl, rfl, hac.sq, atI_nat (j := 1) rfl, t, .ref ap, y1, g, ps, a, ⟨rfl, dps, d1, po, g1, g4, fa, by omega, by omega, fun vt H1 s1 dt => ?_⟩⟩
      have hac1 := tp_same s1 hac
      cases e : faceF ps t a with
      | ask sd c d =>
        rw [e] at dt fin
        obtain ⟨at', x, y, rfl, hat, dx, dy⟩ := id dt.ask_inv
        refine ⟨_, rfl, _, _, _, _, rfl, rfl, hat.sq, atI_nat (j := 0) rfl, rfl, _, rfl, if_true_of' ask_ask ?_⟩
        refine ⟨_, rfl, (by decide : 1 ≤ sizeLine), fun p1 h1 => ?_⟩
        have t1 := same_new (o := .tup [V.str Wd.both.str]) h1
        refine ⟨_, rfl, _, _, _, _, rfl, rfl, (tp_same t1 hac1).sq, atI_nat (j := 2) rfl, (by decide : 1 ≤ sizeLine), fun p2 h2 => ?_⟩
        have t2 := same_new (o := .tup [y2]) h2
        have t12 := t1.trans t2
        exact ⟨.ref at', .ref p1, .ref p2, .ask sd c d, fun r => .p2 .both .non r b, [.str Wd.both.str], [b.D], rfl, dt.same t12, .tup (tp_same t2 (Tp.of upd_same)) (.cons (.str _) .nil), .tup (Tp.of upd_same) (.cons ((d2.same s1).same t12) .nil), (by decide : 1 ≤ 10), (by decide : 1 ≤ 10), fun c => rfl, fun v H' s' d' => fin v H' ((s1.trans t12).trans s') d'⟩
      | pay am r =>
        rw [e] at dt fin foa
        obtain ⟨f1, f2, f3, f4⟩ := foa.fc
        obtain ⟨at', x, y, rfl, hat, dx, dy⟩ := id dt.pay_inv
        refine ⟨_, rfl, _, _, _, _, rfl, rfl, hat.sq, atI_nat (j := 0) rfl, rfl, _, rfl, if_false_of' pay_ask ?_⟩
        refine ⟨_, rfl, _, rfl, _, rfl, _, _, _, _, rfl, rfl, hac1.sq, atI_nat (j := 2) rfl, t, .ref ap, y2, g, ps, b, ⟨rfl, dps.same s1, d2.same s1, po, g1, g4, fb, by omega, by omega, fun vt2 H2 s2 dt2 => ?_⟩⟩
        have hat2 := tp_same s2 hat
        have hac2 := tp_same s2 hac1
        dsimp only at fin
        cases e' : faceF ps t b with
        | ask sd c d =>
          rw [e'] at dt2 fin
          obtain ⟨au, x2, y2', rfl, hau, dx2, dy2⟩ := id dt2.ask_inv
          refine ⟨_, rfl, _, _, _, _, rfl, rfl, hau.sq, atI_nat (j := 0) rfl, rfl, _, rfl, if_true_of' ask_ask ?_⟩
          refine ⟨_, rfl, _, rfl, _, _, _, _, rfl, rfl, hac2.sq, atI_nat (j := 1) rfl, two_le, fun p1 h1 => ?_⟩
          have t1 := same_new (o := .tup [V.str Wd.both.str, y1]) h1
          refine ⟨Nat.zero_le _, fun p2 h2 => ?_⟩
          have t2 := same_new (o := .tup []) h2
          have t12 := t1.trans t2
          exact ⟨.ref au, .ref p1, .ref p2, .ask sd c d, fun r => .p2 .both .non a r, [.str Wd.both.str, a.D], [], rfl, dt2.same t12, .tup (tp_same t2 (Tp.of upd_same)) (.cons (.str _) (.cons (((d1.same s1).same s2).same t12) .nil)), .tup (Tp.of upd_same) .nil, (by decide : 2 ≤ 10), (by decide : 0 ≤ 10), fun c => rfl, fun v H' s' d' => fin v H' (((s1.trans s2).trans t12).trans s') d'⟩
        | pay am' r' =>
          rw [e'] at dt2 fin fob
          obtain ⟨k1, k2, k3, k4⟩ := fob.fc
          obtain ⟨au, x2, y2', rfl, hau, dx2, dy2⟩ := id dt2.pay_inv
          obtain ⟨aa, xa, rfl, haa, dxa⟩ := id (dx.same s2).inv
          obtain ⟨ba, xb, rfl, hba, dxb⟩ := id dx2.inv
          have la : xa.length = am.length := by rw [dxa.len, List.length_map]
          have lb : xb.length = am'.length := by rw [dxb.len, List.length_map]
          refine ⟨_, rfl, _, _, _, _, rfl, rfl, hau.sq, atI_nat (j := 0) rfl, rfl, _, rfl, if_false_of' pay_ask ?_⟩
          refine ⟨_, rfl, _, rfl, by omega, by omega, fun D hD => lc_range (lo := 0) (n := ((ps.length + 1 : Nat) : Int).toNat) (fun i H' => Same H2 H' ∧ ∃ o, H' D = some (.lst o) ∧ DTs K H' o (((List.zipWith addF am am').take i).map frD)) ⟨same_new hD, [], upd_same, .nil⟩ ?_ ?_⟩
          · rintro i H' hi ⟨sm, o, hO, dO⟩
            refine ⟨rfl, ?_⟩
            dsimp only [tYes]
            rw [if_pos rfl]
            have e0 : (0 : Int) + (i : Int) = (i : Int) := Int.zero_add _
            have ga : am[i]? = some (am[i]'(by omega)) := List.getElem?_eq_getElem (by omega)
            have gb : am'[i]? = some (am'[i]'(by omega)) := List.getElem?_eq_getElem (by omega)
            generalize am[i]'(by omega) = q1 at ga
            generalize am'[i]'(by omega) = q2 at gb
            obtain ⟨z1, hz1, dz1⟩ := dxa.at_ (i := i) (d := frD q1) (by rw [List.getElem?_map, ga]; rfl)
            obtain ⟨z2, hz2, dz2⟩ := dxb.at_ (i := i) (d := frD q2) (by rw [List.getElem?_map, gb]; rfl)
            have lo : o.length ≤ 10 := by
              rw [dO.len, List.length_map, List.length_take, List.length_zipWith]
              omega
            refine ⟨_, rfl, _, _, _, _, rfl, rfl, (tp_same sm hat2).sq, atI_nat (j := 1) rfl, _, rfl, _, _, _, _, rfl, rfl, (tp_same sm haa).sq, by rw [e0]; exact atI_nat hz1, _, rfl, _, _, _, _, rfl, rfl, (tp_same sm hau).sq, atI_nat (j := 1) rfl, _, rfl, _, _, _, _, rfl, rfl, (tp_same sm hba).sq, by rw [e0]; exact atI_nat hz2, z1, z2, q1, q2, tb a, tb b, rfl, dz1.same sm, dz2.same sm, f2 q1 (List.mem_of_getElem? ga), k2 q2 (List.mem_of_getElem? gb), by omega, fun v H4 s4 dv => ?_⟩
            have hO4 := s4 _ _ hO
            refine ⟨o, hO4, small1000 (by omega), same_mut (sm.trans s4) hD, o ++ [v], upd_same, ?_⟩
            have gz : (List.zipWith addF am am')[i]? = some (addF q1 q2) := by rw [List.getElem?_zipWith, ga, gb]
            rw [take_next gz, List.map_append]
            exact ((dO.same s4).snoc dv).xt ⟨_, hO4⟩ Xt.upd
          · rintro H' ⟨sm, o, hO, dO⟩
            rw [List.take_of_length_le (by rw [List.length_zipWith]; omega)] at dO
            refine ⟨D, o, rfl, SqL.of hO, fun q hq => ?_⟩
            have t1 := same_new (o := .tup o) hq
            have st1 := sm.trans t1
            refine ⟨_, rfl, _, _, _, _, rfl, rfl, (tp_same st1 hat2).sq, atI_nat (j := 2) rfl, _, rfl, _, _, _, _, rfl, rfl, (tp_same st1 hau).sq, atI_nat (j := 2) rfl, (by decide : 3 ≤ sizeLine), fun p2 h2 => ⟨(by decide : 3 ≤ sizeLine), fun p3 h3 => ?_⟩⟩
            have t2 := same_new (o := .tup [V.str Wd.both.str, y, y2']) h2
            have t3 := same_new (o := .tup [V.str "pay", V.ref q, V.ref p2]) h3
            exact fin _ _ ((((s1.trans s2).trans st1).trans t2).trans t3) (DT.pay (Tp.of upd_same) (.tup (tp_same t3 (tp_same t2 (Tp.of upd_same))) (((dO.same t1).same t2).same t3)) (DT.p2n (x := .both) (tp_same t3 (Tp.of upd_same)) ((((dy.same s2).same st1).same t2).same t3) (((dy2.same st1).same t2).same t3)))
    | scale =>
      obtain ⟨a, b, rfl, hh⟩ := fcd_2 fc hx (.inl rfl)
      obtain ⟨ca, fb⟩ : ValG g a ∧ FC g b := by
        rcases hh with ⟨_, h⟩ | ⟨h | h, _⟩ | ⟨h | h, _⟩
        · exact h
        all_goals cases h
      cases dl
      obtain ⟨y1, y2, rfl, d1, d2⟩ := dks.inv2
      have dep : 1 + max a.depth b.depth ≤ n + 1 := dep
      obtain ⟨wv, ov⟩ := wo_val ca po
      have tbc : tb b + 404 ≤ 7900 := tbc
      have fo := face_ok po t b fb
      have da : a.depth ≤ 6 := by
        rcases ca with ⟨_, _, hs, _⟩ | ⟨q, rfl, _⟩
        · have := a.depth_le_size
          omega
        · show 1 ≤ 6
          decide
      have ef : faceF ps t (.p2 .scale .non a b) = (match faceF ps t b with
        | .ask h c d => .ask h (.p2 .scale .non a c) (.p2 .scale .non a d)
        | .pay am r => .pay (am.map fun q => mulF q (evV ps a)) (.p2 .scale .non (.p0 .number (.size (evV ps a))) r)) := rfl
      rw [ef] at fin
      refine ⟨_, rfl, rfl, _, rfl, if_false_of' (wd_no .nothing (fun z => nomatch z)) ?_⟩
      refine ⟨_, rfl, rfl, _, rfl, if_false_of' (wd_no .one (fun z => nomatch z)) ?_⟩
      refine ⟨_, rfl, rfl, _, rfl, if_false_of' (wd_no .later (fun z => nomatch z)) ?_⟩
      refine ⟨_, rfl, rfl, _, rfl, if_false_of' (wd_no .or_ (fun z => nomatch z)) ?_⟩
      refine ⟨_, rfl, rfl, _, rfl, if_false_of' (wd_no .give (fun z => nomatch z)) ?_⟩
      refine ⟨_, rfl, rfl, _, rfl, if_false_of' (wd_no .both (fun z => nomatch z)) ?_⟩
      refine ⟨_, rfl, _, _, _, _, rfl, rfl, hac.sq, atI_nat (j := 2) rfl, ?_⟩
      refine ⟨_, rfl, rfl, _, rfl, if_true_of' (wd_yes _) ?_⟩
      refine ⟨_, rfl, _, rfl, _, rfl, t, .ref ap, y2, g, ps, b, ⟨rfl, dps, d2, po, g1, g4, fb, by omega, by omega, fun vt H1 s1 dt => ?_⟩⟩
      have hac1 := tp_same s1 hac
      cases e : faceF ps t b with
      | ask sd c d =>
        rw [e] at dt fin
        obtain ⟨at', x, y, rfl, hat, dx, dy⟩ := id dt.ask_inv
        refine ⟨_, rfl, _, _, _, _, rfl, rfl, hat.sq, atI_nat (j := 0) rfl, rfl, _, rfl, if_true_of' ask_ask ?_⟩
        refine ⟨_, rfl, _, rfl, _, _, _, _, rfl, rfl, hac1.sq, atI_nat (j := 1) rfl, two_le, fun p1 h1 => ⟨Nat.zero_le _, fun p2 h2 => ?_⟩⟩
        have t1 := same_new (o := .tup [V.str Wd.scale.str, y1]) h1
        have t2 := same_new (o := .tup []) h2
        have t12 := t1.trans t2
        exact ⟨.ref at', .ref p1, .ref p2, .ask sd c d, fun r => .p2 .scale .non a r, [.str Wd.scale.str, a.D], [], rfl, dt.same t12, .tup (tp_same t2 (Tp.of upd_same)) (.cons (.str _) (.cons ((d1.same s1).same t12) .nil)), .tup (Tp.of upd_same) .nil, (by decide : 2 ≤ 10), (by decide : 0 ≤ 10), fun c => rfl, fun v H' s' d' => fin v H' ((s1.trans t12).trans s') d'⟩
      | pay am r =>
        rw [e] at dt fin fo
        obtain ⟨f1, f2, f3, f4⟩ := fo.fc
        obtain ⟨at', x, y, rfl, hat, dx, dy⟩ := id dt.pay_inv
        refine ⟨_, rfl, _, _, _, _, rfl, rfl, hat.sq, atI_nat (j := 0) rfl, rfl, _, rfl, if_false_of' pay_ask ?_⟩
        refine ⟨_, rfl, _, rfl, _, _, _, _, rfl, rfl, hac1.sq, atI_nat (j := 1) rfl, .ref ap, y1, ps, a, rfl, dps.same s1, d1.same s1, wv, ca.cls, da, fun vf H2 s2 df => ?_⟩
        have hat2 := tp_same s2 hat
        obtain ⟨aa, xa, rfl, haa, dxa⟩ := id (dx.same s2).inv
        have la : xa.length = am.length := by rw [dxa.len, List.length_map]
        refine ⟨_, rfl, _, _, _, _, rfl, rfl, hat2.sq, atI_nat (j := 1) rfl, aa, rfl, ⟨_, haa.sq⟩, fun D hD => lc_it (walk_tup (K := K) (a := aa) (xs := xa)) (fun i H' => Same H2 H' ∧ ∃ o, H' D = some (.lst o) ∧ DTs K H' o (((am.map fun q => mulF q (evV ps a)).take i).map frD)) ⟨same_new hD, [], upd_same, .nil⟩ (fun i H' _ ⟨sm, _⟩ => (tp_same sm haa).sq) ?_ ?_⟩
        · rintro i z H3 H3' hi ⟨sm, o, hO, dO⟩ ⟨rfl, hz⟩
          obtain ⟨dd, e1, dz⟩ := dxa.get hz
          rw [List.getElem?_map] at e1
          obtain ⟨q1, g1', rfl⟩ := Option.map_eq_some_iff.mp e1
          refine ⟨rfl, ?_⟩
          dsimp only [tYes]
          rw [if_pos rfl]
          have lo : o.length ≤ 10 := by
            rw [dO.len, List.length_map, List.length_take, List.length_map]
            omega
          refine ⟨_, rfl, _, rfl, z, vf, q1, evV ps a, tb b, 404, rfl, dz.same sm, df.same sm, f2 q1 (List.mem_of_getElem? g1'), ov, by omega, fun v H4 s4 dv => ?_⟩
          have hO4 := s4 _ _ hO
          refine ⟨o, hO4, small1000 (by omega), same_mut (sm.trans s4) hD, o ++ [v], upd_same, ?_⟩
          have gz : (am.map fun q => mulF q (evV ps a))[i]? = some (mulF q1 (evV ps a)) := by rw [List.getElem?_map, g1']; rfl
          rw [take_next gz, List.map_append]
          exact ((dO.same s4).snoc dv).xt ⟨_, hO4⟩ Xt.upd
        · rintro H3 ⟨sm, o, hO, dO⟩
          rw [List.take_of_length_le (by rw [List.length_map]; omega)] at dO
          refine ⟨D, o, rfl, SqL.of hO, fun q hq => ?_⟩
          have t0 := same_new (o := .tup o) hq
          refine ⟨_, rfl, two_le, fun p1 h1 => ?_⟩
          have t1 := same_new (o := .tup [V.str Wd.number.str, vf]) h1
          have st1 := (sm.trans t0).trans t1
          refine ⟨_, rfl, _, _, _, _, rfl, rfl, (tp_same st1 hat2).sq, atI_nat (j := 2) rfl, (by decide : 3 ≤ sizeLine), fun p2 h2 => ⟨(by decide : 3 ≤ sizeLine), fun p3 h3 => ?_⟩⟩
          have t2 := same_new (o := .tup [V.str Wd.scale.str, V.ref p1, y]) h2
          have t3 := same_new (o := .tup [V.str "pay", V.ref q, V.ref p2]) h3
          have t123 := (t1.trans t2).trans t3
          exact fin _ _ ((((s1.trans s2).trans st1).trans t2).trans t3) (DT.pay (Tp.of upd_same) (.tup (tp_same t123 (Tp.of upd_same)) ((dO.same t0).same t123)) (DT.p2n (x := .scale) (tp_same t3 (Tp.of upd_same)) (DT.p0s (x := .number) (tp_same t3 (tp_same t2 (Tp.of upd_same))) (((df.same st1).same t2).same t3)) ((((dy.same s2).same st1).same t2).same t3)))
    | when_ =>
      obtain ⟨a, b, rfl, hh⟩ := fcd_2 fc hx (.inr (.inl rfl))
      obtain ⟨ca, fb⟩ : CndG g a ∧ FC g b := by
        rcases hh with ⟨h, _⟩ | ⟨_, h⟩ | ⟨h | h, _⟩
        · cases h
        · exact h
        · cases h
        · cases h
      cases dl
      obtain ⟨y1, y2, rfl, d1, d2⟩ := dks.inv2
      have dep : 1 + max a.depth b.depth ≤ n + 1 := dep
      have wv := wo_cnd ca po
      have tbc : tb b ≤ 7900 := tbc
      have ef : faceF ps t (.p2 .when_ .non a b) = (if evC ps a then faceF ps t b else .pay (zeroF (ps.length + 1)) (.p2 .when_ .non a b)) := rfl
      rw [ef] at fin
      refine ⟨_, rfl, rfl, _, rfl, if_false_of' (wd_no .nothing (fun z => nomatch z)) ?_⟩
      refine ⟨_, rfl, rfl, _, rfl, if_false_of' (wd_no .one (fun z => nomatch z)) ?_⟩
      refine ⟨_, rfl, rfl, _, rfl, if_false_of' (wd_no .later (fun z => nomatch z)) ?_⟩
      refine ⟨_, rfl, rfl, _, rfl, if_false_of' (wd_no .or_ (fun z => nomatch z)) ?_⟩
      refine ⟨_, rfl, rfl, _, rfl, if_false_of' (wd_no .give (fun z => nomatch z)) ?_⟩
      refine ⟨_, rfl, rfl, _, rfl, if_false_of' (wd_no .both (fun z => nomatch z)) ?_⟩
      refine ⟨_, rfl, _, _, _, _, rfl, rfl, hac.sq, atI_nat (j := 2) rfl, ?_⟩
      refine ⟨_, rfl, rfl, _, rfl, if_false_of' (wd_no .scale (fun z => nomatch z)) ?_⟩
      refine ⟨_, rfl, rfl, _, rfl, if_true_of' (wd_yes _) ?_⟩
      refine ⟨_, rfl, _, rfl, _, _, _, _, rfl, rfl, hac.sq, atI_nat (j := 1) rfl, .ref ap, y1, ps, a, rfl, dps, d1, wv, ca.2.1, ca.2.2.2.1, by decide, fun H2 s2 => ⟨_, rfl, ?_⟩⟩
      cases hc : evC ps a with
      | true =>
        rw [hc, if_pos rfl] at fin
        exact iteT ⟨_, rfl, _, rfl, _, rfl, t, .ref ap, y2, g, ps, b, ⟨rfl, dps.same s2, d2.same s2, po, g1, g4, fb, by omega, by omega, fun v H' s d => fin v H' (s2.trans s) d⟩⟩
      | false =>
        rw [hc, if_neg Bool.false_ne_true] at fin
        exact iteF ⟨_, rfl, _, rfl, .ref ac, ps.length + 1, _, rfl, by omega, by omega, dc.same s2, fun v H' s d => fin v H' (s2.trans s) d⟩
    | until_ =>
      obtain ⟨a, b, rfl, hh⟩ := fcd_2 fc hx (.inr (.inr (.inl rfl)))
      obtain ⟨ca, fb⟩ : CndG g a ∧ FC g b := by
        rcases hh with ⟨h, _⟩ | ⟨_, h⟩ | ⟨h | h, _⟩
        · cases h
        · exact h
        · cases h
        · cases h
      cases dl
      obtain ⟨y1, y2, rfl, d1, d2⟩ := dks.inv2
      have dep : 1 + max a.depth b.depth ≤ n + 1 := dep
      have wv := wo_cnd ca po
      have tbc : tb b ≤ 7900 := tbc
      have ef : faceF ps t (.p2 .until_ .non a b) = (if evC ps a then .pay (zeroF (ps.length + 1)) noth else (faceF ps t b).map fun r => .p2 .until_ .non a r) := rfl
      rw [ef] at fin
      refine ⟨_, rfl, rfl, _, rfl, if_false_of' (wd_no .nothing (fun z => nomatch z)) ?_⟩
      refine ⟨_, rfl, rfl, _, rfl, if_false_of' (wd_no .one (fun z => nomatch z)) ?_⟩
      refine ⟨_, rfl, rfl, _, rfl, if_false_of' (wd_no .later (fun z => nomatch z)) ?_⟩
      refine ⟨_, rfl, rfl, _, rfl, if_false_of' (wd_no .or_ (fun z => nomatch z)) ?_⟩
      refine ⟨_, rfl, rfl, _, rfl, if_false_of' (wd_no .give (fun z => nomatch z)) ?_⟩
      refine ⟨_, rfl, rfl, _, rfl, if_false_of' (wd_no .both (fun z => nomatch z)) ?_⟩
      refine ⟨_, rfl, _, _, _, _, rfl, rfl, hac.sq, atI_nat (j := 2) rfl, ?_⟩
      refine ⟨_, rfl, rfl, _, rfl, if_false_of' (wd_no .scale (fun z => nomatch z)) ?_⟩
      refine ⟨_, rfl, rfl, _, rfl, if_false_of' (wd_no .when_ (fun z => nomatch z)) ?_⟩
      refine ⟨_, rfl, rfl, _, rfl, if_true_of' (wd_yes _) ?_⟩
      refine ⟨_, rfl, _, rfl, _, _, _, _, rfl, rfl, hac.sq, atI_nat (j := 1) rfl, .ref ap, y1, ps, a, rfl, dps, d1, wv, ca.2.1, ca.2.2.2.1, by decide, fun H2 s2 => ⟨_, rfl, ?_⟩⟩
      cases hc : evC ps a with
      | true =>
        rw [hc, if_pos rfl] at fin
        refine iteT ⟨_, rfl, (by decide : 1 ≤ sizeLine), fun p2 h2 => ?_⟩
        have t2 := same_new (o := .tup [V.str Wd.nothing.str]) h2
        exact ⟨.ref p2, ps.length + 1, noth, rfl, by omega, by omega, DT.p0n (x := .nothing) (Tp.of upd_same), fun v H' s d => fin v H' ((s2.trans t2).trans s) d⟩
      | false =>
        rw [hc, if_neg Bool.false_ne_true] at fin
        refine iteF ⟨_, rfl, _, rfl, _, rfl, t, .ref ap, y2, g, ps, b, ⟨rfl, dps.same s2, d2.same s2, po, g1, g4, fb, by omega, by omega, fun vt H1 s1 dt => ?_⟩⟩
        have hac1 := tp_same s1 (tp_same s2 hac)
        refine ⟨_, rfl, _, _, _, _, rfl, rfl, hac1.sq, atI_nat (j := 1) rfl, two_le, fun p1 h1 => ⟨Nat.zero_le _, fun p2 h2 => ?_⟩⟩
        have t1 := same_new (o := .tup [V.str Wd.until_.str, y1]) h1
        have t2 := same_new (o := .tup []) h2
        have t12 := t1.trans t2
        exact ⟨vt, .ref p1, .ref p2, faceF ps t b, fun r => .p2 .until_ .non a r, [.str Wd.until_.str, a.D], [], rfl, dt.same t12, .tup (tp_same t2 (Tp.of upd_same)) (.cons (.str _) (.cons (((d1.same s2).same s1).same t12) .nil)), .tup (Tp.of upd_same) .nil, (by decide : 2 ≤ 10), (by decide : 0 ≤ 10), fun c => rfl, fun v H' s' d' => fin v H' (((s2.trans s1).trans t12).trans s') d'⟩
    | early =>
      obtain ⟨i, a, rfl, fa⟩ := fcd_t fc hx (.inr rfl)
      obtain ⟨x0, rfl, dx0⟩ := dl.inv1
      cases dx0
      obtain ⟨y1, rfl, d1⟩ := dks.inv1
      have dep : 1 + a.depth ≤ n + 1 := dep
      have tbc : tb a ≤ 7900 := tbc
      have ef : faceF ps t (.p1 .early (.time i) a) = (if t > i then .pay (zeroF (ps.length + 1)) noth else .ask true a (.p1 .later .non (.p1 .early (.time i) a))) := rfl
      rw [ef] at fin
      refine ⟨_, rfl, rfl, _, rfl, if_false_of' (wd_no .nothing (fun z => nomatch z)) ?_⟩
      refine ⟨_, rfl, rfl, _, rfl, if_false_of' (wd_no .one (fun z => nomatch z)) ?_⟩
      refine ⟨_, rfl, rfl, _, rfl, if_false_of' (wd_no .later (fun z => nomatch z)) ?_⟩
      refine ⟨_, rfl, rfl, _, rfl, if_false_of' (wd_no .or_ (fun z => nomatch z)) ?_⟩
      refine ⟨_, rfl, rfl, _, rfl, if_false_of' (wd_no .give (fun z => nomatch z)) ?_⟩
      refine ⟨_, rfl, rfl, _, rfl, if_false_of' (wd_no .both (fun z => nomatch z)) ?_⟩
      refine ⟨_, rfl, _, _, _, _, rfl, rfl, hac.sq, atI_nat (j := 2) rfl, ?_⟩
      refine ⟨_, rfl, rfl, _, rfl, if_false_of' (wd_no .scale (fun z => nomatch z)) ?_⟩
      refine ⟨_, rfl, rfl, _, rfl, if_false_of' (wd_no .when_ (fun z => nomatch z)) ?_⟩
      refine ⟨_, rfl, rfl, _, rfl, if_false_of' (wd_no .until_ (fun z => nomatch z)) ?_⟩
      refine ⟨_, rfl, _, rfl, _, _, _, _, rfl, rfl, hac.sq, atI_nat (j := 1) rfl, _, _, rfl, rfl, _, rfl, ite2 (fun e => ?_) (fun e => ?_)⟩
      · rw [if_pos (show t > i from of_decide_eq_true e)] at fin
        refine ⟨_, rfl, (by decide : 1 ≤ sizeLine), fun p2 h2 => ?_⟩
        have t2 := same_new (o := .tup [V.str Wd.nothing.str]) h2
        exact ⟨.ref p2, ps.length + 1, noth, rfl, by omega, by omega, DT.p0n (x := .nothing) (Tp.of upd_same), fun v H' s d => fin v H' (t2.trans s) d⟩
      · rw [if_neg (fun z : t > i => e (decide_eq_true z))] at fin
        refine ⟨_, rfl, rfl, _, rfl, if_true_of' (wd_yes _) ?_⟩
        refine ⟨_, rfl, _, rfl, two_le, fun p2 h2 => ⟨(by decide : 4 ≤ sizeLine), fun p3 h3 => ?_⟩⟩
        have t2 := same_new (o := .tup [V.str Wd.later.str, V.ref ac]) h2
        have t3 := same_new (o := .tup [V.str "ask", V.str (sideS true), y1, V.ref p2]) h3
        exact fin _ _ (t2.trans t3) (DT.ask (h := true) (Tp.of upd_same) ((d1.same t2).same t3) (DT.p1n (x := .later) (tp_same t3 (Tp.of upd_same)) ((dc.same t2).same t3)))
    | at_ =>
      obtain ⟨i, a, rfl, fa⟩ := fcd_t fc hx (.inl rfl)
      obtain ⟨x0, rfl, dx0⟩ := dl.inv1
      cases dx0
      obtain ⟨y1, rfl, d1⟩ := dks.inv1
      have dep : 1 + a.depth ≤ n + 1 := dep
      have tbc : tb a ≤ 7900 := tbc
      have ef : faceF ps t (.p1 .at_ (.time i) a) = (if t = i then faceF ps t a else if t < i then .pay (zeroF (ps.length + 1)) (.p1 .at_ (.time i) a) else .pay (zeroF (ps.length + 1)) noth) := rfl
      rw [ef] at fin
      refine ⟨_, rfl, rfl, _, rfl, if_false_of' (wd_no .nothing (fun z => nomatch z)) ?_⟩
      refine ⟨_, rfl, rfl, _, rfl, if_false_of' (wd_no .one (fun z => nomatch z)) ?_⟩
      refine ⟨_, rfl, rfl, _, rfl, if_false_of' (wd_no .later (fun z => nomatch z)) ?_⟩
      refine ⟨_, rfl, rfl, _, rfl, if_false_of' (wd_no .or_ (fun z => nomatch z)) ?_⟩
      refine ⟨_, rfl, rfl, _, rfl, if_false_of' (wd_no .give (fun z => nomatch z)) ?_⟩
      refine ⟨_, rfl, rfl, _, rfl, if_false_of' (wd_no .both (fun z => nomatch z)) ?_⟩
      refine ⟨_, rfl, _, _, _, _, rfl, rfl, hac.sq, atI_nat (j := 2) rfl, ?_⟩
      refine ⟨_, rfl, rfl, _, rfl, if_false_of' (wd_no .scale (fun z => nomatch z)) ?_⟩
      refine ⟨_, rfl, rfl, _, rfl, if_false_of' (wd_no .when_ (fun z => nomatch z)) ?_⟩
      refine ⟨_, rfl, rfl, _, rfl, if_false_of' (wd_no .until_ (fun z => nomatch z)) ?_⟩
      refine ⟨_, rfl, _, rfl, _, _, _, _, rfl, rfl, hac.sq, atI_nat (j := 1) rfl, _, _, rfl, rfl, _, rfl, ite2 (fun e => ?_) (fun e => ?_)⟩
      · have e1 : t > i := of_decide_eq_true e
        rw [if_neg (show ¬ t = i by omega), if_neg (show ¬ t < i by omega)] at fin
        refine ⟨_, rfl, (by decide : 1 ≤ sizeLine), fun p2 h2 => ?_⟩
        have t2 := same_new (o := .tup [V.str Wd.nothing.str]) h2
        exact ⟨.ref p2, ps.length + 1, noth, rfl, by omega, by omega, DT.p0n (x := .nothing) (Tp.of upd_same), fun v H' s d => fin v H' (t2.trans s) d⟩
      · have e1 : ¬ t > i := fun z => e (decide_eq_true z)
        refine ⟨_, rfl, rfl, _, rfl, if_false_of' (wd_no .early (fun z => nomatch z)) ?_⟩
        refine ⟨_, rfl, _, rfl, _, _, _, _, rfl, rfl, hac.sq, atI_nat (j := 1) rfl, rfl, _, rfl, ite2 (fun e => ?_) (fun e => ?_)⟩
        · have e0 : t = i := V.int.inj (of_decide_eq_true e)
          rw [if_pos e0] at fin
          exact ⟨_, rfl, _, rfl, _, rfl, t, .ref ap, y1, g, ps, a, ⟨rfl, dps, d1, po, g1, g4, fa, by omega, by omega, fin⟩⟩
        · have e0 : t ≠ i := fun z => e (decide_eq_true (by rw [z]))
          rw [if_neg e0, if_pos (show t < i by omega)] at fin
          exact ⟨_, rfl, _, rfl, .ref ac, ps.length + 1, _, rfl, by omega, by omega, dc, fin⟩
    | _ => exact absurd (hx ▸ fc.wf.2) (by decide)
theorem lface_all (T : Top w K mg) : ∀ n : Nat, FnOk P w K mg base CX0 (n + 17) T.a__law_faced T.d__law_faced ["prices", "time", "contract"] (sp_lface K n)
  | 0 => ⟨fun _ _ _ _ ⟨_, _, _, _, _, c, h⟩ => by have := c.depth_pos; have := h.dep; omega, fun _ _ _ _ _ _ _ _ _ _ _ _ _ ⟨_, _, _, _, _, c, h⟩ => by have := c.depth_pos; have := h.dep; omega⟩
  | n + 1 => lface_step T (by omega) (lface_all T n)
theorem ok__law_faced (T : Top w K mg) : FnOk P w K mg base CX0 37 T.a__law_faced T.d__law_faced ["prices", "time", "contract"] (sp_lface K 20) := lface_all T 20
end
end Nl

namespace Nl
open PySem PySem.Spec PyProof.Rows L2
/-! ### what stays true of a contract from turn to turn: its literals, its size, its depth -/
def TAll (F : Part → Prop) : Told → Prop
  | .ask _ c d => F c ∧ F d
  | .pay _ l => F l
def NBL (g : Int) (p : Part) : Prop := p.All fun _ l => ¬ Part.BadL g l
theorem nb_0 {g : Int} {x : Wd} {l : Lit} (h : ¬ Part.BadL g l) : NBL g (.p0 x l) := Part.all_mk h fun k hk => by cases hk
theorem nb_1 {g : Int} {x : Wd} {l : Lit} {a : Part} (h : ¬ Part.BadL g l) (ha : NBL g a) : NBL g (.p1 x l a) := Part.all_mk h fun k hk => by
  rw [List.mem_singleton.mp hk]
  exact ha
theorem nb_2 {g : Int} {x : Wd} {l : Lit} {a b : Part} (h : ¬ Part.BadL g l) (ha : NBL g a) (hb : NBL g b) : NBL g (.p2 x l a b) := Part.all_mk h fun k hk => by
  rcases List.mem_cons.mp hk with rfl | hk
  · exact ha
  · rw [List.mem_singleton.mp hk]
    exact hb
theorem nb_non {g : Int} : ¬ Part.BadL g .non := fun z => z
theorem nb_noth {g : Int} : NBL g noth := nb_0 nb_non
theorem NBL.k1 {g : Int} {x : Wd} {l : Lit} {a : Part} (h : NBL g (.p1 x l a)) : NBL g a := Part.All.kid h (by simp [Part.ks])
theorem NBL.k2a {g : Int} {x : Wd} {l : Lit} {a b : Part} (h : NBL g (.p2 x l a b)) : NBL g a := Part.All.kid h (by simp [Part.ks])
theorem NBL.k2b {g : Int} {x : Wd} {l : Lit} {a b : Part} (h : NBL g (.p2 x l a b)) : NBL g b := Part.All.kid h (by simp [Part.ks])
theorem tall_map {F G : Part → Prop} {f : Part → Part} {t : Told} (h : TAll F t) (hf : ∀ c, F c → G (f c)) : TAll G (t.map f) := by
  cases t with
  | ask s c d => exact ⟨hf c h.1, hf d h.2⟩
  | pay am l => exact hf l h
theorem face_nb {g : Int} (ps : List Pr) (t : Int) : ∀ c : Part, NBL g c → TAll (NBL g) (faceF ps t c)
  | .p0 x l, h => by
    cases l with
    | good j => exact nb_noth
    | non => exact h
    | size q => exact h
    | time i => exact h
  | .p1 x l a, h => by
    have ih := face_nb ps t a h.k1
    unfold faceF
    split
    · cases e : faceF ps t a with
      | ask s c d =>
        rw [e] at ih
        exact ⟨nb_1 nb_non ih.1, nb_1 nb_non ih.2⟩
      | pay am r =>
        rw [e] at ih
        exact nb_1 nb_non ih
    · split
      · split
        · exact ih
        · split
          · exact h
          · exact nb_noth
      · exact nb_noth
    · split
      · split
        · exact nb_noth
        · exact ⟨h.k1, nb_1 nb_non h⟩
      · exact nb_noth
    · exact h.k1
    · exact nb_noth
  | .p2 x l a b, h => by
    have ia := face_nb ps t a h.k2a
    have ib := face_nb ps t b h.k2b
    unfold faceF
    split
    · cases e : faceF ps t b with
      | ask s c d =>
        rw [e] at ib
        exact ⟨nb_2 nb_non h.k2a ib.1, nb_2 nb_non h.k2a ib.2⟩
      | pay am r =>
        rw [e] at ib
        exact nb_2 nb_non (nb_0 fun z => z) ib
    · cases e : faceF ps t a with
      | ask s c d =>
        rw [e] at ia
        exact ⟨nb_2 nb_non ia.1 h.k2b, nb_2 nb_non ia.2 h.k2b⟩
      | pay am r =>
        rw [e] at ia
        cases e' : faceF ps t b with
        | ask s c d =>
          rw [e'] at ib
          exact ⟨nb_2 nb_non h.k2a ib.1, nb_2 nb_non h.k2a ib.2⟩
        | pay am' r' =>
          rw [e'] at ib
          exact nb_2 nb_non ia ib
    · exact ⟨h.k2a, h.k2b⟩
    · split
      · exact ib
      · exact h
    · split
      · exact nb_noth
      · exact tall_map ib fun c hc => nb_2 nb_non h.k2a hc
    · exact nb_noth
def TSz (s d : Nat) : Told → Prop
  | .ask _ x y => (x.size ≤ s + 1 ∧ x.depth ≤ d + 1) ∧ (y.size ≤ s + 1 ∧ y.depth ≤ d + 1)
  | .pay _ l => l.size ≤ s ∧ l.depth ≤ d
theorem face_sz (ps : List Pr) (t : Int) : ∀ c : Part, TSz c.size c.depth (faceF ps t c)
  | .p0 x l => by
    cases l <;> exact ⟨Nat.le_refl _, Nat.le_refl _⟩
  | .p1 x l a => by
    have ih := face_sz ps t a
    have p1 := a.size_pos
    have p2 := a.depth_pos
    have zn : ∀ z, TSz (Part.p1 x l a).size (Part.p1 x l a).depth (.pay z noth) := fun z => ⟨show 1 ≤ 1 + a.size by omega, show 1 ≤ 1 + a.depth by omega⟩
    unfold faceF
    split
    · cases e : faceF ps t a with
      | ask s c d =>
        rw [e] at ih
        obtain ⟨⟨h1, h2⟩, h3, h4⟩ := ih
        refine ⟨⟨?_, ?_⟩, ?_, ?_⟩ <;> simp only [Part.size, Part.depth] <;> omega
      | pay am r =>
        rw [e] at ih
        obtain ⟨h1, h2⟩ := ih
        refine ⟨?_, ?_⟩ <;> simp only [Part.size, Part.depth] <;> omega
    · split
      · split
        · revert ih
          cases faceF ps t a with
          | ask s c d =>
            rintro ⟨⟨h1, h2⟩, h3, h4⟩
            refine ⟨⟨?_, ?_⟩, ?_, ?_⟩ <;> simp only [Part.size, Part.depth] <;> omega
          | pay am r =>
            rintro ⟨h1, h2⟩
            refine ⟨?_, ?_⟩ <;> simp only [Part.size, Part.depth] <;> omega
        · split
          · exact ⟨Nat.le_refl _, Nat.le_refl _⟩
          · exact zn _
      · exact zn _
    · split
      · split
        · exact zn _
        · refine ⟨⟨?_, ?_⟩, ?_, ?_⟩ <;> simp only [Part.size, Part.depth] <;> omega
      · exact zn _
    · refine ⟨?_, ?_⟩ <;> simp only [Part.size, Part.depth] <;> omega
    · exact zn _
  | .p2 x l a b => by
    have ia := face_sz ps t a
    have ib := face_sz ps t b
    have p1 := a.size_pos
    have p2 := a.depth_pos
    have p3 := b.size_pos
    have p4 := b.depth_pos
    have zn : ∀ z, TSz (Part.p2 x l a b).size (Part.p2 x l a b).depth (.pay z noth) := fun z => ⟨show 1 ≤ 1 + (a.size + b.size) by omega, show 1 ≤ 1 + max a.depth b.depth by omega⟩
    unfold faceF
    split
    · cases e : faceF ps t b with
      | ask s c d =>
        rw [e] at ib
        obtain ⟨⟨h1, h2⟩, h3, h4⟩ := ib
        refine ⟨⟨?_, ?_⟩, ?_, ?_⟩ <;> simp only [Part.size, Part.depth] <;> omega
      | pay am r =>
        rw [e] at ib
        obtain ⟨h1, h2⟩ := ib
        refine ⟨?_, ?_⟩ <;> simp only [Part.size, Part.depth] <;> omega
    · cases e : faceF ps t a with
      | ask s c d =>
        rw [e] at ia
        obtain ⟨⟨h1, h2⟩, h3, h4⟩ := ia
        refine ⟨⟨?_, ?_⟩, ?_, ?_⟩ <;> simp only [Part.size, Part.depth] <;> omega
      | pay am r =>
        rw [e] at ia
        obtain ⟨k1, k2⟩ := ia
        cases e' : faceF ps t b with
        | ask s c d =>
          rw [e'] at ib
          obtain ⟨⟨h1, h2⟩, h3, h4⟩ := ib
          refine ⟨⟨?_, ?_⟩, ?_, ?_⟩ <;> simp only [Part.size, Part.depth] <;> omega
        | pay am' r' =>
          rw [e'] at ib
          obtain ⟨h1, h2⟩ := ib
          refine ⟨?_, ?_⟩ <;> simp only [Part.size, Part.depth] <;> omega
    · refine ⟨⟨?_, ?_⟩, ?_, ?_⟩ <;> simp only [Part.size, Part.depth] <;> omega
    · split
      · revert ib
        cases faceF ps t b with
        | ask s c d =>
          rintro ⟨⟨h1, h2⟩, h3, h4⟩
          refine ⟨⟨?_, ?_⟩, ?_, ?_⟩ <;> simp only [Part.size, Part.depth] <;> omega
        | pay am r =>
          rintro ⟨h1, h2⟩
          refine ⟨?_, ?_⟩ <;> simp only [Part.size, Part.depth] <;> omega
      · exact ⟨Nat.le_refl _, Nat.le_refl _⟩
    · split
      · exact zn _
      · revert ib
        cases faceF ps t b with
        | ask s c d =>
          rintro ⟨⟨h1, h2⟩, h3, h4⟩
          refine ⟨⟨?_, ?_⟩, ?_, ?_⟩ <;> simp only [Part.size, Part.depth] <;> omega
        | pay am r =>
          rintro ⟨h1, h2⟩
          refine ⟨?_, ?_⟩ <;> simp only [Part.size, Part.depth] <;> omega
    · exact zn _
/-! ### they can be compared -/
theorem Sh.mono {k k' : Nat} {d : PyData} (h : Sh k d) (hk : k ≤ k') : Sh k' d := ⟨h.1, Nat.le_trans h.2 hk⟩
theorem sh_word {x : Wd} {k : Nat} : Sh k (.str x.str) := ⟨by cases x <;> decide +kernel, Nat.zero_le _⟩
theorem sh_ask {k : Nat} : Sh k (.str "ask") := ⟨by decide +kernel, Nat.zero_le _⟩
theorem sh_pay {k : Nat} : Sh k (.str "pay") := ⟨by decide +kernel, Nat.zero_le _⟩
theorem sh_side {k : Nat} {b : Bool} : Sh k (.str (sideS b)) := ⟨by cases b <;> decide +kernel, Nat.zero_le _⟩
theorem sh_lit : ∀ (l : Lit), ∀ d ∈ l.ds, Sh 1 d
  | .non, d, hd => by cases hd
  | .size q, d, hd => by rw [List.mem_singleton.mp hd]; exact sh_fr q
  | .good j, d, hd => by rw [List.mem_singleton.mp hd]; exact .int
  | .time j, d, hd => by rw [List.mem_singleton.mp hd]; exact .int
theorem sh_part : ∀ p : Part, Sh (p.depth + 1) p.D
  | .p0 x l => by
    rw [Part.D_eq]
    refine Sh.tup fun d hd => ?_
    rcases List.mem_cons.mp hd with rfl | hd
    · exact sh_word
    · rcases List.mem_append.mp hd with hd | hd
      · exact sh_lit _ d hd
      · cases hd
  | .p1 x l a => by
    have ih := sh_part a
    rw [Part.D_eq]
    refine Sh.tup fun d hd => ?_
    rcases List.mem_cons.mp hd with rfl | hd
    · exact sh_word
    · rcases List.mem_append.mp hd with hd | hd
      · exact (sh_lit _ d hd).mono (by show 1 ≤ 1 + a.depth; omega)
      · rw [List.mem_singleton.mp hd]
        exact ih.mono (by show a.depth + 1 ≤ 1 + a.depth; omega)
  | .p2 x l a b => by
    have ia := sh_part a
    have ib := sh_part b
    rw [Part.D_eq]
    refine Sh.tup fun d hd => ?_
    rcases List.mem_cons.mp hd with rfl | hd
    · exact sh_word
    · rcases List.mem_append.mp hd with hd | hd
      · exact (sh_lit _ d hd).mono (by show 1 ≤ 1 + max a.depth b.depth; omega)
      · rcases List.mem_cons.mp hd with rfl | hd
        · exact ia.mono (by show a.depth + 1 ≤ 1 + max a.depth b.depth; omega)
        · rw [List.mem_singleton.mp hd]
          exact ib.mono (by show b.depth + 1 ≤ 1 + max a.depth b.depth; omega)
theorem sh_told {s d k : Nat} {t : Told} (h : TSz s d t) (hk : d + 2 ≤ k) : Sh (k + 1) t.D := by
  cases t with
  | ask sd x y =>
    refine Sh.tup fun e he => ?_
    simp only [List.mem_cons, List.not_mem_nil, or_false] at he
    rcases he with rfl | rfl | rfl | rfl
    · exact sh_ask
    · exact sh_side
    · exact (sh_part _).mono (by have := h.1.2; omega)
    · exact (sh_part _).mono (by have := h.2.2; omega)
  | pay am l =>
    refine Sh.tup fun e he => ?_
    simp only [List.mem_cons, List.not_mem_nil, or_false] at he
    rcases he with rfl | rfl | rfl
    · exact sh_pay
    · refine Sh.mono (k := 2) (Sh.tup fun e he => ?_) (by omega)
      obtain ⟨q, _, rfl⟩ := List.mem_map.mp he
      exact sh_fr q
    · exact (sh_part _).mono (by have := h.2; omega)
end Nl

namespace Nl
open PySem PySem.Spec PyProof.Rows L2
def placeD (x : List Int × Part) : PyData := .tuple [pathD x.1, x.2.D]
def placesF (pt : List Int) (k : Nat) : Told → List (List Int × Part)
  | .ask _ c d => [(pt, c), (pt, d)]
  | .pay _ l => (List.range k).map fun i : Nat => (pt ++ [Int.ofNat i], l)
theorem for_rangeB {lo : Int} {n : Nat} {g : TG} {tb : TS} {D : Ends} {σ : L2.St} {H : Hp} (Pv : Nat → L2.St → Hp → Prop) (Z : L2.St → Hp → Prop) (hz : ∀ σ H, Z σ H → D.nx σ H) (h0 : Pv 0 σ H)
    (hs : (∀ σ H, Z σ H → D.nx σ H) → ∀ i σ H, i < n → Pv i σ H → g (.int (lo + i)) σ H fun σ2 H2 => tb { D with nx := Pv (i + 1), ct := Pv (i + 1), bk := D.nx } σ2 H2) (hd : ∀ σ H, Pv n σ H → Z σ H) :
    ∃ W : Nat → Nat → L2.St → Hp → Prop, (∃ m, W 0 m σ H) ∧ ∀ i m σ H, W i m σ H →
      ((Itr lo n).stop i H ∧ D.nx σ H) ∨ ((Itr lo n).go i H ∧ ∃ N : L2.St → Hp → Prop, (∀ σ' H', N σ' H' → ∃ m', m' < m ∧ W (i + 1) m' σ' H') ∧ ∀ x H', (Itr lo n).yld i H x H' → g x σ H' fun σ2 H2 => tb { D with nx := N, ct := N, bk := D.nx } σ2 H2) :=
  for_range Pv h0 (hs hz) fun σ H p => hz σ H (hd σ H p)
theorem joinIte {c : Prop} [Decidable c] {ta tb : TE} {σ : L2.St} {H : Hp} {Q : VK} (Z : V → Hp → Prop) (hz : ∀ v H, Z v H → Q v H) (h1 : c → (∀ v H, Z v H → Q v H) → ta σ H Q) (h2 : ¬ c → (∀ v H, Z v H → Q v H) → tb σ H Q) : if c then ta σ H Q else tb σ H Q := by
  by_cases z : c
  · rw [if_pos z]
    exact h1 z hz
  · rw [if_neg z]
    exact h2 z hz
theorem placesF_len (pt : List Int) (k : Nat) (t : Told) : (placesF pt k t).length ≤ max 2 k := by
  cases t with
  | ask s c d => exact Nat.le_max_left ..
  | pay am l =>
    show ((List.range k).map fun i : Nat => (pt ++ [Int.ofNat i], l)).length ≤ _
    rw [List.length_map, List.length_range]
    exact Nat.le_max_right ..
theorem tall_of_ok {g : Int} {n k : Nat} {t : Told} (h : ToldOk g n k t) : TAll (FC g) t := by
  cases t with
  | ask s c d => exact ⟨h.fc.1, h.fc.2.1⟩
  | pay am l => exact h.fc.2.2.1
theorem placesF_get {pt : List Int} {n m : Node} {told : Told} {s d : Nat} {F G : Part → Prop} (fe : find n pt = some m) (h1 : TAll F told) (h2 : TAll G told) (h3 : TSz s d told) {x : List Int × Part} (hx : x ∈ placesF pt m.ks.length told) :
    (∃ m', find n x.1 = some m') ∧ F x.2 ∧ G x.2 ∧ x.2.size ≤ s + 1 ∧ x.2.depth ≤ d + 1 := by
  cases told with
  | ask sd a b =>
    rcases List.mem_cons.mp hx with rfl | hx
    · exact ⟨⟨m, fe⟩, h1.1, h2.1, h3.1.1, h3.1.2⟩
    · rw [List.mem_singleton.mp hx]
      exact ⟨⟨m, fe⟩, h1.2, h2.2, h3.2.1, h3.2.2⟩
  | pay am l =>
    obtain ⟨i, hi, rfl⟩ := List.mem_map.mp hx
    have hi := List.mem_range.mp hi
    refine ⟨⟨m.ks[i], ?_⟩, h1, h2, Nat.le_succ_of_le h3.1, Nat.le_succ_of_le h3.2⟩
    rw [find_app _ _ _ _ fe, show [Int.ofNat i] = [(i : Int)] from rfl, find_cons, List.getElem?_eq_getElem hi]
    unfold find
    rfl
section
variable {P : Program} {w : World} {K : PySem.W.Frag} {mg : Str → Option Value} {base : Heap}
/-! ### a market of any number of goods -/
def sp_marketN (K : PySem.W.Frag) : Sp := fun vs H Q _ => ∃ (pd ps : Addr) (mo : Int), vs = [.ref pd, .int mo] ∧ 1 ≤ mo ∧ mo ≤ 4 ∧ Dst H pd ps ∧ ∀ v g n m H', Xt pd H H' → Dst H' pd ps → DT K H' v (marketD g n) → 1 ≤ g → g ≤ 4 → m ≤ 2 → NV g m n → Q v H'
theorem ok__law_marketN (T : Top w K mg) : FnOk P w K mg base CX0 8 T.a__law_market T.d__law_market ["d", "most"] (sp_marketN K) := by
  refine T._law_market_F.ok sc__law_market (fun vs H Q E h => ?_) (fun cdv A outer s H vs Q E hr h => ?_)
  · obtain ⟨_, _, _, rfl, _⟩ := h
    rfl
  · obtain ⟨pd, ps, mo, rfl, mo1, mo4, D, fin⟩ := h
    have b5 : ∀ {x : Int}, 0 ≤ x → x ≤ 7 → Bd 8000 x := fun h0 h1 => Bd.mono (k := 3) (by unfold Bd; omega) (by decide)
    refine ⟨_, (pss_cons (ps_set (i := 2) sc__law_market.nd rfl (Or.inl rfl) (pe_op op_add pe_int (pe_call (ok__law_take T) (hr.mono (by decide : 1 ≤ 7)) (by rfl) T.g__law_take T._law_take_F.kp T._law_take_b .nil pass0 (pa_cons (pv 0) (pa_cons (pv 1) pa_nil)))))
      (Evl.pss_cut (ps_if (PW.pt (pw_and (pt_cmpR op_eq (pv 2) pe_int (nomark _)) (pw_and1 (pt_cmpR op_gt (pe_call (ok__law_take T) (hr.mono (by decide : 1 ≤ 7)) (by rfl) T.g__law_take T._law_take_F.kp T._law_take_b .nil pass0 (pa_cons (pv 0) (pa_cons pe_int pa_nil))) pe_int (nomark _))))) (pss_one (ps_set (i := 2) sc__law_market.nd rfl (Or.inl rfl) pe_int)) pss_nil)
      (pss_cons (ps_set (i := 3) sc__law_market.nd rfl (Or.inl rfl) (pe_cmpR op_eq (pe_call (ok__law_take T) (hr.mono (by decide : 1 ≤ 7)) (by rfl) T.g__law_take T._law_take_F.kp T._law_take_b .nil pass0 (pa_cons (pv 0) (pa_cons pe_int pa_nil))) pe_int (nomark _)))
      (pss_one (ps_ret (pe_tup (pa_cons (pv 2) (pa_cons (pe_ix ix_tup (pe_call (ok__law_node T) (hr.mono (by decide : 7 ≤ 7)) (by rfl) T.g__law_node T._law_node_F.kp T._law_node_b .nil pass0 (pa_cons (pv 0) (pa_cons (pv 2) (pa_cons pe_int (pa_cons (pe_call (ok__law_take T) (hr.mono (by decide : 1 ≤ 7)) (by rfl) T.g__law_take T._law_take_F.kp T._law_take_b .nil pass0 (pa_cons (pv 0) (pa_cons pe_int pa_nil))) (pa_cons (pv 3) pa_nil)))))) pe_int (fun _ _ => rfl)) pa_nil)))))))), ?_⟩
    refine ⟨_, rfl, _, rfl, pd, ps, mo, rfl, D, by omega, b5 (by omega) (by omega), fun r H1 x1 D1 r0 r1 => ⟨_, _, rfl, rfl, ?_⟩⟩
    refine ⟨fun σ' H2 => ∃ g : Int, σ' = [some (.ref pd), some (.int mo), some (.int g), none] ∧ Xt pd H H2 ∧ Dst H2 pd ps ∧ 1 ≤ g ∧ g ≤ 4, ?_, ?_⟩
    · refine ⟨_, rfl, rfl, _, rfl, ite2 (fun e => ?_) (fun e => iteF ⟨1 + r, rfl, x1, D1, by omega, by omega⟩)⟩
      refine ⟨_, rfl, pd, ps, 3, rfl, D1, by decide, b5 (by decide) (by decide), fun q H2 x2 D2 q0 q1 => ⟨_, _, rfl, rfl, _, rfl, ite2 (fun e2 => ?_) (fun e2 => ?_)⟩⟩
      · exact ⟨2, rfl, x1.trans x2, D2, by decide, by decide⟩
      · exact ⟨1 + r, rfl, x1.trans x2, D2, by omega, by omega⟩
    · rintro σ' H2 ⟨g, rfl, x2, D2, g1, g4⟩
      refine ⟨_, rfl, pd, ps, 5, rfl, D2, by decide, b5 (by decide) (by decide), fun q H3 x3 D3 q0 q1 => ⟨rfl, ?_⟩⟩
      refine ⟨_, rfl, _, rfl, _, rfl, _, rfl, pd, ps, 3, rfl, D3, by decide, b5 (by decide) (by decide), fun l H4 x4 D4 l0 l1 => ?_⟩
      refine ⟨_, rfl, l.toNat, by omega, pd, ps, g, 0, decide (V.int q = V.int 1), ?_, D4, g1, g4, fun H5 a vn pm xs n ms x5 D5 ha dvn _ _ _ nv _ => ?_⟩
      · have : (0 : Int) + (l.toNat : Int) = l := by omega
        rw [this]
        rfl
      · refine ⟨_, _, _, _, rfl, rfl, ha.sq, atI_nat (j := 0) rfl, two_le, fun pt hpt => ?_⟩
        have s6 := same_new (o := .tup [.int g, vn]) hpt
        exact fin _ g n l.toNat _ ((((x2.trans x3).trans x4).trans x5).trans (Xt.of s6)) (D5.same s6) (.mk2 (Tp.of upd_same) (.int g) (dvn.same s6)) g1 g4 (by omega) nv
/-! ### where a contract's parts go -/
def sp_lbr (K : PySem.W.Frag) : Sp := fun vs H Q _ => ∃ (v va vt : V) (g : Int) (n m : Node) (pt : List Int) (told : Told), vs = [v, va, vt] ∧ DT K H v (marketD g n) ∧ DT K H va (pathD pt) ∧ DT K H vt told.D ∧ find n pt = some m ∧ pt.length ≤ 20 ∧ m.ks.length ≤ 100 ∧
  ∀ l xs H', Same H H' → H l = none → H' l = some (.lst xs) → DTs K H' xs ((placesF pt m.ks.length told).map placeD) → Q (.ref l) H'
theorem ok__law_branches (T : Top w K mg) : FnOk P w K mg base CX0 2 T.a__law_branches T.d__law_branches ["market", "path", "found"] (sp_lbr K) := by
  refine T._law_branches_F.ok sc__law_branches (fun vs H Q E h => ?_) (fun cdv A outer s H vs Q E hr h => ?_)
  · obtain ⟨_, _, _, _, _, _, _, _, rfl, _⟩ := h
    rfl
  · obtain ⟨v, va, vt, g, n, m, pt, told, rfl, dm, dp, dt, fe, lp, lk, fin⟩ := h
    refine ⟨_, (pss_cons (ps_if (pt_cmpR op_eq (pe_ix ix_tup (pv 2) pe_int (fun _ _ => rfl)) pe_str (nomark _)) (pss_one (ps_ret (pe_lst (pa_cons (pe_tup (pa_cons (pv 1) (pa_cons (pe_ix ix_tup (pv 2) pe_int (fun _ _ => rfl)) pa_nil))) (pa_cons (pe_tup (pa_cons (pv 1) (pa_cons (pe_ix ix_tup (pv 2) pe_int (fun _ _ => rfl)) pa_nil))) pa_nil))))) pss_nil)
      (pss_one (ps_ret (pe_lc (own := [("k", 3)]) (g := (gName 3)) (tt := tYes) (by rfl) sc__law_branches.nd (pi_range1 rfl T.n_range (pa_cons (pe_callB call_lenT (by rfl) T.n_len (by decide +kernel) (pa_cons (pe_ix ix_tup (pe_call (ok__law_find T) (hr.mono (by decide : 1 ≤ 1)) (by rfl) T.g__law_find T._law_find_F.kp T._law_find_b .nil pass0 (pa_cons (pv 0) (pa_cons (pv 1) pa_nil))) pe_int (fun _ _ => rfl)) pa_nil)) pa_nil)) (blkOk_by (own := [("k", 3)]) (N := ["market", "path", "found", "k"]) (sc := defScope s__law_branches) (by decide +kernel)) (fun _ _ _ _ _ => (pg_name (i := 3) sc__law_branches.nd rfl (Or.inl rfl))) (fun _ _ _ _ _ => pts_nil) (fun _ _ _ _ _ => (pe_tup (pa_cons (pe_op (r := rCatP K) op_catP (pv 1) (pe_tup (pa_cons (pv 3) pa_nil))) (pa_cons (pe_ix (r := rIxT K) ix_tup (pv 2) pe_int (fun _ _ => rfl)) pa_nil)))))))), ?_⟩
    obtain ⟨ap, rfl, hap⟩ := id dp.path_inv
    cases told with
    | ask sd c d =>
      obtain ⟨at', x, y, rfl, hat, dx, dy⟩ := dt.ask_inv
      refine ⟨_, rfl, _, _, _, _, rfl, rfl, hat.sq, atI_nat (j := 0) rfl, rfl, _, rfl, if_true_of' ask_ask ?_⟩
      refine ⟨_, rfl, _, rfl, _, _, _, _, rfl, rfl, hat.sq, atI_nat (j := 2) rfl, two_le, fun p1 h1 => ?_⟩
      have t1 := same_new (o := .tup [V.ref ap, x]) h1
      refine ⟨_, rfl, _, rfl, _, _, _, _, rfl, rfl, (tp_same t1 hat).sq, atI_nat (j := 3) rfl, two_le, fun p2 h2 => ⟨two_le, fun l hl => ?_⟩⟩
      have t2 := same_new (o := .tup [V.ref ap, y]) h2
      have t3 := same_new (o := .lst [V.ref p1, V.ref p2]) hl
      have t123 := (t1.trans t2).trans t3
      exact fin l [.ref p1, .ref p2] _ t123 ((t1.trans t2).free hl) upd_same (.cons (.mk2 (Tp.of (t3 _ _ (t2 _ _ upd_same))) (dp.same t123) (dx.same t123)) (.cons (.mk2 (Tp.of (t3 _ _ upd_same)) (dp.same t123) (dy.same t123)) .nil))
    | pay am r =>
      obtain ⟨at', x, y, rfl, hat, dx, dy⟩ := dt.pay_inv
      refine ⟨_, rfl, _, _, _, _, rfl, rfl, hat.sq, atI_nat (j := 0) rfl, rfl, _, rfl, if_false_of' pay_ask ?_⟩
      refine ⟨_, rfl, _, rfl, v, .ref ap, g, n, pt, rfl, dm, dp, fun z => absurd (fe.symm.trans z) (Option.some_ne_none _), fun m' hm' v' dv' => ?_⟩
      rw [fe] at hm'
      cases hm'
      obtain ⟨an, vps, vks, rfl, han, dps, dks⟩ := dv'.node_inv
      obtain ⟨ak, xk, rfl, hak, dxk⟩ := id dks.inv
      have lxk : xk.length = m.ks.length := by rw [dxk.len, List.length_map]
      refine ⟨_, _, _, _, rfl, rfl, han.sq, atI_nat (j := 1) rfl, ak, xk, rfl, hak.sq, ?_⟩
      rw [lxk]
      refine ⟨_, rfl, by omega, by omega, fun D hD => lc_range (lo := 0) (n := ((m.ks.length : Nat) : Int).toNat) (fun i H' => Same H H' ∧ ∃ o, H' D = some (.lst o) ∧ DTs K H' o (((placesF pt m.ks.length (.pay am r)).take i).map placeD)) ⟨same_new hD, [], upd_same, .nil⟩ ?_ ?_⟩
      · rintro i H' hi ⟨sm, o, hO, dO⟩
        refine ⟨rfl, ?_⟩
        dsimp only [tYes]
        rw [if_pos rfl]
        have hi' : i < m.ks.length := by omega
        have ho : (placesF pt m.ks.length (.pay am r))[i]? = some (pt ++ [Int.ofNat i], r) := by
          show ((List.range m.ks.length).map fun i : Nat => (pt ++ [Int.ofNat i], r))[i]? = _
          rw [List.getElem?_map, List.getElem?_range hi']
          rfl
        have lo : o.length ≤ 100 := by
          rw [dO.len, List.length_map, List.length_take]
          omega
        refine ⟨_, rfl, _, rfl, (by decide : 1 ≤ sizeLine), fun p1 h1 => ?_⟩
        have t1 := same_new (o := .tup [V.int (0 + (i : Int))]) h1
        have sm1 := sm.trans t1
        refine ⟨ap, p1, pt.map V.int, [V.int (0 + (i : Int))], rfl, rfl, tp_same sm1 hap, Tp.of upd_same, len1000 (by simp; omega), fun q H2 s2 hq => ?_⟩
        have sm2 := sm1.trans s2
        refine ⟨_, rfl, _, _, _, _, rfl, rfl, (tp_same sm2 hat).sq, atI_nat (j := 2) rfl, two_le, fun p3 h3 => ?_⟩
        have t3 := same_new (o := .tup [V.ref q, y]) h3
        have sm3 := sm2.trans t3
        have hO3 := t3 _ _ (s2 _ _ (t1 _ _ hO))
        have hq' : Tp H2 q ((pt ++ [Int.ofNat i]).map V.int) := by simpa using hq
        refine ⟨o, hO3, small1000 (by omega), same_mut sm3 hD, _, upd_same, ?_⟩
        rw [take_next ho, List.map_append]
        exact ((((dO.same t1).same s2).same t3).snoc (.mk2 (Tp.of upd_same) (DT.path (tp_same t3 hq')) (dy.same sm3))).xt ⟨_, hO3⟩ Xt.upd
      · rintro H' ⟨sm, o, hO, dO⟩
        rw [List.take_of_length_le (by show ((List.range m.ks.length).map fun i : Nat => (pt ++ [Int.ofNat i], r)).length ≤ _; rw [List.length_map, List.length_range]; omega)] at dO
        exact fin D o H' sm hD hO dO
def sp_ltold (K : PySem.W.Frag) : Sp := fun vs H Q _ => ∃ (v va vc : V) (g : Int) (n : Node) (pt : List Int) (c : Part), vs = [v, va, vc] ∧ Mk K H v g n ∧ Good g n ∧ DT K H va (pathD pt) ∧ DT K H vc c.D ∧ c.WF ∧
  (Part.Bad g c → ∀ H', Same H H' → Q (.str (Str.ofString "contract")) H') ∧ (¬ Part.Bad g c → (find n pt = none → ∀ H', Same H H' → Q (.str (Str.ofString "moment")) H') ∧
    ∀ m, find n pt = some m → PsOk g m.ps ∧ FC g c ∧ tb c ≤ 7900 ∧ ∀ v H', Same H H' → DT K H' v (faceF m.ps (pt.length : Int) c).D → Q v H')
theorem ok__law_told (T : Top w K mg) : FnOk P w K mg base CX0 46 T.a__law_told T.d__law_told ["market", "path", "contract"] (sp_ltold K) := by
  refine T._law_told_F.ok sc__law_told (fun vs H Q E h => ?_) (fun cdv A outer s H vs Q E hr h => ?_)
  · obtain ⟨_, _, _, _, _, _, _, rfl, _⟩ := h
    rfl
  · obtain ⟨v, va, vc, g, n, pt, c, rfl, M, G, dpt, dc, wf, kZ, kQ⟩ := h
    refine ⟨_, (pss_cons (ps_try_as (i := 4) rfl rfl sc__law_told.nd rfl rfl ⟨rfl, by decide, .inl T.g_MarketplaceError⟩ takes0 (fun W pn xe tk _ => (pss_one (ps_set (i := 3) sc__law_told.nd rfl (Or.inl rfl) (pe_callS (ok_faced T) (hr.mono (by decide : 45 ≤ 45)) rfl T.g_faced T.faced_F.kp T.faced_b (fun σ => passAt tk σ) (pa_cons (pv 0) (pa_cons (pv 1) (pa_cons (pv 2) pa_nil)))))))
      (fun a oe cls d pn hz hf => (pss_one (ps_ret (pe_op op_add_str (pe_ifExp (pt_val (pe_hyp (p := ∃ D, cls = .ref D ∧ d = none ∧ ExcC K D) (fun z => pe_callB (r := rIsX K cls a) (call_isX z hz hf) (by rfl) T.n_isinstance (by decide +kernel) (pa_cons (pv 4) (pa_cons (pe_glob (v := .ref T.c_MomentError) (by rfl) T.g_MomentError rfl) pa_nil))))) pe_str pe_str) (pe_ifExp (pt_val (pe_hyp (p := ∃ D, cls = .ref D ∧ d = none ∧ ExcC K D) (fun z => pe_callB (r := rIsX K cls a) (call_isX z hz hf) (by rfl) T.n_isinstance (by decide +kernel) (pa_cons (pv 4) (pa_cons (pe_glob (v := .ref T.c_ContractError) (by rfl) T.g_ContractError rfl) pa_nil))))) pe_str pe_str))))))
      (pss_one (ps_ret (pv 3)))), ?_⟩
    refine ⟨_, rfl, _, rfl, _, rfl, v, va, vc, g, n, pt, c, rfl, M, G, dpt, dc, wf, fun hb H1 s1 => ?_, fun nb => ⟨fun hn H1 s1 => ?_, fun m hm => ?_⟩⟩
    · exact ⟨true, PySem.W.exm_ref T.b_MarketplaceError T.h_MarketplaceError T.t_MarketplaceError T.s_ContractError_MarketplaceError, fun _ x hx => ⟨⟨_, rfl, rfl, T.e_ContractError⟩, _, rfl, _, _, false, rfl, fun _ u => u, (kit_ref T.h_MomentError T.t_MomentError T.s_ContractError_MomentError T.s_ContractError_ContractError), _, rfl, iteF ⟨⟨_, rfl, rfl, T.e_ContractError⟩, _, rfl, _, _, true, rfl, fun _ u => u, (kit_ref T.h_ContractError T.t_ContractError T.s_ContractError_ContractError T.s_ContractError_ContractError), _, rfl, iteT ⟨_, _, rfl, rfl, by decide, kZ hb H1 s1⟩⟩⟩, fun z => nomatch z⟩
    · exact ⟨true, PySem.W.exm_ref T.b_MarketplaceError T.h_MarketplaceError T.t_MarketplaceError T.s_MomentError_MarketplaceError, fun _ x hx => ⟨⟨_, rfl, rfl, T.e_MomentError⟩, _, rfl, _, _, true, rfl, fun _ u => u, (kit_ref T.h_MomentError T.t_MomentError T.s_MomentError_MomentError T.s_MomentError_MomentError), _, rfl, iteT ⟨⟨_, rfl, rfl, T.e_MomentError⟩, _, rfl, _, _, false, rfl, fun _ u => u, (kit_ref T.h_ContractError T.t_ContractError T.s_MomentError_ContractError T.s_MomentError_MomentError), _, rfl, iteF ⟨_, _, rfl, rfl, by decide, (kQ nb).1 hn H1 s1⟩⟩⟩, fun z => nomatch z⟩
    · obtain ⟨po, fc, tbc, fq⟩ := (kQ nb).2 m hm
      exact ⟨po, fc, tbc, fun v H' s d => ⟨_, rfl, fq v H' s d⟩⟩
def sp_lsmall (K : PySem.W.Frag) : Sp := fun vs H Q _ => ∃ (v : V) (p : Part), vs = [v] ∧ DT K H v p.D ∧ p.WF ∧ p.depth ≤ 25 ∧ p.size ≤ 900 ∧ ∀ H', Same H H' → Q (.bl (decide (p.size ≤ 40 ∧ p.depth ≤ 20))) H'
theorem ok__law_small (T : Top w K mg) : FnOk P w K mg base CX0 27 T.a__law_small T.d__law_small ["contract"] (sp_lsmall K) := by
  refine T._law_small_F.ok sc__law_small (fun vs H Q E h => ?_) (fun cdv A outer s H vs Q E hr h => ?_)
  · obtain ⟨_, _, rfl, _⟩ := h
    rfl
  · obtain ⟨v, p, rfl, dp, wf, dz, sz, fin⟩ := h
    refine ⟨_, (pss_one (ps_ret (pe_and (pe_cmpR op_le (pe_callB call_lenL (by rfl) T.n_len (by decide +kernel) (pa_cons (pe_call (ok__law_parts T) (hr.mono (by decide : 26 ≤ 26)) (by rfl) T.g__law_parts T._law_parts_F.kp T._law_parts_b .nil pass0 (pa_cons (pv 0) pa_nil)) pa_nil)) pe_int (nomark _)) (pe_one (pe_cmpR op_le (pe_call (ok__law_depth T) (hr.mono (by decide : 26 ≤ 26)) (by rfl) T.g__law_depth T._law_depth_F.kp T._law_depth_b .nil pass0 (pa_cons (pv 0) pa_nil)) pe_int (nomark _)))))), ?_⟩
    refine ⟨_, rfl, v, p, rfl, dp, wf, dz, by omega, fun l xs H1 s1 n1 hl dx => ⟨l, xs, rfl, SqL.of hl, ?_⟩⟩
    rw [dx.len, List.length_map, partsP_len]
    refine ⟨_, _, rfl, rfl, _, rfl, ite2 (fun e => ?_) (fun e => ?_)⟩
    · have e1 : (p.size : Int) ≤ 40 := of_decide_eq_true e
      refine ⟨_, rfl, v, p, rfl, dp.same s1, wf, dz, fun H2 s2 => ⟨_, _, rfl, rfl, ?_⟩⟩
      have := fin H2 (s1.trans s2)
      rw [show decide (p.size ≤ 40 ∧ p.depth ≤ 20) = decide ((p.depth : Int) ≤ 20) from by
        by_cases z : p.depth ≤ 20
        · rw [decide_eq_true (show p.size ≤ 40 ∧ p.depth ≤ 20 from ⟨by omega, z⟩), decide_eq_true (by omega)]
        · rw [decide_eq_false (fun y : p.size ≤ 40 ∧ p.depth ≤ 20 => z y.2), decide_eq_false (by omega)]] at this
      exact this
    · have e1 : ¬ (p.size : Int) ≤ 40 := fun z => e (decide_eq_true z)
      have := fin H1 s1
      rw [decide_eq_false (fun y : p.size ≤ 40 ∧ p.depth ≤ 20 => e1 (by omega))] at this
      exact this
def sp_law (K : PySem.W.Frag) : Sp := fun vs H Q _ => ∃ (a : Addr) (ns : List Int), vs = [.ref a] ∧ SqL K H a (ns.map V.int) ∧ ns.length ≤ 63 ∧ ∀ H', Q (.bl true) H'
theorem ok_law {f : Addr} {fd : FuncData} (T : Top w K mg) (F : Fun K "law" "law" s_law f fd) : FnOk P w K mg base CX0 47 f fd ["script"] (sp_law K) := by
  refine F.ok sc_law (fun vs H Q E h => ?_) (fun cdv A outer s H vs Q E hr h => ?_)
  · obtain ⟨_, _, rfl, _⟩ := h
    rfl
  · obtain ⟨a, ns, rfl, hS, _, fin⟩ := h
    refine ⟨_, (pss_cons (ps_set (i := 1) sc_law.nd rfl (Or.inl rfl) (pe_call (ok__law_begin T) (hr.mono (by decide : 1 ≤ 46)) (by rfl) T.g__law_begin T._law_begin_F.kp T._law_begin_b .nil pass0 (pa_cons (pv 0) pa_nil)))
      (pss_cons (ps_set (i := 2) sc_law.nd rfl (Or.inl rfl) (pe_call (ok__law_marketN T) (hr.mono (by omega)) (by rfl) T.g__law_market T._law_market_F.kp T._law_market_b .nil pass0 (pa_cons (pv 1) (pa_cons pe_int pa_nil))))
      (pss_cons (ps_set (i := 3) sc_law.nd rfl (Or.inl rfl) (pe_call (ok__law_contract T) (hr.mono (by decide : 18 ≤ 46)) (by rfl) T.g__law_contract T._law_contract_F.kp T._law_contract_b .nil pass0 (pa_cons (pv 1) (pa_cons (pe_ix ix_tup (pv 2) pe_int (fun _ _ => rfl)) (pa_cons pe_int (pa_cons pe_int pa_nil))))))
      (pss_cons (ps_set (i := 4) sc_law.nd rfl (Or.inl rfl) (pe_call (ok__law_nodes T) (hr.mono (by decide : 4 ≤ 46)) (by rfl) T.g__law_nodes T._law_nodes_F.kp T._law_nodes_b .nil pass0 (pa_cons (pv 2) pa_nil)))
      (pss_cons (ps_set (i := 5) sc_law.nd rfl (Or.inl rfl) (pe_ifExp (pt_cmpR op_eq (pe_call (ok__law_take T) (hr.mono (by decide : 1 ≤ 46)) (by rfl) T.g__law_take T._law_take_F.kp T._law_take_b .nil pass0 (pa_cons (pv 1) (pa_cons pe_int pa_nil))) pe_int (nomark _)) (pe_ix ix_tup (pe_ix ix_list (pv 4) (pe_call (ok__law_take T) (hr.mono (by decide : 1 ≤ 46)) (by rfl) T.g__law_take T._law_take_F.kp T._law_take_b .nil pass0 (pa_cons (pv 1) (pa_cons (pe_callB call_lenL (by rfl) T.n_len (by decide +kernel) (pa_cons (pv 4) pa_nil)) pa_nil))) (fun _ _ => rfl)) pe_int (fun _ _ => rfl)) (pe_tup pa_nil)))
      (pss_cons (ps_for PassesOwn.never rfl (pi_range1 rfl T.n_range (pa_cons pe_int pa_nil)) (pg_name (i := 6) sc_law.nd rfl (Or.inl rfl)) (pss_cons (ps_if (pt_not (pt_val (pe_call (ok__law_small T) (hr.mono (by decide : 27 ≤ 46)) (by rfl) T.g__law_small T._law_small_F.kp T._law_small_b .nil pass0 (pa_cons (pv 3) pa_nil)))) (pss_one (ps_ret (pe_cmpR op_eq (pe_call (ok__law_told T) (hr.mono (by decide : 46 ≤ 46)) (by rfl) T.g__law_told T._law_told_F.kp T._law_told_b .nil pass0 (pa_cons (pv 2) (pa_cons (pv 5) (pa_cons (pv 3) pa_nil)))) pe_str (nomark _)))) pss_nil)
      (pss_cons (ps_set (i := 7) sc_law.nd rfl (Or.inl rfl) (pe_call (ok__law_faced T) (hr.mono (by decide : 37 ≤ 46)) (by rfl) T.g__law_faced T._law_faced_F.kp T._law_faced_b .nil pass0 (pa_cons (pe_call (ok__law_prices T) (hr.mono (by decide : 2 ≤ 46)) (by rfl) T.g__law_prices T._law_prices_F.kp T._law_prices_b .nil pass0 (pa_cons (pv 2) (pa_cons (pv 5) pa_nil))) (pa_cons (pe_callB call_lenT (by rfl) T.n_len (by decide +kernel) (pa_cons (pv 5) pa_nil)) (pa_cons (pv 3) pa_nil)))))
      (pss_cons (ps_if (pt_cmpR (op_neD hr.units) (pe_call (ok__law_told T) (hr.mono (by decide : 46 ≤ 46)) (by rfl) T.g__law_told T._law_told_F.kp T._law_told_b .nil pass0 (pa_cons (pv 2) (pa_cons (pv 5) (pa_cons (pv 3) pa_nil)))) (pv 7) (nomark _)) (pss_one (ps_ret pe_bl)) pss_nil)
      (pss_cons (ps_set (i := 8) sc_law.nd rfl (Or.inl rfl) (pe_call (ok__law_branches T) (hr.mono (by decide : 2 ≤ 46)) (by rfl) T.g__law_branches T._law_branches_F.kp T._law_branches_b .nil pass0 (pa_cons (pv 2) (pa_cons (pv 5) (pa_cons (pv 7) pa_nil)))))
      (pss_cons (ps_if (pt_cmpR op_eq (pe_callB call_lenL (by rfl) T.n_len (by decide +kernel) (pa_cons (pv 8) pa_nil)) pe_int (nomark _)) (pss_one ps_break) pss_nil)
      (pss_one (ps_asg (pe_ix ix_list (pv 8) (pe_call (ok__law_take T) (hr.mono (by decide : 1 ≤ 46)) (by rfl) T.g__law_take T._law_take_F.kp T._law_take_b .nil pass0 (pa_cons (pv 1) (pa_cons (pe_callB call_lenL (by rfl) T.n_len (by decide +kernel) (pa_cons (pv 8) pa_nil)) pa_nil))) (fun _ _ => rfl)) (pg_tup rfl (pgs_cons (pg_name (i := 5) sc_law.nd rfl (Or.inl rfl)) (pgs_cons (pg_name (i := 3) sc_law.nd rfl (Or.inl rfl)) pgs_nil)))))))))))
      (pss_cons (ps_set (i := 9) sc_law.nd rfl (Or.inl rfl) (pe_tup (pa_cons pe_str (pa_cons (pe_ix ix_tup (pv 2) pe_int (fun _ _ => rfl)) pa_nil))))
      (pss_one (ps_ret (pe_and (pe_cmpR op_eq (pe_call (ok__law_told T) (hr.mono (by decide : 46 ≤ 46)) (by rfl) T.g__law_told T._law_told_F.kp T._law_told_b .nil pass0 (pa_cons (pv 2) (pa_cons (pe_tup (pa_cons pe_int pa_nil)) (pa_cons (pe_tup (pa_cons pe_str (pa_cons pe_int pa_nil))) pa_nil)))) pe_str (nomark _)) (pe_one (pe_cmpR op_eq (pe_call (ok__law_told T) (hr.mono (by decide : 46 ≤ 46)) (by rfl) T.g__law_told T._law_told_F.kp T._law_told_b .nil pass0 (pa_cons (pv 2) (pa_cons (pe_tup (pa_cons pe_int pa_nil)) (pa_cons (pv 9) pa_nil)))) pe_str (nomark _))))))))))))), ?_⟩
    have b8 : ∀ {x : Int}, 0 ≤ x → x ≤ 15 → Bd 8000 x := fun h0 h1 => Bd.mono (k := 4) (by unfold Bd; omega) (by decide)
    refine ⟨_, rfl, a, ns, rfl, hS, fun pd ps H1 s1 n1 n2 D1 => ?_⟩
    refine ⟨_, rfl, pd, ps, 3, rfl, by decide, by decide, D1, fun v g n m H2 x2 D2 dm g1 g4 m2 nv => ?_⟩
    obtain ⟨G, hB, hL⟩ := nv_good nv m2 g1 g4
    have np := (nv_pre m ([], n) nv).1
    obtain ⟨am, vn, rfl, ham, dn⟩ := id dm.market_inv
    refine ⟨_, rfl, _, rfl, _, _, _, _, rfl, rfl, ham.sq, atI_nat (j := 0) rfl, 5, by decide, pd, ps, g, 5, 3, rfl, rfl, by decide, D2, g1, by omega, fun vc c H3 x3 D3 dc pg fc0 => ?_⟩
    have dm3 := dm.xt D2.isL' x3
    have l6 : ∀ x ∈ pre [] n, x.1.length ≤ 6 := fun x hx => by
      have := (np x hx).2.2.1
      simp at this
      omega
    refine ⟨_, rfl, .ref am, g, n, rfl, dm3, by omega, l6, fun pn xn H5 s5 nn hN dN => ?_⟩
    have ln : xn.length = (pre [] n).length := by rw [dN.len, List.length_map]
    have D5 := D3.same s5
    have dm5 := dm3.same s5
    have dc5 := dc.same s5
    refine ⟨_, rfl, pd, ps, 3, rfl, D5, by decide, b8 (by decide) (by decide), fun r H6 x6 D6 r0 r1 => ⟨rfl, _, rfl, ?_⟩⟩
    have pnd := (D3.fresh nn).1
    have hN6 := x6 _ _ pnd hN
    refine joinIte (fun vp H' => ∃ (pt : List Int) (mm : Node), Xt pd H5 H' ∧ Dst H' pd ps ∧ DT K H' vp (pathD pt) ∧ find n pt = some mm) ?_ ?_ ?_
    · rintro vp H7 ⟨pt, mm, x7, D7, dp, fe⟩
      have dm7 := dm5.xt D5.isL' x7
      have dc7 := dc5.xt D5.isL' x7
      have szc : c.size ≤ 404 := pg.size
      have dzc : c.depth ≤ 10 := pg.depth
      have nb0 : NBL g c := fun x hx => by
        have h := pg.lits x hx
        intro z
        revert h z
        cases x.1.lit with
        | non => exact fun _ z => z
        | size q => exact fun _ z => z
        | good j => exact fun h z => z h
        | time j => exact fun h z => by have h0 : 0 ≤ j ∧ j ≤ 3 := h; have z0 : j < 0 := z; omega
      refine ⟨9, rfl, by decide, by decide, for_rangeB (lo := 0) (n := (9 : Int).toNat) (fun i σ H' => ∃ (vp vc : V) (pt : List Int) (mm : Node) (c : Part) (y6 y7 y8 : Option V), σ = [some (.ref a), some (.ref pd), some (.ref am), some vc, some (.ref pn), some vp, y6, y7, y8, none] ∧ Dst H' pd ps ∧ DT K H' (.ref am) (marketD g n) ∧ DT K H' vp (pathD pt) ∧ DT K H' vc c.D ∧ find n pt = some mm ∧ FC g c ∧ NBL g c ∧ c.size ≤ 404 ∧ c.depth ≤ 21) (fun σ H' => ∃ (y3 y5 y6 y7 y8 : Option V), σ = [some (.ref a), some (.ref pd), some (.ref am), y3, some (.ref pn), y5, y6, y7, y8, none] ∧ DT K H' (.ref am) (marketD g n)) ?_ ⟨vp, vc, pt, mm, c, _, _, _, rfl, D7, dm7, dp, dc7, fe, fc0, nb0, szc, by omega⟩ ?_ ?_⟩
      · rintro σ' H8 ⟨y3, y5, y6, y7, y8, rfl, dm8⟩
        obtain ⟨_, _, eam, ham8, _⟩ := dm8.market_inv
        cases eam
        refine ⟨_, rfl, _, _, _, _, rfl, rfl, ham8.sq, atI_nat (j := 0) rfl, two_le, fun p9 h9 => ?_⟩
        have t9 := same_new (o := .tup [V.str Wd.one.str, V.int g]) h9
        have M9 : Mk K _ (.ref am) g n := ⟨dm8.same t9, hB, by omega⟩
        refine ⟨_, rfl, (by decide : 1 ≤ sizeLine), fun p10 h10 => ⟨two_le, fun p11 h11 => ?_⟩⟩
        have t10 := same_new (o := .tup [V.int 9]) h10
        have t11 := same_new (o := .tup [V.str Wd.one.str, V.int 0]) h11
        have f9 : find n [9] = none := find_out (by
          have := (np ([], n) (by
            show _ ∈ preE ([], n)
            rw [preE_eq]
            exact List.mem_cons_self ..)).2.1
          simp only at this
          omega)
        have good0 : ¬ Part.Bad g (.p0 .one (.good 0)) := by
          rintro (z | z | ⟨x, hx, z⟩)
          · simp [Part.size] at z
          · simp [Part.depth] at z
          · simp only [Part.pre, List.mem_singleton] at hx
            subst hx
            exact z ⟨by decide, by omega⟩
        have badg : Part.Bad g (.p0 .one (.good g)) := .inr (.inr ⟨(.p0 .one (.good g), 1), by simp [Part.pre], fun z => by have := z.2; omega⟩)
        have M11 := (M9.same t10).same t11
        refine ⟨.ref am, .ref p10, .ref p11, g, n, [9], .p0 .one (.good 0), rfl, M11, G, DT.path (p := [9]) (Tp.of (t11 _ _ upd_same)), DT.p0g (x := .one) (Tp.of upd_same), rfl, fun z => (good0 z).elim, fun _ => ⟨fun _ H12 s12 => ?_, fun m' hm' => absurd (hm'.symm.trans f9) (Option.some_ne_none _)⟩⟩
        refine ⟨rfl, _, rfl, if_true_of' (decide_eq_true rfl) ?_⟩
        refine ⟨_, rfl, (by decide : 1 ≤ sizeLine), fun p13 h13 => ?_⟩
        have t13 := same_new (o := .tup [V.int 9]) h13
        have s13 := s12.trans t13
        refine ⟨_, rfl, .ref am, .ref p13, .ref p9, g, n, [9], .p0 .one (.good g), rfl, M11.same s13, G, DT.path (p := [9]) (Tp.of upd_same), DT.p0g (x := .one) (Tp.of (s13 _ _ (t11 _ _ (t10 _ _ upd_same)))), rfl, fun _ H14 s14 => ?_, fun z => (z badg).elim⟩
        refine ⟨rfl, ?_⟩
        rw [decide_eq_true rfl]
        exact fin _
      · rintro hz i σ' H8 hi ⟨vp, vc, pt, mm, c, y6, y7, y8, rfl, D8, dm8, dp8, dc8, fe, fc, nb, sz, dz⟩
        have me : (pt, mm) ∈ pre [] n := find_preE pt ([], n) mm fe
        obtain ⟨po, kl, pl, _⟩ := np _ me
        have pl : pt.length ≤ 2 := by simp at pl; omega
        have kl : mm.ks.length ≤ 3 := kl
        have po : PsOk g mm.ps := po
        have plen : (mm.ps.length : Int) = g - 1 := po.len
        have M8 : Mk K H8 (.ref am) g n := ⟨dm8, hB, by omega⟩
        have wf := fc.wf.1
        refine ⟨_, rfl, vc, c, rfl, dc8, wf, by omega, by omega, fun H9 s9 => ?_⟩
        refine ⟨_, rfl, ?_⟩
        by_cases hs : c.size ≤ 40 ∧ c.depth ≤ 20
        · refine if_false_of' (by rw [decide_eq_true hs]; rfl) ?_
          have nbad : ¬ Part.Bad g c := by
            rintro (z | z | ⟨x, hx, z⟩)
            · omega
            · omega
            · exact nb x hx z
          obtain ⟨ap, rfl, hap⟩ := id dp8.path_inv
          have tbc : tb c ≤ 7900 := by
            have := tb_size c
            omega
          have fo := face_ok po (pt.length : Int) c fc
          have sz' := face_sz mm.ps (pt.length : Int) c
          have fnb := face_nb mm.ps (pt.length : Int) c nb
          refine ⟨_, rfl, _, rfl, .ref am, .ref ap, g, n, mm, pt, rfl, dm8.same s9, dp8.same s9, fe, by omega, fun vps H10 s10 dps => ?_⟩
          have s910 := s9.trans s10
          refine ⟨_, rfl, ap, _, rfl, (tp_same s910 hap).sq, _, rfl, ?_⟩
          rw [List.length_map]
          refine ⟨(pt.length : Int), vps, vc, g, mm.ps, c, ⟨rfl, dps, dc8.same s910, po, g1, g4, fc, by omega, tbc, fun vd H11 s11 dd => ?_⟩⟩
          have st : Sh 24 (faceF mm.ps (pt.length : Int) c).D := sh_told sz' (show c.depth + 2 ≤ 23 by omega)
          have s911 := s910.trans s11
          refine ⟨_, rfl, _, rfl, _, rfl, .ref am, .ref ap, vc, g, n, pt, c, rfl, M8.same s911, G, dp8.same s911, dc8.same s911, wf, fun z => (nbad z).elim, fun _ => ⟨fun z => absurd (fe.symm.trans z) (Option.some_ne_none _), fun m' hm' => ?_⟩⟩
          rw [fe] at hm'
          cases hm'
          refine ⟨po, fc, tbc, fun vt H12 s12 dt => ?_⟩
          generalize faceF mm.ps (pt.length : Int) c = told at *
          refine ⟨_, rfl, _, _, dt.dp, (dd.same s12).dp, st.shaped, st.shaped, _, rfl, if_false_of' st.ne ?_⟩
          have s912 := s911.trans s12
          have dd12 := dd.same s12
          refine ⟨_, rfl, _, rfl, _, rfl, .ref am, .ref ap, vd, g, n, mm, pt, told, rfl, dm8.same s912, dp8.same s912, dd12, fe, by omega, by omega, fun l xs H13 s13 nl hl dxs => ?_⟩
          have s913 := s912.trans s13
          have D13 := D8.same s913
          have dm13 := dm8.same s913
          have lpd := ((D8.same s912).fresh nl).1
          have lxs : xs.length ≤ 3 := by
            have := placesF_len pt mm.ks.length told
            rw [dxs.len, List.length_map]
            omega
          refine ⟨_, rfl, l, xs, rfl, SqL.of hl, rfl, _, rfl, ite2 (fun e => ?_) (fun e => ?_)⟩
          · exact hz _ _ ⟨_, _, _, _, _, rfl, dm13⟩
          · have lpos : 0 < xs.length := by
              rcases Nat.eq_zero_or_pos xs.length with z | z
              · exact (e (decide_eq_true (by rw [z]; rfl))).elim
              · exact z
            refine ⟨_, rfl, _, rfl, _, rfl, l, xs, rfl, SqL.of hl, pd, ps, (xs.length : Int), rfl, D13, by omega, b8 (by omega) (by omega), fun q H14 x14 D14 q0 q1 => ?_⟩
            obtain ⟨j, rfl⟩ := Int.eq_ofNat_of_zero_le q0
            have hj : j < xs.length := by omega
            have hx : xs[j]? = some xs[j] := List.getElem?_eq_getElem hj
            obtain ⟨d, hd, dx⟩ := dxs.get hx
            rw [List.getElem?_map] at hd
            obtain ⟨e', he', rfl⟩ := Option.map_eq_some_iff.mp hd
            obtain ⟨⟨m', fe'⟩, fc', nb', sz1, dz1⟩ := placesF_get fe (tall_of_ok fo) fnb sz' (List.mem_of_getElem? he')
            obtain ⟨b, y1, y2, eb, hb, dy1, dy2⟩ := DT.inv2 (show DT K _ _ (.tuple [pathD e'.1, e'.2.D]) from dx.xt D13.isL' x14)
            rw [eb] at hx
            refine ⟨_, _, _, _, rfl, rfl, SqL.of (x14 _ _ lpd hl), atI_nat hx, ?_⟩
            refine ⟨_, _, rfl, hb.sq, rfl, _, _, rfl, _, _, rfl, rfl, ?_⟩
            exact ⟨y1, y2, e'.1, m', e'.2, _, _, _, rfl, D14, dm13.xt D13.isL' x14, dy1, dy2, fe', fc', nb', by omega, by omega⟩
        · refine if_true_of' (by rw [decide_eq_false hs]; rfl) ?_
          have bad : Part.Bad g c := by
            by_cases z : c.size ≤ 40
            · have : ¬ c.depth ≤ 20 := fun y => hs ⟨z, y⟩
              exact .inr (.inl (by omega))
            · exact .inl (by omega)
          refine ⟨_, rfl, _, rfl, _, rfl, .ref am, vp, vc, g, n, pt, c, rfl, M8.same s9, G, dp8.same s9, dc8.same s9, wf, fun _ H10 s10 => ⟨rfl, ?_⟩, fun z => (z bad).elim⟩
          rw [decide_eq_true rfl]
          exact fin _
      · rintro σ' H8 ⟨vp, vc, pt, mm, c, y6, y7, y8, rfl, D8, dm8, dp8, dc8, fe, fc, nb, sz, dz⟩
        exact ⟨_, _, _, _, _, rfl, dm8⟩
    · intro e hz
      have hr0 : 0 < xn.length := by
        rw [ln]
        refine List.length_pos_of_mem (a := ([], n)) ?_
        show _ ∈ preE ([], n)
        rw [preE_eq]
        exact List.mem_cons_self ..
      refine ⟨_, rfl, _, rfl, _, rfl, pn, xn, rfl, SqL.of hN6, pd, ps, (xn.length : Int), rfl, D6, by omega, b8 (by omega) (by omega), fun q H7 x7 D7 q0 q1 => ?_⟩
      obtain ⟨j, rfl⟩ := Int.eq_ofNat_of_zero_le q0
      have hj : j < xn.length := by omega
      have hx : xn[j]? = some xn[j] := List.getElem?_eq_getElem hj
      obtain ⟨d, hd, dx⟩ := dN.get hx
      rw [List.getElem?_map] at hd
      obtain ⟨e', he', rfl⟩ := Option.map_eq_some_iff.mp hd
      have me : e' ∈ pre [] n := List.mem_of_getElem? he'
      obtain ⟨b, vp, vk, eb, hb, dp, dk⟩ := ((dx.xt D5.isL' x6).xt D6.isL' x7).entD_inv
      obtain ⟨r', er, fe⟩ := pre_find _ ([], n) e' (Nat.le_refl _) me
      have er : e'.1 = r' := by simpa using er
      rw [← er] at fe
      rw [eb] at hx
      exact ⟨_, _, _, _, rfl, rfl, SqL.of (x7 _ _ pnd hN6), atI_nat hx, _, _, _, _, rfl, rfl, hb.sq, atI_nat (j := 0) rfl, hz _ _ ⟨e'.1, e'.2, x6.trans x7, D7, dp, fe⟩⟩
    · intro e hz
      refine ⟨Nat.zero_le _, fun q hq => hz _ _ ⟨[], n, x6.trans (Xt.of (same_new hq)), D6.same (same_new hq), DT.path (p := []) (Tp.of upd_same), by unfold find; rfl⟩⟩
end
end Nl

namespace Nl
open PySem PySem.Spec PyProof.Rows L2
theorem all_mk {P : Program} {w : World} {K : PySem.W.Frag} {h : Heap} {mg : Str → Option Value} {fa : Addr} (X : K.In h) (G : h.Ns mainGlobals mg) (hfa : mg "law" = some (.ref fa))
    {f_kinds_behind : Addr} {od_kinds_behind an_kinds_behind : Option Addr} {sl_kinds_behind : Array (Option Value)} {oc_kinds_behind kV_kinds_behind dc_kinds_behind pm_kinds_behind cd_kinds_behind ct_kinds_behind : Value}
    {f_parts_behind : Addr} {od_parts_behind an_parts_behind : Option Addr} {sl_parts_behind : Array (Option Value)} {oc_parts_behind kV_parts_behind dc_parts_behind pm_parts_behind cd_parts_behind ct_parts_behind : Value}
    {f_walk_parts : Addr} {od_walk_parts an_walk_parts : Option Addr} {sl_walk_parts : Array (Option Value)} {oc_walk_parts kV_walk_parts dc_walk_parts pm_walk_parts cd_walk_parts ct_walk_parts : Value}
    {f_check_contract : Addr} {od_check_contract an_check_contract : Option Addr} {sl_check_contract : Array (Option Value)} {oc_check_contract kV_check_contract dc_check_contract pm_check_contract cd_check_contract ct_check_contract : Value}
    {f_check_numbers : Addr} {od_check_numbers an_check_numbers : Option Addr} {sl_check_numbers : Array (Option Value)} {oc_check_numbers kV_check_numbers dc_check_numbers pm_check_numbers cd_check_numbers ct_check_numbers : Value}
    {f_fraction : Addr} {od_fraction an_fraction : Option Addr} {sl_fraction : Array (Option Value)} {oc_fraction kV_fraction dc_fraction pm_fraction cd_fraction ct_fraction : Value}
    {f_plus : Addr} {od_plus an_plus : Option Addr} {sl_plus : Array (Option Value)} {oc_plus kV_plus dc_plus pm_plus cd_plus ct_plus : Value}
    {f_minus : Addr} {od_minus an_minus : Option Addr} {sl_minus : Array (Option Value)} {oc_minus kV_minus dc_minus pm_minus cd_minus ct_minus : Value}
    {f_times : Addr} {od_times an_times : Option Addr} {sl_times : Array (Option Value)} {oc_times kV_times dc_times pm_times cd_times ct_times : Value}
    {f_compare : Addr} {od_compare an_compare : Option Addr} {sl_compare : Array (Option Value)} {oc_compare kV_compare dc_compare pm_compare cd_compare ct_compare : Value}
    {f_added : Addr} {od_added an_added : Option Addr} {sl_added : Array (Option Value)} {oc_added kV_added dc_added pm_added cd_added ct_added : Value}
    {f_multiplied : Addr} {od_multiplied an_multiplied : Option Addr} {sl_multiplied : Array (Option Value)} {oc_multiplied kV_multiplied dc_multiplied pm_multiplied cd_multiplied ct_multiplied : Value}
    {f_check_market : Addr} {od_check_market an_check_market : Option Addr} {sl_check_market : Array (Option Value)} {oc_check_market kV_check_market dc_check_market pm_check_market cd_check_market ct_check_market : Value}
    {f__check_prices : Addr} {od__check_prices an__check_prices : Option Addr} {sl__check_prices : Array (Option Value)} {oc__check_prices kV__check_prices dc__check_prices pm__check_prices cd__check_prices ct__check_prices : Value}
    {f_walk : Addr} {od_walk an_walk : Option Addr} {sl_walk : Array (Option Value)} {oc_walk kV_walk dc_walk pm_walk cd_walk ct_walk : Value}
    {f_node_at : Addr} {od_node_at an_node_at : Option Addr} {sl_node_at : Array (Option Value)} {oc_node_at kV_node_at dc_node_at pm_node_at cd_node_at ct_node_at : Value}
    {f__worked_out : Addr} {od__worked_out an__worked_out : Option Addr} {sl__worked_out : Array (Option Value)} {oc__worked_out kV__worked_out dc__worked_out pm__worked_out cd__worked_out ct__worked_out : Value}
    {f__price : Addr} {od__price an__price : Option Addr} {sl__price : Array (Option Value)} {oc__price kV__price dc__price pm__price cd__price ct__price : Value}
    {f__joined : Addr} {od__joined an__joined : Option Addr} {sl__joined : Array (Option Value)} {oc__joined kV__joined dc__joined pm__joined cd__joined ct__joined : Value}
    {f_faced : Addr} {od_faced an_faced : Option Addr} {sl_faced : Array (Option Value)} {oc_faced kV_faced dc_faced pm_faced cd_faced ct_faced : Value}
    {f_face : Addr} {od_face an_face : Option Addr} {sl_face : Array (Option Value)} {oc_face kV_face dc_face pm_face cd_face ct_face : Value}
    {f__idle : Addr} {od__idle an__idle : Option Addr} {sl__idle : Array (Option Value)} {oc__idle kV__idle dc__idle pm__idle cd__idle ct__idle : Value}
    {f__face_nothing : Addr} {od__face_nothing an__face_nothing : Option Addr} {sl__face_nothing : Array (Option Value)} {oc__face_nothing kV__face_nothing dc__face_nothing pm__face_nothing cd__face_nothing ct__face_nothing : Value}
    {f__face_one : Addr} {od__face_one an__face_one : Option Addr} {sl__face_one : Array (Option Value)} {oc__face_one kV__face_one dc__face_one pm__face_one cd__face_one ct__face_one : Value}
    {f__face_scale : Addr} {od__face_scale an__face_scale : Option Addr} {sl__face_scale : Array (Option Value)} {oc__face_scale kV__face_scale dc__face_scale pm__face_scale cd__face_scale ct__face_scale : Value}
    {f__face_both : Addr} {od__face_both an__face_both : Option Addr} {sl__face_both : Array (Option Value)} {oc__face_both kV__face_both dc__face_both pm__face_both cd__face_both ct__face_both : Value}
    {f__face_give : Addr} {od__face_give an__face_give : Option Addr} {sl__face_give : Array (Option Value)} {oc__face_give kV__face_give dc__face_give pm__face_give cd__face_give ct__face_give : Value}
    {f__face_or : Addr} {od__face_or an__face_or : Option Addr} {sl__face_or : Array (Option Value)} {oc__face_or kV__face_or dc__face_or pm__face_or cd__face_or ct__face_or : Value}
    {f__face_at : Addr} {od__face_at an__face_at : Option Addr} {sl__face_at : Array (Option Value)} {oc__face_at kV__face_at dc__face_at pm__face_at cd__face_at ct__face_at : Value}
    {f__face_when : Addr} {od__face_when an__face_when : Option Addr} {sl__face_when : Array (Option Value)} {oc__face_when kV__face_when dc__face_when pm__face_when cd__face_when ct__face_when : Value}
    {f__face_until : Addr} {od__face_until an__face_until : Option Addr} {sl__face_until : Array (Option Value)} {oc__face_until kV__face_until dc__face_until pm__face_until cd__face_until ct__face_until : Value}
    {f__face_early : Addr} {od__face_early an__face_early : Option Addr} {sl__face_early : Array (Option Value)} {oc__face_early kV__face_early dc__face_early pm__face_early cd__face_early ct__face_early : Value}
    {f__face_later : Addr} {od__face_later an__face_later : Option Addr} {sl__face_later : Array (Option Value)} {oc__face_later kV__face_later dc__face_later pm__face_later cd__face_later ct__face_later : Value}
    {f__law_begin : Addr} {od__law_begin an__law_begin : Option Addr} {sl__law_begin : Array (Option Value)} {oc__law_begin kV__law_begin dc__law_begin pm__law_begin cd__law_begin ct__law_begin : Value}
    {f__law_take : Addr} {od__law_take an__law_take : Option Addr} {sl__law_take : Array (Option Value)} {oc__law_take kV__law_take dc__law_take pm__law_take cd__law_take ct__law_take : Value}
    {f__law_signed : Addr} {od__law_signed an__law_signed : Option Addr} {sl__law_signed : Array (Option Value)} {oc__law_signed kV__law_signed dc__law_signed pm__law_signed cd__law_signed ct__law_signed : Value}
    {f__law_gcd : Addr} {od__law_gcd an__law_gcd : Option Addr} {sl__law_gcd : Array (Option Value)} {oc__law_gcd kV__law_gcd dc__law_gcd pm__law_gcd cd__law_gcd ct__law_gcd : Value}
    {f__law_f : Addr} {od__law_f an__law_f : Option Addr} {sl__law_f : Array (Option Value)} {oc__law_f kV__law_f dc__law_f pm__law_f cd__law_f ct__law_f : Value}
    {f__law_plus : Addr} {od__law_plus an__law_plus : Option Addr} {sl__law_plus : Array (Option Value)} {oc__law_plus kV__law_plus dc__law_plus pm__law_plus cd__law_plus ct__law_plus : Value}
    {f__law_minus : Addr} {od__law_minus an__law_minus : Option Addr} {sl__law_minus : Array (Option Value)} {oc__law_minus kV__law_minus dc__law_minus pm__law_minus cd__law_minus ct__law_minus : Value}
    {f__law_times : Addr} {od__law_times an__law_times : Option Addr} {sl__law_times : Array (Option Value)} {oc__law_times kV__law_times dc__law_times pm__law_times cd__law_times ct__law_times : Value}
    {f__law_less : Addr} {od__law_less an__law_less : Option Addr} {sl__law_less : Array (Option Value)} {oc__law_less kV__law_less dc__law_less pm__law_less cd__law_less ct__law_less : Value}
    {f__law_min : Addr} {od__law_min an__law_min : Option Addr} {sl__law_min : Array (Option Value)} {oc__law_min kV__law_min dc__law_min pm__law_min cd__law_min ct__law_min : Value}
    {f__law_max : Addr} {od__law_max an__law_max : Option Addr} {sl__law_max : Array (Option Value)} {oc__law_max kV__law_max dc__law_max pm__law_max cd__law_max ct__law_max : Value}
    {f__law_part : Addr} {od__law_part an__law_part : Option Addr} {sl__law_part : Array (Option Value)} {oc__law_part kV__law_part dc__law_part pm__law_part cd__law_part ct__law_part : Value}
    {f__law_spread : Addr} {od__law_spread an__law_spread : Option Addr} {sl__law_spread : Array (Option Value)} {oc__law_spread kV__law_spread dc__law_spread pm__law_spread cd__law_spread ct__law_spread : Value}
    {f__law_node : Addr} {od__law_node an__law_node : Option Addr} {sl__law_node : Array (Option Value)} {oc__law_node kV__law_node dc__law_node pm__law_node cd__law_node ct__law_node : Value}
    {f__law_market : Addr} {od__law_market an__law_market : Option Addr} {sl__law_market : Array (Option Value)} {oc__law_market kV__law_market dc__law_market pm__law_market cd__law_market ct__law_market : Value}
    {f__law_nodes : Addr} {od__law_nodes an__law_nodes : Option Addr} {sl__law_nodes : Array (Option Value)} {oc__law_nodes kV__law_nodes dc__law_nodes pm__law_nodes cd__law_nodes ct__law_nodes : Value}
    {f__law_find : Addr} {od__law_find an__law_find : Option Addr} {sl__law_find : Array (Option Value)} {oc__law_find kV__law_find dc__law_find pm__law_find cd__law_find ct__law_find : Value}
    {f__law_prices : Addr} {od__law_prices an__law_prices : Option Addr} {sl__law_prices : Array (Option Value)} {oc__law_prices kV__law_prices dc__law_prices pm__law_prices cd__law_prices ct__law_prices : Value}
    {f__law_number : Addr} {od__law_number an__law_number : Option Addr} {sl__law_number : Array (Option Value)} {oc__law_number kV__law_number dc__law_number pm__law_number cd__law_number ct__law_number : Value}
    {f__law_value : Addr} {od__law_value an__law_value : Option Addr} {sl__law_value : Array (Option Value)} {oc__law_value kV__law_value dc__law_value pm__law_value cd__law_value ct__law_value : Value}
    {f__law_condition : Addr} {od__law_condition an__law_condition : Option Addr} {sl__law_condition : Array (Option Value)} {oc__law_condition kV__law_condition dc__law_condition pm__law_condition cd__law_condition ct__law_condition : Value}
    {f__law_contract : Addr} {od__law_contract an__law_contract : Option Addr} {sl__law_contract : Array (Option Value)} {oc__law_contract kV__law_contract dc__law_contract pm__law_contract cd__law_contract ct__law_contract : Value}
    {f__law_parts : Addr} {od__law_parts an__law_parts : Option Addr} {sl__law_parts : Array (Option Value)} {oc__law_parts kV__law_parts dc__law_parts pm__law_parts cd__law_parts ct__law_parts : Value}
    {f__law_depth : Addr} {od__law_depth an__law_depth : Option Addr} {sl__law_depth : Array (Option Value)} {oc__law_depth kV__law_depth dc__law_depth pm__law_depth cd__law_depth ct__law_depth : Value}
    {f__law_worth : Addr} {od__law_worth an__law_worth : Option Addr} {sl__law_worth : Array (Option Value)} {oc__law_worth kV__law_worth dc__law_worth pm__law_worth cd__law_worth ct__law_worth : Value}
    {f__law_so : Addr} {od__law_so an__law_so : Option Addr} {sl__law_so : Array (Option Value)} {oc__law_so kV__law_so dc__law_so pm__law_so cd__law_so ct__law_so : Value}
    {f__law_into : Addr} {od__law_into an__law_into : Option Addr} {sl__law_into : Array (Option Value)} {oc__law_into kV__law_into dc__law_into pm__law_into cd__law_into ct__law_into : Value}
    {f__law_idle : Addr} {od__law_idle an__law_idle : Option Addr} {sl__law_idle : Array (Option Value)} {oc__law_idle kV__law_idle dc__law_idle pm__law_idle cd__law_idle ct__law_idle : Value}
    {f__law_faced : Addr} {od__law_faced an__law_faced : Option Addr} {sl__law_faced : Array (Option Value)} {oc__law_faced kV__law_faced dc__law_faced pm__law_faced cd__law_faced ct__law_faced : Value}
    {f__law_branches : Addr} {od__law_branches an__law_branches : Option Addr} {sl__law_branches : Array (Option Value)} {oc__law_branches kV__law_branches dc__law_branches pm__law_branches cd__law_branches ct__law_branches : Value}
    {f__law_told : Addr} {od__law_told an__law_told : Option Addr} {sl__law_told : Array (Option Value)} {oc__law_told kV__law_told dc__law_told pm__law_told cd__law_told ct__law_told : Value}
    {f__law_small : Addr} {od__law_small an__law_small : Option Addr} {sl__law_small : Array (Option Value)} {oc__law_small kV__law_small dc__law_small pm__law_small cd__law_small ct__law_small : Value}
    {f_law : Addr} {od_law an_law : Option Addr} {sl_law : Array (Option Value)} {oc_law kV_law dc_law pm_law cd_law ct_law : Value}
    {tk_PART_LIMIT : Tok}
    {tk_DEPTH_LIMIT : Tok}
    {tk_GOODS_LIMIT : Tok}
    {tk_MOMENT_LIMIT : Tok}
    {tk_TIME_LIMIT : Tok}
    {A_VALUES : Addr}
    {t_VALUES_number : Addr}
    {t_VALUES_buy : Addr}
    {t_VALUES_sell : Addr}
    {t_VALUES_plus : Addr}
    {t_VALUES_minus : Addr}
    {t_VALUES_times : Addr}
    {t_VALUES_least : Addr}
    {t_VALUES_greatest : Addr}
    {A_CONDITIONS : Addr}
    {t_CONDITIONS_less : Addr}
    {t_CONDITIONS_same : Addr}
    {t_CONDITIONS_not : Addr}
    {t_CONDITIONS_and : Addr}
    {A_CONTRACTS : Addr}
    {t_CONTRACTS_nothing : Addr}
    {t_CONTRACTS_one : Addr}
    {t_CONTRACTS_scale : Addr}
    {t_CONTRACTS_both : Addr}
    {t_CONTRACTS_give : Addr}
    {t_CONTRACTS_or : Addr}
    {t_CONTRACTS_at : Addr}
    {t_CONTRACTS_when : Addr}
    {t_CONTRACTS_until : Addr}
    {t_CONTRACTS_early : Addr}
    {t_CONTRACTS_later : Addr}
    {A_STEPS : Addr}
    {C_MarketplaceError : Addr}
    {C_ZeroDenominator : Addr}
    {C_MarketError : Addr}
    {C_TooLarge : Addr}
    {C_MomentError : Addr}
    {C_ContractError : Addr}
    (a_kinds_behind : PySem.W.nsIn K mainGlobals "kinds_behind" = some (some (.ref f_kinds_behind))) (l_kinds_behind : K.lookup f_kinds_behind = some ⟨oc_kinds_behind, od_kinds_behind, .func (PySem.W.fnOf "kinds_behind" "kinds_behind" (defArgs s_kinds_behind) (defBody s_kinds_behind) (defScope s_kinds_behind) .none kV_kinds_behind dc_kinds_behind pm_kinds_behind an_kinds_behind cd_kinds_behind ct_kinds_behind), sl_kinds_behind⟩) (c_kinds_behind : PySem.W.codeIn K cd_kinds_behind "kinds_behind" = true) (k_kinds_behind : PySem.W.keepIn K (.ref f_kinds_behind) = true)
    (a_parts_behind : PySem.W.nsIn K mainGlobals "parts_behind" = some (some (.ref f_parts_behind))) (l_parts_behind : K.lookup f_parts_behind = some ⟨oc_parts_behind, od_parts_behind, .func (PySem.W.fnOf "parts_behind" "parts_behind" (defArgs s_parts_behind) (defBody s_parts_behind) (defScope s_parts_behind) .none kV_parts_behind dc_parts_behind pm_parts_behind an_parts_behind cd_parts_behind ct_parts_behind), sl_parts_behind⟩) (c_parts_behind : PySem.W.codeIn K cd_parts_behind "parts_behind" = true) (k_parts_behind : PySem.W.keepIn K (.ref f_parts_behind) = true)
    (a_walk_parts : PySem.W.nsIn K mainGlobals "walk_parts" = some (some (.ref f_walk_parts))) (l_walk_parts : K.lookup f_walk_parts = some ⟨oc_walk_parts, od_walk_parts, .func (PySem.W.fnOf "walk_parts" "walk_parts" (defArgs s_walk_parts) (defBody s_walk_parts) (defScope s_walk_parts) .none kV_walk_parts dc_walk_parts pm_walk_parts an_walk_parts cd_walk_parts ct_walk_parts), sl_walk_parts⟩) (c_walk_parts : PySem.W.codeIn K cd_walk_parts "walk_parts" = true) (k_walk_parts : PySem.W.keepIn K (.ref f_walk_parts) = true)
    (a_check_contract : PySem.W.nsIn K mainGlobals "check_contract" = some (some (.ref f_check_contract))) (l_check_contract : K.lookup f_check_contract = some ⟨oc_check_contract, od_check_contract, .func (PySem.W.fnOf "check_contract" "check_contract" (defArgs s_check_contract) (defBody s_check_contract) (defScope s_check_contract) .none kV_check_contract dc_check_contract pm_check_contract an_check_contract cd_check_contract ct_check_contract), sl_check_contract⟩) (c_check_contract : PySem.W.codeIn K cd_check_contract "check_contract" = true) (k_check_contract : PySem.W.keepIn K (.ref f_check_contract) = true)
    (a_check_numbers : PySem.W.nsIn K mainGlobals "check_numbers" = some (some (.ref f_check_numbers))) (l_check_numbers : K.lookup f_check_numbers = some ⟨oc_check_numbers, od_check_numbers, .func (PySem.W.fnOf "check_numbers" "check_numbers" (defArgs s_check_numbers) (defBody s_check_numbers) (defScope s_check_numbers) .none kV_check_numbers dc_check_numbers pm_check_numbers an_check_numbers cd_check_numbers ct_check_numbers), sl_check_numbers⟩) (c_check_numbers : PySem.W.codeIn K cd_check_numbers "check_numbers" = true) (k_check_numbers : PySem.W.keepIn K (.ref f_check_numbers) = true)
    (a_fraction : PySem.W.nsIn K mainGlobals "fraction" = some (some (.ref f_fraction))) (l_fraction : K.lookup f_fraction = some ⟨oc_fraction, od_fraction, .func (PySem.W.fnOf "fraction" "fraction" (defArgs s_fraction) (defBody s_fraction) (defScope s_fraction) .none kV_fraction dc_fraction pm_fraction an_fraction cd_fraction ct_fraction), sl_fraction⟩) (c_fraction : PySem.W.codeIn K cd_fraction "fraction" = true) (k_fraction : PySem.W.keepIn K (.ref f_fraction) = true)
    (a_plus : PySem.W.nsIn K mainGlobals "plus" = some (some (.ref f_plus))) (l_plus : K.lookup f_plus = some ⟨oc_plus, od_plus, .func (PySem.W.fnOf "plus" "plus" (defArgs s_plus) (defBody s_plus) (defScope s_plus) .none kV_plus dc_plus pm_plus an_plus cd_plus ct_plus), sl_plus⟩) (c_plus : PySem.W.codeIn K cd_plus "plus" = true) (k_plus : PySem.W.keepIn K (.ref f_plus) = true)
    (a_minus : PySem.W.nsIn K mainGlobals "minus" = some (some (.ref f_minus))) (l_minus : K.lookup f_minus = some ⟨oc_minus, od_minus, .func (PySem.W.fnOf "minus" "minus" (defArgs s_minus) (defBody s_minus) (defScope s_minus) .none kV_minus dc_minus pm_minus an_minus cd_minus ct_minus), sl_minus⟩) (c_minus : PySem.W.codeIn K cd_minus "minus" = true) (k_minus : PySem.W.keepIn K (.ref f_minus) = true)
    (a_times : PySem.W.nsIn K mainGlobals "times" = some (some (.ref f_times))) (l_times : K.lookup f_times = some ⟨oc_times, od_times, .func (PySem.W.fnOf "times" "times" (defArgs s_times) (defBody s_times) (defScope s_times) .none kV_times dc_times pm_times an_times cd_times ct_times), sl_times⟩) (c_times : PySem.W.codeIn K cd_times "times" = true) (k_times : PySem.W.keepIn K (.ref f_times) = true)
    (a_compare : PySem.W.nsIn K mainGlobals "compare" = some (some (.ref f_compare))) (l_compare : K.lookup f_compare = some ⟨oc_compare, od_compare, .func (PySem.W.fnOf "compare" "compare" (defArgs s_compare) (defBody s_compare) (defScope s_compare) .none kV_compare dc_compare pm_compare an_compare cd_compare ct_compare), sl_compare⟩) (c_compare : PySem.W.codeIn K cd_compare "compare" = true) (k_compare : PySem.W.keepIn K (.ref f_compare) = true)
    (a_added : PySem.W.nsIn K mainGlobals "added" = some (some (.ref f_added))) (l_added : K.lookup f_added = some ⟨oc_added, od_added, .func (PySem.W.fnOf "added" "added" (defArgs s_added) (defBody s_added) (defScope s_added) .none kV_added dc_added pm_added an_added cd_added ct_added), sl_added⟩) (c_added : PySem.W.codeIn K cd_added "added" = true) (k_added : PySem.W.keepIn K (.ref f_added) = true)
    (a_multiplied : PySem.W.nsIn K mainGlobals "multiplied" = some (some (.ref f_multiplied))) (l_multiplied : K.lookup f_multiplied = some ⟨oc_multiplied, od_multiplied, .func (PySem.W.fnOf "multiplied" "multiplied" (defArgs s_multiplied) (defBody s_multiplied) (defScope s_multiplied) .none kV_multiplied dc_multiplied pm_multiplied an_multiplied cd_multiplied ct_multiplied), sl_multiplied⟩) (c_multiplied : PySem.W.codeIn K cd_multiplied "multiplied" = true) (k_multiplied : PySem.W.keepIn K (.ref f_multiplied) = true)
    (a_check_market : PySem.W.nsIn K mainGlobals "check_market" = some (some (.ref f_check_market))) (l_check_market : K.lookup f_check_market = some ⟨oc_check_market, od_check_market, .func (PySem.W.fnOf "check_market" "check_market" (defArgs s_check_market) (defBody s_check_market) (defScope s_check_market) .none kV_check_market dc_check_market pm_check_market an_check_market cd_check_market ct_check_market), sl_check_market⟩) (c_check_market : PySem.W.codeIn K cd_check_market "check_market" = true) (k_check_market : PySem.W.keepIn K (.ref f_check_market) = true)
    (a__check_prices : PySem.W.nsIn K mainGlobals "_check_prices" = some (some (.ref f__check_prices))) (l__check_prices : K.lookup f__check_prices = some ⟨oc__check_prices, od__check_prices, .func (PySem.W.fnOf "_check_prices" "_check_prices" (defArgs s__check_prices) (defBody s__check_prices) (defScope s__check_prices) .none kV__check_prices dc__check_prices pm__check_prices an__check_prices cd__check_prices ct__check_prices), sl__check_prices⟩) (c__check_prices : PySem.W.codeIn K cd__check_prices "_check_prices" = true) (k__check_prices : PySem.W.keepIn K (.ref f__check_prices) = true)
    (a_walk : PySem.W.nsIn K mainGlobals "walk" = some (some (.ref f_walk))) (l_walk : K.lookup f_walk = some ⟨oc_walk, od_walk, .func (PySem.W.fnOf "walk" "walk" (defArgs s_walk) (defBody s_walk) (defScope s_walk) .none kV_walk dc_walk pm_walk an_walk cd_walk ct_walk), sl_walk⟩) (c_walk : PySem.W.codeIn K cd_walk "walk" = true) (k_walk : PySem.W.keepIn K (.ref f_walk) = true)
    (a_node_at : PySem.W.nsIn K mainGlobals "node_at" = some (some (.ref f_node_at))) (l_node_at : K.lookup f_node_at = some ⟨oc_node_at, od_node_at, .func (PySem.W.fnOf "node_at" "node_at" (defArgs s_node_at) (defBody s_node_at) (defScope s_node_at) .none kV_node_at dc_node_at pm_node_at an_node_at cd_node_at ct_node_at), sl_node_at⟩) (c_node_at : PySem.W.codeIn K cd_node_at "node_at" = true) (k_node_at : PySem.W.keepIn K (.ref f_node_at) = true)
    (a__worked_out : PySem.W.nsIn K mainGlobals "_worked_out" = some (some (.ref f__worked_out))) (l__worked_out : K.lookup f__worked_out = some ⟨oc__worked_out, od__worked_out, .func (PySem.W.fnOf "_worked_out" "_worked_out" (defArgs s__worked_out) (defBody s__worked_out) (defScope s__worked_out) .none kV__worked_out dc__worked_out pm__worked_out an__worked_out cd__worked_out ct__worked_out), sl__worked_out⟩) (c__worked_out : PySem.W.codeIn K cd__worked_out "_worked_out" = true) (k__worked_out : PySem.W.keepIn K (.ref f__worked_out) = true)
    (a__price : PySem.W.nsIn K mainGlobals "_price" = some (some (.ref f__price))) (l__price : K.lookup f__price = some ⟨oc__price, od__price, .func (PySem.W.fnOf "_price" "_price" (defArgs s__price) (defBody s__price) (defScope s__price) .none kV__price dc__price pm__price an__price cd__price ct__price), sl__price⟩) (c__price : PySem.W.codeIn K cd__price "_price" = true) (k__price : PySem.W.keepIn K (.ref f__price) = true)
    (a__joined : PySem.W.nsIn K mainGlobals "_joined" = some (some (.ref f__joined))) (l__joined : K.lookup f__joined = some ⟨oc__joined, od__joined, .func (PySem.W.fnOf "_joined" "_joined" (defArgs s__joined) (defBody s__joined) (defScope s__joined) .none kV__joined dc__joined pm__joined an__joined cd__joined ct__joined), sl__joined⟩) (c__joined : PySem.W.codeIn K cd__joined "_joined" = true) (k__joined : PySem.W.keepIn K (.ref f__joined) = true)
    (a_faced : PySem.W.nsIn K mainGlobals "faced" = some (some (.ref f_faced))) (l_faced : K.lookup f_faced = some ⟨oc_faced, od_faced, .func (PySem.W.fnOf "faced" "faced" (defArgs s_faced) (defBody s_faced) (defScope s_faced) .none kV_faced dc_faced pm_faced an_faced cd_faced ct_faced), sl_faced⟩) (c_faced : PySem.W.codeIn K cd_faced "faced" = true) (k_faced : PySem.W.keepIn K (.ref f_faced) = true)
    (a_face : PySem.W.nsIn K mainGlobals "face" = some (some (.ref f_face))) (l_face : K.lookup f_face = some ⟨oc_face, od_face, .func (PySem.W.fnOf "face" "face" (defArgs s_face) (defBody s_face) (defScope s_face) .none kV_face dc_face pm_face an_face cd_face ct_face), sl_face⟩) (c_face : PySem.W.codeIn K cd_face "face" = true) (k_face : PySem.W.keepIn K (.ref f_face) = true)
    (a__idle : PySem.W.nsIn K mainGlobals "_idle" = some (some (.ref f__idle))) (l__idle : K.lookup f__idle = some ⟨oc__idle, od__idle, .func (PySem.W.fnOf "_idle" "_idle" (defArgs s__idle) (defBody s__idle) (defScope s__idle) .none kV__idle dc__idle pm__idle an__idle cd__idle ct__idle), sl__idle⟩) (c__idle : PySem.W.codeIn K cd__idle "_idle" = true) (k__idle : PySem.W.keepIn K (.ref f__idle) = true)
    (a__face_nothing : PySem.W.nsIn K mainGlobals "_face_nothing" = some (some (.ref f__face_nothing))) (l__face_nothing : K.lookup f__face_nothing = some ⟨oc__face_nothing, od__face_nothing, .func (PySem.W.fnOf "_face_nothing" "_face_nothing" (defArgs s__face_nothing) (defBody s__face_nothing) (defScope s__face_nothing) .none kV__face_nothing dc__face_nothing pm__face_nothing an__face_nothing cd__face_nothing ct__face_nothing), sl__face_nothing⟩) (c__face_nothing : PySem.W.codeIn K cd__face_nothing "_face_nothing" = true) (k__face_nothing : PySem.W.keepIn K (.ref f__face_nothing) = true)
    (a__face_one : PySem.W.nsIn K mainGlobals "_face_one" = some (some (.ref f__face_one))) (l__face_one : K.lookup f__face_one = some ⟨oc__face_one, od__face_one, .func (PySem.W.fnOf "_face_one" "_face_one" (defArgs s__face_one) (defBody s__face_one) (defScope s__face_one) .none kV__face_one dc__face_one pm__face_one an__face_one cd__face_one ct__face_one), sl__face_one⟩) (c__face_one : PySem.W.codeIn K cd__face_one "_face_one" = true) (k__face_one : PySem.W.keepIn K (.ref f__face_one) = true)
    (a__face_scale : PySem.W.nsIn K mainGlobals "_face_scale" = some (some (.ref f__face_scale))) (l__face_scale : K.lookup f__face_scale = some ⟨oc__face_scale, od__face_scale, .func (PySem.W.fnOf "_face_scale" "_face_scale" (defArgs s__face_scale) (defBody s__face_scale) (defScope s__face_scale) .none kV__face_scale dc__face_scale pm__face_scale an__face_scale cd__face_scale ct__face_scale), sl__face_scale⟩) (c__face_scale : PySem.W.codeIn K cd__face_scale "_face_scale" = true) (k__face_scale : PySem.W.keepIn K (.ref f__face_scale) = true)
    (a__face_both : PySem.W.nsIn K mainGlobals "_face_both" = some (some (.ref f__face_both))) (l__face_both : K.lookup f__face_both = some ⟨oc__face_both, od__face_both, .func (PySem.W.fnOf "_face_both" "_face_both" (defArgs s__face_both) (defBody s__face_both) (defScope s__face_both) .none kV__face_both dc__face_both pm__face_both an__face_both cd__face_both ct__face_both), sl__face_both⟩) (c__face_both : PySem.W.codeIn K cd__face_both "_face_both" = true) (k__face_both : PySem.W.keepIn K (.ref f__face_both) = true)
    (a__face_give : PySem.W.nsIn K mainGlobals "_face_give" = some (some (.ref f__face_give))) (l__face_give : K.lookup f__face_give = some ⟨oc__face_give, od__face_give, .func (PySem.W.fnOf "_face_give" "_face_give" (defArgs s__face_give) (defBody s__face_give) (defScope s__face_give) .none kV__face_give dc__face_give pm__face_give an__face_give cd__face_give ct__face_give), sl__face_give⟩) (c__face_give : PySem.W.codeIn K cd__face_give "_face_give" = true) (k__face_give : PySem.W.keepIn K (.ref f__face_give) = true)
    (a__face_or : PySem.W.nsIn K mainGlobals "_face_or" = some (some (.ref f__face_or))) (l__face_or : K.lookup f__face_or = some ⟨oc__face_or, od__face_or, .func (PySem.W.fnOf "_face_or" "_face_or" (defArgs s__face_or) (defBody s__face_or) (defScope s__face_or) .none kV__face_or dc__face_or pm__face_or an__face_or cd__face_or ct__face_or), sl__face_or⟩) (c__face_or : PySem.W.codeIn K cd__face_or "_face_or" = true) (k__face_or : PySem.W.keepIn K (.ref f__face_or) = true)
    (a__face_at : PySem.W.nsIn K mainGlobals "_face_at" = some (some (.ref f__face_at))) (l__face_at : K.lookup f__face_at = some ⟨oc__face_at, od__face_at, .func (PySem.W.fnOf "_face_at" "_face_at" (defArgs s__face_at) (defBody s__face_at) (defScope s__face_at) .none kV__face_at dc__face_at pm__face_at an__face_at cd__face_at ct__face_at), sl__face_at⟩) (c__face_at : PySem.W.codeIn K cd__face_at "_face_at" = true) (k__face_at : PySem.W.keepIn K (.ref f__face_at) = true)
    (a__face_when : PySem.W.nsIn K mainGlobals "_face_when" = some (some (.ref f__face_when))) (l__face_when : K.lookup f__face_when = some ⟨oc__face_when, od__face_when, .func (PySem.W.fnOf "_face_when" "_face_when" (defArgs s__face_when) (defBody s__face_when) (defScope s__face_when) .none kV__face_when dc__face_when pm__face_when an__face_when cd__face_when ct__face_when), sl__face_when⟩) (c__face_when : PySem.W.codeIn K cd__face_when "_face_when" = true) (k__face_when : PySem.W.keepIn K (.ref f__face_when) = true)
    (a__face_until : PySem.W.nsIn K mainGlobals "_face_until" = some (some (.ref f__face_until))) (l__face_until : K.lookup f__face_until = some ⟨oc__face_until, od__face_until, .func (PySem.W.fnOf "_face_until" "_face_until" (defArgs s__face_until) (defBody s__face_until) (defScope s__face_until) .none kV__face_until dc__face_until pm__face_until an__face_until cd__face_until ct__face_until), sl__face_until⟩) (c__face_until : PySem.W.codeIn K cd__face_until "_face_until" = true) (k__face_until : PySem.W.keepIn K (.ref f__face_until) = true)
    (a__face_early : PySem.W.nsIn K mainGlobals "_face_early" = some (some (.ref f__face_early))) (l__face_early : K.lookup f__face_early = some ⟨oc__face_early, od__face_early, .func (PySem.W.fnOf "_face_early" "_face_early" (defArgs s__face_early) (defBody s__face_early) (defScope s__face_early) .none kV__face_early dc__face_early pm__face_early an__face_early cd__face_early ct__face_early), sl__face_early⟩) (c__face_early : PySem.W.codeIn K cd__face_early "_face_early" = true) (k__face_early : PySem.W.keepIn K (.ref f__face_early) = true)
    (a__face_later : PySem.W.nsIn K mainGlobals "_face_later" = some (some (.ref f__face_later))) (l__face_later : K.lookup f__face_later = some ⟨oc__face_later, od__face_later, .func (PySem.W.fnOf "_face_later" "_face_later" (defArgs s__face_later) (defBody s__face_later) (defScope s__face_later) .none kV__face_later dc__face_later pm__face_later an__face_later cd__face_later ct__face_later), sl__face_later⟩) (c__face_later : PySem.W.codeIn K cd__face_later "_face_later" = true) (k__face_later : PySem.W.keepIn K (.ref f__face_later) = true)
    (a__law_begin : PySem.W.nsIn K mainGlobals "_law_begin" = some (some (.ref f__law_begin))) (l__law_begin : K.lookup f__law_begin = some ⟨oc__law_begin, od__law_begin, .func (PySem.W.fnOf "_law_begin" "_law_begin" (defArgs s__law_begin) (defBody s__law_begin) (defScope s__law_begin) .none kV__law_begin dc__law_begin pm__law_begin an__law_begin cd__law_begin ct__law_begin), sl__law_begin⟩) (c__law_begin : PySem.W.codeIn K cd__law_begin "_law_begin" = true) (k__law_begin : PySem.W.keepIn K (.ref f__law_begin) = true)
    (a__law_take : PySem.W.nsIn K mainGlobals "_law_take" = some (some (.ref f__law_take))) (l__law_take : K.lookup f__law_take = some ⟨oc__law_take, od__law_take, .func (PySem.W.fnOf "_law_take" "_law_take" (defArgs s__law_take) (defBody s__law_take) (defScope s__law_take) .none kV__law_take dc__law_take pm__law_take an__law_take cd__law_take ct__law_take), sl__law_take⟩) (c__law_take : PySem.W.codeIn K cd__law_take "_law_take" = true) (k__law_take : PySem.W.keepIn K (.ref f__law_take) = true)
    (a__law_signed : PySem.W.nsIn K mainGlobals "_law_signed" = some (some (.ref f__law_signed))) (l__law_signed : K.lookup f__law_signed = some ⟨oc__law_signed, od__law_signed, .func (PySem.W.fnOf "_law_signed" "_law_signed" (defArgs s__law_signed) (defBody s__law_signed) (defScope s__law_signed) .none kV__law_signed dc__law_signed pm__law_signed an__law_signed cd__law_signed ct__law_signed), sl__law_signed⟩) (c__law_signed : PySem.W.codeIn K cd__law_signed "_law_signed" = true) (k__law_signed : PySem.W.keepIn K (.ref f__law_signed) = true)
    (a__law_gcd : PySem.W.nsIn K mainGlobals "_law_gcd" = some (some (.ref f__law_gcd))) (l__law_gcd : K.lookup f__law_gcd = some ⟨oc__law_gcd, od__law_gcd, .func (PySem.W.fnOf "_law_gcd" "_law_gcd" (defArgs s__law_gcd) (defBody s__law_gcd) (defScope s__law_gcd) .none kV__law_gcd dc__law_gcd pm__law_gcd an__law_gcd cd__law_gcd ct__law_gcd), sl__law_gcd⟩) (c__law_gcd : PySem.W.codeIn K cd__law_gcd "_law_gcd" = true) (k__law_gcd : PySem.W.keepIn K (.ref f__law_gcd) = true)
    (a__law_f : PySem.W.nsIn K mainGlobals "_law_f" = some (some (.ref f__law_f))) (l__law_f : K.lookup f__law_f = some ⟨oc__law_f, od__law_f, .func (PySem.W.fnOf "_law_f" "_law_f" (defArgs s__law_f) (defBody s__law_f) (defScope s__law_f) .none kV__law_f dc__law_f pm__law_f an__law_f cd__law_f ct__law_f), sl__law_f⟩) (c__law_f : PySem.W.codeIn K cd__law_f "_law_f" = true) (k__law_f : PySem.W.keepIn K (.ref f__law_f) = true)
    (a__law_plus : PySem.W.nsIn K mainGlobals "_law_plus" = some (some (.ref f__law_plus))) (l__law_plus : K.lookup f__law_plus = some ⟨oc__law_plus, od__law_plus, .func (PySem.W.fnOf "_law_plus" "_law_plus" (defArgs s__law_plus) (defBody s__law_plus) (defScope s__law_plus) .none kV__law_plus dc__law_plus pm__law_plus an__law_plus cd__law_plus ct__law_plus), sl__law_plus⟩) (c__law_plus : PySem.W.codeIn K cd__law_plus "_law_plus" = true) (k__law_plus : PySem.W.keepIn K (.ref f__law_plus) = true)
    (a__law_minus : PySem.W.nsIn K mainGlobals "_law_minus" = some (some (.ref f__law_minus))) (l__law_minus : K.lookup f__law_minus = some ⟨oc__law_minus, od__law_minus, .func (PySem.W.fnOf "_law_minus" "_law_minus" (defArgs s__law_minus) (defBody s__law_minus) (defScope s__law_minus) .none kV__law_minus dc__law_minus pm__law_minus an__law_minus cd__law_minus ct__law_minus), sl__law_minus⟩) (c__law_minus : PySem.W.codeIn K cd__law_minus "_law_minus" = true) (k__law_minus : PySem.W.keepIn K (.ref f__law_minus) = true)
    (a__law_times : PySem.W.nsIn K mainGlobals "_law_times" = some (some (.ref f__law_times))) (l__law_times : K.lookup f__law_times = some ⟨oc__law_times, od__law_times, .func (PySem.W.fnOf "_law_times" "_law_times" (defArgs s__law_times) (defBody s__law_times) (defScope s__law_times) .none kV__law_times dc__law_times pm__law_times an__law_times cd__law_times ct__law_times), sl__law_times⟩) (c__law_times : PySem.W.codeIn K cd__law_times "_law_times" = true) (k__law_times : PySem.W.keepIn K (.ref f__law_times) = true)
    (a__law_less : PySem.W.nsIn K mainGlobals "_law_less" = some (some (.ref f__law_less))) (l__law_less : K.lookup f__law_less = some ⟨oc__law_less, od__law_less, .func (PySem.W.fnOf "_law_less" "_law_less" (defArgs s__law_less) (defBody s__law_less) (defScope s__law_less) .none kV__law_less dc__law_less pm__law_less an__law_less cd__law_less ct__law_less), sl__law_less⟩) (c__law_less : PySem.W.codeIn K cd__law_less "_law_less" = true) (k__law_less : PySem.W.keepIn K (.ref f__law_less) = true)
    (a__law_min : PySem.W.nsIn K mainGlobals "_law_min" = some (some (.ref f__law_min))) (l__law_min : K.lookup f__law_min = some ⟨oc__law_min, od__law_min, .func (PySem.W.fnOf "_law_min" "_law_min" (defArgs s__law_min) (defBody s__law_min) (defScope s__law_min) .none kV__law_min dc__law_min pm__law_min an__law_min cd__law_min ct__law_min), sl__law_min⟩) (c__law_min : PySem.W.codeIn K cd__law_min "_law_min" = true) (k__law_min : PySem.W.keepIn K (.ref f__law_min) = true)
    (a__law_max : PySem.W.nsIn K mainGlobals "_law_max" = some (some (.ref f__law_max))) (l__law_max : K.lookup f__law_max = some ⟨oc__law_max, od__law_max, .func (PySem.W.fnOf "_law_max" "_law_max" (defArgs s__law_max) (defBody s__law_max) (defScope s__law_max) .none kV__law_max dc__law_max pm__law_max an__law_max cd__law_max ct__law_max), sl__law_max⟩) (c__law_max : PySem.W.codeIn K cd__law_max "_law_max" = true) (k__law_max : PySem.W.keepIn K (.ref f__law_max) = true)
    (a__law_part : PySem.W.nsIn K mainGlobals "_law_part" = some (some (.ref f__law_part))) (l__law_part : K.lookup f__law_part = some ⟨oc__law_part, od__law_part, .func (PySem.W.fnOf "_law_part" "_law_part" (defArgs s__law_part) (defBody s__law_part) (defScope s__law_part) .none kV__law_part dc__law_part pm__law_part an__law_part cd__law_part ct__law_part), sl__law_part⟩) (c__law_part : PySem.W.codeIn K cd__law_part "_law_part" = true) (k__law_part : PySem.W.keepIn K (.ref f__law_part) = true)
    (a__law_spread : PySem.W.nsIn K mainGlobals "_law_spread" = some (some (.ref f__law_spread))) (l__law_spread : K.lookup f__law_spread = some ⟨oc__law_spread, od__law_spread, .func (PySem.W.fnOf "_law_spread" "_law_spread" (defArgs s__law_spread) (defBody s__law_spread) (defScope s__law_spread) .none kV__law_spread dc__law_spread pm__law_spread an__law_spread cd__law_spread ct__law_spread), sl__law_spread⟩) (c__law_spread : PySem.W.codeIn K cd__law_spread "_law_spread" = true) (k__law_spread : PySem.W.keepIn K (.ref f__law_spread) = true)
    (a__law_node : PySem.W.nsIn K mainGlobals "_law_node" = some (some (.ref f__law_node))) (l__law_node : K.lookup f__law_node = some ⟨oc__law_node, od__law_node, .func (PySem.W.fnOf "_law_node" "_law_node" (defArgs s__law_node) (defBody s__law_node) (defScope s__law_node) .none kV__law_node dc__law_node pm__law_node an__law_node cd__law_node ct__law_node), sl__law_node⟩) (c__law_node : PySem.W.codeIn K cd__law_node "_law_node" = true) (k__law_node : PySem.W.keepIn K (.ref f__law_node) = true)
    (a__law_market : PySem.W.nsIn K mainGlobals "_law_market" = some (some (.ref f__law_market))) (l__law_market : K.lookup f__law_market = some ⟨oc__law_market, od__law_market, .func (PySem.W.fnOf "_law_market" "_law_market" (defArgs s__law_market) (defBody s__law_market) (defScope s__law_market) .none kV__law_market dc__law_market pm__law_market an__law_market cd__law_market ct__law_market), sl__law_market⟩) (c__law_market : PySem.W.codeIn K cd__law_market "_law_market" = true) (k__law_market : PySem.W.keepIn K (.ref f__law_market) = true)
    (a__law_nodes : PySem.W.nsIn K mainGlobals "_law_nodes" = some (some (.ref f__law_nodes))) (l__law_nodes : K.lookup f__law_nodes = some ⟨oc__law_nodes, od__law_nodes, .func (PySem.W.fnOf "_law_nodes" "_law_nodes" (defArgs s__law_nodes) (defBody s__law_nodes) (defScope s__law_nodes) .none kV__law_nodes dc__law_nodes pm__law_nodes an__law_nodes cd__law_nodes ct__law_nodes), sl__law_nodes⟩) (c__law_nodes : PySem.W.codeIn K cd__law_nodes "_law_nodes" = true) (k__law_nodes : PySem.W.keepIn K (.ref f__law_nodes) = true)
    (a__law_find : PySem.W.nsIn K mainGlobals "_law_find" = some (some (.ref f__law_find))) (l__law_find : K.lookup f__law_find = some ⟨oc__law_find, od__law_find, .func (PySem.W.fnOf "_law_find" "_law_find" (defArgs s__law_find) (defBody s__law_find) (defScope s__law_find) .none kV__law_find dc__law_find pm__law_find an__law_find cd__law_find ct__law_find), sl__law_find⟩) (c__law_find : PySem.W.codeIn K cd__law_find "_law_find" = true) (k__law_find : PySem.W.keepIn K (.ref f__law_find) = true)
    (a__law_prices : PySem.W.nsIn K mainGlobals "_law_prices" = some (some (.ref f__law_prices))) (l__law_prices : K.lookup f__law_prices = some ⟨oc__law_prices, od__law_prices, .func (PySem.W.fnOf "_law_prices" "_law_prices" (defArgs s__law_prices) (defBody s__law_prices) (defScope s__law_prices) .none kV__law_prices dc__law_prices pm__law_prices an__law_prices cd__law_prices ct__law_prices), sl__law_prices⟩) (c__law_prices : PySem.W.codeIn K cd__law_prices "_law_prices" = true) (k__law_prices : PySem.W.keepIn K (.ref f__law_prices) = true)
    (a__law_number : PySem.W.nsIn K mainGlobals "_law_number" = some (some (.ref f__law_number))) (l__law_number : K.lookup f__law_number = some ⟨oc__law_number, od__law_number, .func (PySem.W.fnOf "_law_number" "_law_number" (defArgs s__law_number) (defBody s__law_number) (defScope s__law_number) .none kV__law_number dc__law_number pm__law_number an__law_number cd__law_number ct__law_number), sl__law_number⟩) (c__law_number : PySem.W.codeIn K cd__law_number "_law_number" = true) (k__law_number : PySem.W.keepIn K (.ref f__law_number) = true)
    (a__law_value : PySem.W.nsIn K mainGlobals "_law_value" = some (some (.ref f__law_value))) (l__law_value : K.lookup f__law_value = some ⟨oc__law_value, od__law_value, .func (PySem.W.fnOf "_law_value" "_law_value" (defArgs s__law_value) (defBody s__law_value) (defScope s__law_value) .none kV__law_value dc__law_value pm__law_value an__law_value cd__law_value ct__law_value), sl__law_value⟩) (c__law_value : PySem.W.codeIn K cd__law_value "_law_value" = true) (k__law_value : PySem.W.keepIn K (.ref f__law_value) = true)
    (a__law_condition : PySem.W.nsIn K mainGlobals "_law_condition" = some (some (.ref f__law_condition))) (l__law_condition : K.lookup f__law_condition = some ⟨oc__law_condition, od__law_condition, .func (PySem.W.fnOf "_law_condition" "_law_condition" (defArgs s__law_condition) (defBody s__law_condition) (defScope s__law_condition) .none kV__law_condition dc__law_condition pm__law_condition an__law_condition cd__law_condition ct__law_condition), sl__law_condition⟩) (c__law_condition : PySem.W.codeIn K cd__law_condition "_law_condition" = true) (k__law_condition : PySem.W.keepIn K (.ref f__law_condition) = true)
    (a__law_contract : PySem.W.nsIn K mainGlobals "_law_contract" = some (some (.ref f__law_contract))) (l__law_contract : K.lookup f__law_contract = some ⟨oc__law_contract, od__law_contract, .func (PySem.W.fnOf "_law_contract" "_law_contract" (defArgs s__law_contract) (defBody s__law_contract) (defScope s__law_contract) .none kV__law_contract dc__law_contract pm__law_contract an__law_contract cd__law_contract ct__law_contract), sl__law_contract⟩) (c__law_contract : PySem.W.codeIn K cd__law_contract "_law_contract" = true) (k__law_contract : PySem.W.keepIn K (.ref f__law_contract) = true)
    (a__law_parts : PySem.W.nsIn K mainGlobals "_law_parts" = some (some (.ref f__law_parts))) (l__law_parts : K.lookup f__law_parts = some ⟨oc__law_parts, od__law_parts, .func (PySem.W.fnOf "_law_parts" "_law_parts" (defArgs s__law_parts) (defBody s__law_parts) (defScope s__law_parts) .none kV__law_parts dc__law_parts pm__law_parts an__law_parts cd__law_parts ct__law_parts), sl__law_parts⟩) (c__law_parts : PySem.W.codeIn K cd__law_parts "_law_parts" = true) (k__law_parts : PySem.W.keepIn K (.ref f__law_parts) = true)
    (a__law_depth : PySem.W.nsIn K mainGlobals "_law_depth" = some (some (.ref f__law_depth))) (l__law_depth : K.lookup f__law_depth = some ⟨oc__law_depth, od__law_depth, .func (PySem.W.fnOf "_law_depth" "_law_depth" (defArgs s__law_depth) (defBody s__law_depth) (defScope s__law_depth) .none kV__law_depth dc__law_depth pm__law_depth an__law_depth cd__law_depth ct__law_depth), sl__law_depth⟩) (c__law_depth : PySem.W.codeIn K cd__law_depth "_law_depth" = true) (k__law_depth : PySem.W.keepIn K (.ref f__law_depth) = true)
    (a__law_worth : PySem.W.nsIn K mainGlobals "_law_worth" = some (some (.ref f__law_worth))) (l__law_worth : K.lookup f__law_worth = some ⟨oc__law_worth, od__law_worth, .func (PySem.W.fnOf "_law_worth" "_law_worth" (defArgs s__law_worth) (defBody s__law_worth) (defScope s__law_worth) .none kV__law_worth dc__law_worth pm__law_worth an__law_worth cd__law_worth ct__law_worth), sl__law_worth⟩) (c__law_worth : PySem.W.codeIn K cd__law_worth "_law_worth" = true) (k__law_worth : PySem.W.keepIn K (.ref f__law_worth) = true)
    (a__law_so : PySem.W.nsIn K mainGlobals "_law_so" = some (some (.ref f__law_so))) (l__law_so : K.lookup f__law_so = some ⟨oc__law_so, od__law_so, .func (PySem.W.fnOf "_law_so" "_law_so" (defArgs s__law_so) (defBody s__law_so) (defScope s__law_so) .none kV__law_so dc__law_so pm__law_so an__law_so cd__law_so ct__law_so), sl__law_so⟩) (c__law_so : PySem.W.codeIn K cd__law_so "_law_so" = true) (k__law_so : PySem.W.keepIn K (.ref f__law_so) = true)
    (a__law_into : PySem.W.nsIn K mainGlobals "_law_into" = some (some (.ref f__law_into))) (l__law_into : K.lookup f__law_into = some ⟨oc__law_into, od__law_into, .func (PySem.W.fnOf "_law_into" "_law_into" (defArgs s__law_into) (defBody s__law_into) (defScope s__law_into) .none kV__law_into dc__law_into pm__law_into an__law_into cd__law_into ct__law_into), sl__law_into⟩) (c__law_into : PySem.W.codeIn K cd__law_into "_law_into" = true) (k__law_into : PySem.W.keepIn K (.ref f__law_into) = true)
    (a__law_idle : PySem.W.nsIn K mainGlobals "_law_idle" = some (some (.ref f__law_idle))) (l__law_idle : K.lookup f__law_idle = some ⟨oc__law_idle, od__law_idle, .func (PySem.W.fnOf "_law_idle" "_law_idle" (defArgs s__law_idle) (defBody s__law_idle) (defScope s__law_idle) .none kV__law_idle dc__law_idle pm__law_idle an__law_idle cd__law_idle ct__law_idle), sl__law_idle⟩) (c__law_idle : PySem.W.codeIn K cd__law_idle "_law_idle" = true) (k__law_idle : PySem.W.keepIn K (.ref f__law_idle) = true)
    (a__law_faced : PySem.W.nsIn K mainGlobals "_law_faced" = some (some (.ref f__law_faced))) (l__law_faced : K.lookup f__law_faced = some ⟨oc__law_faced, od__law_faced, .func (PySem.W.fnOf "_law_faced" "_law_faced" (defArgs s__law_faced) (defBody s__law_faced) (defScope s__law_faced) .none kV__law_faced dc__law_faced pm__law_faced an__law_faced cd__law_faced ct__law_faced), sl__law_faced⟩) (c__law_faced : PySem.W.codeIn K cd__law_faced "_law_faced" = true) (k__law_faced : PySem.W.keepIn K (.ref f__law_faced) = true)
    (a__law_branches : PySem.W.nsIn K mainGlobals "_law_branches" = some (some (.ref f__law_branches))) (l__law_branches : K.lookup f__law_branches = some ⟨oc__law_branches, od__law_branches, .func (PySem.W.fnOf "_law_branches" "_law_branches" (defArgs s__law_branches) (defBody s__law_branches) (defScope s__law_branches) .none kV__law_branches dc__law_branches pm__law_branches an__law_branches cd__law_branches ct__law_branches), sl__law_branches⟩) (c__law_branches : PySem.W.codeIn K cd__law_branches "_law_branches" = true) (k__law_branches : PySem.W.keepIn K (.ref f__law_branches) = true)
    (a__law_told : PySem.W.nsIn K mainGlobals "_law_told" = some (some (.ref f__law_told))) (l__law_told : K.lookup f__law_told = some ⟨oc__law_told, od__law_told, .func (PySem.W.fnOf "_law_told" "_law_told" (defArgs s__law_told) (defBody s__law_told) (defScope s__law_told) .none kV__law_told dc__law_told pm__law_told an__law_told cd__law_told ct__law_told), sl__law_told⟩) (c__law_told : PySem.W.codeIn K cd__law_told "_law_told" = true) (k__law_told : PySem.W.keepIn K (.ref f__law_told) = true)
    (a__law_small : PySem.W.nsIn K mainGlobals "_law_small" = some (some (.ref f__law_small))) (l__law_small : K.lookup f__law_small = some ⟨oc__law_small, od__law_small, .func (PySem.W.fnOf "_law_small" "_law_small" (defArgs s__law_small) (defBody s__law_small) (defScope s__law_small) .none kV__law_small dc__law_small pm__law_small an__law_small cd__law_small ct__law_small), sl__law_small⟩) (c__law_small : PySem.W.codeIn K cd__law_small "_law_small" = true) (k__law_small : PySem.W.keepIn K (.ref f__law_small) = true)
    (a_law : PySem.W.nsIn K mainGlobals "law" = some (some (.ref f_law))) (l_law : K.lookup f_law = some ⟨oc_law, od_law, .func (PySem.W.fnOf "law" "law" (defArgs s_law) (defBody s_law) (defScope s_law) .none kV_law dc_law pm_law an_law cd_law ct_law), sl_law⟩) (c_law : PySem.W.codeIn K cd_law "law" = true) (k_law : PySem.W.keepIn K (.ref f_law) = true)
    (z_abs : PySem.W.nsIn K mainGlobals "abs" = some none)
    (z_int : PySem.W.nsIn K mainGlobals "int" = some none)
    (z_isinstance : PySem.W.nsIn K mainGlobals "isinstance" = some none)
    (z_len : PySem.W.nsIn K mainGlobals "len" = some none)
    (z_list : PySem.W.nsIn K mainGlobals "list" = some none)
    (z_max : PySem.W.nsIn K mainGlobals "max" = some none)
    (z_min : PySem.W.nsIn K mainGlobals "min" = some none)
    (z_range : PySem.W.nsIn K mainGlobals "range" = some none)
    (z_reversed : PySem.W.nsIn K mainGlobals "reversed" = some none)
    (z_sorted : PySem.W.nsIn K mainGlobals "sorted" = some none)
    (z_sum : PySem.W.nsIn K mainGlobals "sum" = some none)
    (z_tuple : PySem.W.nsIn K mainGlobals "tuple" = some none)
    (z_zip : PySem.W.nsIn K mainGlobals "zip" = some none)
    (i_gcd : PySem.W.nsIn K mainGlobals "gcd" = some (some (.builtin "math.gcd")))
    (j_PART_LIMIT : PySem.W.nsIn K mainGlobals "PART_LIMIT" = some (some (.int 40 tk_PART_LIMIT)))
    (j_DEPTH_LIMIT : PySem.W.nsIn K mainGlobals "DEPTH_LIMIT" = some (some (.int 20 tk_DEPTH_LIMIT)))
    (j_GOODS_LIMIT : PySem.W.nsIn K mainGlobals "GOODS_LIMIT" = some (some (.int 4 tk_GOODS_LIMIT)))
    (j_MOMENT_LIMIT : PySem.W.nsIn K mainGlobals "MOMENT_LIMIT" = some (some (.int 40 tk_MOMENT_LIMIT)))
    (j_TIME_LIMIT : PySem.W.nsIn K mainGlobals "TIME_LIMIT" = some (some (.int 5 tk_TIME_LIMIT)))
    (ja_VALUES : PySem.W.nsIn K mainGlobals "VALUES" = some (some (.ref A_VALUES))) (jd_VALUES : He.dicW K A_VALUES = some (He.keysIn w.params ["number", "buy", "sell", "plus", "minus", "times", "least", "greatest"]))
    (jn_VALUES_number : PySem.W.nsIn K A_VALUES "number" = some (some (.ref t_VALUES_number))) (jq_VALUES_number : tupW K t_VALUES_number ["size"] = true)
    (jn_VALUES_buy : PySem.W.nsIn K A_VALUES "buy" = some (some (.ref t_VALUES_buy))) (jq_VALUES_buy : tupW K t_VALUES_buy ["good"] = true)
    (jn_VALUES_sell : PySem.W.nsIn K A_VALUES "sell" = some (some (.ref t_VALUES_sell))) (jq_VALUES_sell : tupW K t_VALUES_sell ["good"] = true)
    (jn_VALUES_plus : PySem.W.nsIn K A_VALUES "plus" = some (some (.ref t_VALUES_plus))) (jq_VALUES_plus : tupW K t_VALUES_plus ["value", "value"] = true)
    (jn_VALUES_minus : PySem.W.nsIn K A_VALUES "minus" = some (some (.ref t_VALUES_minus))) (jq_VALUES_minus : tupW K t_VALUES_minus ["value", "value"] = true)
    (jn_VALUES_times : PySem.W.nsIn K A_VALUES "times" = some (some (.ref t_VALUES_times))) (jq_VALUES_times : tupW K t_VALUES_times ["value", "value"] = true)
    (jn_VALUES_least : PySem.W.nsIn K A_VALUES "least" = some (some (.ref t_VALUES_least))) (jq_VALUES_least : tupW K t_VALUES_least ["value", "value"] = true)
    (jn_VALUES_greatest : PySem.W.nsIn K A_VALUES "greatest" = some (some (.ref t_VALUES_greatest))) (jq_VALUES_greatest : tupW K t_VALUES_greatest ["value", "value"] = true)
    (jn_VALUES_less : PySem.W.nsIn K A_VALUES "less" = some none)
    (jn_VALUES_same : PySem.W.nsIn K A_VALUES "same" = some none)
    (jn_VALUES_not : PySem.W.nsIn K A_VALUES "not" = some none)
    (jn_VALUES_and : PySem.W.nsIn K A_VALUES "and" = some none)
    (jn_VALUES_nothing : PySem.W.nsIn K A_VALUES "nothing" = some none)
    (jn_VALUES_one : PySem.W.nsIn K A_VALUES "one" = some none)
    (jn_VALUES_scale : PySem.W.nsIn K A_VALUES "scale" = some none)
    (jn_VALUES_both : PySem.W.nsIn K A_VALUES "both" = some none)
    (jn_VALUES_give : PySem.W.nsIn K A_VALUES "give" = some none)
    (jn_VALUES_or : PySem.W.nsIn K A_VALUES "or" = some none)
    (jn_VALUES_at : PySem.W.nsIn K A_VALUES "at" = some none)
    (jn_VALUES_when : PySem.W.nsIn K A_VALUES "when" = some none)
    (jn_VALUES_until : PySem.W.nsIn K A_VALUES "until" = some none)
    (jn_VALUES_early : PySem.W.nsIn K A_VALUES "early" = some none)
    (jn_VALUES_later : PySem.W.nsIn K A_VALUES "later" = some none)
    (ja_CONDITIONS : PySem.W.nsIn K mainGlobals "CONDITIONS" = some (some (.ref A_CONDITIONS))) (jd_CONDITIONS : He.dicW K A_CONDITIONS = some (He.keysIn w.params ["less", "same", "not", "and"]))
    (jn_CONDITIONS_number : PySem.W.nsIn K A_CONDITIONS "number" = some none)
    (jn_CONDITIONS_buy : PySem.W.nsIn K A_CONDITIONS "buy" = some none)
    (jn_CONDITIONS_sell : PySem.W.nsIn K A_CONDITIONS "sell" = some none)
    (jn_CONDITIONS_plus : PySem.W.nsIn K A_CONDITIONS "plus" = some none)
    (jn_CONDITIONS_minus : PySem.W.nsIn K A_CONDITIONS "minus" = some none)
    (jn_CONDITIONS_times : PySem.W.nsIn K A_CONDITIONS "times" = some none)
    (jn_CONDITIONS_least : PySem.W.nsIn K A_CONDITIONS "least" = some none)
    (jn_CONDITIONS_greatest : PySem.W.nsIn K A_CONDITIONS "greatest" = some none)
    (jn_CONDITIONS_less : PySem.W.nsIn K A_CONDITIONS "less" = some (some (.ref t_CONDITIONS_less))) (jq_CONDITIONS_less : tupW K t_CONDITIONS_less ["value", "value"] = true)
    (jn_CONDITIONS_same : PySem.W.nsIn K A_CONDITIONS "same" = some (some (.ref t_CONDITIONS_same))) (jq_CONDITIONS_same : tupW K t_CONDITIONS_same ["value", "value"] = true)
    (jn_CONDITIONS_not : PySem.W.nsIn K A_CONDITIONS "not" = some (some (.ref t_CONDITIONS_not))) (jq_CONDITIONS_not : tupW K t_CONDITIONS_not ["condition"] = true)
    (jn_CONDITIONS_and : PySem.W.nsIn K A_CONDITIONS "and" = some (some (.ref t_CONDITIONS_and))) (jq_CONDITIONS_and : tupW K t_CONDITIONS_and ["condition", "condition"] = true)
    (jn_CONDITIONS_nothing : PySem.W.nsIn K A_CONDITIONS "nothing" = some none)
    (jn_CONDITIONS_one : PySem.W.nsIn K A_CONDITIONS "one" = some none)
    (jn_CONDITIONS_scale : PySem.W.nsIn K A_CONDITIONS "scale" = some none)
    (jn_CONDITIONS_both : PySem.W.nsIn K A_CONDITIONS "both" = some none)
    (jn_CONDITIONS_give : PySem.W.nsIn K A_CONDITIONS "give" = some none)
    (jn_CONDITIONS_or : PySem.W.nsIn K A_CONDITIONS "or" = some none)
    (jn_CONDITIONS_at : PySem.W.nsIn K A_CONDITIONS "at" = some none)
    (jn_CONDITIONS_when : PySem.W.nsIn K A_CONDITIONS "when" = some none)
    (jn_CONDITIONS_until : PySem.W.nsIn K A_CONDITIONS "until" = some none)
    (jn_CONDITIONS_early : PySem.W.nsIn K A_CONDITIONS "early" = some none)
    (jn_CONDITIONS_later : PySem.W.nsIn K A_CONDITIONS "later" = some none)
    (ja_CONTRACTS : PySem.W.nsIn K mainGlobals "CONTRACTS" = some (some (.ref A_CONTRACTS))) (jd_CONTRACTS : He.dicW K A_CONTRACTS = some (He.keysIn w.params ["nothing", "one", "scale", "both", "give", "or", "at", "when", "until", "early", "later"]))
    (jn_CONTRACTS_number : PySem.W.nsIn K A_CONTRACTS "number" = some none)
    (jn_CONTRACTS_buy : PySem.W.nsIn K A_CONTRACTS "buy" = some none)
    (jn_CONTRACTS_sell : PySem.W.nsIn K A_CONTRACTS "sell" = some none)
    (jn_CONTRACTS_plus : PySem.W.nsIn K A_CONTRACTS "plus" = some none)
    (jn_CONTRACTS_minus : PySem.W.nsIn K A_CONTRACTS "minus" = some none)
    (jn_CONTRACTS_times : PySem.W.nsIn K A_CONTRACTS "times" = some none)
    (jn_CONTRACTS_least : PySem.W.nsIn K A_CONTRACTS "least" = some none)
    (jn_CONTRACTS_greatest : PySem.W.nsIn K A_CONTRACTS "greatest" = some none)
    (jn_CONTRACTS_less : PySem.W.nsIn K A_CONTRACTS "less" = some none)
    (jn_CONTRACTS_same : PySem.W.nsIn K A_CONTRACTS "same" = some none)
    (jn_CONTRACTS_not : PySem.W.nsIn K A_CONTRACTS "not" = some none)
    (jn_CONTRACTS_and : PySem.W.nsIn K A_CONTRACTS "and" = some none)
    (jn_CONTRACTS_nothing : PySem.W.nsIn K A_CONTRACTS "nothing" = some (some (.ref t_CONTRACTS_nothing))) (jq_CONTRACTS_nothing : tupW K t_CONTRACTS_nothing [] = true)
    (jn_CONTRACTS_one : PySem.W.nsIn K A_CONTRACTS "one" = some (some (.ref t_CONTRACTS_one))) (jq_CONTRACTS_one : tupW K t_CONTRACTS_one ["good"] = true)
    (jn_CONTRACTS_scale : PySem.W.nsIn K A_CONTRACTS "scale" = some (some (.ref t_CONTRACTS_scale))) (jq_CONTRACTS_scale : tupW K t_CONTRACTS_scale ["value", "contract"] = true)
    (jn_CONTRACTS_both : PySem.W.nsIn K A_CONTRACTS "both" = some (some (.ref t_CONTRACTS_both))) (jq_CONTRACTS_both : tupW K t_CONTRACTS_both ["contract", "contract"] = true)
    (jn_CONTRACTS_give : PySem.W.nsIn K A_CONTRACTS "give" = some (some (.ref t_CONTRACTS_give))) (jq_CONTRACTS_give : tupW K t_CONTRACTS_give ["contract"] = true)
    (jn_CONTRACTS_or : PySem.W.nsIn K A_CONTRACTS "or" = some (some (.ref t_CONTRACTS_or))) (jq_CONTRACTS_or : tupW K t_CONTRACTS_or ["contract", "contract"] = true)
    (jn_CONTRACTS_at : PySem.W.nsIn K A_CONTRACTS "at" = some (some (.ref t_CONTRACTS_at))) (jq_CONTRACTS_at : tupW K t_CONTRACTS_at ["time", "contract"] = true)
    (jn_CONTRACTS_when : PySem.W.nsIn K A_CONTRACTS "when" = some (some (.ref t_CONTRACTS_when))) (jq_CONTRACTS_when : tupW K t_CONTRACTS_when ["condition", "contract"] = true)
    (jn_CONTRACTS_until : PySem.W.nsIn K A_CONTRACTS "until" = some (some (.ref t_CONTRACTS_until))) (jq_CONTRACTS_until : tupW K t_CONTRACTS_until ["condition", "contract"] = true)
    (jn_CONTRACTS_early : PySem.W.nsIn K A_CONTRACTS "early" = some (some (.ref t_CONTRACTS_early))) (jq_CONTRACTS_early : tupW K t_CONTRACTS_early ["time", "contract"] = true)
    (jn_CONTRACTS_later : PySem.W.nsIn K A_CONTRACTS "later" = some (some (.ref t_CONTRACTS_later))) (jq_CONTRACTS_later : tupW K t_CONTRACTS_later ["contract"] = true)
    (ja_STEPS : PySem.W.nsIn K mainGlobals "STEPS" = some (some (.ref A_STEPS))) (jd_STEPS : He.dicW K A_STEPS = some (He.keysIn w.params ["nothing", "one", "scale", "both", "give", "or", "at", "when", "until", "early", "later"]))
    (jn_STEPS_nothing : PySem.W.nsIn K A_STEPS "nothing" = some (some (.ref f__face_nothing)))
    (jn_STEPS_one : PySem.W.nsIn K A_STEPS "one" = some (some (.ref f__face_one)))
    (jn_STEPS_scale : PySem.W.nsIn K A_STEPS "scale" = some (some (.ref f__face_scale)))
    (jn_STEPS_both : PySem.W.nsIn K A_STEPS "both" = some (some (.ref f__face_both)))
    (jn_STEPS_give : PySem.W.nsIn K A_STEPS "give" = some (some (.ref f__face_give)))
    (jn_STEPS_or : PySem.W.nsIn K A_STEPS "or" = some (some (.ref f__face_or)))
    (jn_STEPS_at : PySem.W.nsIn K A_STEPS "at" = some (some (.ref f__face_at)))
    (jn_STEPS_when : PySem.W.nsIn K A_STEPS "when" = some (some (.ref f__face_when)))
    (jn_STEPS_until : PySem.W.nsIn K A_STEPS "until" = some (some (.ref f__face_until)))
    (jn_STEPS_early : PySem.W.nsIn K A_STEPS "early" = some (some (.ref f__face_early)))
    (jn_STEPS_later : PySem.W.nsIn K A_STEPS "later" = some (some (.ref f__face_later)))
    (ca_MarketplaceError : PySem.W.nsIn K mainGlobals "MarketplaceError" = some (some (.ref C_MarketplaceError)))
    (cx_MarketplaceError : PySem.W.excIn K C_MarketplaceError [.type "ValueError", .type "Exception", .type "BaseException", .type "object"] "ValueError.__new__" = true)
    (ck_MarketplaceError : PySem.W.keepIn K (.ref C_MarketplaceError) = true) (cb_MarketplaceError : PySem.W.subIn K (.ref C_MarketplaceError) (.type "BaseException") = some true) (ct0_MarketplaceError : PySem.W.typeIn K (.ref C_MarketplaceError) = some (.type "type")) (ch_MarketplaceError : PySem.W.hasDictIn K C_MarketplaceError = true)
    (e1_MarketplaceError : PySem.W.findIn K (.ref C_MarketplaceError) "__getattribute__" = some (some (.builtin "BaseException.__getattribute__"))) (e2_MarketplaceError : PySem.W.findIn K (.ref C_MarketplaceError) "__getattr__" = some none) (e3_MarketplaceError : PySem.W.findIn K (.ref C_MarketplaceError) "__class__" = some (some (.builtin "object.__class__"))) (e4_MarketplaceError : PySem.W.mroIn K C_MarketplaceError (.type "object") = some true)
    (ca_ZeroDenominator : PySem.W.nsIn K mainGlobals "ZeroDenominator" = some (some (.ref C_ZeroDenominator)))
    (cx_ZeroDenominator : PySem.W.excIn K C_ZeroDenominator [.type "ValueError", .type "Exception", .type "BaseException", .type "object"] "ValueError.__new__" = true)
    (ck_ZeroDenominator : PySem.W.keepIn K (.ref C_ZeroDenominator) = true) (cb_ZeroDenominator : PySem.W.subIn K (.ref C_ZeroDenominator) (.type "BaseException") = some true) (ct0_ZeroDenominator : PySem.W.typeIn K (.ref C_ZeroDenominator) = some (.type "type")) (ch_ZeroDenominator : PySem.W.hasDictIn K C_ZeroDenominator = true)
    (e1_ZeroDenominator : PySem.W.findIn K (.ref C_ZeroDenominator) "__getattribute__" = some (some (.builtin "BaseException.__getattribute__"))) (e2_ZeroDenominator : PySem.W.findIn K (.ref C_ZeroDenominator) "__getattr__" = some none) (e3_ZeroDenominator : PySem.W.findIn K (.ref C_ZeroDenominator) "__class__" = some (some (.builtin "object.__class__"))) (e4_ZeroDenominator : PySem.W.mroIn K C_ZeroDenominator (.type "object") = some true)
    (ca_MarketError : PySem.W.nsIn K mainGlobals "MarketError" = some (some (.ref C_MarketError)))
    (cx_MarketError : PySem.W.excIn K C_MarketError [.type "ValueError", .type "Exception", .type "BaseException", .type "object"] "ValueError.__new__" = true)
    (ck_MarketError : PySem.W.keepIn K (.ref C_MarketError) = true) (cb_MarketError : PySem.W.subIn K (.ref C_MarketError) (.type "BaseException") = some true) (ct0_MarketError : PySem.W.typeIn K (.ref C_MarketError) = some (.type "type")) (ch_MarketError : PySem.W.hasDictIn K C_MarketError = true)
    (e1_MarketError : PySem.W.findIn K (.ref C_MarketError) "__getattribute__" = some (some (.builtin "BaseException.__getattribute__"))) (e2_MarketError : PySem.W.findIn K (.ref C_MarketError) "__getattr__" = some none) (e3_MarketError : PySem.W.findIn K (.ref C_MarketError) "__class__" = some (some (.builtin "object.__class__"))) (e4_MarketError : PySem.W.mroIn K C_MarketError (.type "object") = some true)
    (ca_TooLarge : PySem.W.nsIn K mainGlobals "TooLarge" = some (some (.ref C_TooLarge)))
    (cx_TooLarge : PySem.W.excIn K C_TooLarge [.type "ValueError", .type "Exception", .type "BaseException", .type "object"] "ValueError.__new__" = true)
    (ck_TooLarge : PySem.W.keepIn K (.ref C_TooLarge) = true) (cb_TooLarge : PySem.W.subIn K (.ref C_TooLarge) (.type "BaseException") = some true) (ct0_TooLarge : PySem.W.typeIn K (.ref C_TooLarge) = some (.type "type")) (ch_TooLarge : PySem.W.hasDictIn K C_TooLarge = true)
    (e1_TooLarge : PySem.W.findIn K (.ref C_TooLarge) "__getattribute__" = some (some (.builtin "BaseException.__getattribute__"))) (e2_TooLarge : PySem.W.findIn K (.ref C_TooLarge) "__getattr__" = some none) (e3_TooLarge : PySem.W.findIn K (.ref C_TooLarge) "__class__" = some (some (.builtin "object.__class__"))) (e4_TooLarge : PySem.W.mroIn K C_TooLarge (.type "object") = some true)
    (ca_MomentError : PySem.W.nsIn K mainGlobals "MomentError" = some (some (.ref C_MomentError)))
    (cx_MomentError : PySem.W.excIn K C_MomentError [.type "ValueError", .type "Exception", .type "BaseException", .type "object"] "ValueError.__new__" = true)
    (ck_MomentError : PySem.W.keepIn K (.ref C_MomentError) = true) (cb_MomentError : PySem.W.subIn K (.ref C_MomentError) (.type "BaseException") = some true) (ct0_MomentError : PySem.W.typeIn K (.ref C_MomentError) = some (.type "type")) (ch_MomentError : PySem.W.hasDictIn K C_MomentError = true)
    (e1_MomentError : PySem.W.findIn K (.ref C_MomentError) "__getattribute__" = some (some (.builtin "BaseException.__getattribute__"))) (e2_MomentError : PySem.W.findIn K (.ref C_MomentError) "__getattr__" = some none) (e3_MomentError : PySem.W.findIn K (.ref C_MomentError) "__class__" = some (some (.builtin "object.__class__"))) (e4_MomentError : PySem.W.mroIn K C_MomentError (.type "object") = some true)
    (ca_ContractError : PySem.W.nsIn K mainGlobals "ContractError" = some (some (.ref C_ContractError)))
    (cx_ContractError : PySem.W.excIn K C_ContractError [.type "ValueError", .type "Exception", .type "BaseException", .type "object"] "ValueError.__new__" = true)
    (ck_ContractError : PySem.W.keepIn K (.ref C_ContractError) = true) (cb_ContractError : PySem.W.subIn K (.ref C_ContractError) (.type "BaseException") = some true) (ct0_ContractError : PySem.W.typeIn K (.ref C_ContractError) = some (.type "type")) (ch_ContractError : PySem.W.hasDictIn K C_ContractError = true)
    (e1_ContractError : PySem.W.findIn K (.ref C_ContractError) "__getattribute__" = some (some (.builtin "BaseException.__getattribute__"))) (e2_ContractError : PySem.W.findIn K (.ref C_ContractError) "__getattr__" = some none) (e3_ContractError : PySem.W.findIn K (.ref C_ContractError) "__class__" = some (some (.builtin "object.__class__"))) (e4_ContractError : PySem.W.mroIn K C_ContractError (.type "object") = some true)
    (e5 : PySem.W.specialIn K (.builtin "object.__class__") "__get__" = some (some (.builtin "getset_descriptor.__get__"))) (e6 : PySem.W.takesIn K (.builtin "object.__class__") = some true)
    (s_MarketError_MarketplaceError : PySem.W.subIn K (.ref C_MarketError) (.ref C_MarketplaceError) = some true)
    (s_MarketError_MomentError : PySem.W.subIn K (.ref C_MarketError) (.ref C_MomentError) = some false)
    (s_MarketError_ContractError : PySem.W.subIn K (.ref C_MarketError) (.ref C_ContractError) = some false)
    (s_TooLarge_MarketplaceError : PySem.W.subIn K (.ref C_TooLarge) (.ref C_MarketplaceError) = some true)
    (s_TooLarge_MomentError : PySem.W.subIn K (.ref C_TooLarge) (.ref C_MomentError) = some false)
    (s_TooLarge_ContractError : PySem.W.subIn K (.ref C_TooLarge) (.ref C_ContractError) = some false)
    (s_MomentError_MarketplaceError : PySem.W.subIn K (.ref C_MomentError) (.ref C_MarketplaceError) = some true)
    (s_MomentError_MomentError : PySem.W.subIn K (.ref C_MomentError) (.ref C_MomentError) = some true)
    (s_MomentError_ContractError : PySem.W.subIn K (.ref C_MomentError) (.ref C_ContractError) = some false)
    (s_ContractError_MarketplaceError : PySem.W.subIn K (.ref C_ContractError) (.ref C_MarketplaceError) = some true)
    (s_ContractError_MomentError : PySem.W.subIn K (.ref C_ContractError) (.ref C_MomentError) = some false)
    (s_ContractError_ContractError : PySem.W.subIn K (.ref C_ContractError) (.ref C_ContractError) = some true)
    (s_MarketError_MarketError : PySem.W.subIn K (.ref C_MarketError) (.ref C_MarketError) = some true)
    (s_TooLarge_TooLarge : PySem.W.subIn K (.ref C_TooLarge) (.ref C_TooLarge) = some true)
    : ∃ fd : FuncData, (∀ (s : Shared) (v : Value), BindsTo s fd ⟨[v], []⟩ [("script", v)]) ∧ ∀ base : Heap, K.In base → base.Ns mainGlobals mg → FnOk P w K mg base L2.CX0 47 fa fd ["script"] (sp_law K) := by
  have e := hfa.symm.trans (PySem.W.mg_of X G a_law)
  cases e
  have F_kinds_behind := fun_mk (st := s_kinds_behind) l_kinds_behind c_kinds_behind k_kinds_behind
  have F_parts_behind := fun_mk (st := s_parts_behind) l_parts_behind c_parts_behind k_parts_behind
  have F_walk_parts := fun_mk (st := s_walk_parts) l_walk_parts c_walk_parts k_walk_parts
  have F_check_contract := fun_mk (st := s_check_contract) l_check_contract c_check_contract k_check_contract
  have F_check_numbers := fun_mk (st := s_check_numbers) l_check_numbers c_check_numbers k_check_numbers
  have F_fraction := fun_mk (st := s_fraction) l_fraction c_fraction k_fraction
  have F_plus := fun_mk (st := s_plus) l_plus c_plus k_plus
  have F_minus := fun_mk (st := s_minus) l_minus c_minus k_minus
  have F_times := fun_mk (st := s_times) l_times c_times k_times
  have F_compare := fun_mk (st := s_compare) l_compare c_compare k_compare
  have F_added := fun_mk (st := s_added) l_added c_added k_added
  have F_multiplied := fun_mk (st := s_multiplied) l_multiplied c_multiplied k_multiplied
  have F_check_market := fun_mk (st := s_check_market) l_check_market c_check_market k_check_market
  have F__check_prices := fun_mk (st := s__check_prices) l__check_prices c__check_prices k__check_prices
  have F_walk := fun_mk (st := s_walk) l_walk c_walk k_walk
  have F_node_at := fun_mk (st := s_node_at) l_node_at c_node_at k_node_at
  have F__worked_out := fun_mk (st := s__worked_out) l__worked_out c__worked_out k__worked_out
  have F__price := fun_mk (st := s__price) l__price c__price k__price
  have F__joined := fun_mk (st := s__joined) l__joined c__joined k__joined
  have F_faced := fun_mk (st := s_faced) l_faced c_faced k_faced
  have F_face := fun_mk (st := s_face) l_face c_face k_face
  have F__idle := fun_mk (st := s__idle) l__idle c__idle k__idle
  have F__face_nothing := fun_mk (st := s__face_nothing) l__face_nothing c__face_nothing k__face_nothing
  have F__face_one := fun_mk (st := s__face_one) l__face_one c__face_one k__face_one
  have F__face_scale := fun_mk (st := s__face_scale) l__face_scale c__face_scale k__face_scale
  have F__face_both := fun_mk (st := s__face_both) l__face_both c__face_both k__face_both
  have F__face_give := fun_mk (st := s__face_give) l__face_give c__face_give k__face_give
  have F__face_or := fun_mk (st := s__face_or) l__face_or c__face_or k__face_or
  have F__face_at := fun_mk (st := s__face_at) l__face_at c__face_at k__face_at
  have F__face_when := fun_mk (st := s__face_when) l__face_when c__face_when k__face_when
  have F__face_until := fun_mk (st := s__face_until) l__face_until c__face_until k__face_until
  have F__face_early := fun_mk (st := s__face_early) l__face_early c__face_early k__face_early
  have F__face_later := fun_mk (st := s__face_later) l__face_later c__face_later k__face_later
  have F__law_begin := fun_mk (st := s__law_begin) l__law_begin c__law_begin k__law_begin
  have F__law_take := fun_mk (st := s__law_take) l__law_take c__law_take k__law_take
  have F__law_signed := fun_mk (st := s__law_signed) l__law_signed c__law_signed k__law_signed
  have F__law_gcd := fun_mk (st := s__law_gcd) l__law_gcd c__law_gcd k__law_gcd
  have F__law_f := fun_mk (st := s__law_f) l__law_f c__law_f k__law_f
  have F__law_plus := fun_mk (st := s__law_plus) l__law_plus c__law_plus k__law_plus
  have F__law_minus := fun_mk (st := s__law_minus) l__law_minus c__law_minus k__law_minus
  have F__law_times := fun_mk (st := s__law_times) l__law_times c__law_times k__law_times
  have F__law_less := fun_mk (st := s__law_less) l__law_less c__law_less k__law_less
  have F__law_min := fun_mk (st := s__law_min) l__law_min c__law_min k__law_min
  have F__law_max := fun_mk (st := s__law_max) l__law_max c__law_max k__law_max
  have F__law_part := fun_mk (st := s__law_part) l__law_part c__law_part k__law_part
  have F__law_spread := fun_mk (st := s__law_spread) l__law_spread c__law_spread k__law_spread
  have F__law_node := fun_mk (st := s__law_node) l__law_node c__law_node k__law_node
  have F__law_market := fun_mk (st := s__law_market) l__law_market c__law_market k__law_market
  have F__law_nodes := fun_mk (st := s__law_nodes) l__law_nodes c__law_nodes k__law_nodes
  have F__law_find := fun_mk (st := s__law_find) l__law_find c__law_find k__law_find
  have F__law_prices := fun_mk (st := s__law_prices) l__law_prices c__law_prices k__law_prices
  have F__law_number := fun_mk (st := s__law_number) l__law_number c__law_number k__law_number
  have F__law_value := fun_mk (st := s__law_value) l__law_value c__law_value k__law_value
  have F__law_condition := fun_mk (st := s__law_condition) l__law_condition c__law_condition k__law_condition
  have F__law_contract := fun_mk (st := s__law_contract) l__law_contract c__law_contract k__law_contract
  have F__law_parts := fun_mk (st := s__law_parts) l__law_parts c__law_parts k__law_parts
  have F__law_depth := fun_mk (st := s__law_depth) l__law_depth c__law_depth k__law_depth
  have F__law_worth := fun_mk (st := s__law_worth) l__law_worth c__law_worth k__law_worth
  have F__law_so := fun_mk (st := s__law_so) l__law_so c__law_so k__law_so
  have F__law_into := fun_mk (st := s__law_into) l__law_into c__law_into k__law_into
  have F__law_idle := fun_mk (st := s__law_idle) l__law_idle c__law_idle k__law_idle
  have F__law_faced := fun_mk (st := s__law_faced) l__law_faced c__law_faced k__law_faced
  have F__law_branches := fun_mk (st := s__law_branches) l__law_branches c__law_branches k__law_branches
  have F__law_told := fun_mk (st := s__law_told) l__law_told c__law_told k__law_told
  have F__law_small := fun_mk (st := s__law_small) l__law_small c__law_small k__law_small
  have F_law := fun_mk (st := s_law) l_law c_law k_law
  have T : Top w K mg := {
    a_kinds_behind := f_kinds_behind, d_kinds_behind := _, kinds_behind_F := F_kinds_behind, kinds_behind_b := F_kinds_behind.binds (ps := ["word"]) fun _ _ _ _ _ _ us hl => match us, hl with | [_], _ => rfl, g_kinds_behind := PySem.W.mg_of X G a_kinds_behind,
    a_parts_behind := f_parts_behind, d_parts_behind := _, parts_behind_F := F_parts_behind, parts_behind_b := F_parts_behind.binds (ps := ["part"]) fun _ _ _ _ _ _ us hl => match us, hl with | [_], _ => rfl, g_parts_behind := PySem.W.mg_of X G a_parts_behind,
    a_walk_parts := f_walk_parts, d_walk_parts := _, walk_parts_F := F_walk_parts, walk_parts_b := F_walk_parts.binds (ps := ["part"]) fun _ _ _ _ _ _ us hl => match us, hl with | [_], _ => rfl, g_walk_parts := PySem.W.mg_of X G a_walk_parts,
    a_check_contract := f_check_contract, d_check_contract := _, check_contract_F := F_check_contract, check_contract_b := F_check_contract.binds (ps := ["goods", "contract"]) fun _ _ _ _ _ _ us hl => match us, hl with | [_, _], _ => rfl, g_check_contract := PySem.W.mg_of X G a_check_contract,
    a_check_numbers := f_check_numbers, d_check_numbers := _, check_numbers_F := F_check_numbers, check_numbers_b := F_check_numbers.binds (ps := ["goods", "part"]) fun _ _ _ _ _ _ us hl => match us, hl with | [_, _], _ => rfl, g_check_numbers := PySem.W.mg_of X G a_check_numbers,
    a_fraction := f_fraction, d_fraction := _, fraction_F := F_fraction, fraction_b := F_fraction.binds (ps := ["numerator", "denominator"]) fun _ _ _ _ _ _ us hl => match us, hl with | [_, _], _ => rfl, g_fraction := PySem.W.mg_of X G a_fraction,
    a_plus := f_plus, d_plus := _, plus_F := F_plus, plus_b := F_plus.binds (ps := ["a", "b"]) fun _ _ _ _ _ _ us hl => match us, hl with | [_, _], _ => rfl, g_plus := PySem.W.mg_of X G a_plus,
    a_minus := f_minus, d_minus := _, minus_F := F_minus, minus_b := F_minus.binds (ps := ["a", "b"]) fun _ _ _ _ _ _ us hl => match us, hl with | [_, _], _ => rfl, g_minus := PySem.W.mg_of X G a_minus,
    a_times := f_times, d_times := _, times_F := F_times, times_b := F_times.binds (ps := ["a", "b"]) fun _ _ _ _ _ _ us hl => match us, hl with | [_, _], _ => rfl, g_times := PySem.W.mg_of X G a_times,
    a_compare := f_compare, d_compare := _, compare_F := F_compare, compare_b := F_compare.binds (ps := ["a", "b"]) fun _ _ _ _ _ _ us hl => match us, hl with | [_, _], _ => rfl, g_compare := PySem.W.mg_of X G a_compare,
    a_added := f_added, d_added := _, added_F := F_added, added_b := F_added.binds (ps := ["a", "b"]) fun _ _ _ _ _ _ us hl => match us, hl with | [_, _], _ => rfl, g_added := PySem.W.mg_of X G a_added,
    a_multiplied := f_multiplied, d_multiplied := _, multiplied_F := F_multiplied, multiplied_b := F_multiplied.binds (ps := ["row", "factor"]) fun _ _ _ _ _ _ us hl => match us, hl with | [_, _], _ => rfl, g_multiplied := PySem.W.mg_of X G a_multiplied,
    a_check_market := f_check_market, d_check_market := _, check_market_F := F_check_market, check_market_b := F_check_market.binds (ps := ["market"]) fun _ _ _ _ _ _ us hl => match us, hl with | [_], _ => rfl, g_check_market := PySem.W.mg_of X G a_check_market,
    a__check_prices := f__check_prices, d__check_prices := _, _check_prices_F := F__check_prices, _check_prices_b := F__check_prices.binds (ps := ["goods", "prices"]) fun _ _ _ _ _ _ us hl => match us, hl with | [_, _], _ => rfl, g__check_prices := PySem.W.mg_of X G a__check_prices,
    a_walk := f_walk, d_walk := _, walk_F := F_walk, walk_b := F_walk.binds (ps := ["market"]) fun _ _ _ _ _ _ us hl => match us, hl with | [_], _ => rfl, g_walk := PySem.W.mg_of X G a_walk,
    a_node_at := f_node_at, d_node_at := _, node_at_F := F_node_at, node_at_b := F_node_at.binds (ps := ["market", "path"]) fun _ _ _ _ _ _ us hl => match us, hl with | [_, _], _ => rfl, g_node_at := PySem.W.mg_of X G a_node_at,
    a__worked_out := f__worked_out, d__worked_out := _, _worked_out_F := F__worked_out, _worked_out_b := F__worked_out.binds (ps := ["prices", "part"]) fun _ _ _ _ _ _ us hl => match us, hl with | [_, _], _ => rfl, g__worked_out := PySem.W.mg_of X G a__worked_out,
    a__price := f__price, d__price := _, _price_F := F__price, _price_b := F__price.binds (ps := ["prices", "word", "good"]) fun _ _ _ _ _ _ us hl => match us, hl with | [_, _, _], _ => rfl, g__price := PySem.W.mg_of X G a__price,
    a__joined := f__joined, d__joined := _, _joined_F := F__joined, _joined_b := F__joined.binds (ps := ["word", "first", "second"]) fun _ _ _ _ _ _ us hl => match us, hl with | [_, _, _], _ => rfl, g__joined := PySem.W.mg_of X G a__joined,
    a_faced := f_faced, d_faced := _, faced_F := F_faced, faced_b := F_faced.binds (ps := ["market", "path", "contract"]) fun _ _ _ _ _ _ us hl => match us, hl with | [_, _, _], _ => rfl, g_faced := PySem.W.mg_of X G a_faced,
    a_face := f_face, d_face := _, face_F := F_face, face_b := F_face.binds (ps := ["time", "prices", "contract"]) fun _ _ _ _ _ _ us hl => match us, hl with | [_, _, _], _ => rfl, g_face := PySem.W.mg_of X G a_face,
    a__idle := f__idle, d__idle := _, _idle_F := F__idle, _idle_b := F__idle.binds (ps := ["prices", "left"]) fun _ _ _ _ _ _ us hl => match us, hl with | [_, _], _ => rfl, g__idle := PySem.W.mg_of X G a__idle,
    a__face_nothing := f__face_nothing, d__face_nothing := _, _face_nothing_F := F__face_nothing, _face_nothing_b := F__face_nothing.binds (ps := ["_", "prices", "contract"]) fun _ _ _ _ _ _ us hl => match us, hl with | [_, _, _], _ => rfl, g__face_nothing := PySem.W.mg_of X G a__face_nothing,
    a__face_one := f__face_one, d__face_one := _, _face_one_F := F__face_one, _face_one_b := F__face_one.binds (ps := ["_", "prices", "contract"]) fun _ _ _ _ _ _ us hl => match us, hl with | [_, _, _], _ => rfl, g__face_one := PySem.W.mg_of X G a__face_one,
    a__face_scale := f__face_scale, d__face_scale := _, _face_scale_F := F__face_scale, _face_scale_b := F__face_scale.binds (ps := ["time", "prices", "contract"]) fun _ _ _ _ _ _ us hl => match us, hl with | [_, _, _], _ => rfl, g__face_scale := PySem.W.mg_of X G a__face_scale,
    a__face_both := f__face_both, d__face_both := _, _face_both_F := F__face_both, _face_both_b := F__face_both.binds (ps := ["time", "prices", "contract"]) fun _ _ _ _ _ _ us hl => match us, hl with | [_, _, _], _ => rfl, g__face_both := PySem.W.mg_of X G a__face_both,
    a__face_give := f__face_give, d__face_give := _, _face_give_F := F__face_give, _face_give_b := F__face_give.binds (ps := ["time", "prices", "contract"]) fun _ _ _ _ _ _ us hl => match us, hl with | [_, _, _], _ => rfl, g__face_give := PySem.W.mg_of X G a__face_give,
    a__face_or := f__face_or, d__face_or := _, _face_or_F := F__face_or, _face_or_b := F__face_or.binds (ps := ["_", "prices", "contract"]) fun _ _ _ _ _ _ us hl => match us, hl with | [_, _, _], _ => rfl, g__face_or := PySem.W.mg_of X G a__face_or,
    a__face_at := f__face_at, d__face_at := _, _face_at_F := F__face_at, _face_at_b := F__face_at.binds (ps := ["time", "prices", "contract"]) fun _ _ _ _ _ _ us hl => match us, hl with | [_, _, _], _ => rfl, g__face_at := PySem.W.mg_of X G a__face_at,
    a__face_when := f__face_when, d__face_when := _, _face_when_F := F__face_when, _face_when_b := F__face_when.binds (ps := ["time", "prices", "contract"]) fun _ _ _ _ _ _ us hl => match us, hl with | [_, _, _], _ => rfl, g__face_when := PySem.W.mg_of X G a__face_when,
    a__face_until := f__face_until, d__face_until := _, _face_until_F := F__face_until, _face_until_b := F__face_until.binds (ps := ["time", "prices", "contract"]) fun _ _ _ _ _ _ us hl => match us, hl with | [_, _, _], _ => rfl, g__face_until := PySem.W.mg_of X G a__face_until,
    a__face_early := f__face_early, d__face_early := _, _face_early_F := F__face_early, _face_early_b := F__face_early.binds (ps := ["time", "prices", "contract"]) fun _ _ _ _ _ _ us hl => match us, hl with | [_, _, _], _ => rfl, g__face_early := PySem.W.mg_of X G a__face_early,
    a__face_later := f__face_later, d__face_later := _, _face_later_F := F__face_later, _face_later_b := F__face_later.binds (ps := ["_", "prices", "contract"]) fun _ _ _ _ _ _ us hl => match us, hl with | [_, _, _], _ => rfl, g__face_later := PySem.W.mg_of X G a__face_later,
    a__law_begin := f__law_begin, d__law_begin := _, _law_begin_F := F__law_begin, _law_begin_b := F__law_begin.binds (ps := ["script"]) fun _ _ _ _ _ _ us hl => match us, hl with | [_], _ => rfl, g__law_begin := PySem.W.mg_of X G a__law_begin,
    a__law_take := f__law_take, d__law_take := _, _law_take_F := F__law_take, _law_take_b := F__law_take.binds (ps := ["d", "many"]) fun _ _ _ _ _ _ us hl => match us, hl with | [_, _], _ => rfl, g__law_take := PySem.W.mg_of X G a__law_take,
    a__law_signed := f__law_signed, d__law_signed := _, _law_signed_F := F__law_signed, _law_signed_b := F__law_signed.binds (ps := ["d", "most"]) fun _ _ _ _ _ _ us hl => match us, hl with | [_, _], _ => rfl, g__law_signed := PySem.W.mg_of X G a__law_signed,
    a__law_gcd := f__law_gcd, d__law_gcd := _, _law_gcd_F := F__law_gcd, _law_gcd_b := F__law_gcd.binds (ps := ["a", "b"]) fun _ _ _ _ _ _ us hl => match us, hl with | [_, _], _ => rfl, g__law_gcd := PySem.W.mg_of X G a__law_gcd,
    a__law_f := f__law_f, d__law_f := _, _law_f_F := F__law_f, _law_f_b := F__law_f.binds (ps := ["a", "b"]) fun _ _ _ _ _ _ us hl => match us, hl with | [_, _], _ => rfl, g__law_f := PySem.W.mg_of X G a__law_f,
    a__law_plus := f__law_plus, d__law_plus := _, _law_plus_F := F__law_plus, _law_plus_b := F__law_plus.binds (ps := ["a", "b"]) fun _ _ _ _ _ _ us hl => match us, hl with | [_, _], _ => rfl, g__law_plus := PySem.W.mg_of X G a__law_plus,
    a__law_minus := f__law_minus, d__law_minus := _, _law_minus_F := F__law_minus, _law_minus_b := F__law_minus.binds (ps := ["a", "b"]) fun _ _ _ _ _ _ us hl => match us, hl with | [_, _], _ => rfl, g__law_minus := PySem.W.mg_of X G a__law_minus,
    a__law_times := f__law_times, d__law_times := _, _law_times_F := F__law_times, _law_times_b := F__law_times.binds (ps := ["a", "b"]) fun _ _ _ _ _ _ us hl => match us, hl with | [_, _], _ => rfl, g__law_times := PySem.W.mg_of X G a__law_times,
    a__law_less := f__law_less, d__law_less := _, _law_less_F := F__law_less, _law_less_b := F__law_less.binds (ps := ["a", "b"]) fun _ _ _ _ _ _ us hl => match us, hl with | [_, _], _ => rfl, g__law_less := PySem.W.mg_of X G a__law_less,
    a__law_min := f__law_min, d__law_min := _, _law_min_F := F__law_min, _law_min_b := F__law_min.binds (ps := ["a", "b"]) fun _ _ _ _ _ _ us hl => match us, hl with | [_, _], _ => rfl, g__law_min := PySem.W.mg_of X G a__law_min,
    a__law_max := f__law_max, d__law_max := _, _law_max_F := F__law_max, _law_max_b := F__law_max.binds (ps := ["a", "b"]) fun _ _ _ _ _ _ us hl => match us, hl with | [_, _], _ => rfl, g__law_max := PySem.W.mg_of X G a__law_max,
    a__law_part := f__law_part, d__law_part := _, _law_part_F := F__law_part, _law_part_b := F__law_part.binds (ps := ["d", "most"]) fun _ _ _ _ _ _ us hl => match us, hl with | [_, _], _ => rfl, g__law_part := PySem.W.mg_of X G a__law_part,
    a__law_spread := f__law_spread, d__law_spread := _, _law_spread_F := F__law_spread, _law_spread_b := F__law_spread.binds (ps := ["d", "mid"]) fun _ _ _ _ _ _ us hl => match us, hl with | [_, _], _ => rfl, g__law_spread := PySem.W.mg_of X G a__law_spread,
    a__law_node := f__law_node, d__law_node := _, _law_node_F := F__law_node, _law_node_b := F__law_node.binds (ps := ["d", "goods", "time", "last", "wild"]) fun _ _ _ _ _ _ us hl => match us, hl with | [_, _, _, _, _], _ => rfl, g__law_node := PySem.W.mg_of X G a__law_node,
    a__law_market := f__law_market, d__law_market := _, _law_market_F := F__law_market, _law_market_b := F__law_market.binds (ps := ["d", "most"]) fun _ _ _ _ _ _ us hl => match us, hl with | [_, _], _ => rfl, g__law_market := PySem.W.mg_of X G a__law_market,
    a__law_nodes := f__law_nodes, d__law_nodes := _, _law_nodes_F := F__law_nodes, _law_nodes_b := F__law_nodes.binds (ps := ["market"]) fun _ _ _ _ _ _ us hl => match us, hl with | [_], _ => rfl, g__law_nodes := PySem.W.mg_of X G a__law_nodes,
    a__law_find := f__law_find, d__law_find := _, _law_find_F := F__law_find, _law_find_b := F__law_find.binds (ps := ["market", "path"]) fun _ _ _ _ _ _ us hl => match us, hl with | [_, _], _ => rfl, g__law_find := PySem.W.mg_of X G a__law_find,
    a__law_prices := f__law_prices, d__law_prices := _, _law_prices_F := F__law_prices, _law_prices_b := F__law_prices.binds (ps := ["market", "path"]) fun _ _ _ _ _ _ us hl => match us, hl with | [_, _], _ => rfl, g__law_prices := PySem.W.mg_of X G a__law_prices,
    a__law_number := f__law_number, d__law_number := _, _law_number_F := F__law_number, _law_number_b := F__law_number.binds (ps := ["d"]) fun _ _ _ _ _ _ us hl => match us, hl with | [_], _ => rfl, g__law_number := PySem.W.mg_of X G a__law_number,
    a__law_value := f__law_value, d__law_value := _, _law_value_F := F__law_value, _law_value_b := F__law_value.binds (ps := ["d", "goods", "deep"]) fun _ _ _ _ _ _ us hl => match us, hl with | [_, _, _], _ => rfl, g__law_value := PySem.W.mg_of X G a__law_value,
    a__law_condition := f__law_condition, d__law_condition := _, _law_condition_F := F__law_condition, _law_condition_b := F__law_condition.binds (ps := ["d", "goods", "deep"]) fun _ _ _ _ _ _ us hl => match us, hl with | [_, _, _], _ => rfl, g__law_condition := PySem.W.mg_of X G a__law_condition,
    a__law_contract := f__law_contract, d__law_contract := _, _law_contract_F := F__law_contract, _law_contract_b := F__law_contract.binds (ps := ["d", "goods", "deep", "asks"]) fun _ _ _ _ _ _ us hl => match us, hl with | [_, _, _, _], _ => rfl, g__law_contract := PySem.W.mg_of X G a__law_contract,
    a__law_parts := f__law_parts, d__law_parts := _, _law_parts_F := F__law_parts, _law_parts_b := F__law_parts.binds (ps := ["part"]) fun _ _ _ _ _ _ us hl => match us, hl with | [_], _ => rfl, g__law_parts := PySem.W.mg_of X G a__law_parts,
    a__law_depth := f__law_depth, d__law_depth := _, _law_depth_F := F__law_depth, _law_depth_b := F__law_depth.binds (ps := ["part"]) fun _ _ _ _ _ _ us hl => match us, hl with | [_], _ => rfl, g__law_depth := PySem.W.mg_of X G a__law_depth,
    a__law_worth := f__law_worth, d__law_worth := _, _law_worth_F := F__law_worth, _law_worth_b := F__law_worth.binds (ps := ["prices", "value"]) fun _ _ _ _ _ _ us hl => match us, hl with | [_, _], _ => rfl, g__law_worth := PySem.W.mg_of X G a__law_worth,
    a__law_so := f__law_so, d__law_so := _, _law_so_F := F__law_so, _law_so_b := F__law_so.binds (ps := ["prices", "condition"]) fun _ _ _ _ _ _ us hl => match us, hl with | [_, _], _ => rfl, g__law_so := PySem.W.mg_of X G a__law_so,
    a__law_into := f__law_into, d__law_into := _, _law_into_F := F__law_into, _law_into_b := F__law_into.binds (ps := ["found", "before", "behind"]) fun _ _ _ _ _ _ us hl => match us, hl with | [_, _, _], _ => rfl, g__law_into := PySem.W.mg_of X G a__law_into,
    a__law_idle := f__law_idle, d__law_idle := _, _law_idle_F := F__law_idle, _law_idle_b := F__law_idle.binds (ps := ["goods", "contract"]) fun _ _ _ _ _ _ us hl => match us, hl with | [_, _], _ => rfl, g__law_idle := PySem.W.mg_of X G a__law_idle,
    a__law_faced := f__law_faced, d__law_faced := _, _law_faced_F := F__law_faced, _law_faced_b := F__law_faced.binds (ps := ["prices", "time", "contract"]) fun _ _ _ _ _ _ us hl => match us, hl with | [_, _, _], _ => rfl, g__law_faced := PySem.W.mg_of X G a__law_faced,
    a__law_branches := f__law_branches, d__law_branches := _, _law_branches_F := F__law_branches, _law_branches_b := F__law_branches.binds (ps := ["market", "path", "found"]) fun _ _ _ _ _ _ us hl => match us, hl with | [_, _, _], _ => rfl, g__law_branches := PySem.W.mg_of X G a__law_branches,
    a__law_told := f__law_told, d__law_told := _, _law_told_F := F__law_told, _law_told_b := F__law_told.binds (ps := ["market", "path", "contract"]) fun _ _ _ _ _ _ us hl => match us, hl with | [_, _, _], _ => rfl, g__law_told := PySem.W.mg_of X G a__law_told,
    a__law_small := f__law_small, d__law_small := _, _law_small_F := F__law_small, _law_small_b := F__law_small.binds (ps := ["contract"]) fun _ _ _ _ _ _ us hl => match us, hl with | [_], _ => rfl, g__law_small := PySem.W.mg_of X G a__law_small,
    n_abs := PySem.W.mg_none_of X G z_abs,
    n_int := PySem.W.mg_none_of X G z_int,
    n_isinstance := PySem.W.mg_none_of X G z_isinstance,
    n_len := PySem.W.mg_none_of X G z_len,
    n_list := PySem.W.mg_none_of X G z_list,
    n_max := PySem.W.mg_none_of X G z_max,
    n_min := PySem.W.mg_none_of X G z_min,
    n_range := PySem.W.mg_none_of X G z_range,
    n_reversed := PySem.W.mg_none_of X G z_reversed,
    n_sorted := PySem.W.mg_none_of X G z_sorted,
    n_sum := PySem.W.mg_none_of X G z_sum,
    n_tuple := PySem.W.mg_none_of X G z_tuple,
    n_zip := PySem.W.mg_none_of X G z_zip,
    g_gcd := PySem.W.mg_of X G i_gcd,
    t_PART_LIMIT := tk_PART_LIMIT, g_PART_LIMIT := PySem.W.mg_of X G j_PART_LIMIT,
    t_DEPTH_LIMIT := tk_DEPTH_LIMIT, g_DEPTH_LIMIT := PySem.W.mg_of X G j_DEPTH_LIMIT,
    t_GOODS_LIMIT := tk_GOODS_LIMIT, g_GOODS_LIMIT := PySem.W.mg_of X G j_GOODS_LIMIT,
    t_MOMENT_LIMIT := tk_MOMENT_LIMIT, g_MOMENT_LIMIT := PySem.W.mg_of X G j_MOMENT_LIMIT,
    t_TIME_LIMIT := tk_TIME_LIMIT, g_TIME_LIMIT := PySem.W.mg_of X G j_TIME_LIMIT,
    a_VALUES := A_VALUES, g_VALUES := PySem.W.mg_of X G ja_VALUES, D_VALUES := He.dicW_ok jd_VALUES,
    t_VALUES_number := t_VALUES_number, n_VALUES_number := jn_VALUES_number, q_VALUES_number := jq_VALUES_number,
    t_VALUES_buy := t_VALUES_buy, n_VALUES_buy := jn_VALUES_buy, q_VALUES_buy := jq_VALUES_buy,
    t_VALUES_sell := t_VALUES_sell, n_VALUES_sell := jn_VALUES_sell, q_VALUES_sell := jq_VALUES_sell,
    t_VALUES_plus := t_VALUES_plus, n_VALUES_plus := jn_VALUES_plus, q_VALUES_plus := jq_VALUES_plus,
    t_VALUES_minus := t_VALUES_minus, n_VALUES_minus := jn_VALUES_minus, q_VALUES_minus := jq_VALUES_minus,
    t_VALUES_times := t_VALUES_times, n_VALUES_times := jn_VALUES_times, q_VALUES_times := jq_VALUES_times,
    t_VALUES_least := t_VALUES_least, n_VALUES_least := jn_VALUES_least, q_VALUES_least := jq_VALUES_least,
    t_VALUES_greatest := t_VALUES_greatest, n_VALUES_greatest := jn_VALUES_greatest, q_VALUES_greatest := jq_VALUES_greatest,
    n_VALUES_less := jn_VALUES_less,
    n_VALUES_same := jn_VALUES_same,
    n_VALUES_not := jn_VALUES_not,
    n_VALUES_and := jn_VALUES_and,
    n_VALUES_nothing := jn_VALUES_nothing,
    n_VALUES_one := jn_VALUES_one,
    n_VALUES_scale := jn_VALUES_scale,
    n_VALUES_both := jn_VALUES_both,
    n_VALUES_give := jn_VALUES_give,
    n_VALUES_or := jn_VALUES_or,
    n_VALUES_at := jn_VALUES_at,
    n_VALUES_when := jn_VALUES_when,
    n_VALUES_until := jn_VALUES_until,
    n_VALUES_early := jn_VALUES_early,
    n_VALUES_later := jn_VALUES_later,
    a_CONDITIONS := A_CONDITIONS, g_CONDITIONS := PySem.W.mg_of X G ja_CONDITIONS, D_CONDITIONS := He.dicW_ok jd_CONDITIONS,
    n_CONDITIONS_number := jn_CONDITIONS_number,
    n_CONDITIONS_buy := jn_CONDITIONS_buy,
    n_CONDITIONS_sell := jn_CONDITIONS_sell,
    n_CONDITIONS_plus := jn_CONDITIONS_plus,
    n_CONDITIONS_minus := jn_CONDITIONS_minus,
    n_CONDITIONS_times := jn_CONDITIONS_times,
    n_CONDITIONS_least := jn_CONDITIONS_least,
    n_CONDITIONS_greatest := jn_CONDITIONS_greatest,
    t_CONDITIONS_less := t_CONDITIONS_less, n_CONDITIONS_less := jn_CONDITIONS_less, q_CONDITIONS_less := jq_CONDITIONS_less,
    t_CONDITIONS_same := t_CONDITIONS_same, n_CONDITIONS_same := jn_CONDITIONS_same, q_CONDITIONS_same := jq_CONDITIONS_same,
    t_CONDITIONS_not := t_CONDITIONS_not, n_CONDITIONS_not := jn_CONDITIONS_not, q_CONDITIONS_not := jq_CONDITIONS_not,
    t_CONDITIONS_and := t_CONDITIONS_and, n_CONDITIONS_and := jn_CONDITIONS_and, q_CONDITIONS_and := jq_CONDITIONS_and,
    n_CONDITIONS_nothing := jn_CONDITIONS_nothing,
    n_CONDITIONS_one := jn_CONDITIONS_one,
    n_CONDITIONS_scale := jn_CONDITIONS_scale,
    n_CONDITIONS_both := jn_CONDITIONS_both,
    n_CONDITIONS_give := jn_CONDITIONS_give,
    n_CONDITIONS_or := jn_CONDITIONS_or,
    n_CONDITIONS_at := jn_CONDITIONS_at,
    n_CONDITIONS_when := jn_CONDITIONS_when,
    n_CONDITIONS_until := jn_CONDITIONS_until,
    n_CONDITIONS_early := jn_CONDITIONS_early,
    n_CONDITIONS_later := jn_CONDITIONS_later,
    a_CONTRACTS := A_CONTRACTS, g_CONTRACTS := PySem.W.mg_of X G ja_CONTRACTS, D_CONTRACTS := He.dicW_ok jd_CONTRACTS,
    n_CONTRACTS_number := jn_CONTRACTS_number,
    n_CONTRACTS_buy := jn_CONTRACTS_buy,
    n_CONTRACTS_sell := jn_CONTRACTS_sell,
    n_CONTRACTS_plus := jn_CONTRACTS_plus,
    n_CONTRACTS_minus := jn_CONTRACTS_minus,
    n_CONTRACTS_times := jn_CONTRACTS_times,
    n_CONTRACTS_least := jn_CONTRACTS_least,
    n_CONTRACTS_greatest := jn_CONTRACTS_greatest,
    n_CONTRACTS_less := jn_CONTRACTS_less,
    n_CONTRACTS_same := jn_CONTRACTS_same,
    n_CONTRACTS_not := jn_CONTRACTS_not,
    n_CONTRACTS_and := jn_CONTRACTS_and,
    t_CONTRACTS_nothing := t_CONTRACTS_nothing, n_CONTRACTS_nothing := jn_CONTRACTS_nothing, q_CONTRACTS_nothing := jq_CONTRACTS_nothing,
    t_CONTRACTS_one := t_CONTRACTS_one, n_CONTRACTS_one := jn_CONTRACTS_one, q_CONTRACTS_one := jq_CONTRACTS_one,
    t_CONTRACTS_scale := t_CONTRACTS_scale, n_CONTRACTS_scale := jn_CONTRACTS_scale, q_CONTRACTS_scale := jq_CONTRACTS_scale,
    t_CONTRACTS_both := t_CONTRACTS_both, n_CONTRACTS_both := jn_CONTRACTS_both, q_CONTRACTS_both := jq_CONTRACTS_both,
    t_CONTRACTS_give := t_CONTRACTS_give, n_CONTRACTS_give := jn_CONTRACTS_give, q_CONTRACTS_give := jq_CONTRACTS_give,
    t_CONTRACTS_or := t_CONTRACTS_or, n_CONTRACTS_or := jn_CONTRACTS_or, q_CONTRACTS_or := jq_CONTRACTS_or,
    t_CONTRACTS_at := t_CONTRACTS_at, n_CONTRACTS_at := jn_CONTRACTS_at, q_CONTRACTS_at := jq_CONTRACTS_at,
    t_CONTRACTS_when := t_CONTRACTS_when, n_CONTRACTS_when := jn_CONTRACTS_when, q_CONTRACTS_when := jq_CONTRACTS_when,
    t_CONTRACTS_until := t_CONTRACTS_until, n_CONTRACTS_until := jn_CONTRACTS_until, q_CONTRACTS_until := jq_CONTRACTS_until,
    t_CONTRACTS_early := t_CONTRACTS_early, n_CONTRACTS_early := jn_CONTRACTS_early, q_CONTRACTS_early := jq_CONTRACTS_early,
    t_CONTRACTS_later := t_CONTRACTS_later, n_CONTRACTS_later := jn_CONTRACTS_later, q_CONTRACTS_later := jq_CONTRACTS_later,
    a_STEPS := A_STEPS, g_STEPS := PySem.W.mg_of X G ja_STEPS, D_STEPS := He.dicW_ok jd_STEPS,
    n_STEPS_nothing := jn_STEPS_nothing,
    n_STEPS_one := jn_STEPS_one,
    n_STEPS_scale := jn_STEPS_scale,
    n_STEPS_both := jn_STEPS_both,
    n_STEPS_give := jn_STEPS_give,
    n_STEPS_or := jn_STEPS_or,
    n_STEPS_at := jn_STEPS_at,
    n_STEPS_when := jn_STEPS_when,
    n_STEPS_until := jn_STEPS_until,
    n_STEPS_early := jn_STEPS_early,
    n_STEPS_later := jn_STEPS_later,
    c_MarketplaceError := C_MarketplaceError, g_MarketplaceError := PySem.W.mg_of X G ca_MarketplaceError, x_MarketplaceError := cx_MarketplaceError, k_MarketplaceError := ck_MarketplaceError, b_MarketplaceError := cb_MarketplaceError, t_MarketplaceError := ct0_MarketplaceError, h_MarketplaceError := ch_MarketplaceError, e_MarketplaceError := ⟨e1_MarketplaceError, e2_MarketplaceError, cb_MarketplaceError, ch_MarketplaceError, e3_MarketplaceError, e5, e6, e4_MarketplaceError⟩,
    c_ZeroDenominator := C_ZeroDenominator, g_ZeroDenominator := PySem.W.mg_of X G ca_ZeroDenominator, x_ZeroDenominator := cx_ZeroDenominator, k_ZeroDenominator := ck_ZeroDenominator, b_ZeroDenominator := cb_ZeroDenominator, t_ZeroDenominator := ct0_ZeroDenominator, h_ZeroDenominator := ch_ZeroDenominator, e_ZeroDenominator := ⟨e1_ZeroDenominator, e2_ZeroDenominator, cb_ZeroDenominator, ch_ZeroDenominator, e3_ZeroDenominator, e5, e6, e4_ZeroDenominator⟩,
    c_MarketError := C_MarketError, g_MarketError := PySem.W.mg_of X G ca_MarketError, x_MarketError := cx_MarketError, k_MarketError := ck_MarketError, b_MarketError := cb_MarketError, t_MarketError := ct0_MarketError, h_MarketError := ch_MarketError, e_MarketError := ⟨e1_MarketError, e2_MarketError, cb_MarketError, ch_MarketError, e3_MarketError, e5, e6, e4_MarketError⟩,
    c_TooLarge := C_TooLarge, g_TooLarge := PySem.W.mg_of X G ca_TooLarge, x_TooLarge := cx_TooLarge, k_TooLarge := ck_TooLarge, b_TooLarge := cb_TooLarge, t_TooLarge := ct0_TooLarge, h_TooLarge := ch_TooLarge, e_TooLarge := ⟨e1_TooLarge, e2_TooLarge, cb_TooLarge, ch_TooLarge, e3_TooLarge, e5, e6, e4_TooLarge⟩,
    c_MomentError := C_MomentError, g_MomentError := PySem.W.mg_of X G ca_MomentError, x_MomentError := cx_MomentError, k_MomentError := ck_MomentError, b_MomentError := cb_MomentError, t_MomentError := ct0_MomentError, h_MomentError := ch_MomentError, e_MomentError := ⟨e1_MomentError, e2_MomentError, cb_MomentError, ch_MomentError, e3_MomentError, e5, e6, e4_MomentError⟩,
    c_ContractError := C_ContractError, g_ContractError := PySem.W.mg_of X G ca_ContractError, x_ContractError := cx_ContractError, k_ContractError := ck_ContractError, b_ContractError := cb_ContractError, t_ContractError := ct0_ContractError, h_ContractError := ch_ContractError, e_ContractError := ⟨e1_ContractError, e2_ContractError, cb_ContractError, ch_ContractError, e3_ContractError, e5, e6, e4_ContractError⟩,
    s_MarketError_MarketplaceError := s_MarketError_MarketplaceError,
    s_MarketError_MomentError := s_MarketError_MomentError,
    s_MarketError_ContractError := s_MarketError_ContractError,
    s_TooLarge_MarketplaceError := s_TooLarge_MarketplaceError,
    s_TooLarge_MomentError := s_TooLarge_MomentError,
    s_TooLarge_ContractError := s_TooLarge_ContractError,
    s_MomentError_MarketplaceError := s_MomentError_MarketplaceError,
    s_MomentError_MomentError := s_MomentError_MomentError,
    s_MomentError_ContractError := s_MomentError_ContractError,
    s_ContractError_MarketplaceError := s_ContractError_MarketplaceError,
    s_ContractError_MomentError := s_ContractError_MomentError,
    s_ContractError_ContractError := s_ContractError_ContractError,
    s_MarketError_MarketError := s_MarketError_MarketError,
    s_TooLarge_TooLarge := s_TooLarge_TooLarge }
  exact ⟨_, fun s v => .of_eq rfl, fun base _ _ => ok_law T F_law⟩
end Nl

open PySem PySem.W PyProof.Rows
set_option maxHeartbeats 0 in
theorem PySem.Challenge.cw_nolunch_k14_what_contracts_ask_and_pay_holds : PySem.Challenge.rw_nolunch_k14_what_contracts_ask_and_pay.Holds := by
  w_on; o_law; k_head; (case hw => w_witness2)
  k_fill
  refine L2.walk_of (l := PySem.Challenge.rw_nolunch_k14_what_contracts_ask_and_pay) (n := 63) (k := 47) (x := "script") (CX := fun _ => L2.CX0) (sp := fun w => Nl.sp_law _) rfl (by decide) rfl ⟨rfl, by decide, by decide⟩ (fun w h Y => PySem.W.kIn_of Y) ?F (fun _ _ a ns hl _ hS => ⟨a, ns, rfl, hS, hl, fun _ => rfl⟩) (fun _ _ _ _ _ h => h)
  case F =>
    intro w mg fa h KX G hmg
    refine' Nl.all_mk KX G hmg ?a_kinds_behind ?l_kinds_behind ?c_kinds_behind ?k_kinds_behind ?a_parts_behind ?l_parts_behind ?c_parts_behind ?k_parts_behind ?a_walk_parts ?l_walk_parts ?c_walk_parts ?k_walk_parts ?a_check_contract ?l_check_contract ?c_check_contract ?k_check_contract ?a_check_numbers ?l_check_numbers ?c_check_numbers ?k_check_numbers ?a_fraction ?l_fraction ?c_fraction ?k_fraction ?a_plus ?l_plus ?c_plus ?k_plus ?a_minus ?l_minus ?c_minus ?k_minus ?a_times ?l_times ?c_times ?k_times ?a_compare ?l_compare ?c_compare ?k_compare ?a_added ?l_added ?c_added ?k_added ?a_multiplied ?l_multiplied ?c_multiplied ?k_multiplied ?a_check_market ?l_check_market ?c_check_market ?k_check_market ?a__check_prices ?l__check_prices ?c__check_prices ?k__check_prices ?a_walk ?l_walk ?c_walk ?k_walk ?a_node_at ?l_node_at ?c_node_at ?k_node_at ?a__worked_out ?l__worked_out ?c__worked_out ?k__worked_out ?a__price ?l__price ?c__price ?k__price ?a__joined ?l__joined ?c__joined ?k__joined ?a_faced ?l_faced ?c_faced ?k_faced ?a_face ?l_face ?c_face ?k_face ?a__idle ?l__idle ?c__idle ?k__idle ?a__face_nothing ?l__face_nothing ?c__face_nothing ?k__face_nothing ?a__face_one ?l__face_one ?c__face_one ?k__face_one ?a__face_scale ?l__face_scale ?c__face_scale ?k__face_scale ?a__face_both ?l__face_both ?c__face_both ?k__face_both ?a__face_give ?l__face_give ?c__face_give ?k__face_give ?a__face_or ?l__face_or ?c__face_or ?k__face_or ?a__face_at ?l__face_at ?c__face_at ?k__face_at ?a__face_when ?l__face_when ?c__face_when ?k__face_when ?a__face_until ?l__face_until ?c__face_until ?k__face_until ?a__face_early ?l__face_early ?c__face_early ?k__face_early ?a__face_later ?l__face_later ?c__face_later ?k__face_later ?a__law_begin ?l__law_begin ?c__law_begin ?k__law_begin ?a__law_take ?l__law_take ?c__law_take ?k__law_take ?a__law_signed ?l__law_signed ?c__law_signed ?k__law_signed ?a__law_gcd ?l__law_gcd ?c__law_gcd ?k__law_gcd ?a__law_f ?l__law_f ?c__law_f ?k__law_f ?a__law_plus ?l__law_plus ?c__law_plus ?k__law_plus ?a__law_minus ?l__law_minus ?c__law_minus ?k__law_minus ?a__law_times ?l__law_times ?c__law_times ?k__law_times ?a__law_less ?l__law_less ?c__law_less ?k__law_less ?a__law_min ?l__law_min ?c__law_min ?k__law_min ?a__law_max ?l__law_max ?c__law_max ?k__law_max ?a__law_part ?l__law_part ?c__law_part ?k__law_part ?a__law_spread ?l__law_spread ?c__law_spread ?k__law_spread ?a__law_node ?l__law_node ?c__law_node ?k__law_node ?a__law_market ?l__law_market ?c__law_market ?k__law_market ?a__law_nodes ?l__law_nodes ?c__law_nodes ?k__law_nodes ?a__law_find ?l__law_find ?c__law_find ?k__law_find ?a__law_prices ?l__law_prices ?c__law_prices ?k__law_prices ?a__law_number ?l__law_number ?c__law_number ?k__law_number ?a__law_value ?l__law_value ?c__law_value ?k__law_value ?a__law_condition ?l__law_condition ?c__law_condition ?k__law_condition ?a__law_contract ?l__law_contract ?c__law_contract ?k__law_contract ?a__law_parts ?l__law_parts ?c__law_parts ?k__law_parts ?a__law_depth ?l__law_depth ?c__law_depth ?k__law_depth ?a__law_worth ?l__law_worth ?c__law_worth ?k__law_worth ?a__law_so ?l__law_so ?c__law_so ?k__law_so ?a__law_into ?l__law_into ?c__law_into ?k__law_into ?a__law_idle ?l__law_idle ?c__law_idle ?k__law_idle ?a__law_faced ?l__law_faced ?c__law_faced ?k__law_faced ?a__law_branches ?l__law_branches ?c__law_branches ?k__law_branches ?a__law_told ?l__law_told ?c__law_told ?k__law_told ?a__law_small ?l__law_small ?c__law_small ?k__law_small ?a_law ?l_law ?c_law ?k_law ?z_abs ?z_int ?z_isinstance ?z_len ?z_list ?z_max ?z_min ?z_range ?z_reversed ?z_sorted ?z_sum ?z_tuple ?z_zip ?i_gcd ?j_PART_LIMIT ?j_DEPTH_LIMIT ?j_GOODS_LIMIT ?j_MOMENT_LIMIT ?j_TIME_LIMIT ?ja_VALUES ?jd_VALUES ?jn_VALUES_number ?jq_VALUES_number ?jn_VALUES_buy ?jq_VALUES_buy ?jn_VALUES_sell ?jq_VALUES_sell ?jn_VALUES_plus ?jq_VALUES_plus ?jn_VALUES_minus ?jq_VALUES_minus ?jn_VALUES_times ?jq_VALUES_times ?jn_VALUES_least ?jq_VALUES_least ?jn_VALUES_greatest ?jq_VALUES_greatest ?jn_VALUES_less ?jn_VALUES_same ?jn_VALUES_not ?jn_VALUES_and ?jn_VALUES_nothing ?jn_VALUES_one ?jn_VALUES_scale ?jn_VALUES_both ?jn_VALUES_give ?jn_VALUES_or ?jn_VALUES_at ?jn_VALUES_when ?jn_VALUES_until ?jn_VALUES_early ?jn_VALUES_later ?ja_CONDITIONS ?jd_CONDITIONS ?jn_CONDITIONS_number ?jn_CONDITIONS_buy ?jn_CONDITIONS_sell ?jn_CONDITIONS_plus ?jn_CONDITIONS_minus ?jn_CONDITIONS_times ?jn_CONDITIONS_least ?jn_CONDITIONS_greatest ?jn_CONDITIONS_less ?jq_CONDITIONS_less ?jn_CONDITIONS_same ?jq_CONDITIONS_same ?jn_CONDITIONS_not ?jq_CONDITIONS_not ?jn_CONDITIONS_and ?jq_CONDITIONS_and ?jn_CONDITIONS_nothing ?jn_CONDITIONS_one ?jn_CONDITIONS_scale ?jn_CONDITIONS_both ?jn_CONDITIONS_give ?jn_CONDITIONS_or ?jn_CONDITIONS_at ?jn_CONDITIONS_when ?jn_CONDITIONS_until ?jn_CONDITIONS_early ?jn_CONDITIONS_later ?ja_CONTRACTS ?jd_CONTRACTS ?jn_CONTRACTS_number ?jn_CONTRACTS_buy ?jn_CONTRACTS_sell ?jn_CONTRACTS_plus ?jn_CONTRACTS_minus ?jn_CONTRACTS_times ?jn_CONTRACTS_least ?jn_CONTRACTS_greatest ?jn_CONTRACTS_less ?jn_CONTRACTS_same ?jn_CONTRACTS_not ?jn_CONTRACTS_and ?jn_CONTRACTS_nothing ?jq_CONTRACTS_nothing ?jn_CONTRACTS_one ?jq_CONTRACTS_one ?jn_CONTRACTS_scale ?jq_CONTRACTS_scale ?jn_CONTRACTS_both ?jq_CONTRACTS_both ?jn_CONTRACTS_give ?jq_CONTRACTS_give ?jn_CONTRACTS_or ?jq_CONTRACTS_or ?jn_CONTRACTS_at ?jq_CONTRACTS_at ?jn_CONTRACTS_when ?jq_CONTRACTS_when ?jn_CONTRACTS_until ?jq_CONTRACTS_until ?jn_CONTRACTS_early ?jq_CONTRACTS_early ?jn_CONTRACTS_later ?jq_CONTRACTS_later ?ja_STEPS ?jd_STEPS ?jn_STEPS_nothing ?jn_STEPS_one ?jn_STEPS_scale ?jn_STEPS_both ?jn_STEPS_give ?jn_STEPS_or ?jn_STEPS_at ?jn_STEPS_when ?jn_STEPS_until ?jn_STEPS_early ?jn_STEPS_later ?ca_MarketplaceError ?cx_MarketplaceError ?ck_MarketplaceError ?cb_MarketplaceError ?ct0_MarketplaceError ?ch_MarketplaceError ?e1_MarketplaceError ?e2_MarketplaceError ?e3_MarketplaceError ?e4_MarketplaceError ?ca_ZeroDenominator ?cx_ZeroDenominator ?ck_ZeroDenominator ?cb_ZeroDenominator ?ct0_ZeroDenominator ?ch_ZeroDenominator ?e1_ZeroDenominator ?e2_ZeroDenominator ?e3_ZeroDenominator ?e4_ZeroDenominator ?ca_MarketError ?cx_MarketError ?ck_MarketError ?cb_MarketError ?ct0_MarketError ?ch_MarketError ?e1_MarketError ?e2_MarketError ?e3_MarketError ?e4_MarketError ?ca_TooLarge ?cx_TooLarge ?ck_TooLarge ?cb_TooLarge ?ct0_TooLarge ?ch_TooLarge ?e1_TooLarge ?e2_TooLarge ?e3_TooLarge ?e4_TooLarge ?ca_MomentError ?cx_MomentError ?ck_MomentError ?cb_MomentError ?ct0_MomentError ?ch_MomentError ?e1_MomentError ?e2_MomentError ?e3_MomentError ?e4_MomentError ?ca_ContractError ?cx_ContractError ?ck_ContractError ?cb_ContractError ?ct0_ContractError ?ch_ContractError ?e1_ContractError ?e2_ContractError ?e3_ContractError ?e4_ContractError ?e5 ?e6 ?s_MarketError_MarketplaceError ?s_MarketError_MomentError ?s_MarketError_ContractError ?s_TooLarge_MarketplaceError ?s_TooLarge_MomentError ?s_TooLarge_ContractError ?s_MomentError_MarketplaceError ?s_MomentError_MomentError ?s_MomentError_ContractError ?s_ContractError_MarketplaceError ?s_ContractError_MomentError ?s_ContractError_ContractError ?s_MarketError_MarketError ?s_TooLarge_TooLarge
    (case a_kinds_behind => k_is); (case l_kinds_behind => k_is); (case c_kinds_behind => k_is); (case k_kinds_behind => k_is); (case a_parts_behind => k_is); (case l_parts_behind => k_is)
    (case c_parts_behind => k_is); (case k_parts_behind => k_is); (case a_walk_parts => k_is); (case l_walk_parts => k_is); (case c_walk_parts => k_is); (case k_walk_parts => k_is)
    (case a_check_contract => k_is); (case l_check_contract => k_is); (case c_check_contract => k_is); (case k_check_contract => k_is); (case a_check_numbers => k_is); (case l_check_numbers => k_is)
    (case c_check_numbers => k_is); (case k_check_numbers => k_is); (case a_fraction => k_is); (case l_fraction => k_is); (case c_fraction => k_is); (case k_fraction => k_is)
    (case a_plus => k_is); (case l_plus => k_is); (case c_plus => k_is); (case k_plus => k_is); (case a_minus => k_is); (case l_minus => k_is)
    (case c_minus => k_is); (case k_minus => k_is); (case a_times => k_is); (case l_times => k_is); (case c_times => k_is); (case k_times => k_is)
    (case a_compare => k_is); (case l_compare => k_is); (case c_compare => k_is); (case k_compare => k_is); (case a_added => k_is); (case l_added => k_is)
    (case c_added => k_is); (case k_added => k_is); (case a_multiplied => k_is); (case l_multiplied => k_is); (case c_multiplied => k_is); (case k_multiplied => k_is)
    (case a_check_market => k_is); (case l_check_market => k_is); (case c_check_market => k_is); (case k_check_market => k_is); (case a__check_prices => k_is); (case l__check_prices => k_is)
    (case c__check_prices => k_is); (case k__check_prices => k_is); (case a_walk => k_is); (case l_walk => k_is); (case c_walk => k_is); (case k_walk => k_is)
    (case a_node_at => k_is); (case l_node_at => k_is); (case c_node_at => k_is); (case k_node_at => k_is); (case a__worked_out => k_is); (case l__worked_out => k_is)
    (case c__worked_out => k_is); (case k__worked_out => k_is); (case a__price => k_is); (case l__price => k_is); (case c__price => k_is); (case k__price => k_is)
    (case a__joined => k_is); (case l__joined => k_is); (case c__joined => k_is); (case k__joined => k_is); (case a_faced => k_is); (case l_faced => k_is)
    (case c_faced => k_is); (case k_faced => k_is); (case a_face => k_is); (case l_face => k_is); (case c_face => k_is); (case k_face => k_is)
    (case a__idle => k_is); (case l__idle => k_is); (case c__idle => k_is); (case k__idle => k_is); (case a__face_nothing => k_is); (case l__face_nothing => k_is)
    (case c__face_nothing => k_is); (case k__face_nothing => k_is); (case a__face_one => k_is); (case l__face_one => k_is); (case c__face_one => k_is); (case k__face_one => k_is)
    (case a__face_scale => k_is); (case l__face_scale => k_is); (case c__face_scale => k_is); (case k__face_scale => k_is); (case a__face_both => k_is); (case l__face_both => k_is)
    (case c__face_both => k_is); (case k__face_both => k_is); (case a__face_give => k_is); (case l__face_give => k_is); (case c__face_give => k_is); (case k__face_give => k_is)
    (case a__face_or => k_is); (case l__face_or => k_is); (case c__face_or => k_is); (case k__face_or => k_is); (case a__face_at => k_is); (case l__face_at => k_is)
    (case c__face_at => k_is); (case k__face_at => k_is); (case a__face_when => k_is); (case l__face_when => k_is); (case c__face_when => k_is); (case k__face_when => k_is)
    (case a__face_until => k_is); (case l__face_until => k_is); (case c__face_until => k_is); (case k__face_until => k_is); (case a__face_early => k_is); (case l__face_early => k_is)
    (case c__face_early => k_is); (case k__face_early => k_is); (case a__face_later => k_is); (case l__face_later => k_is); (case c__face_later => k_is); (case k__face_later => k_is)
    (case a__law_begin => k_is); (case l__law_begin => k_is); (case c__law_begin => k_is); (case k__law_begin => k_is); (case a__law_take => k_is); (case l__law_take => k_is)
    (case c__law_take => k_is); (case k__law_take => k_is); (case a__law_signed => k_is); (case l__law_signed => k_is); (case c__law_signed => k_is); (case k__law_signed => k_is)
    (case a__law_gcd => k_is); (case l__law_gcd => k_is); (case c__law_gcd => k_is); (case k__law_gcd => k_is); (case a__law_f => k_is); (case l__law_f => k_is)
    (case c__law_f => k_is); (case k__law_f => k_is); (case a__law_plus => k_is); (case l__law_plus => k_is); (case c__law_plus => k_is); (case k__law_plus => k_is)
    (case a__law_minus => k_is); (case l__law_minus => k_is); (case c__law_minus => k_is); (case k__law_minus => k_is); (case a__law_times => k_is); (case l__law_times => k_is)
    (case c__law_times => k_is); (case k__law_times => k_is); (case a__law_less => k_is); (case l__law_less => k_is); (case c__law_less => k_is); (case k__law_less => k_is)
    (case a__law_min => k_is); (case l__law_min => k_is); (case c__law_min => k_is); (case k__law_min => k_is); (case a__law_max => k_is); (case l__law_max => k_is)
    (case c__law_max => k_is); (case k__law_max => k_is); (case a__law_part => k_is); (case l__law_part => k_is); (case c__law_part => k_is); (case k__law_part => k_is)
    (case a__law_spread => k_is); (case l__law_spread => k_is); (case c__law_spread => k_is); (case k__law_spread => k_is); (case a__law_node => k_is); (case l__law_node => k_is)
    (case c__law_node => k_is); (case k__law_node => k_is); (case a__law_market => k_is); (case l__law_market => k_is); (case c__law_market => k_is); (case k__law_market => k_is)
    (case a__law_nodes => k_is); (case l__law_nodes => k_is); (case c__law_nodes => k_is); (case k__law_nodes => k_is); (case a__law_find => k_is); (case l__law_find => k_is)
    (case c__law_find => k_is); (case k__law_find => k_is); (case a__law_prices => k_is); (case l__law_prices => k_is); (case c__law_prices => k_is); (case k__law_prices => k_is)
    (case a__law_number => k_is); (case l__law_number => k_is); (case c__law_number => k_is); (case k__law_number => k_is); (case a__law_value => k_is); (case l__law_value => k_is)
    (case c__law_value => k_is); (case k__law_value => k_is); (case a__law_condition => k_is); (case l__law_condition => k_is); (case c__law_condition => k_is); (case k__law_condition => k_is)
    (case a__law_contract => k_is); (case l__law_contract => k_is); (case c__law_contract => k_is); (case k__law_contract => k_is); (case a__law_parts => k_is); (case l__law_parts => k_is)
    (case c__law_parts => k_is); (case k__law_parts => k_is); (case a__law_depth => k_is); (case l__law_depth => k_is); (case c__law_depth => k_is); (case k__law_depth => k_is)
    (case a__law_worth => k_is); (case l__law_worth => k_is); (case c__law_worth => k_is); (case k__law_worth => k_is); (case a__law_so => k_is); (case l__law_so => k_is)
    (case c__law_so => k_is); (case k__law_so => k_is); (case a__law_into => k_is); (case l__law_into => k_is); (case c__law_into => k_is); (case k__law_into => k_is)
    (case a__law_idle => k_is); (case l__law_idle => k_is); (case c__law_idle => k_is); (case k__law_idle => k_is); (case a__law_faced => k_is); (case l__law_faced => k_is)
    (case c__law_faced => k_is); (case k__law_faced => k_is); (case a__law_branches => k_is); (case l__law_branches => k_is); (case c__law_branches => k_is); (case k__law_branches => k_is)
    (case a__law_told => k_is); (case l__law_told => k_is); (case c__law_told => k_is); (case k__law_told => k_is); (case a__law_small => k_is); (case l__law_small => k_is)
    (case c__law_small => k_is); (case k__law_small => k_is); (case a_law => k_is); (case l_law => k_is); (case c_law => k_is); (case k_law => k_is)
    (case z_abs => k_is); (case z_int => k_is); (case z_isinstance => k_is); (case z_len => k_is); (case z_list => k_is); (case z_max => k_is)
    (case z_min => k_is); (case z_range => k_is); (case z_reversed => k_is); (case z_sorted => k_is); (case z_sum => k_is); (case z_tuple => k_is)
    (case z_zip => k_is); (case i_gcd => k_is); (case j_PART_LIMIT => k_is); (case j_DEPTH_LIMIT => k_is); (case j_GOODS_LIMIT => k_is); (case j_MOMENT_LIMIT => k_is)
    (case j_TIME_LIMIT => k_is); (case ja_VALUES => k_is); (case jd_VALUES => exact rfl); (case jn_VALUES_number => k_is); (case jq_VALUES_number => kernel_rfl); (case jn_VALUES_buy => k_is)
    (case jq_VALUES_buy => kernel_rfl); (case jn_VALUES_sell => k_is); (case jq_VALUES_sell => kernel_rfl); (case jn_VALUES_plus => k_is); (case jq_VALUES_plus => kernel_rfl); (case jn_VALUES_minus => k_is)
    (case jq_VALUES_minus => kernel_rfl); (case jn_VALUES_times => k_is); (case jq_VALUES_times => kernel_rfl); (case jn_VALUES_least => k_is); (case jq_VALUES_least => kernel_rfl); (case jn_VALUES_greatest => k_is)
    (case jq_VALUES_greatest => kernel_rfl); (case jn_VALUES_less => k_is); (case jn_VALUES_same => k_is); (case jn_VALUES_not => k_is); (case jn_VALUES_and => k_is); (case jn_VALUES_nothing => k_is)
    (case jn_VALUES_one => k_is); (case jn_VALUES_scale => k_is); (case jn_VALUES_both => k_is); (case jn_VALUES_give => k_is); (case jn_VALUES_or => k_is); (case jn_VALUES_at => k_is)
    (case jn_VALUES_when => k_is); (case jn_VALUES_until => k_is); (case jn_VALUES_early => k_is); (case jn_VALUES_later => k_is); (case ja_CONDITIONS => k_is); (case jd_CONDITIONS => exact rfl)
    (case jn_CONDITIONS_number => k_is); (case jn_CONDITIONS_buy => k_is); (case jn_CONDITIONS_sell => k_is); (case jn_CONDITIONS_plus => k_is); (case jn_CONDITIONS_minus => k_is); (case jn_CONDITIONS_times => k_is)
    (case jn_CONDITIONS_least => k_is); (case jn_CONDITIONS_greatest => k_is); (case jn_CONDITIONS_less => k_is); (case jq_CONDITIONS_less => kernel_rfl); (case jn_CONDITIONS_same => k_is); (case jq_CONDITIONS_same => kernel_rfl)
    (case jn_CONDITIONS_not => k_is); (case jq_CONDITIONS_not => kernel_rfl); (case jn_CONDITIONS_and => k_is); (case jq_CONDITIONS_and => kernel_rfl); (case jn_CONDITIONS_nothing => k_is); (case jn_CONDITIONS_one => k_is)
    (case jn_CONDITIONS_scale => k_is); (case jn_CONDITIONS_both => k_is); (case jn_CONDITIONS_give => k_is); (case jn_CONDITIONS_or => k_is); (case jn_CONDITIONS_at => k_is); (case jn_CONDITIONS_when => k_is)
    (case jn_CONDITIONS_until => k_is); (case jn_CONDITIONS_early => k_is); (case jn_CONDITIONS_later => k_is); (case ja_CONTRACTS => k_is); (case jd_CONTRACTS => exact rfl); (case jn_CONTRACTS_number => k_is)
    (case jn_CONTRACTS_buy => k_is); (case jn_CONTRACTS_sell => k_is); (case jn_CONTRACTS_plus => k_is); (case jn_CONTRACTS_minus => k_is); (case jn_CONTRACTS_times => k_is); (case jn_CONTRACTS_least => k_is)
    (case jn_CONTRACTS_greatest => k_is); (case jn_CONTRACTS_less => k_is); (case jn_CONTRACTS_same => k_is); (case jn_CONTRACTS_not => k_is); (case jn_CONTRACTS_and => k_is); (case jn_CONTRACTS_nothing => k_is)
    (case jq_CONTRACTS_nothing => kernel_rfl); (case jn_CONTRACTS_one => k_is); (case jq_CONTRACTS_one => kernel_rfl); (case jn_CONTRACTS_scale => k_is); (case jq_CONTRACTS_scale => kernel_rfl); (case jn_CONTRACTS_both => k_is)
    (case jq_CONTRACTS_both => kernel_rfl); (case jn_CONTRACTS_give => k_is); (case jq_CONTRACTS_give => kernel_rfl); (case jn_CONTRACTS_or => k_is); (case jq_CONTRACTS_or => kernel_rfl); (case jn_CONTRACTS_at => k_is)
    (case jq_CONTRACTS_at => kernel_rfl); (case jn_CONTRACTS_when => k_is); (case jq_CONTRACTS_when => kernel_rfl); (case jn_CONTRACTS_until => k_is); (case jq_CONTRACTS_until => kernel_rfl); (case jn_CONTRACTS_early => k_is)
    (case jq_CONTRACTS_early => kernel_rfl); (case jn_CONTRACTS_later => k_is); (case jq_CONTRACTS_later => kernel_rfl); (case ja_STEPS => k_is); (case jd_STEPS => exact rfl); (case jn_STEPS_nothing => k_is)
    (case jn_STEPS_one => k_is); (case jn_STEPS_scale => k_is); (case jn_STEPS_both => k_is); (case jn_STEPS_give => k_is); (case jn_STEPS_or => k_is); (case jn_STEPS_at => k_is)
    (case jn_STEPS_when => k_is); (case jn_STEPS_until => k_is); (case jn_STEPS_early => k_is); (case jn_STEPS_later => k_is); (case ca_MarketplaceError => k_is); (case cx_MarketplaceError => k_exc)
    (case ck_MarketplaceError => k_is); (case cb_MarketplaceError => k_is); (case ct0_MarketplaceError => k_is); (case ch_MarketplaceError => k_is); (case e1_MarketplaceError => k_is); (case e2_MarketplaceError => k_is)
    (case e3_MarketplaceError => k_is); (case e4_MarketplaceError => k_is); (case ca_ZeroDenominator => k_is); (case cx_ZeroDenominator => k_exc); (case ck_ZeroDenominator => k_is); (case cb_ZeroDenominator => k_is)
    (case ct0_ZeroDenominator => k_is); (case ch_ZeroDenominator => k_is); (case e1_ZeroDenominator => k_is); (case e2_ZeroDenominator => k_is); (case e3_ZeroDenominator => k_is); (case e4_ZeroDenominator => k_is)
    (case ca_MarketError => k_is); (case cx_MarketError => k_exc); (case ck_MarketError => k_is); (case cb_MarketError => k_is); (case ct0_MarketError => k_is); (case ch_MarketError => k_is)
    (case e1_MarketError => k_is); (case e2_MarketError => k_is); (case e3_MarketError => k_is); (case e4_MarketError => k_is); (case ca_TooLarge => k_is); (case cx_TooLarge => k_exc)
    (case ck_TooLarge => k_is); (case cb_TooLarge => k_is); (case ct0_TooLarge => k_is); (case ch_TooLarge => k_is); (case e1_TooLarge => k_is); (case e2_TooLarge => k_is)
    (case e3_TooLarge => k_is); (case e4_TooLarge => k_is); (case ca_MomentError => k_is); (case cx_MomentError => k_exc); (case ck_MomentError => k_is); (case cb_MomentError => k_is)
    (case ct0_MomentError => k_is); (case ch_MomentError => k_is); (case e1_MomentError => k_is); (case e2_MomentError => k_is); (case e3_MomentError => k_is); (case e4_MomentError => k_is)
    (case ca_ContractError => k_is); (case cx_ContractError => k_exc); (case ck_ContractError => k_is); (case cb_ContractError => k_is); (case ct0_ContractError => k_is); (case ch_ContractError => k_is)
    (case e1_ContractError => k_is); (case e2_ContractError => k_is); (case e3_ContractError => k_is); (case e4_ContractError => k_is); (case e5 => k_is); (case e6 => k_is)
    (case s_MarketError_MarketplaceError => k_is); (case s_MarketError_MomentError => k_is); (case s_MarketError_ContractError => k_is); (case s_TooLarge_MarketplaceError => k_is); (case s_TooLarge_MomentError => k_is); (case s_TooLarge_ContractError => k_is)
    (case s_MomentError_MarketplaceError => k_is); (case s_MomentError_MomentError => k_is); (case s_MomentError_ContractError => k_is); (case s_ContractError_MarketplaceError => k_is); (case s_ContractError_MomentError => k_is); (case s_ContractError_ContractError => k_is)
    (case s_MarketError_MarketError => k_is); (case s_TooLarge_TooLarge => k_is)

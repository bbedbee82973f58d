/- Blocks of a range, and rows of blocks side by side: what is gathered out of smaller ones. Plain. -/
import Derived.Test.YtkljajfgdelfgaaDoorMg
namespace Go.Proofs.YtkljajfgdelfgaaDoor

namespace C
/-- A power of two is doubled as long as it divides the place and does not pass the end. -/
def gk (p e : Nat) : Nat → Nat → Nat
  | 0, k => k
  | n + 1, k => if p % (2 * k) = 0 ∧ p + 2 * k ≤ e then gk p e n (2 * k) else k
theorem gk_spec (p e : Nat) : ∀ n j, 2 ^ j ∣ p → p + 2 ^ j ≤ e → e < 2 ^ (j + n) → ∃ i, gk p e n (2 ^ j) = 2 ^ i ∧ i < j + n ∧ 2 ^ i ∣ p ∧ p + 2 ^ i ≤ e ∧ ¬ (2 ^ (i + 1) ∣ p ∧ p + 2 ^ (i + 1) ≤ e) := by
  intro n
  induction n with
  | zero => intro j _ h2 h3; rw [Nat.add_zero] at h3; omega
  | succ n ih =>
    intro j h1 h2 h3
    rw [gk]
    have e2 : 2 * 2 ^ j = 2 ^ (j + 1) := by rw [Nat.pow_succ]; omega
    rw [e2]
    split
    · rename_i h
      obtain ⟨i, a, b, c⟩ := ih (j + 1) (Nat.dvd_of_mod_eq_zero h.1) h.2 (by rw [show j + 1 + n = j + (n + 1) by omega]; exact h3)
      exact ⟨i, a, by omega, c⟩
    · rename_i h
      exact ⟨j, rfl, by omega, h1, h2, fun c => h ⟨Nat.mod_eq_zero_of_dvd c.1, c.2⟩⟩
/-- The first block of what is from p up to e. -/
def blk (p e : Nat) : Nat := gk p e 33 1
theorem blk_spec (p e : Nat) (h : p < e) (he : e ≤ 2 ^ 32) : ∃ i, blk p e = 2 ^ i ∧ i < 33 ∧ 2 ^ i ∣ p ∧ p + 2 ^ i ≤ e ∧ ¬ (2 ^ (i + 1) ∣ p ∧ p + 2 ^ (i + 1) ≤ e) := by
  obtain ⟨i, a, b, c⟩ := gk_spec p e 33 0 (Nat.one_dvd p) (by rw [Nat.pow_zero]; omega) (by omega)
  exact ⟨i, a, by omega, c⟩
theorem blk_pos (p e : Nat) (h : p < e) (he : e ≤ 2 ^ 32) : 0 < blk p e := by
  obtain ⟨i, a, -⟩ := blk_spec p e h he; rw [a]; exact Nat.pow_pos (by omega)
theorem blk_max (p e i : Nat) (h : p < e) (he : e ≤ 2 ^ 32) (h1 : 2 ^ i ∣ p) (h2 : p + 2 ^ i ≤ e) : 2 ^ i ≤ blk p e := by
  obtain ⟨j, a, -, -, -, b⟩ := blk_spec p e h he
  rw [a]
  by_cases c : i ≤ j
  · exact Nat.pow_le_pow_right (by omega) c
  · exfalso; apply b
    have : 2 ^ (j + 1) ≤ 2 ^ i := Nat.pow_le_pow_right (by omega) (by omega)
    exact ⟨Nat.dvd_trans (Nat.pow_dvd_pow 2 (by omega)) h1, by omega⟩
def blocks (p e : Nat) : List Nat := if _h : p < e ∧ e ≤ 2 ^ 32 then blk p e :: blocks (p + blk p e) e else []
  termination_by e - p
  decreasing_by have := blk_pos p e _h.1 _h.2; omega
theorem blocks_none (p e : Nat) (h : ¬ (p < e ∧ e ≤ 2 ^ 32)) : blocks p e = [] := by rw [blocks, dif_neg h]
theorem blocks_cons (p e : Nat) (h : p < e) (he : e ≤ 2 ^ 32) : blocks p e = blk p e :: blocks (p + blk p e) e := by rw [blocks, dif_pos ⟨h, he⟩]
/-- Blocks side by side from p up to q. -/
def Tiles : Nat → Nat → List Nat → Prop
  | p, q, [] => p = q
  | p, q, t :: ts => (∃ i, t = 2 ^ i) ∧ t ∣ p ∧ Tiles (p + t) q ts
theorem tiles_le : ∀ ts p q, Tiles p q ts → p ≤ q := by
  intro ts
  induction ts with
  | nil => intro p q h; simp only [Tiles] at h; omega
  | cons t ts ih => intro p q h; have := ih _ _ h.2.2; omega
theorem tiles_append : ∀ x y p q r, Tiles p q x → Tiles q r y → Tiles p r (x ++ y) := by
  intro x
  induction x with
  | nil => intro y p q r h1 h2; simp only [Tiles] at h1; subst h1; exact h2
  | cons t ts ih => intro y p q r h1 h2; exact ⟨h1.1, h1.2.1, ih y _ _ _ h1.2.2 h2⟩
theorem blocks_tiles : ∀ n p e, e - p = n → p ≤ e → e ≤ 2 ^ 32 → Tiles p e (blocks p e) := by
  intro n
  induction n using Nat.strongRecOn with
  | ind n IH =>
  intro p e hn hp he
  by_cases h : p < e
  · rw [blocks_cons p e h he]
    obtain ⟨i, a, -, b, c, -⟩ := blk_spec p e h he
    have := blk_pos p e h he
    exact ⟨⟨i, a⟩, a ▸ b, IH (e - (p + blk p e)) (by omega) _ _ rfl (by omega) he⟩
  · rw [blocks_none p e (by omega)]; show p = e; omega
theorem two_pos (j : Nat) : 0 < 2 ^ j := Nat.pow_pos (by omega)
theorem pow_lt_pow {i j : Nat} (h : 2 ^ i < 2 ^ j) : i < j := by
  by_cases c : i < j
  · exact c
  · have : 2 ^ j ≤ 2 ^ i := Nat.pow_le_pow_right (by omega) (by omega); omega
theorem pow_le_pow {i j : Nat} (h : 2 ^ i ≤ 2 ^ j) : i ≤ j := by
  by_cases c : i ≤ j
  · exact c
  · have : 2 ^ (j + 1) ≤ 2 ^ i := Nat.pow_le_pow_right (by omega) (by omega)
    have := two_pos j; rw [Nat.pow_succ] at *; omega
/-- What begins at a place that a great power divides, and is less than it, has few blocks. -/
theorem len_down (e : Nat) (he : e ≤ 2 ^ 32) : ∀ b p, 2 ^ b ∣ p → e - p < 2 ^ b → (blocks p e).length ≤ b := by
  intro b
  induction b with
  | zero => intro p _ h; rw [blocks_none p e (by rw [Nat.pow_zero] at h; omega)]; exact Nat.zero_le _
  | succ b ih =>
    intro p hd h
    have hd' : 2 ^ b ∣ p := Nat.dvd_trans (Nat.pow_dvd_pow 2 (by omega)) hd
    by_cases c : e - p < 2 ^ b
    · have := ih p hd' c; omega
    · have hp := two_pos b
      have hpe : p < e := by omega
      have hb : blk p e = 2 ^ b := by
        have h1 := blk_max p e b hpe he hd' (by omega)
        obtain ⟨i, a, -, -, d, -⟩ := blk_spec p e hpe he
        rw [a] at h1 ⊢
        have h2 := pow_le_pow h1
        have h3 : 2 ^ i < 2 ^ (b + 1) := by omega
        have h4 := pow_lt_pow h3
        rw [show i = b by omega]
      rw [blocks_cons p e hpe he, hb, List.length_cons]
      have := ih (p + 2 ^ b) (Nat.dvd_add hd' (Nat.dvd_refl _)) (by rw [Nat.pow_succ] at h; omega)
      omega
theorem len_up (e : Nat) (he : e ≤ 2 ^ 32) : ∀ n a p, a + n = 32 → 2 ^ a ∣ p → (blocks p e).length ≤ 32 + n := by
  intro n
  induction n with
  | zero =>
    intro a p ha hd
    have : a = 32 := by omega
    subst this
    by_cases h : p < e
    · have h0 : p = 0 := by
        obtain ⟨c, hc⟩ := hd
        cases c with
        | zero => simpa using hc
        | succ c => rw [Nat.mul_succ] at hc; omega
      subst h0
      by_cases c : e < 2 ^ 32
      · have := len_down e he 32 0 (Nat.dvd_zero _) (by omega); omega
      · have hb : blk 0 e = 2 ^ 32 := by
          have h1 := blk_max 0 e 32 h he (Nat.dvd_zero _) (by omega)
          obtain ⟨i, a, -, -, d, -⟩ := blk_spec 0 e h he
          omega
        rw [blocks_cons 0 e h he, hb, blocks_none _ e (by omega)]; simp
    · rw [blocks_none p e (by omega)]; exact Nat.zero_le _
  | succ n ih =>
    intro a p ha hd
    by_cases h2 : 2 ^ (a + 1) ∣ p
    · have := ih (a + 1) p (by omega) h2; omega
    · by_cases c : p + 2 ^ a ≤ e
      · have hp := two_pos a
        have hpe : p < e := by omega
        have hb : blk p e = 2 ^ a := by
          have h1 := blk_max p e a hpe he hd c
          obtain ⟨i, b, -, d, -, -⟩ := blk_spec p e hpe he
          rw [b] at h1 ⊢
          have h3 := pow_le_pow h1
          by_cases h4 : i = a
          · rw [h4]
          · exact absurd (Nat.dvd_trans (Nat.pow_dvd_pow 2 (by omega)) d) h2
        rw [blocks_cons p e hpe he, hb, List.length_cons]
        have : 2 ^ (a + 1) ∣ p + 2 ^ a := by
          obtain ⟨k, hk⟩ := hd
          have hko : k % 2 = 1 := by
            by_cases hk2 : k % 2 = 1
            · exact hk2
            · exfalso; apply h2; refine ⟨k / 2, ?_⟩
              rw [hk, Nat.pow_succ, Nat.mul_assoc]; congr 1; omega
          refine ⟨(k + 1) / 2, ?_⟩
          rw [hk, Nat.pow_succ, Nat.mul_assoc, show 2 * ((k + 1) / 2) = k + 1 by omega, Nat.mul_succ]
        have := ih (a + 1) _ (by omega) this
        omega
      · have := len_down e he a p hd (by omega); omega
theorem blocks_len (p e : Nat) : (blocks p e).length ≤ 64 := by
  by_cases he : e ≤ 2 ^ 32
  · exact len_up e he 32 0 p (by omega) (Nat.one_dvd p)
  · rw [blocks_none p e (by omega)]; exact Nat.zero_le _
section
variable {α : Type} (nd : α → α → α) (z : α)
/-- The hash of a block of size 2 ^ j out of the first hashes, and how many these are. -/
def gat : Nat → List Nat → List α → α × Nat
  | 0, _, hs => (hs.getD 0 z, 1)
  | j + 1, ss, hs => if ss.getD 0 0 = 2 ^ (j + 1) then (hs.getD 0 z, 1) else
    (nd (gat j ss hs).1 (gat j (ss.drop (gat j ss hs).2) (hs.drop (gat j ss hs).2)).1, (gat j ss hs).2 + (gat j (ss.drop (gat j ss hs).2) (hs.drop (gat j ss hs).2)).2)
/-- The hash that R has of each block. -/
def vals (R : Nat → Nat → α) : Nat → List Nat → List α
  | _, [] => []
  | p, t :: ts => R p t :: vals R (p + t) ts
def All (P : Nat → Nat → Prop) : Nat → List Nat → Prop
  | _, [] => True
  | p, t :: ts => P p t ∧ All P (p + t) ts
theorem vals_length (R : Nat → Nat → α) : ∀ ts p, (vals R p ts).length = ts.length := by
  intro ts
  induction ts with
  | nil => intro p; rfl
  | cons t ts ih => intro p; simp [vals, ih]
theorem vals_append (R : Nat → Nat → α) : ∀ x y p q, Tiles p q x → vals R p (x ++ y) = vals R p x ++ vals R q y := by
  intro x
  induction x with
  | nil => intro y p q h; simp only [Tiles] at h; subst h; rfl
  | cons t ts ih => intro y p q h; simp only [List.cons_append, vals, ih y _ _ h.2.2]
theorem all_append (P : Nat → Nat → Prop) : ∀ x y p q, Tiles p q x → (All P p (x ++ y) ↔ All P p x ∧ All P q y) := by
  intro x
  induction x with
  | nil => intro y p q h; simp only [Tiles] at h; subst h; simp [All]
  | cons t ts ih => intro y p q h; simp only [List.cons_append, All, ih y _ _ h.2.2, and_assoc]
theorem gat_is (R : Nat → Nat → α) (q : Nat) (P : Nat → Nat → Prop) (hP : ∀ p k k', P p k → P p k' → k = k')
    (hR : ∀ p j, 2 ^ (j + 1) ∣ p → p + 2 ^ (j + 1) ≤ q → ¬ P p (2 ^ (j + 1)) → R p (2 ^ (j + 1)) = nd (R p (2 ^ j)) (R (p + 2 ^ j) (2 ^ j))) :
    ∀ j p ss, Tiles p q ss → All P p ss → 2 ^ j ∣ p → p + 2 ^ j ≤ q → ss.getD 0 0 ≤ 2 ^ j →
    (gat nd z j ss (vals R p ss)).1 = R p (2 ^ j) ∧ ∃ x y, ss = x ++ y ∧ x.length = (gat nd z j ss (vals R p ss)).2 ∧ 1 ≤ x.length ∧ Tiles p (p + 2 ^ j) x ∧ Tiles (p + 2 ^ j) q y := by
  intro j
  induction j with
  | zero =>
    intro p ss hT hA hd hq h1
    cases ss with
    | nil => simp only [Tiles] at hT; rw [Nat.pow_zero] at hq; omega
    | cons t ts =>
      have ht : t = 2 ^ 0 := by
        obtain ⟨⟨i, hi⟩, -⟩ := hT
        have := two_pos i
        have h1' : t ≤ 2 ^ 0 := h1
        rw [Nat.pow_zero] at h1' ⊢
        omega
      subst ht
      exact ⟨rfl, [2 ^ 0], ts, rfl, rfl, by simp, ⟨⟨0, rfl⟩, hd, rfl⟩, hT.2.2⟩
  | succ j ih =>
    intro p ss hT hA hd hq h1
    have hp := two_pos j
    cases ss with
    | nil => simp only [Tiles] at hT; have := two_pos (j + 1); omega
    | cons t ts =>
      by_cases ht : t = 2 ^ (j + 1)
      · subst ht
        have e : gat nd z (j + 1) (2 ^ (j + 1) :: ts) (vals R p (2 ^ (j + 1) :: ts)) = (R p (2 ^ (j + 1)), 1) := by
          rw [gat, if_pos (show (2 ^ (j + 1) :: ts).getD 0 0 = 2 ^ (j + 1) from rfl)]; rfl
        rw [e]
        exact ⟨rfl, [2 ^ (j + 1)], ts, rfl, rfl, by simp, ⟨⟨j + 1, rfl⟩, hd, rfl⟩, hT.2.2⟩
      · have hd' : 2 ^ j ∣ p := Nat.dvd_trans (Nat.pow_dvd_pow 2 (by omega)) hd
        have e2 : 2 ^ (j + 1) = 2 ^ j + 2 ^ j := by rw [Nat.pow_succ]; omega
        have ht' : t ≤ 2 ^ j := by
          obtain ⟨⟨i, hi⟩, -⟩ := hT
          have h1' : t ≤ 2 ^ (j + 1) := h1
          have h3 : 2 ^ i < 2 ^ (j + 1) := by omega
          rw [hi]; exact Nat.pow_le_pow_right (by omega) (by have := pow_lt_pow h3; omega)
        obtain ⟨v1, x, y, hs, hx, hx1, hxT, hyT⟩ := ih p (t :: ts) hT hA hd' (by omega) ht'
        have hv : (vals R p (t :: ts)).drop (gat nd z j (t :: ts) (vals R p (t :: ts))).2 = vals R (p + 2 ^ j) y := by
          rw [← hx, hs, vals_append R x y p _ hxT, List.drop_left' (by rw [vals_length])]
        have hdr : (t :: ts).drop (gat nd z j (t :: ts) (vals R p (t :: ts))).2 = y := by
          rw [← hx, hs, List.drop_left' rfl]
        have hAy : All P (p + 2 ^ j) y := by rw [hs] at hA; exact ((all_append P x y p _ hxT).1 hA).2
        have hyh : y.getD 0 0 ≤ 2 ^ j := by
          cases y with
          | nil => simp
          | cons u us =>
            obtain ⟨⟨i, hi⟩, hu, -⟩ := hyT
            show u ≤ 2 ^ j
            rw [hi] at hu ⊢
            by_cases c : i ≤ j
            · exact Nat.pow_le_pow_right (by omega) c
            · exfalso
              have h5 : 2 ^ (j + 1) ∣ p + 2 ^ j := Nat.dvd_trans (Nat.pow_dvd_pow 2 (by omega)) hu
              have h6 : 2 ^ (j + 1) ∣ 2 ^ j := (Nat.dvd_add_right hd).1 h5
              have := Nat.le_of_dvd hp h6
              omega
        obtain ⟨v2, x', y', hs', hx', hx1', hxT', hyT'⟩ := ih (p + 2 ^ j) y hyT hAy (Nat.dvd_add hd' (Nat.dvd_refl _)) (by omega) hyh
        have e : gat nd z (j + 1) (t :: ts) (vals R p (t :: ts)) = (R p (2 ^ (j + 1)), x.length + x'.length) := by
          rw [gat, if_neg (show ¬ (t :: ts).getD 0 0 = 2 ^ (j + 1) from ht), hdr, hv, v1, v2, ← hx, ← hx', hR p j hd hq (fun c => ht (hP p _ _ hA.1 c))]
        rw [e]
        refine ⟨rfl, x ++ x', y', ?_, by simp, by simp; omega, ?_, ?_⟩
        · rw [hs, hs', List.append_assoc]
        · rw [e2]; exact tiles_append x x' _ _ _ hxT (by rw [← Nat.add_assoc]; exact hxT')
        · rw [e2, ← Nat.add_assoc]; exact hyT'
/-- The hashes of the blocks that are wanted, each gathered out of the next ones. -/
def join : List Nat → List Nat → List α → List α
  | [], _, _ => []
  | w :: ws, ss, hs => (gat nd z (Nat.log2 w) ss hs).1 :: join ws (ss.drop (gat nd z (Nat.log2 w) ss hs).2) (hs.drop (gat nd z (Nat.log2 w) ss hs).2)
theorem join_is (R : Nat → Nat → α) (e : Nat) (P : Nat → Nat → Prop) (hP : ∀ p k k', P p k → P p k' → k = k')
    (hR : ∀ p j, 2 ^ (j + 1) ∣ p → p + 2 ^ (j + 1) ≤ e → ¬ P p (2 ^ (j + 1)) → R p (2 ^ (j + 1)) = nd (R p (2 ^ j)) (R (p + 2 ^ j) (2 ^ j))) :
    ∀ n p ss, e - p = n → e ≤ 2 ^ 32 → p ≤ e → Tiles p e ss → All P p ss → join nd z (blocks p e) ss (vals R p ss) = vals R p (blocks p e) := by
  intro n
  induction n using Nat.strongRecOn with
  | ind n IH =>
  intro p ss hn he hp hT hA
  by_cases h : p < e
  · rw [blocks_cons p e h he]
    obtain ⟨i, a, -, b, c, -⟩ := blk_spec p e h he
    have hb := blk_pos p e h he
    have h1 : ss.getD 0 0 ≤ 2 ^ i := by
      cases ss with
      | nil => simp
      | cons t ts =>
        obtain ⟨⟨k, hk⟩, hd, hts⟩ := hT
        have := tiles_le _ _ _ hts
        show t ≤ 2 ^ i
        rw [← a, hk]; exact blk_max p e k h he (hk ▸ hd) (by omega)
    obtain ⟨v, x, y, hs, hx, hx1, hxT, hyT⟩ := gat_is nd z R e P hP hR i p ss hT hA b c h1
    have hv : (vals R p ss).drop (gat nd z i ss (vals R p ss)).2 = vals R (p + 2 ^ i) y := by
      rw [← hx, hs, vals_append R x y p _ hxT, List.drop_left' (by rw [vals_length])]
    have hdr : ss.drop (gat nd z i ss (vals R p ss)).2 = y := by rw [← hx, hs, List.drop_left' rfl]
    have hAy : All P (p + 2 ^ i) y := by rw [hs] at hA; exact ((all_append P x y p _ hxT).1 hA).2
    rw [join, vals, a, Nat.log2_two_pow, v, hdr, hv]
    congr 1
    exact IH (e - (p + 2 ^ i)) (by omega) _ _ rfl he (by omega) hyT hAy
  · rw [blocks_none p e (by omega)]; rfl
end
end C
end Go.Proofs.YtkljajfgdelfgaaDoor
namespace Go.Proofs.YtkljajfgdelfgaaDoor

namespace C
theorem half_of (m i : Nat) (h1 : 2 ^ i < m) (h2 : m ≤ 2 ^ (i + 1)) : S.half m = 2 ^ i := by
  have : Nat.log2 (m - 1) = i := (Nat.log2_eq_iff (by have := two_pos i; omega)).2 ⟨by omega, by omega⟩
  rw [S.half, this]
/-- The hash of k leaves from p on. -/
def rt (a : Int) (l : List (List UInt8)) (p k : Nat) : List UInt8 := S.root a ((l.drop p).take k)
theorem rt_two (a : Int) (l : List (List UInt8)) (p m i : Nat) (h : p + m ≤ l.length) (h1 : 2 ^ i < m) (h2 : m ≤ 2 ^ (i + 1)) : rt a l p m = S.node a (rt a l p (2 ^ i)) (rt a l (p + 2 ^ i) (m - 2 ^ i)) := by
  have hp := two_pos i
  have hl : ((l.drop p).take m).length = m := by rw [List.length_take, List.length_drop]; omega
  rw [rt, S.root_more a _ (by omega), hl, half_of m i h1 h2, rt, rt, List.take_take, Nat.min_eq_left (by omega), List.drop_take, List.drop_drop]
theorem rt_twice (a : Int) (l : List (List UInt8)) (p j : Nat) (h : p + 2 ^ (j + 1) ≤ l.length) : rt a l p (2 ^ (j + 1)) = S.node a (rt a l p (2 ^ j)) (rt a l (p + 2 ^ j) (2 ^ j)) := by
  have hp := two_pos j
  have e2 : 2 ^ (j + 1) = 2 ^ j + 2 ^ j := by rw [Nat.pow_succ]; omega
  rw [rt_two a l p (2 ^ (j + 1)) j h (by omega) (by omega)]
  congr 2; omega
/-- The hashes of the range of a list's leaves. -/
def ofs (a : Int) (l : List (List UInt8)) (p e : Nat) : List (List UInt8) := vals (rt a l) p (blocks p e)
/-- How great the block is that begins at p. -/
def sz : Nat → List Nat → Nat → Option Nat
  | _, [], _ => none
  | p0, t :: ts, p => if p = p0 then some t else sz (p0 + t) ts p
theorem sz_skip : ∀ x y p0 p, Tiles p0 p x → sz p0 (x ++ y) p = sz p y p := by
  intro x
  induction x with
  | nil => intro y p0 p h; simp only [Tiles] at h; subst h; rfl
  | cons t ts ih =>
    intro y p0 p h
    obtain ⟨⟨i, hi⟩, -, hT⟩ := h
    have h1 := tiles_le _ _ _ hT
    have h2 := two_pos i
    rw [List.cons_append, sz, if_neg (by omega)]; exact ih y _ _ hT
theorem all_sz : ∀ y x p0 p q, Tiles p0 p x → Tiles p q y → All (fun r k => sz p0 (x ++ y) r = some k) p y := by
  intro y
  induction y with
  | nil => intro x p0 p q _ _; trivial
  | cons t ts ih =>
    intro x p0 p q hx hy
    refine ⟨?_, ?_⟩
    · show sz p0 (x ++ t :: ts) p = some t
      rw [sz_skip x _ p0 p hx, sz, if_pos rfl]
    · have := ih (x ++ [t]) p0 (p + t) q (tiles_append x [t] _ _ _ hx ⟨hy.1, hy.2.1, rfl⟩) hy.2.2
      rwa [List.append_assoc] at this
section
variable {α : Type} (nd : α → α → α) (z : α)
/-- The hash of the block that begins at p. -/
def hv : Nat → List Nat → List α → Nat → α
  | p0, t :: ts, h :: hs, p => if p = p0 then h else hv (p0 + t) ts hs p
  | _, _, _, _ => z
theorem hv_skip : ∀ x y (hx hy : List α) p0 p, Tiles p0 p x → hx.length = x.length → hv z p0 (x ++ y) (hx ++ hy) p = hv z p y hy p := by
  intro x
  induction x with
  | nil => intro y hx hy p0 p h hl; simp only [Tiles] at h; subst h; rw [List.length_eq_zero_iff.1 hl]; rfl
  | cons t ts ih =>
    intro y hx hy p0 p h hl
    obtain ⟨⟨i, hi⟩, -, hT⟩ := h
    have h1 := tiles_le _ _ _ hT
    have h2 := two_pos i
    cases hx with
    | nil => simp at hl
    | cons g gs => rw [List.cons_append, List.cons_append, hv, if_neg (by omega)]; exact ih y gs hy _ _ hT (by simpa using hl)
/-- The hash of a block of size 2 ^ j from p on, out of what is there. -/
def free (S : Nat → Option Nat) (H : Nat → α) : Nat → Nat → α
  | 0, p => H p
  | j + 1, p => if S p = some (2 ^ (j + 1)) then H p else nd (free S H j p) (free S H j (p + 2 ^ j))
theorem free_tile (S : Nat → Option Nat) (H : Nat → α) (j p : Nat) (h : S p = some (2 ^ j)) : free nd S H j p = H p := by
  cases j with
  | zero => rfl
  | succ j => rw [free, if_pos h]
/-- Any hashes of a row of blocks, as a function of place and size. -/
def fr (p0 : Nat) (ss : List Nat) (hs : List α) (p k : Nat) : α := free nd (sz p0 ss) (hv z p0 ss hs) (Nat.log2 k) p
theorem fr_two (p0 : Nat) (ss : List Nat) (hs : List α) (p j : Nat) (h : ¬ sz p0 ss p = some (2 ^ (j + 1))) : fr nd z p0 ss hs p (2 ^ (j + 1)) = nd (fr nd z p0 ss hs p (2 ^ j)) (fr nd z p0 ss hs (p + 2 ^ j) (2 ^ j)) := by
  simp only [fr, Nat.log2_two_pow]; rw [free, if_neg h]
theorem vals_free : ∀ y x (hx hy : List α) p0 p q, Tiles p0 p x → Tiles p q y → hx.length = x.length → hy.length = y.length → vals (fr nd z p0 (x ++ y) (hx ++ hy)) p y = hy := by
  intro y
  induction y with
  | nil => intro x hx hy p0 p q _ _ _ h; rw [List.length_eq_zero_iff.1 h]; rfl
  | cons t ts ih =>
    intro x hx hy p0 p q h1 h2 l1 l2
    cases hy with
    | nil => simp at l2
    | cons g gs =>
      obtain ⟨i, hi⟩ := h2.1
      have e1 : fr nd z p0 (x ++ t :: ts) (hx ++ g :: gs) p t = g := by
        rw [fr, hi, Nat.log2_two_pow, free_tile _ _ _ _ _ (by rw [sz_skip x _ p0 p h1, sz, if_pos rfl]), hv_skip z x _ hx _ p0 p h1 l1, hv, if_pos rfl]
      have := ih (x ++ [t]) (hx ++ [g]) gs p0 (p + t) q (tiles_append x [t] _ _ _ h1 ⟨h2.1, h2.2.1, rfl⟩) h2.2.2 (by simp [l1]) (by simpa using l2)
      rw [List.append_assoc, List.append_assoc] at this
      rw [vals, e1]
      exact congrArg (g :: ·) this
theorem vals_fr (ss : List Nat) (hs : List α) (p q : Nat) (hT : Tiles p q ss) (hl : hs.length = ss.length) : vals (fr nd z p ss hs) p ss = hs :=
  vals_free nd z ss [] [] hs p p q rfl hT rfl hl
/-- What is gathered of any hashes. -/
theorem join_any (p e : Nat) (ss : List Nat) (hs : List α) (he : e ≤ 2 ^ 32) (hT : Tiles p e ss) (hl : hs.length = ss.length) : join nd z (blocks p e) ss hs = vals (fr nd z p ss hs) p (blocks p e) := by
  have h := join_is nd z (fr nd z p ss hs) e (fun r k => sz p ss r = some k) (fun r k k' h1 h2 => Option.some.inj (h1.symm.trans h2)) (fun r j _ _ h => fr_two nd z p ss hs r j h) _ p ss rfl he (tiles_le _ _ _ hT) hT (all_sz ss [] p p e rfl hT)
  rwa [vals_fr nd z ss hs p e hT hl] at h
/-- From the last hash on, the node of each one ahead and what there is. -/
def fold : List α → α
  | [] => z
  | [h] => h
  | h :: g :: t => nd h (fold (g :: t))
end
/-- Two ranges side by side are gathered into the range of both. -/
theorem join_ofs (a : Int) (z : List UInt8) (l : List (List UInt8)) (p m e : Nat) (h1 : p ≤ m) (h2 : m ≤ e) (h3 : e ≤ l.length) (he : e ≤ 2 ^ 32) :
    join (S.node a) z (blocks p e) (blocks p m ++ blocks m e) (ofs a l p m ++ ofs a l m e) = ofs a l p e := by
  have t1 := blocks_tiles _ p m rfl h1 (by omega)
  have t2 := blocks_tiles _ m e rfl h2 he
  have t3 := tiles_append _ _ _ _ _ t1 t2
  rw [ofs, ofs, ← vals_append _ _ _ _ _ t1]
  exact join_is (S.node a) z (rt a l) e (fun r k => sz p (blocks p m ++ blocks m e) r = some k) (fun r k k' h1 h2 => Option.some.inj (h1.symm.trans h2)) (fun r j _ h _ => rt_twice a l r j (by omega)) _ p _ rfl he (by omega) t3 (all_sz _ [] p p e rfl t3)
theorem blocks_pow (p b : Nat) (hd : 2 ^ b ∣ p) (he : p + 2 ^ b ≤ 2 ^ 32) : blocks p (p + 2 ^ b) = [2 ^ b] := by
  have hp := two_pos b
  have hb : blk p (p + 2 ^ b) = 2 ^ b := by
    have h1 := blk_max p (p + 2 ^ b) b (by omega) he hd (by omega)
    obtain ⟨i, a, -, -, d, -⟩ := blk_spec p (p + 2 ^ b) (by omega) he
    omega
  rw [blocks_cons p _ (by omega) he, hb, blocks_none _ _ (by omega)]
theorem fold_ofs (a : Int) (z : List UInt8) (l : List (List UInt8)) (e : Nat) (hl : e ≤ l.length) (he : e ≤ 2 ^ 32) :
    ∀ b p, 2 ^ b ∣ p → p < e → e - p ≤ 2 ^ b → fold (S.node a) z (ofs a l p e) = rt a l p (e - p) := by
  intro b
  induction b with
  | zero =>
    intro p hd hp h
    have h' : e = p + 2 ^ 0 := by rw [Nat.pow_zero] at *; omega
    subst h'
    rw [ofs, blocks_pow p 0 hd he, Nat.add_sub_cancel_left]; rfl
  | succ b ih =>
    intro p hd hp h
    have hd' : 2 ^ b ∣ p := Nat.dvd_trans (Nat.pow_dvd_pow 2 (by omega)) hd
    have e2 : 2 ^ (b + 1) = 2 ^ b + 2 ^ b := by rw [Nat.pow_succ]; omega
    have h0 := two_pos b
    by_cases c : e - p ≤ 2 ^ b
    · exact ih p hd' hp c
    · by_cases c2 : e - p = 2 ^ (b + 1)
      · have h' : e = p + 2 ^ (b + 1) := by omega
        subst h'
        rw [ofs, blocks_pow p (b + 1) hd he, Nat.add_sub_cancel_left]; rfl
      · have hb : blk p e = 2 ^ b := by
          have h1 := blk_max p e b hp he hd' (by omega)
          obtain ⟨i, a, -, -, d, -⟩ := blk_spec p e hp he
          rw [a] at h1 ⊢
          have h2 := pow_le_pow h1
          have h3 : 2 ^ i < 2 ^ (b + 1) := by omega
          have h4 := pow_lt_pow h3
          rw [show i = b by omega]
        have h5 := ih (p + 2 ^ b) (Nat.dvd_add hd' (Nat.dvd_refl _)) (by omega) (by omega)
        rw [rt_two a l p (e - p) b (by omega) (by omega) (by omega), show e - p - 2 ^ b = e - (p + 2 ^ b) by omega, ← h5]
        rw [ofs, blocks_cons p e hp he, hb, ofs, blocks_cons (p + 2 ^ b) e (by omega) he]
        rfl
/-- The root of a range from 0 is the list's. -/
theorem fold_root (a : Int) (z : List UInt8) (l : List (List UInt8)) (h : 0 < l.length) (he : l.length ≤ 2 ^ 32) : fold (S.node a) z (ofs a l 0 l.length) = S.root a l := by
  rw [fold_ofs a z l l.length (Nat.le_refl _) he 32 0 (Nat.dvd_zero _) h (by omega), rt, List.drop_zero, Nat.sub_zero, List.take_length]
/-- One leaf more. -/
theorem ofs_one (a : Int) (l : List (List UInt8)) (p : Nat) (h : p < l.length) (he : p < 2 ^ 32) : ofs a l p (p + 1) = [S.leaf a (l.getD p [])] := by
  rw [ofs, show p + 1 = p + 2 ^ 0 from rfl, blocks_pow p 0 (Nat.one_dvd p) (by rw [Nat.pow_zero]; omega)]
  show [rt a l p 1] = _
  have : (l.drop p).take 1 = [l.getD p []] := by
    rw [List.drop_eq_getElem_cons h, List.take_succ_cons, List.take_zero, List.getD_eq_getElem?_getD, List.getElem?_eq_getElem h]; rfl
  rw [rt, this, S.root_one a _ rfl]; rfl
theorem len_first (n b : Nat) (he : n ≤ 2 ^ 32) (h : n < 2 ^ b) : (blocks 0 n).length ≤ b := len_down n he b 0 (Nat.dvd_zero _) (by omega)
/-- A range of a short list has no more blocks than twice the list's depth. -/
theorem len_short (e B : Nat) (he : e ≤ 2 ^ 32) (hB : e < 2 ^ B) : ∀ n a p, a + n = B → 2 ^ a ∣ p → (blocks p e).length ≤ B + n := by
  intro n
  induction n with
  | zero =>
    intro a p ha hd
    have : a = B := by omega
    subst this
    by_cases h : p < e
    · have h0 : p = 0 := by
        obtain ⟨c, hc⟩ := hd
        cases c with
        | zero => simpa using hc
        | succ c => rw [Nat.mul_succ] at hc; omega
      subst h0
      have := len_down e he a 0 (Nat.dvd_zero _) (by omega); omega
    · rw [blocks_none p e (by omega)]; exact Nat.zero_le _
  | succ n ih =>
    intro a p ha hd
    by_cases h2 : 2 ^ (a + 1) ∣ p
    · have := ih (a + 1) p (by omega) h2; omega
    · by_cases c : p + 2 ^ a ≤ e
      · have hp := two_pos a
        have hpe : p < e := by omega
        have hb : blk p e = 2 ^ a := by
          have h1 := blk_max p e a hpe he hd c
          obtain ⟨i, b, -, d, -, -⟩ := blk_spec p e hpe he
          rw [b] at h1 ⊢
          have h3 := pow_le_pow h1
          by_cases h4 : i = a
          · rw [h4]
          · exact absurd (Nat.dvd_trans (Nat.pow_dvd_pow 2 (by omega)) d) h2
        rw [blocks_cons p e hpe he, hb, List.length_cons]
        have : 2 ^ (a + 1) ∣ p + 2 ^ a := by
          obtain ⟨k, hk⟩ := hd
          have hko : k % 2 = 1 := by
            by_cases hk2 : k % 2 = 1
            · exact hk2
            · exfalso; apply h2; refine ⟨k / 2, ?_⟩
              rw [hk, Nat.pow_succ, Nat.mul_assoc]; congr 1; omega
          refine ⟨(k + 1) / 2, ?_⟩
          rw [hk, Nat.pow_succ, Nat.mul_assoc, show 2 * ((k + 1) / 2) = k + 1 by omega, Nat.mul_succ]
        have := ih (a + 1) _ (by omega) this
        omega
      · have := len_down e he a p hd (by omega); omega
end C
end Go.Proofs.YtkljajfgdelfgaaDoor
namespace Go.Proofs.YtkljajfgdelfgaaDoor

namespace C
/-- Two neighbours make one block. -/
def Sib : Nat → List Nat → Prop
  | p, t :: u :: ts => (t = u ∧ 2 * t ∣ p) ∨ Sib (p + t) (u :: ts)
  | _, _ => False
theorem sib_left : ∀ x y p, Sib p x → Sib p (x ++ y) := by
  intro x
  induction x with
  | nil => intro y p h; exact h.elim
  | cons t ts ih =>
    intro y p h
    cases ts with
    | nil => exact h.elim
    | cons u us =>
      rcases h with h | h
      · exact Or.inl h
      · exact Or.inr (ih y _ h)
theorem sib_right : ∀ x y p q, Tiles p q x → Sib q y → Sib p (x ++ y) := by
  intro x
  induction x with
  | nil => intro y p q h1 h2; simp only [Tiles] at h1; subst h1; exact h2
  | cons t ts ih =>
    intro y p q h1 h2
    have h := ih y _ _ h1.2.2 h2
    cases hh : ts ++ y with
    | nil => rw [hh] at h; exact h.elim
    | cons u us => rw [List.cons_append, hh]; rw [hh] at h; exact Or.inr h
theorem tiles_split (j p q : Nat) (ss : List Nat) (hT : Tiles p q ss) (hd : 2 ^ j ∣ p) (hq : p + 2 ^ j ≤ q) (h1 : ss.getD 0 0 ≤ 2 ^ j) : ∃ x y, ss = x ++ y ∧ 1 ≤ x.length ∧ Tiles p (p + 2 ^ j) x ∧ Tiles (p + 2 ^ j) q y := by
  obtain ⟨-, x, y, a, -, b, c, d⟩ := gat_is (fun _ _ => ()) () (fun _ _ => ()) q (fun r k => sz p ss r = some k) (fun r k k' h1 h2 => Option.some.inj (h1.symm.trans h2)) (fun _ _ _ _ _ => rfl) j p ss hT (all_sz ss [] p p q rfl hT) hd hq h1
  exact ⟨x, y, a, b, c, d⟩
theorem head_le (j p : Nat) (x : List Nat) (hT : Tiles p (p + 2 ^ j) x) : x.getD 0 0 ≤ 2 ^ j := by
  cases x with
  | nil => simp
  | cons t ts => have := tiles_le _ _ _ hT.2.2; show t ≤ 2 ^ j; omega
theorem sib_of : ∀ j p x, Tiles p (p + 2 ^ j) x → 2 ^ j ∣ p → x ≠ [2 ^ j] → Sib p x := by
  intro j
  induction j with
  | zero =>
    intro p x hT hd hx
    exfalso
    cases x with
    | nil => simp only [Tiles] at hT; have := two_pos 0; omega
    | cons t ts =>
      obtain ⟨⟨i, hi⟩, -, h⟩ := hT
      have h1 := tiles_le _ _ _ h
      have h2 := two_pos i
      have ht : t = 2 ^ 0 := by rw [Nat.pow_zero] at h1 ⊢; omega
      cases ts with
      | nil => exact hx (by rw [ht])
      | cons u us =>
        obtain ⟨⟨k, hk⟩, -, h'⟩ := h
        have h3 := tiles_le _ _ _ h'
        have h4 := two_pos k
        omega
  | succ j ih =>
    intro p x hT hd hx
    have e2 : 2 ^ (j + 1) = 2 ^ j + 2 ^ j := by rw [Nat.pow_succ]; omega
    have hd' : 2 ^ j ∣ p := Nat.dvd_trans (Nat.pow_dvd_pow 2 (by omega)) hd
    have hp := two_pos j
    have hh : x.getD 0 0 ≤ 2 ^ j := by
      have h1 := head_le (j + 1) p x hT
      cases x with
      | nil => simp
      | cons t ts =>
        obtain ⟨⟨i, hi⟩, hdt, h⟩ := hT
        have h1' : t ≤ 2 ^ (j + 1) := h1
        show t ≤ 2 ^ j
        have hne : t ≠ 2 ^ (j + 1) := by
          intro c
          cases ts with
          | nil => exact hx (by rw [c])
          | cons u us =>
            obtain ⟨⟨k, hk⟩, -, h'⟩ := h
            have h3 := tiles_le _ _ _ h'
            have h4 := two_pos k
            omega
        have h3 : 2 ^ i < 2 ^ (j + 1) := by omega
        rw [hi]; exact Nat.pow_le_pow_right (by omega) (by have := pow_lt_pow h3; omega)
    obtain ⟨y, z, hs, hy1, hyT, hzT⟩ := tiles_split j p _ x hT hd' (by omega) hh
    rw [e2, ← Nat.add_assoc] at hzT
    by_cases c1 : y = [2 ^ j]
    · by_cases c2 : z = [2 ^ j]
      · subst c1 c2 hs
        exact Or.inl ⟨rfl, by rw [show 2 * 2 ^ j = 2 ^ (j + 1) by omega]; exact hd⟩
      · rw [hs]; exact sib_right y z p _ hyT (ih _ z hzT (Nat.dvd_add hd' (Nat.dvd_refl _)) c2)
    · rw [hs]; exact sib_left y z p (ih p y hyT hd' c1)
theorem sib_tail (p t : Nat) (ts : List Nat) (h : Sib (p + t) ts) : Sib p (t :: ts) := by
  cases ts with
  | nil => exact h.elim
  | cons u us => exact Or.inr h
theorem blocks_unique (e : Nat) (he : e ≤ 2 ^ 32) : ∀ ts p, Tiles p e ts → ¬ Sib p ts → ts = blocks p e := by
  intro ts
  induction ts with
  | nil => intro p hT _; simp only [Tiles] at hT; rw [blocks_none p e (by omega)]
  | cons t ts ih =>
    intro p hT hS
    obtain ⟨⟨k, hk⟩, hd, hts⟩ := hT
    have h1 := tiles_le _ _ _ hts
    have h2 := two_pos k
    have hp : p < e := by omega
    obtain ⟨i, a, -, b, c, -⟩ := blk_spec p e hp he
    have hle := blk_max p e k hp he (hk ▸ hd) (by omega)
    by_cases ht : t = 2 ^ i
    · rw [blocks_cons p e hp he, a, ← ht, ← ih _ hts (fun c => hS (sib_tail p t ts c))]
    · exfalso; apply hS
      obtain ⟨x, y, hs, hx1, hxT, hyT⟩ := tiles_split i p e (t :: ts) ⟨⟨k, hk⟩, hd, hts⟩ b c (by show t ≤ 2 ^ i; omega)
      rw [hs]
      refine sib_left x y p (sib_of i p x hxT b ?_)
      intro cx; rw [cx] at hs; exact ht (List.cons.inj hs).1
theorem blocks_nosib (e : Nat) (he : e ≤ 2 ^ 32) : ∀ n p, e - p = n → ¬ Sib p (blocks p e) := by
  intro n
  induction n using Nat.strongRecOn with
  | ind n IH =>
  intro p hn hS
  by_cases hp : p < e
  · rw [blocks_cons p e hp he] at hS
    obtain ⟨i, a, -, b, c, d⟩ := blk_spec p e hp he
    have hb := blk_pos p e hp he
    by_cases hp2 : p + blk p e < e
    · have hS' := hS
      rw [blocks_cons (p + blk p e) e hp2 he] at hS
      rcases hS with h | h
      · obtain ⟨i', a', -, -, c', -⟩ := blk_spec (p + blk p e) e hp2 he
        apply d
        have e2 : 2 ^ (i + 1) = 2 * 2 ^ i := by rw [Nat.pow_succ]; omega
        rw [e2, ← a]
        exact ⟨h.2, by omega⟩
      · rw [← blocks_cons (p + blk p e) e hp2 he] at h
        exact IH (e - (p + blk p e)) (by omega) _ rfl h
    · rw [blocks_none (p + blk p e) e (by omega)] at hS; exact hS
  · rw [blocks_none p e (by omega)] at hS; exact hS
end C
end Go.Proofs.YtkljajfgdelfgaaDoor
namespace Go.Proofs.YtkljajfgdelfgaaDoor

namespace C
theorem tiles_fun : ∀ x p q r, Tiles p q x → Tiles p r x → q = r := by
  intro x
  induction x with
  | nil => intro p q r h1 h2; simp only [Tiles] at h1 h2; omega
  | cons t ts ih => intro p q r h1 h2; exact ih _ _ _ h1.2.2 h2.2.2
theorem sib_snoc : ∀ (x : List Nat) (t p : Nat), Sib p (x ++ [t]) → (∃ q, Tiles p q x) → Sib p x ∨ ∃ x' u q, x = x' ++ [u] ∧ Tiles p q x' ∧ u = t ∧ 2 * u ∣ q := by
  intro x
  induction x with
  | nil => intro t p h _; exact h.elim
  | cons u us ih =>
    intro t p h hq
    obtain ⟨q, hq⟩ := hq
    cases us with
    | nil =>
      rcases h with h | h
      · exact Or.inr ⟨[], u, p, rfl, rfl, h.1, h.2⟩
      · exact h.elim
    | cons v vs =>
      rcases h with h | h
      · exact Or.inl (Or.inl h)
      · rcases ih t (p + u) h ⟨q, hq.2.2⟩ with h | ⟨x', u', q', e, hT, h1, h2⟩
        · exact Or.inl (Or.inr h)
        · exact Or.inr ⟨u :: x', u', q', by rw [e]; rfl, ⟨hq.1, hq.2.1, hT⟩, h1, h2⟩
/-- A block with its hash. -/
structure Bk (α : Type) where
  b : Nat
  s : Nat
  h : α
section
variable {α : Type} (nd : α → α → α) (z : α)
/-- A block comes behind a stack of blocks (the last one first). -/
def push : List (Bk α) → Bk α → List (Bk α)
  | [], x => [x]
  | f :: st, x => if f.s = x.s ∧ f.b % (2 * f.s) = 0 then push st ⟨f.b, 2 * f.s, nd f.h x.h⟩ else x :: f :: st
theorem push_nil (x : Bk α) : push nd [] x = [x] := rfl
theorem push_join (f : Bk α) (st : List (Bk α)) (x : Bk α) (h1 : f.s = x.s) (h2 : f.b % (2 * f.s) = 0) : push nd (f :: st) x = push nd st ⟨f.b, 2 * f.s, nd f.h x.h⟩ := by rw [push, if_pos ⟨h1, h2⟩]
theorem push_stay (f : Bk α) (st : List (Bk α)) (x : Bk α) (h : ¬ (f.s = x.s ∧ f.b % (2 * f.s) = 0)) : push nd (f :: st) x = x :: f :: st := by rw [push, if_neg h]
/-- The blocks of a range with their hashes. -/
def mkB : Nat → List Nat → List α → List (Bk α)
  | p, t :: ts, h :: hs => ⟨p, t, h⟩ :: mkB (p + t) ts hs
  | _, _, _ => []
theorem mkB_length : ∀ (ts : List Nat) (hs : List α) p, hs.length = ts.length → (mkB p ts hs).length = ts.length := by
  intro ts
  induction ts with
  | nil => intro hs p _; cases hs <;> rfl
  | cons t ts ih =>
    intro hs p h
    cases hs with
    | nil => simp at h
    | cons g gs => rw [mkB, List.length_cons, ih gs _ (by simpa using h), List.length_cons]
theorem mkB_append : ∀ (x y : List Nat) (hx hy : List α) p q, Tiles p q x → hx.length = x.length → mkB p (x ++ y) (hx ++ hy) = mkB p x hx ++ mkB q y hy := by
  intro x
  induction x with
  | nil => intro y hx hy p q h hl; simp only [Tiles] at h; subst h; rw [List.length_eq_zero_iff.1 hl]; rfl
  | cons t ts ih =>
    intro y hx hy p q h hl
    cases hx with
    | nil => simp at hl
    | cons g gs => rw [List.cons_append, List.cons_append, mkB, mkB, ih y gs hy _ _ h.2.2 (by simpa using hl), List.cons_append]
theorem mkB_h : ∀ (ts : List Nat) (hs : List α) p, hs.length = ts.length → (mkB p ts hs).map (·.h) = hs := by
  intro ts
  induction ts with
  | nil => intro hs p h; rw [List.length_eq_zero_iff.1 h]; rfl
  | cons t ts ih =>
    intro hs p h
    cases hs with
    | nil => simp at h
    | cons g gs => rw [mkB, List.map_cons, ih gs _ (by simpa using h)]
/-- What a block of the stack says of itself. -/
def Ok (R : Nat → Nat → α) (Z : Nat → Option Nat) (x : Bk α) : Prop := (∃ i, x.s = 2 ^ i) ∧ x.s ∣ x.b ∧ x.h = R x.b x.s ∧ ∀ t, Z x.b = some t → t ≤ x.s
/-- A stack of blocks from p up to q, no two of which make one. -/
def Stk (R : Nat → Nat → α) (Z : Nat → Option Nat) (p : Nat) : Nat → List (Bk α) → Prop
  | q, [] => p = q
  | q, f :: st => f.b + f.s = q ∧ Ok R Z f ∧ (∀ g st', st = g :: st' → ¬ (g.s = f.s ∧ g.b % (2 * g.s) = 0)) ∧ Stk R Z p f.b st
theorem stk_le (R : Nat → Nat → α) (Z : Nat → Option Nat) (p : Nat) : ∀ st q, Stk R Z p q st → p ≤ q ∧ ∀ f ∈ st, f.b + f.s ≤ q := by
  intro st
  induction st with
  | nil => intro q h; simp only [Stk] at h; exact ⟨by omega, fun f hf => by simp at hf⟩
  | cons f st ih =>
    intro q h
    obtain ⟨h1, -, -, h4⟩ := h
    obtain ⟨i1, i2⟩ := ih _ h4
    refine ⟨by omega, fun g hg => ?_⟩
    rcases List.mem_cons.1 hg with rfl | hg
    · omega
    · have := i2 g hg; omega
theorem push_ok (R : Nat → Nat → α) (Z : Nat → Option Nat) (hR : ∀ p j, ¬ Z p = some (2 ^ (j + 1)) → R p (2 ^ (j + 1)) = nd (R p (2 ^ j)) (R (p + 2 ^ j) (2 ^ j))) (p : Nat) :
    ∀ st x, Stk R Z p x.b st → Ok R Z x → Stk R Z p (x.b + x.s) (push nd st x) := by
  intro st
  induction st with
  | nil => intro x h1 h2; exact ⟨rfl, h2, fun g st' e => (nomatch e), h1⟩
  | cons f st ih =>
    intro x h1 h2
    by_cases hc : f.s = x.s ∧ f.b % (2 * f.s) = 0
    · rw [push_join nd f st x hc.1 hc.2]
      obtain ⟨e1, ⟨⟨i, ei⟩, e3, e4, e5⟩, -, e7⟩ := h1
      obtain ⟨⟨k, ek⟩, k3, k4, k5⟩ := h2
      have e2 : 2 ^ (i + 1) = 2 * 2 ^ i := by rw [Nat.pow_succ]; omega
      have hpos := two_pos i
      have := ih ⟨f.b, 2 * f.s, nd f.h x.h⟩ e7 ⟨⟨i + 1, by show 2 * f.s = _; rw [ei, e2]⟩, Nat.dvd_of_mod_eq_zero hc.2, by
        show nd f.h x.h = R f.b (2 * f.s)
        rw [ei, ← e2, hR f.b i (fun c => by have := e5 _ c; rw [ei] at this; omega), e4, ei, k4, ← e1, ← hc.1, ei], fun t ht => by
        show t ≤ 2 * f.s
        have := e5 t ht; omega⟩
      have e : f.b + 2 * f.s = x.b + x.s := by omega
      rw [← e]
      exact this
    · rw [push_stay nd f st x hc]
      refine ⟨rfl, h2, fun g st' e => ?_, h1⟩
      injection e with e _; subst e; exact hc
theorem stk_out (R : Nat → Nat → α) (Z : Nat → Option Nat) (p : Nat) : ∀ st q, Stk R Z p q st → Tiles p q (st.reverse.map (·.s)) ∧ ¬ Sib p (st.reverse.map (·.s)) ∧ st.reverse.map (·.h) = vals R p (st.reverse.map (·.s)) := by
  intro st
  induction st with
  | nil => intro q h; exact ⟨h, fun c => c, rfl⟩
  | cons f st ih =>
    intro q h
    obtain ⟨e1, ⟨ei, e3, e4, -⟩, e6, e7⟩ := h
    obtain ⟨i1, i2, i3⟩ := ih _ e7
    have hT : Tiles f.b q [f.s] := ⟨ei, e3, e1⟩
    rw [List.reverse_cons, List.map_append, List.map_append, List.map_cons, List.map_nil, List.map_cons, List.map_nil]
    refine ⟨tiles_append _ _ _ _ _ i1 hT, fun c => ?_, ?_⟩
    · rcases sib_snoc _ _ _ c ⟨_, i1⟩ with c | ⟨x', u, q', hx, hT', hu, hd⟩
      · exact i2 c
      · cases st with
        | nil => simp at hx
        | cons g st' =>
          obtain ⟨g1, -, -, g7⟩ := e7
          rw [List.reverse_cons, List.map_append, List.map_cons, List.map_nil] at hx
          obtain ⟨a1, a2⟩ := List.append_inj' hx rfl
          have a3 : g.s = u := by simpa using a2
          rw [← a1] at hT'
          have hb : q' = g.b := by
            have h5 : Tiles p g.b (st'.reverse.map (·.s)) := by
              have : ∀ st q, Stk R Z p q st → Tiles p q (st.reverse.map (·.s)) := by
                intro st
                induction st with
                | nil => intro q h; exact h
                | cons f st ih =>
                  intro q h
                  obtain ⟨e1, ⟨ei, e3, e4, -⟩, e6, e7⟩ := h
                  rw [List.reverse_cons, List.map_append, List.map_cons, List.map_nil]
                  exact tiles_append _ _ _ _ _ (ih _ e7) ⟨ei, e3, e1⟩
              exact this _ _ g7
            exact tiles_fun _ _ _ _ hT' h5
          refine e6 g st' rfl ⟨by omega, ?_⟩
          rw [a3, ← hb]; exact Nat.mod_eq_zero_of_dvd hd
    · rw [vals_append R _ _ _ _ i1, i3, vals, vals, e4]
/-- What comes of the hashes of two ranges side by side. -/
def glue (p m e : Nat) (ha hb : List α) : List α := join nd z (blocks p e) (blocks p m ++ blocks m e) (ha ++ hb)
theorem glue_length (p m e : Nat) (ha hb : List α) (h1 : p ≤ m) (h2 : m ≤ e) (he : e ≤ 2 ^ 32) (la : ha.length = (blocks p m).length) (lb : hb.length = (blocks m e).length) : (glue nd z p m e ha hb).length = (blocks p e).length := by
  have t1 := blocks_tiles _ p m rfl h1 (by omega)
  have t2 := blocks_tiles _ m e rfl h2 he
  have t3 := tiles_append _ _ _ _ _ t1 t2
  rw [glue, join_any nd z p e _ _ he t3 (by rw [List.length_append, List.length_append, la, lb]), vals_length]
theorem push_all (P : α → Prop) (hnd : ∀ a b, P (nd a b)) : ∀ st x, (∀ f ∈ st, P f.h) → P x.h → ∀ f ∈ push nd st x, P f.h := by
  intro st
  induction st with
  | nil => intro x _ h f hf; rw [push_nil] at hf; simp only [List.mem_singleton] at hf; rw [hf]; exact h
  | cons g st ih =>
    intro x hs h f hf
    by_cases hc : g.s = x.s ∧ g.b % (2 * g.s) = 0
    · rw [push_join nd g st x hc.1 hc.2] at hf
      exact ih _ (fun f hf => hs f (List.mem_cons_of_mem _ hf)) (hnd _ _) f hf
    · rw [push_stay nd g st x hc] at hf
      rcases List.mem_cons.1 hf with rfl | hf
      · exact h
      · exact hs f hf
theorem push_length : ∀ st x, (push nd st x).length ≤ st.length + 1 := by
  intro st
  induction st with
  | nil => intro x; simp [push]
  | cons g st ih =>
    intro x
    by_cases hc : g.s = x.s ∧ g.b % (2 * g.s) = 0
    · rw [push_join nd g st x hc.1 hc.2]; have := ih ⟨g.b, 2 * g.s, nd g.h x.h⟩; simp; omega
    · rw [push_stay nd g st x hc]; simp
/-- Within a round: a block is about to come behind a stack. -/
def Mid (p e : Nat) (ss : List Nat) (hs : List α) (st : List (Bk α)) (x : Bk α) : Prop := Stk (fr nd z p ss hs) (sz p ss) p x.b st ∧ Ok (fr nd z p ss hs) (sz p ss) x ∧ x.b + x.s ≤ e
theorem Mid.join {p e : Nat} {ss : List Nat} {hs : List α} {st : List (Bk α)} {f x : Bk α} (h : Mid nd z p e ss hs (f :: st) x) (h1 : f.s = x.s) (h2 : f.b % (2 * f.s) = 0) : Mid nd z p e ss hs st ⟨f.b, 2 * f.s, nd f.h x.h⟩ := by
  obtain ⟨⟨e1, ⟨⟨i, ei⟩, e3, e4, e5⟩, -, e7⟩, ⟨⟨k, ek⟩, k3, k4, k5⟩, hb⟩ := h
  have e2 : 2 ^ (i + 1) = 2 * 2 ^ i := by rw [Nat.pow_succ]; omega
  have hpos := two_pos i
  refine ⟨e7, ⟨⟨i + 1, by show 2 * f.s = _; rw [ei, e2]⟩, Nat.dvd_of_mod_eq_zero h2, ?_, fun t ht => ?_⟩, ?_⟩
  · show nd f.h x.h = fr nd z p ss hs f.b (2 * f.s)
    rw [ei, ← e2, fr_two nd z p ss hs f.b i (fun c => by have := e5 _ c; rw [ei] at this; omega), e4, ei, k4, ← e1, ← h1, ei]
  · show t ≤ 2 * f.s
    have := e5 t ht; omega
  · show f.b + 2 * f.s ≤ e
    omega
theorem Mid.bound {p e : Nat} {ss : List Nat} {hs : List α} {st : List (Bk α)} {x : Bk α} (h : Mid nd z p e ss hs st x) : x.b + x.s ≤ e ∧ 0 < x.s ∧ ∀ f ∈ st, f.b + f.s ≤ x.b := by
  obtain ⟨h1, ⟨⟨k, ek⟩, -⟩, hb⟩ := h
  exact ⟨hb, by rw [ek]; exact two_pos k, (stk_le _ _ _ _ _ h1).2⟩
/-- The first k blocks of a row have come onto the stack. -/
def Inv (p e : Nat) (ss : List Nat) (hs : List α) (k : Nat) (st : List (Bk α)) : Prop :=
  st.length ≤ k ∧ ∃ x y hx hy q, ss = x ++ y ∧ hs = hx ++ hy ∧ x.length = k ∧ hx.length = k ∧ hy.length = y.length ∧ Tiles p q x ∧ Tiles q e y ∧ Stk (fr nd z p ss hs) (sz p ss) p q st
theorem Inv.start (p e : Nat) (ss : List Nat) (hs : List α) (hT : Tiles p e ss) (hl : hs.length = ss.length) : Inv nd z p e ss hs 0 [] :=
  ⟨Nat.le_refl _, [], ss, [], hs, p, rfl, rfl, rfl, rfl, hl, rfl, hT, rfl⟩
theorem mkB_get : ∀ (x : List Nat) (hx : List α) (t : Nat) (ts : List Nat) (g : α) (gs : List α) p q, Tiles p q x → hx.length = x.length → (mkB p (x ++ t :: ts) (hx ++ g :: gs))[x.length]? = some ⟨q, t, g⟩ := by
  intro x hx t ts g gs p q hT hl
  rw [mkB_append _ _ _ _ _ _ hT hl, List.getElem?_append_right (by rw [mkB_length _ _ _ hl]; exact Nat.le_refl _), mkB_length _ _ _ hl, Nat.sub_self]
  rfl
theorem Inv.item {p e : Nat} {ss : List Nat} {hs : List α} {k : Nat} {st : List (Bk α)} (h : Inv nd z p e ss hs k st) (hk : k < ss.length) :
    ∃ x, (mkB p ss hs)[k]? = some x ∧ Mid nd z p e ss hs st x ∧ Inv nd z p e ss hs (k + 1) (push nd st x) := by
  obtain ⟨hlen, x, y, hx, hy, q, e1, e2, l1, l2, l3, T1, T2, hS⟩ := h
  cases y with
  | nil => rw [e1, List.append_nil] at hk; omega
  | cons t ts =>
    cases hy with
    | nil => simp at l3
    | cons g gs =>
      have hT := tiles_append _ _ _ _ _ T1 T2
      rw [← e1] at hT
      have ht := all_sz (t :: ts) x p q e T1 T2
      have hv := vals_free nd z (t :: ts) x hx (g :: gs) p q e T1 T2 (by omega) l3
      rw [← e1, ← e2] at hv
      rw [← e1] at ht
      have hO : Ok (fr nd z p ss hs) (sz p ss) ⟨q, t, g⟩ := ⟨T2.1, T2.2.1, by
        rw [vals] at hv; injection hv with hv _; exact hv.symm, fun t' ht' => by
        have h4 : sz p ss q = some t := ht.1
        show t' ≤ t
        rw [show sz p ss q = some t' from ht'] at h4; injection h4 with h4; omega⟩
      refine ⟨⟨q, t, g⟩, ?_, ⟨hS, hO, tiles_le _ _ _ T2.2.2⟩, ?_, x ++ [t], ts, hx ++ [g], gs, q + t, ?_, ?_, ?_, ?_, by simpa using l3, tiles_append _ _ _ _ _ T1 ⟨T2.1, T2.2.1, rfl⟩, T2.2.2, ?_⟩
      · rw [e1, e2, ← l1]; exact mkB_get x hx t ts g gs p q T1 (by omega)
      · have := push_length nd st ⟨q, t, g⟩; omega
      · rw [e1, List.append_assoc]; rfl
      · rw [e2, List.append_assoc]; rfl
      · simp; omega
      · simp; omega
      · exact push_ok nd _ _ (fun r j hr => fr_two nd z p ss hs r j hr) p st ⟨q, t, g⟩ hS hO
theorem Inv.done {p m e : Nat} {ha hb : List α} {k : Nat} {st : List (Bk α)} (h : Inv nd z p e (blocks p m ++ blocks m e) (ha ++ hb) k st) (he : e ≤ 2 ^ 32) (hk : k = (blocks p m ++ blocks m e).length) (hl : (ha ++ hb).length = (blocks p m ++ blocks m e).length) : st.reverse.map (·.h) = glue nd z p m e ha hb := by
  obtain ⟨-, x, y, hx, hy, q, e1, e2, l1, l2, l3, T1, T2, hS⟩ := h
  have hy0 : y = [] := by
    have := congrArg List.length e1
    rw [show (x ++ y).length = x.length + y.length by simp] at this
    exact List.length_eq_zero_iff.1 (by omega)
  subst hy0
  simp only [Tiles] at T2
  subst T2
  have t3 := tiles_append _ _ _ _ _ T1 (show Tiles q q [] from rfl)
  rw [← e1] at t3
  obtain ⟨a1, a2, a3⟩ := stk_out _ _ p _ q hS
  rw [glue, join_any nd z p q _ _ he t3 hl, a3, blocks_unique q he _ p a1 a2]
end
end C
end Go.Proofs.YtkljajfgdelfgaaDoor

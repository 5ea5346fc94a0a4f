/- Plain facts on counts: which states fit, by pairs; rows that are turned round. -/
import Derived.Test.YtijhndmmljicmaaDoorH
namespace Go.Proofs.YtijhndmmljicmaaDoor
theorem cnt_succ (p : Int → Bool) (f : Nat → Int) (k : Nat) : cntF p f (k + 1) = cntF p f k + (if p (f k) then 1 else 0) := rfl
theorem cnt_mono (p : Int → Bool) (f : Nat → Int) {k n : Nat} (h : k ≤ n) : cntF p f k ≤ cntF p f n := by
  induction n with
  | zero => obtain rfl : k = 0 := by omega
            exact Nat.le_refl _
  | succ n ih =>
    rw [cnt_succ]
    by_cases e : k = n + 1
    · subst e; rw [cnt_succ]; exact Nat.le_refl _
    · have := ih (by omega); omega
theorem cnt_one {p : Int → Bool} {f : Nat → Int} {k n : Nat} (h : k < n) (hp : p (f k) = true) : cntF p f k + 1 ≤ cntF p f n := by
  have := cnt_mono p f (show k + 1 ≤ n from h)
  rw [cnt_succ, hp] at this
  simpa using this
theorem cnt_two {p : Int → Bool} {f : Nat → Int} {k i n : Nat} (hk : k < i) (hi : i < n) (h1 : p (f k) = true) (h2 : p (f i) = true) : 2 ≤ cntF p f n := by
  have a := cnt_one hk h1
  have c := cnt_one hi h2
  omega
theorem cnt_zero {p : Int → Bool} {f : Nat → Int} {n : Nat} (h : ∀ k, k < n → p (f k) = false) : cntF p f n = 0 := by
  induction n with
  | zero => rfl
  | succ n ih => rw [cnt_succ, ih (fun k hk => h k (by omega)), h n (by omega)]; rfl
theorem cnt_some {p : Int → Bool} {f : Nat → Int} {n : Nat} (h : cntF p f n ≠ 0) : ∃ k, k < n ∧ p (f k) = true := by
  induction n with
  | zero => exact absurd rfl h
  | succ n ih =>
    cases e : p (f n)
    · rw [cnt_succ, e] at h
      obtain ⟨k, hk, hp⟩ := ih (by simpa using h)
      exact ⟨k, by omega, hp⟩
    · exact ⟨n, by omega, e⟩
theorem all_at {p : Int → Bool} {f : Nat → Int} {n k : Nat} (h : allF p f n = true) (hk : k < n) : p (f k) = true := by
  cases e : p (f k)
  · rw [all_false hk e] at h; cases h
  · rfl
theorem all_of {p : Int → Bool} {f : Nat → Int} {n : Nat} (h : ∀ k, k < n → p (f k) = true) : allF p f n = true := by
  induction n with
  | zero => rfl
  | succ n ih => rw [all_succ, ih (fun k hk => h k (by omega)), h n (by omega)]; rfl
theorem val_of {s : Int} (h : isB s = true) : s = 0 ∨ s = 1 ∨ s = 2 ∨ s = 3 ∨ s = 4 := five (by unfold isB at h; simpa using h)
theorem va_of {s : Int} (h : isB s = true) (h0 : s ≠ 0) : vaB s = true := by rcases val_of h with rfl | rfl | rfl | rfl | rfl <;> first | rfl | exact absurd rfl h0
theorem va_of_st {s : Int} (h : stB s = true) : vaB s = true := by
  have : s = 2 ∨ s = 4 := by unfold stB at h; simpa using h
  rcases this with rfl | rfl <;> rfl
theorem va_zero : vaB 0 = false := rfl
/-- Do two states stand in each other's way? -/
def vioB (x y : Int) : Bool := owB x && owB y || (stB x && y != 0 || stB y && x != 0)
theorem fit_iff (f : Nat → Int) (n : Nat) : fitB f n = true ↔ allF isB f n = true ∧ cntF owB f n ≤ 1 ∧ (cntF stB f n = 0 ∨ cntF vaB f n = 1) := by
  simp [fitB]
theorem fit_vio {f : Nat → Int} {k i n : Nat} (hk : k < i) (hi : i < n) (h : vioB (f i) (f k) = true) : fitB f n = false := by
  cases e : fitB f n
  · rfl
  · obtain ⟨ha, ho, hs⟩ := (fit_iff f n).1 e
    have hik := all_at ha (show k < n by omega)
    have hii := all_at ha hi
    exfalso
    unfold vioB at h
    simp at h
    rcases h with ⟨h1, h2⟩ | ⟨h1, h2⟩ | ⟨h1, h2⟩
    · have := cnt_two hk hi h2 h1; omega
    · have a := cnt_two (p := vaB) hk hi (va_of hik h2) (va_of_st h1)
      have c := cnt_one hi h1
      omega
    · have a := cnt_two (p := vaB) hk hi (va_of_st h1) (va_of hii h2)
      have c := cnt_one (n := n) (show k < n by omega) h1
      omega
theorem fit_step {f : Nat → Int} {n : Nat} (h : fitB f n = true) (hi : isB (f n) = true) (hv : ∀ k, k < n → vioB (f n) (f k) = false) : fitB f (n + 1) = true := by
  obtain ⟨ha, ho, hs⟩ := (fit_iff f n).1 h
  have hv' : ∀ k, k < n → ¬ (owB (f n) = true ∧ owB (f k) = true) ∧ ¬ (stB (f n) = true ∧ f k ≠ 0) ∧ ¬ (stB (f k) = true ∧ f n ≠ 0) := fun k hk => by
    have := hv k hk
    unfold vioB at this
    simp at this
    refine ⟨fun ⟨a, c⟩ => ?_, fun ⟨a, c⟩ => ?_, fun ⟨a, c⟩ => ?_⟩
    · have := this.1 a; rw [c] at this; cases this
    · exact c (this.2.1 a)
    · exact c (this.2.2 a)
  refine (fit_iff f (n + 1)).2 ⟨by rw [all_succ, ha, hi]; rfl, ?_, ?_⟩
  · cases e : owB (f n)
    · rw [cnt_succ, e]; simpa using ho
    · have z : cntF owB f n = 0 := cnt_zero fun k hk => by
        cases e2 : owB (f k)
        · rfl
        · exact absurd ⟨e, e2⟩ (hv' k hk).1
      rw [cnt_succ, e, z]; simp
  · cases e : stB (f n)
    · by_cases z : cntF stB f n = 0
      · left; rw [cnt_succ, e, z]; simp
      · right
        obtain ⟨k, hk, hp⟩ := cnt_some z
        have f0 : f n = 0 := by
          by_cases q : f n = 0
          · exact q
          · exact absurd ⟨hp, q⟩ (hv' k hk).2.2
        rw [cnt_succ, f0, va_zero]
        simp
        omega
    · right
      have z : cntF vaB f n = 0 := cnt_zero fun k hk => by
        have : f k = 0 := by
          by_cases q : f k = 0
          · exact q
          · exact absurd ⟨e, q⟩ (hv' k hk).2.1
        rw [this]; rfl
      rw [cnt_succ, z, va_of_st e]; simp
theorem fit_out {f : Nat → Int} {k n : Nat} (hk : k < n) (h : isB (f k) = false) : fitB f n = false := by
  simp [fitB, all_false hk h]
/-- Counts in two parts. -/
theorem cnt_add (p : Int → Bool) (f : Nat → Int) (a c : Nat) : cntF p f (a + c) = cntF p f a + cntF p (fun j => f (a + j)) c := by
  induction c with
  | zero => rfl
  | succ c ih => rw [← Nat.add_assoc, cnt_succ, cnt_succ, ih]; omega
theorem cnt_congr {p : Int → Bool} {f g : Nat → Int} {n : Nat} (h : ∀ k, k < n → f k = g k) : cntF p f n = cntF p g n := by
  induction n with
  | zero => rfl
  | succ n ih => rw [cnt_succ, cnt_succ, ih (fun k hk => h k (by omega)), h n (by omega)]
theorem cnt_turn (p : Int → Bool) (f : Nat → Int) {n r : Nat} (hr : r < n) : cntF p (fun j => f ((r + j) % n)) n = cntF p f n := by
  have e1 : n = (n - r) + r := by omega
  have e2 : n = r + (n - r) := by omega
  have a1 : cntF p (fun j => f ((r + j) % n)) n = cntF p (fun j => f ((r + j) % n)) (n - r) + cntF p (fun j => f ((r + ((n - r) + j)) % n)) r := by
    conv => lhs; rw [e1]
    have := cnt_add p (fun j => f ((r + j) % n)) (n - r) r
    rw [← e1] at this ⊢
    exact this
  have a2 : cntF p f n = cntF p f r + cntF p (fun j => f (r + j)) (n - r) := by
    have := cnt_add p f r (n - r)
    rw [← e2] at this
    exact this
  have b1 : cntF p (fun j => f ((r + j) % n)) (n - r) = cntF p (fun j => f (r + j)) (n - r) := cnt_congr fun k hk => by
    rw [Nat.mod_eq_of_lt (by omega)]
  have b2 : cntF p (fun j => f ((r + ((n - r) + j)) % n)) r = cntF p f r := cnt_congr fun k hk => by
    rw [show r + ((n - r) + k) = k + n by omega, Nat.add_mod_right, Nat.mod_eq_of_lt (by omega)]
  omega
theorem all_cnt (p : Int → Bool) (f : Nat → Int) (n : Nat) : allF p f n = decide (cntF p f n = n) := by
  induction n with
  | zero => rfl
  | succ n ih =>
    have l := cnt_le p f n
    rw [all_succ, ih, cnt_succ]
    cases e : p (f n)
    · simp; omega
    · simp
theorem fit_turn (f : Nat → Int) {n r : Nat} (hr : r < n) : fitB (fun j => f ((r + j) % n)) n = fitB f n := by
  unfold fitB
  rw [all_cnt, all_cnt, cnt_turn isB f hr, cnt_turn owB f hr, cnt_turn stB f hr, cnt_turn vaB f hr]
end Go.Proofs.YtijhndmmljicmaaDoor

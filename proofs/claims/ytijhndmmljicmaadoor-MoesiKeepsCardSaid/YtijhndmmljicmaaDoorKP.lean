/- MoesiKeeps: plain facts. -/
import Derived.Test.YtijhndmmljicmaaDoorST
import Derived.WalkKit
import Derived.WalkSpells
import Derived.ProofKit
import Derived.Outline
import Derived.Handy
import Derived.RowKit3
import Derived.BigQuiet
import Derived.Deep.QuietTactic
import Derived.Deep.RegionHeld3
import Derived.IntWalk
import Derived.LoopTactic
import Derived.OwnWalk
import Derived.Laws.AppendOwn
import Derived.Laws.OwnMore
import Derived.Maps.AppendAt
namespace Go.Proofs.YtijhndmmljicmaaDoor
open Go.RowKit
set_option linter.unusedVariables false
set_option maxRecDepth 100000

def sk (r j : Nat) : Nat := if j < r then j else j + 1
def mN (r k : Nat) : Nat := if k ≤ r then k else k - 1
theorem mN_self (r : Nat) : mN r (r + 1) = mN r r := by unfold mN; rw [if_neg (by omega), if_pos (by omega)]; rfl
theorem mN_step {r k : Nat} (h : k ≠ r) : mN r (k + 1) = mN r k + 1 := by
  unfold mN
  by_cases a : k ≤ r
  · rw [if_pos a, if_pos (by omega)]
  · rw [if_neg a, if_neg (by omega)]; omega
theorem sk_mN {r k : Nat} (h : k ≠ r) : sk r (mN r k) = k := by
  unfold sk mN
  by_cases a : k ≤ r
  · rw [if_pos a, if_pos (by omega)]
  · rw [if_neg a, if_neg (by omega)]; omega
theorem mN_end {r n : Nat} (h : r < n) : mN r n = n - 1 := by unfold mN; rw [if_neg (by omega)]
theorem sk_lt {r j n : Nat} (hr : r < n) (hj : j < n - 1) : sk r j < n ∧ sk r j ≠ r := by
  unfold sk; split <;> omega
theorem cnt_imp {p q : Int → Bool} {f g : Nat → Int} {n : Nat} (h : ∀ k, k < n → p (f k) = true → q (g k) = true) : cntF p f n ≤ cntF q g n := by
  induction n with
  | zero => exact Nat.le_refl _
  | succ n ih =>
    have i := ih (fun k hk => h k (by omega))
    rw [cnt_succ, cnt_succ]
    cases e : p (f n)
    · simp; omega
    · rw [h n (by omega) e]; simp; omega
theorem cnt_skip {p : Int → Bool} (f : Nat → Int) {n r : Nat} (hr : r < n) : cntF p (fun j => f (sk r j)) (n - 1) ≤ cntF p f n := by
  have a := cnt_add p f r (n - r)
  rw [show r + (n - r) = n by omega] at a
  have c := cnt_add p (fun j => f (r + j)) 1 (n - r - 1)
  rw [show 1 + (n - r - 1) = n - r by omega] at c
  have d := cnt_add p (fun j => f (sk r j)) r (n - 1 - r)
  rw [show r + (n - 1 - r) = n - 1 by omega] at d
  have e1 : cntF p (fun j => f (sk r j)) r = cntF p f r := cnt_congr fun k hk => by unfold sk; rw [if_pos hk]
  have e2 : cntF p (fun j => f (sk r (r + j))) (n - 1 - r) = cntF p (fun j => f (r + (1 + j))) (n - r - 1) := by
    rw [show n - 1 - r = n - r - 1 by omega]
    exact cnt_congr fun k hk => by unfold sk; rw [if_neg (by omega), show r + k + 1 = r + (1 + k) by omega]
  omega
theorem pr_is {s : Int} (h : isB s = true) : isB (prB s) = true := by rcases val_of h with rfl | rfl | rfl | rfl | rfl <;> rfl
theorem pr_st {s : Int} (h : isB s = true) : stB (prB s) = false := by rcases val_of h with rfl | rfl | rfl | rfl | rfl <;> rfl
theorem pr_ow {s : Int} (h : isB s = true) (h2 : owB (prB s) = true) : owB s = true := by rcases val_of h with rfl | rfl | rfl | rfl | rfl <;> first | rfl | cases h2
theorem di_ow {s : Int} (h : diB s = true) : owB s = true := by
  have : s = 3 ∨ s = 4 := by unfold diB at h; simpa using h
  rcases this with rfl | rfl <;> rfl
theorem told_le {f : Nat → Int} {n r : Nat} (h : fitB f n = true) : cntF owB (setF f r 0) n ≤ 1 := by
  have a : cntF owB (setF f r 0) n ≤ cntF owB f n := cnt_imp fun k hk hp => by
    unfold setF at hp
    split at hp
    · cases hp
    · exact hp
  have := ((fit_iff f n).1 h).2.1
  omega
theorem dirty_le {f : Nat → Int} {n r : Nat} (h : fitB f n = true) : cntF diB (setF f r 0) n ≤ 1 := by
  have a : cntF diB (setF f r 0) n ≤ cntF owB f n := cnt_imp fun k hk hp => by
    unfold setF at hp
    split at hp
    · cases hp
    · exact di_ow hp
  have := ((fit_iff f n).1 h).2.1
  omega
/-- The others behind their probe: to Invalid, to Sharing. -/
def oth0 : Nat → Int := fun _ => 0
def oth1 (f : Nat → Int) (r : Nat) : Nat → Int := fun j => prB (f (sk r j))
def endF (g : Nat → Int) (m : Nat) (v : Int) : Nat → Int := fun j => if j = m then v else g j
theorem cellsOf_congr {f g : Nat → Int} {n : Nat} (h : ∀ k, k < n → f k = g k) : cellsOf f n = cellsOf g n := by
  unfold cellsOf
  apply List.map_congr_left
  intro j hj
  rw [h j (by simpa using hj)]
theorem cellsOf_end (g : Nat → Int) (m : Nat) (v : Int) : cellsOf g m ++ [.int .i64 v] = cellsOf (endF g m v) (m + 1) := by
  rw [cellsOf_succ, cellsOf_congr (f := endF g m v) (g := g) fun k hk => by unfold endF; rw [if_neg (by omega)]]
  simp [endF]
theorem gr_w (m : Nat) : grS 2 oth0 m = 4 ∧ grE 2 oth0 m = 0 := by
  have a : allF isB oth0 m = true := all_of fun _ _ => rfl
  have c : allF nvB oth0 m = true := all_of fun _ _ => rfl
  constructor
  · unfold grS; rw [a, c]; rfl
  · unfold grE; rw [a, c]; rfl
theorem any_none {p : Int → Bool} {f : Nat → Int} {n : Nat} (h : ∀ k, k < n → p (f k) = false) : anyF p f n = false := by
  induction n with
  | zero => rfl
  | succ n ih => rw [any_succ, ih (fun k hk => h k (by omega)), h n (by omega)]; rfl
theorem oth1_is {f : Nat → Int} {n r : Nat} (hf : fitB f n = true) (hr : r < n) : ∀ k, k < n - 1 → isB (oth1 f r k) = true := fun k hk => pr_is (all_at ((fit_iff f n).1 hf).1 (sk_lt hr hk).1)
theorem gr_r {f : Nat → Int} {n r : Nat} (hf : fitB f n = true) (hr : r < n) (v : Bool) (hv : allF nvB (oth1 f r) (n - 1) = v) : grS 1 (oth1 f r) (n - 1) = (if v then 2 else 1) ∧ grE 1 (oth1 f r) (n - 1) = 0 := by
  have a : allF isB (oth1 f r) (n - 1) = true := all_of (oth1_is hf hr)
  have c : anyF stB (oth1 f r) (n - 1) = false := any_none fun k hk => pr_st (all_at ((fit_iff f n).1 hf).1 (sk_lt hr hk).1)
  constructor
  · unfold grS; rw [a, c, hv]; cases v <;> rfl
  · unfold grE; rw [a, c]; rfl
theorem fit_w {n : Nat} (hn : 0 < n) : fitB (endF oth0 (n - 1) 4) n = true :=
  fit_only (r := n - 1) (by omega) (by simp [endF]; rfl) fun k hk hne => by simp [endF, hne, oth0]
theorem fit_r2 {f : Nat → Int} {n r : Nat} (hf : fitB f n = true) (hr : r < n) (hv : allF nvB (oth1 f r) (n - 1) = true) : fitB (endF (oth1 f r) (n - 1) 2) n = true :=
  fit_only (r := n - 1) (by omega) (by simp [endF]; rfl) fun k hk hne => by
    have hk' : k < n - 1 := by omega
    have h1 := all_at hv hk'
    have h2 := oth1_is hf hr k hk'
    simp only [endF, hne, if_false]
    rcases val_of h2 with e | e | e | e | e
    · exact e
    all_goals (rw [e] at h1; cases h1)
theorem fit_r1 {f : Nat → Int} {n r : Nat} (hf : fitB f n = true) (hr : r < n) : fitB (endF (oth1 f r) (n - 1) 1) n = true := by
  have hI := oth1_is hf hr
  have e : ∀ k, k < n → endF (oth1 f r) (n - 1) 1 k = 1 ∨ (k < n - 1 ∧ endF (oth1 f r) (n - 1) 1 k = oth1 f r k) := fun k hk => by
    by_cases q : k = n - 1
    · left; simp [endF, q]
    · right; exact ⟨by omega, by simp [endF, q]⟩
  refine (fit_iff _ n).2 ⟨all_of fun k hk => ?_, ?_, .inl (cnt_zero fun k hk => ?_)⟩
  · rcases e k hk with q | ⟨q1, q2⟩
    · rw [q]; rfl
    · rw [q2]; exact hI k q1
  · have a : cntF owB (endF (oth1 f r) (n - 1) 1) n = cntF owB (endF (oth1 f r) (n - 1) 1) (n - 1) := by
      have := cnt_succ owB (endF (oth1 f r) (n - 1) 1) (n - 1)
      rw [show n - 1 + 1 = n by omega] at this
      rw [this, show endF (oth1 f r) (n - 1) 1 (n - 1) = 1 by simp [endF]]
      rfl
    have c : cntF owB (endF (oth1 f r) (n - 1) 1) (n - 1) ≤ cntF owB (fun j => f (sk r j)) (n - 1) := cnt_imp fun k hk hp => by
      rw [show endF (oth1 f r) (n - 1) 1 k = oth1 f r k by simp [endF]; omega] at hp
      exact pr_ow (all_at ((fit_iff f n).1 hf).1 (sk_lt hr hk).1) hp
    have d := cnt_skip (p := owB) f hr
    have := ((fit_iff f n).1 hf).2.1
    omega
  · rcases e k hk with q | ⟨q1, q2⟩
    · rw [q]; rfl
    · rw [q2]; exact pr_st (all_at ((fit_iff f n).1 hf).1 (sk_lt hr q1).1)
theorem granted_v (kind : Int) (n : Nat) (hn : n ≤ 1000) (f : Nat → Int) (gs ge : Int) (h1 : grS kind f n = gs) (h2 : grE kind f n = ge) (sv : Value) (w : World) (T : Tab w) (h : Sl w sv n f) :
    Calls Tryd.prog 25 #[.int .i64 kind, sv] w fun r w' => r = .returned (.tuple #[.int .i64 gs, .int .i64 ge]) ∧ Below w.heap.size w w' := by
  subst h1 h2; exact granted_any kind n hn f sv w T h
theorem appended' {w wr w1 : World} {v v' : Value} {k : Nat} {g : Nat → Int} {p : Int} {o : Obj} (hg : g k = p) (hown : wr.ownsRow w.heap.size 3 1 v k (cellsOf g k)) (hB : Below w.heap.size w wr)
    (hown' : w1.ownsRow w.heap.size 3 1 v' (k + 1) (cellsOf g k ++ [.int .i64 p])) (hgrow : (wr.alloc o).grownBy w1 v.ownBlock) :
    w1.ownsRow w.heap.size 3 1 v' (k + 1) (cellsOf g (k + 1)) ∧ Below w.heap.size w w1 := by
  subst hg; exact appended hown hB hown' hgrow
theorem appendedE {w wr w1 : World} {v v' : Value} {k : Nat} {g : Nat → Int} {p : Int} {o : Obj} (hown : wr.ownsRow w.heap.size 3 1 v k (cellsOf g k)) (hB : Below w.heap.size w wr)
    (hown' : w1.ownsRow w.heap.size 3 1 v' (k + 1) (cellsOf g k ++ [.int .i64 p])) (hgrow : (wr.alloc o).grownBy w1 v.ownBlock) :
    w1.ownsRow w.heap.size 3 1 v' (k + 1) (cellsOf (endF g k p) (k + 1)) ∧ Below w.heap.size w w1 :=
  ⟨by rw [← cellsOf_end]; exact hown', (hB.alloc hB.size o).grown hgrow (by have := hB.size; simp; omega) (fun j hj => (hown.lt j hj).1)⟩
def KwRel (n : Nat) (f : Nat → Int) (r : Nat) (w : World) (v10 v11 v12 v13 : Value) (wr : World) : Prop :=
  ∃ k : Nat, k ≤ n ∧ v13 = .int .i64 k ∧ wr.ownsRow w.heap.size 3 1 v10 (mN r k) (cellsOf oth0 (mN r k)) ∧ v11 = .int .i64 (cntF owB (setF f r 0) k : Nat) ∧ v12 = .int .i64 (cntF diB (setF f r 0) k : Nat) ∧ Below w.heap.size w wr
def KrRel (n : Nat) (f : Nat → Int) (r : Nat) (w : World) (v10 v11 v12 v13 : Value) (wr : World) : Prop :=
  ∃ k : Nat, k ≤ n ∧ v13 = .int .i64 k ∧ wr.ownsRow w.heap.size 3 1 v10 (mN r k) (cellsOf (oth1 f r) (mN r k)) ∧ v11 = .int .i64 (cntF owB (setF f r 0) k : Nat) ∧ v12 = .int .i64 0 ∧ Below w.heap.size w wr
theorem set_ne {f : Nat → Int} {r k : Nat} (h : k ≠ r) {v : Int} (hv : f k = v) {p : Int → Bool} {b : Bool} (hp : p v = b) : p (setF f r 0 k) = b := by
  unfold setF; rw [if_neg h, hv, hp]
theorem set_self {f : Nat → Int} {r : Nat} {p : Int → Bool} (hp : p 0 = false) : p (setF f r 0 r) = false := by
  unfold setF; rw [if_pos rfl, hp]
end Go.Proofs.YtijhndmmljicmaaDoor

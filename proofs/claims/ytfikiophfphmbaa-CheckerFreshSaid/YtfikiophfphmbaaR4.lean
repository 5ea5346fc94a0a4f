/- CheckerFresh, walked. -/
import Derived.Test.YtfikiophfphmbaaR7
import Derived.Test.YtfikiophfphmbaaZ7
import Derived.Test.YtfikiophfphmbaaZ0
import Derived.Test.YtfikiophfphmbaaZ5
import Derived.Test.YtfikiophfphmbaaE1
import Derived.Test.YtfikiophfphmbaaU1
import Derived.WalkKit
import Derived.WalkSpells
import Derived.ProofKit
import Derived.Outline
import Derived.Handy
import Derived.RowKit3
import Derived.BigQuiet
import Derived.Deep.QuietTactic
import Derived.Deep.RegionHeld3
import Derived.Deep.Draws
import Derived.Deep.RegionLaw
import Derived.RegionTactic
import Derived.BigRegion
import Derived.IntWalk
import Derived.LoopTactic
import Derived.OwnWalk
import Derived.Laws.AppendOwn
import Derived.Laws.OwnMore
import Derived.Laws.MakeOwn
import Derived.Laws.Pointers
import Derived.Maps.AppendAt
import Derived.Deep.AppendLies
import Derived.Below
import Derived.RangeFuncNested
import Derived.RangeFuncBound
import Derived.RangeFuncCalls
import Derived.RangeFuncLeaves
import Derived.Shelf.Abstract
import Derived.LoopNIn
import Derived.LoopIn
import Derived.OwnWalkIn
import Derived.TacticsInMore
import Derived.Deep.Cut
import Derived.Deep.CutRange
import Derived.Deep.CutBlock
import Derived.Shelf.RegionOpen
namespace Go.Proofs.Ytfikiophfphmbaa
open Go.Shelf Go.RowKit
set_option linter.unusedVariables false
set_option maxRecDepth 100000

attribute [local go_sem] Oper.semAt_some
def TurnIn (w : World) (av : Option Addr) (L : Nat) (D G X : Nat → Int) (B : Nat → Bool) : Prop := L = 0 ∨ ∃ b off, av = some ⟨b, off, none⟩ ∧ b < w.heap.size ∧ ∀ i, i < L → w.cell? ⟨b, off + i * 4, none⟩ = some (.int .i64 (D i)) ∧ w.cell? ⟨b, off + i * 4 + 1, none⟩ = some (.int .i64 (G i)) ∧ w.cell? ⟨b, off + i * 4 + 2, none⟩ = some (.int .i64 (X i)) ∧ w.cell? ⟨b, off + i * 4 + 2 + 1, none⟩ = some (.bool (B i))
set_option maxHeartbeats 4000000 in
theorem fresh_out (a b : Int) (av : Option Addr) (L c : Nat) (hL : L ≤ maxLen) (h : ¬ ((1 ≤ a ∧ a ≤ 8 ∧ 1 ≤ b ∧ b ≤ 16) ∧ L ≤ 80)) (w : World) : Calls Try.prog 3 #[.agg #[.int .i64 a, .int .i64 b], .slice av L c] w fun r w' => r = .returned (.bool true) ∧ Below w.heap.size w w' := by
  unfold maxLen at hL
  by_cases h1 : 1 ≤ a ∧ a ≤ 8 ∧ 1 ≤ b ∧ b ≤ 16
  · have hm := hide (decide_eq_true h1)
    have h2 : ¬ L ≤ 80 := fun e => h ⟨h1, e⟩
    have h3 : (80 : Int) < L := by omega
    clear h h1
    go_enter Try.func3, Try.ntmps3
    go_wp2_with fail
    refine (mayb a b true hm.out _).mono ?_
    rintro r w1 ⟨rfl, rfl⟩
    go_wp2_with fail
    refine (awake_ok _).mono ?_
    rintro r w1 ⟨rfl, hb⟩
    have x0 : w1.cell? ⟨w.heap.size + 1, 0, none⟩ = some (.bool false) := (hb.cell (p := ⟨w.heap.size + 1, 0, none⟩) (by simp)).trans (by simp [go_sem])
    have x1 : w1.frozen? ⟨w.heap.size + 1, 0, none⟩ = false := (hb.frozen (p := ⟨w.heap.size + 1, 0, none⟩) (by simp)).trans (by simp)
    have BB := hide (below_alloc (below_alloc hb))
    clear hb
    go_wp2
    exact bodyPost_ret (v := .bool true) (by simp [results, Try.results3, go_sem, x0]) rfl ⟨rfl, BB.out.setCell (p := ⟨w.heap.size + 1, 0, none⟩) (by show w.heap.size ≤ w.heap.size + 1; omega) _⟩
  · have hm := hide (decide_eq_false h1)
    clear h h1
    go_enter Try.func3, Try.ntmps3
    go_wp2_with fail
    refine (mayb a b false hm.out _).mono ?_
    rintro r w1 ⟨rfl, rfl⟩
    go_wp2_with fail
    refine (awake_ok _).mono ?_
    rintro r w1 ⟨rfl, hb⟩
    have x0 : w1.cell? ⟨w.heap.size + 1, 0, none⟩ = some (.bool false) := (hb.cell (p := ⟨w.heap.size + 1, 0, none⟩) (by simp)).trans (by simp [go_sem])
    have x1 : w1.frozen? ⟨w.heap.size + 1, 0, none⟩ = false := (hb.frozen (p := ⟨w.heap.size + 1, 0, none⟩) (by simp)).trans (by simp)
    have BB := hide (below_alloc (below_alloc hb))
    clear hb
    go_wp2
    exact bodyPost_ret (v := .bool true) (by simp [results, Try.results3, go_sem, x0]) rfl ⟨rfl, BB.out.setCell (p := ⟨w.heap.size + 1, 0, none⟩) (by show w.heap.size ≤ w.heap.size + 1; omega) _⟩
def FxOf (B en gs T B2 : Nat) (Ds : List Nat) : List (Nat × Obj) := (B, .cells #[.int .i64 en, .int .i64 gs] 22 (0, 0)) :: (B + 1, .cells #[.bool false] 4 (0, 0)) :: (B2, .cells #[.pointer (some ⟨T, 0, none⟩)] 30 (0, 0)) :: Ds.map fun D => (D, .deferred (some []))
/-- What holds at the head of a round's second half. -/
def Cu (w : World) (en gs mn P T E B2 : Nat) (Ds : List Nat) (s9 s10 s11 s12 : Value) (W : World) : Prop := ∃ (o : Nat → Int) (l : Nat → Bool) (ws st : Bool) (gr at_ : Int) (v : Value) (ks : List (Int × Int)) (pl : Int) (rd : Bool) (wd : Int), s9 = .bool ws ∧ s10 = .int .i64 pl ∧ s11 = .bool rd ∧ s12 = .int .i64 wd ∧ (ws = true → pl = at_) ∧ Fs w W (FxOf w.heap.size en gs T B2 Ds) P en gs T E o l ws st gr at_ v ks ∧ Fi mn gs o l ws st gr at_ ks rd wd
def LI (w : World) (en gs mn L P T E B2 : Nat) (s9 s10 s11 s12 s13 : Value) (ds : List Deferred) (W : World) : Prop := ∃ (k : Nat) (Ds : List Nat), k ≤ L ∧ s13 = .int .i64 k ∧ ds = Ds.map ent ∧ Ds.Nodup ∧ (∀ D ∈ Ds, w.heap.size ≤ D) ∧ Cu w en gs mn P T E B2 Ds s9 s10 s11 s12 W
def In3 (w : World) (en gs mn L P T E B0 B2 : Nat) (av : Option Addr) (c : Nat) (a' : Act) (W : World) : Prop := ∃ (v9 v10 v11 v12 v13 : Value) (u : Nat → Value) (ds : List Deferred), LI w en gs mn L P T E B2 v9 v10 v11 v12 v13 ds W ∧ a' = ({ tmps := #[Value.agg #[Value.int .i64 (en : Int), Value.int .i64 (gs : Int)], Value.slice av L c, Value.pointer (some { block := B0, off := 0 }), undef, Value.pointer (some { block := B0 + 1, off := 0 }), Value.pointer (some { block := P, off := 0 }), Value.int .i64 0, Value.pointer (some { block := B2, off := 0 }), Value.int .i64 0, v9, v10, v11, v12, v13, u 14, u 15, u 16, u 17, u 18, u 19, u 20, u 21, u 22, u 23, u 24, u 25, u 26, u 27, u 28, u 29, u 30, u 31, Value.pointer (some { block := B0, off := 0 }), Value.int .i64 (en : Int), Value.pointer (some { block := B0, off := 1 }), Value.int .i64 (gs : Int), Value.bool true, Value.bool false, Value.bool false, Value.slice av L c, Value.int .i64 (L : Int), Value.bool (decide (80 < (L : Int))), Value.bool (decide (80 < (L : Int))), undef, Value.tuple #[Value.pointer (some { block := P, off := 0 }), Value.int .i64 0], Value.pointer (some { block := B0, off := 0 }), Value.int .i64 (en : Int), Value.pointer (some { block := B0, off := 1 }), Value.int .i64 (gs : Int), Value.tuple #[Value.pointer (some { block := P, off := 0 }), Value.int .i64 0], Value.pointer (some { block := P, off := 0 }), Value.int .i64 0, Value.tuple #[Value.pointer (some { block := T, off := 0 }), Value.int .i64 0], Value.pointer (some { block := B0, off := 1 }), Value.int .i64 (gs : Int), Value.tuple #[Value.pointer (some { block := T, off := 0 }), Value.int .i64 0], Value.pointer (some { block := T, off := 0 }), Value.int .i64 0, Value.int .i64 0, Value.bool false, Value.bool false, Value.int .i64 0, Value.bool false, Value.bool false, Value.bool false, Value.pointer (some { block := P, off := 0 }), Value.bool false, Value.bool false, Value.bool false, Value.pointer (some { block := T, off := 0 }), Value.bool false, Value.bool false, u 72, u 73, u 74, u 75, u 76, u 77, u 78, u 79, u 80, u 81, u 82, u 83, u 84, u 85, u 86, u 87, u 88, u 89, u 90, u 91, u 92, u 93, u 94, u 95, u 96, u 97, u 98, u 99, u 100, u 101, u 102, u 103, u 104, u 105, u 106, u 107, u 108, u 109, u 110, u 111, u 112, u 113, u 114, u 115, u 116, u 117, u 118, u 119, u 120, u 121, u 122, u 123, u 124, u 125, u 126, u 127, u 128, u 129, u 130, u 131, u 132, u 133, u 134, u 135, u 136, u 137, u 138, u 139, u 140, u 141, u 142, u 143, u 144, u 145, u 146, u 147, u 148, u 149, u 150, u 151, u 152, u 153, u 154, u 155, u 156, u 157, u 158, u 159, u 160, u 161, u 162, u 163, u 164, u 165, u 166, u 167, u 168, u 169, u 170, u 171, u 172, u 173, u 174, u 175, u 176, u 177, u 178, u 179, u 180, u 181, u 182, u 183, u 184, u 185, u 186, u 187, u 188, u 189, u 190, u 191, u 192, u 193, u 194, u 195, u 196, u 197, u 198, u 199, undef], defers := ds } : Act)
theorem in3_mk {w : World} {en gs mn L P T E B0 B2 : Nat} {av : Option Addr} {c : Nat} (a' : Act) (W : World) (h : LI w en gs mn L P T E B2 (a'.tmps.getD 9 undef) (a'.tmps.getD 10 undef) (a'.tmps.getD 11 undef) (a'.tmps.getD 12 undef) (a'.tmps.getD 13 undef) a'.defers W) (e : a' = ({ tmps := #[Value.agg #[Value.int .i64 (en : Int), Value.int .i64 (gs : Int)], Value.slice av L c, Value.pointer (some { block := B0, off := 0 }), undef, Value.pointer (some { block := B0 + 1, off := 0 }), Value.pointer (some { block := P, off := 0 }), Value.int .i64 0, Value.pointer (some { block := B2, off := 0 }), Value.int .i64 0, a'.tmps.getD 9 undef, a'.tmps.getD 10 undef, a'.tmps.getD 11 undef, a'.tmps.getD 12 undef, a'.tmps.getD 13 undef, a'.tmps.getD 14 undef, a'.tmps.getD 15 undef, a'.tmps.getD 16 undef, a'.tmps.getD 17 undef, a'.tmps.getD 18 undef, a'.tmps.getD 19 undef, a'.tmps.getD 20 undef, a'.tmps.getD 21 undef, a'.tmps.getD 22 undef, a'.tmps.getD 23 undef, a'.tmps.getD 24 undef, a'.tmps.getD 25 undef, a'.tmps.getD 26 undef, a'.tmps.getD 27 undef, a'.tmps.getD 28 undef, a'.tmps.getD 29 undef, a'.tmps.getD 30 undef, a'.tmps.getD 31 undef, Value.pointer (some { block := B0, off := 0 }), Value.int .i64 (en : Int), Value.pointer (some { block := B0, off := 1 }), Value.int .i64 (gs : Int), Value.bool true, Value.bool false, Value.bool false, Value.slice av L c, Value.int .i64 (L : Int), Value.bool (decide (80 < (L : Int))), Value.bool (decide (80 < (L : Int))), undef, Value.tuple #[Value.pointer (some { block := P, off := 0 }), Value.int .i64 0], Value.pointer (some { block := B0, off := 0 }), Value.int .i64 (en : Int), Value.pointer (some { block := B0, off := 1 }), Value.int .i64 (gs : Int), Value.tuple #[Value.pointer (some { block := P, off := 0 }), Value.int .i64 0], Value.pointer (some { block := P, off := 0 }), Value.int .i64 0, Value.tuple #[Value.pointer (some { block := T, off := 0 }), Value.int .i64 0], Value.pointer (some { block := B0, off := 1 }), Value.int .i64 (gs : Int), Value.tuple #[Value.pointer (some { block := T, off := 0 }), Value.int .i64 0], Value.pointer (some { block := T, off := 0 }), Value.int .i64 0, Value.int .i64 0, Value.bool false, Value.bool false, Value.int .i64 0, Value.bool false, Value.bool false, Value.bool false, Value.pointer (some { block := P, off := 0 }), Value.bool false, Value.bool false, Value.bool false, Value.pointer (some { block := T, off := 0 }), Value.bool false, Value.bool false, a'.tmps.getD 72 undef, a'.tmps.getD 73 undef, a'.tmps.getD 74 undef, a'.tmps.getD 75 undef, a'.tmps.getD 76 undef, a'.tmps.getD 77 undef, a'.tmps.getD 78 undef, a'.tmps.getD 79 undef, a'.tmps.getD 80 undef, a'.tmps.getD 81 undef, a'.tmps.getD 82 undef, a'.tmps.getD 83 undef, a'.tmps.getD 84 undef, a'.tmps.getD 85 undef, a'.tmps.getD 86 undef, a'.tmps.getD 87 undef, a'.tmps.getD 88 undef, a'.tmps.getD 89 undef, a'.tmps.getD 90 undef, a'.tmps.getD 91 undef, a'.tmps.getD 92 undef, a'.tmps.getD 93 undef, a'.tmps.getD 94 undef, a'.tmps.getD 95 undef, a'.tmps.getD 96 undef, a'.tmps.getD 97 undef, a'.tmps.getD 98 undef, a'.tmps.getD 99 undef, a'.tmps.getD 100 undef, a'.tmps.getD 101 undef, a'.tmps.getD 102 undef, a'.tmps.getD 103 undef, a'.tmps.getD 104 undef, a'.tmps.getD 105 undef, a'.tmps.getD 106 undef, a'.tmps.getD 107 undef, a'.tmps.getD 108 undef, a'.tmps.getD 109 undef, a'.tmps.getD 110 undef, a'.tmps.getD 111 undef, a'.tmps.getD 112 undef, a'.tmps.getD 113 undef, a'.tmps.getD 114 undef, a'.tmps.getD 115 undef, a'.tmps.getD 116 undef, a'.tmps.getD 117 undef, a'.tmps.getD 118 undef, a'.tmps.getD 119 undef, a'.tmps.getD 120 undef, a'.tmps.getD 121 undef, a'.tmps.getD 122 undef, a'.tmps.getD 123 undef, a'.tmps.getD 124 undef, a'.tmps.getD 125 undef, a'.tmps.getD 126 undef, a'.tmps.getD 127 undef, a'.tmps.getD 128 undef, a'.tmps.getD 129 undef, a'.tmps.getD 130 undef, a'.tmps.getD 131 undef, a'.tmps.getD 132 undef, a'.tmps.getD 133 undef, a'.tmps.getD 134 undef, a'.tmps.getD 135 undef, a'.tmps.getD 136 undef, a'.tmps.getD 137 undef, a'.tmps.getD 138 undef, a'.tmps.getD 139 undef, a'.tmps.getD 140 undef, a'.tmps.getD 141 undef, a'.tmps.getD 142 undef, a'.tmps.getD 143 undef, a'.tmps.getD 144 undef, a'.tmps.getD 145 undef, a'.tmps.getD 146 undef, a'.tmps.getD 147 undef, a'.tmps.getD 148 undef, a'.tmps.getD 149 undef, a'.tmps.getD 150 undef, a'.tmps.getD 151 undef, a'.tmps.getD 152 undef, a'.tmps.getD 153 undef, a'.tmps.getD 154 undef, a'.tmps.getD 155 undef, a'.tmps.getD 156 undef, a'.tmps.getD 157 undef, a'.tmps.getD 158 undef, a'.tmps.getD 159 undef, a'.tmps.getD 160 undef, a'.tmps.getD 161 undef, a'.tmps.getD 162 undef, a'.tmps.getD 163 undef, a'.tmps.getD 164 undef, a'.tmps.getD 165 undef, a'.tmps.getD 166 undef, a'.tmps.getD 167 undef, a'.tmps.getD 168 undef, a'.tmps.getD 169 undef, a'.tmps.getD 170 undef, a'.tmps.getD 171 undef, a'.tmps.getD 172 undef, a'.tmps.getD 173 undef, a'.tmps.getD 174 undef, a'.tmps.getD 175 undef, a'.tmps.getD 176 undef, a'.tmps.getD 177 undef, a'.tmps.getD 178 undef, a'.tmps.getD 179 undef, a'.tmps.getD 180 undef, a'.tmps.getD 181 undef, a'.tmps.getD 182 undef, a'.tmps.getD 183 undef, a'.tmps.getD 184 undef, a'.tmps.getD 185 undef, a'.tmps.getD 186 undef, a'.tmps.getD 187 undef, a'.tmps.getD 188 undef, a'.tmps.getD 189 undef, a'.tmps.getD 190 undef, a'.tmps.getD 191 undef, a'.tmps.getD 192 undef, a'.tmps.getD 193 undef, a'.tmps.getD 194 undef, a'.tmps.getD 195 undef, a'.tmps.getD 196 undef, a'.tmps.getD 197 undef, a'.tmps.getD 198 undef, a'.tmps.getD 199 undef, undef], defers := a'.defers } : Act)) : In3 w en gs mn L P T E B0 B2 av c a' W := ⟨_, _, _, _, _, fun i => a'.tmps.getD i undef, _, h, e⟩
set_option maxHeartbeats 16000000 in
theorem fresh_in (en gs : Nat) (he1 : 1 ≤ en) (he8 : en ≤ 8) (hg1 : 1 ≤ gs) (hg16 : gs ≤ 16) (av : Option Addr) (L c : Nat) (hL : L ≤ 80) (D G X : Nat → Int) (B : Nat → Bool) (w : World) (hl : TurnIn w av L D G X B) : Calls Try.prog 3 #[.agg #[.int .i64 en, .int .i64 gs], .slice av L c] w fun r w' => r = .returned (.bool true) ∧ Below w.heap.size w w' := by
  have hm := hide (show decide (1 ≤ (en : Int) ∧ (en : Int) ≤ 8 ∧ 1 ≤ (gs : Int) ∧ (gs : Int) ≤ 16) = true by simp; omega)
  have HLn := hide hl
  obtain ⟨mn, hmn⟩ : ∃ mn : Nat, (gs + 3) / 4 = mn := ⟨_, rfl⟩
  have HM := hide hmn
  have hL80 : (L : Int) ≤ 80 := by omega
  clear hl hmn
  refine (callsIn_wide (n := 3)).1 ?_
  refine callsIn_of_wp_marks Try.func3 rfl trivial ?_ rfl
  simp only [Try.ntmps3, List.size_toArray, List.length_cons, List.length_nil, Nat.reduceAdd, Nat.reduceSub, Array.replicate_succ, Array.replicate_zero, List.push_toArray, List.append_toArray, List.nil_append, List.cons_append]
  refine wpIn_wide.2 ?_
  go_wp2_with fail
  refine (mayb en gs true hm.out _).mono ?_
  rintro r w1 ⟨rfl, rfl⟩
  go_wp2_with fail
  refine (new_yes en gs he1 he8 hg1 hg16 _).mono ?_
  rintro r w1 ⟨P, rfl, h1, hP, b1⟩
  have a0 : w1.heap[w.heap.size]? = some (.cells #[.int .i64 en, .int .i64 gs] 22 (0, 0)) := (b1.block w.heap.size (by simp; omega)).trans ((Below.heap_alloc (w.alloc (.cells #[.int .i64 en, .int .i64 gs] 22)) _ w.heap.size (by simp)).trans (heap_alloc_new w _))
  have a1 : w1.heap[w.heap.size + 1]? = some (.cells #[.bool false] 4 (0, 0)) := (b1.block (w.heap.size + 1) (by simp)).trans (by simpa using heap_alloc_new (w.alloc (.cells #[.int .i64 en, .int .i64 gs] 22)) (.cells #[.bool false] 4))
  have H1 := hide h1
  have B1 := hide (below_alloc (below_alloc b1))
  have hP' : w.heap.size + 1 < P := by simp at hP; omega
  have hPl := h1.hP
  have y0 : w1.cell? ⟨w.heap.size, 0, none⟩ = some (.int .i64 en) := by simp [World.cell?, a0]
  have y1 : w1.cell? ⟨w.heap.size, 1, none⟩ = some (.int .i64 gs) := by simp [World.cell?, a0]
  have A0 := hide a0
  have A1 := hide a1
  clear h1 b1 hP a0 a1
  go_wp2_with fail
  refine (tnew_yes gs hg1 hg16 _).mono ?_
  rintro r w2 ⟨T, E, rfl, hT0, hE0, hTb, b2⟩
  have bA : Below w2.heap.size w2 (w2.alloc (.cells #[.pointer (some ⟨T, 0, none⟩)] 30)) := (Below.refl _ _).alloc (Nat.le_refl _) _
  have s2 : w1.heap.size ≤ w2.heap.size := b2.size
  have hTb' := hTb.next bA
  have FS := hide (show Fs w (w2.alloc (.cells #[.pointer (some ⟨T, 0, none⟩)] 30)) [(w.heap.size, .cells #[.int .i64 en, .int .i64 gs] 22 (0, 0)), (w.heap.size + 1, .cells #[.bool false] 4 (0, 0)), (w2.heap.size, .cells #[.pointer (some ⟨T, 0, none⟩)] 30 (0, 0))] P en gs T E (fun _ => 0) (fun _ => false) false false 0 0 (.slice none 0 0) [] from by
    refine ⟨(H1.out.next b2).next bA, hTb', ?_, ?_, ?_, ?_, by omega, (below_step B1.out B1.out.size b2).trans (bA.mono (by have := B1.out.size; omega))⟩
    · rintro (e | e)
      · omega
      · cases e
    · rintro (e | e)
      · omega
      · cases e
    · intro p hp
      simp only [List.mem_cons, List.not_mem_nil, or_false] at hp
      rcases hp with rfl | rfl | rfl
      · exact ⟨(bA.block _ (by show w.heap.size < _; omega)).trans ((b2.block _ (by show w.heap.size < _; omega)).trans A0.out), by show w.heap.size ≠ E; omega, by rintro (e | e); (simp only at e; omega); cases e⟩
      · exact ⟨(bA.block _ (by show w.heap.size + 1 < _; omega)).trans ((b2.block _ (by show w.heap.size + 1 < _; omega)).trans A1.out), by show w.heap.size + 1 ≠ E; omega, by rintro (e | e); (simp only at e; omega); cases e⟩
      · exact ⟨heap_alloc_new w2 _, by have := hTb.2.1; show w2.heap.size ≠ E; omega, by rintro (e | e); (simp only at e; omega); cases e⟩
    · rintro b (e | e)
      · omega
      · cases e)
  have FI := hide (show ∀ wd, Fi mn gs (fun _ => 0) (fun _ => false) false false 0 0 [] false wd from fun wd => ⟨fun j => ⟨Int.le_refl _, by decide⟩, List.Pairwise.nil, (fun x hx => by cases hx), (fun e => by cases e)⟩)
  have z0 := FS.out.cell (b := w2.heap.size) (i := 0) (List.mem_cons_of_mem _ (List.mem_cons_of_mem _ (List.mem_cons_self ..))) rfl
  clear y0 y1 hTb hTb' bA b2
  go_wp2
  refine wp_loop (In3 w en gs mn L P T E w.heap.size w2.heap.size av c) (fun a' _ => L - (intOf (a'.tmps.getD 13 undef)).toNat) ⟨_, _, _, _, _, fun _ => undef, [], ⟨0, [], Nat.zero_le _, rfl, rfl, List.nodup_nil, (fun D hD => by cases hD), _, _, _, _, _, _, _, _, _, _, _, rfl, rfl, rfl, rfl, (fun e => by cases e), FS.out, FI.out 0⟩, rfl⟩ ?_
  clear FS FI z0
  rintro _ W ⟨v9, v10, v11, v12, v13, u, ds, ⟨k, Ds, hk, rfl, rfl, hnd, hdl, o, l, ws, st, gr, at_, v, ks, pl, rd, wd, rfl, rfl, rfl, rfl, hpl, hfs, hfi⟩, rfl⟩
  dsimp only
  have FS := hide hfs
  have FI := hide hfi
  have ND := hide hnd
  have HDL := hide hdl
  have HPL := hide hpl
  have z0 := hfs.cell (b := w2.heap.size) (i := 0) (List.mem_cons_of_mem _ (List.mem_cons_of_mem _ (List.mem_cons_self ..))) rfl
  clear hfs hfi hnd hdl hpl
  by_cases hlt : k < L
  · rcases HLn.out with h0 | ⟨tb, tq, rfl, htl, htop⟩
    · omega
    · obtain ⟨t0, t1, t2, t3⟩ := htop k hlt
      clear htop
      have x0 := cell_next FS.out.bel htl t0
      have x1 := cell_next FS.out.bel htl t1
      have x2 := cell_next FS.out.bel htl t2
      have x3 := cell_next FS.out.bel htl t3
      clear t0 t1 t2 t3
      go_upto_block 2 with (fail)
      go_cut [9, 10, 11, 12] from 72 to 199 (fun s9 s10 s11 s12 wc => Cu w en gs mn P T E w2.heap.size Ds s9 s10 s11 s12 wc)
      case rest =>
        clear FS FI HPL z0 x0 x1 x2 x3
        obtain ⟨o, l, ws, st, gr, at_, v, ks, pl, rd, wd, rfl, rfl, rfl, rfl, hpl, hfs, hfi⟩ := hcut
        have FS := hide hfs
        have FI := hide hfi
        have HPL := hide hpl
        clear hfs hfi hpl
        go_wp2_with fail
        refine (all_k _ FS.out.k).mono ?_
        rintro r w3 ⟨rfl, vc, l3, c3, own3, b3⟩
        have FS3 := hide (FS.out.next b3)
        have E1 : ∀ W, (binOp BinOp.eql 43 (.func (.func 38) #[] #[.pointer (some ⟨wc.heap.size, 0, none⟩)]) .nilFunc).run Try.prog W = .ok (.bool false) W := fun W => by kernel_rfl
        obtain ⟨cs, hz, hcs⟩ := zero_seen
        have HCS := hide hcs
        have s3 : wc.heap.size < w3.heap.size := l3
        clear hcs b3
        go_wp2_with fail
        obtain ⟨W4, hW4⟩ : ∃ W4, (w3.alloc (.cells #[.int .i64 0] 3)).alloc (.cells cs 45) = W4 := ⟨_, rfl⟩
        have s4 : W4.heap.size = w3.heap.size + 1 + 1 := by rw [← hW4]; simp
        have b4 : Below w3.heap.size w3 W4 := by rw [← hW4]; exact ((Below.refl _ _).alloc (Nat.le_refl _) _).alloc (by simp) _
        have n0 : W4.cell? ⟨w3.heap.size, 0, none⟩ = some (.int .i64 0) := by rw [← hW4]; exact (World.cell?_alloc_lt (w3.alloc (.cells #[.int .i64 0] 3)) _ ⟨w3.heap.size, 0, none⟩ (by simp)).trans (World.cell?_alloc_new w3 _ 3 0)
        have n0f : W4.frozen? ⟨w3.heap.size, 0, none⟩ = false := by rw [← hW4]; exact (((Below.refl _ _).alloc (Nat.le_refl _) _).frozen (p := ⟨w3.heap.size, 0, none⟩) (by simp)).trans (World.frozen?_alloc_new w3 _ 3 0)
        have q0 : ∀ j, j < 16 → W4.cell? ⟨w3.heap.size + 1, j, none⟩ = some (.bool (Seen (ks := ks) [] j)) := by
          intro j hj
          have e : (w3.alloc (.cells #[.int .i64 0] 3)).heap.size = w3.heap.size + 1 := by simp
          rw [← hW4, ← e]
          rw [World.cell?_alloc_new (w3.alloc (.cells #[.int .i64 0] 3)) cs 45 j, HCS.out]
          simp [hj, Seen]
        have q0f : ∀ j, W4.frozen? ⟨w3.heap.size + 1, j, none⟩ = false := by
          intro j
          have e : (w3.alloc (.cells #[.int .i64 0] 3)).heap.size = w3.heap.size + 1 := by simp
          rw [← hW4, ← e]
          exact World.frozen?_alloc_new _ _ _ _
        have FS4 := hide (FS3.out.next b4)
        have hbl := hide (show ∀ p ∈ FxOf w.heap.size en gs T w2.heap.size Ds, p.1 < wc.heap.size from fun p hp => FS.out.blk hp)
        have hr1 : w.heap.size + 1 < wc.heap.size := hbl.out (w.heap.size + 1, .cells #[.bool false] 4 (0, 0)) (List.mem_cons_of_mem _ (List.mem_cons_self ..))
        have hck := hide (show ∀ b, Ck.S P v b → b < W4.heap.size from fun b e => by have := FS.out.k.lt b e; omega)
        have hTl := FS.out.t.1
        have hEl := FS.out.t.2.1
        have hle := FS.out.k.le
        have h8 := FS.out.k.e8
        have hwb : w.heap.size ≤ W4.heap.size := by omega
        have HQ := hide (all_stops2 (fun i => i = w.heap.size + 1 ∨ i = w3.heap.size ∨ i = w3.heap.size + 1 ∨ W4.heap.size ≤ i) ks (by omega) (3 - 1) (by omega) (wc.heap.size + 1) wc.heap.size vc W4 (by omega) (cell_next b4 l3 c3) (ownsRow_fr own3 (Fr.of_below (S := fun _ => False) b4) (fun _ _ e => e)) (fun i hi e => by have := own3.lt i hi; omega))
        rw [hW4]
        clear c3 own3 hW4 b4 hz E1
        refine (wpIn_wide (n := 3)).1 ?_
        refine rf_pair 25 26 rfl HQ.out (fun i hi => .inr (.inr (.inr hi))) (Below.refl _ _) (Ik w (FxOf w.heap.size en gs T w2.heap.size Ds) P en gs T E o l ws st gr at_ v ks w3.heap.size (w3.heap.size + 1)) Dup (Ik.own hck.out (by omega) (by omega) (fun p hp => by have := hbl.out p hp; omega) hwb (by omega) (by omega)) (fun s A B' row hs hg hr => hs) ⟨FS4.out, n0, n0f, q0, q0f, by omega, by omega⟩ ?assign ?body ?done ?stop
        case assign =>
          intro l' pre x W K hi hK
          gi_wp2
          exact hK
        case body =>
          rintro l' pre ⟨⟨x1, x2⟩, hx⟩ Wb hl ⟨rr, hrr⟩ hIk hlen
          obtain ⟨j, hj1, hj2, hj3, hj4⟩ := FI.out.fr _ hx
          simp only at hj1 hj3
          subst hj1
          subst hj3
          have IK := hide hIk
          obtain ⟨hF, hn0, hn0f, hq0, hq0f, hnl, hql⟩ := hIk
          have FSb := hide hF
          have zb := hF.cell (b := w2.heap.size) (i := 0) (List.mem_cons_of_mem _ (List.mem_cons_of_mem _ (List.mem_cons_self ..))) rfl
          have zr := hF.cell (b := w.heap.size + 1) (i := 0) (List.mem_cons_of_mem _ (List.mem_cons_self ..)) rfl
          have zrl := hF.blk (p := (w.heap.size + 1, .cells #[.bool false] 4 (0, 0))) (List.mem_cons_of_mem _ (List.mem_cons_self ..))
          have zrf : Wb.frozen? ⟨w.heap.size + 1, 0, none⟩ = false := by
            have := (hF.fx (w.heap.size + 1, .cells #[.bool false] 4 (0, 0)) (List.mem_cons_of_mem _ (List.mem_cons_self ..))).1
            simp [World.frozen?, this]
          have hq := hq0 j (by omega)
          have hqf := hq0f j
          have j0 : (0 : Int) ≤ j := by omega
          have j16 : (j : Int) < 16 := by omega
          have jn : j < 16 := by omega
          have pl8 : (pre.length : Int) ≤ 8 := by omega
          simp only at zrl
          clear hF hrr hq0 hq0f
          gi_wp2_with fail
          refine ⟨trivial, ?_⟩
          refine (CallsIn.inRound l' (callsIn_wide.2 (get_v (o j) false hj2 rfl hj4 _ FSb.out.t))).mono ?_
          rintro r w5 ⟨rfl, hb5⟩
          have nb5 := cell_next hb5 hnl hn0
          have nbf := (hb5.frozen (p := ⟨w3.heap.size, 0, none⟩) hnl).trans hn0f
          have q5 := cell_next hb5 hql hq
          have q5f := (hb5.frozen (p := ⟨w3.heap.size + 1, j, none⟩) hql).trans hqf
          have r5 := cell_next hb5 zrl zr
          have r5f := (hb5.frozen (p := ⟨w.heap.size + 1, 0, none⟩) zrl).trans zrf
          have s5 := hb5.size
          have sn : w3.heap.size < w5.heap.size := by omega
          have sq : w3.heap.size + 1 < w5.heap.size := by omega
          have sr : w.heap.size + 1 < w5.heap.size := by omega
          have BB := hide hb5
          clear hn0 hn0f hq hqf zr zrf hb5 zb
          cases hs : Seen pre j
          · rw [hs] at q5
            clear hs
            gi_wp2
            exact ⟨(((kf_below BB.out).trans (kf_set _ _ _ rfl _ _)).trans (kf_set _ _ _ rfl _ _)).trans (kf_below ((Below.refl _ _).alloc (Nat.le_refl _) _)), (((Fr.of_below (S := fun i => i = w.heap.size + 1 ∨ i = w3.heap.size ∨ i = w3.heap.size + 1 ∨ W4.heap.size ≤ i) BB.out).setCell (p := ⟨w3.heap.size + 1, j, none⟩) (fun _ => .inr (.inr (.inl rfl))) _).setCell (p := ⟨w3.heap.size, 0, none⟩) (fun _ => .inr (.inl rfl)) _).alloc _, (IK.out.step BB.out ⟨((j : Int), o j), hx⟩ j rfl jn (N := wc.heap.size) FS.out.k.lt hTl hEl hbl.out FS.out.bel.size (by omega)).next ((Below.refl _ _).alloc (Nat.le_refl _) _)⟩
          · rw [hs] at q5
            have HS := hide hs
            clear hs
            gi_wp2
            exact ⟨((kf_below BB.out).trans (kf_set _ _ _ rfl _ _)).trans (kf_below ((Below.refl _ _).alloc (Nat.le_refl _) _)), dup_of pre ⟨((j : Int), o j), hx⟩ j rfl HS.out _⟩
        case done =>
          rintro D W5 hD ⟨hF, hn0, hn0f, hq0, hq0f, hnl, hql⟩ hK
          have hbD := (Array.getElem?_eq_some_iff.1 hK).1
          have FS5 := hide ((hF.add D (.deferred (some [])) hK (by omega) (fun e => by have := hck.out D e; omega)).sub (F' := FxOf w.heap.size en gs T w2.heap.size (D :: Ds)) (fun p hp => by
            simp only [FxOf, List.map_cons, List.mem_cons] at hp ⊢
            rcases hp with h | h | h | h | h
            · exact .inr (.inl h)
            · exact .inr (.inr (.inl h))
            · exact .inr (.inr (.inr (.inl h)))
            · exact .inl h
            · exact .inr (.inr (.inr (.inr h)))))
          have ND5 := hide (show (D :: Ds).Nodup from List.nodup_cons.2 ⟨fun hm => by have := hbl.out (D, .deferred (some [])) (List.mem_cons_of_mem _ (List.mem_cons_of_mem _ (List.mem_cons_of_mem _ (List.mem_map_of_mem hm)))); simp only at this; omega, ND.out⟩)
          rw [List.length_attach] at hn0
          have hcmp : ¬ ((en : Int) < (ks.length : Int)) := by omega
          clear hF hq0 hq0f hn0f hK
          cases ws
          · go_wp2_with fail
            refine (walking_no _ FS5.out.k).mono ?_
            rintro r w6 ⟨rfl, hb6⟩
            have FS6 := hide (FS5.out.next hb6)
            have n6 := cell_next hb6 hnl hn0
            have a6 := FS6.out.cell (b := w.heap.size) (i := 0) (List.mem_cons_self ..) rfl
            clear hb6 hn0
            go_wp2
            refine ⟨in3_mk _ _ ⟨k + 1, D :: Ds, by omega, int_eq (by omega), rfl, ND5.out, fun D' hD' => (by rcases List.mem_cons.1 hD' with rfl | hD'; omega; exact HDL.out D' hD'), o, l, false, st, gr, at_, v, ks, pl, rd, wd, rfl, rfl, rfl, rfl, (fun e => by cases e), FS6.out, FI.out⟩ rfl, ?_⟩
            show L - (intOf (Value.int .i64 ((k : Int) + 1))).toNat < L - (intOf (Value.int .i64 (k : Int))).toNat
            simp only [intOf]
            omega
          · go_wp2_with fail
            refine (walking_yes _ FS5.out.k).mono ?_
            rintro r w6 ⟨rfl, hb6⟩
            have FS6 := hide (FS5.out.next hb6)
            have n6 := cell_next hb6 hnl hn0
            have a6 := FS6.out.cell (b := w.heap.size) (i := 0) (List.mem_cons_self ..) rfl
            clear hb6 hn0
            go_wp2
            refine ⟨in3_mk _ _ ⟨k + 1, D :: Ds, by omega, int_eq (by omega), rfl, ND5.out, fun D' hD' => (by rcases List.mem_cons.1 hD' with rfl | hD'; omega; exact HDL.out D' hD'), o, l, true, st, gr, at_, v, ks, pl, rd, wd, rfl, rfl, rfl, rfl, (by simpa using HPL.out), FS6.out, FI.out⟩ rfl, ?_⟩
            show L - (intOf (Value.int .i64 ((k : Int) + 1))).toNat < L - (intOf (Value.int .i64 (k : Int))).toNat
            simp only [intOf]
            omega
        case stop =>
          intro pre W hp hd
          exact no_dup FI.out.pw pre W hp hd
      case first =>
        have b1 := (Below.refl W.heap.size W).alloc (Nat.le_refl _) (.cells #[.int .i64 (D k), .int .i64 (G k), .int .i64 (X k), .bool (B k)] 36)
        have FS1 := hide (FS.out.next b1)
        have z1 := FS1.out.cell (b := w2.heap.size) (i := 0) (List.mem_cons_of_mem _ (List.mem_cons_of_mem _ (List.mem_cons_self ..))) rfl
        have y0 : (W.alloc (.cells #[.int .i64 (D k), .int .i64 (G k), .int .i64 (X k), .bool (B k)] 36)).cell? ⟨W.heap.size, 0, none⟩ = some (.int .i64 (D k)) := World.cell?_alloc_new _ _ _ 0
        have y1 : (W.alloc (.cells #[.int .i64 (D k), .int .i64 (G k), .int .i64 (X k), .bool (B k)] 36)).cell? ⟨W.heap.size, 1, none⟩ = some (.int .i64 (G k)) := World.cell?_alloc_new _ _ _ 1
        have y2 : (W.alloc (.cells #[.int .i64 (D k), .int .i64 (G k), .int .i64 (X k), .bool (B k)] 36)).cell? ⟨W.heap.size, 2, none⟩ = some (.int .i64 (X k)) := World.cell?_alloc_new _ _ _ 2
        have y3 : (W.alloc (.cells #[.int .i64 (D k), .int .i64 (G k), .int .i64 (X k), .bool (B k)] 36)).cell? ⟨W.heap.size, 3, none⟩ = some (.bool (B k)) := World.cell?_alloc_new _ _ _ 3
        have lW : W.heap.size < (W.alloc (.cells #[.int .i64 (D k), .int .i64 (G k), .int .i64 (X k), .bool (B k)] 36)).heap.size := by simp
        have hEW : ¬ W.heap.size = E := fun e => by have := FS.out.t.2.1; omega
        obtain ⟨W1, hW1⟩ : ∃ W1, W.alloc (.cells #[.int .i64 (D k), .int .i64 (G k), .int .i64 (X k), .bool (B k)] 36) = W1 := ⟨_, rfl⟩
        rw [hW1] at FS1 z1 y0 y1 y2 y3 lW ⊢
        clear hW1 b1 x0 x1 x2 x3 z0 FS
        have FS3 := FS1
        by_cases d0 : D k = 0
        · have e0 : (D k == 0) = true := by simpa using d0
          clear d0
          by_cases hin : (0 ≤ G k ∧ G k < gs) ∧ 0 ≤ X k ∧ X k ≤ 4
          · obtain ⟨⟨hg0, hgl⟩, hx⟩ := hin
            obtain ⟨j, hj⟩ : ∃ j : Nat, G k = j := ⟨(G k).toNat, by omega⟩
            have HJ := hide hj
            have hjl : j < gs := by omega
            have HX := hide hx
            have hxd := hide (show decide (0 ≤ X k ∧ X k ≤ 4) = true from decide_eq_true hx)
            clear hx hj
            go_wp2_with fail
            refine (set_z (G k) j HJ.out (X k) (B k) hjl hxd.out _ FS1.out.t).mono ?_
            rintro r w3 ⟨rfl, t3, g3⟩
            have FS4 := hide (FS1.out.set t3 g3)
            have fE : Fr (fun b => b = E) W1 w3 := Fr.of_grown g3 (fun _ => rfl)
            have y1' := (fE.cell lW hEW).trans y1
            clear t3 g3 fE y0 y1 y2 y3 z1
            go_wp2_with fail
            refine (drop_x (G k) hg0 _ FS4.out.k FI.out.inv).mono ?_
            rintro r w4 ⟨⟨n1, e1, rfl⟩, st', v', ks', k4, sub, hin', hst, f4, s4⟩
            have FS5 := hide (FS4.out.ck k4 f4 (fun b e => .inl (s4 b e)))
            have hin2 := hin' ⟨hg0, hgl⟩
            have FI5 := hide (FI.out.turn j (X k) (B k) HX.out sub (fun y hy => by rw [← HJ.out]; exact hin2.1 y hy) (fun a b => hin2.2 a (b.trans HJ.out.symm)) hst)
            clear k4 sub hin' hst f4 s4 hin2 y1'
            go_wp2
            go_meet
            case rel => exact ⟨_, _, ws, st', gr, at_, v', ks', pl, rd, wd, rfl, rfl, rfl, rfl, HPL.out, FS5.out, FI5.out⟩
          · have HIN := hide hin
            clear hin
            go_wp2_with fail
            refine (set_no (G k) (X k) (B k) HIN.out _ FS1.out.t).mono ?_
            rintro r w3 ⟨rfl, hb⟩
            have FS3 := hide (FS1.out.next hb)
            clear hb
            go_wp2
            go_meet
            case rel => exact ⟨o, l, ws, st, gr, at_, v, ks, pl, rd, wd, rfl, rfl, rfl, rfl, HPL.out, FS3.out, FI.out⟩
        have e0 : (D k == 0) = false := beq_eq_false_iff_ne.2 d0
        by_cases d1 : D k = 1
        · have e1 : (D k == 1) = true := by simpa using d1
          clear d0 d1
          go_wp2_with fail
          refine (begin_x (G k) _ FS1.out.k FI.out).mono ?_
          rintro r w3 ⟨n1, e1', rfl, ⟨rfl, gr', k3, fi3, f3⟩ | ⟨he, hb⟩⟩
          · have FS3 := hide (FS1.out.ckP k3 f3)
            have FI3 := hide (fi3 wd)
            clear k3 fi3 f3
            go_wp2
            go_meet
            case rel => exact ⟨o, l, true, false, gr', n1, v, ks, n1, false, wd, rfl, rfl, rfl, rfl, fun _ => rfl, FS3.out, FI3.out⟩
          · have FS3 := hide (FS1.out.next hb)
            clear hb
            go_wp2
            go_meet
            case rel => exact ⟨o, l, ws, st, gr, at_, v, ks, pl, rd, wd, rfl, rfl, rfl, rfl, HPL.out, FS3.out, FI.out⟩
        have e1 : (D k == 1) = false := beq_eq_false_iff_ne.2 d1
        by_cases d2 : D k = 2
        · have e2 : (D k == 2) = true := by simpa using d2
          clear d0 d1 d2
          cases ws
          · go_wp2
            go_meet
            case rel => exact ⟨o, l, false, st, gr, at_, v, ks, pl, rd, wd, rfl, rfl, rfl, rfl, HPL.out, FS3.out, FI.out⟩
          · cases rd
            · obtain ⟨g, hgr, hg, hno, hat, -⟩ := FI.out.wk rfl
              have hple := HPL.out rfl
              have hq : g / 4 < mn := by have := HM.out; omega
              have GD := hide (good_of (o := o) (l := l) HM.out hg hq)
              have HAT := hide hat
              have hj : ∃ j : Nat, pl = j ∧ j < mn + gs ∧ Good mn o l g at_ (wdF mn gs o l j) := by
                rcases hat with hat | hat
                · exact ⟨g / 4, by rw [hple, hat], by omega, by rw [hat]; exact GD.out.1⟩
                · exact ⟨mn + g, by rw [hple, hat]; omega, by omega, by rw [hat]; exact GD.out.2⟩
              obtain ⟨j, hj1, hj2, hj3⟩ := hj
              have HJ1 := hide hj1
              have FI3 := hide (show Fi mn gs o l true st gr at_ ks true (wdF mn gs o l j) from ⟨FI.out.ob, FI.out.pw, FI.out.fr, fun _ => ⟨g, hgr, hg, hno, HAT.out, fun _ _ => hj3⟩⟩)
              clear hj1 hj3 hat hno hgr hple
              go_wp2_with fail
              refine (word_z mn pl j HJ1.out hg1 hg16 HM.out FI.out.ob hj2 _ FS1.out.t).mono ?_
              rintro r w3 ⟨rfl, hb⟩
              have FS3 := hide (FS1.out.next hb)
              clear hb
              go_wp2
              go_meet
              case rel => exact ⟨o, l, true, st, gr, at_, v, ks, pl, true, _, rfl, rfl, rfl, rfl, (by simpa using HPL.out), FS3.out, FI3.out⟩
            · go_wp2
              go_meet
              case rel => exact ⟨o, l, true, st, gr, at_, v, ks, pl, true, wd, rfl, rfl, rfl, rfl, (by simpa using HPL.out), FS3.out, FI.out⟩
        have e2 : (D k == 2) = false := beq_eq_false_iff_ne.2 d2
        by_cases d3 : D k = 3
        · have e3 : (D k == 3) = true := by simpa using d3
          clear d0 d1 d2 d3
          cases ws
          · go_wp2
            go_meet
            case rel => exact ⟨o, l, false, st, gr, at_, v, ks, pl, rd, wd, rfl, rfl, rfl, rfl, HPL.out, FS3.out, FI.out⟩
          · cases rd
            · go_wp2
              go_meet
              case rel => exact ⟨o, l, true, st, gr, at_, v, ks, pl, false, wd, rfl, rfl, rfl, rfl, (by simpa using HPL.out), FS3.out, FI.out⟩
            · obtain rfl : pl = at_ := HPL.out rfl
              go_wp2_with fail
              refine (walked_x he1 hg1 hg16 HM.out _ FS1.out.k FI.out).mono ?_
              rintro r w3 ⟨nx, ov, rfl, ws', st', gr', at', v', ks', k3, hw, ha, fi3, f3, s3⟩
              have FS3 := hide (FS1.out.ck k3 f3 s3)
              have FI3 := hide (fi3 wd)
              have HA := hide (show ws' = true → nx = at' from fun e => (ha e).symm)
              clear k3 fi3 f3 s3 ha
              subst hw
              go_wp2
              go_meet
              case rel => exact ⟨o, l, !ov, st', gr', at', v', ks', nx, false, wd, rfl, rfl, rfl, rfl, HA.out, FS3.out, FI3.out⟩
        have e3 : (D k == 3) = false := beq_eq_false_iff_ne.2 d3
        clear d0 d1 d2 d3
        by_cases hg0 : 0 ≤ G k
        · go_wp2_with fail
          refine (drop_x (G k) hg0 _ FS1.out.k FI.out.inv).mono ?_
          rintro r w4 ⟨⟨n1, e1', rfl⟩, st', v', ks', k4, sub, hin', hst, f4, s4⟩
          have FS5 := hide (FS1.out.ck k4 f4 (fun b e => .inl (s4 b e)))
          have FI5 := hide (FI.out.drop sub hst)
          clear k4 sub hin' hst f4 s4
          go_wp2
          go_meet
          case rel => exact ⟨_, _, ws, st', gr, at_, v', ks', pl, rd, wd, rfl, rfl, rfl, rfl, HPL.out, FS5.out, FI5.out⟩
        · go_wp2
          go_meet
          case rel => exact ⟨o, l, ws, st, gr, at_, v, ks, pl, rd, wd, rfl, rfl, rfl, rfl, HPL.out, FS3.out, FI.out⟩
  · go_wp2_with fail
    refine (awake_ok _).mono ?_
    rintro r w3 ⟨rfl, hb⟩
    have FS3 := hide (FS.out.next hb)
    have zr := FS3.out.cell (b := w.heap.size + 1) (i := 0) (List.mem_cons_of_mem _ (List.mem_cons_self ..)) rfl
    have zb := (FS3.out.fx (w.heap.size + 1, .cells #[.bool false] 4 (0, 0)) (List.mem_cons_of_mem _ (List.mem_cons_self ..))).1
    have zrf : w3.frozen? ⟨w.heap.size + 1, 0, none⟩ = false := by simp only at zb; simp [World.frozen?, zb]
    have zl := FS3.out.blk (p := (w.heap.size + 1, .cells #[.bool false] 4 (0, 0))) (List.mem_cons_of_mem _ (List.mem_cons_self ..))
    have dsf : ∀ D ∈ Ds, w3.heap[D]? = some (.deferred (some [])) := fun D hD => (FS3.out.fx (D, .deferred (some [])) (List.mem_cons_of_mem _ (List.mem_cons_of_mem _ (List.mem_cons_of_mem _ (List.mem_map_of_mem hD))))).1
    have nds : w.heap.size + 1 ∉ Ds := fun hm => by have := (dsf _ hm).symm.trans zb; cases this
    have DSF := hide dsf
    have NDS := hide nds
    simp only at zl
    clear hb zb dsf nds z0
    go_wp2
    refine leaves_ds Ds _ ND.out (fun D' hD' => (Below.heap_setCell w3 ⟨w.heap.size + 1, 0, none⟩ (.bool true) D' (by rintro rfl; exact NDS.out hD')).trans (DSF.out D' hD')) (fun W'' kf => ?_)
    have hc := (kf.cell (p := w.heap.size + 1) (o := 0) (by simpa [World.setCell] using zl) NDS.out).trans (World.cell?_setCell_same' _ _ _ (by rw [zr]; rfl))
    exact ⟨.bool true, by simp [results, Try.f3, go_sem, hc], rfl, (FS3.out.bel.setCell (p := ⟨w.heap.size + 1, 0, none⟩) (by show w.heap.size ≤ w.heap.size + 1; omega) (.bool true)).trans (kf.below (by simpa [World.setCell] using FS3.out.bel.size) (fun i hi e => by have := HDL.out i e; omega))⟩

end Go.Proofs.Ytfikiophfphmbaa

/- Begin, Ask, Walked, learn, walked. -/
import Derived.Test.YtfikiophfphmbaaC1
import Derived.WalkKit
import Derived.WalkSpells
import Derived.ProofKit
import Derived.Outline
import Derived.Handy
import Derived.RowKit3
import Derived.BigQuiet
import Derived.Deep.QuietTactic
import Derived.Deep.RegionHeld3
import Derived.Deep.Draws
import Derived.Deep.RegionLaw
import Derived.RegionTactic
import Derived.BigRegion
import Derived.IntWalk
import Derived.LoopTactic
import Derived.OwnWalk
import Derived.Laws.AppendOwn
import Derived.Laws.OwnMore
import Derived.Laws.MakeOwn
import Derived.Laws.Pointers
import Derived.Maps.AppendAt
import Derived.Deep.AppendLies
import Derived.Below
namespace Go.Proofs.Ytfikiophfphmbaa
open Go.RowKit
set_option linter.unusedVariables false
set_option maxRecDepth 100000

section
variable {P en gs : Nat} {ws st : Bool} {gr at_ : Int} {v : Value} {ks : List (Int × Int)}
set_option maxHeartbeats 2000000 in
theorem begin_yes (g : Nat) (hg : g < gs) (hno : ∀ x ∈ ks, x.1 ≠ (g : Int)) (w : World) (h : Ck w P false st gr at_ en gs v ks) : Calls Try.prog 13 #[.pointer (some ⟨P, 0, none⟩), .int .i64 g] w fun r w' => r = .returned (.tuple #[.int .i64 ((g / 4 : Nat) : Int), .int .i64 0]) ∧ Ck w' P true false g ((g / 4 : Nat) : Int) en gs v ks ∧ Fr (fun k => k = P) w w' := by
  have h16 := h.g16
  have H := hide h
  have HN := hide hno
  clear h hno
  go_enter Try.func13, Try.ntmps13
  go_wp2_with fail
  refine (has_any g true (by simp; omega) _ H.out).mono ?_
  rintro r w1 ⟨rfl, hb1⟩
  have H1 := hide (H.out.next hb1)
  go_wp2_with fail
  refine (owner_no g HN.out _ H1.out).mono ?_
  rintro r w2 ⟨rfl, hb2⟩
  have h2 := H1.out.next hb2
  have H2 := hide h2
  have f12 := hide ((Fr.of_below (S := fun k => k = P) hb1).trans (Fr.of_below (S := fun k => k = P) hb2) (fun _ _ h => h))
  have c0 := h2.c0
  have c1 := h2.c1
  have c2 := h2.c2
  have c3 := h2.c3
  have f0 := h2.f 0 (by omega)
  have f1 := h2.f 1 (by omega)
  have f2 := h2.f 2 (by omega)
  have f3 := h2.f 3 (by omega)
  clear h2 hb1 hb2
  go_wp2_with fail
  refine (again_yes g rfl (by omega) _ (H2.out.walk true false (g : Int) 0)).mono ?_
  rintro r w3 ⟨rfl, h3, f4⟩
  go_wp2
  go_ret2
  exact ⟨rfl, h3, (f12.out.trans (walk_fr _ _ _ _ _ _) (fun _ _ h => h)).trans f4 (fun _ _ h => h)⟩
set_option maxHeartbeats 2000000 in
theorem ask_known (wd g o : Int) (b : Bool) (i : Nat) (hg : 0 ≤ g ∧ g < gs) (hw : 0 ≤ wd ∧ wd ≤ 3) (hi : ks[i]? = some (g, o)) (hno : ∀ j x, j < i → ks[j]? = some x → x.1 ≠ g) (hb : decide ((0 ≤ wd ∧ wd ≤ 3) ∧ (0 ≤ o ∧ o ≤ 4) ∧ (wd = 0 ∨ o = wd ∨ o = 4)) = b) (w : World) (h : Ck w P ws st gr at_ en gs v ks) : Calls Try.prog 22 #[.pointer (some ⟨P, 0, none⟩), .int .i64 wd, .int .i64 g] w fun r w' => r = .returned (.tuple #[.int .i64 (if b then 1 else 2), .int .i64 0]) ∧ Below w.heap.size w w' := by
  have H := hide h
  have HI := hide hi
  have HN := hide hno
  have HB := hide hb
  have w0 := hw.1
  have w3 := hw.2
  have n0 : ¬ wd < 0 := by omega
  have n3 : ¬ 3 < wd := by omega
  clear h hi hno hb hw
  go_enter Try.func22, Try.ntmps22
  go_wp2_with fail
  refine (has_any g true (by simp; omega) _ H.out).mono ?_
  rintro r w1 ⟨rfl, hb1⟩
  have H1 := hide (H.out.next hb1)
  go_wp2_with fail
  refine (owner_yes g o i HI.out HN.out _ H1.out).mono ?_
  rintro r w2 ⟨rfl, hb2⟩
  have B2 := hide (below_step hb1 hb1.size hb2)
  clear hb1 hb2
  go_wp2_with fail
  refine (table_may wd o _).mono ?_
  rintro r w3' ⟨hr, rfl⟩
  rw [HB.out] at hr
  subst hr
  cases b
  all_goals
    go_wp2
    go_ret2
    exact ⟨rfl, B2.out⟩
set_option maxHeartbeats 2000000 in
theorem ask_miss (wd g : Int) (hg : 0 ≤ g ∧ g < gs) (hw : 0 ≤ wd ∧ wd ≤ 3) (hno : ∀ x ∈ ks, x.1 ≠ g) (w : World) (h : Ck w P ws st gr at_ en gs v ks) : Calls Try.prog 22 #[.pointer (some ⟨P, 0, none⟩), .int .i64 wd, .int .i64 g] w fun r w' => r = .returned (.tuple #[.int .i64 3, .int .i64 0]) ∧ Below w.heap.size w w' := by
  have H := hide h
  have HN := hide hno
  have n0 : ¬ wd < 0 := by omega
  have n3 : ¬ 3 < wd := by omega
  clear h hno
  go_enter Try.func22, Try.ntmps22
  go_wp2_with fail
  refine (has_any g true (by simp; omega) _ H.out).mono ?_
  rintro r w1 ⟨rfl, hb1⟩
  have H1 := hide (H.out.next hb1)
  go_wp2_with fail
  refine (owner_no g HN.out _ H1.out).mono ?_
  rintro r w2 ⟨rfl, hb2⟩
  go_wp2
  go_ret2
  exact ⟨rfl, below_step hb1 hb1.size hb2⟩
set_option maxHeartbeats 2000000 in
theorem walked_stale (word : Int) (g : Nat) (hgr : gr = (g : Int)) (hg : g < 16) (w : World) (h : Ck w P true true gr at_ en gs v ks) : Calls Try.prog 15 #[.pointer (some ⟨P, 0, none⟩), .int .i64 at_, .int .i64 word] w fun r w' => r = .returned (.tuple #[.int .i64 ((g / 4 : Nat) : Int), .bool false, .int .i64 0]) ∧ Ck w' P true false gr ((g / 4 : Nat) : Int) en gs v ks ∧ Fr (fun k => k = P) w w' := by
  have c0 := h.c0
  have c1 := h.c1
  have c3 := h.c3
  have H := hide h
  have HG := hide hgr
  clear h hgr
  go_enter Try.func15, Try.ntmps15
  go_wp2_with fail
  refine (again_yes g HG.out hg _ H.out).mono ?_
  rintro r w1 ⟨rfl, h1, f1⟩
  go_wp2
  go_ret3
  exact ⟨rfl, h1, f1⟩
theorem Ck.app {w1 w2 : World} {v' : Value} {ks' : List (Int × Int)} (h : Ck w1 P ws st gr at_ en gs v ks) (hown : w2.ownsRow 0 74 2 v' ks'.length (kcells ks')) (hg : w1.grownBy w2 v.ownBlock) (hat : ∀ k, v'.ownBlock = some k → v.ownBlock = some k ∨ w1.heap.size ≤ k) (hle : ks'.length ≤ en) :
    Ck (w2.setCell ⟨P, 6, none⟩ v') P ws st gr at_ en gs v' ks' ∧ Fr (Ck.S P v) w1 (w2.setCell ⟨P, 6, none⟩ v') ∧ ∀ k, Ck.S P v' k → Ck.S P v k ∨ w1.heap.size ≤ k := by
  have hP := h.hP
  have k : Fr (fun k => v.ownBlock = some k) w1 w2 := Fr.of_grown' hg (fun E hE _ => hE)
  have n : ¬ v.ownBlock = some P := h.ne
  have ne : v'.ownBlock ≠ some P := fun e => (hat P e).elim h.ne (fun e => by omega)
  have f : Fr (fun k => k = P) w2 (w2.setCell ⟨P, 6, none⟩ v') := (Fr.refl (fun k => k = P) w2).setCell (p := ⟨P, 6, none⟩) (fun _ => rfl) _
  have s : ∀ (j : Nat), j ≠ 6 → (w2.setCell ⟨P, 6, none⟩ v').cell? ⟨P, j, none⟩ = w1.cell? ⟨P, j, none⟩ := fun j hne => (setCell_cell_other (by intro e; injection e; omega)).trans (k.cell hP n)
  refine ⟨⟨Nat.lt_of_lt_of_le (Nat.lt_of_lt_of_le hP k.size) f.size, (s 0 (by omega)).trans h.c0, (s 1 (by omega)).trans h.c1, (s 2 (by omega)).trans h.c2, (s 3 (by omega)).trans h.c3, (s 4 (by omega)).trans h.c4, (s 5 (by omega)).trans h.c5, World.cell?_setCell_same' _ _ _ (by rw [k.cell hP n, h.c6]; rfl), fun t ht => by simpa [World.frozen?_setCell] using (k.frozen hP n).trans (h.f t ht), ownsRow_fr hown f (fun k hk e => ne (by rw [hk, e])), ne, h.e8, h.g1, h.g16, hle⟩, (Fr.of_grown' (S := Ck.S P v) hg (fun E hE _ => .inr hE)).setCell (p := ⟨P, 6, none⟩) (fun _ => .inl rfl) _, fun k hk => ?_⟩
  rcases hk with hk | hk
  · exact .inl (.inl hk)
  · exact (hat k hk).elim (fun e => .inl (.inr e)) .inr
theorem news2 (W : World) (a b : Int) (Hn : Nat) (hH : W.heap.size = Hn) : ∀ j u, [Value.int .i64 a, .int .i64 b][j]? = some u → (W.alloc (.cells #[.int .i64 a, .int .i64 b] 74)).cell? ((⟨Hn, 0, none⟩ : Addr).add j) = some u := by
  intro j u hu
  subst hH
  rw [add_plain, Nat.zero_add, World.cell?_alloc_new W _ 74 j]
  simpa using hu
set_option maxHeartbeats 4000000 in
theorem learn_row (a b : Int) (hlt : ks.length < en) (w : World) (h : Ck w P ws st gr at_ en gs v ks) : Calls Try.prog 36 #[.pointer (some ⟨P, 0, none⟩), .agg #[.int .i64 a, .int .i64 b]] w fun r w' => (∃ x, r = .returned x) ∧ ∃ v', Ck w' P ws st gr at_ en gs v' (ks ++ [(a, b)]) ∧ Fr (Ck.S P v) w w' ∧ ∀ k, Ck.S P v' k → Ck.S P v k ∨ w.heap.size ≤ k := by
  obtain ⟨i0, hi, hz0, hz1, hz2⟩ := info_parts info74
  have c6 := h.c6
  have c4 := h.c4
  have f6 := h.f 6 (by omega)
  have he := h.e8
  have hP := h.hP
  have H := hide h
  have hPn : ¬ w.heap.size = P := by omega
  have hne : ¬ ((ks.length : Int) = en) := by omega
  have e1 : (ks.length == en) = false := beq_eq_false_iff_ne.2 (by omega)
  have e2 : ((ks.length : Int) == (en : Int)) = false := beq_eq_false_iff_ne.2 hne
  have e3 : ((0 : Int) == (en : Int)) = false := beq_eq_false_iff_ne.2 (by omega)
  rcases h.form with ⟨rfl, rfl⟩ | ⟨g0, cp, rfl, k1, k2, k3, k4, -⟩
  · clear h
    go_enter Try.func36, Try.ntmps36
    go_wp2_with (go_quiet (fail))
    have HB := hide (H.out.next ((below_drewN ((Below.refl w.heap.size w).alloc (Nat.le_refl _) (.cells #[.int .i64 a, .int .i64 b] 74)) nq)))
    have HW := hide ((HB.out.next ((below_drew0 (Below.refl _ _)))).next ((Below.refl _ _).alloc (Nat.le_refl _) (.cells #[.int .i64 a, .int .i64 b] 74)))
    have hwn := HW.out.own
    have HO := hide hwn
    clear hwn
    go_region_law ((refine step_append_lies _ (by rfl) (.tmp 26) (.tmp 28) 66 (by rfl) 0 74 i0 (.agg #[.int .i64 0, .int .i64 0]) 2 16 Try.underlying66 hi hz0 hz1 hz2 (by rfl) (by decide) (Value.slice none 0 0) _ (kcells []) (by rfl) HO.out ⟨w.heap.size + 1, 0, none⟩ 1 1 [.int .i64 a, .int .i64 b] (by rfl) rfl (news2 _ a b _ (by simp)) (kcells_cell [(a, b)]) (by omega) (by unfold maxLen; first | omega | (simp; done) | (simp; omega)) (by first | omega | (simp; done) | (simp; omega)) (Nat.zero_le _) _ rfl ?_; intro g2 cap w2 hown hgrow hat hlt2; have q1 : w2.cell? ⟨P, 6, none⟩ = some (Value.slice none 0 0) := hgrow.cell HW.out.c6 (fun e => HW.out.ne e.symm); have q2 : w2.frozen? ⟨P, 6, none⟩ = false := (World.frozen?_of_block (a := ⟨P, 6, none⟩) (hgrow.block P HW.out.hP (fun e => HW.out.ne e.symm))).trans (HW.out.f 6 (by omega)); have HN := hide hown; have HGR := hide hgrow; have HAT := hide hat; clear hown hgrow hat))
    all_goals
      have hbW := hide ((below_drew0 (below_drewN ((Below.refl w.heap.size w).alloc (Nat.le_refl _) (.cells #[.int .i64 a, .int .i64 b] 74)) nq)).alloc (by simp) (.cells #[.int .i64 a, .int .i64 b] 74))
      go_end0
      obtain ⟨a1, a2, a3⟩ := HW.out.app (ks' := [] ++ [(a, b)]) (show w2.ownsRow 0 74 2 (.slice (some ⟨g2, 0, none⟩) 1 cap) 1 (kcells [(a, b)]) from HN.out) HGR.out (fun k hk => by
        have hk2 : g2 = k := by simpa [Value.ownBlock] using hk
        rcases HAT.out with e | e
        · exact .inl (by rw [e, hk2])
        · exact .inr (by simp; simp at e; omega)) (by simp; omega)
      exact ⟨⟨_, rfl⟩, _, a1, (Fr.of_below (S := Ck.S P (Value.slice none 0 0)) hbW.out).trans a2 (fun _ _ h => h), fun k hk => (a3 k hk).imp id (fun e => by simp at e; omega)⟩
  · clear h
    go_enter Try.func36, Try.ntmps36
    go_wp2_with (go_quiet (fail))
    have HB := hide (H.out.next ((below_drewN ((Below.refl w.heap.size w).alloc (Nat.le_refl _) (.cells #[.int .i64 a, .int .i64 b] 74)) nq)))
    have HW := hide ((HB.out.next ((below_drew0 (Below.refl _ _)))).next ((Below.refl _ _).alloc (Nat.le_refl _) (.cells #[.int .i64 a, .int .i64 b] 74)))
    have hwn := HW.out.own
    have HO := hide hwn
    clear hwn
    go_region_law ((refine step_append_lies _ (by rfl) (.tmp 26) (.tmp 28) 66 (by rfl) 0 74 i0 (.agg #[.int .i64 0, .int .i64 0]) 2 16 Try.underlying66 hi hz0 hz1 hz2 (by rfl) (by decide) (Value.slice (some ⟨g0, 0, none⟩) ks.length cp) _ (kcells ks) (by rfl) HO.out ⟨w.heap.size + 1, 0, none⟩ 1 1 [.int .i64 a, .int .i64 b] (by rfl) rfl (news2 _ a b _ (by simp)) (kcells_cell [(a, b)]) (by omega) (by unfold maxLen; first | omega | (simp; done) | (simp; omega)) (by first | omega | (simp; done) | (simp; omega)) (Nat.zero_le _) _ rfl ?_; intro g2 cap w2 hown hgrow hat hlt2; have q1 : w2.cell? ⟨P, 6, none⟩ = some (Value.slice (some ⟨g0, 0, none⟩) ks.length cp) := hgrow.cell HW.out.c6 (fun e => HW.out.ne e.symm); have q2 : w2.frozen? ⟨P, 6, none⟩ = false := (World.frozen?_of_block (a := ⟨P, 6, none⟩) (hgrow.block P HW.out.hP (fun e => HW.out.ne e.symm))).trans (HW.out.f 6 (by omega)); have HN := hide hown; have HGR := hide hgrow; have HAT := hide hat; clear hown hgrow hat))
    all_goals
      have hbW := hide ((below_drew0 (below_drewN ((Below.refl w.heap.size w).alloc (Nat.le_refl _) (.cells #[.int .i64 a, .int .i64 b] 74)) nq)).alloc (by simp) (.cells #[.int .i64 a, .int .i64 b] 74))
      go_end0
      obtain ⟨a1, a2, a3⟩ := HW.out.app (ks' := ks ++ [(a, b)]) (show w2.ownsRow 0 74 2 (.slice (some ⟨g2, 0, none⟩) (ks.length + 1) cap) (ks ++ [(a, b)]).length (kcells (ks ++ [(a, b)])) from by rw [List.length_append, kcells_app]; exact HN.out) HGR.out (fun k hk => by
        have hk2 : g2 = k := by simpa [Value.ownBlock] using hk
        rcases HAT.out with e | e
        · exact .inl (by rw [e, hk2])
        · exact .inr (by simp; simp at e; omega)) (by simp; omega)
      exact ⟨⟨_, rfl⟩, _, a1, (Fr.of_below (S := Ck.S P (Value.slice (some ⟨g0, 0, none⟩) ks.length cp)) hbW.out).trans a2 (fun _ _ h => h), fun k hk => (a3 k hk).imp id (fun e => by simp at e; omega)⟩
end
end Go.Proofs.Ytfikiophfphmbaa

import Derived.Test.YtpabnkbpklggnaaDoorV28
import Derived.Test.YtpabnkbpklggnaaDoorProg
import Derived.WalkKit
import Derived.ProofKit
import Derived.KernelRfl
import Derived.Shelf.RegionOpen
import Derived.Laws.ResultCell
import Derived.Lib.Builder
import Derived.Lib.UnsafeStr
import Derived.Lib.AppendStr
import Derived.Lib.MakeNoZero
import Derived.Lib.Strings
import Derived.Lib.Slices
import Derived.Lib.Walk
import Derived.Laws.Externs
import Derived.IntWalk
import Derived.Lib.AppendIntMem
import Derived.Shelf.Strings.BuilderX
namespace Go.Proofs.YtpabnkbpklggnaaDoor
open Go.RowKit Go.Shelf Go.Lib Go.Sort
set_option linter.unusedVariables false
set_option maxRecDepth 100000
set_option maxHeartbeats 2000000
theorem dec_neg {n : Int} (h : n < 0) (h2 : -10 < n) : Lib.itoa n = 45 :: Lib.itoa (-n) := by
  obtain ⟨u, rfl⟩ : ∃ u : Nat, n = -(u : Int) := ⟨n.natAbs, by omega⟩
  rw [Lib.itoa_neg u (by omega), Int.neg_neg, Lib.itoa_nonneg]
theorem dec_neg2 {n : Int} (h : ¬ -10 < n) : Lib.itoa n = Lib.itoa (n.tdiv 10) ++ Lib.itoa (-(n.tmod 10)) := by
  obtain ⟨u, rfl⟩ : ∃ u : Nat, n = -(u : Int) := ⟨n.natAbs, by omega⟩
  have e1 : (-(u : Int)).tdiv 10 = -((u / 10 : Nat) : Int) := by
    rw [Int.neg_tdiv, Int.tdiv_eq_ediv_of_nonneg (by omega)]; omega
  have e2 : -((-(u : Int)).tmod 10) = ((u % 10 : Nat) : Int) := by
    rw [Int.neg_tmod, Int.tmod_eq_emod_of_nonneg (by omega)]; omega
  rw [e1, e2, Lib.itoa_neg u (by omega), Lib.itoa_neg (u / 10) (by omega), Lib.itoa_nonneg, Lib.decDigits, dif_neg (by omega)]
  rw [show Lib.decDigits (u % 10) = [UInt8.ofNat (48 + u % 10)] by rw [Lib.decDigits, dif_pos (by omega)]]
  rfl
theorem dec_small {n : Int} (h : 0 ≤ n) (h2 : ¬ 9 < n) : Lib.itoa n = [UInt8.ofNat (48 + n.toNat % 10)] := by
  obtain ⟨u, rfl⟩ : ∃ u : Nat, n = (u : Int) := ⟨n.toNat, by omega⟩
  rw [Lib.itoa_nonneg, Lib.decDigits, dif_pos (by omega)]
  simp only [Int.toNat_natCast]
  rw [Nat.mod_eq_of_lt (by omega)]
theorem dec_big {n : Int} (h2 : 9 < n) : Lib.itoa n = Lib.itoa (n.tdiv 10) ++ [UInt8.ofNat (48 + n.toNat % 10)] := by
  obtain ⟨u, rfl⟩ : ∃ u : Nat, n = (u : Int) := ⟨n.toNat, by omega⟩
  have e1 : (u : Int).tdiv 10 = ((u / 10 : Nat) : Int) := by rw [Int.tdiv_eq_ediv_of_nonneg (by omega)]; omega
  rw [e1, Lib.itoa_nonneg, Lib.itoa_nonneg, Lib.decDigits, dif_neg (by omega)]
  simp
/-! Decimal (function 41): the numeral, by the reckoner. -/
noncomputable def isV (r : R (SV × SH × Nat)) (x : SV) : Bool := match r with | .ok (v, _, _) => SV.beq v x | .no _ => false
theorem isV_ok {r : R (SV × SH × Nat)} {x : SV} (h : isV r x = true) : ∃ H n, r = .ok (x, H, n) := by
  unfold isV at h
  split at h
  · rename_i v H n; rw [SV.eq_of_beq h]; exact ⟨H, n, rfl⟩
  · cases h
noncomputable def decBase (l : List IE) : Base := { call := fun f args H n => if f == 41 then (match args with | [.int .i64 e] => if l.any (IE.beq e) then some (mkTxt (numCh e), H, n) else none | _ => none) else none }
noncomputable def DecAt (n : Int) : Prop := ∀ w : World, Calls Tryd.prog 41 #[.int .i64 n] w fun e w' => e = .returned (.string ⟨(Lib.itoa n).toArray⟩) ∧ Below w.heap.size w w'
theorem decBase_ok {C : Ctx} {E : Val} (hP : C.P = Tryd.prog) {l : List IE} (h : ∀ e ∈ l, DecAt (e.den E.I)) : BaseOk C E (decBase l) := by
  refine ⟨fun f args H n v H' n' hc ρ w vs r hg ha => ?_, fun _ _ _ _ _ h => by cases h⟩
  simp only [decBase] at hc
  split at hc
  case isFalse => cases hc
  rename_i hf
  obtain rfl : f = 41 := by simpa using hf
  split at hc
  case h_2 => cases hc
  rename_i e
  split at hc
  case isFalse => cases hc
  rename_i he
  cases hc
  obtain ⟨x, hx, hb⟩ := List.any_eq_true.1 he
  rw [← IE.eq_of_beq hb] at hx
  obtain ⟨u, t, h1, h2, rfl⟩ := ha
  cases h2
  cases h1
  have := h e hx w
  rw [← hP] at this
  refine (callsIn_wide (n := 0)).1 (CallsIn.mono ((callsIn_wide (n := 0)).2 this) ?_)
  rintro e' w' ⟨rfl, hb'⟩
  refine ⟨_, ρ, rfl, Stp.of_below r hb', ?_⟩
  have := mkTxt_ok (E := E) (ρ := ρ) (numCh_ok E.I e).2
  rw [(numCh_ok E.I e).1] at this
  exact this
noncomputable def A1 : Asm := ((rangeAsm 1).add .lss (.at 0) (.lit 0) true).add .gtr (.at 0) (.lit (-10)) true
noncomputable def A2 : Asm := ((rangeAsm 1).add .lss (.at 0) (.lit 0) true).add .gtr (.at 0) (.lit (-10)) false
noncomputable def A3 (d : Int) : Asm := (((rangeAsm 1).add .lss (.at 0) (.lit 0) false).add .gtr (.at 0) (.lit 9) false).add .eql (.bin .rem .i64 (.at 0) (.lit 10)) (.lit d) true
noncomputable def A4 (d : Int) : Asm := (((rangeAsm 1).add .lss (.at 0) (.lit 0) false).add .gtr (.at 0) (.lit 9) true).add .eql (.bin .rem .i64 (.at 0) (.lit 10)) (.lit d) true
noncomputable def eN : IE := .bin .sub .i64 (.lit 0) (.at 0)
noncomputable def eQ : IE := .bin .quo .i64 (.at 0) (.lit 10)
noncomputable def eR : IE := .bin .sub .i64 (.lit 0) (.bin .rem .i64 (.at 0) (.lit 10))
theorem run1 : isV ((rk ⟨Tryd.prog, A1, 5⟩ (decBase [eN]) 300).call 41 [.int .i64 (.at 0)] (tabHeap []) 5) (.txt [.c 45, .n eN]) = true := by kernel_rfl
theorem run2 : isV ((rk ⟨Tryd.prog, A2, 5⟩ (decBase [eQ, eR]) 300).call 41 [.int .i64 (.at 0)] (tabHeap []) 5) (.txt [.n eQ, .n eR]) = true := by kernel_rfl
theorem run3 : (List.range 10).all (fun d => isV ((rk ⟨Tryd.prog, A3 d, 5⟩ {} 300).call 41 [.int .i64 (.at 0)] (tabHeap []) 5) (.str [48 + d])) = true := by kernel_rfl
theorem run4 : (List.range 10).all (fun d => isV ((rk ⟨Tryd.prog, A4 d, 5⟩ (decBase [eQ]) 300).call 41 [.int .i64 (.at 0)] (tabHeap []) 5) (.txt [.n eQ, .c (48 + d)])) = true := by kernel_rfl
theorem hTn (E : Val) (w : World) : TabsIn E 5 [] w := by intro g l h; cases h
theorem dec_run {A : Asm} {B : Base} {v : SV} {n : Int} {l : List UInt8} (h : isV ((rk ⟨Tryd.prog, A, 5⟩ B 300).call 41 [.int .i64 (.at 0)] (tabHeap []) 5) v = true) (hA : A.Holds (valOf [n]).I) (hB : BaseOk ⟨Tryd.prog, A, 5⟩ (valOf [n]) B)
    (hv : ∀ ρ u, Den (valOf [n]) ρ v u → u = .string ⟨l.toArray⟩) (hl : l = Lib.itoa n) : DecAt n := by
  intro w
  obtain ⟨H', n', hh⟩ := isV_ok h
  have := call_ok (C := ⟨Tryd.prog, A, 5⟩) (ts := []) («as» := [.int .i64 n]) hh hA hB (hTn _ w) (by simp [DenL, Den, IE.den, valOf])
  refine (callsIn_wide (n := 0)).1 (CallsIn.mono ((callsIn_wide (n := 0)).2 this) ?_)
  rintro e w' ⟨u, ρ', rfl, hb, hd⟩
  rw [hv ρ' u hd, hl]
  exact ⟨rfl, hb⟩
theorem wf64 {n : Int} (h : -9223372036854775808 ≤ n ∧ n ≤ 9223372036854775807) : ∀ x ∈ ([n] : List Int), (Lit.int .i64 x).wf = true := by
  intro x hx
  simp only [List.mem_singleton] at hx
  subst hx
  simp [Lit.wf, IntKind.min, IntKind.max, IntKind.signed, IntKind.bits]
  omega
theorem dec_all (k : Nat) : ∀ n : Int, 2 * n.natAbs + (if n < 0 then 1 else 0) < k → -9223372036854775808 ≤ n → n ≤ 9223372036854775807 → DecAt n := by
  induction k with
  | zero => intro n h; omega
  | succ k ih =>
    intro n hk h1 h2
    have hr := rangeAsm_ok (wf64 ⟨h1, h2⟩) 1
    have i0 : (valOf [n]).I 0 = n := rfl
    by_cases hn : n < 0
    · rw [if_pos hn] at hk
      have f1 : ((rangeAsm 1).add .lss (.at 0) (.lit 0) true).Holds (valOf [n]).I := hr.add (by simp [cmpD, IE.den, i0, hn])
      obtain ⟨u, hu⟩ : ∃ u : Nat, n = -(u : Int) := ⟨n.natAbs, by omega⟩
      have e1 : n.tdiv 10 = -((u / 10 : Nat) : Int) := by
        rw [hu, Int.neg_tdiv, Int.tdiv_eq_ediv_of_nonneg (by omega)]; omega
      have e2 : n.tmod 10 = -((u % 10 : Nat) : Int) := by
        rw [hu, Int.neg_tmod, Int.tmod_eq_emod_of_nonneg (by omega)]; omega
      by_cases hn2 : -10 < n
      · have hA : A1.Holds (valOf [n]).I := f1.add (by simp [cmpD, IE.den, i0, hn2])
        have eN' : eN.den (valOf [n]).I = -n := by
          simp only [eN, IE.den, i0, arith]; rw [IntWalk.i64_in _ (by omega)]; omega
        refine dec_run run1 hA (decBase_ok rfl fun e he => ?_) (l := 45 :: Lib.itoa (-n)) (fun ρ u hd => ?_) (dec_neg hn hn2).symm
        · simp only [List.mem_singleton] at he; subst he
          rw [eN']
          exact ih (-n) (by rw [if_neg (by omega)]; omega) (by omega) (by omega)
        · rw [hd.2]; simp only [chDen, eN', List.append_nil]; rfl
      · have hA : A2.Holds (valOf [n]).I := f1.add (by simp [cmpD, IE.den, i0]; omega)
        have eQ' : eQ.den (valOf [n]).I = n.tdiv 10 := by
          simp only [eQ, IE.den, i0, arith]; exact IntWalk.i64_in _ (by omega)
        have eR' : eR.den (valOf [n]).I = -(n.tmod 10) := by
          simp only [eR, IE.den, i0, arith]; rw [IntWalk.i64_in _ (by omega)]; omega
        refine dec_run run2 hA (decBase_ok rfl fun e he => ?_) (l := Lib.itoa (n.tdiv 10) ++ Lib.itoa (-(n.tmod 10))) (fun ρ u hd => ?_) (dec_neg2 hn2).symm
        · simp only [List.mem_cons, List.not_mem_nil, or_false] at he
          rcases he with rfl | rfl
          · rw [eQ']
            exact ih _ (by rw [e1]; split <;> omega) (by omega) (by omega)
          · rw [eR']
            exact ih _ (by rw [if_neg (by omega)]; omega) (by omega) (by omega)
        · rw [hd.2]; simp only [chDen, eQ', eR', List.append_nil]
    · have f1 : ((rangeAsm 1).add .lss (.at 0) (.lit 0) false).Holds (valOf [n]).I := hr.add (by simp [cmpD, IE.den, i0]; omega)
      obtain ⟨u, hu⟩ : ∃ u : Nat, n = (u : Int) := ⟨n.toNat, by omega⟩
      have e2 : n.tmod 10 = ((u % 10 : Nat) : Int) := by rw [hu, Int.tmod_eq_emod_of_nonneg (by omega)]; omega
      have e1 : n.tdiv 10 = ((u / 10 : Nat) : Int) := by rw [hu, Int.tdiv_eq_ediv_of_nonneg (by omega)]; omega
      have hd : u % 10 ∈ List.range 10 := by simp; omega
      have ut : n.toNat = u := by omega
      by_cases hn2 : 9 < n
      · have hA : (A4 ((u % 10 : Nat) : Int)).Holds (valOf [n]).I := (f1.add (by simp [cmpD, IE.den, i0, hn2])).add (by simp [cmpD, IE.den, i0, arith, e2])
        have eQ' : eQ.den (valOf [n]).I = n.tdiv 10 := by
          simp only [eQ, IE.den, i0, arith]; exact IntWalk.i64_in _ (by omega)
        refine dec_run (List.all_eq_true.1 run4 _ hd) hA (decBase_ok rfl fun e he => ?_) (l := Lib.itoa (n.tdiv 10) ++ [UInt8.ofNat (48 + n.toNat % 10)]) (fun ρ u' hd' => ?_) (dec_big hn2).symm
        · simp only [List.mem_singleton] at he; subst he
          rw [eQ']
          exact ih _ (by rw [e1]; split <;> omega) (by omega) (by omega)
        · rw [hd'.2, ut]; simp only [chDen, eQ']
      · have hA : (A3 ((u % 10 : Nat) : Int)).Holds (valOf [n]).I := (f1.add (by simp [cmpD, IE.den, i0]; omega)).add (by simp [cmpD, IE.den, i0, arith, e2])
        refine dec_run (List.all_eq_true.1 run3 _ hd) hA (.none _ _) (l := [UInt8.ofNat (48 + n.toNat % 10)]) (fun ρ u' hd' => ?_) (dec_small (by omega) hn2).symm
        rw [hd'.2, ut]; rfl
theorem dec_ok (ts : List (Nat × List SV)) : LibOk Tryd.prog 5 ts 41 .dec := fun w n h1 h2 => dec_all _ n (Nat.lt_succ_self _) h1 h2 w
end Go.Proofs.YtpabnkbpklggnaaDoor

/- Notes compared. -/
import Derived.Test.YtopfbmgmpihcnaaG
import Derived.WalkKit
import Derived.WalkSpells
import Derived.ProofKit
import Derived.Outline
import Derived.Handy
import Derived.RowKit3
import Derived.BigQuiet
import Derived.Deep.QuietTactic
import Derived.Deep.RegionHeld3
import Derived.Deep.Draws
import Derived.Deep.RegionLaw
import Derived.RegionTactic
import Derived.BigRegion
import Derived.IntWalk
import Derived.LoopTactic
import Derived.OwnWalk
import Derived.Laws.AppendOwn
import Derived.Laws.OwnMore
import Derived.Laws.MakeOwn
import Derived.Laws.Pointers
import Derived.Maps.AppendAt
import Derived.Deep.AppendLies
import Derived.Below
import Derived.Laws.StructEq
namespace Go.Proofs.Ytopfbmgmpihcnaa
open Go.RowKit
set_option linter.unusedVariables false
set_option maxRecDepth 100000


theorem under3 : Try.prog.underlying 3 = some (.int .i64) := by kernel_rfl
theorem eqf_int (w : World) (d t : Nat) (xs ys : Array Value) (f : Field) (fs : List Field) (a b : Int) (k' : IntKind) (hn : (f.name ≠ "_")) (ht : Try.prog.underlying f.type = some (.int k')) (ha : ∀ W, (part f.type xs f.offset).run Try.prog W = .ok (.int .i64 a) W) (hb : ∀ W, (part f.type ys f.offset).run Try.prog W = .ok (.int .i64 b) W) (r : Bool) (hr : (Op.eqFields (d + 1) xs ys fs).run Try.prog w = .ok r w) :
    (Op.eqFields (d + 1) xs ys (f :: fs)).run Try.prog w = .ok ((a == b) && r) w := by
  rw [Op.eqFields, if_pos hn]
  simp only [Sem.run_bind, ha, hb, Result.andThen_ok, run_equalIn_int w d f.type .i64 k' a b ht]
  cases h : (a == b)
  · rfl
  · simpa using hr
theorem info3 : (Try.prog.info? 3).map (fun i => (i.zero, i.size, i.bytes)) = some (some (.int .i64 0), 1, 8) := by kernel_rfl
theorem eq_int (d : Nat) (a b : Int) (w : World) : (Op.equalIn (d + 1) 3 (.int .i64 a) (.int .i64 b)).run Try.prog w = .ok (a == b) w := by
  simp only [Op.equalIn, Sem.run_bind, run_underlying Try.underlying3, Result.andThen_ok]
  rfl
theorem arr_run (d : Nat) (a b c e : Int) (w : World) : (Op.equalIn (d + 2) 49 (.agg #[.int .i64 a, .int .i64 b]) (.agg #[.int .i64 c, .int .i64 e])).run Try.prog w = .ok ((a == c) && (b == e)) w := by
  obtain ⟨i, hi, -⟩ := info_parts info3
  have p0 : ∀ x y : Int, ∀ W, (part 3 #[.int .i64 x, .int .i64 y] (0 * Try.prog.cellsOf 3)).run Try.prog W = .ok (.int .i64 x) W := fun x y W => by kernel_rfl
  have p1' : ∀ x y : Int, ∀ W, (part 3 #[.int .i64 x, .int .i64 y] (Try.prog.cellsOf 3)).run Try.prog W = .ok (.int .i64 y) W := fun x y W => by kernel_rfl
  have p1 : ∀ x y : Int, ∀ W, (part 3 #[.int .i64 x, .int .i64 y] (1 * Try.prog.cellsOf 3)).run Try.prog W = .ok (.int .i64 y) W := fun x y W => by kernel_rfl
  rw [run_equalIn_array w (d + 1) #[.int .i64 a, .int .i64 b] #[.int .i64 c, .int .i64 e] (show Try.prog.underlying 49 = some (.array 2 3) by kernel_rfl) hi]
  rw [show List.range 2 = [0, 1] from rfl]
  simp only [Op.eqItems, Sem.run_bind, p0, Result.andThen_ok, eq_int]
  cases h1 : (a == c) <;> cases h2 : (b == e) <;> simp [Sem.run_bind, p1', Result.andThen_ok, eq_int] <;> simp_all
theorem eqf_arr (w : World) (d : Nat) (xs ys : Array Value) (f : Field) (fs : List Field) (a b a' b' : Int) (hn : (f.name ≠ "_")) (ht : f.type = 49) (ha : ∀ W, (part f.type xs f.offset).run Try.prog W = .ok (.agg #[.int .i64 a, .int .i64 b]) W) (hb : ∀ W, (part f.type ys f.offset).run Try.prog W = .ok (.agg #[.int .i64 a', .int .i64 b']) W) (r : Bool) (hr : (Op.eqFields (d + 2) xs ys fs).run Try.prog w = .ok r w) :
    (Op.eqFields (d + 2) xs ys (f :: fs)).run Try.prog w = .ok (((a == a') && (b == b')) && r) w := by
  rw [Op.eqFields, if_pos hn]
  have h := arr_run d a b a' b' w
  rw [← ht] at h
  simp only [Sem.run_bind, ha, hb, Result.andThen_ok, h]
  cases h : ((a == a') && (b == b'))
  · rfl
  · simpa using hr
theorem eqf_bool (w : World) (d : Nat) (xs ys : Array Value) (f : Field) (fs : List Field) (a b : Bool) (hn : (f.name ≠ "_")) (ht : Try.prog.underlying f.type = some .bool) (ha : ∀ W, (part f.type xs f.offset).run Try.prog W = .ok (.bool a) W) (hb : ∀ W, (part f.type ys f.offset).run Try.prog W = .ok (.bool b) W) (r : Bool) (hr : (Op.eqFields (d + 1) xs ys fs).run Try.prog w = .ok r w) :
    (Op.eqFields (d + 1) xs ys (f :: fs)).run Try.prog w = .ok ((a == b) && r) w := by
  rw [Op.eqFields, if_pos hn]
  simp only [Sem.run_bind, ha, hb, Result.andThen_ok, run_equalIn_bool w d f.type a b ht]
  cases h : (a == b)
  · rfl
  · simpa using hr
theorem note_run (x y : Nt) (w : World) : (Op.equalIn 10000 51 x.v y.v).run Try.prog w = .ok ((x.k == y.k) && ((x.c == y.c) && ((x.l == y.l) && ((x.w == y.w) && ((x.s == y.s) && (((x.d == y.d) && (x.e == y.e)) && ((x.b == y.b) && ((x.n == y.n) && true)))))))) w := by
  rw [show (10000 : Nat) = 9997 + 1 + 1 + 1 from rfl, run_equalIn_agg w (9997 + 1 + 1) 51 _ _ (by kernel_rfl) (by kernel_rfl)]
  obtain ⟨F, hF⟩ : ∃ F, F = (Try.prog.fieldsOf 51).toList := ⟨_, rfl⟩
  rw [← hF]
  have e : F = [F[0]!, F[1]!, F[2]!, F[3]!, F[4]!, F[5]!, F[6]!, F[7]!] := by subst hF; kernel_rfl
  rw [e]
  subst hF
  refine eqf_int w 9998 0 _ _ _ _ _ _ .i64 (by decide) (by kernel_rfl) (fun W => by kernel_rfl) (fun W => by kernel_rfl) _ ?_
  refine eqf_int w 9998 0 _ _ _ _ _ _ .i64 (by decide) (by kernel_rfl) (fun W => by kernel_rfl) (fun W => by kernel_rfl) _ ?_
  refine eqf_int w 9998 0 _ _ _ _ _ _ .i64 (by decide) (by kernel_rfl) (fun W => by kernel_rfl) (fun W => by kernel_rfl) _ ?_
  refine eqf_int w 9998 0 _ _ _ _ _ _ .i64 (by decide) (by kernel_rfl) (fun W => by kernel_rfl) (fun W => by kernel_rfl) _ ?_
  refine eqf_int w 9998 0 _ _ _ _ _ _ .i64 (by decide) (by kernel_rfl) (fun W => by kernel_rfl) (fun W => by kernel_rfl) _ ?_
  refine eqf_arr w 9997 _ _ _ _ _ _ _ _ (by decide) (by kernel_rfl) (fun W => by kernel_rfl) (fun W => by kernel_rfl) _ ?_
  refine eqf_bool w 9998 _ _ _ _ _ _ (by decide) (by kernel_rfl) (fun W => by kernel_rfl) (fun W => by kernel_rfl) _ ?_
  refine eqf_int w 9998 0 _ _ _ _ _ _ .i64 (by decide) (by kernel_rfl) (fun W => by kernel_rfl) (fun W => by kernel_rfl) _ ?_
  rfl
def Nt.same (x y : Nt) : Bool := (x.k == y.k) && ((x.c == y.c) && ((x.l == y.l) && ((x.w == y.w) && ((x.s == y.s) && (((x.d == y.d) && (x.e == y.e)) && ((x.b == y.b) && ((x.n == y.n) && true)))))))
theorem Nt.same_refl (x : Nt) : x.same x = true := by simp [Nt.same]
theorem Nt.same_eq {x y : Nt} (h : x.same y = true) : x = y := by
  obtain ⟨a1, a2, a3, a4, a5, a6, a7, a8, a9⟩ := x
  obtain ⟨b1, b2, b3, b4, b5, b6, b7, b8, b9⟩ := y
  simp [Nt.same] at h
  simp [h]
theorem note_eql (x y : Nt) (w : World) : (binOp BinOp.eql 51 x.v y.v).run Try.prog w = .ok (.bool (x.same y)) w := by
  rw [run_eql_struct, note_run]; rfl
theorem note_neq (x y : Nt) (w : World) : (binOp BinOp.neq 51 x.v y.v).run Try.prog w = .ok (.bool (!(x.same y))) w := by
  rw [run_neq_struct, note_run]; rfl
end Go.Proofs.Ytopfbmgmpihcnaa

/- The reference's Put and Take, walked. -/
import Derived.Test.YtopfbmgmpihcnaaM
import Derived.Test.YtopfbmgmpihcnaaJ
import Derived.WalkKit
import Derived.WalkSpells
import Derived.ProofKit
import Derived.Outline
import Derived.Handy
import Derived.RowKit3
import Derived.BigQuiet
import Derived.Deep.QuietTactic
import Derived.Deep.RegionHeld3
import Derived.Deep.Draws
import Derived.Deep.RegionLaw
import Derived.RegionTactic
import Derived.BigRegion
import Derived.IntWalk
import Derived.LoopTactic
import Derived.OwnWalk
import Derived.Laws.AppendOwn
import Derived.Laws.OwnMore
import Derived.Laws.MakeOwn
import Derived.Laws.Pointers
import Derived.Maps.AppendAt
import Derived.Deep.AppendLies
import Derived.Below
import Derived.Laws.AppendOwnNone
namespace Go.Proofs.Ytopfbmgmpihcnaa
open Go.RowKit
set_option linter.unusedVariables false
set_option maxRecDepth 100000

/-- Behind an append, and the store of what came of it. -/
theorem app_la {w1 w2 : World} {P d base : Nat} {v v0 v2 : Value} {ns ms : List Nt} (h : La w1 P d v ns) (hown : w2.ownsRow base 51 9 v2 ms.length (cellsOf ms)) (hg : w1.grownBy w2 v0.ownBlock) (hv0 : ∀ k, v0.ownBlock = some k → v.ownBlock = some k ∨ w1.heap.size ≤ k) (hat : v2.ownBlock = v0.ownBlock ∨ v2.ownBlock = some w1.heap.size) (hle : ms.length ≤ d) :
    La (w2.setCell ⟨P, 1, none⟩ v2) P d v2 ms ∧ Fr (La.S P v) w1 (w2.setCell ⟨P, 1, none⟩ v2) ∧ ∀ k, La.S P v2 k → La.S P v k ∨ w1.heap.size ≤ k := by
  have hP := h.hP
  have hS : ¬ v0.ownBlock = some P := fun e => by
    rcases hv0 P e with e | e
    · exact h.ne e
    · omega
  have fA : Fr (fun k => v0.ownBlock = some k) w1 w2 := Fr.of_grown' hg (fun E hE _ => hE)
  have h2 : ∀ k, v2.ownBlock = some k → v.ownBlock = some k ∨ w1.heap.size ≤ k := fun k hk => by
    rcases hat with e | e
    · exact hv0 k (by rw [← e]; exact hk)
    · rw [e] at hk; injection hk with hk; exact .inr (by omega)
  have ne2 : v2.ownBlock ≠ some P := fun e => by
    rcases h2 P e with e | e
    · exact h.ne e
    · omega
  refine ⟨put_la h (ow_mono hown (Nat.zero_le _)) ne2 fA hS hle, ?_, fun k hk => ?_⟩
  · exact (Fr.of_grown' (S := La.S P v) hg (fun E hE hlt => (hv0 E hE).elim .inr (fun h => by omega))).setCell (p := ⟨P, 1, none⟩) (fun _ => .inl rfl) _
  · rcases hk with hk | hk
    · exact .inl (.inl hk)
    · rcases h2 k hk with e | e
      · exact .inl (.inr e)
      · exact .inr e
theorem app_la2 {w1 w2 : World} {P d base N : Nat} {v v0 v2 : Value} {ns ms : List Nt} (h : La w1 P d v ns) (hPN : P < N) (hN : N ≤ w1.heap.size) (hown : w2.ownsRow base 51 9 v2 ms.length (cellsOf ms)) (hg : w1.grownBy w2 v0.ownBlock) (hv0 : ∀ k, v0.ownBlock = some k → N ≤ k) (hat : v2.ownBlock = v0.ownBlock ∨ v2.ownBlock = some w1.heap.size) (hle : ms.length ≤ d) :
    La (w2.setCell ⟨P, 1, none⟩ v2) P d v2 ms ∧ Fr (fun k => k = P ∨ N ≤ k) w1 (w2.setCell ⟨P, 1, none⟩ v2) ∧ ∀ k, La.S P v2 k → k = P ∨ N ≤ k := by
  have h2 : ∀ k, v2.ownBlock = some k → N ≤ k := fun k hk => by
    rcases hat with e | e
    · exact hv0 k (by rw [← e]; exact hk)
    · rw [e] at hk; injection hk with hk; omega
  have fA : Fr (fun k => v0.ownBlock = some k) w1 w2 := Fr.of_grown' hg (fun E hE _ => hE)
  refine ⟨put_la h (ow_mono hown (Nat.zero_le _)) (fun e => by have := h2 P e; omega) fA (fun e => by have := hv0 P e; omega) hle, (Fr.of_grown' (S := fun k => k = P ∨ N ≤ k) hg (fun E hE _ => .inr (hv0 E hE))).setCell (p := ⟨P, 1, none⟩) (fun _ => .inl rfl) _, fun k hk => ?_⟩
  rcases hk with hk | hk
  · exact .inl hk
  · exact .inr (h2 k hk)
set_option maxHeartbeats 4000000 in
theorem rput_full {R d c : Nat} {v : Value} {av : Option Addr} {ns ms : List Nt} (hm : ¬ ns.length + ms.length ≤ d) (hms : ms.length ≤ 1000) (w : World) (h : La w R d v ns) :
    Calls Try.prog 20 #[.pointer (some ⟨R, 0, none⟩), .slice av ms.length c] w fun r w' => r = .returned (.bool false) ∧ Below w.heap.size w w' := by
  have c0 := h.c0
  have c1 := h.c1
  have hd := h.d16
  have hl := h.le
  have hx : (d : Int) < ns.length + ms.length := by omega
  have e : IntKind.i64.wrap ((ns.length : Int) + ms.length) = ns.length + ms.length := IntWalk.i64_in _ (by omega)
  rcases h.form with ⟨rfl, rfl⟩ | ⟨g, cp, rfl, h1, h2, h3⟩
  · replace h := hide h
    have hx0 : (d : Int) < ms.length := by simpa using hx
    have e0 : IntKind.i64.wrap (0 + (ms.length : Int)) = ms.length := by rw [Int.zero_add]; exact IntWalk.i64_in _ (by omega)
    clear hm
    go_enter Try.func20, Try.ntmps20
    go_wp2_with (go_quiet (fail))
    go_ret
    exact ⟨rfl, below_drewN (Below.refl _ _) _⟩
  · replace h := hide h
    clear hm
    go_enter Try.func20, Try.ntmps20
    go_wp2_with (go_quiet (fail))
    go_ret
    exact ⟨rfl, below_drewN (Below.refl _ _) _⟩
set_option maxHeartbeats 4000000 in
theorem rput_ok {R d c : Nat} {v : Value} {av : Option Addr} {ns ms : List Nt} (hm : ns.length + ms.length ≤ d) (w : World) (h : La w R d v ns) (hs : SrcE w (.slice av ms.length c) ms) :
    Calls Try.prog 20 #[.pointer (some ⟨R, 0, none⟩), .slice av ms.length c] w fun r w' => r = .returned (.bool true) ∧ ∃ v', La w' R d v' (ns ++ ms) ∧ Fr (La.S R v) w w' ∧ ∀ k, La.S R v' k → La.S R v k ∨ w.heap.size ≤ k := by
  have c0 := h.c0
  have c1 := h.c1
  have f1 := h.f1
  have hd := h.d16
  have hl := h.le
  have hP := h.hP
  have e : IntKind.i64.wrap ((ns.length : Int) + ms.length) = ns.length + ms.length := IntWalk.i64_in _ (by omega)
  have hx : ¬ ((d : Int) < ns.length + ms.length) := by omega
  rcases h.form with ⟨rfl, rfl⟩ | ⟨g, cp, rfl, h1, h2, h3⟩
  · have e0 : IntKind.i64.wrap (0 + (ms.length : Int)) = ms.length := by rw [Int.zero_add]; exact IntWalk.i64_in _ (by omega)
    have hx0 : ¬ ((d : Int) < ms.length) := by simpa using hx
    clear hx e
    have HE := hide (show (some R : Option Nat) ≠ (Value.slice none 0 0).ownBlock from fun e => h.ne e.symm)
    have H := hide h
    have HO := hide h.own
    have HS := hide hs
    have HM := hide hm
    clear hm h hs
    go_enter Try.func20, Try.ntmps20
    go_wp2_with (first | (go_quiet (fail)) | (at_builtin; (refine wpList_app_src rfl _ _ 30 rfl 0 Try.underlying30 (Value.slice none 0 0) (.slice av ms.length c) [] ms rfl HO.out rfl (HS.out.next (below_drewN (Below.refl _ _) _)) (by have := HM.out; simp at this; simp; omega) (Nat.zero_le _) ?_; intro v2 w2 ho hg hat; have q1 : w2.cell? ⟨R, 1, none⟩ = some (Value.slice none 0 0) := hg.cell c1 HE.out; have q2 : w2.frozen? ⟨R, 1, none⟩ = false := (World.frozen?_of_block (a := ⟨R, 1, none⟩) (hg.block R hP HE.out)).trans f1; have HA := hide (app_la (H.out.next (below_drewN (Below.refl _ _) _)) ho hg (fun k hk => .inl hk) hat (by rw [List.length_append]; exact HM.out)); have HF := hide (own_form ho); clear ho hg hat; rcases HF.out with rfl | ⟨g2, cp2, rfl⟩)))
    all_goals
      go_ret
      obtain ⟨a1, a2, a3⟩ := HA.out
      try simp only [List.nil_append] at a1 a2 a3
      exact ⟨rfl, _, a1, ((Fr.refl _ w).drewN _).trans a2 (fun _ _ h => h), a3⟩
  · have hgl : g < w.heap.size := h3
    have HE := hide (show (some R : Option Nat) ≠ (Value.slice (some ⟨g, 0, none⟩) ns.length cp).ownBlock from fun e => h.ne e.symm)
    have H := hide h
    have HO := hide h.own
    have HS := hide hs
    have HM := hide hm
    clear hm h hs
    go_enter Try.func20, Try.ntmps20
    go_wp2_with (first | (go_quiet (fail)) | (at_builtin; (refine wpList_app_src rfl _ _ 30 rfl 0 Try.underlying30 (Value.slice (some ⟨g, 0, none⟩) ns.length cp) (.slice av ms.length c) ns ms rfl (ownsRow_fr HO.out ((Fr.refl (fun _ => False) w).drewN _) (fun _ _ => id)) rfl (HS.out.next (below_drewN (Below.refl _ _) _)) (by have := HM.out; omega) (Nat.zero_le _) ?_; intro v2 w2 ho hg hat; have q1 : w2.cell? ⟨R, 1, none⟩ = some (Value.slice (some ⟨g, 0, none⟩) ns.length cp) := hg.cell c1 HE.out; have q2 : w2.frozen? ⟨R, 1, none⟩ = false := (World.frozen?_of_block (a := ⟨R, 1, none⟩) (hg.block R hP HE.out)).trans f1; have HA := hide (app_la (H.out.next (below_drewN (Below.refl _ _) _)) ho hg (fun k hk => .inl hk) hat (by rw [List.length_append]; exact HM.out)); have HF := hide (own_form ho); clear ho hg hat; rcases HF.out with rfl | ⟨g2, cp2, rfl⟩)))
    all_goals
      go_ret
      obtain ⟨a1, a2, a3⟩ := HA.out
      try simp only [List.length_append] at a1 a2 a3
      exact ⟨rfl, _, a1, ((Fr.refl _ w).drewN _).trans a2 (fun _ _ h => h), a3⟩
theorem rtake_none {R d : Nat} {v : Value} (z : Int) (w : World) (h : La w R d v []) : Calls Try.prog 21 #[.pointer (some ⟨R, 0, none⟩), .int .i64 z] w fun r w' => r = .returned (.tuple #[nt0.v, .bool false]) ∧ Below w.heap.size w w' := by
  have c1 := h.c1
  have hP := h.hP
  have hPn : ¬ w.heap.size = R := by omega
  have N0 := hide (ntw_new w nt0 51)
  have u0 := N0.out.f 0 (by omega)
  rcases h.form with ⟨rfl, -⟩ | ⟨g0, cp0, rfl, k1, k2, k3⟩
  all_goals
    clear h
    go_enter Try.func21, Try.ntmps21
    go_wp2
    refine bodyPost_ret (v := .tuple #[nt0.v, .bool false]) (by simp [results, Try.results21, go_sem, nt0]) rfl ⟨rfl, by repeat (first | exact Below.refl _ _ | refine Below.setCell ?_ (by simp) _ | refine Below.alloc ?_ (by simp) _)⟩
theorem src_take {w : World} {R d g cp : Nat} {ns : List Nt} (h : La w R d (.slice (some ⟨g, 0, none⟩) ns.length cp) ns) (a : Nat) (ha : a ≤ ns.length) : SrcE w (.slice (some ⟨g, 0, none⟩) a cp) (ns.take a) := by
  have hl : (ns.take a).length = a := by rw [List.length_take]; omega
  rcases h.src with ⟨e, -⟩ | ⟨b, off, c, e, q2, q3, q4, q5⟩
  · cases e
  · simp at e
    obtain ⟨⟨rfl, rfl⟩, rfl⟩ := e
    refine .inl (.inr ⟨g, 0, cp, by rw [hl], by omega, q3, fun hn => q4 (fun e => hn (by rw [e]; simp)), fun j u hu => q5 j u ?_⟩)
    have e2 : cellsOf ns = cellsOf (ns.take a) ++ cellsOf (ns.drop a) := by rw [← cells_app, List.take_append_drop]
    rw [e2, List.getElem?_append_left (List.getElem?_eq_some_iff.1 hu).1]
    exact hu
theorem src_drop {w : World} {R d g cp : Nat} {ns : List Nt} (h : La w R d (.slice (some ⟨g, 0, none⟩) ns.length cp) ns) (a : Nat) (ha : a ≤ ns.length) : Src w (.slice (some ⟨g, 0 + a * 9, none⟩) (ns.length - a) (cp - a)) (ns.drop a) := by
  have hl : (ns.drop a).length = ns.length - a := List.length_drop
  rcases h.src with ⟨e, -⟩ | ⟨b, off, c, e, q2, q3, q4, q5⟩
  · cases e
  · simp at e
    obtain ⟨⟨rfl, rfl⟩, rfl⟩ := e
    refine .inr ⟨g, 0 + a * 9, cp - a, by rw [hl], by omega, by omega, fun hn => q4 (fun e => hn (by rw [e]; simp)), fun j u hu => ?_⟩
    have e2 : cellsOf ns = cellsOf (ns.take a) ++ cellsOf (ns.drop a) := by rw [← cells_app, List.take_append_drop]
    have e3 : (cellsOf (ns.take a)).length = a * 9 := by rw [cells_len, List.length_take, Nat.min_eq_left ha]
    rw [Nat.add_assoc]
    refine q5 (a * 9 + j) u ?_
    rw [e2, List.getElem?_append_right (by omega), e3, Nat.add_sub_cancel_left]
    exact hu
theorem src_dropE {w : World} {R d g cp : Nat} {ns : List Nt} (h : La w R d (.slice (some ⟨g, 0, none⟩) ns.length cp) ns) (a : Nat) (ha : a ≤ ns.length) : SrcE w (.slice (if cp = a then some ⟨g, 0, none⟩ else some ⟨g, a * 9, none⟩) (ns.length - a) (cp - a)) (ns.drop a) := by
  by_cases e : cp = a
  · rw [if_pos e]
    have hn : ns.length ≤ a := by
      rcases h.form with ⟨e2, -⟩ | ⟨g2, cp2, e2, k1, k2, k3⟩
      · cases e2
      · injection e2 with e3 e4 e5; omega
    refine .inr ⟨List.drop_eq_nil_of_le hn, _, _, by rw [show ns.length - a = 0 by omega]⟩
  · rw [if_neg e]
    have := src_drop h a ha
    rw [Nat.zero_add] at this
    exact .inl this
theorem rtake_end {w W2 w3 w4 : World} {R d n0 cp g : Nat} {v3 v4 : Value} {ns : List Nt} {a : Nat} {x : Nt} (hn : w.heap.size = n0) (H : La w3 R d (.slice (some ⟨g, 0, none⟩) ns.length cp) ns) (hR : R < n0) (hW : W2 = (w.alloc (.cells nt0.arr 51)).alloc (.cells x.arr 51)) (b3 : Below (n0 + 2) W2 w3)
    (o3 : w3.ownsRow (n0 + 2) 51 9 v3 (ns.take a).length (cellsOf (ns.take a))) (o4 : w4.ownsRow (n0 + 2) 51 9 v4 (ns.take a ++ ns.drop (a + 1)).length (cellsOf (ns.take a ++ ns.drop (a + 1)))) (g4 : w3.grownBy w4 v3.ownBlock) (t4 : v4.ownBlock = v3.ownBlock ∨ v4.ownBlock = some w3.heap.size) (hle : ns.length ≤ d) :
    NtW w4 n0 nt0 ∧ NtW w4 (n0 + 1) x ∧ La (putL (w4.setCell ⟨R, 1, none⟩ v4) n0 0 x.cs) R d v4 (ns.eraseIdx a) ∧ Fr (La.S R (.slice (some ⟨g, 0, none⟩) ns.length cp)) w (putL (w4.setCell ⟨R, 1, none⟩ v4) n0 0 x.cs) ∧ (∀ k, La.S R v4 k → k = R ∨ n0 ≤ k) ∧ NtAt (putL (w4.setCell ⟨R, 1, none⟩ v4) n0 0 x.cs) n0 0 x := by
  subst hn
  have s2 : W2.heap.size = w.heap.size + 2 := by rw [hW]; simp
  have s3 : w.heap.size + 2 ≤ w3.heap.size := by have := b3.size; omega
  have e : ns.take a ++ ns.drop (a + 1) = ns.eraseIdx a := (List.eraseIdx_eq_take_drop_succ ns a).symm
  rw [e] at o4
  have hlE : (ns.eraseIdx a).length ≤ d := Nat.le_trans (List.length_eraseIdx_le _ _) hle
  have hv3 : ∀ k, v3.ownBlock = some k → w.heap.size + 2 ≤ k := fun k hk => (o3.lt k hk).1
  obtain ⟨a1, a2, a3⟩ := app_la2 (N := w.heap.size + 2) H (by omega) s3 o4 g4 hv3 t4 hlE
  have f4 : Fr (fun k => w.heap.size + 2 ≤ k) W2 w4 := (b3.trans ((Fr.of_grown' (S := fun k => w.heap.size + 2 ≤ k) g4 (fun E hE _ => hv3 E hE)).below s3 (fun i hi e => by omega))) |> fun b => ⟨b.os, b.tape, b.output, b.size, fun i hi hn => b.block i (by omega)⟩
  have N0 : NtW W2 w.heap.size nt0 := by rw [hW]; exact (ntw_new w nt0 51).next ((Below.refl _ _).alloc (Nat.le_refl _) _)
  have N1 : NtW W2 (w.heap.size + 1) x := by
    have := ntw_new (w.alloc (.cells nt0.arr 51)) x 51
    rw [hW]
    simpa using this
  have Z0 := N0.fr f4 (by omega)
  have Z1 := N1.fr f4 (by omega)
  have fR : Fr (fun k => k = R) w4 (w4.setCell ⟨R, 1, none⟩ v4) := (Fr.refl (fun k => k = R) w4).setCell (p := ⟨R, 1, none⟩) (fun _ => rfl) _
  have fP := putL_fr w.heap.size (fun k => k = w.heap.size) rfl x.cs (w4.setCell ⟨R, 1, none⟩ v4) 0
  refine ⟨Z0, Z1, a1.fr fP (fun i hi e => ?_), ?_, fun k hk => ?_, ((Z0.fr fR (by omega)).put x).c⟩
  · rcases a3 i hi with e2 | e2 <;> omega
  · have f0 : Fr (La.S R (.slice (some ⟨g, 0, none⟩) ns.length cp)) w w3 := by
      have b0 : Below w.heap.size w W2 := by rw [hW]; exact ((Below.refl _ _).alloc (Nat.le_refl _) _).alloc (by simp) _
      exact Fr.of_below (b0.trans (b3.mono (by omega)))
    exact (f0.trans a2 (fun i hi e => by rcases e with e | e; exact .inl e; omega)).trans fP (fun i hi e => by omega)
  · rcases a3 k hk with e2 | e2
    · exact .inl e2
    · exact .inr (by omega)
set_option maxHeartbeats 8000000 in
theorem rtake_some {R d : Nat} {v : Value} {ns : List Nt} (z : Int) (a : Nat) (x : Nt) (ha : (z % (ns.length : Int)) = (a : Int)) (hx : ns[a]? = some x) (w : World) (h : La w R d v ns) :
    Calls Try.prog 21 #[.pointer (some ⟨R, 0, none⟩), .int .i64 z] w fun r w' => r = .returned (.tuple #[x.v, .bool true]) ∧ ∃ v', La w' R d v' (ns.eraseIdx a) ∧ Fr (La.S R v) w w' ∧ ∀ k, La.S R v' k → k = R ∨ w.heap.size ≤ k := by
  have hal : a < ns.length := (List.getElem?_eq_some_iff.1 hx).1
  have hle := h.le
  have hd := h.d16
  have H := hide h
  obtain ⟨r, hr⟩ : ∃ r, z.tmod (ns.length : Int) = r := ⟨_, rfl⟩
  have hr1 : r < ns.length := by rw [← hr]; exact Int.tmod_lt_of_pos _ (by omega)
  have hr2 : -(ns.length : Int) < r := by rw [← hr]; exact Int.lt_tmod_of_pos _ (by omega)
  have hra : r = a ∨ (r < 0 ∧ r + ns.length = a) := by
    rw [← hr, ← ha, Int.tmod_eq_emod]
    split
    · exact .inl (by omega)
    · rename_i hh
      have e1 := Int.emod_nonneg z (show (ns.length : Int) ≠ 0 by omega)
      have e2 := Int.emod_lt_of_pos z (show (0 : Int) < ns.length by omega)
      have e3 : ((ns.length : Int).natAbs : Int) = ns.length := by simp
      omega
  rcases h.form with ⟨-, e⟩ | ⟨g, cp, rfl, k1, k2, k3⟩
  · rw [e] at hal; simp at hal
  have c1 := h.c1
  have f1 := h.f1
  have hP := h.hP
  have n1 : ¬ (ns.length : Int) = 0 := by omega
  have n2 : ((ns.length : Int) == 0) = false := beq_eq_false_iff_ne.2 (by omega)
  have n3 : (ns.length == 0) = false := beq_eq_false_iff_ne.2 (by omega)
  have n4 : ¬ ns.length = 0 := by omega
  have HX := hide hx
  have hal2 : (a : Int) < ns.length := by omega
  have hsrc : NtAt w g (0 + a * 9) x := by
    rcases h.src with ⟨e, -⟩ | ⟨b, off, c, e, q2, q3, q4, q5⟩
    · cases e
    · simp at e
      obtain ⟨⟨rfl, rfl⟩, -⟩ := e
      exact src_at q5 a x hx
  rw [Nat.zero_add] at hsrc
  obtain ⟨z0, z1, z2, z3, z4, z5, z6, z7, z8⟩ := hsrc
  have hgn : ¬ w.heap.size = g := by omega
  have hRn : ¬ w.heap.size = R := by omega
  clear h ha hx
  have N0 := hide (ntw_new w nt0 51)
  have W2 := (((Below.refl w.heap.size w).alloc (Nat.le_refl _) (.cells nt0.arr 51)).alloc (by simp) (.cells x.arr 51))
  have H2 := hide (H.out.next W2)
  have B2 := hide W2
  have T2 := hide (src_take H2.out a (by omega))
  have D2 := hide (src_dropE H2.out (a + 1) (by omega))
  have l1 : (ns.take a).length = a := by rw [List.length_take]; omega
  have l2 : (ns.drop (a + 1)).length = ns.length - (a + 1) := List.length_drop
  replace l1 := hide l1
  replace l2 := hide l2
  clear W2
  have hacp : a + 1 ≤ cp := by omega
  obtain ⟨m5, hm5⟩ : ∃ m, m = (ns.take a ++ ns.drop (a + 1)).length := ⟨_, rfl⟩
  replace hm5 := hide hm5
  rcases hra with rfl | ⟨hneg, hsum⟩
  all_goals
    go_enter Try.func21, Try.ntmps21
    go_wp2_with (at_builtin; first
      | (refine wpList_app_src rfl _ _ 30 rfl (w.heap.size + 2) Try.underlying30 (.slice none 0 0) (.slice (some ⟨g, 0, none⟩) a cp) [] (ns.take a) rfl (World.ownsRow_nil _ _ _ _) rfl T2.out (by have := l1.out; simp; omega) (by simp) ?_; intro v3 w3 o3 g3 t3; have b3 := below_of_none g3; have H3 := hide (H2.out.next b3); have q1 := H3.out.c1; have q2 := H3.out.f1; have D3 := hide (D2.out.fr (Fr.of_below (S := fun _ => False) b3) (fun _ _ => id)); have B3 := hide (show Below (w.heap.size + 2) ((w.alloc (.cells nt0.arr 51)).alloc (.cells x.arr 51)) w3 from b3.mono (by simp)); have O3 := hide o3; clear g3 t3)
      | (clear z0 z1 z2 z3 z4 z5 z6 z7 z8; refine wpList_app_src rfl _ _ 30 rfl (w.heap.size + 2) Try.underlying30 v3 _ (ns.take a) (ns.drop (a + 1)) rfl o3 rfl ?_ (by have := l1.out; have := l2.out; omega) (by have := b3.size; simp at this; omega) ?_; (simp [Act.eval, Array.getD]; exact D3.out); intro v4 w4 o4 g4 t4; have EN := hide (rtake_end rfl H3.out hP rfl B3.out O3.out o4 g4 t4 hle); have p1 : w4.cell? ⟨R, 1, none⟩ = some (.slice (some ⟨g, 0, none⟩) ns.length cp) := g4.cell q1 (fun e => by have := (O3.out.lt R e.symm).1; omega); have p2 : w4.frozen? ⟨R, 1, none⟩ = false := (World.frozen?_of_block (a := ⟨R, 1, none⟩) (g4.block R H3.out.hP (fun e => by have := (O3.out.lt R e.symm).1; omega))).trans q2; obtain ⟨t0, t1, t2, t3, t4', t5, t6, t7, t8⟩ := EN.out.2.1.c; obtain ⟨s0, s1, s2, s3, s4, s5, s6, s7, s8⟩ := EN.out.1.c; have u0 := EN.out.1.f 0 (by omega); have u1 := EN.out.1.f 1 (by omega); have u2 := EN.out.1.f 2 (by omega); have u3 := EN.out.1.f 3 (by omega); have u4 := EN.out.1.f 4 (by omega); have u5 := EN.out.1.f 5 (by omega); have u6 := EN.out.1.f 6 (by omega); have u7 := EN.out.1.f 7 (by omega); have u8 := EN.out.1.f 8 (by omega); have HF := hide (show v4 = .slice none 0 0 ∨ ∃ g cp, v4 = .slice (some ⟨g, 0, none⟩) m5 cp from by rw [hm5.out]; exact own_form o4); clear o4 g4 t4 o3 q1 q2; rcases HF.out with rfl | ⟨g5, cp5, rfl⟩))
    all_goals
      first | subst cp | skip
      obtain ⟨-, -, e1, e2, e3, y0, y1, y2, y3, y4, y5, y6, y7, y8⟩ := EN.out
      simp only [putL, Nt.cs] at e1 e2 y0 y1 y2 y3 y4 y5 y6 y7 y8
      refine bodyPost_ret (v := .tuple #[x.v, .bool true]) (by clear e1 e2 e3 EN; simp [results, Try.results21, go_sem, y0, y1, y2, y3, y4, y5, y6, y7, y8, Nt.v]) rfl ⟨rfl, _, e1, e2, e3⟩
end Go.Proofs.Ytopfbmgmpihcnaa

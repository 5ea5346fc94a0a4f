/- Take, walked. -/
import Derived.Test.YtopfbmgmpihcnaaF
import Derived.WalkKit
import Derived.WalkSpells
import Derived.ProofKit
import Derived.Outline
import Derived.Handy
import Derived.RowKit3
import Derived.BigQuiet
import Derived.Deep.QuietTactic
import Derived.Deep.RegionHeld3
import Derived.Deep.Draws
import Derived.Deep.RegionLaw
import Derived.RegionTactic
import Derived.BigRegion
import Derived.IntWalk
import Derived.LoopTactic
import Derived.OwnWalk
import Derived.Laws.AppendOwn
import Derived.Laws.OwnMore
import Derived.Laws.MakeOwn
import Derived.Laws.Pointers
import Derived.Maps.AppendAt
import Derived.Deep.AppendLies
import Derived.Below
namespace Go.Proofs.Ytopfbmgmpihcnaa
open Go.RowKit
set_option linter.unusedVariables false
set_option maxRecDepth 100000


theorem take_none {P d : Nat} {v : Value} (z : Int) (w : World) (h : La w P d v []) : Calls Try.prog 18 #[.pointer (some ⟨P, 0, none⟩), .int .i64 z] w fun r w' => r = .returned (.tuple #[nt0.v, .int .i64 12]) ∧ Below w.heap.size w w' := by
  have c1 := h.c1
  have hP := h.hP
  have N0 := hide (ntw_new w nt0 51)
  rcases h.form with ⟨rfl, -⟩ | ⟨g0, cp0, rfl, k1, k2, k3⟩
  all_goals
    clear h
    go_enter Try.func18, Try.ntmps18
    go_wp2
    go_step3
    go_wp2
    try rw [Exit.noGoto_ret]
    have F := hide ((N0.out.put nt0).c)
    obtain ⟨y0, y1, y2, y3, y4, y5, y6, y7, y8⟩ := F.out
    refine bodyPost_ret (v := .tuple #[nt0.v, .int .i64 12]) ?_ rfl ⟨rfl, by repeat (first | exact Below.refl _ _ | refine Below.setCell ?_ (by simp) _ | refine Below.alloc ?_ (by simp) _)⟩
    simp [results, Try.results18, go_sem, nt0]
theorem news9 (w : World) (H : Nat) (q : Nt) (hH : w.heap.size = H) : ∀ j u, q.cs[j]? = some u → (w.alloc (.cells q.arr 51)).cell? ((⟨H, 0, none⟩ : Addr).add j) = some u := by
  intro j u hu
  subst hH
  rw [add_plain, Nat.zero_add]
  have h := World.cell?_alloc_new w q.arr 51 j
  have e : q.arr[j]? = q.cs[j]? := by simp [Nt.cs]
  rw [h, e]; exact hu
theorem cs_cell (q : Nt) : ∀ u ∈ q.cs, u.oneCell' = true := by rw [← cells_one q]; exact cells_cell [q]
def TRel (P d : Nat) (v : Value) (ns : List Nt) (a : Nat) (w : World) (v9 v36 : Value) (wr : World) : Prop :=
  ∃ k : Nat, k ≤ ns.length ∧ v36 = .int .i64 k ∧ La wr P d v ns ∧ wr.ownsRow (w.heap.size + 2) 51 9 v9 (left ns a k).length (cellsOf (left ns a k)) ∧ (∃ y, NtW wr (w.heap.size + 1) y ∧ (a < k → ns[a]? = some y)) ∧ NtW wr w.heap.size nt0 ∧ Below w.heap.size w wr
theorem ow_mono {w : World} {base base' : Nat} {e : TypeId} {size : Nat} {v : Value} {n : Nat} {xs : List Value} (h : w.ownsRow base e size v n xs) (hb : base' ≤ base) : w.ownsRow base' e size v n xs :=
  ⟨h.1, h.2.imp id fun ⟨g, cap, cur, h1, h2, h3⟩ => ⟨g, cap, cur, h1, Nat.le_trans hb h2, h3⟩⟩
theorem take_end {w wr : World} {P d n0 : Nat} {v V : Value} {ns ms : List Nt} (y : Nt) (hn : w.heap.size = n0) (h : La wr P d v ns) (ow : wr.ownsRow (n0 + 2) 51 9 V ms.length (cellsOf ms)) (nz : NtW wr n0 nt0) (hP : P < n0) (hB : Below n0 w wr) (hle : ms.length ≤ d) :
    La (putL (wr.setCell ⟨P, 1, none⟩ V) n0 0 y.cs) P d V ms ∧ Fr (La.S P v) w (putL (wr.setCell ⟨P, 1, none⟩ V) n0 0 y.cs) ∧ (∀ k, La.S P V k → k = P ∨ n0 ≤ k) ∧ NtAt (putL (wr.setCell ⟨P, 1, none⟩ V) n0 0 y.cs) n0 0 y := by
  have hlt := ow.lt
  have ne : V.ownBlock ≠ some P := fun e => by have := (hlt P e).1; omega
  have l1 : La (wr.setCell ⟨P, 1, none⟩ V) P d V ms := put_la (S := fun _ => False) h (ow_mono ow (Nat.zero_le _)) ne (Fr.refl _ _) id hle
  have f1 : Fr (fun k => k = P) wr (wr.setCell ⟨P, 1, none⟩ V) := (Fr.refl (fun k => k = P) wr).setCell (p := ⟨P, 1, none⟩) (fun _ => rfl) V
  have f2 := putL_fr n0 (fun k => k = n0) rfl y.cs (wr.setCell ⟨P, 1, none⟩ V) 0
  have nz1 := (nz.fr f1 (by omega)).put y
  refine ⟨l1.fr f2 (fun i hi e => ?_), ?_, fun k hk => ?_, nz1.c⟩
  · rcases hi with hi | hi
    · omega
    · have := (hlt i hi).1; omega
  · have f0 : Fr (La.S P v) w wr := (Fr.of_below (S := La.S P v) (hn ▸ hB))
    refine (f0.trans f1 (fun i _ e => .inl e)).trans f2 (fun i hi e => by omega)
  · rcases hk with hk | hk
    · exact .inl hk
    · exact .inr (by have := (hlt k hk).1; omega)
set_option maxHeartbeats 8000000 in
theorem take_some {P d : Nat} {v : Value} {ns : List Nt} (z : Int) (a : Nat) (x : Nt) (ha : (z % (ns.length : Int)) = (a : Int)) (hx : ns[a]? = some x) (w : World) (h : La w P d v ns) :
    Calls Try.prog 18 #[.pointer (some ⟨P, 0, none⟩), .int .i64 z] w fun r w' => r = .returned (.tuple #[x.v, .int .i64 0]) ∧ ∃ v', La w' P d v' (ns.eraseIdx a) ∧ Fr (La.S P v) w w' ∧ ∀ k, La.S P v' k → k = P ∨ w.heap.size ≤ k := by
  obtain ⟨i0, hi, hz0, hz1, hz2⟩ := info_parts info51
  have hal : a < ns.length := (List.getElem?_eq_some_iff.1 hx).1
  have hle := h.le
  have hd := h.d16
  have H := hide h
  obtain ⟨r, hr⟩ : ∃ r, z.tmod (ns.length : Int) = r := ⟨_, rfl⟩
  have hr1 : r < ns.length := by rw [← hr]; exact Int.tmod_lt_of_pos _ (by omega)
  have hr2 : -(ns.length : Int) < r := by rw [← hr]; exact Int.lt_tmod_of_pos _ (by omega)
  have hra : r = a ∨ (r < 0 ∧ r + ns.length = a) := by
    rw [← hr, ← ha, Int.tmod_eq_emod]
    split
    · exact .inl (by omega)
    · rename_i hh
      have e1 := Int.emod_nonneg z (show (ns.length : Int) ≠ 0 by omega)
      have e2 := Int.emod_lt_of_pos z (show (0 : Int) < ns.length by omega)
      have e3 : ((ns.length : Int).natAbs : Int) = ns.length := by simp
      omega
  rcases h.form with ⟨-, e⟩ | ⟨g, cp, rfl, k1, k2, k3⟩
  · rw [e] at hal; simp at hal
  have c1 := h.c1
  have hP := h.hP
  have n1 : ¬ (ns.length : Int) = 0 := by omega
  have n2 : ((ns.length : Int) == 0) = false := beq_eq_false_iff_ne.2 (by omega)
  have n3 : (ns.length == 0) = false := beq_eq_false_iff_ne.2 (by omega)
  have n4 : ¬ ns.length = 0 := by omega
  have HX := hide hx
  clear h ha hx
  have N0 := hide (ntw_new w nt0 51)
  rcases hra with rfl | ⟨hneg, hsum⟩
  all_goals
    go_enter Try.func18, Try.ntmps18
    go_wp2
    go_step3
    go_wp2
    go_step3
    go_wp2
    have La0 := hide (H.out.next (((Below.refl _ _).alloc (Nat.le_refl _) (.cells nt0.arr 51)).alloc (by simp) (.cells nt0.arr 51)))
    have B0 := hide (((Below.refl w.heap.size w).alloc (Nat.le_refl _) (.cells nt0.arr 51)).alloc (by simp) (.cells nt0.arr 51))
    have N1 := hide (N0.out.next ((Below.refl _ _).alloc (Nat.le_refl _) (.cells nt0.arr 51)))
    have N2 := hide (ntw_new (w.alloc (.cells nt0.arr 51)) nt0 51)
    go_loopw [9, 36] (fun v9 v36 wr => TRel P d (.slice (some ⟨g, 0, none⟩) ns.length cp) ns a w v9 v36 wr) (fun _ v36 _ => ns.length - (intOf v36).toNat)
    case atStart =>
      refine ⟨0, Nat.zero_le _, rfl, La0.out, ?_, ⟨nt0, ?_, fun h => by omega⟩, N1.out, B0.out⟩
      · have : left ns a 0 = [] := by unfold left; simp
        rw [this]; exact World.ownsRow_nil _ _ _ _
      · have e : (w.alloc (.cells nt0.arr 51)).heap.size = w.heap.size + 1 := by simp
        rw [← e]; exact N2.out
    case round =>
      obtain ⟨k, hk, rfl, hLa, hown, ⟨y, hy, hya⟩, hn0, hB⟩ := hrel
      have LA := hide hLa
      have OW := hide hown
      have NY := hide hy
      have NA := hide hya
      have NZ := hide hn0
      have hBs := hB.size
      have hTl := hy.hT
      clear hown hya hn0
      by_cases hlt : k < ns.length
      · obtain ⟨q, hq⟩ : ∃ q, ns[k]? = some q := ⟨ns[k], List.getElem?_eq_getElem hlt⟩
        have HQ := hide hq
        have hgl : g < wr.heap.size := (hLa.own.lt g rfl).2
        have hsrc : NtAt wr g (0 + k * 9) q := by
          rcases hLa.src with ⟨e, -⟩ | ⟨b, off, c, e, q2, q3, q4, q5⟩
          · cases e
          · simp at e
            obtain ⟨⟨rfl, rfl⟩, -⟩ := e
            exact src_at q5 k q hq
        rw [Nat.zero_add] at hsrc
        obtain ⟨z0, z1, z2, z3, z4, z5, z6, z7, z8⟩ := hsrc
        clear hLa hq
        by_cases hka : k = a
        · subst hka
          obtain ⟨t0, t1, t2, t3, t4, t5, t6, t7, t8⟩ := hy.c
          have u0 := hy.f 0 (by omega)
          have u1 := hy.f 1 (by omega)
          have u2 := hy.f 2 (by omega)
          have u3 := hy.f 3 (by omega)
          have u4 := hy.f 4 (by omega)
          have u5 := hy.f 5 (by omega)
          have u6 := hy.f 6 (by omega)
          have u7 := hy.f 7 (by omega)
          have u8 := hy.f 8 (by omega)
          clear hy
          go_wp2
          go_roundw
          case rel =>
            have f1 := putL_fr (w.heap.size + 1) (fun k => k = w.heap.size + 1) rfl q.cs wr 0
            have f2 : Fr (fun k => k = w.heap.size + 1) wr ((putL wr (w.heap.size + 1) 0 q.cs).alloc (.cells q.arr 51)) := f1.alloc _
            have n1 := (NY.out.put q).next ((Below.refl _ _).alloc (Nat.le_refl _) (.cells q.arr 51))
            refine ⟨k + 1, by omega, int_eq (by omega), LA.out.fr f2 (fun i hi e => ?_), ?_, ⟨q, n1, fun _ => HQ.out⟩, NZ.out.fr f2 (by omega), ?_⟩
            · rcases hi with hi | hi
              · omega
              · simp [Value.ownBlock] at hi; omega
            · rw [left_at ns k q HQ.out]
              exact ownsRow_fr OW.out f2 (fun i hi e => by have := (OW.out.lt i hi).1; omega)
            · exact hB.trans (f2.below hBs (fun i hi e => by omega))
          case measure => simp [intOf]; omega
        · have b1 : (k != a) = true := by simpa using hka
          have b2 : ((k : Int) != (a : Int)) = true := by simp; omega
          have b3 : (k == a) = false := by simpa using hka
          have b4 : ((k : Int) == (a : Int)) = false := by simp; omega
          have HK := hide hka
          clear hka hy
          have hown := OW.out
          have hll := left_len ns a k
          go_wp2_with (at_builtin; refine wpList_append_lies _ rfl _ _ 30 rfl (w.heap.size + 2) 51 i0 nt0.v 9 72 Try.underlying30 hi hz0 hz1 hz2 rfl (by decide) _ (left ns a k).length (cellsOf (left ns a k)) rfl ((hown.alloc _).alloc _) ⟨wr.heap.size + 1, 0, none⟩ 1 1 q.cs rfl rfl (news9 _ _ _ (by simp)) (cs_cell q) (by omega) (by unfold maxLen; omega) (by omega) (by simp; omega) _ rfl ?_; intro g2 cap2 w2 hown2 hgrow hat hlt2)
          have hn2 := hide (show w2.ownsRow (w.heap.size + 2) 51 9 (.slice (some ⟨g2, 0, none⟩) ((left ns a k).length + 1) cap2) (left ns a (k + 1)).length (cellsOf (left ns a (k + 1))) by
            rw [left_snoc ns a k q HQ.out HK.out, cells_app, cells_one, List.length_append]; exact hown2)
          have fA : Fr (fun i => w.heap.size + 2 ≤ i) wr w2 := ((Fr.refl _ wr).alloc _).alloc _ |>.trans (Fr.of_grown' (S := fun i => w.heap.size + 2 ≤ i) hgrow (fun E hE _ => (OW.out.lt E hE).1)) (fun _ _ h => h)
          have FA := hide fA
          clear hown2 hgrow hat hlt2 fA hown
          go_wp2
          go_roundw
          case rel =>
            refine ⟨k + 1, by omega, int_eq (by omega), LA.out.fr FA.out (fun i hi e => ?_), hn2.out, ⟨y, NY.out.fr FA.out (by omega), fun h => NA.out (by have := HK.out; omega)⟩, NZ.out.fr FA.out (by omega), hB.trans (FA.out.below hBs (fun i hi e => by omega))⟩
            rcases hi with hi | hi
            · omega
            · simp [Value.ownBlock] at hi; omega
          case measure => simp [intOf]; omega
      · obtain rfl : k = ns.length := by omega
        obtain rfl : y = x := by have := NA.out hal; rw [HX.out] at this; injection this with this; exact this.symm
        obtain ⟨t0, t1, t2, t3, t4, t5, t6, t7, t8⟩ := NY.out.c
        obtain ⟨s0, s1, s2, s3, s4, s5, s6, s7, s8⟩ := NZ.out.c
        have u0 := NZ.out.f 0 (by omega)
        have u1 := NZ.out.f 1 (by omega)
        have u2 := NZ.out.f 2 (by omega)
        have u3 := NZ.out.f 3 (by omega)
        have u4 := NZ.out.f 4 (by omega)
        have u5 := NZ.out.f 5 (by omega)
        have u6 := NZ.out.f 6 (by omega)
        have u7 := NZ.out.f 7 (by omega)
        have u8 := NZ.out.f 8 (by omega)
        have p1 := hLa.c1
        have p2 := hLa.f1
        have hEr := left_all ns a
        have OW2 := hide OW.out
        rw [hEr] at OW2
        have hlE : (ns.eraseIdx a).length ≤ d := Nat.le_trans (List.length_eraseIdx_le _ _) hle
        clear hy hLa hEr
        rcases OW.out.2 with ⟨hV, -⟩ | ⟨g2, cap2, cur, hV, -⟩
        all_goals
          subst hV
          go_wp2
          rw [Exit.noGoto_ret]
          have EN := take_end y rfl LA.out OW2.out NZ.out hP hB hlE
          obtain ⟨e1, e2, e3, y0, y1, y2, y3, y4, y5, y6, y7, y8⟩ := EN
          simp only [putL, Nt.cs] at y0 y1 y2 y3 y4 y5 y6 y7 y8
          refine bodyPost_ret (v := .tuple #[y.v, .int .i64 0]) (by simp [results, Try.results18, go_sem, y0, y1, y2, y3, y4, y5, y6, y7, y8, Nt.v]) rfl ⟨rfl, _, e1, e2, e3⟩
end Go.Proofs.Ytopfbmgmpihcnaa

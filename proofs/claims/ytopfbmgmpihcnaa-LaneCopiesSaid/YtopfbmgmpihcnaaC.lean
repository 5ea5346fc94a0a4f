/- Put, walked. -/
import Derived.Test.YtopfbmgmpihcnaaB
import Derived.WalkKit
import Derived.WalkSpells
import Derived.ProofKit
import Derived.Outline
import Derived.Handy
import Derived.RowKit3
import Derived.BigQuiet
import Derived.Deep.QuietTactic
import Derived.Deep.RegionHeld3
import Derived.Deep.Draws
import Derived.Deep.RegionLaw
import Derived.RegionTactic
import Derived.BigRegion
import Derived.IntWalk
import Derived.LoopTactic
import Derived.OwnWalk
import Derived.Laws.AppendOwn
import Derived.Laws.OwnMore
import Derived.Laws.MakeOwn
import Derived.Laws.Pointers
import Derived.Maps.AppendAt
import Derived.Deep.AppendLies
import Derived.Below
import Derived.Laws.AppendOwnNone
namespace Go.Proofs.Ytopfbmgmpihcnaa
open Go.RowKit
set_option linter.unusedVariables false
set_option maxRecDepth 100000


theorem run_app_none (v : Value) (n : Nat) (xs : List Value) (w : World) (t ty : TypeId) (ht : Try.prog.underlying t = some (.slice 51)) (h : w.ownsRow 0 51 9 v n xs) : (Builtin.append_ #[t, t] ty #[v, .slice none 0 0]).run Try.prog w = .ok v w := by
  obtain ⟨i, hi, hz0, hz1, hz2⟩ := info_parts info51
  exact run_append_owned_none (P := Try.prog) w 0 t ty 51 i 9 ht hi v n xs h
theorem own_some {w : World} {base size n : Nat} {e : TypeId} {v : Value} {xs : List Value} (h : w.ownsRow base e size v n xs) (hv : v ≠ .slice none 0 0) : ∃ g cp, v = .slice (some ⟨g, 0, none⟩) n cp := by
  rcases h.2 with ⟨h1, _⟩ | ⟨g, cap, cur, hv, _⟩
  · exact absurd h1 hv
  · exact ⟨g, cap, hv⟩
/-- Behind an append, and the store of what came of it. -/
theorem put_la {w1 w2 : World} {P d : Nat} {v v2 : Value} {ns ms : List Nt} {S : Nat → Prop} (h : La w1 P d v ns) (hown : w2.ownsRow 0 51 9 v2 ms.length (cellsOf ms)) (ne2 : v2.ownBlock ≠ some P) (f : Fr S w1 w2) (hS : ¬ S P) (hle : ms.length ≤ d) : La (w2.setCell ⟨P, 1, none⟩ v2) P d v2 ms := by
  have hP2 : P < w2.heap.size := Nat.lt_of_lt_of_le h.hP f.size
  have ff : Fr (fun k => k = P) w2 (w2.setCell ⟨P, 1, none⟩ v2) := (Fr.refl (fun k => k = P) w2).setCell (p := ⟨P, 1, none⟩) (fun _ => rfl) _
  exact ⟨by simpa [World.setCell] using hP2, (setCell_cell_other (by simp)).trans ((f.cell h.hP hS).trans h.c0), World.cell?_setCell_same' _ _ _ (by rw [f.cell h.hP hS, h.c1]; rfl), by simpa [World.frozen?_setCell] using (f.frozen h.hP hS).trans h.f1, ownsRow_fr hown ff (fun k hk e => ne2 (by rw [hk, e])), ne2, hle, h.d16⟩
set_option maxHeartbeats 4000000 in
theorem put_full {P d : Nat} {v sl : Value} {ns ms : List Nt} (hm : ¬ ns.length + ms.length ≤ d) (hms : ms.length ≤ 1000) (w : World) (h : La w P d v ns) (hs : Src w sl ms) :
    Calls Try.prog 16 #[.pointer (some ⟨P, 0, none⟩), sl] w fun r w' => r = .returned (.int .i64 11) ∧ Below w.heap.size w w' := by
  have hle := h.le
  have hd := h.d16
  have H := hide h
  clear h
  rcases hs with ⟨rfl, rfl⟩ | ⟨b, off, c, rfl, h1, h2, h3, h4⟩
  · exact absurd hle (by simpa using hm)
  · clear h3 h4
    have hx : (d : Int) - ns.length < ms.length := by omega
    replace hm := hide hm
    go_enter Try.func16, Try.ntmps16
    go_wp2_with fail
    refine (room_any _ H.out).mono ?_
    rintro r w1 ⟨rfl, hb⟩
    go_wp2
    go_ret
    exact ⟨rfl, hb⟩
set_option maxHeartbeats 8000000 in
theorem put_ok {P d : Nat} {v sl : Value} {ns ms : List Nt} (hm : ns.length + ms.length ≤ d) (w : World) (h : La w P d v ns) (hs : Src w sl ms) :
    Calls Try.prog 16 #[.pointer (some ⟨P, 0, none⟩), sl] w fun r w' => r = .returned (.int .i64 0) ∧ ∃ v', La w' P d v' (ns ++ ms) ∧ Fr (La.S P v) w w' ∧ ∀ k, La.S P v' k → La.S P v k ∨ w.heap.size ≤ k := by
  obtain ⟨i0, hi, hz0, hz1, hz2⟩ := info_parts info51
  have hle := h.le
  have hd := h.d16
  have H := hide h
  have HS := hide hs
  clear h
  have hsl : (sl = .slice none 0 0 ∧ ms = []) ∨ (∃ b off c, sl = .slice (some ⟨b, off, none⟩) 0 c ∧ ms = []) ∨ (0 < ms.length ∧ ∃ b off c, sl = .slice (some ⟨b, off, none⟩) ms.length c) := by
    rcases hs with ⟨h1, h2⟩ | ⟨b, off, c, h1, h2, h3, h4⟩
    · exact .inl ⟨h1, h2⟩
    · by_cases h0 : ms = []
      · subst h0; exact .inr (.inl ⟨b, off, c, h1, rfl⟩)
      · exact .inr (.inr ⟨by cases ms; exact absurd rfl h0; simp, b, off, c, h1⟩)
  clear hs
  have hx : ¬ ((d : Int) - ns.length < ms.length) := by omega
  replace hm := hide hm
  rcases hsl with ⟨rfl, rfl⟩ | ⟨b, off, c, rfl, rfl⟩ | ⟨h0, b, off, c, rfl⟩
  · rcases H.out.form with ⟨rfl, rfl⟩ | ⟨g0, cp0, rfl, h01, h02, h03⟩
    · have hx' : ¬ ((d : Int) - 0 < 0) := by omega
      go_enter Try.func16, Try.ntmps16
      go_wp2_with fail
      refine (room_any _ H.out).mono ?_
      rintro r w1 ⟨rfl, hb⟩
      have h1 := H.out.next hb
      have H1 := hide h1
      have c1 := h1.c1
      have f1 := h1.f1
      have own1 := h1.own
      clear h1
      go_wp2_with (at_builtin; refine wpList_append_own_none rfl _ _ 30 rfl 0 51 i0 9 Try.underlying30 hi (Value.slice none 0 0) 0 [] rfl own1 rfl ?_)
      go_ret
      refine ⟨rfl, (Value.slice none 0 0), ?_, (Fr.of_below (S := La.S P (Value.slice none 0 0)) hb).setCell (p := ⟨P, 1, none⟩) (fun _ => .inl rfl) _, fun k hk => .inl hk⟩
      try rw [List.append_nil]
      exact put_la H1.out own1 H1.out.ne (Fr.refl (fun _ => False) _) id (by omega)
    · have hx' : ¬ ((d : Int) - ns.length < 0) := by simp at hx; omega
      go_enter Try.func16, Try.ntmps16
      go_wp2_with fail
      refine (room_any _ H.out).mono ?_
      rintro r w1 ⟨rfl, hb⟩
      have h1 := H.out.next hb
      have H1 := hide h1
      have c1 := h1.c1
      have f1 := h1.f1
      have own1 := h1.own
      clear h1
      go_wp2_with (at_builtin; refine wpList_append_own_none rfl _ _ 30 rfl 0 51 i0 9 Try.underlying30 hi (Value.slice (some ⟨g0, 0, none⟩) ns.length cp0) ns.length (cellsOf ns) rfl own1 rfl ?_)
      go_ret
      refine ⟨rfl, (Value.slice (some ⟨g0, 0, none⟩) ns.length cp0), ?_, (Fr.of_below (S := La.S P (Value.slice (some ⟨g0, 0, none⟩) ns.length cp0)) hb).setCell (p := ⟨P, 1, none⟩) (fun _ => .inl rfl) _, fun k hk => .inl hk⟩
      try rw [List.append_nil]
      exact put_la H1.out own1 H1.out.ne (Fr.refl (fun _ => False) _) id (by omega)
  · rcases H.out.form with ⟨rfl, rfl⟩ | ⟨g0, cp0, rfl, h01, h02, h03⟩
    · have hx' : ¬ ((d : Int) - 0 < 0) := by omega
      go_enter Try.func16, Try.ntmps16
      go_wp2_with fail
      refine (room_any _ H.out).mono ?_
      rintro r w1 ⟨rfl, hb⟩
      have h1 := H.out.next hb
      have H1 := hide h1
      have c1 := h1.c1
      have f1 := h1.f1
      have own1 := h1.own
      have hne := fun e : some P = (Value.slice none 0 0).ownBlock => h1.ne e.symm
      clear h1
      go_wp2_with (at_builtin; refine wpList_append_own_at _ rfl _ _ 30 rfl 0 51 i0 nt0.v 9 72 Try.underlying30 hi hz0 hz1 hz2 rfl (by decide) (Value.slice none 0 0) 0 [] rfl own1 ⟨b, off, none⟩ 0 c [] rfl rfl (fun j u hu => by simp at hu) (fun u hu => by simp at hu) (by unfold maxLen; omega) (by omega) (Nat.zero_le _) ?_; intro v2 w2 hown hgrow hnil hat; obtain rfl := hnil.2 ⟨rfl, rfl⟩; have q1 : w2.cell? ⟨P, 1, none⟩ = some (Value.slice none 0 0) := hgrow.cell c1 hne; have q2 : w2.frozen? ⟨P, 1, none⟩ = false := (World.frozen?_of_block (a := ⟨P, 1, none⟩) (hgrow.block P H1.out.hP hne)).trans f1)
      go_ret
      have fA : Fr (fun k => (Value.slice none 0 0).ownBlock = some k) w1 w2 := Fr.of_grown' hgrow (fun E hE _ => hE)
      have hv2 : ∀ k, (Value.slice none 0 0).ownBlock = some k → (Value.slice none 0 0).ownBlock = some k ∨ w1.heap.size ≤ k := fun k hk => by simp [Value.ownBlock] at hk
      have ne2 : (Value.slice none 0 0).ownBlock ≠ some P := fun e => by
        rcases hv2 P e with e2 | e2
        · exact H1.out.ne e2
        · have := H1.out.hP; omega
      simp only [Nat.add_zero, List.append_nil] at hown
      refine ⟨rfl, Value.slice none 0 0, ?_, ((Fr.of_below (S := La.S P (Value.slice none 0 0)) hb).trans fA (fun k _ hk => .inr hk)).setCell (p := ⟨P, 1, none⟩) (fun _ => .inl rfl) _, fun k hk => ?_⟩
      · try rw [List.append_nil]
        exact put_la H1.out hown ne2 fA H1.out.ne hle
      · rcases hk with hk | hk
        · exact .inl (.inl hk)
        · rcases hv2 k hk with e | e
          · exact .inl (.inr e)
          · exact .inr (Nat.le_trans hb.size e)
    · have hx' : ¬ ((d : Int) - ns.length < 0) := by simp at hx; omega
      go_enter Try.func16, Try.ntmps16
      go_wp2_with fail
      refine (room_any _ H.out).mono ?_
      rintro r w1 ⟨rfl, hb⟩
      have h1 := H.out.next hb
      have H1 := hide h1
      have c1 := h1.c1
      have f1 := h1.f1
      have own1 := h1.own
      have hne := fun e : some P = (Value.slice (some ⟨g0, 0, none⟩) ns.length cp0).ownBlock => h1.ne e.symm
      clear h1
      go_wp2_with (at_builtin; refine wpList_append_own_at _ rfl _ _ 30 rfl 0 51 i0 nt0.v 9 72 Try.underlying30 hi hz0 hz1 hz2 rfl (by decide) (Value.slice (some ⟨g0, 0, none⟩) ns.length cp0) ns.length (cellsOf ns) rfl own1 ⟨b, off, none⟩ 0 c [] rfl rfl (fun j u hu => by simp at hu) (fun u hu => by simp at hu) (by unfold maxLen; omega) (by omega) (Nat.zero_le _) ?_; intro v2 w2 hown hgrow hnil hat; obtain ⟨g2, cp2, rfl⟩ := own_some hown (fun e => by have := (hnil.1 e).1; cases this); have q1 : w2.cell? ⟨P, 1, none⟩ = some (Value.slice (some ⟨g0, 0, none⟩) ns.length cp0) := hgrow.cell c1 hne; have q2 : w2.frozen? ⟨P, 1, none⟩ = false := (World.frozen?_of_block (a := ⟨P, 1, none⟩) (hgrow.block P H1.out.hP hne)).trans f1)
      go_ret
      have fA : Fr (fun k => (Value.slice (some ⟨g0, 0, none⟩) ns.length cp0).ownBlock = some k) w1 w2 := Fr.of_grown' hgrow (fun E hE _ => hE)
      have hv2 : ∀ k, (Value.slice (some ⟨g2, 0, none⟩) (ns.length + 0) cp2).ownBlock = some k → (Value.slice (some ⟨g0, 0, none⟩) ns.length cp0).ownBlock = some k ∨ w1.heap.size ≤ k := fun k hk => by
        rcases hat with e | e
        · exact .inl (e.symm.trans hk)
        · right; rw [e] at hk; injection hk with hk; omega
      have ne2 : (Value.slice (some ⟨g2, 0, none⟩) (ns.length + 0) cp2).ownBlock ≠ some P := fun e => by
        rcases hv2 P e with e2 | e2
        · exact H1.out.ne e2
        · have := H1.out.hP; omega
      simp only [Nat.add_zero, List.append_nil] at hown
      refine ⟨rfl, Value.slice (some ⟨g2, 0, none⟩) ns.length cp2, ?_, ((Fr.of_below (S := La.S P (Value.slice (some ⟨g0, 0, none⟩) ns.length cp0)) hb).trans fA (fun k _ hk => .inr hk)).setCell (p := ⟨P, 1, none⟩) (fun _ => .inl rfl) _, fun k hk => ?_⟩
      · try rw [List.append_nil]
        exact put_la H1.out hown ne2 fA H1.out.ne hle
      · rcases hk with hk | hk
        · exact .inl (.inl hk)
        · rcases hv2 k hk with e | e
          · exact .inl (.inr e)
          · exact .inr (Nat.le_trans hb.size e)
  · have hnews := hide (show ∀ j u, (cellsOf ms)[j]? = some u → w.cell? ((⟨b, off, none⟩ : Addr).add j) = some u from fun j u hu => by
      rcases HS.out with ⟨h1, h2⟩ | ⟨b', off', c', e, h2, h3, h4, h5⟩
      · cases h1
      · simp at e
        obtain ⟨⟨rfl, rfl⟩, -⟩ := e
        rw [add_plain]; exact h5 j u hu)
    have hbl := hide (show b < w.heap.size by
      rcases HS.out with ⟨h1, h2⟩ | ⟨b', off', c', e, h2, h3, h4, h5⟩
      · cases h1
      · simp at e
        obtain ⟨⟨rfl, rfl⟩, -⟩ := e
        exact h4 (by rintro rfl; simp at h0))
    have hx' : ¬ ((d : Int) - ns.length < (ms.length : Int)) := hx
    go_enter Try.func16, Try.ntmps16
    go_wp2_with fail
    refine (room_any _ H.out).mono ?_
    rintro r w1 ⟨rfl, hb⟩
    have h1 := H.out.next hb
    have H1 := hide h1
    have c1 := h1.c1
    have f1 := h1.f1
    have own1 := h1.own
    have hne := fun e : some P = v.ownBlock => h1.ne e.symm
    have hn1 : ∀ j u, (cellsOf ms)[j]? = some u → w1.cell? ((⟨b, off, none⟩ : Addr).add j) = some u := fun j u hu => by
      have := hnews.out j u hu
      rw [add_plain] at this ⊢
      exact cell_next hb hbl.out this
    clear h1
    go_wp2_with (at_builtin; refine wpList_append_lies _ rfl _ _ 30 rfl 0 51 i0 nt0.v 9 72 Try.underlying30 hi hz0 hz1 hz2 rfl (by decide) v ns.length (cellsOf ns) rfl own1 ⟨b, off, none⟩ ms.length c (cellsOf ms) rfl (cells_len ms) hn1 (cells_cell ms) h0 (by unfold maxLen; omega) (by omega) (Nat.zero_le _) _ rfl ?_; intro g cap w2 hown hgrow hat hlt; have q1 : w2.cell? ⟨P, 1, none⟩ = some v := hgrow.cell c1 hne; have q2 : w2.frozen? ⟨P, 1, none⟩ = false := (World.frozen?_of_block (a := ⟨P, 1, none⟩) (hgrow.block P H1.out.hP hne)).trans f1)
    go_ret
    have fA : Fr (fun k => v.ownBlock = some k) w1 w2 := Fr.of_grown' hgrow (fun E hE _ => hE)
    have ne2 : (Value.slice (some ⟨g, 0, none⟩) (ns.length + ms.length) cap).ownBlock ≠ some P := fun e => by
      simp [Value.ownBlock] at e
      rcases hat with e2 | e2
      · exact H1.out.ne (by rw [e2, e])
      · have := H1.out.hP; omega
    refine ⟨rfl, Value.slice (some ⟨g, 0, none⟩) (ns.length + ms.length) cap, ?_, ((Fr.of_below (S := La.S P v) hb).trans fA (fun k _ hk => .inr hk)).setCell (p := ⟨P, 1, none⟩) (fun _ => .inl rfl) _, fun k hk => ?_⟩
    · have hown' : w2.ownsRow 0 51 9 (.slice (some ⟨g, 0, none⟩) (ns.length + ms.length) cap) (ns ++ ms).length (cellsOf (ns ++ ms)) := by rw [List.length_append, cells_app]; exact hown
      exact put_la H1.out hown' ne2 fA H1.out.ne (by rw [List.length_append]; exact hm.out)
    · rcases hk with hk | hk
      · exact .inl (.inl hk)
      · simp [Value.ownBlock] at hk
        rcases hat with e | e
        · exact .inl (.inr (by rw [e, hk]))
        · exact .inr (by have := hb.size; omega)
end Go.Proofs.Ytopfbmgmpihcnaa

/- Appends of notes. -/
import Derived.Test.YtopfbmgmpihcnaaG
import Derived.WalkKit
import Derived.WalkSpells
import Derived.ProofKit
import Derived.Outline
import Derived.Handy
import Derived.RowKit3
import Derived.BigQuiet
import Derived.Deep.QuietTactic
import Derived.Deep.RegionHeld3
import Derived.Deep.Draws
import Derived.Deep.RegionLaw
import Derived.RegionTactic
import Derived.BigRegion
import Derived.IntWalk
import Derived.LoopTactic
import Derived.OwnWalk
import Derived.Laws.AppendOwn
import Derived.Laws.OwnMore
import Derived.Laws.MakeOwn
import Derived.Laws.Pointers
import Derived.Maps.AppendAt
import Derived.Deep.AppendLies
import Derived.Below
import Derived.Laws.AppendOwnNone
namespace Go.Proofs.Ytopfbmgmpihcnaa
open Go.RowKit
set_option linter.unusedVariables false
set_option maxRecDepth 100000


/-- A slice of notes, to be read; an empty one may lie anywhere. -/
def SrcE (w : World) (v : Value) (ns : List Nt) : Prop := Src w v ns ∨ (ns = [] ∧ ∃ a c, v = .slice (some a) 0 c)
theorem SrcE.fr {w w' : World} {v : Value} {ns : List Nt} {S : Nat → Prop} (h : SrcE w v ns) (f : Fr S w w') (hS : ∀ k, v.ownBlock = some k → ¬ S k) : SrcE w' v ns := by
  rcases h with h | h
  · exact .inl (h.fr f hS)
  · exact .inr h
theorem SrcE.next {w w' : World} {v : Value} {ns : List Nt} (h : SrcE w v ns) (b : Below w.heap.size w w') : SrcE w' v ns := h.fr (Fr.of_below (S := fun _ => False) b) (fun _ _ => id)
theorem own_form {w : World} {base size n : Nat} {e : TypeId} {v : Value} {xs : List Value} (h : w.ownsRow base e size v n xs) : v = .slice none 0 0 ∨ ∃ g cp, v = .slice (some ⟨g, 0, none⟩) n cp := by
  rcases h.2 with ⟨h1, _⟩ | ⟨g, cap, cur, hv, _⟩
  · exact .inl h1
  · exact .inr ⟨g, cap, hv⟩
theorem own_src' {w : World} {base : Nat} {v : Value} {ns : List Nt} (h : w.ownsRow base 51 9 v ns.length (cellsOf ns)) : Src w v ns := own_src (ow_mono h (Nat.zero_le _))
theorem run_app_src {w : World} (base : Nat) (t ty : TypeId) (ht : Try.prog.underlying t = some (.slice 51)) (v sl : Value) (ns ms : List Nt) (hown : w.ownsRow base 51 9 v ns.length (cellsOf ns)) (hs : SrcE w sl ms) (hlen : ns.length + ms.length ≤ 1000) (hbase : base ≤ w.heap.size) :
    ∃ v' w', (Builtin.append_ #[t, t] ty #[v, sl]).run Try.prog w = .ok v' w' ∧ w'.ownsRow base 51 9 v' (ns ++ ms).length (cellsOf (ns ++ ms)) ∧ w.grownBy w' v.ownBlock ∧ (v'.ownBlock = v.ownBlock ∨ v'.ownBlock = some w.heap.size) := by
  obtain ⟨i, hi, hz0, hz1, hz2⟩ := info_parts info51
  have odd : ∀ ad c, ms = [] → sl = .slice (some ad) 0 c → ∃ v' w', (Builtin.append_ #[t, t] ty #[v, sl]).run Try.prog w = .ok v' w' ∧ w'.ownsRow base 51 9 v' (ns ++ ms).length (cellsOf (ns ++ ms)) ∧ w.grownBy w' v.ownBlock ∧ (v'.ownBlock = v.ownBlock ∨ v'.ownBlock = some w.heap.size) := by
    rintro ad c rfl rfl
    obtain ⟨v', w', hr, h2, h3, h4, h5⟩ := run_append_own_at (P := Try.prog) w base t ty 51 i nt0.v 9 72 ht hi hz0 hz1 hz2 rfl (by decide) v ns.length (cellsOf ns) hown ad 0 c [] rfl (fun j u hu => by simp at hu) (fun u hu => by simp at hu) (by unfold maxLen; omega) (by omega) hbase
    rw [List.append_nil]
    rw [Nat.add_zero, List.append_nil] at h2
    exact ⟨v', w', hr, h2, h3, h5⟩
  rcases hs with (⟨rfl, rfl⟩ | ⟨b, off, c, rfl, h1, h2, h3, h4⟩) | ⟨rfl, ad, c, rfl⟩
  · rw [List.append_nil]
    exact ⟨v, w, run_append_owned_none (P := Try.prog) w base t ty 51 i 9 ht hi v _ _ hown, hown, ⟨rfl, rfl, rfl, Nat.le_refl _, fun _ _ _ => rfl⟩, .inl rfl⟩
  · obtain ⟨v', w', hr, h2, h3, h4', h5⟩ := run_append_own_at (P := Try.prog) w base t ty 51 i nt0.v 9 72 ht hi hz0 hz1 hz2 rfl (by decide) v ns.length (cellsOf ns) hown ⟨b, off, none⟩ ms.length c (cellsOf ms) (cells_len ms) (fun j u hu => by rw [add_plain]; exact h4 j u hu) (cells_cell ms) (by unfold maxLen; omega) (by omega) hbase
    refine ⟨v', w', hr, ?_, h3, h5⟩
    rw [List.length_append, cells_app]; exact h2
  · exact odd ad c rfl rfl
theorem wpList_app_src {w : World} {ops : Array Oper} {rest : List Oper} {o : Oper} {a : Act} {Q : Exit → Act → World → Prop} (hgd : o.guard = none) (s x : Operand) (t : TypeId)
    (ho : o.op = .call { callee := .builtin .append, args := #[s, x], argTypes := #[t, t] })
    (base : Nat) (ht : Try.prog.underlying t = some (.slice 51)) (v sl : Value) (ns ms : List Nt) (hs : a.eval s = v) (hown : w.ownsRow base 51 9 v ns.length (cellsOf ns)) (hx : a.eval x = sl) (hsrc : SrcE w sl ms) (hlen : ns.length + ms.length ≤ 1000) (hbase : base ≤ w.heap.size)
    (h : ∀ v' w', w'.ownsRow base 51 9 v' (ns ++ ms).length (cellsOf (ns ++ ms)) → w.grownBy w' v.ownBlock → (v'.ownBlock = v.ownBlock ∨ v'.ownBlock = some w.heap.size) → wpList Try.prog ops Q rest (a.put o.dst v') w') : wpList Try.prog ops Q (o :: rest) a w := by
  refine wpList_plain hgd fun K hK => ?_
  obtain ⟨v', w', hr, h2, h3, h5⟩ := run_app_src base t o.type ht v sl ns ms hown hsrc hlen hbase
  unfold Oper.wp execOp
  simp only [ho, resolve, invoke, builtin, Sem.run_bind, Sem.run_pure, Result.andThen_ok, List.map_toArray, List.map_cons, List.map_nil, hs, hx, hr]
  exact hK _ _ (h v' w' h2 h3 h5)
theorem step_app_src {w : World} {ops : Array Oper} {o : Oper} {a : Act} {K : Act → World → Prop} {Q : Exit → Act → World → Prop} {E : Prop} (hgd : o.guard = none) (s x : Operand) (t : TypeId)
    (ho : o.op = .call { callee := .builtin .append, args := #[s, x], argTypes := #[t, t] })
    (base : Nat) (ht : Try.prog.underlying t = some (.slice 51)) (v sl : Value) (ns ms : List Nt) (hs : a.eval s = v) (hown : w.ownsRow base 51 9 v ns.length (cellsOf ns)) (hx : a.eval x = sl) (hsrc : SrcE w sl ms) (hlen : ns.length + ms.length ≤ 1000) (hbase : base ≤ w.heap.size)
    (h : ∀ v' w', w'.ownsRow base 51 9 v' (ns ++ ms).length (cellsOf (ns ++ ms)) → w.grownBy w' v.ownBlock → (v'.ownBlock = v.ownBlock ∨ v'.ownBlock = some w.heap.size) → K (a.put o.dst v') w') :
    if Region.wanted o (yielded ops a.tmps) = true then Oper.wp Try.prog o a w K Q else E := by
  have hw : Region.wanted o (yielded ops a.tmps) = true := by simp [Region.wanted, hgd]
  rw [if_pos hw]
  obtain ⟨v', w', hr, h2, h3, h5⟩ := run_app_src base t o.type ht v sl ns ms hown hsrc hlen hbase
  unfold Oper.wp execOp
  simp only [ho, resolve, invoke, builtin, Sem.run_bind, Sem.run_pure, Result.andThen_ok, List.map_toArray, List.map_cons, List.map_nil, hs, hx, hr]
  exact h v' w' h2 h3 h5
set_option maxHeartbeats 4000000 in
theorem put_odd {P d : Nat} {v : Value} {ns : List Nt} (ad : Addr) (c : Nat) (w : World) (h : La w P d v ns) :
    Calls Try.prog 16 #[.pointer (some ⟨P, 0, none⟩), .slice (some ad) 0 c] w fun r w' => r = .returned (.int .i64 0) ∧ ∃ v', La w' P d v' ns ∧ Fr (La.S P v) w w' ∧ ∀ k, La.S P v' k → La.S P v k ∨ w.heap.size ≤ k := by
  obtain ⟨i0, hi, hz0, hz1, hz2⟩ := info_parts info51
  have hle := h.le
  have hd := h.d16
  have H := hide h
  clear h
  have hx : ¬ ((d : Int) - ns.length < 0) := by omega
  rcases H.out.form with ⟨rfl, rfl⟩ | ⟨g0, cp0, rfl, h01, h02, h03⟩
  · have hx' : ¬ ((d : Int) - 0 < 0) := by omega
    go_enter Try.func16, Try.ntmps16
    go_wp2_with fail
    refine (room_any _ H.out).mono ?_
    rintro r w1 ⟨rfl, hb⟩
    have h1 := H.out.next hb
    have H1 := hide h1
    have c1 := h1.c1
    have f1 := h1.f1
    have own1 := h1.own
    have hne := fun e : some P = (Value.slice none 0 0).ownBlock => h1.ne e.symm
    clear h1
    go_wp2_with (at_builtin; refine wpList_append_own_at _ rfl _ _ 30 rfl 0 51 i0 nt0.v 9 72 Try.underlying30 hi hz0 hz1 hz2 rfl (by decide) (Value.slice none 0 0) 0 [] rfl own1 ad 0 c [] rfl rfl (fun j u hu => by simp at hu) (fun u hu => by simp at hu) (by unfold maxLen; omega) (by omega) (Nat.zero_le _) ?_; intro v2 w2 hown hgrow hnil hat; obtain rfl := hnil.2 ⟨rfl, rfl⟩; have q1 : w2.cell? ⟨P, 1, none⟩ = some (Value.slice none 0 0) := hgrow.cell c1 hne; have q2 : w2.frozen? ⟨P, 1, none⟩ = false := (World.frozen?_of_block (a := ⟨P, 1, none⟩) (hgrow.block P H1.out.hP hne)).trans f1)
    go_ret
    have fA : Fr (fun k => (Value.slice none 0 0).ownBlock = some k) w1 w2 := Fr.of_grown' hgrow (fun E hE _ => hE)
    have hv2 : ∀ k, (Value.slice none 0 0).ownBlock = some k → (Value.slice none 0 0).ownBlock = some k ∨ w1.heap.size ≤ k := fun k hk => by simp [Value.ownBlock] at hk
    have ne2 : (Value.slice none 0 0).ownBlock ≠ some P := fun e => by
      rcases hv2 P e with e2 | e2
      · exact H1.out.ne e2
      · have := H1.out.hP; omega
    simp only [Nat.add_zero, List.append_nil] at hown
    refine ⟨rfl, Value.slice none 0 0, ?_, ((Fr.of_below (S := La.S P (Value.slice none 0 0)) hb).trans fA (fun k _ hk => .inr hk)).setCell (p := ⟨P, 1, none⟩) (fun _ => .inl rfl) _, fun k hk => ?_⟩
    · try rw [List.append_nil]
      exact put_la H1.out hown ne2 fA H1.out.ne hle
    · rcases hk with hk | hk
      · exact .inl (.inl hk)
      · rcases hv2 k hk with e | e
        · exact .inl (.inr e)
        · exact .inr (Nat.le_trans hb.size e)
  · have hx' : ¬ ((d : Int) - ns.length < 0) := by simp at hx; omega
    go_enter Try.func16, Try.ntmps16
    go_wp2_with fail
    refine (room_any _ H.out).mono ?_
    rintro r w1 ⟨rfl, hb⟩
    have h1 := H.out.next hb
    have H1 := hide h1
    have c1 := h1.c1
    have f1 := h1.f1
    have own1 := h1.own
    have hne := fun e : some P = (Value.slice (some ⟨g0, 0, none⟩) ns.length cp0).ownBlock => h1.ne e.symm
    clear h1
    go_wp2_with (at_builtin; refine wpList_append_own_at _ rfl _ _ 30 rfl 0 51 i0 nt0.v 9 72 Try.underlying30 hi hz0 hz1 hz2 rfl (by decide) (Value.slice (some ⟨g0, 0, none⟩) ns.length cp0) ns.length (cellsOf ns) rfl own1 ad 0 c [] rfl rfl (fun j u hu => by simp at hu) (fun u hu => by simp at hu) (by unfold maxLen; omega) (by omega) (Nat.zero_le _) ?_; intro v2 w2 hown hgrow hnil hat; obtain ⟨g2, cp2, rfl⟩ := own_some hown (fun e => by have := (hnil.1 e).1; cases this); have q1 : w2.cell? ⟨P, 1, none⟩ = some (Value.slice (some ⟨g0, 0, none⟩) ns.length cp0) := hgrow.cell c1 hne; have q2 : w2.frozen? ⟨P, 1, none⟩ = false := (World.frozen?_of_block (a := ⟨P, 1, none⟩) (hgrow.block P H1.out.hP hne)).trans f1)
    go_ret
    have fA : Fr (fun k => (Value.slice (some ⟨g0, 0, none⟩) ns.length cp0).ownBlock = some k) w1 w2 := Fr.of_grown' hgrow (fun E hE _ => hE)
    have hv2 : ∀ k, (Value.slice (some ⟨g2, 0, none⟩) (ns.length + 0) cp2).ownBlock = some k → (Value.slice (some ⟨g0, 0, none⟩) ns.length cp0).ownBlock = some k ∨ w1.heap.size ≤ k := fun k hk => by
      rcases hat with e | e
      · exact .inl (e.symm.trans hk)
      · right; rw [e] at hk; injection hk with hk; omega
    have ne2 : (Value.slice (some ⟨g2, 0, none⟩) (ns.length + 0) cp2).ownBlock ≠ some P := fun e => by
      rcases hv2 P e with e2 | e2
      · exact H1.out.ne e2
      · have := H1.out.hP; omega
    simp only [Nat.add_zero, List.append_nil] at hown
    refine ⟨rfl, Value.slice (some ⟨g2, 0, none⟩) ns.length cp2, ?_, ((Fr.of_below (S := La.S P (Value.slice (some ⟨g0, 0, none⟩) ns.length cp0)) hb).trans fA (fun k _ hk => .inr hk)).setCell (p := ⟨P, 1, none⟩) (fun _ => .inl rfl) _, fun k hk => ?_⟩
    · try rw [List.append_nil]
      exact put_la H1.out hown ne2 fA H1.out.ne hle
    · rcases hk with hk | hk
      · exact .inl (.inl hk)
      · rcases hv2 k hk with e | e
        · exact .inl (.inr e)
        · exact .inr (Nat.le_trans hb.size e)

theorem put_any {P d : Nat} {v sl : Value} {ns ms : List Nt} (hm : ns.length + ms.length ≤ d) (w : World) (h : La w P d v ns) (hs : SrcE w sl ms) :
    Calls Try.prog 16 #[.pointer (some ⟨P, 0, none⟩), sl] w fun r w' => r = .returned (.int .i64 0) ∧ ∃ v', La w' P d v' (ns ++ ms) ∧ Fr (La.S P v) w w' ∧ ∀ k, La.S P v' k → La.S P v k ∨ w.heap.size ≤ k := by
  rcases hs with hs | ⟨rfl, ad, c, rfl⟩
  · exact put_ok hm w h hs
  · rw [List.append_nil]; exact put_odd ad c w h
theorem put_fulle {P d : Nat} {v sl : Value} {ns ms : List Nt} (hm : ¬ ns.length + ms.length ≤ d) (hms : ms.length ≤ 1000) (w : World) (h : La w P d v ns) (hs : SrcE w sl ms) :
    Calls Try.prog 16 #[.pointer (some ⟨P, 0, none⟩), sl] w fun r w' => r = .returned (.int .i64 11) ∧ Below w.heap.size w w' := by
  rcases hs with hs | ⟨rfl, ad, c, rfl⟩
  · exact put_full hm hms w h hs
  · exact absurd h.le (by simpa using hm)
end Go.Proofs.Ytopfbmgmpihcnaa

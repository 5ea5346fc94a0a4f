import Derived.Test.YtpabnkbpklggnaaDoorJA
import Derived.Test.YtpabnkbpklggnaaDoorJS
import Derived.Test.YtpabnkbpklggnaaDoorProg
import Derived.WalkKit
import Derived.ProofKit
import Derived.KernelRfl
import Derived.Shelf.RegionOpen
import Derived.Laws.ResultCell
import Derived.Lib.Builder
import Derived.Lib.UnsafeStr
import Derived.Lib.AppendStr
import Derived.Lib.MakeNoZero
import Derived.Lib.Strings
import Derived.Lib.Slices
import Derived.Lib.Walk
import Derived.Laws.Externs
import Derived.IntWalk
import Derived.Lib.AppendIntMem
import Derived.Shelf.Strings.BuilderX
namespace Go.Proofs.YtpabnkbpklggnaaDoor
open Go.RowKit Go.Shelf Go.Lib Go.Sort
set_option linter.unusedVariables false
set_option maxRecDepth 100000
set_option maxHeartbeats 2000000
theorem hid {p : Prop} (h : p) : Hid p := h
theorem lt_of_heap {w : World} {g : Nat} {o : Obj} (h : w.heap[g]? = some o) : g < w.heap.size := (Array.getElem?_eq_some_iff.1 h).1
theorem bat_next {B b : Nat} {p : Value} {bs : List Value} {w w' : World} (h : Lib.BuilderAt 115 5 B b p bs w) (hb : Below w.heap.size w w') : Lib.BuilderAt 115 5 B b p bs w' := by
  obtain ⟨hB, v, hbk, ⟨ho, hown⟩, hne⟩ := h
  refine ⟨hB, v, (hb.block _ (lt_of_heap hbk)).trans hbk, ⟨ho, ?_⟩, hne⟩
  rcases hown with h | ⟨g, cap, cur, h1, h2, h3, h4⟩
  · exact .inl h
  · exact .inr ⟨g, cap, cur, h1, h2, (hb.block _ (lt_of_heap h3)).trans h3, h4⟩
/-- What Join writes. -/
def numC (n : Int) : List Value := .int .u8 32 :: Lib.strCells ⟨(Lib.itoa n).toArray⟩
def jtxt (word : ByteArray) (ns : List Int) : List Value := Lib.strCells word ++ ns.flatMap numC
theorem itoa_small {n : Int} (h : -9223372036854775808 ≤ n ∧ n ≤ 9223372036854775807) : (Lib.itoa n).length ≤ 21 := Lib.itoa_length_le n h.1 h.2
theorem numC_len {n : Int} (h : -9223372036854775808 ≤ n ∧ n ≤ 9223372036854775807) : (numC n).length ≤ 22 := by
  have := itoa_small h
  simp only [numC, List.length_cons, Lib.strCells_length]
  show (Lib.itoa n).toArray.size + 1 ≤ 22
  simp; omega
theorem jtxt_len (word : ByteArray) : ∀ (ns : List Int), (∀ n ∈ ns, -9223372036854775808 ≤ n ∧ n ≤ 9223372036854775807) → (jtxt word ns).length ≤ word.size + 22 * ns.length := by
  intro ns h
  simp only [jtxt, List.length_append, Lib.strCells_length]
  have : (ns.flatMap numC).length ≤ 22 * ns.length := by
    induction ns with
    | nil => simp
    | cons n ns ih =>
      have h1 := numC_len (h n (by simp))
      have h2 := ih (fun m hm => h m (by simp [hm]))
      simp only [List.flatMap_cons, List.length_append, List.length_cons]
      omega
  omega
theorem jtxt_next (word : ByteArray) (xs : List Int) (k : Nat) (hk : k < xs.length) : jtxt word (xs.take k) ++ [.int .u8 32] ++ Lib.strCells ⟨(Lib.itoa xs[k]).toArray⟩ = jtxt word (xs.take (k + 1)) := by
  have : xs.take (k + 1) = xs.take k ++ [xs[k]] := by rw [List.take_add_one]; simp [List.getElem?_eq_getElem hk]
  unfold jtxt
  rw [this, List.flatMap_append]
  simp only [List.flatMap_cons, List.flatMap_nil, List.append_nil, numC, List.append_assoc, List.cons_append, List.nil_append]
def jbytes (word : ByteArray) (ns : List Int) : List UInt8 := word.data.toList ++ ns.flatMap fun n => 32 :: Lib.itoa n
theorem jtxt_bytes (word : ByteArray) (ns : List Int) : jtxt word ns = Lib.byteCells (jbytes word ns) := by
  have : numC = fun a => Value.int .u8 32 :: (Lib.itoa a).map fun b => Value.int .u8 b.toNat := by funext a; simp [numC, Lib.strCells]
  simp [jtxt, jbytes, this, Lib.strCells, Lib.byteCells, List.map_flatMap]
def JR (w : World) (B : Nat) (word : ByteArray) (xs : List Int) (v12 : Value) (wr : World) : Prop :=
  ∃ k, k ≤ xs.length ∧ v12 = .int .i64 k ∧ Hid (Lib.BuilderAt 115 5 B B (.pointer (some ⟨B, 0, none⟩)) (jtxt word (xs.take k)) wr) ∧ Below B w wr
set_option maxHeartbeats 4000000 in
theorem join_look (w : World) (word : ByteArray) (g o : Nat) (xs : List Int) (cap : Nat) (hlen : word.size ≤ 100) (hn : xs.length ≤ 20) (hgl : g < w.heap.size) (hc : Hid (∀ (j : Nat) (x : Int), xs[j]? = some x → w.cell? ⟨g, o + j, none⟩ = some (.int .i64 x)))
    (hxs : Hid (∀ n ∈ xs, -9223372036854775808 ≤ n ∧ n ≤ 9223372036854775807)) (htab : Hid (∀ w', Below w.heap.size w w' → Lib.TabIs Tryd.prog w' "internal/strconv.uint64pow10" .u64 Lib.pow10Tab)) :
    Calls Tryd.prog 38 #[.string word, .slice (some ⟨g, o, none⟩) xs.length cap] w fun e w' => e = .returned (.string ⟨(jbytes word xs).toArray⟩) ∧ Below w.heap.size w w' := by
  have hf := fun W : World => Lib.fresh_isBuilder 115 5 W
  go_enter Tryd.func38, Tryd.ntmps38
  go_wp2_with (go_at_call 61; refine (ws_any word (hf _) (by simp; omega) (by simp)).mono ?_)
  rintro e w1 ⟨rfl, h1, hb1⟩
  obtain ⟨B, hB⟩ : ∃ B, B = w.heap.size := ⟨_, rfl⟩
  have h2 := hid h1
  clear h1
  clear hf
  go_wp2
  go_loopw [12] (fun v12 wr => JR w B word xs v12 wr) (fun v12 _ => xs.length - (Go.RowKit.intOf v12).toNat)
  case atStart =>
    refine ⟨0, Nat.zero_le _, rfl, ?_, ?_⟩
    · subst hB; exact hid (by simpa [jtxt] using h2.out)
    · subst hB; exact ((Go.RowKit.Below.refl _ w).alloc (Nat.le_refl _) _).trans hb1
  case round =>
    obtain ⟨k, hk, rfl, hA, hbl⟩ := hrel
    subst hB
    have hsz := hbl.size
    by_cases hlt : k < xs.length
    · have hx : wr.cell? ⟨g, o + k, none⟩ = some (.int .i64 xs[k]) := by
        rw [hbl.cell (p := ⟨g, o + k, none⟩) (by exact hgl)]
        exact hc.out k _ (List.getElem?_eq_getElem hlt)
      have hi := hid (jtxt_len word (xs.take k) (fun n hn => hxs.out n (List.mem_of_mem_take hn)))
      have hr := hid (hxs.out xs[k] (List.getElem_mem hlt))
      obtain ⟨X, hX⟩ : ∃ X, X = xs[k] := ⟨_, rfl⟩
      have hN := hid (jtxt_next word xs k hlt)
      rw [← hX] at hx hr hN
      have hlt' : (k : Int) < (xs.length : Int) := by omega
      have hBw : w.heap.size ≤ wr.heap.size := by omega
      have L1 : (jtxt word (List.take k xs)).length ≤ 600 := by have := hi.out; simp only [List.length_take] at this; omega
      clear hX
      go_wp2_with (go_at_call 62; refine (wb_any 32 (.inr hA.out) (by omega) hBw).mono ?_)
      rintro e w2 ⟨rfl, h3, hb3⟩
      have h3 := hid h3
      clear hA
      have hz3 := hb3.size
      have bw2 : Below w.heap.size w w2 := hbl.trans hb3
      have ht2 := hid (htab.out _ bw2)
      go_wp2_with (go_at_call 63; refine (Tryd.strconv_Itoa X hr.out.1 hr.out.2 _ ht2.out).mono ?_)
      rintro e w3 ⟨rfl, k3, os3, rfl⟩
      have g3 := hid (below_grow w2.heap.size w2 (Nat.le_refl _) k3 os3)
      have h4 := hid (bat_next h3.out g3.out)
      have bw3 : Below w.heap.size w (grow (w2.drewN k3) os3) := bw2.trans (below_grow w.heap.size w2 (by omega) k3 os3)
      generalize grow (w2.drewN k3) os3 = w3 at *
      have hz4 := bw3.size
      have L2 : (Lib.itoa X).length ≤ 21 := itoa_small hr.out
      go_wp2_with (go_at_call 61; refine (ws_any ⟨(Lib.itoa X).toArray⟩ (.inr h4.out) ?hl (by omega)).mono ?_)
      case hl => simp only [List.length_append, List.length_cons, List.length_nil]; show _ + (Lib.itoa X).toArray.size ≤ _; simp; omega
      rintro e w4 ⟨rfl, h5, hb5⟩
      rw [hN.out] at h5
      have h5 := hid h5
      go_wp2
      case roundEnd =>
        refine ⟨⟨k + 1, hlt, ?_, h5, bw3.trans hb5⟩, ?_⟩
        · have : IntKind.i64.wrap ((k : Int) + 1) = (k : Int) + 1 := IntWalk.i64_in _ (by omega)
          simp
        · simp [Go.RowKit.intOf]; omega
    · have hke : k = xs.length := by omega
      have hlt' : ¬ (k : Int) < (xs.length : Int) := by omega
      subst hke
      have hl : jtxt word (xs.take xs.length) = Lib.byteCells (jbytes word xs) := by rw [List.take_length]; exact jtxt_bytes word xs
      obtain ⟨l, hl'⟩ : ∃ l, l = jbytes word xs := ⟨_, rfl⟩
      rw [← hl'] at hl
      have hA := hid (hl ▸ hA.out)
      have hBw : w.heap.size ≤ wr.heap.size := by omega
      have hS := hid (Tryd.Builder_String_any w.heap.size w.heap.size l wr (.inr hA.out) hBw)
      go_wp2_with (go_at_call 64; refine hS.out.mono ?_)
      rintro e w2 ⟨rfl, hb2⟩
      intro hb2'
      apply_assumption
      go_wp2
      go_ret
      refine ⟨?_, hbl.trans (by assumption)⟩
      first | (rw [hl']; rfl) | (simp [go_sem]; exact hl') | (simp [go_sem])
end Go.Proofs.YtpabnkbpklggnaaDoor

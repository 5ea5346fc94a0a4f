/- The reckoner: trees of outcomes. No condition. -/
import Derived.Test.YtfiangiajhdhcaaDoorV32
namespace Go.Proofs.YtfiangiajhdhcaaDoor
open Go.RowKit
set_option linter.unusedVariables false
set_option maxRecDepth 100000

/-! ### A function reckoned once: its contract is a tree of outcomes -/
inductive LTree where
  | leaf (v : SV) (bs : List SBlk)
  | node (op : BinOp) (a b : IE) (t f : LTree)
noncomputable def slotL (G : Nat) : List SBlk → Nat → List (Nat × SBlk)
  | [], _ => []
  | b :: l, k => (G + k, b.ren (G + ·)) :: slotL G l (k + 1)
noncomputable def SV.lowR (n : Nat) : SV → Bool
  | .tup l => l.all (SV.lowN n)
  | v => v.lowN n
noncomputable def sameFoot : SBlk → SBlk → Bool
  | .cells _ _, .cells _ _ => true
  | .abs i a, .abs j b => i == j && a == b
  | _, _ => false
/-- What a leaf says is what comes out. -/
noncomputable def lOk (G m : Nat) (pre : List SBlk) (v : SV) (bs : List SBlk) (r : R (SV × SH × Nat)) : Bool :=
  match r with
  | .ok (x, H, _) => (SV.beq x (v.ren (G + ·)) && (slotL G bs 0).all fun y => isAbsB y.2 (H.get y.1)) && (((v.ren (G + ·)).lowR (G + m) && v.pat) && ((slotL G bs 0).all (fun y => y.2.lowN (G + m)) && (bs.length == m && ((pre.zip bs).all (fun y => sameFoot y.1 y.2) && bs.all SBlk.pat))))
  | .no _ => false
noncomputable def LTree.check (G m : Nat) (pre : List SBlk) (run : Asm → R (SV × SH × Nat)) : LTree → Asm → Bool
  | .leaf v bs, A => lOk G m pre v bs (run A)
  | .node op a b t f, A => t.check G m pre run (A.add op a b true) && f.check G m pre run (A.add op a b false)
noncomputable def LTree.at (I : Nat → Int) : LTree → SV × List SBlk
  | .leaf v bs => (v, bs)
  | .node op a b t f => match cmpD op (a.den I) (b.den I) with | true => t.at I | false => f.at I
theorem LTree.ok {G m : Nat} {pre : List SBlk} {run : Asm → R (SV × SH × Nat)} {I : Nat → Int} : ∀ {t : LTree} {A : Asm}, A.Holds I → t.check G m pre run A = true → ∃ A' : Asm, A'.Holds I ∧ lOk G m pre (t.at I).1 (t.at I).2 (run A') = true
  | .leaf v bs, A, hA, h => ⟨A, hA, h⟩
  | .node op a b t f, A, hA, h => by
    simp only [LTree.check, Bool.and_eq_true] at h
    simp only [LTree.at]
    cases e : cmpD op (a.den I) (b.den I)
    · exact LTree.ok (hA.add e) h.2
    · exact LTree.ok (hA.add e) h.1
theorem slotL_get {G : Nat} : ∀ {l : List SBlk} {k : Nat} {s : Nat} {b : SBlk}, (mkH (slotL G l k)).get s = some b → ∃ (j : Nat) (i : SBlk), l[j]? = some i ∧ s = G + (k + j) ∧ b = i.ren (G + ·)
  | [], k, s, b, h => by simp [slotL, mkH, Tr.get_nil] at h
  | c :: l, k, s, b, h => by
    simp only [slotL, mkH, Tr.get_set] at h
    split at h
    · rename_i e; cases h; exact ⟨0, c, rfl, by omega, rfl⟩
    · obtain ⟨j, i, h1, h2, h3⟩ := slotL_get h
      exact ⟨j + 1, i, by simpa using h1, by omega, h3⟩
theorem slotL_mem {G : Nat} : ∀ {l : List SBlk} {k j : Nat} {i : SBlk}, l[j]? = some i → (G + (k + j), i.ren (G + ·)) ∈ slotL G l k
  | [], k, j, i, h => by simp at h
  | c :: l, k, 0, i, h => by simp at h; subst h; exact List.mem_cons_self ..
  | c :: l, k, j + 1, i, h => by
    have := slotL_mem (G := G) (k := k + 1) (l := l) (j := j) (i := i) (by simpa using h)
    rw [show k + 1 + j = k + (j + 1) by omega] at this
    exact List.mem_cons_of_mem _ this
theorem slotL_get' {G : Nat} : ∀ {l : List SBlk} {k j : Nat} {i : SBlk}, l[j]? = some i → (mkH (slotL G l k)).get (G + (k + j)) = some (i.ren (G + ·))
  | [], k, j, i, h => by simp at h
  | c :: l, k, 0, i, h => by simp at h; subst h; simp [slotL, mkH, Tr.get_set]
  | c :: l, k, j + 1, i, h => by
    have := slotL_get' (G := G) (k := k + 1) (l := l) (j := j) (i := i) (by simpa using h)
    rw [show k + 1 + j = k + (j + 1) by omega] at this
    simp only [slotL, mkH, Tr.get_set]
    rw [if_neg (by omega)]; exact this
theorem sameFoot_ok {E : Val} {i j : SBlk} {p : Place} {x : Nat} (h : sameFoot i j = true) : (foot E j p x ↔ foot E i p x) ∧ (j.rw = i.rw) := by
  cases i <;> cases j <;> simp [sameFoot] at h
  · exact ⟨Iff.rfl, rfl⟩
  · obtain ⟨rfl, rfl⟩ := h; exact ⟨Iff.rfl, rfl⟩
theorem lowR_ok {E : Val} {ρ ρ' : Rho} {n : Nat} (hr : ∀ s, s < n → ρ' s = ρ s) {v : SV} {u : Value} (h : v.lowR n = true) (hd : Den E ρ v u) : Den E ρ' v u := by
  have key : v.lowN n = true → Den E ρ' v u := fun h => lowN_ok hr h hd
  cases v
  case tup l => obtain ⟨a, ha, rfl⟩ := hd; exact ⟨a, lowL_ok hr h ha, rfl⟩
  all_goals exact key h
theorem ren_ok {E : Val} {ρ ρ' : Rho} {r : Nat → Nat} (hr : ∀ k p, ρ (r k) = some p → ρ' k = some p) {v : SV} {u : Value} (hp : v.pat = true) (h : Den E ρ (v.ren r) u) : Den E ρ' v u := by
  have key : v.pat1 = true → Den E ρ (v.ren1 r) u → Den E ρ' v u := fun hp1 h => ren1_ok hr hp1 h
  cases v
  case tup l =>
    obtain ⟨a, ha, rfl⟩ := h
    exact ⟨a, ren1L_ok hr hp ha, rfl⟩
  all_goals exact key hp h
theorem absOk_tree {P : Program} {G : Nat} {B : Asm → Base} {ts : List (Nat × List SV)} {k : Nat} {f : FuncId} {args : List SV} {pre pre0 : List SBlk} {t : LTree} {A0 : Asm} {E : Val}
    (h : t.check G pre.length pre (fun A => (rk ⟨P, A, G⟩ (B A) k).call f (args.map (SV.ren1 (G + ·))) (addH (slotL G pre 0) (tabHeap ts)) (G + pre.length)) A0 = true) (hA : A0.Holds E.I) (hB : ∀ A : Asm, A.Holds E.I → BaseOk ⟨P, A, G⟩ E (B A))
    (ha : args.all SV.pat1 = true) (hb : pre.all SBlk.pat = true) (hl : pre0.length = pre.length) (hf : ∀ (k : Nat) (i j : SBlk), pre0[k]? = some i → pre[k]? = some j → sameFoot i j = true)
    (hp : ∀ (bs : List Place) (w : World), E.K w → (∀ (k : Nat) (i : SBlk) (b : Place), pre0[k]? = some i → bs[k]? = some b → BRel E (rhoS bs) w b i) → ∀ (k : Nat) (i : SBlk) (b : Place), pre[k]? = some i → bs[k]? = some b → BRel E (rhoS bs) w b i) :
    AbsOk P G ts E ⟨f, args, pre0, (t.at E.I).2, [], (t.at E.I).1⟩ := by
  intro bs us w hlen hT hW hdis hfree htab hargs
  simp only at hlen hW hdis hfree htab hargs ⊢
  have hlen' : bs.length = pre.length := hlen.trans hl
  have back0 : ∀ (k : Nat) (j : SBlk), pre[k]? = some j → ∃ i, pre0[k]? = some i := fun k j hj => by
    have : k < pre0.length := by rw [hl]; exact (List.getElem?_eq_some_iff.1 hj).1
    exact ⟨pre0[k], by simp [this]⟩
  let ρ : Rho := fun s => if s < G then some ⟨s, 0, 0, undef⟩ else bs[s - G]?
  have hρ : ∀ k q, rhoS bs k = some q → ρ (G + k) = some q := fun k q hq => by
    simp only [ρ]; rw [if_neg (by omega), Nat.add_sub_cancel_left]; exact hq
  have hρ' : ∀ k q, ρ (G + k) = some q → rhoS bs k = some q := fun k q hq => by
    simp only [ρ] at hq; rw [if_neg (by omega), Nat.add_sub_cancel_left] at hq; exact hq
  have slots : ∀ s b, (mkH (slotL G pre 0)).get s = some b → ∃ k i i0 p, pre[k]? = some i ∧ pre0[k]? = some i0 ∧ s = G + k ∧ b = i.ren (G + ·) ∧ bs[k]? = some p ∧ ρ s = some p ∧ BRel E ρ w p b ∧ (∀ x, foot E b p x ↔ foot E i0 p x) ∧ b.rw = i0.rw := fun s b hs => by
    obtain ⟨k, i, h1, h2, h3⟩ := slotL_get hs
    rw [Nat.zero_add] at h2
    subst h2 h3
    obtain ⟨i0, h0⟩ := back0 k i h1
    have hk : k < bs.length := by rw [hlen']; exact (List.getElem?_eq_some_iff.1 h1).1
    have hbk : bs[k]? = some bs[k] := by simp [hk]
    refine ⟨k, i, i0, bs[k], h1, h0, rfl, rfl, hbk, hρ k _ hbk, renB_mk hρ (List.all_eq_true.1 hb i (List.mem_of_getElem? h1)) (hp bs w hT.1 hW k i _ h1 hbk), fun x => ?_, ?_⟩
    · rw [foot_ren]; exact (sameFoot_ok (hf k i0 i h0 h1)).1
    · rw [rw_ren]; exact (sameFoot_ok (E := E) (p := bs[k]) (x := 0) (hf k i0 i h0 h1)).2
  have whole : ∀ s b, (addH (slotL G pre 0) (tabHeap ts)).get s = some b → (mkH (slotL G pre 0)).get s = some b ∨ ∃ l, (s, l) ∈ ts ∧ b = .ro l := fun s b hs => by
    rcases addH_get hs with h | h
    · exact .inl h
    · exact .inr (tabHeap_get h)
  have sr : StR E ρ (addH (slotL G pre 0) (tabHeap ts)) (G + pre.length) w := by
    refine ⟨⟨fun s b hs => ?_, fun s t bs' bt ps pt x h1 h2 h3 h4 h5 h6 => ?_, hT.1, ?_⟩, fun s hs => ?_⟩
    · rcases whole s b hs with h | ⟨l, hm, rfl⟩
      · obtain ⟨k, i, i0, p, _, _, _, _, _, g1, g2, _⟩ := slots s b h
        exact ⟨p, g1, g2⟩
      · obtain ⟨k1, vs, el, fz, k2, k3⟩ := hT.2 s l hm
        refine ⟨⟨s, 0, 0, undef⟩, by simp only [ρ]; rw [if_pos k1], rfl, vs, el, fz, k2, ?_⟩
        exact DenL.mono (fun t p ht => by
          simp only [rho0] at ht
          split at ht
          · rename_i hlt; cases ht; simp only [ρ]; rw [if_pos hlt]
          · cases ht) k3
    · have tabAt : ∀ (s : Nat) (l : List SV) (ps : Place), (s, l) ∈ ts → ρ s = some ps → ps.b = s := fun s l ps hm hs => by
        obtain ⟨k1, _⟩ := hT.2 s l hm
        simp only [ρ] at hs; rw [if_pos k1] at hs; cases hs; rfl
      rcases whole s bs' h1 with g | ⟨l, hm, rfl⟩ <;> rcases whole t bt h2 with g' | ⟨l', hm', rfl⟩
      · obtain ⟨k, i, i0, p, a1, a2, rfl, rfl, a4, a5, a6, a7, _⟩ := slots s bs' g
        obtain ⟨k', i', i0', p', c1, c2, rfl, rfl, c4, c5, c6, c7, _⟩ := slots t bt g'
        rw [a5] at h3; cases h3
        rw [c5] at h4; cases h4
        have := hdis k k' i0 i0' _ _ x a2 c2 a4 c4 ((a7 x).1 h5) ((c7 x).1 h6)
        rw [this]
      · obtain ⟨k, i, i0, p, a1, a2, rfl, rfl, a4, a5, a6, a7, _⟩ := slots s bs' g
        rw [a5] at h3; cases h3
        have e : pt.b = t := tabAt t l' pt hm' h4
        have e2 : pt.b = x := h6
        exact absurd ((a7 x).1 h5) (by rw [← e2, e]; exact htab k i0 _ t l' a2 a4 hm')
      · obtain ⟨k', i', i0', p', c1, c2, rfl, rfl, c4, c5, c6, c7, _⟩ := slots t bt g'
        rw [c5] at h4; cases h4
        have e : ps.b = s := tabAt s l ps hm h3
        have e2 : ps.b = x := h5
        exact absurd ((c7 x).1 h6) (by rw [← e2, e]; exact htab k' i0' _ s l c2 c4 hm)
      · have e1 : ps.b = s := tabAt s l ps hm h3
        have e2 : pt.b = t := tabAt t l' pt hm' h4
        have e3 : ps.b = x := h5
        have e4 : pt.b = x := h6
        omega
    · rintro x hx ⟨s, b, p, h1, h2, h3, h4⟩
      rcases whole s b h1 with g | ⟨l, hm, rfl⟩
      · obtain ⟨k, i, i0, p', a1, a2, rfl, rfl, a4, a5, a6, a7, a8⟩ := slots s b g
        rw [a5] at h3; cases h3
        exact hfree k i0 _ x a2 (a8 ▸ h2) a4 ((a7 x).1 h4) hx
      · cases h2
    · simp only [ρ]; rw [if_neg (by omega)]; exact List.getElem?_eq_none (by omega)
  have gl : Glo G ρ := fun g hg => ⟨0, by simp only [ρ]; rw [if_pos hg]⟩
  obtain ⟨A', hA', ho⟩ := LTree.ok hA h
  generalize (t.at E.I).1 = v at ho ⊢
  generalize (t.at E.I).2 = post at ho ⊢
  generalize hrun : (rk ⟨P, A', G⟩ (B A') k).call f (args.map (SV.ren1 (G + ·))) (addH (slotL G pre 0) (tabHeap ts)) (G + pre.length) = R at ho
  cases R with
  | no why => simp [lOk] at ho
  | ok r =>
  obtain ⟨x, H', n'⟩ := r
  simp only [lOk, Bool.and_eq_true, beq_iff_eq] at ho
  obtain ⟨⟨o1, o2⟩, ⟨o3, o4⟩, o5, o6, o7, o8⟩ := ho
  have hcall := reckon (C := ⟨P, A', G⟩) hA' (hB A' hA') k hrun sr gl (ren1L_mk hρ ha hargs)
  refine (callsIn_wide (n := 0)).1 (CallsIn.mono ((callsIn_wide (n := 0)).2 hcall) ?_)
  rintro e w' ⟨u, ρ', rfl, st, hd⟩
  have hext : ∀ s, s < G + pre.length → ρ s = ρ' s := fun s hs => (st.ext s hs).symm
  have same : ∀ (k : Nat) (i j : SBlk), pre0[k]? = some i → post[k]? = some j → sameFoot i j = true := fun k i j hi hj => by
    have hk : k < pre.length := by rw [← hl]; exact (List.getElem?_eq_some_iff.1 hi).1
    have h1 := hf k i pre[k] hi (by simp [hk])
    have hz : (pre.zip post)[k]? = some (pre[k], j) := by rw [List.getElem?_zip_eq_some]; exact ⟨by simp [hk], hj⟩
    have h2 := List.all_eq_true.1 o7 _ (List.mem_of_getElem? hz)
    simp only at h2
    revert h1 h2
    generalize pre[k] = m
    cases i <;> cases m <;> cases j <;> simp [sameFoot]
    rintro rfl rfl rfl rfl; exact ⟨rfl, rfl⟩
  refine ⟨u, [], rfl, rfl, ?_, fun k j b hj hb' => ?_, fun k i j b x hi hj hb' hx => .inl ((sameFoot_ok (same k i j hi hj)).1.1 hx), fun k j b x hj => (by simp at hj), fun k l i j b d x hi hj hb' hd' f1 f2 => ?_, ⟨st.fr.os, st.fr.tape, st.fr.output, st.fr.size, fun x hx hn => st.fr.block x hx (fun hw => hn ?_)⟩⟩
  · rw [SV.eq_of_beq o1] at hd
    rw [List.append_nil]
    exact ren_ok hρ' o4 (lowR_ok hext o3 hd)
  · rw [List.append_nil] at hj hb' ⊢
    have hk : k < pre.length := by rw [← o6]; exact (List.getElem?_eq_some_iff.1 hj).1
    have hm := List.all_eq_true.1 o2 _ (slotL_mem (G := G) (k := 0) hj)
    have hlw := List.all_eq_true.1 o5 _ (slotL_mem (G := G) (k := 0) hj)
    simp only [Nat.zero_add] at hm hlw
    unfold isAbsB at hm
    split at hm
    · rename_i d hd2
      obtain ⟨p, hp2, hbr⟩ := st.rel.blk _ _ hd2
      rw [← hext (G + k) (by omega)] at hp2
      have e := hρ' k p hp2
      simp only [rhoS] at e
      rw [hb'] at e; cases e
      have h1 := stripB_ok hbr
      rw [← SBlk.eq_of_beq' hm] at h1
      exact renB_ok hρ' (List.all_eq_true.1 o8 j (List.mem_of_getElem? hj)) (lowB_ok hext hlw h1)
    · cases hm
  · rw [List.append_nil] at hi hj hb' hd'
    have hk : k < pre0.length := by rw [hl, ← o6]; exact (List.getElem?_eq_some_iff.1 hi).1
    have hk2 : l < pre0.length := by rw [hl, ← o6]; exact (List.getElem?_eq_some_iff.1 hj).1
    exact hdis k l pre0[k] pre0[l] b d x (by simp [hk]) (by simp [hk2]) hb' hd' ((sameFoot_ok (same k _ i (by simp [hk]) hi)).1.1 f1) ((sameFoot_ok (same l _ j (by simp [hk2]) hj)).1.1 f2)
  · obtain ⟨s, b, p, h1, h2, h3, h4⟩ := hw
    rcases whole s b h1 with g | ⟨l, hm, rfl⟩
    · obtain ⟨k, i, i0, p', a1, a2, rfl, rfl, a4, a5, a6, a7, a8⟩ := slots s b g
      rw [a5] at h3; cases h3
      exact ⟨k, i0, _, a2, a8 ▸ h2, a4, (a7 x).1 h4⟩
    · cases h2
/-- A contract in other letters. -/
theorem AbsOk.told {P : Program} {G : Nat} {ts : List (Nat × List SV)} {E : Val} {f : FuncId} {args : List SV} {pre post post' made : List SBlk} {v v' : SV} (ok : AbsOk P G ts E ⟨f, args, pre, post, made, v⟩) (hv : Cv E E v v') (hl : post'.length = post.length)
    (hb : ∀ (k : Nat) (j j' : SBlk), post[k]? = some j → post'[k]? = some j' → Cb E E j j') : AbsOk P G ts E ⟨f, args, pre, post', made, v'⟩ := by
  intro bs us w h1 h2 h3 h4 h5 h6 h7
  refine (callsIn_wide (n := 0)).1 (CallsIn.mono ((callsIn_wide (n := 0)).2 (ok bs us w h1 h2 h3 h4 h5 h6 h7)) ?_)
  rintro e w' ⟨u, nb, rfl, p⟩
  have app : ∀ (k : Nat) (j' : SBlk), (post' ++ made)[k]? = some j' → ∃ j, (post ++ made)[k]? = some j ∧ Cb E E j j' := fun k j' hj => by
    by_cases hk : k < post'.length
    · rw [List.getElem?_append_left hk] at hj
      have : k < post.length := by omega
      exact ⟨post[k], by rw [List.getElem?_append_left this]; simp [this], hb k _ _ (by simp [this]) hj⟩
    · rw [List.getElem?_append_right (by omega)] at hj
      exact ⟨j', by rw [List.getElem?_append_right (by omega), ← hl]; exact hj, ⟨fun _ _ _ h => h, fun _ _ => Iff.rfl, rfl⟩⟩
  refine ⟨u, nb, rfl, p.len, hv _ _ p.den, fun k j b hj hb' => ?_, fun k i j b x hi hj hb' hx => ?_, p.fresh, fun k l i j b d x hi hj hb' hd f1 f2 => ?_, p.fr⟩
  · obtain ⟨j0, g1, g2⟩ := app k j hj
    exact g2.rel _ _ _ (p.is k j0 b g1 hb')
  · have hk : k < post.length := by rw [← hl]; exact (List.getElem?_eq_some_iff.1 hj).1
    exact p.old k i post[k] b x hi (by simp [hk]) hb' (((hb k post[k] j (by simp [hk]) hj).foot b x).1 hx)
  · obtain ⟨i0, g1, g2⟩ := app k i hi
    obtain ⟨j0, g3, g4⟩ := app l j hj
    exact p.apart k l i0 j0 b d x g1 g3 hb' hd ((g2.foot b x).1 f1) ((g4.foot d x).1 f2)
end Go.Proofs.YtfiangiajhdhcaaDoor

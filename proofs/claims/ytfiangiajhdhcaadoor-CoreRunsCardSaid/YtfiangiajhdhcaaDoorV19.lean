/- The reckoner: a symbolic evaluator of a program, proved sound; one of its texts. No condition. -/
import Derived.Test.YtfiangiajhdhcaaDoorV18
namespace Go.Proofs.YtfiangiajhdhcaaDoor
open Go.RowKit
set_option linter.unusedVariables false
set_option maxRecDepth 100000

section
variable {C : Ctx} {E : Val} {X : Rk} {ops : Array Oper} {N n0 : Nat} {T0 : TM} {A : Acc} {ds : List Nat} {ρ0 ρ : Rho} {H0 : SH} {w0 w : World} {L : Nat → Bool} {h : Hs} {a : Act}
theorem HRel.congr {ρ : Rho} {H H' : SH} {w : World} (h : HRel E ρ H w) (he : ∀ t, H'.get t = H.get t) : HRel E ρ H' w := h.sub (fun t c ht => by rw [he] at ht; exact ht)
/-- A block that is made. -/
theorem DInv.made (D : DCtx X C ops N n0 T0 A) (I : DInv C E ops N n0 T0 A ds ρ0 H0 w0 L ρ h a w) {i : Nat} {o : Oper} {v : SV} {b : SBlk} {u : Value} {cs : Array Value} {el : TypeId} (r : Ready ops L i o) (hw : A.ws[i]? = some (o.dst, v)) (hd : ∀ d, o.dst = some d → d < N)
    (hm : NoM A i) (hb : (i, b) ∈ A.al) (hnab : b.isAbs = false) (hk : ∀ ρ' : Rho, ρ.le ρ' → ρ' (n0 + i) = some ⟨w.heap.size, 0, cs.size, undef⟩ → Den E ρ' v u ∧ BRel E ρ' (w.alloc (.cells cs el (0, 0))) ⟨w.heap.size, 0, cs.size, undef⟩ b) :
    DInv C E ops N n0 T0 A ds ρ0 H0 w0 (updL L i) (ρ.upd (n0 + i) ⟨w.heap.size, 0, cs.size, undef⟩) h (a.put o.dst u) (w.alloc (.cells cs el (0, 0))) := by
  have hnone : ρ (n0 + i) = none := I.nal i b hb r.not
  have hle : ρ.le (ρ.upd (n0 + i) ⟨w.heap.size, 0, cs.size, undef⟩) := Rho.le_upd hnone
  obtain ⟨k1, k2⟩ := hk _ hle (Rho.upd_same _ _ _)
  obtain ⟨g1, g2, g3⟩ := I.rel.alloc hnone (.cells cs el (0, 0)) k2 hnab
  have hab : h.ab.testBit i = false := by
    cases e : h.ab.testBit i
    · rfl
    · obtain ⟨j, j1, j2⟩ := D.ok.ab h I.hh i e
      rw [I.mn j] at j1
      simp at j1
      have hj := D.ok.bits h I.hh j (by rw [I.mn j]; simp [j1])
      have := anc_closed D r.cl (o := ops[j]) (by simp [hj]) j1.2 i j2
      rw [r.not] at this; cases this
  have e : ∀ t, (addA n0 (updL L i) h.ab.testBit h.S A.al).get t = ((addA n0 L h.ab.testBit h.S A.al).set (n0 + i) b).get t := by
    intro t
    rw [Tr.get_set]
    by_cases ht : t = n0 + i
    · subst ht
      rw [if_pos rfl]
      exact addA_in D.ok.fn hb updL_same hab
    · rw [if_neg ht]
      have fwd : ∀ (L1 L2 : Nat → Bool) (x : SBlk), (∀ k, k ≠ i → L1 k = L2 k) → (addA n0 L1 h.ab.testBit h.S A.al).get t = some x → (addA n0 L2 h.ab.testBit h.S A.al).get t = some x := by
        intro L1 L2 x h12 hx
        rcases addA_cases hx with ⟨k, m1, m2, m3, m4⟩ | hx
        · subst m2
          exact addA_in D.ok.fn m1 (by rw [← h12 k (by rintro rfl; exact ht rfl)]; exact m3) m4
        · rw [addA_out (fun k c m1 m2 m3 m4 => ?_)]
          · exact hx
          · subst m4
            rw [D.free h I.hh k c m1 m3] at hx; cases hx
      cases e1 : (addA n0 L h.ab.testBit h.S A.al).get t with
      | some x => exact fwd L (updL L i) x (fun k hk => (updL_other hk).symm) e1
      | none =>
        cases e2 : (addA n0 (updL L i) h.ab.testBit h.S A.al).get t with
        | none => rfl
        | some x => rw [fwd (updL L i) L x (fun k hk => updL_other hk) e2] at e1; cases e1
  refine ⟨I.hh, fun k => ?_, fun t => ?_, by rw [act_put_size]; exact I.sz, by rw [put_defers]; exact I.ds.mono hle, I.glo.mono hle, g1.congr e, fun s hs => ?_, I.nn, fun k c hk hL => ?_, fun s hs => ?_, I.fr.trans (.alloc (fun _ => False) w _) (fun _ _ h => h) (fun _ _ h => h.elim), fun k hk => ?_, fun k hk => ?_⟩
  · by_cases hk : k = i
    · subst hk
      rw [hm h I.hh, hm _ D.ok.cur]; rfl
    · rw [updL_other hk]; exact I.mn k
  · rw [after_val D r hw, act_put I.sz hd]
    split
    · exact k1
    · exact (I.tv t).mono hle
  · have := I.nn
    have hi : i < ops.size := (Array.getElem?_eq_some_iff.1 r.op).1
    rw [Rho.upd_other _ _ (by omega)]; exact I.fresh s hs
  · simp [updL] at hL
    rw [Rho.upd_other _ _ (by omega)]; exact I.nal k c hk hL.1
  · rw [Rho.upd_other _ _ (by omega)]; exact I.ext s hs
  · rcases g2 k (fp_sub (fun t c ht => by rw [← e]; exact ht) hk) with q | q
    · exact I.cl k q
    · exact .inr (Nat.le_trans I.fr.size q)
  · rcases g3 k (fpw_sub (fun t c ht => by rw [← e]; exact ht) hk) with q | q
    · exact I.clw k q
    · exact .inr (Nat.le_trans I.fr.size q)
/-- What is ahead of an operation is there. -/
theorem sub_heap (D : DCtx X C ops N n0 T0 A) (I : DInv C E ops N n0 T0 A ds ρ0 H0 w0 L ρ h a w) {i : Nat} {o : Oper} (r : Ready ops L i o) :
    ∀ t c, (addA n0 (ancAt (ancs ops.toList []) i).testBit h.ab.testBit h.S A.al).get t = some c → (addA n0 L h.ab.testBit h.S A.al).get t = some c := by
  intro t c hc
  rcases addA_cases hc with ⟨k, m1, m2, m3, m4⟩ | hx
  · subst m2
    exact addA_in D.ok.fn m1 (r.anc k m3) m4
  · rw [addA_out (fun k c m1 m2 m3 m4 => ?_)]
    · exact hx
    · subst m4
      rw [D.free h I.hh k c m1 m3] at hx; cases hx
/-- A load comes in the worlds that were looked at. -/
theorem win_ok (D : DCtx X C ops N n0 T0 A) (I : DInv C E ops N n0 T0 A ds ρ0 H0 w0 L ρ h a w) {i : Nat} {o : Oper} (r : Ready ops L i o) : inWin (ancs ops.toList []) i (ancAt (ancs ops.toList []) i) A.cur.mn h = true := by
  simp only [inWin, Bool.and_eq_true, beq_iff_eq]
  constructor
  · apply Nat.eq_of_testBit_eq
    intro k
    simp only [Nat.testBit_and]
    rw [I.mn k]
    cases e : (ancAt (ancs ops.toList []) i).testBit k
    · simp
    · rw [r.anc k e]; simp
  · rw [List.all_eq_true]
    rintro ⟨ae, e⟩ hm
    have he : (ancs ops.toList [])[e]? = some ae := by
      obtain ⟨q, hq⟩ := List.mem_iff_getElem?.1 hm
      rw [List.getElem?_zipIdx] at hq
      simp only [Option.map_eq_some_iff, Prod.mk.injEq, Nat.zero_add] at hq
      obtain ⟨y, hy, rfl, rfl⟩ := hq
      exact hy
    simp only [Bool.not_eq_true', Bool.and_eq_false_iff]
    cases h1 : h.mn.testBit e
    · exact .inl rfl
    · refine .inr ?_
      cases h2 : ae.testBit i
      · rfl
      · rw [I.mn e] at h1
        simp at h1
        have hj := D.ok.bits h I.hh e (by rw [I.mn e]; simp [h1])
        have := anc_closed D r.cl (o := ops[e]) (by simp [hj]) h1.2 i (by simp [ancAt, he, h2])
        rw [r.not] at this; cases this
/-- An operation that turns the world. -/
theorem DInv.main (D : DCtx X C ops N n0 T0 A) (I : DInv C E ops N n0 T0 A ds ρ0 H0 w0 L ρ h a w) {i : Nat} {o : Oper} {v : SV} {u : Value} {h' : Hs} {ρ' : Rho} {w' : World} (r : Ready ops L i o) (hw : A.ws[i]? = some (o.dst, v)) (hd : ∀ d, o.dst = some d → d < N)
    (hh' : h' ∈ A.hist) (h4 : h'.mn = h.mn ||| 2 ^ i) (h5 : h'.ab = h.ab ||| ancAt (ancs ops.toList []) i) (h7 : A.cur.mn.testBit i = true) (ha : NoA A i)
    (s : Stp E ρ (addA n0 (ancAt (ancs ops.toList []) i).testBit h.ab.testBit h.S A.al) h.n w ρ' h'.S h'.n w') (hu : Den E ρ' v u) :
    DInv C E ops N n0 T0 A ds ρ0 H0 w0 (updL L i) ρ' h' (a.put o.dst u) w' := by
  have hsub := sub_heap D I r
  have hle : ρ.le ρ' := le_of_ext I.fresh s.ext
  have hin : ∀ k b, (k, b) ∈ A.al → n0 + k < h.n := fun k b hk => by have := D.ok.alb k b hk; have := I.nn; omega
  have hk5 : ∀ k, h'.ab.testBit k = (h.ab.testBit k || (ancAt (ancs ops.toList []) i).testBit k) := fun k => by rw [h5, Nat.testBit_or]
  -- a block that waits, in the elder world
  have wait : ∀ t c, (∃ k, (k, c) ∈ A.al ∧ t = n0 + k ∧ updL L i k = true ∧ h'.ab.testBit k = false) → ∃ p, ρ t = some p ∧ BRel E ρ w p c ∧ (addA n0 L h.ab.testBit h.S A.al).get t = some c ∧ ∀ k, foot E c p k → ¬ fp E ρ (addA n0 (ancAt (ancs ops.toList []) i).testBit h.ab.testBit h.S A.al) k := by
    rintro t c ⟨k, m1, rfl, m3, m4⟩
    rw [hk5] at m4
    simp at m4
    have hki : k ≠ i := by rintro rfl; exact ha c m1
    rw [updL_other hki] at m3
    have hget := addA_in (n0 := n0) (S := h.S) D.ok.fn m1 m3 m4.1
    obtain ⟨p, hp, hb⟩ := I.rel.blk _ _ hget
    refine ⟨p, hp, hb, hget, ?_⟩
    rintro kk hkk ⟨t2, c2, p2, q1, q2, q3⟩
    have := I.rel.inj _ _ _ _ _ _ kk (hsub _ _ q1) hget q2 hp q3 hkk
    subst this
    rcases addA_cases q1 with ⟨k2, z1, z2, z3, z4⟩ | q1
    · have : k2 = k := by omega
      subst this
      rw [m4.2] at z3; cases z3
    · rw [D.free h I.hh k c m1 m4.1] at q1; cases q1
  have ext' : ∀ k b, (k, b) ∈ A.al → ρ' (n0 + k) = ρ (n0 + k) := fun k b hk => s.ext _ (hin k b hk)
  have clw0 : ∀ k, fpw E ρ' (addA n0 (updL L i) h'.ab.testBit h'.S A.al) k → fpw E ρ (addA n0 L h.ab.testBit h.S A.al) k ∨ w.heap.size ≤ k := by
    rintro k ⟨t, c, p, ht, hrw, hp, e⟩
    rcases addA_cases ht with k1 | ht
    · obtain ⟨p', hp', hb, hg, _⟩ := wait t c k1
      rw [hle _ _ hp'] at hp; cases hp
      exact .inl ⟨t, c, _, hg, hrw, hp', e⟩
    · exact (s.clw k ⟨t, c, p, ht, hrw, hp, e⟩).imp (fpw_sub hsub) id
  refine ⟨hh', fun k => ?_, fun t => ?_, by rw [act_put_size]; exact I.sz, by rw [put_defers]; exact I.ds.mono hle, I.glo.mono hle, ⟨?_, ?_, s.rel.kept, I.rel.frees clw0⟩, s.fresh, Nat.le_trans I.nn s.le, fun k b hk hL => ?_, fun q hq => ?_, ?_, ?_, ?_⟩
  · rw [h4, Nat.testBit_or, Nat.testBit_two_pow, I.mn k]
    by_cases hk : k = i
    · subst hk; simp [h7, updL_same]
    · have : ¬ i = k := fun e => hk e.symm
      simp [updL_other hk, this]
  · rw [after_val D r hw, act_put I.sz hd]
    split
    · exact hu
    · exact (I.tv t).mono hle
  · intro t c ht
    rcases addA_cases ht with ⟨k, m1, m2, m3, m4⟩ | ht
    · obtain ⟨p, hp, hb, _, hnf⟩ := wait t c ⟨k, m1, m2, m3, m4⟩
      exact ⟨p, hle _ _ hp, hb.mono hle (fun k hk => s.fr.block _ (hb.ltf hk) (fun z => hnf k hk (fpw_fp z)))⟩
    · exact s.rel.blk t c ht
  · intro t1 t2 b1 b2 p1 p2 kk g1 g2 q1 q2 f1 f2
    have mixed : ∀ t1 t2 b1 b2 p1 p2, (∃ k, (k, b1) ∈ A.al ∧ t1 = n0 + k ∧ updL L i k = true ∧ h'.ab.testBit k = false) → h'.S.get t2 = some b2 → ρ' t1 = some p1 → ρ' t2 = some p2 → foot E b1 p1 kk → foot E b2 p2 kk → False := by
      intro t1 t2 b1 b2 p1 p2 k1 k2 q1 q2 f1 f2
      obtain ⟨p, hp, hb, _, hnf⟩ := wait t1 b1 k1
      have e1 : p = p1 := Option.some.inj ((hle _ _ hp).symm.trans q1)
      subst e1
      rcases s.cl kk ⟨t2, b2, p2, k2, q2, f2⟩ with z | z
      · exact hnf kk f1 z
      · have := hb.ltf f1; omega
    rcases addA_cases g1 with k1 | k1 <;> rcases addA_cases g2 with k2 | k2
    · obtain ⟨p, hp, hb, hg, _⟩ := wait t1 b1 k1
      obtain ⟨p', hp', hb', hg', _⟩ := wait t2 b2 k2
      rw [hle _ _ hp] at q1; cases q1
      rw [hle _ _ hp'] at q2; cases q2
      exact I.rel.inj t1 t2 b1 b2 _ _ kk hg hg' hp hp' f1 f2
    · exact (mixed t1 t2 b1 b2 p1 p2 k1 k2 q1 q2 f1 f2).elim
    · exact (mixed t2 t1 b2 b1 p2 p1 k2 k1 q2 q1 f2 f1).elim
    · exact s.rel.inj t1 t2 b1 b2 p1 p2 kk k1 k2 q1 q2 f1 f2
  · simp [updL] at hL
    rw [ext' k b hk]; exact I.nal k b hk hL.1
  · rw [s.ext q (by have := I.nn; omega)]; exact I.ext q hq
  · refine I.fr.trans s.fr (fun _ _ h => h) (fun k hk hf => ?_)
    rcases I.clw k (fpw_sub hsub hf) with z | z
    · exact z
    · omega
  · rintro k ⟨t, c, p, ht, hp, e⟩
    rcases addA_cases ht with k1 | ht
    · obtain ⟨p', hp', hb, hg, _⟩ := wait t c k1
      rw [hle _ _ hp'] at hp; cases hp
      exact I.cl k ⟨t, c, _, hg, hp', e⟩
    · rcases s.cl k ⟨t, c, p, ht, hp, e⟩ with z | z
      · exact I.cl k (fp_sub hsub z)
      · exact .inr (Nat.le_trans I.fr.size z)
  · rintro k ⟨t, c, p, ht, hrw, hp, e⟩
    rcases addA_cases ht with k1 | ht
    · obtain ⟨p', hp', hb, hg, _⟩ := wait t c k1
      rw [hle _ _ hp'] at hp; cases hp
      exact I.clw k ⟨t, c, _, hg, hrw, hp', e⟩
    · rcases s.clw k ⟨t, c, p, ht, hrw, hp, e⟩ with z | z
      · exact I.clw k (fpw_sub hsub z)
      · exact .inr (Nat.le_trans I.fr.size z)
/-- One operation of a drawn region, whenever it comes. -/
theorem draw_step (hA : C.A.Holds E.I) (hX : CodeOk C E X) (hC : CallOk C E X) (D : DCtx X C ops N n0 T0 A) (I : DInv C E ops N n0 T0 A ds ρ0 H0 w0 L ρ h a w) {i : Nat} {o : Oper} (r : Ready ops L i o) (ro : Option Nat) (m : Nat) {K : Act → World → Prop} {Q : Exit → Act → World → Prop}
    (hK : ∀ ρ' h' a' w', DInv C E ops N n0 T0 A ds ρ0 H0 w0 (updL L i) ρ' h' a' w' → K a' w') : wpOpIn (Fo ro) m C.P ops Q i K a w := by
  obtain ⟨v, b, hw, hd, hb, hf⟩ := D.fact i o r.op
  have hrd := reads_same D r
  have hsw := swantedV_congr (ops := ops) hrd
  have hev := evalV_congr (C := C) (ops := ops) hrd
  have he : ∀ x v, evalV C (fun t => (lastW L 0 A.ws t).getD (T0.val t)) x = .ok v → Den E ρ v (a.eval x) := evalV_ok I.tv I.glo
  unfold wpOpIn
  rw [r.op]
  dsimp only
  rw [swantedV_ok I.tv (hsw.trans hb)]
  cases hf with
  | un hm ha =>
    simp only [Bool.false_eq_true, if_false]
    exact ⟨fun _ _ => trivial, hK _ _ _ _ (I.same D r hw hd hm ha (show Den E ρ (.tup []) undef from ⟨[], rfl, rfl⟩))⟩
  | quiet hq hm ha =>
    simp only [if_true]
    obtain ⟨u, k1, k2⟩ := evQ_ok (w := w) hA he ((evQ_congr hev).trans hq)
    refine wpIn_value ?_ k1 (hK _ _ _ _ (I.same D r hw hd hm ha k2))
    intro c hc
    rw [hc] at hq
    simp [evQ] at hq
  | load ho hx hl hm ha =>
    simp only [if_true]
    have hload := evLoad_mono (D.loads _ _ _ _ _ hl h I.hh (win_ok D I r)) (sub_heap D I r)
    obtain ⟨u, k1, k2⟩ := evLoad_ok hA I.rel (he _ _ ((hev _ (by rw [ho]; simp [Op.operands])).trans hx)) hload
    refine wpIn_value (by rw [ho]; simp) ?_ (hK _ _ _ _ (I.same D r hw hd hm ha k2))
    unfold execOp
    simp [ho, k1]
  | alloc hv hbm hm =>
    simp only [if_true]
    obtain ⟨u, cs, el, k1, k2⟩ := evA_ok hA he ((evA_congr hev).trans hv) w
    refine wpIn_value ?_ k1 (hK _ _ _ _ (I.made D r hw hd hm hbm (evA_na hv) k2))
    intro c hc
    rw [hc] at hv
    simp [evA] at hv
  | @main _ h1 h' hh hh' g1 g2 g3 g4 g5 g6 g7 ha =>
    simp only [if_true]
    have heq : h1 = h := by
      refine D.ok.uniq _ _ hh I.hh ?_
      apply Nat.eq_of_testBit_eq
      intro k
      rw [I.mn k]
      by_cases hk : k < i
      · rw [g1 k hk]
        cases e : A.cur.mn.testBit k
        · rfl
        · have : h1.mn.testBit k = true := by rw [g1 k hk]; exact e
          rw [r.anc k (g3 k this)]; rfl
      · have e1 : h1.mn.testBit k = false := by
          cases e : h1.mn.testBit k
          · rfl
          · exact absurd (g2 k e) hk
        rw [e1]
        by_cases hki : k = i
        · subst hki; rw [r.not]; simp
        · cases e2 : A.cur.mn.testBit k
          · rfl
          · have hanc := D.ok.chain i k g7 e2 (by omega)
            have hlt := D.ok.bits _ D.ok.cur k e2
            cases e3 : L k
            · rfl
            · have := anc_closed D r.cl (o := ops[k]) (by simp [hlt]) e3 i hanc
              rw [r.not] at this; cases this
    subst heq
    have hst : StR E ρ (addA n0 (ancAt (ancs ops.toList []) i).testBit h1.ab.testBit h1.S A.al) h1.n w := ⟨I.rel.sub (sub_heap D I r), I.fresh⟩
    refine evO_ok hA hX hC hst I.glo he ((evO_congr hev).trans g6) ro m (fun ρ' w' u hs hu => ?_)
    exact hK _ _ _ _ (I.main D r hw hd hh' g4 g5 g7 ha hs hu)
end
end Go.Proofs.YtfiangiajhdhcaaDoor

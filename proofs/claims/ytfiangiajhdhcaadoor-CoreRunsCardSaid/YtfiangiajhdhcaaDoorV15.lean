/- The reckoner: a symbolic evaluator of a program, proved sound; one of its texts. No condition. -/
import Derived.Test.YtfiangiajhdhcaaDoorV14
namespace Go.Proofs.YtfiangiajhdhcaaDoor
open Go.RowKit
set_option linter.unusedVariables false
set_option maxRecDepth 100000

/-! ### Regions whose order is drawn: definitions -/
noncomputable def EC.beq : EC → EC → Bool
  | .int k e, .int l f => decide (k = l) && IE.beq e f
  | .side e, .side f => IE.beq e f
  | .atom i, .atom j => i == j
  | _, _ => false
theorem EC.eq_of_beq {a b : EC} (h : EC.beq a b = true) : a = b := by
  cases a <;> cases b <;> simp only [EC.beq, Bool.false_eq_true, Bool.and_eq_true, beq_iff_eq, decide_eq_true_eq] at h
  case int.int => rw [h.1, IE.eq_of_beq h.2]
  case side.side => rw [IE.eq_of_beq h]
  case atom.atom => rw [h]
noncomputable def ecsBeq : List EC → List EC → Bool
  | [], [] => true
  | a :: l, b :: m => EC.beq a b && ecsBeq l m
  | _, _ => false
theorem ecs_eq : ∀ {l m : List EC}, ecsBeq l m = true → l = m
  | [], [], _ => rfl
  | a :: l, b :: m, h => by
    simp only [ecsBeq, Bool.and_eq_true] at h
    rw [EC.eq_of_beq h.1, ecs_eq h.2]
  | [], _ :: _, h => by simp [ecsBeq] at h
  | _ :: _, [], h => by simp [ecsBeq] at h
noncomputable def elsBeq : List (IE × List EC) → List (IE × List EC) → Bool
  | [], [] => true
  | (a, s) :: l, (b, t) :: m => IE.beq a b && (ecsBeq s t && elsBeq l m)
  | _, _ => false
theorem els_eq : ∀ {l m : List (IE × List EC)}, elsBeq l m = true → l = m
  | [], [], _ => rfl
  | (a, s) :: l, (b, t) :: m, h => by
    simp only [elsBeq, Bool.and_eq_true] at h
    rw [IE.eq_of_beq h.1, ecs_eq h.2.1, els_eq h.2.2]
  | [], _ :: _, h => by simp [elsBeq] at h
  | _ :: _, [], h => by simp [elsBeq] at h
noncomputable def focBeq : List (IE × Nat) → List (IE × Nat) → Bool
  | [], [] => true
  | (a, s) :: l, (b, t) :: m => IE.beq a b && (s == t && focBeq l m)
  | _, _ => false
theorem foc_eq : ∀ {l m : List (IE × Nat)}, focBeq l m = true → l = m
  | [], [], _ => rfl
  | (a, s) :: l, (b, t) :: m, h => by
    simp only [focBeq, Bool.and_eq_true, beq_iff_eq] at h
    rw [IE.eq_of_beq h.1, h.2.1, foc_eq h.2.2]
  | [], _ :: _, h => by simp [focBeq] at h
  | _ :: _, [], h => by simp [focBeq] at h
noncomputable def belsBeq : List (IE × Nat × List EC) → List (IE × Nat × List EC) → Bool
  | [], [] => true
  | (a, i, s) :: l, (b, j, t) :: m => IE.beq a b && (i == j && (ecsBeq s t && belsBeq l m))
  | _, _ => false
theorem bels_eq : ∀ {l m : List (IE × Nat × List EC)}, belsBeq l m = true → l = m
  | [], [], _ => rfl
  | (a, i, s) :: l, (b, j, t) :: m, h => by
    simp only [belsBeq, Bool.and_eq_true, beq_iff_eq] at h
    rw [IE.eq_of_beq h.1, h.2.1, ecs_eq h.2.2.1, bels_eq h.2.2.2]
  | [], _ :: _, h => by simp [belsBeq] at h
  | _ :: _, [], h => by simp [belsBeq] at h
mutual
noncomputable def SV.beq : SV → SV → Bool
  | .bool a, .bool b => a == b
  | .int k a, .int l b => decide (k = l) && IE.beq a b
  | .str a, .str b => a == b
  | .nptr, .nptr => true
  | .ptr s o, .ptr t p => s == t && o == p
  | .nslice, .nslice => true
  | .slice s o l c z, .slice s' o' l' c' z' => s == s' && (o == o' && (l == l' && (decide (c = c') && z == z')))
  | .nfunc, .nfunc => true
  | .func f a b, .func g c d => f == g && (SV.beqL a c && SV.beqL b d)
  | .yield s, .yield t => s == t
  | .niface, .niface => true
  | .iface t v, .iface u x => t == u && SV.beq v x
  | .agg a, .agg b => SV.beqL a b
  | .tup a, .tup b => SV.beqL a b
  | .atom i, .atom j => i == j
  | .txt a, .txt b => Ch.beqL a b
  | .map s, .map t => s == t
  | .nmap, .nmap => true
  | .any, .any => true
  | .asl i a z f e, .asl j b y g d => i == j && (IE.beq a b && (z == y && (focBeq f g && belsBeq e d)))
  | .belt s i l o, .belt t j m p => s == t && (i == j && (ecsBeq l m && o == p))
  | .side a, .side b => IE.beq a b
  | .elt l o, .elt m p => ecsBeq l m && o == p
  | _, _ => false
noncomputable def SV.beqL : List SV → List SV → Bool
  | [], [] => true
  | a :: l, b :: m => SV.beq a b && SV.beqL l m
  | _, _ => false
end
mutual
theorem SV.eq_of_beq : ∀ {a b : SV}, SV.beq a b = true → a = b
  | a, b, h => by
    cases a <;> cases b <;> simp only [SV.beq, Bool.false_eq_true, Bool.and_eq_true, beq_iff_eq, decide_eq_true_eq] at h
    case bool.bool => rw [h]
    case int.int => rw [h.1, IE.eq_of_beq h.2]
    case str.str => rw [h]
    case nptr.nptr => rfl
    case ptr.ptr => rw [h.1, h.2]
    case nslice.nslice => rfl
    case slice.slice => rw [h.1, h.2.1, h.2.2.1, h.2.2.2.1, h.2.2.2.2]
    case nfunc.nfunc => rfl
    case func.func => rw [h.1, SV.eq_of_beqL h.2.1, SV.eq_of_beqL h.2.2]
    case yield.yield => rw [h]
    case niface.niface => rfl
    case iface.iface => rw [h.1, SV.eq_of_beq h.2]
    case agg.agg => rw [SV.eq_of_beqL h]
    case tup.tup => rw [SV.eq_of_beqL h]
    case atom.atom => rw [h]
    case txt.txt => rw [Ch.eq_of_beqL h]
    case map.map => rw [h]
    case nmap.nmap => rfl
    case any.any => rfl
    case asl.asl => rw [h.1, IE.eq_of_beq h.2.1, h.2.2.1, foc_eq h.2.2.2.1, bels_eq h.2.2.2.2]
    case belt.belt => rw [h.1, h.2.1, ecs_eq h.2.2.1, h.2.2.2]
    case side.side => rw [IE.eq_of_beq h]
    case elt.elt => rw [ecs_eq h.1, h.2]
theorem SV.eq_of_beqL : ∀ {a b : List SV}, SV.beqL a b = true → a = b
  | [], [], _ => rfl
  | a :: l, b :: m, h => by
    simp only [SV.beqL, Bool.and_eq_true] at h
    rw [SV.eq_of_beq h.1, SV.eq_of_beqL h.2]
  | [], _ :: _, h => by simp [SV.beqL] at h
  | _ :: _, [], h => by simp [SV.beqL] at h
end
structure Hs where
  S : SH
  n : Nat
  ab : Nat
  mn : Nat
structure Acc where
  T : TM
  ws : List (Option Tmp × SV)
  ls : List (Nat × TypeId × SV × SV × Nat)
  al : List (Nat × SBlk)
  cur : Hs
  hist : List Hs
noncomputable def addA (n0 : Nat) (inc exc : Nat → Bool) (S : SH) : List (Nat × SBlk) → SH
  | [] => S
  | (i, b) :: l => if inc i && !exc i then (addA n0 inc exc S l).set (n0 + i) b else addA n0 inc exc S l
noncomputable def Acc.push (A : Acc) (o : Oper) (v : SV) (N : Nat) : R Acc := (sPut o v A.T N).bind fun T => .ok { A with T, ws := A.ws ++ [(o.dst, v)] }
/-- 0 quiet, 1 load, 2 what turns the world, 3 what makes a block. -/
noncomputable def opKind : Op → Nat
  | .load .. => 1
  | .store .. => 2
  | .call c => match c.callee with | .builtin .append => 2 | .builtin .clear => 2 | .builtin .delete => 2 | .builtin _ => 0 | _ => 2
  | .makeMap .. | .lookup .. | .mapUpdate .. | .range .. | .next .. => 2
  | .alloc _ | .box .. | .buildSlice .. | .makeSlice .. => 3
  | _ => 0
/-- Slice expressions that must look at their block. -/
noncomputable def looksBack (C : Ctx) (e : Operand → R SV) (o : Op) : Bool :=
  match o with
  | .slice .. => (match evQ C e o with | .no (.msg _) => true | _ => false)
  | .convert .. => (match evQ C e o with | .no (.msg _) => true | _ => false)
  | _ => false
noncomputable def loadOf : Op → Option (TypeId × Operand)
  | .load t a => some (t, a)
  | _ => none
noncomputable def drawOp (X : Rk) (C : Ctx) (ops : Array Oper) (N n0 i : Nat) (o : Oper) (anc : Nat) (A : Acc) : R Acc :=
  (swanted ops A.T o).bind fun b => if b = false then A.push o (.tup []) N else
    match loadOf o.op with
    | some (t, a) => (evalO C A.T a).bind fun x => (evLoad C t x (addA n0 anc.testBit A.cur.ab.testBit A.cur.S A.al)).bind fun v =>
        (A.push o v N).bind fun A => .ok { A with ls := (i, t, x, v, anc) :: A.ls }
    | none =>
      if opKind o.op = 3 then (evA C (evalO C A.T) (n0 + i) o.op).bind fun (v, b) => (A.push o v N).bind fun A => .ok { A with al := (i, b) :: A.al }
      else if opKind o.op = 2 ∨ looksBack C (evalO C A.T) o.op = true then
        if A.cur.mn &&& anc = A.cur.mn then
          (evO X C (evalO C A.T) o.op (addA n0 anc.testBit A.cur.ab.testBit A.cur.S A.al) A.cur.n).bind fun (v, H, n) =>
            (A.push o v N).bind fun A =>
              let h : Hs := { S := H, n := n, ab := A.cur.ab ||| anc, mn := A.cur.mn ||| 2 ^ i }
              .ok { A with cur := h, hist := h :: A.hist }
        else .no "drawn: two that turn the world"
      else (evQ C (evalO C A.T) o.op).bind fun v => A.push o v N
noncomputable def drawOps (X : Rk) (C : Ctx) (ops : Array Oper) (N n0 : Nat) : Nat → List Oper → List Nat → Acc → R Acc
  | _, [], _, A => .ok A
  | i, o :: os, anc :: ancs, A => (drawOp X C ops N n0 i o anc A).bind fun A => drawOps X C ops N n0 (i + 1) os ancs A
  | _, _ :: _, [], _ => .no "drawn"
/-- Slice expressions that must look at their block: by numbers. -/
noncomputable def looksBack' (C : Ctx) (e : Operand → R SV) (o : Op) : Bool := sw (Nat.beq (ov o).tag 15) (looksBack C e o) (sw (Nat.beq (ov o).tag 14) (looksBack C e o) false)
theorem looksBack'_eq (C : Ctx) (e : Operand → R SV) (o : Op) : looksBack' C e o = looksBack C e o := by cases o <;> rfl
noncomputable def drawOp' (X : Rk) (C : Ctx) (ops : Array Oper) (N n0 i : Nat) (o : Oper) (anc : Nat) (A : Acc) : R Acc :=
  (swanted ops A.T o).bind fun b => if b = false then A.push o (.tup []) N else
    match loadOf o.op with
    | some (t, a) => (evalO C A.T a).bind fun x => (evLoad C t x (addA n0 anc.testBit A.cur.ab.testBit A.cur.S A.al)).bind fun v =>
        (A.push o v N).bind fun A => .ok { A with ls := (i, t, x, v, anc) :: A.ls }
    | none =>
      if opKind o.op = 3 then (evA C (evalO C A.T) (n0 + i) o.op).bind fun (v, b) => (A.push o v N).bind fun A => .ok { A with al := (i, b) :: A.al }
      else if opKind o.op = 2 ∨ looksBack' C (evalO C A.T) o.op = true then
        if A.cur.mn &&& anc = A.cur.mn then
          (evO' X C (evalO C A.T) o.op (addA n0 anc.testBit A.cur.ab.testBit A.cur.S A.al) A.cur.n).bind fun (v, H, n) =>
            (A.push o v N).bind fun A =>
              let h : Hs := { S := H, n := n, ab := A.cur.ab ||| anc, mn := A.cur.mn ||| 2 ^ i }
              .ok { A with cur := h, hist := h :: A.hist }
        else .no "drawn: two that turn the world"
      else (evQ' C (evalO C A.T) o.op).bind fun v => A.push o v N
noncomputable def drawOps' (X : Rk) (C : Ctx) (ops : Array Oper) (N n0 : Nat) : Nat → List Oper → List Nat → Acc → R Acc
  | _, [], _, A => .ok A
  | i, o :: os, anc :: ancs, A => (drawOp' X C ops N n0 i o anc A).bind fun A => drawOps' X C ops N n0 (i + 1) os ancs A
  | _, _ :: _, [], _ => .no "drawn"
theorem drawOp'_eq (X : Rk) (C : Ctx) (ops : Array Oper) (N n0 i : Nat) (o : Oper) (anc : Nat) (A : Acc) : drawOp' X C ops N n0 i o anc A = drawOp X C ops N n0 i o anc A := by
  unfold drawOp' drawOp
  simp only [evO'_eq, evQ'_eq, looksBack'_eq]
theorem drawOps'_eq (X : Rk) (C : Ctx) (ops : Array Oper) (N n0 : Nat) : ∀ (os : List Oper) (i : Nat) (l : List Nat) (A : Acc), drawOps' X C ops N n0 i os l A = drawOps X C ops N n0 i os l A
  | [], i, l, A => by cases l <;> rfl
  | o :: os, i, [], A => rfl
  | o :: os, i, anc :: ancs, A => by
    simp only [drawOps', drawOps, drawOp'_eq]
    congr 1
    funext A
    exact drawOps'_eq X C ops N n0 os (i + 1) ancs A
/-- Which operations come ahead of each. -/
noncomputable def ancOne (acc : List Nat) : List Edge → Nat
  | [] => 0
  | e :: es => if Region.binds .any e then 2 ^ e.on ||| ((acc[e.on]?).getD 0 ||| ancOne acc es) else ancOne acc es
noncomputable def ancs : List Oper → List Nat → List Nat
  | [], acc => acc
  | o :: os, acc => ancs os (acc ++ [ancOne acc o.after.toList])
noncomputable def tmpsOf (l : List Operand) : List Tmp := l.filterMap fun | .tmp t => some t | _ => none
/-- The temporaries that an operation looks at. -/
noncomputable def reads (ops : Array Oper) (o : Oper) : List Tmp :=
  tmpsOf o.op.operands.toList ++ (match o.guard with | some (j, _) => ((ops[j]?).bind (·.dst)).toList | none => [])
/-- What an operation writes, and what it looks at. -/
noncomputable def namesL (ops : Array Oper) : List Oper → List (Option Tmp × List Tmp) := List.map fun o => (o.dst, reads ops o)
noncomputable def clash (a b : Option Tmp × List Tmp) : Bool :=
  (match a.1 with | some d => b.2.contains d || b.1 == some d | none => false) || (match b.1 with | some d => a.2.contains d | none => false)
/-- Names that two operations share are used in order. -/
noncomputable def namesOk : List (Option Tmp × List Tmp) → Nat → List (Option Tmp × List Tmp) → List Nat → Bool
  | _, _, [], _ => true
  | old, i, x :: xs, anc :: as => (old.zipIdx.all fun (y, k) => !clash y x || anc.testBit k) && (decide (anc < 2 ^ i) && namesOk (old ++ [x]) (i + 1) xs as)
  | _, _, _ :: _, [] => false
/-- May a load come in that world? -/
noncomputable def inWin (al : List Nat) (i anc MM : Nat) (h : Hs) : Bool :=
  ((anc &&& MM) &&& h.mn == (anc &&& MM)) && (al.zipIdx.all fun (ae, e) => !(h.mn.testBit e && ae.testBit i))
noncomputable def loadsOk (C : Ctx) (n0 : Nat) (as : List Nat) (A : Acc) : Bool :=
  A.ls.all fun (i, t, x, v, anc) => A.hist.all fun h => !inWin as i anc A.cur.mn h ||
    (match evLoad C t x (addA n0 anc.testBit h.ab.testBit h.S A.al) with | .ok u => SV.beq u v | .no _ => false)
noncomputable def freeOk (n0 : Nat) (A : Acc) : Bool := A.hist.all fun h => A.al.all fun (i, _) => h.ab.testBit i || (h.S.get (n0 + i)).isNone
noncomputable def evDraw (X : Rk) (C : Ctx) (ops : Array Oper) : CSt → R CSt
  | ⟨T0, N0, H0, n00, ds0⟩ =>
  let as := ancs ops.toList []
  if C.P.follows .mixedOrders then
    if namesOk [] 0 (namesL ops ops.toList) as then
      let h0 : Hs := { S := H0, n := n00 + ops.size, ab := 0, mn := 0 }
      (drawOps' X C ops N0 n00 0 ops.toList as { T := T0, ws := [], ls := [], al := [], cur := h0, hist := [h0] }).bind fun A =>
        if loadsOk C n00 as A then if freeOk n00 A then .ok ⟨A.T, N0, addA n00 (fun _ => true) A.cur.ab.testBit A.cur.S A.al, A.cur.n, ds0⟩ else .no "drawn: names" else .no "drawn: a load that is not apart"
    else .no "drawn: temporaries"
  else .no "drawn: orders"

/-! ### What operations look at -/
noncomputable def evalV (C : Ctx) (f : Nat → SV) : Operand → R SV
  | .tmp t => .ok (f t)
  | .const v => ofValue v
  | .global g => if g < C.G then .ok (.ptr g 0) else .no "global"
  | .func f => .ok (.func f [] [])
theorem evalO_eq (C : Ctx) (T : TM) : evalO C T = evalV C T.val := by
  funext x
  cases x <;> rfl
theorem mapR_congr {α β : Type} {f g : α → R β} : ∀ {l : List α}, (∀ x ∈ l, f x = g x) → mapR f l = mapR g l
  | [], _ => rfl
  | x :: l, h => by
    simp only [mapR]
    rw [h x (by simp), mapR_congr (fun y hy => h y (by simp [hy]))]
theorem mapP_congr {e e' : Operand → R SV} {l : List (Nat × Operand)} (h : ∀ p ∈ l, e p.2 = e' p.2) : mapR (fun p => (e p.2).bind fun v => .ok (p.1, v)) l = mapR (fun p => (e' p.2).bind fun v => R.ok (p.1, v)) l :=
  mapR_congr (fun p hp => by rw [h p hp])
theorem mem_toArray {α : Type} {l : List α} {x : α} (h : x ∈ l) : x ∈ l.toArray := by simpa using h
theorem evQ_congr {C : Ctx} {e e' : Operand → R SV} {o : Op} (h : ∀ x ∈ o.operands, e x = e' x) : evQ C e o = evQ C e' o := by
  cases o <;> simp only [evQ]
  case move x => exact h x (by simp [Op.operands])
  case assign x => exact h x (by simp [Op.operands])
  case pick c a b => rw [h c (by simp [Op.operands]), h a (by simp [Op.operands]), h b (by simp [Op.operands])]
  case nilCheck x => rw [h x (by simp [Op.operands])]
  case unOp x => rw [h x (by simp [Op.operands])]
  case binOp x y _ => rw [h x (by simp [Op.operands]), h y (by simp [Op.operands])]
  case convert x => rw [h x (by simp [Op.operands])]
  case makeInterface x => rw [h x (by simp [Op.operands])]
  case makeFunc fn first cap =>
    rw [mapR_congr (fun x hx => h x (by simp only [Op.operands, Array.mem_append]; exact .inl (by simpa using hx))), mapR_congr (fun x hx => h x (by simp only [Op.operands, Array.mem_append]; exact .inr (by simpa using hx)))]
  case slice t x lo hi mx =>
    have hx := h x (by simp [Op.operands])
    have hlo : ∀ d y, sBound C e lo d y = sBound C e' lo d y := by
      intro d y
      cases lo with
      | none => rfl
      | some z => simp only [sBound]; rw [h z (by simp [Op.operands])]
    have hhi : ∀ d y, sBound C e hi d y = sBound C e' hi d y := by
      intro d y
      cases hi with
      | none => rfl
      | some z => simp only [sBound]; rw [h z (by simp [Op.operands])]
    have : sSlice C e t x lo hi = sSlice C e' t x lo hi := by
      unfold sSlice
      simp only [hx, hlo, hhi]
    rw [this]
    cases mx with
    | none => rfl
    | some m =>
      cases hi with
      | none => rfl
      | some g =>
        have hm : ∀ d y, sBound C e (some m) d y = sBound C e' (some m) d y := by
          intro d y
          simp only [sBound]; rw [h m (by simp [Op.operands])]
        simp only [sSlice3, hx, hlo, hhi, hm]
  case fieldAddr x _ => rw [h x (by simp [Op.operands])]
  case field x _ => rw [h x (by simp [Op.operands])]
  case indexAddr x i => rw [h x (by simp [Op.operands]), h i (by simp [Op.operands])]
  case index x i => rw [h x (by simp [Op.operands]), h i (by simp [Op.operands])]
  case extract x _ => rw [h x (by simp [Op.operands])]
  case build t parts =>
    rw [mapP_congr (e := e) (e' := e') (fun p hp => h p.2 (by simp [Op.operands]; exact ⟨p.1, by simpa using hp⟩))]
  case call c =>
    rw [mapR_congr (fun x hx => h x (by simp only [Op.operands, Call.operands, Array.mem_append]; exact .inr (by simpa using hx)))]
theorem evA_congr {C : Ctx} {e e' : Operand → R SV} {s : Nat} {o : Op} (h : ∀ x ∈ o.operands, e x = e' x) : evA C e s o = evA C e' s o := by
  cases o <;> simp only [evA]
  case box t x => rw [h x (by simp [Op.operands])]
  case buildSlice t len parts =>
    rw [mapP_congr (e := e) (e' := e') (fun p hp => h p.2 (by simp [Op.operands]; exact ⟨p.1, by simpa using hp⟩))]
  case makeSlice t a b => rw [h a (by simp [Op.operands]), h b (by simp [Op.operands])]
theorem evSliceH_congr {C : Ctx} {e e' : Operand → R SV} {o : Op} {H : SH} {y : Why} (h : ∀ x ∈ o.operands, e x = e' x) : evSliceH C e o H y = evSliceH C e' o H y := by
  unfold evSliceH
  split
  · rename_i t x lo hi
    have hx := h x (by simp [Op.operands])
    have hlo : ∀ d y, sBound C e lo d y = sBound C e' lo d y := by
      intro d y
      cases lo with
      | none => rfl
      | some z => simp only [sBound]; rw [h z (by simp [Op.operands])]
    have hhi : ∀ d y, sBound C e hi d y = sBound C e' hi d y := by
      intro d y
      cases hi with
      | none => rfl
      | some z => simp only [sBound]; rw [h z (by simp [Op.operands])]
    simp only [hx, hlo, hhi]
  · rename_i x
    rw [h x (by simp [Op.operands])]
  · rfl
theorem evO_congr {X : Rk} {C : Ctx} {e e' : Operand → R SV} {o : Op} {H : SH} {n : Nat} (h : ∀ x ∈ o.operands, e x = e' x) : evO X C e o H n = evO X C e' o H n := by
  unfold evO
  split
  case h_1 t x y => rw [h x (by simp [Op.operands]), h y (by simp [Op.operands])]
  case h_2 t x => rw [h x (by simp [Op.operands])]
  case h_3 | h_4 | h_5 | h_6 => rw [evA_congr h]
  case h_7 c =>
    unfold evCall
    have hargs := mapR_congr (l := c.args.toList) (f := e) (g := e') (fun x hx => h x (by simp only [Op.operands, Call.operands, Array.mem_append]; exact .inr (by simpa using hx)))
    split
    · rw [hargs]
    · rw [hargs]
    · rw [hargs]
    · rw [hargs]
    · rename_i f hf
      rw [hargs, h f (by simp [Op.operands, Call.operands, hf])]
    · rename_i f name hf
      rw [hargs, h f (by simp [Op.operands, Call.operands, hf])]
  case h_8 | h_9 | h_10 | h_11 | h_12 => rw [evM_congr h]
  case h_13 =>
    rw [evQ_congr h]
    simp only [fun y => evSliceH_congr (C := C) (H := H) (y := y) h]
end Go.Proofs.YtfiangiajhdhcaaDoor

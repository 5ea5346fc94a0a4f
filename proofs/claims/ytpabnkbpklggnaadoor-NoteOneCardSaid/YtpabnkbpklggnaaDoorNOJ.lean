/- The reckoner. -/
import Derived.Test.YtpabnkbpklggnaaDoorNOP0
import Derived.Test.YtpabnkbpklggnaaDoorNOP1
import Derived.Test.YtpabnkbpklggnaaDoorNOP2
import Derived.Test.YtpabnkbpklggnaaDoorNOP3
namespace Go.Proofs.YtpabnkbpklggnaaDoor
open Go.RowKit
set_option linter.unusedVariables false
set_option maxRecDepth 100000

noncomputable def asNO0_1 : Asm := rangeAsm 16
noncomputable def asNO0_2 : Asm := asNO0_1.add .lss (.at 0) (.lit 1) true
noncomputable def trNO0_2 : Tree := .leaf
theorem hNO0_2 : Tree.check (runNO0) trNO0_2 asNO0_2 = true := NO0_0
noncomputable def asNO0_3 : Asm := asNO0_1.add .lss (.at 0) (.lit 1) false
noncomputable def asNO0_4 : Asm := asNO0_3.add .gtr (.at 0) (.lit 4) true
noncomputable def trNO0_4 : Tree := .leaf
theorem hNO0_4 : Tree.check (runNO0) trNO0_4 asNO0_4 = true := NO0_1
noncomputable def asNO0_5 : Asm := asNO0_3.add .gtr (.at 0) (.lit 4) false
noncomputable def asNO0_6 : Asm := asNO0_5.add .lss (.at 1) (.lit 1) true
noncomputable def trNO0_6 : Tree := .leaf
theorem hNO0_6 : Tree.check (runNO0) trNO0_6 asNO0_6 = true := NO0_2
noncomputable def asNO0_7 : Asm := asNO0_5.add .lss (.at 1) (.lit 1) false
noncomputable def asNO0_8 : Asm := asNO0_7.add .gtr (.at 1) (.lit 16) true
noncomputable def trNO0_8 : Tree := .leaf
theorem hNO0_8 : Tree.check (runNO0) trNO0_8 asNO0_8 = true := NO0_3
noncomputable def asNO0_9 : Asm := asNO0_7.add .gtr (.at 1) (.lit 16) false
noncomputable def asNO0_10 : Asm := asNO0_9.add .lss (.at 2) (.lit 1) true
noncomputable def trNO0_10 : Tree := .leaf
theorem hNO0_10 : Tree.check (runNO0) trNO0_10 asNO0_10 = true := NO0_4
noncomputable def asNO0_11 : Asm := asNO0_9.add .lss (.at 2) (.lit 1) false
noncomputable def asNO0_12 : Asm := asNO0_11.add .gtr (.at 2) (.lit 8) true
noncomputable def trNO0_12 : Tree := .leaf
theorem hNO0_12 : Tree.check (runNO0) trNO0_12 asNO0_12 = true := NO0_5
noncomputable def asNO0_13 : Asm := asNO0_11.add .gtr (.at 2) (.lit 8) false
noncomputable def asNO0_14 : Asm := asNO0_13.add .lss (.at 3) (.lit 1) true
noncomputable def trNO0_14 : Tree := .leaf
theorem hNO0_14 : Tree.check (runNO0) trNO0_14 asNO0_14 = true := NO0_6
noncomputable def asNO0_15 : Asm := asNO0_13.add .lss (.at 3) (.lit 1) false
noncomputable def asNO0_16 : Asm := asNO0_15.add .gtr (.at 3) (.lit 4) true
noncomputable def trNO0_16 : Tree := .leaf
theorem hNO0_16 : Tree.check (runNO0) trNO0_16 asNO0_16 = true := NO0_7
noncomputable def asNO0_17 : Asm := asNO0_15.add .gtr (.at 3) (.lit 4) false
noncomputable def asNO0_18 : Asm := asNO0_17.add .lss (.at 4) (.lit 1) true
noncomputable def trNO0_18 : Tree := .leaf
theorem hNO0_18 : Tree.check (runNO0) trNO0_18 asNO0_18 = true := NO0_8
noncomputable def asNO0_19 : Asm := asNO0_17.add .lss (.at 4) (.lit 1) false
noncomputable def asNO0_20 : Asm := asNO0_19.add .gtr (.at 4) (.lit 16) true
noncomputable def trNO0_20 : Tree := .leaf
theorem hNO0_20 : Tree.check (runNO0) trNO0_20 asNO0_20 = true := NO0_9
noncomputable def asNO0_21 : Asm := asNO0_19.add .gtr (.at 4) (.lit 16) false
noncomputable def asNO0_22 : Asm := asNO0_21.add .lss (.at 5) (.lit 1) true
noncomputable def trNO0_22 : Tree := .leaf
theorem hNO0_22 : Tree.check (runNO0) trNO0_22 asNO0_22 = true := NO0_10
noncomputable def asNO0_23 : Asm := asNO0_21.add .lss (.at 5) (.lit 1) false
noncomputable def asNO0_24 : Asm := asNO0_23.add .gtr (.at 5) (.lit 8) true
noncomputable def trNO0_24 : Tree := .leaf
theorem hNO0_24 : Tree.check (runNO0) trNO0_24 asNO0_24 = true := NO0_11
noncomputable def asNO0_25 : Asm := asNO0_23.add .gtr (.at 5) (.lit 8) false
noncomputable def asNO0_26 : Asm := asNO0_25.add .lss (.at 6) (.lit 1) true
noncomputable def trNO0_26 : Tree := .leaf
theorem hNO0_26 : Tree.check (runNO0) trNO0_26 asNO0_26 = true := NO0_12
noncomputable def asNO0_27 : Asm := asNO0_25.add .lss (.at 6) (.lit 1) false
noncomputable def asNO0_28 : Asm := asNO0_27.add .gtr (.at 6) (.lit 4) true
noncomputable def trNO0_28 : Tree := .leaf
theorem hNO0_28 : Tree.check (runNO0) trNO0_28 asNO0_28 = true := NO0_13
noncomputable def asNO0_29 : Asm := asNO0_27.add .gtr (.at 6) (.lit 4) false
noncomputable def asNO0_30 : Asm := asNO0_29.add .lss (.at 15) (.lit 1) true
noncomputable def trNO0_30 : Tree := .leaf
theorem hNO0_30 : Tree.check (runNO0) trNO0_30 asNO0_30 = true := NO0_14
noncomputable def asNO0_31 : Asm := asNO0_29.add .lss (.at 15) (.lit 1) false
noncomputable def asNO0_32 : Asm := asNO0_31.add .geq (.at 7) (.lit 1) true
noncomputable def asNO0_33 : Asm := asNO0_32.add .leq (.at 7) (.lit 13) true
noncomputable def asNO0_34 : Asm := asNO0_33.add .eql (.at 7) (.lit 1) true
noncomputable def asNO0_35 : Asm := asNO0_34.add .geq (.at 8) (.lit 0) true
noncomputable def trNO0_35 : Tree := (.node .leq (.at 8) (.bin .sub .i64 (.at 0) (.lit 1)) (.node .geq (.at 9) (.lit 0) (.node .leq (.at 9) (.bin .sub .i64 (.bin .mul .i64 (.at 1) (.lit 2)) (.lit 1)) (.node .geq (.at 10) (.lit 0) (.node .leq (.at 10) (.lit 3) (.node .eql (.at 11) (.lit 0) (.node .eql (.at 12) (.lit 0) (.node .eql (.at 13) (.lit 0) (.node .eql (.at 14) (.lit 0) .leaf .leaf) .leaf) .leaf) .leaf) .leaf) .leaf) .leaf) .leaf) .leaf)
theorem hNO0_35 : Tree.check (runNO0) trNO0_35 asNO0_35 = true := NO0_15
noncomputable def asNO0_36 : Asm := asNO0_34.add .geq (.at 8) (.lit 0) false
noncomputable def trNO0_36 : Tree := .leaf
theorem hNO0_36 : Tree.check (runNO0) trNO0_36 asNO0_36 = true := NO0_16
noncomputable def trNO0_34 : Tree := .node .geq (.at 8) (.lit 0) trNO0_35 trNO0_36
theorem hNO0_34 : Tree.check (runNO0) trNO0_34 asNO0_34 = true := by
  show (Tree.check (runNO0) trNO0_35 asNO0_35 && Tree.check (runNO0) trNO0_36 asNO0_36) = true
  rw [hNO0_35, hNO0_36]; rfl
noncomputable def asNO0_37 : Asm := asNO0_33.add .eql (.at 7) (.lit 1) false
noncomputable def asNO0_38 : Asm := asNO0_37.add .eql (.at 7) (.lit 2) true
noncomputable def asNO0_39 : Asm := asNO0_38.add .geq (.at 8) (.lit 0) true
noncomputable def trNO0_39 : Tree := (.node .leq (.at 8) (.bin .sub .i64 (.at 0) (.lit 1)) (.node .geq (.at 9) (.lit 0) (.node .leq (.at 9) (.bin .sub .i64 (.bin .mul .i64 (.at 1) (.lit 2)) (.lit 1)) (.node .geq (.at 10) (.lit 0) (.node .leq (.at 10) (.lit 3) (.node .eql (.at 11) (.lit 0) (.node .eql (.at 12) (.lit 0) (.node .eql (.at 13) (.lit 0) (.node .eql (.at 14) (.lit 0) .leaf .leaf) .leaf) .leaf) .leaf) .leaf) .leaf) .leaf) .leaf) .leaf)
theorem hNO0_39 : Tree.check (runNO0) trNO0_39 asNO0_39 = true := NO0_18
noncomputable def asNO0_40 : Asm := asNO0_38.add .geq (.at 8) (.lit 0) false
noncomputable def trNO0_40 : Tree := .leaf
theorem hNO0_40 : Tree.check (runNO0) trNO0_40 asNO0_40 = true := NO0_19
noncomputable def trNO0_38 : Tree := .node .geq (.at 8) (.lit 0) trNO0_39 trNO0_40
theorem hNO0_38 : Tree.check (runNO0) trNO0_38 asNO0_38 = true := by
  show (Tree.check (runNO0) trNO0_39 asNO0_39 && Tree.check (runNO0) trNO0_40 asNO0_40) = true
  rw [hNO0_39, hNO0_40]; rfl
noncomputable def asNO0_41 : Asm := asNO0_37.add .eql (.at 7) (.lit 2) false
noncomputable def asNO0_42 : Asm := asNO0_41.add .eql (.at 7) (.lit 3) true
noncomputable def trNO0_42 : Tree := (.node .geq (.at 8) (.lit 0) (.node .leq (.at 8) (.bin .sub .i64 (.at 0) (.lit 1)) (.node .geq (.at 9) (.lit 0) (.node .leq (.at 9) (.bin .sub .i64 (.bin .mul .i64 (.at 1) (.lit 2)) (.lit 1)) (.node .geq (.at 10) (.lit 0) (.node .leq (.at 10) (.lit 4) (.node .eql (.at 11) (.lit 0) (.node .eql (.at 14) (.lit 0) .leaf .leaf) .leaf) .leaf) .leaf) .leaf) .leaf) .leaf) .leaf)
theorem hNO0_42 : Tree.check (runNO0) trNO0_42 asNO0_42 = true := NO0_21
noncomputable def asNO0_43 : Asm := asNO0_41.add .eql (.at 7) (.lit 3) false
noncomputable def asNO0_44 : Asm := asNO0_43.add .eql (.at 7) (.lit 4) true
noncomputable def trNO0_44 : Tree := (.node .geq (.at 8) (.lit 0) (.node .leq (.at 8) (.bin .sub .i64 (.at 0) (.lit 1)) (.node .geq (.at 9) (.lit 0) (.node .leq (.at 9) (.bin .sub .i64 (.bin .mul .i64 (.at 1) (.lit 2)) (.lit 1)) (.node .eql (.at 10) (.lit 0) (.node .eql (.at 11) (.lit 0) (.node .eql (.at 12) (.lit 0) (.node .eql (.at 13) (.lit 0) (.node .eql (.at 14) (.lit 0) .leaf .leaf) .leaf) .leaf) .leaf) .leaf) .leaf) .leaf) .leaf) .leaf)
theorem hNO0_44 : Tree.check (runNO0) trNO0_44 asNO0_44 = true := NO0_22
noncomputable def asNO0_45 : Asm := asNO0_43.add .eql (.at 7) (.lit 4) false
noncomputable def asNO0_46 : Asm := asNO0_45.add .eql (.at 7) (.lit 5) true
noncomputable def trNO0_46 : Tree := (.node .geq (.at 8) (.lit 0) (.node .leq (.at 8) (.bin .sub .i64 (.at 0) (.lit 1)) (.node .geq (.at 9) (.lit 0) (.node .leq (.at 9) (.bin .sub .i64 (.bin .mul .i64 (.at 1) (.lit 2)) (.lit 1)) (.node .geq (.at 11) (.lit 0) (.node .leq (.at 11) (.lit 4) (.node .geq (.at 14) (.lit 0) (.node .leq (.at 14) (.lit 1) (.node .eql (.at 10) (.lit 0) .leaf .leaf) .leaf) .leaf) .leaf) .leaf) .leaf) .leaf) .leaf) .leaf)
theorem hNO0_46 : Tree.check (runNO0) trNO0_46 asNO0_46 = true := NO0_23
noncomputable def asNO0_47 : Asm := asNO0_45.add .eql (.at 7) (.lit 5) false
noncomputable def asNO0_48 : Asm := asNO0_47.add .eql (.at 7) (.lit 6) true
noncomputable def trNO0_48 : Tree := (.node .geq (.at 8) (.lit 0) (.node .leq (.at 8) (.bin .sub .i64 (.at 0) (.lit 1)) (.node .geq (.at 14) (.lit 0) (.node .leq (.at 14) (.lit 19) (.node .eql (.at 9) (.lit 0) (.node .eql (.at 10) (.lit 0) (.node .eql (.at 11) (.lit 0) (.node .eql (.at 12) (.lit 0) (.node .eql (.at 13) (.lit 0) .leaf .leaf) .leaf) .leaf) .leaf) .leaf) .leaf) .leaf) .leaf) .leaf)
theorem hNO0_48 : Tree.check (runNO0) trNO0_48 asNO0_48 = true := NO0_24
noncomputable def asNO0_49 : Asm := asNO0_47.add .eql (.at 7) (.lit 6) false
noncomputable def asNO0_50 : Asm := asNO0_49.add .eql (.at 7) (.lit 7) true
noncomputable def trNO0_50 : Tree := (.node .geq (.at 8) (.lit 0) (.node .leq (.at 8) (.bin .sub .i64 (.at 0) (.lit 1)) (.node .geq (.at 14) (.lit 0) (.node .leq (.at 14) (.bin .sub .i64 (.at 1) (.lit 1)) (.node .eql (.at 9) (.lit 0) (.node .eql (.at 10) (.lit 0) (.node .eql (.at 11) (.lit 0) (.node .eql (.at 12) (.lit 0) (.node .eql (.at 13) (.lit 0) .leaf .leaf) .leaf) .leaf) .leaf) .leaf) .leaf) .leaf) .leaf) .leaf)
theorem hNO0_50 : Tree.check (runNO0) trNO0_50 asNO0_50 = true := NO0_25
noncomputable def asNO0_51 : Asm := asNO0_49.add .eql (.at 7) (.lit 7) false
noncomputable def asNO0_52 : Asm := asNO0_51.add .eql (.at 7) (.lit 8) true
noncomputable def asNO0_53 : Asm := asNO0_52.add .geq (.at 8) (.lit 0) true
noncomputable def asNO0_54 : Asm := asNO0_53.add .leq (.at 8) (.bin .sub .i64 (.at 0) (.lit 1)) true
noncomputable def asNO0_55 : Asm := asNO0_54.add .geq (.at 9) (.lit 0) true
noncomputable def trNO0_55 : Tree := (.node .leq (.at 9) (.bin .sub .i64 (.bin .mul .i64 (.at 1) (.lit 2)) (.lit 1)) (.node .geq (.at 10) (.lit 0) (.node .leq (.at 10) (.lit 4) (.node .eql (.at 11) (.lit 1) (.node .eql (.at 14) (.lit 0) .leaf .leaf) (.node .eql (.at 11) (.lit 2) (.node .eql (.at 14) (.lit 0) .leaf .leaf) (.node .eql (.at 11) (.lit 4) (.node .eql (.at 14) (.lit 0) .leaf .leaf) .leaf))) .leaf) .leaf) .leaf)
theorem hNO0_55 : Tree.check (runNO0) trNO0_55 asNO0_55 = true := NO0_26
noncomputable def asNO0_56 : Asm := asNO0_54.add .geq (.at 9) (.lit 0) false
noncomputable def trNO0_56 : Tree := .leaf
theorem hNO0_56 : Tree.check (runNO0) trNO0_56 asNO0_56 = true := NO0_27
noncomputable def trNO0_54 : Tree := .node .geq (.at 9) (.lit 0) trNO0_55 trNO0_56
theorem hNO0_54 : Tree.check (runNO0) trNO0_54 asNO0_54 = true := by
  show (Tree.check (runNO0) trNO0_55 asNO0_55 && Tree.check (runNO0) trNO0_56 asNO0_56) = true
  rw [hNO0_55, hNO0_56]; rfl
noncomputable def asNO0_57 : Asm := asNO0_53.add .leq (.at 8) (.bin .sub .i64 (.at 0) (.lit 1)) false
noncomputable def trNO0_57 : Tree := .leaf
theorem hNO0_57 : Tree.check (runNO0) trNO0_57 asNO0_57 = true := NO0_29
noncomputable def trNO0_53 : Tree := .node .leq (.at 8) (.bin .sub .i64 (.at 0) (.lit 1)) trNO0_54 trNO0_57
theorem hNO0_53 : Tree.check (runNO0) trNO0_53 asNO0_53 = true := by
  show (Tree.check (runNO0) trNO0_54 asNO0_54 && Tree.check (runNO0) trNO0_57 asNO0_57) = true
  rw [hNO0_54, hNO0_57]; rfl
noncomputable def asNO0_58 : Asm := asNO0_52.add .geq (.at 8) (.lit 0) false
noncomputable def trNO0_58 : Tree := .leaf
theorem hNO0_58 : Tree.check (runNO0) trNO0_58 asNO0_58 = true := NO0_31
noncomputable def trNO0_52 : Tree := .node .geq (.at 8) (.lit 0) trNO0_53 trNO0_58
theorem hNO0_52 : Tree.check (runNO0) trNO0_52 asNO0_52 = true := by
  show (Tree.check (runNO0) trNO0_53 asNO0_53 && Tree.check (runNO0) trNO0_58 asNO0_58) = true
  rw [hNO0_53, hNO0_58]; rfl
noncomputable def asNO0_59 : Asm := asNO0_51.add .eql (.at 7) (.lit 8) false
noncomputable def asNO0_60 : Asm := asNO0_59.add .eql (.at 7) (.lit 9) true
noncomputable def asNO0_61 : Asm := asNO0_60.add .geq (.at 8) (.lit 0) true
noncomputable def trNO0_61 : Tree := (.node .leq (.at 8) (.bin .sub .i64 (.at 0) (.lit 1)) (.node .geq (.at 9) (.lit 0) (.node .leq (.at 9) (.bin .sub .i64 (.bin .mul .i64 (.at 1) (.lit 2)) (.lit 1)) (.node .geq (.at 14) (.lit 0) (.node .leq (.at 14) (.lit 1) (.node .eql (.at 10) (.lit 0) (.node .eql (.at 11) (.lit 0) (.node .eql (.at 12) (.lit 0) (.node .eql (.at 13) (.lit 0) .leaf .leaf) .leaf) .leaf) .leaf) .leaf) .leaf) .leaf) .leaf) .leaf)
theorem hNO0_61 : Tree.check (runNO0) trNO0_61 asNO0_61 = true := NO0_33
noncomputable def asNO0_62 : Asm := asNO0_60.add .geq (.at 8) (.lit 0) false
noncomputable def trNO0_62 : Tree := .leaf
theorem hNO0_62 : Tree.check (runNO0) trNO0_62 asNO0_62 = true := NO0_34
noncomputable def trNO0_60 : Tree := .node .geq (.at 8) (.lit 0) trNO0_61 trNO0_62
theorem hNO0_60 : Tree.check (runNO0) trNO0_60 asNO0_60 = true := by
  show (Tree.check (runNO0) trNO0_61 asNO0_61 && Tree.check (runNO0) trNO0_62 asNO0_62) = true
  rw [hNO0_61, hNO0_62]; rfl
noncomputable def asNO0_63 : Asm := asNO0_59.add .eql (.at 7) (.lit 9) false
noncomputable def asNO0_64 : Asm := asNO0_63.add .eql (.at 7) (.lit 10) true
noncomputable def trNO0_64 : Tree := (.node .geq (.at 8) (.lit 0) (.node .leq (.at 8) (.bin .sub .i64 (.at 0) (.lit 1)) (.node .geq (.at 9) (.lit 0) (.node .leq (.at 9) (.bin .sub .i64 (.bin .mul .i64 (.at 1) (.lit 2)) (.lit 1)) (.node .eql (.at 10) (.lit 0) (.node .eql (.at 11) (.lit 0) (.node .eql (.at 12) (.lit 0) (.node .eql (.at 13) (.lit 0) (.node .eql (.at 14) (.lit 0) .leaf .leaf) .leaf) .leaf) .leaf) .leaf) .leaf) .leaf) .leaf) .leaf)
theorem hNO0_64 : Tree.check (runNO0) trNO0_64 asNO0_64 = true := NO0_36
noncomputable def asNO0_65 : Asm := asNO0_63.add .eql (.at 7) (.lit 10) false
noncomputable def asNO0_66 : Asm := asNO0_65.add .eql (.at 7) (.lit 11) true
noncomputable def asNO0_67 : Asm := asNO0_66.add .geq (.at 8) (.lit 0) true
noncomputable def trNO0_67 : Tree := (.node .leq (.at 8) (.bin .sub .i64 (.at 0) (.lit 1)) (.node .geq (.at 9) (.lit 0) (.node .leq (.at 9) (.bin .sub .i64 (.bin .mul .i64 (.at 1) (.lit 2)) (.lit 1)) (.node .geq (.at 11) (.lit 0) (.node .leq (.at 11) (.lit 1) (.node .eql (.at 10) (.lit 0) (.node .eql (.at 12) (.lit 0) (.node .eql (.at 13) (.lit 0) (.node .eql (.at 14) (.lit 0) .leaf .leaf) .leaf) .leaf) .leaf) .leaf) .leaf) .leaf) .leaf) .leaf)
theorem hNO0_67 : Tree.check (runNO0) trNO0_67 asNO0_67 = true := NO0_37
noncomputable def asNO0_68 : Asm := asNO0_66.add .geq (.at 8) (.lit 0) false
noncomputable def trNO0_68 : Tree := .leaf
theorem hNO0_68 : Tree.check (runNO0) trNO0_68 asNO0_68 = true := NO0_38
noncomputable def trNO0_66 : Tree := .node .geq (.at 8) (.lit 0) trNO0_67 trNO0_68
theorem hNO0_66 : Tree.check (runNO0) trNO0_66 asNO0_66 = true := by
  show (Tree.check (runNO0) trNO0_67 asNO0_67 && Tree.check (runNO0) trNO0_68 asNO0_68) = true
  rw [hNO0_67, hNO0_68]; rfl
noncomputable def asNO0_69 : Asm := asNO0_65.add .eql (.at 7) (.lit 11) false
noncomputable def asNO0_70 : Asm := asNO0_69.add .eql (.at 7) (.lit 12) true
noncomputable def trNO0_70 : Tree := (.node .geq (.at 8) (.lit 0) (.node .leq (.at 8) (.bin .sub .i64 (.at 0) (.lit 1)) (.node .geq (.at 14) (.lit 0) (.node .leq (.at 14) (.lit 19) (.node .eql (.at 9) (.lit 0) (.node .eql (.at 10) (.lit 0) (.node .eql (.at 11) (.lit 0) .leaf .leaf) .leaf) .leaf) .leaf) .leaf) .leaf) .leaf)
theorem hNO0_70 : Tree.check (runNO0) trNO0_70 asNO0_70 = true := NO0_40
noncomputable def asNO0_71 : Asm := asNO0_69.add .eql (.at 7) (.lit 12) false
noncomputable def trNO0_71 : Tree := (.node .geq (.at 8) (.lit 0) (.node .leq (.at 8) (.bin .sub .i64 (.at 0) (.lit 1)) (.node .geq (.at 14) (.lit 0) (.node .leq (.at 14) (.bin .sub .i64 (.at 1) (.lit 1)) (.node .eql (.at 9) (.lit 0) (.node .eql (.at 10) (.lit 0) (.node .eql (.at 11) (.lit 0) (.node .eql (.at 12) (.lit 0) (.node .eql (.at 13) (.lit 0) .leaf .leaf) .leaf) .leaf) .leaf) .leaf) .leaf) .leaf) .leaf) .leaf)
theorem hNO0_71 : Tree.check (runNO0) trNO0_71 asNO0_71 = true := NO0_41
noncomputable def trNO0_69 : Tree := .node .eql (.at 7) (.lit 12) trNO0_70 trNO0_71
theorem hNO0_69 : Tree.check (runNO0) trNO0_69 asNO0_69 = true := by
  show (Tree.check (runNO0) trNO0_70 asNO0_70 && Tree.check (runNO0) trNO0_71 asNO0_71) = true
  rw [hNO0_70, hNO0_71]; rfl
noncomputable def trNO0_65 : Tree := .node .eql (.at 7) (.lit 11) trNO0_66 trNO0_69
theorem hNO0_65 : Tree.check (runNO0) trNO0_65 asNO0_65 = true := by
  show (Tree.check (runNO0) trNO0_66 asNO0_66 && Tree.check (runNO0) trNO0_69 asNO0_69) = true
  rw [hNO0_66, hNO0_69]; rfl
noncomputable def trNO0_63 : Tree := .node .eql (.at 7) (.lit 10) trNO0_64 trNO0_65
theorem hNO0_63 : Tree.check (runNO0) trNO0_63 asNO0_63 = true := by
  show (Tree.check (runNO0) trNO0_64 asNO0_64 && Tree.check (runNO0) trNO0_65 asNO0_65) = true
  rw [hNO0_64, hNO0_65]; rfl
noncomputable def trNO0_59 : Tree := .node .eql (.at 7) (.lit 9) trNO0_60 trNO0_63
theorem hNO0_59 : Tree.check (runNO0) trNO0_59 asNO0_59 = true := by
  show (Tree.check (runNO0) trNO0_60 asNO0_60 && Tree.check (runNO0) trNO0_63 asNO0_63) = true
  rw [hNO0_60, hNO0_63]; rfl
noncomputable def trNO0_51 : Tree := .node .eql (.at 7) (.lit 8) trNO0_52 trNO0_59
theorem hNO0_51 : Tree.check (runNO0) trNO0_51 asNO0_51 = true := by
  show (Tree.check (runNO0) trNO0_52 asNO0_52 && Tree.check (runNO0) trNO0_59 asNO0_59) = true
  rw [hNO0_52, hNO0_59]; rfl
noncomputable def trNO0_49 : Tree := .node .eql (.at 7) (.lit 7) trNO0_50 trNO0_51
theorem hNO0_49 : Tree.check (runNO0) trNO0_49 asNO0_49 = true := by
  show (Tree.check (runNO0) trNO0_50 asNO0_50 && Tree.check (runNO0) trNO0_51 asNO0_51) = true
  rw [hNO0_50, hNO0_51]; rfl
noncomputable def trNO0_47 : Tree := .node .eql (.at 7) (.lit 6) trNO0_48 trNO0_49
theorem hNO0_47 : Tree.check (runNO0) trNO0_47 asNO0_47 = true := by
  show (Tree.check (runNO0) trNO0_48 asNO0_48 && Tree.check (runNO0) trNO0_49 asNO0_49) = true
  rw [hNO0_48, hNO0_49]; rfl
noncomputable def trNO0_45 : Tree := .node .eql (.at 7) (.lit 5) trNO0_46 trNO0_47
theorem hNO0_45 : Tree.check (runNO0) trNO0_45 asNO0_45 = true := by
  show (Tree.check (runNO0) trNO0_46 asNO0_46 && Tree.check (runNO0) trNO0_47 asNO0_47) = true
  rw [hNO0_46, hNO0_47]; rfl
noncomputable def trNO0_43 : Tree := .node .eql (.at 7) (.lit 4) trNO0_44 trNO0_45
theorem hNO0_43 : Tree.check (runNO0) trNO0_43 asNO0_43 = true := by
  show (Tree.check (runNO0) trNO0_44 asNO0_44 && Tree.check (runNO0) trNO0_45 asNO0_45) = true
  rw [hNO0_44, hNO0_45]; rfl
noncomputable def trNO0_41 : Tree := .node .eql (.at 7) (.lit 3) trNO0_42 trNO0_43
theorem hNO0_41 : Tree.check (runNO0) trNO0_41 asNO0_41 = true := by
  show (Tree.check (runNO0) trNO0_42 asNO0_42 && Tree.check (runNO0) trNO0_43 asNO0_43) = true
  rw [hNO0_42, hNO0_43]; rfl
noncomputable def trNO0_37 : Tree := .node .eql (.at 7) (.lit 2) trNO0_38 trNO0_41
theorem hNO0_37 : Tree.check (runNO0) trNO0_37 asNO0_37 = true := by
  show (Tree.check (runNO0) trNO0_38 asNO0_38 && Tree.check (runNO0) trNO0_41 asNO0_41) = true
  rw [hNO0_38, hNO0_41]; rfl
noncomputable def trNO0_33 : Tree := .node .eql (.at 7) (.lit 1) trNO0_34 trNO0_37
theorem hNO0_33 : Tree.check (runNO0) trNO0_33 asNO0_33 = true := by
  show (Tree.check (runNO0) trNO0_34 asNO0_34 && Tree.check (runNO0) trNO0_37 asNO0_37) = true
  rw [hNO0_34, hNO0_37]; rfl
noncomputable def asNO0_72 : Asm := asNO0_32.add .leq (.at 7) (.lit 13) false
noncomputable def trNO0_72 : Tree := .leaf
theorem hNO0_72 : Tree.check (runNO0) trNO0_72 asNO0_72 = true := NO0_54
noncomputable def trNO0_32 : Tree := .node .leq (.at 7) (.lit 13) trNO0_33 trNO0_72
theorem hNO0_32 : Tree.check (runNO0) trNO0_32 asNO0_32 = true := by
  show (Tree.check (runNO0) trNO0_33 asNO0_33 && Tree.check (runNO0) trNO0_72 asNO0_72) = true
  rw [hNO0_33, hNO0_72]; rfl
noncomputable def asNO0_73 : Asm := asNO0_31.add .geq (.at 7) (.lit 1) false
noncomputable def trNO0_73 : Tree := .leaf
theorem hNO0_73 : Tree.check (runNO0) trNO0_73 asNO0_73 = true := NO0_56
noncomputable def trNO0_31 : Tree := .node .geq (.at 7) (.lit 1) trNO0_32 trNO0_73
theorem hNO0_31 : Tree.check (runNO0) trNO0_31 asNO0_31 = true := by
  show (Tree.check (runNO0) trNO0_32 asNO0_32 && Tree.check (runNO0) trNO0_73 asNO0_73) = true
  rw [hNO0_32, hNO0_73]; rfl
noncomputable def trNO0_29 : Tree := .node .lss (.at 15) (.lit 1) trNO0_30 trNO0_31
theorem hNO0_29 : Tree.check (runNO0) trNO0_29 asNO0_29 = true := by
  show (Tree.check (runNO0) trNO0_30 asNO0_30 && Tree.check (runNO0) trNO0_31 asNO0_31) = true
  rw [hNO0_30, hNO0_31]; rfl
noncomputable def trNO0_27 : Tree := .node .gtr (.at 6) (.lit 4) trNO0_28 trNO0_29
theorem hNO0_27 : Tree.check (runNO0) trNO0_27 asNO0_27 = true := by
  show (Tree.check (runNO0) trNO0_28 asNO0_28 && Tree.check (runNO0) trNO0_29 asNO0_29) = true
  rw [hNO0_28, hNO0_29]; rfl
noncomputable def trNO0_25 : Tree := .node .lss (.at 6) (.lit 1) trNO0_26 trNO0_27
theorem hNO0_25 : Tree.check (runNO0) trNO0_25 asNO0_25 = true := by
  show (Tree.check (runNO0) trNO0_26 asNO0_26 && Tree.check (runNO0) trNO0_27 asNO0_27) = true
  rw [hNO0_26, hNO0_27]; rfl
noncomputable def trNO0_23 : Tree := .node .gtr (.at 5) (.lit 8) trNO0_24 trNO0_25
theorem hNO0_23 : Tree.check (runNO0) trNO0_23 asNO0_23 = true := by
  show (Tree.check (runNO0) trNO0_24 asNO0_24 && Tree.check (runNO0) trNO0_25 asNO0_25) = true
  rw [hNO0_24, hNO0_25]; rfl
noncomputable def trNO0_21 : Tree := .node .lss (.at 5) (.lit 1) trNO0_22 trNO0_23
theorem hNO0_21 : Tree.check (runNO0) trNO0_21 asNO0_21 = true := by
  show (Tree.check (runNO0) trNO0_22 asNO0_22 && Tree.check (runNO0) trNO0_23 asNO0_23) = true
  rw [hNO0_22, hNO0_23]; rfl
noncomputable def trNO0_19 : Tree := .node .gtr (.at 4) (.lit 16) trNO0_20 trNO0_21
theorem hNO0_19 : Tree.check (runNO0) trNO0_19 asNO0_19 = true := by
  show (Tree.check (runNO0) trNO0_20 asNO0_20 && Tree.check (runNO0) trNO0_21 asNO0_21) = true
  rw [hNO0_20, hNO0_21]; rfl
noncomputable def trNO0_17 : Tree := .node .lss (.at 4) (.lit 1) trNO0_18 trNO0_19
theorem hNO0_17 : Tree.check (runNO0) trNO0_17 asNO0_17 = true := by
  show (Tree.check (runNO0) trNO0_18 asNO0_18 && Tree.check (runNO0) trNO0_19 asNO0_19) = true
  rw [hNO0_18, hNO0_19]; rfl
noncomputable def trNO0_15 : Tree := .node .gtr (.at 3) (.lit 4) trNO0_16 trNO0_17
theorem hNO0_15 : Tree.check (runNO0) trNO0_15 asNO0_15 = true := by
  show (Tree.check (runNO0) trNO0_16 asNO0_16 && Tree.check (runNO0) trNO0_17 asNO0_17) = true
  rw [hNO0_16, hNO0_17]; rfl
noncomputable def trNO0_13 : Tree := .node .lss (.at 3) (.lit 1) trNO0_14 trNO0_15
theorem hNO0_13 : Tree.check (runNO0) trNO0_13 asNO0_13 = true := by
  show (Tree.check (runNO0) trNO0_14 asNO0_14 && Tree.check (runNO0) trNO0_15 asNO0_15) = true
  rw [hNO0_14, hNO0_15]; rfl
noncomputable def trNO0_11 : Tree := .node .gtr (.at 2) (.lit 8) trNO0_12 trNO0_13
theorem hNO0_11 : Tree.check (runNO0) trNO0_11 asNO0_11 = true := by
  show (Tree.check (runNO0) trNO0_12 asNO0_12 && Tree.check (runNO0) trNO0_13 asNO0_13) = true
  rw [hNO0_12, hNO0_13]; rfl
noncomputable def trNO0_9 : Tree := .node .lss (.at 2) (.lit 1) trNO0_10 trNO0_11
theorem hNO0_9 : Tree.check (runNO0) trNO0_9 asNO0_9 = true := by
  show (Tree.check (runNO0) trNO0_10 asNO0_10 && Tree.check (runNO0) trNO0_11 asNO0_11) = true
  rw [hNO0_10, hNO0_11]; rfl
noncomputable def trNO0_7 : Tree := .node .gtr (.at 1) (.lit 16) trNO0_8 trNO0_9
theorem hNO0_7 : Tree.check (runNO0) trNO0_7 asNO0_7 = true := by
  show (Tree.check (runNO0) trNO0_8 asNO0_8 && Tree.check (runNO0) trNO0_9 asNO0_9) = true
  rw [hNO0_8, hNO0_9]; rfl
noncomputable def trNO0_5 : Tree := .node .lss (.at 1) (.lit 1) trNO0_6 trNO0_7
theorem hNO0_5 : Tree.check (runNO0) trNO0_5 asNO0_5 = true := by
  show (Tree.check (runNO0) trNO0_6 asNO0_6 && Tree.check (runNO0) trNO0_7 asNO0_7) = true
  rw [hNO0_6, hNO0_7]; rfl
noncomputable def trNO0_3 : Tree := .node .gtr (.at 0) (.lit 4) trNO0_4 trNO0_5
theorem hNO0_3 : Tree.check (runNO0) trNO0_3 asNO0_3 = true := by
  show (Tree.check (runNO0) trNO0_4 asNO0_4 && Tree.check (runNO0) trNO0_5 asNO0_5) = true
  rw [hNO0_4, hNO0_5]; rfl
noncomputable def trNO0_1 : Tree := .node .lss (.at 0) (.lit 1) trNO0_2 trNO0_3
theorem hNO0_1 : Tree.check (runNO0) trNO0_1 asNO0_1 = true := by
  show (Tree.check (runNO0) trNO0_2 asNO0_2 && Tree.check (runNO0) trNO0_3 asNO0_3) = true
  rw [hNO0_2, hNO0_3]; rfl
noncomputable def asNO1_74 : Asm := rangeAsm 16
noncomputable def asNO1_75 : Asm := asNO1_74.add .lss (.at 0) (.lit 1) true
noncomputable def trNO1_75 : Tree := .leaf
theorem hNO1_75 : Tree.check (runNO1) trNO1_75 asNO1_75 = true := NO1_0
noncomputable def asNO1_76 : Asm := asNO1_74.add .lss (.at 0) (.lit 1) false
noncomputable def asNO1_77 : Asm := asNO1_76.add .gtr (.at 0) (.lit 4) true
noncomputable def trNO1_77 : Tree := .leaf
theorem hNO1_77 : Tree.check (runNO1) trNO1_77 asNO1_77 = true := NO1_1
noncomputable def asNO1_78 : Asm := asNO1_76.add .gtr (.at 0) (.lit 4) false
noncomputable def asNO1_79 : Asm := asNO1_78.add .lss (.at 1) (.lit 1) true
noncomputable def trNO1_79 : Tree := .leaf
theorem hNO1_79 : Tree.check (runNO1) trNO1_79 asNO1_79 = true := NO1_2
noncomputable def asNO1_80 : Asm := asNO1_78.add .lss (.at 1) (.lit 1) false
noncomputable def asNO1_81 : Asm := asNO1_80.add .gtr (.at 1) (.lit 16) true
noncomputable def trNO1_81 : Tree := .leaf
theorem hNO1_81 : Tree.check (runNO1) trNO1_81 asNO1_81 = true := NO1_3
noncomputable def asNO1_82 : Asm := asNO1_80.add .gtr (.at 1) (.lit 16) false
noncomputable def asNO1_83 : Asm := asNO1_82.add .lss (.at 2) (.lit 1) true
noncomputable def trNO1_83 : Tree := .leaf
theorem hNO1_83 : Tree.check (runNO1) trNO1_83 asNO1_83 = true := NO1_4
noncomputable def asNO1_84 : Asm := asNO1_82.add .lss (.at 2) (.lit 1) false
noncomputable def asNO1_85 : Asm := asNO1_84.add .gtr (.at 2) (.lit 8) true
noncomputable def trNO1_85 : Tree := .leaf
theorem hNO1_85 : Tree.check (runNO1) trNO1_85 asNO1_85 = true := NO1_5
noncomputable def asNO1_86 : Asm := asNO1_84.add .gtr (.at 2) (.lit 8) false
noncomputable def asNO1_87 : Asm := asNO1_86.add .lss (.at 3) (.lit 1) true
noncomputable def trNO1_87 : Tree := .leaf
theorem hNO1_87 : Tree.check (runNO1) trNO1_87 asNO1_87 = true := NO1_6
noncomputable def asNO1_88 : Asm := asNO1_86.add .lss (.at 3) (.lit 1) false
noncomputable def asNO1_89 : Asm := asNO1_88.add .gtr (.at 3) (.lit 4) true
noncomputable def trNO1_89 : Tree := .leaf
theorem hNO1_89 : Tree.check (runNO1) trNO1_89 asNO1_89 = true := NO1_7
noncomputable def asNO1_90 : Asm := asNO1_88.add .gtr (.at 3) (.lit 4) false
noncomputable def asNO1_91 : Asm := asNO1_90.add .lss (.at 4) (.lit 1) true
noncomputable def trNO1_91 : Tree := .leaf
theorem hNO1_91 : Tree.check (runNO1) trNO1_91 asNO1_91 = true := NO1_8
noncomputable def asNO1_92 : Asm := asNO1_90.add .lss (.at 4) (.lit 1) false
noncomputable def asNO1_93 : Asm := asNO1_92.add .gtr (.at 4) (.lit 16) true
noncomputable def trNO1_93 : Tree := .leaf
theorem hNO1_93 : Tree.check (runNO1) trNO1_93 asNO1_93 = true := NO1_9
noncomputable def asNO1_94 : Asm := asNO1_92.add .gtr (.at 4) (.lit 16) false
noncomputable def asNO1_95 : Asm := asNO1_94.add .lss (.at 5) (.lit 1) true
noncomputable def trNO1_95 : Tree := .leaf
theorem hNO1_95 : Tree.check (runNO1) trNO1_95 asNO1_95 = true := NO1_10
noncomputable def asNO1_96 : Asm := asNO1_94.add .lss (.at 5) (.lit 1) false
noncomputable def asNO1_97 : Asm := asNO1_96.add .gtr (.at 5) (.lit 8) true
noncomputable def trNO1_97 : Tree := .leaf
theorem hNO1_97 : Tree.check (runNO1) trNO1_97 asNO1_97 = true := NO1_11
noncomputable def asNO1_98 : Asm := asNO1_96.add .gtr (.at 5) (.lit 8) false
noncomputable def asNO1_99 : Asm := asNO1_98.add .lss (.at 6) (.lit 1) true
noncomputable def trNO1_99 : Tree := .leaf
theorem hNO1_99 : Tree.check (runNO1) trNO1_99 asNO1_99 = true := NO1_12
noncomputable def asNO1_100 : Asm := asNO1_98.add .lss (.at 6) (.lit 1) false
noncomputable def asNO1_101 : Asm := asNO1_100.add .gtr (.at 6) (.lit 4) true
noncomputable def trNO1_101 : Tree := .leaf
theorem hNO1_101 : Tree.check (runNO1) trNO1_101 asNO1_101 = true := NO1_13
noncomputable def asNO1_102 : Asm := asNO1_100.add .gtr (.at 6) (.lit 4) false
noncomputable def asNO1_103 : Asm := asNO1_102.add .lss (.at 15) (.lit 1) true
noncomputable def trNO1_103 : Tree := .leaf
theorem hNO1_103 : Tree.check (runNO1) trNO1_103 asNO1_103 = true := NO1_14
noncomputable def asNO1_104 : Asm := asNO1_102.add .lss (.at 15) (.lit 1) false
noncomputable def asNO1_105 : Asm := asNO1_104.add .geq (.at 7) (.lit 1) true
noncomputable def asNO1_106 : Asm := asNO1_105.add .leq (.at 7) (.lit 13) true
noncomputable def asNO1_107 : Asm := asNO1_106.add .eql (.at 7) (.lit 1) true
noncomputable def trNO1_107 : Tree := (.node .geq (.at 8) (.lit 0) (.node .leq (.at 8) (.bin .sub .i64 (.at 0) (.lit 1)) (.node .geq (.at 9) (.lit 0) (.node .leq (.at 9) (.bin .sub .i64 (.bin .mul .i64 (.at 1) (.lit 2)) (.lit 1)) (.node .geq (.at 10) (.lit 0) (.node .leq (.at 10) (.lit 3) (.node .eql (.at 11) (.lit 0) (.node .eql (.at 12) (.lit 0) (.node .eql (.at 13) (.lit 0) .leaf .leaf) .leaf) .leaf) .leaf) .leaf) .leaf) .leaf) .leaf) .leaf)
theorem hNO1_107 : Tree.check (runNO1) trNO1_107 asNO1_107 = true := NO1_15
noncomputable def asNO1_108 : Asm := asNO1_106.add .eql (.at 7) (.lit 1) false
noncomputable def asNO1_109 : Asm := asNO1_108.add .eql (.at 7) (.lit 2) true
noncomputable def trNO1_109 : Tree := (.node .geq (.at 8) (.lit 0) (.node .leq (.at 8) (.bin .sub .i64 (.at 0) (.lit 1)) (.node .geq (.at 9) (.lit 0) (.node .leq (.at 9) (.bin .sub .i64 (.bin .mul .i64 (.at 1) (.lit 2)) (.lit 1)) (.node .geq (.at 10) (.lit 0) (.node .leq (.at 10) (.lit 3) (.node .eql (.at 11) (.lit 0) (.node .eql (.at 12) (.lit 0) (.node .eql (.at 13) (.lit 0) .leaf .leaf) .leaf) .leaf) .leaf) .leaf) .leaf) .leaf) .leaf) .leaf)
theorem hNO1_109 : Tree.check (runNO1) trNO1_109 asNO1_109 = true := NO1_16
noncomputable def asNO1_110 : Asm := asNO1_108.add .eql (.at 7) (.lit 2) false
noncomputable def asNO1_111 : Asm := asNO1_110.add .eql (.at 7) (.lit 3) true
noncomputable def trNO1_111 : Tree := (.node .geq (.at 8) (.lit 0) (.node .leq (.at 8) (.bin .sub .i64 (.at 0) (.lit 1)) (.node .geq (.at 9) (.lit 0) (.node .leq (.at 9) (.bin .sub .i64 (.bin .mul .i64 (.at 1) (.lit 2)) (.lit 1)) (.node .geq (.at 10) (.lit 0) (.node .leq (.at 10) (.lit 4) (.node .eql (.at 11) (.lit 0) (.node .eql (.at 14) (.lit 0) .leaf .leaf) .leaf) .leaf) .leaf) .leaf) .leaf) .leaf) .leaf)
theorem hNO1_111 : Tree.check (runNO1) trNO1_111 asNO1_111 = true := NO1_17
noncomputable def asNO1_112 : Asm := asNO1_110.add .eql (.at 7) (.lit 3) false
noncomputable def asNO1_113 : Asm := asNO1_112.add .eql (.at 7) (.lit 4) true
noncomputable def trNO1_113 : Tree := (.node .geq (.at 8) (.lit 0) (.node .leq (.at 8) (.bin .sub .i64 (.at 0) (.lit 1)) (.node .geq (.at 9) (.lit 0) (.node .leq (.at 9) (.bin .sub .i64 (.bin .mul .i64 (.at 1) (.lit 2)) (.lit 1)) (.node .eql (.at 10) (.lit 0) (.node .eql (.at 11) (.lit 0) (.node .eql (.at 12) (.lit 0) (.node .eql (.at 13) (.lit 0) .leaf .leaf) .leaf) .leaf) .leaf) .leaf) .leaf) .leaf) .leaf)
theorem hNO1_113 : Tree.check (runNO1) trNO1_113 asNO1_113 = true := NO1_18
noncomputable def asNO1_114 : Asm := asNO1_112.add .eql (.at 7) (.lit 4) false
noncomputable def asNO1_115 : Asm := asNO1_114.add .eql (.at 7) (.lit 5) true
noncomputable def trNO1_115 : Tree := (.node .geq (.at 8) (.lit 0) (.node .leq (.at 8) (.bin .sub .i64 (.at 0) (.lit 1)) (.node .geq (.at 9) (.lit 0) (.node .leq (.at 9) (.bin .sub .i64 (.bin .mul .i64 (.at 1) (.lit 2)) (.lit 1)) (.node .geq (.at 11) (.lit 0) (.node .leq (.at 11) (.lit 4) (.node .geq (.at 14) (.lit 0) (.node .leq (.at 14) (.lit 1) (.node .eql (.at 10) (.lit 0) .leaf .leaf) .leaf) .leaf) .leaf) .leaf) .leaf) .leaf) .leaf) .leaf)
theorem hNO1_115 : Tree.check (runNO1) trNO1_115 asNO1_115 = true := NO1_19
noncomputable def asNO1_116 : Asm := asNO1_114.add .eql (.at 7) (.lit 5) false
noncomputable def asNO1_117 : Asm := asNO1_116.add .eql (.at 7) (.lit 6) true
noncomputable def trNO1_117 : Tree := (.node .geq (.at 8) (.lit 0) (.node .leq (.at 8) (.bin .sub .i64 (.at 0) (.lit 1)) (.node .geq (.at 14) (.lit 0) (.node .leq (.at 14) (.lit 19) (.node .eql (.at 9) (.lit 0) (.node .eql (.at 10) (.lit 0) (.node .eql (.at 11) (.lit 0) (.node .eql (.at 12) (.lit 0) (.node .eql (.at 13) (.lit 0) .leaf .leaf) .leaf) .leaf) .leaf) .leaf) .leaf) .leaf) .leaf) .leaf)
theorem hNO1_117 : Tree.check (runNO1) trNO1_117 asNO1_117 = true := NO1_20
noncomputable def asNO1_118 : Asm := asNO1_116.add .eql (.at 7) (.lit 6) false
noncomputable def asNO1_119 : Asm := asNO1_118.add .eql (.at 7) (.lit 7) true
noncomputable def trNO1_119 : Tree := (.node .geq (.at 8) (.lit 0) (.node .leq (.at 8) (.bin .sub .i64 (.at 0) (.lit 1)) (.node .geq (.at 14) (.lit 0) (.node .leq (.at 14) (.bin .sub .i64 (.at 1) (.lit 1)) (.node .eql (.at 9) (.lit 0) (.node .eql (.at 10) (.lit 0) (.node .eql (.at 11) (.lit 0) (.node .eql (.at 12) (.lit 0) (.node .eql (.at 13) (.lit 0) .leaf .leaf) .leaf) .leaf) .leaf) .leaf) .leaf) .leaf) .leaf) .leaf)
theorem hNO1_119 : Tree.check (runNO1) trNO1_119 asNO1_119 = true := NO1_21
noncomputable def asNO1_120 : Asm := asNO1_118.add .eql (.at 7) (.lit 7) false
noncomputable def asNO1_121 : Asm := asNO1_120.add .eql (.at 7) (.lit 8) true
noncomputable def trNO1_121 : Tree := (.node .geq (.at 8) (.lit 0) (.node .leq (.at 8) (.bin .sub .i64 (.at 0) (.lit 1)) (.node .geq (.at 9) (.lit 0) (.node .leq (.at 9) (.bin .sub .i64 (.bin .mul .i64 (.at 1) (.lit 2)) (.lit 1)) (.node .geq (.at 10) (.lit 0) (.node .leq (.at 10) (.lit 4) (.node .eql (.at 11) (.lit 1) .leaf (.node .eql (.at 11) (.lit 2) .leaf (.node .eql (.at 11) (.lit 4) .leaf .leaf))) .leaf) .leaf) .leaf) .leaf) .leaf) .leaf)
theorem hNO1_121 : Tree.check (runNO1) trNO1_121 asNO1_121 = true := NO1_22
noncomputable def asNO1_122 : Asm := asNO1_120.add .eql (.at 7) (.lit 8) false
noncomputable def asNO1_123 : Asm := asNO1_122.add .eql (.at 7) (.lit 9) true
noncomputable def asNO1_124 : Asm := asNO1_123.add .geq (.at 8) (.lit 0) true
noncomputable def trNO1_124 : Tree := (.node .leq (.at 8) (.bin .sub .i64 (.at 0) (.lit 1)) (.node .geq (.at 9) (.lit 0) (.node .leq (.at 9) (.bin .sub .i64 (.bin .mul .i64 (.at 1) (.lit 2)) (.lit 1)) (.node .geq (.at 14) (.lit 0) (.node .leq (.at 14) (.lit 1) (.node .eql (.at 10) (.lit 0) (.node .eql (.at 11) (.lit 0) (.node .eql (.at 12) (.lit 0) (.node .eql (.at 13) (.lit 0) .leaf .leaf) .leaf) .leaf) .leaf) .leaf) .leaf) .leaf) .leaf) .leaf)
theorem hNO1_124 : Tree.check (runNO1) trNO1_124 asNO1_124 = true := NO1_23
noncomputable def asNO1_125 : Asm := asNO1_123.add .geq (.at 8) (.lit 0) false
noncomputable def trNO1_125 : Tree := .leaf
theorem hNO1_125 : Tree.check (runNO1) trNO1_125 asNO1_125 = true := NO1_24
noncomputable def trNO1_123 : Tree := .node .geq (.at 8) (.lit 0) trNO1_124 trNO1_125
theorem hNO1_123 : Tree.check (runNO1) trNO1_123 asNO1_123 = true := by
  show (Tree.check (runNO1) trNO1_124 asNO1_124 && Tree.check (runNO1) trNO1_125 asNO1_125) = true
  rw [hNO1_124, hNO1_125]; rfl
noncomputable def asNO1_126 : Asm := asNO1_122.add .eql (.at 7) (.lit 9) false
noncomputable def asNO1_127 : Asm := asNO1_126.add .eql (.at 7) (.lit 10) true
noncomputable def trNO1_127 : Tree := (.node .geq (.at 8) (.lit 0) (.node .leq (.at 8) (.bin .sub .i64 (.at 0) (.lit 1)) (.node .geq (.at 9) (.lit 0) (.node .leq (.at 9) (.bin .sub .i64 (.bin .mul .i64 (.at 1) (.lit 2)) (.lit 1)) (.node .eql (.at 10) (.lit 0) (.node .eql (.at 11) (.lit 0) (.node .eql (.at 12) (.lit 0) (.node .eql (.at 13) (.lit 0) .leaf .leaf) .leaf) .leaf) .leaf) .leaf) .leaf) .leaf) .leaf)
theorem hNO1_127 : Tree.check (runNO1) trNO1_127 asNO1_127 = true := NO1_26
noncomputable def asNO1_128 : Asm := asNO1_126.add .eql (.at 7) (.lit 10) false
noncomputable def asNO1_129 : Asm := asNO1_128.add .eql (.at 7) (.lit 11) true
noncomputable def trNO1_129 : Tree := (.node .geq (.at 8) (.lit 0) (.node .leq (.at 8) (.bin .sub .i64 (.at 0) (.lit 1)) (.node .geq (.at 9) (.lit 0) (.node .leq (.at 9) (.bin .sub .i64 (.bin .mul .i64 (.at 1) (.lit 2)) (.lit 1)) (.node .geq (.at 11) (.lit 0) (.node .leq (.at 11) (.lit 1) (.node .eql (.at 10) (.lit 0) (.node .eql (.at 12) (.lit 0) (.node .eql (.at 13) (.lit 0) .leaf .leaf) .leaf) .leaf) .leaf) .leaf) .leaf) .leaf) .leaf) .leaf)
theorem hNO1_129 : Tree.check (runNO1) trNO1_129 asNO1_129 = true := NO1_27
noncomputable def asNO1_130 : Asm := asNO1_128.add .eql (.at 7) (.lit 11) false
noncomputable def asNO1_131 : Asm := asNO1_130.add .eql (.at 7) (.lit 12) true
noncomputable def trNO1_131 : Tree := (.node .geq (.at 8) (.lit 0) (.node .leq (.at 8) (.bin .sub .i64 (.at 0) (.lit 1)) (.node .geq (.at 14) (.lit 0) (.node .leq (.at 14) (.lit 19) (.node .eql (.at 9) (.lit 0) (.node .eql (.at 10) (.lit 0) (.node .eql (.at 11) (.lit 0) .leaf .leaf) .leaf) .leaf) .leaf) .leaf) .leaf) .leaf)
theorem hNO1_131 : Tree.check (runNO1) trNO1_131 asNO1_131 = true := NO1_28
noncomputable def asNO1_132 : Asm := asNO1_130.add .eql (.at 7) (.lit 12) false
noncomputable def trNO1_132 : Tree := (.node .geq (.at 8) (.lit 0) (.node .leq (.at 8) (.bin .sub .i64 (.at 0) (.lit 1)) (.node .geq (.at 14) (.lit 0) (.node .leq (.at 14) (.bin .sub .i64 (.at 1) (.lit 1)) (.node .eql (.at 9) (.lit 0) (.node .eql (.at 10) (.lit 0) (.node .eql (.at 11) (.lit 0) (.node .eql (.at 12) (.lit 0) (.node .eql (.at 13) (.lit 0) .leaf .leaf) .leaf) .leaf) .leaf) .leaf) .leaf) .leaf) .leaf) .leaf)
theorem hNO1_132 : Tree.check (runNO1) trNO1_132 asNO1_132 = true := NO1_29
noncomputable def trNO1_130 : Tree := .node .eql (.at 7) (.lit 12) trNO1_131 trNO1_132
theorem hNO1_130 : Tree.check (runNO1) trNO1_130 asNO1_130 = true := by
  show (Tree.check (runNO1) trNO1_131 asNO1_131 && Tree.check (runNO1) trNO1_132 asNO1_132) = true
  rw [hNO1_131, hNO1_132]; rfl
noncomputable def trNO1_128 : Tree := .node .eql (.at 7) (.lit 11) trNO1_129 trNO1_130
theorem hNO1_128 : Tree.check (runNO1) trNO1_128 asNO1_128 = true := by
  show (Tree.check (runNO1) trNO1_129 asNO1_129 && Tree.check (runNO1) trNO1_130 asNO1_130) = true
  rw [hNO1_129, hNO1_130]; rfl
noncomputable def trNO1_126 : Tree := .node .eql (.at 7) (.lit 10) trNO1_127 trNO1_128
theorem hNO1_126 : Tree.check (runNO1) trNO1_126 asNO1_126 = true := by
  show (Tree.check (runNO1) trNO1_127 asNO1_127 && Tree.check (runNO1) trNO1_128 asNO1_128) = true
  rw [hNO1_127, hNO1_128]; rfl
noncomputable def trNO1_122 : Tree := .node .eql (.at 7) (.lit 9) trNO1_123 trNO1_126
theorem hNO1_122 : Tree.check (runNO1) trNO1_122 asNO1_122 = true := by
  show (Tree.check (runNO1) trNO1_123 asNO1_123 && Tree.check (runNO1) trNO1_126 asNO1_126) = true
  rw [hNO1_123, hNO1_126]; rfl
noncomputable def trNO1_120 : Tree := .node .eql (.at 7) (.lit 8) trNO1_121 trNO1_122
theorem hNO1_120 : Tree.check (runNO1) trNO1_120 asNO1_120 = true := by
  show (Tree.check (runNO1) trNO1_121 asNO1_121 && Tree.check (runNO1) trNO1_122 asNO1_122) = true
  rw [hNO1_121, hNO1_122]; rfl
noncomputable def trNO1_118 : Tree := .node .eql (.at 7) (.lit 7) trNO1_119 trNO1_120
theorem hNO1_118 : Tree.check (runNO1) trNO1_118 asNO1_118 = true := by
  show (Tree.check (runNO1) trNO1_119 asNO1_119 && Tree.check (runNO1) trNO1_120 asNO1_120) = true
  rw [hNO1_119, hNO1_120]; rfl
noncomputable def trNO1_116 : Tree := .node .eql (.at 7) (.lit 6) trNO1_117 trNO1_118
theorem hNO1_116 : Tree.check (runNO1) trNO1_116 asNO1_116 = true := by
  show (Tree.check (runNO1) trNO1_117 asNO1_117 && Tree.check (runNO1) trNO1_118 asNO1_118) = true
  rw [hNO1_117, hNO1_118]; rfl
noncomputable def trNO1_114 : Tree := .node .eql (.at 7) (.lit 5) trNO1_115 trNO1_116
theorem hNO1_114 : Tree.check (runNO1) trNO1_114 asNO1_114 = true := by
  show (Tree.check (runNO1) trNO1_115 asNO1_115 && Tree.check (runNO1) trNO1_116 asNO1_116) = true
  rw [hNO1_115, hNO1_116]; rfl
noncomputable def trNO1_112 : Tree := .node .eql (.at 7) (.lit 4) trNO1_113 trNO1_114
theorem hNO1_112 : Tree.check (runNO1) trNO1_112 asNO1_112 = true := by
  show (Tree.check (runNO1) trNO1_113 asNO1_113 && Tree.check (runNO1) trNO1_114 asNO1_114) = true
  rw [hNO1_113, hNO1_114]; rfl
noncomputable def trNO1_110 : Tree := .node .eql (.at 7) (.lit 3) trNO1_111 trNO1_112
theorem hNO1_110 : Tree.check (runNO1) trNO1_110 asNO1_110 = true := by
  show (Tree.check (runNO1) trNO1_111 asNO1_111 && Tree.check (runNO1) trNO1_112 asNO1_112) = true
  rw [hNO1_111, hNO1_112]; rfl
noncomputable def trNO1_108 : Tree := .node .eql (.at 7) (.lit 2) trNO1_109 trNO1_110
theorem hNO1_108 : Tree.check (runNO1) trNO1_108 asNO1_108 = true := by
  show (Tree.check (runNO1) trNO1_109 asNO1_109 && Tree.check (runNO1) trNO1_110 asNO1_110) = true
  rw [hNO1_109, hNO1_110]; rfl
noncomputable def trNO1_106 : Tree := .node .eql (.at 7) (.lit 1) trNO1_107 trNO1_108
theorem hNO1_106 : Tree.check (runNO1) trNO1_106 asNO1_106 = true := by
  show (Tree.check (runNO1) trNO1_107 asNO1_107 && Tree.check (runNO1) trNO1_108 asNO1_108) = true
  rw [hNO1_107, hNO1_108]; rfl
noncomputable def asNO1_133 : Asm := asNO1_105.add .leq (.at 7) (.lit 13) false
noncomputable def trNO1_133 : Tree := .leaf
theorem hNO1_133 : Tree.check (runNO1) trNO1_133 asNO1_133 = true := NO1_42
noncomputable def trNO1_105 : Tree := .node .leq (.at 7) (.lit 13) trNO1_106 trNO1_133
theorem hNO1_105 : Tree.check (runNO1) trNO1_105 asNO1_105 = true := by
  show (Tree.check (runNO1) trNO1_106 asNO1_106 && Tree.check (runNO1) trNO1_133 asNO1_133) = true
  rw [hNO1_106, hNO1_133]; rfl
noncomputable def asNO1_134 : Asm := asNO1_104.add .geq (.at 7) (.lit 1) false
noncomputable def trNO1_134 : Tree := .leaf
theorem hNO1_134 : Tree.check (runNO1) trNO1_134 asNO1_134 = true := NO1_44
noncomputable def trNO1_104 : Tree := .node .geq (.at 7) (.lit 1) trNO1_105 trNO1_134
theorem hNO1_104 : Tree.check (runNO1) trNO1_104 asNO1_104 = true := by
  show (Tree.check (runNO1) trNO1_105 asNO1_105 && Tree.check (runNO1) trNO1_134 asNO1_134) = true
  rw [hNO1_105, hNO1_134]; rfl
noncomputable def trNO1_102 : Tree := .node .lss (.at 15) (.lit 1) trNO1_103 trNO1_104
theorem hNO1_102 : Tree.check (runNO1) trNO1_102 asNO1_102 = true := by
  show (Tree.check (runNO1) trNO1_103 asNO1_103 && Tree.check (runNO1) trNO1_104 asNO1_104) = true
  rw [hNO1_103, hNO1_104]; rfl
noncomputable def trNO1_100 : Tree := .node .gtr (.at 6) (.lit 4) trNO1_101 trNO1_102
theorem hNO1_100 : Tree.check (runNO1) trNO1_100 asNO1_100 = true := by
  show (Tree.check (runNO1) trNO1_101 asNO1_101 && Tree.check (runNO1) trNO1_102 asNO1_102) = true
  rw [hNO1_101, hNO1_102]; rfl
noncomputable def trNO1_98 : Tree := .node .lss (.at 6) (.lit 1) trNO1_99 trNO1_100
theorem hNO1_98 : Tree.check (runNO1) trNO1_98 asNO1_98 = true := by
  show (Tree.check (runNO1) trNO1_99 asNO1_99 && Tree.check (runNO1) trNO1_100 asNO1_100) = true
  rw [hNO1_99, hNO1_100]; rfl
noncomputable def trNO1_96 : Tree := .node .gtr (.at 5) (.lit 8) trNO1_97 trNO1_98
theorem hNO1_96 : Tree.check (runNO1) trNO1_96 asNO1_96 = true := by
  show (Tree.check (runNO1) trNO1_97 asNO1_97 && Tree.check (runNO1) trNO1_98 asNO1_98) = true
  rw [hNO1_97, hNO1_98]; rfl
noncomputable def trNO1_94 : Tree := .node .lss (.at 5) (.lit 1) trNO1_95 trNO1_96
theorem hNO1_94 : Tree.check (runNO1) trNO1_94 asNO1_94 = true := by
  show (Tree.check (runNO1) trNO1_95 asNO1_95 && Tree.check (runNO1) trNO1_96 asNO1_96) = true
  rw [hNO1_95, hNO1_96]; rfl
noncomputable def trNO1_92 : Tree := .node .gtr (.at 4) (.lit 16) trNO1_93 trNO1_94
theorem hNO1_92 : Tree.check (runNO1) trNO1_92 asNO1_92 = true := by
  show (Tree.check (runNO1) trNO1_93 asNO1_93 && Tree.check (runNO1) trNO1_94 asNO1_94) = true
  rw [hNO1_93, hNO1_94]; rfl
noncomputable def trNO1_90 : Tree := .node .lss (.at 4) (.lit 1) trNO1_91 trNO1_92
theorem hNO1_90 : Tree.check (runNO1) trNO1_90 asNO1_90 = true := by
  show (Tree.check (runNO1) trNO1_91 asNO1_91 && Tree.check (runNO1) trNO1_92 asNO1_92) = true
  rw [hNO1_91, hNO1_92]; rfl
noncomputable def trNO1_88 : Tree := .node .gtr (.at 3) (.lit 4) trNO1_89 trNO1_90
theorem hNO1_88 : Tree.check (runNO1) trNO1_88 asNO1_88 = true := by
  show (Tree.check (runNO1) trNO1_89 asNO1_89 && Tree.check (runNO1) trNO1_90 asNO1_90) = true
  rw [hNO1_89, hNO1_90]; rfl
noncomputable def trNO1_86 : Tree := .node .lss (.at 3) (.lit 1) trNO1_87 trNO1_88
theorem hNO1_86 : Tree.check (runNO1) trNO1_86 asNO1_86 = true := by
  show (Tree.check (runNO1) trNO1_87 asNO1_87 && Tree.check (runNO1) trNO1_88 asNO1_88) = true
  rw [hNO1_87, hNO1_88]; rfl
noncomputable def trNO1_84 : Tree := .node .gtr (.at 2) (.lit 8) trNO1_85 trNO1_86
theorem hNO1_84 : Tree.check (runNO1) trNO1_84 asNO1_84 = true := by
  show (Tree.check (runNO1) trNO1_85 asNO1_85 && Tree.check (runNO1) trNO1_86 asNO1_86) = true
  rw [hNO1_85, hNO1_86]; rfl
noncomputable def trNO1_82 : Tree := .node .lss (.at 2) (.lit 1) trNO1_83 trNO1_84
theorem hNO1_82 : Tree.check (runNO1) trNO1_82 asNO1_82 = true := by
  show (Tree.check (runNO1) trNO1_83 asNO1_83 && Tree.check (runNO1) trNO1_84 asNO1_84) = true
  rw [hNO1_83, hNO1_84]; rfl
noncomputable def trNO1_80 : Tree := .node .gtr (.at 1) (.lit 16) trNO1_81 trNO1_82
theorem hNO1_80 : Tree.check (runNO1) trNO1_80 asNO1_80 = true := by
  show (Tree.check (runNO1) trNO1_81 asNO1_81 && Tree.check (runNO1) trNO1_82 asNO1_82) = true
  rw [hNO1_81, hNO1_82]; rfl
noncomputable def trNO1_78 : Tree := .node .lss (.at 1) (.lit 1) trNO1_79 trNO1_80
theorem hNO1_78 : Tree.check (runNO1) trNO1_78 asNO1_78 = true := by
  show (Tree.check (runNO1) trNO1_79 asNO1_79 && Tree.check (runNO1) trNO1_80 asNO1_80) = true
  rw [hNO1_79, hNO1_80]; rfl
noncomputable def trNO1_76 : Tree := .node .gtr (.at 0) (.lit 4) trNO1_77 trNO1_78
theorem hNO1_76 : Tree.check (runNO1) trNO1_76 asNO1_76 = true := by
  show (Tree.check (runNO1) trNO1_77 asNO1_77 && Tree.check (runNO1) trNO1_78 asNO1_78) = true
  rw [hNO1_77, hNO1_78]; rfl
noncomputable def trNO1_74 : Tree := .node .lss (.at 0) (.lit 1) trNO1_75 trNO1_76
theorem hNO1_74 : Tree.check (runNO1) trNO1_74 asNO1_74 = true := by
  show (Tree.check (runNO1) trNO1_75 asNO1_75 && Tree.check (runNO1) trNO1_76 asNO1_76) = true
  rw [hNO1_75, hNO1_76]; rfl
theorem NOtop0 : Tree.check runNO0 trNO0_1 (rangeAsm 16) = true := hNO0_1
theorem NOtop1 : Tree.check runNO1 trNO1_74 (rangeAsm 16) = true := hNO1_74
end Go.Proofs.YtpabnkbpklggnaaDoor

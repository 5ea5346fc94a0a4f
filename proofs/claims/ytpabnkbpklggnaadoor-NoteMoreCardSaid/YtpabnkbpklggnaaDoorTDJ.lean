/- Which answers some calls of package note and of the document's answer give: trees, reckoned once. No condition. -/
import Derived.Test.YtpabnkbpklggnaaDoorTDP0
import Derived.Test.YtpabnkbpklggnaaDoorTDP1
import Derived.Test.YtpabnkbpklggnaaDoorTDP2
import Derived.Test.YtpabnkbpklggnaaDoorTDP3
import Derived.Test.YtpabnkbpklggnaaDoorTDP4
import Derived.Test.YtpabnkbpklggnaaDoorTDP5
import Derived.Test.YtpabnkbpklggnaaDoorJO
import Derived.KernelRfl
namespace Go.Proofs.YtpabnkbpklggnaaDoor
open Go.RowKit
set_option linter.unusedVariables false
set_option maxRecDepth 100000

noncomputable def asC0_1 : Asm := rangeAsm 15
noncomputable def asC0_2 : Asm := asC0_1.add .geq (.at 7) (.lit 1) true
noncomputable def asC0_3 : Asm := asC0_2.add .leq (.at 7) (.lit 13) true
noncomputable def asC0_4 : Asm := asC0_3.add .lss (.at 0) (.lit 1) true
noncomputable def trC0_4 : ATree := (.leaf (.int .i64 (.lit 10)))
theorem hC0_4 : ATree.check runC0 trC0_4 asC0_4 = true := C0_0
noncomputable def asC0_5 : Asm := asC0_3.add .lss (.at 0) (.lit 1) false
noncomputable def asC0_6 : Asm := asC0_5.add .gtr (.at 0) (.lit 4) true
noncomputable def trC0_6 : ATree := (.leaf (.int .i64 (.lit 10)))
theorem hC0_6 : ATree.check runC0 trC0_6 asC0_6 = true := C0_1
noncomputable def asC0_7 : Asm := asC0_5.add .gtr (.at 0) (.lit 4) false
noncomputable def asC0_8 : Asm := asC0_7.add .lss (.at 1) (.lit 1) true
noncomputable def trC0_8 : ATree := (.leaf (.int .i64 (.lit 10)))
theorem hC0_8 : ATree.check runC0 trC0_8 asC0_8 = true := C0_2
noncomputable def asC0_9 : Asm := asC0_7.add .lss (.at 1) (.lit 1) false
noncomputable def asC0_10 : Asm := asC0_9.add .gtr (.at 1) (.lit 16) true
noncomputable def trC0_10 : ATree := (.leaf (.int .i64 (.lit 10)))
theorem hC0_10 : ATree.check runC0 trC0_10 asC0_10 = true := C0_3
noncomputable def asC0_11 : Asm := asC0_9.add .gtr (.at 1) (.lit 16) false
noncomputable def asC0_12 : Asm := asC0_11.add .lss (.at 2) (.lit 1) true
noncomputable def trC0_12 : ATree := (.leaf (.int .i64 (.lit 10)))
theorem hC0_12 : ATree.check runC0 trC0_12 asC0_12 = true := C0_4
noncomputable def asC0_13 : Asm := asC0_11.add .lss (.at 2) (.lit 1) false
noncomputable def asC0_14 : Asm := asC0_13.add .gtr (.at 2) (.lit 8) true
noncomputable def trC0_14 : ATree := (.leaf (.int .i64 (.lit 10)))
theorem hC0_14 : ATree.check runC0 trC0_14 asC0_14 = true := C0_5
noncomputable def asC0_15 : Asm := asC0_13.add .gtr (.at 2) (.lit 8) false
noncomputable def asC0_16 : Asm := asC0_15.add .lss (.at 3) (.lit 1) true
noncomputable def trC0_16 : ATree := (.leaf (.int .i64 (.lit 10)))
theorem hC0_16 : ATree.check runC0 trC0_16 asC0_16 = true := C0_6
noncomputable def asC0_17 : Asm := asC0_15.add .lss (.at 3) (.lit 1) false
noncomputable def asC0_18 : Asm := asC0_17.add .gtr (.at 3) (.lit 4) true
noncomputable def trC0_18 : ATree := (.leaf (.int .i64 (.lit 10)))
theorem hC0_18 : ATree.check runC0 trC0_18 asC0_18 = true := C0_7
noncomputable def asC0_19 : Asm := asC0_17.add .gtr (.at 3) (.lit 4) false
noncomputable def asC0_20 : Asm := asC0_19.add .lss (.at 4) (.lit 1) true
noncomputable def trC0_20 : ATree := (.leaf (.int .i64 (.lit 10)))
theorem hC0_20 : ATree.check runC0 trC0_20 asC0_20 = true := C0_8
noncomputable def asC0_21 : Asm := asC0_19.add .lss (.at 4) (.lit 1) false
noncomputable def asC0_22 : Asm := asC0_21.add .gtr (.at 4) (.lit 16) true
noncomputable def trC0_22 : ATree := (.leaf (.int .i64 (.lit 10)))
theorem hC0_22 : ATree.check runC0 trC0_22 asC0_22 = true := C0_9
noncomputable def asC0_23 : Asm := asC0_21.add .gtr (.at 4) (.lit 16) false
noncomputable def asC0_24 : Asm := asC0_23.add .lss (.at 5) (.lit 1) true
noncomputable def trC0_24 : ATree := (.leaf (.int .i64 (.lit 10)))
theorem hC0_24 : ATree.check runC0 trC0_24 asC0_24 = true := C0_10
noncomputable def asC0_25 : Asm := asC0_23.add .lss (.at 5) (.lit 1) false
noncomputable def asC0_26 : Asm := asC0_25.add .gtr (.at 5) (.lit 8) true
noncomputable def trC0_26 : ATree := (.leaf (.int .i64 (.lit 10)))
theorem hC0_26 : ATree.check runC0 trC0_26 asC0_26 = true := C0_11
noncomputable def asC0_27 : Asm := asC0_25.add .gtr (.at 5) (.lit 8) false
noncomputable def asC0_28 : Asm := asC0_27.add .lss (.at 6) (.lit 1) true
noncomputable def trC0_28 : ATree := (.leaf (.int .i64 (.lit 10)))
theorem hC0_28 : ATree.check runC0 trC0_28 asC0_28 = true := C0_12
noncomputable def asC0_29 : Asm := asC0_27.add .lss (.at 6) (.lit 1) false
noncomputable def asC0_30 : Asm := asC0_29.add .gtr (.at 6) (.lit 4) true
noncomputable def trC0_30 : ATree := (.leaf (.int .i64 (.lit 10)))
theorem hC0_30 : ATree.check runC0 trC0_30 asC0_30 = true := C0_13
noncomputable def asC0_31 : Asm := asC0_29.add .gtr (.at 6) (.lit 4) false
noncomputable def asC0_32 : Asm := asC0_31.add .eql (.at 7) (.lit 1) true
noncomputable def asC0_33 : Asm := asC0_32.add .geq (.at 8) (.lit 0) true
noncomputable def asC0_34 : Asm := asC0_33.add .leq (.at 8) (.bin .sub .i64 (.at 0) (.lit 1)) true
noncomputable def asC0_35 : Asm := asC0_34.add .geq (.at 9) (.lit 0) true
noncomputable def trC0_35 : ATree := (.node .leq (.at 9) (.bin .sub .i64 (.bin .mul .i64 (.at 1) (.lit 2)) (.lit 1)) (.node .geq (.at 10) (.lit 0) (.node .leq (.at 10) (.lit 3) (.node .eql (.at 11) (.lit 0) (.node .eql (.at 12) (.lit 0) (.node .eql (.at 13) (.lit 0) (.node .eql (.at 14) (.lit 0) (.leaf (.int .i64 (.lit 0))) (.leaf (.int .i64 (.lit 10)))) (.leaf (.int .i64 (.lit 10)))) (.leaf (.int .i64 (.lit 10)))) (.leaf (.int .i64 (.lit 10)))) (.leaf (.int .i64 (.lit 10)))) (.leaf (.int .i64 (.lit 10)))) (.leaf (.int .i64 (.lit 10))))
theorem hC0_35 : ATree.check runC0 trC0_35 asC0_35 = true := C0_14
noncomputable def asC0_36 : Asm := asC0_34.add .geq (.at 9) (.lit 0) false
noncomputable def trC0_36 : ATree := (.leaf (.int .i64 (.lit 10)))
theorem hC0_36 : ATree.check runC0 trC0_36 asC0_36 = true := C0_15
noncomputable def trC0_34 : ATree := .node .geq (.at 9) (.lit 0) trC0_35 trC0_36
theorem hC0_34 : ATree.check runC0 trC0_34 asC0_34 = true := by
  show (ATree.check runC0 trC0_35 asC0_35 && ATree.check runC0 trC0_36 asC0_36) = true
  rw [hC0_35, hC0_36]; rfl
noncomputable def asC0_37 : Asm := asC0_33.add .leq (.at 8) (.bin .sub .i64 (.at 0) (.lit 1)) false
noncomputable def trC0_37 : ATree := (.leaf (.int .i64 (.lit 10)))
theorem hC0_37 : ATree.check runC0 trC0_37 asC0_37 = true := C0_16
noncomputable def trC0_33 : ATree := .node .leq (.at 8) (.bin .sub .i64 (.at 0) (.lit 1)) trC0_34 trC0_37
theorem hC0_33 : ATree.check runC0 trC0_33 asC0_33 = true := by
  show (ATree.check runC0 trC0_34 asC0_34 && ATree.check runC0 trC0_37 asC0_37) = true
  rw [hC0_34, hC0_37]; rfl
noncomputable def asC0_38 : Asm := asC0_32.add .geq (.at 8) (.lit 0) false
noncomputable def trC0_38 : ATree := (.leaf (.int .i64 (.lit 10)))
theorem hC0_38 : ATree.check runC0 trC0_38 asC0_38 = true := C0_17
noncomputable def trC0_32 : ATree := .node .geq (.at 8) (.lit 0) trC0_33 trC0_38
theorem hC0_32 : ATree.check runC0 trC0_32 asC0_32 = true := by
  show (ATree.check runC0 trC0_33 asC0_33 && ATree.check runC0 trC0_38 asC0_38) = true
  rw [hC0_33, hC0_38]; rfl
noncomputable def asC0_39 : Asm := asC0_31.add .eql (.at 7) (.lit 1) false
noncomputable def asC0_40 : Asm := asC0_39.add .eql (.at 7) (.lit 2) true
noncomputable def asC0_41 : Asm := asC0_40.add .geq (.at 8) (.lit 0) true
noncomputable def asC0_42 : Asm := asC0_41.add .leq (.at 8) (.bin .sub .i64 (.at 0) (.lit 1)) true
noncomputable def asC0_43 : Asm := asC0_42.add .geq (.at 9) (.lit 0) true
noncomputable def trC0_43 : ATree := (.node .leq (.at 9) (.bin .sub .i64 (.bin .mul .i64 (.at 1) (.lit 2)) (.lit 1)) (.node .geq (.at 10) (.lit 0) (.node .leq (.at 10) (.lit 3) (.node .eql (.at 11) (.lit 0) (.node .eql (.at 12) (.lit 0) (.node .eql (.at 13) (.lit 0) (.node .eql (.at 14) (.lit 0) (.leaf (.int .i64 (.lit 0))) (.leaf (.int .i64 (.lit 10)))) (.leaf (.int .i64 (.lit 10)))) (.leaf (.int .i64 (.lit 10)))) (.leaf (.int .i64 (.lit 10)))) (.leaf (.int .i64 (.lit 10)))) (.leaf (.int .i64 (.lit 10)))) (.leaf (.int .i64 (.lit 10))))
theorem hC0_43 : ATree.check runC0 trC0_43 asC0_43 = true := C0_18
noncomputable def asC0_44 : Asm := asC0_42.add .geq (.at 9) (.lit 0) false
noncomputable def trC0_44 : ATree := (.leaf (.int .i64 (.lit 10)))
theorem hC0_44 : ATree.check runC0 trC0_44 asC0_44 = true := C0_19
noncomputable def trC0_42 : ATree := .node .geq (.at 9) (.lit 0) trC0_43 trC0_44
theorem hC0_42 : ATree.check runC0 trC0_42 asC0_42 = true := by
  show (ATree.check runC0 trC0_43 asC0_43 && ATree.check runC0 trC0_44 asC0_44) = true
  rw [hC0_43, hC0_44]; rfl
noncomputable def asC0_45 : Asm := asC0_41.add .leq (.at 8) (.bin .sub .i64 (.at 0) (.lit 1)) false
noncomputable def trC0_45 : ATree := (.leaf (.int .i64 (.lit 10)))
theorem hC0_45 : ATree.check runC0 trC0_45 asC0_45 = true := C0_20
noncomputable def trC0_41 : ATree := .node .leq (.at 8) (.bin .sub .i64 (.at 0) (.lit 1)) trC0_42 trC0_45
theorem hC0_41 : ATree.check runC0 trC0_41 asC0_41 = true := by
  show (ATree.check runC0 trC0_42 asC0_42 && ATree.check runC0 trC0_45 asC0_45) = true
  rw [hC0_42, hC0_45]; rfl
noncomputable def asC0_46 : Asm := asC0_40.add .geq (.at 8) (.lit 0) false
noncomputable def trC0_46 : ATree := (.leaf (.int .i64 (.lit 10)))
theorem hC0_46 : ATree.check runC0 trC0_46 asC0_46 = true := C0_21
noncomputable def trC0_40 : ATree := .node .geq (.at 8) (.lit 0) trC0_41 trC0_46
theorem hC0_40 : ATree.check runC0 trC0_40 asC0_40 = true := by
  show (ATree.check runC0 trC0_41 asC0_41 && ATree.check runC0 trC0_46 asC0_46) = true
  rw [hC0_41, hC0_46]; rfl
noncomputable def asC0_47 : Asm := asC0_39.add .eql (.at 7) (.lit 2) false
noncomputable def asC0_48 : Asm := asC0_47.add .eql (.at 7) (.lit 3) true
noncomputable def asC0_49 : Asm := asC0_48.add .geq (.at 8) (.lit 0) true
noncomputable def trC0_49 : ATree := (.node .leq (.at 8) (.bin .sub .i64 (.at 0) (.lit 1)) (.node .geq (.at 9) (.lit 0) (.node .leq (.at 9) (.bin .sub .i64 (.bin .mul .i64 (.at 1) (.lit 2)) (.lit 1)) (.node .geq (.at 10) (.lit 0) (.node .leq (.at 10) (.lit 4) (.node .eql (.at 11) (.lit 0) (.node .eql (.at 14) (.lit 0) (.leaf (.int .i64 (.lit 0))) (.leaf (.int .i64 (.lit 10)))) (.leaf (.int .i64 (.lit 10)))) (.leaf (.int .i64 (.lit 10)))) (.leaf (.int .i64 (.lit 10)))) (.leaf (.int .i64 (.lit 10)))) (.leaf (.int .i64 (.lit 10)))) (.leaf (.int .i64 (.lit 10))))
theorem hC0_49 : ATree.check runC0 trC0_49 asC0_49 = true := C0_22
noncomputable def asC0_50 : Asm := asC0_48.add .geq (.at 8) (.lit 0) false
noncomputable def trC0_50 : ATree := (.leaf (.int .i64 (.lit 10)))
theorem hC0_50 : ATree.check runC0 trC0_50 asC0_50 = true := C0_23
noncomputable def trC0_48 : ATree := .node .geq (.at 8) (.lit 0) trC0_49 trC0_50
theorem hC0_48 : ATree.check runC0 trC0_48 asC0_48 = true := by
  show (ATree.check runC0 trC0_49 asC0_49 && ATree.check runC0 trC0_50 asC0_50) = true
  rw [hC0_49, hC0_50]; rfl
noncomputable def asC0_51 : Asm := asC0_47.add .eql (.at 7) (.lit 3) false
noncomputable def asC0_52 : Asm := asC0_51.add .eql (.at 7) (.lit 4) true
noncomputable def asC0_53 : Asm := asC0_52.add .geq (.at 8) (.lit 0) true
noncomputable def asC0_54 : Asm := asC0_53.add .leq (.at 8) (.bin .sub .i64 (.at 0) (.lit 1)) true
noncomputable def trC0_54 : ATree := (.node .geq (.at 9) (.lit 0) (.node .leq (.at 9) (.bin .sub .i64 (.bin .mul .i64 (.at 1) (.lit 2)) (.lit 1)) (.node .eql (.at 10) (.lit 0) (.node .eql (.at 11) (.lit 0) (.node .eql (.at 12) (.lit 0) (.node .eql (.at 13) (.lit 0) (.node .eql (.at 14) (.lit 0) (.leaf (.int .i64 (.lit 0))) (.leaf (.int .i64 (.lit 10)))) (.leaf (.int .i64 (.lit 10)))) (.leaf (.int .i64 (.lit 10)))) (.leaf (.int .i64 (.lit 10)))) (.leaf (.int .i64 (.lit 10)))) (.leaf (.int .i64 (.lit 10)))) (.leaf (.int .i64 (.lit 10))))
theorem hC0_54 : ATree.check runC0 trC0_54 asC0_54 = true := C0_24
noncomputable def asC0_55 : Asm := asC0_53.add .leq (.at 8) (.bin .sub .i64 (.at 0) (.lit 1)) false
noncomputable def trC0_55 : ATree := (.leaf (.int .i64 (.lit 10)))
theorem hC0_55 : ATree.check runC0 trC0_55 asC0_55 = true := C0_25
noncomputable def trC0_53 : ATree := .node .leq (.at 8) (.bin .sub .i64 (.at 0) (.lit 1)) trC0_54 trC0_55
theorem hC0_53 : ATree.check runC0 trC0_53 asC0_53 = true := by
  show (ATree.check runC0 trC0_54 asC0_54 && ATree.check runC0 trC0_55 asC0_55) = true
  rw [hC0_54, hC0_55]; rfl
noncomputable def asC0_56 : Asm := asC0_52.add .geq (.at 8) (.lit 0) false
noncomputable def trC0_56 : ATree := (.leaf (.int .i64 (.lit 10)))
theorem hC0_56 : ATree.check runC0 trC0_56 asC0_56 = true := C0_26
noncomputable def trC0_52 : ATree := .node .geq (.at 8) (.lit 0) trC0_53 trC0_56
theorem hC0_52 : ATree.check runC0 trC0_52 asC0_52 = true := by
  show (ATree.check runC0 trC0_53 asC0_53 && ATree.check runC0 trC0_56 asC0_56) = true
  rw [hC0_53, hC0_56]; rfl
noncomputable def asC0_57 : Asm := asC0_51.add .eql (.at 7) (.lit 4) false
noncomputable def asC0_58 : Asm := asC0_57.add .eql (.at 7) (.lit 5) true
noncomputable def asC0_59 : Asm := asC0_58.add .geq (.at 8) (.lit 0) true
noncomputable def asC0_60 : Asm := asC0_59.add .leq (.at 8) (.bin .sub .i64 (.at 0) (.lit 1)) true
noncomputable def trC0_60 : ATree := (.node .geq (.at 9) (.lit 0) (.node .leq (.at 9) (.bin .sub .i64 (.bin .mul .i64 (.at 1) (.lit 2)) (.lit 1)) (.node .geq (.at 11) (.lit 0) (.node .leq (.at 11) (.lit 4) (.node .geq (.at 14) (.lit 0) (.node .leq (.at 14) (.lit 1) (.node .eql (.at 10) (.lit 0) (.leaf (.int .i64 (.lit 0))) (.leaf (.int .i64 (.lit 10)))) (.leaf (.int .i64 (.lit 10)))) (.leaf (.int .i64 (.lit 10)))) (.leaf (.int .i64 (.lit 10)))) (.leaf (.int .i64 (.lit 10)))) (.leaf (.int .i64 (.lit 10)))) (.leaf (.int .i64 (.lit 10))))
theorem hC0_60 : ATree.check runC0 trC0_60 asC0_60 = true := C0_27
noncomputable def asC0_61 : Asm := asC0_59.add .leq (.at 8) (.bin .sub .i64 (.at 0) (.lit 1)) false
noncomputable def trC0_61 : ATree := (.leaf (.int .i64 (.lit 10)))
theorem hC0_61 : ATree.check runC0 trC0_61 asC0_61 = true := C0_28
noncomputable def trC0_59 : ATree := .node .leq (.at 8) (.bin .sub .i64 (.at 0) (.lit 1)) trC0_60 trC0_61
theorem hC0_59 : ATree.check runC0 trC0_59 asC0_59 = true := by
  show (ATree.check runC0 trC0_60 asC0_60 && ATree.check runC0 trC0_61 asC0_61) = true
  rw [hC0_60, hC0_61]; rfl
noncomputable def asC0_62 : Asm := asC0_58.add .geq (.at 8) (.lit 0) false
noncomputable def trC0_62 : ATree := (.leaf (.int .i64 (.lit 10)))
theorem hC0_62 : ATree.check runC0 trC0_62 asC0_62 = true := C0_29
noncomputable def trC0_58 : ATree := .node .geq (.at 8) (.lit 0) trC0_59 trC0_62
theorem hC0_58 : ATree.check runC0 trC0_58 asC0_58 = true := by
  show (ATree.check runC0 trC0_59 asC0_59 && ATree.check runC0 trC0_62 asC0_62) = true
  rw [hC0_59, hC0_62]; rfl
noncomputable def asC0_63 : Asm := asC0_57.add .eql (.at 7) (.lit 5) false
noncomputable def asC0_64 : Asm := asC0_63.add .eql (.at 7) (.lit 6) true
noncomputable def asC0_65 : Asm := asC0_64.add .geq (.at 8) (.lit 0) true
noncomputable def asC0_66 : Asm := asC0_65.add .leq (.at 8) (.bin .sub .i64 (.at 0) (.lit 1)) true
noncomputable def trC0_66 : ATree := (.node .geq (.at 14) (.lit 0) (.node .leq (.at 14) (.lit 19) (.node .eql (.at 9) (.lit 0) (.node .eql (.at 10) (.lit 0) (.node .eql (.at 11) (.lit 0) (.node .eql (.at 12) (.lit 0) (.node .eql (.at 13) (.lit 0) (.leaf (.int .i64 (.lit 0))) (.leaf (.int .i64 (.lit 10)))) (.leaf (.int .i64 (.lit 10)))) (.leaf (.int .i64 (.lit 10)))) (.leaf (.int .i64 (.lit 10)))) (.leaf (.int .i64 (.lit 10)))) (.leaf (.int .i64 (.lit 10)))) (.leaf (.int .i64 (.lit 10))))
theorem hC0_66 : ATree.check runC0 trC0_66 asC0_66 = true := C0_30
noncomputable def asC0_67 : Asm := asC0_65.add .leq (.at 8) (.bin .sub .i64 (.at 0) (.lit 1)) false
noncomputable def trC0_67 : ATree := (.leaf (.int .i64 (.lit 10)))
theorem hC0_67 : ATree.check runC0 trC0_67 asC0_67 = true := C0_31
noncomputable def trC0_65 : ATree := .node .leq (.at 8) (.bin .sub .i64 (.at 0) (.lit 1)) trC0_66 trC0_67
theorem hC0_65 : ATree.check runC0 trC0_65 asC0_65 = true := by
  show (ATree.check runC0 trC0_66 asC0_66 && ATree.check runC0 trC0_67 asC0_67) = true
  rw [hC0_66, hC0_67]; rfl
noncomputable def asC0_68 : Asm := asC0_64.add .geq (.at 8) (.lit 0) false
noncomputable def trC0_68 : ATree := (.leaf (.int .i64 (.lit 10)))
theorem hC0_68 : ATree.check runC0 trC0_68 asC0_68 = true := C0_32
noncomputable def trC0_64 : ATree := .node .geq (.at 8) (.lit 0) trC0_65 trC0_68
theorem hC0_64 : ATree.check runC0 trC0_64 asC0_64 = true := by
  show (ATree.check runC0 trC0_65 asC0_65 && ATree.check runC0 trC0_68 asC0_68) = true
  rw [hC0_65, hC0_68]; rfl
noncomputable def asC0_69 : Asm := asC0_63.add .eql (.at 7) (.lit 6) false
noncomputable def asC0_70 : Asm := asC0_69.add .eql (.at 7) (.lit 7) true
noncomputable def asC0_71 : Asm := asC0_70.add .geq (.at 8) (.lit 0) true
noncomputable def asC0_72 : Asm := asC0_71.add .leq (.at 8) (.bin .sub .i64 (.at 0) (.lit 1)) true
noncomputable def trC0_72 : ATree := (.node .geq (.at 14) (.lit 0) (.node .leq (.at 14) (.bin .sub .i64 (.at 1) (.lit 1)) (.node .eql (.at 9) (.lit 0) (.node .eql (.at 10) (.lit 0) (.node .eql (.at 11) (.lit 0) (.node .eql (.at 12) (.lit 0) (.node .eql (.at 13) (.lit 0) (.leaf (.int .i64 (.lit 0))) (.leaf (.int .i64 (.lit 10)))) (.leaf (.int .i64 (.lit 10)))) (.leaf (.int .i64 (.lit 10)))) (.leaf (.int .i64 (.lit 10)))) (.leaf (.int .i64 (.lit 10)))) (.leaf (.int .i64 (.lit 10)))) (.leaf (.int .i64 (.lit 10))))
theorem hC0_72 : ATree.check runC0 trC0_72 asC0_72 = true := C0_33
noncomputable def asC0_73 : Asm := asC0_71.add .leq (.at 8) (.bin .sub .i64 (.at 0) (.lit 1)) false
noncomputable def trC0_73 : ATree := (.leaf (.int .i64 (.lit 10)))
theorem hC0_73 : ATree.check runC0 trC0_73 asC0_73 = true := C0_34
noncomputable def trC0_71 : ATree := .node .leq (.at 8) (.bin .sub .i64 (.at 0) (.lit 1)) trC0_72 trC0_73
theorem hC0_71 : ATree.check runC0 trC0_71 asC0_71 = true := by
  show (ATree.check runC0 trC0_72 asC0_72 && ATree.check runC0 trC0_73 asC0_73) = true
  rw [hC0_72, hC0_73]; rfl
noncomputable def asC0_74 : Asm := asC0_70.add .geq (.at 8) (.lit 0) false
noncomputable def trC0_74 : ATree := (.leaf (.int .i64 (.lit 10)))
theorem hC0_74 : ATree.check runC0 trC0_74 asC0_74 = true := C0_35
noncomputable def trC0_70 : ATree := .node .geq (.at 8) (.lit 0) trC0_71 trC0_74
theorem hC0_70 : ATree.check runC0 trC0_70 asC0_70 = true := by
  show (ATree.check runC0 trC0_71 asC0_71 && ATree.check runC0 trC0_74 asC0_74) = true
  rw [hC0_71, hC0_74]; rfl
noncomputable def asC0_75 : Asm := asC0_69.add .eql (.at 7) (.lit 7) false
noncomputable def asC0_76 : Asm := asC0_75.add .eql (.at 7) (.lit 8) true
noncomputable def asC0_77 : Asm := asC0_76.add .geq (.at 8) (.lit 0) true
noncomputable def asC0_78 : Asm := asC0_77.add .leq (.at 8) (.bin .sub .i64 (.at 0) (.lit 1)) true
noncomputable def asC0_79 : Asm := asC0_78.add .geq (.at 9) (.lit 0) true
noncomputable def asC0_80 : Asm := asC0_79.add .leq (.at 9) (.bin .sub .i64 (.bin .mul .i64 (.at 1) (.lit 2)) (.lit 1)) true
noncomputable def asC0_81 : Asm := asC0_80.add .geq (.at 10) (.lit 0) true
noncomputable def trC0_81 : ATree := (.node .leq (.at 10) (.lit 4) (.node .eql (.at 11) (.lit 1) (.node .eql (.at 14) (.lit 0) (.leaf (.int .i64 (.lit 0))) (.leaf (.int .i64 (.lit 10)))) (.node .eql (.at 11) (.lit 2) (.node .eql (.at 14) (.lit 0) (.leaf (.int .i64 (.lit 0))) (.leaf (.int .i64 (.lit 10)))) (.node .eql (.at 11) (.lit 4) (.node .eql (.at 14) (.lit 0) (.leaf (.int .i64 (.lit 0))) (.leaf (.int .i64 (.lit 10)))) (.leaf (.int .i64 (.lit 10)))))) (.leaf (.int .i64 (.lit 10))))
theorem hC0_81 : ATree.check runC0 trC0_81 asC0_81 = true := C0_36
noncomputable def asC0_82 : Asm := asC0_80.add .geq (.at 10) (.lit 0) false
noncomputable def trC0_82 : ATree := (.leaf (.int .i64 (.lit 10)))
theorem hC0_82 : ATree.check runC0 trC0_82 asC0_82 = true := C0_37
noncomputable def trC0_80 : ATree := .node .geq (.at 10) (.lit 0) trC0_81 trC0_82
theorem hC0_80 : ATree.check runC0 trC0_80 asC0_80 = true := by
  show (ATree.check runC0 trC0_81 asC0_81 && ATree.check runC0 trC0_82 asC0_82) = true
  rw [hC0_81, hC0_82]; rfl
noncomputable def asC0_83 : Asm := asC0_79.add .leq (.at 9) (.bin .sub .i64 (.bin .mul .i64 (.at 1) (.lit 2)) (.lit 1)) false
noncomputable def trC0_83 : ATree := (.leaf (.int .i64 (.lit 10)))
theorem hC0_83 : ATree.check runC0 trC0_83 asC0_83 = true := C0_38
noncomputable def trC0_79 : ATree := .node .leq (.at 9) (.bin .sub .i64 (.bin .mul .i64 (.at 1) (.lit 2)) (.lit 1)) trC0_80 trC0_83
theorem hC0_79 : ATree.check runC0 trC0_79 asC0_79 = true := by
  show (ATree.check runC0 trC0_80 asC0_80 && ATree.check runC0 trC0_83 asC0_83) = true
  rw [hC0_80, hC0_83]; rfl
noncomputable def asC0_84 : Asm := asC0_78.add .geq (.at 9) (.lit 0) false
noncomputable def trC0_84 : ATree := (.leaf (.int .i64 (.lit 10)))
theorem hC0_84 : ATree.check runC0 trC0_84 asC0_84 = true := C0_39
noncomputable def trC0_78 : ATree := .node .geq (.at 9) (.lit 0) trC0_79 trC0_84
theorem hC0_78 : ATree.check runC0 trC0_78 asC0_78 = true := by
  show (ATree.check runC0 trC0_79 asC0_79 && ATree.check runC0 trC0_84 asC0_84) = true
  rw [hC0_79, hC0_84]; rfl
noncomputable def asC0_85 : Asm := asC0_77.add .leq (.at 8) (.bin .sub .i64 (.at 0) (.lit 1)) false
noncomputable def trC0_85 : ATree := (.leaf (.int .i64 (.lit 10)))
theorem hC0_85 : ATree.check runC0 trC0_85 asC0_85 = true := C0_40
noncomputable def trC0_77 : ATree := .node .leq (.at 8) (.bin .sub .i64 (.at 0) (.lit 1)) trC0_78 trC0_85
theorem hC0_77 : ATree.check runC0 trC0_77 asC0_77 = true := by
  show (ATree.check runC0 trC0_78 asC0_78 && ATree.check runC0 trC0_85 asC0_85) = true
  rw [hC0_78, hC0_85]; rfl
noncomputable def asC0_86 : Asm := asC0_76.add .geq (.at 8) (.lit 0) false
noncomputable def trC0_86 : ATree := (.leaf (.int .i64 (.lit 10)))
theorem hC0_86 : ATree.check runC0 trC0_86 asC0_86 = true := C0_41
noncomputable def trC0_76 : ATree := .node .geq (.at 8) (.lit 0) trC0_77 trC0_86
theorem hC0_76 : ATree.check runC0 trC0_76 asC0_76 = true := by
  show (ATree.check runC0 trC0_77 asC0_77 && ATree.check runC0 trC0_86 asC0_86) = true
  rw [hC0_77, hC0_86]; rfl
noncomputable def asC0_87 : Asm := asC0_75.add .eql (.at 7) (.lit 8) false
noncomputable def asC0_88 : Asm := asC0_87.add .eql (.at 7) (.lit 9) true
noncomputable def asC0_89 : Asm := asC0_88.add .geq (.at 8) (.lit 0) true
noncomputable def asC0_90 : Asm := asC0_89.add .leq (.at 8) (.bin .sub .i64 (.at 0) (.lit 1)) true
noncomputable def asC0_91 : Asm := asC0_90.add .geq (.at 9) (.lit 0) true
noncomputable def trC0_91 : ATree := (.node .leq (.at 9) (.bin .sub .i64 (.bin .mul .i64 (.at 1) (.lit 2)) (.lit 1)) (.node .geq (.at 14) (.lit 0) (.node .leq (.at 14) (.lit 1) (.node .eql (.at 10) (.lit 0) (.node .eql (.at 11) (.lit 0) (.node .eql (.at 12) (.lit 0) (.node .eql (.at 13) (.lit 0) (.leaf (.int .i64 (.lit 0))) (.leaf (.int .i64 (.lit 10)))) (.leaf (.int .i64 (.lit 10)))) (.leaf (.int .i64 (.lit 10)))) (.leaf (.int .i64 (.lit 10)))) (.leaf (.int .i64 (.lit 10)))) (.leaf (.int .i64 (.lit 10)))) (.leaf (.int .i64 (.lit 10))))
theorem hC0_91 : ATree.check runC0 trC0_91 asC0_91 = true := C0_42
noncomputable def asC0_92 : Asm := asC0_90.add .geq (.at 9) (.lit 0) false
noncomputable def trC0_92 : ATree := (.leaf (.int .i64 (.lit 10)))
theorem hC0_92 : ATree.check runC0 trC0_92 asC0_92 = true := C0_43
noncomputable def trC0_90 : ATree := .node .geq (.at 9) (.lit 0) trC0_91 trC0_92
theorem hC0_90 : ATree.check runC0 trC0_90 asC0_90 = true := by
  show (ATree.check runC0 trC0_91 asC0_91 && ATree.check runC0 trC0_92 asC0_92) = true
  rw [hC0_91, hC0_92]; rfl
noncomputable def asC0_93 : Asm := asC0_89.add .leq (.at 8) (.bin .sub .i64 (.at 0) (.lit 1)) false
noncomputable def trC0_93 : ATree := (.leaf (.int .i64 (.lit 10)))
theorem hC0_93 : ATree.check runC0 trC0_93 asC0_93 = true := C0_44
noncomputable def trC0_89 : ATree := .node .leq (.at 8) (.bin .sub .i64 (.at 0) (.lit 1)) trC0_90 trC0_93
theorem hC0_89 : ATree.check runC0 trC0_89 asC0_89 = true := by
  show (ATree.check runC0 trC0_90 asC0_90 && ATree.check runC0 trC0_93 asC0_93) = true
  rw [hC0_90, hC0_93]; rfl
noncomputable def asC0_94 : Asm := asC0_88.add .geq (.at 8) (.lit 0) false
noncomputable def trC0_94 : ATree := (.leaf (.int .i64 (.lit 10)))
theorem hC0_94 : ATree.check runC0 trC0_94 asC0_94 = true := C0_45
noncomputable def trC0_88 : ATree := .node .geq (.at 8) (.lit 0) trC0_89 trC0_94
theorem hC0_88 : ATree.check runC0 trC0_88 asC0_88 = true := by
  show (ATree.check runC0 trC0_89 asC0_89 && ATree.check runC0 trC0_94 asC0_94) = true
  rw [hC0_89, hC0_94]; rfl
noncomputable def asC0_95 : Asm := asC0_87.add .eql (.at 7) (.lit 9) false
noncomputable def asC0_96 : Asm := asC0_95.add .eql (.at 7) (.lit 10) true
noncomputable def asC0_97 : Asm := asC0_96.add .geq (.at 8) (.lit 0) true
noncomputable def asC0_98 : Asm := asC0_97.add .leq (.at 8) (.bin .sub .i64 (.at 0) (.lit 1)) true
noncomputable def trC0_98 : ATree := (.node .geq (.at 9) (.lit 0) (.node .leq (.at 9) (.bin .sub .i64 (.bin .mul .i64 (.at 1) (.lit 2)) (.lit 1)) (.node .eql (.at 10) (.lit 0) (.node .eql (.at 11) (.lit 0) (.node .eql (.at 12) (.lit 0) (.node .eql (.at 13) (.lit 0) (.node .eql (.at 14) (.lit 0) (.leaf (.int .i64 (.lit 0))) (.leaf (.int .i64 (.lit 10)))) (.leaf (.int .i64 (.lit 10)))) (.leaf (.int .i64 (.lit 10)))) (.leaf (.int .i64 (.lit 10)))) (.leaf (.int .i64 (.lit 10)))) (.leaf (.int .i64 (.lit 10)))) (.leaf (.int .i64 (.lit 10))))
theorem hC0_98 : ATree.check runC0 trC0_98 asC0_98 = true := C0_46
noncomputable def asC0_99 : Asm := asC0_97.add .leq (.at 8) (.bin .sub .i64 (.at 0) (.lit 1)) false
noncomputable def trC0_99 : ATree := (.leaf (.int .i64 (.lit 10)))
theorem hC0_99 : ATree.check runC0 trC0_99 asC0_99 = true := C0_47
noncomputable def trC0_97 : ATree := .node .leq (.at 8) (.bin .sub .i64 (.at 0) (.lit 1)) trC0_98 trC0_99
theorem hC0_97 : ATree.check runC0 trC0_97 asC0_97 = true := by
  show (ATree.check runC0 trC0_98 asC0_98 && ATree.check runC0 trC0_99 asC0_99) = true
  rw [hC0_98, hC0_99]; rfl
noncomputable def asC0_100 : Asm := asC0_96.add .geq (.at 8) (.lit 0) false
noncomputable def trC0_100 : ATree := (.leaf (.int .i64 (.lit 10)))
theorem hC0_100 : ATree.check runC0 trC0_100 asC0_100 = true := C0_48
noncomputable def trC0_96 : ATree := .node .geq (.at 8) (.lit 0) trC0_97 trC0_100
theorem hC0_96 : ATree.check runC0 trC0_96 asC0_96 = true := by
  show (ATree.check runC0 trC0_97 asC0_97 && ATree.check runC0 trC0_100 asC0_100) = true
  rw [hC0_97, hC0_100]; rfl
noncomputable def asC0_101 : Asm := asC0_95.add .eql (.at 7) (.lit 10) false
noncomputable def asC0_102 : Asm := asC0_101.add .eql (.at 7) (.lit 11) true
noncomputable def asC0_103 : Asm := asC0_102.add .geq (.at 8) (.lit 0) true
noncomputable def asC0_104 : Asm := asC0_103.add .leq (.at 8) (.bin .sub .i64 (.at 0) (.lit 1)) true
noncomputable def asC0_105 : Asm := asC0_104.add .geq (.at 9) (.lit 0) true
noncomputable def trC0_105 : ATree := (.node .leq (.at 9) (.bin .sub .i64 (.bin .mul .i64 (.at 1) (.lit 2)) (.lit 1)) (.node .geq (.at 11) (.lit 0) (.node .leq (.at 11) (.lit 1) (.node .eql (.at 10) (.lit 0) (.node .eql (.at 12) (.lit 0) (.node .eql (.at 13) (.lit 0) (.node .eql (.at 14) (.lit 0) (.leaf (.int .i64 (.lit 0))) (.leaf (.int .i64 (.lit 10)))) (.leaf (.int .i64 (.lit 10)))) (.leaf (.int .i64 (.lit 10)))) (.leaf (.int .i64 (.lit 10)))) (.leaf (.int .i64 (.lit 10)))) (.leaf (.int .i64 (.lit 10)))) (.leaf (.int .i64 (.lit 10))))
theorem hC0_105 : ATree.check runC0 trC0_105 asC0_105 = true := C0_49
noncomputable def asC0_106 : Asm := asC0_104.add .geq (.at 9) (.lit 0) false
noncomputable def trC0_106 : ATree := (.leaf (.int .i64 (.lit 10)))
theorem hC0_106 : ATree.check runC0 trC0_106 asC0_106 = true := C0_50
noncomputable def trC0_104 : ATree := .node .geq (.at 9) (.lit 0) trC0_105 trC0_106
theorem hC0_104 : ATree.check runC0 trC0_104 asC0_104 = true := by
  show (ATree.check runC0 trC0_105 asC0_105 && ATree.check runC0 trC0_106 asC0_106) = true
  rw [hC0_105, hC0_106]; rfl
noncomputable def asC0_107 : Asm := asC0_103.add .leq (.at 8) (.bin .sub .i64 (.at 0) (.lit 1)) false
noncomputable def trC0_107 : ATree := (.leaf (.int .i64 (.lit 10)))
theorem hC0_107 : ATree.check runC0 trC0_107 asC0_107 = true := C0_51
noncomputable def trC0_103 : ATree := .node .leq (.at 8) (.bin .sub .i64 (.at 0) (.lit 1)) trC0_104 trC0_107
theorem hC0_103 : ATree.check runC0 trC0_103 asC0_103 = true := by
  show (ATree.check runC0 trC0_104 asC0_104 && ATree.check runC0 trC0_107 asC0_107) = true
  rw [hC0_104, hC0_107]; rfl
noncomputable def asC0_108 : Asm := asC0_102.add .geq (.at 8) (.lit 0) false
noncomputable def trC0_108 : ATree := (.leaf (.int .i64 (.lit 10)))
theorem hC0_108 : ATree.check runC0 trC0_108 asC0_108 = true := C0_52
noncomputable def trC0_102 : ATree := .node .geq (.at 8) (.lit 0) trC0_103 trC0_108
theorem hC0_102 : ATree.check runC0 trC0_102 asC0_102 = true := by
  show (ATree.check runC0 trC0_103 asC0_103 && ATree.check runC0 trC0_108 asC0_108) = true
  rw [hC0_103, hC0_108]; rfl
noncomputable def asC0_109 : Asm := asC0_101.add .eql (.at 7) (.lit 11) false
noncomputable def asC0_110 : Asm := asC0_109.add .eql (.at 7) (.lit 12) true
noncomputable def trC0_110 : ATree := (.node .geq (.at 8) (.lit 0) (.node .leq (.at 8) (.bin .sub .i64 (.at 0) (.lit 1)) (.node .geq (.at 14) (.lit 0) (.node .leq (.at 14) (.lit 19) (.node .eql (.at 9) (.lit 0) (.node .eql (.at 10) (.lit 0) (.node .eql (.at 11) (.lit 0) (.leaf (.int .i64 (.lit 0))) (.leaf (.int .i64 (.lit 10)))) (.leaf (.int .i64 (.lit 10)))) (.leaf (.int .i64 (.lit 10)))) (.leaf (.int .i64 (.lit 10)))) (.leaf (.int .i64 (.lit 10)))) (.leaf (.int .i64 (.lit 10)))) (.leaf (.int .i64 (.lit 10))))
theorem hC0_110 : ATree.check runC0 trC0_110 asC0_110 = true := C0_53
noncomputable def asC0_111 : Asm := asC0_109.add .eql (.at 7) (.lit 12) false
noncomputable def asC0_112 : Asm := asC0_111.add .geq (.at 8) (.lit 0) true
noncomputable def asC0_113 : Asm := asC0_112.add .leq (.at 8) (.bin .sub .i64 (.at 0) (.lit 1)) true
noncomputable def trC0_113 : ATree := (.node .geq (.at 14) (.lit 0) (.node .leq (.at 14) (.bin .sub .i64 (.at 1) (.lit 1)) (.node .eql (.at 9) (.lit 0) (.node .eql (.at 10) (.lit 0) (.node .eql (.at 11) (.lit 0) (.node .eql (.at 12) (.lit 0) (.node .eql (.at 13) (.lit 0) (.leaf (.int .i64 (.lit 0))) (.leaf (.int .i64 (.lit 10)))) (.leaf (.int .i64 (.lit 10)))) (.leaf (.int .i64 (.lit 10)))) (.leaf (.int .i64 (.lit 10)))) (.leaf (.int .i64 (.lit 10)))) (.leaf (.int .i64 (.lit 10)))) (.leaf (.int .i64 (.lit 10))))
theorem hC0_113 : ATree.check runC0 trC0_113 asC0_113 = true := C0_54
noncomputable def asC0_114 : Asm := asC0_112.add .leq (.at 8) (.bin .sub .i64 (.at 0) (.lit 1)) false
noncomputable def trC0_114 : ATree := (.leaf (.int .i64 (.lit 10)))
theorem hC0_114 : ATree.check runC0 trC0_114 asC0_114 = true := C0_55
noncomputable def trC0_112 : ATree := .node .leq (.at 8) (.bin .sub .i64 (.at 0) (.lit 1)) trC0_113 trC0_114
theorem hC0_112 : ATree.check runC0 trC0_112 asC0_112 = true := by
  show (ATree.check runC0 trC0_113 asC0_113 && ATree.check runC0 trC0_114 asC0_114) = true
  rw [hC0_113, hC0_114]; rfl
noncomputable def asC0_115 : Asm := asC0_111.add .geq (.at 8) (.lit 0) false
noncomputable def trC0_115 : ATree := (.leaf (.int .i64 (.lit 10)))
theorem hC0_115 : ATree.check runC0 trC0_115 asC0_115 = true := C0_56
noncomputable def trC0_111 : ATree := .node .geq (.at 8) (.lit 0) trC0_112 trC0_115
theorem hC0_111 : ATree.check runC0 trC0_111 asC0_111 = true := by
  show (ATree.check runC0 trC0_112 asC0_112 && ATree.check runC0 trC0_115 asC0_115) = true
  rw [hC0_112, hC0_115]; rfl
noncomputable def trC0_109 : ATree := .node .eql (.at 7) (.lit 12) trC0_110 trC0_111
theorem hC0_109 : ATree.check runC0 trC0_109 asC0_109 = true := by
  show (ATree.check runC0 trC0_110 asC0_110 && ATree.check runC0 trC0_111 asC0_111) = true
  rw [hC0_110, hC0_111]; rfl
noncomputable def trC0_101 : ATree := .node .eql (.at 7) (.lit 11) trC0_102 trC0_109
theorem hC0_101 : ATree.check runC0 trC0_101 asC0_101 = true := by
  show (ATree.check runC0 trC0_102 asC0_102 && ATree.check runC0 trC0_109 asC0_109) = true
  rw [hC0_102, hC0_109]; rfl
noncomputable def trC0_95 : ATree := .node .eql (.at 7) (.lit 10) trC0_96 trC0_101
theorem hC0_95 : ATree.check runC0 trC0_95 asC0_95 = true := by
  show (ATree.check runC0 trC0_96 asC0_96 && ATree.check runC0 trC0_101 asC0_101) = true
  rw [hC0_96, hC0_101]; rfl
noncomputable def trC0_87 : ATree := .node .eql (.at 7) (.lit 9) trC0_88 trC0_95
theorem hC0_87 : ATree.check runC0 trC0_87 asC0_87 = true := by
  show (ATree.check runC0 trC0_88 asC0_88 && ATree.check runC0 trC0_95 asC0_95) = true
  rw [hC0_88, hC0_95]; rfl
noncomputable def trC0_75 : ATree := .node .eql (.at 7) (.lit 8) trC0_76 trC0_87
theorem hC0_75 : ATree.check runC0 trC0_75 asC0_75 = true := by
  show (ATree.check runC0 trC0_76 asC0_76 && ATree.check runC0 trC0_87 asC0_87) = true
  rw [hC0_76, hC0_87]; rfl
noncomputable def trC0_69 : ATree := .node .eql (.at 7) (.lit 7) trC0_70 trC0_75
theorem hC0_69 : ATree.check runC0 trC0_69 asC0_69 = true := by
  show (ATree.check runC0 trC0_70 asC0_70 && ATree.check runC0 trC0_75 asC0_75) = true
  rw [hC0_70, hC0_75]; rfl
noncomputable def trC0_63 : ATree := .node .eql (.at 7) (.lit 6) trC0_64 trC0_69
theorem hC0_63 : ATree.check runC0 trC0_63 asC0_63 = true := by
  show (ATree.check runC0 trC0_64 asC0_64 && ATree.check runC0 trC0_69 asC0_69) = true
  rw [hC0_64, hC0_69]; rfl
noncomputable def trC0_57 : ATree := .node .eql (.at 7) (.lit 5) trC0_58 trC0_63
theorem hC0_57 : ATree.check runC0 trC0_57 asC0_57 = true := by
  show (ATree.check runC0 trC0_58 asC0_58 && ATree.check runC0 trC0_63 asC0_63) = true
  rw [hC0_58, hC0_63]; rfl
noncomputable def trC0_51 : ATree := .node .eql (.at 7) (.lit 4) trC0_52 trC0_57
theorem hC0_51 : ATree.check runC0 trC0_51 asC0_51 = true := by
  show (ATree.check runC0 trC0_52 asC0_52 && ATree.check runC0 trC0_57 asC0_57) = true
  rw [hC0_52, hC0_57]; rfl
noncomputable def trC0_47 : ATree := .node .eql (.at 7) (.lit 3) trC0_48 trC0_51
theorem hC0_47 : ATree.check runC0 trC0_47 asC0_47 = true := by
  show (ATree.check runC0 trC0_48 asC0_48 && ATree.check runC0 trC0_51 asC0_51) = true
  rw [hC0_48, hC0_51]; rfl
noncomputable def trC0_39 : ATree := .node .eql (.at 7) (.lit 2) trC0_40 trC0_47
theorem hC0_39 : ATree.check runC0 trC0_39 asC0_39 = true := by
  show (ATree.check runC0 trC0_40 asC0_40 && ATree.check runC0 trC0_47 asC0_47) = true
  rw [hC0_40, hC0_47]; rfl
noncomputable def trC0_31 : ATree := .node .eql (.at 7) (.lit 1) trC0_32 trC0_39
theorem hC0_31 : ATree.check runC0 trC0_31 asC0_31 = true := by
  show (ATree.check runC0 trC0_32 asC0_32 && ATree.check runC0 trC0_39 asC0_39) = true
  rw [hC0_32, hC0_39]; rfl
noncomputable def trC0_29 : ATree := .node .gtr (.at 6) (.lit 4) trC0_30 trC0_31
theorem hC0_29 : ATree.check runC0 trC0_29 asC0_29 = true := by
  show (ATree.check runC0 trC0_30 asC0_30 && ATree.check runC0 trC0_31 asC0_31) = true
  rw [hC0_30, hC0_31]; rfl
noncomputable def trC0_27 : ATree := .node .lss (.at 6) (.lit 1) trC0_28 trC0_29
theorem hC0_27 : ATree.check runC0 trC0_27 asC0_27 = true := by
  show (ATree.check runC0 trC0_28 asC0_28 && ATree.check runC0 trC0_29 asC0_29) = true
  rw [hC0_28, hC0_29]; rfl
noncomputable def trC0_25 : ATree := .node .gtr (.at 5) (.lit 8) trC0_26 trC0_27
theorem hC0_25 : ATree.check runC0 trC0_25 asC0_25 = true := by
  show (ATree.check runC0 trC0_26 asC0_26 && ATree.check runC0 trC0_27 asC0_27) = true
  rw [hC0_26, hC0_27]; rfl
noncomputable def trC0_23 : ATree := .node .lss (.at 5) (.lit 1) trC0_24 trC0_25
theorem hC0_23 : ATree.check runC0 trC0_23 asC0_23 = true := by
  show (ATree.check runC0 trC0_24 asC0_24 && ATree.check runC0 trC0_25 asC0_25) = true
  rw [hC0_24, hC0_25]; rfl
noncomputable def trC0_21 : ATree := .node .gtr (.at 4) (.lit 16) trC0_22 trC0_23
theorem hC0_21 : ATree.check runC0 trC0_21 asC0_21 = true := by
  show (ATree.check runC0 trC0_22 asC0_22 && ATree.check runC0 trC0_23 asC0_23) = true
  rw [hC0_22, hC0_23]; rfl
noncomputable def trC0_19 : ATree := .node .lss (.at 4) (.lit 1) trC0_20 trC0_21
theorem hC0_19 : ATree.check runC0 trC0_19 asC0_19 = true := by
  show (ATree.check runC0 trC0_20 asC0_20 && ATree.check runC0 trC0_21 asC0_21) = true
  rw [hC0_20, hC0_21]; rfl
noncomputable def trC0_17 : ATree := .node .gtr (.at 3) (.lit 4) trC0_18 trC0_19
theorem hC0_17 : ATree.check runC0 trC0_17 asC0_17 = true := by
  show (ATree.check runC0 trC0_18 asC0_18 && ATree.check runC0 trC0_19 asC0_19) = true
  rw [hC0_18, hC0_19]; rfl
noncomputable def trC0_15 : ATree := .node .lss (.at 3) (.lit 1) trC0_16 trC0_17
theorem hC0_15 : ATree.check runC0 trC0_15 asC0_15 = true := by
  show (ATree.check runC0 trC0_16 asC0_16 && ATree.check runC0 trC0_17 asC0_17) = true
  rw [hC0_16, hC0_17]; rfl
noncomputable def trC0_13 : ATree := .node .gtr (.at 2) (.lit 8) trC0_14 trC0_15
theorem hC0_13 : ATree.check runC0 trC0_13 asC0_13 = true := by
  show (ATree.check runC0 trC0_14 asC0_14 && ATree.check runC0 trC0_15 asC0_15) = true
  rw [hC0_14, hC0_15]; rfl
noncomputable def trC0_11 : ATree := .node .lss (.at 2) (.lit 1) trC0_12 trC0_13
theorem hC0_11 : ATree.check runC0 trC0_11 asC0_11 = true := by
  show (ATree.check runC0 trC0_12 asC0_12 && ATree.check runC0 trC0_13 asC0_13) = true
  rw [hC0_12, hC0_13]; rfl
noncomputable def trC0_9 : ATree := .node .gtr (.at 1) (.lit 16) trC0_10 trC0_11
theorem hC0_9 : ATree.check runC0 trC0_9 asC0_9 = true := by
  show (ATree.check runC0 trC0_10 asC0_10 && ATree.check runC0 trC0_11 asC0_11) = true
  rw [hC0_10, hC0_11]; rfl
noncomputable def trC0_7 : ATree := .node .lss (.at 1) (.lit 1) trC0_8 trC0_9
theorem hC0_7 : ATree.check runC0 trC0_7 asC0_7 = true := by
  show (ATree.check runC0 trC0_8 asC0_8 && ATree.check runC0 trC0_9 asC0_9) = true
  rw [hC0_8, hC0_9]; rfl
noncomputable def trC0_5 : ATree := .node .gtr (.at 0) (.lit 4) trC0_6 trC0_7
theorem hC0_5 : ATree.check runC0 trC0_5 asC0_5 = true := by
  show (ATree.check runC0 trC0_6 asC0_6 && ATree.check runC0 trC0_7 asC0_7) = true
  rw [hC0_6, hC0_7]; rfl
noncomputable def trC0_3 : ATree := .node .lss (.at 0) (.lit 1) trC0_4 trC0_5
theorem hC0_3 : ATree.check runC0 trC0_3 asC0_3 = true := by
  show (ATree.check runC0 trC0_4 asC0_4 && ATree.check runC0 trC0_5 asC0_5) = true
  rw [hC0_4, hC0_5]; rfl
noncomputable def asC0_116 : Asm := asC0_2.add .leq (.at 7) (.lit 13) false
noncomputable def trC0_116 : ATree := (.leaf (.int .i64 (.lit 15)))
theorem hC0_116 : ATree.check runC0 trC0_116 asC0_116 = true := C0_57
noncomputable def trC0_2 : ATree := .node .leq (.at 7) (.lit 13) trC0_3 trC0_116
theorem hC0_2 : ATree.check runC0 trC0_2 asC0_2 = true := by
  show (ATree.check runC0 trC0_3 asC0_3 && ATree.check runC0 trC0_116 asC0_116) = true
  rw [hC0_3, hC0_116]; rfl
noncomputable def asC0_117 : Asm := asC0_1.add .geq (.at 7) (.lit 1) false
noncomputable def trC0_117 : ATree := (.leaf (.int .i64 (.lit 15)))
theorem hC0_117 : ATree.check runC0 trC0_117 asC0_117 = true := C0_58
noncomputable def trC0_1 : ATree := .node .geq (.at 7) (.lit 1) trC0_2 trC0_117
theorem hC0_1 : ATree.check runC0 trC0_1 asC0_1 = true := by
  show (ATree.check runC0 trC0_2 asC0_2 && ATree.check runC0 trC0_117 asC0_117) = true
  rw [hC0_2, hC0_117]; rfl
noncomputable def asC1_118 : Asm := rangeAsm 15
noncomputable def asC1_119 : Asm := asC1_118.add .geq (.at 7) (.lit 1) true
noncomputable def asC1_120 : Asm := asC1_119.add .leq (.at 7) (.lit 13) true
noncomputable def asC1_121 : Asm := asC1_120.add .lss (.at 0) (.lit 1) true
noncomputable def trC1_121 : ATree := (.leaf (.int .i64 (.lit 10)))
theorem hC1_121 : ATree.check runC1 trC1_121 asC1_121 = true := C1_0
noncomputable def asC1_122 : Asm := asC1_120.add .lss (.at 0) (.lit 1) false
noncomputable def asC1_123 : Asm := asC1_122.add .gtr (.at 0) (.lit 4) true
noncomputable def trC1_123 : ATree := (.leaf (.int .i64 (.lit 10)))
theorem hC1_123 : ATree.check runC1 trC1_123 asC1_123 = true := C1_1
noncomputable def asC1_124 : Asm := asC1_122.add .gtr (.at 0) (.lit 4) false
noncomputable def asC1_125 : Asm := asC1_124.add .lss (.at 1) (.lit 1) true
noncomputable def trC1_125 : ATree := (.leaf (.int .i64 (.lit 10)))
theorem hC1_125 : ATree.check runC1 trC1_125 asC1_125 = true := C1_2
noncomputable def asC1_126 : Asm := asC1_124.add .lss (.at 1) (.lit 1) false
noncomputable def asC1_127 : Asm := asC1_126.add .gtr (.at 1) (.lit 16) true
noncomputable def trC1_127 : ATree := (.leaf (.int .i64 (.lit 10)))
theorem hC1_127 : ATree.check runC1 trC1_127 asC1_127 = true := C1_3
noncomputable def asC1_128 : Asm := asC1_126.add .gtr (.at 1) (.lit 16) false
noncomputable def asC1_129 : Asm := asC1_128.add .lss (.at 2) (.lit 1) true
noncomputable def trC1_129 : ATree := (.leaf (.int .i64 (.lit 10)))
theorem hC1_129 : ATree.check runC1 trC1_129 asC1_129 = true := C1_4
noncomputable def asC1_130 : Asm := asC1_128.add .lss (.at 2) (.lit 1) false
noncomputable def asC1_131 : Asm := asC1_130.add .gtr (.at 2) (.lit 8) true
noncomputable def trC1_131 : ATree := (.leaf (.int .i64 (.lit 10)))
theorem hC1_131 : ATree.check runC1 trC1_131 asC1_131 = true := C1_5
noncomputable def asC1_132 : Asm := asC1_130.add .gtr (.at 2) (.lit 8) false
noncomputable def asC1_133 : Asm := asC1_132.add .lss (.at 3) (.lit 1) true
noncomputable def trC1_133 : ATree := (.leaf (.int .i64 (.lit 10)))
theorem hC1_133 : ATree.check runC1 trC1_133 asC1_133 = true := C1_6
noncomputable def asC1_134 : Asm := asC1_132.add .lss (.at 3) (.lit 1) false
noncomputable def asC1_135 : Asm := asC1_134.add .gtr (.at 3) (.lit 4) true
noncomputable def trC1_135 : ATree := (.leaf (.int .i64 (.lit 10)))
theorem hC1_135 : ATree.check runC1 trC1_135 asC1_135 = true := C1_7
noncomputable def asC1_136 : Asm := asC1_134.add .gtr (.at 3) (.lit 4) false
noncomputable def asC1_137 : Asm := asC1_136.add .lss (.at 4) (.lit 1) true
noncomputable def trC1_137 : ATree := (.leaf (.int .i64 (.lit 10)))
theorem hC1_137 : ATree.check runC1 trC1_137 asC1_137 = true := C1_8
noncomputable def asC1_138 : Asm := asC1_136.add .lss (.at 4) (.lit 1) false
noncomputable def asC1_139 : Asm := asC1_138.add .gtr (.at 4) (.lit 16) true
noncomputable def trC1_139 : ATree := (.leaf (.int .i64 (.lit 10)))
theorem hC1_139 : ATree.check runC1 trC1_139 asC1_139 = true := C1_9
noncomputable def asC1_140 : Asm := asC1_138.add .gtr (.at 4) (.lit 16) false
noncomputable def asC1_141 : Asm := asC1_140.add .lss (.at 5) (.lit 1) true
noncomputable def trC1_141 : ATree := (.leaf (.int .i64 (.lit 10)))
theorem hC1_141 : ATree.check runC1 trC1_141 asC1_141 = true := C1_10
noncomputable def asC1_142 : Asm := asC1_140.add .lss (.at 5) (.lit 1) false
noncomputable def asC1_143 : Asm := asC1_142.add .gtr (.at 5) (.lit 8) true
noncomputable def trC1_143 : ATree := (.leaf (.int .i64 (.lit 10)))
theorem hC1_143 : ATree.check runC1 trC1_143 asC1_143 = true := C1_11
noncomputable def asC1_144 : Asm := asC1_142.add .gtr (.at 5) (.lit 8) false
noncomputable def asC1_145 : Asm := asC1_144.add .lss (.at 6) (.lit 1) true
noncomputable def trC1_145 : ATree := (.leaf (.int .i64 (.lit 10)))
theorem hC1_145 : ATree.check runC1 trC1_145 asC1_145 = true := C1_12
noncomputable def asC1_146 : Asm := asC1_144.add .lss (.at 6) (.lit 1) false
noncomputable def asC1_147 : Asm := asC1_146.add .gtr (.at 6) (.lit 4) true
noncomputable def trC1_147 : ATree := (.leaf (.int .i64 (.lit 10)))
theorem hC1_147 : ATree.check runC1 trC1_147 asC1_147 = true := C1_13
noncomputable def asC1_148 : Asm := asC1_146.add .gtr (.at 6) (.lit 4) false
noncomputable def asC1_149 : Asm := asC1_148.add .eql (.at 7) (.lit 1) true
noncomputable def asC1_150 : Asm := asC1_149.add .geq (.at 8) (.lit 0) true
noncomputable def asC1_151 : Asm := asC1_150.add .leq (.at 8) (.bin .sub .i64 (.at 0) (.lit 1)) true
noncomputable def trC1_151 : ATree := (.node .geq (.at 9) (.lit 0) (.node .leq (.at 9) (.bin .sub .i64 (.bin .mul .i64 (.at 1) (.lit 2)) (.lit 1)) (.node .geq (.at 10) (.lit 0) (.node .leq (.at 10) (.lit 3) (.node .eql (.at 11) (.lit 0) (.node .eql (.at 12) (.lit 0) (.node .eql (.at 13) (.lit 0) (.leaf (.int .i64 (.lit 10))) (.leaf (.int .i64 (.lit 10)))) (.leaf (.int .i64 (.lit 10)))) (.leaf (.int .i64 (.lit 10)))) (.leaf (.int .i64 (.lit 10)))) (.leaf (.int .i64 (.lit 10)))) (.leaf (.int .i64 (.lit 10)))) (.leaf (.int .i64 (.lit 10))))
theorem hC1_151 : ATree.check runC1 trC1_151 asC1_151 = true := C1_14
noncomputable def asC1_152 : Asm := asC1_150.add .leq (.at 8) (.bin .sub .i64 (.at 0) (.lit 1)) false
noncomputable def trC1_152 : ATree := (.leaf (.int .i64 (.lit 10)))
theorem hC1_152 : ATree.check runC1 trC1_152 asC1_152 = true := C1_15
noncomputable def trC1_150 : ATree := .node .leq (.at 8) (.bin .sub .i64 (.at 0) (.lit 1)) trC1_151 trC1_152
theorem hC1_150 : ATree.check runC1 trC1_150 asC1_150 = true := by
  show (ATree.check runC1 trC1_151 asC1_151 && ATree.check runC1 trC1_152 asC1_152) = true
  rw [hC1_151, hC1_152]; rfl
noncomputable def asC1_153 : Asm := asC1_149.add .geq (.at 8) (.lit 0) false
noncomputable def trC1_153 : ATree := (.leaf (.int .i64 (.lit 10)))
theorem hC1_153 : ATree.check runC1 trC1_153 asC1_153 = true := C1_16
noncomputable def trC1_149 : ATree := .node .geq (.at 8) (.lit 0) trC1_150 trC1_153
theorem hC1_149 : ATree.check runC1 trC1_149 asC1_149 = true := by
  show (ATree.check runC1 trC1_150 asC1_150 && ATree.check runC1 trC1_153 asC1_153) = true
  rw [hC1_150, hC1_153]; rfl
noncomputable def asC1_154 : Asm := asC1_148.add .eql (.at 7) (.lit 1) false
noncomputable def asC1_155 : Asm := asC1_154.add .eql (.at 7) (.lit 2) true
noncomputable def asC1_156 : Asm := asC1_155.add .geq (.at 8) (.lit 0) true
noncomputable def asC1_157 : Asm := asC1_156.add .leq (.at 8) (.bin .sub .i64 (.at 0) (.lit 1)) true
noncomputable def trC1_157 : ATree := (.node .geq (.at 9) (.lit 0) (.node .leq (.at 9) (.bin .sub .i64 (.bin .mul .i64 (.at 1) (.lit 2)) (.lit 1)) (.node .geq (.at 10) (.lit 0) (.node .leq (.at 10) (.lit 3) (.node .eql (.at 11) (.lit 0) (.node .eql (.at 12) (.lit 0) (.node .eql (.at 13) (.lit 0) (.leaf (.int .i64 (.lit 10))) (.leaf (.int .i64 (.lit 10)))) (.leaf (.int .i64 (.lit 10)))) (.leaf (.int .i64 (.lit 10)))) (.leaf (.int .i64 (.lit 10)))) (.leaf (.int .i64 (.lit 10)))) (.leaf (.int .i64 (.lit 10)))) (.leaf (.int .i64 (.lit 10))))
theorem hC1_157 : ATree.check runC1 trC1_157 asC1_157 = true := C1_17
noncomputable def asC1_158 : Asm := asC1_156.add .leq (.at 8) (.bin .sub .i64 (.at 0) (.lit 1)) false
noncomputable def trC1_158 : ATree := (.leaf (.int .i64 (.lit 10)))
theorem hC1_158 : ATree.check runC1 trC1_158 asC1_158 = true := C1_18
noncomputable def trC1_156 : ATree := .node .leq (.at 8) (.bin .sub .i64 (.at 0) (.lit 1)) trC1_157 trC1_158
theorem hC1_156 : ATree.check runC1 trC1_156 asC1_156 = true := by
  show (ATree.check runC1 trC1_157 asC1_157 && ATree.check runC1 trC1_158 asC1_158) = true
  rw [hC1_157, hC1_158]; rfl
noncomputable def asC1_159 : Asm := asC1_155.add .geq (.at 8) (.lit 0) false
noncomputable def trC1_159 : ATree := (.leaf (.int .i64 (.lit 10)))
theorem hC1_159 : ATree.check runC1 trC1_159 asC1_159 = true := C1_19
noncomputable def trC1_155 : ATree := .node .geq (.at 8) (.lit 0) trC1_156 trC1_159
theorem hC1_155 : ATree.check runC1 trC1_155 asC1_155 = true := by
  show (ATree.check runC1 trC1_156 asC1_156 && ATree.check runC1 trC1_159 asC1_159) = true
  rw [hC1_156, hC1_159]; rfl
noncomputable def asC1_160 : Asm := asC1_154.add .eql (.at 7) (.lit 2) false
noncomputable def asC1_161 : Asm := asC1_160.add .eql (.at 7) (.lit 3) true
noncomputable def asC1_162 : Asm := asC1_161.add .geq (.at 8) (.lit 0) true
noncomputable def trC1_162 : ATree := (.node .leq (.at 8) (.bin .sub .i64 (.at 0) (.lit 1)) (.node .geq (.at 9) (.lit 0) (.node .leq (.at 9) (.bin .sub .i64 (.bin .mul .i64 (.at 1) (.lit 2)) (.lit 1)) (.node .geq (.at 10) (.lit 0) (.node .leq (.at 10) (.lit 4) (.node .eql (.at 11) (.lit 0) (.node .eql (.at 14) (.lit 0) (.leaf (.int .i64 (.lit 0))) (.leaf (.int .i64 (.lit 10)))) (.leaf (.int .i64 (.lit 10)))) (.leaf (.int .i64 (.lit 10)))) (.leaf (.int .i64 (.lit 10)))) (.leaf (.int .i64 (.lit 10)))) (.leaf (.int .i64 (.lit 10)))) (.leaf (.int .i64 (.lit 10))))
theorem hC1_162 : ATree.check runC1 trC1_162 asC1_162 = true := C1_20
noncomputable def asC1_163 : Asm := asC1_161.add .geq (.at 8) (.lit 0) false
noncomputable def trC1_163 : ATree := (.leaf (.int .i64 (.lit 10)))
theorem hC1_163 : ATree.check runC1 trC1_163 asC1_163 = true := C1_21
noncomputable def trC1_161 : ATree := .node .geq (.at 8) (.lit 0) trC1_162 trC1_163
theorem hC1_161 : ATree.check runC1 trC1_161 asC1_161 = true := by
  show (ATree.check runC1 trC1_162 asC1_162 && ATree.check runC1 trC1_163 asC1_163) = true
  rw [hC1_162, hC1_163]; rfl
noncomputable def asC1_164 : Asm := asC1_160.add .eql (.at 7) (.lit 3) false
noncomputable def asC1_165 : Asm := asC1_164.add .eql (.at 7) (.lit 4) true
noncomputable def asC1_166 : Asm := asC1_165.add .geq (.at 8) (.lit 0) true
noncomputable def trC1_166 : ATree := (.node .leq (.at 8) (.bin .sub .i64 (.at 0) (.lit 1)) (.node .geq (.at 9) (.lit 0) (.node .leq (.at 9) (.bin .sub .i64 (.bin .mul .i64 (.at 1) (.lit 2)) (.lit 1)) (.node .eql (.at 10) (.lit 0) (.node .eql (.at 11) (.lit 0) (.node .eql (.at 12) (.lit 0) (.node .eql (.at 13) (.lit 0) (.leaf (.int .i64 (.lit 10))) (.leaf (.int .i64 (.lit 10)))) (.leaf (.int .i64 (.lit 10)))) (.leaf (.int .i64 (.lit 10)))) (.leaf (.int .i64 (.lit 10)))) (.leaf (.int .i64 (.lit 10)))) (.leaf (.int .i64 (.lit 10)))) (.leaf (.int .i64 (.lit 10))))
theorem hC1_166 : ATree.check runC1 trC1_166 asC1_166 = true := C1_22
noncomputable def asC1_167 : Asm := asC1_165.add .geq (.at 8) (.lit 0) false
noncomputable def trC1_167 : ATree := (.leaf (.int .i64 (.lit 10)))
theorem hC1_167 : ATree.check runC1 trC1_167 asC1_167 = true := C1_23
noncomputable def trC1_165 : ATree := .node .geq (.at 8) (.lit 0) trC1_166 trC1_167
theorem hC1_165 : ATree.check runC1 trC1_165 asC1_165 = true := by
  show (ATree.check runC1 trC1_166 asC1_166 && ATree.check runC1 trC1_167 asC1_167) = true
  rw [hC1_166, hC1_167]; rfl
noncomputable def asC1_168 : Asm := asC1_164.add .eql (.at 7) (.lit 4) false
noncomputable def asC1_169 : Asm := asC1_168.add .eql (.at 7) (.lit 5) true
noncomputable def asC1_170 : Asm := asC1_169.add .geq (.at 8) (.lit 0) true
noncomputable def asC1_171 : Asm := asC1_170.add .leq (.at 8) (.bin .sub .i64 (.at 0) (.lit 1)) true
noncomputable def trC1_171 : ATree := (.node .geq (.at 9) (.lit 0) (.node .leq (.at 9) (.bin .sub .i64 (.bin .mul .i64 (.at 1) (.lit 2)) (.lit 1)) (.node .geq (.at 11) (.lit 0) (.node .leq (.at 11) (.lit 4) (.node .geq (.at 14) (.lit 0) (.node .leq (.at 14) (.lit 1) (.node .eql (.at 10) (.lit 0) (.leaf (.int .i64 (.lit 0))) (.leaf (.int .i64 (.lit 10)))) (.leaf (.int .i64 (.lit 10)))) (.leaf (.int .i64 (.lit 10)))) (.leaf (.int .i64 (.lit 10)))) (.leaf (.int .i64 (.lit 10)))) (.leaf (.int .i64 (.lit 10)))) (.leaf (.int .i64 (.lit 10))))
theorem hC1_171 : ATree.check runC1 trC1_171 asC1_171 = true := C1_24
noncomputable def asC1_172 : Asm := asC1_170.add .leq (.at 8) (.bin .sub .i64 (.at 0) (.lit 1)) false
noncomputable def trC1_172 : ATree := (.leaf (.int .i64 (.lit 10)))
theorem hC1_172 : ATree.check runC1 trC1_172 asC1_172 = true := C1_25
noncomputable def trC1_170 : ATree := .node .leq (.at 8) (.bin .sub .i64 (.at 0) (.lit 1)) trC1_171 trC1_172
theorem hC1_170 : ATree.check runC1 trC1_170 asC1_170 = true := by
  show (ATree.check runC1 trC1_171 asC1_171 && ATree.check runC1 trC1_172 asC1_172) = true
  rw [hC1_171, hC1_172]; rfl
noncomputable def asC1_173 : Asm := asC1_169.add .geq (.at 8) (.lit 0) false
noncomputable def trC1_173 : ATree := (.leaf (.int .i64 (.lit 10)))
theorem hC1_173 : ATree.check runC1 trC1_173 asC1_173 = true := C1_26
noncomputable def trC1_169 : ATree := .node .geq (.at 8) (.lit 0) trC1_170 trC1_173
theorem hC1_169 : ATree.check runC1 trC1_169 asC1_169 = true := by
  show (ATree.check runC1 trC1_170 asC1_170 && ATree.check runC1 trC1_173 asC1_173) = true
  rw [hC1_170, hC1_173]; rfl
noncomputable def asC1_174 : Asm := asC1_168.add .eql (.at 7) (.lit 5) false
noncomputable def asC1_175 : Asm := asC1_174.add .eql (.at 7) (.lit 6) true
noncomputable def asC1_176 : Asm := asC1_175.add .geq (.at 8) (.lit 0) true
noncomputable def asC1_177 : Asm := asC1_176.add .leq (.at 8) (.bin .sub .i64 (.at 0) (.lit 1)) true
noncomputable def trC1_177 : ATree := (.node .geq (.at 14) (.lit 0) (.node .leq (.at 14) (.lit 19) (.node .eql (.at 9) (.lit 0) (.node .eql (.at 10) (.lit 0) (.node .eql (.at 11) (.lit 0) (.node .eql (.at 12) (.lit 0) (.node .eql (.at 13) (.lit 0) (.leaf (.int .i64 (.lit 10))) (.leaf (.int .i64 (.lit 10)))) (.leaf (.int .i64 (.lit 10)))) (.leaf (.int .i64 (.lit 10)))) (.leaf (.int .i64 (.lit 10)))) (.leaf (.int .i64 (.lit 10)))) (.leaf (.int .i64 (.lit 10)))) (.leaf (.int .i64 (.lit 10))))
theorem hC1_177 : ATree.check runC1 trC1_177 asC1_177 = true := C1_27
noncomputable def asC1_178 : Asm := asC1_176.add .leq (.at 8) (.bin .sub .i64 (.at 0) (.lit 1)) false
noncomputable def trC1_178 : ATree := (.leaf (.int .i64 (.lit 10)))
theorem hC1_178 : ATree.check runC1 trC1_178 asC1_178 = true := C1_28
noncomputable def trC1_176 : ATree := .node .leq (.at 8) (.bin .sub .i64 (.at 0) (.lit 1)) trC1_177 trC1_178
theorem hC1_176 : ATree.check runC1 trC1_176 asC1_176 = true := by
  show (ATree.check runC1 trC1_177 asC1_177 && ATree.check runC1 trC1_178 asC1_178) = true
  rw [hC1_177, hC1_178]; rfl
noncomputable def asC1_179 : Asm := asC1_175.add .geq (.at 8) (.lit 0) false
noncomputable def trC1_179 : ATree := (.leaf (.int .i64 (.lit 10)))
theorem hC1_179 : ATree.check runC1 trC1_179 asC1_179 = true := C1_29
noncomputable def trC1_175 : ATree := .node .geq (.at 8) (.lit 0) trC1_176 trC1_179
theorem hC1_175 : ATree.check runC1 trC1_175 asC1_175 = true := by
  show (ATree.check runC1 trC1_176 asC1_176 && ATree.check runC1 trC1_179 asC1_179) = true
  rw [hC1_176, hC1_179]; rfl
noncomputable def asC1_180 : Asm := asC1_174.add .eql (.at 7) (.lit 6) false
noncomputable def asC1_181 : Asm := asC1_180.add .eql (.at 7) (.lit 7) true
noncomputable def asC1_182 : Asm := asC1_181.add .geq (.at 8) (.lit 0) true
noncomputable def asC1_183 : Asm := asC1_182.add .leq (.at 8) (.bin .sub .i64 (.at 0) (.lit 1)) true
noncomputable def trC1_183 : ATree := (.node .geq (.at 14) (.lit 0) (.node .leq (.at 14) (.bin .sub .i64 (.at 1) (.lit 1)) (.node .eql (.at 9) (.lit 0) (.node .eql (.at 10) (.lit 0) (.node .eql (.at 11) (.lit 0) (.node .eql (.at 12) (.lit 0) (.node .eql (.at 13) (.lit 0) (.leaf (.int .i64 (.lit 10))) (.leaf (.int .i64 (.lit 10)))) (.leaf (.int .i64 (.lit 10)))) (.leaf (.int .i64 (.lit 10)))) (.leaf (.int .i64 (.lit 10)))) (.leaf (.int .i64 (.lit 10)))) (.leaf (.int .i64 (.lit 10)))) (.leaf (.int .i64 (.lit 10))))
theorem hC1_183 : ATree.check runC1 trC1_183 asC1_183 = true := C1_30
noncomputable def asC1_184 : Asm := asC1_182.add .leq (.at 8) (.bin .sub .i64 (.at 0) (.lit 1)) false
noncomputable def trC1_184 : ATree := (.leaf (.int .i64 (.lit 10)))
theorem hC1_184 : ATree.check runC1 trC1_184 asC1_184 = true := C1_31
noncomputable def trC1_182 : ATree := .node .leq (.at 8) (.bin .sub .i64 (.at 0) (.lit 1)) trC1_183 trC1_184
theorem hC1_182 : ATree.check runC1 trC1_182 asC1_182 = true := by
  show (ATree.check runC1 trC1_183 asC1_183 && ATree.check runC1 trC1_184 asC1_184) = true
  rw [hC1_183, hC1_184]; rfl
noncomputable def asC1_185 : Asm := asC1_181.add .geq (.at 8) (.lit 0) false
noncomputable def trC1_185 : ATree := (.leaf (.int .i64 (.lit 10)))
theorem hC1_185 : ATree.check runC1 trC1_185 asC1_185 = true := C1_32
noncomputable def trC1_181 : ATree := .node .geq (.at 8) (.lit 0) trC1_182 trC1_185
theorem hC1_181 : ATree.check runC1 trC1_181 asC1_181 = true := by
  show (ATree.check runC1 trC1_182 asC1_182 && ATree.check runC1 trC1_185 asC1_185) = true
  rw [hC1_182, hC1_185]; rfl
noncomputable def asC1_186 : Asm := asC1_180.add .eql (.at 7) (.lit 7) false
noncomputable def asC1_187 : Asm := asC1_186.add .eql (.at 7) (.lit 8) true
noncomputable def asC1_188 : Asm := asC1_187.add .geq (.at 8) (.lit 0) true
noncomputable def asC1_189 : Asm := asC1_188.add .leq (.at 8) (.bin .sub .i64 (.at 0) (.lit 1)) true
noncomputable def trC1_189 : ATree := (.node .geq (.at 9) (.lit 0) (.node .leq (.at 9) (.bin .sub .i64 (.bin .mul .i64 (.at 1) (.lit 2)) (.lit 1)) (.node .geq (.at 10) (.lit 0) (.node .leq (.at 10) (.lit 4) (.node .eql (.at 11) (.lit 1) (.leaf (.int .i64 (.lit 10))) (.node .eql (.at 11) (.lit 2) (.leaf (.int .i64 (.lit 10))) (.node .eql (.at 11) (.lit 4) (.leaf (.int .i64 (.lit 10))) (.leaf (.int .i64 (.lit 10)))))) (.leaf (.int .i64 (.lit 10)))) (.leaf (.int .i64 (.lit 10)))) (.leaf (.int .i64 (.lit 10)))) (.leaf (.int .i64 (.lit 10))))
theorem hC1_189 : ATree.check runC1 trC1_189 asC1_189 = true := C1_33
noncomputable def asC1_190 : Asm := asC1_188.add .leq (.at 8) (.bin .sub .i64 (.at 0) (.lit 1)) false
noncomputable def trC1_190 : ATree := (.leaf (.int .i64 (.lit 10)))
theorem hC1_190 : ATree.check runC1 trC1_190 asC1_190 = true := C1_34
noncomputable def trC1_188 : ATree := .node .leq (.at 8) (.bin .sub .i64 (.at 0) (.lit 1)) trC1_189 trC1_190
theorem hC1_188 : ATree.check runC1 trC1_188 asC1_188 = true := by
  show (ATree.check runC1 trC1_189 asC1_189 && ATree.check runC1 trC1_190 asC1_190) = true
  rw [hC1_189, hC1_190]; rfl
noncomputable def asC1_191 : Asm := asC1_187.add .geq (.at 8) (.lit 0) false
noncomputable def trC1_191 : ATree := (.leaf (.int .i64 (.lit 10)))
theorem hC1_191 : ATree.check runC1 trC1_191 asC1_191 = true := C1_35
noncomputable def trC1_187 : ATree := .node .geq (.at 8) (.lit 0) trC1_188 trC1_191
theorem hC1_187 : ATree.check runC1 trC1_187 asC1_187 = true := by
  show (ATree.check runC1 trC1_188 asC1_188 && ATree.check runC1 trC1_191 asC1_191) = true
  rw [hC1_188, hC1_191]; rfl
noncomputable def asC1_192 : Asm := asC1_186.add .eql (.at 7) (.lit 8) false
noncomputable def asC1_193 : Asm := asC1_192.add .eql (.at 7) (.lit 9) true
noncomputable def asC1_194 : Asm := asC1_193.add .geq (.at 8) (.lit 0) true
noncomputable def asC1_195 : Asm := asC1_194.add .leq (.at 8) (.bin .sub .i64 (.at 0) (.lit 1)) true
noncomputable def asC1_196 : Asm := asC1_195.add .geq (.at 9) (.lit 0) true
noncomputable def trC1_196 : ATree := (.node .leq (.at 9) (.bin .sub .i64 (.bin .mul .i64 (.at 1) (.lit 2)) (.lit 1)) (.node .geq (.at 14) (.lit 0) (.node .leq (.at 14) (.lit 1) (.node .eql (.at 10) (.lit 0) (.node .eql (.at 11) (.lit 0) (.node .eql (.at 12) (.lit 0) (.node .eql (.at 13) (.lit 0) (.leaf (.int .i64 (.lit 10))) (.leaf (.int .i64 (.lit 10)))) (.leaf (.int .i64 (.lit 10)))) (.leaf (.int .i64 (.lit 10)))) (.leaf (.int .i64 (.lit 10)))) (.leaf (.int .i64 (.lit 10)))) (.leaf (.int .i64 (.lit 10)))) (.leaf (.int .i64 (.lit 10))))
theorem hC1_196 : ATree.check runC1 trC1_196 asC1_196 = true := C1_36
noncomputable def asC1_197 : Asm := asC1_195.add .geq (.at 9) (.lit 0) false
noncomputable def trC1_197 : ATree := (.leaf (.int .i64 (.lit 10)))
theorem hC1_197 : ATree.check runC1 trC1_197 asC1_197 = true := C1_37
noncomputable def trC1_195 : ATree := .node .geq (.at 9) (.lit 0) trC1_196 trC1_197
theorem hC1_195 : ATree.check runC1 trC1_195 asC1_195 = true := by
  show (ATree.check runC1 trC1_196 asC1_196 && ATree.check runC1 trC1_197 asC1_197) = true
  rw [hC1_196, hC1_197]; rfl
noncomputable def asC1_198 : Asm := asC1_194.add .leq (.at 8) (.bin .sub .i64 (.at 0) (.lit 1)) false
noncomputable def trC1_198 : ATree := (.leaf (.int .i64 (.lit 10)))
theorem hC1_198 : ATree.check runC1 trC1_198 asC1_198 = true := C1_38
noncomputable def trC1_194 : ATree := .node .leq (.at 8) (.bin .sub .i64 (.at 0) (.lit 1)) trC1_195 trC1_198
theorem hC1_194 : ATree.check runC1 trC1_194 asC1_194 = true := by
  show (ATree.check runC1 trC1_195 asC1_195 && ATree.check runC1 trC1_198 asC1_198) = true
  rw [hC1_195, hC1_198]; rfl
noncomputable def asC1_199 : Asm := asC1_193.add .geq (.at 8) (.lit 0) false
noncomputable def trC1_199 : ATree := (.leaf (.int .i64 (.lit 10)))
theorem hC1_199 : ATree.check runC1 trC1_199 asC1_199 = true := C1_39
noncomputable def trC1_193 : ATree := .node .geq (.at 8) (.lit 0) trC1_194 trC1_199
theorem hC1_193 : ATree.check runC1 trC1_193 asC1_193 = true := by
  show (ATree.check runC1 trC1_194 asC1_194 && ATree.check runC1 trC1_199 asC1_199) = true
  rw [hC1_194, hC1_199]; rfl
noncomputable def asC1_200 : Asm := asC1_192.add .eql (.at 7) (.lit 9) false
noncomputable def asC1_201 : Asm := asC1_200.add .eql (.at 7) (.lit 10) true
noncomputable def asC1_202 : Asm := asC1_201.add .geq (.at 8) (.lit 0) true
noncomputable def trC1_202 : ATree := (.node .leq (.at 8) (.bin .sub .i64 (.at 0) (.lit 1)) (.node .geq (.at 9) (.lit 0) (.node .leq (.at 9) (.bin .sub .i64 (.bin .mul .i64 (.at 1) (.lit 2)) (.lit 1)) (.node .eql (.at 10) (.lit 0) (.node .eql (.at 11) (.lit 0) (.node .eql (.at 12) (.lit 0) (.node .eql (.at 13) (.lit 0) (.leaf (.int .i64 (.lit 10))) (.leaf (.int .i64 (.lit 10)))) (.leaf (.int .i64 (.lit 10)))) (.leaf (.int .i64 (.lit 10)))) (.leaf (.int .i64 (.lit 10)))) (.leaf (.int .i64 (.lit 10)))) (.leaf (.int .i64 (.lit 10)))) (.leaf (.int .i64 (.lit 10))))
theorem hC1_202 : ATree.check runC1 trC1_202 asC1_202 = true := C1_40
noncomputable def asC1_203 : Asm := asC1_201.add .geq (.at 8) (.lit 0) false
noncomputable def trC1_203 : ATree := (.leaf (.int .i64 (.lit 10)))
theorem hC1_203 : ATree.check runC1 trC1_203 asC1_203 = true := C1_41
noncomputable def trC1_201 : ATree := .node .geq (.at 8) (.lit 0) trC1_202 trC1_203
theorem hC1_201 : ATree.check runC1 trC1_201 asC1_201 = true := by
  show (ATree.check runC1 trC1_202 asC1_202 && ATree.check runC1 trC1_203 asC1_203) = true
  rw [hC1_202, hC1_203]; rfl
noncomputable def asC1_204 : Asm := asC1_200.add .eql (.at 7) (.lit 10) false
noncomputable def asC1_205 : Asm := asC1_204.add .eql (.at 7) (.lit 11) true
noncomputable def asC1_206 : Asm := asC1_205.add .geq (.at 8) (.lit 0) true
noncomputable def asC1_207 : Asm := asC1_206.add .leq (.at 8) (.bin .sub .i64 (.at 0) (.lit 1)) true
noncomputable def trC1_207 : ATree := (.node .geq (.at 9) (.lit 0) (.node .leq (.at 9) (.bin .sub .i64 (.bin .mul .i64 (.at 1) (.lit 2)) (.lit 1)) (.node .geq (.at 11) (.lit 0) (.node .leq (.at 11) (.lit 1) (.node .eql (.at 10) (.lit 0) (.node .eql (.at 12) (.lit 0) (.node .eql (.at 13) (.lit 0) (.leaf (.int .i64 (.lit 10))) (.leaf (.int .i64 (.lit 10)))) (.leaf (.int .i64 (.lit 10)))) (.leaf (.int .i64 (.lit 10)))) (.leaf (.int .i64 (.lit 10)))) (.leaf (.int .i64 (.lit 10)))) (.leaf (.int .i64 (.lit 10)))) (.leaf (.int .i64 (.lit 10))))
theorem hC1_207 : ATree.check runC1 trC1_207 asC1_207 = true := C1_42
noncomputable def asC1_208 : Asm := asC1_206.add .leq (.at 8) (.bin .sub .i64 (.at 0) (.lit 1)) false
noncomputable def trC1_208 : ATree := (.leaf (.int .i64 (.lit 10)))
theorem hC1_208 : ATree.check runC1 trC1_208 asC1_208 = true := C1_43
noncomputable def trC1_206 : ATree := .node .leq (.at 8) (.bin .sub .i64 (.at 0) (.lit 1)) trC1_207 trC1_208
theorem hC1_206 : ATree.check runC1 trC1_206 asC1_206 = true := by
  show (ATree.check runC1 trC1_207 asC1_207 && ATree.check runC1 trC1_208 asC1_208) = true
  rw [hC1_207, hC1_208]; rfl
noncomputable def asC1_209 : Asm := asC1_205.add .geq (.at 8) (.lit 0) false
noncomputable def trC1_209 : ATree := (.leaf (.int .i64 (.lit 10)))
theorem hC1_209 : ATree.check runC1 trC1_209 asC1_209 = true := C1_44
noncomputable def trC1_205 : ATree := .node .geq (.at 8) (.lit 0) trC1_206 trC1_209
theorem hC1_205 : ATree.check runC1 trC1_205 asC1_205 = true := by
  show (ATree.check runC1 trC1_206 asC1_206 && ATree.check runC1 trC1_209 asC1_209) = true
  rw [hC1_206, hC1_209]; rfl
noncomputable def asC1_210 : Asm := asC1_204.add .eql (.at 7) (.lit 11) false
noncomputable def asC1_211 : Asm := asC1_210.add .eql (.at 7) (.lit 12) true
noncomputable def trC1_211 : ATree := (.node .geq (.at 8) (.lit 0) (.node .leq (.at 8) (.bin .sub .i64 (.at 0) (.lit 1)) (.node .geq (.at 14) (.lit 0) (.node .leq (.at 14) (.lit 19) (.node .eql (.at 9) (.lit 0) (.node .eql (.at 10) (.lit 0) (.node .eql (.at 11) (.lit 0) (.leaf (.int .i64 (.lit 10))) (.leaf (.int .i64 (.lit 10)))) (.leaf (.int .i64 (.lit 10)))) (.leaf (.int .i64 (.lit 10)))) (.leaf (.int .i64 (.lit 10)))) (.leaf (.int .i64 (.lit 10)))) (.leaf (.int .i64 (.lit 10)))) (.leaf (.int .i64 (.lit 10))))
theorem hC1_211 : ATree.check runC1 trC1_211 asC1_211 = true := C1_45
noncomputable def asC1_212 : Asm := asC1_210.add .eql (.at 7) (.lit 12) false
noncomputable def asC1_213 : Asm := asC1_212.add .geq (.at 8) (.lit 0) true
noncomputable def asC1_214 : Asm := asC1_213.add .leq (.at 8) (.bin .sub .i64 (.at 0) (.lit 1)) true
noncomputable def trC1_214 : ATree := (.node .geq (.at 14) (.lit 0) (.node .leq (.at 14) (.bin .sub .i64 (.at 1) (.lit 1)) (.node .eql (.at 9) (.lit 0) (.node .eql (.at 10) (.lit 0) (.node .eql (.at 11) (.lit 0) (.node .eql (.at 12) (.lit 0) (.node .eql (.at 13) (.lit 0) (.leaf (.int .i64 (.lit 10))) (.leaf (.int .i64 (.lit 10)))) (.leaf (.int .i64 (.lit 10)))) (.leaf (.int .i64 (.lit 10)))) (.leaf (.int .i64 (.lit 10)))) (.leaf (.int .i64 (.lit 10)))) (.leaf (.int .i64 (.lit 10)))) (.leaf (.int .i64 (.lit 10))))
theorem hC1_214 : ATree.check runC1 trC1_214 asC1_214 = true := C1_46
noncomputable def asC1_215 : Asm := asC1_213.add .leq (.at 8) (.bin .sub .i64 (.at 0) (.lit 1)) false
noncomputable def trC1_215 : ATree := (.leaf (.int .i64 (.lit 10)))
theorem hC1_215 : ATree.check runC1 trC1_215 asC1_215 = true := C1_47
noncomputable def trC1_213 : ATree := .node .leq (.at 8) (.bin .sub .i64 (.at 0) (.lit 1)) trC1_214 trC1_215
theorem hC1_213 : ATree.check runC1 trC1_213 asC1_213 = true := by
  show (ATree.check runC1 trC1_214 asC1_214 && ATree.check runC1 trC1_215 asC1_215) = true
  rw [hC1_214, hC1_215]; rfl
noncomputable def asC1_216 : Asm := asC1_212.add .geq (.at 8) (.lit 0) false
noncomputable def trC1_216 : ATree := (.leaf (.int .i64 (.lit 10)))
theorem hC1_216 : ATree.check runC1 trC1_216 asC1_216 = true := C1_48
noncomputable def trC1_212 : ATree := .node .geq (.at 8) (.lit 0) trC1_213 trC1_216
theorem hC1_212 : ATree.check runC1 trC1_212 asC1_212 = true := by
  show (ATree.check runC1 trC1_213 asC1_213 && ATree.check runC1 trC1_216 asC1_216) = true
  rw [hC1_213, hC1_216]; rfl
noncomputable def trC1_210 : ATree := .node .eql (.at 7) (.lit 12) trC1_211 trC1_212
theorem hC1_210 : ATree.check runC1 trC1_210 asC1_210 = true := by
  show (ATree.check runC1 trC1_211 asC1_211 && ATree.check runC1 trC1_212 asC1_212) = true
  rw [hC1_211, hC1_212]; rfl
noncomputable def trC1_204 : ATree := .node .eql (.at 7) (.lit 11) trC1_205 trC1_210
theorem hC1_204 : ATree.check runC1 trC1_204 asC1_204 = true := by
  show (ATree.check runC1 trC1_205 asC1_205 && ATree.check runC1 trC1_210 asC1_210) = true
  rw [hC1_205, hC1_210]; rfl
noncomputable def trC1_200 : ATree := .node .eql (.at 7) (.lit 10) trC1_201 trC1_204
theorem hC1_200 : ATree.check runC1 trC1_200 asC1_200 = true := by
  show (ATree.check runC1 trC1_201 asC1_201 && ATree.check runC1 trC1_204 asC1_204) = true
  rw [hC1_201, hC1_204]; rfl
noncomputable def trC1_192 : ATree := .node .eql (.at 7) (.lit 9) trC1_193 trC1_200
theorem hC1_192 : ATree.check runC1 trC1_192 asC1_192 = true := by
  show (ATree.check runC1 trC1_193 asC1_193 && ATree.check runC1 trC1_200 asC1_200) = true
  rw [hC1_193, hC1_200]; rfl
noncomputable def trC1_186 : ATree := .node .eql (.at 7) (.lit 8) trC1_187 trC1_192
theorem hC1_186 : ATree.check runC1 trC1_186 asC1_186 = true := by
  show (ATree.check runC1 trC1_187 asC1_187 && ATree.check runC1 trC1_192 asC1_192) = true
  rw [hC1_187, hC1_192]; rfl
noncomputable def trC1_180 : ATree := .node .eql (.at 7) (.lit 7) trC1_181 trC1_186
theorem hC1_180 : ATree.check runC1 trC1_180 asC1_180 = true := by
  show (ATree.check runC1 trC1_181 asC1_181 && ATree.check runC1 trC1_186 asC1_186) = true
  rw [hC1_181, hC1_186]; rfl
noncomputable def trC1_174 : ATree := .node .eql (.at 7) (.lit 6) trC1_175 trC1_180
theorem hC1_174 : ATree.check runC1 trC1_174 asC1_174 = true := by
  show (ATree.check runC1 trC1_175 asC1_175 && ATree.check runC1 trC1_180 asC1_180) = true
  rw [hC1_175, hC1_180]; rfl
noncomputable def trC1_168 : ATree := .node .eql (.at 7) (.lit 5) trC1_169 trC1_174
theorem hC1_168 : ATree.check runC1 trC1_168 asC1_168 = true := by
  show (ATree.check runC1 trC1_169 asC1_169 && ATree.check runC1 trC1_174 asC1_174) = true
  rw [hC1_169, hC1_174]; rfl
noncomputable def trC1_164 : ATree := .node .eql (.at 7) (.lit 4) trC1_165 trC1_168
theorem hC1_164 : ATree.check runC1 trC1_164 asC1_164 = true := by
  show (ATree.check runC1 trC1_165 asC1_165 && ATree.check runC1 trC1_168 asC1_168) = true
  rw [hC1_165, hC1_168]; rfl
noncomputable def trC1_160 : ATree := .node .eql (.at 7) (.lit 3) trC1_161 trC1_164
theorem hC1_160 : ATree.check runC1 trC1_160 asC1_160 = true := by
  show (ATree.check runC1 trC1_161 asC1_161 && ATree.check runC1 trC1_164 asC1_164) = true
  rw [hC1_161, hC1_164]; rfl
noncomputable def trC1_154 : ATree := .node .eql (.at 7) (.lit 2) trC1_155 trC1_160
theorem hC1_154 : ATree.check runC1 trC1_154 asC1_154 = true := by
  show (ATree.check runC1 trC1_155 asC1_155 && ATree.check runC1 trC1_160 asC1_160) = true
  rw [hC1_155, hC1_160]; rfl
noncomputable def trC1_148 : ATree := .node .eql (.at 7) (.lit 1) trC1_149 trC1_154
theorem hC1_148 : ATree.check runC1 trC1_148 asC1_148 = true := by
  show (ATree.check runC1 trC1_149 asC1_149 && ATree.check runC1 trC1_154 asC1_154) = true
  rw [hC1_149, hC1_154]; rfl
noncomputable def trC1_146 : ATree := .node .gtr (.at 6) (.lit 4) trC1_147 trC1_148
theorem hC1_146 : ATree.check runC1 trC1_146 asC1_146 = true := by
  show (ATree.check runC1 trC1_147 asC1_147 && ATree.check runC1 trC1_148 asC1_148) = true
  rw [hC1_147, hC1_148]; rfl
noncomputable def trC1_144 : ATree := .node .lss (.at 6) (.lit 1) trC1_145 trC1_146
theorem hC1_144 : ATree.check runC1 trC1_144 asC1_144 = true := by
  show (ATree.check runC1 trC1_145 asC1_145 && ATree.check runC1 trC1_146 asC1_146) = true
  rw [hC1_145, hC1_146]; rfl
noncomputable def trC1_142 : ATree := .node .gtr (.at 5) (.lit 8) trC1_143 trC1_144
theorem hC1_142 : ATree.check runC1 trC1_142 asC1_142 = true := by
  show (ATree.check runC1 trC1_143 asC1_143 && ATree.check runC1 trC1_144 asC1_144) = true
  rw [hC1_143, hC1_144]; rfl
noncomputable def trC1_140 : ATree := .node .lss (.at 5) (.lit 1) trC1_141 trC1_142
theorem hC1_140 : ATree.check runC1 trC1_140 asC1_140 = true := by
  show (ATree.check runC1 trC1_141 asC1_141 && ATree.check runC1 trC1_142 asC1_142) = true
  rw [hC1_141, hC1_142]; rfl
noncomputable def trC1_138 : ATree := .node .gtr (.at 4) (.lit 16) trC1_139 trC1_140
theorem hC1_138 : ATree.check runC1 trC1_138 asC1_138 = true := by
  show (ATree.check runC1 trC1_139 asC1_139 && ATree.check runC1 trC1_140 asC1_140) = true
  rw [hC1_139, hC1_140]; rfl
noncomputable def trC1_136 : ATree := .node .lss (.at 4) (.lit 1) trC1_137 trC1_138
theorem hC1_136 : ATree.check runC1 trC1_136 asC1_136 = true := by
  show (ATree.check runC1 trC1_137 asC1_137 && ATree.check runC1 trC1_138 asC1_138) = true
  rw [hC1_137, hC1_138]; rfl
noncomputable def trC1_134 : ATree := .node .gtr (.at 3) (.lit 4) trC1_135 trC1_136
theorem hC1_134 : ATree.check runC1 trC1_134 asC1_134 = true := by
  show (ATree.check runC1 trC1_135 asC1_135 && ATree.check runC1 trC1_136 asC1_136) = true
  rw [hC1_135, hC1_136]; rfl
noncomputable def trC1_132 : ATree := .node .lss (.at 3) (.lit 1) trC1_133 trC1_134
theorem hC1_132 : ATree.check runC1 trC1_132 asC1_132 = true := by
  show (ATree.check runC1 trC1_133 asC1_133 && ATree.check runC1 trC1_134 asC1_134) = true
  rw [hC1_133, hC1_134]; rfl
noncomputable def trC1_130 : ATree := .node .gtr (.at 2) (.lit 8) trC1_131 trC1_132
theorem hC1_130 : ATree.check runC1 trC1_130 asC1_130 = true := by
  show (ATree.check runC1 trC1_131 asC1_131 && ATree.check runC1 trC1_132 asC1_132) = true
  rw [hC1_131, hC1_132]; rfl
noncomputable def trC1_128 : ATree := .node .lss (.at 2) (.lit 1) trC1_129 trC1_130
theorem hC1_128 : ATree.check runC1 trC1_128 asC1_128 = true := by
  show (ATree.check runC1 trC1_129 asC1_129 && ATree.check runC1 trC1_130 asC1_130) = true
  rw [hC1_129, hC1_130]; rfl
noncomputable def trC1_126 : ATree := .node .gtr (.at 1) (.lit 16) trC1_127 trC1_128
theorem hC1_126 : ATree.check runC1 trC1_126 asC1_126 = true := by
  show (ATree.check runC1 trC1_127 asC1_127 && ATree.check runC1 trC1_128 asC1_128) = true
  rw [hC1_127, hC1_128]; rfl
noncomputable def trC1_124 : ATree := .node .lss (.at 1) (.lit 1) trC1_125 trC1_126
theorem hC1_124 : ATree.check runC1 trC1_124 asC1_124 = true := by
  show (ATree.check runC1 trC1_125 asC1_125 && ATree.check runC1 trC1_126 asC1_126) = true
  rw [hC1_125, hC1_126]; rfl
noncomputable def trC1_122 : ATree := .node .gtr (.at 0) (.lit 4) trC1_123 trC1_124
theorem hC1_122 : ATree.check runC1 trC1_122 asC1_122 = true := by
  show (ATree.check runC1 trC1_123 asC1_123 && ATree.check runC1 trC1_124 asC1_124) = true
  rw [hC1_123, hC1_124]; rfl
noncomputable def trC1_120 : ATree := .node .lss (.at 0) (.lit 1) trC1_121 trC1_122
theorem hC1_120 : ATree.check runC1 trC1_120 asC1_120 = true := by
  show (ATree.check runC1 trC1_121 asC1_121 && ATree.check runC1 trC1_122 asC1_122) = true
  rw [hC1_121, hC1_122]; rfl
noncomputable def asC1_217 : Asm := asC1_119.add .leq (.at 7) (.lit 13) false
noncomputable def trC1_217 : ATree := (.leaf (.int .i64 (.lit 15)))
theorem hC1_217 : ATree.check runC1 trC1_217 asC1_217 = true := C1_49
noncomputable def trC1_119 : ATree := .node .leq (.at 7) (.lit 13) trC1_120 trC1_217
theorem hC1_119 : ATree.check runC1 trC1_119 asC1_119 = true := by
  show (ATree.check runC1 trC1_120 asC1_120 && ATree.check runC1 trC1_217 asC1_217) = true
  rw [hC1_120, hC1_217]; rfl
noncomputable def asC1_218 : Asm := asC1_118.add .geq (.at 7) (.lit 1) false
noncomputable def trC1_218 : ATree := (.leaf (.int .i64 (.lit 15)))
theorem hC1_218 : ATree.check runC1 trC1_218 asC1_218 = true := C1_50
noncomputable def trC1_118 : ATree := .node .geq (.at 7) (.lit 1) trC1_119 trC1_218
theorem hC1_118 : ATree.check runC1 trC1_118 asC1_118 = true := by
  show (ATree.check runC1 trC1_119 asC1_119 && ATree.check runC1 trC1_218 asC1_218) = true
  rw [hC1_119, hC1_218]; rfl
noncomputable def asM1_219 : Asm := rangeAsm 7
noncomputable def asM1_220 : Asm := asM1_219.add .lss (.at 0) (.lit 1) true
noncomputable def trM1_220 : ATree := (.leaf (.bool false))
theorem hM1_220 : ATree.check runM1 trM1_220 asM1_220 = true := M1_0
noncomputable def asM1_221 : Asm := asM1_219.add .lss (.at 0) (.lit 1) false
noncomputable def asM1_222 : Asm := asM1_221.add .gtr (.at 0) (.lit 4) true
noncomputable def trM1_222 : ATree := (.leaf (.bool false))
theorem hM1_222 : ATree.check runM1 trM1_222 asM1_222 = true := M1_1
noncomputable def asM1_223 : Asm := asM1_221.add .gtr (.at 0) (.lit 4) false
noncomputable def asM1_224 : Asm := asM1_223.add .lss (.at 1) (.lit 1) true
noncomputable def trM1_224 : ATree := (.leaf (.bool false))
theorem hM1_224 : ATree.check runM1 trM1_224 asM1_224 = true := M1_2
noncomputable def asM1_225 : Asm := asM1_223.add .lss (.at 1) (.lit 1) false
noncomputable def asM1_226 : Asm := asM1_225.add .gtr (.at 1) (.lit 16) true
noncomputable def trM1_226 : ATree := (.leaf (.bool false))
theorem hM1_226 : ATree.check runM1 trM1_226 asM1_226 = true := M1_3
noncomputable def asM1_227 : Asm := asM1_225.add .gtr (.at 1) (.lit 16) false
noncomputable def asM1_228 : Asm := asM1_227.add .lss (.at 2) (.lit 1) true
noncomputable def trM1_228 : ATree := (.leaf (.bool false))
theorem hM1_228 : ATree.check runM1 trM1_228 asM1_228 = true := M1_4
noncomputable def asM1_229 : Asm := asM1_227.add .lss (.at 2) (.lit 1) false
noncomputable def asM1_230 : Asm := asM1_229.add .gtr (.at 2) (.lit 8) true
noncomputable def trM1_230 : ATree := (.leaf (.bool false))
theorem hM1_230 : ATree.check runM1 trM1_230 asM1_230 = true := M1_5
noncomputable def asM1_231 : Asm := asM1_229.add .gtr (.at 2) (.lit 8) false
noncomputable def asM1_232 : Asm := asM1_231.add .lss (.at 3) (.lit 1) true
noncomputable def trM1_232 : ATree := (.leaf (.bool false))
theorem hM1_232 : ATree.check runM1 trM1_232 asM1_232 = true := M1_6
noncomputable def asM1_233 : Asm := asM1_231.add .lss (.at 3) (.lit 1) false
noncomputable def trM1_233 : ATree := (.node .gtr (.at 3) (.lit 4) (.leaf (.bool false)) (.node .lss (.at 4) (.lit 1) (.leaf (.bool false)) (.node .gtr (.at 4) (.lit 16) (.leaf (.bool false)) (.node .lss (.at 5) (.lit 1) (.leaf (.bool false)) (.node .gtr (.at 5) (.lit 8) (.leaf (.bool false)) (.node .lss (.at 6) (.lit 1) (.leaf (.bool false)) (.node .gtr (.at 6) (.lit 4) (.leaf (.bool false)) (.leaf (.bool true)))))))))
theorem hM1_233 : ATree.check runM1 trM1_233 asM1_233 = true := M1_7
noncomputable def trM1_231 : ATree := .node .lss (.at 3) (.lit 1) trM1_232 trM1_233
theorem hM1_231 : ATree.check runM1 trM1_231 asM1_231 = true := by
  show (ATree.check runM1 trM1_232 asM1_232 && ATree.check runM1 trM1_233 asM1_233) = true
  rw [hM1_232, hM1_233]; rfl
noncomputable def trM1_229 : ATree := .node .gtr (.at 2) (.lit 8) trM1_230 trM1_231
theorem hM1_229 : ATree.check runM1 trM1_229 asM1_229 = true := by
  show (ATree.check runM1 trM1_230 asM1_230 && ATree.check runM1 trM1_231 asM1_231) = true
  rw [hM1_230, hM1_231]; rfl
noncomputable def trM1_227 : ATree := .node .lss (.at 2) (.lit 1) trM1_228 trM1_229
theorem hM1_227 : ATree.check runM1 trM1_227 asM1_227 = true := by
  show (ATree.check runM1 trM1_228 asM1_228 && ATree.check runM1 trM1_229 asM1_229) = true
  rw [hM1_228, hM1_229]; rfl
noncomputable def trM1_225 : ATree := .node .gtr (.at 1) (.lit 16) trM1_226 trM1_227
theorem hM1_225 : ATree.check runM1 trM1_225 asM1_225 = true := by
  show (ATree.check runM1 trM1_226 asM1_226 && ATree.check runM1 trM1_227 asM1_227) = true
  rw [hM1_226, hM1_227]; rfl
noncomputable def trM1_223 : ATree := .node .lss (.at 1) (.lit 1) trM1_224 trM1_225
theorem hM1_223 : ATree.check runM1 trM1_223 asM1_223 = true := by
  show (ATree.check runM1 trM1_224 asM1_224 && ATree.check runM1 trM1_225 asM1_225) = true
  rw [hM1_224, hM1_225]; rfl
noncomputable def trM1_221 : ATree := .node .gtr (.at 0) (.lit 4) trM1_222 trM1_223
theorem hM1_221 : ATree.check runM1 trM1_221 asM1_221 = true := by
  show (ATree.check runM1 trM1_222 asM1_222 && ATree.check runM1 trM1_223 asM1_223) = true
  rw [hM1_222, hM1_223]; rfl
noncomputable def trM1_219 : ATree := .node .lss (.at 0) (.lit 1) trM1_220 trM1_221
theorem hM1_219 : ATree.check runM1 trM1_219 asM1_219 = true := by
  show (ATree.check runM1 trM1_220 asM1_220 && ATree.check runM1 trM1_221 asM1_221) = true
  rw [hM1_220, hM1_221]; rfl
noncomputable def asL8_234 : Asm := rangeAsm 1
noncomputable def asL8_235 : Asm := asL8_234.add .geq (.at 0) (.lit 1) true
noncomputable def asL8_236 : Asm := asL8_235.add .leq (.at 0) (.lit 13) true
noncomputable def asL8_237 : Asm := asL8_236.add .eql (.at 0) (.lit 1) true
noncomputable def trL8_237 : ATree := (.leaf (.tup [.int .i64 (.lit 0), .int .i64 (.lit 0)]))
theorem hL8_237 : ATree.check runL8 trL8_237 asL8_237 = true := L8_0
noncomputable def asL8_238 : Asm := asL8_236.add .eql (.at 0) (.lit 1) false
noncomputable def asL8_239 : Asm := asL8_238.add .eql (.at 0) (.lit 2) true
noncomputable def trL8_239 : ATree := (.leaf (.tup [.int .i64 (.lit 0), .int .i64 (.lit 0)]))
theorem hL8_239 : ATree.check runL8 trL8_239 asL8_239 = true := L8_1
noncomputable def asL8_240 : Asm := asL8_238.add .eql (.at 0) (.lit 2) false
noncomputable def asL8_241 : Asm := asL8_240.add .eql (.at 0) (.lit 3) true
noncomputable def trL8_241 : ATree := (.leaf (.tup [.int .i64 (.lit 0), .int .i64 (.lit 0)]))
theorem hL8_241 : ATree.check runL8 trL8_241 asL8_241 = true := L8_2
noncomputable def asL8_242 : Asm := asL8_240.add .eql (.at 0) (.lit 3) false
noncomputable def asL8_243 : Asm := asL8_242.add .eql (.at 0) (.lit 4) true
noncomputable def trL8_243 : ATree := (.leaf (.tup [.int .i64 (.lit 1), .int .i64 (.lit 0)]))
theorem hL8_243 : ATree.check runL8 trL8_243 asL8_243 = true := L8_3
noncomputable def asL8_244 : Asm := asL8_242.add .eql (.at 0) (.lit 4) false
noncomputable def asL8_245 : Asm := asL8_244.add .eql (.at 0) (.lit 5) true
noncomputable def trL8_245 : ATree := (.leaf (.tup [.int .i64 (.lit 1), .int .i64 (.lit 0)]))
theorem hL8_245 : ATree.check runL8 trL8_245 asL8_245 = true := L8_4
noncomputable def asL8_246 : Asm := asL8_244.add .eql (.at 0) (.lit 5) false
noncomputable def trL8_246 : ATree := (.node .eql (.at 0) (.lit 6) (.leaf (.tup [.int .i64 (.lit 0), .int .i64 (.lit 0)])) (.node .eql (.at 0) (.lit 7) (.leaf (.tup [.int .i64 (.lit 1), .int .i64 (.lit 0)])) (.node .eql (.at 0) (.lit 8) (.leaf (.tup [.int .i64 (.lit 2), .int .i64 (.lit 0)])) (.node .eql (.at 0) (.lit 9) (.leaf (.tup [.int .i64 (.lit 2), .int .i64 (.lit 0)])) (.node .eql (.at 0) (.lit 10) (.leaf (.tup [.int .i64 (.lit 2), .int .i64 (.lit 0)])) (.node .eql (.at 0) (.lit 11) (.leaf (.tup [.int .i64 (.lit 3), .int .i64 (.lit 0)])) (.node .eql (.at 0) (.lit 12) (.leaf (.tup [.int .i64 (.lit 2), .int .i64 (.lit 0)])) (.leaf (.tup [.int .i64 (.lit 3), .int .i64 (.lit 0)])))))))))
theorem hL8_246 : ATree.check runL8 trL8_246 asL8_246 = true := L8_5
noncomputable def trL8_244 : ATree := .node .eql (.at 0) (.lit 5) trL8_245 trL8_246
theorem hL8_244 : ATree.check runL8 trL8_244 asL8_244 = true := by
  show (ATree.check runL8 trL8_245 asL8_245 && ATree.check runL8 trL8_246 asL8_246) = true
  rw [hL8_245, hL8_246]; rfl
noncomputable def trL8_242 : ATree := .node .eql (.at 0) (.lit 4) trL8_243 trL8_244
theorem hL8_242 : ATree.check runL8 trL8_242 asL8_242 = true := by
  show (ATree.check runL8 trL8_243 asL8_243 && ATree.check runL8 trL8_244 asL8_244) = true
  rw [hL8_243, hL8_244]; rfl
noncomputable def trL8_240 : ATree := .node .eql (.at 0) (.lit 3) trL8_241 trL8_242
theorem hL8_240 : ATree.check runL8 trL8_240 asL8_240 = true := by
  show (ATree.check runL8 trL8_241 asL8_241 && ATree.check runL8 trL8_242 asL8_242) = true
  rw [hL8_241, hL8_242]; rfl
noncomputable def trL8_238 : ATree := .node .eql (.at 0) (.lit 2) trL8_239 trL8_240
theorem hL8_238 : ATree.check runL8 trL8_238 asL8_238 = true := by
  show (ATree.check runL8 trL8_239 asL8_239 && ATree.check runL8 trL8_240 asL8_240) = true
  rw [hL8_239, hL8_240]; rfl
noncomputable def trL8_236 : ATree := .node .eql (.at 0) (.lit 1) trL8_237 trL8_238
theorem hL8_236 : ATree.check runL8 trL8_236 asL8_236 = true := by
  show (ATree.check runL8 trL8_237 asL8_237 && ATree.check runL8 trL8_238 asL8_238) = true
  rw [hL8_237, hL8_238]; rfl
noncomputable def asL8_247 : Asm := asL8_235.add .leq (.at 0) (.lit 13) false
noncomputable def trL8_247 : ATree := (.leaf (.tup [.int .i64 (.lit 0), .int .i64 (.lit 15)]))
theorem hL8_247 : ATree.check runL8 trL8_247 asL8_247 = true := L8_6
noncomputable def trL8_235 : ATree := .node .leq (.at 0) (.lit 13) trL8_236 trL8_247
theorem hL8_235 : ATree.check runL8 trL8_235 asL8_235 = true := by
  show (ATree.check runL8 trL8_236 asL8_236 && ATree.check runL8 trL8_247 asL8_247) = true
  rw [hL8_236, hL8_247]; rfl
noncomputable def asL8_248 : Asm := asL8_234.add .geq (.at 0) (.lit 1) false
noncomputable def trL8_248 : ATree := (.leaf (.tup [.int .i64 (.lit 0), .int .i64 (.lit 15)]))
theorem hL8_248 : ATree.check runL8 trL8_248 asL8_248 = true := L8_7
noncomputable def trL8_234 : ATree := .node .geq (.at 0) (.lit 1) trL8_235 trL8_248
theorem hL8_234 : ATree.check runL8 trL8_234 asL8_234 = true := by
  show (ATree.check runL8 trL8_235 asL8_235 && ATree.check runL8 trL8_248 asL8_248) = true
  rw [hL8_235, hL8_248]; rfl
noncomputable def asL9_249 : Asm := rangeAsm 1
noncomputable def asL9_250 : Asm := asL9_249.add .lss (.at 0) (.lit 1) true
noncomputable def trL9_250 : ATree := (.leaf (.int .i64 (.lit (-1))))
theorem hL9_250 : ATree.check runL9 trL9_250 asL9_250 = true := L9_0
noncomputable def asL9_251 : Asm := asL9_249.add .lss (.at 0) (.lit 1) false
noncomputable def asL9_252 : Asm := asL9_251.add .gtr (.at 0) (.lit 13) true
noncomputable def trL9_252 : ATree := (.leaf (.int .i64 (.lit (-1))))
theorem hL9_252 : ATree.check runL9 trL9_252 asL9_252 = true := L9_1
noncomputable def asL9_253 : Asm := asL9_251.add .gtr (.at 0) (.lit 13) false
noncomputable def asL9_254 : Asm := asL9_253.add .eql (.at 0) (.lit 1) true
noncomputable def trL9_254 : ATree := (.leaf (.int .i64 (.lit 0)))
theorem hL9_254 : ATree.check runL9 trL9_254 asL9_254 = true := L9_2
noncomputable def asL9_255 : Asm := asL9_253.add .eql (.at 0) (.lit 1) false
noncomputable def asL9_256 : Asm := asL9_255.add .eql (.at 0) (.lit 2) true
noncomputable def trL9_256 : ATree := (.leaf (.int .i64 (.lit 0)))
theorem hL9_256 : ATree.check runL9 trL9_256 asL9_256 = true := L9_3
noncomputable def asL9_257 : Asm := asL9_255.add .eql (.at 0) (.lit 2) false
noncomputable def asL9_258 : Asm := asL9_257.add .eql (.at 0) (.lit 3) true
noncomputable def trL9_258 : ATree := (.leaf (.int .i64 (.lit 0)))
theorem hL9_258 : ATree.check runL9 trL9_258 asL9_258 = true := L9_4
noncomputable def asL9_259 : Asm := asL9_257.add .eql (.at 0) (.lit 3) false
noncomputable def asL9_260 : Asm := asL9_259.add .eql (.at 0) (.lit 4) true
noncomputable def trL9_260 : ATree := (.leaf (.int .i64 (.lit 1)))
theorem hL9_260 : ATree.check runL9 trL9_260 asL9_260 = true := L9_5
noncomputable def asL9_261 : Asm := asL9_259.add .eql (.at 0) (.lit 4) false
noncomputable def asL9_262 : Asm := asL9_261.add .eql (.at 0) (.lit 5) true
noncomputable def trL9_262 : ATree := (.leaf (.int .i64 (.lit 1)))
theorem hL9_262 : ATree.check runL9 trL9_262 asL9_262 = true := L9_6
noncomputable def asL9_263 : Asm := asL9_261.add .eql (.at 0) (.lit 5) false
noncomputable def trL9_263 : ATree := (.node .eql (.at 0) (.lit 6) (.leaf (.int .i64 (.lit 0))) (.node .eql (.at 0) (.lit 7) (.leaf (.int .i64 (.lit 1))) (.node .eql (.at 0) (.lit 8) (.leaf (.int .i64 (.lit 2))) (.node .eql (.at 0) (.lit 9) (.leaf (.int .i64 (.lit 2))) (.node .eql (.at 0) (.lit 10) (.leaf (.int .i64 (.lit 2))) (.node .eql (.at 0) (.lit 11) (.leaf (.int .i64 (.lit 3))) (.node .eql (.at 0) (.lit 12) (.leaf (.int .i64 (.lit 2))) (.leaf (.int .i64 (.lit 3))))))))))
theorem hL9_263 : ATree.check runL9 trL9_263 asL9_263 = true := L9_7
noncomputable def trL9_261 : ATree := .node .eql (.at 0) (.lit 5) trL9_262 trL9_263
theorem hL9_261 : ATree.check runL9 trL9_261 asL9_261 = true := by
  show (ATree.check runL9 trL9_262 asL9_262 && ATree.check runL9 trL9_263 asL9_263) = true
  rw [hL9_262, hL9_263]; rfl
noncomputable def trL9_259 : ATree := .node .eql (.at 0) (.lit 4) trL9_260 trL9_261
theorem hL9_259 : ATree.check runL9 trL9_259 asL9_259 = true := by
  show (ATree.check runL9 trL9_260 asL9_260 && ATree.check runL9 trL9_261 asL9_261) = true
  rw [hL9_260, hL9_261]; rfl
noncomputable def trL9_257 : ATree := .node .eql (.at 0) (.lit 3) trL9_258 trL9_259
theorem hL9_257 : ATree.check runL9 trL9_257 asL9_257 = true := by
  show (ATree.check runL9 trL9_258 asL9_258 && ATree.check runL9 trL9_259 asL9_259) = true
  rw [hL9_258, hL9_259]; rfl
noncomputable def trL9_255 : ATree := .node .eql (.at 0) (.lit 2) trL9_256 trL9_257
theorem hL9_255 : ATree.check runL9 trL9_255 asL9_255 = true := by
  show (ATree.check runL9 trL9_256 asL9_256 && ATree.check runL9 trL9_257 asL9_257) = true
  rw [hL9_256, hL9_257]; rfl
noncomputable def trL9_253 : ATree := .node .eql (.at 0) (.lit 1) trL9_254 trL9_255
theorem hL9_253 : ATree.check runL9 trL9_253 asL9_253 = true := by
  show (ATree.check runL9 trL9_254 asL9_254 && ATree.check runL9 trL9_255 asL9_255) = true
  rw [hL9_254, hL9_255]; rfl
noncomputable def trL9_251 : ATree := .node .gtr (.at 0) (.lit 13) trL9_252 trL9_253
theorem hL9_251 : ATree.check runL9 trL9_251 asL9_251 = true := by
  show (ATree.check runL9 trL9_252 asL9_252 && ATree.check runL9 trL9_253 asL9_253) = true
  rw [hL9_252, hL9_253]; rfl
noncomputable def trL9_249 : ATree := .node .lss (.at 0) (.lit 1) trL9_250 trL9_251
theorem hL9_249 : ATree.check runL9 trL9_249 asL9_249 = true := by
  show (ATree.check runL9 trL9_250 asL9_250 && ATree.check runL9 trL9_251 asL9_251) = true
  rw [hL9_250, hL9_251]; rfl
noncomputable def asH10_264 : Asm := rangeAsm 1
noncomputable def asH10_265 : Asm := asH10_264.add .geq (.at 0) (.lit 1) true
noncomputable def asH10_266 : Asm := asH10_265.add .leq (.at 0) (.lit 13) true
noncomputable def asH10_267 : Asm := asH10_266.add .eql (.at 0) (.lit 1) true
noncomputable def trH10_267 : ATree := (.leaf (.bool true))
theorem hH10_267 : ATree.check runH10 trH10_267 asH10_267 = true := H10_0
noncomputable def asH10_268 : Asm := asH10_266.add .eql (.at 0) (.lit 1) false
noncomputable def asH10_269 : Asm := asH10_268.add .eql (.at 0) (.lit 2) true
noncomputable def trH10_269 : ATree := (.leaf (.bool true))
theorem hH10_269 : ATree.check runH10 trH10_269 asH10_269 = true := H10_1
noncomputable def asH10_270 : Asm := asH10_268.add .eql (.at 0) (.lit 2) false
noncomputable def asH10_271 : Asm := asH10_270.add .eql (.at 0) (.lit 3) true
noncomputable def trH10_271 : ATree := (.leaf (.bool true))
theorem hH10_271 : ATree.check runH10 trH10_271 asH10_271 = true := H10_2
noncomputable def asH10_272 : Asm := asH10_270.add .eql (.at 0) (.lit 3) false
noncomputable def asH10_273 : Asm := asH10_272.add .eql (.at 0) (.lit 4) true
noncomputable def trH10_273 : ATree := (.leaf (.bool true))
theorem hH10_273 : ATree.check runH10 trH10_273 asH10_273 = true := H10_3
noncomputable def asH10_274 : Asm := asH10_272.add .eql (.at 0) (.lit 4) false
noncomputable def asH10_275 : Asm := asH10_274.add .eql (.at 0) (.lit 5) true
noncomputable def trH10_275 : ATree := (.leaf (.bool true))
theorem hH10_275 : ATree.check runH10 trH10_275 asH10_275 = true := H10_4
noncomputable def asH10_276 : Asm := asH10_274.add .eql (.at 0) (.lit 5) false
noncomputable def trH10_276 : ATree := (.node .eql (.at 0) (.lit 6) (.leaf (.bool true)) (.node .eql (.at 0) (.lit 7) (.leaf (.bool true)) (.node .eql (.at 0) (.lit 8) (.leaf (.bool false)) (.node .eql (.at 0) (.lit 9) (.leaf (.bool false)) (.node .eql (.at 0) (.lit 10) (.leaf (.bool false)) (.node .eql (.at 0) (.lit 11) (.leaf (.bool false)) (.node .eql (.at 0) (.lit 12) (.leaf (.bool false)) (.leaf (.bool false)))))))))
theorem hH10_276 : ATree.check runH10 trH10_276 asH10_276 = true := H10_5
noncomputable def trH10_274 : ATree := .node .eql (.at 0) (.lit 5) trH10_275 trH10_276
theorem hH10_274 : ATree.check runH10 trH10_274 asH10_274 = true := by
  show (ATree.check runH10 trH10_275 asH10_275 && ATree.check runH10 trH10_276 asH10_276) = true
  rw [hH10_275, hH10_276]; rfl
noncomputable def trH10_272 : ATree := .node .eql (.at 0) (.lit 4) trH10_273 trH10_274
theorem hH10_272 : ATree.check runH10 trH10_272 asH10_272 = true := by
  show (ATree.check runH10 trH10_273 asH10_273 && ATree.check runH10 trH10_274 asH10_274) = true
  rw [hH10_273, hH10_274]; rfl
noncomputable def trH10_270 : ATree := .node .eql (.at 0) (.lit 3) trH10_271 trH10_272
theorem hH10_270 : ATree.check runH10 trH10_270 asH10_270 = true := by
  show (ATree.check runH10 trH10_271 asH10_271 && ATree.check runH10 trH10_272 asH10_272) = true
  rw [hH10_271, hH10_272]; rfl
noncomputable def trH10_268 : ATree := .node .eql (.at 0) (.lit 2) trH10_269 trH10_270
theorem hH10_268 : ATree.check runH10 trH10_268 asH10_268 = true := by
  show (ATree.check runH10 trH10_269 asH10_269 && ATree.check runH10 trH10_270 asH10_270) = true
  rw [hH10_269, hH10_270]; rfl
noncomputable def trH10_266 : ATree := .node .eql (.at 0) (.lit 1) trH10_267 trH10_268
theorem hH10_266 : ATree.check runH10 trH10_266 asH10_266 = true := by
  show (ATree.check runH10 trH10_267 asH10_267 && ATree.check runH10 trH10_268 asH10_268) = true
  rw [hH10_267, hH10_268]; rfl
noncomputable def asH10_277 : Asm := asH10_265.add .leq (.at 0) (.lit 13) false
noncomputable def trH10_277 : ATree := (.leaf (.bool false))
theorem hH10_277 : ATree.check runH10 trH10_277 asH10_277 = true := H10_6
noncomputable def trH10_265 : ATree := .node .leq (.at 0) (.lit 13) trH10_266 trH10_277
theorem hH10_265 : ATree.check runH10 trH10_265 asH10_265 = true := by
  show (ATree.check runH10 trH10_266 asH10_266 && ATree.check runH10 trH10_277 asH10_277) = true
  rw [hH10_266, hH10_277]; rfl
noncomputable def asH10_278 : Asm := asH10_264.add .geq (.at 0) (.lit 1) false
noncomputable def trH10_278 : ATree := (.leaf (.bool false))
theorem hH10_278 : ATree.check runH10 trH10_278 asH10_278 = true := H10_7
noncomputable def trH10_264 : ATree := .node .geq (.at 0) (.lit 1) trH10_265 trH10_278
theorem hH10_264 : ATree.check runH10 trH10_264 asH10_264 = true := by
  show (ATree.check runH10 trH10_265 asH10_265 && ATree.check runH10 trH10_278 asH10_278) = true
  rw [hH10_265, hH10_278]; rfl
noncomputable def asR0_279 : Asm := rangeAsm 10
noncomputable def asR0_280 : Asm := asR0_279.add .lss (.at 2) (.lit 1) true
noncomputable def trR0_280 : ATree := (.leaf (.int .i64 (.lit 15)))
theorem hR0_280 : ATree.check runR0 trR0_280 asR0_280 = true := R0_0
noncomputable def asR0_281 : Asm := asR0_279.add .lss (.at 2) (.lit 1) false
noncomputable def asR0_282 : Asm := asR0_281.add .gtr (.at 2) (.lit 13) true
noncomputable def trR0_282 : ATree := (.leaf (.int .i64 (.lit 15)))
theorem hR0_282 : ATree.check runR0 trR0_282 asR0_282 = true := R0_1
noncomputable def asR0_283 : Asm := asR0_281.add .gtr (.at 2) (.lit 13) false
noncomputable def asR0_284 : Asm := asR0_283.add .eql (.at 2) (.lit 1) true
noncomputable def asR0_285 : Asm := asR0_284.add .geq (.at 3) (.lit 0) true
noncomputable def asR0_286 : Asm := asR0_285.add .leq (.at 3) (.bin .sub .i64 (.at 0) (.lit 1)) true
noncomputable def asR0_287 : Asm := asR0_286.add .geq (.at 4) (.lit 0) true
noncomputable def trR0_287 : ATree := (.node .leq (.at 4) (.bin .sub .i64 (.bin .mul .i64 (.at 1) (.lit 2)) (.lit 1)) (.node .geq (.at 5) (.lit 0) (.node .leq (.at 5) (.lit 3) (.node .eql (.at 6) (.lit 0) (.node .eql (.at 7) (.lit 0) (.node .eql (.at 8) (.lit 0) (.node .eql (.at 9) (.lit 0) (.leaf (.int .i64 (.lit 0))) (.leaf (.int .i64 (.lit 10)))) (.leaf (.int .i64 (.lit 10)))) (.leaf (.int .i64 (.lit 10)))) (.leaf (.int .i64 (.lit 10)))) (.leaf (.int .i64 (.lit 10)))) (.leaf (.int .i64 (.lit 10)))) (.leaf (.int .i64 (.lit 10))))
theorem hR0_287 : ATree.check runR0 trR0_287 asR0_287 = true := R0_2
noncomputable def asR0_288 : Asm := asR0_286.add .geq (.at 4) (.lit 0) false
noncomputable def trR0_288 : ATree := (.leaf (.int .i64 (.lit 10)))
theorem hR0_288 : ATree.check runR0 trR0_288 asR0_288 = true := R0_3
noncomputable def trR0_286 : ATree := .node .geq (.at 4) (.lit 0) trR0_287 trR0_288
theorem hR0_286 : ATree.check runR0 trR0_286 asR0_286 = true := by
  show (ATree.check runR0 trR0_287 asR0_287 && ATree.check runR0 trR0_288 asR0_288) = true
  rw [hR0_287, hR0_288]; rfl
noncomputable def asR0_289 : Asm := asR0_285.add .leq (.at 3) (.bin .sub .i64 (.at 0) (.lit 1)) false
noncomputable def trR0_289 : ATree := (.leaf (.int .i64 (.lit 10)))
theorem hR0_289 : ATree.check runR0 trR0_289 asR0_289 = true := R0_4
noncomputable def trR0_285 : ATree := .node .leq (.at 3) (.bin .sub .i64 (.at 0) (.lit 1)) trR0_286 trR0_289
theorem hR0_285 : ATree.check runR0 trR0_285 asR0_285 = true := by
  show (ATree.check runR0 trR0_286 asR0_286 && ATree.check runR0 trR0_289 asR0_289) = true
  rw [hR0_286, hR0_289]; rfl
noncomputable def asR0_290 : Asm := asR0_284.add .geq (.at 3) (.lit 0) false
noncomputable def trR0_290 : ATree := (.leaf (.int .i64 (.lit 10)))
theorem hR0_290 : ATree.check runR0 trR0_290 asR0_290 = true := R0_5
noncomputable def trR0_284 : ATree := .node .geq (.at 3) (.lit 0) trR0_285 trR0_290
theorem hR0_284 : ATree.check runR0 trR0_284 asR0_284 = true := by
  show (ATree.check runR0 trR0_285 asR0_285 && ATree.check runR0 trR0_290 asR0_290) = true
  rw [hR0_285, hR0_290]; rfl
noncomputable def asR0_291 : Asm := asR0_283.add .eql (.at 2) (.lit 1) false
noncomputable def asR0_292 : Asm := asR0_291.add .eql (.at 2) (.lit 2) true
noncomputable def asR0_293 : Asm := asR0_292.add .geq (.at 3) (.lit 0) true
noncomputable def asR0_294 : Asm := asR0_293.add .leq (.at 3) (.bin .sub .i64 (.at 0) (.lit 1)) true
noncomputable def asR0_295 : Asm := asR0_294.add .geq (.at 4) (.lit 0) true
noncomputable def trR0_295 : ATree := (.node .leq (.at 4) (.bin .sub .i64 (.bin .mul .i64 (.at 1) (.lit 2)) (.lit 1)) (.node .geq (.at 5) (.lit 0) (.node .leq (.at 5) (.lit 3) (.node .eql (.at 6) (.lit 0) (.node .eql (.at 7) (.lit 0) (.node .eql (.at 8) (.lit 0) (.node .eql (.at 9) (.lit 0) (.leaf (.int .i64 (.lit 0))) (.leaf (.int .i64 (.lit 10)))) (.leaf (.int .i64 (.lit 10)))) (.leaf (.int .i64 (.lit 10)))) (.leaf (.int .i64 (.lit 10)))) (.leaf (.int .i64 (.lit 10)))) (.leaf (.int .i64 (.lit 10)))) (.leaf (.int .i64 (.lit 10))))
theorem hR0_295 : ATree.check runR0 trR0_295 asR0_295 = true := R0_6
noncomputable def asR0_296 : Asm := asR0_294.add .geq (.at 4) (.lit 0) false
noncomputable def trR0_296 : ATree := (.leaf (.int .i64 (.lit 10)))
theorem hR0_296 : ATree.check runR0 trR0_296 asR0_296 = true := R0_7
noncomputable def trR0_294 : ATree := .node .geq (.at 4) (.lit 0) trR0_295 trR0_296
theorem hR0_294 : ATree.check runR0 trR0_294 asR0_294 = true := by
  show (ATree.check runR0 trR0_295 asR0_295 && ATree.check runR0 trR0_296 asR0_296) = true
  rw [hR0_295, hR0_296]; rfl
noncomputable def asR0_297 : Asm := asR0_293.add .leq (.at 3) (.bin .sub .i64 (.at 0) (.lit 1)) false
noncomputable def trR0_297 : ATree := (.leaf (.int .i64 (.lit 10)))
theorem hR0_297 : ATree.check runR0 trR0_297 asR0_297 = true := R0_8
noncomputable def trR0_293 : ATree := .node .leq (.at 3) (.bin .sub .i64 (.at 0) (.lit 1)) trR0_294 trR0_297
theorem hR0_293 : ATree.check runR0 trR0_293 asR0_293 = true := by
  show (ATree.check runR0 trR0_294 asR0_294 && ATree.check runR0 trR0_297 asR0_297) = true
  rw [hR0_294, hR0_297]; rfl
noncomputable def asR0_298 : Asm := asR0_292.add .geq (.at 3) (.lit 0) false
noncomputable def trR0_298 : ATree := (.leaf (.int .i64 (.lit 10)))
theorem hR0_298 : ATree.check runR0 trR0_298 asR0_298 = true := R0_9
noncomputable def trR0_292 : ATree := .node .geq (.at 3) (.lit 0) trR0_293 trR0_298
theorem hR0_292 : ATree.check runR0 trR0_292 asR0_292 = true := by
  show (ATree.check runR0 trR0_293 asR0_293 && ATree.check runR0 trR0_298 asR0_298) = true
  rw [hR0_293, hR0_298]; rfl
noncomputable def asR0_299 : Asm := asR0_291.add .eql (.at 2) (.lit 2) false
noncomputable def asR0_300 : Asm := asR0_299.add .eql (.at 2) (.lit 3) true
noncomputable def asR0_301 : Asm := asR0_300.add .geq (.at 3) (.lit 0) true
noncomputable def trR0_301 : ATree := (.node .leq (.at 3) (.bin .sub .i64 (.at 0) (.lit 1)) (.node .geq (.at 4) (.lit 0) (.node .leq (.at 4) (.bin .sub .i64 (.bin .mul .i64 (.at 1) (.lit 2)) (.lit 1)) (.node .geq (.at 5) (.lit 0) (.node .leq (.at 5) (.lit 4) (.node .eql (.at 6) (.lit 0) (.node .eql (.at 9) (.lit 0) (.leaf (.int .i64 (.lit 0))) (.leaf (.int .i64 (.lit 10)))) (.leaf (.int .i64 (.lit 10)))) (.leaf (.int .i64 (.lit 10)))) (.leaf (.int .i64 (.lit 10)))) (.leaf (.int .i64 (.lit 10)))) (.leaf (.int .i64 (.lit 10)))) (.leaf (.int .i64 (.lit 10))))
theorem hR0_301 : ATree.check runR0 trR0_301 asR0_301 = true := R0_10
noncomputable def asR0_302 : Asm := asR0_300.add .geq (.at 3) (.lit 0) false
noncomputable def trR0_302 : ATree := (.leaf (.int .i64 (.lit 10)))
theorem hR0_302 : ATree.check runR0 trR0_302 asR0_302 = true := R0_11
noncomputable def trR0_300 : ATree := .node .geq (.at 3) (.lit 0) trR0_301 trR0_302
theorem hR0_300 : ATree.check runR0 trR0_300 asR0_300 = true := by
  show (ATree.check runR0 trR0_301 asR0_301 && ATree.check runR0 trR0_302 asR0_302) = true
  rw [hR0_301, hR0_302]; rfl
noncomputable def asR0_303 : Asm := asR0_299.add .eql (.at 2) (.lit 3) false
noncomputable def asR0_304 : Asm := asR0_303.add .eql (.at 2) (.lit 4) true
noncomputable def asR0_305 : Asm := asR0_304.add .geq (.at 3) (.lit 0) true
noncomputable def asR0_306 : Asm := asR0_305.add .leq (.at 3) (.bin .sub .i64 (.at 0) (.lit 1)) true
noncomputable def trR0_306 : ATree := (.node .geq (.at 4) (.lit 0) (.node .leq (.at 4) (.bin .sub .i64 (.bin .mul .i64 (.at 1) (.lit 2)) (.lit 1)) (.node .eql (.at 5) (.lit 0) (.node .eql (.at 6) (.lit 0) (.node .eql (.at 7) (.lit 0) (.node .eql (.at 8) (.lit 0) (.node .eql (.at 9) (.lit 0) (.leaf (.int .i64 (.lit 0))) (.leaf (.int .i64 (.lit 10)))) (.leaf (.int .i64 (.lit 10)))) (.leaf (.int .i64 (.lit 10)))) (.leaf (.int .i64 (.lit 10)))) (.leaf (.int .i64 (.lit 10)))) (.leaf (.int .i64 (.lit 10)))) (.leaf (.int .i64 (.lit 10))))
theorem hR0_306 : ATree.check runR0 trR0_306 asR0_306 = true := R0_12
noncomputable def asR0_307 : Asm := asR0_305.add .leq (.at 3) (.bin .sub .i64 (.at 0) (.lit 1)) false
noncomputable def trR0_307 : ATree := (.leaf (.int .i64 (.lit 10)))
theorem hR0_307 : ATree.check runR0 trR0_307 asR0_307 = true := R0_13
noncomputable def trR0_305 : ATree := .node .leq (.at 3) (.bin .sub .i64 (.at 0) (.lit 1)) trR0_306 trR0_307
theorem hR0_305 : ATree.check runR0 trR0_305 asR0_305 = true := by
  show (ATree.check runR0 trR0_306 asR0_306 && ATree.check runR0 trR0_307 asR0_307) = true
  rw [hR0_306, hR0_307]; rfl
noncomputable def asR0_308 : Asm := asR0_304.add .geq (.at 3) (.lit 0) false
noncomputable def trR0_308 : ATree := (.leaf (.int .i64 (.lit 10)))
theorem hR0_308 : ATree.check runR0 trR0_308 asR0_308 = true := R0_14
noncomputable def trR0_304 : ATree := .node .geq (.at 3) (.lit 0) trR0_305 trR0_308
theorem hR0_304 : ATree.check runR0 trR0_304 asR0_304 = true := by
  show (ATree.check runR0 trR0_305 asR0_305 && ATree.check runR0 trR0_308 asR0_308) = true
  rw [hR0_305, hR0_308]; rfl
noncomputable def asR0_309 : Asm := asR0_303.add .eql (.at 2) (.lit 4) false
noncomputable def asR0_310 : Asm := asR0_309.add .eql (.at 2) (.lit 5) true
noncomputable def asR0_311 : Asm := asR0_310.add .geq (.at 3) (.lit 0) true
noncomputable def asR0_312 : Asm := asR0_311.add .leq (.at 3) (.bin .sub .i64 (.at 0) (.lit 1)) true
noncomputable def asR0_313 : Asm := asR0_312.add .geq (.at 4) (.lit 0) true
noncomputable def trR0_313 : ATree := (.node .leq (.at 4) (.bin .sub .i64 (.bin .mul .i64 (.at 1) (.lit 2)) (.lit 1)) (.node .geq (.at 6) (.lit 0) (.node .leq (.at 6) (.lit 4) (.node .eql (.at 9) (.lit 0) (.node .eql (.at 5) (.lit 0) (.leaf (.int .i64 (.lit 0))) (.leaf (.int .i64 (.lit 10)))) (.node .eql (.at 9) (.lit 1) (.node .eql (.at 5) (.lit 0) (.leaf (.int .i64 (.lit 0))) (.leaf (.int .i64 (.lit 10)))) (.leaf (.int .i64 (.lit 10))))) (.leaf (.int .i64 (.lit 10)))) (.leaf (.int .i64 (.lit 10)))) (.leaf (.int .i64 (.lit 10))))
theorem hR0_313 : ATree.check runR0 trR0_313 asR0_313 = true := R0_15
noncomputable def asR0_314 : Asm := asR0_312.add .geq (.at 4) (.lit 0) false
noncomputable def trR0_314 : ATree := (.leaf (.int .i64 (.lit 10)))
theorem hR0_314 : ATree.check runR0 trR0_314 asR0_314 = true := R0_16
noncomputable def trR0_312 : ATree := .node .geq (.at 4) (.lit 0) trR0_313 trR0_314
theorem hR0_312 : ATree.check runR0 trR0_312 asR0_312 = true := by
  show (ATree.check runR0 trR0_313 asR0_313 && ATree.check runR0 trR0_314 asR0_314) = true
  rw [hR0_313, hR0_314]; rfl
noncomputable def asR0_315 : Asm := asR0_311.add .leq (.at 3) (.bin .sub .i64 (.at 0) (.lit 1)) false
noncomputable def trR0_315 : ATree := (.leaf (.int .i64 (.lit 10)))
theorem hR0_315 : ATree.check runR0 trR0_315 asR0_315 = true := R0_17
noncomputable def trR0_311 : ATree := .node .leq (.at 3) (.bin .sub .i64 (.at 0) (.lit 1)) trR0_312 trR0_315
theorem hR0_311 : ATree.check runR0 trR0_311 asR0_311 = true := by
  show (ATree.check runR0 trR0_312 asR0_312 && ATree.check runR0 trR0_315 asR0_315) = true
  rw [hR0_312, hR0_315]; rfl
noncomputable def asR0_316 : Asm := asR0_310.add .geq (.at 3) (.lit 0) false
noncomputable def trR0_316 : ATree := (.leaf (.int .i64 (.lit 10)))
theorem hR0_316 : ATree.check runR0 trR0_316 asR0_316 = true := R0_18
noncomputable def trR0_310 : ATree := .node .geq (.at 3) (.lit 0) trR0_311 trR0_316
theorem hR0_310 : ATree.check runR0 trR0_310 asR0_310 = true := by
  show (ATree.check runR0 trR0_311 asR0_311 && ATree.check runR0 trR0_316 asR0_316) = true
  rw [hR0_311, hR0_316]; rfl
noncomputable def asR0_317 : Asm := asR0_309.add .eql (.at 2) (.lit 5) false
noncomputable def asR0_318 : Asm := asR0_317.add .eql (.at 2) (.lit 6) true
noncomputable def asR0_319 : Asm := asR0_318.add .geq (.at 3) (.lit 0) true
noncomputable def asR0_320 : Asm := asR0_319.add .leq (.at 3) (.bin .sub .i64 (.at 0) (.lit 1)) true
noncomputable def trR0_320 : ATree := (.node .geq (.at 9) (.lit 0) (.node .leq (.at 9) (.lit 19) (.node .eql (.at 4) (.lit 0) (.node .eql (.at 5) (.lit 0) (.node .eql (.at 6) (.lit 0) (.node .eql (.at 7) (.lit 0) (.node .eql (.at 8) (.lit 0) (.leaf (.int .i64 (.lit 0))) (.leaf (.int .i64 (.lit 10)))) (.leaf (.int .i64 (.lit 10)))) (.leaf (.int .i64 (.lit 10)))) (.leaf (.int .i64 (.lit 10)))) (.leaf (.int .i64 (.lit 10)))) (.leaf (.int .i64 (.lit 10)))) (.leaf (.int .i64 (.lit 10))))
theorem hR0_320 : ATree.check runR0 trR0_320 asR0_320 = true := R0_19
noncomputable def asR0_321 : Asm := asR0_319.add .leq (.at 3) (.bin .sub .i64 (.at 0) (.lit 1)) false
noncomputable def trR0_321 : ATree := (.leaf (.int .i64 (.lit 10)))
theorem hR0_321 : ATree.check runR0 trR0_321 asR0_321 = true := R0_20
noncomputable def trR0_319 : ATree := .node .leq (.at 3) (.bin .sub .i64 (.at 0) (.lit 1)) trR0_320 trR0_321
theorem hR0_319 : ATree.check runR0 trR0_319 asR0_319 = true := by
  show (ATree.check runR0 trR0_320 asR0_320 && ATree.check runR0 trR0_321 asR0_321) = true
  rw [hR0_320, hR0_321]; rfl
noncomputable def asR0_322 : Asm := asR0_318.add .geq (.at 3) (.lit 0) false
noncomputable def trR0_322 : ATree := (.leaf (.int .i64 (.lit 10)))
theorem hR0_322 : ATree.check runR0 trR0_322 asR0_322 = true := R0_21
noncomputable def trR0_318 : ATree := .node .geq (.at 3) (.lit 0) trR0_319 trR0_322
theorem hR0_318 : ATree.check runR0 trR0_318 asR0_318 = true := by
  show (ATree.check runR0 trR0_319 asR0_319 && ATree.check runR0 trR0_322 asR0_322) = true
  rw [hR0_319, hR0_322]; rfl
noncomputable def asR0_323 : Asm := asR0_317.add .eql (.at 2) (.lit 6) false
noncomputable def asR0_324 : Asm := asR0_323.add .eql (.at 2) (.lit 7) true
noncomputable def asR0_325 : Asm := asR0_324.add .geq (.at 3) (.lit 0) true
noncomputable def asR0_326 : Asm := asR0_325.add .leq (.at 3) (.bin .sub .i64 (.at 0) (.lit 1)) true
noncomputable def trR0_326 : ATree := (.node .geq (.at 9) (.lit 0) (.node .leq (.at 9) (.bin .sub .i64 (.at 1) (.lit 1)) (.node .eql (.at 4) (.lit 0) (.node .eql (.at 5) (.lit 0) (.node .eql (.at 6) (.lit 0) (.node .eql (.at 7) (.lit 0) (.node .eql (.at 8) (.lit 0) (.leaf (.int .i64 (.lit 0))) (.leaf (.int .i64 (.lit 10)))) (.leaf (.int .i64 (.lit 10)))) (.leaf (.int .i64 (.lit 10)))) (.leaf (.int .i64 (.lit 10)))) (.leaf (.int .i64 (.lit 10)))) (.leaf (.int .i64 (.lit 10)))) (.leaf (.int .i64 (.lit 10))))
theorem hR0_326 : ATree.check runR0 trR0_326 asR0_326 = true := R0_22
noncomputable def asR0_327 : Asm := asR0_325.add .leq (.at 3) (.bin .sub .i64 (.at 0) (.lit 1)) false
noncomputable def trR0_327 : ATree := (.leaf (.int .i64 (.lit 10)))
theorem hR0_327 : ATree.check runR0 trR0_327 asR0_327 = true := R0_23
noncomputable def trR0_325 : ATree := .node .leq (.at 3) (.bin .sub .i64 (.at 0) (.lit 1)) trR0_326 trR0_327
theorem hR0_325 : ATree.check runR0 trR0_325 asR0_325 = true := by
  show (ATree.check runR0 trR0_326 asR0_326 && ATree.check runR0 trR0_327 asR0_327) = true
  rw [hR0_326, hR0_327]; rfl
noncomputable def asR0_328 : Asm := asR0_324.add .geq (.at 3) (.lit 0) false
noncomputable def trR0_328 : ATree := (.leaf (.int .i64 (.lit 10)))
theorem hR0_328 : ATree.check runR0 trR0_328 asR0_328 = true := R0_24
noncomputable def trR0_324 : ATree := .node .geq (.at 3) (.lit 0) trR0_325 trR0_328
theorem hR0_324 : ATree.check runR0 trR0_324 asR0_324 = true := by
  show (ATree.check runR0 trR0_325 asR0_325 && ATree.check runR0 trR0_328 asR0_328) = true
  rw [hR0_325, hR0_328]; rfl
noncomputable def asR0_329 : Asm := asR0_323.add .eql (.at 2) (.lit 7) false
noncomputable def asR0_330 : Asm := asR0_329.add .eql (.at 2) (.lit 8) true
noncomputable def asR0_331 : Asm := asR0_330.add .geq (.at 3) (.lit 0) true
noncomputable def asR0_332 : Asm := asR0_331.add .leq (.at 3) (.bin .sub .i64 (.at 0) (.lit 1)) true
noncomputable def asR0_333 : Asm := asR0_332.add .geq (.at 4) (.lit 0) true
noncomputable def asR0_334 : Asm := asR0_333.add .leq (.at 4) (.bin .sub .i64 (.bin .mul .i64 (.at 1) (.lit 2)) (.lit 1)) true
noncomputable def asR0_335 : Asm := asR0_334.add .geq (.at 5) (.lit 0) true
noncomputable def trR0_335 : ATree := (.node .leq (.at 5) (.lit 4) (.node .eql (.at 6) (.lit 1) (.node .eql (.at 9) (.lit 0) (.leaf (.int .i64 (.lit 0))) (.leaf (.int .i64 (.lit 10)))) (.node .eql (.at 6) (.lit 2) (.node .eql (.at 9) (.lit 0) (.leaf (.int .i64 (.lit 0))) (.leaf (.int .i64 (.lit 10)))) (.node .eql (.at 6) (.lit 4) (.node .eql (.at 9) (.lit 0) (.leaf (.int .i64 (.lit 0))) (.leaf (.int .i64 (.lit 10)))) (.leaf (.int .i64 (.lit 10)))))) (.leaf (.int .i64 (.lit 10))))
theorem hR0_335 : ATree.check runR0 trR0_335 asR0_335 = true := R0_25
noncomputable def asR0_336 : Asm := asR0_334.add .geq (.at 5) (.lit 0) false
noncomputable def trR0_336 : ATree := (.leaf (.int .i64 (.lit 10)))
theorem hR0_336 : ATree.check runR0 trR0_336 asR0_336 = true := R0_26
noncomputable def trR0_334 : ATree := .node .geq (.at 5) (.lit 0) trR0_335 trR0_336
theorem hR0_334 : ATree.check runR0 trR0_334 asR0_334 = true := by
  show (ATree.check runR0 trR0_335 asR0_335 && ATree.check runR0 trR0_336 asR0_336) = true
  rw [hR0_335, hR0_336]; rfl
noncomputable def asR0_337 : Asm := asR0_333.add .leq (.at 4) (.bin .sub .i64 (.bin .mul .i64 (.at 1) (.lit 2)) (.lit 1)) false
noncomputable def trR0_337 : ATree := (.leaf (.int .i64 (.lit 10)))
theorem hR0_337 : ATree.check runR0 trR0_337 asR0_337 = true := R0_27
noncomputable def trR0_333 : ATree := .node .leq (.at 4) (.bin .sub .i64 (.bin .mul .i64 (.at 1) (.lit 2)) (.lit 1)) trR0_334 trR0_337
theorem hR0_333 : ATree.check runR0 trR0_333 asR0_333 = true := by
  show (ATree.check runR0 trR0_334 asR0_334 && ATree.check runR0 trR0_337 asR0_337) = true
  rw [hR0_334, hR0_337]; rfl
noncomputable def asR0_338 : Asm := asR0_332.add .geq (.at 4) (.lit 0) false
noncomputable def trR0_338 : ATree := (.leaf (.int .i64 (.lit 10)))
theorem hR0_338 : ATree.check runR0 trR0_338 asR0_338 = true := R0_28
noncomputable def trR0_332 : ATree := .node .geq (.at 4) (.lit 0) trR0_333 trR0_338
theorem hR0_332 : ATree.check runR0 trR0_332 asR0_332 = true := by
  show (ATree.check runR0 trR0_333 asR0_333 && ATree.check runR0 trR0_338 asR0_338) = true
  rw [hR0_333, hR0_338]; rfl
noncomputable def asR0_339 : Asm := asR0_331.add .leq (.at 3) (.bin .sub .i64 (.at 0) (.lit 1)) false
noncomputable def trR0_339 : ATree := (.leaf (.int .i64 (.lit 10)))
theorem hR0_339 : ATree.check runR0 trR0_339 asR0_339 = true := R0_29
noncomputable def trR0_331 : ATree := .node .leq (.at 3) (.bin .sub .i64 (.at 0) (.lit 1)) trR0_332 trR0_339
theorem hR0_331 : ATree.check runR0 trR0_331 asR0_331 = true := by
  show (ATree.check runR0 trR0_332 asR0_332 && ATree.check runR0 trR0_339 asR0_339) = true
  rw [hR0_332, hR0_339]; rfl
noncomputable def asR0_340 : Asm := asR0_330.add .geq (.at 3) (.lit 0) false
noncomputable def trR0_340 : ATree := (.leaf (.int .i64 (.lit 10)))
theorem hR0_340 : ATree.check runR0 trR0_340 asR0_340 = true := R0_30
noncomputable def trR0_330 : ATree := .node .geq (.at 3) (.lit 0) trR0_331 trR0_340
theorem hR0_330 : ATree.check runR0 trR0_330 asR0_330 = true := by
  show (ATree.check runR0 trR0_331 asR0_331 && ATree.check runR0 trR0_340 asR0_340) = true
  rw [hR0_331, hR0_340]; rfl
noncomputable def asR0_341 : Asm := asR0_329.add .eql (.at 2) (.lit 8) false
noncomputable def asR0_342 : Asm := asR0_341.add .eql (.at 2) (.lit 9) true
noncomputable def asR0_343 : Asm := asR0_342.add .geq (.at 3) (.lit 0) true
noncomputable def asR0_344 : Asm := asR0_343.add .leq (.at 3) (.bin .sub .i64 (.at 0) (.lit 1)) true
noncomputable def asR0_345 : Asm := asR0_344.add .geq (.at 4) (.lit 0) true
noncomputable def asR0_346 : Asm := asR0_345.add .leq (.at 4) (.bin .sub .i64 (.bin .mul .i64 (.at 1) (.lit 2)) (.lit 1)) true
noncomputable def asR0_347 : Asm := asR0_346.add .eql (.at 9) (.lit 0) true
noncomputable def trR0_347 : ATree := (.node .eql (.at 5) (.lit 0) (.node .eql (.at 6) (.lit 0) (.node .eql (.at 7) (.lit 0) (.node .eql (.at 8) (.lit 0) (.leaf (.int .i64 (.lit 0))) (.leaf (.int .i64 (.lit 10)))) (.leaf (.int .i64 (.lit 10)))) (.leaf (.int .i64 (.lit 10)))) (.leaf (.int .i64 (.lit 10))))
theorem hR0_347 : ATree.check runR0 trR0_347 asR0_347 = true := R0_31
noncomputable def asR0_348 : Asm := asR0_346.add .eql (.at 9) (.lit 0) false
noncomputable def trR0_348 : ATree := (.node .eql (.at 9) (.lit 1) (.node .eql (.at 5) (.lit 0) (.node .eql (.at 6) (.lit 0) (.node .eql (.at 7) (.lit 0) (.node .eql (.at 8) (.lit 0) (.leaf (.int .i64 (.lit 0))) (.leaf (.int .i64 (.lit 10)))) (.leaf (.int .i64 (.lit 10)))) (.leaf (.int .i64 (.lit 10)))) (.leaf (.int .i64 (.lit 10)))) (.leaf (.int .i64 (.lit 10))))
theorem hR0_348 : ATree.check runR0 trR0_348 asR0_348 = true := R0_32
noncomputable def trR0_346 : ATree := .node .eql (.at 9) (.lit 0) trR0_347 trR0_348
theorem hR0_346 : ATree.check runR0 trR0_346 asR0_346 = true := by
  show (ATree.check runR0 trR0_347 asR0_347 && ATree.check runR0 trR0_348 asR0_348) = true
  rw [hR0_347, hR0_348]; rfl
noncomputable def asR0_349 : Asm := asR0_345.add .leq (.at 4) (.bin .sub .i64 (.bin .mul .i64 (.at 1) (.lit 2)) (.lit 1)) false
noncomputable def trR0_349 : ATree := (.leaf (.int .i64 (.lit 10)))
theorem hR0_349 : ATree.check runR0 trR0_349 asR0_349 = true := R0_33
noncomputable def trR0_345 : ATree := .node .leq (.at 4) (.bin .sub .i64 (.bin .mul .i64 (.at 1) (.lit 2)) (.lit 1)) trR0_346 trR0_349
theorem hR0_345 : ATree.check runR0 trR0_345 asR0_345 = true := by
  show (ATree.check runR0 trR0_346 asR0_346 && ATree.check runR0 trR0_349 asR0_349) = true
  rw [hR0_346, hR0_349]; rfl
noncomputable def asR0_350 : Asm := asR0_344.add .geq (.at 4) (.lit 0) false
noncomputable def trR0_350 : ATree := (.leaf (.int .i64 (.lit 10)))
theorem hR0_350 : ATree.check runR0 trR0_350 asR0_350 = true := R0_34
noncomputable def trR0_344 : ATree := .node .geq (.at 4) (.lit 0) trR0_345 trR0_350
theorem hR0_344 : ATree.check runR0 trR0_344 asR0_344 = true := by
  show (ATree.check runR0 trR0_345 asR0_345 && ATree.check runR0 trR0_350 asR0_350) = true
  rw [hR0_345, hR0_350]; rfl
noncomputable def asR0_351 : Asm := asR0_343.add .leq (.at 3) (.bin .sub .i64 (.at 0) (.lit 1)) false
noncomputable def trR0_351 : ATree := (.leaf (.int .i64 (.lit 10)))
theorem hR0_351 : ATree.check runR0 trR0_351 asR0_351 = true := R0_35
noncomputable def trR0_343 : ATree := .node .leq (.at 3) (.bin .sub .i64 (.at 0) (.lit 1)) trR0_344 trR0_351
theorem hR0_343 : ATree.check runR0 trR0_343 asR0_343 = true := by
  show (ATree.check runR0 trR0_344 asR0_344 && ATree.check runR0 trR0_351 asR0_351) = true
  rw [hR0_344, hR0_351]; rfl
noncomputable def asR0_352 : Asm := asR0_342.add .geq (.at 3) (.lit 0) false
noncomputable def trR0_352 : ATree := (.leaf (.int .i64 (.lit 10)))
theorem hR0_352 : ATree.check runR0 trR0_352 asR0_352 = true := R0_36
noncomputable def trR0_342 : ATree := .node .geq (.at 3) (.lit 0) trR0_343 trR0_352
theorem hR0_342 : ATree.check runR0 trR0_342 asR0_342 = true := by
  show (ATree.check runR0 trR0_343 asR0_343 && ATree.check runR0 trR0_352 asR0_352) = true
  rw [hR0_343, hR0_352]; rfl
noncomputable def asR0_353 : Asm := asR0_341.add .eql (.at 2) (.lit 9) false
noncomputable def asR0_354 : Asm := asR0_353.add .eql (.at 2) (.lit 10) true
noncomputable def asR0_355 : Asm := asR0_354.add .geq (.at 3) (.lit 0) true
noncomputable def asR0_356 : Asm := asR0_355.add .leq (.at 3) (.bin .sub .i64 (.at 0) (.lit 1)) true
noncomputable def trR0_356 : ATree := (.node .geq (.at 4) (.lit 0) (.node .leq (.at 4) (.bin .sub .i64 (.bin .mul .i64 (.at 1) (.lit 2)) (.lit 1)) (.node .eql (.at 5) (.lit 0) (.node .eql (.at 6) (.lit 0) (.node .eql (.at 7) (.lit 0) (.node .eql (.at 8) (.lit 0) (.node .eql (.at 9) (.lit 0) (.leaf (.int .i64 (.lit 0))) (.leaf (.int .i64 (.lit 10)))) (.leaf (.int .i64 (.lit 10)))) (.leaf (.int .i64 (.lit 10)))) (.leaf (.int .i64 (.lit 10)))) (.leaf (.int .i64 (.lit 10)))) (.leaf (.int .i64 (.lit 10)))) (.leaf (.int .i64 (.lit 10))))
theorem hR0_356 : ATree.check runR0 trR0_356 asR0_356 = true := R0_37
noncomputable def asR0_357 : Asm := asR0_355.add .leq (.at 3) (.bin .sub .i64 (.at 0) (.lit 1)) false
noncomputable def trR0_357 : ATree := (.leaf (.int .i64 (.lit 10)))
theorem hR0_357 : ATree.check runR0 trR0_357 asR0_357 = true := R0_38
noncomputable def trR0_355 : ATree := .node .leq (.at 3) (.bin .sub .i64 (.at 0) (.lit 1)) trR0_356 trR0_357
theorem hR0_355 : ATree.check runR0 trR0_355 asR0_355 = true := by
  show (ATree.check runR0 trR0_356 asR0_356 && ATree.check runR0 trR0_357 asR0_357) = true
  rw [hR0_356, hR0_357]; rfl
noncomputable def asR0_358 : Asm := asR0_354.add .geq (.at 3) (.lit 0) false
noncomputable def trR0_358 : ATree := (.leaf (.int .i64 (.lit 10)))
theorem hR0_358 : ATree.check runR0 trR0_358 asR0_358 = true := R0_39
noncomputable def trR0_354 : ATree := .node .geq (.at 3) (.lit 0) trR0_355 trR0_358
theorem hR0_354 : ATree.check runR0 trR0_354 asR0_354 = true := by
  show (ATree.check runR0 trR0_355 asR0_355 && ATree.check runR0 trR0_358 asR0_358) = true
  rw [hR0_355, hR0_358]; rfl
noncomputable def asR0_359 : Asm := asR0_353.add .eql (.at 2) (.lit 10) false
noncomputable def asR0_360 : Asm := asR0_359.add .eql (.at 2) (.lit 11) true
noncomputable def asR0_361 : Asm := asR0_360.add .geq (.at 3) (.lit 0) true
noncomputable def asR0_362 : Asm := asR0_361.add .leq (.at 3) (.bin .sub .i64 (.at 0) (.lit 1)) true
noncomputable def asR0_363 : Asm := asR0_362.add .geq (.at 4) (.lit 0) true
noncomputable def asR0_364 : Asm := asR0_363.add .leq (.at 4) (.bin .sub .i64 (.bin .mul .i64 (.at 1) (.lit 2)) (.lit 1)) true
noncomputable def asR0_365 : Asm := asR0_364.add .eql (.at 6) (.lit 0) true
noncomputable def trR0_365 : ATree := (.node .eql (.at 5) (.lit 0) (.node .eql (.at 7) (.lit 0) (.node .eql (.at 8) (.lit 0) (.node .eql (.at 9) (.lit 0) (.leaf (.int .i64 (.lit 0))) (.leaf (.int .i64 (.lit 10)))) (.leaf (.int .i64 (.lit 10)))) (.leaf (.int .i64 (.lit 10)))) (.leaf (.int .i64 (.lit 10))))
theorem hR0_365 : ATree.check runR0 trR0_365 asR0_365 = true := R0_40
noncomputable def asR0_366 : Asm := asR0_364.add .eql (.at 6) (.lit 0) false
noncomputable def trR0_366 : ATree := (.node .eql (.at 6) (.lit 1) (.node .eql (.at 5) (.lit 0) (.node .eql (.at 7) (.lit 0) (.node .eql (.at 8) (.lit 0) (.node .eql (.at 9) (.lit 0) (.leaf (.int .i64 (.lit 0))) (.leaf (.int .i64 (.lit 10)))) (.leaf (.int .i64 (.lit 10)))) (.leaf (.int .i64 (.lit 10)))) (.leaf (.int .i64 (.lit 10)))) (.leaf (.int .i64 (.lit 10))))
theorem hR0_366 : ATree.check runR0 trR0_366 asR0_366 = true := R0_41
noncomputable def trR0_364 : ATree := .node .eql (.at 6) (.lit 0) trR0_365 trR0_366
theorem hR0_364 : ATree.check runR0 trR0_364 asR0_364 = true := by
  show (ATree.check runR0 trR0_365 asR0_365 && ATree.check runR0 trR0_366 asR0_366) = true
  rw [hR0_365, hR0_366]; rfl
noncomputable def asR0_367 : Asm := asR0_363.add .leq (.at 4) (.bin .sub .i64 (.bin .mul .i64 (.at 1) (.lit 2)) (.lit 1)) false
noncomputable def trR0_367 : ATree := (.leaf (.int .i64 (.lit 10)))
theorem hR0_367 : ATree.check runR0 trR0_367 asR0_367 = true := R0_42
noncomputable def trR0_363 : ATree := .node .leq (.at 4) (.bin .sub .i64 (.bin .mul .i64 (.at 1) (.lit 2)) (.lit 1)) trR0_364 trR0_367
theorem hR0_363 : ATree.check runR0 trR0_363 asR0_363 = true := by
  show (ATree.check runR0 trR0_364 asR0_364 && ATree.check runR0 trR0_367 asR0_367) = true
  rw [hR0_364, hR0_367]; rfl
noncomputable def asR0_368 : Asm := asR0_362.add .geq (.at 4) (.lit 0) false
noncomputable def trR0_368 : ATree := (.leaf (.int .i64 (.lit 10)))
theorem hR0_368 : ATree.check runR0 trR0_368 asR0_368 = true := R0_43
noncomputable def trR0_362 : ATree := .node .geq (.at 4) (.lit 0) trR0_363 trR0_368
theorem hR0_362 : ATree.check runR0 trR0_362 asR0_362 = true := by
  show (ATree.check runR0 trR0_363 asR0_363 && ATree.check runR0 trR0_368 asR0_368) = true
  rw [hR0_363, hR0_368]; rfl
noncomputable def asR0_369 : Asm := asR0_361.add .leq (.at 3) (.bin .sub .i64 (.at 0) (.lit 1)) false
noncomputable def trR0_369 : ATree := (.leaf (.int .i64 (.lit 10)))
theorem hR0_369 : ATree.check runR0 trR0_369 asR0_369 = true := R0_44
noncomputable def trR0_361 : ATree := .node .leq (.at 3) (.bin .sub .i64 (.at 0) (.lit 1)) trR0_362 trR0_369
theorem hR0_361 : ATree.check runR0 trR0_361 asR0_361 = true := by
  show (ATree.check runR0 trR0_362 asR0_362 && ATree.check runR0 trR0_369 asR0_369) = true
  rw [hR0_362, hR0_369]; rfl
noncomputable def asR0_370 : Asm := asR0_360.add .geq (.at 3) (.lit 0) false
noncomputable def trR0_370 : ATree := (.leaf (.int .i64 (.lit 10)))
theorem hR0_370 : ATree.check runR0 trR0_370 asR0_370 = true := R0_45
noncomputable def trR0_360 : ATree := .node .geq (.at 3) (.lit 0) trR0_361 trR0_370
theorem hR0_360 : ATree.check runR0 trR0_360 asR0_360 = true := by
  show (ATree.check runR0 trR0_361 asR0_361 && ATree.check runR0 trR0_370 asR0_370) = true
  rw [hR0_361, hR0_370]; rfl
noncomputable def asR0_371 : Asm := asR0_359.add .eql (.at 2) (.lit 11) false
noncomputable def asR0_372 : Asm := asR0_371.add .eql (.at 2) (.lit 12) true
noncomputable def trR0_372 : ATree := (.node .geq (.at 3) (.lit 0) (.node .leq (.at 3) (.bin .sub .i64 (.at 0) (.lit 1)) (.node .geq (.at 9) (.lit 0) (.node .leq (.at 9) (.lit 19) (.node .eql (.at 4) (.lit 0) (.node .eql (.at 5) (.lit 0) (.node .eql (.at 6) (.lit 0) (.leaf (.int .i64 (.lit 0))) (.leaf (.int .i64 (.lit 10)))) (.leaf (.int .i64 (.lit 10)))) (.leaf (.int .i64 (.lit 10)))) (.leaf (.int .i64 (.lit 10)))) (.leaf (.int .i64 (.lit 10)))) (.leaf (.int .i64 (.lit 10)))) (.leaf (.int .i64 (.lit 10))))
theorem hR0_372 : ATree.check runR0 trR0_372 asR0_372 = true := R0_46
noncomputable def asR0_373 : Asm := asR0_371.add .eql (.at 2) (.lit 12) false
noncomputable def asR0_374 : Asm := asR0_373.add .geq (.at 3) (.lit 0) true
noncomputable def asR0_375 : Asm := asR0_374.add .leq (.at 3) (.bin .sub .i64 (.at 0) (.lit 1)) true
noncomputable def trR0_375 : ATree := (.node .geq (.at 9) (.lit 0) (.node .leq (.at 9) (.bin .sub .i64 (.at 1) (.lit 1)) (.node .eql (.at 4) (.lit 0) (.node .eql (.at 5) (.lit 0) (.node .eql (.at 6) (.lit 0) (.node .eql (.at 7) (.lit 0) (.node .eql (.at 8) (.lit 0) (.leaf (.int .i64 (.lit 0))) (.leaf (.int .i64 (.lit 10)))) (.leaf (.int .i64 (.lit 10)))) (.leaf (.int .i64 (.lit 10)))) (.leaf (.int .i64 (.lit 10)))) (.leaf (.int .i64 (.lit 10)))) (.leaf (.int .i64 (.lit 10)))) (.leaf (.int .i64 (.lit 10))))
theorem hR0_375 : ATree.check runR0 trR0_375 asR0_375 = true := R0_47
noncomputable def asR0_376 : Asm := asR0_374.add .leq (.at 3) (.bin .sub .i64 (.at 0) (.lit 1)) false
noncomputable def trR0_376 : ATree := (.leaf (.int .i64 (.lit 10)))
theorem hR0_376 : ATree.check runR0 trR0_376 asR0_376 = true := R0_48
noncomputable def trR0_374 : ATree := .node .leq (.at 3) (.bin .sub .i64 (.at 0) (.lit 1)) trR0_375 trR0_376
theorem hR0_374 : ATree.check runR0 trR0_374 asR0_374 = true := by
  show (ATree.check runR0 trR0_375 asR0_375 && ATree.check runR0 trR0_376 asR0_376) = true
  rw [hR0_375, hR0_376]; rfl
noncomputable def asR0_377 : Asm := asR0_373.add .geq (.at 3) (.lit 0) false
noncomputable def trR0_377 : ATree := (.leaf (.int .i64 (.lit 10)))
theorem hR0_377 : ATree.check runR0 trR0_377 asR0_377 = true := R0_49
noncomputable def trR0_373 : ATree := .node .geq (.at 3) (.lit 0) trR0_374 trR0_377
theorem hR0_373 : ATree.check runR0 trR0_373 asR0_373 = true := by
  show (ATree.check runR0 trR0_374 asR0_374 && ATree.check runR0 trR0_377 asR0_377) = true
  rw [hR0_374, hR0_377]; rfl
noncomputable def trR0_371 : ATree := .node .eql (.at 2) (.lit 12) trR0_372 trR0_373
theorem hR0_371 : ATree.check runR0 trR0_371 asR0_371 = true := by
  show (ATree.check runR0 trR0_372 asR0_372 && ATree.check runR0 trR0_373 asR0_373) = true
  rw [hR0_372, hR0_373]; rfl
noncomputable def trR0_359 : ATree := .node .eql (.at 2) (.lit 11) trR0_360 trR0_371
theorem hR0_359 : ATree.check runR0 trR0_359 asR0_359 = true := by
  show (ATree.check runR0 trR0_360 asR0_360 && ATree.check runR0 trR0_371 asR0_371) = true
  rw [hR0_360, hR0_371]; rfl
noncomputable def trR0_353 : ATree := .node .eql (.at 2) (.lit 10) trR0_354 trR0_359
theorem hR0_353 : ATree.check runR0 trR0_353 asR0_353 = true := by
  show (ATree.check runR0 trR0_354 asR0_354 && ATree.check runR0 trR0_359 asR0_359) = true
  rw [hR0_354, hR0_359]; rfl
noncomputable def trR0_341 : ATree := .node .eql (.at 2) (.lit 9) trR0_342 trR0_353
theorem hR0_341 : ATree.check runR0 trR0_341 asR0_341 = true := by
  show (ATree.check runR0 trR0_342 asR0_342 && ATree.check runR0 trR0_353 asR0_353) = true
  rw [hR0_342, hR0_353]; rfl
noncomputable def trR0_329 : ATree := .node .eql (.at 2) (.lit 8) trR0_330 trR0_341
theorem hR0_329 : ATree.check runR0 trR0_329 asR0_329 = true := by
  show (ATree.check runR0 trR0_330 asR0_330 && ATree.check runR0 trR0_341 asR0_341) = true
  rw [hR0_330, hR0_341]; rfl
noncomputable def trR0_323 : ATree := .node .eql (.at 2) (.lit 7) trR0_324 trR0_329
theorem hR0_323 : ATree.check runR0 trR0_323 asR0_323 = true := by
  show (ATree.check runR0 trR0_324 asR0_324 && ATree.check runR0 trR0_329 asR0_329) = true
  rw [hR0_324, hR0_329]; rfl
noncomputable def trR0_317 : ATree := .node .eql (.at 2) (.lit 6) trR0_318 trR0_323
theorem hR0_317 : ATree.check runR0 trR0_317 asR0_317 = true := by
  show (ATree.check runR0 trR0_318 asR0_318 && ATree.check runR0 trR0_323 asR0_323) = true
  rw [hR0_318, hR0_323]; rfl
noncomputable def trR0_309 : ATree := .node .eql (.at 2) (.lit 5) trR0_310 trR0_317
theorem hR0_309 : ATree.check runR0 trR0_309 asR0_309 = true := by
  show (ATree.check runR0 trR0_310 asR0_310 && ATree.check runR0 trR0_317 asR0_317) = true
  rw [hR0_310, hR0_317]; rfl
noncomputable def trR0_303 : ATree := .node .eql (.at 2) (.lit 4) trR0_304 trR0_309
theorem hR0_303 : ATree.check runR0 trR0_303 asR0_303 = true := by
  show (ATree.check runR0 trR0_304 asR0_304 && ATree.check runR0 trR0_309 asR0_309) = true
  rw [hR0_304, hR0_309]; rfl
noncomputable def trR0_299 : ATree := .node .eql (.at 2) (.lit 3) trR0_300 trR0_303
theorem hR0_299 : ATree.check runR0 trR0_299 asR0_299 = true := by
  show (ATree.check runR0 trR0_300 asR0_300 && ATree.check runR0 trR0_303 asR0_303) = true
  rw [hR0_300, hR0_303]; rfl
noncomputable def trR0_291 : ATree := .node .eql (.at 2) (.lit 2) trR0_292 trR0_299
theorem hR0_291 : ATree.check runR0 trR0_291 asR0_291 = true := by
  show (ATree.check runR0 trR0_292 asR0_292 && ATree.check runR0 trR0_299 asR0_299) = true
  rw [hR0_292, hR0_299]; rfl
noncomputable def trR0_283 : ATree := .node .eql (.at 2) (.lit 1) trR0_284 trR0_291
theorem hR0_283 : ATree.check runR0 trR0_283 asR0_283 = true := by
  show (ATree.check runR0 trR0_284 asR0_284 && ATree.check runR0 trR0_291 asR0_291) = true
  rw [hR0_284, hR0_291]; rfl
noncomputable def trR0_281 : ATree := .node .gtr (.at 2) (.lit 13) trR0_282 trR0_283
theorem hR0_281 : ATree.check runR0 trR0_281 asR0_281 = true := by
  show (ATree.check runR0 trR0_282 asR0_282 && ATree.check runR0 trR0_283 asR0_283) = true
  rw [hR0_282, hR0_283]; rfl
noncomputable def trR0_279 : ATree := .node .lss (.at 2) (.lit 1) trR0_280 trR0_281
theorem hR0_279 : ATree.check runR0 trR0_279 asR0_279 = true := by
  show (ATree.check runR0 trR0_280 asR0_280 && ATree.check runR0 trR0_281 asR0_281) = true
  rw [hR0_280, hR0_281]; rfl
noncomputable def asR1_378 : Asm := rangeAsm 10
noncomputable def asR1_379 : Asm := asR1_378.add .lss (.at 2) (.lit 1) true
noncomputable def trR1_379 : ATree := (.leaf (.int .i64 (.lit 15)))
theorem hR1_379 : ATree.check runR1 trR1_379 asR1_379 = true := R1_0
noncomputable def asR1_380 : Asm := asR1_378.add .lss (.at 2) (.lit 1) false
noncomputable def asR1_381 : Asm := asR1_380.add .gtr (.at 2) (.lit 13) true
noncomputable def trR1_381 : ATree := (.leaf (.int .i64 (.lit 15)))
theorem hR1_381 : ATree.check runR1 trR1_381 asR1_381 = true := R1_1
noncomputable def asR1_382 : Asm := asR1_380.add .gtr (.at 2) (.lit 13) false
noncomputable def asR1_383 : Asm := asR1_382.add .eql (.at 2) (.lit 1) true
noncomputable def asR1_384 : Asm := asR1_383.add .geq (.at 3) (.lit 0) true
noncomputable def asR1_385 : Asm := asR1_384.add .leq (.at 3) (.bin .sub .i64 (.at 0) (.lit 1)) true
noncomputable def trR1_385 : ATree := (.node .geq (.at 4) (.lit 0) (.node .leq (.at 4) (.bin .sub .i64 (.bin .mul .i64 (.at 1) (.lit 2)) (.lit 1)) (.node .geq (.at 5) (.lit 0) (.node .leq (.at 5) (.lit 3) (.node .eql (.at 6) (.lit 0) (.node .eql (.at 7) (.lit 0) (.node .eql (.at 8) (.lit 0) (.leaf (.int .i64 (.lit 10))) (.leaf (.int .i64 (.lit 10)))) (.leaf (.int .i64 (.lit 10)))) (.leaf (.int .i64 (.lit 10)))) (.leaf (.int .i64 (.lit 10)))) (.leaf (.int .i64 (.lit 10)))) (.leaf (.int .i64 (.lit 10)))) (.leaf (.int .i64 (.lit 10))))
theorem hR1_385 : ATree.check runR1 trR1_385 asR1_385 = true := R1_2
noncomputable def asR1_386 : Asm := asR1_384.add .leq (.at 3) (.bin .sub .i64 (.at 0) (.lit 1)) false
noncomputable def trR1_386 : ATree := (.leaf (.int .i64 (.lit 10)))
theorem hR1_386 : ATree.check runR1 trR1_386 asR1_386 = true := R1_3
noncomputable def trR1_384 : ATree := .node .leq (.at 3) (.bin .sub .i64 (.at 0) (.lit 1)) trR1_385 trR1_386
theorem hR1_384 : ATree.check runR1 trR1_384 asR1_384 = true := by
  show (ATree.check runR1 trR1_385 asR1_385 && ATree.check runR1 trR1_386 asR1_386) = true
  rw [hR1_385, hR1_386]; rfl
noncomputable def asR1_387 : Asm := asR1_383.add .geq (.at 3) (.lit 0) false
noncomputable def trR1_387 : ATree := (.leaf (.int .i64 (.lit 10)))
theorem hR1_387 : ATree.check runR1 trR1_387 asR1_387 = true := R1_4
noncomputable def trR1_383 : ATree := .node .geq (.at 3) (.lit 0) trR1_384 trR1_387
theorem hR1_383 : ATree.check runR1 trR1_383 asR1_383 = true := by
  show (ATree.check runR1 trR1_384 asR1_384 && ATree.check runR1 trR1_387 asR1_387) = true
  rw [hR1_384, hR1_387]; rfl
noncomputable def asR1_388 : Asm := asR1_382.add .eql (.at 2) (.lit 1) false
noncomputable def asR1_389 : Asm := asR1_388.add .eql (.at 2) (.lit 2) true
noncomputable def asR1_390 : Asm := asR1_389.add .geq (.at 3) (.lit 0) true
noncomputable def asR1_391 : Asm := asR1_390.add .leq (.at 3) (.bin .sub .i64 (.at 0) (.lit 1)) true
noncomputable def trR1_391 : ATree := (.node .geq (.at 4) (.lit 0) (.node .leq (.at 4) (.bin .sub .i64 (.bin .mul .i64 (.at 1) (.lit 2)) (.lit 1)) (.node .geq (.at 5) (.lit 0) (.node .leq (.at 5) (.lit 3) (.node .eql (.at 6) (.lit 0) (.node .eql (.at 7) (.lit 0) (.node .eql (.at 8) (.lit 0) (.leaf (.int .i64 (.lit 10))) (.leaf (.int .i64 (.lit 10)))) (.leaf (.int .i64 (.lit 10)))) (.leaf (.int .i64 (.lit 10)))) (.leaf (.int .i64 (.lit 10)))) (.leaf (.int .i64 (.lit 10)))) (.leaf (.int .i64 (.lit 10)))) (.leaf (.int .i64 (.lit 10))))
theorem hR1_391 : ATree.check runR1 trR1_391 asR1_391 = true := R1_5
noncomputable def asR1_392 : Asm := asR1_390.add .leq (.at 3) (.bin .sub .i64 (.at 0) (.lit 1)) false
noncomputable def trR1_392 : ATree := (.leaf (.int .i64 (.lit 10)))
theorem hR1_392 : ATree.check runR1 trR1_392 asR1_392 = true := R1_6
noncomputable def trR1_390 : ATree := .node .leq (.at 3) (.bin .sub .i64 (.at 0) (.lit 1)) trR1_391 trR1_392
theorem hR1_390 : ATree.check runR1 trR1_390 asR1_390 = true := by
  show (ATree.check runR1 trR1_391 asR1_391 && ATree.check runR1 trR1_392 asR1_392) = true
  rw [hR1_391, hR1_392]; rfl
noncomputable def asR1_393 : Asm := asR1_389.add .geq (.at 3) (.lit 0) false
noncomputable def trR1_393 : ATree := (.leaf (.int .i64 (.lit 10)))
theorem hR1_393 : ATree.check runR1 trR1_393 asR1_393 = true := R1_7
noncomputable def trR1_389 : ATree := .node .geq (.at 3) (.lit 0) trR1_390 trR1_393
theorem hR1_389 : ATree.check runR1 trR1_389 asR1_389 = true := by
  show (ATree.check runR1 trR1_390 asR1_390 && ATree.check runR1 trR1_393 asR1_393) = true
  rw [hR1_390, hR1_393]; rfl
noncomputable def asR1_394 : Asm := asR1_388.add .eql (.at 2) (.lit 2) false
noncomputable def asR1_395 : Asm := asR1_394.add .eql (.at 2) (.lit 3) true
noncomputable def asR1_396 : Asm := asR1_395.add .geq (.at 3) (.lit 0) true
noncomputable def trR1_396 : ATree := (.node .leq (.at 3) (.bin .sub .i64 (.at 0) (.lit 1)) (.node .geq (.at 4) (.lit 0) (.node .leq (.at 4) (.bin .sub .i64 (.bin .mul .i64 (.at 1) (.lit 2)) (.lit 1)) (.node .geq (.at 5) (.lit 0) (.node .leq (.at 5) (.lit 4) (.node .eql (.at 6) (.lit 0) (.node .eql (.at 9) (.lit 0) (.leaf (.int .i64 (.lit 0))) (.leaf (.int .i64 (.lit 10)))) (.leaf (.int .i64 (.lit 10)))) (.leaf (.int .i64 (.lit 10)))) (.leaf (.int .i64 (.lit 10)))) (.leaf (.int .i64 (.lit 10)))) (.leaf (.int .i64 (.lit 10)))) (.leaf (.int .i64 (.lit 10))))
theorem hR1_396 : ATree.check runR1 trR1_396 asR1_396 = true := R1_8
noncomputable def asR1_397 : Asm := asR1_395.add .geq (.at 3) (.lit 0) false
noncomputable def trR1_397 : ATree := (.leaf (.int .i64 (.lit 10)))
theorem hR1_397 : ATree.check runR1 trR1_397 asR1_397 = true := R1_9
noncomputable def trR1_395 : ATree := .node .geq (.at 3) (.lit 0) trR1_396 trR1_397
theorem hR1_395 : ATree.check runR1 trR1_395 asR1_395 = true := by
  show (ATree.check runR1 trR1_396 asR1_396 && ATree.check runR1 trR1_397 asR1_397) = true
  rw [hR1_396, hR1_397]; rfl
noncomputable def asR1_398 : Asm := asR1_394.add .eql (.at 2) (.lit 3) false
noncomputable def asR1_399 : Asm := asR1_398.add .eql (.at 2) (.lit 4) true
noncomputable def asR1_400 : Asm := asR1_399.add .geq (.at 3) (.lit 0) true
noncomputable def trR1_400 : ATree := (.node .leq (.at 3) (.bin .sub .i64 (.at 0) (.lit 1)) (.node .geq (.at 4) (.lit 0) (.node .leq (.at 4) (.bin .sub .i64 (.bin .mul .i64 (.at 1) (.lit 2)) (.lit 1)) (.node .eql (.at 5) (.lit 0) (.node .eql (.at 6) (.lit 0) (.node .eql (.at 7) (.lit 0) (.node .eql (.at 8) (.lit 0) (.leaf (.int .i64 (.lit 10))) (.leaf (.int .i64 (.lit 10)))) (.leaf (.int .i64 (.lit 10)))) (.leaf (.int .i64 (.lit 10)))) (.leaf (.int .i64 (.lit 10)))) (.leaf (.int .i64 (.lit 10)))) (.leaf (.int .i64 (.lit 10)))) (.leaf (.int .i64 (.lit 10))))
theorem hR1_400 : ATree.check runR1 trR1_400 asR1_400 = true := R1_10
noncomputable def asR1_401 : Asm := asR1_399.add .geq (.at 3) (.lit 0) false
noncomputable def trR1_401 : ATree := (.leaf (.int .i64 (.lit 10)))
theorem hR1_401 : ATree.check runR1 trR1_401 asR1_401 = true := R1_11
noncomputable def trR1_399 : ATree := .node .geq (.at 3) (.lit 0) trR1_400 trR1_401
theorem hR1_399 : ATree.check runR1 trR1_399 asR1_399 = true := by
  show (ATree.check runR1 trR1_400 asR1_400 && ATree.check runR1 trR1_401 asR1_401) = true
  rw [hR1_400, hR1_401]; rfl
noncomputable def asR1_402 : Asm := asR1_398.add .eql (.at 2) (.lit 4) false
noncomputable def asR1_403 : Asm := asR1_402.add .eql (.at 2) (.lit 5) true
noncomputable def asR1_404 : Asm := asR1_403.add .geq (.at 3) (.lit 0) true
noncomputable def asR1_405 : Asm := asR1_404.add .leq (.at 3) (.bin .sub .i64 (.at 0) (.lit 1)) true
noncomputable def asR1_406 : Asm := asR1_405.add .geq (.at 4) (.lit 0) true
noncomputable def trR1_406 : ATree := (.node .leq (.at 4) (.bin .sub .i64 (.bin .mul .i64 (.at 1) (.lit 2)) (.lit 1)) (.node .geq (.at 6) (.lit 0) (.node .leq (.at 6) (.lit 4) (.node .eql (.at 9) (.lit 0) (.node .eql (.at 5) (.lit 0) (.leaf (.int .i64 (.lit 0))) (.leaf (.int .i64 (.lit 10)))) (.node .eql (.at 9) (.lit 1) (.node .eql (.at 5) (.lit 0) (.leaf (.int .i64 (.lit 0))) (.leaf (.int .i64 (.lit 10)))) (.leaf (.int .i64 (.lit 10))))) (.leaf (.int .i64 (.lit 10)))) (.leaf (.int .i64 (.lit 10)))) (.leaf (.int .i64 (.lit 10))))
theorem hR1_406 : ATree.check runR1 trR1_406 asR1_406 = true := R1_12
noncomputable def asR1_407 : Asm := asR1_405.add .geq (.at 4) (.lit 0) false
noncomputable def trR1_407 : ATree := (.leaf (.int .i64 (.lit 10)))
theorem hR1_407 : ATree.check runR1 trR1_407 asR1_407 = true := R1_13
noncomputable def trR1_405 : ATree := .node .geq (.at 4) (.lit 0) trR1_406 trR1_407
theorem hR1_405 : ATree.check runR1 trR1_405 asR1_405 = true := by
  show (ATree.check runR1 trR1_406 asR1_406 && ATree.check runR1 trR1_407 asR1_407) = true
  rw [hR1_406, hR1_407]; rfl
noncomputable def asR1_408 : Asm := asR1_404.add .leq (.at 3) (.bin .sub .i64 (.at 0) (.lit 1)) false
noncomputable def trR1_408 : ATree := (.leaf (.int .i64 (.lit 10)))
theorem hR1_408 : ATree.check runR1 trR1_408 asR1_408 = true := R1_14
noncomputable def trR1_404 : ATree := .node .leq (.at 3) (.bin .sub .i64 (.at 0) (.lit 1)) trR1_405 trR1_408
theorem hR1_404 : ATree.check runR1 trR1_404 asR1_404 = true := by
  show (ATree.check runR1 trR1_405 asR1_405 && ATree.check runR1 trR1_408 asR1_408) = true
  rw [hR1_405, hR1_408]; rfl
noncomputable def asR1_409 : Asm := asR1_403.add .geq (.at 3) (.lit 0) false
noncomputable def trR1_409 : ATree := (.leaf (.int .i64 (.lit 10)))
theorem hR1_409 : ATree.check runR1 trR1_409 asR1_409 = true := R1_15
noncomputable def trR1_403 : ATree := .node .geq (.at 3) (.lit 0) trR1_404 trR1_409
theorem hR1_403 : ATree.check runR1 trR1_403 asR1_403 = true := by
  show (ATree.check runR1 trR1_404 asR1_404 && ATree.check runR1 trR1_409 asR1_409) = true
  rw [hR1_404, hR1_409]; rfl
noncomputable def asR1_410 : Asm := asR1_402.add .eql (.at 2) (.lit 5) false
noncomputable def asR1_411 : Asm := asR1_410.add .eql (.at 2) (.lit 6) true
noncomputable def asR1_412 : Asm := asR1_411.add .geq (.at 3) (.lit 0) true
noncomputable def asR1_413 : Asm := asR1_412.add .leq (.at 3) (.bin .sub .i64 (.at 0) (.lit 1)) true
noncomputable def trR1_413 : ATree := (.node .geq (.at 9) (.lit 0) (.node .leq (.at 9) (.lit 19) (.node .eql (.at 4) (.lit 0) (.node .eql (.at 5) (.lit 0) (.node .eql (.at 6) (.lit 0) (.node .eql (.at 7) (.lit 0) (.node .eql (.at 8) (.lit 0) (.leaf (.int .i64 (.lit 10))) (.leaf (.int .i64 (.lit 10)))) (.leaf (.int .i64 (.lit 10)))) (.leaf (.int .i64 (.lit 10)))) (.leaf (.int .i64 (.lit 10)))) (.leaf (.int .i64 (.lit 10)))) (.leaf (.int .i64 (.lit 10)))) (.leaf (.int .i64 (.lit 10))))
theorem hR1_413 : ATree.check runR1 trR1_413 asR1_413 = true := R1_16
noncomputable def asR1_414 : Asm := asR1_412.add .leq (.at 3) (.bin .sub .i64 (.at 0) (.lit 1)) false
noncomputable def trR1_414 : ATree := (.leaf (.int .i64 (.lit 10)))
theorem hR1_414 : ATree.check runR1 trR1_414 asR1_414 = true := R1_17
noncomputable def trR1_412 : ATree := .node .leq (.at 3) (.bin .sub .i64 (.at 0) (.lit 1)) trR1_413 trR1_414
theorem hR1_412 : ATree.check runR1 trR1_412 asR1_412 = true := by
  show (ATree.check runR1 trR1_413 asR1_413 && ATree.check runR1 trR1_414 asR1_414) = true
  rw [hR1_413, hR1_414]; rfl
noncomputable def asR1_415 : Asm := asR1_411.add .geq (.at 3) (.lit 0) false
noncomputable def trR1_415 : ATree := (.leaf (.int .i64 (.lit 10)))
theorem hR1_415 : ATree.check runR1 trR1_415 asR1_415 = true := R1_18
noncomputable def trR1_411 : ATree := .node .geq (.at 3) (.lit 0) trR1_412 trR1_415
theorem hR1_411 : ATree.check runR1 trR1_411 asR1_411 = true := by
  show (ATree.check runR1 trR1_412 asR1_412 && ATree.check runR1 trR1_415 asR1_415) = true
  rw [hR1_412, hR1_415]; rfl
noncomputable def asR1_416 : Asm := asR1_410.add .eql (.at 2) (.lit 6) false
noncomputable def asR1_417 : Asm := asR1_416.add .eql (.at 2) (.lit 7) true
noncomputable def asR1_418 : Asm := asR1_417.add .geq (.at 3) (.lit 0) true
noncomputable def asR1_419 : Asm := asR1_418.add .leq (.at 3) (.bin .sub .i64 (.at 0) (.lit 1)) true
noncomputable def trR1_419 : ATree := (.node .geq (.at 9) (.lit 0) (.node .leq (.at 9) (.bin .sub .i64 (.at 1) (.lit 1)) (.node .eql (.at 4) (.lit 0) (.node .eql (.at 5) (.lit 0) (.node .eql (.at 6) (.lit 0) (.node .eql (.at 7) (.lit 0) (.node .eql (.at 8) (.lit 0) (.leaf (.int .i64 (.lit 10))) (.leaf (.int .i64 (.lit 10)))) (.leaf (.int .i64 (.lit 10)))) (.leaf (.int .i64 (.lit 10)))) (.leaf (.int .i64 (.lit 10)))) (.leaf (.int .i64 (.lit 10)))) (.leaf (.int .i64 (.lit 10)))) (.leaf (.int .i64 (.lit 10))))
theorem hR1_419 : ATree.check runR1 trR1_419 asR1_419 = true := R1_19
noncomputable def asR1_420 : Asm := asR1_418.add .leq (.at 3) (.bin .sub .i64 (.at 0) (.lit 1)) false
noncomputable def trR1_420 : ATree := (.leaf (.int .i64 (.lit 10)))
theorem hR1_420 : ATree.check runR1 trR1_420 asR1_420 = true := R1_20
noncomputable def trR1_418 : ATree := .node .leq (.at 3) (.bin .sub .i64 (.at 0) (.lit 1)) trR1_419 trR1_420
theorem hR1_418 : ATree.check runR1 trR1_418 asR1_418 = true := by
  show (ATree.check runR1 trR1_419 asR1_419 && ATree.check runR1 trR1_420 asR1_420) = true
  rw [hR1_419, hR1_420]; rfl
noncomputable def asR1_421 : Asm := asR1_417.add .geq (.at 3) (.lit 0) false
noncomputable def trR1_421 : ATree := (.leaf (.int .i64 (.lit 10)))
theorem hR1_421 : ATree.check runR1 trR1_421 asR1_421 = true := R1_21
noncomputable def trR1_417 : ATree := .node .geq (.at 3) (.lit 0) trR1_418 trR1_421
theorem hR1_417 : ATree.check runR1 trR1_417 asR1_417 = true := by
  show (ATree.check runR1 trR1_418 asR1_418 && ATree.check runR1 trR1_421 asR1_421) = true
  rw [hR1_418, hR1_421]; rfl
noncomputable def asR1_422 : Asm := asR1_416.add .eql (.at 2) (.lit 7) false
noncomputable def asR1_423 : Asm := asR1_422.add .eql (.at 2) (.lit 8) true
noncomputable def asR1_424 : Asm := asR1_423.add .geq (.at 3) (.lit 0) true
noncomputable def asR1_425 : Asm := asR1_424.add .leq (.at 3) (.bin .sub .i64 (.at 0) (.lit 1)) true
noncomputable def trR1_425 : ATree := (.node .geq (.at 4) (.lit 0) (.node .leq (.at 4) (.bin .sub .i64 (.bin .mul .i64 (.at 1) (.lit 2)) (.lit 1)) (.node .geq (.at 5) (.lit 0) (.node .leq (.at 5) (.lit 4) (.node .eql (.at 6) (.lit 1) (.leaf (.int .i64 (.lit 10))) (.node .eql (.at 6) (.lit 2) (.leaf (.int .i64 (.lit 10))) (.node .eql (.at 6) (.lit 4) (.leaf (.int .i64 (.lit 10))) (.leaf (.int .i64 (.lit 10)))))) (.leaf (.int .i64 (.lit 10)))) (.leaf (.int .i64 (.lit 10)))) (.leaf (.int .i64 (.lit 10)))) (.leaf (.int .i64 (.lit 10))))
theorem hR1_425 : ATree.check runR1 trR1_425 asR1_425 = true := R1_22
noncomputable def asR1_426 : Asm := asR1_424.add .leq (.at 3) (.bin .sub .i64 (.at 0) (.lit 1)) false
noncomputable def trR1_426 : ATree := (.leaf (.int .i64 (.lit 10)))
theorem hR1_426 : ATree.check runR1 trR1_426 asR1_426 = true := R1_23
noncomputable def trR1_424 : ATree := .node .leq (.at 3) (.bin .sub .i64 (.at 0) (.lit 1)) trR1_425 trR1_426
theorem hR1_424 : ATree.check runR1 trR1_424 asR1_424 = true := by
  show (ATree.check runR1 trR1_425 asR1_425 && ATree.check runR1 trR1_426 asR1_426) = true
  rw [hR1_425, hR1_426]; rfl
noncomputable def asR1_427 : Asm := asR1_423.add .geq (.at 3) (.lit 0) false
noncomputable def trR1_427 : ATree := (.leaf (.int .i64 (.lit 10)))
theorem hR1_427 : ATree.check runR1 trR1_427 asR1_427 = true := R1_24
noncomputable def trR1_423 : ATree := .node .geq (.at 3) (.lit 0) trR1_424 trR1_427
theorem hR1_423 : ATree.check runR1 trR1_423 asR1_423 = true := by
  show (ATree.check runR1 trR1_424 asR1_424 && ATree.check runR1 trR1_427 asR1_427) = true
  rw [hR1_424, hR1_427]; rfl
noncomputable def asR1_428 : Asm := asR1_422.add .eql (.at 2) (.lit 8) false
noncomputable def asR1_429 : Asm := asR1_428.add .eql (.at 2) (.lit 9) true
noncomputable def asR1_430 : Asm := asR1_429.add .geq (.at 3) (.lit 0) true
noncomputable def asR1_431 : Asm := asR1_430.add .leq (.at 3) (.bin .sub .i64 (.at 0) (.lit 1)) true
noncomputable def asR1_432 : Asm := asR1_431.add .geq (.at 4) (.lit 0) true
noncomputable def asR1_433 : Asm := asR1_432.add .leq (.at 4) (.bin .sub .i64 (.bin .mul .i64 (.at 1) (.lit 2)) (.lit 1)) true
noncomputable def asR1_434 : Asm := asR1_433.add .eql (.at 9) (.lit 0) true
noncomputable def trR1_434 : ATree := (.node .eql (.at 5) (.lit 0) (.node .eql (.at 6) (.lit 0) (.node .eql (.at 7) (.lit 0) (.node .eql (.at 8) (.lit 0) (.leaf (.int .i64 (.lit 10))) (.leaf (.int .i64 (.lit 10)))) (.leaf (.int .i64 (.lit 10)))) (.leaf (.int .i64 (.lit 10)))) (.leaf (.int .i64 (.lit 10))))
theorem hR1_434 : ATree.check runR1 trR1_434 asR1_434 = true := R1_25
noncomputable def asR1_435 : Asm := asR1_433.add .eql (.at 9) (.lit 0) false
noncomputable def trR1_435 : ATree := (.node .eql (.at 9) (.lit 1) (.node .eql (.at 5) (.lit 0) (.node .eql (.at 6) (.lit 0) (.node .eql (.at 7) (.lit 0) (.node .eql (.at 8) (.lit 0) (.leaf (.int .i64 (.lit 10))) (.leaf (.int .i64 (.lit 10)))) (.leaf (.int .i64 (.lit 10)))) (.leaf (.int .i64 (.lit 10)))) (.leaf (.int .i64 (.lit 10)))) (.leaf (.int .i64 (.lit 10))))
theorem hR1_435 : ATree.check runR1 trR1_435 asR1_435 = true := R1_26
noncomputable def trR1_433 : ATree := .node .eql (.at 9) (.lit 0) trR1_434 trR1_435
theorem hR1_433 : ATree.check runR1 trR1_433 asR1_433 = true := by
  show (ATree.check runR1 trR1_434 asR1_434 && ATree.check runR1 trR1_435 asR1_435) = true
  rw [hR1_434, hR1_435]; rfl
noncomputable def asR1_436 : Asm := asR1_432.add .leq (.at 4) (.bin .sub .i64 (.bin .mul .i64 (.at 1) (.lit 2)) (.lit 1)) false
noncomputable def trR1_436 : ATree := (.leaf (.int .i64 (.lit 10)))
theorem hR1_436 : ATree.check runR1 trR1_436 asR1_436 = true := R1_27
noncomputable def trR1_432 : ATree := .node .leq (.at 4) (.bin .sub .i64 (.bin .mul .i64 (.at 1) (.lit 2)) (.lit 1)) trR1_433 trR1_436
theorem hR1_432 : ATree.check runR1 trR1_432 asR1_432 = true := by
  show (ATree.check runR1 trR1_433 asR1_433 && ATree.check runR1 trR1_436 asR1_436) = true
  rw [hR1_433, hR1_436]; rfl
noncomputable def asR1_437 : Asm := asR1_431.add .geq (.at 4) (.lit 0) false
noncomputable def trR1_437 : ATree := (.leaf (.int .i64 (.lit 10)))
theorem hR1_437 : ATree.check runR1 trR1_437 asR1_437 = true := R1_28
noncomputable def trR1_431 : ATree := .node .geq (.at 4) (.lit 0) trR1_432 trR1_437
theorem hR1_431 : ATree.check runR1 trR1_431 asR1_431 = true := by
  show (ATree.check runR1 trR1_432 asR1_432 && ATree.check runR1 trR1_437 asR1_437) = true
  rw [hR1_432, hR1_437]; rfl
noncomputable def asR1_438 : Asm := asR1_430.add .leq (.at 3) (.bin .sub .i64 (.at 0) (.lit 1)) false
noncomputable def trR1_438 : ATree := (.leaf (.int .i64 (.lit 10)))
theorem hR1_438 : ATree.check runR1 trR1_438 asR1_438 = true := R1_29
noncomputable def trR1_430 : ATree := .node .leq (.at 3) (.bin .sub .i64 (.at 0) (.lit 1)) trR1_431 trR1_438
theorem hR1_430 : ATree.check runR1 trR1_430 asR1_430 = true := by
  show (ATree.check runR1 trR1_431 asR1_431 && ATree.check runR1 trR1_438 asR1_438) = true
  rw [hR1_431, hR1_438]; rfl
noncomputable def asR1_439 : Asm := asR1_429.add .geq (.at 3) (.lit 0) false
noncomputable def trR1_439 : ATree := (.leaf (.int .i64 (.lit 10)))
theorem hR1_439 : ATree.check runR1 trR1_439 asR1_439 = true := R1_30
noncomputable def trR1_429 : ATree := .node .geq (.at 3) (.lit 0) trR1_430 trR1_439
theorem hR1_429 : ATree.check runR1 trR1_429 asR1_429 = true := by
  show (ATree.check runR1 trR1_430 asR1_430 && ATree.check runR1 trR1_439 asR1_439) = true
  rw [hR1_430, hR1_439]; rfl
noncomputable def asR1_440 : Asm := asR1_428.add .eql (.at 2) (.lit 9) false
noncomputable def asR1_441 : Asm := asR1_440.add .eql (.at 2) (.lit 10) true
noncomputable def asR1_442 : Asm := asR1_441.add .geq (.at 3) (.lit 0) true
noncomputable def trR1_442 : ATree := (.node .leq (.at 3) (.bin .sub .i64 (.at 0) (.lit 1)) (.node .geq (.at 4) (.lit 0) (.node .leq (.at 4) (.bin .sub .i64 (.bin .mul .i64 (.at 1) (.lit 2)) (.lit 1)) (.node .eql (.at 5) (.lit 0) (.node .eql (.at 6) (.lit 0) (.node .eql (.at 7) (.lit 0) (.node .eql (.at 8) (.lit 0) (.leaf (.int .i64 (.lit 10))) (.leaf (.int .i64 (.lit 10)))) (.leaf (.int .i64 (.lit 10)))) (.leaf (.int .i64 (.lit 10)))) (.leaf (.int .i64 (.lit 10)))) (.leaf (.int .i64 (.lit 10)))) (.leaf (.int .i64 (.lit 10)))) (.leaf (.int .i64 (.lit 10))))
theorem hR1_442 : ATree.check runR1 trR1_442 asR1_442 = true := R1_31
noncomputable def asR1_443 : Asm := asR1_441.add .geq (.at 3) (.lit 0) false
noncomputable def trR1_443 : ATree := (.leaf (.int .i64 (.lit 10)))
theorem hR1_443 : ATree.check runR1 trR1_443 asR1_443 = true := R1_32
noncomputable def trR1_441 : ATree := .node .geq (.at 3) (.lit 0) trR1_442 trR1_443
theorem hR1_441 : ATree.check runR1 trR1_441 asR1_441 = true := by
  show (ATree.check runR1 trR1_442 asR1_442 && ATree.check runR1 trR1_443 asR1_443) = true
  rw [hR1_442, hR1_443]; rfl
noncomputable def asR1_444 : Asm := asR1_440.add .eql (.at 2) (.lit 10) false
noncomputable def asR1_445 : Asm := asR1_444.add .eql (.at 2) (.lit 11) true
noncomputable def asR1_446 : Asm := asR1_445.add .geq (.at 3) (.lit 0) true
noncomputable def asR1_447 : Asm := asR1_446.add .leq (.at 3) (.bin .sub .i64 (.at 0) (.lit 1)) true
noncomputable def asR1_448 : Asm := asR1_447.add .geq (.at 4) (.lit 0) true
noncomputable def asR1_449 : Asm := asR1_448.add .leq (.at 4) (.bin .sub .i64 (.bin .mul .i64 (.at 1) (.lit 2)) (.lit 1)) true
noncomputable def asR1_450 : Asm := asR1_449.add .eql (.at 6) (.lit 0) true
noncomputable def trR1_450 : ATree := (.node .eql (.at 5) (.lit 0) (.node .eql (.at 7) (.lit 0) (.node .eql (.at 8) (.lit 0) (.leaf (.int .i64 (.lit 10))) (.leaf (.int .i64 (.lit 10)))) (.leaf (.int .i64 (.lit 10)))) (.leaf (.int .i64 (.lit 10))))
theorem hR1_450 : ATree.check runR1 trR1_450 asR1_450 = true := R1_33
noncomputable def asR1_451 : Asm := asR1_449.add .eql (.at 6) (.lit 0) false
noncomputable def trR1_451 : ATree := (.node .eql (.at 6) (.lit 1) (.node .eql (.at 5) (.lit 0) (.node .eql (.at 7) (.lit 0) (.node .eql (.at 8) (.lit 0) (.leaf (.int .i64 (.lit 10))) (.leaf (.int .i64 (.lit 10)))) (.leaf (.int .i64 (.lit 10)))) (.leaf (.int .i64 (.lit 10)))) (.leaf (.int .i64 (.lit 10))))
theorem hR1_451 : ATree.check runR1 trR1_451 asR1_451 = true := R1_34
noncomputable def trR1_449 : ATree := .node .eql (.at 6) (.lit 0) trR1_450 trR1_451
theorem hR1_449 : ATree.check runR1 trR1_449 asR1_449 = true := by
  show (ATree.check runR1 trR1_450 asR1_450 && ATree.check runR1 trR1_451 asR1_451) = true
  rw [hR1_450, hR1_451]; rfl
noncomputable def asR1_452 : Asm := asR1_448.add .leq (.at 4) (.bin .sub .i64 (.bin .mul .i64 (.at 1) (.lit 2)) (.lit 1)) false
noncomputable def trR1_452 : ATree := (.leaf (.int .i64 (.lit 10)))
theorem hR1_452 : ATree.check runR1 trR1_452 asR1_452 = true := R1_35
noncomputable def trR1_448 : ATree := .node .leq (.at 4) (.bin .sub .i64 (.bin .mul .i64 (.at 1) (.lit 2)) (.lit 1)) trR1_449 trR1_452
theorem hR1_448 : ATree.check runR1 trR1_448 asR1_448 = true := by
  show (ATree.check runR1 trR1_449 asR1_449 && ATree.check runR1 trR1_452 asR1_452) = true
  rw [hR1_449, hR1_452]; rfl
noncomputable def asR1_453 : Asm := asR1_447.add .geq (.at 4) (.lit 0) false
noncomputable def trR1_453 : ATree := (.leaf (.int .i64 (.lit 10)))
theorem hR1_453 : ATree.check runR1 trR1_453 asR1_453 = true := R1_36
noncomputable def trR1_447 : ATree := .node .geq (.at 4) (.lit 0) trR1_448 trR1_453
theorem hR1_447 : ATree.check runR1 trR1_447 asR1_447 = true := by
  show (ATree.check runR1 trR1_448 asR1_448 && ATree.check runR1 trR1_453 asR1_453) = true
  rw [hR1_448, hR1_453]; rfl
noncomputable def asR1_454 : Asm := asR1_446.add .leq (.at 3) (.bin .sub .i64 (.at 0) (.lit 1)) false
noncomputable def trR1_454 : ATree := (.leaf (.int .i64 (.lit 10)))
theorem hR1_454 : ATree.check runR1 trR1_454 asR1_454 = true := R1_37
noncomputable def trR1_446 : ATree := .node .leq (.at 3) (.bin .sub .i64 (.at 0) (.lit 1)) trR1_447 trR1_454
theorem hR1_446 : ATree.check runR1 trR1_446 asR1_446 = true := by
  show (ATree.check runR1 trR1_447 asR1_447 && ATree.check runR1 trR1_454 asR1_454) = true
  rw [hR1_447, hR1_454]; rfl
noncomputable def asR1_455 : Asm := asR1_445.add .geq (.at 3) (.lit 0) false
noncomputable def trR1_455 : ATree := (.leaf (.int .i64 (.lit 10)))
theorem hR1_455 : ATree.check runR1 trR1_455 asR1_455 = true := R1_38
noncomputable def trR1_445 : ATree := .node .geq (.at 3) (.lit 0) trR1_446 trR1_455
theorem hR1_445 : ATree.check runR1 trR1_445 asR1_445 = true := by
  show (ATree.check runR1 trR1_446 asR1_446 && ATree.check runR1 trR1_455 asR1_455) = true
  rw [hR1_446, hR1_455]; rfl
noncomputable def asR1_456 : Asm := asR1_444.add .eql (.at 2) (.lit 11) false
noncomputable def asR1_457 : Asm := asR1_456.add .eql (.at 2) (.lit 12) true
noncomputable def trR1_457 : ATree := (.node .geq (.at 3) (.lit 0) (.node .leq (.at 3) (.bin .sub .i64 (.at 0) (.lit 1)) (.node .geq (.at 9) (.lit 0) (.node .leq (.at 9) (.lit 19) (.node .eql (.at 4) (.lit 0) (.node .eql (.at 5) (.lit 0) (.node .eql (.at 6) (.lit 0) (.leaf (.int .i64 (.lit 10))) (.leaf (.int .i64 (.lit 10)))) (.leaf (.int .i64 (.lit 10)))) (.leaf (.int .i64 (.lit 10)))) (.leaf (.int .i64 (.lit 10)))) (.leaf (.int .i64 (.lit 10)))) (.leaf (.int .i64 (.lit 10)))) (.leaf (.int .i64 (.lit 10))))
theorem hR1_457 : ATree.check runR1 trR1_457 asR1_457 = true := R1_39
noncomputable def asR1_458 : Asm := asR1_456.add .eql (.at 2) (.lit 12) false
noncomputable def asR1_459 : Asm := asR1_458.add .geq (.at 3) (.lit 0) true
noncomputable def asR1_460 : Asm := asR1_459.add .leq (.at 3) (.bin .sub .i64 (.at 0) (.lit 1)) true
noncomputable def trR1_460 : ATree := (.node .geq (.at 9) (.lit 0) (.node .leq (.at 9) (.bin .sub .i64 (.at 1) (.lit 1)) (.node .eql (.at 4) (.lit 0) (.node .eql (.at 5) (.lit 0) (.node .eql (.at 6) (.lit 0) (.node .eql (.at 7) (.lit 0) (.node .eql (.at 8) (.lit 0) (.leaf (.int .i64 (.lit 10))) (.leaf (.int .i64 (.lit 10)))) (.leaf (.int .i64 (.lit 10)))) (.leaf (.int .i64 (.lit 10)))) (.leaf (.int .i64 (.lit 10)))) (.leaf (.int .i64 (.lit 10)))) (.leaf (.int .i64 (.lit 10)))) (.leaf (.int .i64 (.lit 10))))
theorem hR1_460 : ATree.check runR1 trR1_460 asR1_460 = true := R1_40
noncomputable def asR1_461 : Asm := asR1_459.add .leq (.at 3) (.bin .sub .i64 (.at 0) (.lit 1)) false
noncomputable def trR1_461 : ATree := (.leaf (.int .i64 (.lit 10)))
theorem hR1_461 : ATree.check runR1 trR1_461 asR1_461 = true := R1_41
noncomputable def trR1_459 : ATree := .node .leq (.at 3) (.bin .sub .i64 (.at 0) (.lit 1)) trR1_460 trR1_461
theorem hR1_459 : ATree.check runR1 trR1_459 asR1_459 = true := by
  show (ATree.check runR1 trR1_460 asR1_460 && ATree.check runR1 trR1_461 asR1_461) = true
  rw [hR1_460, hR1_461]; rfl
noncomputable def asR1_462 : Asm := asR1_458.add .geq (.at 3) (.lit 0) false
noncomputable def trR1_462 : ATree := (.leaf (.int .i64 (.lit 10)))
theorem hR1_462 : ATree.check runR1 trR1_462 asR1_462 = true := R1_42
noncomputable def trR1_458 : ATree := .node .geq (.at 3) (.lit 0) trR1_459 trR1_462
theorem hR1_458 : ATree.check runR1 trR1_458 asR1_458 = true := by
  show (ATree.check runR1 trR1_459 asR1_459 && ATree.check runR1 trR1_462 asR1_462) = true
  rw [hR1_459, hR1_462]; rfl
noncomputable def trR1_456 : ATree := .node .eql (.at 2) (.lit 12) trR1_457 trR1_458
theorem hR1_456 : ATree.check runR1 trR1_456 asR1_456 = true := by
  show (ATree.check runR1 trR1_457 asR1_457 && ATree.check runR1 trR1_458 asR1_458) = true
  rw [hR1_457, hR1_458]; rfl
noncomputable def trR1_444 : ATree := .node .eql (.at 2) (.lit 11) trR1_445 trR1_456
theorem hR1_444 : ATree.check runR1 trR1_444 asR1_444 = true := by
  show (ATree.check runR1 trR1_445 asR1_445 && ATree.check runR1 trR1_456 asR1_456) = true
  rw [hR1_445, hR1_456]; rfl
noncomputable def trR1_440 : ATree := .node .eql (.at 2) (.lit 10) trR1_441 trR1_444
theorem hR1_440 : ATree.check runR1 trR1_440 asR1_440 = true := by
  show (ATree.check runR1 trR1_441 asR1_441 && ATree.check runR1 trR1_444 asR1_444) = true
  rw [hR1_441, hR1_444]; rfl
noncomputable def trR1_428 : ATree := .node .eql (.at 2) (.lit 9) trR1_429 trR1_440
theorem hR1_428 : ATree.check runR1 trR1_428 asR1_428 = true := by
  show (ATree.check runR1 trR1_429 asR1_429 && ATree.check runR1 trR1_440 asR1_440) = true
  rw [hR1_429, hR1_440]; rfl
noncomputable def trR1_422 : ATree := .node .eql (.at 2) (.lit 8) trR1_423 trR1_428
theorem hR1_422 : ATree.check runR1 trR1_422 asR1_422 = true := by
  show (ATree.check runR1 trR1_423 asR1_423 && ATree.check runR1 trR1_428 asR1_428) = true
  rw [hR1_423, hR1_428]; rfl
noncomputable def trR1_416 : ATree := .node .eql (.at 2) (.lit 7) trR1_417 trR1_422
theorem hR1_416 : ATree.check runR1 trR1_416 asR1_416 = true := by
  show (ATree.check runR1 trR1_417 asR1_417 && ATree.check runR1 trR1_422 asR1_422) = true
  rw [hR1_417, hR1_422]; rfl
noncomputable def trR1_410 : ATree := .node .eql (.at 2) (.lit 6) trR1_411 trR1_416
theorem hR1_410 : ATree.check runR1 trR1_410 asR1_410 = true := by
  show (ATree.check runR1 trR1_411 asR1_411 && ATree.check runR1 trR1_416 asR1_416) = true
  rw [hR1_411, hR1_416]; rfl
noncomputable def trR1_402 : ATree := .node .eql (.at 2) (.lit 5) trR1_403 trR1_410
theorem hR1_402 : ATree.check runR1 trR1_402 asR1_402 = true := by
  show (ATree.check runR1 trR1_403 asR1_403 && ATree.check runR1 trR1_410 asR1_410) = true
  rw [hR1_403, hR1_410]; rfl
noncomputable def trR1_398 : ATree := .node .eql (.at 2) (.lit 4) trR1_399 trR1_402
theorem hR1_398 : ATree.check runR1 trR1_398 asR1_398 = true := by
  show (ATree.check runR1 trR1_399 asR1_399 && ATree.check runR1 trR1_402 asR1_402) = true
  rw [hR1_399, hR1_402]; rfl
noncomputable def trR1_394 : ATree := .node .eql (.at 2) (.lit 3) trR1_395 trR1_398
theorem hR1_394 : ATree.check runR1 trR1_394 asR1_394 = true := by
  show (ATree.check runR1 trR1_395 asR1_395 && ATree.check runR1 trR1_398 asR1_398) = true
  rw [hR1_395, hR1_398]; rfl
noncomputable def trR1_388 : ATree := .node .eql (.at 2) (.lit 2) trR1_389 trR1_394
theorem hR1_388 : ATree.check runR1 trR1_388 asR1_388 = true := by
  show (ATree.check runR1 trR1_389 asR1_389 && ATree.check runR1 trR1_394 asR1_394) = true
  rw [hR1_389, hR1_394]; rfl
noncomputable def trR1_382 : ATree := .node .eql (.at 2) (.lit 1) trR1_383 trR1_388
theorem hR1_382 : ATree.check runR1 trR1_382 asR1_382 = true := by
  show (ATree.check runR1 trR1_383 asR1_383 && ATree.check runR1 trR1_388 asR1_388) = true
  rw [hR1_383, hR1_388]; rfl
noncomputable def trR1_380 : ATree := .node .gtr (.at 2) (.lit 13) trR1_381 trR1_382
theorem hR1_380 : ATree.check runR1 trR1_380 asR1_380 = true := by
  show (ATree.check runR1 trR1_381 asR1_381 && ATree.check runR1 trR1_382 asR1_382) = true
  rw [hR1_381, hR1_382]; rfl
noncomputable def trR1_378 : ATree := .node .lss (.at 2) (.lit 1) trR1_379 trR1_380
theorem hR1_378 : ATree.check runR1 trR1_378 asR1_378 = true := by
  show (ATree.check runR1 trR1_379 asR1_379 && ATree.check runR1 trR1_380 asR1_380) = true
  rw [hR1_379, hR1_380]; rfl
noncomputable def atC0 : ATree := (.node .geq (.at 7) (.lit 1) (.node .leq (.at 7) (.lit 13) (.node .lss (.at 0) (.lit 1) (.leaf (.int .i64 (.lit 10))) (.node .gtr (.at 0) (.lit 4) (.leaf (.int .i64 (.lit 10))) (.node .lss (.at 1) (.lit 1) (.leaf (.int .i64 (.lit 10))) (.node .gtr (.at 1) (.lit 16) (.leaf (.int .i64 (.lit 10))) (.node .lss (.at 2) (.lit 1) (.leaf (.int .i64 (.lit 10))) (.node .gtr (.at 2) (.lit 8) (.leaf (.int .i64 (.lit 10))) (.node .lss (.at 3) (.lit 1) (.leaf (.int .i64 (.lit 10))) (.node .gtr (.at 3) (.lit 4) (.leaf (.int .i64 (.lit 10))) (.node .lss (.at 4) (.lit 1) (.leaf (.int .i64 (.lit 10))) (.node .gtr (.at 4) (.lit 16) (.leaf (.int .i64 (.lit 10))) (.node .lss (.at 5) (.lit 1) (.leaf (.int .i64 (.lit 10))) (.node .gtr (.at 5) (.lit 8) (.leaf (.int .i64 (.lit 10))) (.node .lss (.at 6) (.lit 1) (.leaf (.int .i64 (.lit 10))) (.node .gtr (.at 6) (.lit 4) (.leaf (.int .i64 (.lit 10))) (.node .eql (.at 7) (.lit 1) (.node .geq (.at 8) (.lit 0) (.node .leq (.at 8) (.bin .sub .i64 (.at 0) (.lit 1)) (.node .geq (.at 9) (.lit 0) (.node .leq (.at 9) (.bin .sub .i64 (.bin .mul .i64 (.at 1) (.lit 2)) (.lit 1)) (.node .geq (.at 10) (.lit 0) (.node .leq (.at 10) (.lit 3) (.node .eql (.at 11) (.lit 0) (.node .eql (.at 12) (.lit 0) (.node .eql (.at 13) (.lit 0) (.node .eql (.at 14) (.lit 0) (.leaf (.int .i64 (.lit 0))) (.leaf (.int .i64 (.lit 10)))) (.leaf (.int .i64 (.lit 10)))) (.leaf (.int .i64 (.lit 10)))) (.leaf (.int .i64 (.lit 10)))) (.leaf (.int .i64 (.lit 10)))) (.leaf (.int .i64 (.lit 10)))) (.leaf (.int .i64 (.lit 10)))) (.leaf (.int .i64 (.lit 10)))) (.leaf (.int .i64 (.lit 10)))) (.leaf (.int .i64 (.lit 10)))) (.node .eql (.at 7) (.lit 2) (.node .geq (.at 8) (.lit 0) (.node .leq (.at 8) (.bin .sub .i64 (.at 0) (.lit 1)) (.node .geq (.at 9) (.lit 0) (.node .leq (.at 9) (.bin .sub .i64 (.bin .mul .i64 (.at 1) (.lit 2)) (.lit 1)) (.node .geq (.at 10) (.lit 0) (.node .leq (.at 10) (.lit 3) (.node .eql (.at 11) (.lit 0) (.node .eql (.at 12) (.lit 0) (.node .eql (.at 13) (.lit 0) (.node .eql (.at 14) (.lit 0) (.leaf (.int .i64 (.lit 0))) (.leaf (.int .i64 (.lit 10)))) (.leaf (.int .i64 (.lit 10)))) (.leaf (.int .i64 (.lit 10)))) (.leaf (.int .i64 (.lit 10)))) (.leaf (.int .i64 (.lit 10)))) (.leaf (.int .i64 (.lit 10)))) (.leaf (.int .i64 (.lit 10)))) (.leaf (.int .i64 (.lit 10)))) (.leaf (.int .i64 (.lit 10)))) (.leaf (.int .i64 (.lit 10)))) (.node .eql (.at 7) (.lit 3) (.node .geq (.at 8) (.lit 0) (.node .leq (.at 8) (.bin .sub .i64 (.at 0) (.lit 1)) (.node .geq (.at 9) (.lit 0) (.node .leq (.at 9) (.bin .sub .i64 (.bin .mul .i64 (.at 1) (.lit 2)) (.lit 1)) (.node .geq (.at 10) (.lit 0) (.node .leq (.at 10) (.lit 4) (.node .eql (.at 11) (.lit 0) (.node .eql (.at 14) (.lit 0) (.leaf (.int .i64 (.lit 0))) (.leaf (.int .i64 (.lit 10)))) (.leaf (.int .i64 (.lit 10)))) (.leaf (.int .i64 (.lit 10)))) (.leaf (.int .i64 (.lit 10)))) (.leaf (.int .i64 (.lit 10)))) (.leaf (.int .i64 (.lit 10)))) (.leaf (.int .i64 (.lit 10)))) (.leaf (.int .i64 (.lit 10)))) (.node .eql (.at 7) (.lit 4) (.node .geq (.at 8) (.lit 0) (.node .leq (.at 8) (.bin .sub .i64 (.at 0) (.lit 1)) (.node .geq (.at 9) (.lit 0) (.node .leq (.at 9) (.bin .sub .i64 (.bin .mul .i64 (.at 1) (.lit 2)) (.lit 1)) (.node .eql (.at 10) (.lit 0) (.node .eql (.at 11) (.lit 0) (.node .eql (.at 12) (.lit 0) (.node .eql (.at 13) (.lit 0) (.node .eql (.at 14) (.lit 0) (.leaf (.int .i64 (.lit 0))) (.leaf (.int .i64 (.lit 10)))) (.leaf (.int .i64 (.lit 10)))) (.leaf (.int .i64 (.lit 10)))) (.leaf (.int .i64 (.lit 10)))) (.leaf (.int .i64 (.lit 10)))) (.leaf (.int .i64 (.lit 10)))) (.leaf (.int .i64 (.lit 10)))) (.leaf (.int .i64 (.lit 10)))) (.leaf (.int .i64 (.lit 10)))) (.node .eql (.at 7) (.lit 5) (.node .geq (.at 8) (.lit 0) (.node .leq (.at 8) (.bin .sub .i64 (.at 0) (.lit 1)) (.node .geq (.at 9) (.lit 0) (.node .leq (.at 9) (.bin .sub .i64 (.bin .mul .i64 (.at 1) (.lit 2)) (.lit 1)) (.node .geq (.at 11) (.lit 0) (.node .leq (.at 11) (.lit 4) (.node .geq (.at 14) (.lit 0) (.node .leq (.at 14) (.lit 1) (.node .eql (.at 10) (.lit 0) (.leaf (.int .i64 (.lit 0))) (.leaf (.int .i64 (.lit 10)))) (.leaf (.int .i64 (.lit 10)))) (.leaf (.int .i64 (.lit 10)))) (.leaf (.int .i64 (.lit 10)))) (.leaf (.int .i64 (.lit 10)))) (.leaf (.int .i64 (.lit 10)))) (.leaf (.int .i64 (.lit 10)))) (.leaf (.int .i64 (.lit 10)))) (.leaf (.int .i64 (.lit 10)))) (.node .eql (.at 7) (.lit 6) (.node .geq (.at 8) (.lit 0) (.node .leq (.at 8) (.bin .sub .i64 (.at 0) (.lit 1)) (.node .geq (.at 14) (.lit 0) (.node .leq (.at 14) (.lit 19) (.node .eql (.at 9) (.lit 0) (.node .eql (.at 10) (.lit 0) (.node .eql (.at 11) (.lit 0) (.node .eql (.at 12) (.lit 0) (.node .eql (.at 13) (.lit 0) (.leaf (.int .i64 (.lit 0))) (.leaf (.int .i64 (.lit 10)))) (.leaf (.int .i64 (.lit 10)))) (.leaf (.int .i64 (.lit 10)))) (.leaf (.int .i64 (.lit 10)))) (.leaf (.int .i64 (.lit 10)))) (.leaf (.int .i64 (.lit 10)))) (.leaf (.int .i64 (.lit 10)))) (.leaf (.int .i64 (.lit 10)))) (.leaf (.int .i64 (.lit 10)))) (.node .eql (.at 7) (.lit 7) (.node .geq (.at 8) (.lit 0) (.node .leq (.at 8) (.bin .sub .i64 (.at 0) (.lit 1)) (.node .geq (.at 14) (.lit 0) (.node .leq (.at 14) (.bin .sub .i64 (.at 1) (.lit 1)) (.node .eql (.at 9) (.lit 0) (.node .eql (.at 10) (.lit 0) (.node .eql (.at 11) (.lit 0) (.node .eql (.at 12) (.lit 0) (.node .eql (.at 13) (.lit 0) (.leaf (.int .i64 (.lit 0))) (.leaf (.int .i64 (.lit 10)))) (.leaf (.int .i64 (.lit 10)))) (.leaf (.int .i64 (.lit 10)))) (.leaf (.int .i64 (.lit 10)))) (.leaf (.int .i64 (.lit 10)))) (.leaf (.int .i64 (.lit 10)))) (.leaf (.int .i64 (.lit 10)))) (.leaf (.int .i64 (.lit 10)))) (.leaf (.int .i64 (.lit 10)))) (.node .eql (.at 7) (.lit 8) (.node .geq (.at 8) (.lit 0) (.node .leq (.at 8) (.bin .sub .i64 (.at 0) (.lit 1)) (.node .geq (.at 9) (.lit 0) (.node .leq (.at 9) (.bin .sub .i64 (.bin .mul .i64 (.at 1) (.lit 2)) (.lit 1)) (.node .geq (.at 10) (.lit 0) (.node .leq (.at 10) (.lit 4) (.node .eql (.at 11) (.lit 1) (.node .eql (.at 14) (.lit 0) (.leaf (.int .i64 (.lit 0))) (.leaf (.int .i64 (.lit 10)))) (.node .eql (.at 11) (.lit 2) (.node .eql (.at 14) (.lit 0) (.leaf (.int .i64 (.lit 0))) (.leaf (.int .i64 (.lit 10)))) (.node .eql (.at 11) (.lit 4) (.node .eql (.at 14) (.lit 0) (.leaf (.int .i64 (.lit 0))) (.leaf (.int .i64 (.lit 10)))) (.leaf (.int .i64 (.lit 10)))))) (.leaf (.int .i64 (.lit 10)))) (.leaf (.int .i64 (.lit 10)))) (.leaf (.int .i64 (.lit 10)))) (.leaf (.int .i64 (.lit 10)))) (.leaf (.int .i64 (.lit 10)))) (.leaf (.int .i64 (.lit 10)))) (.node .eql (.at 7) (.lit 9) (.node .geq (.at 8) (.lit 0) (.node .leq (.at 8) (.bin .sub .i64 (.at 0) (.lit 1)) (.node .geq (.at 9) (.lit 0) (.node .leq (.at 9) (.bin .sub .i64 (.bin .mul .i64 (.at 1) (.lit 2)) (.lit 1)) (.node .geq (.at 14) (.lit 0) (.node .leq (.at 14) (.lit 1) (.node .eql (.at 10) (.lit 0) (.node .eql (.at 11) (.lit 0) (.node .eql (.at 12) (.lit 0) (.node .eql (.at 13) (.lit 0) (.leaf (.int .i64 (.lit 0))) (.leaf (.int .i64 (.lit 10)))) (.leaf (.int .i64 (.lit 10)))) (.leaf (.int .i64 (.lit 10)))) (.leaf (.int .i64 (.lit 10)))) (.leaf (.int .i64 (.lit 10)))) (.leaf (.int .i64 (.lit 10)))) (.leaf (.int .i64 (.lit 10)))) (.leaf (.int .i64 (.lit 10)))) (.leaf (.int .i64 (.lit 10)))) (.leaf (.int .i64 (.lit 10)))) (.node .eql (.at 7) (.lit 10) (.node .geq (.at 8) (.lit 0) (.node .leq (.at 8) (.bin .sub .i64 (.at 0) (.lit 1)) (.node .geq (.at 9) (.lit 0) (.node .leq (.at 9) (.bin .sub .i64 (.bin .mul .i64 (.at 1) (.lit 2)) (.lit 1)) (.node .eql (.at 10) (.lit 0) (.node .eql (.at 11) (.lit 0) (.node .eql (.at 12) (.lit 0) (.node .eql (.at 13) (.lit 0) (.node .eql (.at 14) (.lit 0) (.leaf (.int .i64 (.lit 0))) (.leaf (.int .i64 (.lit 10)))) (.leaf (.int .i64 (.lit 10)))) (.leaf (.int .i64 (.lit 10)))) (.leaf (.int .i64 (.lit 10)))) (.leaf (.int .i64 (.lit 10)))) (.leaf (.int .i64 (.lit 10)))) (.leaf (.int .i64 (.lit 10)))) (.leaf (.int .i64 (.lit 10)))) (.leaf (.int .i64 (.lit 10)))) (.node .eql (.at 7) (.lit 11) (.node .geq (.at 8) (.lit 0) (.node .leq (.at 8) (.bin .sub .i64 (.at 0) (.lit 1)) (.node .geq (.at 9) (.lit 0) (.node .leq (.at 9) (.bin .sub .i64 (.bin .mul .i64 (.at 1) (.lit 2)) (.lit 1)) (.node .geq (.at 11) (.lit 0) (.node .leq (.at 11) (.lit 1) (.node .eql (.at 10) (.lit 0) (.node .eql (.at 12) (.lit 0) (.node .eql (.at 13) (.lit 0) (.node .eql (.at 14) (.lit 0) (.leaf (.int .i64 (.lit 0))) (.leaf (.int .i64 (.lit 10)))) (.leaf (.int .i64 (.lit 10)))) (.leaf (.int .i64 (.lit 10)))) (.leaf (.int .i64 (.lit 10)))) (.leaf (.int .i64 (.lit 10)))) (.leaf (.int .i64 (.lit 10)))) (.leaf (.int .i64 (.lit 10)))) (.leaf (.int .i64 (.lit 10)))) (.leaf (.int .i64 (.lit 10)))) (.leaf (.int .i64 (.lit 10)))) (.node .eql (.at 7) (.lit 12) (.node .geq (.at 8) (.lit 0) (.node .leq (.at 8) (.bin .sub .i64 (.at 0) (.lit 1)) (.node .geq (.at 14) (.lit 0) (.node .leq (.at 14) (.lit 19) (.node .eql (.at 9) (.lit 0) (.node .eql (.at 10) (.lit 0) (.node .eql (.at 11) (.lit 0) (.leaf (.int .i64 (.lit 0))) (.leaf (.int .i64 (.lit 10)))) (.leaf (.int .i64 (.lit 10)))) (.leaf (.int .i64 (.lit 10)))) (.leaf (.int .i64 (.lit 10)))) (.leaf (.int .i64 (.lit 10)))) (.leaf (.int .i64 (.lit 10)))) (.leaf (.int .i64 (.lit 10)))) (.node .geq (.at 8) (.lit 0) (.node .leq (.at 8) (.bin .sub .i64 (.at 0) (.lit 1)) (.node .geq (.at 14) (.lit 0) (.node .leq (.at 14) (.bin .sub .i64 (.at 1) (.lit 1)) (.node .eql (.at 9) (.lit 0) (.node .eql (.at 10) (.lit 0) (.node .eql (.at 11) (.lit 0) (.node .eql (.at 12) (.lit 0) (.node .eql (.at 13) (.lit 0) (.leaf (.int .i64 (.lit 0))) (.leaf (.int .i64 (.lit 10)))) (.leaf (.int .i64 (.lit 10)))) (.leaf (.int .i64 (.lit 10)))) (.leaf (.int .i64 (.lit 10)))) (.leaf (.int .i64 (.lit 10)))) (.leaf (.int .i64 (.lit 10)))) (.leaf (.int .i64 (.lit 10)))) (.leaf (.int .i64 (.lit 10)))) (.leaf (.int .i64 (.lit 10)))))))))))))))))))))))))))))) (.leaf (.int .i64 (.lit 15)))) (.leaf (.int .i64 (.lit 15))))
theorem okC0 : TreeOk Tryd.prog 5 tsY03 12 patC0 15 atC0 := treeOk_of (B := fun _ => {}) (k := 3000) (show ATree.check runC0 atC0 (rangeAsm 15) = true from hC0_1) (fun E A _ => BaseOk.none _ E)
theorem plainC0 : patC0.all SV.plain = true := by kernel_rfl
noncomputable def atC1 : ATree := (.node .geq (.at 7) (.lit 1) (.node .leq (.at 7) (.lit 13) (.node .lss (.at 0) (.lit 1) (.leaf (.int .i64 (.lit 10))) (.node .gtr (.at 0) (.lit 4) (.leaf (.int .i64 (.lit 10))) (.node .lss (.at 1) (.lit 1) (.leaf (.int .i64 (.lit 10))) (.node .gtr (.at 1) (.lit 16) (.leaf (.int .i64 (.lit 10))) (.node .lss (.at 2) (.lit 1) (.leaf (.int .i64 (.lit 10))) (.node .gtr (.at 2) (.lit 8) (.leaf (.int .i64 (.lit 10))) (.node .lss (.at 3) (.lit 1) (.leaf (.int .i64 (.lit 10))) (.node .gtr (.at 3) (.lit 4) (.leaf (.int .i64 (.lit 10))) (.node .lss (.at 4) (.lit 1) (.leaf (.int .i64 (.lit 10))) (.node .gtr (.at 4) (.lit 16) (.leaf (.int .i64 (.lit 10))) (.node .lss (.at 5) (.lit 1) (.leaf (.int .i64 (.lit 10))) (.node .gtr (.at 5) (.lit 8) (.leaf (.int .i64 (.lit 10))) (.node .lss (.at 6) (.lit 1) (.leaf (.int .i64 (.lit 10))) (.node .gtr (.at 6) (.lit 4) (.leaf (.int .i64 (.lit 10))) (.node .eql (.at 7) (.lit 1) (.node .geq (.at 8) (.lit 0) (.node .leq (.at 8) (.bin .sub .i64 (.at 0) (.lit 1)) (.node .geq (.at 9) (.lit 0) (.node .leq (.at 9) (.bin .sub .i64 (.bin .mul .i64 (.at 1) (.lit 2)) (.lit 1)) (.node .geq (.at 10) (.lit 0) (.node .leq (.at 10) (.lit 3) (.node .eql (.at 11) (.lit 0) (.node .eql (.at 12) (.lit 0) (.node .eql (.at 13) (.lit 0) (.leaf (.int .i64 (.lit 10))) (.leaf (.int .i64 (.lit 10)))) (.leaf (.int .i64 (.lit 10)))) (.leaf (.int .i64 (.lit 10)))) (.leaf (.int .i64 (.lit 10)))) (.leaf (.int .i64 (.lit 10)))) (.leaf (.int .i64 (.lit 10)))) (.leaf (.int .i64 (.lit 10)))) (.leaf (.int .i64 (.lit 10)))) (.leaf (.int .i64 (.lit 10)))) (.node .eql (.at 7) (.lit 2) (.node .geq (.at 8) (.lit 0) (.node .leq (.at 8) (.bin .sub .i64 (.at 0) (.lit 1)) (.node .geq (.at 9) (.lit 0) (.node .leq (.at 9) (.bin .sub .i64 (.bin .mul .i64 (.at 1) (.lit 2)) (.lit 1)) (.node .geq (.at 10) (.lit 0) (.node .leq (.at 10) (.lit 3) (.node .eql (.at 11) (.lit 0) (.node .eql (.at 12) (.lit 0) (.node .eql (.at 13) (.lit 0) (.leaf (.int .i64 (.lit 10))) (.leaf (.int .i64 (.lit 10)))) (.leaf (.int .i64 (.lit 10)))) (.leaf (.int .i64 (.lit 10)))) (.leaf (.int .i64 (.lit 10)))) (.leaf (.int .i64 (.lit 10)))) (.leaf (.int .i64 (.lit 10)))) (.leaf (.int .i64 (.lit 10)))) (.leaf (.int .i64 (.lit 10)))) (.leaf (.int .i64 (.lit 10)))) (.node .eql (.at 7) (.lit 3) (.node .geq (.at 8) (.lit 0) (.node .leq (.at 8) (.bin .sub .i64 (.at 0) (.lit 1)) (.node .geq (.at 9) (.lit 0) (.node .leq (.at 9) (.bin .sub .i64 (.bin .mul .i64 (.at 1) (.lit 2)) (.lit 1)) (.node .geq (.at 10) (.lit 0) (.node .leq (.at 10) (.lit 4) (.node .eql (.at 11) (.lit 0) (.node .eql (.at 14) (.lit 0) (.leaf (.int .i64 (.lit 0))) (.leaf (.int .i64 (.lit 10)))) (.leaf (.int .i64 (.lit 10)))) (.leaf (.int .i64 (.lit 10)))) (.leaf (.int .i64 (.lit 10)))) (.leaf (.int .i64 (.lit 10)))) (.leaf (.int .i64 (.lit 10)))) (.leaf (.int .i64 (.lit 10)))) (.leaf (.int .i64 (.lit 10)))) (.node .eql (.at 7) (.lit 4) (.node .geq (.at 8) (.lit 0) (.node .leq (.at 8) (.bin .sub .i64 (.at 0) (.lit 1)) (.node .geq (.at 9) (.lit 0) (.node .leq (.at 9) (.bin .sub .i64 (.bin .mul .i64 (.at 1) (.lit 2)) (.lit 1)) (.node .eql (.at 10) (.lit 0) (.node .eql (.at 11) (.lit 0) (.node .eql (.at 12) (.lit 0) (.node .eql (.at 13) (.lit 0) (.leaf (.int .i64 (.lit 10))) (.leaf (.int .i64 (.lit 10)))) (.leaf (.int .i64 (.lit 10)))) (.leaf (.int .i64 (.lit 10)))) (.leaf (.int .i64 (.lit 10)))) (.leaf (.int .i64 (.lit 10)))) (.leaf (.int .i64 (.lit 10)))) (.leaf (.int .i64 (.lit 10)))) (.leaf (.int .i64 (.lit 10)))) (.node .eql (.at 7) (.lit 5) (.node .geq (.at 8) (.lit 0) (.node .leq (.at 8) (.bin .sub .i64 (.at 0) (.lit 1)) (.node .geq (.at 9) (.lit 0) (.node .leq (.at 9) (.bin .sub .i64 (.bin .mul .i64 (.at 1) (.lit 2)) (.lit 1)) (.node .geq (.at 11) (.lit 0) (.node .leq (.at 11) (.lit 4) (.node .geq (.at 14) (.lit 0) (.node .leq (.at 14) (.lit 1) (.node .eql (.at 10) (.lit 0) (.leaf (.int .i64 (.lit 0))) (.leaf (.int .i64 (.lit 10)))) (.leaf (.int .i64 (.lit 10)))) (.leaf (.int .i64 (.lit 10)))) (.leaf (.int .i64 (.lit 10)))) (.leaf (.int .i64 (.lit 10)))) (.leaf (.int .i64 (.lit 10)))) (.leaf (.int .i64 (.lit 10)))) (.leaf (.int .i64 (.lit 10)))) (.leaf (.int .i64 (.lit 10)))) (.node .eql (.at 7) (.lit 6) (.node .geq (.at 8) (.lit 0) (.node .leq (.at 8) (.bin .sub .i64 (.at 0) (.lit 1)) (.node .geq (.at 14) (.lit 0) (.node .leq (.at 14) (.lit 19) (.node .eql (.at 9) (.lit 0) (.node .eql (.at 10) (.lit 0) (.node .eql (.at 11) (.lit 0) (.node .eql (.at 12) (.lit 0) (.node .eql (.at 13) (.lit 0) (.leaf (.int .i64 (.lit 10))) (.leaf (.int .i64 (.lit 10)))) (.leaf (.int .i64 (.lit 10)))) (.leaf (.int .i64 (.lit 10)))) (.leaf (.int .i64 (.lit 10)))) (.leaf (.int .i64 (.lit 10)))) (.leaf (.int .i64 (.lit 10)))) (.leaf (.int .i64 (.lit 10)))) (.leaf (.int .i64 (.lit 10)))) (.leaf (.int .i64 (.lit 10)))) (.node .eql (.at 7) (.lit 7) (.node .geq (.at 8) (.lit 0) (.node .leq (.at 8) (.bin .sub .i64 (.at 0) (.lit 1)) (.node .geq (.at 14) (.lit 0) (.node .leq (.at 14) (.bin .sub .i64 (.at 1) (.lit 1)) (.node .eql (.at 9) (.lit 0) (.node .eql (.at 10) (.lit 0) (.node .eql (.at 11) (.lit 0) (.node .eql (.at 12) (.lit 0) (.node .eql (.at 13) (.lit 0) (.leaf (.int .i64 (.lit 10))) (.leaf (.int .i64 (.lit 10)))) (.leaf (.int .i64 (.lit 10)))) (.leaf (.int .i64 (.lit 10)))) (.leaf (.int .i64 (.lit 10)))) (.leaf (.int .i64 (.lit 10)))) (.leaf (.int .i64 (.lit 10)))) (.leaf (.int .i64 (.lit 10)))) (.leaf (.int .i64 (.lit 10)))) (.leaf (.int .i64 (.lit 10)))) (.node .eql (.at 7) (.lit 8) (.node .geq (.at 8) (.lit 0) (.node .leq (.at 8) (.bin .sub .i64 (.at 0) (.lit 1)) (.node .geq (.at 9) (.lit 0) (.node .leq (.at 9) (.bin .sub .i64 (.bin .mul .i64 (.at 1) (.lit 2)) (.lit 1)) (.node .geq (.at 10) (.lit 0) (.node .leq (.at 10) (.lit 4) (.node .eql (.at 11) (.lit 1) (.leaf (.int .i64 (.lit 10))) (.node .eql (.at 11) (.lit 2) (.leaf (.int .i64 (.lit 10))) (.node .eql (.at 11) (.lit 4) (.leaf (.int .i64 (.lit 10))) (.leaf (.int .i64 (.lit 10)))))) (.leaf (.int .i64 (.lit 10)))) (.leaf (.int .i64 (.lit 10)))) (.leaf (.int .i64 (.lit 10)))) (.leaf (.int .i64 (.lit 10)))) (.leaf (.int .i64 (.lit 10)))) (.leaf (.int .i64 (.lit 10)))) (.node .eql (.at 7) (.lit 9) (.node .geq (.at 8) (.lit 0) (.node .leq (.at 8) (.bin .sub .i64 (.at 0) (.lit 1)) (.node .geq (.at 9) (.lit 0) (.node .leq (.at 9) (.bin .sub .i64 (.bin .mul .i64 (.at 1) (.lit 2)) (.lit 1)) (.node .geq (.at 14) (.lit 0) (.node .leq (.at 14) (.lit 1) (.node .eql (.at 10) (.lit 0) (.node .eql (.at 11) (.lit 0) (.node .eql (.at 12) (.lit 0) (.node .eql (.at 13) (.lit 0) (.leaf (.int .i64 (.lit 10))) (.leaf (.int .i64 (.lit 10)))) (.leaf (.int .i64 (.lit 10)))) (.leaf (.int .i64 (.lit 10)))) (.leaf (.int .i64 (.lit 10)))) (.leaf (.int .i64 (.lit 10)))) (.leaf (.int .i64 (.lit 10)))) (.leaf (.int .i64 (.lit 10)))) (.leaf (.int .i64 (.lit 10)))) (.leaf (.int .i64 (.lit 10)))) (.leaf (.int .i64 (.lit 10)))) (.node .eql (.at 7) (.lit 10) (.node .geq (.at 8) (.lit 0) (.node .leq (.at 8) (.bin .sub .i64 (.at 0) (.lit 1)) (.node .geq (.at 9) (.lit 0) (.node .leq (.at 9) (.bin .sub .i64 (.bin .mul .i64 (.at 1) (.lit 2)) (.lit 1)) (.node .eql (.at 10) (.lit 0) (.node .eql (.at 11) (.lit 0) (.node .eql (.at 12) (.lit 0) (.node .eql (.at 13) (.lit 0) (.leaf (.int .i64 (.lit 10))) (.leaf (.int .i64 (.lit 10)))) (.leaf (.int .i64 (.lit 10)))) (.leaf (.int .i64 (.lit 10)))) (.leaf (.int .i64 (.lit 10)))) (.leaf (.int .i64 (.lit 10)))) (.leaf (.int .i64 (.lit 10)))) (.leaf (.int .i64 (.lit 10)))) (.leaf (.int .i64 (.lit 10)))) (.node .eql (.at 7) (.lit 11) (.node .geq (.at 8) (.lit 0) (.node .leq (.at 8) (.bin .sub .i64 (.at 0) (.lit 1)) (.node .geq (.at 9) (.lit 0) (.node .leq (.at 9) (.bin .sub .i64 (.bin .mul .i64 (.at 1) (.lit 2)) (.lit 1)) (.node .geq (.at 11) (.lit 0) (.node .leq (.at 11) (.lit 1) (.node .eql (.at 10) (.lit 0) (.node .eql (.at 12) (.lit 0) (.node .eql (.at 13) (.lit 0) (.leaf (.int .i64 (.lit 10))) (.leaf (.int .i64 (.lit 10)))) (.leaf (.int .i64 (.lit 10)))) (.leaf (.int .i64 (.lit 10)))) (.leaf (.int .i64 (.lit 10)))) (.leaf (.int .i64 (.lit 10)))) (.leaf (.int .i64 (.lit 10)))) (.leaf (.int .i64 (.lit 10)))) (.leaf (.int .i64 (.lit 10)))) (.leaf (.int .i64 (.lit 10)))) (.node .eql (.at 7) (.lit 12) (.node .geq (.at 8) (.lit 0) (.node .leq (.at 8) (.bin .sub .i64 (.at 0) (.lit 1)) (.node .geq (.at 14) (.lit 0) (.node .leq (.at 14) (.lit 19) (.node .eql (.at 9) (.lit 0) (.node .eql (.at 10) (.lit 0) (.node .eql (.at 11) (.lit 0) (.leaf (.int .i64 (.lit 10))) (.leaf (.int .i64 (.lit 10)))) (.leaf (.int .i64 (.lit 10)))) (.leaf (.int .i64 (.lit 10)))) (.leaf (.int .i64 (.lit 10)))) (.leaf (.int .i64 (.lit 10)))) (.leaf (.int .i64 (.lit 10)))) (.leaf (.int .i64 (.lit 10)))) (.node .geq (.at 8) (.lit 0) (.node .leq (.at 8) (.bin .sub .i64 (.at 0) (.lit 1)) (.node .geq (.at 14) (.lit 0) (.node .leq (.at 14) (.bin .sub .i64 (.at 1) (.lit 1)) (.node .eql (.at 9) (.lit 0) (.node .eql (.at 10) (.lit 0) (.node .eql (.at 11) (.lit 0) (.node .eql (.at 12) (.lit 0) (.node .eql (.at 13) (.lit 0) (.leaf (.int .i64 (.lit 10))) (.leaf (.int .i64 (.lit 10)))) (.leaf (.int .i64 (.lit 10)))) (.leaf (.int .i64 (.lit 10)))) (.leaf (.int .i64 (.lit 10)))) (.leaf (.int .i64 (.lit 10)))) (.leaf (.int .i64 (.lit 10)))) (.leaf (.int .i64 (.lit 10)))) (.leaf (.int .i64 (.lit 10)))) (.leaf (.int .i64 (.lit 10)))))))))))))))))))))))))))))) (.leaf (.int .i64 (.lit 15)))) (.leaf (.int .i64 (.lit 15))))
theorem okC1 : TreeOk Tryd.prog 5 tsY03 12 patC1 15 atC1 := treeOk_of (B := fun _ => {}) (k := 3000) (show ATree.check runC1 atC1 (rangeAsm 15) = true from hC1_118) (fun E A _ => BaseOk.none _ E)
theorem plainC1 : patC1.all SV.plain = true := by kernel_rfl
noncomputable def atM1 : ATree := (.node .lss (.at 0) (.lit 1) (.leaf (.bool false)) (.node .gtr (.at 0) (.lit 4) (.leaf (.bool false)) (.node .lss (.at 1) (.lit 1) (.leaf (.bool false)) (.node .gtr (.at 1) (.lit 16) (.leaf (.bool false)) (.node .lss (.at 2) (.lit 1) (.leaf (.bool false)) (.node .gtr (.at 2) (.lit 8) (.leaf (.bool false)) (.node .lss (.at 3) (.lit 1) (.leaf (.bool false)) (.node .gtr (.at 3) (.lit 4) (.leaf (.bool false)) (.node .lss (.at 4) (.lit 1) (.leaf (.bool false)) (.node .gtr (.at 4) (.lit 16) (.leaf (.bool false)) (.node .lss (.at 5) (.lit 1) (.leaf (.bool false)) (.node .gtr (.at 5) (.lit 8) (.leaf (.bool false)) (.node .lss (.at 6) (.lit 1) (.leaf (.bool false)) (.node .gtr (.at 6) (.lit 4) (.leaf (.bool false)) (.leaf (.bool true))))))))))))))))
theorem okM1 : TreeOk Tryd.prog 5 tsY03 11 patM1 7 atM1 := treeOk_of (B := fun _ => {}) (k := 3000) (show ATree.check runM1 atM1 (rangeAsm 7) = true from hM1_219) (fun E A _ => BaseOk.none _ E)
theorem plainM1 : patM1.all SV.plain = true := by kernel_rfl
noncomputable def atL8 : ATree := (.node .geq (.at 0) (.lit 1) (.node .leq (.at 0) (.lit 13) (.node .eql (.at 0) (.lit 1) (.leaf (.tup [.int .i64 (.lit 0), .int .i64 (.lit 0)])) (.node .eql (.at 0) (.lit 2) (.leaf (.tup [.int .i64 (.lit 0), .int .i64 (.lit 0)])) (.node .eql (.at 0) (.lit 3) (.leaf (.tup [.int .i64 (.lit 0), .int .i64 (.lit 0)])) (.node .eql (.at 0) (.lit 4) (.leaf (.tup [.int .i64 (.lit 1), .int .i64 (.lit 0)])) (.node .eql (.at 0) (.lit 5) (.leaf (.tup [.int .i64 (.lit 1), .int .i64 (.lit 0)])) (.node .eql (.at 0) (.lit 6) (.leaf (.tup [.int .i64 (.lit 0), .int .i64 (.lit 0)])) (.node .eql (.at 0) (.lit 7) (.leaf (.tup [.int .i64 (.lit 1), .int .i64 (.lit 0)])) (.node .eql (.at 0) (.lit 8) (.leaf (.tup [.int .i64 (.lit 2), .int .i64 (.lit 0)])) (.node .eql (.at 0) (.lit 9) (.leaf (.tup [.int .i64 (.lit 2), .int .i64 (.lit 0)])) (.node .eql (.at 0) (.lit 10) (.leaf (.tup [.int .i64 (.lit 2), .int .i64 (.lit 0)])) (.node .eql (.at 0) (.lit 11) (.leaf (.tup [.int .i64 (.lit 3), .int .i64 (.lit 0)])) (.node .eql (.at 0) (.lit 12) (.leaf (.tup [.int .i64 (.lit 2), .int .i64 (.lit 0)])) (.leaf (.tup [.int .i64 (.lit 3), .int .i64 (.lit 0)])))))))))))))) (.leaf (.tup [.int .i64 (.lit 0), .int .i64 (.lit 15)]))) (.leaf (.tup [.int .i64 (.lit 0), .int .i64 (.lit 15)])))
theorem okL8 : TreeOk Tryd.prog 5 tsY03 8 patL8 1 atL8 := treeOk_of (B := fun _ => {}) (k := 3000) (show ATree.check runL8 atL8 (rangeAsm 1) = true from hL8_234) (fun E A _ => BaseOk.none _ E)
theorem plainL8 : patL8.all SV.plain = true := by kernel_rfl
noncomputable def atL9 : ATree := (.node .lss (.at 0) (.lit 1) (.leaf (.int .i64 (.lit (-1)))) (.node .gtr (.at 0) (.lit 13) (.leaf (.int .i64 (.lit (-1)))) (.node .eql (.at 0) (.lit 1) (.leaf (.int .i64 (.lit 0))) (.node .eql (.at 0) (.lit 2) (.leaf (.int .i64 (.lit 0))) (.node .eql (.at 0) (.lit 3) (.leaf (.int .i64 (.lit 0))) (.node .eql (.at 0) (.lit 4) (.leaf (.int .i64 (.lit 1))) (.node .eql (.at 0) (.lit 5) (.leaf (.int .i64 (.lit 1))) (.node .eql (.at 0) (.lit 6) (.leaf (.int .i64 (.lit 0))) (.node .eql (.at 0) (.lit 7) (.leaf (.int .i64 (.lit 1))) (.node .eql (.at 0) (.lit 8) (.leaf (.int .i64 (.lit 2))) (.node .eql (.at 0) (.lit 9) (.leaf (.int .i64 (.lit 2))) (.node .eql (.at 0) (.lit 10) (.leaf (.int .i64 (.lit 2))) (.node .eql (.at 0) (.lit 11) (.leaf (.int .i64 (.lit 3))) (.node .eql (.at 0) (.lit 12) (.leaf (.int .i64 (.lit 2))) (.leaf (.int .i64 (.lit 3)))))))))))))))))
theorem okL9 : TreeOk Tryd.prog 5 tsY03 9 patL9 1 atL9 := treeOk_of (B := fun _ => {}) (k := 3000) (show ATree.check runL9 atL9 (rangeAsm 1) = true from hL9_249) (fun E A _ => BaseOk.none _ E)
theorem plainL9 : patL9.all SV.plain = true := by kernel_rfl
noncomputable def atH10 : ATree := (.node .geq (.at 0) (.lit 1) (.node .leq (.at 0) (.lit 13) (.node .eql (.at 0) (.lit 1) (.leaf (.bool true)) (.node .eql (.at 0) (.lit 2) (.leaf (.bool true)) (.node .eql (.at 0) (.lit 3) (.leaf (.bool true)) (.node .eql (.at 0) (.lit 4) (.leaf (.bool true)) (.node .eql (.at 0) (.lit 5) (.leaf (.bool true)) (.node .eql (.at 0) (.lit 6) (.leaf (.bool true)) (.node .eql (.at 0) (.lit 7) (.leaf (.bool true)) (.node .eql (.at 0) (.lit 8) (.leaf (.bool false)) (.node .eql (.at 0) (.lit 9) (.leaf (.bool false)) (.node .eql (.at 0) (.lit 10) (.leaf (.bool false)) (.node .eql (.at 0) (.lit 11) (.leaf (.bool false)) (.node .eql (.at 0) (.lit 12) (.leaf (.bool false)) (.leaf (.bool false)))))))))))))) (.leaf (.bool false))) (.leaf (.bool false)))
theorem okH10 : TreeOk Tryd.prog 5 tsY03 10 patH10 1 atH10 := treeOk_of (B := fun _ => {}) (k := 3000) (show ATree.check runH10 atH10 (rangeAsm 1) = true from hH10_264) (fun E A _ => BaseOk.none _ E)
theorem plainH10 : patH10.all SV.plain = true := by kernel_rfl
noncomputable def atR0 : ATree := (.node .lss (.at 2) (.lit 1) (.leaf (.int .i64 (.lit 15))) (.node .gtr (.at 2) (.lit 13) (.leaf (.int .i64 (.lit 15))) (.node .eql (.at 2) (.lit 1) (.node .geq (.at 3) (.lit 0) (.node .leq (.at 3) (.bin .sub .i64 (.at 0) (.lit 1)) (.node .geq (.at 4) (.lit 0) (.node .leq (.at 4) (.bin .sub .i64 (.bin .mul .i64 (.at 1) (.lit 2)) (.lit 1)) (.node .geq (.at 5) (.lit 0) (.node .leq (.at 5) (.lit 3) (.node .eql (.at 6) (.lit 0) (.node .eql (.at 7) (.lit 0) (.node .eql (.at 8) (.lit 0) (.node .eql (.at 9) (.lit 0) (.leaf (.int .i64 (.lit 0))) (.leaf (.int .i64 (.lit 10)))) (.leaf (.int .i64 (.lit 10)))) (.leaf (.int .i64 (.lit 10)))) (.leaf (.int .i64 (.lit 10)))) (.leaf (.int .i64 (.lit 10)))) (.leaf (.int .i64 (.lit 10)))) (.leaf (.int .i64 (.lit 10)))) (.leaf (.int .i64 (.lit 10)))) (.leaf (.int .i64 (.lit 10)))) (.leaf (.int .i64 (.lit 10)))) (.node .eql (.at 2) (.lit 2) (.node .geq (.at 3) (.lit 0) (.node .leq (.at 3) (.bin .sub .i64 (.at 0) (.lit 1)) (.node .geq (.at 4) (.lit 0) (.node .leq (.at 4) (.bin .sub .i64 (.bin .mul .i64 (.at 1) (.lit 2)) (.lit 1)) (.node .geq (.at 5) (.lit 0) (.node .leq (.at 5) (.lit 3) (.node .eql (.at 6) (.lit 0) (.node .eql (.at 7) (.lit 0) (.node .eql (.at 8) (.lit 0) (.node .eql (.at 9) (.lit 0) (.leaf (.int .i64 (.lit 0))) (.leaf (.int .i64 (.lit 10)))) (.leaf (.int .i64 (.lit 10)))) (.leaf (.int .i64 (.lit 10)))) (.leaf (.int .i64 (.lit 10)))) (.leaf (.int .i64 (.lit 10)))) (.leaf (.int .i64 (.lit 10)))) (.leaf (.int .i64 (.lit 10)))) (.leaf (.int .i64 (.lit 10)))) (.leaf (.int .i64 (.lit 10)))) (.leaf (.int .i64 (.lit 10)))) (.node .eql (.at 2) (.lit 3) (.node .geq (.at 3) (.lit 0) (.node .leq (.at 3) (.bin .sub .i64 (.at 0) (.lit 1)) (.node .geq (.at 4) (.lit 0) (.node .leq (.at 4) (.bin .sub .i64 (.bin .mul .i64 (.at 1) (.lit 2)) (.lit 1)) (.node .geq (.at 5) (.lit 0) (.node .leq (.at 5) (.lit 4) (.node .eql (.at 6) (.lit 0) (.node .eql (.at 9) (.lit 0) (.leaf (.int .i64 (.lit 0))) (.leaf (.int .i64 (.lit 10)))) (.leaf (.int .i64 (.lit 10)))) (.leaf (.int .i64 (.lit 10)))) (.leaf (.int .i64 (.lit 10)))) (.leaf (.int .i64 (.lit 10)))) (.leaf (.int .i64 (.lit 10)))) (.leaf (.int .i64 (.lit 10)))) (.leaf (.int .i64 (.lit 10)))) (.node .eql (.at 2) (.lit 4) (.node .geq (.at 3) (.lit 0) (.node .leq (.at 3) (.bin .sub .i64 (.at 0) (.lit 1)) (.node .geq (.at 4) (.lit 0) (.node .leq (.at 4) (.bin .sub .i64 (.bin .mul .i64 (.at 1) (.lit 2)) (.lit 1)) (.node .eql (.at 5) (.lit 0) (.node .eql (.at 6) (.lit 0) (.node .eql (.at 7) (.lit 0) (.node .eql (.at 8) (.lit 0) (.node .eql (.at 9) (.lit 0) (.leaf (.int .i64 (.lit 0))) (.leaf (.int .i64 (.lit 10)))) (.leaf (.int .i64 (.lit 10)))) (.leaf (.int .i64 (.lit 10)))) (.leaf (.int .i64 (.lit 10)))) (.leaf (.int .i64 (.lit 10)))) (.leaf (.int .i64 (.lit 10)))) (.leaf (.int .i64 (.lit 10)))) (.leaf (.int .i64 (.lit 10)))) (.leaf (.int .i64 (.lit 10)))) (.node .eql (.at 2) (.lit 5) (.node .geq (.at 3) (.lit 0) (.node .leq (.at 3) (.bin .sub .i64 (.at 0) (.lit 1)) (.node .geq (.at 4) (.lit 0) (.node .leq (.at 4) (.bin .sub .i64 (.bin .mul .i64 (.at 1) (.lit 2)) (.lit 1)) (.node .geq (.at 6) (.lit 0) (.node .leq (.at 6) (.lit 4) (.node .eql (.at 9) (.lit 0) (.node .eql (.at 5) (.lit 0) (.leaf (.int .i64 (.lit 0))) (.leaf (.int .i64 (.lit 10)))) (.node .eql (.at 9) (.lit 1) (.node .eql (.at 5) (.lit 0) (.leaf (.int .i64 (.lit 0))) (.leaf (.int .i64 (.lit 10)))) (.leaf (.int .i64 (.lit 10))))) (.leaf (.int .i64 (.lit 10)))) (.leaf (.int .i64 (.lit 10)))) (.leaf (.int .i64 (.lit 10)))) (.leaf (.int .i64 (.lit 10)))) (.leaf (.int .i64 (.lit 10)))) (.leaf (.int .i64 (.lit 10)))) (.node .eql (.at 2) (.lit 6) (.node .geq (.at 3) (.lit 0) (.node .leq (.at 3) (.bin .sub .i64 (.at 0) (.lit 1)) (.node .geq (.at 9) (.lit 0) (.node .leq (.at 9) (.lit 19) (.node .eql (.at 4) (.lit 0) (.node .eql (.at 5) (.lit 0) (.node .eql (.at 6) (.lit 0) (.node .eql (.at 7) (.lit 0) (.node .eql (.at 8) (.lit 0) (.leaf (.int .i64 (.lit 0))) (.leaf (.int .i64 (.lit 10)))) (.leaf (.int .i64 (.lit 10)))) (.leaf (.int .i64 (.lit 10)))) (.leaf (.int .i64 (.lit 10)))) (.leaf (.int .i64 (.lit 10)))) (.leaf (.int .i64 (.lit 10)))) (.leaf (.int .i64 (.lit 10)))) (.leaf (.int .i64 (.lit 10)))) (.leaf (.int .i64 (.lit 10)))) (.node .eql (.at 2) (.lit 7) (.node .geq (.at 3) (.lit 0) (.node .leq (.at 3) (.bin .sub .i64 (.at 0) (.lit 1)) (.node .geq (.at 9) (.lit 0) (.node .leq (.at 9) (.bin .sub .i64 (.at 1) (.lit 1)) (.node .eql (.at 4) (.lit 0) (.node .eql (.at 5) (.lit 0) (.node .eql (.at 6) (.lit 0) (.node .eql (.at 7) (.lit 0) (.node .eql (.at 8) (.lit 0) (.leaf (.int .i64 (.lit 0))) (.leaf (.int .i64 (.lit 10)))) (.leaf (.int .i64 (.lit 10)))) (.leaf (.int .i64 (.lit 10)))) (.leaf (.int .i64 (.lit 10)))) (.leaf (.int .i64 (.lit 10)))) (.leaf (.int .i64 (.lit 10)))) (.leaf (.int .i64 (.lit 10)))) (.leaf (.int .i64 (.lit 10)))) (.leaf (.int .i64 (.lit 10)))) (.node .eql (.at 2) (.lit 8) (.node .geq (.at 3) (.lit 0) (.node .leq (.at 3) (.bin .sub .i64 (.at 0) (.lit 1)) (.node .geq (.at 4) (.lit 0) (.node .leq (.at 4) (.bin .sub .i64 (.bin .mul .i64 (.at 1) (.lit 2)) (.lit 1)) (.node .geq (.at 5) (.lit 0) (.node .leq (.at 5) (.lit 4) (.node .eql (.at 6) (.lit 1) (.node .eql (.at 9) (.lit 0) (.leaf (.int .i64 (.lit 0))) (.leaf (.int .i64 (.lit 10)))) (.node .eql (.at 6) (.lit 2) (.node .eql (.at 9) (.lit 0) (.leaf (.int .i64 (.lit 0))) (.leaf (.int .i64 (.lit 10)))) (.node .eql (.at 6) (.lit 4) (.node .eql (.at 9) (.lit 0) (.leaf (.int .i64 (.lit 0))) (.leaf (.int .i64 (.lit 10)))) (.leaf (.int .i64 (.lit 10)))))) (.leaf (.int .i64 (.lit 10)))) (.leaf (.int .i64 (.lit 10)))) (.leaf (.int .i64 (.lit 10)))) (.leaf (.int .i64 (.lit 10)))) (.leaf (.int .i64 (.lit 10)))) (.leaf (.int .i64 (.lit 10)))) (.node .eql (.at 2) (.lit 9) (.node .geq (.at 3) (.lit 0) (.node .leq (.at 3) (.bin .sub .i64 (.at 0) (.lit 1)) (.node .geq (.at 4) (.lit 0) (.node .leq (.at 4) (.bin .sub .i64 (.bin .mul .i64 (.at 1) (.lit 2)) (.lit 1)) (.node .eql (.at 9) (.lit 0) (.node .eql (.at 5) (.lit 0) (.node .eql (.at 6) (.lit 0) (.node .eql (.at 7) (.lit 0) (.node .eql (.at 8) (.lit 0) (.leaf (.int .i64 (.lit 0))) (.leaf (.int .i64 (.lit 10)))) (.leaf (.int .i64 (.lit 10)))) (.leaf (.int .i64 (.lit 10)))) (.leaf (.int .i64 (.lit 10)))) (.node .eql (.at 9) (.lit 1) (.node .eql (.at 5) (.lit 0) (.node .eql (.at 6) (.lit 0) (.node .eql (.at 7) (.lit 0) (.node .eql (.at 8) (.lit 0) (.leaf (.int .i64 (.lit 0))) (.leaf (.int .i64 (.lit 10)))) (.leaf (.int .i64 (.lit 10)))) (.leaf (.int .i64 (.lit 10)))) (.leaf (.int .i64 (.lit 10)))) (.leaf (.int .i64 (.lit 10))))) (.leaf (.int .i64 (.lit 10)))) (.leaf (.int .i64 (.lit 10)))) (.leaf (.int .i64 (.lit 10)))) (.leaf (.int .i64 (.lit 10)))) (.node .eql (.at 2) (.lit 10) (.node .geq (.at 3) (.lit 0) (.node .leq (.at 3) (.bin .sub .i64 (.at 0) (.lit 1)) (.node .geq (.at 4) (.lit 0) (.node .leq (.at 4) (.bin .sub .i64 (.bin .mul .i64 (.at 1) (.lit 2)) (.lit 1)) (.node .eql (.at 5) (.lit 0) (.node .eql (.at 6) (.lit 0) (.node .eql (.at 7) (.lit 0) (.node .eql (.at 8) (.lit 0) (.node .eql (.at 9) (.lit 0) (.leaf (.int .i64 (.lit 0))) (.leaf (.int .i64 (.lit 10)))) (.leaf (.int .i64 (.lit 10)))) (.leaf (.int .i64 (.lit 10)))) (.leaf (.int .i64 (.lit 10)))) (.leaf (.int .i64 (.lit 10)))) (.leaf (.int .i64 (.lit 10)))) (.leaf (.int .i64 (.lit 10)))) (.leaf (.int .i64 (.lit 10)))) (.leaf (.int .i64 (.lit 10)))) (.node .eql (.at 2) (.lit 11) (.node .geq (.at 3) (.lit 0) (.node .leq (.at 3) (.bin .sub .i64 (.at 0) (.lit 1)) (.node .geq (.at 4) (.lit 0) (.node .leq (.at 4) (.bin .sub .i64 (.bin .mul .i64 (.at 1) (.lit 2)) (.lit 1)) (.node .eql (.at 6) (.lit 0) (.node .eql (.at 5) (.lit 0) (.node .eql (.at 7) (.lit 0) (.node .eql (.at 8) (.lit 0) (.node .eql (.at 9) (.lit 0) (.leaf (.int .i64 (.lit 0))) (.leaf (.int .i64 (.lit 10)))) (.leaf (.int .i64 (.lit 10)))) (.leaf (.int .i64 (.lit 10)))) (.leaf (.int .i64 (.lit 10)))) (.node .eql (.at 6) (.lit 1) (.node .eql (.at 5) (.lit 0) (.node .eql (.at 7) (.lit 0) (.node .eql (.at 8) (.lit 0) (.node .eql (.at 9) (.lit 0) (.leaf (.int .i64 (.lit 0))) (.leaf (.int .i64 (.lit 10)))) (.leaf (.int .i64 (.lit 10)))) (.leaf (.int .i64 (.lit 10)))) (.leaf (.int .i64 (.lit 10)))) (.leaf (.int .i64 (.lit 10))))) (.leaf (.int .i64 (.lit 10)))) (.leaf (.int .i64 (.lit 10)))) (.leaf (.int .i64 (.lit 10)))) (.leaf (.int .i64 (.lit 10)))) (.node .eql (.at 2) (.lit 12) (.node .geq (.at 3) (.lit 0) (.node .leq (.at 3) (.bin .sub .i64 (.at 0) (.lit 1)) (.node .geq (.at 9) (.lit 0) (.node .leq (.at 9) (.lit 19) (.node .eql (.at 4) (.lit 0) (.node .eql (.at 5) (.lit 0) (.node .eql (.at 6) (.lit 0) (.leaf (.int .i64 (.lit 0))) (.leaf (.int .i64 (.lit 10)))) (.leaf (.int .i64 (.lit 10)))) (.leaf (.int .i64 (.lit 10)))) (.leaf (.int .i64 (.lit 10)))) (.leaf (.int .i64 (.lit 10)))) (.leaf (.int .i64 (.lit 10)))) (.leaf (.int .i64 (.lit 10)))) (.node .geq (.at 3) (.lit 0) (.node .leq (.at 3) (.bin .sub .i64 (.at 0) (.lit 1)) (.node .geq (.at 9) (.lit 0) (.node .leq (.at 9) (.bin .sub .i64 (.at 1) (.lit 1)) (.node .eql (.at 4) (.lit 0) (.node .eql (.at 5) (.lit 0) (.node .eql (.at 6) (.lit 0) (.node .eql (.at 7) (.lit 0) (.node .eql (.at 8) (.lit 0) (.leaf (.int .i64 (.lit 0))) (.leaf (.int .i64 (.lit 10)))) (.leaf (.int .i64 (.lit 10)))) (.leaf (.int .i64 (.lit 10)))) (.leaf (.int .i64 (.lit 10)))) (.leaf (.int .i64 (.lit 10)))) (.leaf (.int .i64 (.lit 10)))) (.leaf (.int .i64 (.lit 10)))) (.leaf (.int .i64 (.lit 10)))) (.leaf (.int .i64 (.lit 10))))))))))))))))))
theorem okR0 : TreeOk Tryd.prog 5 tsY03 14 patR0 10 atR0 := treeOk_of (B := fun _ => {}) (k := 3000) (show ATree.check runR0 atR0 (rangeAsm 10) = true from hR0_279) (fun E A _ => BaseOk.none _ E)
theorem plainR0 : patR0.all SV.plain = true := by kernel_rfl
noncomputable def atR1 : ATree := (.node .lss (.at 2) (.lit 1) (.leaf (.int .i64 (.lit 15))) (.node .gtr (.at 2) (.lit 13) (.leaf (.int .i64 (.lit 15))) (.node .eql (.at 2) (.lit 1) (.node .geq (.at 3) (.lit 0) (.node .leq (.at 3) (.bin .sub .i64 (.at 0) (.lit 1)) (.node .geq (.at 4) (.lit 0) (.node .leq (.at 4) (.bin .sub .i64 (.bin .mul .i64 (.at 1) (.lit 2)) (.lit 1)) (.node .geq (.at 5) (.lit 0) (.node .leq (.at 5) (.lit 3) (.node .eql (.at 6) (.lit 0) (.node .eql (.at 7) (.lit 0) (.node .eql (.at 8) (.lit 0) (.leaf (.int .i64 (.lit 10))) (.leaf (.int .i64 (.lit 10)))) (.leaf (.int .i64 (.lit 10)))) (.leaf (.int .i64 (.lit 10)))) (.leaf (.int .i64 (.lit 10)))) (.leaf (.int .i64 (.lit 10)))) (.leaf (.int .i64 (.lit 10)))) (.leaf (.int .i64 (.lit 10)))) (.leaf (.int .i64 (.lit 10)))) (.leaf (.int .i64 (.lit 10)))) (.node .eql (.at 2) (.lit 2) (.node .geq (.at 3) (.lit 0) (.node .leq (.at 3) (.bin .sub .i64 (.at 0) (.lit 1)) (.node .geq (.at 4) (.lit 0) (.node .leq (.at 4) (.bin .sub .i64 (.bin .mul .i64 (.at 1) (.lit 2)) (.lit 1)) (.node .geq (.at 5) (.lit 0) (.node .leq (.at 5) (.lit 3) (.node .eql (.at 6) (.lit 0) (.node .eql (.at 7) (.lit 0) (.node .eql (.at 8) (.lit 0) (.leaf (.int .i64 (.lit 10))) (.leaf (.int .i64 (.lit 10)))) (.leaf (.int .i64 (.lit 10)))) (.leaf (.int .i64 (.lit 10)))) (.leaf (.int .i64 (.lit 10)))) (.leaf (.int .i64 (.lit 10)))) (.leaf (.int .i64 (.lit 10)))) (.leaf (.int .i64 (.lit 10)))) (.leaf (.int .i64 (.lit 10)))) (.leaf (.int .i64 (.lit 10)))) (.node .eql (.at 2) (.lit 3) (.node .geq (.at 3) (.lit 0) (.node .leq (.at 3) (.bin .sub .i64 (.at 0) (.lit 1)) (.node .geq (.at 4) (.lit 0) (.node .leq (.at 4) (.bin .sub .i64 (.bin .mul .i64 (.at 1) (.lit 2)) (.lit 1)) (.node .geq (.at 5) (.lit 0) (.node .leq (.at 5) (.lit 4) (.node .eql (.at 6) (.lit 0) (.node .eql (.at 9) (.lit 0) (.leaf (.int .i64 (.lit 0))) (.leaf (.int .i64 (.lit 10)))) (.leaf (.int .i64 (.lit 10)))) (.leaf (.int .i64 (.lit 10)))) (.leaf (.int .i64 (.lit 10)))) (.leaf (.int .i64 (.lit 10)))) (.leaf (.int .i64 (.lit 10)))) (.leaf (.int .i64 (.lit 10)))) (.leaf (.int .i64 (.lit 10)))) (.node .eql (.at 2) (.lit 4) (.node .geq (.at 3) (.lit 0) (.node .leq (.at 3) (.bin .sub .i64 (.at 0) (.lit 1)) (.node .geq (.at 4) (.lit 0) (.node .leq (.at 4) (.bin .sub .i64 (.bin .mul .i64 (.at 1) (.lit 2)) (.lit 1)) (.node .eql (.at 5) (.lit 0) (.node .eql (.at 6) (.lit 0) (.node .eql (.at 7) (.lit 0) (.node .eql (.at 8) (.lit 0) (.leaf (.int .i64 (.lit 10))) (.leaf (.int .i64 (.lit 10)))) (.leaf (.int .i64 (.lit 10)))) (.leaf (.int .i64 (.lit 10)))) (.leaf (.int .i64 (.lit 10)))) (.leaf (.int .i64 (.lit 10)))) (.leaf (.int .i64 (.lit 10)))) (.leaf (.int .i64 (.lit 10)))) (.leaf (.int .i64 (.lit 10)))) (.node .eql (.at 2) (.lit 5) (.node .geq (.at 3) (.lit 0) (.node .leq (.at 3) (.bin .sub .i64 (.at 0) (.lit 1)) (.node .geq (.at 4) (.lit 0) (.node .leq (.at 4) (.bin .sub .i64 (.bin .mul .i64 (.at 1) (.lit 2)) (.lit 1)) (.node .geq (.at 6) (.lit 0) (.node .leq (.at 6) (.lit 4) (.node .eql (.at 9) (.lit 0) (.node .eql (.at 5) (.lit 0) (.leaf (.int .i64 (.lit 0))) (.leaf (.int .i64 (.lit 10)))) (.node .eql (.at 9) (.lit 1) (.node .eql (.at 5) (.lit 0) (.leaf (.int .i64 (.lit 0))) (.leaf (.int .i64 (.lit 10)))) (.leaf (.int .i64 (.lit 10))))) (.leaf (.int .i64 (.lit 10)))) (.leaf (.int .i64 (.lit 10)))) (.leaf (.int .i64 (.lit 10)))) (.leaf (.int .i64 (.lit 10)))) (.leaf (.int .i64 (.lit 10)))) (.leaf (.int .i64 (.lit 10)))) (.node .eql (.at 2) (.lit 6) (.node .geq (.at 3) (.lit 0) (.node .leq (.at 3) (.bin .sub .i64 (.at 0) (.lit 1)) (.node .geq (.at 9) (.lit 0) (.node .leq (.at 9) (.lit 19) (.node .eql (.at 4) (.lit 0) (.node .eql (.at 5) (.lit 0) (.node .eql (.at 6) (.lit 0) (.node .eql (.at 7) (.lit 0) (.node .eql (.at 8) (.lit 0) (.leaf (.int .i64 (.lit 10))) (.leaf (.int .i64 (.lit 10)))) (.leaf (.int .i64 (.lit 10)))) (.leaf (.int .i64 (.lit 10)))) (.leaf (.int .i64 (.lit 10)))) (.leaf (.int .i64 (.lit 10)))) (.leaf (.int .i64 (.lit 10)))) (.leaf (.int .i64 (.lit 10)))) (.leaf (.int .i64 (.lit 10)))) (.leaf (.int .i64 (.lit 10)))) (.node .eql (.at 2) (.lit 7) (.node .geq (.at 3) (.lit 0) (.node .leq (.at 3) (.bin .sub .i64 (.at 0) (.lit 1)) (.node .geq (.at 9) (.lit 0) (.node .leq (.at 9) (.bin .sub .i64 (.at 1) (.lit 1)) (.node .eql (.at 4) (.lit 0) (.node .eql (.at 5) (.lit 0) (.node .eql (.at 6) (.lit 0) (.node .eql (.at 7) (.lit 0) (.node .eql (.at 8) (.lit 0) (.leaf (.int .i64 (.lit 10))) (.leaf (.int .i64 (.lit 10)))) (.leaf (.int .i64 (.lit 10)))) (.leaf (.int .i64 (.lit 10)))) (.leaf (.int .i64 (.lit 10)))) (.leaf (.int .i64 (.lit 10)))) (.leaf (.int .i64 (.lit 10)))) (.leaf (.int .i64 (.lit 10)))) (.leaf (.int .i64 (.lit 10)))) (.leaf (.int .i64 (.lit 10)))) (.node .eql (.at 2) (.lit 8) (.node .geq (.at 3) (.lit 0) (.node .leq (.at 3) (.bin .sub .i64 (.at 0) (.lit 1)) (.node .geq (.at 4) (.lit 0) (.node .leq (.at 4) (.bin .sub .i64 (.bin .mul .i64 (.at 1) (.lit 2)) (.lit 1)) (.node .geq (.at 5) (.lit 0) (.node .leq (.at 5) (.lit 4) (.node .eql (.at 6) (.lit 1) (.leaf (.int .i64 (.lit 10))) (.node .eql (.at 6) (.lit 2) (.leaf (.int .i64 (.lit 10))) (.node .eql (.at 6) (.lit 4) (.leaf (.int .i64 (.lit 10))) (.leaf (.int .i64 (.lit 10)))))) (.leaf (.int .i64 (.lit 10)))) (.leaf (.int .i64 (.lit 10)))) (.leaf (.int .i64 (.lit 10)))) (.leaf (.int .i64 (.lit 10)))) (.leaf (.int .i64 (.lit 10)))) (.leaf (.int .i64 (.lit 10)))) (.node .eql (.at 2) (.lit 9) (.node .geq (.at 3) (.lit 0) (.node .leq (.at 3) (.bin .sub .i64 (.at 0) (.lit 1)) (.node .geq (.at 4) (.lit 0) (.node .leq (.at 4) (.bin .sub .i64 (.bin .mul .i64 (.at 1) (.lit 2)) (.lit 1)) (.node .eql (.at 9) (.lit 0) (.node .eql (.at 5) (.lit 0) (.node .eql (.at 6) (.lit 0) (.node .eql (.at 7) (.lit 0) (.node .eql (.at 8) (.lit 0) (.leaf (.int .i64 (.lit 10))) (.leaf (.int .i64 (.lit 10)))) (.leaf (.int .i64 (.lit 10)))) (.leaf (.int .i64 (.lit 10)))) (.leaf (.int .i64 (.lit 10)))) (.node .eql (.at 9) (.lit 1) (.node .eql (.at 5) (.lit 0) (.node .eql (.at 6) (.lit 0) (.node .eql (.at 7) (.lit 0) (.node .eql (.at 8) (.lit 0) (.leaf (.int .i64 (.lit 10))) (.leaf (.int .i64 (.lit 10)))) (.leaf (.int .i64 (.lit 10)))) (.leaf (.int .i64 (.lit 10)))) (.leaf (.int .i64 (.lit 10)))) (.leaf (.int .i64 (.lit 10))))) (.leaf (.int .i64 (.lit 10)))) (.leaf (.int .i64 (.lit 10)))) (.leaf (.int .i64 (.lit 10)))) (.leaf (.int .i64 (.lit 10)))) (.node .eql (.at 2) (.lit 10) (.node .geq (.at 3) (.lit 0) (.node .leq (.at 3) (.bin .sub .i64 (.at 0) (.lit 1)) (.node .geq (.at 4) (.lit 0) (.node .leq (.at 4) (.bin .sub .i64 (.bin .mul .i64 (.at 1) (.lit 2)) (.lit 1)) (.node .eql (.at 5) (.lit 0) (.node .eql (.at 6) (.lit 0) (.node .eql (.at 7) (.lit 0) (.node .eql (.at 8) (.lit 0) (.leaf (.int .i64 (.lit 10))) (.leaf (.int .i64 (.lit 10)))) (.leaf (.int .i64 (.lit 10)))) (.leaf (.int .i64 (.lit 10)))) (.leaf (.int .i64 (.lit 10)))) (.leaf (.int .i64 (.lit 10)))) (.leaf (.int .i64 (.lit 10)))) (.leaf (.int .i64 (.lit 10)))) (.leaf (.int .i64 (.lit 10)))) (.node .eql (.at 2) (.lit 11) (.node .geq (.at 3) (.lit 0) (.node .leq (.at 3) (.bin .sub .i64 (.at 0) (.lit 1)) (.node .geq (.at 4) (.lit 0) (.node .leq (.at 4) (.bin .sub .i64 (.bin .mul .i64 (.at 1) (.lit 2)) (.lit 1)) (.node .eql (.at 6) (.lit 0) (.node .eql (.at 5) (.lit 0) (.node .eql (.at 7) (.lit 0) (.node .eql (.at 8) (.lit 0) (.leaf (.int .i64 (.lit 10))) (.leaf (.int .i64 (.lit 10)))) (.leaf (.int .i64 (.lit 10)))) (.leaf (.int .i64 (.lit 10)))) (.node .eql (.at 6) (.lit 1) (.node .eql (.at 5) (.lit 0) (.node .eql (.at 7) (.lit 0) (.node .eql (.at 8) (.lit 0) (.leaf (.int .i64 (.lit 10))) (.leaf (.int .i64 (.lit 10)))) (.leaf (.int .i64 (.lit 10)))) (.leaf (.int .i64 (.lit 10)))) (.leaf (.int .i64 (.lit 10))))) (.leaf (.int .i64 (.lit 10)))) (.leaf (.int .i64 (.lit 10)))) (.leaf (.int .i64 (.lit 10)))) (.leaf (.int .i64 (.lit 10)))) (.node .eql (.at 2) (.lit 12) (.node .geq (.at 3) (.lit 0) (.node .leq (.at 3) (.bin .sub .i64 (.at 0) (.lit 1)) (.node .geq (.at 9) (.lit 0) (.node .leq (.at 9) (.lit 19) (.node .eql (.at 4) (.lit 0) (.node .eql (.at 5) (.lit 0) (.node .eql (.at 6) (.lit 0) (.leaf (.int .i64 (.lit 10))) (.leaf (.int .i64 (.lit 10)))) (.leaf (.int .i64 (.lit 10)))) (.leaf (.int .i64 (.lit 10)))) (.leaf (.int .i64 (.lit 10)))) (.leaf (.int .i64 (.lit 10)))) (.leaf (.int .i64 (.lit 10)))) (.leaf (.int .i64 (.lit 10)))) (.node .geq (.at 3) (.lit 0) (.node .leq (.at 3) (.bin .sub .i64 (.at 0) (.lit 1)) (.node .geq (.at 9) (.lit 0) (.node .leq (.at 9) (.bin .sub .i64 (.at 1) (.lit 1)) (.node .eql (.at 4) (.lit 0) (.node .eql (.at 5) (.lit 0) (.node .eql (.at 6) (.lit 0) (.node .eql (.at 7) (.lit 0) (.node .eql (.at 8) (.lit 0) (.leaf (.int .i64 (.lit 10))) (.leaf (.int .i64 (.lit 10)))) (.leaf (.int .i64 (.lit 10)))) (.leaf (.int .i64 (.lit 10)))) (.leaf (.int .i64 (.lit 10)))) (.leaf (.int .i64 (.lit 10)))) (.leaf (.int .i64 (.lit 10)))) (.leaf (.int .i64 (.lit 10)))) (.leaf (.int .i64 (.lit 10)))) (.leaf (.int .i64 (.lit 10))))))))))))))))))
theorem okR1 : TreeOk Tryd.prog 5 tsY03 14 patR1 10 atR1 := treeOk_of (B := fun _ => {}) (k := 3000) (show ATree.check runR1 atR1 (rangeAsm 10) = true from hR1_378) (fun E A _ => BaseOk.none _ E)
theorem plainR1 : patR1.all SV.plain = true := by kernel_rfl
theorem tsY03_lit : ∀ g l, (g, l) ∈ tsY03 → g < 5 ∧ l.all SV.isLit = true := by
  have h : (tsY03.all fun x => decide (x.1 < 5) && x.2.all SV.isLit) = true := by kernel_rfl
  intro g l hm
  have := List.all_eq_true.1 h _ hm
  simp only [Bool.and_eq_true, decide_eq_true_eq] at this
  exact this
end Go.Proofs.YtpabnkbpklggnaaDoor

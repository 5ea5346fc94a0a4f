/- The reckoner. -/
import Derived.Test.YtpabnkbpklggnaaDoorNPP0
import Derived.Test.YtpabnkbpklggnaaDoorNPP1
import Derived.Test.YtpabnkbpklggnaaDoorNPP2
import Derived.Test.YtpabnkbpklggnaaDoorNPP3
namespace Go.Proofs.YtpabnkbpklggnaaDoor
open Go.RowKit
set_option linter.unusedVariables false
set_option maxRecDepth 100000

noncomputable def asNP0_135 : Asm := rangeAsm 15
noncomputable def asNP0_136 : Asm := asNP0_135.add .geq (.at 7) (.lit 1) true
noncomputable def asNP0_137 : Asm := asNP0_136.add .leq (.at 7) (.lit 13) true
noncomputable def asNP0_138 : Asm := asNP0_137.add .lss (.at 0) (.lit 1) true
noncomputable def trNP0_138 : Tree := .leaf
theorem hNP0_138 : Tree.check (runNP0) trNP0_138 asNP0_138 = true := NP0_0
noncomputable def asNP0_139 : Asm := asNP0_137.add .lss (.at 0) (.lit 1) false
noncomputable def asNP0_140 : Asm := asNP0_139.add .gtr (.at 0) (.lit 4) true
noncomputable def trNP0_140 : Tree := .leaf
theorem hNP0_140 : Tree.check (runNP0) trNP0_140 asNP0_140 = true := NP0_1
noncomputable def asNP0_141 : Asm := asNP0_139.add .gtr (.at 0) (.lit 4) false
noncomputable def asNP0_142 : Asm := asNP0_141.add .lss (.at 1) (.lit 1) true
noncomputable def trNP0_142 : Tree := .leaf
theorem hNP0_142 : Tree.check (runNP0) trNP0_142 asNP0_142 = true := NP0_2
noncomputable def asNP0_143 : Asm := asNP0_141.add .lss (.at 1) (.lit 1) false
noncomputable def asNP0_144 : Asm := asNP0_143.add .gtr (.at 1) (.lit 16) true
noncomputable def trNP0_144 : Tree := .leaf
theorem hNP0_144 : Tree.check (runNP0) trNP0_144 asNP0_144 = true := NP0_3
noncomputable def asNP0_145 : Asm := asNP0_143.add .gtr (.at 1) (.lit 16) false
noncomputable def asNP0_146 : Asm := asNP0_145.add .lss (.at 2) (.lit 1) true
noncomputable def trNP0_146 : Tree := .leaf
theorem hNP0_146 : Tree.check (runNP0) trNP0_146 asNP0_146 = true := NP0_4
noncomputable def asNP0_147 : Asm := asNP0_145.add .lss (.at 2) (.lit 1) false
noncomputable def asNP0_148 : Asm := asNP0_147.add .gtr (.at 2) (.lit 8) true
noncomputable def trNP0_148 : Tree := .leaf
theorem hNP0_148 : Tree.check (runNP0) trNP0_148 asNP0_148 = true := NP0_5
noncomputable def asNP0_149 : Asm := asNP0_147.add .gtr (.at 2) (.lit 8) false
noncomputable def asNP0_150 : Asm := asNP0_149.add .lss (.at 3) (.lit 1) true
noncomputable def trNP0_150 : Tree := .leaf
theorem hNP0_150 : Tree.check (runNP0) trNP0_150 asNP0_150 = true := NP0_6
noncomputable def asNP0_151 : Asm := asNP0_149.add .lss (.at 3) (.lit 1) false
noncomputable def asNP0_152 : Asm := asNP0_151.add .gtr (.at 3) (.lit 4) true
noncomputable def trNP0_152 : Tree := .leaf
theorem hNP0_152 : Tree.check (runNP0) trNP0_152 asNP0_152 = true := NP0_7
noncomputable def asNP0_153 : Asm := asNP0_151.add .gtr (.at 3) (.lit 4) false
noncomputable def asNP0_154 : Asm := asNP0_153.add .lss (.at 4) (.lit 1) true
noncomputable def trNP0_154 : Tree := .leaf
theorem hNP0_154 : Tree.check (runNP0) trNP0_154 asNP0_154 = true := NP0_8
noncomputable def asNP0_155 : Asm := asNP0_153.add .lss (.at 4) (.lit 1) false
noncomputable def asNP0_156 : Asm := asNP0_155.add .gtr (.at 4) (.lit 16) true
noncomputable def trNP0_156 : Tree := .leaf
theorem hNP0_156 : Tree.check (runNP0) trNP0_156 asNP0_156 = true := NP0_9
noncomputable def asNP0_157 : Asm := asNP0_155.add .gtr (.at 4) (.lit 16) false
noncomputable def asNP0_158 : Asm := asNP0_157.add .lss (.at 5) (.lit 1) true
noncomputable def trNP0_158 : Tree := .leaf
theorem hNP0_158 : Tree.check (runNP0) trNP0_158 asNP0_158 = true := NP0_10
noncomputable def asNP0_159 : Asm := asNP0_157.add .lss (.at 5) (.lit 1) false
noncomputable def asNP0_160 : Asm := asNP0_159.add .gtr (.at 5) (.lit 8) true
noncomputable def trNP0_160 : Tree := .leaf
theorem hNP0_160 : Tree.check (runNP0) trNP0_160 asNP0_160 = true := NP0_11
noncomputable def asNP0_161 : Asm := asNP0_159.add .gtr (.at 5) (.lit 8) false
noncomputable def asNP0_162 : Asm := asNP0_161.add .lss (.at 6) (.lit 1) true
noncomputable def trNP0_162 : Tree := .leaf
theorem hNP0_162 : Tree.check (runNP0) trNP0_162 asNP0_162 = true := NP0_12
noncomputable def asNP0_163 : Asm := asNP0_161.add .lss (.at 6) (.lit 1) false
noncomputable def asNP0_164 : Asm := asNP0_163.add .gtr (.at 6) (.lit 4) true
noncomputable def trNP0_164 : Tree := .leaf
theorem hNP0_164 : Tree.check (runNP0) trNP0_164 asNP0_164 = true := NP0_13
noncomputable def asNP0_165 : Asm := asNP0_163.add .gtr (.at 6) (.lit 4) false
noncomputable def asNP0_166 : Asm := asNP0_165.add .eql (.at 7) (.lit 1) true
noncomputable def asNP0_167 : Asm := asNP0_166.add .geq (.at 8) (.lit 0) true
noncomputable def trNP0_167 : Tree := (.node .leq (.at 8) (.bin .sub .i64 (.at 0) (.lit 1)) (.node .geq (.at 9) (.lit 0) (.node .leq (.at 9) (.bin .sub .i64 (.bin .mul .i64 (.at 1) (.lit 2)) (.lit 1)) (.node .geq (.at 10) (.lit 0) (.node .leq (.at 10) (.lit 3) (.node .eql (.at 11) (.lit 0) (.node .eql (.at 12) (.lit 0) (.node .eql (.at 13) (.lit 0) (.node .eql (.at 14) (.lit 0) .leaf .leaf) .leaf) .leaf) .leaf) .leaf) .leaf) .leaf) .leaf) .leaf)
theorem hNP0_167 : Tree.check (runNP0) trNP0_167 asNP0_167 = true := NP0_14
noncomputable def asNP0_168 : Asm := asNP0_166.add .geq (.at 8) (.lit 0) false
noncomputable def trNP0_168 : Tree := .leaf
theorem hNP0_168 : Tree.check (runNP0) trNP0_168 asNP0_168 = true := NP0_15
noncomputable def trNP0_166 : Tree := .node .geq (.at 8) (.lit 0) trNP0_167 trNP0_168
theorem hNP0_166 : Tree.check (runNP0) trNP0_166 asNP0_166 = true := by
  show (Tree.check (runNP0) trNP0_167 asNP0_167 && Tree.check (runNP0) trNP0_168 asNP0_168) = true
  rw [hNP0_167, hNP0_168]; rfl
noncomputable def asNP0_169 : Asm := asNP0_165.add .eql (.at 7) (.lit 1) false
noncomputable def asNP0_170 : Asm := asNP0_169.add .eql (.at 7) (.lit 2) true
noncomputable def asNP0_171 : Asm := asNP0_170.add .geq (.at 8) (.lit 0) true
noncomputable def trNP0_171 : Tree := (.node .leq (.at 8) (.bin .sub .i64 (.at 0) (.lit 1)) (.node .geq (.at 9) (.lit 0) (.node .leq (.at 9) (.bin .sub .i64 (.bin .mul .i64 (.at 1) (.lit 2)) (.lit 1)) (.node .geq (.at 10) (.lit 0) (.node .leq (.at 10) (.lit 3) (.node .eql (.at 11) (.lit 0) (.node .eql (.at 12) (.lit 0) (.node .eql (.at 13) (.lit 0) (.node .eql (.at 14) (.lit 0) .leaf .leaf) .leaf) .leaf) .leaf) .leaf) .leaf) .leaf) .leaf) .leaf)
theorem hNP0_171 : Tree.check (runNP0) trNP0_171 asNP0_171 = true := NP0_17
noncomputable def asNP0_172 : Asm := asNP0_170.add .geq (.at 8) (.lit 0) false
noncomputable def trNP0_172 : Tree := .leaf
theorem hNP0_172 : Tree.check (runNP0) trNP0_172 asNP0_172 = true := NP0_18
noncomputable def trNP0_170 : Tree := .node .geq (.at 8) (.lit 0) trNP0_171 trNP0_172
theorem hNP0_170 : Tree.check (runNP0) trNP0_170 asNP0_170 = true := by
  show (Tree.check (runNP0) trNP0_171 asNP0_171 && Tree.check (runNP0) trNP0_172 asNP0_172) = true
  rw [hNP0_171, hNP0_172]; rfl
noncomputable def asNP0_173 : Asm := asNP0_169.add .eql (.at 7) (.lit 2) false
noncomputable def asNP0_174 : Asm := asNP0_173.add .eql (.at 7) (.lit 3) true
noncomputable def trNP0_174 : Tree := (.node .geq (.at 8) (.lit 0) (.node .leq (.at 8) (.bin .sub .i64 (.at 0) (.lit 1)) (.node .geq (.at 9) (.lit 0) (.node .leq (.at 9) (.bin .sub .i64 (.bin .mul .i64 (.at 1) (.lit 2)) (.lit 1)) (.node .geq (.at 10) (.lit 0) (.node .leq (.at 10) (.lit 4) (.node .eql (.at 11) (.lit 0) (.node .eql (.at 14) (.lit 0) .leaf .leaf) .leaf) .leaf) .leaf) .leaf) .leaf) .leaf) .leaf)
theorem hNP0_174 : Tree.check (runNP0) trNP0_174 asNP0_174 = true := NP0_20
noncomputable def asNP0_175 : Asm := asNP0_173.add .eql (.at 7) (.lit 3) false
noncomputable def asNP0_176 : Asm := asNP0_175.add .eql (.at 7) (.lit 4) true
noncomputable def trNP0_176 : Tree := (.node .geq (.at 8) (.lit 0) (.node .leq (.at 8) (.bin .sub .i64 (.at 0) (.lit 1)) (.node .geq (.at 9) (.lit 0) (.node .leq (.at 9) (.bin .sub .i64 (.bin .mul .i64 (.at 1) (.lit 2)) (.lit 1)) (.node .eql (.at 10) (.lit 0) (.node .eql (.at 11) (.lit 0) (.node .eql (.at 12) (.lit 0) (.node .eql (.at 13) (.lit 0) (.node .eql (.at 14) (.lit 0) .leaf .leaf) .leaf) .leaf) .leaf) .leaf) .leaf) .leaf) .leaf) .leaf)
theorem hNP0_176 : Tree.check (runNP0) trNP0_176 asNP0_176 = true := NP0_21
noncomputable def asNP0_177 : Asm := asNP0_175.add .eql (.at 7) (.lit 4) false
noncomputable def asNP0_178 : Asm := asNP0_177.add .eql (.at 7) (.lit 5) true
noncomputable def trNP0_178 : Tree := (.node .geq (.at 8) (.lit 0) (.node .leq (.at 8) (.bin .sub .i64 (.at 0) (.lit 1)) (.node .geq (.at 9) (.lit 0) (.node .leq (.at 9) (.bin .sub .i64 (.bin .mul .i64 (.at 1) (.lit 2)) (.lit 1)) (.node .geq (.at 11) (.lit 0) (.node .leq (.at 11) (.lit 4) (.node .geq (.at 14) (.lit 0) (.node .leq (.at 14) (.lit 1) (.node .eql (.at 10) (.lit 0) .leaf .leaf) .leaf) .leaf) .leaf) .leaf) .leaf) .leaf) .leaf) .leaf)
theorem hNP0_178 : Tree.check (runNP0) trNP0_178 asNP0_178 = true := NP0_22
noncomputable def asNP0_179 : Asm := asNP0_177.add .eql (.at 7) (.lit 5) false
noncomputable def asNP0_180 : Asm := asNP0_179.add .eql (.at 7) (.lit 6) true
noncomputable def trNP0_180 : Tree := (.node .geq (.at 8) (.lit 0) (.node .leq (.at 8) (.bin .sub .i64 (.at 0) (.lit 1)) (.node .geq (.at 14) (.lit 0) (.node .leq (.at 14) (.lit 19) (.node .eql (.at 9) (.lit 0) (.node .eql (.at 10) (.lit 0) (.node .eql (.at 11) (.lit 0) (.node .eql (.at 12) (.lit 0) (.node .eql (.at 13) (.lit 0) .leaf .leaf) .leaf) .leaf) .leaf) .leaf) .leaf) .leaf) .leaf) .leaf)
theorem hNP0_180 : Tree.check (runNP0) trNP0_180 asNP0_180 = true := NP0_23
noncomputable def asNP0_181 : Asm := asNP0_179.add .eql (.at 7) (.lit 6) false
noncomputable def asNP0_182 : Asm := asNP0_181.add .eql (.at 7) (.lit 7) true
noncomputable def trNP0_182 : Tree := (.node .geq (.at 8) (.lit 0) (.node .leq (.at 8) (.bin .sub .i64 (.at 0) (.lit 1)) (.node .geq (.at 14) (.lit 0) (.node .leq (.at 14) (.bin .sub .i64 (.at 1) (.lit 1)) (.node .eql (.at 9) (.lit 0) (.node .eql (.at 10) (.lit 0) (.node .eql (.at 11) (.lit 0) (.node .eql (.at 12) (.lit 0) (.node .eql (.at 13) (.lit 0) .leaf .leaf) .leaf) .leaf) .leaf) .leaf) .leaf) .leaf) .leaf) .leaf)
theorem hNP0_182 : Tree.check (runNP0) trNP0_182 asNP0_182 = true := NP0_24
noncomputable def asNP0_183 : Asm := asNP0_181.add .eql (.at 7) (.lit 7) false
noncomputable def asNP0_184 : Asm := asNP0_183.add .eql (.at 7) (.lit 8) true
noncomputable def asNP0_185 : Asm := asNP0_184.add .geq (.at 8) (.lit 0) true
noncomputable def asNP0_186 : Asm := asNP0_185.add .leq (.at 8) (.bin .sub .i64 (.at 0) (.lit 1)) true
noncomputable def asNP0_187 : Asm := asNP0_186.add .geq (.at 9) (.lit 0) true
noncomputable def trNP0_187 : Tree := (.node .leq (.at 9) (.bin .sub .i64 (.bin .mul .i64 (.at 1) (.lit 2)) (.lit 1)) (.node .geq (.at 10) (.lit 0) (.node .leq (.at 10) (.lit 4) (.node .eql (.at 11) (.lit 1) (.node .eql (.at 14) (.lit 0) .leaf .leaf) (.node .eql (.at 11) (.lit 2) (.node .eql (.at 14) (.lit 0) .leaf .leaf) (.node .eql (.at 11) (.lit 4) (.node .eql (.at 14) (.lit 0) .leaf .leaf) .leaf))) .leaf) .leaf) .leaf)
theorem hNP0_187 : Tree.check (runNP0) trNP0_187 asNP0_187 = true := NP0_25
noncomputable def asNP0_188 : Asm := asNP0_186.add .geq (.at 9) (.lit 0) false
noncomputable def trNP0_188 : Tree := .leaf
theorem hNP0_188 : Tree.check (runNP0) trNP0_188 asNP0_188 = true := NP0_26
noncomputable def trNP0_186 : Tree := .node .geq (.at 9) (.lit 0) trNP0_187 trNP0_188
theorem hNP0_186 : Tree.check (runNP0) trNP0_186 asNP0_186 = true := by
  show (Tree.check (runNP0) trNP0_187 asNP0_187 && Tree.check (runNP0) trNP0_188 asNP0_188) = true
  rw [hNP0_187, hNP0_188]; rfl
noncomputable def asNP0_189 : Asm := asNP0_185.add .leq (.at 8) (.bin .sub .i64 (.at 0) (.lit 1)) false
noncomputable def trNP0_189 : Tree := .leaf
theorem hNP0_189 : Tree.check (runNP0) trNP0_189 asNP0_189 = true := NP0_28
noncomputable def trNP0_185 : Tree := .node .leq (.at 8) (.bin .sub .i64 (.at 0) (.lit 1)) trNP0_186 trNP0_189
theorem hNP0_185 : Tree.check (runNP0) trNP0_185 asNP0_185 = true := by
  show (Tree.check (runNP0) trNP0_186 asNP0_186 && Tree.check (runNP0) trNP0_189 asNP0_189) = true
  rw [hNP0_186, hNP0_189]; rfl
noncomputable def asNP0_190 : Asm := asNP0_184.add .geq (.at 8) (.lit 0) false
noncomputable def trNP0_190 : Tree := .leaf
theorem hNP0_190 : Tree.check (runNP0) trNP0_190 asNP0_190 = true := NP0_30
noncomputable def trNP0_184 : Tree := .node .geq (.at 8) (.lit 0) trNP0_185 trNP0_190
theorem hNP0_184 : Tree.check (runNP0) trNP0_184 asNP0_184 = true := by
  show (Tree.check (runNP0) trNP0_185 asNP0_185 && Tree.check (runNP0) trNP0_190 asNP0_190) = true
  rw [hNP0_185, hNP0_190]; rfl
noncomputable def asNP0_191 : Asm := asNP0_183.add .eql (.at 7) (.lit 8) false
noncomputable def asNP0_192 : Asm := asNP0_191.add .eql (.at 7) (.lit 9) true
noncomputable def asNP0_193 : Asm := asNP0_192.add .geq (.at 8) (.lit 0) true
noncomputable def trNP0_193 : Tree := (.node .leq (.at 8) (.bin .sub .i64 (.at 0) (.lit 1)) (.node .geq (.at 9) (.lit 0) (.node .leq (.at 9) (.bin .sub .i64 (.bin .mul .i64 (.at 1) (.lit 2)) (.lit 1)) (.node .geq (.at 14) (.lit 0) (.node .leq (.at 14) (.lit 1) (.node .eql (.at 10) (.lit 0) (.node .eql (.at 11) (.lit 0) (.node .eql (.at 12) (.lit 0) (.node .eql (.at 13) (.lit 0) .leaf .leaf) .leaf) .leaf) .leaf) .leaf) .leaf) .leaf) .leaf) .leaf)
theorem hNP0_193 : Tree.check (runNP0) trNP0_193 asNP0_193 = true := NP0_32
noncomputable def asNP0_194 : Asm := asNP0_192.add .geq (.at 8) (.lit 0) false
noncomputable def trNP0_194 : Tree := .leaf
theorem hNP0_194 : Tree.check (runNP0) trNP0_194 asNP0_194 = true := NP0_33
noncomputable def trNP0_192 : Tree := .node .geq (.at 8) (.lit 0) trNP0_193 trNP0_194
theorem hNP0_192 : Tree.check (runNP0) trNP0_192 asNP0_192 = true := by
  show (Tree.check (runNP0) trNP0_193 asNP0_193 && Tree.check (runNP0) trNP0_194 asNP0_194) = true
  rw [hNP0_193, hNP0_194]; rfl
noncomputable def asNP0_195 : Asm := asNP0_191.add .eql (.at 7) (.lit 9) false
noncomputable def asNP0_196 : Asm := asNP0_195.add .eql (.at 7) (.lit 10) true
noncomputable def trNP0_196 : Tree := (.node .geq (.at 8) (.lit 0) (.node .leq (.at 8) (.bin .sub .i64 (.at 0) (.lit 1)) (.node .geq (.at 9) (.lit 0) (.node .leq (.at 9) (.bin .sub .i64 (.bin .mul .i64 (.at 1) (.lit 2)) (.lit 1)) (.node .eql (.at 10) (.lit 0) (.node .eql (.at 11) (.lit 0) (.node .eql (.at 12) (.lit 0) (.node .eql (.at 13) (.lit 0) (.node .eql (.at 14) (.lit 0) .leaf .leaf) .leaf) .leaf) .leaf) .leaf) .leaf) .leaf) .leaf) .leaf)
theorem hNP0_196 : Tree.check (runNP0) trNP0_196 asNP0_196 = true := NP0_35
noncomputable def asNP0_197 : Asm := asNP0_195.add .eql (.at 7) (.lit 10) false
noncomputable def asNP0_198 : Asm := asNP0_197.add .eql (.at 7) (.lit 11) true
noncomputable def asNP0_199 : Asm := asNP0_198.add .geq (.at 8) (.lit 0) true
noncomputable def trNP0_199 : Tree := (.node .leq (.at 8) (.bin .sub .i64 (.at 0) (.lit 1)) (.node .geq (.at 9) (.lit 0) (.node .leq (.at 9) (.bin .sub .i64 (.bin .mul .i64 (.at 1) (.lit 2)) (.lit 1)) (.node .geq (.at 11) (.lit 0) (.node .leq (.at 11) (.lit 1) (.node .eql (.at 10) (.lit 0) (.node .eql (.at 12) (.lit 0) (.node .eql (.at 13) (.lit 0) (.node .eql (.at 14) (.lit 0) .leaf .leaf) .leaf) .leaf) .leaf) .leaf) .leaf) .leaf) .leaf) .leaf)
theorem hNP0_199 : Tree.check (runNP0) trNP0_199 asNP0_199 = true := NP0_36
noncomputable def asNP0_200 : Asm := asNP0_198.add .geq (.at 8) (.lit 0) false
noncomputable def trNP0_200 : Tree := .leaf
theorem hNP0_200 : Tree.check (runNP0) trNP0_200 asNP0_200 = true := NP0_37
noncomputable def trNP0_198 : Tree := .node .geq (.at 8) (.lit 0) trNP0_199 trNP0_200
theorem hNP0_198 : Tree.check (runNP0) trNP0_198 asNP0_198 = true := by
  show (Tree.check (runNP0) trNP0_199 asNP0_199 && Tree.check (runNP0) trNP0_200 asNP0_200) = true
  rw [hNP0_199, hNP0_200]; rfl
noncomputable def asNP0_201 : Asm := asNP0_197.add .eql (.at 7) (.lit 11) false
noncomputable def asNP0_202 : Asm := asNP0_201.add .eql (.at 7) (.lit 12) true
noncomputable def trNP0_202 : Tree := (.node .geq (.at 8) (.lit 0) (.node .leq (.at 8) (.bin .sub .i64 (.at 0) (.lit 1)) (.node .geq (.at 14) (.lit 0) (.node .leq (.at 14) (.lit 19) (.node .eql (.at 9) (.lit 0) (.node .eql (.at 10) (.lit 0) (.node .eql (.at 11) (.lit 0) .leaf .leaf) .leaf) .leaf) .leaf) .leaf) .leaf) .leaf)
theorem hNP0_202 : Tree.check (runNP0) trNP0_202 asNP0_202 = true := NP0_39
noncomputable def asNP0_203 : Asm := asNP0_201.add .eql (.at 7) (.lit 12) false
noncomputable def trNP0_203 : Tree := (.node .geq (.at 8) (.lit 0) (.node .leq (.at 8) (.bin .sub .i64 (.at 0) (.lit 1)) (.node .geq (.at 14) (.lit 0) (.node .leq (.at 14) (.bin .sub .i64 (.at 1) (.lit 1)) (.node .eql (.at 9) (.lit 0) (.node .eql (.at 10) (.lit 0) (.node .eql (.at 11) (.lit 0) (.node .eql (.at 12) (.lit 0) (.node .eql (.at 13) (.lit 0) .leaf .leaf) .leaf) .leaf) .leaf) .leaf) .leaf) .leaf) .leaf) .leaf)
theorem hNP0_203 : Tree.check (runNP0) trNP0_203 asNP0_203 = true := NP0_40
noncomputable def trNP0_201 : Tree := .node .eql (.at 7) (.lit 12) trNP0_202 trNP0_203
theorem hNP0_201 : Tree.check (runNP0) trNP0_201 asNP0_201 = true := by
  show (Tree.check (runNP0) trNP0_202 asNP0_202 && Tree.check (runNP0) trNP0_203 asNP0_203) = true
  rw [hNP0_202, hNP0_203]; rfl
noncomputable def trNP0_197 : Tree := .node .eql (.at 7) (.lit 11) trNP0_198 trNP0_201
theorem hNP0_197 : Tree.check (runNP0) trNP0_197 asNP0_197 = true := by
  show (Tree.check (runNP0) trNP0_198 asNP0_198 && Tree.check (runNP0) trNP0_201 asNP0_201) = true
  rw [hNP0_198, hNP0_201]; rfl
noncomputable def trNP0_195 : Tree := .node .eql (.at 7) (.lit 10) trNP0_196 trNP0_197
theorem hNP0_195 : Tree.check (runNP0) trNP0_195 asNP0_195 = true := by
  show (Tree.check (runNP0) trNP0_196 asNP0_196 && Tree.check (runNP0) trNP0_197 asNP0_197) = true
  rw [hNP0_196, hNP0_197]; rfl
noncomputable def trNP0_191 : Tree := .node .eql (.at 7) (.lit 9) trNP0_192 trNP0_195
theorem hNP0_191 : Tree.check (runNP0) trNP0_191 asNP0_191 = true := by
  show (Tree.check (runNP0) trNP0_192 asNP0_192 && Tree.check (runNP0) trNP0_195 asNP0_195) = true
  rw [hNP0_192, hNP0_195]; rfl
noncomputable def trNP0_183 : Tree := .node .eql (.at 7) (.lit 8) trNP0_184 trNP0_191
theorem hNP0_183 : Tree.check (runNP0) trNP0_183 asNP0_183 = true := by
  show (Tree.check (runNP0) trNP0_184 asNP0_184 && Tree.check (runNP0) trNP0_191 asNP0_191) = true
  rw [hNP0_184, hNP0_191]; rfl
noncomputable def trNP0_181 : Tree := .node .eql (.at 7) (.lit 7) trNP0_182 trNP0_183
theorem hNP0_181 : Tree.check (runNP0) trNP0_181 asNP0_181 = true := by
  show (Tree.check (runNP0) trNP0_182 asNP0_182 && Tree.check (runNP0) trNP0_183 asNP0_183) = true
  rw [hNP0_182, hNP0_183]; rfl
noncomputable def trNP0_179 : Tree := .node .eql (.at 7) (.lit 6) trNP0_180 trNP0_181
theorem hNP0_179 : Tree.check (runNP0) trNP0_179 asNP0_179 = true := by
  show (Tree.check (runNP0) trNP0_180 asNP0_180 && Tree.check (runNP0) trNP0_181 asNP0_181) = true
  rw [hNP0_180, hNP0_181]; rfl
noncomputable def trNP0_177 : Tree := .node .eql (.at 7) (.lit 5) trNP0_178 trNP0_179
theorem hNP0_177 : Tree.check (runNP0) trNP0_177 asNP0_177 = true := by
  show (Tree.check (runNP0) trNP0_178 asNP0_178 && Tree.check (runNP0) trNP0_179 asNP0_179) = true
  rw [hNP0_178, hNP0_179]; rfl
noncomputable def trNP0_175 : Tree := .node .eql (.at 7) (.lit 4) trNP0_176 trNP0_177
theorem hNP0_175 : Tree.check (runNP0) trNP0_175 asNP0_175 = true := by
  show (Tree.check (runNP0) trNP0_176 asNP0_176 && Tree.check (runNP0) trNP0_177 asNP0_177) = true
  rw [hNP0_176, hNP0_177]; rfl
noncomputable def trNP0_173 : Tree := .node .eql (.at 7) (.lit 3) trNP0_174 trNP0_175
theorem hNP0_173 : Tree.check (runNP0) trNP0_173 asNP0_173 = true := by
  show (Tree.check (runNP0) trNP0_174 asNP0_174 && Tree.check (runNP0) trNP0_175 asNP0_175) = true
  rw [hNP0_174, hNP0_175]; rfl
noncomputable def trNP0_169 : Tree := .node .eql (.at 7) (.lit 2) trNP0_170 trNP0_173
theorem hNP0_169 : Tree.check (runNP0) trNP0_169 asNP0_169 = true := by
  show (Tree.check (runNP0) trNP0_170 asNP0_170 && Tree.check (runNP0) trNP0_173 asNP0_173) = true
  rw [hNP0_170, hNP0_173]; rfl
noncomputable def trNP0_165 : Tree := .node .eql (.at 7) (.lit 1) trNP0_166 trNP0_169
theorem hNP0_165 : Tree.check (runNP0) trNP0_165 asNP0_165 = true := by
  show (Tree.check (runNP0) trNP0_166 asNP0_166 && Tree.check (runNP0) trNP0_169 asNP0_169) = true
  rw [hNP0_166, hNP0_169]; rfl
noncomputable def trNP0_163 : Tree := .node .gtr (.at 6) (.lit 4) trNP0_164 trNP0_165
theorem hNP0_163 : Tree.check (runNP0) trNP0_163 asNP0_163 = true := by
  show (Tree.check (runNP0) trNP0_164 asNP0_164 && Tree.check (runNP0) trNP0_165 asNP0_165) = true
  rw [hNP0_164, hNP0_165]; rfl
noncomputable def trNP0_161 : Tree := .node .lss (.at 6) (.lit 1) trNP0_162 trNP0_163
theorem hNP0_161 : Tree.check (runNP0) trNP0_161 asNP0_161 = true := by
  show (Tree.check (runNP0) trNP0_162 asNP0_162 && Tree.check (runNP0) trNP0_163 asNP0_163) = true
  rw [hNP0_162, hNP0_163]; rfl
noncomputable def trNP0_159 : Tree := .node .gtr (.at 5) (.lit 8) trNP0_160 trNP0_161
theorem hNP0_159 : Tree.check (runNP0) trNP0_159 asNP0_159 = true := by
  show (Tree.check (runNP0) trNP0_160 asNP0_160 && Tree.check (runNP0) trNP0_161 asNP0_161) = true
  rw [hNP0_160, hNP0_161]; rfl
noncomputable def trNP0_157 : Tree := .node .lss (.at 5) (.lit 1) trNP0_158 trNP0_159
theorem hNP0_157 : Tree.check (runNP0) trNP0_157 asNP0_157 = true := by
  show (Tree.check (runNP0) trNP0_158 asNP0_158 && Tree.check (runNP0) trNP0_159 asNP0_159) = true
  rw [hNP0_158, hNP0_159]; rfl
noncomputable def trNP0_155 : Tree := .node .gtr (.at 4) (.lit 16) trNP0_156 trNP0_157
theorem hNP0_155 : Tree.check (runNP0) trNP0_155 asNP0_155 = true := by
  show (Tree.check (runNP0) trNP0_156 asNP0_156 && Tree.check (runNP0) trNP0_157 asNP0_157) = true
  rw [hNP0_156, hNP0_157]; rfl
noncomputable def trNP0_153 : Tree := .node .lss (.at 4) (.lit 1) trNP0_154 trNP0_155
theorem hNP0_153 : Tree.check (runNP0) trNP0_153 asNP0_153 = true := by
  show (Tree.check (runNP0) trNP0_154 asNP0_154 && Tree.check (runNP0) trNP0_155 asNP0_155) = true
  rw [hNP0_154, hNP0_155]; rfl
noncomputable def trNP0_151 : Tree := .node .gtr (.at 3) (.lit 4) trNP0_152 trNP0_153
theorem hNP0_151 : Tree.check (runNP0) trNP0_151 asNP0_151 = true := by
  show (Tree.check (runNP0) trNP0_152 asNP0_152 && Tree.check (runNP0) trNP0_153 asNP0_153) = true
  rw [hNP0_152, hNP0_153]; rfl
noncomputable def trNP0_149 : Tree := .node .lss (.at 3) (.lit 1) trNP0_150 trNP0_151
theorem hNP0_149 : Tree.check (runNP0) trNP0_149 asNP0_149 = true := by
  show (Tree.check (runNP0) trNP0_150 asNP0_150 && Tree.check (runNP0) trNP0_151 asNP0_151) = true
  rw [hNP0_150, hNP0_151]; rfl
noncomputable def trNP0_147 : Tree := .node .gtr (.at 2) (.lit 8) trNP0_148 trNP0_149
theorem hNP0_147 : Tree.check (runNP0) trNP0_147 asNP0_147 = true := by
  show (Tree.check (runNP0) trNP0_148 asNP0_148 && Tree.check (runNP0) trNP0_149 asNP0_149) = true
  rw [hNP0_148, hNP0_149]; rfl
noncomputable def trNP0_145 : Tree := .node .lss (.at 2) (.lit 1) trNP0_146 trNP0_147
theorem hNP0_145 : Tree.check (runNP0) trNP0_145 asNP0_145 = true := by
  show (Tree.check (runNP0) trNP0_146 asNP0_146 && Tree.check (runNP0) trNP0_147 asNP0_147) = true
  rw [hNP0_146, hNP0_147]; rfl
noncomputable def trNP0_143 : Tree := .node .gtr (.at 1) (.lit 16) trNP0_144 trNP0_145
theorem hNP0_143 : Tree.check (runNP0) trNP0_143 asNP0_143 = true := by
  show (Tree.check (runNP0) trNP0_144 asNP0_144 && Tree.check (runNP0) trNP0_145 asNP0_145) = true
  rw [hNP0_144, hNP0_145]; rfl
noncomputable def trNP0_141 : Tree := .node .lss (.at 1) (.lit 1) trNP0_142 trNP0_143
theorem hNP0_141 : Tree.check (runNP0) trNP0_141 asNP0_141 = true := by
  show (Tree.check (runNP0) trNP0_142 asNP0_142 && Tree.check (runNP0) trNP0_143 asNP0_143) = true
  rw [hNP0_142, hNP0_143]; rfl
noncomputable def trNP0_139 : Tree := .node .gtr (.at 0) (.lit 4) trNP0_140 trNP0_141
theorem hNP0_139 : Tree.check (runNP0) trNP0_139 asNP0_139 = true := by
  show (Tree.check (runNP0) trNP0_140 asNP0_140 && Tree.check (runNP0) trNP0_141 asNP0_141) = true
  rw [hNP0_140, hNP0_141]; rfl
noncomputable def trNP0_137 : Tree := .node .lss (.at 0) (.lit 1) trNP0_138 trNP0_139
theorem hNP0_137 : Tree.check (runNP0) trNP0_137 asNP0_137 = true := by
  show (Tree.check (runNP0) trNP0_138 asNP0_138 && Tree.check (runNP0) trNP0_139 asNP0_139) = true
  rw [hNP0_138, hNP0_139]; rfl
noncomputable def asNP0_204 : Asm := asNP0_136.add .leq (.at 7) (.lit 13) false
noncomputable def trNP0_204 : Tree := .leaf
theorem hNP0_204 : Tree.check (runNP0) trNP0_204 asNP0_204 = true := NP0_67
noncomputable def trNP0_136 : Tree := .node .leq (.at 7) (.lit 13) trNP0_137 trNP0_204
theorem hNP0_136 : Tree.check (runNP0) trNP0_136 asNP0_136 = true := by
  show (Tree.check (runNP0) trNP0_137 asNP0_137 && Tree.check (runNP0) trNP0_204 asNP0_204) = true
  rw [hNP0_137, hNP0_204]; rfl
noncomputable def asNP0_205 : Asm := asNP0_135.add .geq (.at 7) (.lit 1) false
noncomputable def trNP0_205 : Tree := .leaf
theorem hNP0_205 : Tree.check (runNP0) trNP0_205 asNP0_205 = true := NP0_69
noncomputable def trNP0_135 : Tree := .node .geq (.at 7) (.lit 1) trNP0_136 trNP0_205
theorem hNP0_135 : Tree.check (runNP0) trNP0_135 asNP0_135 = true := by
  show (Tree.check (runNP0) trNP0_136 asNP0_136 && Tree.check (runNP0) trNP0_205 asNP0_205) = true
  rw [hNP0_136, hNP0_205]; rfl
noncomputable def asNP1_206 : Asm := rangeAsm 15
noncomputable def asNP1_207 : Asm := asNP1_206.add .geq (.at 7) (.lit 1) true
noncomputable def asNP1_208 : Asm := asNP1_207.add .leq (.at 7) (.lit 13) true
noncomputable def asNP1_209 : Asm := asNP1_208.add .lss (.at 0) (.lit 1) true
noncomputable def trNP1_209 : Tree := .leaf
theorem hNP1_209 : Tree.check (runNP1) trNP1_209 asNP1_209 = true := NP1_0
noncomputable def asNP1_210 : Asm := asNP1_208.add .lss (.at 0) (.lit 1) false
noncomputable def asNP1_211 : Asm := asNP1_210.add .gtr (.at 0) (.lit 4) true
noncomputable def trNP1_211 : Tree := .leaf
theorem hNP1_211 : Tree.check (runNP1) trNP1_211 asNP1_211 = true := NP1_1
noncomputable def asNP1_212 : Asm := asNP1_210.add .gtr (.at 0) (.lit 4) false
noncomputable def asNP1_213 : Asm := asNP1_212.add .lss (.at 1) (.lit 1) true
noncomputable def trNP1_213 : Tree := .leaf
theorem hNP1_213 : Tree.check (runNP1) trNP1_213 asNP1_213 = true := NP1_2
noncomputable def asNP1_214 : Asm := asNP1_212.add .lss (.at 1) (.lit 1) false
noncomputable def asNP1_215 : Asm := asNP1_214.add .gtr (.at 1) (.lit 16) true
noncomputable def trNP1_215 : Tree := .leaf
theorem hNP1_215 : Tree.check (runNP1) trNP1_215 asNP1_215 = true := NP1_3
noncomputable def asNP1_216 : Asm := asNP1_214.add .gtr (.at 1) (.lit 16) false
noncomputable def asNP1_217 : Asm := asNP1_216.add .lss (.at 2) (.lit 1) true
noncomputable def trNP1_217 : Tree := .leaf
theorem hNP1_217 : Tree.check (runNP1) trNP1_217 asNP1_217 = true := NP1_4
noncomputable def asNP1_218 : Asm := asNP1_216.add .lss (.at 2) (.lit 1) false
noncomputable def asNP1_219 : Asm := asNP1_218.add .gtr (.at 2) (.lit 8) true
noncomputable def trNP1_219 : Tree := .leaf
theorem hNP1_219 : Tree.check (runNP1) trNP1_219 asNP1_219 = true := NP1_5
noncomputable def asNP1_220 : Asm := asNP1_218.add .gtr (.at 2) (.lit 8) false
noncomputable def asNP1_221 : Asm := asNP1_220.add .lss (.at 3) (.lit 1) true
noncomputable def trNP1_221 : Tree := .leaf
theorem hNP1_221 : Tree.check (runNP1) trNP1_221 asNP1_221 = true := NP1_6
noncomputable def asNP1_222 : Asm := asNP1_220.add .lss (.at 3) (.lit 1) false
noncomputable def asNP1_223 : Asm := asNP1_222.add .gtr (.at 3) (.lit 4) true
noncomputable def trNP1_223 : Tree := .leaf
theorem hNP1_223 : Tree.check (runNP1) trNP1_223 asNP1_223 = true := NP1_7
noncomputable def asNP1_224 : Asm := asNP1_222.add .gtr (.at 3) (.lit 4) false
noncomputable def asNP1_225 : Asm := asNP1_224.add .lss (.at 4) (.lit 1) true
noncomputable def trNP1_225 : Tree := .leaf
theorem hNP1_225 : Tree.check (runNP1) trNP1_225 asNP1_225 = true := NP1_8
noncomputable def asNP1_226 : Asm := asNP1_224.add .lss (.at 4) (.lit 1) false
noncomputable def asNP1_227 : Asm := asNP1_226.add .gtr (.at 4) (.lit 16) true
noncomputable def trNP1_227 : Tree := .leaf
theorem hNP1_227 : Tree.check (runNP1) trNP1_227 asNP1_227 = true := NP1_9
noncomputable def asNP1_228 : Asm := asNP1_226.add .gtr (.at 4) (.lit 16) false
noncomputable def asNP1_229 : Asm := asNP1_228.add .lss (.at 5) (.lit 1) true
noncomputable def trNP1_229 : Tree := .leaf
theorem hNP1_229 : Tree.check (runNP1) trNP1_229 asNP1_229 = true := NP1_10
noncomputable def asNP1_230 : Asm := asNP1_228.add .lss (.at 5) (.lit 1) false
noncomputable def asNP1_231 : Asm := asNP1_230.add .gtr (.at 5) (.lit 8) true
noncomputable def trNP1_231 : Tree := .leaf
theorem hNP1_231 : Tree.check (runNP1) trNP1_231 asNP1_231 = true := NP1_11
noncomputable def asNP1_232 : Asm := asNP1_230.add .gtr (.at 5) (.lit 8) false
noncomputable def asNP1_233 : Asm := asNP1_232.add .lss (.at 6) (.lit 1) true
noncomputable def trNP1_233 : Tree := .leaf
theorem hNP1_233 : Tree.check (runNP1) trNP1_233 asNP1_233 = true := NP1_12
noncomputable def asNP1_234 : Asm := asNP1_232.add .lss (.at 6) (.lit 1) false
noncomputable def asNP1_235 : Asm := asNP1_234.add .gtr (.at 6) (.lit 4) true
noncomputable def trNP1_235 : Tree := .leaf
theorem hNP1_235 : Tree.check (runNP1) trNP1_235 asNP1_235 = true := NP1_13
noncomputable def asNP1_236 : Asm := asNP1_234.add .gtr (.at 6) (.lit 4) false
noncomputable def asNP1_237 : Asm := asNP1_236.add .eql (.at 7) (.lit 1) true
noncomputable def trNP1_237 : Tree := (.node .geq (.at 8) (.lit 0) (.node .leq (.at 8) (.bin .sub .i64 (.at 0) (.lit 1)) (.node .geq (.at 9) (.lit 0) (.node .leq (.at 9) (.bin .sub .i64 (.bin .mul .i64 (.at 1) (.lit 2)) (.lit 1)) (.node .geq (.at 10) (.lit 0) (.node .leq (.at 10) (.lit 3) (.node .eql (.at 11) (.lit 0) (.node .eql (.at 12) (.lit 0) (.node .eql (.at 13) (.lit 0) .leaf .leaf) .leaf) .leaf) .leaf) .leaf) .leaf) .leaf) .leaf) .leaf)
theorem hNP1_237 : Tree.check (runNP1) trNP1_237 asNP1_237 = true := NP1_14
noncomputable def asNP1_238 : Asm := asNP1_236.add .eql (.at 7) (.lit 1) false
noncomputable def asNP1_239 : Asm := asNP1_238.add .eql (.at 7) (.lit 2) true
noncomputable def trNP1_239 : Tree := (.node .geq (.at 8) (.lit 0) (.node .leq (.at 8) (.bin .sub .i64 (.at 0) (.lit 1)) (.node .geq (.at 9) (.lit 0) (.node .leq (.at 9) (.bin .sub .i64 (.bin .mul .i64 (.at 1) (.lit 2)) (.lit 1)) (.node .geq (.at 10) (.lit 0) (.node .leq (.at 10) (.lit 3) (.node .eql (.at 11) (.lit 0) (.node .eql (.at 12) (.lit 0) (.node .eql (.at 13) (.lit 0) .leaf .leaf) .leaf) .leaf) .leaf) .leaf) .leaf) .leaf) .leaf) .leaf)
theorem hNP1_239 : Tree.check (runNP1) trNP1_239 asNP1_239 = true := NP1_15
noncomputable def asNP1_240 : Asm := asNP1_238.add .eql (.at 7) (.lit 2) false
noncomputable def asNP1_241 : Asm := asNP1_240.add .eql (.at 7) (.lit 3) true
noncomputable def trNP1_241 : Tree := (.node .geq (.at 8) (.lit 0) (.node .leq (.at 8) (.bin .sub .i64 (.at 0) (.lit 1)) (.node .geq (.at 9) (.lit 0) (.node .leq (.at 9) (.bin .sub .i64 (.bin .mul .i64 (.at 1) (.lit 2)) (.lit 1)) (.node .geq (.at 10) (.lit 0) (.node .leq (.at 10) (.lit 4) (.node .eql (.at 11) (.lit 0) (.node .eql (.at 14) (.lit 0) .leaf .leaf) .leaf) .leaf) .leaf) .leaf) .leaf) .leaf) .leaf)
theorem hNP1_241 : Tree.check (runNP1) trNP1_241 asNP1_241 = true := NP1_16
noncomputable def asNP1_242 : Asm := asNP1_240.add .eql (.at 7) (.lit 3) false
noncomputable def asNP1_243 : Asm := asNP1_242.add .eql (.at 7) (.lit 4) true
noncomputable def trNP1_243 : Tree := (.node .geq (.at 8) (.lit 0) (.node .leq (.at 8) (.bin .sub .i64 (.at 0) (.lit 1)) (.node .geq (.at 9) (.lit 0) (.node .leq (.at 9) (.bin .sub .i64 (.bin .mul .i64 (.at 1) (.lit 2)) (.lit 1)) (.node .eql (.at 10) (.lit 0) (.node .eql (.at 11) (.lit 0) (.node .eql (.at 12) (.lit 0) (.node .eql (.at 13) (.lit 0) .leaf .leaf) .leaf) .leaf) .leaf) .leaf) .leaf) .leaf) .leaf)
theorem hNP1_243 : Tree.check (runNP1) trNP1_243 asNP1_243 = true := NP1_17
noncomputable def asNP1_244 : Asm := asNP1_242.add .eql (.at 7) (.lit 4) false
noncomputable def asNP1_245 : Asm := asNP1_244.add .eql (.at 7) (.lit 5) true
noncomputable def trNP1_245 : Tree := (.node .geq (.at 8) (.lit 0) (.node .leq (.at 8) (.bin .sub .i64 (.at 0) (.lit 1)) (.node .geq (.at 9) (.lit 0) (.node .leq (.at 9) (.bin .sub .i64 (.bin .mul .i64 (.at 1) (.lit 2)) (.lit 1)) (.node .geq (.at 11) (.lit 0) (.node .leq (.at 11) (.lit 4) (.node .geq (.at 14) (.lit 0) (.node .leq (.at 14) (.lit 1) (.node .eql (.at 10) (.lit 0) .leaf .leaf) .leaf) .leaf) .leaf) .leaf) .leaf) .leaf) .leaf) .leaf)
theorem hNP1_245 : Tree.check (runNP1) trNP1_245 asNP1_245 = true := NP1_18
noncomputable def asNP1_246 : Asm := asNP1_244.add .eql (.at 7) (.lit 5) false
noncomputable def asNP1_247 : Asm := asNP1_246.add .eql (.at 7) (.lit 6) true
noncomputable def trNP1_247 : Tree := (.node .geq (.at 8) (.lit 0) (.node .leq (.at 8) (.bin .sub .i64 (.at 0) (.lit 1)) (.node .geq (.at 14) (.lit 0) (.node .leq (.at 14) (.lit 19) (.node .eql (.at 9) (.lit 0) (.node .eql (.at 10) (.lit 0) (.node .eql (.at 11) (.lit 0) (.node .eql (.at 12) (.lit 0) (.node .eql (.at 13) (.lit 0) .leaf .leaf) .leaf) .leaf) .leaf) .leaf) .leaf) .leaf) .leaf) .leaf)
theorem hNP1_247 : Tree.check (runNP1) trNP1_247 asNP1_247 = true := NP1_19
noncomputable def asNP1_248 : Asm := asNP1_246.add .eql (.at 7) (.lit 6) false
noncomputable def asNP1_249 : Asm := asNP1_248.add .eql (.at 7) (.lit 7) true
noncomputable def trNP1_249 : Tree := (.node .geq (.at 8) (.lit 0) (.node .leq (.at 8) (.bin .sub .i64 (.at 0) (.lit 1)) (.node .geq (.at 14) (.lit 0) (.node .leq (.at 14) (.bin .sub .i64 (.at 1) (.lit 1)) (.node .eql (.at 9) (.lit 0) (.node .eql (.at 10) (.lit 0) (.node .eql (.at 11) (.lit 0) (.node .eql (.at 12) (.lit 0) (.node .eql (.at 13) (.lit 0) .leaf .leaf) .leaf) .leaf) .leaf) .leaf) .leaf) .leaf) .leaf) .leaf)
theorem hNP1_249 : Tree.check (runNP1) trNP1_249 asNP1_249 = true := NP1_20
noncomputable def asNP1_250 : Asm := asNP1_248.add .eql (.at 7) (.lit 7) false
noncomputable def asNP1_251 : Asm := asNP1_250.add .eql (.at 7) (.lit 8) true
noncomputable def trNP1_251 : Tree := (.node .geq (.at 8) (.lit 0) (.node .leq (.at 8) (.bin .sub .i64 (.at 0) (.lit 1)) (.node .geq (.at 9) (.lit 0) (.node .leq (.at 9) (.bin .sub .i64 (.bin .mul .i64 (.at 1) (.lit 2)) (.lit 1)) (.node .geq (.at 10) (.lit 0) (.node .leq (.at 10) (.lit 4) (.node .eql (.at 11) (.lit 1) .leaf (.node .eql (.at 11) (.lit 2) .leaf (.node .eql (.at 11) (.lit 4) .leaf .leaf))) .leaf) .leaf) .leaf) .leaf) .leaf) .leaf)
theorem hNP1_251 : Tree.check (runNP1) trNP1_251 asNP1_251 = true := NP1_21
noncomputable def asNP1_252 : Asm := asNP1_250.add .eql (.at 7) (.lit 8) false
noncomputable def asNP1_253 : Asm := asNP1_252.add .eql (.at 7) (.lit 9) true
noncomputable def asNP1_254 : Asm := asNP1_253.add .geq (.at 8) (.lit 0) true
noncomputable def trNP1_254 : Tree := (.node .leq (.at 8) (.bin .sub .i64 (.at 0) (.lit 1)) (.node .geq (.at 9) (.lit 0) (.node .leq (.at 9) (.bin .sub .i64 (.bin .mul .i64 (.at 1) (.lit 2)) (.lit 1)) (.node .geq (.at 14) (.lit 0) (.node .leq (.at 14) (.lit 1) (.node .eql (.at 10) (.lit 0) (.node .eql (.at 11) (.lit 0) (.node .eql (.at 12) (.lit 0) (.node .eql (.at 13) (.lit 0) .leaf .leaf) .leaf) .leaf) .leaf) .leaf) .leaf) .leaf) .leaf) .leaf)
theorem hNP1_254 : Tree.check (runNP1) trNP1_254 asNP1_254 = true := NP1_22
noncomputable def asNP1_255 : Asm := asNP1_253.add .geq (.at 8) (.lit 0) false
noncomputable def trNP1_255 : Tree := .leaf
theorem hNP1_255 : Tree.check (runNP1) trNP1_255 asNP1_255 = true := NP1_23
noncomputable def trNP1_253 : Tree := .node .geq (.at 8) (.lit 0) trNP1_254 trNP1_255
theorem hNP1_253 : Tree.check (runNP1) trNP1_253 asNP1_253 = true := by
  show (Tree.check (runNP1) trNP1_254 asNP1_254 && Tree.check (runNP1) trNP1_255 asNP1_255) = true
  rw [hNP1_254, hNP1_255]; rfl
noncomputable def asNP1_256 : Asm := asNP1_252.add .eql (.at 7) (.lit 9) false
noncomputable def asNP1_257 : Asm := asNP1_256.add .eql (.at 7) (.lit 10) true
noncomputable def trNP1_257 : Tree := (.node .geq (.at 8) (.lit 0) (.node .leq (.at 8) (.bin .sub .i64 (.at 0) (.lit 1)) (.node .geq (.at 9) (.lit 0) (.node .leq (.at 9) (.bin .sub .i64 (.bin .mul .i64 (.at 1) (.lit 2)) (.lit 1)) (.node .eql (.at 10) (.lit 0) (.node .eql (.at 11) (.lit 0) (.node .eql (.at 12) (.lit 0) (.node .eql (.at 13) (.lit 0) .leaf .leaf) .leaf) .leaf) .leaf) .leaf) .leaf) .leaf) .leaf)
theorem hNP1_257 : Tree.check (runNP1) trNP1_257 asNP1_257 = true := NP1_25
noncomputable def asNP1_258 : Asm := asNP1_256.add .eql (.at 7) (.lit 10) false
noncomputable def asNP1_259 : Asm := asNP1_258.add .eql (.at 7) (.lit 11) true
noncomputable def trNP1_259 : Tree := (.node .geq (.at 8) (.lit 0) (.node .leq (.at 8) (.bin .sub .i64 (.at 0) (.lit 1)) (.node .geq (.at 9) (.lit 0) (.node .leq (.at 9) (.bin .sub .i64 (.bin .mul .i64 (.at 1) (.lit 2)) (.lit 1)) (.node .geq (.at 11) (.lit 0) (.node .leq (.at 11) (.lit 1) (.node .eql (.at 10) (.lit 0) (.node .eql (.at 12) (.lit 0) (.node .eql (.at 13) (.lit 0) .leaf .leaf) .leaf) .leaf) .leaf) .leaf) .leaf) .leaf) .leaf) .leaf)
theorem hNP1_259 : Tree.check (runNP1) trNP1_259 asNP1_259 = true := NP1_26
noncomputable def asNP1_260 : Asm := asNP1_258.add .eql (.at 7) (.lit 11) false
noncomputable def asNP1_261 : Asm := asNP1_260.add .eql (.at 7) (.lit 12) true
noncomputable def trNP1_261 : Tree := (.node .geq (.at 8) (.lit 0) (.node .leq (.at 8) (.bin .sub .i64 (.at 0) (.lit 1)) (.node .geq (.at 14) (.lit 0) (.node .leq (.at 14) (.lit 19) (.node .eql (.at 9) (.lit 0) (.node .eql (.at 10) (.lit 0) (.node .eql (.at 11) (.lit 0) .leaf .leaf) .leaf) .leaf) .leaf) .leaf) .leaf) .leaf)
theorem hNP1_261 : Tree.check (runNP1) trNP1_261 asNP1_261 = true := NP1_27
noncomputable def asNP1_262 : Asm := asNP1_260.add .eql (.at 7) (.lit 12) false
noncomputable def trNP1_262 : Tree := (.node .geq (.at 8) (.lit 0) (.node .leq (.at 8) (.bin .sub .i64 (.at 0) (.lit 1)) (.node .geq (.at 14) (.lit 0) (.node .leq (.at 14) (.bin .sub .i64 (.at 1) (.lit 1)) (.node .eql (.at 9) (.lit 0) (.node .eql (.at 10) (.lit 0) (.node .eql (.at 11) (.lit 0) (.node .eql (.at 12) (.lit 0) (.node .eql (.at 13) (.lit 0) .leaf .leaf) .leaf) .leaf) .leaf) .leaf) .leaf) .leaf) .leaf) .leaf)
theorem hNP1_262 : Tree.check (runNP1) trNP1_262 asNP1_262 = true := NP1_28
noncomputable def trNP1_260 : Tree := .node .eql (.at 7) (.lit 12) trNP1_261 trNP1_262
theorem hNP1_260 : Tree.check (runNP1) trNP1_260 asNP1_260 = true := by
  show (Tree.check (runNP1) trNP1_261 asNP1_261 && Tree.check (runNP1) trNP1_262 asNP1_262) = true
  rw [hNP1_261, hNP1_262]; rfl
noncomputable def trNP1_258 : Tree := .node .eql (.at 7) (.lit 11) trNP1_259 trNP1_260
theorem hNP1_258 : Tree.check (runNP1) trNP1_258 asNP1_258 = true := by
  show (Tree.check (runNP1) trNP1_259 asNP1_259 && Tree.check (runNP1) trNP1_260 asNP1_260) = true
  rw [hNP1_259, hNP1_260]; rfl
noncomputable def trNP1_256 : Tree := .node .eql (.at 7) (.lit 10) trNP1_257 trNP1_258
theorem hNP1_256 : Tree.check (runNP1) trNP1_256 asNP1_256 = true := by
  show (Tree.check (runNP1) trNP1_257 asNP1_257 && Tree.check (runNP1) trNP1_258 asNP1_258) = true
  rw [hNP1_257, hNP1_258]; rfl
noncomputable def trNP1_252 : Tree := .node .eql (.at 7) (.lit 9) trNP1_253 trNP1_256
theorem hNP1_252 : Tree.check (runNP1) trNP1_252 asNP1_252 = true := by
  show (Tree.check (runNP1) trNP1_253 asNP1_253 && Tree.check (runNP1) trNP1_256 asNP1_256) = true
  rw [hNP1_253, hNP1_256]; rfl
noncomputable def trNP1_250 : Tree := .node .eql (.at 7) (.lit 8) trNP1_251 trNP1_252
theorem hNP1_250 : Tree.check (runNP1) trNP1_250 asNP1_250 = true := by
  show (Tree.check (runNP1) trNP1_251 asNP1_251 && Tree.check (runNP1) trNP1_252 asNP1_252) = true
  rw [hNP1_251, hNP1_252]; rfl
noncomputable def trNP1_248 : Tree := .node .eql (.at 7) (.lit 7) trNP1_249 trNP1_250
theorem hNP1_248 : Tree.check (runNP1) trNP1_248 asNP1_248 = true := by
  show (Tree.check (runNP1) trNP1_249 asNP1_249 && Tree.check (runNP1) trNP1_250 asNP1_250) = true
  rw [hNP1_249, hNP1_250]; rfl
noncomputable def trNP1_246 : Tree := .node .eql (.at 7) (.lit 6) trNP1_247 trNP1_248
theorem hNP1_246 : Tree.check (runNP1) trNP1_246 asNP1_246 = true := by
  show (Tree.check (runNP1) trNP1_247 asNP1_247 && Tree.check (runNP1) trNP1_248 asNP1_248) = true
  rw [hNP1_247, hNP1_248]; rfl
noncomputable def trNP1_244 : Tree := .node .eql (.at 7) (.lit 5) trNP1_245 trNP1_246
theorem hNP1_244 : Tree.check (runNP1) trNP1_244 asNP1_244 = true := by
  show (Tree.check (runNP1) trNP1_245 asNP1_245 && Tree.check (runNP1) trNP1_246 asNP1_246) = true
  rw [hNP1_245, hNP1_246]; rfl
noncomputable def trNP1_242 : Tree := .node .eql (.at 7) (.lit 4) trNP1_243 trNP1_244
theorem hNP1_242 : Tree.check (runNP1) trNP1_242 asNP1_242 = true := by
  show (Tree.check (runNP1) trNP1_243 asNP1_243 && Tree.check (runNP1) trNP1_244 asNP1_244) = true
  rw [hNP1_243, hNP1_244]; rfl
noncomputable def trNP1_240 : Tree := .node .eql (.at 7) (.lit 3) trNP1_241 trNP1_242
theorem hNP1_240 : Tree.check (runNP1) trNP1_240 asNP1_240 = true := by
  show (Tree.check (runNP1) trNP1_241 asNP1_241 && Tree.check (runNP1) trNP1_242 asNP1_242) = true
  rw [hNP1_241, hNP1_242]; rfl
noncomputable def trNP1_238 : Tree := .node .eql (.at 7) (.lit 2) trNP1_239 trNP1_240
theorem hNP1_238 : Tree.check (runNP1) trNP1_238 asNP1_238 = true := by
  show (Tree.check (runNP1) trNP1_239 asNP1_239 && Tree.check (runNP1) trNP1_240 asNP1_240) = true
  rw [hNP1_239, hNP1_240]; rfl
noncomputable def trNP1_236 : Tree := .node .eql (.at 7) (.lit 1) trNP1_237 trNP1_238
theorem hNP1_236 : Tree.check (runNP1) trNP1_236 asNP1_236 = true := by
  show (Tree.check (runNP1) trNP1_237 asNP1_237 && Tree.check (runNP1) trNP1_238 asNP1_238) = true
  rw [hNP1_237, hNP1_238]; rfl
noncomputable def trNP1_234 : Tree := .node .gtr (.at 6) (.lit 4) trNP1_235 trNP1_236
theorem hNP1_234 : Tree.check (runNP1) trNP1_234 asNP1_234 = true := by
  show (Tree.check (runNP1) trNP1_235 asNP1_235 && Tree.check (runNP1) trNP1_236 asNP1_236) = true
  rw [hNP1_235, hNP1_236]; rfl
noncomputable def trNP1_232 : Tree := .node .lss (.at 6) (.lit 1) trNP1_233 trNP1_234
theorem hNP1_232 : Tree.check (runNP1) trNP1_232 asNP1_232 = true := by
  show (Tree.check (runNP1) trNP1_233 asNP1_233 && Tree.check (runNP1) trNP1_234 asNP1_234) = true
  rw [hNP1_233, hNP1_234]; rfl
noncomputable def trNP1_230 : Tree := .node .gtr (.at 5) (.lit 8) trNP1_231 trNP1_232
theorem hNP1_230 : Tree.check (runNP1) trNP1_230 asNP1_230 = true := by
  show (Tree.check (runNP1) trNP1_231 asNP1_231 && Tree.check (runNP1) trNP1_232 asNP1_232) = true
  rw [hNP1_231, hNP1_232]; rfl
noncomputable def trNP1_228 : Tree := .node .lss (.at 5) (.lit 1) trNP1_229 trNP1_230
theorem hNP1_228 : Tree.check (runNP1) trNP1_228 asNP1_228 = true := by
  show (Tree.check (runNP1) trNP1_229 asNP1_229 && Tree.check (runNP1) trNP1_230 asNP1_230) = true
  rw [hNP1_229, hNP1_230]; rfl
noncomputable def trNP1_226 : Tree := .node .gtr (.at 4) (.lit 16) trNP1_227 trNP1_228
theorem hNP1_226 : Tree.check (runNP1) trNP1_226 asNP1_226 = true := by
  show (Tree.check (runNP1) trNP1_227 asNP1_227 && Tree.check (runNP1) trNP1_228 asNP1_228) = true
  rw [hNP1_227, hNP1_228]; rfl
noncomputable def trNP1_224 : Tree := .node .lss (.at 4) (.lit 1) trNP1_225 trNP1_226
theorem hNP1_224 : Tree.check (runNP1) trNP1_224 asNP1_224 = true := by
  show (Tree.check (runNP1) trNP1_225 asNP1_225 && Tree.check (runNP1) trNP1_226 asNP1_226) = true
  rw [hNP1_225, hNP1_226]; rfl
noncomputable def trNP1_222 : Tree := .node .gtr (.at 3) (.lit 4) trNP1_223 trNP1_224
theorem hNP1_222 : Tree.check (runNP1) trNP1_222 asNP1_222 = true := by
  show (Tree.check (runNP1) trNP1_223 asNP1_223 && Tree.check (runNP1) trNP1_224 asNP1_224) = true
  rw [hNP1_223, hNP1_224]; rfl
noncomputable def trNP1_220 : Tree := .node .lss (.at 3) (.lit 1) trNP1_221 trNP1_222
theorem hNP1_220 : Tree.check (runNP1) trNP1_220 asNP1_220 = true := by
  show (Tree.check (runNP1) trNP1_221 asNP1_221 && Tree.check (runNP1) trNP1_222 asNP1_222) = true
  rw [hNP1_221, hNP1_222]; rfl
noncomputable def trNP1_218 : Tree := .node .gtr (.at 2) (.lit 8) trNP1_219 trNP1_220
theorem hNP1_218 : Tree.check (runNP1) trNP1_218 asNP1_218 = true := by
  show (Tree.check (runNP1) trNP1_219 asNP1_219 && Tree.check (runNP1) trNP1_220 asNP1_220) = true
  rw [hNP1_219, hNP1_220]; rfl
noncomputable def trNP1_216 : Tree := .node .lss (.at 2) (.lit 1) trNP1_217 trNP1_218
theorem hNP1_216 : Tree.check (runNP1) trNP1_216 asNP1_216 = true := by
  show (Tree.check (runNP1) trNP1_217 asNP1_217 && Tree.check (runNP1) trNP1_218 asNP1_218) = true
  rw [hNP1_217, hNP1_218]; rfl
noncomputable def trNP1_214 : Tree := .node .gtr (.at 1) (.lit 16) trNP1_215 trNP1_216
theorem hNP1_214 : Tree.check (runNP1) trNP1_214 asNP1_214 = true := by
  show (Tree.check (runNP1) trNP1_215 asNP1_215 && Tree.check (runNP1) trNP1_216 asNP1_216) = true
  rw [hNP1_215, hNP1_216]; rfl
noncomputable def trNP1_212 : Tree := .node .lss (.at 1) (.lit 1) trNP1_213 trNP1_214
theorem hNP1_212 : Tree.check (runNP1) trNP1_212 asNP1_212 = true := by
  show (Tree.check (runNP1) trNP1_213 asNP1_213 && Tree.check (runNP1) trNP1_214 asNP1_214) = true
  rw [hNP1_213, hNP1_214]; rfl
noncomputable def trNP1_210 : Tree := .node .gtr (.at 0) (.lit 4) trNP1_211 trNP1_212
theorem hNP1_210 : Tree.check (runNP1) trNP1_210 asNP1_210 = true := by
  show (Tree.check (runNP1) trNP1_211 asNP1_211 && Tree.check (runNP1) trNP1_212 asNP1_212) = true
  rw [hNP1_211, hNP1_212]; rfl
noncomputable def trNP1_208 : Tree := .node .lss (.at 0) (.lit 1) trNP1_209 trNP1_210
theorem hNP1_208 : Tree.check (runNP1) trNP1_208 asNP1_208 = true := by
  show (Tree.check (runNP1) trNP1_209 asNP1_209 && Tree.check (runNP1) trNP1_210 asNP1_210) = true
  rw [hNP1_209, hNP1_210]; rfl
noncomputable def asNP1_263 : Asm := asNP1_207.add .leq (.at 7) (.lit 13) false
noncomputable def trNP1_263 : Tree := .leaf
theorem hNP1_263 : Tree.check (runNP1) trNP1_263 asNP1_263 = true := NP1_55
noncomputable def trNP1_207 : Tree := .node .leq (.at 7) (.lit 13) trNP1_208 trNP1_263
theorem hNP1_207 : Tree.check (runNP1) trNP1_207 asNP1_207 = true := by
  show (Tree.check (runNP1) trNP1_208 asNP1_208 && Tree.check (runNP1) trNP1_263 asNP1_263) = true
  rw [hNP1_208, hNP1_263]; rfl
noncomputable def asNP1_264 : Asm := asNP1_206.add .geq (.at 7) (.lit 1) false
noncomputable def trNP1_264 : Tree := .leaf
theorem hNP1_264 : Tree.check (runNP1) trNP1_264 asNP1_264 = true := NP1_57
noncomputable def trNP1_206 : Tree := .node .geq (.at 7) (.lit 1) trNP1_207 trNP1_264
theorem hNP1_206 : Tree.check (runNP1) trNP1_206 asNP1_206 = true := by
  show (Tree.check (runNP1) trNP1_207 asNP1_207 && Tree.check (runNP1) trNP1_264 asNP1_264) = true
  rw [hNP1_207, hNP1_264]; rfl
theorem NPtop0 : Tree.check runNP0 trNP0_135 (rangeAsm 15) = true := hNP0_135
theorem NPtop1 : Tree.check runNP1 trNP1_206 (rangeAsm 15) = true := hNP1_206
end Go.Proofs.YtpabnkbpklggnaaDoor

/-
  The document's answer, for stage 2: decide: the statements that raise a level.
  The document's answer, for stage 2: decide: the statements that ask how long to wait.
-/
import Derived.Test.YthmhfilkgggagaaGreatDoorRefT
import Derived.Test.YthmhfilkgggagaaGreatDoorRfC
import Derived.Deep.RegionHeld3
namespace Go.Proofs.YthmhfilkgggagaaGreatDoor
open Go.RowKit Go.Maps Go.Sort

noncomputable def decReg (k : Nat) : Code := (codeOf k (Tryz.f96.body.getD .skip)).getD .skip

set_option maxRecDepth 100000 in
set_option maxHeartbeats 8000000 in
theorem dec_reg24 (u1 u2 u3 u4 u6 u7 u8 u10 u11 u12 u13 u14 u15 u16 u17 u18 u19 u20 u21 u22 u23 u24 u25 u26 u27 u28 u29 u30 u31 u32 u33 u34 u35 u36 u37 u38 u39 u40 u41 u42 u43 u44 u45 u46 u47 u48 u49 u50 u51 u52 u53 u54 u55 u56 u57 u58 u59 u60 u61 u62 u63 u64 u65 u66 u67 u68 u69 u70 u71 u72 u73 u74 u75 u76 u77 u78 u79 u80 u81 u82 u83 u84 u85 u86 u87 u88 u89 u90 u91 u92 u93 u94 u95 u96 u97 u98 u99 u100 u101 u102 u103 u104 u105 u106 u107 u108 u109 u110 u111 u112 u113 u114 u115 u116 u117 u118 u119 u120 u121 u122 u123 u124 u125 u126 u127 u128 u129 u130 u131 u132 u133 u134 u135 u136 u137 u138 u139 u140 u141 u142 u143 u144 u145 u146 u147 u148 u149 u150 u151 u152 u153 u154 u155 u156 u157 u158 u159 u160 u161 u162 u163 u164 : Value) (rb qb g len cap i lv Q : Nat) (W : World) (hi : i < len) (hlv : lv ≤ 4000000000000000) (hQ : Q ≤ 1000000) (x1 : W.cell? ⟨rb, 1, none⟩ = some (.slice (some ⟨g, 0, none⟩) len cap)) (x3 : W.cell? ⟨g, i * 4 + 3, none⟩ = some (.int .i64 lv)) (xf : W.frozen? ⟨g, i * 4 + 3, none⟩ = false) (q3 : W.cell? ⟨qb, 3, none⟩ = some (.int .i64 Q)) (R : Exit → Act → World → Prop)
    (hR : ∀ (v126 v127 v128 v129 v130 v131 v132 v133 v134 v135 v136 v137 v138 v139 v140 v141 v142 v143 v144 : Value), R .normal ⟨#[.pointer (some ⟨rb, 0, none⟩), u1, u2, u3, u4, .pointer (some ⟨qb, 0, none⟩), u6, u7, u8, .int .i64 i, u10, u11, u12, u13, u14, u15, u16, u17, u18, u19, u20, u21, u22, u23, u24, u25, u26, u27, u28, u29, u30, u31, u32, u33, u34, u35, u36, u37, u38, u39, u40, u41, u42, u43, u44, u45, u46, u47, u48, u49, u50, u51, u52, u53, u54, u55, u56, u57, u58, u59, u60, u61, u62, u63, u64, u65, u66, u67, u68, u69, u70, u71, u72, u73, u74, u75, u76, u77, u78, u79, u80, u81, u82, u83, u84, u85, u86, u87, u88, u89, u90, u91, u92, u93, u94, u95, u96, u97, u98, u99, u100, u101, u102, u103, u104, u105, u106, u107, u108, u109, u110, u111, u112, u113, u114, u115, u116, u117, u118, u119, u120, u121, u122, u123, u124, u125, v126, v127, v128, v129, v130, v131, v132, v133, v134, v135, v136, v137, v138, v139, v140, v141, v142, v143, v144, u145, u146, u147, u148, u149, u150, u151, u152, u153, u154, u155, u156, u157, u158, u159, u160, u161, u162, u163, u164], []⟩ (W.setCell ⟨g, i * 4 + 3, none⟩ (.int .i64 (lv + Q * 1000000000 : Nat))).drew) :
    Code.wp Tryz.prog (decReg 24) R ⟨#[.pointer (some ⟨rb, 0, none⟩), u1, u2, u3, u4, .pointer (some ⟨qb, 0, none⟩), u6, u7, u8, .int .i64 i, u10, u11, u12, u13, u14, u15, u16, u17, u18, u19, u20, u21, u22, u23, u24, u25, u26, u27, u28, u29, u30, u31, u32, u33, u34, u35, u36, u37, u38, u39, u40, u41, u42, u43, u44, u45, u46, u47, u48, u49, u50, u51, u52, u53, u54, u55, u56, u57, u58, u59, u60, u61, u62, u63, u64, u65, u66, u67, u68, u69, u70, u71, u72, u73, u74, u75, u76, u77, u78, u79, u80, u81, u82, u83, u84, u85, u86, u87, u88, u89, u90, u91, u92, u93, u94, u95, u96, u97, u98, u99, u100, u101, u102, u103, u104, u105, u106, u107, u108, u109, u110, u111, u112, u113, u114, u115, u116, u117, u118, u119, u120, u121, u122, u123, u124, u125, u126, u127, u128, u129, u130, u131, u132, u133, u134, u135, u136, u137, u138, u139, u140, u141, u142, u143, u144, u145, u146, u147, u148, u149, u150, u151, u152, u153, u154, u155, u156, u157, u158, u159, u160, u161, u162, u163, u164], []⟩ W := by
  conv => arg 2; whnf
  have hi1 : (i : Int) < (len : Int) := by omega
  have hi0 : (0 : Int) ≤ (i : Int) := by omega
  obtain ⟨Z, hZ⟩ : ∃ Z, Z = lv + Q * 1000000000 := ⟨_, rfl⟩
  rw [← hZ] at hR
  have w1 : IntKind.i64.wrap ((Q : Int) * 1000000000) = (Q : Int) * 1000000000 := IntWalk.i64_in _ ⟨by omega, by omega⟩
  have w2 : IntKind.i64.wrap ((lv : Int) + (Q : Int) * 1000000000) = (Z : Int) := by rw [IntWalk.i64_in _ ⟨by omega, by omega⟩]; omega
  have HR := hide hR
  clear hR hZ
  refine wp_region_noPanic ?_
  go_region
  all_goals
    refine NoPanic.normal ?_
    exact unhide HR _ _ _ _ _ _ _ _ _ _ _ _ _ _ _ _ _ _ _ 

set_option maxRecDepth 100000 in
set_option maxHeartbeats 8000000 in
theorem dec_reg25 (u1 u2 u3 u4 u6 u7 u8 u9 u11 u12 u13 u14 u15 u16 u17 u18 u19 u20 u21 u22 u23 u24 u25 u26 u27 u28 u29 u30 u31 u32 u33 u34 u35 u36 u37 u38 u39 u40 u41 u42 u43 u44 u45 u46 u47 u48 u49 u50 u51 u52 u53 u54 u55 u56 u57 u58 u59 u60 u61 u62 u63 u64 u65 u66 u67 u68 u69 u70 u71 u72 u73 u74 u75 u76 u77 u78 u79 u80 u81 u82 u83 u84 u85 u86 u87 u88 u89 u90 u91 u92 u93 u94 u95 u96 u97 u98 u99 u100 u101 u102 u103 u104 u105 u106 u107 u108 u109 u110 u111 u112 u113 u114 u115 u116 u117 u118 u119 u120 u121 u122 u123 u124 u125 u126 u127 u128 u129 u130 u131 u132 u133 u134 u135 u136 u137 u138 u139 u140 u141 u142 u143 u144 u145 u146 u147 u148 u149 u150 u151 u152 u153 u154 u155 u156 u157 u158 u159 u160 u161 u162 u163 u164 : Value) (rb qb g len cap i lv Q : Nat) (W : World) (hi : i < len) (hlv : lv ≤ 4000000000000000) (hQ : Q ≤ 1000000) (x1 : W.cell? ⟨rb, 1, none⟩ = some (.slice (some ⟨g, 0, none⟩) len cap)) (x3 : W.cell? ⟨g, i * 4 + 3, none⟩ = some (.int .i64 lv)) (xf : W.frozen? ⟨g, i * 4 + 3, none⟩ = false) (q3 : W.cell? ⟨qb, 3, none⟩ = some (.int .i64 Q)) (R : Exit → Act → World → Prop)
    (hR : ∀ (v145 v146 v147 v148 v149 v150 v151 v152 v153 v154 v155 v156 v157 v158 v159 v160 v161 v162 v163 : Value), R .normal ⟨#[.pointer (some ⟨rb, 0, none⟩), u1, u2, u3, u4, .pointer (some ⟨qb, 0, none⟩), u6, u7, u8, u9, .int .i64 i, u11, u12, u13, u14, u15, u16, u17, u18, u19, u20, u21, u22, u23, u24, u25, u26, u27, u28, u29, u30, u31, u32, u33, u34, u35, u36, u37, u38, u39, u40, u41, u42, u43, u44, u45, u46, u47, u48, u49, u50, u51, u52, u53, u54, u55, u56, u57, u58, u59, u60, u61, u62, u63, u64, u65, u66, u67, u68, u69, u70, u71, u72, u73, u74, u75, u76, u77, u78, u79, u80, u81, u82, u83, u84, u85, u86, u87, u88, u89, u90, u91, u92, u93, u94, u95, u96, u97, u98, u99, u100, u101, u102, u103, u104, u105, u106, u107, u108, u109, u110, u111, u112, u113, u114, u115, u116, u117, u118, u119, u120, u121, u122, u123, u124, u125, u126, u127, u128, u129, u130, u131, u132, u133, u134, u135, u136, u137, u138, u139, u140, u141, u142, u143, u144, v145, v146, v147, v148, v149, v150, v151, v152, v153, v154, v155, v156, v157, v158, v159, v160, v161, v162, v163, u164], []⟩ (W.setCell ⟨g, i * 4 + 3, none⟩ (.int .i64 (lv + Q * 1000000000 : Nat))).drew) :
    Code.wp Tryz.prog (decReg 25) R ⟨#[.pointer (some ⟨rb, 0, none⟩), u1, u2, u3, u4, .pointer (some ⟨qb, 0, none⟩), u6, u7, u8, u9, .int .i64 i, u11, u12, u13, u14, u15, u16, u17, u18, u19, u20, u21, u22, u23, u24, u25, u26, u27, u28, u29, u30, u31, u32, u33, u34, u35, u36, u37, u38, u39, u40, u41, u42, u43, u44, u45, u46, u47, u48, u49, u50, u51, u52, u53, u54, u55, u56, u57, u58, u59, u60, u61, u62, u63, u64, u65, u66, u67, u68, u69, u70, u71, u72, u73, u74, u75, u76, u77, u78, u79, u80, u81, u82, u83, u84, u85, u86, u87, u88, u89, u90, u91, u92, u93, u94, u95, u96, u97, u98, u99, u100, u101, u102, u103, u104, u105, u106, u107, u108, u109, u110, u111, u112, u113, u114, u115, u116, u117, u118, u119, u120, u121, u122, u123, u124, u125, u126, u127, u128, u129, u130, u131, u132, u133, u134, u135, u136, u137, u138, u139, u140, u141, u142, u143, u144, u145, u146, u147, u148, u149, u150, u151, u152, u153, u154, u155, u156, u157, u158, u159, u160, u161, u162, u163, u164], []⟩ W := by
  conv => arg 2; whnf
  have hi1 : (i : Int) < (len : Int) := by omega
  have hi0 : (0 : Int) ≤ (i : Int) := by omega
  obtain ⟨Z, hZ⟩ : ∃ Z, Z = lv + Q * 1000000000 := ⟨_, rfl⟩
  rw [← hZ] at hR
  have w1 : IntKind.i64.wrap ((Q : Int) * 1000000000) = (Q : Int) * 1000000000 := IntWalk.i64_in _ ⟨by omega, by omega⟩
  have w2 : IntKind.i64.wrap ((lv : Int) + (Q : Int) * 1000000000) = (Z : Int) := by rw [IntWalk.i64_in _ ⟨by omega, by omega⟩]; omega
  have HR := hide hR
  clear hR hZ
  refine wp_region_noPanic ?_
  go_region
  all_goals
    refine NoPanic.normal ?_
    exact unhide HR _ _ _ _ _ _ _ _ _ _ _ _ _ _ _ _ _ _ _ 

end Go.Proofs.YthmhfilkgggagaaGreatDoor

namespace Go.Proofs.YthmhfilkgggagaaGreatDoor
open Go.RowKit Go.Maps Go.Sort

set_option maxRecDepth 100000 in
set_option maxHeartbeats 8000000 in
theorem dec_reg15 (u1 u2 u3 u4 u6 u8 u10 u11 u12 u13 u14 u15 u16 u17 u18 u19 u20 u21 u22 u23 u24 u25 u26 u27 u28 u29 u30 u31 u32 u33 u34 u35 u36 u37 u38 u39 u40 u41 u42 u43 u44 u45 u46 u47 u48 u49 u50 u51 u52 u53 u54 u55 u56 u57 u58 u59 u60 u61 u62 u63 u64 u65 u66 u67 u68 u69 u70 u71 u72 u73 u74 u75 u76 u77 u78 u79 u80 u81 u82 u83 u84 u85 u86 u87 u88 u89 u90 u91 u92 u93 u94 u95 u96 u97 u98 u99 u100 u101 u102 u103 u104 u105 u106 u107 u108 u109 u110 u111 u112 u113 u114 u115 u116 u117 u118 u119 u120 u121 u122 u123 u124 u125 u126 u127 u128 u129 u130 u131 u132 u133 u134 u135 u136 u137 u138 u139 u140 u141 u142 u143 u144 u145 u146 u147 u148 u149 u150 u151 u152 u153 u154 u155 u156 u157 u158 u159 u160 u161 u162 u163 u164 : Value) (rb qb xb g len cap i lv rate burst Q : Nat) (W : World) (hi : i < len) (hlv : lv ≤ 4000000000000000) (hr0 : 0 < rate) (hr : rate ≤ 1000000) (hu : burst ≤ 1000000) (hc : Q ≤ burst) (x1 : W.cell? ⟨rb, 1, none⟩ = some (.slice (some ⟨g, 0, none⟩) len cap)) (x3 : W.cell? ⟨g, i * 4 + 3, none⟩ = some (.int .i64 lv)) (q3 : W.cell? ⟨qb, 3, none⟩ = some (.int .i64 Q)) (a0 : W.cell? ⟨xb, 0, none⟩ = some (.int .i64 rate)) (a1 : W.cell? ⟨xb, 1, none⟩ = some (.int .i64 burst)) (hrb : rb < W.heap.size) (hg : g < W.heap.size) (hqb : qb < W.heap.size) (hxb : xb < W.heap.size) (R : Exit → Act → World → Prop)
    (hR : ∀ (v86 v87 v88 v89 v90 v91 v92 v93 v94 v95 v96 v97 : Value) (W' : World), Below W.heap.size W W' → R .normal ⟨#[.pointer (some ⟨rb, 0, none⟩), u1, u2, u3, u4, .pointer (some ⟨qb, 0, none⟩), u6, .pointer (some ⟨xb, 0, none⟩), u8, .int .i64 i, u10, u11, u12, .int .i64 (waitS lv rate burst Q : Nat), u14, u15, u16, u17, u18, u19, u20, u21, u22, u23, u24, u25, u26, u27, u28, u29, u30, u31, u32, u33, u34, u35, u36, u37, u38, u39, u40, u41, u42, u43, u44, u45, u46, u47, u48, u49, u50, u51, u52, u53, u54, u55, u56, u57, u58, u59, u60, u61, u62, u63, u64, u65, u66, u67, u68, u69, u70, u71, u72, u73, u74, u75, u76, u77, u78, u79, u80, u81, u82, u83, u84, u85, v86, v87, v88, v89, v90, v91, v92, v93, v94, v95, v96, v97, u98, u99, u100, u101, u102, u103, u104, u105, u106, u107, u108, u109, u110, u111, u112, u113, u114, u115, u116, u117, u118, u119, u120, u121, u122, u123, u124, u125, u126, u127, u128, u129, u130, u131, u132, u133, u134, u135, u136, u137, u138, u139, u140, u141, u142, u143, u144, u145, u146, u147, u148, u149, u150, u151, u152, u153, u154, u155, u156, u157, u158, u159, u160, u161, u162, u163, u164], []⟩ W') :
    Code.wp Tryz.prog (decReg 15) R ⟨#[.pointer (some ⟨rb, 0, none⟩), u1, u2, u3, u4, .pointer (some ⟨qb, 0, none⟩), u6, .pointer (some ⟨xb, 0, none⟩), u8, .int .i64 i, u10, u11, u12, u13, u14, u15, u16, u17, u18, u19, u20, u21, u22, u23, u24, u25, u26, u27, u28, u29, u30, u31, u32, u33, u34, u35, u36, u37, u38, u39, u40, u41, u42, u43, u44, u45, u46, u47, u48, u49, u50, u51, u52, u53, u54, u55, u56, u57, u58, u59, u60, u61, u62, u63, u64, u65, u66, u67, u68, u69, u70, u71, u72, u73, u74, u75, u76, u77, u78, u79, u80, u81, u82, u83, u84, u85, u86, u87, u88, u89, u90, u91, u92, u93, u94, u95, u96, u97, u98, u99, u100, u101, u102, u103, u104, u105, u106, u107, u108, u109, u110, u111, u112, u113, u114, u115, u116, u117, u118, u119, u120, u121, u122, u123, u124, u125, u126, u127, u128, u129, u130, u131, u132, u133, u134, u135, u136, u137, u138, u139, u140, u141, u142, u143, u144, u145, u146, u147, u148, u149, u150, u151, u152, u153, u154, u155, u156, u157, u158, u159, u160, u161, u162, u163, u164], []⟩ W := by
  conv => arg 2; whnf
  have hi1 : (i : Int) < (len : Int) := by omega
  have hi0 : (0 : Int) ≤ (i : Int) := by omega
  have hw := fun W => wait_any lv rate burst Q W hlv hr0 hr hu hc
  generalize waitS lv rate burst Q = Z at *
  have HW := hide hw; have HR := hide hR
  clear hR hw
  go_region_held3 (fun w' => w'.cell? ⟨rb, 1, none⟩ = some (.slice (some ⟨g, 0, none⟩) len cap) ∧ w'.cell? ⟨g, i * 4 + 3, none⟩ = some (.int .i64 lv) ∧ w'.cell? ⟨qb, 3, none⟩ = some (.int .i64 Q) ∧ w'.cell? ⟨xb, 0, none⟩ = some (.int .i64 rate) ∧ w'.cell? ⟨xb, 1, none⟩ = some (.int .i64 burst)) (go_keep)
    (first | (go_at_call_of 144 (Value.int IntKind.i64 (lv : Int)); refine (unhide HW _).mono ?_; rintro e w2 ⟨rfl, hb2⟩; have y1 := (hb2.cell (p := ⟨rb, 1, none⟩) hrb).trans x1; have y3 := (hb2.cell (p := ⟨g, i * 4 + 3, none⟩) hg).trans x3; have yq := (hb2.cell (p := ⟨qb, 3, none⟩) hqb).trans q3; have ya := (hb2.cell (p := ⟨xb, 0, none⟩) hxb).trans a0; have yb := (hb2.cell (p := ⟨xb, 1, none⟩) hxb).trans a1))
  all_goals
    exact unhide HR _ _ _ _ _ _ _ _ _ _ _ _ _ ((Below.refl W.heap.size W).drew.trans hb2)

set_option maxRecDepth 100000 in
set_option maxHeartbeats 8000000 in
theorem dec_reg16 (u1 u2 u3 u4 u6 u7 u9 u11 u12 u13 u14 u15 u16 u17 u18 u19 u20 u21 u22 u23 u24 u25 u26 u27 u28 u29 u30 u31 u32 u33 u34 u35 u36 u37 u38 u39 u40 u41 u42 u43 u44 u45 u46 u47 u48 u49 u50 u51 u52 u53 u54 u55 u56 u57 u58 u59 u60 u61 u62 u63 u64 u65 u66 u67 u68 u69 u70 u71 u72 u73 u74 u75 u76 u77 u78 u79 u80 u81 u82 u83 u84 u85 u86 u87 u88 u89 u90 u91 u92 u93 u94 u95 u96 u97 u98 u99 u100 u101 u102 u103 u104 u105 u106 u107 u108 u109 u110 u111 u112 u113 u114 u115 u116 u117 u118 u119 u120 u121 u122 u123 u124 u125 u126 u127 u128 u129 u130 u131 u132 u133 u134 u135 u136 u137 u138 u139 u140 u141 u142 u143 u144 u145 u146 u147 u148 u149 u150 u151 u152 u153 u154 u155 u156 u157 u158 u159 u160 u161 u162 u163 u164 : Value) (rb qb xb g len cap i lv rate burst Q : Nat) (W : World) (hi : i < len) (hlv : lv ≤ 4000000000000000) (hr0 : 0 < rate) (hr : rate ≤ 1000000) (hu : burst ≤ 1000000) (hc : Q ≤ burst) (x1 : W.cell? ⟨rb, 1, none⟩ = some (.slice (some ⟨g, 0, none⟩) len cap)) (x3 : W.cell? ⟨g, i * 4 + 3, none⟩ = some (.int .i64 lv)) (q3 : W.cell? ⟨qb, 3, none⟩ = some (.int .i64 Q)) (a0 : W.cell? ⟨xb, 0, none⟩ = some (.int .i64 rate)) (a1 : W.cell? ⟨xb, 1, none⟩ = some (.int .i64 burst)) (hrb : rb < W.heap.size) (hg : g < W.heap.size) (hqb : qb < W.heap.size) (hxb : xb < W.heap.size) (R : Exit → Act → World → Prop)
    (hR : ∀ (v98 v99 v100 v101 v102 v103 v104 v105 v106 v107 v108 v109 : Value) (W' : World), Below W.heap.size W W' → R .normal ⟨#[.pointer (some ⟨rb, 0, none⟩), u1, u2, u3, u4, .pointer (some ⟨qb, 0, none⟩), u6, u7, .pointer (some ⟨xb, 0, none⟩), u9, .int .i64 i, u11, u12, u13, .int .i64 (waitS lv rate burst Q : Nat), u15, u16, u17, u18, u19, u20, u21, u22, u23, u24, u25, u26, u27, u28, u29, u30, u31, u32, u33, u34, u35, u36, u37, u38, u39, u40, u41, u42, u43, u44, u45, u46, u47, u48, u49, u50, u51, u52, u53, u54, u55, u56, u57, u58, u59, u60, u61, u62, u63, u64, u65, u66, u67, u68, u69, u70, u71, u72, u73, u74, u75, u76, u77, u78, u79, u80, u81, u82, u83, u84, u85, u86, u87, u88, u89, u90, u91, u92, u93, u94, u95, u96, u97, v98, v99, v100, v101, v102, v103, v104, v105, v106, v107, v108, v109, u110, u111, u112, u113, u114, u115, u116, u117, u118, u119, u120, u121, u122, u123, u124, u125, u126, u127, u128, u129, u130, u131, u132, u133, u134, u135, u136, u137, u138, u139, u140, u141, u142, u143, u144, u145, u146, u147, u148, u149, u150, u151, u152, u153, u154, u155, u156, u157, u158, u159, u160, u161, u162, u163, u164], []⟩ W') :
    Code.wp Tryz.prog (decReg 16) R ⟨#[.pointer (some ⟨rb, 0, none⟩), u1, u2, u3, u4, .pointer (some ⟨qb, 0, none⟩), u6, u7, .pointer (some ⟨xb, 0, none⟩), u9, .int .i64 i, u11, u12, u13, u14, u15, u16, u17, u18, u19, u20, u21, u22, u23, u24, u25, u26, u27, u28, u29, u30, u31, u32, u33, u34, u35, u36, u37, u38, u39, u40, u41, u42, u43, u44, u45, u46, u47, u48, u49, u50, u51, u52, u53, u54, u55, u56, u57, u58, u59, u60, u61, u62, u63, u64, u65, u66, u67, u68, u69, u70, u71, u72, u73, u74, u75, u76, u77, u78, u79, u80, u81, u82, u83, u84, u85, u86, u87, u88, u89, u90, u91, u92, u93, u94, u95, u96, u97, u98, u99, u100, u101, u102, u103, u104, u105, u106, u107, u108, u109, u110, u111, u112, u113, u114, u115, u116, u117, u118, u119, u120, u121, u122, u123, u124, u125, u126, u127, u128, u129, u130, u131, u132, u133, u134, u135, u136, u137, u138, u139, u140, u141, u142, u143, u144, u145, u146, u147, u148, u149, u150, u151, u152, u153, u154, u155, u156, u157, u158, u159, u160, u161, u162, u163, u164], []⟩ W := by
  conv => arg 2; whnf
  have hi1 : (i : Int) < (len : Int) := by omega
  have hi0 : (0 : Int) ≤ (i : Int) := by omega
  have hw := fun W => wait_any lv rate burst Q W hlv hr0 hr hu hc
  generalize waitS lv rate burst Q = Z at *
  have HW := hide hw; have HR := hide hR
  clear hR hw
  go_region_held3 (fun w' => w'.cell? ⟨rb, 1, none⟩ = some (.slice (some ⟨g, 0, none⟩) len cap) ∧ w'.cell? ⟨g, i * 4 + 3, none⟩ = some (.int .i64 lv) ∧ w'.cell? ⟨qb, 3, none⟩ = some (.int .i64 Q) ∧ w'.cell? ⟨xb, 0, none⟩ = some (.int .i64 rate) ∧ w'.cell? ⟨xb, 1, none⟩ = some (.int .i64 burst)) (go_keep)
    (first | (go_at_call_of 144 (Value.int IntKind.i64 (lv : Int)); refine (unhide HW _).mono ?_; rintro e w2 ⟨rfl, hb2⟩; have y1 := (hb2.cell (p := ⟨rb, 1, none⟩) hrb).trans x1; have y3 := (hb2.cell (p := ⟨g, i * 4 + 3, none⟩) hg).trans x3; have yq := (hb2.cell (p := ⟨qb, 3, none⟩) hqb).trans q3; have ya := (hb2.cell (p := ⟨xb, 0, none⟩) hxb).trans a0; have yb := (hb2.cell (p := ⟨xb, 1, none⟩) hxb).trans a1))
  all_goals
    exact unhide HR _ _ _ _ _ _ _ _ _ _ _ _ _ ((Below.refl W.heap.size W).drew.trans hb2)

end Go.Proofs.YthmhfilkgggagaaGreatDoor

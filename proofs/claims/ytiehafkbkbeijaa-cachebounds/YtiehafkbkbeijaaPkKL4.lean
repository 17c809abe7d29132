import Derived.Test.YtiehafkbkbeijaaPkKL2
import Derived.Deep.CutRange
import Derived.Deep.DeepCutAuto
/- Layer 15, the law: CacheNests: the keys of both -/
namespace Go.Proofs.Ytiehafkbkbeijaa
open Go.RowKit Go.Maps
namespace Kc
def startsR (n : Nat) : Code → Bool
  | .region m _ _ => m == n
  | .seq a _ => startsR n a
  | _ => false
def fromR (n : Nat) : Code → Option Code
  | .seq a b => if startsR n a then some (.seq a b) else (match fromR n a with | some c => some c | none => fromR n b)
  | .block _ c => fromR n c
  | .loop c => fromR n c
  | .scope c => fromR n c
  | .cond _ a b => (match fromR n a with | some c => some c | none => fromR n b)
  | .region m x d => if m == n then some (.region m x d) else none
  | _ => none
noncomputable def nestT : Code := ((Try.f3.body.bind (fromR 24)).getD .skip)
set_option maxRecDepth 1000000 in
set_option maxHeartbeats 8000000 in
theorem nests_tail {w wr : World} {a b : Nat} {gA gB : Option Nat} {B C cA cB : Nat} {LA LB : List En} {fA mA oA fB mB oB : Nat} (S : Cd w wr a gA B cA LA fA mA oA b gB C cB LB fB mB oB) (ns : Nst LA LB) (hcA : cA ≤ 1000000) (hcB : cB ≤ 1000000)
    (u0 u1 u2 u3 u4 u5 u6 u7 u8 u10 u12 u13 u14 u15 u16 u17 u18 u19 u20 u21 u22 u23 u24 u25 u26 u27 u28 u29 u30 u31 u32 u33 u34 u35 u36 u37 u38 u39 u40 u41 u42 u43 u44 u45 u46 u47 u48 u49 u50 u51 u52 u53 u54 u55 u56 u57 u58 u59 u60 u61 u62 u63 u64 u65 u66 u67 u68 u69 u70 u71 u72 u73 u74 u75 u76 u77 u78 u79 u80 u81 u82 u83 u84 u85 u86 u87 u88 u89 u90 u91 u92 u93 u94 u95 u96 u97 u98 u99 u100 u101 u102 u103 u104 u105 u106 u107 u108 u109 u110 u111 u112 u113 u114 u115 u116 u117 u118 u119 u120 u121 u122 u123 u124 u125 u126 u127 u128 u129 u130 u131 u132 u133 u134 u135 u136 u137 u138 u139 u140 u141 u142 u143 u144 u145 u146 u147 u148 u149 u150 u151 u152 u153 u154 u155 u156 u157 u158 u159 u160 u161 u162 : Value) (Q : Exit → Act → World → Prop) (hQ : ∀ (c6 c22 c23 c24 c132 c133 c134 c135 c136 c137 c138 c139 c140 c141 c142 c143 c144 c145 c146 c147 c148 c149 c150 c151 c152 c153 c154 c155 : Value) (w' : World), Below wr.heap.size wr w' → Q .normal ⟨#[u0, u1, u2, u3, u4, u5, c6, u7, u8, .pointer (some ⟨a, 0, none⟩), u10, .pointer (some ⟨b, 0, none⟩), u12, u13, u14, u15, u16, u17, u18, u19, u20, u21, c22, c23, c24, u25, u26, u27, u28, u29, u30, u31, u32, u33, u34, u35, u36, u37, u38, u39, u40, u41, u42, u43, u44, u45, u46, u47, u48, u49, u50, u51, u52, u53, u54, u55, u56, u57, u58, u59, u60, u61, u62, u63, u64, u65, u66, u67, u68, u69, u70, u71, u72, u73, u74, u75, u76, u77, u78, u79, u80, u81, u82, u83, u84, u85, u86, u87, u88, u89, u90, u91, u92, u93, u94, u95, u96, u97, u98, u99, u100, u101, u102, u103, u104, u105, u106, u107, u108, u109, u110, u111, u112, u113, u114, u115, u116, u117, u118, u119, u120, u121, u122, u123, u124, u125, u126, u127, u128, u129, u130, u131, c132, c133, c134, c135, c136, c137, c138, c139, c140, c141, c142, c143, c144, c145, c146, c147, c148, c149, c150, c151, c152, c153, c154, c155, u156, u157, u158, u159, u160, u161, u162], []⟩ w') :
    Code.wp Try.prog nestT Q ⟨#[u0, u1, u2, u3, u4, u5, u6, u7, u8, .pointer (some ⟨a, 0, none⟩), u10, .pointer (some ⟨b, 0, none⟩), u12, u13, u14, u15, u16, u17, u18, u19, u20, u21, u22, u23, u24, u25, u26, u27, u28, u29, u30, u31, u32, u33, u34, u35, u36, u37, u38, u39, u40, u41, u42, u43, u44, u45, u46, u47, u48, u49, u50, u51, u52, u53, u54, u55, u56, u57, u58, u59, u60, u61, u62, u63, u64, u65, u66, u67, u68, u69, u70, u71, u72, u73, u74, u75, u76, u77, u78, u79, u80, u81, u82, u83, u84, u85, u86, u87, u88, u89, u90, u91, u92, u93, u94, u95, u96, u97, u98, u99, u100, u101, u102, u103, u104, u105, u106, u107, u108, u109, u110, u111, u112, u113, u114, u115, u116, u117, u118, u119, u120, u121, u122, u123, u124, u125, u126, u127, u128, u129, u130, u131, u132, u133, u134, u135, u136, u137, u138, u139, u140, u141, u142, u143, u144, u145, u146, u147, u148, u149, u150, u151, u152, u153, u154, u155, u156, u157, u158, u159, u160, u161, u162], []⟩ wr := by
  conv => arg 2; whnf
  have iX := keys_any S.one.ch (by have := S.one.ch.cb; omega)
  have HQ := hid hQ
  clear hQ
  go_upto_region 25 with (go_at_call 11; refine iX.mono ?_; rintro r wx ⟨vx, rfl, Ox, bx⟩)
  have Sx := hid (S.below bx)
  have iY := keys_any Sx.out.two.ch (by have := Sx.out.two.ch.cb; omega)
  go_upto_region 26 with (go_at_call 11; refine iY.mono ?_; rintro r wy ⟨vy, rfl, Oy, by_⟩)
  have Ox := Ox.below by_ (Nat.le_refl _)
  obtain ⟨Z, hZ⟩ := ns
  obtain ⟨nx, hnx⟩ : ∃ n, (keys LA).length = n := ⟨_, rfl⟩
  obtain ⟨ny, hny⟩ : ∃ n, (keys LB).length = n := ⟨_, rfl⟩
  have hle : nx ≤ ny := by rw [← hnx, ← hny]; show (ks _).length ≤ (ks _).length; rw [hZ]; simp
  obtain ⟨ax, cx, hax⟩ := Ox.shape
  obtain ⟨ay, cy, hay⟩ := Oy.shape
  rw [svs_length, hnx] at hax
  rw [svs_length, hny] at hay
  subst hax hay
  have same : Hid (∀ j, j < nx → ∃ s : ByteArray, (∃ g, ax = some ⟨g, 0, none⟩ ∧ wy.cell? ⟨g, j, none⟩ = some (.string s)) ∧ ∃ g, ay = some ⟨g, 0, none⟩ ∧ wy.cell? ⟨g, j, none⟩ = some (.string s)) := by
    intro j hj
    have hjx : j < (keys LA).length := by rw [hnx]; exact hj
    refine ⟨⟨((keys LA)[j]).toArray⟩, ?_, ?_⟩
    · rcases Ox with ⟨_, h⟩ | ⟨g, cap, h0, _, _, _, h1, _, _⟩
      · have := congrArg List.length h; rw [svs_length] at this; simp only [List.length_nil] at this; omega
      · injection h0 with h0 _ _
        refine ⟨g, h0, ?_⟩
        have := h1 j (sv ((keys LA)[j])) (by simp [svs, List.getElem?_eq_getElem hjx])
        rwa [Nat.zero_add] at this
    · rcases Oy with ⟨_, h⟩ | ⟨g, cap, h0, _, _, _, h1, _, _⟩
      · have := congrArg List.length h; rw [svs_length] at this; simp only [List.length_nil] at this; omega
      · injection h0 with h0 _ _
        refine ⟨g, h0, ?_⟩
        have hj2 : (keys LB)[j]? = some ((keys LA)[j]) := by
          show (ks _)[j]? = _
          rw [hZ, List.getElem?_append_left (show j < (ks _).length from hjx)]
          exact List.getElem?_eq_getElem hjx
        have := h1 j (sv ((keys LA)[j])) (by simp [svs, hj2])
        rwa [Nat.zero_add] at this
  have hny1 : ny ≤ 1000000 := by rw [← hny]; have := S.two.ch.cb; simp only [keys, List.length_map]; omega
  have BY : Hid (Below wr.heap.size wr wy) := bx.trans (by_.mono bx.size)
  clear Ox Oy Sx hZ hnx hny iX iY bx by_ S
  have hgt : ¬ (ny : Int) < (nx : Int) := by omega
  have hle' := hid hle
  go_wp2
  go_loopw [24] (fun i w' => ∃ j : Nat, j ≤ nx ∧ i = .int .i64 (j : Int) ∧ Hid (Below wr.heap.size wr w') ∧ Hid (Below wy.heap.size wy w')) (fun i _ => nx - (intOf i).toNat)
  case atStart => exact ⟨0, Nat.zero_le _, rfl, BY, Below.refl _ _⟩
  case round =>
    obtain ⟨j, hj, rfl, Br, Bj⟩ := hrel
    by_cases hjn : j < nx
    · obtain ⟨s, ⟨g1, rfl, s1⟩, g2, rfl, s2⟩ := same.out j hjn
      have s1' := (Bj.out.cell (p := ⟨g1, j, none⟩) (lt_of_cell s1)).trans s1
      have s2' := (Bj.out.cell (p := ⟨g2, j, none⟩) (lt_of_cell s2)).trans s2
      have y1 : (j : Int) < (nx : Int) := by omega
      have y2 : (j : Int) < (ny : Int) := by omega
      have y3 : (0 : Int) ≤ (j : Int) := by omega
      have ss : (s.toList == s.toList) = true := by simp
      have hjn' := hid hjn
      clear s1 s2
      go_wp2
      go_region
      go_wp2
      exact ⟨⟨j + 1, hjn'.out, by go_num, Br.out.drew, Bj.out.drew⟩, by have := hjn'.out; simp [RowKit.intOf]; omega⟩
    · obtain rfl : j = nx := by omega
      have y1 : ¬ (j : Int) < (j : Int) := by omega
      go_wp2
      exact HQ.out _ _ _ _ _ _ _ _ _ _ _ _ _ _ _ _ _ _ _ _ _ _ _ _ _ _ _ _ _ Br.out
end Kc
end Go.Proofs.Ytiehafkbkbeijaa

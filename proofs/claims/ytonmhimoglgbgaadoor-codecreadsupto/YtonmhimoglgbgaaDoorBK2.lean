import Derived.Test.YtonmhimoglgbgaaDoorBK1
namespace Go.Proofs.YtonmhimoglgbgaaDoor
open Go.RowKit
theorem infoLI : (Tryd.prog.info? 45).map (fun i => (i.zero, i.size, i.bytes)) = some (some (.slice none 0 0), 1, 24) := by kernel_rfl
theorem infoLS : (Tryd.prog.info? 46).map (fun i => (i.zero, i.size, i.bytes)) = some (some (.slice none 0 0), 1, 24) := by kernel_rfl

set_option maxRecDepth 100000 in
set_option maxHeartbeats 2000000 in
theorem growsI_any (mv : Nat → Value) (z : Int) (X i l : Nat) (ρ : Rol) (v x : Value) (GS : List Value) (w : World) (hmv : Hid (mv i = .int .i64 z)) (h : Fam w X ρ 0 mv v GS) (hlt : Lt w X ρ) (hx : Xs w X ρ 0 mv i l x) (hG : GS.length = 6 * i) (hi : i ≤ 1000) (hl : l ≤ 1100000) (hX : X ≤ w.heap.size) :
    Calls Tryd.prog 50 #[v, x, .int .i64 z] w fun r w' => ∃ v' ρ' GS', r = .returned v' ∧ Fam w' X ρ' 0 mv v' GS' ∧ GS'.length = 6 * (i + 1) ∧ Mv 0 X w ρ w' ρ' := by
  obtain ⟨va, vn, vc, rfl⟩ := h.own.sl
  obtain ⟨xa, xn, xc, rfl⟩ := hx.own.sl
  obtain ⟨v2, w2, hap2, hO2, hG2⟩ := append_one 41 45 (.slice none 0 0) 24 (by decide) Tryd.underlying41 infoLI rfl w X (.slice va vn vc) GS (.slice xa xn xc) rfl h.own (by omega) hX
  obtain ⟨ρ2, F2, M2, E2⟩ := h.push hlt hG2 hO2 (by rw [hG, Nat.mul_div_cancel_left i (by omega)]; exact hx.en (by omega))
  have X2 : Xs w2 X ρ2 0 mv i l (.slice xa xn xc) := hx.ext hG2.size (fun k hk => hG2.old k (hx.own.lt k hk) fun e => by have := h.rl k e; rw [hx.rl k hk] at this; cases this) E2
  have I2 : Hid (∃ (ρ' : Rol) (GS' : List Value), Fam w2 X ρ' 0 mv v2 GS' ∧ Xs w2 X ρ' 0 mv i (l + 0) (.slice xa xn xc) ∧ GS'.length = 6 * i + 1 + min 0 4 ∧ Mv 0 X w ρ w2 ρ') := ⟨ρ2, _, F2, X2, by simp [hG], M2⟩
  have Hlt := hid hlt
  clear F2 M2 E2 X2 hO2 hG2 h hx hlt
  go_enter Tryd.func50, Tryd.ntmps50
  go_wp2_with ((with_reducible show wpList _ _ _ (Oper.mk _ (Op.call { callee := Callee.builtin Builtin.append, args := _, argTypes := #[41, 41] }) _ _ _ _ :: _) _ _); go_must (refine Lib.wpList_append_run _ rfl _ _ 41 41 rfl _ _ rfl rfl _ _ hap2 ?_))
  clear hap2
  go_loopw [0, 1, 7] (fun all li ii w' => ∃ k : Nat, k ≤ 40 ∧ ii = .int .i64 (k : Int) ∧ Hid (∃ (ρ' : Rol) (GS' : List Value), Fam w' X ρ' 0 mv all GS' ∧ Xs w' X ρ' 0 mv i (l + k) li ∧ GS'.length = 6 * i + 1 + min k 4 ∧ Mv 0 X w ρ w' ρ')) (fun _ _ ii _ => 40 - (intOf ii).toNat)
  case atStart => exact ⟨0, by omega, rfl, I2⟩
  case round =>
    clear I2
    obtain ⟨k, hk, rfl, hI⟩ := hrel
    obtain ⟨ρ1, G1, F1, X1, hl1, M1⟩ := hI.out
    have L1 := M1.lt Hlt.out
    have S1 := Nat.le_trans hX M1.keep.size
    obtain ⟨ga, gn, gc, rfl⟩ := F1.own.sl
    obtain ⟨ya, yn, yc, rfl⟩ := X1.own.sl
    by_cases hk40 : k < 40
    · have b0 : (k : Int) < 40 := by omega
      obtain ⟨x3, w3, hap1, hO3, hG3⟩ := append_one 45 3 (.int .i64 0) 8 (by decide) Tryd.underlying45 infoI rfl wr X (.slice ya yn yc) (List.replicate (l + k) (mv i)) (.int .i64 z) rfl X1.own (by rw [List.length_replicate]; omega) S1
      rw [← hmv.out, ← List.replicate_succ'] at hO3
      obtain ⟨ρ3, F3, X3, M3⟩ := F1.growX L1 X1 (by omega) hG3 hO3
      have L3 := M3.lt L1
      have M13 := M1.trans M3
      have S3 := Nat.le_trans hX M13.keep.size
      obtain ⟨za, zn, zc, rfl⟩ := X3.own.sl
      by_cases hk4 : k < 4
      · have b1 : (k : Int) < 4 := by omega
        obtain ⟨v4, w4, hap2, hO4, hG4⟩ := append_one 41 45 (.slice none 0 0) 24 (by decide) Tryd.underlying41 infoLI rfl w3 X (.slice ga gn gc) G1 (.slice za zn zc) rfl F3.own (by omega) S3
        obtain ⟨ρ4, F4, M4, E4⟩ := F3.push L3 hG4 hO4 (by rw [show G1.length / 6 = i from by omega]; exact X3.en (by omega))
        have X4 : Xs w4 X ρ4 0 mv i (l + k + 1) (.slice za zn zc) := X3.ext hG4.size (fun j hj => hG4.old j (X3.own.lt j hj) fun e => by have := F3.rl j e; rw [X3.rl j hj] at this; cases this) E4
        have I4 : Hid (∃ (ρ' : Rol) (GS' : List Value), Fam w4 X ρ' 0 mv v4 GS' ∧ Xs w4 X ρ' 0 mv i (l + (k + 1)) (.slice za zn zc) ∧ GS'.length = 6 * i + 1 + min (k + 1) 4 ∧ Mv 0 X w ρ w4 ρ') := ⟨ρ4, _, F4, X4, by rw [List.length_append]; simp; omega, M13.trans M4⟩
        clear F1 X1 M1 L1 F3 X3 M3 L3 M13 F4 M4 E4 X4 hO3 hG3 hO4 hG4 hI hl1 Hlt hmv
        go_wp2_with (first
          | ((with_reducible show wpList _ _ _ (Oper.mk _ (Op.call { callee := Callee.builtin Builtin.append, args := _, argTypes := #[45, 45] }) _ _ _ _ :: _) _ _); go_must (refine Lib.wpList_append_run _ rfl _ _ 45 45 rfl _ _ rfl rfl _ _ hap1 ?_))
          | ((with_reducible show wpList _ _ _ (Oper.mk _ (Op.call { callee := Callee.builtin Builtin.append, args := _, argTypes := #[41, 41] }) _ _ _ _ :: _) _ _); go_must (refine Lib.wpList_append_run _ rfl _ _ 41 41 rfl _ _ rfl rfl _ _ hap2 ?_)))
        refine ⟨?_, by simp [intOf]; omega⟩
        first
          | exact ⟨k + 1, by omega, by go_num, I4⟩
          | (repeat apply Exists.intro
             exact ⟨⟨k + 1, by omega, by go_num, I4⟩, rfl⟩)
      · have b1 : ¬ (k : Int) < 4 := by omega
        have I4 : Hid (∃ (ρ' : Rol) (GS' : List Value), Fam w3 X ρ' 0 mv (.slice ga gn gc) GS' ∧ Xs w3 X ρ' 0 mv i (l + (k + 1)) (.slice za zn zc) ∧ GS'.length = 6 * i + 1 + min (k + 1) 4 ∧ Mv 0 X w ρ w3 ρ') := ⟨ρ3, _, F3, X3, by omega, M13⟩
        clear F1 X1 M1 L1 F3 X3 M3 L3 M13 hO3 hG3 hI hl1 Hlt hmv
        go_wp2_with ((with_reducible show wpList _ _ _ (Oper.mk _ (Op.call { callee := Callee.builtin Builtin.append, args := _, argTypes := #[45, 45] }) _ _ _ _ :: _) _ _); go_must (refine Lib.wpList_append_run _ rfl _ _ 45 45 rfl _ _ rfl rfl _ _ hap1 ?_))
        refine ⟨?_, by simp [intOf]; omega⟩
        first
          | exact ⟨k + 1, by omega, by go_num, I4⟩
          | (repeat apply Exists.intro
             exact ⟨⟨k + 1, by omega, by go_num, I4⟩, rfl⟩)
    · obtain rfl : k = 40 := by omega
      have b0 : ¬ ((40 : Nat) : Int) < 40 := by omega
      obtain ⟨v4, w4, hap2, hO4, hG4⟩ := append_one 41 45 (.slice none 0 0) 24 (by decide) Tryd.underlying41 infoLI rfl wr X (.slice ga gn gc) G1 (.slice ya yn yc) rfl F1.own (by omega) S1
      obtain ⟨ρ4, F4, M4, E4⟩ := F1.push L1 hG4 hO4 (by rw [show G1.length / 6 = i from by omega]; exact X1.en (by omega))
      have res : Hid (∃ ρ' GS', Fam w4 X ρ' 0 mv v4 GS' ∧ GS'.length = 6 * (i + 1) ∧ Mv 0 X w ρ w4 ρ') := ⟨ρ4, _, F4, by rw [List.length_append]; simp; omega, M1.trans M4⟩
      clear F1 X1 M1 L1 F4 M4 E4 hO4 hG4 hI hl1 Hlt hmv
      go_wp2_with ((with_reducible show wpList _ _ _ (Oper.mk _ (Op.call { callee := Callee.builtin Builtin.append, args := _, argTypes := #[41, 41] }) _ _ _ _ :: _) _ _); go_must (refine Lib.wpList_append_run _ rfl _ _ 41 41 rfl _ _ rfl rfl _ _ hap2 ?_))
      go_ret
      obtain ⟨ρ5, G5, r1, r2, r3⟩ := res.out
      exact ⟨_, rfl, ρ5, G5, r1, r2, r3⟩

set_option maxRecDepth 100000 in
set_option maxHeartbeats 2000000 in
theorem growsT_any (mv : Nat → Value) (MB : ByteArray) (X i l : Nat) (ρ : Rol) (v x : Value) (GS : List Value) (w : World) (hmv : Hid (mv i = .string MB)) (h : Fam w X ρ 1 mv v GS) (hlt : Lt w X ρ) (hx : Xs w X ρ 1 mv i l x) (hG : GS.length = 6 * i) (hi : i ≤ 1000) (hl : l ≤ 1100000) (hX : X ≤ w.heap.size) :
    Calls Tryd.prog 51 #[v, x, .string MB] w fun r w' => ∃ v' ρ' GS', r = .returned v' ∧ Fam w' X ρ' 1 mv v' GS' ∧ GS'.length = 6 * (i + 1) ∧ Mv 1 X w ρ w' ρ' := by
  obtain ⟨va, vn, vc, rfl⟩ := h.own.sl
  obtain ⟨xa, xn, xc, rfl⟩ := hx.own.sl
  obtain ⟨v2, w2, hap2, hO2, hG2⟩ := append_one 42 46 (.slice none 0 0) 24 (by decide) Tryd.underlying42 infoLS rfl w X (.slice va vn vc) GS (.slice xa xn xc) rfl h.own (by omega) hX
  obtain ⟨ρ2, F2, M2, E2⟩ := h.push hlt hG2 hO2 (by rw [hG, Nat.mul_div_cancel_left i (by omega)]; exact hx.en (by omega))
  have X2 : Xs w2 X ρ2 1 mv i l (.slice xa xn xc) := hx.ext hG2.size (fun k hk => hG2.old k (hx.own.lt k hk) fun e => by have := h.rl k e; rw [hx.rl k hk] at this; cases this) E2
  have I2 : Hid (∃ (ρ' : Rol) (GS' : List Value), Fam w2 X ρ' 1 mv v2 GS' ∧ Xs w2 X ρ' 1 mv i (l + 0) (.slice xa xn xc) ∧ GS'.length = 6 * i + 1 + min 0 4 ∧ Mv 1 X w ρ w2 ρ') := ⟨ρ2, _, F2, X2, by simp [hG], M2⟩
  have Hlt := hid hlt
  clear F2 M2 E2 X2 hO2 hG2 h hx hlt
  go_enter Tryd.func51, Tryd.ntmps51
  go_wp2_with ((with_reducible show wpList _ _ _ (Oper.mk _ (Op.call { callee := Callee.builtin Builtin.append, args := _, argTypes := #[42, 42] }) _ _ _ _ :: _) _ _); go_must (refine Lib.wpList_append_run _ rfl _ _ 42 42 rfl _ _ rfl rfl _ _ hap2 ?_))
  clear hap2
  go_loopw [0, 1, 7] (fun all li ii w' => ∃ k : Nat, k ≤ 40 ∧ ii = .int .i64 (k : Int) ∧ Hid (∃ (ρ' : Rol) (GS' : List Value), Fam w' X ρ' 1 mv all GS' ∧ Xs w' X ρ' 1 mv i (l + k) li ∧ GS'.length = 6 * i + 1 + min k 4 ∧ Mv 1 X w ρ w' ρ')) (fun _ _ ii _ => 40 - (intOf ii).toNat)
  case atStart => exact ⟨0, by omega, rfl, I2⟩
  case round =>
    clear I2
    obtain ⟨k, hk, rfl, hI⟩ := hrel
    obtain ⟨ρ1, G1, F1, X1, hl1, M1⟩ := hI.out
    have L1 := M1.lt Hlt.out
    have S1 := Nat.le_trans hX M1.keep.size
    obtain ⟨ga, gn, gc, rfl⟩ := F1.own.sl
    obtain ⟨ya, yn, yc, rfl⟩ := X1.own.sl
    by_cases hk40 : k < 40
    · have b0 : (k : Int) < 40 := by omega
      obtain ⟨x3, w3, hap1, hO3, hG3⟩ := append_one 46 9 (.string ⟨#[]⟩) 16 (by decide) Tryd.underlying46 infoS rfl wr X (.slice ya yn yc) (List.replicate (l + k) (mv i)) (.string MB) rfl X1.own (by rw [List.length_replicate]; omega) S1
      rw [← hmv.out, ← List.replicate_succ'] at hO3
      obtain ⟨ρ3, F3, X3, M3⟩ := F1.growX L1 X1 (by omega) hG3 hO3
      have L3 := M3.lt L1
      have M13 := M1.trans M3
      have S3 := Nat.le_trans hX M13.keep.size
      obtain ⟨za, zn, zc, rfl⟩ := X3.own.sl
      by_cases hk4 : k < 4
      · have b1 : (k : Int) < 4 := by omega
        obtain ⟨v4, w4, hap2, hO4, hG4⟩ := append_one 42 46 (.slice none 0 0) 24 (by decide) Tryd.underlying42 infoLS rfl w3 X (.slice ga gn gc) G1 (.slice za zn zc) rfl F3.own (by omega) S3
        obtain ⟨ρ4, F4, M4, E4⟩ := F3.push L3 hG4 hO4 (by rw [show G1.length / 6 = i from by omega]; exact X3.en (by omega))
        have X4 : Xs w4 X ρ4 1 mv i (l + k + 1) (.slice za zn zc) := X3.ext hG4.size (fun j hj => hG4.old j (X3.own.lt j hj) fun e => by have := F3.rl j e; rw [X3.rl j hj] at this; cases this) E4
        have I4 : Hid (∃ (ρ' : Rol) (GS' : List Value), Fam w4 X ρ' 1 mv v4 GS' ∧ Xs w4 X ρ' 1 mv i (l + (k + 1)) (.slice za zn zc) ∧ GS'.length = 6 * i + 1 + min (k + 1) 4 ∧ Mv 1 X w ρ w4 ρ') := ⟨ρ4, _, F4, X4, by rw [List.length_append]; simp; omega, M13.trans M4⟩
        clear F1 X1 M1 L1 F3 X3 M3 L3 M13 F4 M4 E4 X4 hO3 hG3 hO4 hG4 hI hl1 Hlt hmv
        go_wp2_with (first
          | ((with_reducible show wpList _ _ _ (Oper.mk _ (Op.call { callee := Callee.builtin Builtin.append, args := _, argTypes := #[46, 46] }) _ _ _ _ :: _) _ _); go_must (refine Lib.wpList_append_run _ rfl _ _ 46 46 rfl _ _ rfl rfl _ _ hap1 ?_))
          | ((with_reducible show wpList _ _ _ (Oper.mk _ (Op.call { callee := Callee.builtin Builtin.append, args := _, argTypes := #[42, 42] }) _ _ _ _ :: _) _ _); go_must (refine Lib.wpList_append_run _ rfl _ _ 42 42 rfl _ _ rfl rfl _ _ hap2 ?_)))
        refine ⟨?_, by simp [intOf]; omega⟩
        first
          | exact ⟨k + 1, by omega, by go_num, I4⟩
          | (repeat apply Exists.intro
             exact ⟨⟨k + 1, by omega, by go_num, I4⟩, rfl⟩)
      · have b1 : ¬ (k : Int) < 4 := by omega
        have I4 : Hid (∃ (ρ' : Rol) (GS' : List Value), Fam w3 X ρ' 1 mv (.slice ga gn gc) GS' ∧ Xs w3 X ρ' 1 mv i (l + (k + 1)) (.slice za zn zc) ∧ GS'.length = 6 * i + 1 + min (k + 1) 4 ∧ Mv 1 X w ρ w3 ρ') := ⟨ρ3, _, F3, X3, by omega, M13⟩
        clear F1 X1 M1 L1 F3 X3 M3 L3 M13 hO3 hG3 hI hl1 Hlt hmv
        go_wp2_with ((with_reducible show wpList _ _ _ (Oper.mk _ (Op.call { callee := Callee.builtin Builtin.append, args := _, argTypes := #[46, 46] }) _ _ _ _ :: _) _ _); go_must (refine Lib.wpList_append_run _ rfl _ _ 46 46 rfl _ _ rfl rfl _ _ hap1 ?_))
        refine ⟨?_, by simp [intOf]; omega⟩
        first
          | exact ⟨k + 1, by omega, by go_num, I4⟩
          | (repeat apply Exists.intro
             exact ⟨⟨k + 1, by omega, by go_num, I4⟩, rfl⟩)
    · obtain rfl : k = 40 := by omega
      have b0 : ¬ ((40 : Nat) : Int) < 40 := by omega
      obtain ⟨v4, w4, hap2, hO4, hG4⟩ := append_one 42 46 (.slice none 0 0) 24 (by decide) Tryd.underlying42 infoLS rfl wr X (.slice ga gn gc) G1 (.slice ya yn yc) rfl F1.own (by omega) S1
      obtain ⟨ρ4, F4, M4, E4⟩ := F1.push L1 hG4 hO4 (by rw [show G1.length / 6 = i from by omega]; exact X1.en (by omega))
      have res : Hid (∃ ρ' GS', Fam w4 X ρ' 1 mv v4 GS' ∧ GS'.length = 6 * (i + 1) ∧ Mv 1 X w ρ w4 ρ') := ⟨ρ4, _, F4, by rw [List.length_append]; simp; omega, M1.trans M4⟩
      clear F1 X1 M1 L1 F4 M4 E4 hO4 hG4 hI hl1 Hlt hmv
      go_wp2_with ((with_reducible show wpList _ _ _ (Oper.mk _ (Op.call { callee := Callee.builtin Builtin.append, args := _, argTypes := #[42, 42] }) _ _ _ _ :: _) _ _); go_must (refine Lib.wpList_append_run _ rfl _ _ 42 42 rfl _ _ rfl rfl _ _ hap2 ?_))
      go_ret
      obtain ⟨ρ5, G5, r1, r2, r3⟩ := res.out
      exact ⟨_, rfl, ρ5, G5, r1, r2, r3⟩
end Go.Proofs.YtonmhimoglgbgaaDoor

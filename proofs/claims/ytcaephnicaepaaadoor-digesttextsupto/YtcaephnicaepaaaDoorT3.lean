import Derived.Test.YtcaephnicaepaaaDoorT2
namespace Go.Proofs.YtcaephnicaepaaaDoor
open Go.RowKit

theorem conv_nil (w : World) : (convert 48 9 (.slice none 0 0)).run Tryd.prog w = .ok (sv []) w := by
  rw [run_convert_bytes_string (P := Tryd.prog) w 48 9 5 none 0 0 Tryd.underlying48 Tryd.underlying5 Tryd.underlying9]
  rfl
theorem conv_all {w : World} {base : Nat} {v : Value} {bs : List UInt8} (h : OwnB w base v bs) : (convert 48 9 v).run Tryd.prog w = .ok (sv bs) w := by
  by_cases hv : v = .slice none 0 0
  · subst hv
    rcases h with ⟨_, h⟩ | ⟨g, cap, h, _⟩
    · have : bs = [] := by cases bs with | nil => rfl | cons a l => simp [bv] at h
      subst this
      exact conv_nil w
    · cases h
  · exact conv_own h hv
theorem hex_signs : ∀ c, c < 256 → (sgnAt c Tx.hexTab 0 = -1 ∧ Tx.hexVal c = none) ∨ ∃ p : Nat, sgnAt c Tx.hexTab 0 = (p : Int) ∧ Tx.hexVal c = some p ∧ p < 16 := by
  intro c hc
  have h : (List.range 256).all (fun c => match Tx.hexVal c with | some p => decide (sgnAt c Tx.hexTab 0 = (p : Int)) | none => decide (sgnAt c Tx.hexTab 0 = -1)) = true := by decide +kernel
  have := List.all_eq_true.1 h c (by simpa using hc)
  cases hv : Tx.hexVal c with
  | none => rw [hv] at this; exact .inl ⟨of_decide_eq_true this, rfl⟩
  | some p => rw [hv] at this; exact .inr ⟨p, of_decide_eq_true this, rfl, Tx.hexVal_lt hv⟩
theorem b64_signs : ∀ c, c < 256 → (sgnAt c Tx.tab 0 = -1 ∧ Tx.val c = none) ∨ ∃ p : Nat, sgnAt c Tx.tab 0 = (p : Int) ∧ Tx.val c = some p ∧ p < 64 := by
  intro c hc
  have h : (List.range 256).all (fun c => match Tx.val c with | some p => decide (sgnAt c Tx.tab 0 = (p : Int)) | none => decide (sgnAt c Tx.tab 0 = -1)) = true := by decide +kernel
  have := List.all_eq_true.1 h c (by simpa using hc)
  cases hv : Tx.val c with
  | none => rw [hv] at this; exact .inl ⟨of_decide_eq_true this, rfl⟩
  | some p => rw [hv] at this; exact .inr ⟨p, of_decide_eq_true this, rfl, Tx.val_lt hv⟩
theorem sign_at {c : Nat} {tab : List UInt8} {p : Int} (h : Hid (sgnAt c tab 0 = p)) (ht : tab.length ≤ 1000) (w : World) :
    Calls Tryd.prog 44 #[.int .u8 (c : Int), .string ⟨tab.toArray⟩] w fun e w' => e = .returned (.int .i64 p) ∧ w' = w := by
  have := sign_any c ⟨tab.toArray⟩ (by rw [sv_size]; exact ht) w
  rwa [sv_data, h.out] at this
theorem byteOf_nat (n : Nat) : byteOf (n : Int) = UInt8.ofNat n := by
  apply UInt8.toNat_inj.1
  unfold byteOf
  simp; omega

set_option maxRecDepth 100000 in
set_option maxHeartbeats 1000000 in
theorem rfromHex_any (s : ByteArray) (hs : s.size ≤ 140737488355328) (w : World) :
    Calls Tryd.prog 22 #[.string s] w fun e w' => e = .returned (.tuple #[sv (Tx.fromHex s.data.toList).1, .int .i64 (Tx.fromHex s.data.toList).2]) ∧ Below w.heap.size w w' := by
  have hs' : (s.size : Int) ≤ 140737488355328 := by omega
  by_cases hodd : s.size % 2 = 1
  · have g : ((s.size : Int) % 2 != 0) = true := by simp; omega
    have hf : Hid (Tx.fromHex s.data.toList = ([], 10)) := by show _ = _; rw [Tx.fromHex, Tx.unhex_odd _ (by rw [data_length]; exact hodd)]
    go_enter Tryd.func22, Tryd.ntmps22
    go_wp2
    go_ret2
    exact ⟨by rw [hf.out]; rfl, Below.refl _ _⟩
  · have g : ((s.size : Int) % 2 != 0) = false := by simp; omega
    go_enter Tryd.func22, Tryd.ntmps22
    go_wp2
    go_loopw [4, 5, 6, 7] (fun v i _ _ w' => ∃ (k : Nat) (r : List UInt8), 2 * k ≤ s.size ∧ i = .int .i64 ((2 * k : Nat) : Int) ∧ Hid (Tx.unhex (s.data.toList.take (2 * k)) = some r) ∧ Hid (OwnB w' w.heap.size v r) ∧ Hid (Below w.heap.size w w')) (fun _ i _ _ _ => s.size - (intOf i).toNat)
    case atStart => exact ⟨0, [], by omega, rfl, rfl, Own.nil _ _, Below.refl _ _⟩
    case round =>
      obtain ⟨k, r, hk, rfl, hr, hown, hb⟩ := hrel
      obtain ⟨k2, hk2⟩ : ∃ k2, k2 = 2 * k := ⟨_, rfl⟩
      by_cases hlt : 2 * k < s.size
      · have hlt' : ((2 * k : Nat) : Int) < (s.size : Int) := by omega
        obtain ⟨x, ex, lx, _, jx⟩ := index_any s ((2 * k : Nat) : Int) (2 * k) rfl hlt
        obtain ⟨y, ey, ly, _, jy⟩ := index_any s (((2 * k : Nat) : Int) + 1) (2 * k + 1) (by omega) (by omega)
        have b1 : 2 * (k : Int) + 1 < (s.size : Int) := by omega
        have b0 : (0 : Int) ≤ 2 * (k : Int) + 1 := by omega
        obtain ⟨p, hp⟩ : ∃ p, Hid (sgnAt x Tx.hexTab 0 = p) := ⟨_, rfl⟩
        obtain ⟨q, hq⟩ : ∃ q, Hid (sgnAt y Tx.hexTab 0 = q) := ⟨_, rfl⟩
        have hd : 2 * k + 1 < s.data.toList.length := by rw [data_length]; omega
        have hx := hex_signs x lx
        have hy := hex_signs y ly
        rw [hp.out] at hx
        rw [hq.out] at hy
        go_wp2_with (go_at_call 44; fail)
        refine (sign_at (tab := Tx.hexTab) hp (by decide) _).mono ?_
        rintro e w' ⟨rfl, hw'⟩
        rw [hw']
        clear hw' w'
        go_wp2_with (go_at_call 44; fail)
        refine (sign_at (tab := Tx.hexTab) hq (by decide) _).mono ?_
        rintro e w' ⟨rfl, hw'⟩
        rw [hw']
        clear hw' w'
        rcases hx with ⟨rfl, hx⟩ | ⟨p, rfl, hx, lp⟩
        · have hf : Hid (Tx.fromHex s.data.toList = ([], 10)) := by
            show _ = _
            rw [Tx.fromHex, Tx.unhex_bad _ r k hd hr.out (.inl (by rw [← ex.out]; exact hx))]
          clear hx hy
          go_wp2
          go_ret2
          exact ⟨by rw [hf.out]; rfl, hb.out⟩
        · rcases hy with ⟨rfl, hy⟩ | ⟨q, rfl, hy, lq⟩
          · have hf : Hid (Tx.fromHex s.data.toList = ([], 10)) := by
              show _ = _
              rw [Tx.fromHex, Tx.unhex_bad _ r k hd hr.out (.inr (by rw [← ey.out]; exact hy))]
            have p0 : ¬ (p : Int) < 0 := by omega
            clear hx hy
            go_wp2
            go_ret2
            exact ⟨by rw [hf.out]; rfl, hb.out⟩
          · have hst := hid (Tx.unhex_step s.data.toList r k p q hd hr.out (by rw [← ex.out]; exact hx) (by rw [← ey.out]; exact hy))
            have hrl := Tx.unhex_length _ _ hr.out
            rw [List.length_take, data_length] at hrl
            have p0 : ¬ (p : Int) < 0 := by omega
            have q0 : ¬ (q : Int) < 0 := by omega
            have hw := byteOf_wrap (16 * (p : Int) + q)
            rw [show 16 * (p : Int) + (q : Int) = ((16 * p + q : Nat) : Int) by omega, byteOf_nat, show ((16 * p + q : Nat) : Int) = 16 * (p : Int) + (q : Int) by omega] at hw
            obtain ⟨v2, w3, hc, hown2, hg2, _⟩ := append_new wr w.heap.size u4 _ [UInt8.ofNat (16 * p + q)] 1 #[.int .u8 (UInt8.ofNat (16 * p + q)).toNat] rfl rfl hown.out (by omega) hb.out.size (by omega)
            have Hown2 := hid hown2
            have Hb2 := hid (hb.out.trans (Below.ofGrown hg2 hown.out.ge hb.out.size))
            have t1 : IntKind.i64.wrap (16 * (p : Int)) = 16 * (p : Int) := wrap_small _ (by omega) (by omega)
            have t2 : IntKind.i64.wrap (16 * (p : Int) + q) = 16 * (p : Int) + q := wrap_small _ (by omega) (by omega)
            clear hown2 hg2 hrl hx hy
            go_wp2_with (at_builtin; go_must (refine Lib.wpList_append_run _ rfl _ _ 48 48 rfl _ _ rfl rfl _ _ hc ?_))
            exact ⟨⟨k + 1, _, by omega, by go_num, hst, Hown2, Hb2⟩, by simp [intOf]; omega⟩
      · have hlt' : ¬ ((2 * k : Nat) : Int) < (s.size : Int) := by omega
        have hcv := conv_all hown.out
        have hf : Hid (Tx.fromHex s.data.toList = (r, 0)) := by
          have := hr.out
          rw [List.take_of_length_le (by rw [data_length]; omega)] at this
          show _ = _
          rw [Tx.fromHex, this]
        go_wp2
        go_ret2
        exact ⟨by rw [hf.out]; rfl, hb.out⟩
end Go.Proofs.YtcaephnicaepaaaDoor

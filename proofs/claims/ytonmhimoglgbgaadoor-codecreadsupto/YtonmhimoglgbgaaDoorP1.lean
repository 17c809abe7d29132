import Derived.Test.YtonmhimoglgbgaaDoorN6
namespace Go.Proofs.YtonmhimoglgbgaaDoor
open Go.RowKit Cod

theorem Wri.post_below {w w' : World} {base b : Nat} {v : Value} {st : WSt} (h : Wri w base b v st) (hb : base ≤ w.heap.size) (k : Keep (WS b v) w w') : Below base w w' :=
  k.below hb (fun j hj e => by have := (h.in j e).1; omega)
theorem digs300 : digs 300 = [172, 2] := by rw [digs_great (by omega), digs_small (by omega)]; rfl
theorem dg (n : Nat) (h : n < 128) : digs n = [UInt8.ofNat n] := digs_small h
theorem kw1 : (WSt.ok []).put (byteErr 255) [UInt8.ofNat (255 : Int).toNat] = .ok [255] := rfl
theorem kw2 : (WSt.ok [255]).put (numErr 300) (digs (300 : Int).toNat) = .ok [255, 172, 2] := by
  rw [show (300 : Int).toNat = 300 from rfl, digs300]; rfl
theorem kr : wrRising [3, 4, 9] = [3, 3, 0, 4] := by
  rw [wrRising, wrRise, wrRise, wrRise, wrRise, show [3, 4, 9].length = 3 from rfl, show 3 - 0 = 3 from rfl, show 4 - (3 + 1) = 0 from rfl, show 9 - (4 + 1) = 4 from rfl, dg 3 (by omega), dg 0 (by omega), dg 4 (by omega)]; rfl
theorem kw3 : (WSt.ok [255, 172, 2]).put (risingErr [3, 4, 9]) (wrRising (([3, 4, 9] : List Int).map Int.toNat)) = .ok [255, 172, 2, 3, 3, 0, 4] := by
  rw [show ([3, 4, 9] : List Int).map Int.toNat = [3, 4, 9] from rfl, kr]; rfl
theorem kt : wrText [104, 105] = [2, 104, 105] := by rw [wrText, show ([104, 105] : List UInt8).length = 2 from rfl, dg 2 (by omega)]; rfl
theorem kw4 : (WSt.ok [255, 172, 2, 3, 3, 0, 4]).put (textErr (ByteArray.mk #[104, 105]).size 4) (wrText (ByteArray.mk #[104, 105]).data.toList) = .ok [255, 172, 2, 3, 3, 0, 4, 2, 104, 105] := by
  rw [show (ByteArray.mk #[104, 105]).data.toList = [104, 105] from rfl, kt]; rfl
theorem kq2 : rdNum [172, 2, 3, 3, 0, 4, 2, 104, 105] = .good 300 [3, 3, 0, 4, 2, 104, 105] := by
  have := num_there (n := 300) (by decide) [3, 3, 0, 4, 2, 104, 105]
  rw [digs300] at this; exact this
theorem kq3 : rdRising [3, 3, 0, 4, 2, 104, 105] 3 = .good [3, 4, 9] [2, 104, 105] := by
  have := rising_there (l := [3, 4, 9]) (many := 3) (by decide) (by decide) (by simp [Rises, top]) [2, 104, 105]
  rw [kr] at this; exact this
theorem kq4 : rdText [2, 104, 105] 4 = .good [104, 105] [] := by
  have := text_there (t := [104, 105]) (most := 4) (by decide) (by decide) []
  rw [kt] at this; exact this
theorem kv1 : (RS.mk [255, 172, 2, 3, 3, 0, 4, 2, 104, 105] 0 0).val 0 (rdByte [255, 172, 2, 3, 3, 0, 4, 2, 104, 105]) = 255 := rfl
theorem ks1 : (RS.mk [255, 172, 2, 3, 3, 0, 4, 2, 104, 105] 0 0).step (rdByte [255, 172, 2, 3, 3, 0, 4, 2, 104, 105]) = ⟨[172, 2, 3, 3, 0, 4, 2, 104, 105], 1, 0⟩ := rfl
theorem kv2 : (RS.mk [172, 2, 3, 3, 0, 4, 2, 104, 105] 1 0).val 0 (rdNum [172, 2, 3, 3, 0, 4, 2, 104, 105]) = 300 := by rw [kq2]; rfl
theorem ks2 : (RS.mk [172, 2, 3, 3, 0, 4, 2, 104, 105] 1 0).step (rdNum [172, 2, 3, 3, 0, 4, 2, 104, 105]) = ⟨[3, 3, 0, 4, 2, 104, 105], 3, 0⟩ := by rw [kq2]; rfl
theorem kv3 : (RS.mk [3, 3, 0, 4, 2, 104, 105] 3 0).val [] (rdRising [3, 3, 0, 4, 2, 104, 105] 3) = [3, 4, 9] := by rw [kq3]; rfl
theorem ks3 : (RS.mk [3, 3, 0, 4, 2, 104, 105] 3 0).step (rdRising [3, 3, 0, 4, 2, 104, 105] 3) = ⟨[2, 104, 105], 7, 0⟩ := by rw [kq3]; rfl
theorem kv4 : (RS.mk [2, 104, 105] 7 0).val [] (rdText [2, 104, 105] 4) = [104, 105] := by rw [kq4]; rfl
theorem ks4 : (RS.mk [2, 104, 105] 7 0).step (rdText [2, 104, 105] 4) = ⟨[], 10, 0⟩ := by rw [kq4]; rfl

set_option maxRecDepth 100000 in
set_option maxHeartbeats 2000000 in
theorem known_any (w : World) (T : Lay w) :
    Calls Tryd.prog 5 #[] w fun r w' => r = .returned (.bool true) ∧ Below w.heap.size w w' := by
  have hT := T.lt
  obtain ⟨B, hB⟩ : ∃ B, w.heap.size = B := ⟨_, rfl⟩
  have HT := hid T
  clear T
  go_enter Tryd.func5, Tryd.ntmps5
  go_wp2_with (go_at_call 6; fail)
  go_at_call 6
  refine (newWriter_any w).mono ?_
  rw [hB]
  rintro e w1 ⟨rfl, h1, b1, s1⟩
  rw [hB] at hT
  go_wp2_with (go_at_call 17; fail)
  go_at_call 17
  refine (wByte_any B B _ _ 255 w1 h1 (by omega) (fun bs hbs => by cases hbs; decide)).mono ?_
  rw [kw1]
  rintro e w2 ⟨rfl, v2, h2, k2, f2⟩
  have b2 := b1.trans (h1.post_below (by omega) k2)
  have s2 := k2.size
  clear h1 k2 f2
  go_wp2_with (go_at_call 18; fail)
  go_at_call 18
  refine (wNum_any B B _ _ 300 (by omega) (by omega) w2 h2 (by omega) (fun bs hbs => by cases hbs; decide)).mono ?_
  rw [kw2]
  rintro e w3 ⟨rfl, v3, h3, k3, f3⟩
  have b3 := b2.trans (h2.post_below (by omega) k3)
  have s3 := k3.size
  clear h2 k3 f3
  go_wp2_with (go_at_call 19; fail)
  go_at_call 19
  have bA : Below w3.heap.size w3 (w3.alloc (.cells #[.int .i64 3, .int .i64 4, .int .i64 9] 3)) := (Below.refl _ _).alloc (Nat.le_refl _) _
  have sA := size_alloc w3 (.cells #[.int .i64 3, .int .i64 4, .int .i64 9] 3)
  have hlA : SlcI (w3.alloc (.cells #[.int .i64 3, .int .i64 4, .int .i64 9] 3)) (.slice (some ⟨w3.heap.size, 0, none⟩) 3 3) [3, 4, 9] :=
    ⟨_, 3, rfl, fun j c hc => ⟨_, rfl, by show w3.heap.size < _; omega, by
      rw [Addr.add_mid, cell_of_row _ _ _ _ _ _ (heap_alloc_new w3 _), Nat.zero_add]
      match j, hc with
      | 0, hc => obtain rfl := Option.some.inj hc; rfl
      | 1, hc => obtain rfl := Option.some.inj hc; rfl
      | 2, hc => obtain rfl := Option.some.inj hc; rfl⟩⟩
  have hap : Apart (.slice (some ⟨w3.heap.size, 0, none⟩) 3 3) (WS B v3) := fun x n c hx hs => by
    cases hx
    have := (h3.in _ hs).2
    exact absurd this (Nat.lt_irrefl _)
  have h3' := h3.below bA
  have b3' := b3.trans (bA.mono (by omega))
  refine (wRising_any B B _ _ _ [3, 4, 9] (by decide) (by decide) _ hlA hap h3' (by omega) (fun bs hbs => by cases hbs; rw [show ([3, 4, 9] : List Int).map Int.toNat = [3, 4, 9] from rfl, kr]; decide)).mono ?_
  rw [kw3]
  rintro e w4 ⟨rfl, v4, h4, k4, f4⟩
  have b4 := b3'.trans (h3'.post_below (by omega) k4)
  have s4 := k4.size
  clear h3' k4 f4 bA hlA hap h3 b3 b3'
  go_wp2_with (go_at_call 20; fail)
  go_at_call 20
  refine (wText_any B B _ _ ⟨#[104, 105]⟩ 4 w4 (by decide) h4 (by omega) (fun bs hbs => by cases hbs; rw [show (ByteArray.mk #[104, 105]).data.toList = [104, 105] from rfl, kt]; decide)).mono ?_
  rw [kw4]
  rintro e w5 ⟨rfl, v5, h5, k5, f5⟩
  have b5 := b4.trans (h4.post_below (by omega) k5)
  have s5 := k5.size
  clear h4 k5 f5 b4
  have T5 := HT.out.below b5 hT
  go_wp2_with (go_at_call 8; fail)
  go_at_call 8
  refine (wDone_any B B _ _ w5 T5 h5).mono ?_
  rw [show (WSt.ok [255, 172, 2, 3, 3, 0, 4, 2, 104, 105]).text = [255, 172, 2, 3, 3, 0, 4, 2, 104, 105] from rfl, show (WSt.ok [255, 172, 2, 3, 3, 0, 4, 2, 104, 105]).err = 0 from rfl]
  rintro e w6 ⟨rfl, k6⟩
  have b6 := b5.trans (k6.mono (by omega))
  have s6 := k6.size
  clear h5 k6 b5 T5
  rw [show sv [255, 172, 2, 3, 3, 0, 4, 2, 104, 105] = .string ⟨#[255, 172, 2, 3, 3, 0, 4, 2, 104, 105]⟩ from rfl]
  go_wp2_with (go_at_call 9; fail)
  go_at_call 9
  refine (newReader_any ⟨#[255, 172, 2, 3, 3, 0, 4, 2, 104, 105]⟩ (by decide) w6).mono ?_
  rw [show (ByteArray.mk #[255, 172, 2, 3, 3, 0, 4, 2, 104, 105]).data.toList = [255, 172, 2, 3, 3, 0, 4, 2, 104, 105] from rfl]
  obtain ⟨C, hC⟩ : ∃ C, w6.heap.size = C := ⟨_, rfl⟩
  rw [hC]
  rintro e w7 ⟨rfl, h7, k7, s7⟩
  have b7 := b6.trans (k7.mono (by omega))
  clear k7 b6
  have yy : ((ByteArray.mk #[255, 172, 2, 3, 3, 0, 4, 2, 104, 105]).toList == (ByteArray.mk #[255, 172, 2, 3, 3, 0, 4, 2, 104, 105]).toList) = true := by simp
  go_wp2_with (go_at_call 21; fail)
  go_at_call 21
  refine (rByte_any C _ w7 h7).mono ?_
  rw [kv1, ks1]
  rintro e w8 ⟨rfl, h8, k8⟩
  have b8 := b7.trans (k8.below (by omega) (by omega))
  have s8 := k8.size
  clear k8 b7 h7
  go_wp2_with (go_at_call 22; fail)
  go_at_call 22
  refine (rNum_any C _ w8 h8).mono ?_
  rw [kv2, ks2]
  rintro e w9 ⟨rfl, h9, k9⟩
  have b9 := b8.trans (k9.below (by omega) (by omega))
  have s9 := k9.size
  clear k9 b8 h8
  go_wp2_with (go_at_call 23; fail)
  go_at_call 23
  refine (rRising_any C _ 3 w9 (.inl (by decide)) h9).mono ?_
  rw [kv3, ks3]
  rintro e wa ⟨va, rfl, oa, ha, ka⟩
  have ba := b9.trans (ka.below (by omega) (by omega))
  have sa := ka.size
  clear ka b9 h9
  rcases oa with ⟨_, hz⟩ | ⟨g, cap, rfl, og1, og2, og3, og4, og5, og6⟩
  · exact absurd hz (by simp [nvs])
  have cg : wa.cell? ⟨g, 2, none⟩ = some (.int .i64 9) := og4 2 _ rfl
  rw [show (nvs [3, 4, 9]).length = 3 from rfl] at *
  clear og4 og5
  go_wp2_with (go_at_call 24; fail)
  go_at_call 24
  refine (rText_any C _ 4 wa ha).mono ?_
  rw [kv4, ks4]
  rintro e wb ⟨rfl, hb, kb⟩
  have bb := ba.trans (kb.below (by omega) (by omega))
  have sb := kb.size
  have cg2 : wb.cell? ⟨g, 2, none⟩ = some (.int .i64 9) := by
    rw [World.cell?_of_block (w := wa) (kb.block g og6 (by omega))]; exact cg
  clear kb ba ha cg
  have Tb := HT.out.below bb hT
  rw [show sv [104, 105] = .string ⟨#[104, 105]⟩ from rfl]
  go_wp2_with (go_at_call 11; fail)
  go_at_call 11
  refine (rDone_any C _ wb Tb hb).mono ?_
  rw [show (RS.mk [] 10 0).done = 0 from rfl, show (RS.mk [] 10 0).taken = 10 from rfl]
  rintro e wc ⟨rfl, kc⟩
  have bc := hid (bb.trans (kc.mono (by omega)))
  have cg3 : wc.cell? ⟨g, 2, none⟩ = some (.int .i64 9) := (kc.cell (p := ⟨g, 2, none⟩) (by show g < _; omega)).trans cg2
  clear kc bb hb cg2 Tb
  have y2 : ((ByteArray.mk #[104, 105]).toList == (ByteArray.mk #[104, 105]).toList) = true := by simp
  go_wp2
  go_ret
  exact ⟨rfl, by rw [hB]; exact bc.out⟩
end Go.Proofs.YtonmhimoglgbgaaDoor

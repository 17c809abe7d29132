import Derived.Test.YtmpaliocfikifaaGreatDoorCBI2
import Derived.Test.YtmpaliocfikifaaGreatDoorCFN1
import Derived.Test.YtmpaliocfikifaaGreatDoorCO4
import Derived.Lib.SmallJoins
namespace Go.Proofs.YtmpaliocfikifaaGreatDoor
open Go.RowKit Go.Shelf
namespace Bat
theorem nums_len200 (cs : List Int) : (nums cs 200).length ≤ 200 := by rw [nums_len]; omega
theorem nmb_nil (k : Nat) : ¬ NmB (.slice none 0 0) [] k := fun e => by
  rcases e with e | ⟨j, v, e, _⟩
  · cases e
  · simp at e
theorem keep_three (w : World) (g : Nat) (a b c : Value) : Keep (fun k => k = g) w (((w.setCell ⟨g, 0, none⟩ a).setCell ⟨g, 1, none⟩ b).setCell ⟨g, 2, none⟩ c) :=
  ((Keep.ofSet (S := fun k => k = g) w g 0 a rfl).trans (Keep.ofSet (S := fun k => k = g) _ g 1 b rfl) (fun _ _ e => e)).trans (Keep.ofSet (S := fun k => k = g) _ g 2 c rfl) (fun _ _ e => e)
theorem ownAtI {w : World} {base : Nat} {I : List Int} {a : Option Addr} {n c : Nat} (h : Own w base (.slice a n c) (ivs I)) : AtI w a I := by
  obtain ⟨a', c', e, hat, _⟩ := Own.atI h
  injection e with e1
  subst e1
  exact hat
/-- what lies below the book -/
structure Gd (w : World) (X q h q' h' : Nat) (L : List (List UInt8)) (F F' : Nat → Prop) (H G : Nat) (cs nr : List Int) : Prop where
  t : TrL w q h L F
  r : RtL w q' h' L F'
  o : RowZ w H (cs ++ List.replicate 8 (-71))
  n : RowZ w G nr
  f1 : ∀ k, F k → k < X
  f2 : ∀ k, F' k → k < X
  f3 : H < X
  f4 : G < X
  f5 : ∀ k, F k → k < H
  f6 : ∀ k, F' k → k < H
  f7 : H < G
theorem keepX {w w' : World} {X : Nat} (h : Below X w w') : Keep (fun k => X ≤ k) w w' := ⟨h.os, h.tape, h.output, h.size, fun k _ hk => h.block k (by omega)⟩
theorem Gd.at {w w' : World} {X q h q' h' : Nat} {L : List (List UInt8)} {F F' : Nat → Prop} {H G : Nat} {cs nr : List Int} (g : Gd w X q h q' h' L F F' H G cs nr) (hb : Below X w w') : Gd w' X q h q' h' L F F' H G cs nr :=
  ⟨g.t.keep (keepX hb) (fun k hk e => by have := g.f1 k hk; omega), g.r.keep (keepX hb) (fun k hk e => by have := g.f2 k hk; omega), g.o.below hb g.f3, g.n.below hb g.f4, g.f1, g.f2, g.f3, g.f4, g.f5, g.f6, g.f7⟩
theorem Gd.put {w : World} {X q h q' h' : Nat} {L : List (List UInt8)} {F F' : Nat → Prop} {H G : Nat} {cs nr : List Int} (g : Gd w X q h q' h' L F F' H G cs nr) {i : Nat} (hi : i < cs.length) (z : Int) : Gd (w.setCell ⟨H, i, none⟩ (.int .i64 z)) X q h q' h' L F F' H G (cs.set i z) nr := by
  have k := Keep.ofSet (S := fun k => k = H) w H i (.int .i64 z) rfl
  have o := g.o.set i z
  rw [List.set_append_left _ _ hi] at o
  exact ⟨g.t.keep k (fun b e e2 => by have := g.f5 b e; omega), g.r.keep k (fun b e e2 => by have := g.f6 b e; omega), o, (k.block G g.n.lt (by have := g.f7; omega)).trans g.n, g.f1, g.f2, g.f3, g.f4, g.f5, g.f6, g.f7⟩
theorem mem_put {cs : List Int} {i : Nat} {z : Int} (h : ∀ c ∈ cs, -9223372036854775808 ≤ c ∧ c ≤ 9223372036854775807) (hz : -9223372036854775808 ≤ z ∧ z ≤ 9223372036854775807) : ∀ c ∈ cs.set i z, -9223372036854775808 ≤ c ∧ c ≤ 9223372036854775807 := fun c hc => by
  rcases List.mem_or_eq_of_mem_set hc with e | rfl
  · exact h c e
  · exact hz
theorem rowZ_head {w : World} {H : Nat} {cs l : List Int} (h : RowZ w H (cs ++ l)) : AtI w (some ⟨H, 0, none⟩) cs := fun j p hp => h.at j p (by rw [List.getElem?_append_left (List.getElem?_eq_some_iff.1 hp).1]; exact hp)
set_option maxRecDepth 100000 in
set_option maxHeartbeats 8000000 in
theorem proves12_any (raw cs : List Int) (ht sz : Int) (a a3 : Option Addr) (ca c3 : Nat) (w : World) (h1 : -9223372036854775808 ≤ ht) (h2 : ht ≤ 9223372036854775807) (s1 : -9223372036854775808 ≤ sz) (s2 : sz ≤ 9223372036854775807) (hr : raw.length ≤ 9223372036854775807) (hw : cs.length ≤ 17592186043904) (hin : ∀ c ∈ cs, -9223372036854775808 ≤ c ∧ c ≤ 9223372036854775807) (hA : AtI w a raw) (hA3 : AtI w a3 cs) (Z : Tb w) :
    Calls Tryz.prog 3 #[.slice a raw.length ca, .int .i64 ht, .int .i64 sz, .slice a3 cs.length c3] w fun r w' => r = .returned (.bool true) ∧ Below w.heap.size w w' := by
  have i0 := known12_any w Z
  have HZ := hid Z
  have hT := Z.lt
  have HA := hid hA
  have HA3 := hid hA3
  have HIN := hid hin
  obtain ⟨m, hm⟩ : ∃ m, cs.length = m := ⟨_, rfl⟩
  have HM := hid hm
  obtain ⟨mr, hmr⟩ : ∃ mr, raw.length = mr := ⟨_, rfl⟩
  have j2 := fun w' (hb : Below w.heap.size w w') => numbered_any raw 200 (by omega) a ca w' hr (HA.out.below hb (Nat.le_refl _))
  have jL := lentInts12_any cs a3 c3
  have jC := fun w' => count12_any sz cs (some ⟨w', 0, none⟩) (m + 8)
  have jR := rcount_any sz cs (by omega) hin a3 c3
  rw [hmr] at j2 ⊢
  rw [hm] at hw jL jC jR ⊢
  obtain ⟨L, hLL⟩ : ∃ L, nums raw 200 = L := ⟨_, rfl⟩
  have hL32 : Hid (Tree.Hs L) := by unfold Hid; rw [← hLL]; exact nums_hs raw 200
  have hl200 : L.length ≤ 200 := by rw [← hLL]; exact nums_len200 raw
  rw [hLL] at j2
  simp only [show (((200 : Nat) : Int)) = 200 from rfl] at j2
  clear Z hA hA3 hin hLL hm hmr
  go_enter Tryz.func3, Tryz.ntmps3
  go_wp2_with (go_at_call 6; fail)
  with_reducible refine i0.mono ?_
  rintro r w1 ⟨rfl, b1⟩
  have B1 := hid b1
  clear i0 b1
  have k2 := j2 w1 B1.out
  clear j2
  go_wp2_with (go_at_call 7; fail)
  with_reducible refine k2.mono ?_
  rintro r w2 ⟨v2, rfl, o2, b2⟩
  obtain ⟨al, cl, hv2, hal, hlc, hcm⟩ := Own.at o2
  subst hv2
  have B2 := hid (B1.out.trans (b2.mono B1.out.size))
  have AL2 := hid hal
  obtain ⟨k, hk⟩ : ∃ k, L.length = k := ⟨_, rfl⟩
  have HK := hid hk
  have j3 := planted12_any ht L hL32.out (by omega) al cl w2 h1 h2 hal (HZ.out.below B2.out hT)
  rw [hk] at j3 hl200 hlc ⊢
  clear k2 o2 b2 hal B1 hk
  go_wp2_with (go_at_call 8; fail)
  with_reducible refine j3.mono ?_
  rintro r w3 ⟨q, h, F, rfl, t3, _, b3⟩
  have B3 := hid (B2.out.trans (b3.mono B2.out.size))
  have AL3 := hid (AL2.out.below b3 (Nat.le_refl _))
  have TR3 := hid t3
  clear j3 t3 b3 B2 AL2
  obtain ⟨p8, hp, hp'⟩ : ∃ p : Nat, pk ht 8 = (p : Int) ∧ p < 8 := ⟨(pk ht 8).toNat, by have := pk_nonneg ht 8 (by omega); omega, by have := pk_lt ht 8 (by omega); have := pk_nonneg ht 8 (by omega); omega⟩
  have j4 := pick_any ht 8 h1 h2 (by omega) (by omega) w3
  rw [hp] at j4
  obtain ⟨h8, hn8⟩ : ∃ n : Nat, n = p8 + 1 := ⟨_, rfl⟩
  have j5 := rNew_any h8 (by omega) (by omega) w3 (Nat.le_trans hT B3.out.size)
  rw [show (h8 : Int) = 1 + (p8 : Int) by omega] at j5
  clear hp
  go_wp2_with (go_at_call 10; fail)
  with_reducible refine j4.mono ?_
  rintro r w4 ⟨rfl, h0⟩
  have h0 := h0.symm
  subst h0
  go_wp2_with (go_at_call 9; fail)
  with_reducible refine j5.mono ?_
  rintro r w4 ⟨q', F0, rfl, t4, f4, b4⟩
  have B4 := hid b4
  have RT4 := hid t4
  have FF4 := hid f4
  clear j4 j5 b4 t4 f4 hn8 hp'
  go_wp2
  go_loopw [14] (fun i w' => ∃ (j : Nat) (F' : Nat → Prop), j ≤ k ∧ i = .int .i64 (j : Int) ∧ Hid (RtL w' q' h8 (L.take j) F') ∧ Hid (∀ k, F' k → w3.heap.size ≤ k) ∧ Hid (Below w3.heap.size w3 w')) (fun i _ => k - (intOf i).toNat)
  case atStart => exact ⟨0, F0, by omega, rfl, by rw [List.take_zero]; exact RT4, FF4, B4⟩
  case round =>
    clear RT4 FF4 B4
    obtain ⟨j, F', hj, rfl, RT, FF, B⟩ := hrel
    by_cases hjk : j < k
    · have d0 : (j : Int) < (k : Int) := by omega
      have d1 : (0 : Int) ≤ (j : Int) := by omega
      have hjL : j < L.length := by rw [HK.out]; exact hjk
      obtain ⟨xl, rfl, _, hcx⟩ := (AL3.out.below B.out (Nat.le_refl _)) j L[j] (List.getElem?_eq_getElem hjL)
      have jA := rAdd_any RT.out L[j] (hL32.out _ (List.getElem_mem hjL)) (by rw [List.length_take]; omega) (Nat.le_trans hT (Nat.le_trans B3.out.size B.out.size))
      have etk : Hid (L.take (j + 1) = L.take j ++ [L[j]]) := by unfold Hid; rw [List.take_add_one, List.getElem?_eq_getElem hjL]; rfl
      generalize L[j] = y at *
      rw [show sv y = Value.string ⟨y.toArray⟩ from rfl] at jA hcx
      go_wp2_with (go_at_call 11; fail)
      with_reducible refine jA.mono ?_
      rintro r w5 ⟨rfl, F2, t5, m5⟩
      have N1 : Hid (RtL w5 q' h8 (L.take (j + 1)) F2) := by unfold Hid; rw [etk.out]; exact t5
      have N2 : Hid (∀ k, F2 k → w3.heap.size ≤ k) := fun k e => by
        rcases m5.new k e with e | e
        · exact FF.out k e
        · exact Nat.le_trans B.out.size e
      have N3 := hid (B.out.trans (keep_below m5.keep B.out.size FF.out))
      clear jA t5 m5
      go_wp2
      exact ⟨⟨j + 1, F2, by omega, by go_num, N1, N2, N3⟩, by simp [intOf]; omega⟩
    · obtain rfl : j = k := by omega
      have d0 : ¬ (j : Int) < (j : Int) := by omega
      rw [List.take_of_length_le (by rw [HK.out]; exact Nat.le_refl _)] at RT
      have B5 := hid (B3.out.trans (B.out.mono B3.out.size))
      have TR5 := hid (TR3.out.below B.out)
      have F5 := hid (fun k (e : F k) => TR3.out.lt k e)
      have j6 := jL wr (by omega) (HA3.out.below B5.out (Nat.le_refl _))
      clear TR3 B AL3 B3 jL
      go_wp2_with (go_at_call 12; fail)
      with_reducible refine j6.mono ?_
      rintro r w6 ⟨rfl, hR6, b6⟩
      have B6 := hid (B5.out.trans (b6.mono B5.out.size))
      have TR6 := hid (TR5.out.below b6)
      have RT6 := hid (RT.out.below b6)
      have R6 := hid hR6
      have j7 := jC wr.heap.size w6 (by omega) (rowZ_head hR6)
      have hH6 := hR6.lt
      have hHw : w.heap.size ≤ wr.heap.size := B5.out.size
      have F6 := hid (fun k (e : F k) => TR5.out.lt k e)
      have G6 := hid (fun k (e : F' k) => RT.out.lt k e)
      clear j6 hR6 b6 TR5 RT B5 F5 jC FF
      generalize wr.heap.size = H at *
      generalize (batchL sz cs).length = bn at *
      generalize tolE sz cs = te at *
      have e1 : (m : Int) ≤ (m : Int) + 8 := by omega
      have e2 : (0 : Int) ≤ (m : Int) := by omega
      have y1 : ((bn : Int) != (bn : Int)) = false := by simp
      have y2 : (te != te) = false := by simp
      have y3 : ((bn : Int) == (bn : Int)) = true := by simp
      have y4 : (te == te) = true := by simp
      go_wp2_with (go_at_call 13; fail)
      with_reducible refine j7.mono ?_
      rintro r w7 ⟨rfl, b7⟩
      have B7 := hid (B6.out.trans (b7.mono B6.out.size))
      have TR7 := hid (TR6.out.below b7)
      have RT7 := hid (RT6.out.below b7)
      have R7 := hid (R6.out.below b7 hH6)
      have hH7 : H < w7.heap.size := Nat.lt_of_lt_of_le hH6 b7.size
      have j8 := jR w7 (HA3.out.below B7.out (Nat.le_refl _))
      clear j7 b7 TR6 RT6 R6 B6 jR hH6
      go_wp2_with (go_at_call 14; fail)
      with_reducible refine j8.mono ?_
      rintro r w8 ⟨rfl, b8⟩
      have B8 := hid (B7.out.trans (b8.mono B7.out.size))
      have TR8 := hid (TR7.out.below b8)
      have RT8 := hid (RT7.out.below b8)
      have R8 := hid (R7.out.below b8 hH7)
      have hH8 : H < w8.heap.size := Nat.lt_of_lt_of_le hH7 b8.size
      have F8 := hid (fun k (e : F k) => TR7.out.lt k e)
      clear j8 b8 TR7 RT7 R7 B7 hH7
      obtain ⟨p2, hp2, hp2'⟩ : ∃ p : Nat, pk sz ((j : Int) + 2) = (p : Int) ∧ p < j + 2 := ⟨(pk sz ((j : Int) + 2)).toNat, by have := pk_nonneg sz ((j : Int) + 2) (by omega); omega, by have := pk_lt sz ((j : Int) + 2) (by omega); have := pk_nonneg sz ((j : Int) + 2) (by omega); omega⟩
      have j9 := pick_any sz ((j : Int) + 2) s1 s2 (by omega) (by omega) w8
      rw [hp2] at j9
      clear hp2
      go_wp2_with (go_at_call 10; fail)
      with_reducible refine j9.mono ?_
      rintro r w9 ⟨rfl, h0⟩
      have h0 := h0.symm
      subst h0
      clear j9
      have GD : Hid (Gd ((w8.alloc (.cells #[.int .i64 sz, .int .i64 (p2 : Int)] 3)).alloc (.cells #[.slice none 0 0, .slice none 0 0, .slice none 0 0, .slice none 0 0, .slice none 0 0] 40)) (w8.heap.size + 1) q h q' h8 L F F' H w8.heap.size cs [sz, (p2 : Int)]) := by
        have bb := ((Below.refl w8.heap.size w8).alloc (Nat.le_refl _) (.cells #[.int .i64 sz, .int .i64 (p2 : Int)] 3)).alloc (by rw [size_alloc]; omega) (.cells #[.slice none 0 0, .slice none 0 0, .slice none 0 0, .slice none 0 0, .slice none 0 0] 40)
        have nn : RowZ (w8.alloc (.cells #[.int .i64 sz, .int .i64 (p2 : Int)] 3)) w8.heap.size [sz, (p2 : Int)] := heap_alloc_new w8 _
        refine ⟨TR8.out.below bb, RT8.out.below bb, R8.out.below bb hH8, nn.below ((Below.refl _ _).alloc (Nat.le_refl _) _) (by rw [size_alloc]; omega), fun k e => ?_, fun k e => ?_, by omega, by omega, F6.out, G6.out, hH8⟩
        · have := TR8.out.lt k e; omega
        · have := RT8.out.lt k e; omega
      have BX : Hid (Below w.heap.size w ((w8.alloc (.cells #[.int .i64 sz, .int .i64 (p2 : Int)] 3)).alloc (.cells #[.slice none 0 0, .slice none 0 0, .slice none 0 0, .slice none 0 0, .slice none 0 0] 40))) := ((B8.out.alloc B8.out.size _).alloc (by rw [size_alloc]; exact Nat.le_succ_of_le B8.out.size) _)
      have CX : Hid (Cq ((w8.alloc (.cells #[.int .i64 sz, .int .i64 (p2 : Int)] 3)).alloc (.cells #[.slice none 0 0, .slice none 0 0, .slice none 0 0, .slice none 0 0, .slice none 0 0] 40)) ((w8.alloc (.cells #[.int .i64 sz, .int .i64 (p2 : Int)] 3)).alloc (.cells #[.slice none 0 0, .slice none 0 0, .slice none 0 0, .slice none 0 0, .slice none 0 0] 40)) (w8.heap.size + 1) (.slice none 0 0) (.slice none 0 0) [] [] [] (.slice none 0 0) [] []) := by
        have hb := heap_alloc_new (w8.alloc (.cells #[.int .i64 sz, .int .i64 (p2 : Int)] 3)) (.cells #[.slice none 0 0, .slice none 0 0, .slice none 0 0, .slice none 0 0, .slice none 0 0] 40)
        rw [size_alloc] at hb
        exact ⟨Below.refl _ _, Bk.nil hb, Nm.nil _, fun k e => absurd e (nmb_nil k), fun k _ e => nmb_nil k e⟩
      have hXw : w.heap.size ≤ w8.heap.size + 1 := Nat.le_succ_of_le B8.out.size
      clear TR8 RT8 R8 hH8 F8 B8 F6 G6
      go_wp2
      generalize (w8.alloc (.cells #[.int .i64 sz, .int .i64 (p2 : Int)] 3)).alloc (.cells #[.slice none 0 0, .slice none 0 0, .slice none 0 0, .slice none 0 0, .slice none 0 0] 40) = wX at *
      obtain ⟨X, hX⟩ : ∃ X, w8.heap.size + 1 = X := ⟨_, rfl⟩
      rw [hX] at GD CX hXw ⊢
      clear hX
      generalize w8.heap.size = G at *
      go_loopw [22, 23, 24, 25, 26, 27, 28, 29] (fun vn i _ _ _ _ _ _ w' => ∃ (t : Nat) (vf vw : Value) (us cc : List Value) (Ls : List (List (List UInt8))) (ns : List Value) (Is : List (List Int)), t ≤ 4 ∧ i = .int .i64 (t : Int) ∧ Hid (us.length = t ∧ ns.length = t) ∧ Hid (Cq wX w' X vf vw us cc Ls vn ns Is)) (fun _ i _ _ _ _ _ _ _ => 4 - (intOf i).toNat)
      case atStart => exact ⟨0, _, _, [], [], [], [], [], by omega, rfl, ⟨rfl, rfl⟩, CX⟩
      case round =>
        clear CX
        obtain ⟨t, vf, vw, us, cc, Ls, ns, Is, ht4, rfl, hln, C⟩ := hrel
        have BW := hid (BX.out.trans (C.out.bel.mono hXw))
        have GW := hid (GD.out.at C.out.bel)
        by_cases ht : t < 4
        · have d1 : (t : Int) < 4 := by omega
          have d2 : (0 : Int) ≤ (t : Int) := by omega
          obtain ⟨t2, ht2, ht2'⟩ : ∃ t2 : Nat, Hid (t % 2 = t2) ∧ t2 < 2 := ⟨t % 2, rfl, Nat.mod_lt _ (by omega)⟩
          have rm : (t : Int).tmod 2 = (t2 : Int) := by rw [← ht2.out, Int.tmod_eq_emod_of_nonneg (by omega)]; omega
          have rm' : (t : Int) % 2 = (t2 : Int) := by rw [← ht2.out]; omega
          have d3 : (t2 : Int) < 2 := by omega
          have d4 : (0 : Int) ≤ (t2 : Int) := by omega
          obtain ⟨z, hz⟩ : ∃ z, [sz, (p2 : Int)][t2]? = some z := ⟨_, List.getElem?_eq_getElem (by simpa using ht2')⟩
          have cz := GW.out.n.cell hz
          have iP : ∀ w'', Below wr.heap.size wr w'' → Calls Tryz.prog 15 #[.pointer (some ⟨q, 0, none⟩), .int .i64 z, .slice (some ⟨H, 0, none⟩) m (m + 8)] w'' (PrvA w'' (prvN L.length z cs) (prvI L.length z cs) (prvH L z cs) (prvE L.length z cs)) := fun w'' hb => by
            have := prove12_any (GW.out.t.below hb) (HZ.out.below (BW.out.trans (hb.mono BW.out.size)) hT) (by rw [HK.out]; omega) z cs (some ⟨H, 0, none⟩) (m + 8) (by rw [HM.out]; omega) ((rowZ_head GW.out.o).below hb (Nat.le_refl _))
            rwa [HM.out] at this
          have iR : ∀ w'', Below wr.heap.size wr w'' → Calls Tryz.prog 16 #[.pointer (some ⟨q', 0, none⟩), .int .i64 z, .slice a3 m c3] w'' fun r w' => ∃ ai ci ah ch, r = .returned (.tuple #[bt (prvN L.length z cs) (.slice ai (prvI L.length z cs).length ci) (.slice ah (prvH L z cs).length ch), .int .i64 (prvE L.length z cs)]) ∧ AtI w' ai (prvI L.length z cs) ∧ At w' ah (prvH L z cs) ∧ Below w''.heap.size w'' w' := fun w'' hb => by
            have := rprove_any (GW.out.r.below hb) (by rw [HK.out]; omega) z cs (by rw [HM.out]; omega) HIN.out a3 c3 (HA3.out.below (BW.out.trans (hb.mono BW.out.size)) (Nat.le_refl _))
            rwa [HM.out] at this
          have hI256 : (prvI L.length z cs).length ≤ 256 := prvI_len
          have hH200 : (prvH L z cs).length ≤ 1000000 := Nat.le_trans (prvH_len (by rw [HK.out]; omega)) (by rw [HK.out]; omega)
          generalize prvN L.length z cs = PN at *
          generalize prvI L.length z cs = PI at *
          generalize prvH L z cs = PH at *
          generalize prvE L.length z cs = PE at *
          have bB : Below wr.heap.size wr wr.drew := (Below.refl wr.heap.size wr).drew
          have bA : Below wr.heap.size wr (wr.alloc (.cells #[.int .i64 0, .slice none 0 0, .slice none 0 0] 43)).drew := ((Below.refl wr.heap.size wr).alloc (Nat.le_refl _) _).drew
          have sA : BtI (wr.alloc (.cells #[.int .i64 0, .slice none 0 0, .slice none 0 0] 43)).drew wr.heap.size 0 (.slice none 0 0) (.slice none 0 0) := BtI.new wr 0 (.slice none 0 0) (.slice none 0 0)
          have zX := C.out.lx
          have cz1 : wr.drew.cell? ⟨G, t2, none⟩ = some (.int .i64 z) := cz
          have cz2 : (wr.alloc (.cells #[.int .i64 0, .slice none 0 0, .slice none 0 0] 43)).drew.cell? ⟨G, t2, none⟩ = some (.int .i64 z) := (bA.cell (p := ⟨G, t2, none⟩) (Nat.lt_trans GD.out.f4 zX)).trans cz
          have cz3 : (wr.alloc (.cells #[.int .i64 0, .slice none 0 0, .slice none 0 0] 43)).cell? ⟨G, t2, none⟩ = some (.int .i64 z) := cz2
          have cz4 : (wr.drew.alloc (.cells #[.int .i64 0, .slice none 0 0, .slice none 0 0] 43)).cell? ⟨G, t2, none⟩ = some (.int .i64 z) := cz2
          go_wp2
          go_cut [24, 25] from 115 to 127 (fun u v w' => ∃ (ga : Nat) (ai : Option Addr) (ci : Nat) (ah : Option Addr) (ch : Nat), u = .pointer (some ⟨ga, 0, none⟩) ∧ v = .int .i64 PE ∧ Hid (BtI w' ga PN (.slice ai PI.length ci) (.slice ah PH.length ch)) ∧ wr.heap.size ≤ ga ∧ Hid (Own w' wr.heap.size (.slice ai PI.length ci) (ivs PI)) ∧ Hid (Own w' wr.heap.size (.slice ah PH.length ch) (svs PH)) ∧ Hid (∀ k, (Value.slice ai PI.length ci).ownBlock = some k → (Value.slice ah PH.length ch).ownBlock ≠ some k) ∧ Hid (Below wr.heap.size wr w'))
          case first =>
            go_region_with ((go_at_call 15; first
              | ((with_reducible refine (iP _ bA).mono ?_); rintro r w1 ⟨ai, ci, ah, ch, rfl, oi, oh, dd, b1⟩; have S1 := sA.below b1; have kc0 := S1.c0; have kc1 := S1.c1; have kc2 := S1.c2; have kf0 : w1.frozen? ⟨wr.heap.size, 0, none⟩ = false := frozen_of_row _ _ _ _ _ S1; have kf1 : w1.frozen? ⟨wr.heap.size, 1, none⟩ = false := frozen_of_row _ _ _ _ _ S1; have kf2 : w1.frozen? ⟨wr.heap.size, 2, none⟩ = false := frozen_of_row _ _ _ _ _ S1)
              | ((with_reducible refine (iP _ bB).mono ?_); rintro r w1 ⟨ai, ci, ah, ch, rfl, oi, oh, dd, b1⟩)))
            all_goals go_wp2
            all_goals go_meet
            all_goals first
              | (have ba := (Below.refl w1.heap.size w1).alloc (Nat.le_refl _) (.cells #[.int .i64 PN, .slice ai PI.length ci, .slice ah PH.length ch] 43)
                 exact ⟨w1.heap.size, ai, ci, ah, ch, rfl, rfl, BtI.new w1 _ _ _, b1.size, oi.below ba (Nat.le_refl _), oh.below ba (Nat.le_refl _), dd, (bB.trans b1).trans (ba.mono b1.size)⟩)
              | (have zz : (wr.alloc (.cells #[.int .i64 0, .slice none 0 0, .slice none 0 0] 43)).drew.heap.size = wr.heap.size + 1 := size_alloc _ _
                 have k3 := keep_three w1 wr.heap.size (.int .i64 PN) (.slice ai PI.length ci) (.slice ah PH.length ch)
                 exact ⟨wr.heap.size, ai, ci, ah, ch, rfl, rfl, BtI.three S1 _ _ _, Nat.le_refl _, (oi.keep k3 (fun k hk e => by have := oi.ge k hk; omega)).mono (by omega), (oh.keep k3 (fun k hk e => by have := oh.ge k hk; omega)).mono (by omega), dd, below_three (bA.trans (b1.mono (by omega))) (Nat.le_refl _) _ _ _⟩)
          case rest =>
          obtain ⟨ga, ai, ci, ah, ch, rfl, rfl, SA, zga, OI, OH, DD, B2⟩ := hcut
          have zG : G < wr.heap.size := Nat.lt_trans GD.out.f4 zX
          have czc := (B2.out.cell (p := ⟨G, t2, none⟩) zG).trans cz
          have C2 := hid (C.out.below B2.out)
          have FI : Hid (Fv X vf vw us cc u22 ns (.slice ai PI.length ci)) := C.out.fresh OI.out.ge
          have FH : Hid (Fv X vf vw us cc u22 ns (.slice ah PH.length ch)) := C.out.fresh OH.out.ge
          have NB : Hid (∀ k, BkB X vf vw us cc k → k < wr.heap.size) := fun k e => (bk_lt C.out.bk e).2
          have k3 := iR wc B2.out
          clear iP iR bA sA bB cz hz cz1 cz2 cz3 cz4 GW BW C
          go_wp2_with (go_at_call 16; fail)
          with_reducible refine k3.mono ?_
          rintro r w3 ⟨ai', ci', ah', ch', rfl, hai', hah', b3⟩
          have ba := (Below.refl w3.heap.size w3).alloc (Nat.le_refl _) (.cells #[.int .i64 PN, .slice ai' PI.length ci', .slice ah' PH.length ch'] 43)
          have b34 := b3.trans (ba.mono b3.size)
          have C4 := hid (C2.out.below b34)
          have OI4 := hid (OI.out.below b34 (Nat.le_refl _))
          have OH4 := hid (OH.out.below b34 (Nat.le_refl _))
          have SA4 := hid (SA.out.below b34)
          have SB4 := hid (BtI.new w3 PN (.slice ai' PI.length ci') (.slice ah' PH.length ch'))
          have AI4 := hid (hai'.below ba (Nat.le_refl _))
          have AH4 := hid (hah'.below ba (Nat.le_refl _))
          have B4 := hid (B2.out.trans (b34.mono B2.out.size))
          clear k3 hai' hah' b3 ba b34 C2 OI OH SA B2 czc
          go_upto_region 24 with fail
          generalize w3.alloc (.cells #[.int .i64 PN, .slice ai' PI.length ci', .slice ah' PH.length ch'] 43) = w4 at *
          generalize w3.heap.size = gb at *
          have jS := sameI_yes PI ai ai' ci ci' w4 (ownAtI OI4.out) AI4.out (by omega)
          have a1 := SA4.out.c1
          have e5 := SB4.out.c1
          go_wp2_with (go_at_call 17; fail)
          with_reducible refine jS.mono ?_
          rintro r w5 ⟨rfl, b5, _⟩
          have C5 := hid (C4.out.below b5)
          have OI5 := hid (OI4.out.below b5 (Nat.le_refl _))
          have OH5 := hid (OH4.out.below b5 (Nat.le_refl _))
          have SA5 := hid (SA4.out.below b5)
          have SB5 := hid (SB4.out.below b5)
          have AH5 := hid (AH4.out.below b5 (Nat.le_refl _))
          have B5 := hid (B4.out.trans (b5.mono B4.out.size))
          clear jS a1 e5 b5 C4 OI4 OH4 SA4 SB4 AI4 AH4 B4
          have jT := same_yes PH ah ah' ch ch' w5 (ownAt OH5.out) AH5.out (by omega)
          have a2 := SA5.out.c2
          have e6 := SB5.out.c2
          go_wp2_with (go_at_call 18; fail)
          with_reducible refine jT.mono ?_
          rintro r w6 ⟨rfl, b6, _⟩
          have C6 := hid (C5.out.below b6)
          have OI6 := hid (OI5.out.below b6 (Nat.le_refl _))
          have OH6 := hid (OH5.out.below b6 (Nat.le_refl _))
          have SA6 := hid (SA5.out.below b6)
          have SB6 := hid (SB5.out.below b6)
          have B6 := hid (B5.out.trans (b6.mono B5.out.size))
          clear jT a2 e6 b6 C5 OI5 OH5 SA5 SB5 AH5 B5
          have p0 := SA6.out.c0
          have p1 := SB6.out.c0
          have p2' := SA6.out.c2
          have yN : (PN != PN) = false := by simp
          have yE : (PE != PE) = false := by simp
          have jK := takes_any X X wr.heap.size vf vw (.slice none 0 0) (.slice none 0 0) (.slice none 0 0) ah PH.length ch us cc PH w6 C6.out.bk.row C6.out.bk.free C6.out.bk.was OH6.out (by have := hln.out.1; omega) (by have := hln.out.1; have := C6.out.bk.l1; have := C6.out.bk.l2; omega) (by omega) (Nat.le_of_lt C6.out.lx) C6.out.bk.dX.1 C6.out.bk.dX.2 C6.out.bk.dFW (fun k hk => ⟨(FH.out.fr k hk).1, (FH.out.fr k hk).2.1, (FH.out.fr k hk).2.2.1⟩)
          go_wp2_with (go_at_call 19; fail)
          with_reducible refine jK.mono ?_
          rintro r w7 ⟨rfl, vf', vw', c, T⟩
          have C7 := hid (C6.out.took T OH6.out (Nat.le_of_lt zX) hH200 FH.out)
          obtain ⟨FI7, OI7⟩ := FI.out.took T OI6.out DD.out
          have SA7 : BtI w7 ga PN (.slice ai PI.length ci) (.slice ah PH.length ch) := (T.keep.block ga (lt_of_heap SA6.out) (fun e => by
            rcases e with e | e | e
            · omega
            · have := NB.out ga (.inr (.inl e)); omega
            · have := NB.out ga (.inr (.inr (.inl e))); omega)).trans SA6.out
          have q1 := SA7.c1
          obtain ⟨vn8, w8, hap, ho8, hg8⟩ := In.append_iss w7 u22 ns ai PI.length ci C7.out.nm.lst (by have := hln.out.2; omega)
          have C8 := hid (C7.out.push (I := PI) (by have := own_m1 OI7; rwa [ivs_length] at this) hI256 (fun k hk => Nat.le_trans (Nat.le_of_lt zX) (OI7.ge k hk)) FI7 hg8 ho8)
          obtain ⟨na, nc, hu22, _, _⟩ := C7.out.nm.lst.shape
          have hl8 : Hid ((us ++ [Value.slice ah PH.length ch]).length = t + 1 ∧ (ns ++ [Value.slice ai PI.length ci]).length = t + 1) := by
            have := hln.out
            refine ⟨?_, ?_⟩ <;> simp <;> omega
          clear jK C6 OI6 OH6 SA6 SB6 p0 p1 p2' T C7 FI FH FI7 OI7 SA7 ho8 hg8 B6 NB DD
          subst hu22
          go_wp2_with (at_builtin; go_must (refine Lib.wpList_append_run _ rfl _ _ 41 41 rfl _ _ rfl rfl _ _ hap ?_))
          first
            | exact ⟨⟨t + 1, vf', vw', _, _, _, _, _, by omega, by go_num, hl8, C8⟩, by simp [intOf]; omega⟩
            | (refine ⟨?_, by simp [intOf]; omega⟩
               repeat apply Exists.intro
               exact ⟨⟨t + 1, vf', vw', _, _, _, _, _, by omega, by go_num, hl8, C8⟩, rfl⟩)
        · obtain rfl : t = 4 := by omega
          have d1 : ¬ (((4 : Nat) : Int) < 4) := by omega
          have jk : ∀ w'', Below X wX w'' → Calls Tryz.prog 20 #[.slice (some ⟨H, 0, none⟩) (m + 8) (m + 8), .slice a3 m c3] w'' fun e w' => e = .returned (.bool true) ∧ Below w''.heap.size w'' w' ∧ w'.heap = w''.heap := fun w'' hb => by
            have := keptInts12_any cs H (m + 8) a3 c3 w'' (by rw [HM.out]; omega) (by rw [HM.out]; omega) (GD.out.at hb).o (HA3.out.below (BX.out.trans (hb.mono hXw)) (Nat.le_refl _))
            rwa [HM.out] at this
          clear BW GW
          go_wp2_with (go_at_call 20; fail)
          with_reducible refine (jk wr C.out.bel).mono ?_
          rintro r w1 ⟨rfl, b1, _⟩
          have C1 := hid (C.out.below b1)
          have jst := C1.out.still hln.out.1 (by omega) (by omega)
          clear b1 C
          go_wp2_with (go_at_call 21; fail)
          with_reducible refine jst.mono ?_
          rintro r w2 ⟨rfl, nm2, bX2, l2⟩
          have jin := nm2.ints hln.out.2 (by omega) (by omega)
          go_wp2_with (go_at_call 22; fail)
          with_reducible refine jin.mono ?_
          rintro r w3 ⟨rfl, k3⟩
          have BX3 := hid (bX2.trans (keep_below k3 (Nat.le_of_lt l2) fun k e => C1.out.ge k (.inr e)))
          have lX3 : X ≤ w3.heap.size := Nat.le_trans (Nat.le_of_lt l2) k3.size
          clear jst jin nm2 k3 bX2 l2 C1
          go_wp2_with (go_at_call 20; fail)
          with_reducible refine (jk w3 BX3.out).mono ?_
          rintro r w4 ⟨rfl, b4, _⟩
          have BX4 := hid (BX3.out.trans (b4.mono lX3))
          have lX4 : X ≤ w4.heap.size := Nat.le_trans lX3 b4.size
          have G4 := hid (GD.out.at BX4.out)
          have jsz := tSizeL G4.out.t
          rw [HK.out] at jsz
          have yj : ((j : Int) != (j : Int)) = false := by simp
          have BW4 := hid (BX.out.trans (BX4.out.mono hXw))
          clear b4 BX3 lX3 jk
          by_cases hm0 : m = 0
          · subst hm0
            have q0 : (((0 : Nat) : Int) == 0) = true := rfl
            go_wp2_with (go_at_call 23; (with_reducible refine jsz.mono ?_); rintro r w5 ⟨rfl, h0⟩; have h0 := h0.symm; subst h0)
            go_ret
            exact ⟨rfl, BW4.out⟩
          have q0 : ((m : Int) == 0) = false := by simp; omega
          have v1 : IntKind.i64.wrap ((m : Int) - 1) = (m : Int) - 1 := wrap_small _ (by omega) (by omega)
          have v2 : (0 : Int) ≤ (m : Int) - 1 := by omega
          have v3 : (m : Int) - 1 < (m : Int) + 8 := by omega
          have v4 : ((m : Int) - 1).toNat = m - 1 := by omega
          have hml : m - 1 < cs.length := by rw [HM.out]; omega
          obtain ⟨z1, hz1⟩ : ∃ z1, Hid (cs[m - 1]? = some z1) := ⟨_, List.getElem?_eq_getElem hml⟩
          have cz1 := G4.out.o.cell (j := m - 1) (p := z1) (by rw [List.getElem?_append_left hml]; exact hz1.out)
          have fz1 := G4.out.o.free (m - 1)
          have hz2 : -9223372036854775808 ≤ wrap64 (z1 + 1) ∧ wrap64 (z1 + 1) ≤ 9223372036854775807 := by unfold wrap64; omega
          have G5 := hid (G4.out.put hml (wrap64 (z1 + 1)))
          have HN5 := hid (mem_put (i := m - 1) HIN.out hz2)
          have HM5 : Hid ((cs.set (m - 1) (wrap64 (z1 + 1))).length = m) := by unfold Hid; rw [List.length_set]; exact HM.out
          have B5 := hid (BW4.out.setCell (p := ⟨H, m - 1, none⟩) hHw (.int .i64 (wrap64 (z1 + 1))))
          have lX5 : X ≤ (w4.setCell ⟨H, m - 1, none⟩ (.int .i64 (wrap64 (z1 + 1)))).heap.size := by rw [World.size_setCell]; exact lX4
          go_upto_region 39 with (first | (go_at_call 23; (with_reducible refine jsz.mono ?_); rintro r w5 ⟨rfl, h0⟩; have h0 := h0.symm; subst h0))
          clear jsz cz1 fz1 G4 BX4 BW4 lX4 v1 v2 v3 v4
          generalize w4.setCell ⟨H, m - 1, none⟩ (.int .i64 (wrap64 (z1 + 1))) = w5 at *
          generalize cs.set (m - 1) (wrap64 (z1 + 1)) = cs2 at *
          obtain ⟨v6, w6, hap, hO6, hb6⟩ := append_ints w5 w5.heap.size (.slice none 0 0) [] (Own.nil _ _) (Nat.le_refl _) (some ⟨H, 0, none⟩) (m + 8) cs2 (rowZ_head G5.out.o) (by rw [HM5.out]; omega) (by rw [HM5.out]; simp; omega)
          rw [HM5.out] at hap
          rw [List.nil_append] at hO6
          obtain ⟨a6, c6, hv6, hat6, _, _⟩ := Own.atI hO6
          rw [HM5.out] at hv6
          subst hv6
          have G6' := hid (G5.out.at (hb6.mono lX5))
          have B6 := hid (B5.out.trans (hb6.mono B5.out.size))
          have lX6 : X ≤ w6.heap.size := Nat.le_trans lX5 hb6.size
          have AI6 := hid hat6
          clear hO6 hb6 hat6 G5 B5 lX5
          have jC := count12_any sz cs2 (some ⟨H, 0, none⟩) (m + 8) w6 (by rw [HM5.out]; omega) (rowZ_head G6'.out.o)
          have jR := fun w' => rcount_any sz cs2 (by rw [HM5.out]; omega) HN5.out a6 c6 w'
          rw [HM5.out] at jC jR
          generalize (batchL sz cs2).length = bn2 at *
          generalize tolE sz cs2 = te2 at *
          go_wp2_with (first | (at_builtin; go_must (refine Lib.wpList_append_run _ rfl _ _ 22 22 rfl _ _ rfl rfl _ _ hap ?_)) | (go_at_call 13; fail))
          with_reducible refine jC.mono ?_
          rintro r w7 ⟨rfl, b7⟩
          have G7 := hid (G6'.out.at (b7.mono lX6))
          have B7 := hid (B6.out.trans (b7.mono B6.out.size))
          have lX7 : X ≤ w7.heap.size := Nat.le_trans lX6 b7.size
          have AI7 := hid (AI6.out.below b7 (Nat.le_refl _))
          have jR7 := jR w7 AI7.out
          clear jC jR b7 hap G6' B6 lX6 AI6
          go_wp2_with (go_at_call 14; fail)
          with_reducible refine jR7.mono ?_
          rintro r w8 ⟨rfl, b8⟩
          have G8 := hid (G7.out.at (b8.mono lX7))
          have B8 := hid (B7.out.trans (b8.mono B7.out.size))
          have lX8 : X ≤ w8.heap.size := Nat.le_trans lX7 b8.size
          have AI8 := hid (AI7.out.below b8 (Nat.le_refl _))
          clear jR7 b8 G7 B7 lX7 AI7
          have cz := G8.out.n.cell (j := 1) (p := (p2 : Int)) rfl
          have iP : ∀ w'', Below w8.heap.size w8 w'' → Calls Tryz.prog 15 #[.pointer (some ⟨q, 0, none⟩), .int .i64 (p2 : Int), .slice (some ⟨H, 0, none⟩) m (m + 8)] w'' (PrvA w'' (prvN L.length p2 cs2) (prvI L.length p2 cs2) (prvH L p2 cs2) (prvE L.length p2 cs2)) := fun w'' hb => by
            have := prove12_any (G8.out.t.below hb) (HZ.out.below (B8.out.trans (hb.mono B8.out.size)) hT) (by rw [HK.out]; omega) p2 cs2 (some ⟨H, 0, none⟩) (m + 8) (by rw [HM5.out]; omega) ((rowZ_head G8.out.o).below hb (Nat.le_refl _))
            rwa [HM5.out] at this
          have iR : ∀ w'', Below w8.heap.size w8 w'' → Calls Tryz.prog 16 #[.pointer (some ⟨q', 0, none⟩), .int .i64 (p2 : Int), .slice a6 m c6] w'' fun r w' => ∃ ai ci ah ch, r = .returned (.tuple #[bt (prvN L.length p2 cs2) (.slice ai (prvI L.length p2 cs2).length ci) (.slice ah (prvH L p2 cs2).length ch), .int .i64 (prvE L.length p2 cs2)]) ∧ AtI w' ai (prvI L.length p2 cs2) ∧ At w' ah (prvH L p2 cs2) ∧ Below w''.heap.size w'' w' := fun w'' hb => by
            have := rprove_any (G8.out.r.below hb) (by rw [HK.out]; omega) p2 cs2 (by rw [HM5.out]; omega) HN5.out a6 c6 (AI8.out.below hb (Nat.le_refl _))
            rwa [HM5.out] at this
          have hI256 : (prvI L.length p2 cs2).length ≤ 256 := prvI_len
          have hH200 : (prvH L p2 cs2).length ≤ 1000000 := Nat.le_trans (prvH_len (by rw [HK.out]; omega)) (by rw [HK.out]; omega)
          generalize prvN L.length p2 cs2 = PN at *
          generalize prvI L.length p2 cs2 = PI at *
          generalize prvH L p2 cs2 = PH at *
          generalize prvE L.length p2 cs2 = PE at *
          have zG : G < w8.heap.size := Nat.lt_of_lt_of_le GD.out.f4 lX8
          have bB : Below w8.heap.size w8 w8.drew := (Below.refl w8.heap.size w8).drew
          have bA : Below w8.heap.size w8 (w8.alloc (.cells #[.int .i64 0, .slice none 0 0, .slice none 0 0] 43)).drew := ((Below.refl w8.heap.size w8).alloc (Nat.le_refl _) _).drew
          have sA : BtI (w8.alloc (.cells #[.int .i64 0, .slice none 0 0, .slice none 0 0] 43)).drew w8.heap.size 0 (.slice none 0 0) (.slice none 0 0) := BtI.new w8 0 (.slice none 0 0) (.slice none 0 0)
          have cz1 : w8.drew.cell? ⟨G, 1, none⟩ = some (.int .i64 (p2 : Int)) := cz
          have cz2 : (w8.alloc (.cells #[.int .i64 0, .slice none 0 0, .slice none 0 0] 43)).drew.cell? ⟨G, 1, none⟩ = some (.int .i64 (p2 : Int)) := (bA.cell (p := ⟨G, 1, none⟩) zG).trans cz
          have cz3 : (w8.alloc (.cells #[.int .i64 0, .slice none 0 0, .slice none 0 0] 43)).cell? ⟨G, 1, none⟩ = some (.int .i64 (p2 : Int)) := cz2
          have cz4 : (w8.drew.alloc (.cells #[.int .i64 0, .slice none 0 0, .slice none 0 0] 43)).cell? ⟨G, 1, none⟩ = some (.int .i64 (p2 : Int)) := cz2
          go_wp2
          go_cut [35, 36] from 239 to 249 (fun u v w' => ∃ (ga : Nat) (ai : Option Addr) (ci : Nat) (ah : Option Addr) (ch : Nat), u = .pointer (some ⟨ga, 0, none⟩) ∧ v = .int .i64 PE ∧ Hid (BtI w' ga PN (.slice ai PI.length ci) (.slice ah PH.length ch)) ∧ Hid (Own w' w8.heap.size (.slice ai PI.length ci) (ivs PI)) ∧ Hid (Own w' w8.heap.size (.slice ah PH.length ch) (svs PH)) ∧ Hid (Below w8.heap.size w8 w'))
          case first =>
            --DEV2
            go_region_with ((go_at_call 15; first
              | ((with_reducible refine (iP _ bA).mono ?_); rintro r w1 ⟨ai, ci, ah, ch, rfl, oi, oh, dd, b1⟩; have S1 := sA.below b1; have kc0 := S1.c0; have kc1 := S1.c1; have kc2 := S1.c2; have kf0 : w1.frozen? ⟨w8.heap.size, 0, none⟩ = false := frozen_of_row _ _ _ _ _ S1; have kf1 : w1.frozen? ⟨w8.heap.size, 1, none⟩ = false := frozen_of_row _ _ _ _ _ S1; have kf2 : w1.frozen? ⟨w8.heap.size, 2, none⟩ = false := frozen_of_row _ _ _ _ _ S1)
              | ((with_reducible refine (iP _ bB).mono ?_); rintro r w1 ⟨ai, ci, ah, ch, rfl, oi, oh, dd, b1⟩)))
            all_goals go_wp2
            all_goals go_meet
            all_goals first
              | (have ba := (Below.refl w1.heap.size w1).alloc (Nat.le_refl _) (.cells #[.int .i64 PN, .slice ai PI.length ci, .slice ah PH.length ch] 43)
                 exact ⟨w1.heap.size, ai, ci, ah, ch, rfl, rfl, BtI.new w1 _ _ _, oi.below ba (Nat.le_refl _), oh.below ba (Nat.le_refl _), (bB.trans b1).trans (ba.mono b1.size)⟩)
              | (have zz : (w8.alloc (.cells #[.int .i64 0, .slice none 0 0, .slice none 0 0] 43)).drew.heap.size = w8.heap.size + 1 := size_alloc _ _
                 have k3 := keep_three w1 w8.heap.size (.int .i64 PN) (.slice ai PI.length ci) (.slice ah PH.length ch)
                 exact ⟨w8.heap.size, ai, ci, ah, ch, rfl, rfl, BtI.three S1 _ _ _, (oi.keep k3 (fun k hk e => by have := oi.ge k hk; omega)).mono (by omega), (oh.keep k3 (fun k hk e => by have := oh.ge k hk; omega)).mono (by omega), below_three (bA.trans (b1.mono (by omega))) (Nat.le_refl _) _ _ _⟩)
          case rest =>
          --REST2
          obtain ⟨ga, ai, ci, ah, ch, rfl, rfl, SA, OI, OH, B2⟩ := hcut
          have czc := (B2.out.cell (p := ⟨G, 1, none⟩) zG).trans cz
          have k3 := iR wc B2.out
          have BC := hid (B8.out.trans (B2.out.mono B8.out.size))
          clear iP iR bA sA bB cz cz1 cz2 cz3 cz4
          go_wp2_with (go_at_call 16; fail)
          with_reducible refine k3.mono ?_
          rintro r w3 ⟨ai', ci', ah', ch', rfl, hai', hah', b3⟩
          have ba := (Below.refl w3.heap.size w3).alloc (Nat.le_refl _) (.cells #[.int .i64 PN, .slice ai' PI.length ci', .slice ah' PH.length ch'] 43)
          have b34 := b3.trans (ba.mono b3.size)
          have OI4 := hid (OI.out.below b34 (Nat.le_refl _))
          have OH4 := hid (OH.out.below b34 (Nat.le_refl _))
          have SA4 := hid (SA.out.below b34)
          have SB4 := hid (BtI.new w3 PN (.slice ai' PI.length ci') (.slice ah' PH.length ch'))
          have AI4 := hid (hai'.below ba (Nat.le_refl _))
          have AH4 := hid (hah'.below ba (Nat.le_refl _))
          have B4 := hid (BC.out.trans (b34.mono BC.out.size))
          clear k3 hai' hah' b3 ba b34 OI OH SA B2 czc BC
          go_upto_region 44 with fail
          generalize w3.alloc (.cells #[.int .i64 PN, .slice ai' PI.length ci', .slice ah' PH.length ch'] 43) = w4 at *
          generalize w3.heap.size = gb at *
          have jS := sameI_yes PI ai ai' ci ci' w4 (ownAtI OI4.out) AI4.out (by omega)
          have a1 := SA4.out.c1
          have e5 := SB4.out.c1
          go_wp2_with (go_at_call 17; fail)
          with_reducible refine jS.mono ?_
          rintro r w5 ⟨rfl, b5, _⟩
          have OH5 := hid (OH4.out.below b5 (Nat.le_refl _))
          have SA5 := hid (SA4.out.below b5)
          have SB5 := hid (SB4.out.below b5)
          have AH5 := hid (AH4.out.below b5 (Nat.le_refl _))
          have B5 := hid (B4.out.trans (b5.mono B4.out.size))
          clear jS a1 e5 b5 OI4 OH4 SA4 SB4 AI4 AH4 B4
          have jT := same_yes PH ah ah' ch ch' w5 (ownAt OH5.out) AH5.out (by omega)
          have a2 := SA5.out.c2
          have e6 := SB5.out.c2
          go_wp2_with (go_at_call 18; fail)
          with_reducible refine jT.mono ?_
          rintro r w6 ⟨rfl, b6, _⟩
          have SA6 := hid (SA5.out.below b6)
          have SB6 := hid (SB5.out.below b6)
          have B6 := hid (B5.out.trans (b6.mono B5.out.size))
          clear jT a2 e6 b6 OH5 SA5 SB5 AH5 B5
          have p0 := SA6.out.c0
          have p1 := SB6.out.c0
          have yN : (PN == PN) = true := by simp
          have yE : (PE == PE) = true := by simp
          have yn : ((bn2 : Int) == (bn2 : Int)) = true := by simp
          have yt : (te2 == te2) = true := by simp
          go_wp2
          go_ret
          exact ⟨rfl, B6.out⟩
end Bat
end Go.Proofs.YtmpaliocfikifaaGreatDoor

namespace Go.Proofs.YtmpaliocfikifaaGreatDoor
open Go.ChangeShapes Go.WideShapes Go.ChangeAt Go.RowKit
theorem gDB : Tryz.prog.globalNamed "math/bits.deBruijn64tab" = some 1 := by kernel_rfl
theorem gDBType : (Tryz.prog.globals[1]?).map (·.type) = some 149 := by kernel_rfl
theorem cells64b : Tryz.prog.cellsOf 149 = 64 := by kernel_rfl
theorem cells1b : Tryz.prog.cellsOf 5 = 1 := by kernel_rfl
def four : List (String × DataW Unit) := [("math/bits.deBruijn32tab", Rows.laid_math_bits_deBruijn32tab), ("math/bits.deBruijn64tab", Rows.laid_math_bits_deBruijn64tab), ("scrivener/digest.start", Rows.laid_scrivener_digest_start), ("scrivener/digest.rounds", Rows.laid_scrivener_digest_rounds)]
theorem tb_of {W : World} (h : laidMet Tryz.prog four W) : Tb W := by
  have h1 := laidMet.tail h
  have h2 : Lib.TabIs Tryz.prog W "math/bits.deBruijn64tab" .u8 (Lib.deBruijn64tab.map Int.ofNat) :=
    Lib.tabIs_of_head gDB gDBType Tryz.underlying149 Tryz.underlying5 cells1b cells64b (show laidMet Tryz.prog (("math/bits.deBruijn64tab", Lib.tabData .u8 (Lib.deBruijn64tab.map Int.ofNat)) :: _) W from h1)
  refine ⟨tabs_of (laidMet.tail h1), fun j hj => ?_⟩
  have := h2.cell gDB j (by rw [List.length_map]; exact hj)
  rw [this]
  simp [List.getD_eq_getElem?_getD]
  rw [List.getElem?_eq_getElem (show j < Lib.deBruijn64tab.length from hj)]; simp
/-- A WORLD FOR THE WITNESS: all four tables laid. -/
noncomputable def laidWorld5 (os : Os) : World :=
  { laidWorld os with
    heap := ((laidWorld os).heap.modify 0 (fillObj (Lib.deBruijn32tab.map fun n => Value.int .u8 (Int.ofNat n)).toArray)).modify 1 (fillObj (Lib.deBruijn64tab.map fun n => Value.int .u8 (Int.ofNat n)).toArray) }
end Go.Proofs.YtmpaliocfikifaaGreatDoor

namespace Go.Proofs.YtmpaliocfikifaaGreatDoor
open Go.ChangeShapes Go.WideShapes Go.ChangeAt Go.RowKit
theorem bytesS : Tryz.prog.bytesOf 9 = 16 := by kernel_rfl
set_option maxRecDepth 100000 in
/-- a slice of texts among the arguments, by its weight -/
theorem open_atF {H : Type} {enc : TypeId × Value → H} {W : World} {base : Nat} {v : Value} {d : DataW H} {p : List MemPlace}
    (hval : Value.okWide Tryz.prog W .any base 24 v) (hd : DataW.Trod enc Tryz.prog W 0 (fun _ => true) true 24 v d p) (hk : ∀ x ∈ DataW.weights Tryz.prog 24 d, x ≤ reachBytes) :
    ∃ a l cap, v = .slice a l.length cap ∧ At W a l ∧ l.length ≤ cap ∧ cap ≤ 9223372036854775807 ∧ l.length ≤ 8796093021952 := by
  obtain ⟨a0, len0, cap0, rfl⟩ := okWide_slice Tryz.underlying24 hval
  obtain ⟨fuel, hf⟩ := hd
  rcases open_strings Tryz.underlying24 Tryz.underlying9 cellsS hf with ⟨hcs, hx⟩ | ⟨a, len, cap, ss, hcs, _, hl, hm, hz, hx, hcell, hsz⟩
  · simp [Value.cells] at hcs
    obtain ⟨rfl, rfl, rfl⟩ := hcs
    exact ⟨none, [], 0, rfl, At.nil _ _, by simp, by omega, by simp⟩
  · simp [Value.cells] at hcs
    obtain ⟨rfl, rfl, rfl⟩ := hcs
    simp only [Prod.mk.injEq] at hx
    obtain ⟨rfl, _⟩ := hx
    simp only [if_true] at hz
    have hlen : ((ss.take len0).map (·.data.toList)).length = len0 := by simp; omega
    have hw : cap0 * 16 ≤ reachBytes := by
      refine hk _ ?_
      rw [DataW.weights, Tryz.underlying24]
      simp only [bytesS]
      have e : (strs (H := H) (ss.take len0)).length + (strs (H := H) (ss.drop len0)).length = cap0 := by simp [strs]; omega
      rw [e]
      exact List.mem_cons_self
    have hr : reachBytes = 140737488351232 := rfl
    refine ⟨some a, (ss.take len0).map (·.data.toList), cap0, by rw [hlen], fun j p hp => ?_, by omega, hm, by omega⟩
    rw [List.getElem?_map, Option.map_eq_some_iff] at hp
    obtain ⟨s, hs, rfl⟩ := hp
    rw [List.getElem?_take] at hs
    split at hs
    · have hj := (List.getElem?_eq_some_iff.1 hs).1
      have hc := hcell j hj
      rw [List.getD_eq_getElem?_getD, hs] at hc
      refine ⟨a, rfl, ?_, hc⟩
      have := block_lt_of_cell hc
      rwa [addr_block] at this
    · cases hs
theorem weights_head {H : Type} {P : Program} {t : TypeId} {ts : List TypeId} {d : DataW H} {r : List (DataW H)} (h : (DataW.weightsEach P (t :: ts) (d :: r)).all (· ≤ reachBytes) = true) : ∀ x ∈ DataW.weights P t d, x ≤ reachBytes := fun x hx => by
  have := List.all_eq_true.1 h x (by rw [DataW.weightsEach]; exact List.mem_append_left _ hx)
  simpa using this
theorem weights_mem {H : Type} {P : Program} {e : TypeId} {d : DataW H} {x : Nat} : ∀ {l : List (DataW H)}, d ∈ l → x ∈ DataW.weights P e d → x ∈ DataW.weightsAll P e l
  | [], h, _ => by cases h
  | f :: r, h, hx => by
    rw [DataW.weightsAll]
    rcases List.mem_cons.1 h with rfl | h
    · exact List.mem_append_left _ hx
    · exact List.mem_append_right _ (weights_mem h hx)
theorem weights_tail {H : Type} {P : Program} {t : TypeId} {ts : List TypeId} {d : DataW H} {r : List (DataW H)} (h : (DataW.weightsEach P (t :: ts) (d :: r)).all (· ≤ reachBytes) = true) : (DataW.weightsEach P ts r).all (· ≤ reachBytes) = true := by
  rw [List.all_eq_true] at h ⊢
  exact fun x hx => h x (by rw [DataW.weightsEach]; exact List.mem_append_right _ hx)
set_option maxRecDepth 100000 in
/-- a slice of texts among the arguments, by its weight, and by its texts' -/
theorem open_atG {H : Type} {enc : TypeId × Value → H} {W : World} {base : Nat} {v : Value} {d : DataW H} {p : List MemPlace}
    (hval : Value.okWide Tryz.prog W .any base 24 v) (hd : DataW.Trod enc Tryz.prog W 0 (fun _ => true) true 24 v d p) (hk : ∀ x ∈ DataW.weights Tryz.prog 24 d, x ≤ reachBytes) :
    ∃ a l cap, v = .slice a l.length cap ∧ At W a l ∧ l.length ≤ cap ∧ cap ≤ 9223372036854775807 ∧ l.length ≤ 8796093021952 ∧ ∀ q ∈ l, q.length ≤ 140737488351232 := by
  obtain ⟨a0, len0, cap0, rfl⟩ := okWide_slice Tryz.underlying24 hval
  obtain ⟨fuel, hf⟩ := hd
  rcases open_strings Tryz.underlying24 Tryz.underlying9 cellsS hf with ⟨hcs, hx⟩ | ⟨a, len, cap, ss, hcs, _, hl, hm, hz, hx, hcell, hsz⟩
  · simp [Value.cells] at hcs
    obtain ⟨rfl, rfl, rfl⟩ := hcs
    exact ⟨none, [], 0, rfl, At.nil _ _, by simp, by omega, by simp, by simp⟩
  · simp [Value.cells] at hcs
    obtain ⟨rfl, rfl, rfl⟩ := hcs
    simp only [Prod.mk.injEq] at hx
    obtain ⟨rfl, _⟩ := hx
    simp only [if_true] at hz
    have hlen : ((ss.take len0).map (·.data.toList)).length = len0 := by simp; omega
    have hr : reachBytes = 140737488351232 := rfl
    have hw : cap0 * 16 ≤ reachBytes := by
      refine hk _ ?_
      rw [DataW.weights, Tryz.underlying24]
      simp only [bytesS]
      have e : (strs (H := H) (ss.take len0)).length + (strs (H := H) (ss.drop len0)).length = cap0 := by simp [strs]; omega
      rw [e]
      exact List.mem_cons_self
    have hq : ∀ s ∈ ss.take len0, s.data.toList.length ≤ reachBytes := fun s hs => by
      refine hk _ ?_
      rw [DataW.weights, Tryz.underlying24]
      refine List.mem_cons_of_mem _ (List.mem_append_left _ (weights_mem (d := .lit (.string s.data.toList)) ?_ ?_))
      · unfold strs
        exact List.mem_map.2 ⟨s, hs, rfl⟩
      · simp [DataW.weights]
    refine ⟨some a, (ss.take len0).map (·.data.toList), cap0, by rw [hlen], fun j p hp => ?_, by omega, hm, by omega, fun q hq' => ?_⟩
    rotate_left
    · obtain ⟨s, hs, rfl⟩ := List.mem_map.1 hq'
      have := hq s hs
      omega
    rw [List.getElem?_map, Option.map_eq_some_iff] at hp
    obtain ⟨s, hs, rfl⟩ := hp
    rw [List.getElem?_take] at hs
    split at hs
    · have hj := (List.getElem?_eq_some_iff.1 hs).1
      have hc := hcell j hj
      rw [List.getD_eq_getElem?_getD, hs] at hc
      refine ⟨a, rfl, ?_, hc⟩
      have := block_lt_of_cell hc
      rwa [addr_block] at this
    · cases hs
set_option maxRecDepth 100000 in
/-- a text among the arguments, by its weight -/
theorem open_strG {H : Type} {enc : TypeId × Value → H} {W : World} {base : Nat} {v : Value} {d : DataW H} {p : List MemPlace}
    (hval : Value.okWide Tryz.prog W .any base 9 v) (hd : DataW.Trod enc Tryz.prog W 0 (fun _ => true) true 9 v d p) (hk : ∀ x ∈ DataW.weights Tryz.prog 9 d, x ≤ reachBytes) :
    ∃ s : List UInt8, v = sv s ∧ s.length ≤ 140737488351232 := by
  obtain ⟨s0, rfl, rfl, rfl, hs0⟩ := ChangeMaps.open_string Tryz.underlying9 hval hd
  have hr : reachBytes = 140737488351232 := rfl
  have := hk s0.data.toList.length (by simp [DataW.weights])
  exact ⟨s0.data.toList, sv_eta s0, by omega⟩
end Go.Proofs.YtmpaliocfikifaaGreatDoor

namespace Go.Proofs.YtmpaliocfikifaaGreatDoor
open Go.ChangeShapes Go.WideShapes Go.ChangeAt Go.RowKit
theorem bytesI : Tryz.prog.bytesOf 3 = 8 := by kernel_rfl
set_option maxRecDepth 100000 in
/-- a slice of whole numbers among the arguments, by its weight -/
theorem open_atIF {H : Type} {enc : TypeId × Value → H} {W : World} {base : Nat} {v : Value} {d : DataW H} {p : List MemPlace}
    (hval : Value.okWide Tryz.prog W .any base 22 v) (hd : DataW.Trod enc Tryz.prog W 0 (fun _ => true) true 22 v d p) (hk : ∀ x ∈ DataW.weights Tryz.prog 22 d, x ≤ reachBytes) :
    ∃ a l cap, v = .slice a l.length cap ∧ AtI W a l ∧ l.length ≤ cap ∧ cap ≤ 9223372036854775807 ∧ l.length ≤ 17592186043904 ∧ ∀ c ∈ l, -9223372036854775808 ≤ c ∧ c ≤ 9223372036854775807 := by
  obtain ⟨a0, len0, cap0, rfl⟩ := okWide_slice Tryz.underlying22 hval
  obtain ⟨fuel, hf⟩ := hd
  rcases open_ints Tryz.underlying22 Tryz.underlying3 cellsI hf with ⟨hcs, hx⟩ | ⟨a, len, cap, zs, hcs, _, hl, hm, hz, hx, hcell, hwf⟩
  · simp [Value.cells] at hcs
    obtain ⟨rfl, rfl, rfl⟩ := hcs
    exact ⟨none, [], 0, rfl, fun j p hp => by simp at hp, by simp, by omega, by simp, fun c hc => by simp at hc⟩
  · simp [Value.cells] at hcs
    obtain ⟨rfl, rfl, rfl⟩ := hcs
    simp only [Prod.mk.injEq] at hx
    obtain ⟨rfl, _⟩ := hx
    simp only [if_true] at hz
    have hlen : (zs.take len0).length = len0 := by simp; omega
    have hw : cap0 * 8 ≤ reachBytes := by
      refine hk _ ?_
      rw [DataW.weights, Tryz.underlying22]
      simp only [bytesI]
      have e : (lits (H := H) .i64 (zs.take len0)).length + (lits (H := H) .i64 (zs.drop len0)).length = cap0 := by simp [lits]; omega
      rw [e]
      exact List.mem_cons_self
    have hr : reachBytes = 140737488351232 := rfl
    refine ⟨some a, zs.take len0, cap0, by rw [hlen], fun j c hc => ?_, by omega, hm, by omega, fun c hc => wf_i64 (hwf c (List.mem_of_mem_take hc))⟩
    rw [List.getElem?_take] at hc
    split at hc
    · have hj := (List.getElem?_eq_some_iff.1 hc).1
      have hc' := hcell j hj
      rw [List.getD_eq_getElem?_getD, hc] at hc'
      refine ⟨a, rfl, ?_, hc'⟩
      have := block_lt_of_cell hc'
      rwa [addr_block] at this
    · cases hc
end Go.Proofs.YtmpaliocfikifaaGreatDoor

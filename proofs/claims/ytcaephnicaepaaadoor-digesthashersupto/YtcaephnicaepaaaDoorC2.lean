import Derived.Test.YtcaephnicaepaaaDoorC1
namespace Go.Proofs.YtcaephnicaepaaaDoor
open Go.RowKit

/-- a slice of whole numbers, wherever it lies -/
def SlcI (w : World) (v : Value) (cs : List Int) : Prop :=
  ∃ a cap, v = .slice a cs.length cap ∧ ∀ j c, cs[j]? = some c → ∃ x : Addr, a = some x ∧ x.block < w.heap.size ∧ w.cell? (x.add j) = some (.int .i64 c)
theorem pick_at {c n : Int} {r : Nat} (h : Hid (pk c n = (r : Int))) (hc1 : -9223372036854775808 ≤ c) (hc2 : c ≤ 9223372036854775807) (hn : 0 < n) (hn2 : n ≤ 9223372036854775807) (w : World) :
    Calls Tryd.prog 15 #[.int .i64 c, .int .i64 n] w fun e w' => e = .returned (.int .i64 (r : Int)) ∧ w' = w := by
  have := pick_any c n hc1 hc2 hn hn2 w
  rwa [h.out] at this
theorem texts1 (w : World) (a : List UInt8) (t : TypeId) : Texts (w.alloc (.cells #[sv a] t)) w.heap.size 0 [a] := fun j p h => by
  rw [cell_of_row _ _ _ _ _ _ (heap_alloc_new w _), Nat.zero_add]
  match j, h with
  | 0, h => obtain rfl := Option.some.inj h; rfl
theorem hsum_sv {b : Nat} {t : List UInt8} {d : ByteArray} (hD : Hid (sv (Sha.sha t) = .string d)) (hlen : t.length < 2305843009213693800) (w : World) (T : Tabs w) (hb : Has b t w) :
    Calls Tryd.prog 20 #[.pointer (some ⟨b, 0, none⟩)] w fun e w' => e = .returned (.string d) ∧ Below w.heap.size w w' := by
  have h := hsum_any b t hlen w T hb
  rwa [hD.out] at h
theorem take_mid (l : List UInt8) (a r : Nat) : l.take a ++ (l.drop a).take r = l.take (a + r) := by rw [List.take_add]
theorem take_end (l : List UInt8) (a : Nat) (h : a ≤ l.length) : l.take a ++ (l.drop a).take (l.length - a) = l := by rw [← List.take_add, show a + (l.length - a) = l.length by omega, List.take_length]
theorem sha_size {t : List UInt8} {d : ByteArray} (h : sv (Sha.sha t) = .string d) : d.size = 32 := by
  have e : ByteArray.mk (Sha.sha t).toArray = d := by injection h
  rw [← e, sv_size, Sha.sha_length]

set_option maxRecDepth 100000 in
set_option maxHeartbeats 1000000 in
theorem cuts_any (sb : ByteArray) (v1 : Value) (cs : List Int) (hs : sb.size ≤ 1048576) (hm : cs.length ≤ 1048576) (hcr : ∀ c ∈ cs, -9223372036854775808 ≤ c ∧ c ≤ 9223372036854775807) (w : World) (T : Tabs w) (h1 : SlcI w v1 cs) :
    Calls Tryd.prog 4 #[.string sb, v1] w fun e w' => e = .returned (.bool true) ∧ Below w.heap.size w w' := by
  have hT := T.lt
  obtain ⟨a1, c1, rfl, h1⟩ := h1
  have C1 := hid h1
  have Hcr := hid hcr
  clear h1 hcr
  obtain ⟨s, hsb⟩ : ∃ s, Hid (sb.data.toList = s) := ⟨_, rfl⟩
  have hsl : s.length = sb.size := by rw [← hsb.out, data_length]
  obtain ⟨d, hD⟩ : ∃ d, Hid (sv (Sha.sha s) = .string d) := ⟨_, rfl⟩
  have hD1 : Hid (sv (Sha.sha [s].flatten) = .string d) := by rw [List.flatten_cons, List.flatten_nil, List.append_nil]; exact hD
  have hd32 := sha_size hD.out
  have yd : (d.toList == d.toList) = true := by simp
  go_enter Tryd.func4, Tryd.ntmps4
  go_wp2_with (go_at_call 9; fail)
  refine (known_any _ T).mono ?_
  rintro e w1 ⟨rfl, hw1⟩
  have T1 := T.below hw1 hT
  go_wp2_with (go_at_call 16; fail)
  refine (new_any _).mono ?_
  rintro e w2 ⟨rfl, hh2, hw2⟩
  have hb0 := hw1.size
  have B2 := hw1.trans (hw2.mono hb0)
  have s2 := hh2.lt
  have Hh2 := hid hh2
  clear hh2 hw2 T1
  generalize w1.heap.size = b at *
  clear hw1 w1
  go_wp2_with (go_at_call 17; fail)
  have Tx : Texts (w2.alloc (.cells #[.string sb] 9)) w2.heap.size 0 [s] := by
    have := texts1 w2 s 9
    rwa [← hsb.out, ← sv_eta, hsb.out] at this
  have A2 : Below w2.heap.size w2 (w2.alloc (.cells #[.string sb] 9)) := (Below.refl _ _).alloc (Nat.le_refl _) _
  refine (sum_at hD1 rfl (by simp [total]; omega) (by simp) _ (T.below (B2.trans (A2.mono B2.size)) hT) (by rw [size_alloc]; omega) Tx).mono ?_
  rintro e w3 ⟨rfl, hw3⟩
  have sa : (w2.alloc (.cells #[.string sb] 9)).heap.size = w2.heap.size + 1 := size_alloc _ _
  have B23 : Below w2.heap.size w2 w3 := A2.trans (hw3.mono (by omega))
  have HB3 := hid (B2.trans (B23.mono B2.size))
  have HH3 := hid (Hh2.out.below B23 s2)
  have s3 := B23.size
  clear B23 A2 Tx hw3 sa B2 Hh2
  go_wp2
  go_loopw [8, 9, 10, 11] (fun p a i _ w' => ∃ (k z : Nat) (L : List (List UInt8)), k ≤ cs.length ∧ i = .int .i64 k ∧ z ≤ sb.size ∧ a = .int .i64 z ∧ Hid (L.flatten = s.take z) ∧ L.length = k ∧ Hid (Own w' (b + 1) p (svs L)) ∧ Hid (Has b (s.take z) w') ∧ Hid (Below w.heap.size w w')) (fun _ _ i _ _ => cs.length - (intOf i).toNat)
  case atStart => exact ⟨0, 0, [], by omega, rfl, by omega, rfl, rfl, rfl, Own.nil _ _, HH3, HB3⟩
  case round =>
    clear HH3 HB3
    obtain ⟨k, z, L, hk, rfl, hz, rfl, hL, hLk, hO, hH, hB⟩ := hrel
    have hbs := hH.out.lt
    by_cases hlt : k < cs.length
    · have hlt' : (k : Int) < (cs.length : Int) := by omega
      obtain ⟨x, hx, hxb, hc⟩ := C1.out k _ (List.getElem?_eq_getElem hlt)
      subst hx
      have cp : wr.cell? (x.add k) = some (.int .i64 cs[k]) := (hB.out.cell (p := x.add k) (by rw [add_block]; exact hxb)).trans hc
      obtain ⟨hc1, hc2⟩ := Hcr.out cs[k] (List.getElem_mem hlt)
      clear hc
      generalize cs[k] = c at *
      obtain ⟨r, hr⟩ : ∃ r : Nat, Hid (pk c ((sb.size : Int) - z + 1) = (r : Int)) := ⟨(pk c ((sb.size : Int) - z + 1)).toNat, by have := pk_nonneg c ((sb.size : Int) - z + 1) (by omega); unfold Hid; omega⟩
      have hr2 : (r : Int) < (sb.size : Int) - z + 1 := by rw [← hr.out]; exact pk_lt _ _ (by omega)
      have d1 : IntKind.i64.wrap ((sb.size : Int) - z) = (sb.size : Int) - z := wrap_small _ (by omega) (by omega)
      have d2 : IntKind.i64.wrap ((sb.size : Int) - z + 1) = (sb.size : Int) - z + 1 := wrap_small _ (by omega) (by omega)
      have d3 : IntKind.i64.wrap ((z : Int) + r) = (z : Int) + r := wrap_small _ (by omega) (by omega)
      have t1 : ((z : Int) + r).toNat = z + r := by omega
      have d0 : (0 : Int) ≤ (z : Int) + r := by omega
      have d4 : (z : Int) ≤ (z : Int) + r := by omega
      have d5 : (z : Int) + r ≤ (sb.size : Int) := by omega
      obtain ⟨g, hg⟩ : ∃ g, g = sb.extract z (z + r) := ⟨_, rfl⟩
      have hgd := hid (show g.data.toList = (s.drop z).take r by rw [hg, Lib.extract_data, hsb.out]; congr 1; omega)
      have hgs : g.size = r := by rw [hg, mid_size' _ _ _ (by omega)]; omega
      have hge := hg.symm
      clear hg
      have hmid := hid (show s.take z ++ g.data.toList = s.take (z + r) by rw [hgd.out, take_mid])
      obtain ⟨v4, w4, hap, hO4, hb4⟩ := append_text wr (b + 1) u8 L g.data.toList #[.string g] (by rw [sv_eta]) hO.out (by omega) (by omega)
      have B4 := hid (hB.out.trans (hb4.mono (by omega)))
      have H4 := hid (hH.out.below hb4 (by omega))
      have O4 := hid hO4
      have T4 := T.below B4.out hT
      have s4 := hH.out.below hb4 (by omega) |>.lt
      clear hb4 hO4
      go_wp2_with (go_at_call 15; fail)
      refine (pick_at hr hc1 hc2 (by omega) (by omega) _).mono ?_
      rintro e w' ⟨rfl, hw'⟩
      rw [hw']
      clear hw' w'
      go_wp2_with (first
        | (at_builtin; go_must (refine Lib.wpList_append_run _ rfl _ _ 29 29 rfl _ _ rfl rfl _ _ hap ?_))
        | (go_at_call 18; fail))
      refine (write_any b (s.take z) g (by rw [List.length_take]; omega) _ T4 (by omega) H4.out).mono ?_
      rintro e w5 ⟨rfl, hh5, hw5⟩
      rw [hmid.out] at hh5
      have H5 := hid hh5
      have B5 := hid (B4.out.trans (hw5.below hb0 (by have := B4.out.size; omega)))
      have O5 := hid (O4.out.but hw5 (fun h => by have := O4.out.ge b h; omega))
      clear hw5 hh5 hap
      go_wp2
      exact ⟨⟨k + 1, z + r, L ++ [g.data.toList], by omega, by go_num, by omega, by go_num, (by unfold Hid; rw [List.flatten_append, List.flatten_cons, List.flatten_nil, List.append_nil, hL.out, hmid.out]), by rw [List.length_append]; simp; omega, O5, H5, B5⟩, by simp [intOf]; omega⟩
    · obtain rfl : k = cs.length := by omega
      have hlt' : ¬ (cs.length : Int) < (cs.length : Int) := by omega
      have d4 : (z : Int) ≤ (sb.size : Int) := by omega
      obtain ⟨g, hg⟩ : ∃ g, g = sb.extract z sb.size := ⟨_, rfl⟩
      have hgd := hid (show g.data.toList = (s.drop z).take (s.length - z) by rw [hg, Lib.extract_data, hsb.out, hsl])
      have hgs : g.size = sb.size - z := by rw [hg, mid_size' _ _ _ (by omega)]
      have hge := hg.symm
      clear hg
      have hmid := hid (show s.take z ++ g.data.toList = s by rw [hgd.out, take_end _ _ (by omega)])
      obtain ⟨v4, w4, hap, hO4, hb4⟩ := append_text wr (b + 1) u8 L g.data.toList #[.string g] (by rw [sv_eta]) hO.out (by omega) (by omega)
      have B4 := hid (hB.out.trans (hb4.mono (by omega)))
      have H4 := hid (hH.out.below hb4 (by omega))
      have O4 := hid hO4
      have T4 := T.below B4.out hT
      have s4 := hH.out.below hb4 (by omega) |>.lt
      have hLf := hid (show (L ++ [g.data.toList]).flatten = s by rw [List.flatten_append, List.flatten_cons, List.flatten_nil, List.append_nil, hL.out, hmid.out])
      have hLl : (L ++ [g.data.toList]).length = cs.length + 1 := by rw [List.length_append]; simp; omega
      clear hb4 hO4 hL
      generalize L ++ [g.data.toList] = N at *
      go_wp2_with (first
        | (at_builtin; go_must (refine Lib.wpList_append_run _ rfl _ _ 29 29 rfl _ _ rfl rfl _ _ hap ?_))
        | (go_at_call 19; fail))
      clear hap
      refine (clone_any b (s.take z) _ H4.out).mono ?_
      rintro e w5 ⟨M, rfl, hM, hm5, hw5⟩
      have H5 := hid (H4.out.below hw5 s4)
      have M5 := hid hm5
      have B5 := hid (B4.out.trans (hw5.mono B4.out.size))
      have O5 := hid (O4.out.below hw5 (Nat.le_refl _))
      have T5 := T.below B5.out hT
      have hbM : b < M := by omega
      have hOM : Hid (v4.ownBlock ≠ some M) := fun h => by
        rcases O4.out with ⟨rfl, _⟩ | ⟨g', cap, rfl, _, _, _, _, _, h6⟩
        · cases h
        · have e : g' = M := by simpa [Value.ownBlock] using h
          omega
      clear hm5 hw5
      go_wp2_with (go_at_call 18; fail)
      refine (write_any b (s.take z) g (by rw [List.length_take]; omega) _ T5 (by omega) H5.out).mono ?_
      rintro e w6 ⟨rfl, hh6, hw6⟩
      rw [hmid.out] at hh6
      have H6 := hid hh6
      have M6 := hid (M5.out.but hw6 (by omega))
      have B6 := hid (B5.out.trans (hw6.below hb0 (by have := B5.out.size; omega)))
      have O6 := hid (O5.out.but hw6 (fun h => by have := O5.out.ge b h; omega))
      have T6 := T.below B6.out hT
      clear hw6 hh6
      go_wp2_with (go_at_call 18; fail)
      refine (write_any M (s.take z) ⟨#[111, 116, 104, 101, 114]⟩ (by rw [List.length_take]; have : (ByteArray.mk #[111, 116, 104, 101, 114]).size = 5 := rfl; omega) _ T6 (by omega) M6.out).mono ?_
      rintro e w7 ⟨rfl, hh7, hw7⟩
      have M7 := hid hh7
      have H7 := hid (H6.out.but hw7 (by omega))
      have B7 := hid (B6.out.trans (hw7.below (by omega) B6.out.size))
      have O7 := hid (O6.out.but hw7 hOM.out)
      have T7 := T.below B7.out hT
      clear hw7 hh7
      go_wp2_with (go_at_call 18; fail)
      refine (write_any M _ sb (by simp only [List.length_append, List.length_take, List.length_cons, List.length_nil]; omega) _ T7 (by omega) M7.out).mono ?_
      rintro e w8 ⟨rfl, hh8, hw8⟩
      have H8 := hid (H7.out.but hw8 (by omega))
      have B8 := hid (B7.out.trans (hw8.below (by omega) B7.out.size))
      have O8 := O7.out.but hw8 hOM.out
      have T8 := T.below B8.out hT
      clear hw8 hh8
      have hDN : Hid (sv (Sha.sha N.flatten) = .string d) := by rw [hLf.out]; exact hD
      have hNt : total N < 2305843009213693800 := by rw [total, hLf.out, hsl]; omega
      have hNl : N.length ≤ 9223372036854775807 := by omega
      have Hnt := hid hNt
      clear hNt
      rcases O8 with ⟨_, h0⟩ | ⟨gg, cap, rfl, _, _, _, h4, _, h6⟩
      · have : (svs N).length = 0 := by rw [h0]; rfl
        rw [svs_length] at this; omega
      · have Tx : Texts w8 gg 0 N := fun j p hp => by
          have := h4 j (sv p) (by simp [svs, hp])
          exact this
        have HTx := hid Tx
        clear h4 Tx
        rw [svs_length]
        go_wp2_with (go_at_call 17; fail)
        refine (sum_at hDN hLl Hnt.out hNl _ T8 h6 HTx.out).mono ?_
        rintro e w9 ⟨rfl, hw9⟩
        have H9 := hid (H8.out.below hw9 H8.out.lt)
        have B9 := hid (B8.out.trans (hw9.mono B8.out.size))
        have T9 := T.below B9.out hT
        clear hw9
        go_wp2_with (go_at_call 20; fail)
        refine (hsum_sv hD (by omega) _ T9 H9.out).mono ?_
        rintro e w10 ⟨rfl, hw10⟩
        have H10 := hid (H9.out.below hw10 H9.out.lt)
        have B10 := hid (B9.out.trans (hw10.mono B9.out.size))
        have T10 := T.below B10.out hT
        clear hw10
        go_wp2_with (go_at_call 20; fail)
        refine (hsum_sv hD (by omega) _ T10 H10.out).mono ?_
        rintro e w11 ⟨rfl, hw11⟩
        have H11 := hid (H10.out.below hw11 H10.out.lt)
        have B11 := hid (B10.out.trans (hw11.mono B10.out.size))
        clear hw11
        go_wp2_with (go_at_call 21; fail)
        refine (len_any b s _ H11.out).mono ?_
        rintro e w12 ⟨rfl, hw12⟩
        rw [hw12, hsl]
        clear hw12 w12
        go_wp2
        go_ret
        exact ⟨rfl, B11.out⟩
end Go.Proofs.YtcaephnicaepaaaDoor

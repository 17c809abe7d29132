import Derived.Test.YtiehafkbkbeijaaPkKL2
import Derived.Test.YtiehafkbkbeijaaPkKL4
import Derived.Deep.CutRange
import Derived.Deep.DeepCutAuto
/- Layer 15, the law: CacheNests -/
namespace Go.Proofs.Ytiehafkbkbeijaa
open Go.RowKit Go.Maps
namespace Kc
theorem kk_byte (p : Nat) (hp : p < 12) : ((97 + p : Nat) : Int) = ((UInt8.ofNat (97 + p)).toNat : Int) := by
  rw [UInt8.toNat_ofNat']; omega
theorem field_found (n t p f m o : Int) (w : World) : (Instr.field 36 (.agg #[.int .i64 n, .int .i64 t, .int .i64 p, .int .i64 f, .int .i64 m, .int .i64 o]) 3).run Try.prog w = .ok (.int .i64 f) w := by
  simp [Instr.field, run_underlying Try.underlying36, asAgg, part, Result.andThen]
set_option maxRecDepth 100000 in
set_option maxHeartbeats 8000000 in
theorem nests15_law (one more : Int) (v : Value) (cs : List Int) (w : World) (o1 : -9223372036854775808 ≤ one) (o2 : one ≤ 9223372036854775807) (m1 : -9223372036854775808 ≤ more) (m2 : more ≤ 9223372036854775807) (hv : SlcI w v cs) (hl : cs.length ≤ maxLen) (hcs : ∀ c ∈ cs, -9223372036854775808 ≤ c ∧ c ≤ 9223372036854775807) :
    Calls Try.prog 3 #[.int .i64 one, .int .i64 more, v] w fun r w' => r = .returned (.bool true) ∧ Below w.heap.size w w' := by
  obtain ⟨xa, cap, rfl, hx⟩ := hv
  obtain ⟨N, hN⟩ : ∃ N, cs.length = N := ⟨_, rfl⟩
  rw [hN]
  have i0 := known15_any w
  have ip1 := fun w' => pick15_any one 60 o1 o2 (by omega) (by omega) w'
  have ip2 := fun w' => pick15_any more 60 m1 m2 (by omega) (by omega) w'
  obtain ⟨p1, hp1⟩ : ∃ p : Nat, pk one 60 = (p : Int) := ⟨(pk one 60).toNat, by have := pk_nonneg one 60 (by omega); omega⟩
  obtain ⟨p2, hp2⟩ : ∃ p : Nat, pk more 60 = (p : Int) := ⟨(pk more 60).toNat, by have := pk_nonneg more 60 (by omega); omega⟩
  have q1 : p1 < 60 := by have := pk_lt one 60 (by omega); omega
  have q2 : p2 < 60 := by have := pk_lt more 60 (by omega); omega
  rw [hp1] at ip1
  rw [hp2] at ip2
  obtain ⟨B, hB⟩ : ∃ B, 12 + p1 = B := ⟨_, rfl⟩
  obtain ⟨C, hC⟩ : ∃ C, B + p2 = C := ⟨_, rfl⟩
  have e1 : IntKind.i64.wrap (12 + (p1 : Int)) = (B : Int) := by rw [IntKind.wrap_i64]; omega
  have e2 : IntKind.i64.wrap ((B : Int) + (p2 : Int)) = (C : Int) := by rw [IntKind.wrap_i64]; omega
  have iB := fun w' => new_ok B (by omega) w'
  have iC := fun w' => new_ok C (by omega) w'
  have hB12 : Hid (12 ≤ B) := by show _ ≤ _; omega
  have hBC : Hid (B ≤ C) := by show _ ≤ _; omega
  have HX := hid hx
  have HN := hid hN
  have HC := hid hcs
  have hNm : Hid (N ≤ 9223372036854775807) := by show N ≤ _; rw [← hN]; exact hl
  clear hx hN hcs hp1 hp2 q1 q2 hB hC hl
  go_enter Try.func3, Try.ntmps3
  go_upto_region 3 with (first
    | (go_at_call 6; refine i0.mono ?_; rintro r w1 ⟨rfl, b1⟩)
    | (go_at_call 7; (with_reducible refine (ip1 _).mono ?_); rintro r w9 ⟨rfl, hw9⟩; replace hw9 := hw9.symm; subst hw9))
  go_upto_region 4 with (go_at_call 8; refine (iB _).mono ?_; rintro r w2 ⟨rfl, C2, b2⟩)
  have S2 := Cs.new b1 C2 b2
  go_upto_region 5 with (first
    | (go_at_call 7; (with_reducible refine (ip2 _).mono ?_); rintro r w9 ⟨rfl, hw9⟩; replace hw9 := hw9.symm; subst hw9)
    | (go_at_call 8; refine (iC _).mono ?_; rintro r w3 ⟨rfl, C3, b3⟩))
  have S3 := Cd.new S2 C3 b3
  obtain ⟨a, ha⟩ : ∃ a, w1.heap.size = a := ⟨_, rfl⟩
  obtain ⟨b, hb⟩ : ∃ b, w2.heap.size = b := ⟨_, rfl⟩
  rw [ha, hb] at S3 ⊢
  have N3 : Hid (Ns w a b B C 0 w3) := ⟨_, _, _, _, _, _, _, _, _, _, S3, (fun _ h => nomatch h), (fun _ h => nomatch h), ⟨[], rfl⟩, Nat.le_refl _⟩
  clear S2 C2 C3 S3 b1 b2 b3 i0 ip1 ip2 iB iC ha hb
  go_wp2
  go_loopw [13] (fun i w' => ∃ k : Nat, k ≤ N ∧ k ≤ 150 ∧ i = .int .i64 (k : Int) ∧ Hid (Ns w a b B C k w')) (fun i _ => N - (intOf i).toNat)
  case atStart => exact ⟨0, Nat.zero_le _, Nat.zero_le _, rfl, N3⟩
  case round =>
    obtain ⟨k, hk, hk2, rfl, M⟩ := hrel
    by_cases hkN : k < N ∧ k < 150
    · obtain ⟨hkN, hk150⟩ := hkN
      have hkN' := hid hkN
      have hk150' := hid hk150
      have z1 : (k : Int) < (N : Int) := by omega
      have z2 : (k : Int) < 150 := by omega
      have z3 : (0 : Int) ≤ (k : Int) := by omega
      obtain ⟨ck, hck⟩ : ∃ c, cs[k]? = some c := ⟨_, List.getElem?_eq_getElem (by rw [HN.out]; exact hkN)⟩
      obtain ⟨x, rfl, hxb, hxc⟩ := HX.out k ck hck
      have hcb := HC.out ck (List.mem_of_getElem? hck)
      obtain ⟨gA, gB, LA, LB, fA, mA, oA, fB, mB, oB, S, aA, aB, ns, hff⟩ := M.out
      have x0 : wr.cell? (x.add k) = some (.int .i64 ck) := (S.one.bl.cell (p := x.add k) (by rw [add_block]; exact hxb)).trans hxc
      have ipk := fun w' => pick15_any ck 12 hcb.1 hcb.2 (by omega) (by omega) w'
      obtain ⟨p, hp⟩ : ∃ p : Nat, pk ck 12 = (p : Int) := ⟨(pk ck 12).toNat, by have := pk_nonneg ck 12 (by omega); omega⟩
      have hp12 : p < 12 := by have := pk_lt ck 12 (by omega); omega
      rw [hp] at ipk
      have v1 : IntKind.i64.wrap (97 + (p : Int)) = ((97 + p : Nat) : Int) := by rw [IntKind.wrap_i64]; omega
      have v2 : IntKind.u8.wrap ((97 + p : Nat) : Int) = ((97 + p : Nat) : Int) := by rw [IntKind.wrap_u8]; omega
      have cv1 := conv_one wr (UInt8.ofNat (97 + p)) _ (kk_byte p hp12)
      obtain ⟨P97, hP97⟩ : ∃ P, 97 + p = P := ⟨_, rfl⟩
      rw [hP97] at v1 v2
      rw [show ((97 + p : Nat) : Int) = (P97 : Int) by rw [hP97]] at cv1
      obtain ⟨w1', hw1'⟩ : ∃ w', wr.alloc (.cells #[.int .u8 (P97 : Int)] 5) = w' := ⟨_, rfl⟩
      have b1 : Below wr.heap.size wr w1' := by rw [← hw1']; exact (Below.refl _ _).alloc (Nat.le_refl _) _
      rw [hw1'] at cv1
      have mk := make_zero w1' p (by omega)
      have cv2 := conv_zero w1' p (by omega) _ rfl
      obtain ⟨w2', hw2'⟩ : ∃ w', w1'.alloc (.cells (bv (List.replicate p 0)).toArray 5) = w' := ⟨_, rfl⟩
      have b2 : Below w1'.heap.size w1' w2' := by rw [← hw2']; exact (Below.refl _ _).alloc (Nat.le_refl _) _
      rw [hw2'] at mk cv2
      have S2 := (S.below b1).below b2
      have x1 : w1'.cell? (x.add k) = some (.int .i64 ck) := (b1.cell (p := x.add k) (by rw [add_block]; exact Nat.lt_of_lt_of_le hxb S.one.bl.size)).trans x0
      have hck2 : 2 * k ≤ 1000000000000 := by omega
      have S2 := hid S2
      have aA := hid aA
      have aB := hid aB
      have ns := hid ns
      have hff := hid hff
      have hp12' := hid hp12
      have hkl : (kk p).length ≤ 9223372036854775807 := by show 1 ≤ _; omega
      have hkl2 : (kk p).length ≤ 2305843009213693952 := by show 1 ≤ _; omega
      have hvl2 : (kv p).length ≤ 2305843009213693952 := by unfold kv; rw [List.length_replicate]; omega
      have hkn : Hid ((kk p).length + (kv p).length ≤ B) := by
        show _ ≤ _
        have := hB12.out
        unfold kv
        rw [List.length_replicate]
        show 1 + p ≤ B
        omega
      have pnA : Hid ((kk p).length + (kv p).length + pnd (wo (kk p) LA) ≤ B) := by
        show _ ≤ _
        rw [(aA.out.sub (wo_sub _ _)).pnd]
        exact hkn.out
      have pnB : Hid ((kk p).length + (kv p).length + pnd (wo (kk p) LB) ≤ C) := by
        show _ ≤ _
        rw [(aB.out.sub (wo_sub _ _)).pnd]
        exact Nat.le_trans hkn.out hBC.out
      have eK : (ByteArray.mk #[UInt8.ofNat (97 + p)]) = ByteArray.mk (kk p).toArray := rfl
      have eV : (ByteArray.mk (List.replicate p (0 : UInt8)).toArray) = ByteArray.mk (kv p).toArray := rfl
      rw [eK] at cv1
      rw [eV] at cv2
      generalize hK : ByteArray.mk (kk p).toArray = K at *
      generalize hV : ByteArray.mk (kv p).toArray = V at *
      have HK := hid hK
      have HV := hid hV
      have vv : (V.toList == V.toList) = true := by simp
      have NvK : Hid (∀ b, Nv ⟨b, kk p, kv p, 0⟩) := fun b => ⟨rfl, p, hp12, rfl, rfl⟩
      clear eK eV hK hV M S hp hck hxc hp12 b1 b2 hcb hkN hk150 hP97
      go_upto_region 12 with (go_at_call 7; refine (ipk _).mono ?_; rintro r w9 ⟨rfl, hw9⟩; replace hw9 := hw9.symm; subst hw9)
      clear mk cv1 cv2 ipk x0 x1 hw1' v1 v2
      cases hfA : fnd (kk p) LA with
      | some e =>
        obtain ⟨y, hfB⟩ := ns.out.there hfA
        have ev : ByteArray.mk e.v.toArray = V := by rw [(aA.out e (fnd_mem hfA).1).val hp12'.out (fnd_mem hfA).2]; exact HV.out
        have yv : ByteArray.mk y.v.toArray = V := by rw [(aB.out y (fnd_mem hfB).1).val hp12'.out (fnd_mem hfB).2]; exact HV.out
        have iA := get_some' S2.out.one.ch hck2 (kk p) hkl hfA
        rw [HK.out, ev] at iA
        clear ev
        go_upto_region 13 with (go_at_call 9; refine iA.mono ?_; rintro r w4 ⟨rfl, P4⟩)
        have S4 := hid (S2.out.op P4)
        have iB := get_some' S4.out.two.ch hck2 (kk p) hkl hfB
        rw [HK.out, yv] at iB
        clear yv P4 iA
        go_upto_if 125 with (go_at_call 9; refine iB.mono ?_; rintro r w5 ⟨rfl, P5⟩)
        have S5 := hid (S4.out.symm.op P5).symm
        clear P5 iB
        have anA : Hid (An (e :: wo (kk p) LA)) := fun z hz => by
          rcases List.mem_cons.1 hz with rfl | hz
          · exact aA.out _ (fnd_mem hfA).1
          · exact aA.out z ((wo_sub _ _).mem hz)
        have anB : Hid (An (y :: wo (kk p) LB)) := fun z hz => by
          rcases List.mem_cons.1 hz with rfl | hz
          · exact aB.out _ (fnd_mem hfB).1
          · exact aB.out z ((wo_sub _ _).mem hz)
        have nsz : Hid (Nst (e :: wo (kk p) LA) (y :: wo (kk p) LB)) := ns.out.both hfA hfB
        go_cut [] from 60 to 155 (fun w' => Hid (Ns w a b B C (k + 1) w'))
        case first =>
          go_wp2_with (fail)
          go_meet
          refine ⟨_, _, _, _, _, _, _, _, _, _, ⟨S5.out.one.mono (by omega), S5.out.two.mono (by omega), S5.out.dj⟩, anA.out, anB.out, nsz.out, ?_⟩
          have := hff.out
          omega
        case rest =>
          obtain ⟨gA, gB, LA, LB, fA, mA, oA, fB, mB, oB, Sf, aA, aB, nf, hf⟩ := hcut.out
          go_step
          refine nests_tail Sf nf (by omega) (by omega) _ _ _ _ _ _ _ _ _ _ _ _ _ _ _ _ _ _ _ _ _ _ _ _ _ _ _ _ _ _ _ _ _ _ _ _ _ _ _ _ _ _ _ _ _ _ _ _ _ _ _ _ _ _ _ _ _ _ _ _ _ _ _ _ _ _ _ _ _ _ _ _ _ _ _ _ _ _ _ _ _ _ _ _ _ _ _ _ _ _ _ _ _ _ _ _ _ _ _ _ _ _ _ _ _ _ _ _ _ _ _ _ _ _ _ _ _ _ _ _ _ _ _ _ _ _ _ _ _ _ _ _ _ _ _ _ _ _ _ _ _ _ _ _ _ _ _ _ _ _ _ _ _ _ _ _ _ _ _ _ _ _ ?_
          intro c6 c22 c23 c24 c132 c133 c134 c135 c136 c137 c138 c139 c140 c141 c142 c143 c144 c145 c146 c147 c148 c149 c150 c151 c152 c153 c154 c155 wz bz
          have NZ : Hid (Ns w a b B C (k + 1) wz) := ⟨_, _, _, _, _, _, _, _, _, _, Sf.below bz, aA, aB, nf, hf⟩
          clear Sf aA aB nf hf bz hcut
          go_wp2
          exact ⟨⟨k + 1, hkN'.out, hk150'.out, by go_num, NZ⟩, by have := hkN'.out; simp [RowKit.intOf]; omega⟩
      | none =>
        cases hfB : fnd (kk p) LB with
        | some y =>
          have yv : ByteArray.mk y.v.toArray = V := by rw [(aB.out y (fnd_mem hfB).1).val hp12'.out (fnd_mem hfB).2]; exact HV.out
          have iA := get_none' S2.out.one.ch hck2 (kk p) hkl hfA
          rw [HK.out] at iA
          go_upto_region 13 with (go_at_call 9; refine iA.mono ?_; rintro r w4 ⟨rfl, P4⟩)
          have S4 := hid (S2.out.op P4)
          have iB := get_some' S4.out.two.ch hck2 (kk p) hkl hfB
          rw [HK.out, yv] at iB
          clear yv P4 iA
          go_upto_region 17 with (go_at_call 9; refine iB.mono ?_; rintro r w5 ⟨rfl, P5⟩)
          have S5 := hid (S4.out.symm.op P5).symm
          have iQ := put_ok' S5.out.one.ch (by omega) (kk p) (kv p) hkl2 hvl2 pnA.out
          rw [HK.out, HV.out] at iQ
          clear P5 iB
          go_upto_if 125 with (go_at_call 10; refine iQ.mono ?_; rintro r w6 ⟨rfl, bA, g6, o6, P6, E6⟩)
          have S6 := hid (S5.out.op P6)
          clear P6 E6 iQ
          have hwA := (fnd_none hfA).2
          have hpin : pin (kk p) LA = 0 := by unfold pin; rw [hfA]
          have hnl : putL B (kk p) (kv p) LA bA = ⟨bA, kk p, kv p, 0⟩ :: room B ((kk p).length + (kv p).length) LA := by unfold putL; rw [hpin, hwA]
          have anA : Hid (An (putL B (kk p) (kv p) LA bA)) := fun z hz => by
            rw [hnl] at hz
            rcases List.mem_cons.1 hz with rfl | hz
            · exact NvK.out _
            · exact aA.out z ((room_sub _ _ _).mem hz)
          have anB : Hid (An (y :: wo (kk p) LB)) := fun z hz => by
            rcases List.mem_cons.1 hz with rfl | hz
            · exact aB.out _ (fnd_mem hfB).1
            · exact aB.out z ((wo_sub _ _).mem hz)
          have nsz : Hid (Nst (putL B (kk p) (kv p) LA bA) (y :: wo (kk p) LB)) := by
            show Nst _ _
            rw [hnl]
            exact ns.out.one aA.out hfA hfB _ _ _ _ _
          clear hwA hpin hnl
          go_cut [] from 60 to 155 (fun w' => Hid (Ns w a b B C (k + 1) w'))
          case first =>
            go_wp2_with (fail)
            go_meet
            refine ⟨_, _, _, _, _, _, _, _, _, _, ⟨S6.out.one.mono (by omega), S6.out.two.mono (by omega), S6.out.dj⟩, anA.out, anB.out, nsz.out, ?_⟩
            have := hff.out
            omega
          case rest =>
            obtain ⟨gA, gB, LA, LB, fA, mA, oA, fB, mB, oB, Sf, aA, aB, nf, hf⟩ := hcut.out
            go_step
            refine nests_tail Sf nf (by omega) (by omega) _ _ _ _ _ _ _ _ _ _ _ _ _ _ _ _ _ _ _ _ _ _ _ _ _ _ _ _ _ _ _ _ _ _ _ _ _ _ _ _ _ _ _ _ _ _ _ _ _ _ _ _ _ _ _ _ _ _ _ _ _ _ _ _ _ _ _ _ _ _ _ _ _ _ _ _ _ _ _ _ _ _ _ _ _ _ _ _ _ _ _ _ _ _ _ _ _ _ _ _ _ _ _ _ _ _ _ _ _ _ _ _ _ _ _ _ _ _ _ _ _ _ _ _ _ _ _ _ _ _ _ _ _ _ _ _ _ _ _ _ _ _ _ _ _ _ _ _ _ _ _ _ _ _ _ _ _ _ _ _ _ _ ?_
            intro c6 c22 c23 c24 c132 c133 c134 c135 c136 c137 c138 c139 c140 c141 c142 c143 c144 c145 c146 c147 c148 c149 c150 c151 c152 c153 c154 c155 wz bz
            have NZ : Hid (Ns w a b B C (k + 1) wz) := ⟨_, _, _, _, _, _, _, _, _, _, Sf.below bz, aA, aB, nf, hf⟩
            clear Sf aA aB nf hf bz hcut
            go_wp2
            exact ⟨⟨k + 1, hkN'.out, hk150'.out, by go_num, NZ⟩, by have := hkN'.out; simp [RowKit.intOf]; omega⟩
        | none =>
          have iA := get_none' S2.out.one.ch hck2 (kk p) hkl hfA
          rw [HK.out] at iA
          go_upto_region 13 with (go_at_call 9; refine iA.mono ?_; rintro r w4 ⟨rfl, P4⟩)
          have S4 := hid (S2.out.op P4)
          have iB := get_none' S4.out.two.ch hck2 (kk p) hkl hfB
          rw [HK.out] at iB
          clear P4 iA
          go_upto_region 17 with (go_at_call 9; refine iB.mono ?_; rintro r w5 ⟨rfl, P5⟩)
          have S5 := hid (S4.out.symm.op P5).symm
          have iQ := put_ok' S5.out.one.ch (by omega) (kk p) (kv p) hkl2 hvl2 pnA.out
          rw [HK.out, HV.out] at iQ
          clear P5 iB
          go_upto_if 125 with (go_at_call 10; refine iQ.mono ?_; rintro r w6 ⟨rfl, bA, g6, o6, P6, E6⟩)
          have S6 := hid (S5.out.op P6)
          have iR := put_ok' S6.out.two.ch (by omega) (kk p) (kv p) hkl2 hvl2 pnB.out
          rw [HK.out, HV.out] at iR
          clear P6 E6 iQ
          go_cut [] from 60 to 155 (fun w' => Hid (Ns w a b B C (k + 1) w'))
          case first =>
            go_wp2_with (go_at_call 10; refine iR.mono ?_; rintro r w7 ⟨rfl, bB, g7, o7, P7, E7⟩)
            go_meet
            have S7 := hid (S6.out.symm.op P7).symm
            clear P7 E7 iR
            have hnA : putL B (kk p) (kv p) LA bA = ⟨bA, kk p, kv p, 0⟩ :: room B ((kk p).length + (kv p).length) LA := by unfold putL pin; rw [hfA, (fnd_none hfA).2]
            have hnB : putL C (kk p) (kv p) LB bB = ⟨bB, kk p, kv p, 0⟩ :: room C ((kk p).length + (kv p).length) LB := by unfold putL pin; rw [hfB, (fnd_none hfB).2]
            have anA : Hid (An (putL B (kk p) (kv p) LA bA)) := fun z hz => by
              rw [hnA] at hz
              rcases List.mem_cons.1 hz with rfl | hz
              · exact NvK.out _
              · exact aA.out z ((room_sub _ _ _).mem hz)
            have anB : Hid (An (putL C (kk p) (kv p) LB bB)) := fun z hz => by
              rw [hnB] at hz
              rcases List.mem_cons.1 hz with rfl | hz
              · exact NvK.out _
              · exact aB.out z ((room_sub _ _ _).mem hz)
            have nsz : Hid (Nst (putL B (kk p) (kv p) LA bA) (putL C (kk p) (kv p) LB bB)) := by
              show Nst _ _
              rw [hnA, hnB]
              exact ns.out.none aA.out aB.out hBC.out hkn.out _ _ _ _ _ _ _
            clear hnA hnB
            refine ⟨_, _, _, _, _, _, _, _, _, _, ⟨S7.out.one.mono (by omega), S7.out.two.mono (by omega), S7.out.dj⟩, anA.out, anB.out, nsz.out, ?_⟩
            have := hff.out
            omega
          case rest =>
            obtain ⟨gA, gB, LA, LB, fA, mA, oA, fB, mB, oB, Sf, aA, aB, nf, hf⟩ := hcut.out
            go_step
            refine nests_tail Sf nf (by omega) (by omega) _ _ _ _ _ _ _ _ _ _ _ _ _ _ _ _ _ _ _ _ _ _ _ _ _ _ _ _ _ _ _ _ _ _ _ _ _ _ _ _ _ _ _ _ _ _ _ _ _ _ _ _ _ _ _ _ _ _ _ _ _ _ _ _ _ _ _ _ _ _ _ _ _ _ _ _ _ _ _ _ _ _ _ _ _ _ _ _ _ _ _ _ _ _ _ _ _ _ _ _ _ _ _ _ _ _ _ _ _ _ _ _ _ _ _ _ _ _ _ _ _ _ _ _ _ _ _ _ _ _ _ _ _ _ _ _ _ _ _ _ _ _ _ _ _ _ _ _ _ _ _ _ _ _ _ _ _ _ _ _ _ _ ?_
            intro c6 c22 c23 c24 c132 c133 c134 c135 c136 c137 c138 c139 c140 c141 c142 c143 c144 c145 c146 c147 c148 c149 c150 c151 c152 c153 c154 c155 wz bz
            have NZ : Hid (Ns w a b B C (k + 1) wz) := ⟨_, _, _, _, _, _, _, _, _, _, Sf.below bz, aA, aB, nf, hf⟩
            clear Sf aA aB nf hf bz hcut
            go_wp2
            exact ⟨⟨k + 1, hkN'.out, hk150'.out, by go_num, NZ⟩, by have := hkN'.out; simp [RowKit.intOf]; omega⟩
    · have y1 : k = N ∨ k = 150 := by omega
      obtain ⟨gA, gB, LA, LB, fA, mA, oA, fB, mB, oB, S, aA, aB, ns, hff⟩ := M.out
      have iT := tally_any S.one.ch
      have S' := hid S
      have hff' : (fA : Int) ≤ (fB : Int) := by omega
      have hf1 : decide ((fA : Int) ≤ (fB : Int)) = true := decide_eq_true hff'
      have hf2 : decide (fA ≤ fB) = true := decide_eq_true hff
      clear S aA aB ns hff M hkN
      unfold tal at iT
      have ff := field_found
      by_cases hlt : (k : Int) < (N : Int)
      · have y2 : ¬ (k : Int) < 150 := by omega
        clear y1
        go_wp2_with (first
          | (go_at_call 12; (with_reducible refine iT.mono ?_); rintro r w1 ⟨rfl, b1⟩; have iU := tally_any (S'.out.below b1).two.ch; unfold tal at iU)
          | (go_at_call 12; (with_reducible refine iU.mono ?_); rintro r w2 ⟨rfl, b2⟩))
        go_ret
        exact ⟨rfl, ((S'.out.below b1).below b2).one.bl⟩
      · clear y1
        go_wp2_with (first
          | (go_at_call 12; (with_reducible refine iT.mono ?_); rintro r w1 ⟨rfl, b1⟩; have iU := tally_any (S'.out.below b1).two.ch; unfold tal at iU)
          | (go_at_call 12; (with_reducible refine iU.mono ?_); rintro r w2 ⟨rfl, b2⟩))
        go_ret
        exact ⟨rfl, ((S'.out.below b1).below b2).one.bl⟩
end Kc
end Go.Proofs.Ytiehafkbkbeijaa

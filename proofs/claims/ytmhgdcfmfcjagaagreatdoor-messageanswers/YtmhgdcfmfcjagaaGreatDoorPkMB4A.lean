import Derived.Test.YtmhgdcfmfcjagaaGreatDoorPkMB2
import Derived.Test.YtmhgdcfmfcjagaaGreatDoorPkG4N
namespace Go.Proofs.YtmhgdcfmfcjagaaGreatDoor
open Go.RowKit Cod
namespace Msg
theorem putM {m : Nat} {w : World} {g n cap i : Nat} {cs c : List Value} (hc : c.length = m) (h : OwnM m w (.slice (some ⟨g, 0, none⟩) n cap) n (rep i c ++ cs.drop (i * m))) (hl : cs.length = n * m) (hi : i < n) :
    OwnM m (w.setCells g (i * m) c) (.slice (some ⟨g, 0, none⟩) n cap) n (rep (i + 1) c ++ cs.drop ((i + 1) * m)) ∧ (∀ q, q < m → (∃ y, w.cell? ⟨g, i * m + q, none⟩ = some y) ∧ w.frozen? ⟨g, i * m + q, none⟩ = false) ∧ Keep (fun k => (Value.slice (some ⟨g, 0, none⟩) n cap).ownBlock = some k) w (w.setCells g (i * m) c) := by
  have hrl : (rep i c).length = i * m := by rw [rep_len, hc]
  have hN := Nat.mul_le_mul_right m (show i + 1 ≤ n from hi)
  rw [Nat.succ_mul] at hN
  rcases h with ⟨h, _⟩ | ⟨g', cap', h, h2, h3, h0, h4, h5, h6⟩
  · cases h
  injection h with e1 e2 e3
  injection e1 with e1
  injection e1 with e1
  subst e1 e3
  have hcap := Nat.mul_le_mul_right m h2
  have hb := But.setCells c (i * m) (But.refl g w)
  refine ⟨.inr ⟨g, cap, rfl, h2, h3, ?_, ?_, World.there_setCells h5 _ _ _, Nat.lt_of_lt_of_le h6 hb.size⟩, fun q hq => ?_, Keep.ofBut hb rfl⟩
  · rw [List.length_append, rep_len, hc, List.length_drop, hl, Nat.succ_mul]; omega
  · intro t u ht
    rw [rep_drop] at ht
    rw [Nat.zero_add]
    by_cases h1 : t < i * m
    · rw [List.getElem?_append_left (by omega)] at ht
      rw [World.cell?_setCells_out g c (i * m) w ⟨g, t, none⟩ (fun _ _ => .inl h1)]
      have := h4 t u (by rw [List.getElem?_append_left (by omega)]; exact ht)
      rwa [Nat.zero_add] at this
    · rw [List.getElem?_append_right (by omega), hrl] at ht
      by_cases h9 : t < i * m + m
      · rw [List.getElem?_append_left (by omega)] at ht
        have := World.rangeAt_setCells_same w g (i * m) c (fun j hj => by have := h5 (i * m + j) (by omega); simpa using this) (t - i * m) u ht
        rwa [show i * m + (t - i * m) = t from by omega] at this
      · rw [List.getElem?_append_right (by omega), List.getElem?_drop, hc] at ht
        rw [World.cell?_setCells_out g c (i * m) w ⟨g, t, none⟩ (fun _ _ => .inr (by show i * m + c.length ≤ t; omega))]
        have := h4 t u (by rw [List.getElem?_append_right (by omega), hrl, ← ht]; congr 1; omega)
        rwa [Nat.zero_add] at this
  · have := h5 (i * m + q) (by omega)
    rw [Nat.zero_add] at this
    exact ⟨Option.isSome_iff_exists.1 this.1, this.2⟩
end Msg
end Go.Proofs.YtmhgdcfmfcjagaaGreatDoor

namespace Go.Proofs.YtmhgdcfmfcjagaaGreatDoor
open Go.RowKit Cod
namespace Msg
theorem infoLR17 : (Tryz.prog.info? 43).map (fun i => (i.zero, i.size, i.bytes)) = some (some (.slice none 0 0), 1, 24) := by kernel_rfl
theorem infoR17 : (Tryz.prog.info? 45).map (fun i => (i.zero, i.size, i.bytes)) = some (some (.agg #[.int .i64 0, .int .i64 0, .int .i64 0, .int .i64 0, .string ⟨#[]⟩, .slice none 0 0, .slice none 0 0, .slice none 0 0]), 8, 120) := by kernel_rfl
def mkR17 (j : Nat) : Value := .int .i64 (-5 - (j : Int))
def mcR17 (j : Nat) : List Value := [.int .i64 0, .int .i64 0, mkR17 j, .int .i64 0, .string ⟨#[]⟩, .slice none 0 0, .slice none 0 0, .slice none 0 0]
theorem oneR17 (j : Nat) : ∀ u, u ∈ mcR17 j → u.oneCell' = true := fun u hu => by
  simp only [mcR17, mkR17, List.mem_cons, List.not_mem_nil, or_false] at hu
  rcases hu with rfl | rfl | rfl | rfl | rfl | rfl | rfl | rfl <;> rfl
set_option maxRecDepth 100000 in
set_option maxHeartbeats 4000000 in
theorem outerR17_any {w : World} {X : Nat} {vx vt vo vi : Value} {vs : List Value} (row : w.heap[X]? = some (.cells #[vx, vt, vo, vi] 34 (0, 0))) (h : Bl 8 w X vi vs) (ho : ∃ a c, vo = .slice a 0 c) :
    Calls Tryz.prog 55 #[.pointer (some ⟨X, 0, none⟩)] w fun e w' => e = .returned (.bool true) ∧ Keep (fun k => k ∈ bks vs) w w' := by
  obtain ⟨ρ0, hr1, hr2⟩ := roles17 vs h.nd
  have P0 := hid (h.start (mc := mcR17) hr1)
  obtain ⟨N, hN⟩ : ∃ N, Hid (vs.length = N) := ⟨_, rfl⟩
  obtain ⟨ai, ci, ei, _, _⟩ := h.ov.shape
  have hle := h.le
  rw [hN.out] at ei hle
  have rd := hid (fun (wr : World) (ρ' : Nat → Nat) (p : Nat) (u : Value) (hp : vs[p]? = some u) (hρ : ∀ k, k < w.heap.size → ρ' k = ρ0 k) (kp : Keep (fun k => ρ' k ≠ 0) w wr) => bl_read h hr2 row (f := 3) rfl hp hρ kp)
  have rc := hid (fun (wr : World) (ρ' : Nat → Nat) (hρ : ∀ k, k < w.heap.size → ρ' k = ρ0 k) (kp : Keep (fun k => ρ' k ≠ 0) w wr) => bl_cell h hr2 row (f := 3) rfl hρ kp)
  have kt := hid (fun (wr : World) (ρ' : Nat → Nat) (hρ : ∀ k, k < w.heap.size → ρ' k = ρ0 k) (kp : Keep (fun k => ρ' k ≠ 0) w wr) => bl_kept hr2 hρ kp)
  have at_ : Hid (∀ p, p < N → ∃ u, vs[p]? = some u) := fun p hp => ⟨vs[p]'(by rw [hN.out]; exact hp), List.getElem?_eq_getElem _⟩
  obtain ⟨ao, co, rfl⟩ := ho
  have ro : Hid (∀ (wr : World) (ρ' : Nat → Nat), (∀ k, k < w.heap.size → ρ' k = ρ0 k) → Keep (fun k => ρ' k ≠ 0) w wr → wr.cell? ⟨X, 2, none⟩ = some (.slice ao 0 co)) := fun wr ρ' hρ kp => (by
    have hX := lt_of_heap row
    rw [World.cell?_of_block (a := ⟨X, 2, none⟩) (kp.block X hX (by rw [hρ X hX, hr2 X h.nX]; exact fun e => e rfl)), cell_of_row _ _ _ _ _ _ row]
    rfl)
  have xo := ro.out w ρ0 (fun _ _ => rfl) (Keep.refl _ _)
  subst ei
  clear row h hr1 hr2
  go_enter Tryz.func55, Tryz.ntmps55
  go_wp2
  go_loopw [3] (fun i w' => i = .int .i64 0 ∧ w' = w) (fun _ _ => 0)
  case atStart => exact ⟨rfl, rfl⟩
  case round =>
    obtain ⟨rfl, hw0⟩ := hrel
    have hw0 := hw0.symm
    subst hw0
    go_wp2
    go_loopw [5] (fun i w' => ∃ p : Nat, p ≤ N ∧ i = .int .i64 (p : Int) ∧ Hid (Pm 8 mcR17 vs w ρ0 w' p)) (fun i _ => N - (intOf i).toNat)
    case atStart => exact ⟨0, Nat.zero_le _, rfl, P0⟩
    case round =>
      obtain ⟨p, hp, rfl, P⟩ := hrel
      have x0 := rc.out wr ρ0 (fun _ _ => rfl) P.out.kp
      by_cases hpN : p < N
      · obtain ⟨v, hv⟩ := at_.out p hpN
        obtain ⟨n, cs, Q⟩ := P.out.open hv
        obtain ⟨ax, cx, ex, _, _⟩ := Q.cur.shape
        subst ex
        have hn6 := Q.le
        have Q0 := hid Q
        have HV := hid hv
        have y1 : (p : Int) < (N : Int) := by omega
        have y3 : (0 : Int) ≤ (p : Int) := by omega
        have hpN' := hid hpN
        clear Q P hv
        obtain ⟨gi, ci', ei, x1, x2⟩ := rd.out wr ρ0 p _ HV.out (fun _ _ => rfl) Q0.out.kp
        obtain ⟨rfl, _, rfl⟩ : ai = some ⟨gi, 0, none⟩ ∧ True ∧ ci = ci' := by injection ei with a b c; exact ⟨a, trivial, c⟩
        clear ei x1
        go_wp2
        go_loopw [6] (fun i w' => ∃ j : Nat, j ≤ n ∧ i = .int .i64 (j : Int) ∧ Hid (Pn 8 mcR17 vs w ρ0 w' p (.slice ax n cx) n j cs)) (fun i _ => n - (intOf i).toNat)
        case atStart => exact ⟨0, Nat.zero_le _, rfl, Q0⟩
        case round =>
          obtain ⟨j, hj, rfl, Q⟩ := hrel
          obtain ⟨_, _, ei, z1, z2⟩ := rd.out wr ρ0 p _ HV.out (fun _ _ => rfl) Q.out.kp
          obtain ⟨rfl, rfl⟩ : gi = _ ∧ ci = _ := by injection ei with a b c; injection a with a; injection a with a; exact ⟨a, c⟩
          clear ei
          by_cases hjn : j < n
          · obtain ⟨g, rfl⟩ : ∃ g, ax = some ⟨g, 0, none⟩ := by
              rcases Q.out.cur with ⟨e0, _⟩ | ⟨g, cap, e0, _⟩
              · injection e0 with _ e0; omega
              · injection e0 with e0; exact ⟨g, e0⟩
            obtain ⟨O2, hy, K2⟩ := putM (m := 8) (c := mcR17 p) rfl Q.out.cur Q.out.len hjn
            have Q2 := hid (Q.out.put K2 O2)
            have u1 : (j : Int) < (n : Int) := by omega
            have u3 : (0 : Int) ≤ (j : Int) := by omega
            have hjn' := hid hjn
            obtain ⟨⟨b0, hb0⟩, f0⟩ := hy 0 (by omega)
            rw [Nat.add_zero] at hb0 f0
            obtain ⟨⟨b1, hb1⟩, f1⟩ := hy 1 (by omega)
            obtain ⟨⟨b2, hb2⟩, f2⟩ := hy 2 (by omega)
            obtain ⟨⟨b3, hb3⟩, f3⟩ := hy 3 (by omega)
            obtain ⟨⟨b4, hb4⟩, f4⟩ := hy 4 (by omega)
            obtain ⟨⟨b5, hb5⟩, f5⟩ := hy 5 (by omega)
            obtain ⟨⟨b6, hb6⟩, f6⟩ := hy 6 (by omega)
            obtain ⟨⟨b7, hb7⟩, f7⟩ := hy 7 (by omega)
            clear O2 K2 Q hy
            go_wp2
            exact ⟨⟨j + 1, hjn'.out, by go_num, Q2⟩, by have := hjn'.out; simp [RowKit.intOf]; omega⟩
          · obtain rfl : j = n := by omega
            have u1 : ¬ (j : Int) < (j : Int) := by omega
            have P2 := hid Q.out.shut
            go_wp2
            exact ⟨⟨p + 1, hpN'.out, by go_num, P2⟩, by have := hpN'.out; simp [RowKit.intOf]; omega⟩
      · obtain rfl : p = N := by omega
        have y1 : ¬ (p : Int) < (p : Int) := by omega
        have xo := ro.out wr ρ0 (fun _ _ => rfl) P.out.kp
        have G0 : Hid (∃ ρ, (∀ k, k < w.heap.size → ρ k = ρ0 k) ∧ Pg 8 2 mkR17 mcR17 vs w ρ wr 0 (.slice none 0 0) []) := ⟨ρ0, fun _ _ => rfl, P.out.grow (by rw [hN.out]; exact Nat.le_refl _)⟩
        clear P
        go_wp2
        go_loopw [7, 8] (fun v i w' => v = .slice none 0 0 ∧ i = .int .i64 0 ∧ w' = wr) (fun _ _ _ => 0)
        case atStart => exact ⟨rfl, rfl, rfl⟩
        case round =>
          obtain ⟨rfl, rfl, rfl⟩ := hrel
          go_wp2
          go_loopw [11, 12] (fun va i w' => ∃ (q : Nat) (ls : List Value), q ≤ p ∧ i = .int .i64 (q : Int) ∧ Hid (ls.length = 20 * q) ∧ Hid (∃ ρ, (∀ k, k < w.heap.size → ρ k = ρ0 k) ∧ Pg 8 2 mkR17 mcR17 vs w ρ w' q va ls)) (fun _ i _ => p - (intOf i).toNat)
          case atStart => exact ⟨0, [], Nat.zero_le _, rfl, rfl, G0⟩
          case round =>
            obtain ⟨q, ls, hq, rfl, hl, ⟨ρ1, hρ1, G⟩⟩ := hrel
            have x0 := rc.out wr ρ1 hρ1 G.kp
            by_cases hqp : q < p
            · obtain ⟨v, hv⟩ := at_.out q hqp
              obtain ⟨n, hn6, U⟩ := G.open hl.out hv
              obtain ⟨ax, cx, ex, _, _⟩ := U.cur.shape
              subst ex
              obtain ⟨gi, ci', ei, x1, x2⟩ := rd.out wr ρ1 q _ hv hρ1 G.kp
              obtain ⟨rfl, _, rfl⟩ : ai = some ⟨gi, 0, none⟩ ∧ True ∧ ci = ci' := by injection ei with a b c; exact ⟨a, trivial, c⟩
              clear ei x1
              have U0 : Hid (∃ ρ ls nx, (∀ k, k < w.heap.size → ρ k = ρ0 k) ∧ ls.length = 20 * q + 0 ∧ nx ≤ 1000000 + 0 ∧ Pu 8 2 mkR17 mcR17 vs w ρ wr q u11 ls (.slice ax n cx) nx) := ⟨ρ1, ls, n, hρ1, hl.out, hn6, U⟩
              have y1 : (q : Int) < (p : Int) := by omega
              have y3 : (0 : Int) ≤ (q : Int) := by omega
              have hqp' := hid hqp
              clear U G hv hl
              go_wp2
              go_loopw [11, 13, 14] (fun va x i w' => ∃ j : Nat, j ≤ 20 ∧ i = .int .i64 (j : Int) ∧ Hid (∃ ρ ls nx, (∀ k, k < w.heap.size → ρ k = ρ0 k) ∧ ls.length = 20 * q + j ∧ nx ≤ 1000000 + j ∧ Pu 8 2 mkR17 mcR17 vs w ρ w' q va ls x nx)) (fun _ _ i _ => 20 - (intOf i).toNat)
              case atStart => exact ⟨0, by omega, rfl, U0⟩
              case round =>
                obtain ⟨j, hj, rfl, HU⟩ := hrel
                by_cases hj2 : j < 20
                · obtain ⟨ρ2, ls2, nx, e1, e2, e3, U⟩ := HU.out
                  obtain ⟨a2, c2, ex, _, _⟩ := U.cur.shape
                  subst ex
                  obtain ⟨v3, w3, hap3, O3, g3⟩ := append_oneM 32 43 (.slice none 0 0) 24 (by decide) Tryz.underlying32 infoLR17 rfl wr _ ls2.length ls2 [.slice a2 nx c2] rfl (fun u hu => by rw [List.mem_singleton.1 hu]; rfl) U.g.ol (by omega)
                  have U3 := U.growA rfl rfl (by omega) g3 O3
                  have s3 := U.g.kp.size
                  obtain ⟨x4, w4, hap4, O4, g4⟩ := append_oneM 43 45 (.agg #[.int .i64 0, .int .i64 0, .int .i64 0, .int .i64 0, .string ⟨#[]⟩, .slice none 0 0, .slice none 0 0, .slice none 0 0]) 120 (by decide) Tryz.underlying43 infoR17 rfl w3 (.slice a2 nx c2) nx (rep nx (mcR17 q)) (mcR17 q) rfl (oneR17 q) U3.cur (by omega)
                  have U4 := U3.growX rfl rfl g4 (by rw [rep_succ]; exact O4)
                  have N4 : Hid (∃ ρ ls nx, (∀ k, k < w.heap.size → ρ k = ρ0 k) ∧ ls.length = 20 * q + (j + 1) ∧ nx ≤ 1000000 + (j + 1) ∧ Pu 8 2 mkR17 mcR17 vs w ρ w4 q v3 ls x4 nx) :=
                    ⟨_, _, _, rx_same (rx_same e1 s3) U3.g.kp.size, by rw [List.length_append, e2]; rfl, by omega, U4⟩
                  have t1 : (j : Int) < 20 := by omega
                  have hj2' := hid hj2
                  rw [mcR17, mkR17] at hap4
                  clear U U3 U4 O3 O4 g3 g4 HU e2 e3
                  go_wp2_with (first
                    | ((with_reducible show wpList _ _ _ (Oper.mk _ (Op.call { callee := Callee.builtin Builtin.append, args := _, argTypes := #[32, 32] }) _ _ _ _ :: _) _ _); go_must (refine Lib.wpList_append_run _ rfl _ _ 32 32 rfl _ _ rfl rfl _ _ hap3 ?_))
                    | ((with_reducible show wpList _ _ _ (Oper.mk _ (Op.call { callee := Callee.builtin Builtin.append, args := _, argTypes := #[43, 43] }) _ _ _ _ :: _) _ _); go_must (refine Lib.wpList_append_run _ rfl _ _ 43 43 rfl _ _ rfl rfl _ _ hap4 ?_)))
                  exact ⟨⟨j + 1, hj2'.out, by go_num, N4⟩, by have := hj2'.out; simp [RowKit.intOf]; omega⟩
                · obtain rfl : j = 20 := by omega
                  have t1 : ¬ ((20 : Nat) : Int) < 20 := by omega
                  obtain ⟨ρ2, ls2, nx, e1, e2, e3, U⟩ := HU.out
                  have N4 : Hid (∃ ρ, (∀ k, k < w.heap.size → ρ k = ρ0 k) ∧ Pg 8 2 mkR17 mcR17 vs w ρ wr (q + 1) u11 ls2) := ⟨ρ2, e1, U.shut⟩
                  have L4 : Hid (ls2.length = 20 * (q + 1)) := by show _ = _; omega
                  clear U HU e2 e3
                  go_wp2
                  exact ⟨⟨q + 1, ls2, hqp'.out, by go_num, L4, N4⟩, by have := hqp'.out; simp [RowKit.intOf]; omega⟩
            · obtain rfl : q = p := by omega
              have y1 : ¬ (q : Int) < (q : Int) := by omega
              have xo := ro.out wr ρ1 hρ1 G.kp
              obtain ⟨aa, ca, ea, _, _⟩ := G.ol.shape
              subst ea
              obtain ⟨L, hL⟩ : ∃ L, Hid (ls.length = L) := ⟨_, rfl⟩
              have hL6 : L ≤ 800000 := by rw [← hL.out, hl.out]; omega
              rw [hL.out]
              have HG := hid G
              have HK := hid (kt.out wr ρ1 hρ1 G.kp)
              clear G hl
              go_wp2
              go_loopw [15] (fun i w' => i = .int .i64 0 ∧ w' = wr) (fun _ _ => 0)
              case atStart => exact ⟨rfl, rfl⟩
              case round =>
                obtain ⟨rfl, rfl⟩ := hrel
                go_wp2
                go_loopw [17] (fun i w' => ∃ t : Nat, t ≤ L ∧ i = .int .i64 (t : Int) ∧ w' = wr) (fun i _ => L - (intOf i).toNat)
                case atStart => exact ⟨0, Nat.zero_le _, rfl, rfl⟩
                case round =>
                  obtain ⟨t, ht, rfl, rfl⟩ := hrel
                  by_cases htL : t < L
                  · have htl : t < ls.length := by rw [hL.out]; exact htL
                    obtain ⟨x, hx⟩ : ∃ x, ls[t]? = some x := ⟨_, List.getElem?_eq_getElem htl⟩
                    obtain ⟨g, c1, e1, s1, _⟩ := HG.out.ol.cell hx
                    obtain ⟨rfl, _, rfl⟩ : aa = some ⟨g, 0, none⟩ ∧ True ∧ ca = c1 := by injection e1 with a b c; exact ⟨a, trivial, c⟩
                    obtain ⟨ax, n, cx, rfl, hn, hc⟩ := (HG.out.mrk t x hx).1
                    have HC := hid hc
                    have t1 : (t : Int) < (L : Int) := by omega
                    have t3 : (0 : Int) ≤ (t : Int) := by omega
                    have htL' := hid htL
                    obtain ⟨K, hK⟩ : ∃ K, Hid (t / 20 = K) := ⟨_, rfl⟩
                    have hKq : (t : Int) / 20 = (K : Int) := by have := hK.out; omega
                    have hK6 : K ≤ 40000 := by have := hK.out; omega
                    rw [hK.out] at HC
                    clear e1 hc hx htl
                    go_wp2
                    go_loopw [18] (fun i w' => ∃ j : Nat, j ≤ n ∧ i = .int .i64 (j : Int) ∧ w' = wr) (fun i _ => n - (intOf i).toNat)
                    case atStart => exact ⟨0, Nat.zero_le _, rfl, rfl⟩
                    case round =>
                      obtain ⟨j, hj, rfl, rfl⟩ := hrel
                      by_cases hjn : j < n
                      · obtain ⟨gx, rfl, _, s2⟩ := HC.out j hjn
                        rw [mkR17] at s2
                        try rw [Nat.add_zero] at s2
                        have z1 : (j : Int) < (n : Int) := by omega
                        have z3 : (0 : Int) ≤ (j : Int) := by omega
                        have hjn' := hid hjn
                        go_wp2
                        exact ⟨⟨j + 1, hjn'.out, by go_num, trivial⟩, by have := hjn'.out; simp [RowKit.intOf]; omega⟩
                      · obtain rfl : j = n := by omega
                        have z1 : ¬ (j : Int) < (j : Int) := by omega
                        go_wp2
                        exact ⟨⟨t + 1, htL'.out, by go_num, trivial⟩, by have := htL'.out; simp [RowKit.intOf]; omega⟩
                  · obtain rfl : t = L := by omega
                    have t1 : ¬ (t : Int) < (t : Int) := by omega
                    go_wp2
                    go_ret
                    exact ⟨rfl, HK.out⟩
end Msg
end Go.Proofs.YtmhgdcfmfcjagaaGreatDoor

namespace Go.Proofs.YtmhgdcfmfcjagaaGreatDoor
open Go.RowKit Cod
namespace Msg
def fnum : Fq → Nat
  | .a => 107
  | .b => 110
  | .size => 106
  | .indices => 108
  | .heads => 109
  | .asks => 111
  | .entries => 105
def fv (g : Fq) : Value := .func (.func (fnum g)) #[] #[]
theorem alloc_lt {w : World} {ob : Obj} {k : Nat} (h : k < w.heap.size) : (w.alloc ob).heap[k]? = w.heap[k]? := (((Below.refl _ w).alloc (Nat.le_refl _) ob).block k h)
def FsPost (k : Nat) (w : World) (e : Ending) (w' : World) : Prop :=
  ∃ g, e = .returned (.slice (some ⟨g, 0, none⟩) (flds k).length (flds k).length) ∧ w.heap.size ≤ g ∧ w'.heap[g]? = some (.cells ((flds k).map fv).toArray 135 (0, 0)) ∧ Below w.heap.size w w'
set_option maxRecDepth 100000 in
set_option maxHeartbeats 2000000 in
theorem rq_1 (w : World) : Calls Tryz.prog 92 #[.int .i64 1] w (FsPost 1 w) := by
  go_enter Tryz.func92, Tryz.ntmps92
  go_wp2
  go_ret
  refine ⟨w.heap.size, rfl, by omega, ?_, ?_⟩
  · rw [alloc_lt (by simp only [size_alloc]; omega)]
    rw [alloc_lt (by simp only [size_alloc]; omega)]
    rw [alloc_lt (by simp only [size_alloc]; omega)]
    rw [alloc_lt (by simp only [size_alloc]; omega)]
    rw [alloc_lt (by simp only [size_alloc]; omega)]
    rw [alloc_lt (by simp only [size_alloc]; omega)]
    rw [alloc_lt (by simp only [size_alloc]; omega)]
    rw [alloc_lt (by simp only [size_alloc]; omega)]
    rw [alloc_lt (by simp only [size_alloc]; omega)]
    rw [alloc_lt (by simp only [size_alloc]; omega)]
    rw [alloc_lt (by simp only [size_alloc]; omega)]
    rw [alloc_lt (by simp only [size_alloc]; omega)]
    exact heap_alloc_at _ _ _ (by first | rfl | simp only [size_alloc])
  · repeat' refine Below.alloc ?_ (by first | exact Nat.le_refl _ | (simp only [size_alloc]; omega)) _
    exact Below.refl _ _
set_option maxRecDepth 100000 in
set_option maxHeartbeats 2000000 in
theorem rq_2 (w : World) : Calls Tryz.prog 92 #[.int .i64 2] w (FsPost 2 w) := by
  go_enter Tryz.func92, Tryz.ntmps92
  go_wp2
  go_ret
  refine ⟨w.heap.size + 1, rfl, by omega, ?_, ?_⟩
  · rw [alloc_lt (by simp only [size_alloc]; omega)]
    rw [alloc_lt (by simp only [size_alloc]; omega)]
    rw [alloc_lt (by simp only [size_alloc]; omega)]
    rw [alloc_lt (by simp only [size_alloc]; omega)]
    rw [alloc_lt (by simp only [size_alloc]; omega)]
    rw [alloc_lt (by simp only [size_alloc]; omega)]
    rw [alloc_lt (by simp only [size_alloc]; omega)]
    rw [alloc_lt (by simp only [size_alloc]; omega)]
    rw [alloc_lt (by simp only [size_alloc]; omega)]
    rw [alloc_lt (by simp only [size_alloc]; omega)]
    rw [alloc_lt (by simp only [size_alloc]; omega)]
    exact heap_alloc_at _ _ _ (by first | rfl | simp only [size_alloc])
  · repeat' refine Below.alloc ?_ (by first | exact Nat.le_refl _ | (simp only [size_alloc]; omega)) _
    exact Below.refl _ _
set_option maxRecDepth 100000 in
set_option maxHeartbeats 2000000 in
theorem rq_3 (w : World) : Calls Tryz.prog 92 #[.int .i64 3] w (FsPost 3 w) := by
  go_enter Tryz.func92, Tryz.ntmps92
  go_wp2
  go_ret
  refine ⟨w.heap.size + 1 + 1, rfl, by omega, ?_, ?_⟩
  · rw [alloc_lt (by simp only [size_alloc]; omega)]
    rw [alloc_lt (by simp only [size_alloc]; omega)]
    rw [alloc_lt (by simp only [size_alloc]; omega)]
    rw [alloc_lt (by simp only [size_alloc]; omega)]
    rw [alloc_lt (by simp only [size_alloc]; omega)]
    rw [alloc_lt (by simp only [size_alloc]; omega)]
    rw [alloc_lt (by simp only [size_alloc]; omega)]
    rw [alloc_lt (by simp only [size_alloc]; omega)]
    rw [alloc_lt (by simp only [size_alloc]; omega)]
    rw [alloc_lt (by simp only [size_alloc]; omega)]
    exact heap_alloc_at _ _ _ (by first | rfl | simp only [size_alloc])
  · repeat' refine Below.alloc ?_ (by first | exact Nat.le_refl _ | (simp only [size_alloc]; omega)) _
    exact Below.refl _ _
set_option maxRecDepth 100000 in
set_option maxHeartbeats 2000000 in
theorem rq_4 (w : World) : Calls Tryz.prog 92 #[.int .i64 4] w (FsPost 4 w) := by
  go_enter Tryz.func92, Tryz.ntmps92
  go_wp2
  go_ret
  refine ⟨w.heap.size + 1 + 1 + 1, rfl, by omega, ?_, ?_⟩
  · rw [alloc_lt (by simp only [size_alloc]; omega)]
    rw [alloc_lt (by simp only [size_alloc]; omega)]
    rw [alloc_lt (by simp only [size_alloc]; omega)]
    rw [alloc_lt (by simp only [size_alloc]; omega)]
    rw [alloc_lt (by simp only [size_alloc]; omega)]
    rw [alloc_lt (by simp only [size_alloc]; omega)]
    rw [alloc_lt (by simp only [size_alloc]; omega)]
    rw [alloc_lt (by simp only [size_alloc]; omega)]
    rw [alloc_lt (by simp only [size_alloc]; omega)]
    exact heap_alloc_at _ _ _ (by first | rfl | simp only [size_alloc])
  · repeat' refine Below.alloc ?_ (by first | exact Nat.le_refl _ | (simp only [size_alloc]; omega)) _
    exact Below.refl _ _
set_option maxRecDepth 100000 in
set_option maxHeartbeats 2000000 in
theorem rq_5 (w : World) : Calls Tryz.prog 92 #[.int .i64 5] w (FsPost 5 w) := by
  go_enter Tryz.func92, Tryz.ntmps92
  go_wp2
  go_ret
  refine ⟨w.heap.size + 1 + 1 + 1 + 1, rfl, by omega, ?_, ?_⟩
  · rw [alloc_lt (by simp only [size_alloc]; omega)]
    rw [alloc_lt (by simp only [size_alloc]; omega)]
    rw [alloc_lt (by simp only [size_alloc]; omega)]
    rw [alloc_lt (by simp only [size_alloc]; omega)]
    rw [alloc_lt (by simp only [size_alloc]; omega)]
    rw [alloc_lt (by simp only [size_alloc]; omega)]
    rw [alloc_lt (by simp only [size_alloc]; omega)]
    rw [alloc_lt (by simp only [size_alloc]; omega)]
    exact heap_alloc_at _ _ _ (by first | rfl | simp only [size_alloc])
  · repeat' refine Below.alloc ?_ (by first | exact Nat.le_refl _ | (simp only [size_alloc]; omega)) _
    exact Below.refl _ _
set_option maxRecDepth 100000 in
set_option maxHeartbeats 2000000 in
theorem rq_6 (w : World) : Calls Tryz.prog 92 #[.int .i64 6] w (FsPost 6 w) := by
  go_enter Tryz.func92, Tryz.ntmps92
  go_wp2
  go_ret
  refine ⟨w.heap.size + 1 + 1 + 1 + 1 + 1, rfl, by omega, ?_, ?_⟩
  · rw [alloc_lt (by simp only [size_alloc]; omega)]
    rw [alloc_lt (by simp only [size_alloc]; omega)]
    rw [alloc_lt (by simp only [size_alloc]; omega)]
    rw [alloc_lt (by simp only [size_alloc]; omega)]
    rw [alloc_lt (by simp only [size_alloc]; omega)]
    rw [alloc_lt (by simp only [size_alloc]; omega)]
    rw [alloc_lt (by simp only [size_alloc]; omega)]
    exact heap_alloc_at _ _ _ (by first | rfl | simp only [size_alloc])
  · repeat' refine Below.alloc ?_ (by first | exact Nat.le_refl _ | (simp only [size_alloc]; omega)) _
    exact Below.refl _ _
set_option maxRecDepth 100000 in
set_option maxHeartbeats 2000000 in
theorem rq_7 (w : World) : Calls Tryz.prog 92 #[.int .i64 7] w (FsPost 7 w) := by
  go_enter Tryz.func92, Tryz.ntmps92
  go_wp2
  go_ret
  refine ⟨w.heap.size + 1 + 1 + 1 + 1 + 1 + 1, rfl, by omega, ?_, ?_⟩
  · rw [alloc_lt (by simp only [size_alloc]; omega)]
    rw [alloc_lt (by simp only [size_alloc]; omega)]
    rw [alloc_lt (by simp only [size_alloc]; omega)]
    rw [alloc_lt (by simp only [size_alloc]; omega)]
    rw [alloc_lt (by simp only [size_alloc]; omega)]
    rw [alloc_lt (by simp only [size_alloc]; omega)]
    exact heap_alloc_at _ _ _ (by first | rfl | simp only [size_alloc])
  · repeat' refine Below.alloc ?_ (by first | exact Nat.le_refl _ | (simp only [size_alloc]; omega)) _
    exact Below.refl _ _
set_option maxRecDepth 100000 in
set_option maxHeartbeats 2000000 in
theorem rq_8 (w : World) : Calls Tryz.prog 92 #[.int .i64 8] w (FsPost 8 w) := by
  go_enter Tryz.func92, Tryz.ntmps92
  go_wp2
  go_ret
  refine ⟨w.heap.size + 1 + 1 + 1 + 1 + 1 + 1 + 1, rfl, by omega, ?_, ?_⟩
  · rw [alloc_lt (by simp only [size_alloc]; omega)]
    rw [alloc_lt (by simp only [size_alloc]; omega)]
    rw [alloc_lt (by simp only [size_alloc]; omega)]
    rw [alloc_lt (by simp only [size_alloc]; omega)]
    rw [alloc_lt (by simp only [size_alloc]; omega)]
    exact heap_alloc_at _ _ _ (by first | rfl | simp only [size_alloc])
  · repeat' refine Below.alloc ?_ (by first | exact Nat.le_refl _ | (simp only [size_alloc]; omega)) _
    exact Below.refl _ _
set_option maxRecDepth 100000 in
set_option maxHeartbeats 2000000 in
theorem rq_9 (w : World) : Calls Tryz.prog 92 #[.int .i64 9] w (FsPost 9 w) := by
  go_enter Tryz.func92, Tryz.ntmps92
  go_wp2
  go_ret
  refine ⟨w.heap.size + 1 + 1 + 1 + 1 + 1 + 1 + 1 + 1, rfl, by omega, ?_, ?_⟩
  · rw [alloc_lt (by simp only [size_alloc]; omega)]
    rw [alloc_lt (by simp only [size_alloc]; omega)]
    rw [alloc_lt (by simp only [size_alloc]; omega)]
    rw [alloc_lt (by simp only [size_alloc]; omega)]
    exact heap_alloc_at _ _ _ (by first | rfl | simp only [size_alloc])
  · repeat' refine Below.alloc ?_ (by first | exact Nat.le_refl _ | (simp only [size_alloc]; omega)) _
    exact Below.refl _ _
set_option maxRecDepth 100000 in
set_option maxHeartbeats 2000000 in
theorem rq_10 (w : World) : Calls Tryz.prog 92 #[.int .i64 10] w (FsPost 10 w) := by
  go_enter Tryz.func92, Tryz.ntmps92
  go_wp2
  go_ret
  refine ⟨w.heap.size + 1 + 1 + 1 + 1 + 1 + 1 + 1 + 1 + 1, rfl, by omega, ?_, ?_⟩
  · rw [alloc_lt (by simp only [size_alloc]; omega)]
    rw [alloc_lt (by simp only [size_alloc]; omega)]
    rw [alloc_lt (by simp only [size_alloc]; omega)]
    exact heap_alloc_at _ _ _ (by first | rfl | simp only [size_alloc])
  · repeat' refine Below.alloc ?_ (by first | exact Nat.le_refl _ | (simp only [size_alloc]; omega)) _
    exact Below.refl _ _
set_option maxRecDepth 100000 in
set_option maxHeartbeats 2000000 in
theorem rq_11 (w : World) : Calls Tryz.prog 92 #[.int .i64 11] w (FsPost 11 w) := by
  go_enter Tryz.func92, Tryz.ntmps92
  go_wp2
  go_ret
  refine ⟨w.heap.size + 1 + 1 + 1 + 1 + 1 + 1 + 1 + 1 + 1 + 1, rfl, by omega, ?_, ?_⟩
  · rw [alloc_lt (by simp only [size_alloc]; omega)]
    rw [alloc_lt (by simp only [size_alloc]; omega)]
    exact heap_alloc_at _ _ _ (by first | rfl | simp only [size_alloc])
  · repeat' refine Below.alloc ?_ (by first | exact Nat.le_refl _ | (simp only [size_alloc]; omega)) _
    exact Below.refl _ _
set_option maxRecDepth 100000 in
set_option maxHeartbeats 2000000 in
theorem rq_12 (w : World) : Calls Tryz.prog 92 #[.int .i64 12] w (FsPost 12 w) := by
  go_enter Tryz.func92, Tryz.ntmps92
  go_wp2
  go_ret
  refine ⟨w.heap.size + 1 + 1 + 1 + 1 + 1 + 1 + 1 + 1 + 1 + 1 + 1, rfl, by omega, ?_, ?_⟩
  · rw [alloc_lt (by simp only [size_alloc]; omega)]
    exact heap_alloc_at _ _ _ (by first | rfl | simp only [size_alloc])
  · repeat' refine Below.alloc ?_ (by first | exact Nat.le_refl _ | (simp only [size_alloc]; omega)) _
    exact Below.refl _ _
theorem requestFields_any (k : Nat) (h1 : 1 ≤ k) (h2 : k ≤ 12) (w : World) : Calls Tryz.prog 92 #[.int .i64 (k : Int)] w (FsPost k w) := by
  match k, h1, h2 with
  | 1, _, _ => exact rq_1 w
  | 2, _, _ => exact rq_2 w
  | 3, _, _ => exact rq_3 w
  | 4, _, _ => exact rq_4 w
  | 5, _, _ => exact rq_5 w
  | 6, _, _ => exact rq_6 w
  | 7, _, _ => exact rq_7 w
  | 8, _, _ => exact rq_8 w
  | 9, _, _ => exact rq_9 w
  | 10, _, _ => exact rq_10 w
  | 11, _, _ => exact rq_11 w
  | 12, _, _ => exact rq_12 w
end Msg
end Go.Proofs.YtmhgdcfmfcjagaaGreatDoor

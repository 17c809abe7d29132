import Derived.Test.YtmhgdcfmfcjagaaGreatDoorPkMTE
namespace Go.Proofs.YtmhgdcfmfcjagaaGreatDoor
open Go.RowKit Cod
namespace Msg
def HasB (vs : List Value) (k : Nat) : Prop := ∃ (j : Nat) (v : Value), vs[j]? = some v ∧ v.ownBlock = some k
theorem roles17 (vs : List Value) (nd : (bks vs).Nodup) : ∃ ρ : Nat → Nat, (∀ (j : Nat) (v : Value) (k : Nat), vs[j]? = some v → v.ownBlock = some k → ρ k = 2 + j) ∧ ∀ k, k ∉ bks vs → ρ k = 0 := by
  classical
  refine ⟨fun k => if h : HasB vs k then 2 + h.choose else 0, fun j v k hj hk => ?_, fun k hk => ?_⟩
  · have h : HasB vs k := ⟨j, v, hj, hk⟩
    show (if h : HasB vs k then 2 + h.choose else 0) = _
    rw [dif_pos h]
    obtain ⟨u, hu, hb⟩ := h.choose_spec
    rw [nd_apart nd hu hj hb hk]
  · show (if h : HasB vs k then 2 + h.choose else 0) = _
    rw [dif_neg]
    rintro ⟨j, v, hj, hv⟩
    exact hk (mem_bks.2 ⟨v, List.mem_of_getElem? hj, hv⟩)
structure Bl (m : Nat) (w : World) (X : Nat) (vi : Value) (vs : List Value) : Prop where
  ov : OwnM 1 w vi vs.length vs
  el : ∀ (j : Nat) (v : Value), vs[j]? = some v → ∃ n cs, n ≤ 1000000 ∧ OwnM m w v n cs
  nd : (bks vs).Nodup
  nX : X ∉ bks vs
  nv : ∀ k, vi.ownBlock = some k → k ∉ bks vs
  le : vs.length ≤ 40000
theorem Bl.keep {m : Nat} {S : Nat → Prop} {w w' : World} {X : Nat} {vi : Value} {vs : List Value} (h : Bl m w X vi vs) (hk : Keep S w w') (h1 : ∀ k, vi.ownBlock = some k → ¬ S k) (h2 : ∀ k, k ∈ bks vs → ¬ S k) : Bl m w' X vi vs :=
  ⟨h.ov.keep hk h1, fun j v hj => by
    obtain ⟨n, cs, a, b⟩ := h.el j v hj
    exact ⟨n, cs, a, b.keep hk (fun k hk => h2 k (mem_bks.2 ⟨v, List.mem_of_getElem? hj, hk⟩))⟩, h.nd, h.nX, h.nv, h.le⟩
theorem Bl.start {m : Nat} {mc : Nat → List Value} {w : World} {X : Nat} {vi : Value} {vs : List Value} (h : Bl m w X vi vs) {ρ : Nat → Nat} (h1 : ∀ (j : Nat) (v : Value) (k : Nat), vs[j]? = some v → v.ownBlock = some k → ρ k = 2 + j) : Pm m mc vs w ρ w 0 :=
  ⟨Keep.refl _ _, fun j v hj => by
    obtain ⟨n, cs, a, b⟩ := h.el j v hj
    exact ⟨n, cs, a, b, fun e => (by omega), fun k hk => h1 j v k hj hk⟩⟩
theorem bl_read {m : Nat} {w wr : World} {X f : Nat} {R : Array Value} {vi u : Value} {vs : List Value} {ρ : Nat → Nat} (h : Bl m w X vi vs) (h2 : ∀ k, k ∉ bks vs → ρ k = 0) (row : w.heap[X]? = some (.cells R 34 (0, 0))) (hf : R[f]? = some vi)
    {p : Nat} (hp : vs[p]? = some u) {ρ' : Nat → Nat} (hρ : ∀ k, k < w.heap.size → ρ' k = ρ k) (kp : Keep (fun k => ρ' k ≠ 0) w wr) :
    ∃ g c, vi = .slice (some ⟨g, 0, none⟩) vs.length c ∧ wr.cell? ⟨X, f, none⟩ = some vi ∧ wr.cell? ⟨g, p, none⟩ = some u := by
  obtain ⟨g, c, e, h3, h4⟩ := h.ov.cell hp
  refine ⟨g, c, e, ?_, ?_⟩
  · have hX := lt_of_heap row
    rw [World.cell?_of_block (a := ⟨X, f, none⟩) (kp.block X hX (by rw [hρ X hX, h2 X h.nX]; exact fun e => e rfl)), cell_of_row _ _ _ _ _ _ row]
    exact hf
  · rw [World.cell?_of_block (a := ⟨g, p, none⟩) (kp.block g h4 (by rw [hρ g h4, h2 g (h.nv g (by rw [e]; rfl))]; exact fun e => e rfl))]
    exact h3
theorem bl_cell {m : Nat} {w wr : World} {X f : Nat} {R : Array Value} {vi : Value} {vs : List Value} {ρ : Nat → Nat} (h : Bl m w X vi vs) (h2 : ∀ k, k ∉ bks vs → ρ k = 0) (row : w.heap[X]? = some (.cells R 34 (0, 0))) (hf : R[f]? = some vi)
    {ρ' : Nat → Nat} (hρ : ∀ k, k < w.heap.size → ρ' k = ρ k) (kp : Keep (fun k => ρ' k ≠ 0) w wr) : wr.cell? ⟨X, f, none⟩ = some vi := by
  have hX := lt_of_heap row
  rw [World.cell?_of_block (a := ⟨X, f, none⟩) (kp.block X hX (by rw [hρ X hX, h2 X h.nX]; exact fun e => e rfl)), cell_of_row _ _ _ _ _ _ row]
  exact hf
theorem bl_kept {w wr : World} {vs : List Value} {ρ ρ' : Nat → Nat} (h2 : ∀ k, k ∉ bks vs → ρ k = 0) (hρ : ∀ k, k < w.heap.size → ρ' k = ρ k) (kp : Keep (fun k => ρ' k ≠ 0) w wr) : Keep (fun k => k ∈ bks vs) w wr :=
  kp.mono fun k hk e => Classical.byContradiction fun hn => e (by rw [hρ k hk]; exact h2 k hn)
theorem rx_same {ρ ρ0 : Nat → Nat} {w0 w : World} {r : Nat} (h : ∀ k, k < w0.heap.size → ρ k = ρ0 k) (hs : w0.heap.size ≤ w.heap.size) : ∀ k, k < w0.heap.size → rx ρ w r k = ρ0 k := fun k hk => by
  rw [rx_old (by omega)]; exact h k hk
theorem put1 {w : World} {g n cap i : Nat} {cs : List Value} {c : Value} (h : OwnM 1 w (.slice (some ⟨g, 0, none⟩) n cap) n (rep i [c] ++ cs.drop (i * 1))) (hl : cs.length = n * 1) (hi : i < n) :
    OwnM 1 (w.setCell ⟨g, i, none⟩ c) (.slice (some ⟨g, 0, none⟩) n cap) n (rep (i + 1) [c] ++ cs.drop ((i + 1) * 1)) ∧ (∃ y, w.cell? ⟨g, i, none⟩ = some y) ∧ w.frozen? ⟨g, i, none⟩ = false ∧ Keep (fun k => (Value.slice (some ⟨g, 0, none⟩) n cap).ownBlock = some k) w (w.setCell ⟨g, i, none⟩ c) := by
  have hrl : (rep i [c]).length = i := by rw [rep_len]; simp
  obtain ⟨h1, h2, h3⟩ := OwnM.setG h (j := i) (by rw [h.len]; omega) c
  refine ⟨?_, h2, h3, (Keep.refl _ w).setCell g i c rfl⟩
  rw [rep_drop]
  rw [List.set_append_right _ _ (by omega), hrl, Nat.sub_self] at h1
  rw [List.drop_eq_getElem_cons (show i * 1 < cs.length by omega), List.set_cons_zero] at h1
  rw [List.drop_eq_getElem_cons (show i * 1 < cs.length by omega)]
  exact h1
theorem infoLI17 : (Tryz.prog.info? 22).map (fun i => (i.zero, i.size, i.bytes)) = some (some (.slice none 0 0), 1, 24) := by kernel_rfl
theorem infoI17 : (Tryz.prog.info? 3).map (fun i => (i.zero, i.size, i.bytes)) = some (some (.int .i64 0), 1, 8) := by kernel_rfl
def mkI (j : Nat) : Value := .int .i64 (-5 - (j : Int))
def mcI (j : Nat) : List Value := [mkI j]
set_option maxRecDepth 100000 in
set_option maxHeartbeats 4000000 in
theorem numbers17_any {w : World} {X : Nat} {vi vt va vr : Value} {vs : List Value} (row : w.heap[X]? = some (.cells #[vi, vt, va, vr] 34 (0, 0))) (h : Bl 1 w X vi vs) :
    Calls Tryz.prog 53 #[.pointer (some ⟨X, 0, none⟩)] w fun e w' => e = .returned (.bool true) ∧ Keep (fun k => k ∈ bks vs) w w' := by
  obtain ⟨ρ0, hr1, hr2⟩ := roles17 vs h.nd
  have P0 := hid (h.start (mc := mcI) hr1)
  obtain ⟨N, hN⟩ : ∃ N, Hid (vs.length = N) := ⟨_, rfl⟩
  obtain ⟨ai, ci, ei, _, _⟩ := h.ov.shape
  have hle := h.le
  rw [hN.out] at ei hle
  have rd := hid (fun (wr : World) (ρ' : Nat → Nat) (p : Nat) (u : Value) (hp : vs[p]? = some u) (hρ : ∀ k, k < w.heap.size → ρ' k = ρ0 k) (kp : Keep (fun k => ρ' k ≠ 0) w wr) => bl_read h hr2 row (f := 0) rfl hp hρ kp)
  have rc := hid (fun (wr : World) (ρ' : Nat → Nat) (hρ : ∀ k, k < w.heap.size → ρ' k = ρ0 k) (kp : Keep (fun k => ρ' k ≠ 0) w wr) => bl_cell h hr2 row (f := 0) rfl hρ kp)
  have kt := hid (fun (wr : World) (ρ' : Nat → Nat) (hρ : ∀ k, k < w.heap.size → ρ' k = ρ0 k) (kp : Keep (fun k => ρ' k ≠ 0) w wr) => bl_kept hr2 hρ kp)
  have at_ : Hid (∀ p, p < N → ∃ u, vs[p]? = some u) := fun p hp => ⟨vs[p]'(by rw [hN.out]; exact hp), List.getElem?_eq_getElem _⟩
  subst ei
  clear row h hr1 hr2
  go_enter Tryz.func53, Tryz.ntmps53
  go_wp2
  go_loopw [3] (fun i w' => ∃ p : Nat, p ≤ N ∧ i = .int .i64 (p : Int) ∧ Hid (Pm 1 mcI vs w ρ0 w' p)) (fun i _ => N - (intOf i).toNat)
  case atStart => exact ⟨0, Nat.zero_le _, rfl, P0⟩
  case round =>
    obtain ⟨p, hp, rfl, P⟩ := hrel
    have x0 := rc.out wr ρ0 (fun _ _ => rfl) P.out.kp
    by_cases hpN : p < N
    · obtain ⟨v, hv⟩ := at_.out p hpN
      obtain ⟨n, cs, Q⟩ := P.out.open hv
      obtain ⟨ax, cx, ex, _, _⟩ := Q.cur.shape
      subst ex
      have hn6 := Q.le
      have Q0 := hid Q
      have HV := hid hv
      have y1 : (p : Int) < (N : Int) := by omega
      have y3 : (0 : Int) ≤ (p : Int) := by omega
      have hpN' := hid hpN
      clear Q P hv
      obtain ⟨gi, ci', ei, x1, x2⟩ := rd.out wr ρ0 p _ HV.out (fun _ _ => rfl) Q0.out.kp
      obtain ⟨rfl, _, rfl⟩ : ai = some ⟨gi, 0, none⟩ ∧ True ∧ ci = ci' := by injection ei with a b c; exact ⟨a, trivial, c⟩
      clear ei x1
      go_wp2
      go_loopw [4] (fun i w' => ∃ j : Nat, j ≤ n ∧ i = .int .i64 (j : Int) ∧ Hid (Pn 1 mcI vs w ρ0 w' p (.slice ax n cx) n j cs)) (fun i _ => n - (intOf i).toNat)
      case atStart => exact ⟨0, Nat.zero_le _, rfl, Q0⟩
      case round =>
        obtain ⟨j, hj, rfl, Q⟩ := hrel
        obtain ⟨_, _, ei, z1, z2⟩ := rd.out wr ρ0 p _ HV.out (fun _ _ => rfl) Q.out.kp
        obtain ⟨rfl, rfl⟩ : gi = _ ∧ ci = _ := by injection ei with a b c; injection a with a; injection a with a; exact ⟨a, c⟩
        clear ei
        by_cases hjn : j < n
        · obtain ⟨g, rfl⟩ : ∃ g, ax = some ⟨g, 0, none⟩ := by
            rcases Q.out.cur with ⟨e0, _⟩ | ⟨g, cap, e0, _⟩
            · injection e0 with _ e0; omega
            · injection e0 with e0; exact ⟨g, e0⟩
          obtain ⟨O2, ⟨y, hy⟩, hz, K2⟩ := put1 Q.out.cur Q.out.len hjn
          have Q2 := hid (Q.out.put K2 O2)
          have u1 : (j : Int) < (n : Int) := by omega
          have u3 : (0 : Int) ≤ (j : Int) := by omega
          have hjn' := hid hjn
          clear O2 K2 Q
          rw [mkI] at Q2
          go_wp2
          exact ⟨⟨j + 1, hjn'.out, by go_num, Q2⟩, by have := hjn'.out; simp [RowKit.intOf]; omega⟩
        · obtain rfl : j = n := by omega
          have u1 : ¬ (j : Int) < (j : Int) := by omega
          have P2 := hid Q.out.shut
          go_wp2
          exact ⟨⟨p + 1, hpN'.out, by go_num, P2⟩, by have := hpN'.out; simp [RowKit.intOf]; omega⟩
    · obtain rfl : p = N := by omega
      have y1 : ¬ (p : Int) < (p : Int) := by omega
      have G0 : Hid (∃ ρ, (∀ k, k < w.heap.size → ρ k = ρ0 k) ∧ Pg 1 0 mkI mcI vs w ρ wr 0 (.slice none 0 0) []) := ⟨ρ0, fun _ _ => rfl, P.out.grow (by rw [hN.out]; exact Nat.le_refl _)⟩
      clear P
      go_wp2
      go_loopw [5, 6] (fun va i w' => ∃ (q : Nat) (ls : List Value), q ≤ p ∧ i = .int .i64 (q : Int) ∧ Hid (ls.length = 20 * q) ∧ Hid (∃ ρ, (∀ k, k < w.heap.size → ρ k = ρ0 k) ∧ Pg 1 0 mkI mcI vs w ρ w' q va ls)) (fun _ i _ => p - (intOf i).toNat)
      case atStart => exact ⟨0, [], Nat.zero_le _, rfl, rfl, G0⟩
      case round =>
        obtain ⟨q, ls, hq, rfl, hl, ⟨ρ1, hρ1, G⟩⟩ := hrel
        have x0 := rc.out wr ρ1 hρ1 G.kp
        by_cases hqp : q < p
        · obtain ⟨v, hv⟩ := at_.out q hqp
          obtain ⟨n, hn6, U⟩ := G.open hl.out hv
          obtain ⟨ax, cx, ex, _, _⟩ := U.cur.shape
          subst ex
          obtain ⟨gi, ci', ei, x1, x2⟩ := rd.out wr ρ1 q _ hv hρ1 G.kp
          obtain ⟨rfl, _, rfl⟩ : ai = some ⟨gi, 0, none⟩ ∧ True ∧ ci = ci' := by injection ei with a b c; exact ⟨a, trivial, c⟩
          clear ei x1
          have U0 : Hid (∃ ρ ls nx, (∀ k, k < w.heap.size → ρ k = ρ0 k) ∧ ls.length = 20 * q + 0 ∧ nx ≤ 1000000 + 0 ∧ Pu 1 0 mkI mcI vs w ρ wr q u5 ls (.slice ax n cx) nx) := ⟨ρ1, ls, n, hρ1, hl.out, hn6, U⟩
          have y1 : (q : Int) < (p : Int) := by omega
          have y3 : (0 : Int) ≤ (q : Int) := by omega
          have hqp' := hid hqp
          clear U G hv hl
          go_wp2
          go_loopw [5, 7, 8] (fun va x i w' => ∃ j : Nat, j ≤ 20 ∧ i = .int .i64 (j : Int) ∧ Hid (∃ ρ ls nx, (∀ k, k < w.heap.size → ρ k = ρ0 k) ∧ ls.length = 20 * q + j ∧ nx ≤ 1000000 + j ∧ Pu 1 0 mkI mcI vs w ρ w' q va ls x nx)) (fun _ _ i _ => 20 - (intOf i).toNat)
          case atStart => exact ⟨0, by omega, rfl, U0⟩
          case round =>
            obtain ⟨j, hj, rfl, HU⟩ := hrel
            by_cases hj2 : j < 20
            · obtain ⟨ρ2, ls2, nx, e1, e2, e3, U⟩ := HU.out
              obtain ⟨a2, c2, ex, _, _⟩ := U.cur.shape
              subst ex
              obtain ⟨v3, w3, hap3, O3, g3⟩ := append_oneM 29 22 (.slice none 0 0) 24 (by decide) Tryz.underlying29 infoLI17 rfl wr _ ls2.length ls2 [.slice a2 nx c2] rfl (fun u hu => by rw [List.mem_singleton.1 hu]; rfl) U.g.ol (by omega)
              have U3 := U.growA rfl rfl (by omega) g3 O3
              have s3 := U.g.kp.size
              obtain ⟨x4, w4, hap4, O4, g4⟩ := append_oneM 22 3 (.int .i64 0) 8 (by decide) Tryz.underlying22 infoI17 rfl w3 (.slice a2 nx c2) nx (rep nx (mcI q)) [mkI q] rfl (fun u hu => by rw [List.mem_singleton.1 hu]; rfl) U3.cur (by omega)
              have U4 := U3.growX rfl rfl g4 (by rw [rep_succ]; exact O4)
              have N4 : Hid (∃ ρ ls nx, (∀ k, k < w.heap.size → ρ k = ρ0 k) ∧ ls.length = 20 * q + (j + 1) ∧ nx ≤ 1000000 + (j + 1) ∧ Pu 1 0 mkI mcI vs w ρ w4 q v3 ls x4 nx) :=
                ⟨_, _, _, rx_same (rx_same e1 s3) U3.g.kp.size, by rw [List.length_append, e2]; rfl, by omega, U4⟩
              have t1 : (j : Int) < 20 := by omega
              have hj2' := hid hj2
              rw [mkI] at hap4
              clear U U3 U4 O3 O4 g3 g4 HU e2 e3
              go_wp2_with (first
                | ((with_reducible show wpList _ _ _ (Oper.mk _ (Op.call { callee := Callee.builtin Builtin.append, args := _, argTypes := #[29, 29] }) _ _ _ _ :: _) _ _); go_must (refine Lib.wpList_append_run _ rfl _ _ 29 29 rfl _ _ rfl rfl _ _ hap3 ?_))
                | ((with_reducible show wpList _ _ _ (Oper.mk _ (Op.call { callee := Callee.builtin Builtin.append, args := _, argTypes := #[22, 22] }) _ _ _ _ :: _) _ _); go_must (refine Lib.wpList_append_run _ rfl _ _ 22 22 rfl _ _ rfl rfl _ _ hap4 ?_)))
              exact ⟨⟨j + 1, hj2'.out, by go_num, N4⟩, by have := hj2'.out; simp [RowKit.intOf]; omega⟩
            · obtain rfl : j = 20 := by omega
              have t1 : ¬ ((20 : Nat) : Int) < 20 := by omega
              obtain ⟨ρ2, ls2, nx, e1, e2, e3, U⟩ := HU.out
              have N4 : Hid (∃ ρ, (∀ k, k < w.heap.size → ρ k = ρ0 k) ∧ Pg 1 0 mkI mcI vs w ρ wr (q + 1) u5 ls2) := ⟨ρ2, e1, U.shut⟩
              have L4 : Hid (ls2.length = 20 * (q + 1)) := by show _ = _; omega
              clear U HU e2 e3
              go_wp2
              exact ⟨⟨q + 1, ls2, hqp'.out, by go_num, L4, N4⟩, by have := hqp'.out; simp [RowKit.intOf]; omega⟩
        · obtain rfl : q = p := by omega
          have y1 : ¬ (q : Int) < (q : Int) := by omega
          obtain ⟨aa, ca, ea, _, _⟩ := G.ol.shape
          subst ea
          obtain ⟨L, hL⟩ : ∃ L, Hid (ls.length = L) := ⟨_, rfl⟩
          have hL6 : L ≤ 800000 := by rw [← hL.out, hl.out]; omega
          rw [hL.out]
          have HG := hid G
          have HK := hid (kt.out wr ρ1 hρ1 G.kp)
          clear G hl
          go_wp2
          go_loopw [9] (fun i w' => ∃ t : Nat, t ≤ L ∧ i = .int .i64 (t : Int) ∧ w' = wr) (fun i _ => L - (intOf i).toNat)
          case atStart => exact ⟨0, Nat.zero_le _, rfl, rfl⟩
          case round =>
            obtain ⟨t, ht, rfl, rfl⟩ := hrel
            by_cases htL : t < L
            · have htl : t < ls.length := by rw [hL.out]; exact htL
              obtain ⟨x, hx⟩ : ∃ x, ls[t]? = some x := ⟨_, List.getElem?_eq_getElem htl⟩
              obtain ⟨g, c1, e1, s1, _⟩ := HG.out.ol.cell hx
              obtain ⟨rfl, _, rfl⟩ : aa = some ⟨g, 0, none⟩ ∧ True ∧ ca = c1 := by injection e1 with a b c; exact ⟨a, trivial, c⟩
              obtain ⟨ax, n, cx, rfl, hn, hc⟩ := (HG.out.mrk t x hx).1
              have HC := hid hc
              have t1 : (t : Int) < (L : Int) := by omega
              have t3 : (0 : Int) ≤ (t : Int) := by omega
              have htL' := hid htL
              obtain ⟨K, hK⟩ : ∃ K, Hid (t / 20 = K) := ⟨_, rfl⟩
              have hKq : (t : Int) / 20 = (K : Int) := by have := hK.out; omega
              have hK6 : K ≤ 40000 := by have := hK.out; omega
              rw [hK.out] at HC
              clear e1 hc hx htl
              go_wp2
              go_loopw [10] (fun i w' => ∃ j : Nat, j ≤ n ∧ i = .int .i64 (j : Int) ∧ w' = wr) (fun i _ => n - (intOf i).toNat)
              case atStart => exact ⟨0, Nat.zero_le _, rfl, rfl⟩
              case round =>
                obtain ⟨j, hj, rfl, rfl⟩ := hrel
                by_cases hjn : j < n
                · obtain ⟨gx, rfl, _, s2⟩ := HC.out j hjn
                  rw [Nat.mul_one, Nat.add_zero, mkI] at s2
                  have z1 : (j : Int) < (n : Int) := by omega
                  have z3 : (0 : Int) ≤ (j : Int) := by omega
                  have hjn' := hid hjn
                  go_wp2
                  exact ⟨⟨j + 1, hjn'.out, by go_num, trivial⟩, by have := hjn'.out; simp [RowKit.intOf]; omega⟩
                · obtain rfl : j = n := by omega
                  have z1 : ¬ (j : Int) < (j : Int) := by omega
                  go_wp2
                  exact ⟨⟨t + 1, htL'.out, by go_num, trivial⟩, by have := htL'.out; simp [RowKit.intOf]; omega⟩
            · obtain rfl : t = L := by omega
              have t1 : ¬ (t : Int) < (t : Int) := by omega
              go_wp2
              go_ret
              exact ⟨rfl, HK.out⟩
end Msg
end Go.Proofs.YtmhgdcfmfcjagaaGreatDoor

namespace Go.Proofs.YtmhgdcfmfcjagaaGreatDoor
open Go.RowKit Cod
namespace Msg
theorem lt_of_cell {w : World} {g j : Nat} {u : Value} (h : w.cell? ⟨g, j, none⟩ = some u) : g < w.heap.size := by
  rcases Nat.lt_or_ge g w.heap.size with e | e
  · exact e
  · exfalso
    have : w.heap[g]? = none := by simp [e]
    simp [World.cell?, this] at h
theorem infoLT17 : (Tryz.prog.info? 23).map (fun i => (i.zero, i.size, i.bytes)) = some (some (.slice none 0 0), 1, 24) := by kernel_rfl
theorem infoT17 : (Tryz.prog.info? 9).map (fun i => (i.zero, i.size, i.bytes)) = some (some (.string ⟨#[]⟩), 1, 16) := by kernel_rfl
def mrk17 (n : Nat) : List UInt8 := [109, 97, 114, 107, UInt8.ofNat n, UInt8.ofNat (n / 256)]
def mB17 (n : Nat) : ByteArray := ⟨(mrk17 n).toArray⟩
def mkT17 (j : Nat) : Value := .string (mB17 j)
def mcT17 (j : Nat) : List Value := [mkT17 j]
theorem conv_two17 (n : Nat) (hn : n ≤ 65535) (w : World) : (convert 91 9 (.slice (some ⟨w.heap.size, 0, none⟩) 2 2)).run Tryz.prog (w.alloc (.cells #[.int .u8 ((n : Int) % 256), .int .u8 ((n : Int) / 256)] 5)) = .ok (sv [UInt8.ofNat n, UInt8.ofNat (n / 256)]) (w.alloc (.cells #[.int .u8 ((n : Int) % 256), .int .u8 ((n : Int) / 256)] 5)) := by
  refine run_conv_bytes (P := Tryz.prog) _ 91 9 5 w.heap.size 0 2 2 [UInt8.ofNat n, UInt8.ofNat (n / 256)] rfl Tryz.underlying91 Tryz.underlying5 Tryz.underlying9 ?_
  intro j v hv
  have hX := heap_alloc_new w (.cells #[.int .u8 ((n : Int) % 256), .int .u8 ((n : Int) / 256)] 5)
  match j, hv with
  | 0, hv =>
    have e : v = .int .u8 ((n : Int) % 256) := by
      simp [bv] at hv
      rw [← hv]; try congr 1 <;> omega
    rw [e, cell_of_row _ _ _ _ _ _ hX]; rfl
  | 1, hv =>
    have e : v = .int .u8 ((n : Int) / 256) := by
      simp [bv] at hv
      rw [← hv]; congr 1; omega
    rw [e, cell_of_row _ _ _ _ _ _ hX]; rfl
  | j + 2, hv => simp [bv] at hv
set_option maxRecDepth 100000 in
set_option maxHeartbeats 800000 in
theorem mark17_any (n : Nat) (hn : n ≤ 65535) (w : World) :
    Calls Tryz.prog 88 #[.int .i64 n] w fun e w' => e = .returned (mkT17 n) ∧ Below w.heap.size w w' := by
  have hcv := conv_two17 n hn w
  have e0 : (n : Int) / 256 % 256 = (n : Int) / 256 := by omega
  obtain ⟨q, hq⟩ : ∃ q : Int, (n : Int) / 256 = q := ⟨_, rfl⟩
  obtain ⟨r, hr⟩ : ∃ r : Int, (n : Int) % 256 = r := ⟨_, rfl⟩
  rw [hq] at e0
  rw [hq, hr] at hcv
  rw [show sv [UInt8.ofNat n, UInt8.ofNat (n / 256)] = .string ⟨#[UInt8.ofNat n, UInt8.ofNat (n / 256)]⟩ from rfl] at hcv
  have q1 : 0 ≤ q := by omega
  have q2 : q ≤ 255 := by omega
  have key : Calls Tryz.prog 88 #[.int .i64 n] w fun e w' => ∃ m : ByteArray, e = .returned (.string m) ∧ m.data.toList = mrk17 n ∧ Below w.heap.size w w' := by
    go_enter Tryz.func88, Tryz.ntmps88
    go_wp2
    go_ret
    exact ⟨_, rfl, by simp [ByteArray.data_append, mrk17], (Below.refl _ _).alloc (Nat.le_refl _) _⟩
  refine key.mono ?_
  rintro e w' ⟨m, rfl, hm, hb⟩
  refine ⟨?_, hb⟩
  unfold mkT17 mB17
  rw [← hm]
theorem Pn.below {m : Nat} {mc : Nat → List Value} {vs : List Value} {w0 w w' : World} {ρ : Nat → Nat} {p : Nat} {v : Value} {n i : Nat} {cs : List Value} (h : Pn m mc vs w0 ρ w p v n i cs) (hb : Below w.heap.size w w') : Pn m mc vs w0 ρ w' p v n i cs :=
  ⟨h.kp.trans (Keep.ofBelow (S := fun _ => False) hb) (fun _ _ e => e.elim), fun j u hj e => by
    obtain ⟨n', cs', h1, h2, h3, h4⟩ := h.own j u hj e
    exact ⟨n', cs', h1, h2.below hb, h3, h4⟩, h.cur.below hb, h.len, h.vp, h.rv, h.le⟩
theorem Pu.below {m o : Nat} {mk : Nat → Value} {mc : Nat → List Value} {vs : List Value} {w0 w w' : World} {ρ : Nat → Nat} {p : Nat} {va : Value} {ls : List Value} {x : Value} {nx : Nat} (h : Pu m o mk mc vs w0 ρ w p va ls x nx) (hb : Below w.heap.size w w') : Pu m o mk mc vs w0 ρ w' p va ls x nx :=
  ⟨⟨h.g.kp.trans (Keep.ofBelow (S := fun _ => False) hb) (fun _ _ e => e.elim), fun j u hj e => by
    obtain ⟨n', h1, h2, h3⟩ := h.g.own j u hj e
    exact ⟨n', h1, h2.below hb, h3⟩, h.g.ol.below hb, h.g.rl, fun t v e => by
    obtain ⟨m1, m2⟩ := h.g.mrk t v e
    exact ⟨m1.kept hb.size (fun k _ hlt => hb.block k hlt), fun k hk => ⟨Nat.lt_of_lt_of_le (m2 k hk).1 hb.size, (m2 k hk).2⟩⟩⟩, h.cur.below hb, h.rc, h.sh⟩
set_option maxRecDepth 100000 in
set_option maxHeartbeats 4000000 in
theorem words17_any {w : World} {X : Nat} {vt vi va vr : Value} {vs : List Value} (row : w.heap[X]? = some (.cells #[vt, vi, va, vr] 34 (0, 0))) (h : Bl 1 w X vi vs) :
    Calls Tryz.prog 54 #[.pointer (some ⟨X, 0, none⟩)] w fun e w' => e = .returned (.bool true) ∧ Keep (fun k => k ∈ bks vs) w w' := by
  obtain ⟨ρ0, hr1, hr2⟩ := roles17 vs h.nd
  have P0 := hid (h.start (mc := mcT17) hr1)
  obtain ⟨N, hN⟩ : ∃ N, Hid (vs.length = N) := ⟨_, rfl⟩
  obtain ⟨ai, ci, ei, _, _⟩ := h.ov.shape
  have hle := h.le
  rw [hN.out] at ei hle
  have rd := hid (fun (wr : World) (ρ' : Nat → Nat) (p : Nat) (u : Value) (hp : vs[p]? = some u) (hρ : ∀ k, k < w.heap.size → ρ' k = ρ0 k) (kp : Keep (fun k => ρ' k ≠ 0) w wr) => bl_read h hr2 row (f := 1) rfl hp hρ kp)
  have rc := hid (fun (wr : World) (ρ' : Nat → Nat) (hρ : ∀ k, k < w.heap.size → ρ' k = ρ0 k) (kp : Keep (fun k => ρ' k ≠ 0) w wr) => bl_cell h hr2 row (f := 1) rfl hρ kp)
  have kt := hid (fun (wr : World) (ρ' : Nat → Nat) (hρ : ∀ k, k < w.heap.size → ρ' k = ρ0 k) (kp : Keep (fun k => ρ' k ≠ 0) w wr) => bl_kept hr2 hρ kp)
  have at_ : Hid (∀ p, p < N → ∃ u, vs[p]? = some u) := fun p hp => ⟨vs[p]'(by rw [hN.out]; exact hp), List.getElem?_eq_getElem _⟩
  subst ei
  clear row h hr1 hr2
  go_enter Tryz.func54, Tryz.ntmps54
  go_wp2
  go_loopw [3] (fun i w' => ∃ p : Nat, p ≤ N ∧ i = .int .i64 (p : Int) ∧ Hid (Pm 1 mcT17 vs w ρ0 w' p)) (fun i _ => N - (intOf i).toNat)
  case atStart => exact ⟨0, Nat.zero_le _, rfl, P0⟩
  case round =>
    obtain ⟨p, hp, rfl, P⟩ := hrel
    have x0 := rc.out wr ρ0 (fun _ _ => rfl) P.out.kp
    by_cases hpN : p < N
    · obtain ⟨v, hv⟩ := at_.out p hpN
      obtain ⟨n, cs, Q⟩ := P.out.open hv
      obtain ⟨ax, cx, ex, _, _⟩ := Q.cur.shape
      subst ex
      have hn6 := Q.le
      have Q0 := hid Q
      have HV := hid hv
      have y1 : (p : Int) < (N : Int) := by omega
      have y3 : (0 : Int) ≤ (p : Int) := by omega
      have hpN' := hid hpN
      clear Q P hv
      obtain ⟨gi, ci', ei, x1, x2⟩ := rd.out wr ρ0 p _ HV.out (fun _ _ => rfl) Q0.out.kp
      obtain ⟨rfl, _, rfl⟩ : ai = some ⟨gi, 0, none⟩ ∧ True ∧ ci = ci' := by injection ei with a b c; exact ⟨a, trivial, c⟩
      clear ei x1
      go_wp2
      go_loopw [4] (fun i w' => ∃ j : Nat, j ≤ n ∧ i = .int .i64 (j : Int) ∧ Hid (Pn 1 mcT17 vs w ρ0 w' p (.slice ax n cx) n j cs)) (fun i _ => n - (intOf i).toNat)
      case atStart => exact ⟨0, Nat.zero_le _, rfl, Q0⟩
      case round =>
        obtain ⟨j, hj, rfl, Q⟩ := hrel
        obtain ⟨_, _, ei, z1, z2⟩ := rd.out wr ρ0 p _ HV.out (fun _ _ => rfl) Q.out.kp
        obtain ⟨rfl, rfl⟩ : gi = _ ∧ ci = _ := by injection ei with a b c; injection a with a; injection a with a; exact ⟨a, c⟩
        clear ei
        by_cases hjn : j < n
        · obtain ⟨g, rfl⟩ : ∃ g, ax = some ⟨g, 0, none⟩ := by
            rcases Q.out.cur with ⟨e0, _⟩ | ⟨g, cap, e0, _⟩
            · injection e0 with _ e0; omega
            · injection e0 with e0; exact ⟨g, e0⟩
          have u1 : (j : Int) < (n : Int) := by omega
          have u3 : (0 : Int) ≤ (j : Int) := by omega
          have hjn' := hid hjn
          have hm := hid (mark17_any p (by omega))
          obtain ⟨MB, hMB⟩ : ∃ MB, Hid (mB17 p = MB) := ⟨_, rfl⟩
          have lX : X < wr.heap.size := lt_of_cell z1
          have lg : gi < wr.heap.size := lt_of_cell z2
          go_wp2
          go_region_held3 (fun w' => w'.cell? ⟨X, 1, none⟩ = some (.slice (some ⟨gi, 0, none⟩) N ci) ∧ w'.cell? ⟨gi, p, none⟩ = some (.slice (some ⟨g, 0, none⟩) n cx)) (first | exact ⟨z1, z2⟩ | exact S2 | exact S3)
            (first | (go_at_call 88; (with_reducible refine (hm.out _).mono ?_); rintro e w2 ⟨rfl, hw2'⟩; have hw2 := (Below.refl wr.heap.size wr).drew.trans hw2'; have Q1 := Q.out.below hw2; have T2 := put1 Q1.cur Q1.len hjn'.out; have S2 := And.intro ((hw2.cell (p := ⟨X, 1, none⟩) lX).trans z1) ((hw2.cell (p := ⟨gi, p, none⟩) lg).trans z2); obtain ⟨O2, ⟨y, hy⟩, hz, K2⟩ := T2; have Q2 := Q1.put K2 O2; rw [mkT17, hMB.out] at Q2; have S3' := rd.out _ ρ0 p _ HV.out (fun _ _ => rfl) Q2.kp; obtain ⟨_, _, ei3, s31, s32⟩ := S3'; have ei3 := ei3.symm; injection ei3 with ei3 _ _; injection ei3 with ei3; injection ei3 with ei3; rw [ei3] at s32; have S3 := And.intro s31 s32; have HQ2 := hid Q2; rw [mkT17, hMB.out]; clear Q1 Q2 O2 K2 ei3 s31 s32 hw2 hw2'))
          go_wp2
          exact ⟨⟨j + 1, hjn'.out, by go_num, HQ2⟩, by have := hjn'.out; simp [RowKit.intOf]; omega⟩
        · obtain rfl : j = n := by omega
          have u1 : ¬ (j : Int) < (j : Int) := by omega
          have P2 := hid Q.out.shut
          go_wp2
          exact ⟨⟨p + 1, hpN'.out, by go_num, P2⟩, by have := hpN'.out; simp [RowKit.intOf]; omega⟩
    · obtain rfl : p = N := by omega
      have y1 : ¬ (p : Int) < (p : Int) := by omega
      have G0 : Hid (∃ ρ, (∀ k, k < w.heap.size → ρ k = ρ0 k) ∧ Pg 1 0 mkT17 mcT17 vs w ρ wr 0 (.slice none 0 0) []) := ⟨ρ0, fun _ _ => rfl, P.out.grow (by rw [hN.out]; exact Nat.le_refl _)⟩
      clear P
      go_wp2
      go_loopw [5, 6] (fun va i w' => ∃ (q : Nat) (ls : List Value), q ≤ p ∧ i = .int .i64 (q : Int) ∧ Hid (ls.length = 20 * q) ∧ Hid (∃ ρ, (∀ k, k < w.heap.size → ρ k = ρ0 k) ∧ Pg 1 0 mkT17 mcT17 vs w ρ w' q va ls)) (fun _ i _ => p - (intOf i).toNat)
      case atStart => exact ⟨0, [], Nat.zero_le _, rfl, rfl, G0⟩
      case round =>
        obtain ⟨q, ls, hq, rfl, hl, ⟨ρ1, hρ1, G⟩⟩ := hrel
        have x0 := rc.out wr ρ1 hρ1 G.kp
        by_cases hqp : q < p
        · obtain ⟨v, hv⟩ := at_.out q hqp
          obtain ⟨n, hn6, U⟩ := G.open hl.out hv
          obtain ⟨ax, cx, ex, _, _⟩ := U.cur.shape
          subst ex
          obtain ⟨gi, ci', ei, x1, x2⟩ := rd.out wr ρ1 q _ hv hρ1 G.kp
          obtain ⟨rfl, _, rfl⟩ : ai = some ⟨gi, 0, none⟩ ∧ True ∧ ci = ci' := by injection ei with a b c; exact ⟨a, trivial, c⟩
          clear ei x1
          have U0 : Hid (∃ ρ ls nx, (∀ k, k < w.heap.size → ρ k = ρ0 k) ∧ ls.length = 20 * q + 0 ∧ nx ≤ 1000000 + 0 ∧ Pu 1 0 mkT17 mcT17 vs w ρ wr q u5 ls (.slice ax n cx) nx) := ⟨ρ1, ls, n, hρ1, hl.out, hn6, U⟩
          have y1 : (q : Int) < (p : Int) := by omega
          have y3 : (0 : Int) ≤ (q : Int) := by omega
          have hqp' := hid hqp
          clear U G hv hl
          go_wp2
          go_loopw [5, 7, 8] (fun va x i w' => ∃ j : Nat, j ≤ 20 ∧ i = .int .i64 (j : Int) ∧ Hid (∃ ρ ls nx, (∀ k, k < w.heap.size → ρ k = ρ0 k) ∧ ls.length = 20 * q + j ∧ nx ≤ 1000000 + j ∧ Pu 1 0 mkT17 mcT17 vs w ρ w' q va ls x nx)) (fun _ _ i _ => 20 - (intOf i).toNat)
          case atStart => exact ⟨0, by omega, rfl, U0⟩
          case round =>
            obtain ⟨j, hj, rfl, HU⟩ := hrel
            by_cases hj2 : j < 20
            · obtain ⟨ρ2, ls2, nx, e1, e2, e3, U⟩ := HU.out
              obtain ⟨a2, c2, ex, _, _⟩ := U.cur.shape
              subst ex
              obtain ⟨v3, w3, hap3, O3, g3⟩ := append_oneM 30 23 (.slice none 0 0) 24 (by decide) Tryz.underlying30 infoLT17 rfl wr _ ls2.length ls2 [.slice a2 nx c2] rfl (fun u hu => by rw [List.mem_singleton.1 hu]; rfl) U.g.ol (by omega)
              have U3 := U.growA rfl rfl (by omega) g3 O3
              have s3 := U.g.kp.size
              have t1 : (j : Int) < 20 := by omega
              have hj2' := hid hj2
              have hm := hid (mark17_any q (by omega))
              have r1 := hid (rx_same (r := 1) e1 s3)
              have r2 := hid e2
              have r3 := hid e3
              have HU3 := hid U3
              clear U U3 O3 g3 HU e1 e2 e3 s3
              go_wp2_with (first
                | ((with_reducible show wpList _ _ _ (Oper.mk _ (Op.call { callee := Callee.builtin Builtin.append, args := _, argTypes := #[30, 30] }) _ _ _ _ :: _) _ _); go_must (refine Lib.wpList_append_run _ rfl _ _ 30 30 rfl _ _ rfl rfl _ _ hap3 ?_))
                | (go_at_call 88; fail))
              go_at_call 88
              refine (hm.out _).mono ?_
              rintro e w5 ⟨rfl, hb5⟩
              have U5 := HU3.out.below hb5
              have s5 := U5.g.kp.size
              have s6 := HU3.out.g.kp.size
              have s7 := hb5.size
              obtain ⟨x4, w4, hap4, O4, g4⟩ := append_oneM 23 9 (.string ⟨#[]⟩) 16 (by decide) Tryz.underlying23 infoT17 rfl w5 (.slice a2 nx c2) nx (rep nx (mcT17 q)) [mkT17 q] rfl (fun u hu => by rw [List.mem_singleton.1 hu]; rfl) U5.cur (by have := r3.out; omega)
              have U4 := U5.growX rfl rfl g4 (by rw [rep_succ]; exact O4)
              have N4 : Hid (∃ ρ ls nx, (∀ k, k < w.heap.size → ρ k = ρ0 k) ∧ ls.length = 20 * q + (j + 1) ∧ nx ≤ 1000000 + (j + 1) ∧ Pu 1 0 mkT17 mcT17 vs w ρ w4 q v3 ls x4 nx) :=
                ⟨_, _, _, rx_same r1.out s5, by rw [List.length_append, r2.out]; rfl, by have := r3.out; omega, U4⟩
              rw [mkT17] at hap4 ⊢
              clear U4 U5 O4 g4 HU3 r1 r2 r3 s5 s6 s7 hb5
              go_wp2_with ((with_reducible show wpList _ _ _ (Oper.mk _ (Op.call { callee := Callee.builtin Builtin.append, args := _, argTypes := #[23, 23] }) _ _ _ _ :: _) _ _); go_must (refine Lib.wpList_append_run _ rfl _ _ 23 23 rfl _ _ rfl rfl _ _ hap4 ?_))
              exact ⟨⟨j + 1, hj2'.out, by go_num, N4⟩, by have := hj2'.out; simp [RowKit.intOf]; omega⟩
            · obtain rfl : j = 20 := by omega
              have t1 : ¬ ((20 : Nat) : Int) < 20 := by omega
              obtain ⟨ρ2, ls2, nx, e1, e2, e3, U⟩ := HU.out
              have N4 : Hid (∃ ρ, (∀ k, k < w.heap.size → ρ k = ρ0 k) ∧ Pg 1 0 mkT17 mcT17 vs w ρ wr (q + 1) u5 ls2) := ⟨ρ2, e1, U.shut⟩
              have L4 : Hid (ls2.length = 20 * (q + 1)) := by show _ = _; omega
              clear U HU e2 e3
              go_wp2
              exact ⟨⟨q + 1, ls2, hqp'.out, by go_num, L4, N4⟩, by have := hqp'.out; simp [RowKit.intOf]; omega⟩
        · obtain rfl : q = p := by omega
          have y1 : ¬ (q : Int) < (q : Int) := by omega
          obtain ⟨aa, ca, ea, _, _⟩ := G.ol.shape
          subst ea
          obtain ⟨L, hL⟩ : ∃ L, Hid (ls.length = L) := ⟨_, rfl⟩
          have hL6 : L ≤ 800000 := by rw [← hL.out, hl.out]; omega
          rw [hL.out]
          have HG := hid G
          have HK := hid (kt.out wr ρ1 hρ1 G.kp)
          clear G hl
          go_wp2
          generalize hW : wr = W at *
          go_loopw [9] (fun i w' => ∃ t : Nat, t ≤ L ∧ i = .int .i64 (t : Int) ∧ Hid (Below W.heap.size W w')) (fun i _ => L - (intOf i).toNat)
          case atStart => exact ⟨0, Nat.zero_le _, rfl, Below.refl _ _⟩
          case round =>
            obtain ⟨t, ht, rfl, BW⟩ := hrel
            by_cases htL : t < L
            · have htl : t < ls.length := by rw [hL.out]; exact htL
              obtain ⟨x, hx⟩ : ∃ x, ls[t]? = some x := ⟨_, List.getElem?_eq_getElem htl⟩
              obtain ⟨g, c1, e1, s1, lg⟩ := HG.out.ol.cell hx
              have S1 := hid s1
              have s1 := (BW.out.cell (p := ⟨g, t, none⟩) lg).trans s1
              obtain ⟨rfl, _, rfl⟩ : aa = some ⟨g, 0, none⟩ ∧ True ∧ ca = c1 := by injection e1 with a b c; exact ⟨a, trivial, c⟩
              obtain ⟨ax, n, cx, rfl, hn, hc⟩ := (HG.out.mrk t x hx).1
              have HC := hid hc
              have t1 : (t : Int) < (L : Int) := by omega
              have t3 : (0 : Int) ≤ (t : Int) := by omega
              have htL' := hid htL
              obtain ⟨K, hK⟩ : ∃ K, Hid (t / 20 = K) := ⟨_, rfl⟩
              have hKq : (t : Int) / 20 = (K : Int) := by have := hK.out; omega
              have hK6 : K ≤ 40000 := by have := hK.out; omega
              rw [hK.out] at HC
              clear e1 hc hx htl
              go_wp2
              go_loopw [10] (fun i w' => ∃ j : Nat, j ≤ n ∧ i = .int .i64 (j : Int) ∧ Hid (Below W.heap.size W w')) (fun i _ => n - (intOf i).toNat)
              case atStart => exact ⟨0, Nat.zero_le _, rfl, BW⟩
              case round =>
                obtain ⟨j, hj, rfl, BX⟩ := hrel
                have s1 := (BX.out.cell (p := ⟨g, t, none⟩) lg).trans S1.out
                by_cases hjn : j < n
                · obtain ⟨gx, rfl, lx, s2⟩ := HC.out j hjn
                  rw [Nat.mul_one, Nat.add_zero, mkT17] at s2
                  have s2 := (BX.out.cell (p := ⟨gx, j, none⟩) lx).trans s2
                  have z1 : (j : Int) < (n : Int) := by omega
                  have z3 : (0 : Int) ≤ (j : Int) := by omega
                  have hjn' := hid hjn
                  have hm := hid (mark17_any K (by omega))
                  obtain ⟨MB, hMB⟩ : ∃ MB, Hid (mB17 K = MB) := ⟨_, rfl⟩
                  rw [hMB.out] at s2
                  have vv : (MB.toList == MB.toList) = true := by simp
                  have lg2 : g < wr.heap.size := Nat.lt_of_lt_of_le lg BX.out.size
                  have lx2 : gx < wr.heap.size := Nat.lt_of_lt_of_le lx BX.out.size
                  have hKw : IntKind.i64.wrap (K : Int) = (K : Int) := by rw [IntKind.wrap_i64]; omega
                  go_wp2
                  go_region_held3 (fun w' => w'.cell? ⟨g, t, none⟩ = some (.slice (some ⟨gx, 0, none⟩) n cx) ∧ w'.cell? ⟨gx, j, none⟩ = some (.string MB)) (first | exact ⟨s1, s2⟩ | exact S2)
                    (first | (go_at_call 88; (with_reducible refine (hm.out _).mono ?_); rintro e w2 ⟨rfl, hw2'⟩; have hw2 := (Below.refl wr.heap.size wr).drew.trans hw2'; have B2 := hid (BX.out.trans (hw2.mono BX.out.size)); have S2 := And.intro ((hw2.cell (p := ⟨g, t, none⟩) lg2).trans s1) ((hw2.cell (p := ⟨gx, j, none⟩) lx2).trans s2); rw [mkT17, hMB.out]; clear hw2 hw2'))
                  go_wp2
                  exact ⟨⟨j + 1, hjn'.out, by go_num, B2⟩, by have := hjn'.out; simp [RowKit.intOf]; omega⟩
                · obtain rfl : j = n := by omega
                  have z1 : ¬ (j : Int) < (j : Int) := by omega
                  go_wp2
                  exact ⟨⟨t + 1, htL'.out, by go_num, BX⟩, by have := htL'.out; simp [RowKit.intOf]; omega⟩
            · obtain rfl : t = L := by omega
              have t1 : ¬ (t : Int) < (t : Int) := by omega
              go_wp2
              go_ret
              exact ⟨rfl, HK.out.trans (Keep.ofBelow (S := fun _ => False) BW.out) (fun _ _ e => e.elim)⟩
end Msg
end Go.Proofs.YtmhgdcfmfcjagaaGreatDoor

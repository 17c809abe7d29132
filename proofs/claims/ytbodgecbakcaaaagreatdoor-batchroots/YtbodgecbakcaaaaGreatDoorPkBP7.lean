import Derived.Test.YtbodgecbakcaaaaGreatDoorPkBP2
import Derived.Test.YtbodgecbakcaaaaGreatDoorPkTL11
import Derived.Test.YtbodgecbakcaaaaGreatDoorPkSP18
namespace Go.Proofs.YtbodgecbakcaaaaGreatDoor
open Go.RowKit Go.Shelf
namespace Bat
theorem make_known (w : World) : (Instr.makeMap 74 none).run Tryz.prog w = .ok (.map (some w.heap.size)) (w.alloc (.map #[] 0)) := by
  simp [Instr.makeMap]
theorem Cl.start {is : List Nat} {n : Nat} {val : Nat × Nat → List UInt8} {f : Kn} (hs : Snd val f) (ht : ∀ s ∈ Tree.othF n 0 n is, f s ≠ none) (hl : ∀ i ∈ is, f (i, i + 1) ≠ none) : Cl is n val 0 f :=
  ⟨hs, ht, hl, fun x y _ h2 h3 => by
    obtain ⟨i, hi, h4, h5⟩ := Tree.tch_mem.1 h2
    exact absurd (h3 i hi h4 h5) (by simp)⟩
theorem take_step {α : Type} {p : α → Prop} {l : List α} {k : Nat} (hk : k < l.length) (h : ∀ x ∈ l.take k, p x) (h1 : p l[k]) : ∀ x ∈ l.take (k + 1), p x := fun x hx => by
  rw [List.take_add_one, List.getElem?_eq_getElem hk] at hx
  rcases List.mem_append.1 hx with hx | hx
  · exact h x hx
  · simp at hx; rw [hx]; exact h1
theorem Mk.leaf {w : World} {b : Nat} {f : Kn} (h : Mk w b f) {i : Nat} (hi : i < 1099511627776) (x : List UInt8) :
    ∃ w', (Instr.mapUpdate 74 (.map (some b)) (.agg #[.int .i64 (i : Int), .int .i64 ((i : Int) + 1)]) (.agg #[.string ⟨x.toArray⟩])).run Tryz.prog w = .ok () w' ∧ Mk w' b (upd f (i, i + 1) x) ∧ But b w w' := by
  obtain ⟨w', h1, h2, h3, _⟩ := h.put (s := (i, i + 1)) ⟨by show i ≤ _; omega, by show i + 1 ≤ _; omega⟩ x
  refine ⟨w', ?_, h2, h3⟩
  rw [show ((i : Int) + 1) = ((i + 1 : Nat) : Int) by omega]
  exact h1
theorem upd_at (f : Kn) (s : Nat × Nat) (x : List UInt8) : upd f s x s ≠ none := by unfold upd; rw [if_pos rfl]; simp
set_option maxRecDepth 100000 in
set_option maxHeartbeats 8000000 in
theorem known12_ok (n : Nat) (is : List Nat) (H L : List (List UInt8)) (val : Nat × Nat → List UInt8) (V : Val is n H L val) (hb0 : BatOk (n : Int) (ix is)) (hH32 : hsB8 H = true) (hL32 : hsB8 L = true) (ai ah al : Option Addr) (ci ch cl : Nat) (w : World) (T : Tabs w) (hA : AtI w ai (ix is)) (hAh : At w ah H) (hAl : At w al L) :
    Calls Tryz.prog 39 #[bt (n : Int) (.slice ai is.length ci) (.slice ah H.length ch), .slice al L.length cl] w fun r w' => ∃ b g, r = .returned (.tuple #[.map (some b), .int .i64 0]) ∧ Mk w' b g ∧ Cl is n val is.length g ∧ W32 g ∧ w.heap.size ≤ b ∧ Below w.heap.size w w' := by
  have hil : (ix is).length = is.length := by simp [ix]
  have n1 := hb0.n1
  have n2 := hb0.n2
  have l2 := hb0.l2
  rw [hil] at l2
  have hto : toN (ix is) = is := by unfold toN ix; rw [List.map_map]; exact List.map_id'' (fun i => Int.toNat_natCast i) is
  have hE := batchE_ok hb0
  have hT : batchL (n : Int) (ix is) = Tree.othF n 0 n is := by unfold batchL; rw [if_pos hE, hto, Int.toNat_natCast]
  have hlt : ∀ i ∈ is, i < n := fun i hi => by
    have := hb0.all (i : Int) (List.mem_map.2 ⟨i, hi, rfl⟩)
    omega
  have hup : is.Pairwise (· < ·) := by
    have := hb0.so
    unfold ix at this
    rw [List.pairwise_map] at this
    exact this.imp fun h => by omega
  have hHl : H.length = (Tree.othF n 0 n is).length := by rw [V.h, List.length_map]
  have hLl : L.length = is.length := by rw [V.l, List.length_map]
  have hTle : (Tree.othF n 0 n is).length ≤ n := by
    have := Tree.oth_count is (hup.imp fun h e => by omega) n 0 n (Nat.le_refl _) (by omega)
    omega
  obtain ⟨Tn, Ti⟩ := apt_nodup (Tree.othF_apart is n 0 n (by omega) (Nat.le_refl _))
  have hTlo : ∀ s ∈ Tree.othF n 0 n is, Lo s := fun s hs => by have := Ti s hs; unfold Lo; omega
  have hTv : ∀ (k : Nat) (h : k < (Tree.othF n 0 n is).length) (h' : k < H.length), H[k] = val (Tree.othF n 0 n is)[k] := fun k h h' => by
    have := congrArg (fun l => l[k]?) V.h
    simp only [List.getElem?_map, List.getElem?_eq_getElem h, List.getElem?_eq_getElem h', Option.map_some, Option.some.injEq] at this
    exact this
  have hIv : ∀ (k : Nat) (h : k < is.length) (h' : k < L.length), L[k] = val (is[k], is[k] + 1) := fun k h h' => by
    have := congrArg (fun l => l[k]?) V.l
    simp only [List.getElem?_map, List.getElem?_eq_getElem h, List.getElem?_eq_getElem h', Option.map_some, Option.some.injEq] at this
    exact this
  have b0 := (Below.refl w.heap.size w).alloc (Nat.le_refl _) (.cells #[.int .i64 (n : Int), .slice ai is.length ci, .slice ah H.length ch] 25)
  have s0 := BtI.new w (n : Int) (.slice ai is.length ci) (.slice ah H.length ch)
  have i1 := told12_any (n : Int) (ix is) ai ci _ (by omega) (hA.below b0 (Nat.le_refl _))
  rw [tolE_zero.2 hE, hT, hil] at i1
  have HS := hid s0
  have B0 := hid b0
  have x0 := s0.c0
  have x1 := s0.c1
  have HNV := hid V.n
  have j2 := fun w' hA' => areHashes12_is H true hH32 ah ch w' (by omega) hA'
  have j3 := fun w' hA' => areHashes12_is L true hL32 al cl w' (by omega) hA'
  have AH := hid (fun w' (h : Below w.heap.size w w') => hAh.below h (Nat.le_refl _))
  have AL := hid (fun w' (h : Below w.heap.size w w') => hAl.below h (Nat.le_refl _))
  have AI := hid (fun w' (h : Below w.heap.size w w') => hA.below h (Nat.le_refl _))
  have HT := hid T
  have hTl := T.lt
  obtain ⟨TT, hTT⟩ : ∃ TT, Tree.othF n 0 n is = TT := ⟨_, rfl⟩
  have HTT := hid hTT
  rw [hTT] at i1 hHl hTlo hTv hTle
  have H32 : Hid (∀ (k : Nat) (h : k < H.length), H[k].length = 32) := fun k h => by
    have := List.all_eq_true.1 hH32 H[k] (List.getElem_mem h)
    simpa using this
  have L32 : Hid (∀ (k : Nat) (h : k < L.length), L[k].length = 32) := fun k h => by
    have := List.all_eq_true.1 hL32 L[k] (List.getElem_mem h)
    simpa using this
  have HTV := hid hTv
  have HIV := hid hIv
  have HLO := hid hTlo
  have HLT := hid hlt
  have HUP := hid hup
  have HHL := hid hHl
  have HLL := hid hLl
  have hmk := make_known
  obtain ⟨t, ht⟩ : ∃ t, TT.length = t := ⟨_, rfl⟩
  have Ht := hid ht
  rw [ht] at hHl hTle
  rw [hHl] at j2
  rw [hLl] at j3
  rw [hHl, hLl]
  rw [hHl] at x0 x1 i1
  unfold Hid at HS B0
  rw [hHl] at HS B0
  have HS := hid HS
  have B0 := hid B0
  have r1 : ((t : Int) != (t : Int)) = false := by simp
  have r2 : ((is.length : Int) != (is.length : Int)) = false := by simp
  obtain ⟨m, hm⟩ : ∃ m, is.length = m := ⟨_, rfl⟩
  have Hm := hid hm
  rw [hm] at j3 i1 x1 r2 l2 x0
  unfold Hid at HS B0
  rw [hm] at HS B0
  have HS := hid HS
  have B0 := hid B0
  rw [hm]
  clear V hb0 hH32 hL32 hA hAh hAl T hil hto hE hT hlt hup hHl hLl Tn Ti hTlo hTv hIv b0 s0 hTT ht hm
  go_enter Tryz.func39, Tryz.ntmps39
  go_wp2_with (first
    | (go_at_call 36; refine i1.mono ?_; rintro r w1 ⟨b1, v1, rfl, o1, f1⟩; obtain ⟨a1, c1, rfl, q1, q2⟩ := OwnM.shape o1; have B1 := hid (B0.out.trans (b1.mono B0.out.size)); have S1 := hid (HS.out.below b1); have y0 := S1.out.c0; have y1 := S1.out.c1; have y2 := S1.out.c2; have O1 := hid o1; have F1 := hid f1; rw [Ht.out]; clear b1 o1 f1)
    | (go_at_call 55; (first | (with_reducible refine (j2 _ (AH.out _ B1.out)).mono ?_) | (with_reducible refine (j3 _ (AL.out _ B1.out)).mono ?_)); rintro r w2 ⟨rfl, h0⟩; have h0 := h0.symm; subst h0))
  have z1 := B1.out.size
  have ba := (Below.refl w1.heap.size w1).alloc (Nat.le_refl _) (.map #[] 0)
  have B2 := hid (B1.out.trans (ba.mono z1))
  have S2 := hid (S1.out.below ba)
  have O2 := hid (O1.out.below ba)
  have M2 := hid (Mk.new w1)
  have z2 : (w1.alloc (.map #[] 0)).heap.size = w1.heap.size + 1 := by simp
  have hgb : w.heap.size < w1.heap.size := lt_of_heap S1.out
  have OF : Hid (∀ k, (Value.slice a1 TT.length c1).ownBlock = some k → ¬ k = w1.heap.size) := by
    unfold Hid
    intro k hk e
    have := OwnM.lt O1.out k hk
    omega
  clear ba y0 y1 y2 S1 O1 B0 HS i1 j2 j3 x0 x1 hmk
  generalize w1.alloc (.map #[] 0) = w2 at *
  obtain ⟨b, hb⟩ : ∃ b, w1.heap.size = b := ⟨_, rfl⟩
  unfold Hid at M2 OF
  rw [hb] at M2 OF z1 z2 hgb ⊢
  have M2 := hid M2
  have OF := hid OF
  have HF1 : Hid (w.heap.size ≤ b) := by unfold Hid; omega
  clear hb
  go_loopw [9, 10, 52] (fun _ _ i w' => ∃ (k : Nat) (f : Kn), k ≤ t ∧ i = .int .i64 (k : Int) ∧ Hid (Mk w' b f) ∧ Hid (Snd val f) ∧ Hid (W32 f) ∧ Hid (∀ s ∈ TT.take k, f s ≠ none) ∧ Hid (Keep (fun k => k = b) w2 w')) (fun _ _ i _ => t - (intOf i).toNat)
  case atStart => exact ⟨0, fun _ => none, by omega, rfl, M2, (fun s h e => by cases e), (fun s h e => by cases e), (fun s hs => by simp at hs), Keep.refl _ _⟩
  case round =>
    clear M2
    obtain ⟨k, f, hk, rfl, hM, hSn, hW, hTk, hK⟩ := hrel
    by_cases hkt : k < t
    · have e0 : (k : Int) < (t : Int) := by omega
      have hkT : k < TT.length := by rw [Ht.out]; exact hkt
      have hkH : k < H.length := by rw [HHL.out]; exact hkT
      obtain ⟨gp, rfl, hgp, p0, p1⟩ := ownP_at (O2.out.keep hK.out fun k hk => OF.out k hk) (List.getElem?_eq_getElem hkT)
      have hls := HLO.out TT[k] (List.getElem_mem hkT)
      have hval := HTV.out k hkT hkH
      have h32 := H32.out k hkH
      have bb := ((Below.refl wr.heap.size wr).alloc (Nat.le_refl _) (.cells #[.int .i64 (TT[k].1 : Int), .int .i64 (TT[k].2 : Int)] 62))
      have s0 := SpI.new wr (TT[k].1 : Int) (TT[k].2 : Int)
      have zq := hK.out.size
      have Kw := hid (hK.out.trans (Keep.ofBelow (S := fun k => k = b) bb) fun _ _ e => e)
      have BW : Hid (Below w.heap.size w (wr.alloc (.cells #[.int .i64 (TT[k].1 : Int), .int .i64 (TT[k].2 : Int)] 62))) := B2.out.trans (keep_below Kw.out (by omega) fun k e => by omega)
      obtain ⟨xh, rfl, _, hc⟩ := (AH.out _ BW.out) k H[k] (List.getElem?_eq_getElem hkH)
      have SB := S2.out.keep Kw.out (by omega)
      have u0 := s0.c0
      have u1 := s0.c1
      have u2 := SB.c2
      have hTn := hid (take_step (p := fun s => upd f TT[k] H[k] s ≠ none) hkT (fun s hs => ext_upd f _ _ s (hTk.out s hs)) (upd_at f _ _))
      have hSn' := hid (hSn.out.upd hval)
      have hW' := hid (hW.out.upd TT[k] h32)
      obtain ⟨w3, hup3, M3, bt3, z3⟩ := (((hM.out.below bb hM.out.lt).heap (w' := (wr.alloc (.cells #[.int .i64 (TT[k].1 : Int), .int .i64 (TT[k].2 : Int)] 62)).drew) rfl)).put hls H[k]
      have K3 := hid (Kw.out.trans (⟨bt3.os, bt3.tape, bt3.output, bt3.size, fun k hk hs => bt3.block k hk hs⟩ : Keep (fun k => k = b) (wr.alloc (.cells #[.int .i64 (TT[k].1 : Int), .int .i64 (TT[k].2 : Int)] 62)) w3) fun _ _ e => e)
      have M3 := hid M3
      rw [show sv H[k] = Value.string ⟨H[k].toArray⟩ from rfl] at hup3 hc
      generalize upd f TT[k] H[k] = f' at *
      generalize (TT[k].1 : Int) = q3 at *
      generalize (TT[k].2 : Int) = q4 at *
      generalize H[k] = hh at *
      have j0 : (0 : Int) ≤ (k : Int) := by omega
      clear hls hval h32 bb s0 SB bt3 hM hSn hW hTk hK
      go_wp2
      go_region
      go_wp2
      exact ⟨⟨k + 1, f', by omega, by go_num, M3, hSn', hW', hTn, K3⟩, by simp [intOf]; omega⟩
    · obtain rfl : k = t := by omega
      have e0 : ¬ (k : Int) < (k : Int) := by omega
      have zq := hK.out.size
      have SB := S2.out.keep hK.out (by omega)
      have u1 := SB.c1
      have hTA : Hid (∀ s ∈ TT, f s ≠ none) := by
        have := hTk.out
        rw [← Ht.out, List.take_length] at this
        exact this
      clear hTk
      go_wp2
      go_loopw [11, 12, 69] (fun _ _ i w' => ∃ (j : Nat) (g : Kn), j ≤ m ∧ i = .int .i64 (j : Int) ∧ Hid (Mk w' b g) ∧ Hid (Snd val g) ∧ Hid (W32 g) ∧ Hid (∀ s ∈ TT, g s ≠ none) ∧ Hid (∀ i ∈ is.take j, g (i, i + 1) ≠ none) ∧ Hid (Keep (fun k => k = b) w2 w')) (fun _ _ i _ => m - (intOf i).toNat)
      case atStart => exact ⟨0, f, by omega, rfl, hM, hSn, hW, hTA, (fun s hs => by simp at hs), hK⟩
      case round =>
        clear hM hSn hW hTA hK SB u1
        obtain ⟨j, g, hj, rfl, hM, hSn, hW, hTA, hIj, hK⟩ := hrel
        have zr := hK.out.size
        have BW : Hid (Below w.heap.size w wr) := B2.out.trans (keep_below hK.out (by omega) fun k e => by omega)
        by_cases hjm : j < m
        · have d0 : (j : Int) < (m : Int) := by omega
          have hjI : j < is.length := by rw [Hm.out]; exact hjm
          have hjL : j < L.length := by rw [HLL.out]; exact hjI
          have hjx : j < (ix is).length := by simp [ix]; exact hjI
          obtain ⟨xi, rfl, _, hci⟩ := (AI.out _ BW.out) j (ix is)[j] (List.getElem?_eq_getElem hjx)
          rw [show (ix is)[j] = ((is[j] : Nat) : Int) by simp [ix]] at hci
          obtain ⟨xl, rfl, hxl, hcl⟩ := (AL.out _ BW.out) j L[j] (List.getElem?_eq_getElem hjL)
          have hxw : xl.block < w.heap.size := by
            obtain ⟨y, e, h1, _⟩ := (AL.out _ (Below.refl _ _)) j L[j] (List.getElem?_eq_getElem hjL)
            cases e
            exact h1
          have hin := HLT.out is[j] (List.getElem_mem hjI)
          have hval := HIV.out j hjI hjL
          have h32 := L32.out j hjL
          have hTn := hid (take_step (p := fun i => upd g (is[j], is[j] + 1) L[j] (i, i + 1) ≠ none) hjI (fun i hi => ext_upd g _ _ _ (hIj.out i hi)) (upd_at g _ _))
          have hTA' : Hid (∀ s ∈ TT, upd g (is[j], is[j] + 1) L[j] s ≠ none) := fun s hs => ext_upd g _ _ s (hTA.out s hs)
          have hSn' := hid (hSn.out.upd hval)
          have hW' := hid (hW.out.upd (is[j], is[j] + 1) h32)
          rw [show sv L[j] = Value.string ⟨L[j].toArray⟩ from rfl] at hcl
          generalize is[j] = i at *
          generalize L[j] = hh at *
          have i1 := alone12_any i (by omega) wr.drew
          have x0 : wr.drew.cell? (xl.add j) = some (.string ⟨hh.toArray⟩) := hcl
          have j0 : (0 : Int) ≤ (j : Int) := by omega
          clear hval h32 hSn hW hTA hIj
          go_wp2
          go_region_held3 (fun w' => w'.cell? (xl.add j) = some (.string ⟨hh.toArray⟩)) (first | exact x6 | exact x5 | exact x0) (first | (go_at_call 56; refine i1.mono ?_; rintro r w5 ⟨rfl, b5⟩; have B5 := hid (drewBelow8 b5); have x5 : w5.cell? (xl.add j) = some (.string ⟨hh.toArray⟩) := (B5.out.cell (by rw [addr_block]; exact hxl)).trans hcl; obtain ⟨w6, hup6, M6, bt6⟩ := (hM.out.below B5.out hM.out.lt).leaf (i := i) (by omega) hh; have x6 : w6.cell? (xl.add j) = some (.string ⟨hh.toArray⟩) := (World.cell?_of_block (bt6.block (xl.add j).block (by have := B5.out.size; rw [addr_block]; omega) (by rw [addr_block]; omega))).trans x5))
          have K6 := hid ((hK.out.trans (Keep.ofBelow (S := fun k => k = b) B5.out) fun _ _ e => e).trans (But.keep12 bt6) fun _ _ e => e)
          have M6 := hid M6
          go_wp2
          exact ⟨⟨j + 1, _, by omega, by go_num, M6, hSn', hW', hTA', hTn, K6⟩, by simp [intOf]; omega⟩
        · obtain rfl : j = m := by omega
          have d0 : ¬ (j : Int) < (j : Int) := by omega
          have SB := S2.out.keep hK.out (by omega)
          have u0 := SB.c0
          have u1 := SB.c1
          have hI : ∀ i ∈ is, g (i, i + 1) ≠ none := by
            have := hIj.out
            rw [← Hm.out, List.take_length] at this
            exact this
          have C0 : Cl is n val 0 g := Cl.start hSn.out (by rw [HTT.out]; exact hTA.out) hI
          have i5 := climb12_any hM.out (tabs_keep (HT.out.below B2.out hTl) hK.out fun k e => by omega) (by omega) (by omega) HNV.out HUP.out HLT.out (by rw [Hm.out]; exact l2) C0 hW.out ai ci (fun w' hw' => AI.out _ (BW.out.trans (keep_below hw' BW.out.size fun k e => by omega)))
          rw [Hm.out] at i5
          clear hIj hI C0 hSn hTA SB
          go_wp2_with (go_at_call 57; refine i5.mono ?_; rintro r w7 ⟨rfl, g7, M7, C7, W7, K7⟩)
          go_ret2
          exact ⟨b, g7, rfl, M7, C7, W7, HF1.out, BW.out.trans (keep_below K7 BW.out.size fun k e => by omega)⟩
end Bat
end Go.Proofs.YtbodgecbakcaaaaGreatDoor

namespace Go.Proofs.YtbodgecbakcaaaaGreatDoor
open Go.RowKit Go.Shelf
namespace Bat
theorem str_ne12 {a b : List UInt8} (h : a ≠ b) : ((ByteArray.mk a.toArray).toList != (ByteArray.mk b.toArray).toList) = true := by
  rw [ByteArray.toList_eq, ByteArray.toList_eq]
  show (a != b) = true
  simpa using h
theorem str_eq12 (a : List UInt8) : ((ByteArray.mk a.toArray).toList != (ByteArray.mk a.toArray).toList) = false := by simp
theorem knE_ok {n : Int} {cs : List Int} {H L : List (List UInt8)} (h : knE n cs H L = 0) : ∃ (m : Nat) (is : List Nat), n = (m : Int) ∧ cs = ix is ∧ BatOk (m : Int) (ix is) ∧ H.length = (Tree.othF m 0 m is).length ∧ L.length = is.length ∧ hsB8 H = true ∧ hsB8 L = true := by
  unfold knE at h
  split at h
  · rename_i h0
    split at h
    · rename_i h1
      have hb := BatOk.of (tolE_zero.1 h0)
      have n1 := hb.n1
      refine ⟨n.toNat, toN cs, by omega, hb.ix.symm, by rw [hb.ix, Int.toNat_of_nonneg (by omega)]; exact hb, ?_, by rw [h1.2.1]; simp [toN], h1.2.2.1, h1.2.2.2⟩
      rw [h1.1]
      unfold batchL
      rw [if_pos (tolE_zero.1 h0)]
    · cases h
  · rename_i h0; exact absurd h h0
theorem Mk.whole {w : World} {b : Nat} {f : Kn} (h : Mk w b f) {n : Nat} (hn : n ≤ 1099511627776) {x : List UInt8} (hx : f (0, n) = some x) : (Instr.lookup 74 (.map (some b)) (.agg #[.int .i64 0, .int .i64 (n : Int)]) false).run Tryz.prog w = .ok (.agg #[.string ⟨x.toArray⟩]) w :=
  h.get (s := (0, n)) ⟨by show 0 ≤ _; omega, hn⟩ hx
set_option maxRecDepth 100000 in
set_option maxHeartbeats 4000000 in
theorem root12_ok (n : Nat) (is : List Nat) (H L : List (List UInt8)) (val : Nat × Nat → List UInt8) (V : Val is n H L val) (hb0 : BatOk (n : Int) (ix is)) (hH32 : hsB8 H = true) (hL32 : hsB8 L = true) (ai ah al : Option Addr) (ci ch cl : Nat) (w : World) (T : Tabs w) (hA : AtI w ai (ix is)) (hAh : At w ah H) (hAl : At w al L) :
    Calls Tryz.prog 19 #[bt (n : Int) (.slice ai is.length ci) (.slice ah H.length ch), .slice al L.length cl] w fun r w' => r = .returned (.tuple #[sv (val (0, n)), .int .i64 0]) ∧ (val (0, n)).length = 32 ∧ Below w.heap.size w w' := by
  have b0 := (Below.refl w.heap.size w).alloc (Nat.le_refl _) (.cells #[.int .i64 (n : Int), .slice ai is.length ci, .slice ah H.length ch] 25)
  have s0 := BtI.new w (n : Int) (.slice ai is.length ci) (.slice ah H.length ch)
  have i1 := known12_ok n is H L val V hb0 hH32 hL32 ai ah al ci ch cl _ (T.below b0 T.lt) (hA.below b0 (Nat.le_refl _)) (hAh.below b0 (Nat.le_refl _)) (hAl.below b0 (Nat.le_refl _))
  have hlt : ∀ i ∈ is, i < n := fun i hi => by
    have := hb0.all (i : Int) (List.mem_map.2 ⟨i, hi, rfl⟩)
    omega
  have hne : is ≠ [] := by
    intro e
    have := hb0.l1
    rw [e] at this
    simp [ix] at this
  have n2 := hb0.n2
  have HS := hid s0
  have B0 := hid b0
  have x0 := s0.c0
  have x1 := s0.c1
  have x2 := s0.c2
  generalize H.length = hl at *
  generalize L.length = ll at *
  clear V hb0 hH32 hL32 T hA hAh hAl b0 s0
  go_enter Tryz.func19, Tryz.ntmps19
  go_wp2_with (go_at_call 39; refine i1.mono ?_; rintro r w1 ⟨b, g, rfl, M1, C1, W1, hb, b1⟩; have S1 := HS.out.below b1; have y0 := S1.c0; have hg := M1.whole (n := n) (by omega) (C1.root hne hlt); have hv32 := hid (W1 _ _ (C1.root hne hlt)); have hf := field_hash ⟨(val (0, n)).toArray⟩; have B1 := hid (B0.out.trans (b1.mono B0.out.size)); clear M1 C1 W1 b1 S1)
  go_ret2
  exact ⟨rfl, hv32.out, B1.out⟩
set_option maxRecDepth 100000 in
set_option maxHeartbeats 4000000 in
theorem root12_bad (n : Int) (cs : List Int) (H L : List (List UInt8)) (ai ah al : Option Addr) (ci ch cl : Nat) (w : World) (hcs : cs.length ≤ 140737488355328) (hH : H.length ≤ 9223372036854775807) (hL : L.length ≤ 9223372036854775807) (hA : AtI w ai cs) (hAh : At w ah H) (hAl : At w al L) (he : knE n cs H L ≠ 0) :
    Calls Tryz.prog 19 #[bt n (.slice ai cs.length ci) (.slice ah H.length ch), .slice al L.length cl] w fun r w' => r = .returned (.tuple #[sv [], .int .i64 (knE n cs H L)]) ∧ Below w.heap.size w w' := by
  have b0 := (Below.refl w.heap.size w).alloc (Nat.le_refl _) (.cells #[.int .i64 n, .slice ai cs.length ci, .slice ah H.length ch] 25)
  have s0 := BtI.new w n (.slice ai cs.length ci) (.slice ah H.length ch)
  have i1 := known12_bad n cs H L ai ah al ci ch cl _ hcs hH hL (hA.below b0 (Nat.le_refl _)) (hAh.below b0 (Nat.le_refl _)) (hAl.below b0 (Nat.le_refl _)) he
  generalize knE n cs H L = c at *
  have h0' : (c != 0) = true := by simpa using he
  have B0 := hid b0
  have x0 := s0.c0
  have x1 := s0.c1
  have x2 := s0.c2
  generalize H.length = hl at *
  generalize L.length = ll at *
  generalize cs.length = m at *
  clear hA hAh hAl b0 s0
  go_enter Tryz.func19, Tryz.ntmps19
  go_wp2_with (go_at_call 39; refine i1.mono ?_; rintro r w1 ⟨rfl, b1⟩; have B1 := hid (B0.out.trans (b1.mono B0.out.size)); clear b1)
  go_ret2
  exact ⟨rfl, B1.out⟩
set_option maxRecDepth 100000 in
set_option maxHeartbeats 4000000 in
theorem check12_any (n : Int) (H L : List (List UInt8)) (cl2 : Nat) (ai ah al : Option Addr) (ci ch cl : Nat) (x root : List UInt8) (c d : Int) (w : World)
    (hR : ∀ w', Below w.heap.size w w' → Calls Tryz.prog 19 #[bt n (.slice ai cl2 ci) (.slice ah H.length ch), .slice al L.length cl] w' fun r w'' => r = .returned (.tuple #[sv x, .int .i64 c]) ∧ Below w'.heap.size w' w'')
    (hd : d = if c = 0 then (if x = root then 0 else 123) else c) :
    Calls Tryz.prog 16 #[bt n (.slice ai cl2 ci) (.slice ah H.length ch), .slice al L.length cl, sv root] w fun r w' => r = .returned (.int .i64 d) ∧ Below w.heap.size w w' := by
  have b0 := (Below.refl w.heap.size w).alloc (Nat.le_refl _) (.cells #[.int .i64 n, .slice ai cl2 ci, .slice ah H.length ch] 25)
  have s0 := BtI.new w n (.slice ai cl2 ci) (.slice ah H.length ch)
  have i1 := hR _ b0
  have B0 := hid b0
  have x0 := s0.c0
  have x1 := s0.c1
  have x2 := s0.c2
  generalize H.length = hl at *
  generalize L.length = ll at *
  clear hR b0 s0
  by_cases h0 : c = 0
  · rw [if_pos h0] at hd
    subst h0
    by_cases h1 : x = root
    · rw [if_pos h1] at hd
      subst h1
      subst hd
      have e1 := str_eq12 x
      try rw [show sv x = Value.string ⟨x.toArray⟩ from rfl] at i1
      try rw [show sv x = Value.string ⟨x.toArray⟩ from rfl]
      try rw [show sv root = Value.string ⟨root.toArray⟩ from rfl]
      go_enter Tryz.func16, Tryz.ntmps16
      go_wp2_with (go_at_call 19; refine i1.mono ?_; rintro r w1 ⟨rfl, b1⟩; have B1 := hid (B0.out.trans (b1.mono B0.out.size)); clear b1)
      go_ret
      exact ⟨rfl, B1.out⟩
    · rw [if_neg h1] at hd
      subst hd
      have e1 := str_ne12 h1
      have e2 : (x == root) = false := by simpa using h1
      try rw [show sv x = Value.string ⟨x.toArray⟩ from rfl] at i1
      try rw [show sv x = Value.string ⟨x.toArray⟩ from rfl]
      try rw [show sv root = Value.string ⟨root.toArray⟩ from rfl]
      go_enter Tryz.func16, Tryz.ntmps16
      go_wp2_with (go_at_call 19; refine i1.mono ?_; rintro r w1 ⟨rfl, b1⟩; have B1 := hid (B0.out.trans (b1.mono B0.out.size)); clear b1)
      go_ret
      exact ⟨rfl, B1.out⟩
  · rw [if_neg h0] at hd
    subst hd
    have h0' : (d != 0) = true := by simpa using h0
    go_enter Tryz.func16, Tryz.ntmps16
    go_wp2_with (go_at_call 19; refine i1.mono ?_; rintro r w1 ⟨rfl, b1⟩; have B1 := hid (B0.out.trans (b1.mono B0.out.size)); clear b1)
    go_ret
    exact ⟨rfl, B1.out⟩
end Bat
end Go.Proofs.YtbodgecbakcaaaaGreatDoor

namespace Go.Proofs.YtbodgecbakcaaaaGreatDoor
open Go.RowKit Go.Shelf
namespace Bat
def RowV (w : World) (G : Nat) (ty : TypeId) (cs : List Value) : Prop := w.heap[G]? = some (.cells cs.toArray ty (0, 0))
theorem RowV.lt {w : World} {G : Nat} {ty : TypeId} {cs : List Value} (h : RowV w G ty cs) : G < w.heap.size := lt_of_heap h
theorem RowV.cell {w : World} {G : Nat} {ty : TypeId} {cs : List Value} (h : RowV w G ty cs) {j : Nat} {v : Value} (hv : cs[j]? = some v) : w.cell? ⟨G, j, none⟩ = some v := by
  rw [cell_of_row _ _ _ _ _ _ h]; simp [hv]
theorem RowV.free {w : World} {G : Nat} {ty : TypeId} {cs : List Value} (h : RowV w G ty cs) {j : Nat} (hj : j < cs.length) : w.frozen? ⟨G, j, none⟩ = false := by
  have := (there_of_row h 0 cs.length (by simp)) j hj
  rw [Nat.zero_add] at this
  exact this.2
theorem RowV.below {w w' : World} {G B : Nat} {ty : TypeId} {cs : List Value} (h : RowV w G ty cs) (hb : Below B w w') (hB : G < B) : RowV w' G ty cs := by
  unfold RowV; rw [hb.block G hB]; exact h
theorem RowV.set {w : World} {G : Nat} {ty : TypeId} {cs : List Value} (h : RowV w G ty cs) (k : Nat) (v : Value) : RowV (w.setCell ⟨G, k, none⟩ v) G ty (cs.set k v) := by
  have e := setCell_eq_setRow w G k cs.toArray ty (0, 0) v h
  unfold RowV
  rw [e, setRow_heap _ _ _ _ _ _ h]
  refine congrArg (fun A => some (Obj.cells A ty (0, 0))) ?_
  simp
theorem infoSl12 : (Tryz.prog.info? 23).map (fun i => (i.zero, i.size, i.bytes)) = some (some (.slice none 0 0), 1, 24) := by kernel_rfl
theorem make_lists (w : World) (c : Nat) (hc : c ≤ 1000000) :
    (Instr.makeSlice 41 (.int .i64 (c : Int)) (.int .i64 (c : Int))).run Tryz.prog w = .ok (.slice (some ⟨w.heap.size, 0, none⟩) c c) (w.alloc (.cells (List.replicate c (.slice none 0 0)).toArray 23)) := by
  obtain ⟨i0, hi, hz0, hz1, hz2⟩ := info_parts infoSl12
  have h := run_make (P := Tryz.prog) w 41 23 i0 (.slice none 0 0) Tryz.underlying41 hi hz0 .i64 .i64 (c : Int) (c : Int) (by omega) (by omega) (by rw [hz2]; omega) (by omega)
  rw [Int.toNat_natCast, hz1, Nat.mul_one] at h
  have e : madeCells (Value.slice none 0 0).cells c = (List.replicate c (.slice none 0 0)).toArray := by
    apply Array.ext'
    rw [show (madeCells (Value.slice none 0 0).cells c).toList = List.replicate c (.slice none 0 0) from toList_madeCells_one _ _]
  rw [e] at h
  exact h
theorem make_lists' (w : World) (c : Nat) (hc : c ≤ 1000000) : ∃ w', (Instr.makeSlice 41 (.int .i64 (c : Int)) (.int .i64 (c : Int))).run Tryz.prog w = .ok (.slice (some ⟨w.heap.size, 0, none⟩) c c) w' ∧ RowV w' w.heap.size 23 (List.replicate c (.slice none 0 0)) ∧ Below w.heap.size w w' ∧ w'.heap.size = w.heap.size + 1 :=
  ⟨_, make_lists w c hc, heap_alloc_new w _, (Below.refl _ _).alloc (Nat.le_refl _) _, by simp⟩
def lst (g : Nat) (p : List (List UInt8)) : Value := .slice (some ⟨g, 0, none⟩) p.length p.length
def lsts (gs : List Nat) (ps : List (List (List UInt8))) (m : Nat) : List Value := List.zipWith lst gs ps ++ List.replicate (m - gs.length) (.slice none 0 0)
theorem lsts_len {gs : List Nat} {ps : List (List (List UInt8))} {m : Nat} (h1 : gs.length ≤ ps.length) (h2 : gs.length ≤ m) : (lsts gs ps m).length = m := by
  unfold lsts; rw [List.length_append, List.length_zipWith, List.length_replicate]; omega
theorem zip_more {gs : List Nat} {ps : List (List (List UInt8))} (h : gs.length < ps.length) (g : Nat) : List.zipWith lst (gs ++ [g]) ps = List.zipWith lst gs ps ++ [lst g (ps[gs.length]'h)] := by
  induction gs generalizing ps with
  | nil =>
    cases ps with
    | nil => simp at h
    | cons p ps => simp
  | cons a gs ih =>
    cases ps with
    | nil => simp at h
    | cons p ps =>
      simp only [List.cons_append, List.zipWith_cons_cons, List.cons.injEq, true_and]
      exact ih (by simpa using h)
theorem lsts_set {gs : List Nat} {ps : List (List (List UInt8))} {m : Nat} (h1 : gs.length < ps.length) (h2 : gs.length < m) (g : Nat) : (lsts gs ps m).set gs.length (lst g (ps[gs.length]'h1)) = lsts (gs ++ [g]) ps m := by
  unfold lsts
  obtain ⟨q, hq⟩ : ∃ q, m - gs.length = q + 1 := ⟨m - gs.length - 1, by omega⟩
  have hl : (List.zipWith lst gs ps).length = gs.length := by rw [List.length_zipWith]; omega
  rw [hq, zip_more h1, List.set_append, if_neg (by omega), hl, Nat.sub_self, List.replicate_succ, List.set_cons_zero, List.length_append, List.length_singleton, show m - (gs.length + 1) = q by omega, List.append_assoc]
  rfl
structure Lsts (w : World) (B : Nat) (gs : List Nat) (ps : List (List (List UInt8))) : Prop where
  row : ∀ (k g : Nat) (p : List (List UInt8)), gs[k]? = some g → ps[k]? = some p → Row w g p
  up : gs.Pairwise (· < ·)
  ge : ∀ g ∈ gs, B ≤ g ∧ g < w.heap.size
def paths (is : List Nat) (n : Nat) (val : Nat × Nat → List UInt8) : List (List (List UInt8)) := is.map fun i => (Tree.pthF n 0 n i).map val
def ExpP (w : World) (ps : List (List (List UInt8))) (r : Ending) (w' : World) : Prop := ∃ G gs, r = .returned (.tuple #[.slice (some ⟨G, 0, none⟩) ps.length ps.length, .int .i64 0]) ∧ RowV w' G 23 (List.zipWith lst gs ps) ∧ gs.length = ps.length ∧ Lsts w' (G + 1) gs ps ∧ w.heap.size ≤ G ∧ Below w.heap.size w w'
set_option maxRecDepth 100000 in
set_option maxHeartbeats 8000000 in
theorem expand12_ok (n : Nat) (is : List Nat) (H L : List (List UInt8)) (val : Nat × Nat → List UInt8) (V : Val is n H L val) (hb0 : BatOk (n : Int) (ix is)) (hH32 : hsB8 H = true) (hL32 : hsB8 L = true) (ai ah al : Option Addr) (ci ch cl : Nat) (w : World) (T : Tabs w) (hA : AtI w ai (ix is)) (hAh : At w ah H) (hAl : At w al L) :
    Calls Tryz.prog 14 #[bt (n : Int) (.slice ai is.length ci) (.slice ah H.length ch), .slice al L.length cl] w (ExpP w (paths is n val)) := by
  have b0 := (Below.refl w.heap.size w).alloc (Nat.le_refl _) (.cells #[.int .i64 (n : Int), .slice ai is.length ci, .slice ah H.length ch] 25)
  have s0 := BtI.new w (n : Int) (.slice ai is.length ci) (.slice ah H.length ch)
  have i1 := known12_ok n is H L val V hb0 hH32 hL32 ai ah al ci ch cl _ (T.below b0 T.lt) (hA.below b0 (Nat.le_refl _)) (hAh.below b0 (Nat.le_refl _)) (hAl.below b0 (Nat.le_refl _))
  have hlt : ∀ i ∈ is, i < n := fun i hi => by
    have := hb0.all (i : Int) (List.mem_map.2 ⟨i, hi, rfl⟩)
    omega
  have n2 := hb0.n2
  have l2 := hb0.l2
  have hil : (ix is).length = is.length := by simp [ix]
  rw [hil] at l2
  have HLT := hid hlt
  have AI := hid (fun w' (h : Below w.heap.size w w') => hA.below h (Nat.le_refl _))
  have HS := hid s0
  have B0 := hid b0
  have x0 := s0.c0
  have x1 := s0.c1
  have x2 := s0.c2
  generalize H.length = hl at *
  generalize L.length = ll at *
  have hpl : (paths is n val).length = is.length := by simp [paths]
  obtain ⟨ps, hps⟩ : ∃ ps, paths is n val = ps := ⟨_, rfl⟩
  have HPS := hid hps
  rw [hps] at hpl ⊢
  have HPL := hid hpl
  have mk := fun w' => make_lists' w' is.length (by omega)
  clear V hb0 hH32 hL32 T hA hAh hAl b0 s0 hlt hil hps hpl
  go_enter Tryz.func14, Tryz.ntmps14
  go_wp2_with (go_at_call 39; refine i1.mono ?_; rintro r w1 ⟨b, g, rfl, M1, C1, W1, hb, b1⟩; have S1 := hid (HS.out.below b1); have y0 := S1.out.c0; have y1 := S1.out.c1; have B1 := hid (B0.out.trans (b1.mono B0.out.size)); have HM := hid M1; have HC := hid C1; obtain ⟨w2, mk1, R2, B2, z2⟩ := mk w1; have S2 := hid (S1.out.below B2); have t1 := S2.out.c1; clear M1 C1 W1 b1)
  have R2 := hid (show RowV w2 w1.heap.size 23 (lsts [] ps is.length) from R2)
  have B2 := hid B2
  have hbl := HM.out.lt
  have hgl := lt_of_heap S1.out
  clear mk mk1 i1 HS B0 x0 x1 x2 y0 y1 t1 S2
  go_loopw [9, 10, 27] (fun _ _ i w' => ∃ (k : Nat) (gs : List Nat), k ≤ is.length ∧ i = .int .i64 (k : Int) ∧ Hid (gs.length = k) ∧ Hid (RowV w' w1.heap.size 23 (lsts gs ps is.length)) ∧ Hid (Lsts w' (w1.heap.size + 1) gs ps) ∧ Hid (w1.heap.size < w'.heap.size) ∧ Hid (Below w1.heap.size w1 w')) (fun _ _ i _ => is.length - (intOf i).toNat)
  case atStart => exact ⟨0, [], by omega, rfl, rfl, R2, ⟨(fun k g p h => by simp at h), List.Pairwise.nil, (fun g h => by cases h)⟩, by unfold Hid; omega, B2⟩
  case round =>
    clear R2 B2
    obtain ⟨k, gs, hk, rfl, hgk, hR, hLs, hsz, hB⟩ := hrel
    by_cases hkm : k < is.length
    · have d0 : (k : Int) < (is.length : Int) := by omega
      have hkx : k < (ix is).length := by simp [ix]; exact hkm
      have BW := hid (B1.out.trans (hB.out.mono B1.out.size))
      obtain ⟨xi, rfl, _, hci⟩ := (AI.out _ BW.out) k (ix is)[k] (List.getElem?_eq_getElem hkx)
      rw [show (ix is)[k] = ((is[k] : Nat) : Int) by simp [ix]] at hci
      have hin := HLT.out is[k] (List.getElem_mem hkm)
      have i2 := beside12_any n is[k] hin (by omega) wr
      have SB := (hB.out.block w.heap.size hgl).trans S1.out
      have u0 := BtI.c0 SB
      have hpk : k < ps.length := by rw [HPL.out]; exact hkm
      have hpe : Hid (ps[k] = (Tree.pthF n 0 n is[k]).map val) := by
        unfold Hid
        have := HPS.out
        subst this
        simp [paths]
      have hpf := hid (HC.out.path (List.getElem_mem hkm) hin)
      have hpl2 : (Tree.pthF n 0 n is[k]).length ≤ 2000000 := pthF_short12 n 0 n is[k] (Nat.le_refl _) (by omega) (by omega) (by omega)
      have hplo := hid (path_lo (n := n) (i := is[k]) (by omega))
      have i3 := fun w' (v : Value) (hb : Below wr.heap.size wr w') (ho : OwnP w' v (Tree.pthF n 0 n is[k])) => khashes12_any (val := val) ((HM.out.below hB.out hbl).below hb (Nat.lt_of_lt_of_le hbl hB.out.size)) (Tree.pthF n 0 n is[k]) v ho (fun s hs => ⟨hplo.out s hs, hpf.out s hs⟩) hpl2
      rw [show ((Tree.pthF n 0 n is[k]).map val) = ps[k] from hpe.out.symm] at i3
      have hpn : (Tree.pthF n 0 n is[k]).length = ps[k].length := by rw [hpe.out, List.length_map]
      rw [hpn] at i3
      have hll := lsts_len (gs := gs) (ps := ps) (m := is.length) (by rw [hgk.out]; omega) (by rw [hgk.out]; omega)
      have hset := fun wg => hid (lsts_set (gs := gs) (ps := ps) (m := is.length) (by rw [hgk.out]; exact hpk) (by rw [hgk.out]; exact hkm) wg)
      have hpg : ps[gs.length]'(by rw [hgk.out]; exact hpk) = ps[k] := by congr 1
      rw [hpg] at hset
      have hcl : k < (lsts gs ps is.length).length := by rw [hll]; exact hkm
      have hpk2 : Hid (ps[k]? = some ps[k]) := List.getElem?_eq_getElem hpk
      obtain ⟨pk, hpk3⟩ : ∃ pk, ps[k] = pk := ⟨_, rfl⟩
      rw [hpk3] at i3 hset hpk2
      generalize Tree.pthF n 0 n is[k] = S at *
      generalize is[k] = i at *
      have kl : (k : Int) < (is.length : Int) := d0
      have j0 : (0 : Int) ≤ (k : Int) := by omega
      have HcR := hid hR.out
      clear hpe hpf hplo SB hpl2 hpn hpg
      go_wp2_with (first
        | (go_at_call 41; refine i2.mono ?_; rintro r w3 ⟨b3, v3, rfl, o3, f3⟩; have i4 := i3 w3 v3 b3 o3; have B3 := hid b3; clear o3 f3 b3)
        | (go_at_call 40; refine i4.mono ?_; rintro r w4 ⟨rfl, R4, b4⟩; have B4 := hid (B3.out.trans (b4.mono B3.out.size)); have z4 := hid b4.size; have z3 := hid B3.out.size; have R5 := hid (hR.out.below B4.out hR.out.lt); have f2 := R5.out.free (j := k) hcl; have d2 := R5.out.cell (List.getElem?_eq_getElem hcl); have HR4 := hid R4; clear R4 b4))
      have z3 := z3.out
      have hsz := hsz.out
      refine ⟨⟨k + 1, gs ++ [w3.heap.size], by omega, by go_num, by unfold Hid; rw [List.length_append, hgk.out]; rfl, ?_, ⟨fun q g' p h1 h2 => ?_, ?_, fun g' hg' => ?_⟩, ?_, ?_⟩, by simp [intOf]; omega⟩
      · have := R5.out.set k (lst w3.heap.size pk)
        have e := (hset w3.heap.size).out
        rw [hgk.out] at e
        rw [e] at this
        exact this
      · rcases Nat.lt_or_ge q gs.length with c | c
        · rw [List.getElem?_append_left c] at h1
          have hg := hLs.out.ge g' (List.mem_of_getElem? h1)
          have r1 := (hLs.out.row q g' p h1 h2).below B4.out hg.2
          unfold Row at r1 ⊢
          rw [← r1]
          exact Below.heap_setCell _ _ _ g' (by show g' ≠ w1.heap.size; omega)
        · rw [List.getElem?_append_right c] at h1
          have hq : q = k := by
            rcases Nat.lt_or_ge (q - gs.length) 1 with c2 | c2
            · have := hgk.out; have h3 := c; omega
            · rw [List.getElem?_eq_none (by simpa using c2)] at h1; cases h1
          subst hq
          have hgq := hgk.out
          rw [show q - gs.length = 0 by omega] at h1
          simp at h1
          subst h1
          rw [hpk2.out] at h2
          cases h2
          have r1 := HR4.out
          unfold Row at r1 ⊢
          rw [← r1]
          exact Below.heap_setCell _ _ _ w3.heap.size (by show w3.heap.size ≠ w1.heap.size; omega)
      · refine List.pairwise_append.2 ⟨hLs.out.up, List.pairwise_singleton _ _, fun x hx y hy => ?_⟩
        rw [List.mem_singleton.1 hy]
        have := (hLs.out.ge x hx).2
        omega
      · rw [World.size_setCell]
        rcases List.mem_append.1 hg' with hg' | hg'
        · have := hLs.out.ge g' hg'
          have := B4.out.size
          omega
        · rw [List.mem_singleton.1 hg']
          have := HR4.out.lt
          omega
      · unfold Hid; rw [World.size_setCell]; have := B4.out.size; omega
      · exact Below.setCell (p := ⟨w1.heap.size, k, none⟩) (hB.out.trans (B4.out.mono hB.out.size)) (Nat.le_refl _) _
    · obtain rfl : k = is.length := by omega
      have d0 : ¬ (is.length : Int) < (is.length : Int) := by omega
      go_wp2
      go_ret2
      refine ⟨w1.heap.size, gs, by rw [HPL.out]; rfl, ?_, by rw [HPL.out]; exact hgk.out, hLs.out, B1.out.size, B1.out.trans (hB.out.mono B1.out.size)⟩
      have := hR.out
      unfold lsts at this
      rw [hgk.out, Nat.sub_self, List.replicate_zero, List.append_nil] at this
      exact this
end Bat
end Go.Proofs.YtbodgecbakcaaaaGreatDoor

namespace Go.Proofs.YtbodgecbakcaaaaGreatDoor
open Go.RowKit Go.Shelf
namespace Bat
set_option maxRecDepth 100000 in
set_option maxHeartbeats 4000000 in
theorem expand12_bad (n : Int) (cs : List Int) (H L : List (List UInt8)) (ai ah al : Option Addr) (ci ch cl : Nat) (w : World) (hcs : cs.length ≤ 140737488355328) (hH : H.length ≤ 9223372036854775807) (hL : L.length ≤ 9223372036854775807) (hA : AtI w ai cs) (hAh : At w ah H) (hAl : At w al L) (he : knE n cs H L ≠ 0) :
    Calls Tryz.prog 14 #[bt n (.slice ai cs.length ci) (.slice ah H.length ch), .slice al L.length cl] w fun r w' => r = .returned (.tuple #[.slice none 0 0, .int .i64 (knE n cs H L)]) ∧ Below w.heap.size w w' := by
  have b0 := (Below.refl w.heap.size w).alloc (Nat.le_refl _) (.cells #[.int .i64 n, .slice ai cs.length ci, .slice ah H.length ch] 25)
  have s0 := BtI.new w n (.slice ai cs.length ci) (.slice ah H.length ch)
  have i1 := known12_bad n cs H L ai ah al ci ch cl _ hcs hH hL (hA.below b0 (Nat.le_refl _)) (hAh.below b0 (Nat.le_refl _)) (hAl.below b0 (Nat.le_refl _)) he
  generalize knE n cs H L = c at *
  have h0' : (c != 0) = true := by simpa using he
  have B0 := hid b0
  have x0 := s0.c0
  have x1 := s0.c1
  have x2 := s0.c2
  generalize H.length = hl at *
  generalize L.length = ll at *
  generalize cs.length = m at *
  clear hA hAh hAl b0 s0
  go_enter Tryz.func14, Tryz.ntmps14
  go_wp2_with (go_at_call 39; refine i1.mono ?_; rintro r w1 ⟨rfl, b1⟩; have B1 := hid (B0.out.trans (b1.mono B0.out.size)); clear b1)
  go_ret2
  exact ⟨rfl, B1.out⟩
theorem ivs_one12 {l : List Int} : ∀ u ∈ ivs l, u.oneCell' = true := fun u hu => by
  obtain ⟨x, _, rfl⟩ := List.mem_map.1 hu
  rfl
theorem append_ints (w : World) (base : Nat) (v : Value) (K : List Int) (hown : Own w base v (ivs K)) (hbase : base ≤ w.heap.size) (a : Option Addr) (cap : Nat) (L : List Int) (hA : AtI w a L) (h0 : 0 < L.length) (hlen : K.length + L.length ≤ 17592186043904) :
    ∃ v' w', (Builtin.append_ #[22, 22] 22 #[v, .slice a L.length cap]).run Tryz.prog w = .ok v' w' ∧ Own w' base v' (ivs (K ++ L)) ∧ Below base w w' := by
  obtain ⟨i0, hi, hz0, hz1, hz2⟩ := info_parts infoBl
  obtain ⟨x, rfl⟩ := hA.pos h0
  have hsrc : Src Tryz.prog 1 22 (.slice (some x) L.length cap) L.length (ivs L) w :=
    Src.ofSlice w Tryz.underlying22 x L.length cap (ivs L) (by rw [ivs_length, Nat.mul_one]) (fun j u hj => by
      simp only [ivs, List.getElem?_map, Option.map_eq_some_iff] at hj
      obtain ⟨p, hp, rfl⟩ := hj
      obtain ⟨y, hy, _, hc⟩ := hA j p hp
      obtain rfl := Option.some.inj hy
      exact hc) (fun u hu => ivs_one12 u hu)
  obtain ⟨v', w', h1, h2, h3, h4⟩ := run_append_O (P := Tryz.prog) w base 22 22 22 3 i0 (.int .i64 0) Tryz.underlying22 hi hz0 hz1 rfl v (ivs K) hown _ L.length (ivs L) hsrc
    (by rw [ivs_length, hz2]; omega) (by rw [ivs_length, maxLen]; omega) hbase (fun _ => by omega)
  exact ⟨v', w', h1, by simpa [ivs] using h2, Below.ofGrown h3 hown.ge hbase⟩
theorem nen_int12 (x : Addr) (n c : Nat) (w : World) : (binOp .eql 22 (.slice (some x) n c) (.slice none 0 0)).run Tryz.prog w = .ok (.bool false) w := by kernel_rfl
theorem own_empty (w : World) : Own (w.alloc (.cells #[] 3)) w.heap.size (.slice (some ⟨w.heap.size, 0, none⟩) 0 0) (ivs []) :=
  .inr ⟨w.heap.size, 0, rfl, Nat.le_refl _, Nat.le_refl _, by rw [maxLen]; omega, (fun j v hv => by simp [ivs] at hv), (fun j hj => by omega), by simp⟩
set_option maxRecDepth 100000 in
set_option maxHeartbeats 4000000 in
theorem cloneI (a : Option Addr) (cap : Nat) (L : List Int) (w : World) (hA : AtI w a L) (h0 : 0 < L.length) (hlen : L.length ≤ 1000000) :
    Calls Tryz.prog 38 #[.slice a L.length cap] w fun r w' => ∃ v, r = .returned v ∧ Own w' w.heap.size v (ivs L) ∧ Below w.heap.size w w' := by
  have b0 := (Below.refl w.heap.size w).alloc (Nat.le_refl _) (.cells #[] 3)
  obtain ⟨v', w', hap, hO, hB⟩ := append_ints _ w.heap.size _ [] (own_empty w) (by simp) a cap L (hA.below b0 (Nat.le_refl _)) h0 (by simp; omega)
  obtain ⟨x, rfl⟩ := hA.pos h0
  have hne := nen_int12 x L.length cap
  have HO := hid hO
  have HB := hid (b0.trans hB)
  rw [List.nil_append] at HO
  generalize L.length = m at *
  clear hA hO hB b0
  go_enter Tryz.func38, Tryz.ntmps38
  go_wp2_with (at_builtin; go_must (refine Lib.wpList_append_run _ rfl _ _ 22 22 rfl _ _ rfl rfl _ _ hap ?_))
  go_ret
  exact ⟨_, rfl, HO.out, HB.out⟩
end Bat
end Go.Proofs.YtbodgecbakcaaaaGreatDoor

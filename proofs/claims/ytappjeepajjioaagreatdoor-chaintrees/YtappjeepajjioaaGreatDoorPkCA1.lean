import Derived.Test.YtappjeepajjioaaGreatDoorPkTL32
import Derived.Test.YtappjeepajjioaaGreatDoorPkFN1
import Derived.Test.YtappjeepajjioaaGreatDoorPkO8
import Derived.Lib.SmallJoins
namespace Go.Proofs.YtappjeepajjioaaGreatDoor
open Go.RowKit Go.Shelf
namespace Chn
/-- the law's own lists, while they are made and spoilt -/
structure Al (B w' : World) (c G : Nat) (vH vl vr : Value) (hs : List Nat) (H R : List (List UInt8)) (m k : Nat) : Prop where
  ch : ChI w' c vH (.slice (some ⟨G, 0, none⟩) k k)
  oh : OwnM 1 w' vH m (ivC hs)
  ol : OwnM 1 w' vl m (ivC hs)
  row : Row w' G H
  orr : OwnM 1 w' vr R.length (svs R)
  gr : ∀ i, vr.ownBlock = some i → B.heap.size ≤ i
  c0 : c < B.heap.size
  g0 : G < B.heap.size
  h0 : ∀ i, vH.ownBlock = some i → i < B.heap.size ∧ i ≠ G
  l0 : ∀ i, vl.ownBlock = some i → i < B.heap.size ∧ i ≠ G
  cG : c ≠ G
  sz : B.heap.size ≤ w'.heap.size
theorem Al.below {B w' w2 : World} {c G : Nat} {vH vl vr : Value} {hs : List Nat} {H R : List (List UInt8)} {m k : Nat} (a : Al B w' c G vH vl vr hs H R m k) (hb : Below w'.heap.size w' w2) : Al B w2 c G vH vl vr hs H R m k :=
  ⟨a.ch.below hb, a.oh.below hb, a.ol.below hb, a.row.below hb a.row.lt, a.orr.below hb, a.gr, a.c0, a.g0, a.h0, a.l0, a.cG, Nat.le_trans a.sz hb.size⟩
theorem Al.push {B w' w2 : World} {c G : Nat} {vH vl vr v2 : Value} {hs : List Nat} {H R R' : List (List UInt8)} {m k : Nat} (a : Al B w' c G vH vl vr hs H R m k) (o : OwnM 1 w2 v2 R'.length (svs R')) (g : Grow w' w2 vr v2) : Al B w2 c G vH vl v2 hs H R' m k := by
  have kp := g.keep
  have ne : ∀ i, i < B.heap.size → ¬ vr.ownBlock = some i := fun i hi e => by have := a.gr i e; omega
  have cs := lt_of_heap a.ch
  refine ⟨(kp.block c cs (ne c a.c0)).trans a.ch, a.oh.keep kp (fun i hi => ne i (a.h0 i hi).1), a.ol.keep kp (fun i hi => ne i (a.l0 i hi).1), ?_, o, fun i hi => ?_, a.c0, a.g0, a.h0, a.l0, a.cG, Nat.le_trans a.sz kp.size⟩
  · unfold Row
    rw [kp.block G a.row.lt (ne G a.g0)]
    exact a.row
  · have := a.sz
    rcases Grow.alt' g i hi with e | e
    · exact a.gr i e
    · omega
theorem Al.setH {B w' : World} {c G : Nat} {vH vl vr : Value} {hs : List Nat} {H R : List (List UInt8)} {m k : Nat} (a : Al B w' c G vH vl vr hs H R m k) (j : Nat) (x : List UInt8) : Al B (w'.setCell ⟨G, j, none⟩ (sv x)) c G vH vl vr hs (H.set j x) R m k := by
  have kp : Keep (fun i => i = G) w' (w'.setCell ⟨G, j, none⟩ (sv x)) := Keep.ofSet (S := fun i => i = G) w' G j _ rfl
  refine ⟨(kp.block c (lt_of_heap a.ch) a.cG).trans a.ch, a.oh.keep kp (fun i hi => (a.h0 i hi).2), a.ol.keep kp (fun i hi => (a.l0 i hi).2), a.row.set j x, a.orr.keep kp (fun i hi e => by have := a.gr i hi; have := a.g0; omega), a.gr, a.c0, a.g0, a.h0, a.l0, a.cG, Nat.le_trans a.sz kp.size⟩
theorem Al.setR {B w' : World} {c G g n cp : Nat} {vH vl : Value} {hs : List Nat} {H R : List (List UInt8)} {m k : Nat} (a : Al B w' c G vH vl (.slice (some ⟨g, 0, none⟩) n cp) hs H R m k) (hn : R.length = n) (j : Nat) (hj : j < R.length) (x : List UInt8) : Al B (w'.setCell ⟨g, j, none⟩ (sv x)) c G vH vl (.slice (some ⟨g, 0, none⟩) n cp) hs H (R.set j x) m k := by
  have kp : Keep (fun i => i = g) w' (w'.setCell ⟨g, j, none⟩ (sv x)) := Keep.ofSet (S := fun i => i = g) w' g j _ rfl
  have hg : B.heap.size ≤ g := a.gr g rfl
  have o := a.orr
  rw [hn] at o
  have o2 := OwnM.setC o j (sv x) (by rw [svs_length]; exact hj)
  have c0 := a.c0
  have g0 := a.g0
  refine ⟨(kp.block c (lt_of_heap a.ch) (by omega)).trans a.ch, a.oh.keep kp (fun i hi e => by have := (a.h0 i hi).1; omega), a.ol.keep kp (fun i hi e => by have := (a.l0 i hi).1; omega), ?_, ?_, a.gr, c0, g0, a.h0, a.l0, a.cG, Nat.le_trans a.sz kp.size⟩
  · unfold Row
    rw [kp.block G a.row.lt (by omega)]
    exact a.row
  · rw [List.length_set, hn]
    have e : svs (R.set j x) = (svs R).set j (sv x) := by unfold svs; rw [List.map_set]
    rw [e]
    exact o2
/-- the roots of the first k heads -/
def rts (L : List (List UInt8)) (hs : List Nat) (k : Nat) : List (List UInt8) := (hs.take k).map fun x => Tree.root (Til.sg L 0 x)
theorem rts_len (L : List (List UInt8)) (hs : List Nat) {k : Nat} (hk : k ≤ hs.length) : (rts L hs k).length = k := by unfold rts; rw [List.length_map, List.length_take]; omega
theorem rts_next (L : List (List UInt8)) (hs : List Nat) {k : Nat} (hk : k < hs.length) : rts L hs (k + 1) = rts L hs k ++ [Tree.root (Til.sg L 0 (hs.getD k 0))] := by
  unfold rts
  rw [List.take_add_one, getD_at hk, List.map_append]
  rfl
theorem rts_32 {L : List (List UInt8)} (hL : Tree.Hs L) (hs : List Nat) (k : Nat) : ∀ x ∈ rts L hs k, x.length = 32 := fun x hx => by
  obtain ⟨y, _, rfl⟩ := List.mem_map.1 hx
  exact Tree.root_hash (show Tree.Hs ((L.take y).drop 0) from (hL.take y).drop 0)
theorem pvH_32 {L : List (List UInt8)} (hL : Tree.Hs L) (hs : List Nat) : ∀ x ∈ pvH L hs, x.length = 32 := fun x hx => by
  obtain ⟨y, _, rfl⟩ := List.mem_map.1 hx
  exact Tree.root_hash (show Tree.Hs ((L.take y.2).drop y.1) from (hL.take y.2).drop y.1)
theorem hsB_C {l : List (List UInt8)} (h : ∀ x ∈ l, x.length = 32) : hsB8 l = true := by
  unfold hsB8
  rw [List.all_eq_true]
  intro x hx
  simp [h x hx]
theorem set_32 {l : List (List UInt8)} (h : ∀ x ∈ l, x.length = 32) {j : Nat} {y : List UInt8} (hy : y.length = 32) : ∀ x ∈ l.set j y, x.length = 32 := fun x hx => by
  rcases List.mem_or_eq_of_mem_set hx with e | e
  · exact h x e
  · rw [e]; exact hy
theorem own_cellC {w : World} {g n cp : Nat} {cs : List Value} (h : OwnM 1 w (.slice (some ⟨g, 0, none⟩) n cp) n cs) {j : Nat} (hj : j < n) : ∃ u, w.cell? ⟨g, j, none⟩ = some u ∧ w.frozen? ⟨g, j, none⟩ = false := by
  rcases h with ⟨e, _⟩ | ⟨g', cap, e, hn, _, hl, hr, ht, _⟩
  · cases e
  · injection e with e1 e2 e3
    injection e1 with e1
    injection e1 with e1
    subst e1
    have hjc : j < cs.length := by rw [hl]; omega
    have h1 := hr j _ (List.getElem?_eq_getElem hjc)
    have h2 := ht j (by omega)
    rw [Nat.zero_add] at h1 h2
    exact ⟨_, h1, h2.2⟩
set_option maxRecDepth 100000 in
set_option maxHeartbeats 4000000 in
theorem alone13_law (E : List (List UInt8)) (D : List Int) (N Dn : Nat) (hN : Hid (E.length = N)) (hD : Hid (D.length = Dn)) (lN : N ≤ 9223372036854775807) (lD : Dn ≤ 9223372036854775807) (h1 rt : Int) (hb1 : -9223372036854775808 ≤ h1 ∧ h1 ≤ 9223372036854775807) (hb2 : -9223372036854775808 ≤ rt ∧ rt ≤ 9223372036854775807) (by_ : ByteArray) (lby : by_.size ≤ 140737488355000) (a d : Option Addr) (ca cd : Nat) (w : World) (hA : At w a E) (hE : ∀ x ∈ E, x.length ≤ 140737488355000) (hAd : AtI w d D) (hDr : ∀ c ∈ D, -9223372036854775808 ≤ c ∧ c ≤ 9223372036854775807) (Z : Tb w) :
    Calls Tryz.prog 3 #[.slice a N ca, .slice d Dn cd, .int .i64 h1, .int .i64 rt, .string by_] w fun e w' => e = .returned (.bool true) ∧ Below w.heap.size w w' := by
  have i1 := known13_any w Z.t
  have i2 := fun w' => pick_any (N : Int) 90 (by omega) (by omega) (by omega) (by omega) w'
  have p0 := pk_nonneg (N : Int) 90 (by omega)
  have p1 := pk_lt (N : Int) 90 (by omega)
  obtain ⟨n, hn⟩ : ∃ n : Nat, (n : Int) = 1 + pk (N : Int) 90 := ⟨(1 + pk (N : Int) 90).toNat, by omega⟩
  have s1 : IntKind.i64.wrap (1 + pk (N : Int) 90) = (n : Int) := by rw [wrap_small _ (by omega) (by omega)]; omega
  have n1 : 1 ≤ n := by omega
  have n2 : n ≤ 90 := by omega
  have i3 := fun w' (bb : Below w.heap.size w w') => trees13_any (n : Int) E n N hN (by omega) a ca w' (by omega) (by omega) (hA.below bb (Nat.le_refl _)) hE (Z.below bb Z.lt)
  have i4 := fun w' (bb : Below w.heap.size w w') => rising13_any D n 64 n1 (by omega) (by omega) (by omega) Dn hD lD d cd w' (hAd.below bb (Nat.le_refl _)) hDr
  have HZ := hid (fun w' (bb : Below w.heap.size w w') => Z.below bb Z.lt)
  generalize pk (N : Int) 90 = pp at *
  clear hn p0 p1 hA hE hAd hDr Z
  go_enter Tryz.func3, Tryz.ntmps3
  go_wp2_with (first
    | (go_at_call 7; refine i1.mono ?_; rintro r w1 ⟨rfl, b1⟩; have B1 := hid b1; clear b1)
    | (go_at_call 8; refine (i2 _).mono ?_; rintro r w1' ⟨rfl, h0⟩; have h0 := h0.symm; subst h0)
    | (go_at_call 9; refine (i3 _ B1.out).mono ?_; rintro r w2 ⟨q, q', h, L, F, F', rfl, hL, tt⟩; have B2 := hid (B1.out.trans (tt.bel.mono B1.out.size)); have T2 := hid tt.t; have HL := hid hL; clear hL tt)
    | (go_at_call 10; refine (i4 _ B2.out).mono ?_; rintro r w3 ⟨vl, hs, rfl, ol, HH, hle, _, gl, b3⟩; have B3 := hid (B2.out.trans (b3.mono B2.out.size)); have T3 := hid (T2.out.below b3); obtain ⟨la, lc, hla, _, _⟩ := ol.shape; obtain ⟨x, hx⟩ := (OwnM.atIC (show OwnM 1 w3 (.slice la hs.length lc) hs.length (ivC hs) by { rw [← hla]; exact ol })).pos (by { simp [ix]; exact HH.ne }); subst hx; have i5 := proveC_ok hs HH hs.length (told hs).length rfl rfl T3.out (HZ.out _ B3.out) (fun y hy => by { rw [HL.out]; exact hle y hy }) x lc (OwnM.atIC (show OwnM 1 w3 (.slice (some x) hs.length lc) hs.length (ivC hs) by { rw [← hla]; exact ol })); have OL := hid ol; have HHH := hid HH; have HLE := hid hle; have hms := HH.le; have hm1 := HH.ne; subst hla; clear ol HH hle gl b3)
    | (go_at_call 11; refine i5.mono ?_; rintro r w4 ⟨vH, G, rfl, oH, hvH, rowG, hG, b4⟩; obtain ⟨ha, hc, hha, _, _⟩ := oH.shape; subst hha; have OH := hid oH; have HVH := hid hvH; have HRW := hid rowG; have HG := hid hG; have B4' := hid b4; clear oH hvH rowG hG b4))
  obtain ⟨m, hm⟩ : ∃ m, hs.length = m := ⟨_, rfl⟩
  obtain ⟨k, hk⟩ : ∃ k, (told hs).length = k := ⟨_, rfl⟩
  have HM := hid hm
  have HK := hid hk
  have A0 : Hid (Al (w4.alloc (.cells #[.slice ha hs.length hc, .slice (some ⟨G, 0, none⟩) (told hs).length (told hs).length] 32)) (w4.alloc (.cells #[.slice ha hs.length hc, .slice (some ⟨G, 0, none⟩) (told hs).length (told hs).length] 32)) w4.heap.size G (.slice ha hs.length hc) (.slice (some x) hs.length lc) (.slice none 0 0) hs (pvH L hs) [] hs.length (told hs).length) := by
    have bA := (Below.refl w4.heap.size w4).alloc (Nat.le_refl _) (.cells #[.slice ha hs.length hc, .slice (some ⟨G, 0, none⟩) (told hs).length (told hs).length] 32)
    have zg := HRW.out.lt
    refine ⟨ChI.new w4 _ _, OH.out.below bA, (OL.out.below B4'.out).below bA, HRW.out.below bA zg, OwnM.nil 1 _, (fun i hi => by cases hi), by simp, by rw [size_alloc]; omega, fun i hi => ⟨?_, (HVH.out i hi).2⟩, fun i hi => ⟨?_, ?_⟩, by omega, Nat.le_refl _⟩
    · have := OH.out.lt i hi; rw [size_alloc]; omega
    · have := OL.out.lt i hi; have := B4'.out.size; rw [size_alloc]; omega
    · have := OL.out.lt i hi; have := HG.out; omega
  have B5 : Hid (Below w.heap.size w (w4.alloc (.cells #[.slice ha hs.length hc, .slice (some ⟨G, 0, none⟩) (told hs).length (told hs).length] 32))) := by
    have b := B3.out.trans (B4'.out.mono B3.out.size)
    exact b.alloc b.size _
  have T5 := hid ((T3.out.below B4'.out).below ((Below.refl _ _).alloc (Nat.le_refl _) (.cells #[.slice ha hs.length hc, .slice (some ⟨G, 0, none⟩) (told hs).length (told hs).length] 32)))
  have hL32 := hid T3.out.hs
  have hGw : Hid (w.heap.size ≤ G) := Nat.le_trans B3.out.size HG.out
  rw [hm] at hms hm1 ⊢
  unfold Hid at A0 B5 T5
  rw [hm, hk] at A0 B5 T5
  rw [hk]
  generalize w4.alloc (.cells #[.slice ha m hc, .slice (some ⟨G, 0, none⟩) k k] 32) = w5 at *
  have A0 := hid A0
  have B5 := hid B5
  have T5 := hid T5
  have i6 := hid (fun w' (bb : Below w5.heap.size w5 w') (y : Nat) (hy : y ≤ L.length) => tRoot_any (T5.out.below bb) (y : Int) (HZ.out _ (B5.out.trans (bb.mono B5.out.size))) (tPartO_nat (b := 0) (Nat.zero_le _) hy))
  have lk : k ≤ 2583 := by rw [← hk]; exact tol_few HHH.out (by have := HHH.out.ne; omega)
  clear i1 i2 i3 i4 i5 T2 T3 T5 OL OH HVH HRW HG B1 B2 B3 B4' hk hm
  obtain ⟨c, hcq⟩ : ∃ c, w4.heap.size = c := ⟨_, rfl⟩
  rw [hcq] at A0 ⊢
  clear hcq
  go_loopw [18, 19, 20, 21] (fun vr i _ _ w' => ∃ j : Nat, j ≤ m ∧ i = .int .i64 (j : Int) ∧ Hid (Al w5 w' c G (.slice ha m hc) (.slice (some x) m lc) vr hs (pvH L hs) (rts L hs j) m k) ∧ Hid (Below w5.heap.size w5 w')) (fun _ i _ _ _ => m - (intOf i).toNat)
  case atStart => exact ⟨0, by omega, rfl, A0, Below.refl _ _⟩
  case round =>
    clear A0
    obtain ⟨j, hj, rfl, hAl, hBw⟩ := hrel
    by_cases hjm : j < m
    · have e0 : (j : Int) < (m : Int) := by omega
      have e1 : (0 : Int) ≤ (j : Int) := by omega
      have hjh : j < hs.length := by rw [HM.out]; exact hjm
      obtain ⟨y, hy, _, cl⟩ := (OwnM.atIC hAl.out.ol) j _ (ix_at hjh)
      obtain rfl := Option.some.inj hy
      have i7 := i6.out _ hBw.out (hs.getD j 0) (by rw [HL.out]; exact HLE.out _ (List.mem_of_getElem? (getD_at hjh)))
      have nx := hid (rts_next L hs hjh)
      have rl := hid (rts_len L hs (k := j) (by omega))
      obtain ⟨R, hR⟩ : ∃ R, Tree.root (Til.sg L 0 (hs.getD j 0)) = R := ⟨_, rfl⟩
      unfold Hid at nx
      rw [hR] at i7 nx
      have nx := hid nx
      rw [show sv R = .string ⟨R.toArray⟩ from rfl] at i7
      generalize hs.getD j 0 = hj' at *
      clear hR
      go_wp2_with (first
        | (go_at_call 12; refine i7.mono ?_; rintro r w6 ⟨rfl, b6⟩; have A6 := hid (hAl.out.below b6); obtain ⟨v7, w7, hap, O7, G7⟩ := append_txC w6 _ (rts L hs j) ⟨R.toArray⟩ A6.out.orr (by { rw [rl.out]; omega }); have A7 := hid (A6.out.push O7 G7); have b7 := keep_belowC G7.keep (Nat.le_trans hBw.out.size b6.size) A6.out.gr; have B7 := hid ((hBw.out.trans (b6.mono hBw.out.size)).trans b7); clear b6 O7 G7 b7)
        | (at_builtin; go_must (refine Lib.wpList_append_run _ rfl _ _ 22 22 rfl _ _ rfl rfl _ _ hap ?_)))
      exact ⟨⟨j + 1, by omega, by go_num, (by unfold Hid; rw [nx.out]; exact A7.out), B7⟩, by simp [intOf]; omega⟩
    · obtain rfl : j = m := by omega
      have e0 : ¬ (j : Int) < (j : Int) := by omega
      have rl := rts_len L hs (k := j) (by rw [HM.out]; exact Nat.le_refl _)
      have r32 := rts_32 hL32.out hs j
      have p32 := pvH_32 hL32.out hs
      have pl : (pvH L hs).length = k := by unfold pvH; rw [List.length_map]; exact HK.out
      have BW := hid (B5.out.trans (hBw.out.mono B5.out.size))
      generalize rts L hs j = R0 at *
      generalize pvH L hs = H0 at *
      have hPL := hid pl
      have hP32 := hid p32
      have hR32 := hid r32
      obtain ⟨ra, rc, hra, _, _⟩ := hAl.out.orr.shape
      rw [rl] at hra
      subst hra
      have hRL := hid rl
      have hc1 := hAl.out.ch.c1
      obtain ⟨g, hg⟩ : ∃ g, ra = some ⟨g, 0, none⟩ := by
        have h0 : 0 < R0.length := by rw [rl]; omega
        obtain ⟨g, cap, e, _, _⟩ := hAl.out.orr.cell (j := 0) (u := sv R0[0]) (by unfold svs; rw [List.getElem?_map, List.getElem?_eq_getElem h0]; rfl)
        injection e with e
        exact ⟨g, e⟩
      subst hg
      clear pl p32 r32 rl i6 hBw
      have GW : Hid (w.heap.size ≤ G) := hGw
      have gW : Hid (w.heap.size ≤ g) := by have := hAl.out.gr g rfl; have := B5.out.size; unfold Hid; omega
      go_upto_region 16 with fail
      go_cut [84] from 76 to 84 (fun v w' => ∃ B : Bool, v = .bool B ∧ w' = wr ∧ (B = true → 0 < k))
      case first =>
        by_cases c1 : 0 < k
        · have d1 : (0 : Int) < (k : Int) := by omega
          by_cases c2 : h1.tmod 3 = 0
          · go_wp2
            go_meet
            exact ⟨_, rfl, rfl, fun _ => c1⟩
          · go_wp2
            go_meet
            exact ⟨_, rfl, rfl, fun _ => c1⟩
        · have d1 : ¬ (0 : Int) < (k : Int) := by omega
          go_wp2
          go_meet
          exact ⟨_, rfl, rfl, (fun e => by cases e)⟩
      case rest =>
      obtain ⟨B, rfl, hwc, hBk⟩ := hcut
      have hwc := hwc.symm
      subst hwc
      have j1 := fun w' => hash8_any by_ lby w'
      have l32 := hid (Sha.sha_length by_.data.toList)
      unfold Hid at l32
      generalize Sha.sha by_.data.toList = X at *
      have l32 := hid l32
      rw [show sv X = .string ⟨X.toArray⟩ from rfl] at j1
      go_upto_if 84 with fail
      go_cut [] from 85 to 94 (fun w' => ∃ H' : List (List UInt8), Hid (Al w5 w' c G (.slice ha j hc) (.slice (some x) j lc) (.slice (some ⟨g, 0, none⟩) j rc) hs H' R0 j k) ∧ Hid (H'.length = k) ∧ Hid (∀ x ∈ H', x.length = 32) ∧ Hid (Below w.heap.size w w'))
      case first =>
        cases B
        · go_wp2
          go_meet
          exact ⟨H0, hAl, hPL, hP32, BW⟩
        · have hk0 := hBk rfl
          have q0 := pk_nonneg h1 (k : Int) (by omega)
          have q1 := pk_lt h1 (k : Int) (by omega)
          have j2 := fun w' => pick_any h1 (k : Int) hb1.1 hb1.2 (by omega) (by omega) w'
          obtain ⟨P, hP⟩ : ∃ P : Nat, pk h1 (k : Int) = (P : Int) := ⟨(pk h1 (k : Int)).toNat, by omega⟩
          rw [hP] at j2 q1
          have e2 : (0 : Int) ≤ (P : Int) := by omega
          have hPk : P < k := by omega
          clear hP q0
          have x0 := hc1
          go_wp2
          go_region_held3 (fun w' => w'.cell? ⟨c, 1, none⟩ = some (.slice (some ⟨G, 0, none⟩) k k)) (first | exact x3 | exact x2 | exact x0) (first
            | (go_at_call 8; refine (j2 _).mono ?_; rintro r w6 ⟨rfl, h6⟩; have h6 := h6.symm; subst h6)
            | (go_at_call 13; refine (j1 _).mono ?_; rintro r w7 ⟨rfl, b7⟩; have b7 := drewBelow8 b7; have A7 := hid (hAl.out.below b7); have x2 := A7.out.ch.c1; have f7 := A7.out.row.free (j := P) (by { rw [hPL.out]; exact hPk }); have d7 := A7.out.row.cell (List.getElem?_eq_getElem (show P < H0.length by { rw [hPL.out]; exact hPk })); have A8 := hid (A7.out.setH P X); have x3 := A8.out.ch.c1; rw [show sv X = .string ⟨X.toArray⟩ from rfl] at x3; have B8 := hid (Below.setCell (p := ⟨G, P, none⟩) (BW.out.trans (b7.mono BW.out.size)) GW.out (sv X)); clear b7))
          all_goals
            go_wp2
            go_meet
            exact ⟨H0.set P X, A8, by unfold Hid; rw [List.length_set]; exact hPL.out, set_32 hP32.out l32.out, B8⟩
      case rest =>
      clear hAl hPL hP32 BW hc1 hBk
      obtain ⟨H1, hAl, hPL, hP32, BW⟩ := hcut
      go_upto_if 97 with fail
      go_cut [] from 95 to 105 (fun w' => ∃ R1 : List (List UInt8), Hid (Al w5 w' c G (.slice ha j hc) (.slice (some x) j lc) (.slice (some ⟨g, 0, none⟩) j rc) hs H1 R1 j k) ∧ Hid (R1.length = j) ∧ Hid (∀ x ∈ R1, x.length = 32) ∧ Hid (Below w.heap.size w w'))
      case first =>
        by_cases c3 : rt.tmod 3 = 0
        · go_wp2
          go_meet
          exact ⟨R0, hAl, hRL, hR32, BW⟩
        · have q0 := pk_nonneg rt (j : Int) (by omega)
          have q1 := pk_lt rt (j : Int) (by omega)
          have j2 := fun w' => pick_any rt (j : Int) hb2.1 hb2.2 (by omega) (by omega) w'
          obtain ⟨P, hP⟩ : ∃ P : Nat, pk rt (j : Int) = (P : Int) := ⟨(pk rt (j : Int)).toNat, by omega⟩
          rw [hP] at j2 q1
          have e2 : (0 : Int) ≤ (P : Int) := by omega
          have hPk : P < j := by omega
          clear hP q0
          go_wp2_with (first
            | (go_at_call 8; refine (j2 _).mono ?_; rintro r w6 ⟨rfl, h6⟩; have h6 := h6.symm; subst h6)
            | (go_at_call 13; refine (j1 _).mono ?_; rintro r w7 ⟨rfl, b7⟩; have A7 := hid (hAl.out.below b7); obtain ⟨u7, d7, f7⟩ := own_cellC (show OwnM 1 w7 (.slice (some ⟨g, 0, none⟩) j rc) j (svs R0) by { have := A7.out.orr; rw [hRL.out] at this; exact this }) hPk; have A8 := hid (A7.out.setR hRL.out P (by { rw [hRL.out]; exact hPk }) X); have B8 := hid (Below.setCell (p := ⟨g, P, none⟩) (BW.out.trans (b7.mono BW.out.size)) gW.out (sv X)); clear b7))
          go_meet
          exact ⟨R0.set P X, A8, by unfold Hid; rw [List.length_set]; exact hRL.out, set_32 hR32.out l32.out, B8⟩
      case rest =>
      clear hAl hRL hR32 BW
      obtain ⟨R1, hAl, hRL, hR32, BW⟩ := hcut
      have c0 := hAl.out.ch.c0
      have c1 := hAl.out.ch.c1
      have j3 := expandC_ok hs HHH.out H1 j k HM.out hPL.out HK.out ha (some ⟨G, 0, none⟩) hc k wc (OwnM.atIC hAl.out.oh) (Row.at13 hAl.out.row) (hsB_C hP32.out) (HZ.out _ BW.out).t
      have hexl : Hid ((exL hs H1).length = j - 1) := by unfold Hid; rw [← HM.out]; simp [exL]
      have hfew := hid (exL_few HHH.out H1)
      have hck := hid (show ckO (ix hs) H1 R1 = if ckA hs (exL hs H1) R1 (j - 1) = true then 0 else 132 by
        have he : exE (ix hs) H1 = 0 := by unfold exE; rw [hds_mayB HHH.out, if_pos rfl, ix_toN, hPL.out, HK.out, if_pos ⟨rfl, hsB_C hP32.out⟩]
        have hxl : (ix hs).length = j := by rw [← HM.out]; simp [ix]
        unfold ckO
        rw [if_pos he, ix_toN, hRL.out, hxl, if_pos ⟨rfl, hsB_C hR32.out⟩])
      obtain ⟨M, hMM⟩ : ∃ M, j = M + 1 := ⟨j - 1, by omega⟩
      have HMM := hid hMM
      unfold Hid at hexl hck
      rw [show j - 1 = M by omega] at hexl hck
      have hexl := hid hexl
      have hck := hid hck
      have v1 : IntKind.i64.wrap ((j : Int) - 1) = (M : Int) := by rw [IntKind.wrap_i64]; omega
      generalize exL hs H1 = ps at *
      clear hMM
      go_wp2_with (go_at_call 14; refine j3.mono ?_; rintro r w8 ⟨G2, gs, rfl, rv, gl, ls, _, b8⟩; have A8 := hid (hAl.out.below b8); have B8 := hid (BW.out.trans (b8.mono BW.out.size)); have RV := hid rv; have GL := hid gl; have LS := hid ls; rw [hexl.out]; clear rv gl ls b8)
      clear j1 j3 c0 c1
      go_loopw [24, 25, 26] (fun al i _ w' => ∃ b : Nat, b ≤ M ∧ al = .bool (ckA hs ps R1 b) ∧ i = .int .i64 (b : Int) ∧ Hid (Below w8.heap.size w8 w')) (fun _ i _ _ => M - (intOf i).toNat)
      case atStart => exact ⟨0, by omega, rfl, rfl, Below.refl _ _⟩
      case round =>
        obtain ⟨b, hb, rfl, rfl, hBw⟩ := hrel
        have bww := B8.out.trans (hBw.out.mono B8.out.size)
        have hmm := HMM.out
        by_cases hbM : b < M
        · have e0' : (b : Int) < (M : Int) := by omega
          have hj1 : b + 1 < hs.length := by rw [HM.out]; omega
          have hj0 : b < hs.length := by omega
          have hjp : b < ps.length := by rw [hexl.out]; exact hbM
          obtain ⟨g2, hg1, hg2⟩ := zip_at GL.out hjp
          have hrow := LS.out.row b g2 (ps.getD b []) hg1 (by rw [List.getD_eq_getElem?_getD, List.getElem?_eq_getElem hjp]; rfl)
          have hgw := (LS.out.ge g2 (List.mem_of_getElem? hg1)).2
          have fact : ∀ w', Below w8.heap.size w8 w' → w'.cell? (x.add b) = some (.int .i64 (hs.getD b 0 : Int)) ∧ w'.cell? ⟨x.block, x.off + (b + 1), none⟩ = some (.int .i64 (hs.getD (b + 1) 0 : Int)) ∧ w'.cell? ⟨g, b, none⟩ = some (.string ⟨(R1.getD b []).toArray⟩) ∧ w'.cell? ⟨g, b + 1, none⟩ = some (.string ⟨(R1.getD (b + 1) []).toArray⟩) ∧ w'.cell? ⟨G2, b, none⟩ = some (.slice (some ⟨g2, 0, none⟩) (ps.getD b []).length (ps.getD b []).length) := fun w' hb' => by
            have A9 := A8.out.below hb'
            obtain ⟨a1, h1', _, q1⟩ := (OwnM.atIC A9.ol) b _ (ix_at hj0)
            obtain ⟨a2, h2', _, q2⟩ := (OwnM.atIC A9.ol) (b + 1) _ (ix_at hj1)
            have oR := A9.orr
            rw [hRL.out] at oR
            obtain ⟨a3, h3', _, q3⟩ := atGet (OwnM.atC oR) (i := b) (by rw [hRL.out]; omega)
            obtain ⟨a4, h4', _, q4⟩ := atGet (OwnM.atC oR) (i := b + 1) (by rw [hRL.out]; omega)
            obtain rfl := Option.some.inj h1'
            obtain rfl := Option.some.inj h2'
            obtain rfl := Option.some.inj h3'
            obtain rfl := Option.some.inj h4'
            rw [Addr.add_mid, Nat.zero_add] at q3 q4
            refine ⟨q1, ?_, q3, q4, (RV.out.below hb' RV.out.lt).cell hg2⟩
            rw [← q2]; simp [Addr.add]
          have x0 := fact _ hBw.out
          have HF := hid fact
          have i3 := Consistency_any (hs.getD b 0 : Int) (hs.getD (b + 1) 0 : Int) (R1.getD b []) (R1.getD (b + 1) []) (ps.getD b []) (some ⟨g2, 0, none⟩) (ps.getD b []).length wr.drew (by have := hfew.out b; omega) ((Row.at13 (hrow.below hBw.out hgw)).below (Below.refl _ _).drew (Nat.le_refl _)) (HZ.out _ bww.drew).t
          have hC : ckC hs ps R1 b = conOf4 (hs.getD b 0 : Int) (hs.getD (b + 1) 0 : Int) (R1.getD b []) (R1.getD (b + 1) []) (ps.getD b []) := rfl
          rw [← hC] at i3
          clear hC
          unfold Hid at HF
          rw [show sv (R1.getD b []) = Value.string ⟨(R1.getD b []).toArray⟩ from rfl, show sv (R1.getD (b + 1) []) = Value.string ⟨(R1.getD (b + 1) []).toArray⟩ from rfl] at i3
          have hnx := hid (ckA_next (hs := hs) (ps := ps) (R := R1) (n := b))
          obtain ⟨E', hE'⟩ : ∃ E', ckC hs ps R1 b = E' := ⟨_, rfl⟩
          obtain ⟨Q, hQ⟩ : ∃ Q, ckA hs ps R1 b = Q := ⟨_, rfl⟩
          unfold Hid at hnx
          rw [hQ] at hnx ⊢
          rw [hE'] at i3 hnx
          have hnx := hid hnx
          generalize hs.getD b 0 = y0 at *
          generalize hs.getD (b + 1) 0 = y1 at *
          generalize (⟨(R1.getD b []).toArray⟩ : ByteArray) = sa at *
          generalize (⟨(R1.getD (b + 1) []).toArray⟩ : ByteArray) = sb at *
          generalize (ps.getD b []).length = nl at *
          have HF := hid HF
          have v3 : IntKind.i64.wrap ((b : Int) + 1) = (b : Int) + 1 := by rw [IntKind.wrap_i64]; omega
          have v4 : ((b : Int) + 1).toNat = b + 1 := by omega
          have v5 : (0 : Int) ≤ (b : Int) + 1 := by omega
          have v6 : (b : Int) + 1 < (j : Int) := by omega
          have v7 : (b : Int) < (j : Int) := by omega
          have v8 : (0 : Int) ≤ (b : Int) := by omega
          clear fact hg1 hg2 hrow hE' hQ bww hmm
          go_wp2
          go_region_held3 (fun w' => w'.cell? (x.add b) = some (.int .i64 (y0 : Int)) ∧ w'.cell? ⟨x.block, x.off + (b + 1), none⟩ = some (.int .i64 (y1 : Int)) ∧ w'.cell? ⟨g, b, none⟩ = some (.string sa) ∧ w'.cell? ⟨g, b + 1, none⟩ = some (.string sb) ∧ w'.cell? ⟨G2, b, none⟩ = some (.slice (some ⟨g2, 0, none⟩) nl nl)) (first | exact x1 | exact x0) (first | (go_at_call 15; refine i3.mono ?_; rintro r w9 ⟨rfl, b9⟩; have b9 := drewBelow8 b9; have B9 := hid (hBw.out.trans (b9.mono hBw.out.size)); have x1 := HF.out _ B9.out; clear b9))
          cases Q
          · go_wp2
            exact ⟨⟨b + 1, by omega, by rw [hnx.out]; rfl, by go_num, B9⟩, by simp [intOf]; omega⟩
          · by_cases h0 : E' = 0
            · have q0 : (E' == 0) = true := by simp [h0]
              subst h0
              go_wp2
              exact ⟨⟨b + 1, by omega, by rw [hnx.out]; rfl, by go_num, B9⟩, by simp [intOf]; omega⟩
            · have q0 : (E' == 0) = false := by simpa using h0
              go_wp2
              exact ⟨⟨b + 1, by omega, by rw [hnx.out, decide_eq_false h0]; rfl, by go_num, B9⟩, by simp [intOf]; omega⟩
        · obtain rfl : b = M := by omega
          have e0' : ¬ (b : Int) < (b : Int) := by omega
          have A9 := A8.out.below hBw.out
          have oR := A9.orr
          rw [hRL.out] at oR
          have k4 := checkC_any (ix hs) H1 R1 j k j (show (ix hs).length = j by rw [← HM.out]; simp [ix]) hPL.out hRL.out ha (some ⟨G, 0, none⟩) (some ⟨g, 0, none⟩) hc k rc wr (OwnM.atIC A9.oh) (Row.at13 A9.row) (OwnM.atC oR) (HZ.out _ bww).t (by omega) (by omega) (by omega)
          rw [hck.out] at k4
          have c0 := A9.ch.c0
          have c1 := A9.ch.c1
          have BWW := hid bww
          clear A9 oR bww hmm
          obtain ⟨Q, hQ⟩ : ∃ Q, ckA hs ps R1 b = Q := ⟨_, rfl⟩
          rw [hQ] at k4 ⊢
          clear hQ
          cases Q
          · rw [if_neg (by simp)] at k4
            go_wp2_with (go_at_call 16; refine k4.mono ?_; rintro r w9 ⟨rfl, b9⟩; have B9 := hid (BWW.out.trans (b9.mono BWW.out.size)); clear b9)
            go_ret
            exact ⟨rfl, B9.out⟩
          · rw [if_pos rfl] at k4
            go_wp2_with (go_at_call 16; refine k4.mono ?_; rintro r w9 ⟨rfl, b9⟩; have B9 := hid (BWW.out.trans (b9.mono BWW.out.size)); clear b9)
            go_ret
            exact ⟨rfl, B9.out⟩
end Chn
end Go.Proofs.YtappjeepajjioaaGreatDoor

namespace Go.Proofs.YtappjeepajjioaaGreatDoor
open Go.ChangeShapes Go.WideShapes Go.ChangeAt Go.RowKit
theorem gDB : Tryz.prog.globalNamed "math/bits.deBruijn64tab" = some 1 := by kernel_rfl
theorem gDBType : (Tryz.prog.globals[1]?).map (·.type) = some 174 := by kernel_rfl
theorem cells64b : Tryz.prog.cellsOf 174 = 64 := by kernel_rfl
theorem cells1b : Tryz.prog.cellsOf 5 = 1 := by kernel_rfl
def four : List (String × DataW Unit) := [("math/bits.deBruijn32tab", Rows.laid_math_bits_deBruijn32tab), ("math/bits.deBruijn64tab", Rows.laid_math_bits_deBruijn64tab), ("scrivener/digest.start", Rows.laid_scrivener_digest_start), ("scrivener/digest.rounds", Rows.laid_scrivener_digest_rounds)]
theorem tb_of {W : World} (h : laidMet Tryz.prog four W) : Tb W := by
  have h1 := laidMet.tail h
  have h2 : Lib.TabIs Tryz.prog W "math/bits.deBruijn64tab" .u8 (Lib.deBruijn64tab.map Int.ofNat) :=
    Lib.tabIs_of_head gDB gDBType Tryz.underlying174 Tryz.underlying5 cells1b cells64b (show laidMet Tryz.prog (("math/bits.deBruijn64tab", Lib.tabData .u8 (Lib.deBruijn64tab.map Int.ofNat)) :: _) W from h1)
  refine ⟨tabs_of (laidMet.tail h1), fun j hj => ?_⟩
  have := h2.cell gDB j (by rw [List.length_map]; exact hj)
  rw [this]
  simp [List.getD_eq_getElem?_getD]
  rw [List.getElem?_eq_getElem (show j < Lib.deBruijn64tab.length from hj)]; simp
/-- A WORLD FOR THE WITNESS: all four tables laid. -/
noncomputable def laidWorld5 (os : Os) : World :=
  { laidWorld os with
    heap := ((laidWorld os).heap.modify 0 (fillObj (Lib.deBruijn32tab.map fun n => Value.int .u8 (Int.ofNat n)).toArray)).modify 1 (fillObj (Lib.deBruijn64tab.map fun n => Value.int .u8 (Int.ofNat n)).toArray) }
end Go.Proofs.YtappjeepajjioaaGreatDoor

namespace Go.Proofs.YtappjeepajjioaaGreatDoor
open Go.ChangeShapes Go.WideShapes Go.ChangeAt Go.RowKit
theorem bytesS : Tryz.prog.bytesOf 9 = 16 := by kernel_rfl
set_option maxRecDepth 100000 in
/-- a slice of texts among the arguments, by its weight -/
theorem open_atF {H : Type} {enc : TypeId × Value → H} {W : World} {base : Nat} {v : Value} {d : DataW H} {p : List MemPlace}
    (hval : Value.okWide Tryz.prog W .any base 22 v) (hd : DataW.Trod enc Tryz.prog W 0 (fun _ => true) true 22 v d p) (hk : ∀ x ∈ DataW.weights Tryz.prog 22 d, x ≤ reachBytes) :
    ∃ a l cap, v = .slice a l.length cap ∧ At W a l ∧ l.length ≤ cap ∧ cap ≤ 9223372036854775807 ∧ l.length ≤ 8796093021952 := by
  obtain ⟨a0, len0, cap0, rfl⟩ := okWide_slice Tryz.underlying22 hval
  obtain ⟨fuel, hf⟩ := hd
  rcases open_strings Tryz.underlying22 Tryz.underlying9 cellsS hf with ⟨hcs, hx⟩ | ⟨a, len, cap, ss, hcs, _, hl, hm, hz, hx, hcell, hsz⟩
  · simp [Value.cells] at hcs
    obtain ⟨rfl, rfl, rfl⟩ := hcs
    exact ⟨none, [], 0, rfl, At.nil _ _, by simp, by omega, by simp⟩
  · simp [Value.cells] at hcs
    obtain ⟨rfl, rfl, rfl⟩ := hcs
    simp only [Prod.mk.injEq] at hx
    obtain ⟨rfl, _⟩ := hx
    simp only [if_true] at hz
    have hlen : ((ss.take len0).map (·.data.toList)).length = len0 := by simp; omega
    have hw : cap0 * 16 ≤ reachBytes := by
      refine hk _ ?_
      rw [DataW.weights, Tryz.underlying22]
      simp only [bytesS]
      have e : (strs (H := H) (ss.take len0)).length + (strs (H := H) (ss.drop len0)).length = cap0 := by simp [strs]; omega
      rw [e]
      exact List.mem_cons_self
    have hr : reachBytes = 140737488351232 := rfl
    refine ⟨some a, (ss.take len0).map (·.data.toList), cap0, by rw [hlen], fun j p hp => ?_, by omega, hm, by omega⟩
    rw [List.getElem?_map, Option.map_eq_some_iff] at hp
    obtain ⟨s, hs, rfl⟩ := hp
    rw [List.getElem?_take] at hs
    split at hs
    · have hj := (List.getElem?_eq_some_iff.1 hs).1
      have hc := hcell j hj
      rw [List.getD_eq_getElem?_getD, hs] at hc
      refine ⟨a, rfl, ?_, hc⟩
      have := block_lt_of_cell hc
      rwa [addr_block] at this
    · cases hs
theorem weights_head {H : Type} {P : Program} {t : TypeId} {ts : List TypeId} {d : DataW H} {r : List (DataW H)} (h : (DataW.weightsEach P (t :: ts) (d :: r)).all (· ≤ reachBytes) = true) : ∀ x ∈ DataW.weights P t d, x ≤ reachBytes := fun x hx => by
  have := List.all_eq_true.1 h x (by rw [DataW.weightsEach]; exact List.mem_append_left _ hx)
  simpa using this
theorem weights_mem {H : Type} {P : Program} {e : TypeId} {d : DataW H} {x : Nat} : ∀ {l : List (DataW H)}, d ∈ l → x ∈ DataW.weights P e d → x ∈ DataW.weightsAll P e l
  | [], h, _ => by cases h
  | f :: r, h, hx => by
    rw [DataW.weightsAll]
    rcases List.mem_cons.1 h with rfl | h
    · exact List.mem_append_left _ hx
    · exact List.mem_append_right _ (weights_mem h hx)
theorem weights_tail {H : Type} {P : Program} {t : TypeId} {ts : List TypeId} {d : DataW H} {r : List (DataW H)} (h : (DataW.weightsEach P (t :: ts) (d :: r)).all (· ≤ reachBytes) = true) : (DataW.weightsEach P ts r).all (· ≤ reachBytes) = true := by
  rw [List.all_eq_true] at h ⊢
  exact fun x hx => h x (by rw [DataW.weightsEach]; exact List.mem_append_right _ hx)
set_option maxRecDepth 100000 in
/-- a slice of texts among the arguments, by its weight, and by its texts' -/
theorem open_atG {H : Type} {enc : TypeId × Value → H} {W : World} {base : Nat} {v : Value} {d : DataW H} {p : List MemPlace}
    (hval : Value.okWide Tryz.prog W .any base 22 v) (hd : DataW.Trod enc Tryz.prog W 0 (fun _ => true) true 22 v d p) (hk : ∀ x ∈ DataW.weights Tryz.prog 22 d, x ≤ reachBytes) :
    ∃ a l cap, v = .slice a l.length cap ∧ At W a l ∧ l.length ≤ cap ∧ cap ≤ 9223372036854775807 ∧ l.length ≤ 8796093021952 ∧ ∀ q ∈ l, q.length ≤ 140737488351232 := by
  obtain ⟨a0, len0, cap0, rfl⟩ := okWide_slice Tryz.underlying22 hval
  obtain ⟨fuel, hf⟩ := hd
  rcases open_strings Tryz.underlying22 Tryz.underlying9 cellsS hf with ⟨hcs, hx⟩ | ⟨a, len, cap, ss, hcs, _, hl, hm, hz, hx, hcell, hsz⟩
  · simp [Value.cells] at hcs
    obtain ⟨rfl, rfl, rfl⟩ := hcs
    exact ⟨none, [], 0, rfl, At.nil _ _, by simp, by omega, by simp, by simp⟩
  · simp [Value.cells] at hcs
    obtain ⟨rfl, rfl, rfl⟩ := hcs
    simp only [Prod.mk.injEq] at hx
    obtain ⟨rfl, _⟩ := hx
    simp only [if_true] at hz
    have hlen : ((ss.take len0).map (·.data.toList)).length = len0 := by simp; omega
    have hr : reachBytes = 140737488351232 := rfl
    have hw : cap0 * 16 ≤ reachBytes := by
      refine hk _ ?_
      rw [DataW.weights, Tryz.underlying22]
      simp only [bytesS]
      have e : (strs (H := H) (ss.take len0)).length + (strs (H := H) (ss.drop len0)).length = cap0 := by simp [strs]; omega
      rw [e]
      exact List.mem_cons_self
    have hq : ∀ s ∈ ss.take len0, s.data.toList.length ≤ reachBytes := fun s hs => by
      refine hk _ ?_
      rw [DataW.weights, Tryz.underlying22]
      refine List.mem_cons_of_mem _ (List.mem_append_left _ (weights_mem (d := .lit (.string s.data.toList)) ?_ ?_))
      · unfold strs
        exact List.mem_map.2 ⟨s, hs, rfl⟩
      · simp [DataW.weights]
    refine ⟨some a, (ss.take len0).map (·.data.toList), cap0, by rw [hlen], fun j p hp => ?_, by omega, hm, by omega, fun q hq' => ?_⟩
    rotate_left
    · obtain ⟨s, hs, rfl⟩ := List.mem_map.1 hq'
      have := hq s hs
      omega
    rw [List.getElem?_map, Option.map_eq_some_iff] at hp
    obtain ⟨s, hs, rfl⟩ := hp
    rw [List.getElem?_take] at hs
    split at hs
    · have hj := (List.getElem?_eq_some_iff.1 hs).1
      have hc := hcell j hj
      rw [List.getD_eq_getElem?_getD, hs] at hc
      refine ⟨a, rfl, ?_, hc⟩
      have := block_lt_of_cell hc
      rwa [addr_block] at this
    · cases hs
set_option maxRecDepth 100000 in
/-- a text among the arguments, by its weight -/
theorem open_strG {H : Type} {enc : TypeId × Value → H} {W : World} {base : Nat} {v : Value} {d : DataW H} {p : List MemPlace}
    (hval : Value.okWide Tryz.prog W .any base 9 v) (hd : DataW.Trod enc Tryz.prog W 0 (fun _ => true) true 9 v d p) (hk : ∀ x ∈ DataW.weights Tryz.prog 9 d, x ≤ reachBytes) :
    ∃ s : List UInt8, v = sv s ∧ s.length ≤ 140737488351232 := by
  obtain ⟨s0, rfl, rfl, rfl, hs0⟩ := ChangeMaps.open_string Tryz.underlying9 hval hd
  have hr : reachBytes = 140737488351232 := rfl
  have := hk s0.data.toList.length (by simp [DataW.weights])
  exact ⟨s0.data.toList, sv_eta s0, by omega⟩
end Go.Proofs.YtappjeepajjioaaGreatDoor

namespace Go.Proofs.YtappjeepajjioaaGreatDoor
open Go.ChangeShapes Go.WideShapes Go.ChangeAt Go.RowKit
theorem bytesI : Tryz.prog.bytesOf 3 = 8 := by kernel_rfl
set_option maxRecDepth 100000 in
/-- a slice of whole numbers among the arguments, by its weight -/
theorem open_atIF {H : Type} {enc : TypeId × Value → H} {W : World} {base : Nat} {v : Value} {d : DataW H} {p : List MemPlace}
    (hval : Value.okWide Tryz.prog W .any base 23 v) (hd : DataW.Trod enc Tryz.prog W 0 (fun _ => true) true 23 v d p) (hk : ∀ x ∈ DataW.weights Tryz.prog 23 d, x ≤ reachBytes) :
    ∃ a l cap, v = .slice a l.length cap ∧ AtI W a l ∧ l.length ≤ cap ∧ cap ≤ 9223372036854775807 ∧ l.length ≤ 17592186043904 ∧ ∀ c ∈ l, -9223372036854775808 ≤ c ∧ c ≤ 9223372036854775807 := by
  obtain ⟨a0, len0, cap0, rfl⟩ := okWide_slice Tryz.underlying23 hval
  obtain ⟨fuel, hf⟩ := hd
  rcases open_ints Tryz.underlying23 Tryz.underlying3 cellsI hf with ⟨hcs, hx⟩ | ⟨a, len, cap, zs, hcs, _, hl, hm, hz, hx, hcell, hwf⟩
  · simp [Value.cells] at hcs
    obtain ⟨rfl, rfl, rfl⟩ := hcs
    exact ⟨none, [], 0, rfl, fun j p hp => by simp at hp, by simp, by omega, by simp, fun c hc => by simp at hc⟩
  · simp [Value.cells] at hcs
    obtain ⟨rfl, rfl, rfl⟩ := hcs
    simp only [Prod.mk.injEq] at hx
    obtain ⟨rfl, _⟩ := hx
    simp only [if_true] at hz
    have hlen : (zs.take len0).length = len0 := by simp; omega
    have hw : cap0 * 8 ≤ reachBytes := by
      refine hk _ ?_
      rw [DataW.weights, Tryz.underlying23]
      simp only [bytesI]
      have e : (lits (H := H) .i64 (zs.take len0)).length + (lits (H := H) .i64 (zs.drop len0)).length = cap0 := by simp [lits]; omega
      rw [e]
      exact List.mem_cons_self
    have hr : reachBytes = 140737488351232 := rfl
    refine ⟨some a, zs.take len0, cap0, by rw [hlen], fun j c hc => ?_, by omega, hm, by omega, fun c hc => wf_i64 (hwf c (List.mem_of_mem_take hc))⟩
    rw [List.getElem?_take] at hc
    split at hc
    · have hj := (List.getElem?_eq_some_iff.1 hc).1
      have hc' := hcell j hj
      rw [List.getD_eq_getElem?_getD, hc] at hc'
      refine ⟨a, rfl, ?_, hc'⟩
      have := block_lt_of_cell hc'
      rwa [addr_block] at this
    · cases hc
end Go.Proofs.YtappjeepajjioaaGreatDoor

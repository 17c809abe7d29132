import Derived.Test.YtenklmjeeejfdaaGreatDoorPkCR7
import Derived.Test.YtenklmjeeejfdaaGreatDoorPkTL12
import Derived.Test.YtenklmjeeejfdaaGreatDoorPkI10
/- Layer 13, the law: the book's lists -/
namespace Go.Proofs.YtenklmjeeejfdaaGreatDoor
open Go.RowKit Go.Shelf
namespace Chn
namespace Gb
theorem stays_trans {w w1 w2 : World} {ρ ρ1 ρ2 : Nat → Nat} (s : Stays w w1 ρ ρ1) (t : Stays w1 w2 ρ1 ρ2) : Stays w w2 ρ ρ2 :=
  ⟨fun k hk => (t.1 k (Nat.lt_of_lt_of_le hk s.2.1)).trans (s.1 k hk), Nat.le_trans s.2.1 t.2.1, fun k hk hr => (t.2.2 k (Nat.lt_of_lt_of_le hk s.2.1) (by rw [s.1 k hk]; exact hr)).trans (s.2.2 k hk hr)⟩
theorem stays_refl (w : World) (ρ : Nat → Nat) : Stays w w ρ ρ := ⟨fun _ _ => rfl, Nat.le_refl _, fun _ _ _ => rfl⟩
def Bl (B0 X : Nat) (m : World) (vi vj : Value) (hI wI : List Value) (WI : List (List Value)) (w0 : World) (ρ0 : Nat → Nat) (WT : List (List Value)) (w : World) : Prop := ∃ ρ vh vw hT wT, Bd B0 X m ρ w vh vw vi vj hT wT hI wI WT WI ∧ Stays w0 w ρ0 ρ
set_option maxRecDepth 100000 in
set_option maxHeartbeats 4000000 in
theorem lists13_book {B0 X : Nat} {m w : World} {ρ : Nat → Nat} {vh vw vi vj : Value} {hT wT hI wI : List Value} {WT WI : List (List Value)} (d : Bd B0 X m ρ w vh vw vi vj hT wT hI wI WT WI) {v u : Value} {vs us : List Value} {ps : List (List (List UInt8))} {r r' : Nat} (x : Lx w ρ v vs ps r (fun k => 3 + WT.length + k)) (y : Lx w ρ u us ps r' (fun _ => 0)) (hr : Kr r) (hr' : Kr r') (hc : WT.length + ps.length ≤ 890) :
    Calls Tryz.prog 29 #[.pointer (some ⟨X, 0, none⟩), v, u] w fun e w' => e = .returned (.tuple #[]) ∧ Bl B0 X m vi vj hI wI WI w ρ (WT ++ ps.map svs) w' := by
  obtain ⟨a, c, e⟩ := x.shape
  obtain ⟨a', c', e'⟩ := y.shape
  subst e
  subst e'
  have HX := hid x
  have HY := hid y
  have HR := hid hr
  have HR' := hid hr'
  have kR : Hid (∀ k, k < ps.length → Kr (3 + WT.length + k)) := fun k hk => .inr (.inl (by omega))
  have kZ : Hid (∀ k, k < ps.length → Kr 0) := fun k hk => .inl rfl
  have D0 : Hid (Bl B0 X m vi vj hI wI WI w ρ (WT ++ (ps.take 0).map svs) w) := ⟨ρ, vh, vw, hT, wT, by rw [List.take_zero, List.map_nil, List.append_nil]; exact d, stays_refl _ _⟩
  obtain ⟨n, hn⟩ : ∃ n, ps.length = n := ⟨_, rfl⟩
  have HN := hid hn
  rw [hn] at hc ⊢
  clear x y d hr hr' hn
  go_enter Tryz.func29, Tryz.ntmps29
  go_wp2
  go_loopw [6] (fun i w' => ∃ j : Nat, j ≤ n ∧ i = .int .i64 (j : Int) ∧ Hid (Bl B0 X m vi vj hI wI WI w ρ (WT ++ (ps.take j).map svs) w')) (fun i _ => n - (intOf i).toNat)
  case atStart => exact ⟨0, by omega, rfl, D0⟩
  case round =>
    clear D0
    obtain ⟨j, hj, rfl, hD⟩ := hrel
    by_cases hjn : j < n
    · have b0 : (j : Int) < (n : Int) := by omega
      have j0 : (0 : Int) ≤ (j : Int) := by omega
      have hjp : j < ps.length := by rw [HN.out]; exact hjn
      obtain ⟨ρ1, vh1, vw1, hT1, wT1, d1, s1⟩ := hD.out
      have x1 := HX.out.stay s1 HR.out kR.out
      have y1 := HY.out.stay s1 HR'.out kZ.out
      obtain ⟨G, G1, vx, p, eG, hG, hcG, hp, ox, bx⟩ := x1.at hjp
      obtain ⟨K, K1, vy, p', eK, hK, hcK, hp', oy, by'⟩ := y1.at hjp
      rw [hp] at hp'
      obtain rfl := Option.some.inj hp'
      injection eG with eG _ eGc
      injection eK with eK _ eKc
      clear eGc eKc
      subst eG
      subst eK
      have hlen : (WT ++ (ps.take j).map svs).length = WT.length + j := by rw [List.length_append, List.length_map, List.length_take]; omega
      have hb := (Below.refl wr.heap.size wr).drew
      have ic := texts13_book (d1.below hb ρ1 (fun _ _ => rfl)) (by rw [hlen]; omega) (svs p) vx vy (by rw [svs_length]; exact ox.below hb) (fun k hk => by rw [bx k hk, hlen, Nat.add_assoc]) (by rw [svs_length]; exact oy.below hb) by'
      have hst : WT ++ (ps.take j).map svs ++ [svs p] = WT ++ (ps.take (j + 1)).map svs := by rw [List.take_add_one, hp, List.map_append, List.append_assoc]; rfl
      rw [hst] at ic
      have S1 := hid s1
      have hx0 : x1.own.lt = x1.own.lt := rfl
      have HG : Hid (∀ (w' : World) (ρ' : Nat → Nat), Stays wr.drew w' ρ1 ρ' → w'.cell? ⟨G, j, none⟩ = some vx ∧ w'.cell? ⟨K, j, none⟩ = some vy) := fun w' ρ' s => by
        have xb : ρ1 G = r := x1.r0 G rfl
        have yb : ρ1 K = r' := y1.r0 K rfl
        exact ⟨(World.cell?_of_block (a := ⟨G, j, none⟩) (s.2.2 G hG (by rw [xb]; exact HR.out))).trans hcG, (World.cell?_of_block (a := ⟨K, j, none⟩) (s.2.2 K hK (by rw [yb]; exact HR'.out))).trans hcK⟩
      have x0 := And.intro hcG hcK
      clear hcG hcK hp ox oy bx by' hst hlen d1 s1 x1 y1 hb hjp hx0
      go_wp2
      go_region_held3 (fun w' => w'.cell? ⟨G, j, none⟩ = some vx ∧ w'.cell? ⟨K, j, none⟩ = some vy) (first | exact x2 | exact x0) (first | (go_at_call 52; refine ic.mono ?_; rintro r w2 ⟨rfl, ρ2, vh2, vw2, d2, s2⟩; have x2 := HG.out _ _ s2; have D2 : Hid (Bl B0 X m vi vj hI wI WI w ρ (WT ++ (ps.take (j + 1)).map svs) w2) := ⟨ρ2, vh2, vw2, _, _, d2, stays_trans S1.out s2⟩))
      clear x0 x2 HG ic d2 s2 hD
      go_wp2
      exact ⟨⟨j + 1, by omega, by go_num, D2⟩, by simp [intOf]; omega⟩
    · obtain rfl : j = n := by omega
      have b0 : ¬ (j : Int) < (j : Int) := by omega
      have hD' := hD.out
      rw [← HN.out, List.take_length] at hD'
      go_wp2
      go_end0
      exact ⟨rfl, hD'⟩
end Gb
end Chn
end Go.Proofs.YtenklmjeeejfdaaGreatDoor

/- Layer 13, the law: marks up to 65535; the cells of a book of texts alone (written by genCG7.py) -/
namespace Go.Proofs.YtenklmjeeejfdaaGreatDoor
open Go.RowKit Go.Shelf
namespace Chn
namespace Gb
def mrkU (i : Nat) : List UInt8 := [109, 97, 114, 107, UInt8.ofNat (i % 256), UInt8.ofNat (i / 256), 0]
theorem conv_threeU (x y : Nat) (hx : x < 256) (hy : y < 256) (w : World) : (convert 66 9 (.slice (some ⟨w.heap.size, 0, none⟩) 3 3)).run Tryz.prog (w.alloc (.cells #[.int .u8 (x : Int), .int .u8 (y : Int), .int .u8 0] 5)) = .ok (sv [UInt8.ofNat x, UInt8.ofNat y, 0]) (w.alloc (.cells #[.int .u8 (x : Int), .int .u8 (y : Int), .int .u8 0] 5)) := by
  refine run_conv_bytes (P := Tryz.prog) _ 66 9 5 w.heap.size 0 3 3 [UInt8.ofNat x, UInt8.ofNat y, 0] rfl Tryz.underlying66 Tryz.underlying5 Tryz.underlying9 ?_
  intro j v hv
  have hX := heap_alloc_new w (.cells #[.int .u8 (x : Int), .int .u8 (y : Int), .int .u8 0] 5)
  match j, hv with
  | 0, hv =>
    have e : v = .int .u8 (x : Int) := by
      simp [bv] at hv
      rw [← hv]; congr 1; omega
    rw [e, cell_of_row _ _ _ _ _ _ hX]; rfl
  | 1, hv =>
    have e : v = .int .u8 (y : Int) := by
      simp [bv] at hv
      rw [← hv]; congr 1; omega
    rw [e, cell_of_row _ _ _ _ _ _ hX]; rfl
  | 2, hv =>
    have e : v = .int .u8 0 := by simp [bv] at hv; rw [← hv]
    rw [e, cell_of_row _ _ _ _ _ _ hX]; rfl
  | j + 3, hv => simp [bv] at hv
set_option maxRecDepth 100000 in
set_option maxHeartbeats 800000 in
theorem markU13_any (n : Nat) (hn : n ≤ 65535) (w : World) :
    Calls Tryz.prog 39 #[.int .i64 n] w fun e w' => e = .returned (sv (mrkU n)) ∧ Below w.heap.size w w' := by
  have key : Calls Tryz.prog 39 #[.int .i64 n] w fun e w' => ∃ m : ByteArray, e = .returned (.string m) ∧ m.data.toList = mrkU n ∧ Below w.heap.size w w' := by
    have hcv := conv_threeU (n % 256) (n / 256) (by omega) (by omega) w
    have e0 : (n : Int) % 256 = ((n % 256 : Nat) : Int) := by omega
    have e1 : (n : Int) / 256 = ((n / 256 : Nat) : Int) := by omega
    have e2 : ((n / 256 : Nat) : Int) % 256 = ((n / 256 : Nat) : Int) := by omega
    have e3 : (n : Int) / 65536 = 0 := by omega
    have hm : mrkU n = [109, 97, 114, 107, UInt8.ofNat (n % 256), UInt8.ofNat (n / 256), 0] := rfl
    rw [hm]
    clear hm
    generalize n % 256 = x at *
    generalize n / 256 = y at *
    rw [svS] at hcv
    go_enter Tryz.func39, Tryz.ntmps39
    go_wp2
    go_ret
    exact ⟨_, rfl, by simp [ByteArray.data_append], (Below.refl _ _).alloc (Nat.le_refl _) _⟩
  refine key.mono ?_
  rintro e w' ⟨m, rfl, hm, hb⟩
  refine ⟨?_, hb⟩
  rw [← hm]
  cases m
  rfl
def mkU (i : Nat) : Value := sv (mrkU i)
def fN (gh kH gw kW cT : Nat) (vl : Value) : Array Value := #[.slice (some ⟨gh, 0, none⟩) cT kH, .slice (some ⟨gw, 0, none⟩) cT kW, vl, .slice none 0 0, .slice none 0 0, .slice none 0 0, .slice none 0 0, .slice none 0 0, .slice none 0 0]
theorem fN_set (gh kH gw kW cT : Nat) : ∀ v v', (fN gh kH gw kW cT v).setIfInBounds 2 v' = fN gh kH gw kW cT v' := fun _ _ => rfl
structure Cn (w : World) (X gh kH gw kW cT : Nat) (vl : Value) : Prop where
  row : w.heap[X]? = some (.cells (fN gh kH gw kW cT vl) 32 (0, 0))
theorem Cn.all {w : World} {X gh kH gw kW cT : Nat} {vl : Value} (h : Cn w X gh kH gw kW cT vl) :
    w.cell? ⟨X, 0, none⟩ = some (.slice (some ⟨gh, 0, none⟩) cT kH) ∧ w.cell? ⟨X, 1, none⟩ = some (.slice (some ⟨gw, 0, none⟩) cT kW) ∧ w.cell? ⟨X, 2, none⟩ = some vl ∧ w.cell? ⟨X, 3, none⟩ = some (.slice none 0 0) ∧ w.cell? ⟨X, 5, none⟩ = some (.slice none 0 0) ∧ w.cell? ⟨X, 6, none⟩ = some (.slice none 0 0) ∧ w.cell? ⟨X, 7, none⟩ = some (.slice none 0 0) ∧ w.cell? ⟨X, 8, none⟩ = some (.slice none 0 0) ∧ w.frozen? ⟨X, 2, none⟩ = false :=
  ⟨by rw [cell_of_row _ _ _ _ _ _ h.row]; rfl, by rw [cell_of_row _ _ _ _ _ _ h.row]; rfl, by rw [cell_of_row _ _ _ _ _ _ h.row]; rfl, by rw [cell_of_row _ _ _ _ _ _ h.row]; rfl, by rw [cell_of_row _ _ _ _ _ _ h.row]; rfl, by rw [cell_of_row _ _ _ _ _ _ h.row]; rfl, by rw [cell_of_row _ _ _ _ _ _ h.row]; rfl, by rw [cell_of_row _ _ _ _ _ _ h.row]; rfl, frozen_of_row _ _ _ _ _ h.row⟩
theorem append_mkU (w : World) (v : Value) (n i : Nat) (h : OwnM 1 w v n (List.replicate n (mkU i))) (hl : n ≤ 2000000000000) :
    ∃ v' w', (Builtin.append_ #[23, 23] 23 #[v, .slice (some ⟨w.heap.size, 0, none⟩) 1 1]).run Tryz.prog (w.alloc (.cells #[mkU i] 9)) = .ok v' w' ∧ OwnM 1 w' v' (n + 1) (List.replicate (n + 1) (mkU i)) ∧ Grow w w' v v' := by
  obtain ⟨v', w', h1, h2, h3⟩ := append_oneL 23 9 _ 16 Tryz.underlying23 infoS rfl w v n (List.replicate n (mkU i)) [mkU i] rfl (fun u hu => by
    simp only [List.mem_cons, List.not_mem_nil, or_false] at hu
    subst hu; rfl) h (by omega) (by rw [maxLen]; omega)
  exact ⟨v', w', h1, by rw [List.replicate_succ']; exact h2, h3⟩
end Gb
end Chn
end Go.Proofs.YtenklmjeeejfdaaGreatDoor

/- Layer 13, the law: hashes -/
namespace Go.Proofs.YtenklmjeeejfdaaGreatDoor
open Go.RowKit Go.Shelf
namespace Chn
theorem conv_twoU (x y : Nat) (hx : x < 256) (hy : y < 256) (w : World) : (convert 66 9 (.slice (some ⟨w.heap.size, 0, none⟩) 2 2)).run Tryz.prog (w.alloc (.cells #[.int .u8 (x : Int), .int .u8 (y : Int)] 5)) = .ok (sv [UInt8.ofNat x, UInt8.ofNat y]) (w.alloc (.cells #[.int .u8 (x : Int), .int .u8 (y : Int)] 5)) := by
  refine run_conv_bytes (P := Tryz.prog) _ 66 9 5 w.heap.size 0 2 2 [UInt8.ofNat x, UInt8.ofNat y] rfl Tryz.underlying66 Tryz.underlying5 Tryz.underlying9 ?_
  intro j v hv
  have hX := heap_alloc_new w (.cells #[.int .u8 (x : Int), .int .u8 (y : Int)] 5)
  match j, hv with
  | 0, hv =>
    have e : v = .int .u8 (x : Int) := by
      simp [bv] at hv
      rw [← hv]; congr 1; omega
    rw [e, cell_of_row _ _ _ _ _ _ hX]; rfl
  | 1, hv =>
    have e : v = .int .u8 (y : Int) := by
      simp [bv] at hv
      rw [← hv]; congr 1; omega
    rw [e, cell_of_row _ _ _ _ _ _ hX]; rfl
  | j + 2, hv => simp [bv] at hv
set_option maxRecDepth 100000 in
set_option maxHeartbeats 4000000 in
theorem hashes13_any (l : List (List UInt8)) (m n : Nat) (hm : Hid (l.length = m)) (hs : ∀ x ∈ l, x.length ≤ 140737488355000) (a : Option Addr) (cap : Nat) (w : World) (hA : At w a l) (lm : m ≤ 9223372036854775807) (ln : n ≤ 60000) :
    Calls Tryz.prog 9 #[.slice a m cap, .int .i64 (n : Int)] w fun r w' => ∃ v L, r = .returned v ∧ L.length = n ∧ (∀ x ∈ L, x.length = 32) ∧ Own w' w.heap.size v (svs L) ∧ Below w.heap.size w w' := by
  have HA := hid hA
  have HS := hid hs
  clear hA hs
  go_enter Tryz.func9, Tryz.ntmps9
  go_wp2
  go_loopw [5, 6, 7] (fun v i _ w' => ∃ (j : Nat) (L : List (List UInt8)), j ≤ n ∧ i = .int .i64 (j : Int) ∧ Hid (L.length = j ∧ ∀ x ∈ L, x.length = 32) ∧ Hid (Own w' w.heap.size v (svs L)) ∧ Hid (Below w.heap.size w w')) (fun _ i _ _ => n - (intOf i).toNat)
  case atStart => exact ⟨0, [], by omega, rfl, ⟨rfl, fun x hx => by cases hx⟩, Own.nil _ _, Below.refl _ _⟩
  case round =>
    obtain ⟨j, L, hj, rfl, hL, hO, hB⟩ := hrel
    by_cases hjn : j < n
    · have b0 : (j : Int) < (n : Int) := by omega
      have j0 : (0 : Int) ≤ (j : Int) := by omega
      have hcv := conv_twoU (j % 256) (j / 256) (by omega) (by omega) wr
      have e0 : (j : Int) % 256 = ((j % 256 : Nat) : Int) := by omega
      have e1 : (j : Int) / 256 = ((j / 256 : Nat) : Int) := by omega
      have e2 : ((j / 256 : Nat) : Int) % 256 = ((j / 256 : Nat) : Int) := by omega
      generalize j % 256 = x at *
      generalize j / 256 = y at *
      obtain ⟨M, hM, hMs⟩ : ∃ M : ByteArray, sv [UInt8.ofNat x, UInt8.ofNat y] = .string M ∧ M.size = 2 := ⟨_, rfl, rfl⟩
      rw [hM] at hcv
      clear hM
      have bA := (Below.refl wr.heap.size wr).alloc (Nat.le_refl _) (.cells #[.int .u8 (x : Int), .int .u8 (y : Int)] 5)
      obtain ⟨w1, hw1⟩ : ∃ w1, wr.alloc (.cells #[.int .u8 (x : Int), .int .u8 (y : Int)] 5) = w1 := ⟨_, rfl⟩
      rw [hw1] at bA
      have BA := hid (hB.out.trans (bA.mono hB.out.size))
      have OA := hid (hO.out.below bA (Nat.le_refl _))
      have hlen : L.length ≤ 2000000 := by rw [hL.out.1]; omega
      have HW1 := hid hw1
      clear bA hw1 hB
      have fin : ∀ (s : List UInt8) (w2 : World), Below w1.heap.size w1 w2 → ∃ v' w3, (Builtin.append_ #[23, 23] 23 #[u5, .slice (some ⟨w2.heap.size, 0, none⟩) 1 1]).run Tryz.prog (w2.alloc (.cells #[.string ⟨(Sha.sha s).toArray⟩] 9)) = .ok v' w3 ∧ Hid ((L ++ [Sha.sha s]).length = j + 1 ∧ ∀ x ∈ L ++ [Sha.sha s], x.length = 32) ∧ Hid (Own w3 w.heap.size v' (svs (L ++ [Sha.sha s]))) ∧ Hid (Below w.heap.size w w3) := fun s w2 b2 => by
        have B2 := BA.out.trans (b2.mono BA.out.size)
        obtain ⟨v', w3, h1, h2, h3⟩ := append_text w2 w.heap.size u5 L (Sha.sha s) (OA.out.below b2 (Nat.le_refl _)) hlen B2.size
        refine ⟨v', w3, h1, ⟨by rw [List.length_append, hL.out.1]; rfl, fun x hx => ?_⟩, h2, B2.trans h3⟩
        rcases List.mem_append.1 hx with e | e
        · exact hL.out.2 x e
        · rw [List.mem_singleton.1 e]; exact Sha.sha_length _
      have HFIN := hid fin
      clear fin hO
      by_cases hjm : j < m
      · have b1 : (j : Int) < (m : Int) := by omega
        obtain ⟨s, hs'⟩ : ∃ s, l[j]? = some s := ⟨_, List.getElem?_eq_getElem (by rw [hm.out]; exact hjm)⟩
        obtain ⟨z, rfl, hz, hc⟩ := HA.out j s hs'
        have c1 := (BA.out.cell (p := z.add j) (by rw [addr_block]; exact hz)).trans hc
        have iH := hid fun w' => hash8_any ⟨s.toArray⟩ (by rw [sv_size]; exact HS.out s (List.mem_of_getElem? hs')) w'
        rw [show sv s = Value.string ⟨s.toArray⟩ from rfl, ← HW1.out] at c1
        unfold Hid at iH
        rw [show ((⟨s.toArray⟩ : ByteArray).data.toList) = s from rfl, show sv (Sha.sha s) = Value.string ⟨(Sha.sha s).toArray⟩ from rfl] at iH
        have iH := hid iH
        clear hs' hc hz hL hlen BA OA
        go_wp2_with (go_at_call 14; fail)
        refine (iH.out _).mono ?_
        rintro r w2 ⟨rfl, b2⟩
        obtain ⟨v', w3, hap, L3, O3, B3⟩ := HFIN.out s w2 (by rw [HW1.out] at b2; exact b2)
        clear b2 iH HFIN hcv c1
        obtain ⟨a3, c3, hv3⟩ := Own.shape O3.out
        obtain ⟨nn, hnn⟩ : ∃ nn, (svs (L ++ [Sha.sha s])).length = nn := ⟨_, rfl⟩
        rw [hnn] at hv3
        subst hv3
        go_wp2_with (at_builtin; go_must (refine Lib.wpList_append_run _ rfl _ _ 23 23 rfl _ _ rfl rfl _ _ hap ?_))
        exact ⟨⟨j + 1, _, by omega, by go_num, L3, O3, B3⟩, by simp [intOf]; omega⟩
      · have b1 : ¬ (j : Int) < (m : Int) := by omega
        have iH := hid fun w' => hash8_any ((⟨#[110, 111, 110, 101]⟩ : ByteArray) ++ M) (by rw [ByteArray.size_append, hMs, show (⟨#[110, 111, 110, 101]⟩ : ByteArray).size = 4 from rfl]; omega) w'
        obtain ⟨s, hs'⟩ : ∃ s, ((⟨#[110, 111, 110, 101]⟩ : ByteArray) ++ M).data.toList = s := ⟨_, rfl⟩
        unfold Hid at iH
        rw [hs', show sv (Sha.sha s) = Value.string ⟨(Sha.sha s).toArray⟩ from rfl] at iH
        have iH := hid iH
        clear hs' hL hlen BA OA
        go_wp2_with (go_at_call 14; fail)
        refine (iH.out _).mono ?_
        rintro r w2 ⟨rfl, b2⟩
        obtain ⟨v', w3, hap, L3, O3, B3⟩ := HFIN.out s w2 (by rw [HW1.out] at b2; exact b2)
        clear b2 iH HFIN hcv
        obtain ⟨a3, c3, hv3⟩ := Own.shape O3.out
        obtain ⟨nn, hnn⟩ : ∃ nn, (svs (L ++ [Sha.sha s])).length = nn := ⟨_, rfl⟩
        rw [hnn] at hv3
        subst hv3
        go_wp2_with (at_builtin; go_must (refine Lib.wpList_append_run _ rfl _ _ 23 23 rfl _ _ rfl rfl _ _ hap ?_))
        exact ⟨⟨j + 1, _, by omega, by go_num, L3, O3, B3⟩, by simp [intOf]; omega⟩
    · obtain rfl : j = n := by omega
      have b0 : ¬ (j : Int) < (j : Int) := by omega
      go_wp2
      go_ret
      exact ⟨_, rfl, L, hL.out.1, hL.out.2, hO.out, hB.out⟩
end Chn
end Go.Proofs.YtenklmjeeejfdaaGreatDoor

/- Layer 13, the law: what expands has about it while it runs -/
namespace Go.Proofs.YtenklmjeeejfdaaGreatDoor
open Go.RowKit Go.Shelf
namespace Chn
namespace Gb
def AtK (w : World) (ρ : Nat → Nat) (a : Option Addr) (l : List (List UInt8)) : Prop := ∀ j p, l[j]? = some p → ∃ x : Addr, a = some x ∧ x.block < w.heap.size ∧ (Kr (ρ x.block) ∧ ρ x.block < 4001) ∧ w.cell? (x.add j) = some (sv p)
def AtIK (w : World) (ρ : Nat → Nat) (a : Option Addr) (l : List Int) : Prop := ∀ (j : Nat) (p : Int), l[j]? = some p → ∃ x : Addr, a = some x ∧ x.block < w.heap.size ∧ (Kr (ρ x.block) ∧ ρ x.block < 4001) ∧ w.cell? (x.add j) = some (.int .i64 p)
section
variable {w w' : World} {ρ ρ' : Nat → Nat} {a : Option Addr} {l : List (List UInt8)} {c : List Int}
theorem AtK.at (h : AtK w ρ a l) : At w a l := fun j p hp => by
  obtain ⟨x, e, h1, _, h2⟩ := h j p hp
  exact ⟨x, e, h1, h2⟩
theorem AtIK.at (h : AtIK w ρ a c) : AtI w a c := fun j p hp => by
  obtain ⟨x, e, h1, _, h2⟩ := h j p hp
  exact ⟨x, e, h1, h2⟩
theorem AtK.stay (h : AtK w ρ a l) (s : Stays w w' ρ ρ') : AtK w' ρ' a l := fun j p hp => by
  obtain ⟨x, e, h1, h2, h3⟩ := h j p hp
  exact ⟨x, e, Nat.lt_of_lt_of_le h1 s.2.1, by rw [s.1 _ h1]; exact h2, (World.cell?_of_block (by rw [addr_block]; exact s.2.2 _ h1 h2.1)).trans h3⟩
theorem AtIK.stay (h : AtIK w ρ a c) (s : Stays w w' ρ ρ') : AtIK w' ρ' a c := fun j p hp => by
  obtain ⟨x, e, h1, h2, h3⟩ := h j p hp
  exact ⟨x, e, Nat.lt_of_lt_of_le h1 s.2.1, by rw [s.1 _ h1]; exact h2, (World.cell?_of_block (by rw [addr_block]; exact s.2.2 _ h1 h2.1)).trans h3⟩
theorem stays_below (hb : Below w.heap.size w w') (hρ : ∀ k, k < w.heap.size → ρ' k = ρ k) : Stays w w' ρ ρ' := ⟨hρ, hb.size, fun k hk _ => hb.block k hk⟩
def Writes (r b : Nat) (w w' : World) (ρ ρ' : Nat → Nat) : Prop := (∀ k, k < w.heap.size → ρ' k = ρ k) ∧ w.heap.size ≤ w'.heap.size ∧ ∀ k, k < w.heap.size → ρ k ≠ r ∨ k < b → w'.heap[k]? = w.heap[k]?
theorem Writes.stays {r : Nat} {w0 w w' : World} {ρ0 ρ ρ' : Nat → Nat} (t : Stays w0 w ρ0 ρ) (s : Writes r w0.heap.size w w' ρ ρ') : Stays w0 w' ρ0 ρ' :=
  ⟨fun k hk => (s.1 k (Nat.lt_of_lt_of_le hk t.2.1)).trans (t.1 k hk), Nat.le_trans t.2.1 s.2.1, fun k hk hr => (s.2.2 k (Nat.lt_of_lt_of_le hk t.2.1) (.inr hk)).trans (t.2.2 k hk hr)⟩
theorem AtK.wr {r bb : Nat} (h : AtK w ρ a l) (s : Writes r bb w w' ρ ρ') (hr : 4001 ≤ r) : AtK w' ρ' a l := fun j p hp => by
  obtain ⟨x, e, h1, h2, h3⟩ := h j p hp
  exact ⟨x, e, Nat.lt_of_lt_of_le h1 s.2.1, by rw [s.1 _ h1]; exact h2, (World.cell?_of_block (by rw [addr_block]; exact s.2.2 _ h1 (.inl (by omega)))).trans h3⟩
theorem AtIK.wr {r bb : Nat} (h : AtIK w ρ a c) (s : Writes r bb w w' ρ ρ') (hr : 4001 ≤ r) : AtIK w' ρ' a c := fun j p hp => by
  obtain ⟨x, e, h1, h2, h3⟩ := h j p hp
  exact ⟨x, e, Nat.lt_of_lt_of_le h1 s.2.1, by rw [s.1 _ h1]; exact h2, (World.cell?_of_block (by rw [addr_block]; exact s.2.2 _ h1 (.inl (by omega)))).trans h3⟩
theorem bd_wr {r bb B0 X : Nat} {m : World} {vh vw vi vj : Value} {hT wT hI wI : List Value} {WT WI : List (List Value)} (b : Bd B0 X m ρ w vh vw vi vj hT wT hI wI WT WI) (s : Writes r bb w w' ρ ρ') (hr : 3900 ≤ r) (h1 : w'.os = w.os) (h2 : w'.tape = w.tape) (h3 : w'.output = w.output) : Bd B0 X m ρ' w' vh vw vi vj hT wT hI wI WT WI where
  bel := ⟨h1.trans b.bel.os, h2.trans b.bel.tape, h3.trans b.bel.output, Nat.le_trans b.bel.size s.2.1, fun k hk => (s.2.2 k (by have := b.bel.size; have := b.lB; omega) (.inl (by rw [b.low k hk]; omega))).trans (b.bel.block k hk)⟩
  lB := b.lB
  low := fun k hk => by rw [s.1 k (by have := b.bel.size; have := b.lB; omega)]; exact b.low k hk
  row := (s.2.2 X (lt_of_heap b.row) (.inl (by rw [b.rX]; omega))).trans b.row
  rX := by rw [s.1 X (lt_of_heap b.row)]; exact b.rX
  t := b.t.kept s.2.1 s.1 fun k hk hq => s.2.2 k hk (.inl (by rcases hq with e | e | e | ⟨j, hj, e⟩ <;> omega))
  i := b.i.kept s.2.1 s.1 fun k hk hq => s.2.2 k hk (.inl (by rcases hq with e | e | e | ⟨j, hj, e⟩ <;> omega))
theorem Lx.wr {v : Value} {vs : List Value} {ps : List (List (List UInt8))} {r q bb : Nat} {R : Nat → Nat} (x : Lx w ρ v vs ps r R) (s : Writes q bb w w' ρ ρ') (hr : r ≠ q) (hR : ∀ k, k < ps.length → R k ≠ q) : Lx w' ρ' v vs ps r R :=
  ⟨x.own.kept s.2.1 fun b h => s.2.2 b (x.own.lt b h) (.inl (by rw [x.r0 b h]; exact hr)), fun b h => by rw [s.1 b (x.own.lt b h)]; exact x.r0 b h, x.len, fun k u p hu hp => by
    obtain ⟨o, b⟩ := x.el k u p hu hp
    exact ⟨o.kept s.2.1 fun c h => s.2.2 c (o.lt c h) (.inl (by rw [b c h]; exact hR k (List.getElem?_eq_some_iff.1 hp).1)), fun c h => by rw [s.1 c (o.lt c h)]; exact b c h⟩⟩
end
structure Ev (w : World) (ρ : Nat → Nat) (g4 g10 gH gT gR : Nat) (ac ah ar : Option Addr) (cc chp : Nat) (cs : List Int) (H R HS : List (List UInt8)) : Prop where
  b4 : ChI w g4 (.slice ac cs.length cc) (.slice ah H.length chp)
  r4 : ρ g4 = 0
  b10 : ChI w g10 (.slice (some ⟨gH, 0, none⟩) cs.length (cs.length + 8)) (.slice (some ⟨gT, 0, none⟩) H.length (H.length + 8))
  r10 : ρ g10 = 0
  zH : RowZ w gH (cs ++ List.replicate 8 77)
  rH : ρ gH = 0
  zT : Row w gT (HS ++ behind13 8)
  rT : ρ gT = 4001
  zR : Row w gR (R ++ behind13 8)
  rR : ρ gR = 0
  ia : AtIK w ρ ac cs
  ta : AtK w ρ ah H
  ra : AtK w ρ ar R
section
variable {w w' : World} {ρ ρ' : Nat → Nat} {g4 g10 gH gT gR : Nat} {ac ah ar : Option Addr} {cc chp : Nat} {cs : List Int} {H R HS HS' : List (List UInt8)}
theorem Ev.stay (e : Ev w ρ g4 g10 gH gT gR ac ah ar cc chp cs H R HS) (s : Stays w w' ρ ρ') : Ev w' ρ' g4 g10 gH gT gR ac ah ar cc chp cs H R HS :=
  ⟨(s.ch e.b4 e.r4).1, (s.ch e.b4 e.r4).2, (s.ch e.b10 e.r10).1, (s.ch e.b10 e.r10).2,
   (s.2.2 gH e.zH.lt (.inl e.rH)).trans e.zH, by rw [s.1 gH e.zH.lt]; exact e.rH,
   (s.2.2 gT e.zT.lt (by rw [e.rT]; exact .inr (.inr (by omega)))).trans e.zT, by rw [s.1 gT e.zT.lt]; exact e.rT,
   (s.2.2 gR e.zR.lt (.inl e.rR)).trans e.zR, by rw [s.1 gR e.zR.lt]; exact e.rR, e.ia.stay s, e.ta.stay s, e.ra.stay s⟩
theorem Ev.wr {bb : Nat} (e : Ev w ρ g4 g10 gH gT gR ac ah ar cc chp cs H R HS) (s : Writes 4002 bb w w' ρ ρ') : Ev w' ρ' g4 g10 gH gT gR ac ah ar cc chp cs H R HS :=
  have l4 := lt_of_heap e.b4
  have l10 := lt_of_heap e.b10
  ⟨(s.2.2 g4 l4 (.inl (by rw [e.r4]; omega))).trans e.b4, by rw [s.1 g4 l4]; exact e.r4, (s.2.2 g10 l10 (.inl (by rw [e.r10]; omega))).trans e.b10, by rw [s.1 g10 l10]; exact e.r10,
   (s.2.2 gH e.zH.lt (.inl (by rw [e.rH]; omega))).trans e.zH, by rw [s.1 gH e.zH.lt]; exact e.rH,
   (s.2.2 gT e.zT.lt (.inl (by rw [e.rT]; omega))).trans e.zT, by rw [s.1 gT e.zT.lt]; exact e.rT,
   (s.2.2 gR e.zR.lt (.inl (by rw [e.rR]; omega))).trans e.zR, by rw [s.1 gR e.zR.lt]; exact e.rR, e.ia.wr s (by omega), e.ta.wr s (by omega), e.ra.wr s (by omega)⟩
theorem Ev.over {bb : Nat} (e : Ev w ρ g4 g10 gH gT gR ac ah ar cc chp cs H R HS) (s : Writes 4001 bb w w' ρ ρ') (z : Row w' gT (HS' ++ behind13 8)) : Ev w' ρ' g4 g10 gH gT gR ac ah ar cc chp cs H R HS' :=
  have l4 := lt_of_heap e.b4
  have l10 := lt_of_heap e.b10
  ⟨(s.2.2 g4 l4 (.inl (by rw [e.r4]; omega))).trans e.b4, by rw [s.1 g4 l4]; exact e.r4, (s.2.2 g10 l10 (.inl (by rw [e.r10]; omega))).trans e.b10, by rw [s.1 g10 l10]; exact e.r10,
   (s.2.2 gH e.zH.lt (.inl (by rw [e.rH]; omega))).trans e.zH, by rw [s.1 gH e.zH.lt]; exact e.rH,
   z, by rw [s.1 gT e.zT.lt]; exact e.rT,
   (s.2.2 gR e.zR.lt (.inl (by rw [e.rR]; omega))).trans e.zR, by rw [s.1 gR e.zR.lt]; exact e.rR, e.ia.wr s (by omega), e.ta.wr s (by omega), e.ra.wr s (by omega)⟩
theorem Ev.below (e : Ev w ρ g4 g10 gH gT gR ac ah ar cc chp cs H R HS) (hb : Below w.heap.size w w') (hρ : ∀ k, k < w.heap.size → ρ' k = ρ k) : Ev w' ρ' g4 g10 gH gT gR ac ah ar cc chp cs H R HS := e.stay (stays_below hb hρ)
end
def Wx (b : Nat) (w0 : World) (ρ0 : Nat → Nat) (w : World) (ρ : Nat → Nat) (v : Value) (N : Nat) : Prop := Writes 4002 b w0 w ρ0 ρ ∧ (w.os = w0.os ∧ w.tape = w0.tape ∧ w.output = w0.output) ∧ ∃ vs, vs.length = N ∧ OwnM 1 w v N vs ∧ ∀ c, v.ownBlock = some c → ρ c = 4002 ∧ b ≤ c
theorem Wx.start {b : Nat} {w : World} {ρ : Nat → Nat} {v : Value} {vs : List Value} {ps : List (List (List UInt8))} {R : Nat → Nat} (x : Lx w ρ v vs ps 4002 R) (hb : ∀ c, v.ownBlock = some c → b ≤ c) : Wx b w ρ w ρ v ps.length :=
  ⟨⟨fun _ _ => rfl, Nat.le_refl _, fun _ _ _ => rfl⟩, ⟨rfl, rfl, rfl⟩, vs, x.len, by have := x.own; rw [x.len] at this; exact this, fun c hc => ⟨x.r0 c hc, hb c hc⟩⟩
theorem Wx.put {b : Nat} {w0 w : World} {ρ0 ρ : Nat → Nat} {v : Value} {N k : Nat} (h : Wx b w0 ρ0 w ρ v N) (hk : k < N) : ∃ g c, v = .slice (some ⟨g, 0, none⟩) N c ∧ Wx b w0 ρ0 (w.setCell ⟨g, k, none⟩ (.slice none 0 0)) ρ v N ∧ (∃ y, w.cell? ⟨g, k, none⟩ = some y) ∧ w.frozen? ⟨g, k, none⟩ = false := by
  obtain ⟨s, ⟨h1, h2, h3⟩, vs, hl, o, r⟩ := h
  obtain ⟨g, c, e, hc, hg⟩ := o.cell (List.getElem?_eq_getElem (show k < vs.length by omega))
  subst e
  obtain ⟨o1, y1, f1⟩ := o.set (j := k) (by omega) (.slice none 0 0)
  have rg := r g rfl
  have hw : Wr ρ 4002 w (w.setCell ⟨g, k, none⟩ (.slice none 0 0)) := (Wr.refl ρ 4002 w).setCell (fun _ => rg.1) _ _
  have hne : ∀ i, i ≠ g → (w.setCell ⟨g, k, none⟩ (.slice none 0 0)).heap[i]? = w.heap[i]? := fun i hi => heap_setCell_other w ⟨g, k, none⟩ i (.slice none 0 0) hi
  exact ⟨g, c, rfl, ⟨⟨s.1, Nat.le_trans s.2.1 hw.size, fun i hi hn => (hne i (fun e => by
    subst e
    rcases hn with hn | hn
    · exact hn ((s.1 i hi).symm.trans rg.1)
    · omega)).trans (s.2.2 i hi hn)⟩, ⟨hw.os.trans h1, hw.tape.trans h2, hw.output.trans h3⟩, _, by rw [List.length_set]; exact hl, o1, r⟩, y1, f1⟩
theorem Wx.grow {b : Nat} {w0 w : World} {ρ0 ρ : Nat → Nat} {v : Value} {N : Nat} (h : Wx b w0 ρ0 w ρ v N) (hN : N ≤ 1000000) (hb : b ≤ w0.heap.size) : ∃ v' w', (Builtin.append_ #[28, 28] 28 #[v, .slice (some ⟨w.heap.size, 0, none⟩) 1 1]).run Tryz.prog (w.alloc (.cells #[.slice none 0 0] 23)) = .ok v' w' ∧ Wx b w0 ρ0 w' (rx ρ w 4002) v' (N + 1) := by
  obtain ⟨s, ⟨h1, h2, h3⟩, vs, hl, o, r⟩ := h
  obtain ⟨v', w', hap, o', g'⟩ := append_lsT w v vs none 0 0 (by rw [hl]; exact o) (by omega)
  have hw : Wr ρ 4002 w w' := Wr.grow g' (fun c hc => (r c hc).1)
  have s21 := s.2.1
  refine ⟨v', w', hap, ⟨fun i hi => by rw [rx_old (Nat.lt_of_lt_of_le hi s.2.1)]; exact s.1 i hi, Nat.le_trans s.2.1 hw.size, fun i hi hn => (g'.old i (Nat.lt_of_lt_of_le hi s.2.1) (fun e => by
    have := r i e
    rcases hn with hn | hn
    · exact hn ((s.1 i hi).symm.trans this.1)
    · omega)).trans (s.2.2 i hi hn)⟩, ⟨hw.os.trans h1, hw.tape.trans h2, hw.output.trans h3⟩, vs ++ [.slice none 0 0], by rw [List.length_append, hl]; rfl, by rw [← hl]; exact o', fun c hc => ⟨Wr.own g' (fun c hc => (r c hc).1) o.lt c hc, ?_⟩⟩
  rcases Grow.alt' g' c hc with e | e
  · exact (r c e).2
  · omega
theorem Lx.atT {w : World} {ρ : Nat → Nat} {v : Value} {vs : List Value} {ps : List (List (List UInt8))} {r : Nat} {R : Nat → Nat} (x : Lx w ρ v vs ps r R) {j : Nat} (hj : j < ps.length) : ∃ (G c : Nat) (a : Option Addr) (ca : Nat), v = .slice (some ⟨G, 0, none⟩) ps.length c ∧ G < w.heap.size ∧ w.cell? ⟨G, j, none⟩ = some (.slice a (ps.getD j []).length ca) ∧ At w a (ps.getD j []) ∧ (ps.getD j []).length ≤ ca ∧ ca ≤ 9223372036854775807 := by
  obtain ⟨G, c, u, p, e, hG, hc, hp, o, _⟩ := x.at hj
  have hpd : ps.getD j [] = p := by rw [List.getD_eq_getElem?_getD, hp]; rfl
  rw [hpd]
  obtain ⟨a, ca, eu, l1, l2⟩ := o.shape
  subst eu
  refine ⟨G, c, a, ca, e, hG, hc, fun i x hx => ?_, l1, l2⟩
  have hsx : (svs p)[i]? = some (sv x) := by unfold svs; rw [List.getElem?_map, hx]; rfl
  obtain ⟨g, c', e', hc', hg⟩ := o.cell hsx
  injection e' with e' _ _
  subst e'
  exact ⟨⟨g, 0, none⟩, rfl, hg, by rw [Addr.add_mid, Nat.zero_add]; exact hc'⟩
set_option maxRecDepth 100000 in
set_option maxHeartbeats 4000000 in
theorem lists13_lx {w : World} {ρ : Nat → Nat} {v u : Value} {vs us : List Value} {ps : List (List (List UInt8))} {r r' : Nat} {R1 R2 : Nat → Nat} (h : Lx w ρ v vs ps r R1) (h' : Lx w ρ u us ps r' R2) (few : ps.length ≤ 1000000 ∧ ∀ p ∈ ps, p.length ≤ 1000000) :
    Calls Tryz.prog 28 #[v, u] w fun r w' => r = .returned (.bool true) ∧ Below w.heap.size w w' := by
  obtain ⟨a, c, e⟩ := h.shape
  obtain ⟨a', c', e'⟩ := h'.shape
  subst e
  subst e'
  have H1 := hid h
  have H2 := hid h'
  have HF := hid few
  obtain ⟨n, hn⟩ : ∃ n, ps.length = n := ⟨_, rfl⟩
  have HN := hid hn
  rw [hn]
  have ln : n ≤ 1000000 := by rw [← hn]; exact few.1
  have z0 : ((n : Int) != (n : Int)) = false := by simp
  have z1 : ((n : Int) == (n : Int)) = true := by simp
  clear h h' few hn
  go_enter Tryz.func28, Tryz.ntmps28
  go_wp2
  go_loopw [4, 5, 6] (fun _ i _ w' => ∃ j : Nat, j ≤ n ∧ i = .int .i64 (j : Int) ∧ Hid (Below w.heap.size w w')) (fun _ i _ _ => n - (intOf i).toNat)
  case atStart => exact ⟨0, by omega, rfl, Below.refl _ _⟩
  case round =>
    obtain ⟨j, hj, rfl, hB⟩ := hrel
    by_cases hjn : j < n
    · have b0 : (j : Int) < (n : Int) := by omega
      have j0 : (0 : Int) ≤ (j : Int) := by omega
      have hjp : j < ps.length := by rw [HN.out]; exact hjn
      obtain ⟨G, G1, pa, pc, eG, hG, hcG, hat, hp1, hp2⟩ := H1.out.atT hjp
      obtain ⟨K, K1, qa, qc, eK, hK, hcK, hat', hq1, hq2⟩ := H2.out.atT hjp
      injection eG with eG _ eGc
      injection eK with eK _ eKc
      clear eGc eKc
      subst eG
      subst eK
      have hpl : (ps.getD j []).length ≤ 1000000 := HF.out.2 _ (by rw [List.getD_eq_getElem?_getD, List.getElem?_eq_getElem hjp]; exact List.getElem_mem hjp)
      have i1 := hid fun w' (b : Below w.heap.size w w') => texts13_yes (ps.getD j []) pa qa pc qc w' (hat.below b (Nat.le_refl _)) (hat'.below b (Nat.le_refl _)) (by omega)
      have fct := hid fun w' (b : Below w.heap.size w w') => And.intro ((b.cell (p := ⟨G, j, none⟩) hG).trans hcG) ((b.cell (p := ⟨K, j, none⟩) hK).trans hcK)
      have x0 := fct.out _ hB.out
      generalize (ps.getD j []).length = nl at *
      clear hcG hcK hat hat' hpl hp1 hp2 hq1 hq2 hjp
      go_wp2
      go_region_held3 (fun w' => w'.cell? ⟨G, j, none⟩ = some (.slice pa nl pc) ∧ w'.cell? ⟨K, j, none⟩ = some (.slice qa nl qc)) (first | exact x1 | exact x0) (first | (go_at_call 40; refine (i1.out _ hB.out.drew).mono ?_; rintro r w4 ⟨rfl, b4, _⟩; have b4 := drewBelow8 b4; have B4 := hid (hB.out.trans (b4.mono hB.out.size)); have x1 := fct.out _ B4.out; clear b4))
      clear x0 x1 fct i1
      go_wp2
      exact ⟨⟨j + 1, by omega, by go_num, B4⟩, by simp [intOf]; omega⟩
    · obtain rfl : j = n := by omega
      have b0 : ¬ (j : Int) < (j : Int) := by omega
      go_wp2
      go_ret
      exact ⟨rfl, hB.out⟩
end Gb
end Chn
end Go.Proofs.YtenklmjeeejfdaaGreatDoor

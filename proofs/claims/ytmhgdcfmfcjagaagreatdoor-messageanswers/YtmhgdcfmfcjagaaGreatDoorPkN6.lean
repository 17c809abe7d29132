import Derived.Test.YtmhgdcfmfcjagaaGreatDoorPkN3
import Derived.Test.YtmhgdcfmfcjagaaGreatDoorPkE1
namespace Go.Proofs.YtmhgdcfmfcjagaaGreatDoor
open Go.RowKit Cod
theorem Cod.Pf.le {α : Type} {R : List UInt8 → Rd α} (h : Pf R) {s : List UInt8} : ∀ v r, R s = .good v r → r.length ≤ s.length := fun v r e => by
  obtain ⟨a, rfl⟩ := h.ends _ _ _ e
  simp
theorem But.below_trans {b : Nat} {w w1 w2 : World} (h : Below w.heap.size w w1) (k : But b w1 w2) : But b w w2 := (But.ofBelow h).trans k
theorem byteAt_sv (l : List UInt8) (w : World) (hs : l.length ≤ maxLen) :
    Calls Tryz.prog 186 #[sv l] w fun r w' => r = .returned (tupN (rdByte l)) ∧ Below w.heap.size w w' := by
  have := byteAt_any ⟨l.toArray⟩ w (by rw [sv_size]; exact hs)
  rwa [sv_data] at this
set_option maxRecDepth 100000 in
theorem rByte_any (b : Nat) (st : RS) (w : World) (h : Rdr w b st) :
    Calls Tryz.prog 149 #[.pointer (some ⟨b, 0, none⟩)] w fun r w' => r = .returned (.int .i64 ((st.val 0 (rdByte st.rest) : Nat) : Int)) ∧ Rdr w' b (st.step (rdByte st.rest)) ∧ But b w w' := by
  have hF := take_byte b st (rdByte st.rest) w (byteAt_sv st.rest w (by have := h.2; unfold maxLen; omega)) (pf_byte.le) (nz_byte st.rest) h
  have HF := hid hF
  clear hF h
  go_enter Tryz.func149, Tryz.ntmps149
  go_wp2_with (go_at_call 185; refine HF.out.mono ?_; rintro e w1 ⟨rfl, h1⟩; have H1 := hid h1; clear h1)
  go_ret
  exact ⟨rfl, H1.out⟩
set_option maxRecDepth 100000 in
theorem rNum_any (b : Nat) (st : RS) (w : World) (h : Rdr w b st) :
    Calls Tryz.prog 182 #[.pointer (some ⟨b, 0, none⟩)] w fun r w' => r = .returned (.int .i64 ((st.val 0 (rdNum st.rest) : Nat) : Int)) ∧ Rdr w' b (st.step (rdNum st.rest)) ∧ But b w w' := by
  have hF := take_num b st (rdNum st.rest) w (numAt_sv st.rest w (by have := h.2; unfold maxLen; omega)) (pf_num.le) (nz_num st.rest) h
  have HF := hid hF
  clear hF h
  go_enter Tryz.func182, Tryz.ntmps182
  go_wp2_with (go_at_call 185; refine HF.out.mono ?_; rintro e w1 ⟨rfl, h1⟩; have H1 := hid h1; clear h1)
  go_ret
  exact ⟨rfl, H1.out⟩
set_option maxRecDepth 100000 in
theorem rRaw_any_clo (l : List UInt8) (p : Nat) (n : Int) (w : World) (hp : w.cell? ⟨p, 0, none⟩ = some (.int .i64 n)) :
    Calls Tryz.prog 194 #[sv l, .pointer (some ⟨p, 0, none⟩)] w fun r w' => r = .returned (tupS (rdRaw l n)) ∧ Below w.heap.size w w' := by
  have hN := rawAt_sv l n w
  cases hR : rdRaw l n with
  | bad e =>
    rw [hR] at hN
    simp only [tupS] at hN
    clear hR
    go_enter Tryz.func194, Tryz.ntmps194
    go_wp2_with (go_at_call 125; refine hN.mono ?_; rintro x w1 ⟨rfl, h1⟩; have H1 := hid h1; clear h1)
    go_ret3
    exact ⟨rfl, H1.out⟩
  | good t r =>
    rw [hR] at hN
    simp only [tupS] at hN
    clear hR
    go_enter Tryz.func194, Tryz.ntmps194
    go_wp2_with (go_at_call 125; refine hN.mono ?_; rintro x w1 ⟨rfl, h1⟩; have H1 := hid h1; clear h1)
    go_ret3
    exact ⟨rfl, H1.out⟩
set_option maxRecDepth 100000 in
theorem rRaw_any (b : Nat) (st : RS) (n : Int) (w : World) (h : Rdr w b st) :
    Calls Tryz.prog 187 #[.pointer (some ⟨b, 0, none⟩), .int .i64 n] w fun r w' => r = .returned (sv (st.val [] (rdRaw st.rest n))) ∧ Rdr w' b (st.step (rdRaw st.rest n)) ∧ But b w w' := by
  have bw : Below w.heap.size w (w.alloc (.cells #[.int .i64 n] 3)) := (Below.refl _ _).alloc (Nat.le_refl _) _
  have hc : (w.alloc (.cells #[.int .i64 n] 3)).cell? ⟨w.heap.size, 0, none⟩ = some (.int .i64 n) := by rw [cell_of_row _ _ _ _ _ _ (heap_alloc_new w _)]; rfl
  have hF := take_raw b w.heap.size st (rdRaw st.rest n) _ (rRaw_any_clo st.rest w.heap.size n _ hc) ((pf_raw n).le) (nz_raw st.rest n) (h.below bw)
  have HF := hid hF
  have BW := hid bw
  clear hF h bw hc
  go_enter Tryz.func187, Tryz.ntmps187
  go_wp2_with (go_at_call 193; refine HF.out.mono ?_; rintro e w1 ⟨rfl, h1, h2⟩; have H1 := hid h1; have H2 := hid (But.below_trans BW.out h2); clear h1 h2)
  go_ret
  exact ⟨rfl, H1.out, H2.out⟩
theorem risingAt_sv (l : List UInt8) (many : Int) (w : World) (hs : l.length ≤ 9223372036854775807) (hB : l.length ≤ 17592186044000 ∨ many ≤ 17592186044000) :
    Calls Tryz.prog 197 #[sv l, .int .i64 many] w (LPost nvs w (rdRising l many)) := by
  have := risingAt_any ⟨l.toArray⟩ many w (by rw [sv_size]; exact hs) (by rw [sv_size]; exact hB)
  rwa [sv_data] at this
set_option maxRecDepth 100000 in
theorem rRising_any_clo (l : List UInt8) (p : Nat) (many : Int) (w : World) (hs : l.length ≤ 9223372036854775807) (hB : l.length ≤ 17592186044000 ∨ many ≤ 17592186044000) (hp : w.cell? ⟨p, 0, none⟩ = some (.int .i64 many)) :
    Calls Tryz.prog 196 #[sv l, .pointer (some ⟨p, 0, none⟩)] w (LPost nvs w (rdRising l many)) := by
  have hN := risingAt_sv l many w hs hB
  cases hR : rdRising l many with
  | bad e =>
    rw [hR] at hN
    change Calls Tryz.prog 197 #[sv l, .int .i64 many] w (fun r w' => r = .returned (.tuple #[.slice none 0 0, sv [], .int .i64 (e : Int)]) ∧ Below w.heap.size w w') at hN
    clear hR
    go_enter Tryz.func196, Tryz.ntmps196
    go_wp2_with (go_at_call 197; refine hN.mono ?_; rintro x w1 ⟨rfl, h1⟩; have H1 := hid h1; clear h1)
    go_ret3
    exact ⟨rfl, H1.out⟩
  | good t r =>
    rw [hR] at hN
    change Calls Tryz.prog 197 #[sv l, .int .i64 many] w (fun y w' => (∃ u, y = .returned (.tuple #[u, sv r, .int .i64 0]) ∧ Own w' w.heap.size u (nvs t)) ∧ Below w.heap.size w w') at hN
    clear hR
    go_enter Tryz.func196, Tryz.ntmps196
    go_wp2_with (go_at_call 197; refine hN.mono ?_; rintro x w1 ⟨⟨u, rfl, h0⟩, h1⟩; have H1 := hid h1; have H0 := hid h0; clear h1 h0)
    go_ret3
    exact ⟨⟨_, rfl, H0.out⟩, H1.out⟩
set_option maxRecDepth 100000 in
theorem rRising_any (b : Nat) (st : RS) (many : Int) (w : World) (hs : st.rest.length ≤ 17592186044000 ∨ many ≤ 17592186044000) (h : Rdr w b st) :
    Calls Tryz.prog 188 #[.pointer (some ⟨b, 0, none⟩), .int .i64 many] w fun r w' => ∃ v, r = .returned v ∧ Own w' w.heap.size v (nvs (st.val [] (rdRising st.rest many))) ∧ Rdr w' b (st.step (rdRising st.rest many)) ∧ But b w w' := by
  have bw : Below w.heap.size w (w.alloc (.cells #[.int .i64 many] 3)) := (Below.refl _ _).alloc (Nat.le_refl _) _
  have hsz : (w.alloc (.cells #[.int .i64 many] 3)).heap.size = w.heap.size + 1 := size_alloc _ _
  have hc : (w.alloc (.cells #[.int .i64 many] 3)).cell? ⟨w.heap.size, 0, none⟩ = some (.int .i64 many) := by rw [cell_of_row _ _ _ _ _ _ (heap_alloc_new w _)]; rfl
  have hF := take_rising b w.heap.size st (rdRising st.rest many) _ (rRising_any_clo st.rest w.heap.size many _ (by have := h.2; omega) hs hc) ((pf_rising many).le) (nz_rising st.rest many) (h.below bw)
  have HF := hid hF
  have BW := hid bw
  have HS := hid hsz
  clear hF h bw hsz hc
  go_enter Tryz.func188, Tryz.ntmps188
  go_wp2_with (go_at_call 195; refine HF.out.mono ?_; rintro e w1 ⟨u, rfl, h0, h1, h2⟩; have H0 := hid (h0.mono (base' := w.heap.size) (by rw [HS.out]; omega)); have H1 := hid h1; have H2 := hid (But.below_trans BW.out h2); clear h0 h1 h2)
  go_ret
  exact ⟨_, rfl, H0.out, H1.out, H2.out⟩
theorem textsAt_sv (l : List UInt8) (many most : Int) (w : World) (hs : l.length ≤ 9223372036854775807) (hB : l.length ≤ 8796093022000 ∨ many ≤ 8796093022000) :
    Calls Tryz.prog 199 #[sv l, .int .i64 many, .int .i64 most] w (LPost svs w (rdTexts l many most)) := by
  have := textsAt_any ⟨l.toArray⟩ many most w (by rw [sv_size]; exact hs) (by rw [sv_size]; exact hB)
  rwa [sv_data] at this
set_option maxRecDepth 100000 in
theorem rTexts_any_clo (l : List UInt8) (p q : Nat) (many most : Int) (w : World) (hs : l.length ≤ 9223372036854775807) (hB : l.length ≤ 8796093022000 ∨ many ≤ 8796093022000) (hp : w.cell? ⟨p, 0, none⟩ = some (.int .i64 many)) (hq : w.cell? ⟨q, 0, none⟩ = some (.int .i64 most)) :
    Calls Tryz.prog 198 #[sv l, .pointer (some ⟨p, 0, none⟩), .pointer (some ⟨q, 0, none⟩)] w (LPost svs w (rdTexts l many most)) := by
  have hN := textsAt_sv l many most w hs hB
  cases hR : rdTexts l many most with
  | bad e =>
    rw [hR] at hN
    change Calls Tryz.prog 199 #[sv l, .int .i64 many, .int .i64 most] w (fun r w' => r = .returned (.tuple #[.slice none 0 0, sv [], .int .i64 (e : Int)]) ∧ Below w.heap.size w w') at hN
    clear hR
    go_enter Tryz.func198, Tryz.ntmps198
    go_wp2_with (go_at_call 199; refine hN.mono ?_; rintro x w1 ⟨rfl, h1⟩; have H1 := hid h1; clear h1)
    go_ret3
    exact ⟨rfl, H1.out⟩
  | good t r =>
    rw [hR] at hN
    change Calls Tryz.prog 199 #[sv l, .int .i64 many, .int .i64 most] w (fun y w' => (∃ u, y = .returned (.tuple #[u, sv r, .int .i64 0]) ∧ Own w' w.heap.size u (svs t)) ∧ Below w.heap.size w w') at hN
    clear hR
    go_enter Tryz.func198, Tryz.ntmps198
    go_wp2_with (go_at_call 199; refine hN.mono ?_; rintro x w1 ⟨⟨u, rfl, h0⟩, h1⟩; have H1 := hid h1; have H0 := hid h0; clear h1 h0)
    go_ret3
    exact ⟨⟨_, rfl, H0.out⟩, H1.out⟩
set_option maxRecDepth 100000 in
theorem rTexts_any (b : Nat) (st : RS) (many most : Int) (w : World) (hs : st.rest.length ≤ 8796093022000 ∨ many ≤ 8796093022000) (h : Rdr w b st) :
    Calls Tryz.prog 189 #[.pointer (some ⟨b, 0, none⟩), .int .i64 many, .int .i64 most] w fun r w' => ∃ v, r = .returned v ∧ Own w' w.heap.size v (svs (st.val [] (rdTexts st.rest many most))) ∧ Rdr w' b (st.step (rdTexts st.rest many most)) ∧ But b w w' := by
  have hs1 := size_alloc w (.cells #[.int .i64 many] 3)
  have bw : Below w.heap.size w ((w.alloc (.cells #[.int .i64 many] 3)).alloc (.cells #[.int .i64 most] 3)) := ((Below.refl _ _).alloc (Nat.le_refl _) _).alloc (by omega) _
  have hsz : ((w.alloc (.cells #[.int .i64 many] 3)).alloc (.cells #[.int .i64 most] 3)).heap.size = w.heap.size + 1 + 1 := by rw [size_alloc, hs1]
  have hc : ((w.alloc (.cells #[.int .i64 many] 3)).alloc (.cells #[.int .i64 most] 3)).cell? ⟨w.heap.size, 0, none⟩ = some (.int .i64 many) := by rw [World.cell?_alloc_lt _ _ ⟨w.heap.size, 0, none⟩ (by rw [hs1]; show w.heap.size < _; omega), cell_of_row _ _ _ _ _ _ (heap_alloc_new w _)]; rfl
  have hc2 : ((w.alloc (.cells #[.int .i64 many] 3)).alloc (.cells #[.int .i64 most] 3)).cell? ⟨w.heap.size + 1, 0, none⟩ = some (.int .i64 most) := by rw [← hs1, cell_of_row _ _ _ _ _ _ (heap_alloc_new _ _)]; rfl
  have hF := take_texts b w.heap.size (w.heap.size + 1) st (rdTexts st.rest many most) _ (rTexts_any_clo st.rest w.heap.size (w.heap.size + 1) many most _ (by have := h.2; omega) hs hc hc2) ((pf_texts many most).le) (nz_texts st.rest many most) (h.below bw)
  have HF := hid hF
  have BW := hid bw
  have HS := hid hsz
  clear hF h bw hsz hc hc2 hs1
  go_enter Tryz.func189, Tryz.ntmps189
  go_wp2_with (go_at_call 190; refine HF.out.mono ?_; rintro e w1 ⟨u, rfl, h0, h1, h2⟩; have H0 := hid (h0.mono (base' := w.heap.size) (by rw [HS.out]; omega)); have H1 := hid h1; have H2 := hid (But.below_trans BW.out h2); clear h0 h1 h2)
  go_ret
  exact ⟨_, rfl, H0.out, H1.out, H2.out⟩
theorem hashesAt_sv (l : List UInt8) (many : Int) (w : World) (hs : l.length ≤ 9223372036854775807) (hB : l.length ≤ 8796093022000 ∨ many ≤ 8796093022000) :
    Calls Tryz.prog 192 #[sv l, .int .i64 many] w (LPost svs w (rdHashes l many)) := by
  have := hashesAt_any ⟨l.toArray⟩ many w (by rw [sv_size]; exact hs) (by rw [sv_size]; exact hB)
  rwa [sv_data] at this
set_option maxRecDepth 100000 in
theorem rHashes_any_clo (l : List UInt8) (p : Nat) (many : Int) (w : World) (hs : l.length ≤ 9223372036854775807) (hB : l.length ≤ 8796093022000 ∨ many ≤ 8796093022000) (hp : w.cell? ⟨p, 0, none⟩ = some (.int .i64 many)) :
    Calls Tryz.prog 191 #[sv l, .pointer (some ⟨p, 0, none⟩)] w (LPost svs w (rdHashes l many)) := by
  have hN := hashesAt_sv l many w hs hB
  cases hR : rdHashes l many with
  | bad e =>
    rw [hR] at hN
    change Calls Tryz.prog 192 #[sv l, .int .i64 many] w (fun r w' => r = .returned (.tuple #[.slice none 0 0, sv [], .int .i64 (e : Int)]) ∧ Below w.heap.size w w') at hN
    clear hR
    go_enter Tryz.func191, Tryz.ntmps191
    go_wp2_with (go_at_call 192; refine hN.mono ?_; rintro x w1 ⟨rfl, h1⟩; have H1 := hid h1; clear h1)
    go_ret3
    exact ⟨rfl, H1.out⟩
  | good t r =>
    rw [hR] at hN
    change Calls Tryz.prog 192 #[sv l, .int .i64 many] w (fun y w' => (∃ u, y = .returned (.tuple #[u, sv r, .int .i64 0]) ∧ Own w' w.heap.size u (svs t)) ∧ Below w.heap.size w w') at hN
    clear hR
    go_enter Tryz.func191, Tryz.ntmps191
    go_wp2_with (go_at_call 192; refine hN.mono ?_; rintro x w1 ⟨⟨u, rfl, h0⟩, h1⟩; have H1 := hid h1; have H0 := hid h0; clear h1 h0)
    go_ret3
    exact ⟨⟨_, rfl, H0.out⟩, H1.out⟩
set_option maxRecDepth 100000 in
theorem rHashes_any (b : Nat) (st : RS) (many : Int) (w : World) (hs : st.rest.length ≤ 8796093022000 ∨ many ≤ 8796093022000) (h : Rdr w b st) :
    Calls Tryz.prog 184 #[.pointer (some ⟨b, 0, none⟩), .int .i64 many] w fun r w' => ∃ v, r = .returned v ∧ Own w' w.heap.size v (svs (st.val [] (rdHashes st.rest many))) ∧ Rdr w' b (st.step (rdHashes st.rest many)) ∧ But b w w' := by
  have bw : Below w.heap.size w (w.alloc (.cells #[.int .i64 many] 3)) := (Below.refl _ _).alloc (Nat.le_refl _) _
  have hsz : (w.alloc (.cells #[.int .i64 many] 3)).heap.size = w.heap.size + 1 := size_alloc _ _
  have hc : (w.alloc (.cells #[.int .i64 many] 3)).cell? ⟨w.heap.size, 0, none⟩ = some (.int .i64 many) := by rw [cell_of_row _ _ _ _ _ _ (heap_alloc_new w _)]; rfl
  have hF := take_hashes b w.heap.size st (rdHashes st.rest many) _ (rHashes_any_clo st.rest w.heap.size many _ (by have := h.2; omega) hs hc) ((pf_hashes many).le) (nz_hashes st.rest many) (h.below bw)
  have HF := hid hF
  have BW := hid bw
  have HS := hid hsz
  clear hF h bw hsz hc
  go_enter Tryz.func184, Tryz.ntmps184
  go_wp2_with (go_at_call 190; refine HF.out.mono ?_; rintro e w1 ⟨u, rfl, h0, h1, h2⟩; have H0 := hid (h0.mono (base' := w.heap.size) (by rw [HS.out]; omega)); have H1 := hid h1; have H2 := hid (But.below_trans BW.out h2); clear h0 h1 h2)
  go_ret
  exact ⟨_, rfl, H0.out, H1.out, H2.out⟩
end Go.Proofs.YtmhgdcfmfcjagaaGreatDoor

namespace Go.Proofs.YtmhgdcfmfcjagaaGreatDoor
open Go.RowKit Cod
namespace Msg
def ints (L : List Nat) : List Int := L.map Int.ofNat
theorem ints_len (L : List Nat) : (ints L).length = L.length := by rw [ints, List.length_map]
abbrev LS := WSt × Bool
def lif (ok : Bool) (e : Int) (l : List UInt8) (s : LS) : LS := if ok = true then (s.1.put e l, s.2) else (s.1, true)
def wi (n lo hi : Int) : Bool := decide (lo ≤ n ∧ n ≤ hi)
def isSz (n : Int) : Bool := wi n 0 1099511627776
def lMark (n lo hi : Int) : LS → LS := lif (wi n lo hi) (byteErr n) [UInt8.ofNat n.toNat]
def lNum (n : Int) : LS → LS := lif true (numErr n) (digs n.toNat)
def lSize (n : Int) : LS → LS := lif (isSz n) (numErr n) (digs n.toNat)
def arSz (l : List Int) (many : Int) : Bool := wi (l.length : Int) 1 many && isSz (l.getLast?.getD 0)
def lSizes (l : List Int) (many : Int) : LS → LS := lif (arSz l many) (risingErr l) (wrRising (l.map Int.toNat))
def lTexts (l : List (List UInt8)) (least many most : Int) : LS → LS := lif (decide (least ≤ (l.length : Int))) (textsErr l many most) (wrTexts l)
def lHashes (l : List (List UInt8)) : LS → LS := lif true (hashesErr l 32768) (wrHashes l)
def lRoot (t : List UInt8) : LS → LS := lif (decide (t.length = 32)) 0 t
abbrev TS := RS × Bool
def tk {α : Type} (R : List UInt8 → Rd α) (ok : α → Bool) (d : α) (s : TS) : α × TS :=
  (s.1.val d (R s.1.rest), (s.1.step (R s.1.rest), s.2 || !ok (s.1.val d (R s.1.rest))))
def Sim (t t' : TS) (L : LS → LS) : Prop :=
  t'.1.err = 0 → t'.2 = false → t.1.err = 0 ∧ t.2 = false ∧ ∃ bs, t.1.rest = bs ++ t'.1.rest ∧ ∀ acc, L (.ok acc, false) = (.ok (acc ++ bs), false)
theorem Sim.refl (t : TS) : Sim t t id := fun h1 h2 => ⟨h1, h2, [], rfl, fun acc => by rw [List.append_nil]; rfl⟩
theorem Sim.comp {t t1 t2 : TS} {L1 L2 : LS → LS} (h : Sim t t1 L1) (k : Sim t1 t2 L2) : Sim t t2 (fun s => L2 (L1 s)) := fun e1 e2 => by
  obtain ⟨a1, a2, bs, a3, a4⟩ := k e1 e2
  obtain ⟨c1, c2, cs, c3, c4⟩ := h a1 a2
  exact ⟨c1, c2, cs ++ bs, by rw [c3, a3, List.append_assoc], fun acc => by show L2 (L1 _) = _; rw [c4, a4, List.append_assoc]⟩
theorem Sim.cast {t t' : TS} {L L' : LS → LS} (h : Sim t t' L) (e : ∀ s, L' s = L s) : Sim t t' L' := fun e1 e2 => by
  obtain ⟨a1, a2, bs, a3, a4⟩ := h e1 e2
  exact ⟨a1, a2, bs, a3, fun acc => by rw [e, a4]⟩
theorem step_good {α : Type} {st : RS} {x : Rd α} (hz : NZ x) (h : (st.step x).err = 0) : st.err = 0 ∧ ∃ v r, x = .good v r ∧ (st.step x).rest = r ∧ ∀ d, st.val d x = v := by
  by_cases he : st.err = 0
  · refine ⟨he, ?_⟩
    cases x with
    | bad e =>
      rw [RS.step, if_pos he] at h
      have := hz e rfl
      have h : (e : Int) = 0 := h
      omega
    | good v r => exact ⟨v, r, rfl, by rw [RS.step, if_pos he], fun d => by rw [RS.val, if_pos he]⟩
  · rw [step_bad he] at h; exact absurd h he
theorem sim_tk {α : Type} (R : List UInt8 → Rd α) (ok : α → Bool) (d : α) (s : TS) (hz : NZ (R s.1.rest)) (e : α → Int) (l : α → List UInt8)
    (hR : ∀ v r, R s.1.rest = .good v r → ok v = true → e v = 0 ∧ s.1.rest = l v ++ r) :
    Sim s (tk R ok d s).2 (lif (ok (tk R ok d s).1) (e (tk R ok d s).1) (l (tk R ok d s).1)) := fun e1 e2 => by
  obtain ⟨h1, v, r, h2, h3, h4⟩ := step_good hz e1
  have hv : (tk R ok d s).1 = v := h4 d
  have e2' : (s.2 || !ok (s.1.val d (R s.1.rest))) = false := e2
  rw [h4 d, Bool.or_eq_false_iff, Bool.not_eq_false'] at e2'
  obtain ⟨g1, g2⟩ := hR v r h2 e2'.2
  refine ⟨h1, e2'.1, l v, ?_, fun acc => ?_⟩
  · show s.1.rest = l v ++ (s.1.step (R s.1.rest)).rest
    rw [h3]; exact g2
  · rw [hv, lif, if_pos e2'.2]
    show ((WSt.ok acc).put (e v) (l v), false) = _
    rw [g1]; rfl
def tMark (lo hi : Int) (s : TS) : Nat × TS := tk rdByte (fun n => wi (n : Int) lo hi) 0 s
def tSize (s : TS) : Nat × TS := tk rdNum (fun n => isSz (n : Int)) 0 s
def tSizes (many : Int) (s : TS) : List Nat × TS := tk (fun b => rdRising b many) (fun l => arSz (ints l) many) [] s
def tTexts (least many most : Int) (s : TS) : List (List UInt8) × TS := tk (fun b => rdTexts b many most) (fun l => decide (least ≤ (l.length : Int))) [] s
def tHashes (s : TS) : List (List UInt8) × TS := tk (fun b => rdHashes b 32768) (fun _ => true) [] s
def tRoot (s : TS) : List UInt8 × TS := tk (fun b => rdRaw b 32) (fun _ => true) [] s
theorem sim_mark (lo hi : Int) (s : TS) : Sim s (tMark lo hi s).2 (lMark ((tMark lo hi s).1 : Int) lo hi) :=
  sim_tk rdByte (fun n => wi (n : Int) lo hi) 0 s (nz_byte _) (fun n => byteErr (n : Int)) (fun n => [UInt8.ofNat (n : Int).toNat]) fun v r h _ => by
    obtain ⟨h1, h2⟩ := byte_back h
    exact ⟨by rw [byteErr, if_neg (by omega)], by rw [Int.toNat_natCast]; exact h1⟩
theorem sim_size (s : TS) : Sim s (tSize s).2 (lSize ((tSize s).1 : Int)) :=
  sim_tk rdNum (fun n => isSz (n : Int)) 0 s (nz_num _) (fun n => numErr (n : Int)) (fun n => digs (n : Int).toNat) fun v r h _ => by
    obtain ⟨h1, h2⟩ := num_back h
    rw [top] at h2
    exact ⟨by rw [numErr, if_neg (by omega)], by rw [Int.toNat_natCast]; exact h1⟩
theorem sim_texts (least many most : Int) (s : TS) : Sim s (tTexts least many most s).2 (lTexts (tTexts least many most s).1 least many most) :=
  sim_tk (fun b => rdTexts b many most) (fun l => decide (least ≤ (l.length : Int))) [] s (nz_texts _ _ _) (fun l => textsErr l many most) (fun l => wrTexts l) fun v r h _ => by
    obtain ⟨h1, _, h3, h4, h5, h6⟩ := texts_back h
    exact ⟨by rw [textsErr, if_neg (by omega), if_neg (by omega), if_pos (fun p hp => (h6 p hp).2)], h1⟩
theorem sim_hashes (s : TS) : Sim s (tHashes s).2 (lHashes (tHashes s).1) :=
  sim_tk (fun b => rdHashes b 32768) (fun _ => true) [] s (nz_hashes _ _) (fun l => hashesErr l 32768) (fun l => wrHashes l) fun v r h _ => by
    obtain ⟨h1, _, h3, h4, h5⟩ := hashes_back h
    exact ⟨by rw [hashesErr, if_neg (by omega), if_neg (by omega), if_pos h5], h1⟩
theorem sim_root (s : TS) : Sim s (tRoot s).2 (lRoot (tRoot s).1) := fun e1 e2 => by
  have hN := nz_raw s.1.rest 32
  obtain ⟨h1, v, r, h2, h3, h4⟩ := step_good hN e1
  have hv : (tRoot s).1 = v := h4 []
  have e2' : (s.2 || !true) = false := e2
  rw [Bool.not_true, Bool.or_false] at e2'
  obtain ⟨g1, g2⟩ := raw_back h2
  refine ⟨h1, e2', v, ?_, fun acc => ?_⟩
  · show s.1.rest = v ++ (s.1.step (rdRaw s.1.rest 32)).rest
    rw [h3]; exact g1
  · rw [hv, lRoot, lif, if_pos (decide_eq_true (by omega))]
    rfl
theorem mark_ok {lo hi : Int} {s : TS} (h1 : (tMark lo hi s).2.2 = false) : wi ((tMark lo hi s).1 : Int) lo hi = true := by
  have : (s.2 || !wi ((tMark lo hi s).1 : Int) lo hi) = false := h1
  rw [Bool.or_eq_false_iff, Bool.not_eq_false'] at this
  exact this.2
structure Ask where
  kind : Int
  a : Int
  b : Int
  size : Int
  list : List Int
  ent : List (List UInt8)
  n : Nat
def Ask.zero : Ask := ⟨0, 0, 0, 0, [], [], 0⟩
def Ask.of (k : Int) : Ask := ⟨k, 0, 0, 0, [], [], 0⟩
inductive Fq where
  | a | b | size | indices | heads | asks | entries
def flds : Nat → List Fq
  | 1 => [.entries]
  | 3 => [.size]
  | 4 => [.a, .size]
  | 5 => [.a, .size]
  | 6 => [.size, .indices]
  | 7 => [.heads]
  | 8 => [.a, .b, .size]
  | 9 => [.a, .b, .size]
  | 10 => [.a]
  | 11 => [.a]
  | 12 => [.asks]
  | _ => []
def setF (x : Ask) : Fq → Ask → Ask
  | .a, t => ⟨t.kind, x.a, t.b, t.size, t.list, t.ent, t.n⟩
  | .b, t => ⟨t.kind, t.a, x.b, t.size, t.list, t.ent, t.n⟩
  | .size, t => ⟨t.kind, t.a, t.b, x.size, t.list, t.ent, t.n⟩
  | .indices, t => ⟨t.kind, t.a, t.b, t.size, x.list, t.ent, t.n⟩
  | .heads, t => ⟨t.kind, t.a, t.b, t.size, x.list, t.ent, t.n⟩
  | .asks, t => ⟨t.kind, t.a, t.b, t.size, t.list, t.ent, x.n⟩
  | .entries, t => ⟨t.kind, t.a, t.b, t.size, t.list, x.ent, t.n⟩
def whole (x t : Ask) : Bool :=
  decide (x.kind = t.kind) && (decide (x.a = t.a) && (decide (x.b = t.b) && (decide (x.size = t.size) && (decide (x.list.length = t.list.length) && (decide (x.ent.length = t.ent.length) && decide (x.n = t.n))))))
theorem whole_self (x : Ask) : whole x x = true := by simp [whole]
def lFq (x : Ask) (da : LS → LS) : Fq → LS → LS
  | .a => lSize x.a
  | .b => lSize x.b
  | .size => lSize x.size
  | .indices => lSizes x.list 256
  | .heads => lSizes x.list 64
  | .asks => da
  | .entries => lTexts x.ent 1 32 4096
def lFlds (x : Ask) (da : LS → LS) (fs : List Fq) (s : LS) : LS := fs.foldl (fun s g => lFq x da g s) s
def setFs (x : Ask) (fs : List Fq) (t : Ask) : Ask := fs.foldl (fun t g => setF x g t) t
def lReq (x : Ask) (da : LS → LS) (lo hi : Int) (s : LS) : LS :=
  if wi x.kind lo hi = true then
    ((lFlds x da (flds x.kind.toNat) (lMark x.kind lo hi s)).1, (lFlds x da (flds x.kind.toNat) (lMark x.kind lo hi s)).2 || !whole x (setFs x (flds x.kind.toNat) (Ask.of x.kind)))
  else (s.1, true)
def lAsk (x : Ask) : LS → LS := lReq x id 3 7
def lAsks (l : List Ask) (s : LS) : LS :=
  if wi (l.length : Int) 1 64 = true then l.foldl (fun s x => lAsk x s) (lNum (l.length : Int) s) else (s.1, true)
def lRequest (x : Ask) (l : List Ask) : LS → LS := lReq x (lAsks l) 1 12
abbrev PT := (Ask × List Ask) × TS
def tFq (da : TS → List Ask × TS) : Fq → PT → PT
  | .a, p => ((⟨p.1.1.kind, ((tSize p.2).1 : Int), p.1.1.b, p.1.1.size, p.1.1.list, p.1.1.ent, p.1.1.n⟩, p.1.2), (tSize p.2).2)
  | .b, p => ((⟨p.1.1.kind, p.1.1.a, ((tSize p.2).1 : Int), p.1.1.size, p.1.1.list, p.1.1.ent, p.1.1.n⟩, p.1.2), (tSize p.2).2)
  | .size, p => ((⟨p.1.1.kind, p.1.1.a, p.1.1.b, ((tSize p.2).1 : Int), p.1.1.list, p.1.1.ent, p.1.1.n⟩, p.1.2), (tSize p.2).2)
  | .indices, p => ((⟨p.1.1.kind, p.1.1.a, p.1.1.b, p.1.1.size, ints (tSizes 256 p.2).1, p.1.1.ent, p.1.1.n⟩, p.1.2), (tSizes 256 p.2).2)
  | .heads, p => ((⟨p.1.1.kind, p.1.1.a, p.1.1.b, p.1.1.size, ints (tSizes 64 p.2).1, p.1.1.ent, p.1.1.n⟩, p.1.2), (tSizes 64 p.2).2)
  | .asks, p => ((⟨p.1.1.kind, p.1.1.a, p.1.1.b, p.1.1.size, p.1.1.list, p.1.1.ent, (da p.2).1.length⟩, (da p.2).1), (da p.2).2)
  | .entries, p => ((⟨p.1.1.kind, p.1.1.a, p.1.1.b, p.1.1.size, p.1.1.list, (tTexts 1 32 4096 p.2).1, p.1.1.n⟩, p.1.2), (tTexts 1 32 4096 p.2).2)
def tFlds (da : TS → List Ask × TS) (fs : List Fq) (p : PT) : PT := fs.foldl (fun p g => tFq da g p) p
def tReq (da : TS → List Ask × TS) (lo hi : Int) (s : TS) : PT :=
  if wi ((tMark lo hi s).1 : Int) lo hi = true then tFlds da (flds (tMark lo hi s).1) ((Ask.of ((tMark lo hi s).1 : Int), []), (tMark lo hi s).2) else ((Ask.zero, []), (tMark lo hi s).2)
def tAsk (s : TS) : Ask × TS := ((tReq (fun s => ([], s)) 3 7 s).1.1, (tReq (fun s => ([], s)) 3 7 s).2)
def tMany : Nat → List Ask → TS → List Ask × TS
  | 0, l, s => (l, s)
  | n + 1, l, s => tMany n (l ++ [(tAsk s).1]) (tAsk s).2
def tCount (s : TS) : Nat × TS := ((if wi ((tk rdNum (fun n => wi (n : Int) 1 64) 0 s).1 : Int) 1 64 = true then (tk rdNum (fun n => wi (n : Int) 1 64) 0 s).1 else 0), (tk rdNum (fun n => wi (n : Int) 1 64) 0 s).2)
def tAsks (s : TS) : List Ask × TS := tMany (tCount s).1 [] (tCount s).2
def tRequest (s : TS) : PT := tReq tAsks 1 12 s
theorem sim_count (s : TS) : Sim s (tCount s).2 (lNum ((tCount s).1 : Int)) ∧ ((tCount s).2.2 = false → wi ((tCount s).1 : Int) 1 64 = true) := by
  have h := sim_tk rdNum (fun n => wi (n : Int) 1 64) 0 s (nz_num _) (fun n => numErr (n : Int)) (fun n => digs (n : Int).toNat) fun v r h _ => by
    obtain ⟨h1, h2⟩ := num_back h
    rw [top] at h2
    exact ⟨by rw [numErr, if_neg (by omega)], by rw [Int.toNat_natCast]; exact h1⟩
  have hw : (tCount s).2.2 = false → wi ((tk rdNum (fun n => wi (n : Int) 1 64) 0 s).1 : Int) 1 64 = true := fun e => by
    have : (s.2 || !wi ((tk rdNum (fun n => wi (n : Int) 1 64) 0 s).1 : Int) 1 64) = false := e
    rw [Bool.or_eq_false_iff, Bool.not_eq_false'] at this
    exact this.2
  refine ⟨fun e1 e2 => ?_, fun e => ?_⟩
  · have hw := hw e2
    obtain ⟨a1, a2, bs, a3, a4⟩ := h e1 e2
    refine ⟨a1, a2, bs, a3, fun acc => ?_⟩
    have := a4 acc
    rw [show (tCount s).1 = (tk rdNum (fun n => wi (n : Int) 1 64) 0 s).1 from if_pos hw]
    rw [lif, if_pos hw] at this
    rw [lNum, lif, if_pos rfl]; exact this
  · have hw := hw e
    rw [show (tCount s).1 = (tk rdNum (fun n => wi (n : Int) 1 64) 0 s).1 from if_pos hw]; exact hw
end Msg
end Go.Proofs.YtmhgdcfmfcjagaaGreatDoor

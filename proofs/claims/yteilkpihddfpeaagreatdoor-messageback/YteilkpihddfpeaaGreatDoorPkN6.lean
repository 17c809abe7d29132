import Derived.Test.YteilkpihddfpeaaGreatDoorPkN3
namespace Go.Proofs.YteilkpihddfpeaaGreatDoor
open Go.RowKit Cod

theorem Cod.Pf.le {α : Type} {R : List UInt8 → Rd α} (h : Pf R) {s : List UInt8} : ∀ v r, R s = .good v r → r.length ≤ s.length := fun v r e => by
  obtain ⟨a, rfl⟩ := h.ends _ _ _ e
  simp
theorem But.below_trans {b : Nat} {w w1 w2 : World} (h : Below w.heap.size w w1) (k : But b w1 w2) : But b w w2 := (But.ofBelow h).trans k
theorem byteAt_sv (l : List UInt8) (w : World) (hs : l.length ≤ maxLen) :
    Calls Tryz.prog 122 #[sv l] w fun r w' => r = .returned (tupN (rdByte l)) ∧ Below w.heap.size w w' := by
  have := byteAt_any ⟨l.toArray⟩ w (by rw [sv_size]; exact hs)
  rwa [sv_data] at this

set_option maxRecDepth 100000 in
theorem rByte_any (b : Nat) (st : RS) (w : World) (h : Rdr w b st) :
    Calls Tryz.prog 85 #[.pointer (some ⟨b, 0, none⟩)] w fun r w' => r = .returned (.int .i64 ((st.val 0 (rdByte st.rest) : Nat) : Int)) ∧ Rdr w' b (st.step (rdByte st.rest)) ∧ But b w w' := by
  have hF := take_byte b st (rdByte st.rest) w (byteAt_sv st.rest w (by have := h.2; unfold maxLen; omega)) (pf_byte.le) (nz_byte st.rest) h
  have HF := hid hF
  clear hF h
  go_enter Tryz.func85, Tryz.ntmps85
  go_wp2_with (go_at_call 121; refine HF.out.mono ?_; rintro e w1 ⟨rfl, h1⟩; have H1 := hid h1; clear h1)
  go_ret
  exact ⟨rfl, H1.out⟩

set_option maxRecDepth 100000 in
theorem rNum_any (b : Nat) (st : RS) (w : World) (h : Rdr w b st) :
    Calls Tryz.prog 118 #[.pointer (some ⟨b, 0, none⟩)] w fun r w' => r = .returned (.int .i64 ((st.val 0 (rdNum st.rest) : Nat) : Int)) ∧ Rdr w' b (st.step (rdNum st.rest)) ∧ But b w w' := by
  have hF := take_num b st (rdNum st.rest) w (numAt_sv st.rest w (by have := h.2; unfold maxLen; omega)) (pf_num.le) (nz_num st.rest) h
  have HF := hid hF
  clear hF h
  go_enter Tryz.func118, Tryz.ntmps118
  go_wp2_with (go_at_call 121; refine HF.out.mono ?_; rintro e w1 ⟨rfl, h1⟩; have H1 := hid h1; clear h1)
  go_ret
  exact ⟨rfl, H1.out⟩

set_option maxRecDepth 100000 in
theorem rRaw_any_clo (l : List UInt8) (p : Nat) (n : Int) (w : World) (hp : w.cell? ⟨p, 0, none⟩ = some (.int .i64 n)) :
    Calls Tryz.prog 130 #[sv l, .pointer (some ⟨p, 0, none⟩)] w fun r w' => r = .returned (tupS (rdRaw l n)) ∧ Below w.heap.size w w' := by
  have hN := rawAt_sv l n w
  cases hR : rdRaw l n with
  | bad e =>
    rw [hR] at hN
    simp only [tupS] at hN
    clear hR
    go_enter Tryz.func130, Tryz.ntmps130
    go_wp2_with (go_at_call 38; refine hN.mono ?_; rintro x w1 ⟨rfl, h1⟩; have H1 := hid h1; clear h1)
    go_ret3
    exact ⟨rfl, H1.out⟩
  | good t r =>
    rw [hR] at hN
    simp only [tupS] at hN
    clear hR
    go_enter Tryz.func130, Tryz.ntmps130
    go_wp2_with (go_at_call 38; refine hN.mono ?_; rintro x w1 ⟨rfl, h1⟩; have H1 := hid h1; clear h1)
    go_ret3
    exact ⟨rfl, H1.out⟩
set_option maxRecDepth 100000 in
theorem rRaw_any (b : Nat) (st : RS) (n : Int) (w : World) (h : Rdr w b st) :
    Calls Tryz.prog 123 #[.pointer (some ⟨b, 0, none⟩), .int .i64 n] w fun r w' => r = .returned (sv (st.val [] (rdRaw st.rest n))) ∧ Rdr w' b (st.step (rdRaw st.rest n)) ∧ But b w w' := by
  have bw : Below w.heap.size w (w.alloc (.cells #[.int .i64 n] 3)) := (Below.refl _ _).alloc (Nat.le_refl _) _
  have hc : (w.alloc (.cells #[.int .i64 n] 3)).cell? ⟨w.heap.size, 0, none⟩ = some (.int .i64 n) := by rw [cell_of_row _ _ _ _ _ _ (heap_alloc_new w _)]; rfl
  have hF := take_raw b w.heap.size st (rdRaw st.rest n) _ (rRaw_any_clo st.rest w.heap.size n _ hc) ((pf_raw n).le) (nz_raw st.rest n) (h.below bw)
  have HF := hid hF
  have BW := hid bw
  clear hF h bw hc
  go_enter Tryz.func123, Tryz.ntmps123
  go_wp2_with (go_at_call 129; refine HF.out.mono ?_; rintro e w1 ⟨rfl, h1, h2⟩; have H1 := hid h1; have H2 := hid (But.below_trans BW.out h2); clear h1 h2)
  go_ret
  exact ⟨rfl, H1.out, H2.out⟩

theorem risingAt_sv (l : List UInt8) (many : Int) (w : World) (hs : l.length ≤ 9223372036854775807) (hB : l.length ≤ 17592186044000 ∨ many ≤ 17592186044000) :
    Calls Tryz.prog 133 #[sv l, .int .i64 many] w (LPost nvs w (rdRising l many)) := by
  have := risingAt_any ⟨l.toArray⟩ many w (by rw [sv_size]; exact hs) (by rw [sv_size]; exact hB)
  rwa [sv_data] at this
set_option maxRecDepth 100000 in
theorem rRising_any_clo (l : List UInt8) (p : Nat) (many : Int) (w : World) (hs : l.length ≤ 9223372036854775807) (hB : l.length ≤ 17592186044000 ∨ many ≤ 17592186044000) (hp : w.cell? ⟨p, 0, none⟩ = some (.int .i64 many)) :
    Calls Tryz.prog 132 #[sv l, .pointer (some ⟨p, 0, none⟩)] w (LPost nvs w (rdRising l many)) := by
  have hN := risingAt_sv l many w hs hB
  cases hR : rdRising l many with
  | bad e =>
    rw [hR] at hN
    change Calls Tryz.prog 133 #[sv l, .int .i64 many] w (fun r w' => r = .returned (.tuple #[.slice none 0 0, sv [], .int .i64 (e : Int)]) ∧ Below w.heap.size w w') at hN
    clear hR
    go_enter Tryz.func132, Tryz.ntmps132
    go_wp2_with (go_at_call 133; refine hN.mono ?_; rintro x w1 ⟨rfl, h1⟩; have H1 := hid h1; clear h1)
    go_ret3
    exact ⟨rfl, H1.out⟩
  | good t r =>
    rw [hR] at hN
    change Calls Tryz.prog 133 #[sv l, .int .i64 many] w (fun y w' => (∃ u, y = .returned (.tuple #[u, sv r, .int .i64 0]) ∧ Own w' w.heap.size u (nvs t)) ∧ Below w.heap.size w w') at hN
    clear hR
    go_enter Tryz.func132, Tryz.ntmps132
    go_wp2_with (go_at_call 133; refine hN.mono ?_; rintro x w1 ⟨⟨u, rfl, h0⟩, h1⟩; have H1 := hid h1; have H0 := hid h0; clear h1 h0)
    go_ret3
    exact ⟨⟨_, rfl, H0.out⟩, H1.out⟩
set_option maxRecDepth 100000 in
theorem rRising_any (b : Nat) (st : RS) (many : Int) (w : World) (hs : st.rest.length ≤ 17592186044000 ∨ many ≤ 17592186044000) (h : Rdr w b st) :
    Calls Tryz.prog 124 #[.pointer (some ⟨b, 0, none⟩), .int .i64 many] w fun r w' => ∃ v, r = .returned v ∧ Own w' w.heap.size v (nvs (st.val [] (rdRising st.rest many))) ∧ Rdr w' b (st.step (rdRising st.rest many)) ∧ But b w w' := by
  have bw : Below w.heap.size w (w.alloc (.cells #[.int .i64 many] 3)) := (Below.refl _ _).alloc (Nat.le_refl _) _
  have hsz : (w.alloc (.cells #[.int .i64 many] 3)).heap.size = w.heap.size + 1 := size_alloc _ _
  have hc : (w.alloc (.cells #[.int .i64 many] 3)).cell? ⟨w.heap.size, 0, none⟩ = some (.int .i64 many) := by rw [cell_of_row _ _ _ _ _ _ (heap_alloc_new w _)]; rfl
  have hF := take_rising b w.heap.size st (rdRising st.rest many) _ (rRising_any_clo st.rest w.heap.size many _ (by have := h.2; omega) hs hc) ((pf_rising many).le) (nz_rising st.rest many) (h.below bw)
  have HF := hid hF
  have BW := hid bw
  have HS := hid hsz
  clear hF h bw hsz hc
  go_enter Tryz.func124, Tryz.ntmps124
  go_wp2_with (go_at_call 131; refine HF.out.mono ?_; rintro e w1 ⟨u, rfl, h0, h1, h2⟩; have H0 := hid (h0.mono (base' := w.heap.size) (by rw [HS.out]; omega)); have H1 := hid h1; have H2 := hid (But.below_trans BW.out h2); clear h0 h1 h2)
  go_ret
  exact ⟨_, rfl, H0.out, H1.out, H2.out⟩

theorem textsAt_sv (l : List UInt8) (many most : Int) (w : World) (hs : l.length ≤ 9223372036854775807) (hB : l.length ≤ 8796093022000 ∨ many ≤ 8796093022000) :
    Calls Tryz.prog 135 #[sv l, .int .i64 many, .int .i64 most] w (LPost svs w (rdTexts l many most)) := by
  have := textsAt_any ⟨l.toArray⟩ many most w (by rw [sv_size]; exact hs) (by rw [sv_size]; exact hB)
  rwa [sv_data] at this
set_option maxRecDepth 100000 in
theorem rTexts_any_clo (l : List UInt8) (p q : Nat) (many most : Int) (w : World) (hs : l.length ≤ 9223372036854775807) (hB : l.length ≤ 8796093022000 ∨ many ≤ 8796093022000) (hp : w.cell? ⟨p, 0, none⟩ = some (.int .i64 many)) (hq : w.cell? ⟨q, 0, none⟩ = some (.int .i64 most)) :
    Calls Tryz.prog 134 #[sv l, .pointer (some ⟨p, 0, none⟩), .pointer (some ⟨q, 0, none⟩)] w (LPost svs w (rdTexts l many most)) := by
  have hN := textsAt_sv l many most w hs hB
  cases hR : rdTexts l many most with
  | bad e =>
    rw [hR] at hN
    change Calls Tryz.prog 135 #[sv l, .int .i64 many, .int .i64 most] w (fun r w' => r = .returned (.tuple #[.slice none 0 0, sv [], .int .i64 (e : Int)]) ∧ Below w.heap.size w w') at hN
    clear hR
    go_enter Tryz.func134, Tryz.ntmps134
    go_wp2_with (go_at_call 135; refine hN.mono ?_; rintro x w1 ⟨rfl, h1⟩; have H1 := hid h1; clear h1)
    go_ret3
    exact ⟨rfl, H1.out⟩
  | good t r =>
    rw [hR] at hN
    change Calls Tryz.prog 135 #[sv l, .int .i64 many, .int .i64 most] w (fun y w' => (∃ u, y = .returned (.tuple #[u, sv r, .int .i64 0]) ∧ Own w' w.heap.size u (svs t)) ∧ Below w.heap.size w w') at hN
    clear hR
    go_enter Tryz.func134, Tryz.ntmps134
    go_wp2_with (go_at_call 135; refine hN.mono ?_; rintro x w1 ⟨⟨u, rfl, h0⟩, h1⟩; have H1 := hid h1; have H0 := hid h0; clear h1 h0)
    go_ret3
    exact ⟨⟨_, rfl, H0.out⟩, H1.out⟩
set_option maxRecDepth 100000 in
theorem rTexts_any (b : Nat) (st : RS) (many most : Int) (w : World) (hs : st.rest.length ≤ 8796093022000 ∨ many ≤ 8796093022000) (h : Rdr w b st) :
    Calls Tryz.prog 125 #[.pointer (some ⟨b, 0, none⟩), .int .i64 many, .int .i64 most] w fun r w' => ∃ v, r = .returned v ∧ Own w' w.heap.size v (svs (st.val [] (rdTexts st.rest many most))) ∧ Rdr w' b (st.step (rdTexts st.rest many most)) ∧ But b w w' := by
  have hs1 := size_alloc w (.cells #[.int .i64 many] 3)
  have bw : Below w.heap.size w ((w.alloc (.cells #[.int .i64 many] 3)).alloc (.cells #[.int .i64 most] 3)) := ((Below.refl _ _).alloc (Nat.le_refl _) _).alloc (by omega) _
  have hsz : ((w.alloc (.cells #[.int .i64 many] 3)).alloc (.cells #[.int .i64 most] 3)).heap.size = w.heap.size + 1 + 1 := by rw [size_alloc, hs1]
  have hc : ((w.alloc (.cells #[.int .i64 many] 3)).alloc (.cells #[.int .i64 most] 3)).cell? ⟨w.heap.size, 0, none⟩ = some (.int .i64 many) := by rw [World.cell?_alloc_lt _ _ ⟨w.heap.size, 0, none⟩ (by rw [hs1]; show w.heap.size < _; omega), cell_of_row _ _ _ _ _ _ (heap_alloc_new w _)]; rfl
  have hc2 : ((w.alloc (.cells #[.int .i64 many] 3)).alloc (.cells #[.int .i64 most] 3)).cell? ⟨w.heap.size + 1, 0, none⟩ = some (.int .i64 most) := by rw [← hs1, cell_of_row _ _ _ _ _ _ (heap_alloc_new _ _)]; rfl
  have hF := take_texts b w.heap.size (w.heap.size + 1) st (rdTexts st.rest many most) _ (rTexts_any_clo st.rest w.heap.size (w.heap.size + 1) many most _ (by have := h.2; omega) hs hc hc2) ((pf_texts many most).le) (nz_texts st.rest many most) (h.below bw)
  have HF := hid hF
  have BW := hid bw
  have HS := hid hsz
  clear hF h bw hsz hc hc2 hs1
  go_enter Tryz.func125, Tryz.ntmps125
  go_wp2_with (go_at_call 126; refine HF.out.mono ?_; rintro e w1 ⟨u, rfl, h0, h1, h2⟩; have H0 := hid (h0.mono (base' := w.heap.size) (by rw [HS.out]; omega)); have H1 := hid h1; have H2 := hid (But.below_trans BW.out h2); clear h0 h1 h2)
  go_ret
  exact ⟨_, rfl, H0.out, H1.out, H2.out⟩

theorem hashesAt_sv (l : List UInt8) (many : Int) (w : World) (hs : l.length ≤ 9223372036854775807) (hB : l.length ≤ 8796093022000 ∨ many ≤ 8796093022000) :
    Calls Tryz.prog 128 #[sv l, .int .i64 many] w (LPost svs w (rdHashes l many)) := by
  have := hashesAt_any ⟨l.toArray⟩ many w (by rw [sv_size]; exact hs) (by rw [sv_size]; exact hB)
  rwa [sv_data] at this
set_option maxRecDepth 100000 in
theorem rHashes_any_clo (l : List UInt8) (p : Nat) (many : Int) (w : World) (hs : l.length ≤ 9223372036854775807) (hB : l.length ≤ 8796093022000 ∨ many ≤ 8796093022000) (hp : w.cell? ⟨p, 0, none⟩ = some (.int .i64 many)) :
    Calls Tryz.prog 127 #[sv l, .pointer (some ⟨p, 0, none⟩)] w (LPost svs w (rdHashes l many)) := by
  have hN := hashesAt_sv l many w hs hB
  cases hR : rdHashes l many with
  | bad e =>
    rw [hR] at hN
    change Calls Tryz.prog 128 #[sv l, .int .i64 many] w (fun r w' => r = .returned (.tuple #[.slice none 0 0, sv [], .int .i64 (e : Int)]) ∧ Below w.heap.size w w') at hN
    clear hR
    go_enter Tryz.func127, Tryz.ntmps127
    go_wp2_with (go_at_call 128; refine hN.mono ?_; rintro x w1 ⟨rfl, h1⟩; have H1 := hid h1; clear h1)
    go_ret3
    exact ⟨rfl, H1.out⟩
  | good t r =>
    rw [hR] at hN
    change Calls Tryz.prog 128 #[sv l, .int .i64 many] w (fun y w' => (∃ u, y = .returned (.tuple #[u, sv r, .int .i64 0]) ∧ Own w' w.heap.size u (svs t)) ∧ Below w.heap.size w w') at hN
    clear hR
    go_enter Tryz.func127, Tryz.ntmps127
    go_wp2_with (go_at_call 128; refine hN.mono ?_; rintro x w1 ⟨⟨u, rfl, h0⟩, h1⟩; have H1 := hid h1; have H0 := hid h0; clear h1 h0)
    go_ret3
    exact ⟨⟨_, rfl, H0.out⟩, H1.out⟩
set_option maxRecDepth 100000 in
theorem rHashes_any (b : Nat) (st : RS) (many : Int) (w : World) (hs : st.rest.length ≤ 8796093022000 ∨ many ≤ 8796093022000) (h : Rdr w b st) :
    Calls Tryz.prog 120 #[.pointer (some ⟨b, 0, none⟩), .int .i64 many] w fun r w' => ∃ v, r = .returned v ∧ Own w' w.heap.size v (svs (st.val [] (rdHashes st.rest many))) ∧ Rdr w' b (st.step (rdHashes st.rest many)) ∧ But b w w' := by
  have bw : Below w.heap.size w (w.alloc (.cells #[.int .i64 many] 3)) := (Below.refl _ _).alloc (Nat.le_refl _) _
  have hsz : (w.alloc (.cells #[.int .i64 many] 3)).heap.size = w.heap.size + 1 := size_alloc _ _
  have hc : (w.alloc (.cells #[.int .i64 many] 3)).cell? ⟨w.heap.size, 0, none⟩ = some (.int .i64 many) := by rw [cell_of_row _ _ _ _ _ _ (heap_alloc_new w _)]; rfl
  have hF := take_hashes b w.heap.size st (rdHashes st.rest many) _ (rHashes_any_clo st.rest w.heap.size many _ (by have := h.2; omega) hs hc) ((pf_hashes many).le) (nz_hashes st.rest many) (h.below bw)
  have HF := hid hF
  have BW := hid bw
  have HS := hid hsz
  clear hF h bw hsz hc
  go_enter Tryz.func120, Tryz.ntmps120
  go_wp2_with (go_at_call 126; refine HF.out.mono ?_; rintro e w1 ⟨u, rfl, h0, h1, h2⟩; have H0 := hid (h0.mono (base' := w.heap.size) (by rw [HS.out]; omega)); have H1 := hid h1; have H2 := hid (But.below_trans BW.out h2); clear h0 h1 h2)
  go_ret
  exact ⟨_, rfl, H0.out, H1.out, H2.out⟩
end Go.Proofs.YteilkpihddfpeaaGreatDoor

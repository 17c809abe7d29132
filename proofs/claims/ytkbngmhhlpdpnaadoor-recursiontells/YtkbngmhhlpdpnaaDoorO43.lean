import Derived.Test.YtkbngmhhlpdpnaaDoorO28Q
import Derived.Test.YtkbngmhhlpdpnaaDoorO23
namespace Go.Proofs.YtkbngmhhlpdpnaaDoor
open Go.RowKit

set_option maxRecDepth 100000 in
set_option maxHeartbeats 800000 in
theorem sameI_yes (l : List Int) (a d : Option Addr) (ca cd : Nat) (w : World) (ha : AtI w a l) (hd : AtI w d l) (hll : l.length ≤ 9223372036854775807) :
    Calls Tryd.prog 20 #[.slice a l.length ca, .slice d l.length cd] w fun e w' => e = .returned (.bool true) ∧ Below w.heap.size w w' ∧ w'.heap = w.heap := by
  have Ha := hid ha
  have Hd := hid hd
  clear ha hd
  go_enter Tryd.func20, Tryd.ntmps20
  go_wp2
  go_loopw [5] (fun i w' => ∃ k : Nat, k ≤ l.length ∧ i = .int .i64 k ∧ Hid (Below w.heap.size w w' ∧ w'.heap = w.heap)) (fun i _ => l.length - (intOf i).toNat)
  case atStart => exact ⟨0, by omega, rfl, hid ⟨Below.refl _ _, rfl⟩⟩
  case round =>
    obtain ⟨k, hk, rfl, hw'⟩ := hrel
    by_cases hlt : k < l.length
    · have b0 : (k : Int) < (l.length : Int) := by omega
      obtain ⟨x, rfl, xb, hx⟩ := Ha.out k l[k] (List.getElem?_eq_getElem hlt)
      rw [← hw'.out.1.cell (p := x.add k) (by rw [addr_block]; exact xb)] at hx
      clear xb
      obtain ⟨y, rfl, yb, hy⟩ := Hd.out k l[k] (List.getElem?_eq_getElem hlt)
      rw [← hw'.out.1.cell (p := y.add k) (by rw [addr_block]; exact yb)] at hy
      clear yb
      generalize l[k] = p at *
      have y1 : (p == p) = true := by simp
      have y2 : (p != p) = false := by simp
      go_wp2
      go_quiet (fail)
      go_wp2
      exact ⟨⟨k + 1, by omega, by go_num, hid ⟨below_drewN hw'.out.1 _, hw'.out.2⟩⟩, by simp [intOf]; omega⟩
    · have b0 : ¬ (k : Int) < (l.length : Int) := by omega
      go_wp2
      go_ret
      exact ⟨rfl, hw'.out.1, hw'.out.2⟩
set_option maxRecDepth 100000 in
set_option maxHeartbeats 800000 in
theorem reads_yes (n : Nat) (m : ByteArray) (a : Option Addr) (ca : Nat) (w : World) (ha : At w a (List.replicate n m.data.toList)) (hn : n ≤ 9223372036854775807) :
    Calls Tryd.prog 52 #[.slice a n ca, .string m] w fun e w' => e = .returned (.bool true) ∧ Below w.heap.size w w' ∧ w'.heap = w.heap := by
  have Ha := hid ha
  clear ha
  have y1 : (m.toList == m.toList) = true := by simp
  have y2 : (m.toList != m.toList) = false := by simp
  go_enter Tryd.func52, Tryd.ntmps52
  go_wp2
  go_loopw [5] (fun i w' => ∃ k : Nat, k ≤ n ∧ i = .int .i64 k ∧ Hid (Below w.heap.size w w' ∧ w'.heap = w.heap)) (fun i _ => n - (intOf i).toNat)
  case atStart => exact ⟨0, by omega, rfl, hid ⟨Below.refl _ _, rfl⟩⟩
  case round =>
    obtain ⟨k, hk, rfl, hw'⟩ := hrel
    by_cases hlt : k < n
    · have b0 : (k : Int) < (n : Int) := by omega
      obtain ⟨x, rfl, xb, hx⟩ := Ha.out k m.data.toList (by rw [List.getElem?_replicate, if_pos hlt])
      rw [← hw'.out.1.cell (p := x.add k) (by rw [addr_block]; exact xb)] at hx
      clear xb
      rw [svS, show ByteArray.mk m.data.toList.toArray = m from by cases m; simp] at hx
      go_wp2
      exact ⟨⟨k + 1, by omega, by go_num, hw'⟩, by simp [intOf]; omega⟩
    · have b0 : ¬ (k : Int) < (n : Int) := by omega
      go_wp2
      go_ret
      exact ⟨rfl, hw'.out.1, hw'.out.2⟩
theorem conv_two (n : Nat) (hn : n ≤ 255) (w : World) : (convert 71 9 (.slice (some ⟨w.heap.size, 0, none⟩) 2 2)).run Tryd.prog (w.alloc (.cells #[.int .u8 (n : Int), .int .u8 0] 5)) = .ok (sv [UInt8.ofNat n, 0]) (w.alloc (.cells #[.int .u8 (n : Int), .int .u8 0] 5)) := by
  refine run_conv_bytes (P := Tryd.prog) _ 71 9 5 w.heap.size 0 2 2 [UInt8.ofNat n, 0] rfl Tryd.underlying71 Tryd.underlying5 Tryd.underlying9 ?_
  intro j v hv
  have hX := heap_alloc_new w (.cells #[.int .u8 (n : Int), .int .u8 0] 5)
  match j, hv with
  | 0, hv =>
    have e : v = .int .u8 (n : Int) := by
      simp [bv] at hv
      rw [← hv]; congr 1; omega
    rw [e, cell_of_row _ _ _ _ _ _ hX]; rfl
  | 1, hv =>
    have e : v = .int .u8 0 := by simp [bv] at hv; rw [← hv]
    rw [e, cell_of_row _ _ _ _ _ _ hX]; rfl
  | j + 2, hv => simp [bv] at hv
set_option maxRecDepth 100000 in
set_option maxHeartbeats 800000 in
theorem mark_any (n : Nat) (hn : n ≤ 255) (w : World) :
    Calls Tryd.prog 51 #[.int .i64 n] w fun e w' => ∃ m : ByteArray, e = .returned (.string m) ∧ m.data.toList = [109, 97, 114, 107, UInt8.ofNat n, 0] ∧ Below w.heap.size w w' := by
  have hcv := conv_two n hn w
  have e0 : (n : Int) / 256 = 0 := by omega
  rw [svS] at hcv
  go_enter Tryd.func51, Tryd.ntmps51
  go_wp2
  go_ret
  exact ⟨_, rfl, by simp [ByteArray.data_append], (Below.refl _ _).alloc (Nat.le_refl _) _⟩
end Go.Proofs.YtkbngmhhlpdpnaaDoor

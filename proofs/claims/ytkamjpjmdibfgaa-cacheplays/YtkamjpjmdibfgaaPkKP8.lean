import Derived.Test.YtkamjpjmdibfgaaPkKP7
import Derived.Laws.ResultCell
/- Layer 15, the program: New, Tally, Get, Drop, Pin, Unpin -/
namespace Go.Proofs.Ytkamjpjmdibfgaa
open Go.RowKit Go.Maps
namespace Kc
theorem Ch.mono {w : World} {a : Nat} {g : Option Nat} {B c c' : Nat} {L : List En} {f m o : Nat} (h : Ch w a g B c L f m o) (hc : c ≤ c') : Ch w a g B c' L f m o := by
  refine ⟨h.li, ?_, h.gn, h.uq, h.bu, h.tt, Nat.le_trans h.cb hc, h.pm⟩
  rcases h.tb with t | ⟨b, D, h0, h1, h2⟩
  · exact .inl t
  · exact .inr ⟨b, D, h0, h1.mono hc, h2⟩
theorem fnd_front {X Y : List En} {e : En} (hu : Uq (X ++ e :: Y)) (k : List UInt8) : fnd k (e :: (X ++ Y)) = fnd k (X ++ e :: Y) := by
  by_cases c : e.k = k
  · rw [fnd_cons_eq c, ← c]
    exact (fnd_of_mem hu (by simp)).symm
  · rw [fnd_cons_ne c, fnd_mid hu, if_neg (Ne.symm c)]
theorem Uq.front {X Y : List En} {e : En} (hu : Uq (X ++ e :: Y)) : Uq (e :: (X ++ Y)) := hu.split.1.cons hu.split.2
set_option maxRecDepth 100000 in
theorem new_bad (n : Int) (h : n < 0 ∨ 16777216 < n) (w : World) :
    Calls Try.prog 5 #[.int .i64 n] w fun r w' => r = .returned (.tuple #[.pointer none, .int .i64 150]) ∧ w' = w := by
  go_enter Try.func5, Try.ntmps5
  by_cases h0 : n < 0
  · go_wp2
    go_ret2
    exact ⟨rfl, rfl⟩
  · have h1 : 16777216 < n := by omega
    clear h
    go_wp2
    go_ret2
    exact ⟨rfl, rfl⟩
set_option maxRecDepth 100000 in
theorem new_ok (B : Nat) (hB : B ≤ 16777216) (w : World) :
    Calls Try.prog 5 #[.int .i64 (B : Int)] w fun r w' => r = .returned (.tuple #[.pointer (some ⟨w.heap.size, 0, none⟩), .int .i64 0]) ∧ Ch w' w.heap.size none B 0 [] 0 0 0 ∧ Below w.heap.size w w' := by
  have h1 : ¬ (B : Int) < 0 := by omega
  have h2 : ¬ 16777216 < (B : Int) := by omega
  go_enter Try.func5, Try.ntmps5
  go_wp2
  go_ret2
  refine ⟨rfl, ⟨⟨heap_alloc_new w _, trivial, by simp⟩, .inl ⟨rfl, rfl⟩, (fun _ h => nomatch h), List.nodup_nil, hB, Nat.zero_le _, Nat.le_refl _, (fun _ h => nomatch h)⟩, (Below.refl _ _).alloc (Nat.le_refl _) _⟩
theorem sizeTl : (Try.prog.info? 42).map (·.size) = some 6 := by kernel_rfl
def tal (n t p f m o : Nat) : Value := .agg #[.int .i64 (n : Int), .int .i64 (t : Int), .int .i64 (p : Int), .int .i64 (f : Int), .int .i64 (m : Int), .int .i64 (o : Int)]
set_option maxRecDepth 100000 in
theorem tally_any {w : World} {a : Nat} {g : Option Nat} {B c : Nat} {L : List En} {f m o : Nat} (h : Ch w a g B c L f m o) :
    Calls Try.prog 12 #[.pointer (some ⟨a, 0, none⟩)] w fun r w' => r = .returned (tal L.length (tot L) (pnd L) f m o) ∧ Below w.heap.size w w' := by
  obtain ⟨_, _, _, _, c4, c5, c6, c7, c8, c9⟩ := h.li.cs
  have al := h.li.lt a (fp_a _ _)
  unfold tal
  generalize L.length = n4 at *
  generalize tot L = n5 at *
  generalize pnd L = n6 at *
  clear h
  go_enter Try.func12, Try.ntmps12
  go_wp2_with (go_at_call 30; refine (orNone_some _ _).mono ?_; rintro r w9 ⟨rfl, rfl⟩)
  exact bodyPost_ret (v := tal n4 n5 n6 f m o) (results_cell_row rfl _ _ w.heap.size 42 _ (0, 0) _ rfl (heap_alloc_new w _) Try.underlying42 rfl sizeTl) rfl ⟨rfl, (Below.refl _ _).alloc (Nat.le_refl _) _⟩
end Kc
end Go.Proofs.Ytkamjpjmdibfgaa

/- Layer 15, the program: Get -/
namespace Go.Proofs.Ytkamjpjmdibfgaa
open Go.RowKit Go.Maps
namespace Kc
theorem Ch.m1 {w : World} {a : Nat} {g : Option Nat} {B c : Nat} {L : List En} {f m o : Nat} (h : Ch w a g B c L f m o) : Ch (w.setCell ⟨a, 8, none⟩ (.int .i64 ((m + 1 : Nat) : Int))) a g B (c + 1) L f (m + 1) o := by
  have h' := h.mono (Nat.le_succ c)
  have := h.cb
  exact ⟨h'.li.s8 _, tb_set h'.li h'.tb _ _, h'.gn, h'.uq, h'.bu, h'.tt, by omega, h'.pm⟩
set_option maxRecDepth 100000 in
set_option maxHeartbeats 2000000 in
theorem get_none {w : World} {a : Nat} {g : Option Nat} {B c : Nat} {L : List En} {f m o : Nat} (h : Ch w a g B c L f m o) (hc : c ≤ 1000000000000) (k : List UInt8) (hk : k.length ≤ 9223372036854775807) (hf : fnd k L = none) :
    Calls Try.prog 11 #[.pointer (some ⟨a, 0, none⟩), .string ⟨k.toArray⟩] w fun r w' => r = .returned (.tuple #[.string ⟨#[]⟩, .bool false]) ∧ Ch w' a g B (c + 1) L f (m + 1) o ∧ Keep (Fg a g L) w w' := by
  have i1 := find_any h.li.cs.2.2.2.1 h.tb k hk
  rw [hf] at i1
  have c8 := h.li.cs.2.2.2.2.2.2.2.2.1
  have f8 := h.li.fz 8
  have e8 : IntKind.i64.wrap ((m : Int) + 1) = ((m + 1 : Nat) : Int) := by rw [IntKind.wrap_i64]; have := h.cb; omega
  have P : Hid (Ch (w.setCell ⟨a, 8, none⟩ (.int .i64 ((m + 1 : Nat) : Int))) a g B (c + 1) L f (m + 1) o ∧ Keep (Fg a g L) w (w.setCell ⟨a, 8, none⟩ (.int .i64 ((m + 1 : Nat) : Int)))) := ⟨h.m1, keep_set (keep_refl _ _) (.inl (fp_a _ _)) _ _⟩
  simp only [Option.map_none, Option.isSome_none, pv] at i1
  clear h hf hk hc
  generalize (ByteArray.mk k.toArray) = K at *
  go_enter Try.func11, Try.ntmps11
  go_wp2_with (first
    | (go_at_call 30; refine (orNone_some _ _).mono ?_; rintro r w9 ⟨rfl, hw9⟩; replace hw9 := hw9.symm; subst hw9)
    | (go_at_call 31; refine i1.mono ?_; rintro r w9 ⟨rfl, hw9⟩; replace hw9 := hw9.symm; subst hw9))
  go_ret2
  exact ⟨rfl, P.out⟩
theorem Ch.front {w w' : World} {a : Nat} {g : Option Nat} {B c : Nat} {X Y : List En} {e : En} {f m o : Nat} (h : Ch w a g B c (X ++ e :: Y) f m o) (hc : f + m + o + (X ++ e :: Y).length ≤ c)
    (h1 : Li w' a (e :: (X ++ Y)) (.int .i64 (B : Int)) (.map g) (.int .i64 ((X ++ e :: Y).length : Int)) (.int .i64 (tot (X ++ e :: Y) : Int)) (.int .i64 (pnd (X ++ e :: Y) : Int)) (.int .i64 (f : Int)) (.int .i64 (m : Int)) (.int .i64 (o : Int))) (hk : Keep (Fp a (X ++ e :: Y)) w w') : Ch w' a g B c (e :: (X ++ Y)) f m o := by
  have e1 : (e :: (X ++ Y)).length = (X ++ e :: Y).length := by simp; omega
  have e2 : tot (e :: (X ++ Y)) = tot (X ++ e :: Y) := by simp; omega
  have e3 : pnd (e :: (X ++ Y)) = pnd (X ++ e :: Y) := by simp; omega
  have em : ∀ x, x ∈ e :: (X ++ Y) ↔ x ∈ X ++ e :: Y := fun x => by simp; constructor <;> (rintro (h | h | h) <;> simp [h])
  refine ⟨by rw [e1, e2, e3]; exact h1, ?_, ?_, h.uq.front, h.bu, by rw [e2]; exact h.tt, by rw [e1]; exact hc, fun x hx => h.pm x ((em x).1 hx)⟩
  · obtain ⟨b, D, h0, t1, t2⟩ := h.tb.of (e := e) (by simp)
    refine .inr ⟨b, D, h0, ?_, t2.congr fun k => by rw [fnd_front h.uq]⟩
    have hl := t1.lt
    have hg := h.li.gne t1
    obtain ⟨es, cl, x1, x2⟩ := t1
    exact ⟨es, cl, (hk.block b hl fun hf => hg b hf rfl).trans x1, x2⟩
  · intro b hb hf
    refine h.gn b hb ?_
    rcases List.mem_cons.1 hf with rfl | hf
    · exact fp_a _ _
    · obtain ⟨x, hx, rfl⟩ := List.mem_map.1 hf
      exact fp_b ((em x).1 hx)
set_option maxRecDepth 100000 in
set_option maxHeartbeats 2000000 in
theorem get_some {w : World} {a : Nat} {g : Option Nat} {B c : Nat} {L : List En} {f m o : Nat} (h : Ch w a g B c L f m o) (hc : c ≤ 1000000000000) (k : List UInt8) (hk : k.length ≤ 9223372036854775807) {e : En} (hf : fnd k L = some e) :
    Calls Try.prog 11 #[.pointer (some ⟨a, 0, none⟩), .string ⟨k.toArray⟩] w fun r w' => r = .returned (.tuple #[.string ⟨e.v.toArray⟩, .bool true]) ∧ Ch w' a g B (c + 1) (e :: wo k L) (f + 1) m o ∧ Keep (Fg a g L) w w' := by
  have i1 := find_any h.li.cs.2.2.2.1 h.tb k hk
  rw [hf] at i1
  obtain ⟨X, Y, rfl, hek, hwo, _, _⟩ := fnd_split hf
  rw [hwo]
  have c7 := h.li.cs.2.2.2.2.2.2.2.1
  have f7 := h.li.fz 7
  have e7 : IntKind.i64.wrap ((f : Int) + 1) = ((f + 1 : Nat) : Int) := by rw [IntKind.wrap_i64]; have := h.cb; omega
  have hcb := h.cb
  have C1 : Ch (w.setCell ⟨a, 7, none⟩ (.int .i64 ((f + 1 : Nat) : Int))) a g B (c + 1) (X ++ e :: Y) (f + 1) m o := by
    have h' := h.mono (Nat.le_succ c)
    exact ⟨h'.li.s7 _, tb_set h'.li h'.tb _ _, h'.gn, h'.uq, h'.bu, h'.tt, by omega, h'.pm⟩
  have K1 : Hid (Keep (Fp a (X ++ e :: Y)) w (w.setCell ⟨a, 7, none⟩ (.int .i64 ((f + 1 : Nat) : Int)))) := keep_set (keep_refl _ _) (fp_a _ _) _ _
  have i2 := take_any C1.li
  have HC := hid C1
  have hnd := (nd_mid h.li.nb)
  have hne : e.b ∉ a :: (X ++ Y).map En.b := by
    intro hm
    rcases List.mem_cons.1 hm with hm | hm
    · exact hnd.2.1 hm.symm
    · obtain ⟨x, hx, hxe⟩ := List.mem_map.1 hm
      exact hnd.2.2.1 x hx hxe
  have hne' := hid hne
  simp only [Option.map_some, Option.isSome_some, pv] at i1
  clear h hf hk hc hek hwo hcb C1 hnd hne
  generalize (ByteArray.mk k.toArray) = K at *
  go_enter Try.func11, Try.ntmps11
  go_wp2_with (first
    | (go_at_call 30; refine (orNone_some _ _).mono ?_; rintro r w9 ⟨rfl, hw9⟩; replace hw9 := hw9.symm; subst hw9)
    | (go_at_call 31; refine i1.mono ?_; rintro r w9 ⟨rfl, hw9⟩; replace hw9 := hw9.symm; subst hw9)
    | (go_at_call 37; refine i2.mono ?_; rintro r w2 ⟨rfl, L2, ⟨nw, ol, P2⟩, K2, z2⟩; have i3 := lay_any L2 P2 hne'.out)
    | (go_at_call 38; refine i3.mono ?_; rintro r w3 ⟨rfl, L3, K3, z3⟩; have p1 := (pl_c L3.seg.1).2.1))
  go_ret2
  have K3' : Keep (Fp a (X ++ e :: Y)) w2 w3 := keep_mono K3 fun k hk => by
    rcases List.mem_cons.1 hk with rfl | hk
    · exact fp_a _ _
    · obtain ⟨x, hx, rfl⟩ := List.mem_map.1 hk
      refine fp_b ?_
      simp at hx ⊢
      rcases hx with h | h | h <;> simp [h]
  exact ⟨rfl, HC.out.front HC.out.cb L3 (keep_trans K2 K3'), keep_mono (keep_trans K1.out (keep_trans K2 K3')) fun k hk => .inl hk⟩
end Kc
end Go.Proofs.Ytkamjpjmdibfgaa

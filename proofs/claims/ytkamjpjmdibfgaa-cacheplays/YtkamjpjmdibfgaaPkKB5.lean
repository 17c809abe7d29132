import Derived.Test.YtkamjpjmdibfgaaPkKB4
import Derived.Deep.CutBlock
import Derived.Deep.RegionHeld3
import Derived.Deep.CutRange
import Derived.Deep.DeepCutAuto
import Derived.Deep.LoopGhost
import Derived.Test.YtkamjpjmdibfgaaPkKP11
/- Layer 15, CacheBounds: one step -/
namespace Go.Proofs.Ytkamjpjmdibfgaa
open Go.RowKit Go.Maps
namespace Kc
def Bf (w0 w : World) (a B c : Nat) (vk vv vp : Value) (K : List (List UInt8)) (q : Nat) (fl : Bool) (kd nn : Int) (KB VB : ByteArray) : Prop := ∃ g L f m o V P, Be w0 w a g B c L f m o vk vv vp K V P q fl kd nn KB VB
theorem Be.mono {w0 w : World} {a : Nat} {g : Option Nat} {B c c' : Nat} {L : List En} {f m o : Nat} {vk vv vp : Value} {K V : List (List UInt8)} {P : List Nat} {q : Nat} {fl : Bool} {kd nn : Int} {KB VB : ByteArray} (h : Be w0 w a g B c L f m o vk vv vp K V P q fl kd nn KB VB) (hc : c ≤ c') : Be w0 w a g B c' L f m o vk vv vp K V P q fl kd nn KB VB := ⟨h.bd.mono hc, h.rq, h.nf, h.nk, h.nv, h.np⟩
end Kc
end Go.Proofs.Ytkamjpjmdibfgaa

/- Layer 15, CacheBounds: a round -/
namespace Go.Proofs.Ytkamjpjmdibfgaa
open Go.RowKit Go.Maps
namespace Kc
end Kc
end Go.Proofs.Ytkamjpjmdibfgaa

/- Layer 15, CacheBounds: where the key stands -/
namespace Go.Proofs.Ytkamjpjmdibfgaa
open Go.RowKit Go.Maps
namespace Kc
/-- what a round leaves -/
def Br (w0 w : World) (a B c : Nat) (vk vv vp : Value) (M : Nat) : Prop := ∃ g L f m o K V P, Bd w0 w a g B c L f m o vk vv vp K V P ∧ K.length ≤ M ∧ ∀ k ∈ K, k.length ≤ 9223372036854775807
/-- the key's place while it is looked for -/
def Ft (K : List (List UInt8)) (k : List UInt8) (j : Nat) (z : Int) : Prop := (z = -1 ∧ ∀ i, i < j → K[i]? ≠ some k) ∨ ∃ t : Nat, t < j ∧ z = (t : Int) ∧ K[t]? = some k
theorem Ft.hit {K : List (List UInt8)} {k : List UInt8} {j : Nat} (h : K[j]? = some k) : Ft K k (j + 1) (j : Int) := .inr ⟨j, Nat.lt_succ_self _, rfl, h⟩
theorem Ft.miss {K : List (List UInt8)} {k : List UInt8} {j : Nat} {z : Int} (h : Ft K k j z) (hn : K[j]? ≠ some k) : Ft K k (j + 1) z := by
  rcases h with ⟨h1, h2⟩ | ⟨t, h1, h2, h3⟩
  · refine .inl ⟨h1, fun i hi => ?_⟩
    by_cases c : i = j
    · rw [c]; exact hn
    · exact h2 i (by omega)
  · exact .inr ⟨t, by omega, h2, h3⟩
theorem str_neq {a b : List UInt8} (h : a ≠ b) : ((ByteArray.mk a.toArray).toList == (ByteArray.mk b.toArray).toList) = false := by
  rw [ByteArray.toList_eq, ByteArray.toList_eq]
  simpa using h
/-- the lists behind the search -/
def Bt (w0 w : World) (a B c M q : Nat) (fl : Bool) (kd nn : Int) (KB VB : ByteArray) (k : List UInt8) (v9 v10 v11 v14 : Value) : Prop := ∃ (gk gv gp ck cv cp N t : Nat) (g : Option Nat) (L : List En) (f m o : Nat) (K V : List (List UInt8)) (P : List Nat), v9 = .slice (some ⟨gk, 0, none⟩) N ck ∧ v10 = .slice (some ⟨gv, 0, none⟩) N cv ∧ v11 = .slice (some ⟨gp, 0, none⟩) N cp ∧ v14 = .int .i64 (t : Int) ∧ Be w0 w a g B c L f m o (.slice (some ⟨gk, 0, none⟩) N ck) (.slice (some ⟨gv, 0, none⟩) N cv) (.slice (some ⟨gp, 0, none⟩) N cp) K V P q fl kd nn KB VB ∧ K.length = N ∧ N ≤ M ∧ K[t]? = some k ∧ ∀ k ∈ K, k.length ≤ 9223372036854775807
theorem own_some {w : World} {base : Nat} {v : Value} {cs : List Value} (h : Own w base v cs) (hp : 0 < cs.length) : ∃ g cap, v = .slice (some ⟨g, 0, none⟩) cs.length cap := by
  obtain ⟨g, cap, e, _, _⟩ := own_shape h hp
  exact ⟨g, cap, e⟩
theorem Bt.old {w0 w : World} {a B c M q : Nat} {fl : Bool} {kd nn : Int} {KB VB : ByteArray} {k : List UInt8} {g : Option Nat} {L : List En} {f m o : Nat} {vk vv vp : Value} {K V : List (List UInt8)} {P : List Nat} (h : Be w0 w a g B c L f m o vk vv vp K V P q fl kd nn KB VB) {t : Nat} (ht : K[t]? = some k) (hM : K.length ≤ M) (hK : ∀ k ∈ K, k.length ≤ 9223372036854775807) : Bt w0 w a B c M q fl kd nn KB VB k vk vv vp (.int .i64 (t : Int)) := by
  have htK : t < K.length := (List.getElem?_eq_some_iff.1 ht).1
  obtain ⟨gk, ck, hk⟩ := own_some h.bd.ok (by rw [svs_length]; omega)
  obtain ⟨gv, cv, hv⟩ := own_some h.bd.ov (by rw [svs_length, h.bd.bm.lv]; omega)
  obtain ⟨gp, cp, hp⟩ := own_some h.bd.op (by rw [pz_len, h.bd.bm.lp]; omega)
  rw [svs_length] at hk
  rw [svs_length, h.bd.bm.lv] at hv
  rw [pz_len, h.bd.bm.lp] at hp
  subst hk hv hp
  exact ⟨gk, gv, gp, ck, cv, cp, K.length, t, g, L, f, m, o, K, V, P, rfl, rfl, rfl, rfl, h, rfl, hM, ht, hK⟩
def w_lt (w u : World) : Prop := w.heap.size ≤ u.heap.size
theorem info_i : (Try.prog.info? 3).map (fun i => (i.zero, i.size, i.bytes)) = some (some (.int .i64 0), 1, 8) := by kernel_rfl
end Kc
end Go.Proofs.Ytkamjpjmdibfgaa

/- Layer 15, the document's cache: find -/
namespace Go.Proofs.Ytkamjpjmdibfgaa
open Go.RowKit Go.Maps
namespace Kc
def th (e : En) : List Value := [.string ⟨e.k.toArray⟩, .string ⟨e.v.toArray⟩, .int .i64 (e.p : Int)]
def thc : List En → List Value
  | [] => []
  | e :: r => th e ++ thc r
theorem thc_len (L : List En) : (thc L).length = L.length * 3 := by
  induction L with
  | nil => rfl
  | cons e r ih =>
    simp only [thc, List.length_append, ih, List.length_cons]
    simp [th]
    omega
theorem thc_append (X Y : List En) : thc (X ++ Y) = thc X ++ thc Y := by
  induction X with
  | nil => rfl
  | cons e r ih => simp [thc, ih]
theorem thc_at (X Y : List En) (e : En) (j : Nat) (hj : j < 3) : (thc (X ++ e :: Y))[X.length * 3 + j]? = (th e)[j]? := by
  rw [thc_append, List.getElem?_append_right (by rw [thc_len]; omega), thc_len]
  simp only [thc]
  rw [show X.length * 3 + j - X.length * 3 = j by omega, List.getElem?_append_left (by simp [th]; omega)]
/-- the document's cache in memory -/
structure Rf (w : World) (a B : Nat) (v : Value) (L : List En) (f m o : Nat) : Prop where
  row : w.heap[a]? = some (.cells #[.int .i64 (B : Int), v, .int .i64 (f : Int), .int .i64 (m : Int), .int .i64 (o : Int)] 54 (0, 0))
  own : OwnM 3 w v L.length (thc L)
  ne : v.ownBlock ≠ some a
theorem Rf.cs {w : World} {a B : Nat} {v : Value} {L : List En} {f m o : Nat} (h : Rf w a B v L f m o) : w.cell? ⟨a, 0, none⟩ = some (.int .i64 (B : Int)) ∧ w.cell? ⟨a, 1, none⟩ = some v ∧ w.cell? ⟨a, 2, none⟩ = some (.int .i64 (f : Int)) ∧ w.cell? ⟨a, 3, none⟩ = some (.int .i64 (m : Int)) ∧ w.cell? ⟨a, 4, none⟩ = some (.int .i64 (o : Int)) := by
  have h := h.row
  refine ⟨?_, ?_, ?_, ?_, ?_⟩ <;> (rw [cell_of_row _ _ _ _ _ _ h]; rfl)
theorem ownM_e {w : World} {v : Value} {X Y : List En} {e : En} (h : OwnM 3 w v (X ++ e :: Y).length (thc (X ++ e :: Y))) : ∃ g cap, v = .slice (some ⟨g, 0, none⟩) (X ++ e :: Y).length cap ∧ w.cell? ⟨g, X.length * 3, none⟩ = some (.string ⟨e.k.toArray⟩) ∧ w.cell? ⟨g, X.length * 3 + 1, none⟩ = some (.string ⟨e.v.toArray⟩) ∧ w.cell? ⟨g, X.length * 3 + 2, none⟩ = some (.int .i64 (e.p : Int)) ∧ g < w.heap.size := by
  obtain ⟨g, cap, rfl, h1, hg⟩ := h.cell (j := X.length * 3 + 0) (thc_at X Y e 0 (by omega))
  obtain ⟨g2, cap2, e2, h2, _⟩ := h.cell (j := X.length * 3 + 1) (thc_at X Y e 1 (by omega))
  obtain ⟨g3, cap3, e3, h3, _⟩ := h.cell (j := X.length * 3 + 2) (thc_at X Y e 2 (by omega))
  injection e2 with e2 _ _
  injection e2 with e2
  injection e2 with e2
  injection e3 with e3 _ _
  injection e3 with e3
  injection e3 with e3
  subst e2 e3
  exact ⟨g, cap, rfl, h1, h2, h3, hg⟩
set_option maxRecDepth 100000 in
set_option maxHeartbeats 4000000 in
/-- where the key stands, or -1 -/
theorem rfind_any {w : World} {a B : Nat} {v : Value} {L : List En} {f m o : Nat} (h : Rf w a B v L f m o) (hl : L.length ≤ 1000000) (k : List UInt8) :
    Calls Try.prog 39 #[.pointer (some ⟨a, 0, none⟩), .string ⟨k.toArray⟩] w fun r w' => w' = w ∧ ((fnd k L = none ∧ r = .returned (.int .i64 (-1))) ∨ ∃ X Y e, L = X ++ e :: Y ∧ e.k = k ∧ (∀ x ∈ X, x.k ≠ k) ∧ r = .returned (.int .i64 (X.length : Int))) := by
  have c1 := h.cs.2.1
  have HO := hid h.own
  obtain ⟨xa, cap, hv, hcp, hcm⟩ := h.own.shape
  subst hv
  obtain ⟨n, hn⟩ : ∃ n, L.length = n := ⟨_, rfl⟩
  rw [hn] at c1 hl
  have HN := hid hn
  clear h hn hcp hcm
  obtain ⟨KB, hKB⟩ : ∃ KB, ByteArray.mk k.toArray = KB := ⟨_, rfl⟩
  rw [hKB]
  have HK := hid hKB
  clear hKB
  have vv : (KB.toList == KB.toList) = true := by simp
  go_enter Try.func39, Try.ntmps39
  go_wp2
  go_loopw [5] (fun i w' => ∃ j : Nat, j ≤ n ∧ i = .int .i64 (j : Int) ∧ Hid (∀ x ∈ L.take j, x.k ≠ k) ∧ w' = w) (fun i _ => n - (intOf i).toNat)
  case atStart => exact ⟨0, Nat.zero_le _, rfl, (fun _ h => by simp at h), rfl⟩
  case round =>
    obtain ⟨j, hj, rfl, hT, rfl⟩ := hrel
    by_cases hjn : j < n
    · have hjL : j < L.length := by rw [HN.out]; exact hjn
      obtain ⟨e, he⟩ : ∃ e, L[j] = e := ⟨_, rfl⟩
      have hsp : L = L.take j ++ e :: L.drop (j + 1) := by rw [← he, ← List.drop_eq_getElem_cons hjL, List.take_append_drop]
      have hjt : (L.take j).length = j := by rw [List.length_take]; omega
      have HO' : OwnM 3 wr (.slice xa L.length cap) (L.take j ++ e :: L.drop (j + 1)).length (thc (L.take j ++ e :: L.drop (j + 1))) := by rw [← hsp]; exact HO.out
      obtain ⟨g, cap', hg, k0, _, _, _⟩ := ownM_e HO'
      rw [hjt] at k0
      injection hg with hg _ _
      subst hg
      have y1 : (j : Int) < (n : Int) := by omega
      have y3 : (0 : Int) ≤ (j : Int) := by omega
      have hjn' := hid hjn
      have HSP := hid hsp
      have HJT := hid hjt
      by_cases hk : e.k = k
      · rw [hk, HK.out] at k0
        have HEK := hid hk
        clear hk hsp hjt HO' he hjL
        go_wp2
        go_ret
        exact ⟨rfl, .inr ⟨L.take j, L.drop (j + 1), e, HSP.out, HEK.out, hT.out, by rw [HJT.out]; rfl⟩⟩
      · have ne : ((ByteArray.mk e.k.toArray).toList == KB.toList) = false := by rw [← HK.out]; exact str_neq hk
        have hT' : Hid (∀ x ∈ L.take (j + 1), x.k ≠ k) := fun x hx => by
          rw [List.take_succ_eq_append_getElem hjL, he] at hx
          rcases List.mem_append.1 hx with h | h
          · exact hT.out x h
          · rw [List.mem_singleton.1 h]; exact hk
        clear hk hsp hjt HO' he hjL HSP HJT
        generalize (ByteArray.mk e.k.toArray) = KE at *
        go_wp2
        exact ⟨⟨j + 1, hjn'.out, by go_num, hT', trivial⟩, by have := hjn'.out; simp [RowKit.intOf]; omega⟩
    · obtain rfl : j = n := by omega
      have y1 : ¬ (j : Int) < (j : Int) := by omega
      go_wp2
      go_ret
      refine ⟨rfl, .inl ⟨fnd_of_not fun x hx => hT.out x ?_, rfl⟩⟩
      rw [List.take_of_length_le (by rw [HN.out]; omega)]
      exact hx
end Kc
end Go.Proofs.Ytkamjpjmdibfgaa

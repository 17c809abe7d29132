import Derived.Test.YtonmhimoglgbgaaDoorU1
namespace Go.Proofs.YtonmhimoglgbgaaDoor
open Go.RowKit Cod

namespace Cod
/-- what is wrong has a number below 24 -/
def NW {α : Type} (x : Rd α) : Prop := ∀ e, x = .bad e → e < 24
theorem NW.bind {α β : Type} {x : Rd α} {k : α → List UInt8 → Rd β} (h : NW x) (hk : ∀ v r, NW (k v r)) : NW (x.bind k) := by
  cases x with
  | bad e => intro f hf; exact h f (by rw [Rd.bind_bad] at hf; injection hf with hf; rw [hf])
  | good v r => exact hk v r
theorem NW.good {α : Type} (v : α) (r : List UInt8) : NW (Rd.good v r) := fun e h => by cases h
theorem NW.bad {α : Type} {e : Nat} (h : e < 24) : NW (Rd.bad e : Rd α) := fun f hf => by injection hf with hf; omega
theorem NW.ite {α : Type} {c : Prop} [Decidable c] {x y : Rd α} (hx : NW x) (hy : NW y) : NW (if c then x else y) := by split <;> assumption
theorem nw_dig : ∀ (s : List UInt8) (i acc : Nat), NW (rdDig s i acc)
  | [], i, acc => NW.ite (NW.bad (by omega)) (NW.bad (by omega))
  | b :: r, i, acc => NW.ite (NW.bad (by omega)) (NW.ite (nw_dig r _ _) (NW.ite (NW.bad (by omega)) (NW.ite (NW.bad (by omega)) (NW.good _ _))))
theorem nw_num (s : List UInt8) : NW (rdNum s) := nw_dig s 0 0
theorem nw_byte (s : List UInt8) : NW (rdByte s) := by cases s <;> first | exact NW.bad (by omega) | exact NW.good _ _
theorem nw_many (s : List UInt8) (m : Int) : NW (rdMany s m) := NW.ite (NW.bad (by omega)) (NW.bind (nw_num s) fun _ _ => NW.ite (NW.bad (by omega)) (NW.good _ _))
theorem nw_raw (s : List UInt8) (n : Int) : NW (rdRaw s n) := NW.ite (NW.bad (by omega)) (NW.ite (NW.bad (by omega)) (NW.good _ _))
theorem nw_text (s : List UInt8) (m : Int) : NW (rdText s m) := NW.bind (nw_many s m) fun _ _ => nw_raw _ _
theorem nw_textsN (m : Int) : ∀ n l s, NW (rdTextsN m n l s)
  | 0, _, _ => NW.good _ _
  | n + 1, _, s => NW.bind (nw_text s m) fun _ _ => nw_textsN m n _ _
theorem nw_texts (s : List UInt8) (many m : Int) : NW (rdTexts s many m) := NW.ite (NW.bad (by omega)) (NW.bind (nw_many s many) fun _ _ => nw_textsN m _ _ _)
theorem nw_riseN : ∀ n a l s, NW (rdRiseN n a l s)
  | 0, _, _, _ => NW.good _ _
  | n + 1, _, _, s => NW.bind (nw_num s) fun _ _ => NW.ite (NW.bad (by omega)) (nw_riseN n _ _ _)
theorem nw_rising (s : List UInt8) (many : Int) : NW (rdRising s many) := NW.bind (nw_many s many) fun _ _ => nw_riseN _ _ _ _
theorem nw_hashN : ∀ n l s, NW (rdHashN n l s)
  | 0, _, _ => NW.good _ _
  | n + 1, _, _ => nw_hashN n _ _
theorem nw_hashes (s : List UInt8) (many : Int) : NW (rdHashes s many) := NW.bind (nw_many s many) fun _ _ => NW.ite (NW.bad (by omega)) (nw_hashN _ _ _)

theorem rise_len : ∀ (least : Nat) (L : List Nat), Rises least L → (wrRise least L).length ≤ 9 * L.length
  | _, [], _ => by simp [wrRise]
  | least, n :: L, h => by
    obtain ⟨h1, h2, h3⟩ := h
    have := rise_len _ L h3
    have := digs_len9 (n := n - least) (by rw [top] at h2; omega)
    rw [wrRise, List.length_append, List.length_cons]
    omega
theorem texts_len : ∀ (L : List (List UInt8)) (m : Nat), m ≤ 1000 → (∀ t ∈ L, t.length ≤ m) → ((L.map wrText).flatten).length ≤ (9 + m) * L.length
  | [], _, _, _ => by simp
  | t :: L, m, hm, h => by
    have h1 := h t (by simp)
    have h2 := texts_len L m hm (fun u hu => h u (by simp [hu]))
    have := digs_len9 (n := t.length) (by omega)
    rw [List.map_cons, List.flatten_cons, List.length_append, wrText, List.length_append, List.length_cons, Nat.mul_add]
    omega
end Cod

/-- numbers as whole numbers -/
def ints (L : List Nat) : List Int := L.map Int.ofNat
theorem ints_toNat (L : List Nat) : (ints L).map Int.toNat = L := by
  rw [ints, List.map_map]
  conv => rhs; rw [← List.map_id L]
  apply List.map_congr_left
  intro a _
  rfl
theorem rises_of : ∀ (L : List Nat) (least : Nat), Rises least L → risesB ((least : Int) - 1) (ints L) = true
  | [], _, _ => rfl
  | n :: L, least, h => by
    obtain ⟨h1, h2, h3⟩ := h
    have := rises_of L (n + 1) h3
    rw [top] at h2
    show (decide _ && risesB (n : Int) (ints L)) = true
    rw [show ((n + 1 : Nat) : Int) - 1 = (n : Int) from by omega] at this
    rw [this, Bool.and_true]
    exact decide_eq_true ⟨by simp, by simp; omega, by simp; omega⟩
theorem of_rises : ∀ (l : List Int) (last : Int), -1 ≤ last → risesB last l = true → ∃ L, l = ints L ∧ Rises (last + 1).toNat L
  | [], _, _, _ => ⟨[], rfl, trivial⟩
  | n :: l, last, hl, h => by
    rw [risesB, Bool.and_eq_true, decide_eq_true_eq] at h
    obtain ⟨⟨h1, h2, h3⟩, h4⟩ := h
    obtain ⟨L, rfl, hL⟩ := of_rises l n (by omega) h4
    obtain ⟨m, rfl⟩ := Int.eq_ofNat_of_zero_le h1
    refine ⟨m :: L, rfl, by omega, by rw [top]; omega, ?_⟩
    rwa [show ((m : Int) + 1).toNat = m + 1 from by omega] at hL
theorem byte_again {s : List UInt8} {n : Nat} {r : List UInt8} (h : rdByte s = .good n r) : byteErr (n : Int) = 0 ∧ s = [UInt8.ofNat (n : Int).toNat] ++ r := by
  obtain ⟨h1, h2⟩ := byte_back h
  exact ⟨by rw [byteErr, if_neg (by omega)], by rw [Int.toNat_natCast]; exact h1⟩
theorem num_again {s : List UInt8} {n : Nat} {r : List UInt8} (h : rdNum s = .good n r) : numErr (n : Int) = 0 ∧ s = digs (n : Int).toNat ++ r ∧ n ≤ 4611686018427387904 := by
  obtain ⟨h1, h2⟩ := num_back h
  rw [top] at h2
  exact ⟨by rw [numErr, if_neg (by omega)], by rw [Int.toNat_natCast]; exact h1, h2⟩
theorem rising_again {s : List UInt8} {m : Int} {L : List Nat} {r : List UInt8} (h : rdRising s m = .good L r) :
    risingErr (ints L) = 0 ∧ s = wrRising ((ints L).map Int.toNat) ++ r ∧ (L.length : Int) ≤ m ∧ (m ≤ 40 → (wrRising ((ints L).map Int.toNat)).length ≤ 400) ∧ ∀ n ∈ L, n ≤ 4611686018427387904 := by
  obtain ⟨h1, h2, h3, _, h5⟩ := rising_back h
  rw [ints_toNat]
  refine ⟨by rw [risingErr, if_pos (by simpa using rises_of L 0 h5)], h1, h3, fun hm => ?_, ?_⟩
  · have := rise_len 0 L h5
    have := digs_len9 (n := L.length) (by omega)
    rw [wrRising, List.length_append]
    omega
  · clear h1 h3 h
    have key : ∀ (L : List Nat) (a : Nat), Rises a L → ∀ n ∈ L, n ≤ 4611686018427387904 := by
      intro L
      induction L with
      | nil => intro a _ n hn; cases hn
      | cons b L ih =>
        intro a h n hn
        obtain ⟨_, g2, g3⟩ := h
        rcases List.mem_cons.1 hn with rfl | hn
        · exact g2
        · exact ih _ g3 n hn
    exact key L 0 h5
theorem text_again {s : List UInt8} {m : Int} {t r : List UInt8} (h : rdText s m = .good t r) : textErr t.length m = 0 ∧ s = wrText t ++ r ∧ (t.length : Int) ≤ m ∧ (m ≤ 40 → (wrText t).length ≤ 60) := by
  obtain ⟨h1, _, h3, h4⟩ := text_back h
  refine ⟨by rw [textErr, if_neg (by omega), if_neg (by omega)], h1, h3, fun hm => ?_⟩
  have := digs_len9 (n := t.length) (by omega)
  rw [wrText, List.length_append]
  omega
theorem texts_again {s : List UInt8} {m : Int} {L : List (List UInt8)} {r : List UInt8} (h : rdTexts s m 9 = .good L r) : textsErr L m 9 = 0 ∧ s = wrTexts L ++ r ∧ (L.length : Int) ≤ m ∧ (m ≤ 40 → (wrTexts L).length ≤ 800) := by
  obtain ⟨h1, _, h3, _, h5, h6⟩ := texts_back h
  refine ⟨by rw [textsErr, if_neg (by omega), if_neg (by omega), if_pos (fun p hp => (h6 p hp).2)], h1, h3, fun hm => ?_⟩
  have := texts_len L 9 (by omega) (fun t ht => by have := (h6 t ht).2; omega)
  have := digs_len9 (n := L.length) (by omega)
  rw [wrTexts, List.length_append]
  omega
theorem hashes_again {s : List UInt8} {m : Int} {L : List (List UInt8)} {r : List UInt8} (h : rdHashes s m = .good L r) : hashesErr L m = 0 ∧ s = wrHashes L ++ r ∧ (L.length : Int) ≤ m ∧ (m ≤ 40 → (wrHashes L).length ≤ 1300) := by
  obtain ⟨h1, _, h3, h4, h5⟩ := hashes_back h
  refine ⟨by rw [hashesErr, if_neg (by omega), if_neg (by omega), if_pos h5], h1, h3, fun hm => ?_⟩
  have := flatten32 L h5
  have := digs_len9 (n := L.length) (by omega)
  rw [wrHashes, List.length_append]
  omega
theorem raw_again {s : List UInt8} {n : Int} {t r : List UInt8} (h : rdRaw s n = .good t r) : s = t ++ r ∧ (t.length : Int) = n := raw_back h

theorem Own.slcI {w : World} {base : Nat} {v : Value} {L : List Nat} (h : Own w base v (nvs L)) : SlcI w v (ints L) := by
  rcases h with ⟨rfl, h0⟩ | ⟨g, cap, rfl, h1, h2, h3, h4, h5, h6⟩
  · have : L = [] := by simpa [nvs] using h0
    subst this
    exact ⟨none, 0, rfl, fun j c hc => by simp [ints] at hc⟩
  · refine ⟨some ⟨g, 0, none⟩, cap, by rw [nvs_length, ints, List.length_map], fun j c hc => ⟨_, rfl, h6, ?_⟩⟩
    rw [Addr.add_mid]
    refine h4 j _ ?_
    rw [ints, List.getElem?_map] at hc
    rw [nvs, List.getElem?_map]
    cases hL : L[j]? with
    | none => rw [hL] at hc; cases hc
    | some n => rw [hL] at hc; obtain rfl := Option.some.inj hc; rfl
theorem Own.slcT {w : World} {base : Nat} {v : Value} {L : List (List UInt8)} (h : Own w base v (svs L)) : Slc w v L := by
  rcases h with ⟨rfl, h0⟩ | ⟨g, cap, rfl, h1, h2, h3, h4, h5, h6⟩
  · have : L = [] := by simpa [svs] using h0
    subst this
    exact ⟨none, 0, rfl, fun j c hc => by simp at hc⟩
  · refine ⟨some ⟨g, 0, none⟩, cap, by rw [svs_length], fun j c hc => ⟨_, rfl, h6, ?_⟩⟩
    rw [Addr.add_mid]
    refine h4 j _ ?_
    rw [svs, List.getElem?_map, hc]; rfl
theorem Own.apart {w : World} {base : Nat} {v : Value} {cs : List Value} (h : Own w base v cs) {S : Nat → Prop} (hS : ∀ k, S k → k < base) : Apart v S := by
  intro x n c hv hs
  rcases h with ⟨rfl, _⟩ | ⟨g, cap, rfl, h1, _⟩
  · cases hv
  · cases hv
    have := hS _ hs
    exact absurd h1 (by show ¬ base ≤ g; exact Nat.not_le.2 this)

/-- a Reader and a Writer, both of the call's own -/
structure Duo (w : World) (B RB WB : Nat) (wr : World) (v : Value) (st : RS) (ws : WSt) : Prop where
  rd : Rdr wr RB st
  wri : Wri wr B WB v ws
  ap : ¬ WS WB v RB
  bl : Below B w wr
  lo : B ≤ RB
  sz : B ≤ w.heap.size
theorem Duo.base {w : World} {B RB WB : Nat} {wr : World} {v : Value} {st : RS} {ws : WSt} (D : Duo w B RB WB wr v st ws) : B ≤ wr.heap.size := Nat.le_trans D.sz D.bl.size
theorem Duo.read {w : World} {B RB WB : Nat} {wr : World} {v : Value} {st : RS} {ws : WSt} (D : Duo w B RB WB wr v st ws) {w1 : World} {st1 : RS} (h1 : Rdr w1 RB st1) (h2 : But RB wr w1) : Duo w B RB WB w1 v st1 ws :=
  ⟨h1, D.wri.keep (S := fun k => k = RB) (Keep.ofBut h2 rfl) (fun _ hk e => D.ap (e ▸ hk)), D.ap, D.bl.trans (h2.below D.lo D.base), D.lo, D.sz⟩
theorem Duo.below {w : World} {B RB WB : Nat} {wr : World} {v : Value} {st : RS} {ws : WSt} (D : Duo w B RB WB wr v st ws) {w1 : World} (h : Below wr.heap.size wr w1) : Duo w B RB WB w1 v st ws :=
  ⟨D.rd.below h, D.wri.below h, D.ap, D.bl.trans (h.mono D.base), D.lo, D.sz⟩
theorem Duo.write {w : World} {B RB WB : Nat} {wr : World} {v : Value} {st : RS} {ws : WSt} (D : Duo w B RB WB wr v st ws) {w1 : World} {v1 : Value} {ws1 : WSt} (h1 : Wri w1 B WB v1 ws1) (h2 : Keep (WS WB v) wr w1) (h3 : From wr v v1) : Duo w B RB WB w1 v1 st ws1 :=
  ⟨D.rd.keep h2 D.ap, h1, fun e => by
    rcases e with e | e
    · exact D.ap (.inl e)
    · rcases h3 _ e with h | h
      · exact D.ap (.inr h)
      · have := D.rd.lt
        omega, D.bl.trans (D.wri.post_below D.base h2), D.lo, D.sz⟩
end Go.Proofs.YtonmhimoglgbgaaDoor

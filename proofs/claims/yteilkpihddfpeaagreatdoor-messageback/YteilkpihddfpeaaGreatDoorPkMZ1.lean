import Derived.Test.YteilkpihddfpeaaGreatDoorPkMV8
import Derived.Test.YteilkpihddfpeaaGreatDoorPkMU6
namespace Go.Proofs.YteilkpihddfpeaaGreatDoor
open Go.RowKit Cod
namespace Msg

theorem val_or {α : Type} (st : RS) (d : α) (x : Rd α) : st.val d x = d ∨ ∃ v r, x = .good v r ∧ st.val d x = v := by
  by_cases he : st.err = 0
  · cases x with
    | bad e => exact .inl (by rw [RS.val, if_pos he])
    | good v r => exact .inr ⟨v, r, rfl, by rw [RS.val, if_pos he]⟩
  · exact .inl (val_bad he)
theorem sz_top (s : TS) : (tSize s).1 ≤ 4611686018427387904 := by
  rcases val_or s.1 0 (rdNum s.1.rest) with h | ⟨v, r, h, e⟩
  · show s.1.val 0 (rdNum s.1.rest) ≤ _
    rw [h]; omega
  · show s.1.val 0 (rdNum s.1.rest) ≤ _
    have := (num_back h).2
    rw [top] at this
    rw [e]; exact this
theorem mk_top (lo hi : Int) (s : TS) : (tMark lo hi s).1 ≤ 255 := by
  rcases val_or s.1 0 (rdByte s.1.rest) with h | ⟨v, r, h, e⟩
  · show s.1.val 0 (rdByte s.1.rest) ≤ _
    rw [h]; omega
  · show s.1.val 0 (rdByte s.1.rest) ≤ _
    rw [e]; exact (byte_back h).2
theorem rl_mark (lo hi : Int) (s : TS) : (tMark lo hi s).2.1.rest.length ≤ s.1.rest.length := step_len pf_byte.le
theorem rl_size (s : TS) : (tSize s).2.1.rest.length ≤ s.1.rest.length := step_len pf_num.le
theorem rl_sizes (m : Int) (s : TS) : (tSizes m s).2.1.rest.length ≤ s.1.rest.length := step_len (pf_rising m).le
theorem rl_texts (a m k : Int) (s : TS) : (tTexts a m k s).2.1.rest.length ≤ s.1.rest.length := step_len (pf_texts m k).le
theorem rl_hashes (s : TS) : (tHashes s).2.1.rest.length ≤ s.1.rest.length := step_len (pf_hashes 32768).le
theorem rl_root (s : TS) : (tRoot s).2.1.rest.length ≤ s.1.rest.length := step_len (pf_raw 32).le
theorem rl_count (s : TS) : (tCount s).2.1.rest.length ≤ s.1.rest.length := step_len pf_num.le
def LFit (l : List Int) : Prop := (∀ c ∈ l, -9223372036854775808 ≤ c ∧ c ≤ 9223372036854775807) ∧ l.length ≤ maxLen ∧ (wrRising (l.map Int.toNat)).length ≤ 68719476736
def EFit (l : List (List UInt8)) : Prop := l.length ≤ maxLen ∧ (wrTexts l).length ≤ 68719476736
def HFit (l : List (List UInt8)) : Prop := l.length ≤ maxLen ∧ (wrHashes l).length ≤ 68719476736
theorem digs0 : (digs 0).length = 1 := by rw [digs_small (by omega)]; rfl
theorem LFit.nil : LFit [] := ⟨fun c hc => (by cases hc), by simp, by show (digs 0 ++ []).length ≤ _; rw [List.append_nil, digs0]; omega⟩
theorem EFit.nil : EFit [] := ⟨by simp, by show (digs 0 ++ []).length ≤ _; rw [List.append_nil, digs0]; omega⟩
theorem HFit.nil : HFit [] := ⟨by simp, by show (digs 0 ++ []).length ≤ _; rw [List.append_nil, digs0]; omega⟩
theorem rises_top : ∀ (L : List Nat) (a : Nat), Rises a L → ∀ n ∈ L, n ≤ 4611686018427387904
  | [], _, _, n, hn => by cases hn
  | b :: L, a, h, n, hn => by
    obtain ⟨_, g2, g3⟩ := h
    rw [top] at g2
    rcases List.mem_cons.1 hn with rfl | hn
    · exact g2
    · exact rises_top L _ g3 n hn
theorem lfit (m : Int) (hm : m ≤ 256) (s : TS) (hr : s.1.rest.length ≤ 68719476000) : LFit (ints (tSizes m s).1) := by
  rcases val_or s.1 [] (rdRising s.1.rest m) with h | ⟨v, r, h, e⟩
  · have : (tSizes m s).1 = [] := h
    rw [this]; exact LFit.nil
  · have : (tSizes m s).1 = v := e
    rw [this]
    obtain ⟨h1, h2, h3, _, h5⟩ := rising_back h
    refine ⟨fun c hc => ?_, by rw [ints_len]; unfold maxLen; omega, ?_⟩
    · obtain ⟨n, hn, rfl⟩ := List.mem_map.1 hc
      have := rises_top v 0 h5 n hn
      show -9223372036854775808 ≤ (n : Int) ∧ (n : Int) ≤ 9223372036854775807
      omega
    · rw [ints_toNat]
      have := congrArg List.length h1
      rw [List.length_append] at this
      omega
theorem efit (a m k : Int) (hm : m ≤ 4096) (s : TS) (hr : s.1.rest.length ≤ 68719476000) : EFit (tTexts a m k s).1 := by
  rcases val_or s.1 [] (rdTexts s.1.rest m k) with h | ⟨v, r, h, e⟩
  · have : (tTexts a m k s).1 = [] := h
    rw [this]; exact EFit.nil
  · have : (tTexts a m k s).1 = v := e
    rw [this]
    obtain ⟨h1, h2, h3, _⟩ := texts_back h
    refine ⟨by unfold maxLen; omega, ?_⟩
    have := congrArg List.length h1
    rw [List.length_append] at this
    omega
theorem hfit (s : TS) (hr : s.1.rest.length ≤ 68719476000) : HFit (tHashes s).1 := by
  rcases val_or s.1 [] (rdHashes s.1.rest 32768) with h | ⟨v, r, h, e⟩
  · have : (tHashes s).1 = [] := h
    rw [this]; exact HFit.nil
  · have : (tHashes s).1 = v := e
    rw [this]
    obtain ⟨h1, h2, h3, _⟩ := hashes_back h
    refine ⟨by unfold maxLen; omega, ?_⟩
    have := congrArg List.length h1
    rw [List.length_append] at this
    omega
def Nt (n : Int) : Prop := 0 ≤ n ∧ n ≤ 4611686018427387904
theorem nt_size (s : TS) : Nt ((tSize s).1 : Int) := ⟨by omega, by have := sz_top s; omega⟩
theorem nt0 : Nt 0 := ⟨by omega, by omega⟩
theorem nt_nat {k : Nat} (h : k ≤ 255) : Nt (k : Int) := ⟨by omega, by omega⟩
theorem fit_of {x : Ask} (h1 : Nt x.kind) (h2 : Nt x.a) (h3 : Nt x.b) (h4 : Nt x.size) (hl : LFit x.list) (he : EFit x.ent) : Fit x :=
  ⟨⟨by have := h1.1; omega, by have := h1.2; omega⟩, ⟨by have := h2.1; omega, by have := h2.2; omega⟩, ⟨by have := h3.1; omega, by have := h3.2; omega⟩, ⟨by have := h4.1; omega, by have := h4.2; omega⟩, hl.1, hl.2.1, he.1⟩
theorem fit_flds (da : TS → List Ask × TS) (k : Nat) (hk : k ≤ 255) (s : TS) (hr : s.1.rest.length ≤ 68719476000) : Fit (tFlds da (flds k) ((Ask.of (k : Int), []), s)).1.1 := by
  have hk' := nt_nat hk
  match k with
  | 0 => exact fit_of hk' nt0 nt0 nt0 LFit.nil EFit.nil
  | 1 => exact fit_of hk' nt0 nt0 nt0 LFit.nil (efit 1 32 4096 (by omega) s hr)
  | 2 => exact fit_of hk' nt0 nt0 nt0 LFit.nil EFit.nil
  | 3 => exact fit_of hk' nt0 nt0 (nt_size s) LFit.nil EFit.nil
  | 4 => exact fit_of hk' (nt_size s) nt0 (nt_size _) LFit.nil EFit.nil
  | 5 => exact fit_of hk' (nt_size s) nt0 (nt_size _) LFit.nil EFit.nil
  | 6 => exact fit_of hk' nt0 nt0 (nt_size s) (lfit 256 (by omega) (tSize s).2 (Nat.le_trans (rl_size s) hr)) EFit.nil
  | 7 => exact fit_of hk' nt0 nt0 nt0 (lfit 64 (by omega) s hr) EFit.nil
  | 8 => exact fit_of hk' (nt_size s) (nt_size _) (nt_size _) LFit.nil EFit.nil
  | 9 => exact fit_of hk' (nt_size s) (nt_size _) (nt_size _) LFit.nil EFit.nil
  | 10 => exact fit_of hk' (nt_size s) nt0 nt0 LFit.nil EFit.nil
  | 11 => exact fit_of hk' (nt_size s) nt0 nt0 LFit.nil EFit.nil
  | 12 => exact fit_of hk' nt0 nt0 nt0 LFit.nil EFit.nil
  | n + 13 => exact fit_of hk' nt0 nt0 nt0 LFit.nil EFit.nil
theorem rl_flds (k : Nat) (s : TS) : (tFlds (fun s => ([], s)) (flds k) ((Ask.of (k : Int), []), s)).2.1.rest.length ≤ s.1.rest.length := by
  match k with
  | 0 => exact Nat.le_refl _
  | 1 => exact rl_texts 1 32 4096 s
  | 2 => exact Nat.le_refl _
  | 3 => exact rl_size s
  | 4 => exact Nat.le_trans (rl_size _) (rl_size s)
  | 5 => exact Nat.le_trans (rl_size _) (rl_size s)
  | 6 => exact Nat.le_trans (rl_sizes 256 _) (rl_size s)
  | 7 => exact rl_sizes 64 s
  | 8 => exact Nat.le_trans (rl_size _) (Nat.le_trans (rl_size _) (rl_size s))
  | 9 => exact Nat.le_trans (rl_size _) (Nat.le_trans (rl_size _) (rl_size s))
  | 10 => exact rl_size s
  | 11 => exact rl_size s
  | 12 => exact Nat.le_refl _
  | n + 13 => exact Nat.le_refl _
theorem rl_ask (s : TS) : (tAsk s).2.1.rest.length ≤ s.1.rest.length := by
  show (tReq (fun s => ([], s)) 3 7 s).2.1.rest.length ≤ _
  rw [tReq]
  split
  · exact Nat.le_trans (rl_flds _ _) (rl_mark 3 7 s)
  · exact rl_mark 3 7 s
theorem gd_req (da : TS → List Ask × TS) (db : List Ask → LS → LS) (hd : ∀ s, Sim s (da s).2 (db (da s).1)) (lo hi : Int) (s : TS) (hr : s.1.rest.length ≤ 68719476000) (h2 : (tReq da lo hi s).2.2 = false) : Gd (tReq da lo hi s).1.1 lo hi := by
  by_cases hw : wi ((tMark lo hi s).1 : Int) lo hi = true
  · obtain ⟨_, g2, g3⟩ := sim_flds da db hd (tMark lo hi s).1 (tMark lo hi s).2
    have he : tReq da lo hi s = tFlds da (flds (tMark lo hi s).1) ((Ask.of ((tMark lo hi s).1 : Int), []), (tMark lo hi s).2) := if_pos hw
    rw [he]
    refine ⟨fit_flds da _ (mk_top lo hi s) _ (Nat.le_trans (rl_mark lo hi s) hr), by rw [g3]; exact hw, ?_⟩
    rw [g3, Int.toNat_natCast]
    exact g2
  · rw [tReq, if_neg hw] at h2
    exact absurd (mark_ok h2) hw
theorem many_gd : ∀ (n : Nat) (l : List Ask) (s : TS), s.1.rest.length ≤ 68719476000 → (tMany n l s).2.1.err = 0 → (tMany n l s).2.2 = false → (∀ x ∈ l, Gd x 3 7) → ∀ x ∈ (tMany n l s).1, Gd x 3 7
  | 0, l, s, _, _, _, h => h
  | n + 1, l, s, hr, e1, e2, h => by
    rw [tMany] at e1 e2 ⊢
    obtain ⟨l', _, hS⟩ := sim_many n (l ++ [(tAsk s).1]) (tAsk s).2
    obtain ⟨a1, a2, _⟩ := hS e1 e2
    refine many_gd n _ _ (Nat.le_trans (rl_ask s) hr) e1 e2 fun x hx => ?_
    rcases List.mem_append.1 hx with hx | hx
    · exact h x hx
    · rw [List.mem_singleton] at hx
      subst hx
      exact gd_req (fun s => ([], s)) (fun _ => id) (fun s => Sim.refl s) 3 7 s hr a2
theorem done_err {st : RS} (h : st.done = 0) : st.err = 0 := by
  by_cases he : st.err = 0
  · exact he
  · rw [RS.done, if_neg he] at h; exact h
theorem request_gd (s : TS) (hr : s.1.rest.length ≤ 68719476000) (h : (tRequest s).2.1.err = 0) (k : (tRequest s).2.2 = false) :
    Gd (tRequest s).1.1 1 12 ∧ ((tRequest s).1.1.kind = 12 → wi ((tRequest s).1.2.length : Int) 1 64 = true ∧ ∀ x ∈ (tRequest s).1.2, Gd x 3 7) := by
  refine ⟨gd_req tAsks lAsks sim_asks 1 12 s hr k, fun h12 => ?_⟩
  by_cases hw : wi ((tMark 1 12 s).1 : Int) 1 12 = true
  · obtain ⟨_, _, g3⟩ := sim_flds tAsks lAsks sim_asks (tMark 1 12 s).1 (tMark 1 12 s).2
    have he : tRequest s = tFlds tAsks (flds (tMark 1 12 s).1) ((Ask.of ((tMark 1 12 s).1 : Int), []), (tMark 1 12 s).2) := if_pos hw
    rw [he] at h12 h k ⊢
    rw [g3] at h12
    have hm : (tMark 1 12 s).1 = 12 := by omega
    rw [hm] at h k ⊢
    have e1 : (tAsks (tMark 1 12 s).2).2.1.err = 0 := h
    have e2 : (tAsks (tMark 1 12 s).2).2.2 = false := k
    show wi ((tAsks (tMark 1 12 s).2).1.length : Int) 1 64 = true ∧ ∀ x ∈ (tAsks (tMark 1 12 s).2).1, Gd x 3 7
    generalize hs1 : (tMark 1 12 s).2 = s1 at *
    obtain ⟨l', _, hS⟩ := sim_many (tCount s1).1 [] (tCount s1).2
    obtain ⟨_, b2, _⟩ := hS e1 e2
    have hl := tMany_len (tCount s1).1 [] (tCount s1).2
    have hr1 : s1.1.rest.length ≤ 68719476000 := by rw [← hs1]; exact Nat.le_trans (rl_mark 1 12 s) hr
    refine ⟨?_, many_gd _ _ _ (Nat.le_trans (rl_count s1) hr1) e1 e2 (fun x hx => by cases hx)⟩
    have := (sim_count s1).2 b2
    rw [tAsks, hl, List.length_nil, Nat.zero_add]; exact this
  · rw [tRequest, tReq, if_neg hw] at k
    exact absurd (mark_ok k) hw
theorem pfit_of {x : Part} (h2 : Nt x.size) (h3 : Nt x.a) (hh : HFit x.hs) (he : EFit x.ent) : PFit x :=
  ⟨⟨by have := h2.1; omega, by have := h2.2; omega⟩, ⟨by have := h3.1; omega, by have := h3.2; omega⟩, hh.1, he.1⟩
theorem pfit_frs (dp : TS → List Part × TS) (k : Nat) (s : TS) (hr : s.1.rest.length ≤ 68719476000) : PFit (tFrs dp (rflds k) ((Part.of 0, []), s)).1.1 := by
  match k with
  | 0 => exact pfit_of nt0 nt0 HFit.nil EFit.nil
  | 1 => exact pfit_of (nt_size s) (nt_size _) HFit.nil EFit.nil
  | 2 => exact pfit_of (nt_size s) nt0 HFit.nil EFit.nil
  | 3 => exact pfit_of nt0 nt0 HFit.nil EFit.nil
  | 4 => exact pfit_of nt0 nt0 (hfit s hr) EFit.nil
  | 5 => exact pfit_of nt0 nt0 (hfit s hr) EFit.nil
  | 6 => exact pfit_of nt0 nt0 (hfit s hr) EFit.nil
  | 7 => exact pfit_of nt0 nt0 (hfit s hr) EFit.nil
  | 8 => exact pfit_of nt0 nt0 (hfit _ (Nat.le_trans (rl_texts 0 4096 1000 s) hr)) (efit 0 4096 1000 (by omega) s hr)
  | 9 => exact pfit_of nt0 (nt_size s) HFit.nil EFit.nil
  | 10 => exact pfit_of nt0 (nt_size s) (hfit _ (Nat.le_trans (rl_texts 0 4096 1000 _) (Nat.le_trans (rl_mark 0 1 _) (Nat.le_trans (rl_size s) hr)))) (efit 0 4096 1000 (by omega) _ (Nat.le_trans (rl_mark 0 1 _) (Nat.le_trans (rl_size s) hr)))
  | 11 => exact pfit_of nt0 nt0 HFit.nil EFit.nil
  | 12 => exact pfit_of nt0 nt0 HFit.nil EFit.nil
  | n + 13 => exact pfit_of nt0 nt0 HFit.nil EFit.nil
theorem pfit_form (s : TS) (hr : s.1.rest.length ≤ 68719476000) : PFit (tForm s).1.1 ∧ (tForm s).2.1.rest.length ≤ s.1.rest.length := by
  have h1 := rl_mark 0 1 s
  rw [tForm]
  split
  · split
    · exact ⟨pfit_of nt0 nt0 (hfit _ (Nat.le_trans h1 hr)) EFit.nil, Nat.le_trans (rl_hashes _) h1⟩
    · exact ⟨pfit_of nt0 nt0 HFit.nil EFit.nil, Nat.le_trans (rl_root _) h1⟩
  · exact ⟨pfit_of nt0 nt0 HFit.nil EFit.nil, h1⟩
theorem rl_part (s : TS) (hr : s.1.rest.length ≤ 68719476000) : (tPart s).2.1.rest.length ≤ s.1.rest.length := by
  have h1 := rl_mark 0 8 s
  show (tTail 0 tForm s).2.1.rest.length ≤ _
  rw [tTail]
  split
  · exact Nat.le_trans (pfit_form _ (Nat.le_trans h1 hr)).2 h1
  · exact h1
theorem gp_part (s : TS) (hr : s.1.rest.length ≤ 68719476000) (e1 : (tPart s).2.1.err = 0) (e2 : (tPart s).2.2 = false) : Gp (tPart s).1 := by
  have h1 := rl_mark 0 8 s
  by_cases hd : isDn ((tMark 0 8 s).1 : Int) 0 = true
  · have he : tTail 0 tForm s = tForm (tMark 0 8 s).2 := if_pos hd
    have f1 : (tForm (tMark 0 8 s).2).2.1.err = 0 := by rw [← he]; exact e1
    have f2 : (tForm (tMark 0 8 s).2).2.2 = false := by rw [← he]; exact e2
    obtain ⟨g1, g2⟩ := (sim_form (tMark 0 8 s).2).2 f1 f2
    have hx : (tPart s).1 = (tForm (tMark 0 8 s).2).1.1 := by rw [← he]; rfl
    rw [hx]
    exact ⟨(pfit_form _ (Nat.le_trans h1 hr)).1, by rw [g1]; rfl, fun _ => g2, fun h => absurd g1 h⟩
  · have he : tTail 0 tForm s = ((Part.of ((tMark 0 8 s).1 : Int), []), (tMark 0 8 s).2) := if_neg hd
    have hw : wi ((tMark 0 8 s).1 : Int) 0 8 = true := mark_ok (by
      have : (tTail 0 tForm s).2.2 = false := e2
      rw [he] at this; exact this)
    have hx : (tPart s).1 = Part.of ((tMark 0 8 s).1 : Int) := by show (tTail 0 tForm s).1.1 = _; rw [he]
    rw [hx]
    refine ⟨pfit_of nt0 nt0 HFit.nil EFit.nil, hw, fun h => ?_, fun _ => rfl⟩
    have h : ((tMark 0 8 s).1 : Int) = 0 := h
    exact absurd (by rw [isDn, hw, Bool.true_and]; exact decide_eq_true h) hd
theorem many_gp : ∀ (n : Nat) (l : List Part) (s : TS), s.1.rest.length ≤ 68719476000 → (tManyP n l s).2.1.err = 0 → (tManyP n l s).2.2 = false → (∀ x ∈ l, Gp x) → ∀ x ∈ (tManyP n l s).1, Gp x
  | 0, l, s, _, _, _, h => h
  | n + 1, l, s, hr, e1, e2, h => by
    rw [tManyP] at e1 e2 ⊢
    obtain ⟨l', _, hS⟩ := sim_manyP n (l ++ [(tPart s).1]) (tPart s).2
    obtain ⟨a1, a2, _⟩ := hS e1 e2
    refine many_gp n _ _ (Nat.le_trans (rl_part s hr) hr) e1 e2 fun x hx => ?_
    rcases List.mem_append.1 hx with hx | hx
    · exact h x hx
    · rw [List.mem_singleton] at hx
      subst hx
      exact gp_part s hr a1 a2
theorem parts_gp (s1 : TS) (hr1 : s1.1.rest.length ≤ 68719476000) (e1 : (tParts s1).2.1.err = 0) (e2 : (tParts s1).2.2 = false) : wi ((tParts s1).1.length : Int) 1 64 = true ∧ ∀ x ∈ (tParts s1).1, Gp x := by
  obtain ⟨l', _, hS⟩ := sim_manyP (tCount s1).1 [] (tCount s1).2
  obtain ⟨_, b2, _⟩ := hS e1 e2
  have hl := tManyP_len (tCount s1).1 [] (tCount s1).2
  refine ⟨?_, many_gp _ _ _ (Nat.le_trans (rl_count s1) hr1) e1 e2 (fun x hx => by cases hx)⟩
  have := (sim_count s1).2 b2
  rw [tParts, hl, List.length_nil, Nat.zero_add]; exact this
theorem reply_gr (K : Nat) (s : TS) (hr : s.1.rest.length ≤ 68719476000) (h : (tReply K s).2.1.err = 0) (k : (tReply K s).2.2 = false) :
    Gr K (tReply K s).1.1 ∧ (K = 12 → (tReply K s).1.1.status = 0 → wi ((tReply K s).1.2.length : Int) 1 64 = true ∧ ∀ x ∈ (tReply K s).1.2, Gp x) := by
  by_cases hw : wi ((tMark (K : Int) (K : Int) s).1 : Int) (K : Int) (K : Int) = true
  · have he : tReply K s = tTail (leastOf (K : Int)) (fun s => tFrs tParts (rflds K) ((Part.of 0, []), s)) (tMark (K : Int) (K : Int) s).2 := if_pos hw
    rw [he] at h k ⊢
    have hr1 : (tMark (K : Int) (K : Int) s).2.1.rest.length ≤ 68719476000 := Nat.le_trans (rl_mark _ _ s) hr
    generalize (tMark (K : Int) (K : Int) s).2 = s1 at *
    have h1 := rl_mark (leastOf (K : Int)) 8 s1
    by_cases hd : isDn ((tMark (leastOf (K : Int)) 8 s1).1 : Int) (leastOf (K : Int)) = true
    · have he2 : tTail (leastOf (K : Int)) (fun s => tFrs tParts (rflds K) ((Part.of 0, []), s)) s1 = tFrs tParts (rflds K) ((Part.of 0, []), (tMark (leastOf (K : Int)) 8 s1).2) := if_pos hd
      rw [he2] at h k ⊢
      have hl0 : wi 0 (leastOf (K : Int)) 8 = true := by
        rw [isDn, Bool.and_eq_true, decide_eq_true_eq] at hd
        rw [← hd.2]; exact hd.1
      obtain ⟨g1, g2⟩ := (sim_frs K (tMark (leastOf (K : Int)) 8 s1).2).2 h k
      refine ⟨⟨pfit_frs tParts K _ (Nat.le_trans h1 hr1), by rw [g1]; exact hl0, fun _ => g2, fun e => absurd g1 e⟩, fun h12 _ => ?_⟩
      subst h12
      exact parts_gp (tMark (leastOf ((12 : Nat) : Int)) 8 s1).2 (Nat.le_trans h1 hr1) h k
    · have he2 : tTail (leastOf (K : Int)) (fun s => tFrs tParts (rflds K) ((Part.of 0, []), s)) s1 = ((Part.of ((tMark (leastOf (K : Int)) 8 s1).1 : Int), []), (tMark (leastOf (K : Int)) 8 s1).2) := if_neg hd
      rw [he2] at h k ⊢
      have hw2 := mark_ok k
      have hne : ¬ (Part.of ((tMark (leastOf (K : Int)) 8 s1).1 : Int)).status = 0 := fun e => by
        have e : ((tMark (leastOf (K : Int)) 8 s1).1 : Int) = 0 := e
        exact hd (by rw [isDn, hw2, Bool.true_and]; exact decide_eq_true e)
      exact ⟨⟨pfit_of nt0 nt0 HFit.nil EFit.nil, hw2, fun e => absurd e hne, fun _ => rfl⟩, fun _ e => absurd e hne⟩
  · rw [tReply, if_neg hw] at k
    exact absurd (mark_ok k) hw
end Msg
end Go.Proofs.YteilkpihddfpeaaGreatDoor

namespace Go.Proofs.YteilkpihddfpeaaGreatDoor
open Go.RowKit Cod
namespace Msg

set_option maxRecDepth 100000 in
set_option maxHeartbeats 4000000 in
/-- DecodeReply of no kind -/
theorem decodeR_kind (k : Int) (hw : wi k 0 12 = false) (s : ByteArray) (w : World) :
    Calls Tryz.prog 7 #[.int .i64 k, .string s] w fun e w' => e = .returned (.tuple #[rp0, sv [], .int .i64 170]) ∧ Below w.heap.size w w' := by
  have r0 := hid (heap_alloc_new w (.cells #[.int .i64 0, .int .i64 0, .int .i64 0, .int .i64 0, .string ⟨#[]⟩, .slice none 0 0, .slice none 0 0, .slice none 0 0] 26))
  have b0 := hid ((Below.refl w.heap.size w).alloc (Nat.le_refl _) (.cells #[.int .i64 0, .int .i64 0, .int .i64 0, .int .i64 0, .string ⟨#[]⟩, .slice none 0 0, .slice none 0 0, .slice none 0 0] 26))
  go_enter Tryz.func7, Tryz.ntmps7
  go_wp2_with (first
    | (go_at_call 15; refine (within_any _ _ _ _).mono ?_; rw [hw]; rintro e w' ⟨rfl, hw'⟩; rw [hw']; clear hw' w')
    | ((with_reducible show wpList _ _ _ (Oper.mk _ (Op.store 26 _ _) _ _ _ _ :: _) _ _); go_must (refine wpList_store_row rfl 26 _ _ rfl w.heap.size _ rfl rfl 26 _ r0.out (sizeRp' _ _ _ _ _ _ _ _) rfl (oneRp _ _ _ _ _ _ _ _ _ _ _ _ _ _) ?_)))
  refine bodyPost_ret (results_row_tmp2 rfl _ _ w.heap.size 26 _ (0, 0) _ rfl (setRow_heap _ _ _ _ _ _ r0.out) Tryz.underlying26 rfl sizeRp) rfl ?_
  exact ⟨rfl, Below.setRow b0.out (Nat.le_refl _) _⟩
def kx : Ask := ⟨4, 3, 0, 300, [], [], 0⟩
theorem d300 : digs 300 = [172, 2] := by rw [digs_great (by omega), digs_small (by omega)]; rfl
theorem k_lay : lRequest kx [] (.ok [], false) = (.ok [4, 3, 172, 2], false) := by
  show lReq kx (lAsks []) 1 12 _ = _
  rw [lReq, if_pos (by decide)]
  show ((lSize 300 (lSize 3 (lMark 4 1 12 (.ok [], false)))).1, (lSize 300 (lSize 3 (lMark 4 1 12 (.ok [], false)))).2 || !whole kx kx) = _
  rw [whole_self, Bool.not_true, Bool.or_false, lMark, lif_yes (by decide), lSize, lif_yes (by decide), lSize, lif_yes (by decide)]
  rw [show (3 : Int).toNat = 3 from rfl, show (300 : Int).toNat = 300 from rfl, d300, digs_small (n := 3) (by omega)]
  rfl
theorem k_wr : wrText [4, 3, 172, 2] = [4, 4, 3, 172, 2] := by
  rw [wrText, show ([4, 3, 172, 2] : List UInt8).length = 4 from rfl, digs_small (by omega)]; rfl
theorem k_rd : rdText [4, 4, 3, 172, 2, 120] 1048576 = .good [4, 3, 172, 2] [120] := by
  have := text_there (t := [4, 3, 172, 2]) (most := 1048576) (by decide) (by decide) [120]
  rw [k_wr] at this
  exact this
theorem k_tk : (tRequest (⟨[4, 3, 172, 2], 0, 0⟩, false)).1.1 = kx ∧ (decide ((tRequest (⟨[4, 3, 172, 2], 0, 0⟩, false)).2.1.done = 0) && !(tRequest (⟨[4, 3, 172, 2], 0, 0⟩, false)).2.2) = true := by
  constructor <;> rfl
theorem k_rq (w : World) : Rq w kx [] (.slice none 0 0) (.slice none 0 0) (.slice none 0 0) :=
  ⟨⟨fun y n c e => (by cases e), fun y n c e => (by cases e), nilI _, nilT _, ⟨none, 0, rfl⟩⟩, ⟨fit_of ⟨by decide, by decide⟩ ⟨by decide, by decide⟩ nt0 ⟨by decide, by decide⟩ LFit.nil EFit.nil, by decide, rfl⟩, fun h => absurd h (by decide)⟩
def kp : Part := ⟨2, 0, 0, 0, [], [], [], 0⟩
theorem p_lay : lReply ((2 : Nat) : Int) kp [] (.ok [], false) = (.ok [2, 2], false) := by rfl
theorem p_wr : wrText [2, 2] = [2, 2, 2] := by
  rw [wrText, show ([2, 2] : List UInt8).length = 2 from rfl, digs_small (by omega)]; rfl
theorem p_rd : rdText [2, 2, 2] 1048576 = .good [2, 2] [] := by
  have := text_there (t := [2, 2]) (most := 1048576) (by decide) (by decide) []
  rw [p_wr] at this
  exact this
theorem p_tk : (tReply 2 (⟨[2, 2], 0, 0⟩, false)).1.1 = kp ∧ (decide ((tReply 2 (⟨[2, 2], 0, 0⟩, false)).2.1.done = 0) && !(tReply 2 (⟨[2, 2], 0, 0⟩, false)).2.2) = true := by
  constructor <;> rfl
theorem p_rr (w : World) : Rr w 2 kp [] (.slice none 0 0) (.slice none 0 0) (.slice none 0 0) :=
  ⟨⟨fun y n c e => (by cases e), fun y n c e => (by cases e), nilT _, nilT _, ⟨none, 0, rfl⟩⟩, ⟨pfit_of nt0 nt0 HFit.nil EFit.nil, by decide, fun h => absurd h (by decide), fun _ => rfl⟩, fun h => absurd h (by decide)⟩
end Msg
end Go.Proofs.YteilkpihddfpeaaGreatDoor

namespace Go.Proofs.YteilkpihddfpeaaGreatDoor
open Go.RowKit Cod
namespace Msg

theorem Got.ak {w : World} {lo : Nat} {x : Ask} {l : List Ask} {ul ue ua : Value} (h : Got w lo x l ul ue ua) : Ak w w.heap.size x ul ue ua := by
  obtain ⟨h1, h2, h3, h4, h5, h6⟩ := h
  refine ⟨h2.lw, h4.lw, h1, h3, ?_⟩
  obtain ⟨p, q, e⟩ := h5.shape
  exact ⟨p, q, by rw [e, h6]⟩
theorem GotR.ap {w : World} {lo : Nat} {x : Part} {l : List Part} {ul ue ua : Value} (h : GotR w lo x l ul ue ua) : Ap w w.heap.size x ul ue ua := by
  obtain ⟨h1, h2, h3, h4, h5, h6⟩ := h
  refine ⟨h2.lw, h4.lw, h1, h3, ?_⟩
  obtain ⟨p, q, e⟩ := h5.shape
  exact ⟨p, q, by rw [e, h6]⟩
set_option maxRecDepth 100000 in
set_option maxHeartbeats 4000000 in
theorem known17_any (w : World) (T : Lay w) : Calls Tryz.prog 5 #[] w fun e w' => e = .returned (.bool true) ∧ Below w.heap.size w w' := by
  have hT := T.lt
  have i1 := encode_yes T (k_rq w) k_lay (by decide)
  rw [k_wr, akV] at i1
  simp only [kx, sv] at i1
  have ha : ∀ w, (binOp .add 9 (.string ⟨#[4, 4, 3, 172, 2]⟩) (.string ⟨#[120]⟩)).run Tryz.prog w = .ok (.string ⟨#[4, 4, 3, 172, 2, 120]⟩) w := fun w => add_sv Tryz.prog 9 [4, 4, 3, 172, 2] [120] (by decide) w
  have HT := hid T
  clear T
  go_enter Tryz.func5, Tryz.ntmps5
  go_wp2_with (first
    | (go_at_call 10; refine i1.mono ?_; rintro e w1 ⟨rfl, h1⟩; have B1 := hid h1; clear h1)
    | (go_at_call 13; fail))
  go_at_call 13
  have T1 : Lay w1 := HT.out.below B1.out hT
  refine (decode_any ⟨#[4, 4, 3, 172, 2, 120]⟩ w1 T1 (by decide)).mono ?_
  rintro e w2 ⟨b2, hD⟩
  have hD : DOk (tRequest (⟨[4, 3, 172, 2], 0, 0⟩, false)) [120] w1 e w2 := by
    have hD' : (match rdText [4, 4, 3, 172, 2, 120] 1048576 with
      | .bad k => e = .returned (.tuple #[rq0, sv [], .int .i64 (unfr k)])
      | .good p r => DOk (tRequest (⟨p, 0, 0⟩, false)) r w1 e w2) := hD
    rw [k_rd] at hD'
    exact hD'
  unfold DOk at hD
  rw [if_pos k_tk.2, k_tk.1] at hD
  obtain ⟨ul, ue, ua, rfl, g1, g2, g3, g4, g5, g6⟩ := hD
  obtain ⟨p1, n1, e1, _⟩ := id g1
  obtain ⟨p2, n2, e2, _⟩ := id g3
  obtain ⟨p3, n3, e3⟩ := g5.shape
  subst e1 e2 e3
  rw [akV]
  have B2 : Hid (Below w.heap.size w w2) := B1.out.trans (b2.mono B1.out.size)
  simp only [kx, sv, List.length_nil] at *
  generalize (tRequest (⟨[4, 3, 172, 2], 0, 0⟩, false)).1.2.length = n9 at *
  clear g1 g2 g3 g4 g5 g6 i1 T1 b2
  have b2a := (Below.refl w2.heap.size w2).alloc (Nat.le_refl _) (.cells #[.int .i64 4, .int .i64 3, .int .i64 0, .int .i64 300, .slice p1 0 n1, .slice p2 0 n2, .slice p3 n9 n3] 40)
  have r2a := heap_alloc_new w2 (.cells #[.int .i64 4, .int .i64 3, .int .i64 0, .int .i64 300, .slice p1 0 n1, .slice p2 0 n2, .slice p3 n9 n3] 40)
  have z2a := size_alloc w2 (.cells #[.int .i64 4, .int .i64 3, .int .i64 0, .int .i64 300, .slice p1 0 n1, .slice p2 0 n2, .slice p3 n9 n3] 40)
  have B2a : Hid (Below w.heap.size w (w2.alloc (.cells #[.int .i64 4, .int .i64 3, .int .i64 0, .int .i64 300, .slice p1 0 n1, .slice p2 0 n2, .slice p3 n9 n3] 40))) := B2.out.trans (b2a.mono B2.out.size)
  have i3 := encodeReply_yes (K := 2) (HT.out.below B2a.out hT) (by omega) (p_rr _) p_lay (by decide)
  rw [p_wr, rpV] at i3
  simp only [kp, sv] at i3
  have R2a := hid r2a
  have Z2a := hid z2a
  clear b2a r2a z2a
  have i3 : Calls Tryz.prog 6 #[.int .i64 2, .agg #[.int .i64 2, .int .i64 0, .int .i64 0, .int .i64 0, .string ⟨#[]⟩, .slice none 0 0, .slice none 0 0, .slice none 0 0]] (w2.alloc (.cells #[.int .i64 4, .int .i64 3, .int .i64 0, .int .i64 300, .slice p1 0 n1, .slice p2 0 n2, .slice p3 n9 n3] 40)) fun e w' => e = .returned (.tuple #[.string ⟨#[2, 2, 2]⟩, .int .i64 0]) ∧ Below (w2.alloc (.cells #[.int .i64 4, .int .i64 3, .int .i64 0, .int .i64 300, .slice p1 0 n1, .slice p2 0 n2, .slice p3 n9 n3] 40)).heap.size (w2.alloc (.cells #[.int .i64 4, .int .i64 3, .int .i64 0, .int .i64 300, .slice p1 0 n1, .slice p2 0 n2, .slice p3 n9 n3] 40)) w' := i3
  go_wp2_with (first
    | (go_at_call 6; refine i3.mono ?_; rintro e w3 ⟨rfl, h3⟩; have R3 := hid ((h3.block _ (by have := Z2a.out; omega)).trans R2a.out); have B3 := hid (B2a.out.trans (h3.mono B2a.out.size)); have Z3 := hid (Nat.le_trans (Nat.le_of_eq Z2a.out.symm) h3.size); clear h3)
    | (go_at_call 7; fail))
  go_at_call 7
  have T3 : Lay w3 := HT.out.below B3.out hT
  have i4 : Calls Tryz.prog 7 #[.int .i64 2, .string ⟨#[2, 2, 2]⟩] w3 (DPostR 2 [2, 2, 2] w3) := decodeR_any 2 (by omega) ⟨#[2, 2, 2]⟩ w3 T3 (by decide)
  refine i4.mono ?_
  rintro e w4 ⟨b4, hD⟩
  have hD : DOkR (tReply 2 (⟨[2, 2], 0, 0⟩, false)) [] w3 e w4 := by
    rw [p_rd] at hD
    exact hD
  unfold DOkR at hD
  rw [if_pos p_tk.2, p_tk.1] at hD
  obtain ⟨uh, ue', up, rfl, g1, g2, g3, g4, g5, g6⟩ := hD
  obtain ⟨p4, n4, e1, _⟩ := id g1
  obtain ⟨p5, n5, e2, _⟩ := id g3
  obtain ⟨p6, n6, e3⟩ := g5.shape
  subst e1 e2 e3
  rw [rpV]
  have B4 : Hid (Below w.heap.size w w4) := B3.out.trans (b4.mono B3.out.size)
  have r4 := (b4.block w2.heap.size (by have := Z3.out; omega)).trans R3.out
  have hlt4 : w2.heap.size < w4.heap.size := by have := Z3.out; have := b4.size; omega
  have hne4 : ¬ w2.heap.size = w4.heap.size := by omega
  have y0 : w4.cell? ⟨w2.heap.size, 0, none⟩ = some (.int .i64 4) := by rw [cell_of_row _ _ _ _ _ _ r4]; rfl
  have y1 : w4.cell? ⟨w2.heap.size, 1, none⟩ = some (.int .i64 3) := by rw [cell_of_row _ _ _ _ _ _ r4]; rfl
  have y3 : w4.cell? ⟨w2.heap.size, 3, none⟩ = some (.int .i64 300) := by rw [cell_of_row _ _ _ _ _ _ r4]; rfl
  simp only [kp, sv, List.length_nil] at *
  generalize (tReply 2 (⟨[2, 2], 0, 0⟩, false)).1.2.length = n8 at *
  clear g1 g2 g3 g4 g5 g6 i3 i4 T3 b4 r4
  have B5 := hid (B4.out.trans (((Below.refl w4.heap.size w4).alloc (Nat.le_refl _) (.cells #[.int .i64 2, .int .i64 0, .int .i64 0, .int .i64 0, .string ⟨#[]⟩, .slice p4 0 n4, .slice p5 0 n5, .slice p6 n8 n6] 26)).mono B4.out.size))
  go_wp2
  go_ret
  exact ⟨rfl, B5.out⟩
end Msg
end Go.Proofs.YteilkpihddfpeaaGreatDoor

namespace Go.Proofs.YteilkpihddfpeaaGreatDoor
open Go.RowKit Cod
namespace Msg

theorem Got.bl {w w' : World} {lo : Nat} {x : Ask} {l : List Ask} {ul ue ua : Value} (h : Got w lo x l ul ue ua) (hb : Below w.heap.size w w') : Got w' lo x l ul ue ua := by
  obtain ⟨h1, h2, h3, h4, h5, h6⟩ := h
  have k : Keep (fun k => w.heap.size ≤ k) w w' := Keep.ofBelow hb
  have hS : ∀ k, lo ≤ k → k < w.heap.size → ¬ w.heap.size ≤ k := fun k _ h e => by omega
  exact ⟨h2.slcI h1 k hS, h2.mono (Nat.le_refl _) hb.size, h4.slc h3 k hS, h4.mono (Nat.le_refl _) hb.size, (h5.keep k hS).mono' hb.size, h6⟩
theorem GotR.bl {w w' : World} {lo : Nat} {x : Part} {l : List Part} {ul ue ua : Value} (h : GotR w lo x l ul ue ua) (hb : Below w.heap.size w w') : GotR w' lo x l ul ue ua := by
  obtain ⟨h1, h2, h3, h4, h5, h6⟩ := h
  have k : Keep (fun k => w.heap.size ≤ k) w w' := Keep.ofBelow hb
  have hS : ∀ k, lo ≤ k → k < w.heap.size → ¬ w.heap.size ≤ k := fun k _ h e => by omega
  exact ⟨h2.slc h1 k hS, h2.mono (Nat.le_refl _) hb.size, h4.slc h3 k hS, h4.mono (Nat.le_refl _) hb.size, (h5.keep k hS).mono (Nat.le_refl _) hb.size, h6⟩
/-- Decode refuses s -/
def NoD (s : ByteArray) (c : Int) : Prop := ∀ w, Lay w → Calls Tryz.prog 13 #[.string s] w fun e w' => e = .returned (.tuple #[rq0, sv [], .int .i64 c]) ∧ Below w.heap.size w w'
/-- Decode takes s, and what it tells is laid down as s began -/
def YesD (s : ByteArray) (x : Ask) (l : List Ask) (f r : List UInt8) : Prop :=
  (∀ w, Lay w → Calls Tryz.prog 13 #[.string s] w fun e w' => (∃ ul ue ua, e = .returned (.tuple #[akV x ul ue ua, sv r, .int .i64 0]) ∧ Got w' w.heap.size x l ul ue ua) ∧ Below w.heap.size w w') ∧
  (∀ w lo ul ue ua, Lay w → Got w lo x l ul ue ua → Calls Tryz.prog 10 #[akV x ul ue ua] w fun e w' => e = .returned (.tuple #[sv f, .int .i64 0]) ∧ Below w.heap.size w w') ∧
  s.data.toList = f ++ r
theorem d_cases (s : ByteArray) (hs : s.size ≤ maxLen) : (∃ c, c ≠ 0 ∧ NoD s c) ∨ ∃ x l f r, YesD s x l f r := by
  cases hR : rdText s.data.toList 1048576 with
  | bad k =>
    refine .inl ⟨unfr k, unfr_ne k, fun w T => (decode_any s w T hs).mono ?_⟩
    rintro e w' ⟨hb, hD⟩
    rw [hR] at hD
    exact ⟨hD, hb⟩
  | good p r =>
    obtain ⟨t1, _, t3, _⟩ := text_back hR
    cases hok : (decide ((tRequest (⟨p, 0, 0⟩, false)).2.1.done = 0) && !(tRequest (⟨p, 0, 0⟩, false)).2.2) with
    | false =>
      refine .inl ⟨173, by omega, fun w T => (decode_any s w T hs).mono ?_⟩
      rintro e w' ⟨hb, hD⟩
      rw [hR] at hD
      have hD : DOk (tRequest (⟨p, 0, 0⟩, false)) r w e w' := hD
      unfold DOk at hD
      rw [if_neg (by rw [hok]; exact Bool.false_ne_true)] at hD
      exact ⟨hD, hb⟩
    | true =>
      have hok2 := hok
      rw [Bool.and_eq_true, decide_eq_true_eq, Bool.not_eq_true'] at hok2
      obtain ⟨d1, d2⟩ := hok2
      obtain ⟨q1, _⟩ := req_strict p d1 d2
      have hpl : p.length ≤ 1048576 := by omega
      obtain ⟨g1, g2⟩ := request_gd (⟨p, 0, 0⟩, false) (by show p.length ≤ _; omega) (done_err d1) d2
      refine .inr ⟨(tRequest (⟨p, 0, 0⟩, false)).1.1, (tRequest (⟨p, 0, 0⟩, false)).1.2, wrText p, r, fun w T => (decode_any s w T hs).mono ?_, fun w lo ul ue ua T hG => ?_, t1⟩
      · rintro e w' ⟨hb, hD⟩
        rw [hR] at hD
        have hD : DOk (tRequest (⟨p, 0, 0⟩, false)) r w e w' := hD
        unfold DOk at hD
        rw [if_pos hok] at hD
        exact ⟨hD, hb⟩
      · refine encode_yes T ⟨hG.ak, g1, fun h12 => ?_⟩ q1 hpl
        obtain ⟨_, _, _, _, h5, h6⟩ := hG
        exact ⟨h5.lower (Nat.zero_le _), h6, g2 h12⟩
/-- DecodeReply refuses s -/
def NoR (k : Int) (s : ByteArray) (c : Int) : Prop := ∀ w, Lay w → Calls Tryz.prog 7 #[.int .i64 k, .string s] w fun e w' => e = .returned (.tuple #[rp0, sv [], .int .i64 c]) ∧ Below w.heap.size w w'
def YesR (k : Int) (s : ByteArray) (x : Part) (l : List Part) (f r : List UInt8) : Prop :=
  (∀ w, Lay w → Calls Tryz.prog 7 #[.int .i64 k, .string s] w fun e w' => (∃ uh ue up, e = .returned (.tuple #[rpV x uh ue up, sv r, .int .i64 0]) ∧ GotR w' w.heap.size x l uh ue up) ∧ Below w.heap.size w w') ∧
  (∀ w lo uh ue up, Lay w → GotR w lo x l uh ue up → Calls Tryz.prog 6 #[.int .i64 k, rpV x uh ue up] w fun e w' => e = .returned (.tuple #[sv f, .int .i64 0]) ∧ Below w.heap.size w w') ∧
  s.data.toList = f ++ r
theorem r_cases (k : Int) (s : ByteArray) (hs : s.size ≤ maxLen) : (∃ c, c ≠ 0 ∧ NoR k s c) ∨ ∃ x l f r, YesR k s x l f r := by
  cases hw : wi k 0 12 with
  | false => exact .inl ⟨170, by omega, fun w _ => decodeR_kind k hw s w⟩
  | true =>
    have hk := wi_iff.1 hw
    obtain ⟨K, rfl⟩ := Int.eq_ofNat_of_zero_le hk.1
    have hK : K ≤ 12 := by omega
    cases hR : rdText s.data.toList 1048576 with
    | bad j =>
      refine .inl ⟨unfr j, unfr_ne j, fun w T => (decodeR_any K hK s w T hs).mono ?_⟩
      rintro e w' ⟨hb, hD⟩
      rw [hR] at hD
      exact ⟨hD, hb⟩
    | good p r =>
      obtain ⟨t1, _, t3, _⟩ := text_back hR
      cases hok : (decide ((tReply K (⟨p, 0, 0⟩, false)).2.1.done = 0) && !(tReply K (⟨p, 0, 0⟩, false)).2.2) with
      | false =>
        refine .inl ⟨173, by omega, fun w T => (decodeR_any K hK s w T hs).mono ?_⟩
        rintro e w' ⟨hb, hD⟩
        rw [hR] at hD
        have hD : DOkR (tReply K (⟨p, 0, 0⟩, false)) r w e w' := hD
        unfold DOkR at hD
        rw [if_neg (by rw [hok]; exact Bool.false_ne_true)] at hD
        exact ⟨hD, hb⟩
      | true =>
        have hok2 := hok
        rw [Bool.and_eq_true, decide_eq_true_eq, Bool.not_eq_true'] at hok2
        obtain ⟨d1, d2⟩ := hok2
        have q1 := reply_strict K p d1 d2
        have hpl : p.length ≤ 1048576 := by omega
        obtain ⟨g1, g2⟩ := reply_gr K (⟨p, 0, 0⟩, false) (by show p.length ≤ _; omega) (done_err d1) d2
        refine .inr ⟨(tReply K (⟨p, 0, 0⟩, false)).1.1, (tReply K (⟨p, 0, 0⟩, false)).1.2, wrText p, r, fun w T => (decodeR_any K hK s w T hs).mono ?_, fun w lo uh ue up T hG => ?_, t1⟩
        · rintro e w' ⟨hb, hD⟩
          rw [hR] at hD
          have hD : DOkR (tReply K (⟨p, 0, 0⟩, false)) r w e w' := hD
          unfold DOkR at hD
          rw [if_pos hok] at hD
          exact ⟨hD, hb⟩
        · refine encodeReply_yes T hK ⟨hG.ap, g1, fun h12 h0 => ?_⟩ q1 hpl
          obtain ⟨_, _, _, _, h5, h6⟩ := hG
          exact ⟨h5.mono (Nat.zero_le _) (Nat.le_refl _), h6, g2 h12 h0⟩
theorem fr_add {s : ByteArray} {f r : List UInt8} (h : s.data.toList = f ++ r) (hs : s.size ≤ maxLen) (w : World) : (binOp .add 9 (sv f) (sv r)).run Tryz.prog w = .ok (.string s) w := by
  have hl : f.length + r.length ≤ 9223372036854775807 := by
    have := congrArg List.length h
    rw [data_length, List.length_append] at this
    unfold maxLen at hs
    omega
  rw [add_sv _ _ _ _ hl, ← h, sv_of]
end Msg
end Go.Proofs.YteilkpihddfpeaaGreatDoor

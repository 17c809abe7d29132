import Derived.Test.YtkpfpfjjkcefkaaCDV14
namespace Go.Proofs.Ytkpfpfjjkcefkaa
open Go.RowKit Go.Maps

theorem set_ne {L : List (List UInt8)} {i j : Nat} (h : i ≠ j) (x : List UInt8) : (L.set j x)[i]! = L[i]! := by
  rw [List.getElem!_eq_getElem?_getD, List.getElem!_eq_getElem?_getD, List.getElem?_set_ne (Ne.symm h)]
theorem set_eq {L : List (List UInt8)} {i : Nat} (h : i < L.length) (x : List UInt8) : (L.set i x)[i]! = x := by
  rw [List.getElem!_eq_getElem?_getD, List.getElem?_set_self h]; rfl
theorem stL_notin {i : Nat} : ∀ (t : List ((Nat × List UInt8) × Nat)) (L : List (List UInt8)), i ∉ t.map (fun x => x.1.1) → (stL L t)[i]! = L[i]! := by
  intro t
  induction t with
  | nil => intro L _; rfl
  | cons x t ih =>
    intro L h
    rw [List.map_cons, List.mem_cons, not_or] at h
    exact (ih _ h.2).trans (set_ne h.1 _)
theorem stL_in {i : Nat} {s : List UInt8} {m : Nat} : ∀ (t : List ((Nat × List UInt8) × Nat)) (L : List (List UInt8)), (t.map (fun x => x.1.1)).Nodup → ((i, s), m) ∈ t → i < L.length → (stL L t)[i]! = torn s L[i]! m := by
  intro t
  induction t with
  | nil => intro L _ h; cases h
  | cons x t ih =>
    intro L hd h hi
    rw [List.map_cons, List.nodup_cons] at hd
    rcases List.mem_cons.1 h with rfl | h
    · exact (stL_notin t _ hd.1).trans (set_eq hi _)
    · have hne : i ≠ x.1.1 := fun e => hd.1 (by rw [← e]; exact List.mem_map.2 ⟨_, h, rfl⟩)
      refine (ih _ hd.2 h (by rw [List.length_set]; exact hi)).trans ?_
      rw [set_ne hne]
theorem pks_nodup (n : Nat) (p : Nat → Option (List UInt8)) : (pks n p).Nodup := (pks_lt n p).imp fun h => Nat.ne_of_lt h
theorem pks_succ (n : Nat) (p : Nat → Option (List UInt8)) : pks (n + 1) p = pks n p ++ (if (p n).isSome then [n] else []) := by
  rw [pks, List.range_succ, List.filter_append, ← pks]
  congr 1
  by_cases h : (p n).isSome = true
  · rw [if_pos h]; simp [h]
  · rw [if_neg h]; simp [h]
/-- where a page stands among those that are pending -/
theorem pks_rank {p : Nat → Option (List UInt8)} {i : Nat} (hp : (p i).isSome = true) : ∀ n, i < n → (pks n p)[(pks i p).length]? = some i := by
  intro n
  induction n with
  | zero => intro h; omega
  | succ n ih =>
    intro h
    rw [pks_succ]
    by_cases e : i = n
    · subst e
      rw [if_pos hp, List.getElem?_append_right (Nat.le_refl _), Nat.sub_self]; rfl
    · have h1 := ih (by omega)
      have h2 := (List.getElem?_eq_some_iff.1 h1).1
      rw [List.getElem?_append_left h2]; exact h1
theorem stL_at {L : List (List UInt8)} {p : Nat → Option (List UInt8)} {ks : Nat → Nat} {i : Nat} (hi : i < L.length) : (stL L (tks L.length p ks))[i]! = match p i with | some s => torn s L[i]! (ks (pks i p).length) | none => L[i]! := by
  cases hp : p i with
  | none =>
    refine stL_notin _ _ ?_
    rw [tks_fst]
    intro h
    have := (pks_mem.1 h).2
    rw [hp] at this
    cases this
  | some s =>
    have hr := pks_rank (p := p) (i := i) (by rw [hp]; rfl) L.length hi
    have hk := (List.getElem?_eq_some_iff.1 hr).1
    have hk' : (pks i p).length < (pls L.length p).length := by rw [pls_len]; exact hk
    refine stL_in _ _ (by rw [tks_fst]; exact pks_nodup _ _) ?_ hi
    have e := tks_at L.length p ks hk'
    have e2 : (pls L.length p)[(pks i p).length] = (i, s) := by
      have := (List.getElem?_eq_some_iff.1 hr).2
      simp [pls, this, hp]
    rw [e2] at e
    rw [← e]
    exact List.getElem_mem _
/-- what lasts behind a flush -/
theorem flush_at {L : List (List UInt8)} {p : Nat → Option (List UInt8)} {i : Nat} (hi : i < L.length) (hL : ∀ x ∈ L, x.length = 256) {D : DataW Unit} (hP : Pn L.length p D) : (stL L (tks L.length p fun _ => 256))[i]! = (p i).getD L[i]! := by
  rw [stL_at hi]
  cases hp : p i with
  | none => rfl
  | some s =>
    show torn s L[i]! 256 = s
    exact torn_all (hP.dom i s hp).2 (hL _ (by rw [getElem!_pos L i hi]; exact List.getElem_mem hi))
/-- keeps of the first ones, each once -/
def kls (b : Nat → Nat) (j : Nat) : List (Int × Int) := (List.range j).map fun i : Nat => ((i : Int), (b i : Int))
theorem kls_len (b : Nat → Nat) (j : Nat) : (kls b j).length = j := by simp [kls]
theorem kls_at (b : Nat → Nat) {j i : Nat} (h : i < j) : (kls b j)[i]! = ((i : Int), (b i : Int)) := by
  rw [getElem!_pos (kls b j) i (by rw [kls_len]; exact h)]; simp [kls]
theorem kpF_kls (m : Nat) (b : Nat → Nat) (hb : ∀ i, b i ≤ 256) (j : Nat) (hj : j ≤ m) : ∀ n, n ≤ j → kpF m (kls b j) n = some ((List.range n).map b ++ List.replicate (m - n) 0, List.replicate n true ++ List.replicate (m - n) false) := by
  intro n
  induction n with
  | zero => intro _; simp [kpF]
  | succ n ih =>
    intro hn
    rw [kpF, ih (by omega), kls_at b (by omega)]
    show kpS m _ _ = _
    have hlb : (List.replicate n true).length = n := List.length_replicate
    have hln : ((List.range n).map b).length = n := by simp
    have e0 : (List.replicate n true ++ List.replicate (m - n) false)[n]! = false := by
      rw [List.getElem!_eq_getElem?_getD, List.getElem?_append_right (by omega), hlb, Nat.sub_self, List.getElem?_replicate, if_pos (by omega)]; rfl
    have hbn := hb n
    unfold kpS
    rw [if_pos ⟨by show (0 : Int) ≤ (n : Int); omega, by show (n : Int) < (m : Int); omega, by show _ = false; rw [Int.toNat_natCast]; exact e0, by show (0 : Int) ≤ (b n : Int); omega, by show (b n : Int) ≤ 256; omega⟩]
    refine congrArg some (Prod.ext ?_ ?_)
    · show (((List.range n).map b ++ List.replicate (m - n) 0).set (n : Int).toNat (b n : Int).toNat) = _
      rw [Int.toNat_natCast, Int.toNat_natCast, List.set_append_right _ _ (by omega), hln, Nat.sub_self, show m - n = (m - (n + 1)) + 1 by omega, List.replicate_succ, List.range_succ, List.map_append, List.append_assoc]
      rfl
    · show ((List.replicate n true ++ List.replicate (m - n) false).set (n : Int).toNat true) = _
      rw [Int.toNat_natCast, List.set_append_right _ _ (by omega), hlb, Nat.sub_self, show m - n = (m - (n + 1)) + 1 by omega, List.replicate_succ, List.replicate_succ', List.append_assoc]
      rfl
theorem kpB_kls (m : Nat) (b : Nat → Nat) (hb : ∀ i, b i ≤ 256) (j : Nat) (hj : j ≤ m) : kpB m (kls b j) = some ((List.range j).map b ++ List.replicate (m - j) 0) := by
  rw [kpB, kls_len, kpF_kls m b hb j hj j (Nat.le_refl _)]; rfl
end Go.Proofs.Ytkpfpfjjkcefkaa

namespace Go.Proofs.Ytkpfpfjjkcefkaa
open Go.RowKit Go.Maps

/-- keeps, as cells -/
def kcs (l : List (Int × Int)) : List Value := l.flatMap fun x => [.int .i64 x.1, .int .i64 x.2]
theorem kcs_append (l m : List (Int × Int)) : kcs (l ++ m) = kcs l ++ kcs m := by simp [kcs]
abbrev OwnK (w : World) (v : Value) (l : List (Int × Int)) : Prop := OwnM 2 w v l.length (kcs l)
theorem infoK : (Try.prog.info? 54).map (fun i => (i.zero, i.size, i.bytes)) = some (some (.agg #[.int .i64 0, .int .i64 0]), 2, 16) := by kernel_rfl
theorem append_k (w : World) (v : Value) (l : List (Int × Int)) (i s : Int) (hown : OwnK w v l) (hl : l.length ≤ 2000000) :
    ∃ v' w', (Builtin.append_ #[50, 50] 50 #[v, .slice (some ⟨w.heap.size, 0, none⟩) 1 1]).run Try.prog (w.alloc (.cells #[.int .i64 i, .int .i64 s] 54)) = .ok v' w' ∧ OwnK w' v' (l ++ [(i, s)]) ∧ Grow w w' v v' := by
  obtain ⟨v', w', h1, h2, h3⟩ := append_oneM (m := 2) 50 54 _ 16 (by omega) Try.underlying50 infoK rfl w v l.length (kcs l) [.int .i64 i, .int .i64 s] rfl (fun u hu => by
    simp only [List.mem_cons, List.not_mem_nil, or_false] at hu
    rcases hu with rfl | rfl <;> rfl) hown hl
  refine ⟨v', w', h1, ?_, h3⟩
  rw [OwnK, kcs_append, List.length_append]
  exact h2
theorem kcs_at : ∀ (l : List (Int × Int)) (j : Nat) (hj : j < l.length), (kcs l)[j * 2]? = some (.int .i64 (l[j]).1) ∧ (kcs l)[j * 2 + 1]? = some (.int .i64 (l[j]).2) := by
  intro l
  induction l with
  | nil => intro j hj; simp at hj
  | cons x l ih =>
    intro j hj
    rcases j with _ | j
    · exact ⟨rfl, rfl⟩
    · have := ih j (by simpa using hj)
      rw [show (j + 1) * 2 = j * 2 + 1 + 1 by omega]
      exact this
theorem OwnK.atK {w : World} {v : Value} {l : List (Int × Int)} (h : OwnK w v l) : ∃ a cap, v = .slice a l.length cap ∧ AtK w a l := by
  rcases h with ⟨rfl, e, _⟩ | ⟨g, cap, rfl, h1, h2, h3, h4, h5, h6⟩
  · obtain rfl : l = [] := List.length_eq_zero_iff.1 e
    exact ⟨none, 0, rfl, fun j hj => by simp at hj⟩
  · exact ⟨_, cap, rfl, fun j hj => ⟨g, 0, rfl, h6, by rw [Nat.zero_add]; have := h4 _ _ (kcs_at l j hj).1; rwa [Nat.zero_add] at this, by rw [Nat.zero_add]; have := h4 _ _ (kcs_at l j hj).2; rwa [Nat.zero_add] at this⟩⟩
/-- an array of six texts -/
def Row6 (w : World) (H : Nat) (L : List (List UInt8)) : Prop := w.heap[H]? = some (.cells (svs L).toArray 44 (0, 0))
theorem Row6.cell {w : World} {H : Nat} {L : List (List UInt8)} (h : Row6 w H L) {j : Nat} (hj : j < L.length) : w.cell? ⟨H, j, none⟩ = some (.string ⟨(L[j]).toArray⟩) := by
  rw [cell_of_row _ _ _ _ _ _ h]; simp [svs, hj, sv]
theorem Row6.free {w : World} {H : Nat} {L : List (List UInt8)} (h : Row6 w H L) (j : Nat) : w.frozen? ⟨H, j, none⟩ = false := frozen_of_row _ _ _ _ _ h
theorem Row6.set {w : World} {H : Nat} {L : List (List UInt8)} (h : Row6 w H L) (k : Nat) (x : List UInt8) : Row6 (w.setCell ⟨H, k, none⟩ (.string ⟨x.toArray⟩)) H (L.set k x) := by
  have e := setCell_eq_setRow w H k (svs L).toArray 44 (0, 0) (sv x) h
  unfold Row6
  rw [show (Value.string ⟨x.toArray⟩) = sv x from rfl, e, setRow_heap _ _ _ _ _ _ h]
  refine congrArg (fun A => some (Obj.cells A 44 (0, 0))) ?_
  simp [svs, List.map_set]
theorem Row6.keep {w w' : World} {H : Nat} {L : List (List UInt8)} (h : Row6 w H L) (e : w'.heap[H]? = w.heap[H]?) : Row6 w' H L := e.trans h
end Go.Proofs.Ytkpfpfjjkcefkaa

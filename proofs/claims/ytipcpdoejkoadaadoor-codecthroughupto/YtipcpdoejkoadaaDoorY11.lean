import Derived.Test.YtipcpdoejkoadaaDoorY10
namespace Go.Proofs.YtipcpdoejkoadaaDoor
open Go.RowKit Cod

theorem texts_tot : ∀ (L : List (List UInt8)), total L ≤ 1000000000 → ((L.map wrText).flatten).length ≤ 9 * L.length + total L
  | [], _ => by simp [total]
  | t :: L, h => by
    have e : total (t :: L) = t.length + total L := by simp [total]
    have h2 := texts_tot L (by omega)
    have := digs_len9 (n := t.length) (by omega)
    rw [List.map_cons, List.flatten_cons, List.length_append, wrText, List.length_append, List.length_cons, e]
    omega
theorem texts_len_any (L : List (List UInt8)) (h : total L ≤ 100000000) (hl : L.length ≤ 100000000) : (wrTexts L).length ≤ 9 + 9 * L.length + total L := by
  have := texts_tot L (by omega)
  have := digs_len9 (n := L.length) (by omega)
  rw [wrTexts, List.length_append]
  omega
theorem hashes_len_any (L : List (List UInt8)) (hl : L.length ≤ 100000000) : (wrHashes L).length ≤ 9 + 9 * L.length + total L := by
  have := digs_len9 (n := L.length) (by omega)
  rw [wrHashes, List.length_append]
  unfold total
  omega
theorem total_reverse (L : List (List UInt8)) : total L.reverse = total L := by
  simp [total, List.length_flatten, List.map_reverse, List.sum_reverse]
theorem rev_succ (L : List (List UInt8)) (k : Nat) (h : k < L.length) : L.reverse.take (k + 1) = L.reverse.take k ++ [L[L.length - 1 - k]'(by omega)] := by
  rw [List.take_succ_eq_append_getElem (by simpa using h), List.getElem_reverse]
theorem svs_len (L : List (List UInt8)) : (svs L).length = L.length := svs_length L

set_option maxRecDepth 100000 in
set_option maxHeartbeats 4000000 in
theorem step5 (B WB XB : Nat) (hB : 1 ≤ B) (v : Value) (ws : WSt) (S : List UInt8) (E : Int) (o kp : Bool) (n m : Int) (s : ByteArray) (lv tv : Value) (w : World) (ps : List (List UInt8)) (hsl : Slc w tv ps) (hll : ps.length ≤ 1100000) (htot : total ps ≤ 1100000) (hlo : ∀ x nn c, tv = .slice (some x) nn c → ps ≠ [] → x.block < B) (hL : Lay w) (T : Twin w B WB XB v ws S E) (hS : S.length ≤ 100000000000) :
    Calls Tryd.prog 37 #[pV WB XB, oV o kp 5 n m s lv tv] w (SPost w B WB XB v S) := by
  have D0 := hid (Way.start T hL #[.bool o, .bool kp, .int .i64 5, .int .i64 n, .int .i64 m, .string s, lv, tv])
  obtain ⟨p0a, p1a, o1a, o2a, o3a, o4a, o5a, o6a, o7a⟩ := D0.out.bx.cells
  have hBw := T.sz
  clear T hL
  have hV1 := hid (hsl.toV.keepN D0.out.kp (fun x nn c h1 h2 h3 => by have := hlo x nn c h1 (fun e => h2 (by rw [e]; rfl)); have := D0.out.ge _ h3; omega))
  have HV0 := hid hsl.toV
  have HLO := hid hlo
  have hrl := texts_len_any ps (by omega) (by omega)
  clear hsl hlo
  go_enter Tryd.func37, Tryd.ntmps37
  go_wp2_with (go_at_call 79; fail)
  go_at_call 79
  refine (lentTexts_any tv (svs ps) _ hV1.out svs_one (by rw [svs_len]; omega)).mono ?_
  rintro z w2 ⟨u, rfl, la, b2⟩
  rcases la with ⟨nn, c, rfl, rfl, hcs⟩ | ⟨⟨x, nn, c, rfl⟩, g, cap, rfl, hle⟩
  · have hl0 : ps = [] := by cases ps with
      | nil => rfl
      | cons a r => cases hcs
    subst hl0
    have D2 := hid (D0.out.below b2)
    obtain ⟨p0c, p1c, o1c, o2c, o3c, o4c, o5c, o6c, o7c⟩ := D2.out.bx.cells
    have hn0 : nn = 0 := by
      obtain ⟨_, _, hh, _⟩ := hV1.out
      injection hh
    subst hn0
    clear b2
    go_wp2_with (go_at_call 24; fail)
    go_at_call 24
    refine (wTexts_any B WB _ _ _ ([]) n m (by simp) _ (slcT_nil _ 0 0 rfl) (apart_nil _ _ _) D2.out.tw.wri D2.out.tw.sz (D2.out.tw.len (by omega))).mono ?_
    rintro z w3h ⟨rfl, vd, g1, g2, g3⟩
    have Xd := hid (D2.out.tw.mid g2 g1)
    have bd := D2.out.half g2
    have G1d := hid g1
    have G2d := hid g2
    have G3d := hid g3
    obtain ⟨p0d, p1d, o1d, o2d, o3d, o4d, o5d, o6d, o7d⟩ := bd.cells
    clear g1 g2 g3 bd
    go_wp2_with (go_at_call 80; fail)
    go_at_call 80
    refine (xTexts_any XB S E _ ([]) n m (by simp) (by simp [total]) _ (slcT_nil _ 0 _ rfl) Xd.out (by omega)).mono ?_
    intro z w3 hp
    have D3 := hid (D2.out.both hB G1d.out G2d.out G3d.out hp)
    obtain ⟨rfl, _, _⟩ := hp
    obtain ⟨p0dx, p1dx, o1dx, o2dx, o3dx, o4dx, o5dx, o6dx, o7dx⟩ := D3.out.bx.cells
    obtain ⟨S3, E3, ws3, hS3, D4⟩ : ∃ (S3 : List UInt8) (E3 : Int) (ws3 : WSt), Hid (S3.length ≤ S.length + (wrTexts []).length) ∧ Hid (Way _ w B WB XB v #[.bool o, .bool kp, .int .i64 5, .int .i64 n, .int .i64 m, .string s, lv, .slice none 0 c] w3 vd ws3 S3 E3) := ⟨_, _, _, hid (put_len _ _ _), D3⟩
    clear D3
    have hS3' := hS3.out
    go_wp2_with (go_at_call 81; fail)
    go_at_call 81
    refine (asTexts_nil _ 0 c w3).mono ?_
    rintro z w' ⟨rfl, hw'⟩; rw [hw']; clear hw' w'
    cases kp with
    | false =>
      obtain ⟨tb, htb⟩ : ∃ tb, Hid (sv (if E3 = 0 then S3 else []) = .string tb) := ⟨_, rfl⟩
      obtain ⟨ee, hee⟩ : ∃ ee : Int, Hid (E3 = ee) := ⟨_, rfl⟩
      have yt : (tb.toList == tb.toList) = true := by simp
      have ye : (ee == ee) = true := by simp
      go_wp2_with (go_at_call 31; fail)
      go_at_call 31
      refine (wDone_any B WB _ _ w3 D4.out.lay D4.out.tw.wri).mono ?_
      rw [← rel_text D4.out.tw.rel, ← D4.out.tw.rel.1, htb.out, hee.out]
      rintro z we ⟨rfl, q1⟩
      have De := hid (D4.out.below q1)
      obtain ⟨p0e, p1e, o1e, o2e, o3e, o4e, o5e, o6e, o7e⟩ := De.out.bx.cells
      clear q1
      go_wp2_with (go_at_call 38; fail)
      go_at_call 38
      refine (xDone_any XB _ _ we De.out.tw.rw).mono ?_
      rw [htb.out, hee.out]
      rintro z wf ⟨rfl, q2⟩
      have Df := hid (De.out.below q2)
      clear q2
      go_wp2
      go_ret
      exact Df.out.post (by omega)
    | true =>
      go_wp2
      refine wp_loop_rounds 1 ?_
      rw [rounds_succ]
      go_wp2_with (go_at_call 24; fail)
      go_at_call 24
      refine (wTexts_any B WB _ _ _ ([]) n m (by simp) _ (slcT_nil _ 0 0 rfl) (apart_nil _ _ _) D4.out.tw.wri D4.out.tw.sz (D4.out.tw.len (by omega))).mono ?_
      rintro z w5h ⟨rfl, vf, g1, g2, g3⟩
      have Xf := hid (D4.out.tw.mid g2 g1)
      have bf := D4.out.half g2
      have G1f := hid g1
      have G2f := hid g2
      have G3f := hid g3
      obtain ⟨p0f, p1f, o1f, o2f, o3f, o4f, o5f, o6f, o7f⟩ := bf.cells
      clear g1 g2 g3 bf
      go_wp2_with (go_at_call 80; fail)
      go_at_call 80
      refine (xTexts_any XB S3 E3 _ ([]) n m (by simp) (by simp [total]) _ (slcT_nil _ 0 0 rfl) Xf.out (by omega)).mono ?_
      intro z w5 hp
      have D5 := hid (D4.out.both hB G1f.out G2f.out G3f.out hp)
      obtain ⟨rfl, _, _⟩ := hp
      obtain ⟨p0fx, p1fx, o1fx, o2fx, o3fx, o4fx, o5fx, o6fx, o7fx⟩ := D5.out.bx.cells
      obtain ⟨S5, E5, ws5, hS5, D6⟩ : ∃ (S5 : List UInt8) (E5 : Int) (ws5 : WSt), Hid (S5.length ≤ S3.length + (wrTexts []).length) ∧ Hid (Way _ w B WB XB v #[.bool o, .bool true, .int .i64 5, .int .i64 n, .int .i64 m, .string s, lv, .slice none 0 c] w5 vf ws5 S5 E5) := ⟨_, _, _, hid (put_len _ _ _), D5⟩
      clear D5
      have hS5' := hS5.out
      obtain ⟨tb, htb⟩ : ∃ tb, Hid (sv (if E5 = 0 then S5 else []) = .string tb) := ⟨_, rfl⟩
      obtain ⟨ee, hee⟩ : ∃ ee : Int, Hid (E5 = ee) := ⟨_, rfl⟩
      have yt : (tb.toList == tb.toList) = true := by simp
      have ye : (ee == ee) = true := by simp
      go_wp2_with (go_at_call 31; fail)
      go_at_call 31
      refine (wDone_any B WB _ _ w5 D6.out.lay D6.out.tw.wri).mono ?_
      rw [← rel_text D6.out.tw.rel, ← D6.out.tw.rel.1, htb.out, hee.out]
      rintro z we ⟨rfl, q1⟩
      have De := hid (D6.out.below q1)
      obtain ⟨p0e, p1e, o1e, o2e, o3e, o4e, o5e, o6e, o7e⟩ := De.out.bx.cells
      clear q1
      go_wp2_with (go_at_call 38; fail)
      go_at_call 38
      refine (xDone_any XB _ _ we De.out.tw.rw).mono ?_
      rw [htb.out, hee.out]
      rintro z wf ⟨rfl, q2⟩
      have Df := hid (De.out.below q2)
      clear q2
      go_wp2
      go_ret
      exact Df.out.post (by omega)
  · have hg1 := hle.lt
    have D2 := hid (D0.out.add b2 hg1.1 hg1.2)
    obtain ⟨p0c, p1c, o1c, o2c, o3c, o4c, o5c, o6c, o7c⟩ := D2.out.bx.cells
    have hV2 := hid (hV1.out.keepN (K := fun _ => False) (Keep.ofBelow b2) (fun _ _ _ _ _ h => h))
    have hgP : g ≠ w.heap.size ∧ g ≠ w.heap.size + 1 := by
      have h1 := lt_of_heap D0.out.bx.rO
      have h2 := hg1.1
      constructor <;> omega
    have hnn : nn = ps.length := by
      obtain ⟨_, _, hh, _⟩ := hV1.out
      injection hh with _ e2 _
      rw [e2, svs_len]
    subst hnn
    have hSu : Slc w2 (.slice (some ⟨g, 0, none⟩) ps.length cap) ps := by
      have hh := hle.slcV ps.length (by rw [List.length_append, svs_len]; omega)
      rw [List.take_left' (svs_len ps)] at hh
      exact hh.toT
    have HSu := hid hSu
    have hxg : ps ≠ [] → x.block ≠ g := fun h => by
      have h1 := HLO.out x _ c rfl h
      have h2 := (D2.out.hi g (.inr rfl)).2.2
      omega
    have HXG := hid hxg
    obtain ⟨B2, hB2⟩ : ∃ B2, Hid (Lent w2 B2 g cap (svs ps ++ [Value.string ⟨#[126]⟩, Value.string ⟨#[126]⟩, Value.string ⟨#[126]⟩, Value.string ⟨#[126]⟩])) := ⟨_, hle⟩
    have hlow : ∀ (K : Nat → Prop), (∀ k, K k → B ≤ k) → ∀ x' n' c', Value.slice (some x) ps.length c = .slice (some x') n' c' → svs ps ≠ [] → ¬ K x'.block := fun K hK x' n' c' he hne hk => by
      cases he
      have h1 := HLO.out x _ c rfl (fun e => hne (by rw [e]; rfl))
      have h2 := hK _ hk
      omega
    have HLW := hid hlow
    rw [svs_len]
    clear b2 hle hg1 hSu hxg hlow
    go_wp2_with (go_at_call 24; fail)
    go_at_call 24
    refine (wTexts_any B WB _ _ _ (ps) n m (by unfold maxLen; omega) _ (HSu.out) (hB2.out.apart (fun e => (D2.out.hi g (.inr rfl)).1 (.inl e))) D2.out.tw.wri D2.out.tw.sz (D2.out.tw.len (by omega))).mono ?_
    rintro z w3h ⟨rfl, vd, g1, g2, g3⟩
    have Xd := hid (D2.out.tw.mid g2 g1)
    have bd := D2.out.half g2
    have G1d := hid g1
    have G2d := hid g2
    have G3d := hid g3
    obtain ⟨p0d, p1d, o1d, o2d, o3d, o4d, o5d, o6d, o7d⟩ := bd.cells
    clear g1 g2 g3 bd
    go_wp2_with (go_at_call 80; fail)
    go_at_call 80
    refine (xTexts_any XB S E _ (ps) n m (by omega) (by omega) _ ((hV2.out.keepN G2d.out (HLW.out _ (fun k hk => (D2.out.tw.ge k (.inl hk)).1))).toT) Xd.out (by omega)).mono ?_
    intro z w3 hp
    have D3 := hid (D2.out.both hB G1d.out G2d.out G3d.out hp)
    have k3 := (D2.out.tw.both G1d.out G2d.out G3d.out hp).2.1
    have HL3 := hid (hB2.out.keep k3 (D2.out.hi g (.inr rfl)).1)
    have hV3 := hid (hV2.out.keepN k3 (HLW.out _ (fun k hk => (D2.out.tw.ge k hk).1)))
    clear k3
    obtain ⟨rfl, _, _⟩ := hp
    obtain ⟨p0dx, p1dx, o1dx, o2dx, o3dx, o4dx, o5dx, o6dx, o7dx⟩ := D3.out.bx.cells
    obtain ⟨S3, E3, ws3, hS3, D4⟩ : ∃ (S3 : List UInt8) (E3 : Int) (ws3 : WSt), Hid (S3.length ≤ S.length + (wrTexts ps).length) ∧ Hid (Way (fun k => (k = w.heap.size ∨ k = w.heap.size + 1) ∨ k = g) w B WB XB v #[.bool o, .bool kp, .int .i64 5, .int .i64 n, .int .i64 m, .string s, lv, .slice (some x) ps.length c] w3 vd ws3 S3 E3) := ⟨_, _, _, hid (put_len _ _ _), D3⟩
    clear D3 hB2 hV2 HSu
    have hS3' := hS3.out
    go_wp2_with (go_at_call 81; fail)
    go_at_call 81
    refine (asTexts_any ps x c B2 g cap (by omega) w3 hV3.out HXG.out HL3.out).mono ?_
    rintro z w4 ⟨rfl, le4, b4⟩
    have D5 := hid (D4.out.but b4 (.inr rfl) hgP.1 hgP.2)
    have HL4 := hid le4
    obtain ⟨p0g, p1g, o1g, o2g, o3g, o4g, o5g, o6g, o7g⟩ := D5.out.bx.cells
    clear b4 le4 D4 HL3
    cases kp with
    | false =>
      obtain ⟨tb, htb⟩ : ∃ tb, Hid (sv (if E3 = 0 then S3 else []) = .string tb) := ⟨_, rfl⟩
      obtain ⟨ee, hee⟩ : ∃ ee : Int, Hid (E3 = ee) := ⟨_, rfl⟩
      have yt : (tb.toList == tb.toList) = true := by simp
      have ye : (ee == ee) = true := by simp
      go_wp2_with (go_at_call 31; fail)
      go_at_call 31
      refine (wDone_any B WB _ _ w4 D5.out.lay D5.out.tw.wri).mono ?_
      rw [← rel_text D5.out.tw.rel, ← D5.out.tw.rel.1, htb.out, hee.out]
      rintro z we ⟨rfl, q1⟩
      have De := hid (D5.out.below q1)
      obtain ⟨p0e, p1e, o1e, o2e, o3e, o4e, o5e, o6e, o7e⟩ := De.out.bx.cells
      clear q1
      go_wp2_with (go_at_call 38; fail)
      go_at_call 38
      refine (xDone_any XB _ _ we De.out.tw.rw).mono ?_
      rw [htb.out, hee.out]
      rintro z wf ⟨rfl, q2⟩
      have Df := hid (De.out.below q2)
      clear q2
      go_wp2
      go_ret
      exact Df.out.post (by omega)
    | true =>
      obtain ⟨BN, hBN⟩ : ∃ BN, w4.heap.size = BN := ⟨_, rfl⟩
      have hgB : g < BN := by rw [← hBN]; exact (D5.out.hi g (.inr rfl)).2.1
      have HPB : Hid (∀ k, (BN ≤ k) → ¬ PS WB XB vd k ∧ ¬ ((k = w.heap.size ∨ k = w.heap.size + 1) ∨ k = g) ∧ w.heap.size ≤ k) := hid (fun k hk => ⟨fun e => by have := (D5.out.tw.ge k e).2; omega, fun e => by have := (D5.out.hi k e).2.1; omega, by have := D5.out.kp.size; omega⟩)
      go_wp2
      go_loopw [10, 11] (fun now i w' => ∃ k : Nat, k ≤ ps.length ∧ i = .int .i64 k ∧ Hid (Way (fun k => (k = w.heap.size ∨ k = w.heap.size + 1) ∨ k = g) w B WB XB v #[.bool o, .bool true, .int .i64 5, .int .i64 n, .int .i64 m, .string s, lv, .slice (some x) ps.length c] w' vd ws3 S3 E3) ∧ Hid (Lent w' B2 g cap (svs (ps.reverse.take k) ++ (List.replicate (ps.length + 4) (Value.string ⟨#[111, 118, 101, 114]⟩)).drop k)) ∧ Hid (Own w' BN now (svs (ps.reverse.take k))) ∧ Hid (BN ≤ w'.heap.size)) (fun _ i _ => ps.length - (intOf i).toNat)
      case atStart => exact ⟨0, by omega, rfl, D5, hid (by rw [List.drop_zero, List.take_zero]; exact HL4.out), hid (by rw [List.take_zero]; exact Own.nil _ _), hid (by show BN ≤ _; omega)⟩
      case round =>
        obtain ⟨k, hk, rfl, Dk, Lk, Ok, Zk⟩ := hrel
        have hRl : (List.replicate (ps.length + 4) (Value.string ⟨#[111, 118, 101, 114]⟩)).length = ps.length + 4 := List.length_replicate
        by_cases hlt : k < ps.length
        · have hlt' : (k : Int) < (ps.length : Int) := by omega
          have hAl : (svs (ps.reverse.take k)).length = k := by rw [svs_len, List.length_take, List.length_reverse]; omega
          obtain ⟨c1, f1⟩ := Lk.out.cell (mix_get (svs (ps.reverse.take k)) _ k hAl (by omega))
          obtain ⟨q, hq⟩ : ∃ q, Hid (sv (ps[ps.length - 1 - k]'(by omega)) = .string q) := ⟨⟨(ps[ps.length - 1 - k]'(by omega)).toArray⟩, hid rfl⟩
          obtain ⟨a', cap', hu, hcs2⟩ := (HV0.out.keepN Dk.out.kp (HLW.out _ Dk.out.ge))
          injection hu with u1 u2 u3
          obtain ⟨y, hy, hyb, hcq⟩ := hcs2 (ps.length - 1 - k) (.string q) (by rw [svs, List.getElem?_map, List.getElem?_eq_getElem (by omega)]; exact congrArg some hq.out)
          rw [← u1] at hy
          cases hy
          clear u1 u2 u3 hcs2
          have t1 : ((ps.length : Int) - 1 - (k : Int)).toNat = ps.length - 1 - k := by omega
          have b1 : 0 ≤ (ps.length : Int) - 1 - (k : Int) := by omega
          have b2 : (ps.length : Int) - 1 - (k : Int) < (ps.length : Int) := by omega
          obtain ⟨jj, hjj⟩ : ∃ jj, ps.length - 1 - k = jj := ⟨_, rfl⟩
          rw [hjj] at t1 hcq
          have L2 := Lk.out.set k (.string q) (by rw [mix_len _ _ _ hAl (by omega)]; omega)
          rw [mix_set _ _ _ _ hAl (by omega)] at L2
          have hB2' := (But.refl g wr).setCell k (.string q)
          have c2 : (wr.setCell ⟨g, k, none⟩ (.string q)).cell? ⟨g, k, none⟩ = some (.string q) := (L2.cell (by rw [List.append_assoc, List.getElem?_append_right (by omega), hAl, Nat.sub_self]; rfl)).1
          have D2' := Dk.out.but hB2' (.inr rfl) hgP.1 hgP.2
          obtain ⟨p0m, p1m, o1m, o2m, o3m, o4m, o5m, o6m, o7m⟩ := Dk.out.bx.cells
          have O2 := Ok.out.but hB2' (fun e => by have := Ok.out.ge g e; omega)
          obtain ⟨v5, w5, hcc, g1, g2, g3⟩ := app_txt _ BN _ (ps.reverse.take k) (.string q) (ps[ps.length - 1 - k]'(by omega)) hq.out O2 (by rw [List.length_take, List.length_reverse]; omega) (Nat.le_trans Zk.out hB2'.size)
          rw [show (wr.setCell ⟨g, k, none⟩ (Value.string q)).heap.size = wr.heap.size from by simp [World.setCell]] at hcc
          have hown : ∀ j, OwnS _ j → BN ≤ j := fun j hj => O2.ge j hj
          have DD := hid (D2'.new g2 (fun j hj => HPB.out j (hown j hj)))
          have LL := hid (L2.keep g2 (fun e => by have := hown g e; omega))
          rw [← hq.out, ← svs_append, ← rev_succ ps k hlt] at LL
          rw [← rev_succ ps k hlt] at g1
          have OO := hid g1
          have ZZ := hid (Nat.le_trans (Nat.le_trans Zk.out hB2'.size) g2.size)
          clear g1 g2 g3 O2 D2' L2 hown hB2' hjj
          go_wp2_with (at_builtin; go_must (refine Lib.wpList_append_run _ rfl _ _ 31 31 rfl _ _ rfl rfl _ _ hcc ?_))
          exact ⟨⟨k + 1, by omega, by go_num, DD, LL, OO, ZZ⟩, by simp [intOf]; omega⟩
        · obtain rfl : k = ps.length := by omega
          have hrt : ps.reverse.take ps.length = ps.reverse := List.take_of_length_le (by simp)
          have hil : ps.reverse.length = ps.length := List.length_reverse
          have htr := total_reverse ps
          have hrl3 := texts_len_any ps.reverse (by omega) (by omega)
          rw [htr, hil] at hrl3
          have hSu : Slc wr (.slice (some ⟨g, 0, none⟩) ps.length cap) ps.reverse := by
            have hh := Lk.out.slcV ps.length (by rw [mix_len _ _ _ (by rw [svs_len, hrt, hil]) (by omega)]; omega)
            rw [List.take_left' (by rw [svs_len, hrt, hil]), hrt] at hh
            exact hh.toT
          have HSu := hid hSu
          have HON0 := Ok.out.slcT
          rw [hrt] at HON0
          obtain ⟨LQ, hLQ⟩ : ∃ LQ, Hid (ps.reverse = LQ) := ⟨_, rfl⟩
          rw [hLQ.out] at HSu hil hrl3 htr HON0
          have HON := hid HON0
          have hOge := hid Ok.out.ge
          obtain ⟨oa, oc, onn, hov⟩ := Own.sl Ok.out
          subst hov
          obtain ⟨p0k, p1k, o1k, o2k, o3k, o4k, o5k, o6k, o7k⟩ := Dk.out.bx.cells
          clear hSu HON0 hrt
          go_wp2_with (go_at_call 24; fail)
          go_at_call 24
          refine (wTexts_any B WB _ _ _ (LQ) n m (by unfold maxLen; omega) _ (HSu.out) (Lk.out.apart (fun e => (Dk.out.hi g (.inr rfl)).1 (.inl e))) Dk.out.tw.wri Dk.out.tw.sz (Dk.out.tw.len (by omega))).mono ?_
          rintro z w7h ⟨rfl, vf, g1, g2, g3⟩
          have Xf := hid (Dk.out.tw.mid g2 g1)
          have bf := Dk.out.half g2
          have G1f := hid g1
          have G2f := hid g2
          have G3f := hid g3
          obtain ⟨p0f, p1f, o1f, o2f, o3f, o4f, o5f, o6f, o7f⟩ := bf.cells
          clear g1 g2 g3 bf
          go_wp2_with (go_at_call 80; fail)
          go_at_call 80
          refine (xTexts_any XB S3 E3 _ (LQ) n m (by omega) (by omega) _ (HON.out.keep G2f.out (fun y _ _ hy e => by cases hy; exact (HPB.out _ (hOge.out _ rfl)).1 (.inl e))) Xf.out (by omega)).mono ?_
          intro z w7 hp
          have D7 := hid (Dk.out.both hB G1f.out G2f.out G3f.out hp)
          obtain ⟨rfl, _, _⟩ := hp
          obtain ⟨p0fx, p1fx, o1fx, o2fx, o3fx, o4fx, o5fx, o6fx, o7fx⟩ := D7.out.bx.cells
          obtain ⟨S5, E5, ws5, hS5, D8⟩ : ∃ (S5 : List UInt8) (E5 : Int) (ws5 : WSt), Hid (S5.length ≤ S3.length + (wrTexts LQ).length) ∧ Hid (Way (fun k => (k = w.heap.size ∨ k = w.heap.size + 1) ∨ k = g) w B WB XB v #[.bool o, .bool true, .int .i64 5, .int .i64 n, .int .i64 m, .string s, lv, .slice (some x) ps.length c] w7 vf ws5 S5 E5) := ⟨_, _, _, hid (put_len _ _ _), D7⟩
          clear D7
          have hS5' := hS5.out
          obtain ⟨tb, htb⟩ : ∃ tb, Hid (sv (if E5 = 0 then S5 else []) = .string tb) := ⟨_, rfl⟩
          obtain ⟨ee, hee⟩ : ∃ ee : Int, Hid (E5 = ee) := ⟨_, rfl⟩
          have yt : (tb.toList == tb.toList) = true := by simp
          have ye : (ee == ee) = true := by simp
          go_wp2_with (go_at_call 31; fail)
          go_at_call 31
          refine (wDone_any B WB _ _ w7 D8.out.lay D8.out.tw.wri).mono ?_
          rw [← rel_text D8.out.tw.rel, ← D8.out.tw.rel.1, htb.out, hee.out]
          rintro z we ⟨rfl, q1⟩
          have De := hid (D8.out.below q1)
          obtain ⟨p0e, p1e, o1e, o2e, o3e, o4e, o5e, o6e, o7e⟩ := De.out.bx.cells
          clear q1
          go_wp2_with (go_at_call 38; fail)
          go_at_call 38
          refine (xDone_any XB _ _ we De.out.tw.rw).mono ?_
          rw [htb.out, hee.out]
          rintro z wf ⟨rfl, q2⟩
          have Df := hid (De.out.below q2)
          clear q2
          go_wp2
          go_ret
          exact Df.out.post (by omega)
end Go.Proofs.YtipcpdoejkoadaaDoor

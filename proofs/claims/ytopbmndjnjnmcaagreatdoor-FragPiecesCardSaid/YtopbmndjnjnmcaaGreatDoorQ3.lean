/- Package skerryref01: best, Number, integral, piece. -/
import Derived.Test.YtopbmndjnjnmcaaGreatDoorQ2
import Derived.Deep.RegionLaw
import Derived.Test.YtopbmndjnjnmcaaGreatDoorQ1
namespace Go.Proofs.YtopbmndjnjnmcaaGreatDoor
open Go.RowKit Lx

attribute [local go_sem] Oper.semAt_some

theorem plain_pat : ∀ b ∈ rPlainB, PatOK (bstr b) := by
  intro b hb
  simp only [rPlainB, List.mem_cons, List.not_mem_nil, or_false] at hb
  rcases hb with rfl | rfl | rfl | rfl <;> exact ⟨by decide, by decide, by decide⟩

/-- What best holds. -/
structure BeI (w : World) (v : Value) (o : Nat × Nat) (W : World) : Prop where
  own : W.ownsRow (w.heap.size + 2) 191 2 v 36 (ruCells rRules)
  out : W.heap[w.heap.size + 1]? = some (.cells #[.int .i64 (o.1 : Int), .int .i64 (o.2 : Int)] 171 (0, 0))
  res : W.heap[w.heap.size]? = some (.cells #[.int .i64 0, .int .i64 0] 171 (0, 0))
  bel : Below w.heap.size w W
theorem BeI.bl {w W W' : World} {v : Value} {o : Nat × Nat} (h : BeI w v o W) (hb : Below W.heap.size W W') : BeI w v o W' :=
  ⟨owns_bl' h.own hb, (hb.block _ (Array.getElem?_eq_some_iff.1 h.out).1).trans h.out, (hb.block _ (Array.getElem?_eq_some_iff.1 h.res).1).trans h.res, h.bel.trans (hb.mono h.bel.size)⟩

theorem BeI.put {w W : World} {v : Value} {o : Nat × Nat} (h : BeI w v o W) (a b : Nat) : BeI w v (a, b) ((W.setCell ⟨w.heap.size + 1, 0, none⟩ (.int .i64 (a : Int))).setCell ⟨w.heap.size + 1, 1, none⟩ (.int .i64 (b : Int))) :=
  ⟨ownsRow_setCell_below (ownsRow_setCell_below h.own (a := ⟨w.heap.size + 1, 0, none⟩) (by show w.heap.size + 1 < _; omega) _) (a := ⟨w.heap.size + 1, 1, none⟩) (by show w.heap.size + 1 < _; omega) _,
    heap_set _ _ 1 _ _ _ _ (heap_set _ _ 0 _ _ _ _ h.out),
    (Below.heap_setCell _ ⟨w.heap.size + 1, 1, none⟩ _ _ (by show w.heap.size ≠ w.heap.size + 1; omega)).trans ((Below.heap_setCell _ ⟨w.heap.size + 1, 0, none⟩ _ _ (by show w.heap.size ≠ w.heap.size + 1; omega)).trans h.res),
    (h.bel.setCell (p := ⟨w.heap.size + 1, 0, none⟩) (by show w.heap.size ≤ w.heap.size + 1; omega) _).setCell (p := ⟨w.heap.size + 1, 1, none⟩) (by show w.heap.size ≤ w.heap.size + 1; omega) _⟩
theorem BeI.cells {w W : World} {v : Value} {o : Nat × Nat} (h : BeI w v o W) : W.cell? ⟨w.heap.size + 1, 0, none⟩ = some (.int .i64 (o.1 : Int)) ∧ W.cell? ⟨w.heap.size + 1, 1, none⟩ = some (.int .i64 (o.2 : Int)) ∧ W.frozen? ⟨w.heap.size + 1, 0, none⟩ = false ∧ W.frozen? ⟨w.heap.size + 1, 1, none⟩ = false := by
  refine ⟨by rw [cell_of_row _ _ _ _ _ _ h.out]; rfl, by rw [cell_of_row _ _ _ _ _ _ h.out]; rfl, ?_, ?_⟩ <;> simp [World.frozen?, h.out]
theorem BeI.resCells {w W : World} {v : Value} {o : Nat × Nat} (h : BeI w v o W) : W.cell? ⟨w.heap.size, 0, none⟩ = some (.int .i64 0) ∧ W.cell? ⟨w.heap.size, 1, none⟩ = some (.int .i64 0) ∧ W.frozen? ⟨w.heap.size, 0, none⟩ = false ∧ W.frozen? ⟨w.heap.size, 1, none⟩ = false := by
  refine ⟨by rw [cell_of_row _ _ _ _ _ _ h.res]; rfl, by rw [cell_of_row _ _ _ _ _ _ h.res]; rfl, ?_, ?_⟩ <;> simp [World.frozen?, h.res]
theorem info97 : (Tryz.prog.info? 171).map (·.size) = some 2 := by kernel_rfl
theorem match_ret {fn : Func} {tmps : Array Value} {W : World} {g : Nat} {cs : Array Value} {Post : Ending → World → Prop} (hf : fn.results = #[.cell 6 171]) (hp : tmps.getD 6 undef = .pointer (some ⟨g, 0, none⟩)) (hg : W.heap[g]? = some (.cells cs 171 (0, 0))) (hs : cs.size = 2) (h : Post (.returned (.agg cs)) W) :
    bodyPost Tryz.prog fn Post Exit.ret { tmps := tmps, defers := [] } W :=
  bodyPost_ret (results_cell_row hf tmps W g 171 cs (0, 0) _ hp hg Tryz.underlying171 rfl (by rw [hs]; exact info97)) rfl h
theorem ruCells_get : ∀ (l : List (Nat × Bs)) (k : Nat) (x : Nat × Bs), l[k]? = some x → (ruCells l)[k * 2]? = some (.int .i64 (x.1 : Int)) ∧ (ruCells l)[k * 2 + 1]? = some (.string (bstr x.2))
  | y :: t, 0, x, h => by simp at h; subst h; exact ⟨rfl, rfl⟩
  | y :: t, k + 1, x, h => by
    have := ruCells_get t k x (by simpa using h)
    rw [show (k + 1) * 2 = k * 2 + 1 + 1 from by omega]
    exact this
theorem rules_len : rRules.length = 36 := by decide
theorem rules_ok : ∀ x ∈ rRules, 1 ≤ x.1 ∧ x.1 ≤ 6 ∧ 1 ≤ x.2.length ∧ x.2.length ≤ 1000 ∧ x.2[1]? ≠ some 42 := by decide
theorem rule_pat {x : Nat × Bs} (h : x ∈ rRules) : PatOK (bstr x.2) := by
  obtain ⟨_, _, h1, h2, h3⟩ := rules_ok x h
  refine ⟨h1, h2, fun h e => h3 ?_⟩
  rw [← e]
  exact List.getElem?_eq_getElem (l := x.2) (i := 1) h

set_option maxRecDepth 100000 in
set_option maxHeartbeats 8000000 in
/-- **best** -/
theorem refBest_any (s : ByteArray) (i : Nat) (op : Bool) (hs : s.size ≤ 20000) (hi : i < s.size) (w : World) :
    Calls Tryz.prog 137 #[.string s, .int .i64 i, .bool op] w fun e W => e = .returned (.agg #[.int .i64 ((rBest s.data.toList i op).1 : Int), .int .i64 ((rBest s.data.toList i op).2 : Int)]) ∧ Below w.heap.size w W := by
  go_enter Tryz.func137, Tryz.ntmps137
  go_wp2_with fail
  refine (refRules_any _).mono ?_
  rintro e w1 ⟨v, rfl, hown, hb1⟩
  have hI : BeI w v (0, 0) w1 := by
    have hr1 := heap_alloc2_new w (.cells #[.int .i64 0, .int .i64 0] 171) (.cells #[.int .i64 0, .int .i64 0] 171)
    have hr0 := heap_alloc2_old w (.cells #[.int .i64 0, .int .i64 0] 171) (.cells #[.int .i64 0, .int .i64 0] 171)
    have hsz : ((w.alloc (.cells #[.int .i64 0, .int .i64 0] 171)).alloc (.cells #[.int .i64 0, .int .i64 0] 171)).heap.size = w.heap.size + 2 := by rw [World.size_alloc, World.size_alloc]
    refine ⟨by rw [← hsz]; exact hown, (hb1.block _ (by rw [hsz]; omega)).trans hr1, (hb1.block _ (by rw [hsz]; omega)).trans hr0, ?_⟩
    exact (((Below.refl _ w).alloc (Nat.le_refl _) _).alloc (by rw [World.size_alloc]; omega) _).trans (hb1.mono (by rw [hsz]; omega))
  have HI := Lib.hid hI
  obtain ⟨va, vn, vc, rfl⟩ := ownsRow_slice hown
  clear hI hown hb1
  go_wp2_with fail
  go_loopw [9, 10] (fun nm x wr => ∃ k : Nat, k ≤ 4 ∧ x = .int .i64 k ∧ nm = .bool ((rPlainB.take k).any fun p => decide (0 < rLen s.data.toList i p)) ∧ Hid (BeI w (.slice va vn vc) (0, 0) wr)) (fun _ x _ => 4 - (intOf x).toNat)
  case atStart => exact ⟨0, by omega, rfl, rfl, HI⟩
  case round =>
    obtain ⟨k, hk, rfl, rfl, HR⟩ := hrel
    clear HI
    go_wp2_with fail
    refine (refPlain_any _).mono ?_
    rintro e w2 ⟨g2, rfl, _, _, hb2⟩
    have HR2 := Lib.hid (HR.out.bl hb2)
    clear HR hb2
    by_cases hlt : k < 4
    · have d1 : decide ((k : Int) < 4) = true := by simp; omega
      obtain ⟨b, hbk⟩ : ∃ b, rPlainB[k]? = some b := ⟨_, List.getElem?_eq_getElem (by simpa [rPlainB] using hlt)⟩
      have hpat := plain_pat b (List.mem_of_getElem? hbk)
      have q0 : (0 : Int) ≤ (k : Int) := by omega
      have q1 : (k : Int) < 4 := by omega
      have hstep : Hid (((rPlainB.take (k + 1)).any fun p => decide (0 < rLen s.data.toList i p)) = (((rPlainB.take k).any fun p => decide (0 < rLen s.data.toList i p)) || decide (0 < rLen s.data.toList i b))) := Lib.hid (by
        rw [List.take_add_one, hbk, List.any_append]; simp)
      cases hnm : ((rPlainB.take k).any fun p => decide (0 < rLen s.data.toList i p))
      · go_upto_region 7 with fail
        go_region_law (first
          | (go_simp; go_at_call 150; refine (refPlain_any _).mono ?_; rintro e w7 ⟨gn, rfl, _, hrow, hb7⟩; have hc7 : w7.cell? ⟨gn, k, none⟩ = some (.string (bstr b)) := hrow.cell hbk)
          | (go_simp; go_at_call 152; refine (refBegins_any s i hs (by omega) _).mono ?_; rintro e w9 ⟨⟨bb, rfl, hbg⟩, rfl⟩)
          | (go_simp; go_at_call 151; refine (refLongest_any (bstr b) bb hpat.pos hpat.le (by have := congrArg List.length hbg; simp at this; have := rBegin_len s.data.toList i; omega) hpat.two _).mono ?_; rintro e w9 ⟨rfl, hb9⟩))
        all_goals
          go_wp2_with fail
          go_roundw
          case rel => exact ⟨k + 1, by omega, rfl, by rw [hstep.out, hnm, Bool.false_or]; rfl, Lib.hid (HR2.out.bl (bt (bt (Below.refl _ w2).drew hb7) hb9))⟩
          case measure => simp [intOf] <;> omega
      · go_wp2_with fail
        go_big_quiet (fail)
        go_wp2_with fail
        go_roundw
        case rel => exact ⟨k + 1, by omega, rfl, by rw [hstep.out, hnm]; rfl, Lib.hid (HR2.out.bl (bl _ _))⟩
        case measure => simp [intOf] <;> omega
    · have d1 : decide ((k : Int) < 4) = false := by simp; omega
      have hke : k = 4 := by omega
      subst hke
      obtain ⟨nm, hnm⟩ : ∃ nm, ((rPlainB.take 4).any fun p => decide (0 < rLen s.data.toList i p)) = nm := ⟨_, rfl⟩
      rw [hnm]
      have HNM : Hid (rName s.data.toList i = nm) := Lib.hid hnm
      clear hnm
      have hform : ∃ g, (Value.slice va vn vc) = .slice (some ⟨g, 0, none⟩) 36 vc := by
        obtain ⟨g, cap, hv⟩ := ownsRow_succ (k := 35) HR2.out.own
        cases hv; exact ⟨g, rfl⟩
      obtain ⟨g, hv⟩ := hform
      cases hv
      have hp13 := Lib.hid trivial
      go_wp2_with fail
      go_loopw [11, 12] (fun x _ wr => ∃ k : Nat, k ≤ 36 ∧ x = .int .i64 k ∧ Hid (BeI w (.slice (some ⟨g, 0, none⟩) 36 vc) ((rRules.take k).foldl (fun o x => rUp o x.1 (rCand s.data.toList i op nm x)) (0, 0)) wr)) (fun x _ _ => 36 - (intOf x).toNat)
      case atStart => exact ⟨0, by omega, rfl, HR2⟩
      case round =>
        obtain ⟨k, hk, rfl, HR⟩ := hrel
        clear HR2
        by_cases hlt : k < 36
        · have d2 : decide ((k : Int) < 36) = true := by simp; omega
          obtain ⟨x, hx⟩ : ∃ x, rRules[k]? = some x := ⟨_, List.getElem?_eq_getElem (by rw [rules_len]; exact hlt)⟩
          have hxm := List.mem_of_getElem? hx
          have hpat := rule_pat hxm
          obtain ⟨cx0, cx1⟩ := ruCells_get _ _ _ hx
          have c0 := (HR.out.own.cellAt (k * 2) (by omega)).trans cx0
          have c1 := (HR.out.own.cellAt (k * 2 + 1) (by omega)).trans cx1
          obtain ⟨K, P⟩ := x
          simp only at c0 c1 hpat
          have j0 : 0 < (bstr P).size := hpat.pos
          have i0 : (0 : Int) < ((bstr P).size : Int) := by omega
          have q0 : (0 : Int) ≤ (k : Int) := by omega
          have q1 : (k : Int) < 36 := by omega
          have hhd : (P.head? == some 45) = ((((bstr P)[0]'j0).toNat : Int) == 45) := by
            rw [show ((((bstr P)[0]'j0).toNat : Int) == 45) = ((bstr P)[0]'j0 == 45) from u8_eq _ 45 (by omega)]
            have : P.head? = some ((bstr P)[0]'j0) := by
              rw [List.head?_eq_getElem?]; exact List.getElem?_eq_getElem (l := P) (i := 0) j0
            rw [this]; rfl
          have HX := Lib.hid hx
          have HHD := Lib.hid hhd
          clear cx0 cx1 hx hhd hxm
          go_upto_region 11 with fail
          go_cut [78] from 40 to 78 (fun v wx => v = .bool (rPass s.data.toList i op nm (K, P)) ∧ Hid (BeI w (.slice (some ⟨g, 0, none⟩) 36 vc) ((rRules.take k).foldl (fun o x => rUp o x.1 (rCand s.data.toList i op nm x)) (0, 0)) wx))
          case first =>
            have e1 : ∀ n : Nat, ((K : Int) != (n : Int)) = (K != n) := fun n => by
              unfold bne; rw [show ((K : Int) == (n : Int)) = (K == n) from by rw [Bool.eq_iff_iff, beq_iff_eq, beq_iff_eq]; omega]
            have hps : Hid (rPass s.data.toList i op nm (K, P) = ((nm && ((K : Int) != 1) && ((K : Int) != 3)) || (op && ((((bstr P)[0]'j0).toNat : Int) == 45)) || !rAllowed s.data.toList i (K, P))) := Lib.hid (by
              unfold rPass
              rw [show ((K : Int) != 1) = (K != 1) from e1 1, show ((K : Int) != 3) = (K != 3) from e1 3, ← HHD.out])
            clear e1
            have hall := fun W => refAllowed_any s (bstr P) i K hs (by omega) hpat W
            cases nm
            · cases op
              · go_wp2_with fail
                refine (hall _).mono ?_
                rintro e w9 ⟨rfl, hb9⟩
                go_wp2_with fail
                go_meet
                exact ⟨by rw [hps.out]; rfl, Lib.hid (HR.out.bl hb9)⟩
              · cases hd : ((((bstr P)[0]'j0).toNat : Int) == 45)
                · go_wp2_with fail
                  refine (hall _).mono ?_
                  rintro e w9 ⟨rfl, hb9⟩
                  go_wp2_with fail
                  go_meet
                  exact ⟨by rw [hps.out, hd]; rfl, Lib.hid (HR.out.bl hb9)⟩
                · go_wp2_with fail
                  go_meet
                  exact ⟨by rw [hps.out, hd]; rfl, HR⟩
            · cases a1 : ((K : Int) != 1)
              · cases op
                · go_wp2_with fail
                  refine (hall _).mono ?_
                  rintro e w9 ⟨rfl, hb9⟩
                  go_wp2_with fail
                  go_meet
                  exact ⟨by rw [hps.out, a1]; rfl, Lib.hid (HR.out.bl hb9)⟩
                · cases hd : ((((bstr P)[0]'j0).toNat : Int) == 45)
                  · go_wp2_with fail
                    refine (hall _).mono ?_
                    rintro e w9 ⟨rfl, hb9⟩
                    go_wp2_with fail
                    go_meet
                    exact ⟨by rw [hps.out, a1, hd]; rfl, Lib.hid (HR.out.bl hb9)⟩
                  · go_wp2_with fail
                    go_meet
                    exact ⟨by rw [hps.out, a1, hd]; rfl, HR⟩
              · cases a3 : ((K : Int) != 3)
                · cases op
                  · go_wp2_with fail
                    refine (hall _).mono ?_
                    rintro e w9 ⟨rfl, hb9⟩
                    go_wp2_with fail
                    go_meet
                    exact ⟨by rw [hps.out, a1, a3]; rfl, Lib.hid (HR.out.bl hb9)⟩
                  · cases hd : ((((bstr P)[0]'j0).toNat : Int) == 45)
                    · go_wp2_with fail
                      refine (hall _).mono ?_
                      rintro e w9 ⟨rfl, hb9⟩
                      go_wp2_with fail
                      go_meet
                      exact ⟨by rw [hps.out, a1, a3, hd]; rfl, Lib.hid (HR.out.bl hb9)⟩
                    · go_wp2_with fail
                      go_meet
                      exact ⟨by rw [hps.out, a1, a3, hd]; rfl, HR⟩
                · go_wp2_with fail
                  go_meet
                  exact ⟨by rw [hps.out, a1, a3]; rfl, HR⟩
          case rest =>
            obtain ⟨hv78, HR3⟩ := hcut
            obtain ⟨o, ho⟩ : ∃ o, (rRules.take k).foldl (fun o x => rUp o x.1 (rCand s.data.toList i op nm x)) (0, 0) = o := ⟨_, rfl⟩
            rw [ho] at HR3
            have hnext : Hid ((rRules.take (k + 1)).foldl (fun o x => rUp o x.1 (rCand s.data.toList i op nm x)) (0, 0) = rUp o K (rCand s.data.toList i op nm (K, P))) := Lib.hid (by
              rw [List.take_add_one, HX.out, List.foldl_append, ho]; rfl)
            clear ho HR c0 c1 HHD i0 j0
            cases hpass : rPass s.data.toList i op nm (K, P)
            · rw [hpass] at hv78
              subst hv78
              have hcand : Hid (rCand s.data.toList i op nm (K, P) = rLen s.data.toList i P) := Lib.hid (by unfold rCand; rw [hpass]; rfl)
              have hlen0 : Hid (0 < rLen s.data.toList i P) := Lib.hid (by
                unfold rPass at hpass
                simp only [Bool.or_eq_false_iff, Bool.not_eq_false'] at hpass
                have h := hpass.2
                unfold rAllowed at h
                rcases Nat.eq_zero_or_pos (rLen s.data.toList i P) with h0 | h0
                · simp only at h; rw [if_pos h0] at h; cases h
                · exact h0)
              have c1 := (HR3.out.own.cellAt (k * 2 + 1) (by omega)).trans (ruCells_get _ _ _ HX.out).2
              clear hpass
              go_upto_region 12 with fail
              go_cut [12] from 79 to 87 (fun v wx => v = .int .i64 (rLen s.data.toList i P) ∧ Hid (BeI w (.slice (some ⟨g, 0, none⟩) 36 vc) o wx))
              case first =>
                go_region_law (first
                  | (go_simp; go_at_call 152; refine (refBegins_any s i hs (by omega) _).mono ?_; rintro e w9 ⟨⟨bb, rfl, hbg⟩, rfl⟩)
                  | (go_simp; go_at_call 151; refine (refLongest_any (bstr P) bb hpat.pos hpat.le (by have := congrArg List.length hbg; simp at this; have := rBegin_len s.data.toList i; omega) hpat.two _).mono ?_; rintro e w9 ⟨rfl, hb9⟩))
                all_goals
                  go_wp2_with fail
                  go_meet
                  exact ⟨by unfold rLen; rw [← hbg]; rfl, Lib.hid (HR3.out.bl (bt (Below.refl _ _).drew hb9))⟩
              case rest =>
                obtain ⟨rfl, HR4⟩ := hcut
                obtain ⟨n, hn⟩ : ∃ n, rLen s.data.toList i P = n := ⟨_, rfl⟩
                have hn0 := hlen0.out
                rw [hn] at hn0 ⊢
                have hcn := hcand.out.trans hn
                have HCN := Lib.hid hcn
                clear hn hcand hlen0 hcn HR3 c1
                obtain ⟨o1, o2⟩ := o
                obtain ⟨y0, y1, z0, z1⟩ := HR4.out.cells
                simp only at y0 y1
                have c0 := (HR4.out.own.cellAt (k * 2) (by omega)).trans (ruCells_get _ _ _ HX.out).1
                simp only at c0
                have hno : (o2 < n ∨ n = o2 ∧ K < o1) → Hid ((rRules.take (k + 1)).foldl (fun o x => rUp o x.1 (rCand s.data.toList i op nm x)) (0, 0) = (K, n)) := fun h => Lib.hid (by
                  rw [hnext.out, HCN.out]; unfold rUp; rw [if_pos ⟨hn0, h⟩])
                have hnn : ¬ (o2 < n ∨ n = o2 ∧ K < o1) → Hid ((rRules.take (k + 1)).foldl (fun o x => rUp o x.1 (rCand s.data.toList i op nm x)) (0, 0) = (o1, o2)) := fun h => Lib.hid (by
                  rw [hnext.out, HCN.out]; unfold rUp; rw [if_neg (fun h2 => h h2.2)])
                by_cases g1 : o2 < n
                · have t1 : decide ((o2 : Int) < (n : Int)) = true := decide_eq_true (by omega)
                  have t1b : decide (o2 < n) = true := decide_eq_true g1
                  have hY := hno (.inl g1)
                  clear hno hnn g1
                  go_wp2_with fail
                  go_big_quiet (fail)
                  go_wp2_with fail
                  go_roundw
                  case rel => exact ⟨k + 1, by omega, rfl, Lib.hid (by rw [hY.out]; exact (HR4.out.bl (bl _ _)).put K n)⟩
                  case measure => simp [intOf] <;> omega
                · have t1 : decide ((o2 : Int) < (n : Int)) = false := decide_eq_false (by omega)
                  have t1b : decide (o2 < n) = false := decide_eq_false g1
                  by_cases g2 : n = o2
                  · have t2 : ((n : Int) == (o2 : Int)) = true := beq_iff_eq.2 (by omega)
                    by_cases g3 : K < o1
                    · have t3 : decide ((K : Int) < (o1 : Int)) = true := decide_eq_true (by omega)
                      have t3b : decide (K < o1) = true := decide_eq_true g3
                      have hY := hno (.inr ⟨g2, g3⟩)
                      clear hno hnn g1 g2 g3
                      go_wp2_with fail
                      go_big_quiet (fail)
                      go_wp2_with fail
                      go_roundw
                      case rel => exact ⟨k + 1, by omega, rfl, Lib.hid (by rw [hY.out]; exact (HR4.out.bl (bl _ _)).put K n)⟩
                      case measure => simp [intOf] <;> omega
                    · have t3 : decide ((K : Int) < (o1 : Int)) = false := decide_eq_false (by omega)
                      have t3b : decide (K < o1) = false := decide_eq_false g3
                      have hY := hnn (by omega)
                      clear hno hnn g1 g2 g3
                      go_wp2_with fail
                      go_big_quiet (fail)
                      go_wp2_with fail
                      go_roundw
                      case rel => exact ⟨k + 1, by omega, rfl, Lib.hid (by rw [hY.out]; exact HR4.out.bl (bl _ _))⟩
                      case measure => simp [intOf] <;> omega
                  · have t2 : ((n : Int) == (o2 : Int)) = false := beq_eq_false_iff_ne.2 (by omega)
                    have hY := hnn (by omega)
                    clear hno hnn g1 g2
                    go_wp2_with fail
                    go_big_quiet (fail)
                    go_wp2_with fail
                    go_roundw
                    case rel => exact ⟨k + 1, by omega, rfl, Lib.hid (by rw [hY.out]; exact HR4.out.bl (bl _ _))⟩
                    case measure => simp [intOf] <;> omega
            · rw [hpass] at hv78
              subst hv78
              have hcand : Hid (rCand s.data.toList i op nm (K, P) = 0) := Lib.hid (by unfold rCand; rw [if_pos hpass])
              clear hpass
              go_wp2_with fail
              go_roundw
              case rel => exact ⟨k + 1, by omega, rfl, Lib.hid (by rw [hnext.out, hcand.out]; unfold rUp; rw [if_neg (by omega)]; exact HR3.out)⟩
              case measure => simp [intOf] <;> omega
        · have d2 : decide ((k : Int) < 36) = false := by simp; omega
          have hke : k = 36 := by omega
          subst hke
          have HB0 : Hid (BeI w (.slice (some ⟨g, 0, none⟩) 36 vc) (rBest0 s.data.toList i op) wr) := Lib.hid (by
            have h := HR.out
            rw [List.take_of_length_le (by rw [rules_len]; omega)] at h
            unfold rBest0; rw [HNM.out]; exact h)
          clear HR hp13
          go_wp2_with fail
          refine (refSigns_any _).mono ?_
          rintro e w3 ⟨gs, rfl, hgs, hrow, hb3⟩
          have HS := Lib.hid (HB0.out.bl hb3)
          have HW := Lib.hid hrow
          have hgne : w.heap.size + 2 ≤ gs := by
            have := (Array.getElem?_eq_some_iff.1 HB0.out.out).1
            omega
          clear hrow hb3 hgs HB0
          go_wp2_with fail
          go_loopw [14] (fun x wr => ∃ k : Nat, k ≤ 26 ∧ x = .int .i64 k ∧ (nm = true → k = 0) ∧ Hid (BeI w (.slice (some ⟨g, 0, none⟩) 36 vc) ((rSigns.take k).foldl (rSign s.data.toList i) (rBest0 s.data.toList i op)) wr) ∧ Hid (TRow wr gs rSigns)) (fun x _ => 26 - (intOf x).toNat)
          case atStart => exact ⟨0, by omega, rfl, fun _ => rfl, HS, HW⟩
          case round =>
            obtain ⟨k, hk, rfl, hnk, HR, HT⟩ := hrel
            clear HS HW
            cases nm
            · by_cases hlt : k < 26
              · have d3 : decide ((k : Int) < 26) = true := by simp; omega
                go_wp2_with fail
                obtain ⟨b, hbk⟩ : ∃ b, rSigns[k]? = some b := ⟨_, List.getElem?_eq_getElem (by show k < 26; exact hlt)⟩
                have hc := HT.out.cell hbk
                change wr.cell? ⟨gs, k, none⟩ = some (.string (bstr b)) at hc
                obtain ⟨o, ho⟩ : ∃ o, (rSigns.take k).foldl (rSign s.data.toList i) (rBest0 s.data.toList i op) = o := ⟨_, rfl⟩
                rw [ho] at HR
                obtain ⟨o1, o2⟩ := o
                obtain ⟨y0, y1, z0, z1⟩ := HR.out.cells
                simp only at y0 y1
                have q0 : (0 : Int) ≤ (k : Int) := by omega
                have q1 : (k : Int) < 26 := by omega
                by_cases g1 : o2 < (bstr b).size
                · have t1 : decide ((o2 : Int) < ((bstr b).size : Int)) = true := decide_eq_true (by omega)
                  have t1b : decide (o2 < (bstr b).size) = true := decide_eq_true g1
                  by_cases g2 : (bstr b).size ≤ s.size - i
                  · have t2 : decide (((bstr b).size : Int) ≤ (s.size : Int) - (i : Int)) = true := decide_eq_true (by omega)
                    have r0 : (0 : Int) ≤ (i : Int) := by omega
                    have r1 : (i : Int) ≤ (i : Int) + ((bstr b).size : Int) := by omega
                    have r2 : (i : Int) + ((bstr b).size : Int) ≤ (s.size : Int) := by omega
                    obtain ⟨e, he⟩ : ∃ e : Bool, ((s.extract i (i + (bstr b).size)).toList == (bstr b).toList) = e := ⟨_, rfl⟩
                    have he3 : decide (s.extract i (i + (bstr b).size) = bstr b) = e := by
                      rw [← he, Bool.eq_iff_iff, beq_iff_eq, decide_eq_true_eq, Lib.toList_data, Lib.toList_data]
                      exact ⟨fun h => by rw [h], fun h => ByteArray.ext (Array.toList_inj.1 h)⟩
                    have hst : Hid ((rSigns.take (k + 1)).foldl (rSign s.data.toList i) (rBest0 s.data.toList i op) = if e = true then (5, b.length) else (o1, o2)) := Lib.hid (by
                      rw [List.take_add_one, hbk, List.foldl_append, ho]
                      show rSign s.data.toList i (o1, o2) b = _
                      unfold rSign
                      have hx : ((s.data.toList.drop i).take b.length = b) ↔ e = true := by
                        rw [← he, beq_iff_eq, Lib.toList_data, Lib.toList_data, extract_list, show i + (bstr b).size - i = b.length from by rw [bstr_size]; omega]
                        exact Iff.rfl
                      by_cases h : e = true
                      · rw [if_pos ⟨g1, hx.2 h⟩, if_pos h]
                      · rw [if_neg (fun h2 => h (hx.1 h2.2)), if_neg h])
                    cases e
                    · have hY : Hid ((rSigns.take (k + 1)).foldl (rSign s.data.toList i) (rBest0 s.data.toList i op) = (o1, o2)) := Lib.hid (by rw [hst.out]; rfl)
                      clear hst g1 g2
                      go_big_quiet (fail)
                      go_wp2_with fail
                      go_roundw
                      case rel => exact ⟨k + 1, by omega, rfl, fun h => by simp at h, Lib.hid (by rw [hY.out]; exact HR.out.bl (bl _ _)), Lib.hid (HT.out.bl (bl _ _))⟩
                      case measure => simp [intOf] <;> omega
                    · have hY : Hid ((rSigns.take (k + 1)).foldl (rSign s.data.toList i) (rBest0 s.data.toList i op) = (5, b.length)) := Lib.hid (by rw [hst.out]; rfl)
                      clear hst g1 g2
                      go_big_quiet (fail)
                      go_wp2_with fail
                      go_roundw
                      case rel => exact ⟨k + 1, by omega, rfl, fun h => by simp at h, Lib.hid (by rw [hY.out]; exact (HR.out.bl (bl _ _)).put 5 b.length), Lib.hid ((Below.heap_setCell _ ⟨w.heap.size + 1, 1, none⟩ _ _ (by show gs ≠ w.heap.size + 1; omega)).trans ((Below.heap_setCell _ ⟨w.heap.size + 1, 0, none⟩ _ _ (by show gs ≠ w.heap.size + 1; omega)).trans (HT.out.bl (bl _ _))))⟩
                      case measure => simp [intOf] <;> omega
                  · have t2 : decide (((bstr b).size : Int) ≤ (s.size : Int) - (i : Int)) = false := decide_eq_false (by omega)
                    have hY : Hid ((rSigns.take (k + 1)).foldl (rSign s.data.toList i) (rBest0 s.data.toList i op) = (o1, o2)) := Lib.hid (by
                      rw [List.take_add_one, hbk, List.foldl_append, ho]
                      show rSign s.data.toList i (o1, o2) b = _
                      unfold rSign
                      rw [if_neg (fun h => by
                        have := congrArg List.length h.2
                        rw [List.length_take, List.length_drop] at this
                        rw [bstr_size] at g2
                        simp at this; omega)])
                    clear g1 g2
                    go_big_quiet (fail)
                    go_wp2_with fail
                    go_roundw
                    case rel => exact ⟨k + 1, by omega, rfl, fun h => by simp at h, Lib.hid (by rw [hY.out]; exact HR.out.bl (bl _ _)), Lib.hid (HT.out.bl (bl _ _))⟩
                    case measure => simp [intOf] <;> omega
                · have t1 : decide ((o2 : Int) < ((bstr b).size : Int)) = false := decide_eq_false (by omega)
                  have t1b : decide (o2 < (bstr b).size) = false := decide_eq_false g1
                  have hY : Hid ((rSigns.take (k + 1)).foldl (rSign s.data.toList i) (rBest0 s.data.toList i op) = (o1, o2)) := Lib.hid (by
                    rw [List.take_add_one, hbk, List.foldl_append, ho]
                    show rSign s.data.toList i (o1, o2) b = _
                    unfold rSign
                    rw [if_neg (fun h => g1 h.1)])
                  clear g1
                  go_big_quiet (fail)
                  go_wp2_with fail
                  go_roundw
                  case rel => exact ⟨k + 1, by omega, rfl, fun h => by simp at h, Lib.hid (by rw [hY.out]; exact HR.out.bl (bl _ _)), Lib.hid (HT.out.bl (bl _ _))⟩
                  case measure => simp [intOf] <;> omega
              · have d3 : decide ((k : Int) < 26) = false := by simp; omega
                obtain ⟨o, ho⟩ : ∃ o, rBest s.data.toList i op = o := ⟨_, rfl⟩
                have hR : BeI w (.slice (some ⟨g, 0, none⟩) 36 vc) o wr := by
                  have h := HR.out
                  rw [← ho]; unfold rBest
                  rw [if_neg (by rw [HNM.out]; simp)]
                  rw [List.take_of_length_le (by show 26 ≤ k; omega)] at h
                  exact h
                have HRR := Lib.hid hR
                obtain ⟨o1, o2⟩ := o
                obtain ⟨y0, y1, z0, z1⟩ := hR.cells
                obtain ⟨x0, x1, v0, v1⟩ := hR.resCells
                simp only at y0 y1
                have HO := Lib.hid ho
                clear hR HR ho
                go_wp2_with fail
                refine match_ret rfl rfl (heap_set _ _ 1 _ _ _ _ (heap_set _ _ 0 _ _ _ _ HRR.out.res)) rfl ?_
                exact ⟨by rw [HO.out]; rfl, (HRR.out.bel.setCell (p := ⟨w.heap.size, 0, none⟩) (Nat.le_refl _) _).setCell (p := ⟨w.heap.size, 1, none⟩) (Nat.le_refl _) _⟩
            · have hk0 := hnk rfl
              obtain ⟨o, ho⟩ : ∃ o, rBest s.data.toList i op = o := ⟨_, rfl⟩
              have hR : BeI w (.slice (some ⟨g, 0, none⟩) 36 vc) o wr := by
                have h := HR.out
                rw [← ho]; unfold rBest
                rw [if_pos HNM.out]
                rw [hnk rfl] at h
                exact h
              have HRR := Lib.hid hR
              obtain ⟨o1, o2⟩ := o
              obtain ⟨y0, y1, z0, z1⟩ := hR.cells
              obtain ⟨x0, x1, v0, v1⟩ := hR.resCells
              simp only at y0 y1
              have HO := Lib.hid ho
              clear hR HR ho
              go_wp2_with fail
              refine match_ret rfl rfl (heap_set _ _ 1 _ _ _ _ (heap_set _ _ 0 _ _ _ _ HRR.out.res)) rfl ?_
              exact ⟨by rw [HO.out]; rfl, (HRR.out.bel.setCell (p := ⟨w.heap.size, 0, none⟩) (Nat.le_refl _) _).setCell (p := ⟨w.heap.size, 1, none⟩) (Nat.le_refl _) _⟩
end Go.Proofs.YtopbmndjnjnmcaaGreatDoor

namespace Go.Proofs.YtopbmndjnjnmcaaGreatDoor
open Go.RowKit Lx

attribute [local go_sem] Oper.semAt_some

theorem isD_mem (b : UInt8) : rMem 68 b.toNat = isD b := by
  unfold rMem isD; simp [cDigit]
/-- **member**, of digits -/
theorem digit_any (b : UInt8) (w : World) : Calls Tryz.prog 122 #[.int .u8 68, .int .u8 (b.toNat : Int)] w fun e W => e = .returned (.bool (isD b)) ∧ W = w := by
  have h := member_any 68 b w
  rw [show rMem (68 : UInt8).toNat b.toNat = isD b from isD_mem b] at h
  exact h
theorem pre_bound {d : Bs} {neg : Bool} {k : Nat} (hk : k + 1 ≤ d.length) (h : d.length ≤ 19) (hd : ∀ c ∈ d.take (k + 1), isD c = true) (hm : d.length = 19 → (Op.bytesLess d (dMost neg) || d == dMost neg) = true) : dVal (d.take (k + 1)) 0 ≤ if neg then 9223372036854775808 else 9223372036854775807 := by
  by_cases h19 : k + 1 = 19
  · have e : d.take (k + 1) = d := List.take_of_length_le (by omega)
    rw [e] at hd ⊢
    exact bound_val h hd hm
  · have h1 := dVal_high (d.take (k + 1)) 0 hd
    have h2 : (10 : Nat) ^ (d.take (k + 1)).length ≤ 10 ^ 18 := Nat.pow_le_pow_right (by omega) (by rw [List.length_take]; omega)
    have h3 : (10 : Nat) ^ 18 = 1000000000000000000 := by decide
    split <;> omega
theorem dVal_snoc (d : Bs) (k : Nat) (b : UInt8) (h : d[k]? = some b) : dVal (d.take (k + 1)) 0 = dVal (d.take k) 0 * 10 + (b.toNat - 48) := by
  rw [List.take_add_one, h, dVal_append]; rfl
theorem bad_out {l d : Bs} {neg : Bool} (h : dBad l d neg = false) : d.length ≤ 19 ∧ (d.length = 19 → (Op.bytesLess d (dMost neg) || d == dMost neg) = true) := by
  unfold dBad at h
  simp only [Bool.or_eq_false_iff, Bool.and_eq_false_iff, beq_eq_false_iff_ne, ne_eq, decide_eq_false_iff_not, Bool.not_eq_false', Nat.not_lt] at h
  exact ⟨h.1.1.2, fun e => h.1.2.resolve_left (fun n => n e)⟩

set_option maxRecDepth 100000 in
set_option maxHeartbeats 8000000 in
/-- **Number** -/
theorem refNumber_any (s : ByteArray) (w : World) :
    Calls Tryz.prog 98 #[.string s] w fun e W => e = .returned (.tuple (if qCanon s.data.toList = true then #[.int .i64 (qNum s.data.toList), .int .i64 0] else #[.int .i64 0, .int .i64 11])) ∧ Below w.heap.size w W := by
  obtain ⟨res, hres⟩ : ∃ r : Array Value, (if qCanon s.data.toList = true then #[.int .i64 (qNum s.data.toList), .int .i64 0] else #[.int .i64 0, .int .i64 11]) = r := ⟨_, rfl⟩
  rw [hres]
  have HR := Lib.hid hres
  clear hres
  have hpre : ∃ c : Bool, (s.size = 0 ∧ c = false ∨ ∃ h : 0 < s.size, c = ((s[0].toNat : Int) == 45)) ∧ dNeg s.data.toList = c := by
    by_cases h0 : s.size = 0
    · have hl : s.data.toList = [] := by
        apply List.length_eq_zero_iff.1; simpa using h0
      exact ⟨false, .inl ⟨h0, rfl⟩, by rw [hl]; rfl⟩
    · have hh : s.data.toList.head? = some (s[0]'(by omega)) := by
        rw [List.head?_eq_getElem?]; exact byte_get s 0 (by omega)
      refine ⟨_, .inr ⟨by omega, rfl⟩, ?_⟩
      unfold dNeg; rw [hh, show (((s[0]'(by omega)).toNat : Int) == 45) = (s[0]'(by omega) == 45) from u8_eq _ 45 (by omega)]; rfl
  obtain ⟨neg, hpre, hn⟩ := hpre
  have HN := Lib.hid hn
  clear hn
  go_enter Tryz.func98, Tryz.ntmps98
  go_upto_region 4 with fail
  go_cut [17] from 10 to 17 (fun v wx => v = .bool neg ∧ wx = w)
  case first =>
    rcases hpre with ⟨h0, rfl⟩ | ⟨h0, hc⟩
    · have d0 : decide ((0 : Int) < (s.size : Int)) = false := decide_eq_false (by omega)
      have d0b : decide (0 < s.size) = false := decide_eq_false (by omega)
      go_wp2_with fail
      go_meet
      exact ⟨rfl, rfl⟩
    · have d0 : decide ((0 : Int) < (s.size : Int)) = true := decide_eq_true (by omega)
      have d0b : decide (0 < s.size) = true := decide_eq_true h0
      have i1 : (0 : Int) < (s.size : Int) := by omega
      go_wp2_with fail
      go_meet
      exact ⟨by rw [hc], rfl⟩
  case rest =>
    obtain ⟨rfl, rfl⟩ := hcut
    go_upto_if 17 with (fail)
    go_cut [4, 5, 6] from 17 to 19 (fun d m g wx => ∃ (x : ByteArray), d = .string x ∧ m = .string ⟨(dMost neg).toArray⟩ ∧ g = .int .i64 (dSign neg) ∧ x.size ≤ s.size ∧ Hid (x.data.toList = dBody s.data.toList) ∧ wx = wc)
    case first =>
      cases neg
      · go_wp2_with fail
        go_meet
        exact ⟨s, rfl, rfl, rfl, Nat.le_refl _, Lib.hid (by unfold dBody; rw [HN.out]; rfl), rfl⟩
      · have h1 : 1 ≤ s.size := by
          rcases hpre with ⟨_, h⟩ | ⟨h, _⟩
          · cases h
          · exact h
        have i1 : (1 : Int) ≤ (s.size : Int) := by omega
        go_wp2_with fail
        go_meet
        refine ⟨s.extract 1 s.size, rfl, rfl, rfl, by simp, Lib.hid ?_, rfl⟩
        rw [extract_list, List.take_of_length_le (by simp)]
        unfold dBody; rw [HN.out]; rfl
    case rest =>
      obtain ⟨x, rfl, rfl, rfl, hx, HB, rfl⟩ := hcut
      have hy19 : (⟨(dMost neg).toArray⟩ : ByteArray).size = 19 := (dMost_val neg).1
      have hyl : (⟨(dMost neg).toArray⟩ : ByteArray).toList = dMost neg := by rw [whole_list]
      obtain ⟨y, hy⟩ : ∃ y : ByteArray, ⟨(dMost neg).toArray⟩ = y := ⟨_, rfl⟩
      rw [hy] at hy19 hyl ⊢
      clear hy hpre
      have hxl : x.toList = dBody s.data.toList := by rw [whole_list]; exact HB.out
      have hlen : (dBody s.data.toList).length = x.size := by rw [← HB.out]; simp
      have hhead : ∀ h : 0 < x.size, (dBody s.data.toList).head? = some x[0] := fun h => by
        rw [← HB.out, List.head?_eq_getElem?]; exact byte_get x 0 h
      have HYL := Lib.hid hyl
      have HXL := Lib.hid hxl
      have HL := Lib.hid hlen
      have HH := Lib.hid hhead
      have hs48 : (s.toList == [48]) = (s.data.toList == [48]) := by rw [whole_list]
      have HS := Lib.hid hs48
      clear hyl hxl hlen hhead hs48
      go_upto_region 8 with fail
      go_cut [50] from 20 to 50 (fun v wx => v = .bool (dBad s.data.toList (dBody s.data.toList) neg) ∧ wx = wc)
      case first =>
        by_cases h0 : x.size = 0
        · have e0 : ((x.size : Int) == 0) = true := by rw [beq_iff_eq]; omega
          have hr : Hid (dBad s.data.toList (dBody s.data.toList) neg = true) := Lib.hid (by unfold dBad; rw [HL.out, h0]; rfl)
          go_wp2_with fail
          go_meet
          exact ⟨by rw [hr.out], rfl⟩
        · have e0 : ((x.size : Int) == 0) = false := by rw [beq_eq_false_iff_ne]; omega
          have n0 : (x.size == 0) = false := by rw [beq_eq_false_iff_ne]; exact h0
          by_cases h19 : 19 < x.size
          · have e1 : decide ((19 : Int) < (x.size : Int)) = true := decide_eq_true (by omega)
            have e1b : decide (19 < x.size) = true := decide_eq_true (by omega)
            have hr : Hid (dBad s.data.toList (dBody s.data.toList) neg = true) := Lib.hid (by unfold dBad; rw [HL.out, n0, decide_eq_true h19]; rfl)
            go_wp2_with fail
            go_meet
            exact ⟨by rw [hr.out], rfl⟩
          · have e1 : decide ((19 : Int) < (x.size : Int)) = false := decide_eq_false (by omega)
            have e1b : decide (19 < x.size) = false := decide_eq_false (by omega)
            have n1 : decide (19 < x.size) = false := decide_eq_false h19
            have i0 : (0 : Int) < (x.size : Int) := by omega
            have j0 : 0 < x.size := by omega
            have h48 : ((dBody s.data.toList).head? == some 48) = ((x[0].toNat : Int) == 48) := by
              rw [HH.out j0, show ((x[0].toNat : Int) == 48) = (x[0] == 48) from u8_eq _ 48 (by omega)]; rfl
            have hdec : dBad s.data.toList (dBody s.data.toList) neg = (((x.size : Int) == 19) && !(Op.bytesLess x.toList y.toList || x.toList == y.toList) || (((x[0].toNat : Int) == 48) && !(s.toList == [48]))) := by
              unfold dBad
              rw [HL.out, n0, n1, HXL.out, HYL.out, h48, HS.out, show ((x.size : Int) == 19) = (x.size == 19) from by rw [Bool.eq_iff_iff, beq_iff_eq, beq_iff_eq]; omega]
              rfl
            have HD := Lib.hid hdec
            clear h48 hdec n1 n0
            cases c3 : ((x.size : Int) == 19)
            · cases c5 : ((x[0].toNat : Int) == 48)
              · have hr : Hid (dBad s.data.toList (dBody s.data.toList) neg = false) := Lib.hid (by rw [HD.out, c3, c5]; rfl)
                go_wp2_with fail
                go_meet
                exact ⟨by rw [hr.out], rfl⟩
              · cases c6 : (s.toList == [48])
                · have hr : Hid (dBad s.data.toList (dBody s.data.toList) neg = true) := Lib.hid (by rw [HD.out, c3, c5, c6]; rfl)
                  go_wp2_with fail
                  go_meet
                  exact ⟨by rw [hr.out], rfl⟩
                · have hr : Hid (dBad s.data.toList (dBody s.data.toList) neg = false) := Lib.hid (by rw [HD.out, c3, c5, c6]; rfl)
                  go_wp2_with fail
                  go_meet
                  exact ⟨by rw [hr.out], rfl⟩
            · cases c4a : Op.bytesLess x.toList y.toList <;> cases c4b : (x.toList == y.toList)
              · have hr : Hid (dBad s.data.toList (dBody s.data.toList) neg = true) := Lib.hid (by rw [HD.out, c3, c4a, c4b]; rfl)
                go_wp2_with fail
                go_meet
                exact ⟨by rw [hr.out], rfl⟩
              all_goals
                cases c5 : ((x[0].toNat : Int) == 48)
                · have hr : Hid (dBad s.data.toList (dBody s.data.toList) neg = false) := Lib.hid (by rw [HD.out, c3, c4a, c4b, c5]; rfl)
                  go_wp2_with fail
                  go_meet
                  exact ⟨by rw [hr.out], rfl⟩
                · cases c6 : (s.toList == [48])
                  · have hr : Hid (dBad s.data.toList (dBody s.data.toList) neg = true) := Lib.hid (by rw [HD.out, c3, c4a, c4b, c5, c6]; rfl)
                    go_wp2_with fail
                    go_meet
                    exact ⟨by rw [hr.out], rfl⟩
                  · have hr : Hid (dBad s.data.toList (dBody s.data.toList) neg = false) := Lib.hid (by rw [HD.out, c3, c4a, c4b, c5, c6]; rfl)
                    go_wp2_with fail
                    go_meet
                    exact ⟨by rw [hr.out], rfl⟩
      case rest =>
        obtain ⟨rfl, rfl⟩ := hcut
        cases hbad : dBad s.data.toList (dBody s.data.toList) neg
        · obtain ⟨b19, bm⟩ := bad_out hbad
          have BM := Lib.hid bm
          have HBAD := Lib.hid hbad
          have hx19 : x.size ≤ 19 := by rw [HL.out] at b19; exact b19
          clear bm hbad b19 hy19 HYL HH HS HXL
          go_wp2_with fail
          go_loop [7, 8] (fun a b => ∃ k : Nat, k ≤ x.size ∧ b = .int .i64 k ∧ a = .int .i64 (dSign neg * (dVal ((dBody s.data.toList).take k) 0 : Int)) ∧ Hid (∀ c ∈ (dBody s.data.toList).take k, isD c = true)) (fun _ b => x.size - (intOf b).toNat)
          case atStart => exact ⟨0, by omega, rfl, by simp [dVal], Lib.hid (by simp)⟩
          case round =>
            obtain ⟨k, hk, rfl, rfl, HA⟩ := hrel
            by_cases hlt : k < x.size
            · have d1 : decide ((k : Int) < (x.size : Int)) = true := decide_eq_true (by omega)
              have d1b : decide (k < x.size) = true := decide_eq_true hlt
              have r0 : (0 : Int) ≤ (k : Int) := by omega
              have r1 : (k : Int) < (x.size : Int) := by omega
              have hb : (dBody s.data.toList)[k]? = some x[k] := by rw [← HB.out]; exact byte_get x k hlt
              have HBY := Lib.hid hb
              clear hb
              cases hd : isD x[k]
              · have hr : Hid (qCanon s.data.toList = false) := Lib.hid (by
                  cases hq : qCanon s.data.toList
                  · rfl
                  · have := (canon_bad _ hq).2 x[k] (List.mem_of_getElem? HBY.out)
                    rw [hd] at this; cases this)
                go_wp2_with fail
                refine (digit_any x[k] _).mono ?_
                rintro e w1 ⟨rfl, rfl⟩
                rw [hd]
                go_wp2_with fail
                refine bodyPost_ret (v := .tuple #[.int .i64 0, .int .i64 11]) (by simp [results, Tryz.results98, go_sem]) rfl ⟨?_, Below.refl _ _⟩
                rw [← HR.out, hr.out]; rfl
              · have hdd := isD_iff.1 hd
                have hA : ∀ c ∈ (dBody s.data.toList).take (k + 1), isD c = true := by
                  rw [List.take_add_one, HBY.out]
                  intro c hc
                  rw [List.mem_append] at hc
                  rcases hc with hc | hc
                  · exact HA.out c hc
                  · simp at hc; rw [hc]; exact hd
                have hV := pre_bound (neg := neg) (by rw [HL.out]; exact hlt) (by rw [HL.out]; exact hx19) hA BM.out
                have hsn := dVal_snoc _ k _ HBY.out
                rw [hsn] at hV
                have HSN := Lib.hid hsn
                have HA1 := Lib.hid hA
                clear hsn hA
                obtain ⟨V, hVe⟩ : ∃ V : Nat, dVal ((dBody s.data.toList).take k) 0 = V := ⟨_, rfl⟩
                rw [hVe] at hV ⊢
                have HVE := Lib.hid hVe
                clear hVe
                have b0 : (48 : Int) ≤ (x[k].toNat : Int) := by omega
                have b1 : (x[k].toNat : Int) ≤ 57 := by omega
                cases neg
                · have hV' : V * 10 + (x[k].toNat - 48) ≤ 9223372036854775807 := hV
                  rw [show dSign false * (V : Int) = (V : Int) from by simp [dSign], show dSign false = 1 from rfl]
                  clear hV hd
                  go_wp2_with fail
                  refine (digit_any x[k] _).mono ?_
                  rintro e w1 ⟨rfl, rfl⟩
                  rw [isD_iff.2 hdd]
                  go_wp2_with fail
                  go_round
                  case rel => exact ⟨k + 1, by omega, rfl, by rw [HSN.out, HVE.out]; simp <;> omega, HA1⟩
                  case measure => simp [intOf] <;> omega
                · have hV' : V * 10 + (x[k].toNat - 48) ≤ 9223372036854775808 := hV
                  rw [show dSign true * (V : Int) = -(V : Int) from by simp [dSign], show dSign true = -1 from rfl]
                  clear hV hd
                  go_wp2_with fail
                  refine (digit_any x[k] _).mono ?_
                  rintro e w1 ⟨rfl, rfl⟩
                  rw [isD_iff.2 hdd]
                  go_wp2_with fail
                  go_round
                  case rel => exact ⟨k + 1, by omega, rfl, by rw [HSN.out, HVE.out]; simp <;> omega, HA1⟩
                  case measure => simp [intOf] <;> omega
            · have d1 : decide ((k : Int) < (x.size : Int)) = false := decide_eq_false (by omega)
              have d1b : decide (k < x.size) = false := decide_eq_false hlt
              have hall : (dBody s.data.toList).take k = dBody s.data.toList := List.take_of_length_le (by rw [HL.out]; omega)
              rw [hall] at HA ⊢
              have hg := canon_good s.data.toList (by rw [HN.out]; exact HBAD.out) HA.out
              rw [HN.out] at hg
              have HG := Lib.hid hg
              clear hg hall
              go_wp2_with fail
              refine bodyPost_ret (v := .tuple #[.int .i64 (dSign neg * (dVal (dBody s.data.toList) 0 : Int)), .int .i64 0]) (by simp [results, Tryz.results98, go_sem]) rfl ⟨?_, Below.refl _ _⟩
              rw [← HR.out, HG.out.1, HG.out.2]; rfl
        · have hr : Hid (qCanon s.data.toList = false) := Lib.hid (by
            cases hq : qCanon s.data.toList
            · rfl
            · have := (canon_bad _ hq).1
              rw [HN.out, hbad] at this; cases this)
          clear HL HB HH HYL HXL HS hy19 hx
          go_wp2_with fail
          refine bodyPost_ret (v := .tuple #[.int .i64 0, .int .i64 11]) (by simp [results, Tryz.results98, go_sem]) rfl ⟨?_, Below.refl _ _⟩
          rw [← HR.out, hr.out]; rfl
end Go.Proofs.YtopbmndjnjnmcaaGreatDoor

namespace Go.Proofs.YtopbmndjnjnmcaaGreatDoor
open Go.RowKit Lx

attribute [local go_sem] Oper.semAt_some

def bStuck : ByteArray := ⟨#[95, 63, 33, 36]⟩
theorem find_stuck (b : UInt8) : decide ((0 : Int) ≤ Lib.indexByte bStuck.data.toList b) = [95, 63, 33, 36].contains b.toNat := by
  rw [find_is, cont_nat]; rfl
theorem stuck_is (b : UInt8) : qCls 6 b.toNat = (rMem 76 b.toNat || decide ((0 : Int) ≤ Lib.indexByte bStuck.data.toList b)) := by
  rw [find_stuck]; rfl
/-- **member**, of letters -/
theorem letter_any (b : UInt8) (w : World) : Calls Tryz.prog 122 #[.int .u8 76, .int .u8 (b.toNat : Int)] w fun e W => e = .returned (.bool (rMem 76 b.toNat)) ∧ W = w := member_any 76 b w

set_option maxRecDepth 100000 in
set_option maxHeartbeats 8000000 in
/-- **integral** -/
theorem refIntegral_any (s : ByteArray) (i n : Nat) (hs : s.size ≤ 20000) (hin : i + n ≤ s.size) (w : World) :
    Calls Tryz.prog 138 #[.string s, .int .i64 i, .int .i64 n] w fun e W => e = .returned (.int .i64 (rInteger s.data.toList i n : Nat)) ∧ Below w.heap.size w W := by
  by_cases h100 : 100 ≤ n
  · have d : decide ((100 : Int) ≤ (n : Int)) = true := decide_eq_true (by omega)
    have hr : Hid (rInteger s.data.toList i n = 11) := Lib.hid (by unfold rInteger; rw [decide_eq_true h100]; rfl)
    go_enter Tryz.func138, Tryz.ntmps138
    go_wp2_with fail
    go_ret
    exact ⟨by rw [hr.out]; rfl, Below.refl _ _⟩
  · have d : decide ((100 : Int) ≤ (n : Int)) = false := decide_eq_false (by omega)
    have d' : decide (100 ≤ n) = false := decide_eq_false h100
    have hst : ∀ b, qAt 6 s.data.toList (i + n) = b → rInteger s.data.toList i n = if (b || !qCanon ((s.data.toList.drop i).take n)) = true then 11 else 0 := fun b h => by
      unfold rInteger; rw [d', h, Bool.false_or]
    have HST := Lib.hid hst
    have q0 : (0 : Int) ≤ (i : Int) := by omega
    have q1 : (i : Int) ≤ (i : Int) + (n : Int) := by omega
    have q2 : (i : Int) + (n : Int) ≤ (s.size : Int) := by omega
    have q3 : ((i : Int) + (n : Int)).toNat = i + n := by omega
    have hex : (s.extract i (i + n)).data.toList = (s.data.toList.drop i).take n := by rw [extract_list, Nat.add_sub_cancel_left]
    have HEX := Lib.hid hex
    clear hst hex d'
    by_cases hlt : i + n < s.size
    · have d2 : decide ((i : Int) + (n : Int) < (s.size : Int)) = true := decide_eq_true (by omega)
      have q4 : (0 : Int) ≤ (i : Int) + (n : Int) := by omega
      have q5 : (i : Int) + (n : Int) < (s.size : Int) := by omega
      have hat := (qAt_lt 6 s (i + n) hlt).trans (stuck_is _)
      have HAT := Lib.hid hat
      clear hat
      cases h1 : rMem 76 s[i + n].toNat
      · cases h2 : decide ((0 : Int) ≤ Lib.indexByte bStuck.data.toList s[i + n])
        · have hr := HST.out false (by rw [HAT.out, h1, h2]; rfl)
          have HRR := Lib.hid hr
          clear hr
          go_enter Tryz.func138, Tryz.ntmps138
          go_wp2_with fail
          refine (letter_any s[i + n] _).mono ?_
          rintro e w1 ⟨rfl, rfl⟩
          rw [h1]
          go_wp2_with fail
          refine (find_any bStuck s[i + n] (by decide) _).mono ?_
          rintro e w2 ⟨rfl, rfl⟩
          go_wp2_with fail
          refine (refNumber_any _ _).mono ?_
          rintro e w3 ⟨rfl, hb⟩
          rw [HEX.out]
          cases hq : qCanon ((s.data.toList.drop i).take n)
          all_goals
            go_wp2_with fail
            go_ret
            exact ⟨by rw [HRR.out, hq]; rfl, hb⟩
        · have hr := HST.out true (by rw [HAT.out, h1, h2]; rfl)
          have HRR := Lib.hid hr
          clear hr
          go_enter Tryz.func138, Tryz.ntmps138
          go_wp2_with fail
          refine (letter_any s[i + n] _).mono ?_
          rintro e w1 ⟨rfl, rfl⟩
          rw [h1]
          go_wp2_with fail
          refine (find_any bStuck s[i + n] (by decide) _).mono ?_
          rintro e w2 ⟨rfl, rfl⟩
          go_wp2_with fail
          go_ret
          exact ⟨by rw [HRR.out]; rfl, Below.refl _ _⟩
      · have hr := HST.out true (by rw [HAT.out, h1]; rfl)
        have HRR := Lib.hid hr
        clear hr
        go_enter Tryz.func138, Tryz.ntmps138
        go_wp2_with fail
        refine (letter_any s[i + n] _).mono ?_
        rintro e w1 ⟨rfl, rfl⟩
        rw [h1]
        go_wp2_with fail
        go_ret
        exact ⟨by rw [HRR.out]; rfl, Below.refl _ _⟩
    · have d2 : decide ((i : Int) + (n : Int) < (s.size : Int)) = false := decide_eq_false (by omega)
      have hr := HST.out false (qAt_ge 6 s (i + n) (by omega))
      have HRR := Lib.hid hr
      clear hr
      go_enter Tryz.func138, Tryz.ntmps138
      go_wp2_with fail
      refine (refNumber_any _ _).mono ?_
      rintro e w3 ⟨rfl, hb⟩
      rw [HEX.out]
      cases hq : qCanon ((s.data.toList.drop i).take n)
      all_goals
        go_wp2_with fail
        go_ret
        exact ⟨by rw [HRR.out, hq]; rfl, hb⟩
end Go.Proofs.YtopbmndjnjnmcaaGreatDoor

namespace Go.Proofs.YtopbmndjnjnmcaaGreatDoor
open Go.RowKit Lx

attribute [local go_sem] Oper.semAt_some

/-- A piece's value. -/
def pieceV (x : Cutted) (i : Nat) : Value := if x.er ≠ 0 then cutV x.er 0 0 0 else cutV 0 x.kind i x.len
theorem piece_ret {fn : Func} {tmps : Array Value} {W : World} {g : Nat} {cs : Array Value} {Post : Ending → World → Prop} (hf : fn.results = #[.cell 6 152]) (hp : tmps.getD 6 undef = .pointer (some ⟨g, 0, none⟩)) (hg : W.heap[g]? = some (.cells cs 152 (0, 0))) (hs : cs.size = 4) (h : Post (.returned (.agg cs)) W) :
    bodyPost Tryz.prog fn Post Exit.ret { tmps := tmps, defers := [] } W :=
  bodyPost_ret (results_cell_row hf tmps W g 152 cs (0, 0) _ hp hg Tryz.underlying152 rfl (by rw [hs]; exact info67)) rfl h

/-- The result's cells, as they were made. -/
structure PRes (w W : World) : Prop where
  res : W.heap[w.heap.size]? = some (.cells #[.int .i64 0, .int .i64 0, .int .i64 0, .int .i64 0] 152 (0, 0))
  bel : Below w.heap.size w W
section
variable {w W W' : World}
theorem PRes.start : PRes w (w.alloc (.cells #[.int .i64 0, .int .i64 0, .int .i64 0, .int .i64 0] 152)) := ⟨heap_alloc_new w _, (Below.refl _ w).alloc (Nat.le_refl _) _⟩
theorem PRes.bl (h : PRes w W) (hb : Below W.heap.size W W') : PRes w W' :=
  ⟨(hb.block _ (Array.getElem?_eq_some_iff.1 h.res).1).trans h.res, h.bel.trans (hb.mono h.bel.size)⟩
theorem PRes.new (h : PRes w W) (o : Obj) : PRes w (W.alloc o) := h.bl ((Below.refl _ W).alloc (Nat.le_refl _) o)
theorem PRes.cells (h : PRes w W) : W.cell? ⟨w.heap.size, 0, none⟩ = some (.int .i64 0) ∧ W.cell? ⟨w.heap.size, 1, none⟩ = some (.int .i64 0) ∧ W.cell? ⟨w.heap.size, 2, none⟩ = some (.int .i64 0) ∧ W.cell? ⟨w.heap.size, 3, none⟩ = some (.int .i64 0) ∧
    W.frozen? ⟨w.heap.size, 0, none⟩ = false ∧ W.frozen? ⟨w.heap.size, 1, none⟩ = false ∧ W.frozen? ⟨w.heap.size, 2, none⟩ = false ∧ W.frozen? ⟨w.heap.size, 3, none⟩ = false := by
  refine ⟨by rw [cell_of_row _ _ _ _ _ _ h.res]; rfl, by rw [cell_of_row _ _ _ _ _ _ h.res]; rfl, by rw [cell_of_row _ _ _ _ _ _ h.res]; rfl, by rw [cell_of_row _ _ _ _ _ _ h.res]; rfl, ?_, ?_, ?_, ?_⟩ <;> simp [World.frozen?, h.res]
theorem PRes.put (h : PRes w W) (a b c d : Value) :
    ((((W.setCell ⟨w.heap.size, 0, none⟩ a).setCell ⟨w.heap.size, 1, none⟩ b).setCell ⟨w.heap.size, 2, none⟩ c).setCell ⟨w.heap.size, 3, none⟩ d).heap[w.heap.size]? = some (.cells #[a, b, c, d] 152 (0, 0)) ∧
    Below w.heap.size w ((((W.setCell ⟨w.heap.size, 0, none⟩ a).setCell ⟨w.heap.size, 1, none⟩ b).setCell ⟨w.heap.size, 2, none⟩ c).setCell ⟨w.heap.size, 3, none⟩ d) :=
  ⟨heap_set _ _ 3 _ _ _ _ (heap_set _ _ 2 _ _ _ _ (heap_set _ _ 1 _ _ _ _ (heap_set _ _ 0 _ _ _ _ h.res))),
   (((h.bel.setCell (p := ⟨w.heap.size, 0, none⟩) (Nat.le_refl _) _).setCell (p := ⟨w.heap.size, 1, none⟩) (Nat.le_refl _) _).setCell (p := ⟨w.heap.size, 2, none⟩) (Nat.le_refl _) _).setCell (p := ⟨w.heap.size, 3, none⟩) (Nat.le_refl _) _⟩
end

theorem rUp_le {o : Nat × Nat} {k n M : Nat} (ho : o.2 ≤ M) (hn : n ≤ M) : (rUp o k n).2 ≤ M := by
  unfold rUp; split
  · exact hn
  · exact ho
theorem rCand_le (s : Bs) (i : Nat) (op name : Bool) (x : Nat × Bs) : rCand s i op name x ≤ s.length - i := by
  unfold rCand; split
  · omega
  · exact (rLen_le s i x.2).2
theorem rBest0_le (s : Bs) (i : Nat) (op nm : Bool) : ∀ (l : List (Nat × Bs)) (o : Nat × Nat), o.2 ≤ s.length - i → (l.foldl (fun o x => rUp o x.1 (rCand s i op nm x)) o).2 ≤ s.length - i
  | [], _, h => h
  | x :: t, _, h => rBest0_le s i op nm t _ (rUp_le h (rCand_le s i op nm x))
theorem rSign_le (s : Bs) (i : Nat) : ∀ (l : List Bs) (o : Nat × Nat), o.2 ≤ s.length - i → (l.foldl (rSign s i) o).2 ≤ s.length - i
  | [], _, h => h
  | x :: t, o, h => rSign_le s i t _ (by
    unfold rSign; split
    · rename_i hc
      have := congrArg List.length hc.2
      rw [List.length_take, List.length_drop] at this
      simp only; omega
    · exact h)
theorem rBest_le (s : Bs) (i : Nat) (op : Bool) : (rBest s i op).2 ≤ s.length - i := by
  have h0 : (rBest0 s i op).2 ≤ s.length - i := rBest0_le s i op _ rRules (0, 0) (Nat.zero_le _)
  unfold rBest; split
  · exact h0
  · exact rSign_le s i rSigns _ h0
/-- **member**, of a name's bytes -/
theorem word_any (b : UInt8) (w : World) : Calls Tryz.prog 122 #[.int .u8 87, .int .u8 (b.toNat : Int)] w fun e W => e = .returned (.bool (rMem 87 b.toNat)) ∧ W = w := member_any 87 b w
theorem word_is (b : UInt8) : qCls 2 b.toNat = rMem 87 b.toNat := rfl

theorem next_er {l : Bs} {i er n : Nat} (op : Bool) (hq : qComment (l.drop i) = (er, n)) (h : er ≠ 0) : qNext l i op = ⟨er, 0, 0⟩ := by
  unfold qNext; rw [hq]; exact if_pos h
theorem next_com {l : Bs} {i n : Nat} (op : Bool) (hq : qComment (l.drop i) = (0, n)) (h : n ≠ 0) : qNext l i op = ⟨0, 8, n⟩ := by
  unfold qNext; rw [hq]; simp only; rw [if_neg (by simp), if_pos (by omega)]
theorem next_blank {l : Bs} {i : Nat} (op : Bool) (hq : qComment (l.drop i) = (0, 0)) {k : Nat} (hk : qRun 7 (l.drop i) = k) (h : k ≠ 0) : qNext l i op = ⟨0, 7, k⟩ := by
  unfold qNext; rw [hq, hk]; simp only; rw [if_neg (by simp), if_neg (by simp), if_pos (by omega)]

set_option maxRecDepth 100000 in
set_option maxHeartbeats 8000000 in
/-- **piece** -/
theorem refPiece_any (s : ByteArray) (i : Nat) (op : Bool) (hs : s.size ≤ 20000) (hi : i < s.size) (w : World) :
    Calls Tryz.prog 120 #[.string s, .int .i64 i, .bool op] w fun e W => e = .returned (pieceV (qNext s.data.toList i op) i) ∧ Below w.heap.size w W := by
  obtain ⟨V, hV⟩ : ∃ V, pieceV (qNext s.data.toList i op) i = V := ⟨_, rfl⟩
  rw [hV]
  have HV := Lib.hid hV
  clear hV
  have hc : rComment (s.data.toList.drop i) i = if (qComment (s.data.toList.drop i)).1 ≠ 0 then cutV (qComment (s.data.toList.drop i)).1 0 0 0 else if (qComment (s.data.toList.drop i)).2 = 0 then cutV 0 0 0 0 else cutV 0 8 i (qComment (s.data.toList.drop i)).2 := rfl
  obtain ⟨er, n, hq⟩ : ∃ er n, qComment (s.data.toList.drop i) = (er, n) := ⟨_, _, rfl⟩
  rw [hq] at hc
  simp only at hc
  have HC := Lib.hid hc
  have HQ := Lib.hid hq
  clear hc hq
  by_cases her : er = 0
  · subst her
    by_cases hn : n = 0
    · subst hn
      have hc := HC.out
      rw [if_neg (by simp), if_pos rfl] at hc
      go_enter Tryz.func120, Tryz.ntmps120
      go_wp2_with fail
      refine (refComment_any s i hs hi _).mono ?_
      rintro e w1 ⟨rfl, hb1⟩
      rw [hc]
      unfold cutV
      go_upto_block 0 with fail
      have hP := ((PRes.start (w := w)).bl hb1).new (.cells #[.int .i64 0, .int .i64 0, .int .i64 0, .int .i64 0] 152)
      obtain ⟨w2, hw2⟩ : ∃ w2, w1.alloc (.cells #[.int .i64 0, .int .i64 0, .int .i64 0, .int .i64 0] 152) = w2 := ⟨_, rfl⟩
      rw [hw2] at hP ⊢
      have HP := Lib.hid hP
      clear hP hw2 hc hb1 HC
      go_cut [8] from 24 to 39 (fun x wx => ∃ k : Nat, x = .int .i64 k ∧ i + k ≤ s.size ∧ Hid (qRun 7 (s.data.toList.drop i) = k) ∧ wx = w2)
      case first =>
        go_wp2_with fail
        go_loop [8] (fun x => ∃ k : Nat, i + k ≤ s.size ∧ x = .int .i64 k ∧ Hid (qRun 7 (s.data.toList.drop i) = k + qRun 7 (s.data.toList.drop (i + k)))) (fun x => s.size - (intOf x).toNat)
        case atStart => exact ⟨0, by omega, rfl, Lib.hid (by simp)⟩
        case round =>
          obtain ⟨k, hk, rfl, HK⟩ := hrel
          by_cases hlt : i + k < s.size
          · have d2 : decide ((i : Int) + (k : Int) < (s.size : Int)) = true := decide_eq_true (by omega)
            have r0 : (0 : Int) ≤ (i : Int) + (k : Int) := by omega
            have r1 : (i : Int) + (k : Int) < (s.size : Int) := by omega
            cases hcl : qCls 7 s[i + k].toNat
            · have hf : Hid (qRun 7 (s.data.toList.drop i) = k) := Lib.hid (by rw [HK.out, qRun_no 7 s (i + k) hlt hcl]; rfl)
              go_wp2_with fail
              refine (refBlank_any s[i + k].toNat _).mono ?_
              rintro e w3 ⟨rfl, rfl⟩
              rw [blank_is, hcl]
              go_wp2_with fail
              go_meet
              exact ⟨k, rfl, hk, hf, rfl⟩
            · have hf : Hid (qRun 7 (s.data.toList.drop i) = (k + 1) + qRun 7 (s.data.toList.drop (i + (k + 1)))) := Lib.hid (by rw [HK.out, qRun_yes 7 s (i + k) hlt hcl, Nat.add_assoc i k 1]; omega)
              go_wp2_with fail
              refine (refBlank_any s[i + k].toNat _).mono ?_
              rintro e w3 ⟨rfl, rfl⟩
              rw [blank_is, hcl]
              go_wp2_with fail
              go_round
              case rel => exact ⟨k + 1, by omega, rfl, hf⟩
              case measure => simp [intOf] <;> omega
          · have d2 : decide ((i : Int) + (k : Int) < (s.size : Int)) = false := decide_eq_false (by omega)
            have hf : Hid (qRun 7 (s.data.toList.drop i) = k) := Lib.hid (by
              rw [HK.out, List.drop_eq_nil_of_le (by simp; omega)]; rfl)
            go_wp2_with fail
            go_meet
            exact ⟨k, rfl, hk, hf, rfl⟩
      case rest =>
        obtain ⟨k, rfl, hk, HK, rfl⟩ := hcut
        by_cases hk0 : k = 0
        · subst hk0
          go_wp2_with fail
          refine (refBest_any s i op hs hi _).mono ?_
          rintro e w3 ⟨rfl, hb3⟩
          have hle := rBest_le s.data.toList i op
          have hpt := piece_tok s.data.toList i op (by simpa using hi) HQ.out HK.out
          obtain ⟨K, N, hKN⟩ : ∃ K N, rBest s.data.toList i op = (K, N) := ⟨_, _, rfl⟩
          rw [hKN] at hle hpt ⊢
          simp only at hle hpt ⊢
          have hN : i + N ≤ s.size := by
            have : s.data.toList.length = s.size := by simp
            omega
          have HT := Lib.hid hpt
          clear hle hpt hKN
          have hP := (HP.out.bl hb3).new (.cells #[.int .i64 K, .int .i64 N] 171)
          have hM := heap_alloc_new w3 (.cells #[.int .i64 K, .int .i64 N] 171)
          obtain ⟨g, hg⟩ : ∃ g, w3.heap.size = g := ⟨_, rfl⟩
          have hwg : w.heap.size < g := by
            have := (Array.getElem?_eq_some_iff.1 ((HP.out.bl hb3).res)).1
            omega
          go_upto_if 52 with (fail)
          obtain ⟨w4, hw4⟩ : ∃ w4, w3.alloc (.cells #[.int .i64 K, .int .i64 N] 171) = w4 := ⟨_, rfl⟩
          rw [hw4]
          rw [hw4, hg] at hM
          rw [hw4] at hP
          have HP4 := Lib.hid hP
          have HM4 := Lib.hid hM
          clear hP hM hw4 hg hb3
          have i0 : (0 : Int) ≤ (i : Int) := by omega
          have i1 : (i : Int) < (s.size : Int) := by omega
          have hsi : s.data.toList[i]? = some s[i] := byte_get s i hi
          have u35 : (s.data.toList[i]? == some 35) = ((s[i].toNat : Int) == 35) := by
            rw [hsi, show ((s[i].toNat : Int) == 35) = (s[i] == 35) from u8_eq _ 35 (by omega)]; rfl
          have U35 := Lib.hid u35
          clear hsi u35
          go_cut [10] from 52 to 91 (fun x wx => x = .int .i64 (rErr s.data.toList i (K, N) : Nat) ∧ wx.heap[g]? = some (.cells #[.int .i64 K, .int .i64 N] 171 (0, 0)) ∧ PRes w wx)
          case first =>
            have m0 : w4.cell? ⟨g, 0, none⟩ = some (.int .i64 K) := by rw [cell_of_row _ _ _ _ _ _ HM4.out]; rfl
            have m1 : w4.cell? ⟨g, 1, none⟩ = some (.int .i64 N) := by rw [cell_of_row _ _ _ _ _ _ HM4.out]; rfl
            by_cases hK2 : K = 2
            · subst hK2
              have hr : Hid (rErr s.data.toList i (2, N) = rInteger s.data.toList i N) := Lib.hid (if_pos rfl)
              go_wp2_with fail
              refine (refIntegral_any s i N hs hN _).mono ?_
              rintro e w5 ⟨rfl, hb5⟩
              go_wp2_with fail
              go_meet
              exact ⟨by rw [hr.out], (hb5.block _ (Array.getElem?_eq_some_iff.1 HM4.out).1).trans HM4.out, HP4.out.bl hb5⟩
            · have d2 : ((K : Int) == 2) = false := by rw [beq_eq_false_iff_ne]; omega
              rw [d2]
              have hr0 : rErr s.data.toList i (K, N) = if ((s.data.toList[i]? == some 35) && (K == 0 || qAt 2 s.data.toList (i + 2))) = true then 12 else if K = 0 then 10 else if K ≠ 5 ∧ 40 < N then 2 else 0 := if_neg hK2
              rw [U35.out] at hr0
              have HR0 := Lib.hid hr0
              clear hr0
              by_cases hK0 : K = 0
              · have e0 : ((K : Int) == 0) = true := by rw [beq_iff_eq]; omega
                have k0 : (K == 0) = true := by rw [beq_iff_eq]; exact hK0
                cases h35 : ((s[i].toNat : Int) == 35)
                · have hr : Hid (rErr s.data.toList i (K, N) = 10) := Lib.hid (by rw [HR0.out, h35, if_neg (by simp), if_pos hK0])
                  clear hK0 hK2
                  go_wp2_with fail
                  go_meet
                  exact ⟨by rw [hr.out]; rfl, HM4.out, HP4.out⟩
                · have hr : Hid (rErr s.data.toList i (K, N) = 12) := Lib.hid (by rw [HR0.out, h35, k0, if_pos (by simp)])
                  clear hK0 hK2
                  go_wp2_with fail
                  go_meet
                  exact ⟨by rw [hr.out]; rfl, HM4.out, HP4.out⟩
              · have e0 : ((K : Int) == 0) = false := by rw [beq_eq_false_iff_ne]; omega
                have k0 : (K == 0) = false := by rw [beq_eq_false_iff_ne]; exact hK0
                have hR : ∃ R : Nat, (if K ≠ 5 ∧ 40 < N then 2 else 0) = R ∧ ((((K : Int) != 5) = false ∧ R = 0) ∨ (((K : Int) != 5) = true ∧ decide ((40 : Int) < (N : Int)) = false ∧ decide (40 < N) = false ∧ R = 0) ∨ (((K : Int) != 5) = true ∧ decide ((40 : Int) < (N : Int)) = true ∧ decide (40 < N) = true ∧ R = 2)) := by
                  by_cases h5 : K = 5
                  · exact ⟨0, if_neg (fun h => h.1 h5), .inl ⟨by subst h5; rfl, rfl⟩⟩
                  · have b5 : ((K : Int) != 5) = true := by simp; omega
                    by_cases h40 : 40 < N
                    · exact ⟨2, if_pos ⟨h5, h40⟩, .inr (.inr ⟨b5, decide_eq_true (by omega), decide_eq_true h40, rfl⟩)⟩
                    · exact ⟨0, if_neg (fun h => h40 h.2), .inr (.inl ⟨b5, decide_eq_false (by omega), decide_eq_false h40, rfl⟩)⟩
                obtain ⟨R, hR, hcase⟩ := hR
                have hr1 : rErr s.data.toList i (K, N) = if (((s[i].toNat : Int) == 35) && qAt 2 s.data.toList (i + 2)) = true then 12 else R := by
                  rw [HR0.out, k0, Bool.false_or, if_neg hK0, hR]
                have HR1 := Lib.hid hr1
                clear hr1 hR k0 hK0 hK2 HR0
                cases h35 : ((s[i].toNat : Int) == 35)
                · have hr : Hid (rErr s.data.toList i (K, N) = R) := Lib.hid (by rw [HR1.out, h35, if_neg (by simp)])
                  clear HR1
                  rcases hcase with ⟨x5, rfl⟩ | ⟨x5, x40, y40, rfl⟩ | ⟨x5, x40, y40, rfl⟩
                  all_goals
                    go_wp2_with fail
                    go_meet
                    exact ⟨by rw [hr.out]; rfl, HM4.out, HP4.out⟩
                · by_cases h2 : i + 2 < s.size
                  · have d2i : decide ((i : Int) + 2 < (s.size : Int)) = true := decide_eq_true (by omega)
                    have r0 : (0 : Int) ≤ (i : Int) + 2 := by omega
                    have r1 : (i : Int) + 2 < (s.size : Int) := by omega
                    have hq2 := (qAt_lt 2 s (i + 2) h2).trans (word_is _)
                    cases hw : rMem 87 s[i + 2].toNat
                    · have hr : Hid (rErr s.data.toList i (K, N) = R) := Lib.hid (by rw [HR1.out, hq2, hw, if_neg (by simp)])
                      clear HR1 hq2
                      rcases hcase with ⟨x5, rfl⟩ | ⟨x5, x40, y40, rfl⟩ | ⟨x5, x40, y40, rfl⟩
                      all_goals
                        go_wp2_with fail
                        refine (word_any s[i + 2] _).mono ?_
                        rintro e w5 ⟨rfl, rfl⟩
                        rw [hw]
                        go_wp2_with fail
                        go_meet
                        exact ⟨by rw [hr.out]; rfl, HM4.out, HP4.out⟩
                    · have hr : Hid (rErr s.data.toList i (K, N) = 12) := Lib.hid (by rw [HR1.out, h35, hq2, hw]; rfl)
                      clear HR1 hq2 hcase
                      go_wp2_with fail
                      refine (word_any s[i + 2] _).mono ?_
                      rintro e w5 ⟨rfl, rfl⟩
                      rw [hw]
                      go_wp2_with fail
                      go_meet
                      exact ⟨by rw [hr.out]; rfl, HM4.out, HP4.out⟩
                  · have d2i : decide ((i : Int) + 2 < (s.size : Int)) = false := decide_eq_false (by omega)
                    have hr : Hid (rErr s.data.toList i (K, N) = R) := Lib.hid (by rw [HR1.out, qAt_ge 2 s (i + 2) (by omega), if_neg (by simp)])
                    clear HR1
                    rcases hcase with ⟨x5, rfl⟩ | ⟨x5, x40, y40, rfl⟩ | ⟨x5, x40, y40, rfl⟩
                    all_goals
                      go_wp2_with fail
                      go_meet
                      exact ⟨by rw [hr.out]; rfl, HM4.out, HP4.out⟩
          case rest =>
            obtain ⟨rfl, hM, hP⟩ := hcut
            have hT := HT.out
            obtain ⟨E, hE⟩ : ∃ E, rErr s.data.toList i (K, N) = E := ⟨_, rfl⟩
            rw [hE] at hT ⊢
            have m0 : wc.cell? ⟨g, 0, none⟩ = some (.int .i64 K) := by rw [cell_of_row _ _ _ _ _ _ hM]; rfl
            have m1 : wc.cell? ⟨g, 1, none⟩ = some (.int .i64 N) := by rw [cell_of_row _ _ _ _ _ _ hM]; rfl
            obtain ⟨c0, c1, c2, c3, f0, f1, f2, f3⟩ := hP.cells
            have HPP := Lib.hid hP
            clear hE HM4 HP4 hM hP
            by_cases hE0 : E = 0
            · have e0 : ((E : Int) != 0) = false := by subst hE0; rfl
              have hr : V = cutV 0 K i N := by
                rw [← HV.out, hT, if_neg (by simpa using hE0)]; exact if_neg (by simp)
              have HR := Lib.hid hr
              clear hr hT hE0
              go_wp2_with fail
              refine piece_ret rfl rfl (HPP.out.put _ _ _ _).1 rfl ?_
              exact ⟨by rw [HR.out]; rfl, (HPP.out.put _ _ _ _).2⟩
            · have e0 : ((E : Int) != 0) = true := by simp; omega
              have hr : V = cutV E 0 0 0 := by
                rw [← HV.out, hT, if_pos hE0]; exact if_pos hE0
              have HR := Lib.hid hr
              clear hr hT hE0
              go_wp2_with fail
              refine piece_ret rfl rfl (HPP.out.put _ _ _ _).1 rfl ?_
              exact ⟨by rw [HR.out]; rfl, (HPP.out.put _ _ _ _).2⟩
        · have d3 : decide ((0 : Int) < (k : Int)) = true := decide_eq_true (by omega)
          have d3b : decide (0 < k) = true := decide_eq_true (by omega)
          have hr : V = cutV 0 7 i k := by
            rw [← HV.out, next_blank op HQ.out HK.out hk0]; exact if_neg (by simp)
          have HR := Lib.hid hr
          clear hr hk0
          obtain ⟨c0, c1, c2, c3, f0, f1, f2, f3⟩ := HP.out.cells
          go_wp2_with fail
          refine piece_ret rfl rfl (HP.out.put _ _ _ _).1 rfl ?_
          exact ⟨by rw [HR.out]; rfl, (HP.out.put _ _ _ _).2⟩
    · have hc := HC.out
      rw [if_neg (by simp), if_neg hn] at hc
      have hr : V = cutV 0 8 i n := by
        rw [← HV.out, next_com op HQ.out hn]; exact if_neg (by simp)
      have HR := Lib.hid hr
      clear hr
      go_enter Tryz.func120, Tryz.ntmps120
      go_wp2_with fail
      refine (refComment_any s i hs hi _).mono ?_
      rintro e w1 ⟨rfl, hb1⟩
      have hP := ((PRes.start (w := w)).bl hb1).new (.cells #[.int .i64 8, .int .i64 i, .int .i64 n, .int .i64 0] 152)
      obtain ⟨c0, c1, c2, c3, f0, f1, f2, f3⟩ := hP.cells
      have HP := Lib.hid hP
      clear hP
      rw [hc]
      unfold cutV
      go_wp2_with fail
      refine piece_ret rfl rfl (HP.out.put _ _ _ _).1 rfl ?_
      exact ⟨by rw [HR.out]; rfl, (HP.out.put _ _ _ _).2⟩
  · have hc := HC.out
    rw [if_pos her] at hc
    have hr : V = cutV er 0 0 0 := by
      rw [← HV.out, next_er op HQ.out her]; exact if_pos her
    have d0 : ((er : Int) != 0) = true := by simp; omega
    have HR := Lib.hid hr
    clear hr
    go_enter Tryz.func120, Tryz.ntmps120
    go_wp2_with fail
    refine (refComment_any s i hs hi _).mono ?_
    rintro e w1 ⟨rfl, hb1⟩
    have hP := ((PRes.start (w := w)).bl hb1).new (.cells #[.int .i64 0, .int .i64 0, .int .i64 0, .int .i64 er] 152)
    obtain ⟨c0, c1, c2, c3, f0, f1, f2, f3⟩ := hP.cells
    have HP := Lib.hid hP
    clear hP
    rw [hc]
    unfold cutV
    go_wp2_with fail
    refine piece_ret rfl rfl (HP.out.put _ _ _ _).1 rfl ?_
    exact ⟨by rw [HR.out]; rfl, (HP.out.put _ _ _ _).2⟩
end Go.Proofs.YtopbmndjnjnmcaaGreatDoor


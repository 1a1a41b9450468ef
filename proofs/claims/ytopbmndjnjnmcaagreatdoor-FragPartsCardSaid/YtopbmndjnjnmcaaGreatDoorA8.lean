/- Package lex: the library's variables, Atoi, Itoa, isCanonical, refuse. -/
import Derived.WalkKit
import Derived.WalkLawsBesides
import Derived.WalkSpells
import Derived.WalkSmall
import Derived.Lib.Hide
import Derived.Lib.QuietBelow
import Derived.Test.YtopbmndjnjnmcaaGreatDoorA7
namespace Go.Proofs.YtopbmndjnjnmcaaGreatDoor
open Go.RowKit Lx

/-- What the library's variables hold. -/
structure Env (w : World) : Prop where
  max : ∃ m, w.cell? ⟨0, 0, none⟩ = some (.int .i64 m)
  syn : ∃ te pe, w.cell? ⟨1, 0, none⟩ = some (.iface te pe)
  rng : ∃ te pe, w.cell? ⟨2, 0, none⟩ = some (.iface te pe)
  tab : Lib.TabIs Tryz.prog w "internal/strconv.uint64pow10" .u64 Lib.pow10Tab
  size : 6 ≤ w.heap.size

theorem toList_data (s : ByteArray) : s.toList = s.data.toList := by
  have := Lib.extract_toList s 0 s.size
  rw [List.drop_zero, List.take_of_length_le (by simp)] at this
  simpa using this

theorem pow10_global : Tryz.prog.globalNamed "internal/strconv.uint64pow10" = some 3 := by kernel_rfl

theorem Env.below {w w' : World} (h : Env w) (hb : Below w.heap.size w w') : Env w' := by
  have hs := h.size
  obtain ⟨m, hm⟩ := h.max
  obtain ⟨t2, p2, h2⟩ := h.syn
  obtain ⟨t3, p3, h3⟩ := h.rng
  exact ⟨⟨m, (hb.cell (p := ⟨0, 0, none⟩) (by show 0 < _; omega)).trans hm⟩, ⟨t2, p2, (hb.cell (p := ⟨1, 0, none⟩) (by show 1 < _; omega)).trans h2⟩, ⟨t3, p3, (hb.cell (p := ⟨2, 0, none⟩) (by show 2 < _; omega)).trans h3⟩,
    var?_below hb pow10_global (by omega) h.tab, Nat.le_trans hs hb.size⟩

/-- Whether digits are the text of an integer. -/
def qCanon (l : Bs) : Bool := match Lib.atoiAll l with | .ok n => Lib.itoa n == l | _ => false

theorem atoi_bounds (l : Bs) (v : Int) (h : Lib.atoiAll l = .ok v) : -9223372036854775808 ≤ v ∧ v ≤ 9223372036854775807 := by
  unfold Lib.atoiAll at h
  split at h
  · cases h
  · simp only at h
    split at h
    · cases h
    · cases h
    · split at h
      · cases h
      · split at h
        · cases h
        · rename_i h1 h2
          injection h with h
          split at h <;> omega

/-- **strconv.Atoi**, however it ends. -/
theorem atoi_any (s : ByteArray) (hs : s.size ≤ 20000) (w : World) (he : Env w) :
    Calls Tryz.prog 130 #[.string s] w fun e w' => Below w.heap.size w w' ∧ ((∃ v : Int, Lib.atoiAll s.data.toList = .ok v ∧ e = .returned (.tuple #[.int .i64 v, .nilIface])) ∨ (∃ (v : Int) (p : Addr), (∀ n, Lib.atoiAll s.data.toList ≠ .ok n) ∧ e = .returned (.tuple #[.int .i64 v, .iface 203 (.pointer (some p))]))) := by
  cases h : Lib.atoiAll s.data.toList with
  | ok v =>
    refine (Tryz.strconv_Atoi_ok s (by omega) v h w).mono ?_
    rintro e w' ⟨rfl, hw⟩
    refine ⟨?_, .inl ⟨v, rfl, rfl⟩⟩
    rcases hw with rfl | ⟨t, rfl⟩
    · exact Below.refl _ _
    · exact Lib.bytesWorld_below _ _ _
  | range =>
    obtain ⟨te, pe, hv⟩ := he.rng
    refine (Tryz.strconv_Atoi_range s (by omega) h _ w hv (.inr ⟨te, pe, rfl⟩)).mono ?_
    rintro e w' ⟨N, rfl, _, _, hb⟩
    exact ⟨hb, .inr ⟨_, _, fun n hn => (by cases hn), rfl⟩⟩
  | _ =>
    obtain ⟨te, pe, hv⟩ := he.syn
    refine (Any.strconv_Atoi_syntax Tryz.laysC172 s (by omega) h _ w hv (.inr ⟨te, pe, rfl⟩)).mono ?_
    rintro e w' ⟨N, rfl, _, _, hb⟩
    exact ⟨hb, .inr ⟨_, _, fun n hn => (by cases hn), rfl⟩⟩

theorem below_grow (w : World) (n : Nat) (os : Array Obj) : Below w.heap.size w (Go.Sort.grow (w.drewN n) os) :=
  ⟨rfl, rfl, rfl, by show w.heap.size ≤ (w.heap ++ os).size; simp, fun k hk => by show (w.heap ++ os)[k]? = w.heap[k]?; exact Array.getElem?_append_left hk⟩

/-- **strconv.Itoa** -/
theorem itoa_any (n : Int) (h0 : -9223372036854775808 ≤ n) (h1 : n ≤ 9223372036854775807) (w : World) (he : Env w) :
    Calls Tryz.prog 187 #[.int .i64 n] w fun e w' => e = .returned (.string ⟨(Lib.itoa n).toArray⟩) ∧ Below w.heap.size w w' := by
  refine (Tryz.strconv_Itoa n h0 h1 w he.tab).mono ?_
  rintro e w' ⟨rfl, k, os, rfl⟩
  exact ⟨rfl, below_grow w k os⟩

set_option maxHeartbeats 1000000 in
theorem isCanonical_any (s : ByteArray) (hs : s.size ≤ 20000) (w : World) (he : Env w) :
    Calls Tryz.prog 183 #[.string s] w fun e w' => e = .returned (.bool (qCanon s.data.toList)) ∧ Below w.heap.size w w' := by
  have HE := Lib.hid he
  clear he
  go_enter Tryz.func183, Tryz.ntmps183
  go_wp2_with fail
  refine (atoi_any s hs _ HE.out).mono ?_
  rintro e w1 ⟨hb, ⟨v, hv, rfl⟩ | ⟨v, p, hv, rfl⟩⟩
  · have HV := Lib.hid hv
    obtain ⟨b0, b1⟩ := atoi_bounds _ v hv
    clear hv
    go_wp2_with fail
    refine (itoa_any v b0 b1 _ (HE.out.below hb)).mono ?_
    rintro e w2 ⟨rfl, hb2⟩
    go_wp2_with fail
    go_ret
    refine ⟨congrArg (fun x => Ending.returned (.bool x)) ?_, bt hb hb2⟩
    unfold qCanon; rw [HV.out, toList_data]
  · have hv' : Hid (qCanon s.data.toList = false) := by
      refine Lib.hid ?_; unfold qCanon; split
      · rename_i n hn; exact (hv n hn).elim
      · rfl
    clear hv
    go_wp2_with fail
    go_ret
    exact ⟨by rw [hv'.out]; rfl, hb⟩

set_option maxHeartbeats 1000000 in
theorem refuse_any (s : ByteArray) (b i t : Nat) (op : Bool) (er : Int) (w : World) (hc : Cut w b s i t op) :
    Calls Tryz.prog 140 #[.pointer (some ⟨b, 0, none⟩), .int .i64 er] w fun e w' => e = .panicked [{ v := .iface 161 (.agg #[.int .i64 er, .int .i64 i]), recovered := false }] ∧ w' = w := by
  obtain ⟨h0, h1, _, h3⟩ := hc
  go_enter Tryz.func140, Tryz.ntmps140
  go_wp2
  exact ⟨rfl, rfl, rfl⟩
end Go.Proofs.YtopbmndjnjnmcaaGreatDoor

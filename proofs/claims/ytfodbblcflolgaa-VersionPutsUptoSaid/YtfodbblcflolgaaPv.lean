/- VersionPuts: every edit has the document's bytes, and every bytes the document's edit, or its error. Condition: what comes in is of a bulk of at most 1048576 (the Upto form). -/
import Derived.Test.YtfodbblcflolgaaPu
import Derived.Test.YtfodbblcflolgaaLaw
import Derived.SizedLaws
import Derived.Deep.CondSized
import Derived.Deep.QuietTactic
import Derived.BigQuiet
namespace Go.Proofs.Ytfodbblcflolgaa
open Go.ChangeShapes Go.WideShapes Go.ChangeAt Go.RowKit Go.Deep
open VS

set_option maxRecDepth 100000 in
/-- an edit that comes in by itself -/
theorem open_edit1 {H : Type} {enc : TypeId × Value → H} {w : World} {r : Reach} {b0 : Nat} {v : Value} {d : DataW H} {p : List MemPlace} (hval : Value.okWide Try.prog w r b0 33 v) (h : DataW.Trod enc Try.prog w 0 (fun _ => true) true 33 v d p)
    (hb : Rows.uptoBulk d ≤ 1048576) : ∃ (A : Option Addr) (n c : Nat) (D : Option Addr) (m dd : Nat) (e : Ed), v = .agg #[.slice A n c, .slice D m dd, .int .i64 e.log, .int .i64 e.next, .int .i64 e.seq] ∧ EdIn w A n c D m dd e ∧ e.wt ≤ 1048576 := by
  unfold Value.okWide at hval
  rw [Try.underlying33] at hval
  obtain ⟨cs, rfl, hsz, -⟩ := hval
  have hsn : cs.size = 5 := hsz
  obtain ⟨c0, c1, c2, c3, c4, rfl⟩ : ∃ c0 c1 c2 c3 c4, cs = #[c0, c1, c2, c3, c4] := by
    obtain ⟨l⟩ := cs
    match l, hsn with
    | [c0, c1, c2, c3, c4], _ => exact ⟨c0, c1, c2, c3, c4, rfl⟩
  obtain ⟨fuel, hf⟩ := h
  obtain ⟨ys, m, -, hx, -, hlen, hel⟩ := DataW.trod_struct Try.underlying33 hf
  have hlenn : ys.length = 5 := hlen
  match ys, hlenn with
  | [y0, y1, y2, y3, y4], _ =>
    have e0 : DataW.trod enc Try.prog w 0 (fun _ => true) true m 30 ((([c0, c1, c2, c3, c4] : List Value).drop 0).take (Try.prog.cellsOf 30)) = some y0 := hel 0 _ rfl
    rw [show Try.prog.cellsOf 30 = 1 by kernel_rfl] at e0
    have e1 : DataW.trod enc Try.prog w 0 (fun _ => true) true m 31 ((([c0, c1, c2, c3, c4] : List Value).drop 1).take (Try.prog.cellsOf 31)) = some y1 := hel 1 _ rfl
    rw [show Try.prog.cellsOf 31 = 1 by kernel_rfl] at e1
    have e2 : DataW.trod enc Try.prog w 0 (fun _ => true) true m 2 ((([c0, c1, c2, c3, c4] : List Value).drop 2).take (Try.prog.cellsOf 2)) = some y2 := hel 2 _ rfl
    rw [show Try.prog.cellsOf 2 = 1 by kernel_rfl] at e2
    have e3 : DataW.trod enc Try.prog w 0 (fun _ => true) true m 2 ((([c0, c1, c2, c3, c4] : List Value).drop 3).take (Try.prog.cellsOf 2)) = some y3 := hel 3 _ rfl
    rw [show Try.prog.cellsOf 2 = 1 by kernel_rfl] at e3
    have e4 : DataW.trod enc Try.prog w 0 (fun _ => true) true m 2 ((([c0, c1, c2, c3, c4] : List Value).drop 4).take (Try.prog.cellsOf 2)) = some y4 := hel 4 _ rfl
    rw [show Try.prog.cellsOf 2 = 1 by kernel_rfl] at e4
    simp only [List.drop_zero, List.drop_succ_cons, List.take_succ_cons, List.take_zero] at e0 e1 e2 e3 e4
    simp only [Prod.mk.injEq, List.map_cons, List.map_nil] at hx
    obtain ⟨rfl, -⟩ := hx
    simp only [Rows.uptoBulk, Rows.uptoBulkAll] at hb
    obtain ⟨A1, n1, p1, l1, rfl, hn1, hin1, hcap1, hw1⟩ := open_metas_f e0 (by omega)
    obtain ⟨A2, n2, p2, l2, rfl, hn2, hin2, hcap2, hw2⟩ := open_i64s_f Try.underlying31 Try.underlying2 (by kernel_rfl) e1
    obtain ⟨z2, hs2, -, hz2⟩ := DataW.trod_int Try.underlying2 e2
    obtain ⟨z3, hs3, -, hz3⟩ := DataW.trod_int Try.underlying2 e3
    obtain ⟨z4, hs4, -, hz4⟩ := DataW.trod_int Try.underlying2 e4
    simp only [List.cons.injEq, and_true] at hs2 hs3 hs4
    subst hs2; subst hs3; subst hs4
    refine ⟨A1, n1, p1, A2, n2, p2, ⟨l1, l2, z2, z3, z4⟩, rfl, ⟨hin1, hn1, hcap1, hin2, hn2, hcap2, lit_range hz2, lit_range hz3, lit_range hz4⟩, ?_⟩
    show (l1.map M.wt).sum + l2.length + 1 ≤ _
    omega
theorem wt_len : ∀ l : List M, l.length ≤ (l.map M.wt).sum
  | [] => by simp
  | m :: l => by
    have h1 := wt_len l
    have h2 : 1 ≤ m.wt := by unfold M.wt; omega
    rw [List.map_cons, List.sum_cons, List.length_cons]
    omega

namespace lawPuts
set_option maxRecDepth 100000 in
theorem contract (H : Type) (enc : TypeId × Value → H) (W : World) (base : Nat) (args : Array Value) (ds gs : List (DataW H)) (before : List MemPlace)
    (hval : ∀ (j : Nat) t v, Try.f4.params[j]? = some t → args[j]? = some v → Value.okWide Try.prog W .any base t v)
    (hW : DataW.Whole enc Try.prog Try.f4.params.toList Rows.versionPutsSpec.vars false W args.toList ds gs before)
    (hz : (DataW.weightsEach Try.prog Try.f4.params.toList (ds ++ gs)).all (· ≤ reachBytes) = true)
    (hk : Rows.uptoSmall H (ds ++ gs) = true) :
    Calls Try.prog 4 args W fun e W' => ∃ v, e = .returned v ∧ Rows.versionPutsSpec.post enc Try.prog Try.f4 false true false false W args v W' := by
  have hW' := hW
  obtain ⟨p, q, hA0, hV, rfl, hfz, hnd⟩ := hW
  have hA : DataW.TrodAll enc Try.prog W 0 (fun _ => true) true Try.f4.params.toList args.toList ds p := hA0
  rw [Try.params4] at hA hval hz
  obtain ⟨v0, vs0, d0, ds0, p0, q0, hargs, rfl, rfl, h0, r0⟩ := trodAll_cons hA
  obtain ⟨v1, vs1, d1, ds1, p1, q1, rfl, rfl, rfl, h1, r1⟩ := trodAll_cons r0
  obtain ⟨rfl, rfl, rfl⟩ := trodAll_nil r1
  obtain rfl : args = #[v0, v1] := by cases args; simp_all
  obtain ⟨rfl, rfl⟩ := trodVars_none hV
  obtain ⟨eA, eN, eC, eD, eM, eE, e, rfl, hine, hsume⟩ := open_edit1 (hval 0 33 v0 rfl rfl) h0 (blk_mem hk (by simp))
  obtain ⟨s, rfl, rfl, rfl, hmax1⟩ := Go.ChangeMaps.open_string Try.underlying9 (hval 1 9 v1 rfl rfl) h1
  have hs : s.size ≤ 140737488351232 := by
    have h := sized_string hz (j := 1) rfl rfl
    have hl : s.data.toList.length = s.size := by simp
    unfold reachBytes at h
    omega
  have hs1 : s.size ≤ 1048576 := by
    have h1 := blk_mem hk (d := .lit (.string s.data.toList)) (by simp)
    have h2 : s.data.toList.length = s.size := by simp
    simp only [Rows.uptoBulk] at h1
    omega
  have hwl := wt_len e.add
  have hsm : (e.add.map M.wt).sum ≤ 1048576 := by have := hsume; unfold Ed.wt at this; omega
  have hen : eN ≤ 1048576 := by have := hine.alen; omega
  have hem : eM ≤ 1048576 := by have := hine.dlen; have := hsume; unfold Ed.wt at this; omega
  refine (walk eA eN eC eD eM eE e s W hine hsm hen hem hs1).mono fun e W' ⟨he, hB⟩ => ?_
  subst he
  exact ⟨_, rfl, law_post Try.laidOut (by kernel_rfl) rfl rfl Try.underlying4 hW' rfl hB⟩

set_option maxRecDepth 100000 in
theorem lifted (os : Os) (started : os.Started) (H : Type) (enc : TypeId × Value → H) (F : Stop.Interp) :
    ReturnsInHanded {} Try.checked os 4 .any ((Rows.OpenSpec.upto Rows.versionPutsSpec).pre6 enc Try.prog Try.f4 Rows.versionPutsUptoRow.domain false) (((Rows.OpenSpec.upto Rows.versionPutsSpec).at F).post enc Try.prog Try.f4 false true false false) := by
  refine returnsInHanded_of_cond_sized (C := Try.checked) (s := Rows.OpenSpec.upto Rows.versionPutsSpec) (k := Rows.uptoSmall) rfl Try.own started (by kernel_rfl) Try.func4
    (OpenSpec.witness (enc := enc) (C := Try.checked) (s := Rows.OpenSpec.upto Rows.versionPutsSpec) (k := Rows.uptoSmall) rfl false ⟨#[], #[.agg #[.slice none 0 0, .slice none 0 0, .int .i64 0, .int .i64 0, .int .i64 0], .string ⟨#[]⟩], []⟩ 8 (by kernel_rfl) (by kernel_rfl) (by kernel_rfl)
      (x := ([.agg [.nil, .nil, .lit (.int .i64 0), .lit (.int .i64 0), .lit (.int .i64 0)], .lit (.string [])], [], [])) (by kernel_rfl) rfl (by kernel_rfl)) ?_
  intro W base args ds gs before hval hW _ hk hz _
  exact contract H enc W base args ds gs before hval hW hz hk

theorem proved : Rows.VersionPutsUptoSaid :=
  OpenClaim.holds_of_cond 4 Try.f4 rfl rfl rfl rfl rfl rfl rfl ⟨rfl, rfl, rfl, rfl, rfl⟩ rfl rfl rfl rfl rfl (by kernel_rfl) Try.func4 (by kernel_rfl)
    (of_decide_eq_true (by kernel_rfl)) (by unfold Func.isWrapper; first | (rw [if_pos (by decide +kernel)]; kernel_rfl) | (rw [if_neg (by decide +kernel)]; exact ⟨rfl, rfl⟩))
    (fun os started H enc _ F => lifted os started H enc F)
end lawPuts
end Go.Proofs.Ytfodbblcflolgaa

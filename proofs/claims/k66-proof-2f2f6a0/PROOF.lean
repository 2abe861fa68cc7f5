import PyProof.Rows.All
import Wide.All
import OpenK.AllK
import Wide.FinOn
import HandS.ForMost
import HandS.Wide
import HandS.IsInst
import HandS.EndBits
import HandS.RaiseMore
import HandS.Evl
import HandS.Flow
import HandS.More
import KE.KDictDisplayH
import HandS.Dict
import KE.KDictPairs
import HandS.Set
import HandS.SetFor
import HandS.Star
import HandS.OwnEq
import HandS.ClsMeth
import HandS.SlotsOwn
import HandS.MethStar
import KE.KOpsOwn
import PyProof.StrBlock2
import PyProof.Rows.StrMul
import HandS.NoneIn
import HandS.Walk
import HandS.DictComp
import HandS.Conv
import HandS.Zip
import KE.KeyNested
import PyProof.Rows.TupTab
import KE.KRevSl
import HandS.CallLocal
import HandS.Codes
import HandS.Defaults
import HandS.DeepEq
import HandS.ForSpec
import HandS.ExcValue
import KE.KExcIs
import HandS.ExcField
import KE.KStateDown
import HandS.Head0
import HandS.Head1
import HandS.Head2
import PySem.Challenge.RW_soonknown_k66_texts_by_number
set_option Elab.async false
set_option linter.all false
set_option maxRecDepth 100000
set_option maxHeartbeats 8000000
namespace Sk
open PySem PySem.W
def asked : List Addr := [2, 3, 30, 31, 59, 60, 210, 211, 224, 225, 236, 237, 241, 242, 246, 247, 253, 254, 298, 299, 774, 775, 777, 778, 793, 794, 796, 797, 812, 813, 830, 831, 833, 855, 856, 862, 863, 876, 877, 911, 912, 916, 917, 938, 939, 949, 950, 956, 957, 961, 962, 994, 995, 999, 1000, 1002, 1033, 1034, 1044, 1045, 1055, 1056, 1062, 1063, 1069, 1070, 1076, 1077, 1081, 1082, 1086, 1087, 1091, 1092, 1098, 1099, 1105, 1106, 1110, 1111, 1117, 1118, 1124, 1125, 1131, 1132, 1138, 1139, 1145, 1146, 1152, 1153, 1157, 1158, 1164, 1165]
def pick2 (l : Frag) : List Addr → Frag := l.foldr (fun p k as => match as with | [] => [] | a :: r => bif Nat.beq p.1 a then p :: k r else k (a :: r)) fun _ => []
def sub (K : Params → Frag) : Params → Frag := fun P => pick2 (K P) asked
def sHook (K : Params → Frag) (e : ∀ P, asked = (sub K P).map (·.1)) : Hook := kHook (sub K) asked e
def obT (s : SharedT) : List (Option Obj) := asked.map (HandSHeadRun.getT s)
theorem obT_eq {K : Params → Frag} {e : ∀ P, asked = (sub K P).map (·.1)} (s : SharedT) : obT s = (sHook K e).obs s.abs := List.map_congr_left fun a _ => HandSHeadRun.getT_eq s a
def names0 : List PySem.Str := ["_wall", "__name__", "SchemaError", "TooManyStates", "DIGITS", "is_whole", "document", "quoted", "FixedTexts", "joined", "name_length", "Lengths", "common_start", "NOWHERE", "NOTHING", "OF_BOTH", "OF_EITHER", "OF_FIRST_ONLY", "OF_ONE_ONLY", "renumbered", "least_states", "ascending_order", "counts_of", "moves_of_states", "state_behind", "combined", "places_in_order", "accepts_at", "moves_of_pairs", "is_wanted"]
def names1 : List PySem.Str := ["text_outside", "states_of_texts", "NONE", "Grammar", "POWERS", "common_size", "END", "digit_ranges", "ranges_behind", "add_to", "Spots", "COMPLETE", "start", "Place", "Builder", "automaton", "BadScript", "WrongText", "NotInside", "NoSuchText", "Language", "is_sign", "is_step", "are_steps", "turned", "summed", "composed", "Script", "_law_stream", "_law_draw"]
def names2 : List PySem.Str := ["_law_choose", "_law_signs", "_law_alphabet", "_law_word", "_law_all", "_law_listed", "_law_set", "_law_texts_of", "_law_near", "_law_odd", "_law_same", "_law_text_at", "_law_number_of", "_law_objects_right", "_law_told_right"]
def names : List PySem.Str := names0 ++ names1 ++ names2
section
variable {K : Params → Frag} {P : Params}
theorem s_lookup {a : Addr} {r : Option Obj} (_p : (K P).lookup a = r) (q : (sub K P).lookup a = r) : (sub K P).lookup a = r := q
theorem s_codeIn {x0 x1 r} (_p : PySem.W.codeIn (K P) x0 x1 = r) (q : PySem.W.codeIn (sub K P) x0 x1 = r) : PySem.W.codeIn (sub K P) x0 x1 = r := q
theorem s_findCls {x0 x1 x2 r} (_p : PySem.W.findCls (K P) x0 x1 x2 = r) (q : PySem.W.findCls (sub K P) x0 x1 x2 = r) : PySem.W.findCls (sub K P) x0 x1 x2 = r := q
theorem s_findIn {x0 x1 r} (_p : PySem.W.findIn (K P) x0 x1 = r) (q : PySem.W.findIn (sub K P) x0 x1 = r) : PySem.W.findIn (sub K P) x0 x1 = r := q
theorem s_fnIn {x0 r} (_p : PySem.W.fnIn (K P) x0 = r) (q : PySem.W.fnIn (sub K P) x0 = r) : PySem.W.fnIn (sub K P) x0 = r := q
theorem s_hasDictIn {x0 r} (_p : PySem.W.hasDictIn (K P) x0 = r) (q : PySem.W.hasDictIn (sub K P) x0 = r) : PySem.W.hasDictIn (sub K P) x0 = r := q
theorem s_isFn {x0 r} (_p : PySem.W.isFn (K P) x0 = r) (q : PySem.W.isFn (sub K P) x0 = r) : PySem.W.isFn (sub K P) x0 = r := q
theorem s_keepIn {x0 r} (_p : PySem.W.keepIn (K P) x0 = r) (q : PySem.W.keepIn (sub K P) x0 = r) : PySem.W.keepIn (sub K P) x0 = r := q
theorem s_makesIn {x0 r} (_p : PySem.W.makesIn (K P) x0 = r) (q : PySem.W.makesIn (sub K P) x0 = r) : PySem.W.makesIn (sub K P) x0 = r := q
theorem s_mroIn {x0 x1 r} (_p : PySem.W.mroIn (K P) x0 x1 = r) (q : PySem.W.mroIn (sub K P) x0 x1 = r) : PySem.W.mroIn (sub K P) x0 x1 = r := q
theorem s_nsIn {x0 x1 r} (_p : PySem.W.nsIn (K P) x0 x1 = r) (q : PySem.W.nsIn (sub K P) x0 x1 = r) : PySem.W.nsIn (sub K P) x0 x1 = r := q
theorem s_plainGet {x0 x1 r} (_p : PySem.W.plainGet (K P) x0 x1 = r) (q : PySem.W.plainGet (sub K P) x0 x1 = r) : PySem.W.plainGet (sub K P) x0 x1 = r := q
theorem s_plainOver {x0 r} (_p : PySem.W.plainOver (K P) x0 = r) (q : PySem.W.plainOver (sub K P) x0 = r) : PySem.W.plainOver (sub K P) x0 = r := q
theorem s_readsIn {x0 x1 r} (_p : PySem.W.readsIn (K P) x0 x1 = r) (q : PySem.W.readsIn (sub K P) x0 x1 = r) : PySem.W.readsIn (sub K P) x0 x1 = r := q
theorem s_recIn {x0 x1 r} (_p : PySem.W.recIn (K P) x0 x1 = r) (q : PySem.W.recIn (sub K P) x0 x1 = r) : PySem.W.recIn (sub K P) x0 x1 = r := q
theorem s_specialIn {x0 x1 r} (_p : PySem.W.specialIn (K P) x0 x1 = r) (q : PySem.W.specialIn (sub K P) x0 x1 = r) : PySem.W.specialIn (sub K P) x0 x1 = r := q
theorem s_subIn {x0 x1 r} (_p : PySem.W.subIn (K P) x0 x1 = r) (q : PySem.W.subIn (sub K P) x0 x1 = r) : PySem.W.subIn (sub K P) x0 x1 = r := q
theorem s_takesIn {x0 r} (_p : PySem.W.takesIn (K P) x0 = r) (q : PySem.W.takesIn (sub K P) x0 = r) : PySem.W.takesIn (sub K P) x0 = r := q
theorem s_typeIn {x0 r} (_p : PySem.W.typeIn (K P) x0 = r) (q : PySem.W.typeIn (sub K P) x0 = r) : PySem.W.typeIn (sub K P) x0 = r := q
end
end Sk
open PySem PySem.W PyProof.Rows
open PySem PySem.W PyProof.Rows in
local macro_rules
  | `(tactic| o_head ($f $k $a $e)) => `(tactic| (refine HandSHeadRun.head_any (r := OpenLaw.row PySem.Challenge.rw_soonknown_k66_texts_by_number) (q := view (OpenLaw.row PySem.Challenge.rw_soonknown_k66_texts_by_number).prog [89]) (H := Sk.sHook $k (fun _ => by kernel_rfl)) (ob := Sk.obT) (M := 9000) (loose := Sk.names) (d := HandSHeadRun.topDef (OpenLaw.row PySem.Challenge.rw_soonknown_k66_texts_by_number).prog 89) (kwd := []) (fun s => Sk.obT_eq s) (by kernel_rfl) (fun s => by kernel_rfl) (fun w => by intro os; kernel_rfl) (by kernel_rfl) (by kernel_rfl) (by kernel_rfl) (by rfl) (by first | assumption | decide +kernel) (by decide +kernel) ⟨rfl, rfl, rfl, rfl, rfl, by decide +kernel⟩ ?hw ?hc))
namespace Sk
open PySem PySem.W PyProof.Rows
set_option maxHeartbeats 0 in
open_top hd for PySem.Challenge.rw_soonknown_k66_texts_by_number
end Sk
/-! Rules and words that the proofs of this program share. -/
namespace Sk
open PySem PySem.Spec PyProof.Rows L2 Evl

/-! ## powers of great ints -/
def CPowB (i j : Int) : Prop := 0 ≤ j ∧ (Builtin.Int.intBits i : Int) * j ≤ 2 ^ 27
theorem op_powB {X : Cx} : OpR X (binaryOp .Pow) (rI CPowB fun i j => .int (i ^ j.toNat)) := by
  intro pins s σ H x y u v Q I rx ry h
  obtain ⟨i, j, rfl, rfl, hc, q⟩ := h
  obtain ⟨t, rfl⟩ := rx
  obtain ⟨t', rfl⟩ := ry
  exact pow_int hc.1 hc.2 ⟨.int _, H, I.tok _, ⟨_, rfl⟩, q⟩
theorem bits_of {i : Int} {n : Nat} (h : i.natAbs < 2 ^ n) (h0 : 0 < n) : Builtin.Int.intBits i ≤ n := by
  unfold Builtin.Int.intBits
  split
  · omega
  · have := PySem.Flt.log2_lt_of h0 h
    omega
theorem abs_of_bits {i : Int} {n : Nat} (h : Builtin.Int.intBits i ≤ n) : i.natAbs < 2 ^ n := by
  unfold Builtin.Int.intBits at h
  split at h
  · rename_i e
    have e' : i = 0 := by simpa using e
    subst e'
    exact Nat.two_pow_pos n
  · rename_i e
    have e' : i ≠ 0 := by simpa using e
    have h1 : i.natAbs ≠ 0 := by omega
    have h2 := Nat.lt_log2_self (n := i.natAbs)
    exact Nat.lt_of_lt_of_le h2 (Nat.pow_le_pow_right (by decide) (by omega))

/-! ## the heap beside the source of draws -/
/-- the heap without what stands at st -/
def Hd (st : Addr) (H : Hp) : Hp := fun a => if a = st then none else H a
theorem hd_some {st a : Addr} {H : Hp} {o : HO} (h : Hd st H a = some o) : a ≠ st ∧ H a = some o := by
  unfold Hd at h
  split at h
  · cases h
  · exact ⟨by assumption, h⟩
theorem hd_of {st a : Addr} {H : Hp} {o : HO} (n : a ≠ st) (h : H a = some o) : Hd st H a = some o := by
  unfold Hd; rw [if_neg n]; exact h
theorem hd_le {st : Addr} {H : Hp} : Ex (Hd st H) H := fun _ _ h => (hd_some h).2
/-- what was there beside st is there -/
def Gr (st : Addr) (H H' : Hp) : Prop := Ex (Hd st H) (Hd st H')
theorem Gr.refl {st : Addr} {H : Hp} : Gr st H H := Ex.refl _
theorem Gr.trans {st : Addr} {H H1 H2 : Hp} (a : Gr st H H1) (b : Gr st H1 H2) : Gr st H H2 := Ex.trans a b
/-- the source: two numbers -/
def Strm (st : Addr) (H : Hp) : Prop := ∃ d s : Int, H st = some (.lst [.int d, .int s]) ∧ 0 ≤ d ∧ d.natAbs < 2 ^ 1100000 ∧ 0 ≤ s ∧ s < 2 ^ 31
theorem Strm.some {st : Addr} {H : Hp} (h : Strm st H) : ∃ o, H st = some o := let ⟨_, _, e, _⟩ := h; ⟨_, e⟩
theorem gr_upd {st : Addr} {H : Hp} {o : HO} : Gr st H (upd H st o) := fun a u h => by
  obtain ⟨n, e⟩ := hd_some h
  exact hd_of n (by rw [upd_ne n]; exact e)
theorem gr_new {st p : Addr} {H : Hp} {o : HO} (h : H p = none) : Gr st H (upd H p o) := fun a u e => by
  obtain ⟨n, e⟩ := hd_some e
  exact hd_of n (by rw [upd_ne (ne_of_none e h)]; exact e)
theorem gr_ex {st : Addr} {H H' : Hp} (h : Ex H H') : Gr st H H' := fun a u e => by
  obtain ⟨n, e⟩ := hd_some e
  exact hd_of n (h _ _ e)
theorem Strm.new {st p : Addr} {H : Hp} {o : HO} (h : Strm st H) (hp : H p = none) : Strm st (upd H p o) := by
  obtain ⟨d, s, e, r⟩ := h
  exact ⟨d, s, by rw [upd_ne (ne_of_none e hp)]; exact e, r⟩
theorem Strm.ne {st p : Addr} {H : Hp} (h : Strm st H) (hp : H p = none) : p ≠ st := by
  obtain ⟨o, e⟩ := h.some
  intro z; subst z; rw [e] at hp; cases hp
/-- fresh behind is fresh before -/
theorem Gr.back {st p : Addr} {H H' : Hp} (g : Gr st H H') (s : Strm st H') (h : H' p = none) : Hd st H p = none := by
  cases e : Hd st H p with
  | none => rfl
  | some o =>
    have := (hd_some (g _ _ e)).2
    rw [h] at this; cases this
/-- behind: the source still stands, the rest is there -/
structure Aft (st : Addr) (H H' : Hp) : Prop where
  gr : Gr st H H'
  sm : Strm st H'
theorem Aft.trans {st : Addr} {H H1 H2 : Hp} (a : Aft st H H1) (b : Aft st H1 H2) : Aft st H H2 := ⟨a.gr.trans b.gr, b.sm⟩
theorem Aft.of {st : Addr} {H : Hp} (s : Strm st H) : Aft st H H := ⟨.refl, s⟩
theorem Aft.new {st p : Addr} {H H1 : Hp} {o : HO} (a : Aft st H H1) (h : H1 p = none) : Aft st H (upd H1 p o) := ⟨a.gr.trans (gr_new h), a.sm.new h⟩
/-- a thing of one's own that H does not know changes -/
theorem Aft.mut {st p : Addr} {H H1 : Hp} {o : HO} (a : Aft st H H1) (n : p ≠ st) (h : Hd st H p = none) : Aft st H (upd H1 p o) := by
  refine ⟨fun b u e => ?_, ?_⟩
  · have hb : b ≠ p := by intro z; subst z; rw [h] at e; cases e
    obtain ⟨nb, e1⟩ := hd_some (a.gr _ _ e)
    exact hd_of nb (by rw [upd_ne hb]; exact e1)
  · obtain ⟨d, s, e, r⟩ := a.sm
    exact ⟨d, s, by rw [upd_ne (Ne.symm n)]; exact e, r⟩
theorem Aft.at {st p : Addr} {H H1 : Hp} {o : HO} (a : Aft st H H1) (n : p ≠ st) (h : H p = some o) : H1 p = some o := (hd_some (a.gr _ _ (hd_of n h))).2
end Sk

/-! Data of any depth in the abstract heap; its repr. -/
namespace Sk
open PySem PySem.Spec PyProof.Rows L2 Evl
mutual
inductive Rx (h : Heap) : Value → PyData → Prop
  | none : Rx h .none .none
  | bool (b) : Rx h (.bool b) (.bool b)
  | int (i t) : Rx h (.int i t) (.int i)
  | str (x t) : Rx h (.str x t) (.str x)
  | list {a o vs n ds} (e : h.get? a = some o) (c : o.cls = .type "list") (q : o.data = .seq vs n) (r : RxAll h vs.toList ds) : Rx h (.ref a) (.list ds)
  | tuple {a o vs n ds} (e : h.get? a = some o) (c : o.cls = .type "tuple") (q : o.data = .seq vs n) (r : RxAll h vs.toList ds) : Rx h (.ref a) (.tuple ds)
  | dict {a o es n kvs} (l : (a == sysModules) = false) (e : h.get? a = some o) (c : o.cls = .type "dict") (q : o.data = .dict es n) (r : RxAll h (es.toList.map (·.key)) (kvs.map (·.1)))
      (r2 : RxAll h (es.toList.map (·.val)) (kvs.map (·.2))) : Rx h (.ref a) (.dict kvs)
inductive RxAll (h : Heap) : List Value → List PyData → Prop
  | nil : RxAll h [] []
  | cons {v vs d ds} (x : Rx h v d) (r : RxAll h vs ds) : RxAll h (v :: vs) (d :: ds)
end
mutual
theorem Rx.reads {h : Heap} : ∀ {v : Value} {d : PyData}, Rx h v d → ∃ as, Reads h v d as
  | _, _, .none => ⟨_, .none⟩
  | _, _, .bool b => ⟨_, .bool b⟩
  | _, _, .int i t => ⟨_, .int i t⟩
  | _, _, .str x t => ⟨_, .str x t⟩
  | _, _, .list e c q r => let ⟨_, z⟩ := r.reads; ⟨_, .list e c q z⟩
  | _, _, .tuple e c q r => let ⟨_, z⟩ := r.reads; ⟨_, .tuple e c q z⟩
  | _, _, .dict _ e c q r r2 => let ⟨_, z⟩ := r.reads; let ⟨_, z2⟩ := r2.reads; ⟨_, .dict e c q z z2⟩
theorem RxAll.reads {h : Heap} : ∀ {v : List Value} {d : List PyData}, RxAll h v d → ∃ as, ReadsAll h v d as
  | _, _, .nil => ⟨_, .nil⟩
  | _, _, .cons x r => let ⟨_, z⟩ := x.reads; let ⟨_, z2⟩ := r.reads; ⟨_, .cons z z2⟩
end
def FitsAll (ds : List PyData) : Prop := ∀ t ∈ PyData.shownAll ds, t.length ≤ sizeLine
theorem fits_list {xs : List PyData} (h : (PyData.list xs).shown.length ≤ sizeLine) : (listText (PyData.shownAll xs)).length ≤ sizeLine ∧ FitsAll xs := by
  have z : (listText (PyData.shownAll xs)).length ≤ sizeLine := by simpa only [PyData.shown] using h
  exact ⟨z, fun t m => Nat.le_trans (listText_mem_le m) z⟩
theorem fits_tuple {xs : List PyData} (h : (PyData.tuple xs).shown.length ≤ sizeLine) : (tupleText (PyData.shownAll xs)).length ≤ sizeLine ∧ FitsAll xs := by
  have z : (tupleText (PyData.shownAll xs)).length ≤ sizeLine := by simpa only [PyData.shown] using h
  exact ⟨z, fun t m => Nat.le_trans (tupleText_mem_le m) z⟩
theorem fits_dict {kvs : List (PyData × PyData)} (h : (PyData.dict kvs).shown.length ≤ sizeLine) : (dictText (PyData.shownKv kvs)).length ≤ sizeLine ∧ FitsAll (kvs.map (·.1)) ∧ FitsAll (kvs.map (·.2)) := by
  have z : (dictText (PyData.shownKv kvs)).length ≤ sizeLine := by simpa only [PyData.shown] using h
  refine ⟨z, fun t m => ?_, fun t m => ?_⟩
  · obtain ⟨p, hp, l⟩ := PyData.shownKv_key_le kvs t m
    exact Nat.le_trans l (Nat.le_trans (dictText_mem_le hp) z)
  · obtain ⟨p, hp, l⟩ := PyData.shownKv_val_le kvs t m
    exact Nat.le_trans l (Nat.le_trans (dictText_mem_le hp) z)
/-- what is needed of the parts of a dict -/
theorem two_dict {prog : Program} {w : World} {h : Heap} {es : List DictEntry} {kvs : List (PyData × PyData)} {b1 b2 : List Addr} (k1 : ReprAllK prog w b1 h (PyData.depthAll (kvs.map (·.1))) (es.map (·.key)) (PyData.shownAll (kvs.map (·.1))))
    (k2 : ReprAllK prog w b2 h (PyData.depthAll (kvs.map (·.2))) (es.map (·.val)) (PyData.shownAll (kvs.map (·.2)))) : ReprEntriesK prog w (b1 ++ b2) h (PyData.depthKv kvs) es (PyData.shownKv kvs) := by
  rw [PyData.shownKv_eq]
  exact .of_two es _ _ (k1.more_le (fun _ m => List.mem_append.mpr (.inl m)) (PyData.depthAll_keys_le kvs)) (k2.more_le (fun _ m => List.mem_append.mpr (.inr m)) (PyData.depthAll_vals_le kvs))
mutual
theorem Rx.repr {prog : Program} {w : World} {h : Heap} : ∀ {v : Value} {d : PyData}, Rx h v d → d.showable = true → d.shown.length ≤ sizeLine → ∃ bs, ReadAtMost h d.depth bs ∧ ReprK prog w bs h d.depth v d.shown
  | _, _, .none, _, _ => ⟨[], (fun _ m => nomatch m), by simp only [PyData.shown]; exact .of_is .none _ _ _⟩
  | _, _, .bool b, _, _ => ⟨[], (fun _ m => nomatch m), by simp only [PyData.shown]; exact .of_is (.bool b) _ _ _⟩
  | _, _, .int i t, s, _ => ⟨[], (fun _ m => nomatch m), by simp only [PyData.shown]; exact .of_is (.int t (by simpa [PyData.showable] using s)) _ _ _⟩
  | _, _, .str x t, _, z => ⟨[], (fun _ m => nomatch m), by simp only [PyData.shown] at z ⊢; exact .of_is (.str x t z) _ _ _⟩
  | _, _, .list (a := a) (vs := vs) (ds := xs) e c q r, s, z => by
    obtain ⟨z1, z2⟩ := fits_list z
    obtain ⟨bs, hb, hk⟩ := r.repr (prog := prog) (w := w) (by simpa [PyData.showable] using s) z2
    obtain ⟨as, rr⟩ := (Rx.list e c q r).reads
    have na : a ∉ bs := not_mem_of_deeper rr (by simp only [PyData.depth]; omega) hb
    refine ⟨a :: bs, .cons rr (by simp only [PyData.depth]; omega) hb, ?_⟩
    simp only [PyData.depth, PyData.shown]
    obtain ⟨l⟩ := vs
    cases l with
    | nil =>
      cases (show RxAll h [] xs from r)
      simp only [PyData.shownAll, listText_nil]
      exact ReprK.listEmpty e c q
    | cons x l => exact .list e c q na (by simpa using hk.length_eq) fun i y m => hk.item i y (by simpa using m)
  | _, _, .tuple (a := a) (ds := xs) e c q r, s, z => by
    obtain ⟨z1, z2⟩ := fits_tuple z
    obtain ⟨bs, hb, hk⟩ := r.repr (prog := prog) (w := w) (by simpa [PyData.showable] using s) z2
    obtain ⟨as, rr⟩ := (Rx.tuple e c q r).reads
    have na : a ∉ bs := not_mem_of_deeper rr (by simp only [PyData.depth]; omega) hb
    refine ⟨a :: bs, .cons rr (by simp only [PyData.depth]; omega) hb, ?_⟩
    simp only [PyData.depth, PyData.shown]
    exact .tuple e c q na hk
  | _, _, .dict (a := a) (es := es) (kvs := kvs) l e c q r r2, s, z => by
    obtain ⟨z1, z2, z3⟩ := fits_dict z
    obtain ⟨s1, s2⟩ := PyData.showableKv_split kvs (by simpa [PyData.showable] using s)
    obtain ⟨b1, hb1, k1⟩ := r.repr (prog := prog) (w := w) s1 z2
    obtain ⟨b2, hb2, k2⟩ := r2.repr (prog := prog) (w := w) s2 z3
    obtain ⟨as, rr⟩ := (Rx.dict l e c q r r2).reads
    have hb : ReadAtMost h (PyData.depthKv kvs) (b1 ++ b2) := .append (hb1.mono (PyData.depthAll_keys_le kvs)) (hb2.mono (PyData.depthAll_vals_le kvs))
    have na : a ∉ b1 ++ b2 := not_mem_of_deeper rr (by simp only [PyData.depth]; omega) hb
    refine ⟨a :: (b1 ++ b2), .cons rr (by simp only [PyData.depth]; omega) hb, ?_⟩
    simp only [PyData.depth, PyData.shown]
    exact .dict e c q l na (two_dict k1 k2)
theorem RxAll.repr {prog : Program} {w : World} {h : Heap} : ∀ {vs : List Value} {ds : List PyData}, RxAll h vs ds → PyData.showableAll ds = true → FitsAll ds → ∃ bs, ReadAtMost h (PyData.depthAll ds) bs ∧ ReprAllK prog w bs h (PyData.depthAll ds) vs (PyData.shownAll ds)
  | _, _, .nil, _, _ => ⟨[], (fun _ m => nomatch m), by simp only [PyData.shownAll]; exact .nil⟩
  | _, _, .cons (d := d) (ds := ds) x r, s, z => by
    obtain ⟨s1, s2⟩ : d.showable = true ∧ PyData.showableAll ds = true := by simpa [PyData.showableAll] using s
    unfold FitsAll at z
    simp only [PyData.shownAll, List.mem_cons] at z
    obtain ⟨b1, hb1, k1⟩ := x.repr (prog := prog) (w := w) s1 (z _ (.inl rfl))
    obtain ⟨b2, hb2, k2⟩ := r.repr (prog := prog) (w := w) s2 fun t m => z t (.inr m)
    refine ⟨b1 ++ b2, .append (hb1.mono ?_) (hb2.mono ?_), ?_⟩
    · simp only [PyData.depthAll]; omega
    · simp only [PyData.depthAll]; omega
    · simp only [PyData.depthAll, PyData.shownAll]
      exact .cons ((k1.more fun _ m => List.mem_append.mpr (.inl m)).level_le (by omega)) (k2.more_le (fun _ m => List.mem_append.mpr (.inr m)) (by omega))
end
/-- repr(v), where no repr is running -/
theorem call_repr_rx {prog : Program} {w : World} {A : Around} {E : Value → Shared → Prop} {s : Shared} {v : Value} {d : PyData} {Q : Value → Shared → Prop} (r : Rx s.heap v d) (hs : d.showable = true) (hz : d.shown.length ≤ sizeLine) (hg : A.guards = some [])
    (hu : A.units + (d.depth + 1) < cLine) (hQ : ∀ h' u tk, (∀ b o, s.heap.get? b = some o → h'.get? b = some o) → Q (.str d.shown u) { s with heap := h', toks := tk }) : wpAny (model prog w) A (call (.builtin "repr") [v]) Q E s := by
  have id : ∀ b o, s.heap.get? b = some o → s.heap.get? b = some o := fun _ _ z => z
  have hg1 : A.in1.guards = some [] := hg
  have here : ∀ u tk, Q (.str d.shown u) { s with toks := tk } := fun u tk => hQ s.heap u tk id
  cases r with
  | none => simp only [PyData.shown] at here; exact PySem.P.repr_of_none (here _ _)
  | bool b => simp only [PyData.shown] at here; exact PySem.P.repr_of_bool (here _ _)
  | int i t => simp only [PyData.shown] at here; exact PySem.P.repr_of_int (by simpa [PyData.showable] using hs) (here _ _)
  | str x t => simp only [PyData.shown] at here hz; exact PySem.P.repr_of_str (here _ _) hz
  | @list a o vs n xs e c q r =>
    obtain ⟨z1, z2⟩ := fits_list hz
    obtain ⟨bs, hb, hk⟩ := r.repr (prog := prog) (w := w) (by simpa [PyData.showable] using hs) z2
    obtain ⟨as, rr⟩ := (Rx.list e c q r).reads
    have na : a ∉ bs := not_mem_of_deeper rr (by simp only [PyData.depth]; omega) hb
    simp only [PyData.depth] at hu
    simp only [PyData.shown] at hQ
    refine call_repr_slot (by omega) ⟨o, e, c⟩ F.slot_list_repr.toG ?_
    obtain ⟨l⟩ := vs
    cases l with
    | nil =>
      cases (show RxAll s.heap [] xs from r)
      simp only [PyData.shownAll, listText_nil] at hQ
      exact call_list_repr_empty ⟨o, e, c⟩ e q ⟨_, _, rfl, hQ s.heap _ _ id⟩
    | cons x l =>
      exact call_list_reprK e c q na (by simpa using hk.length_eq) (fun i y m => hk.item i y (by simpa using m)) hg1 (fun b _ => .nil b) (by show A.units + 1 + _ < cLine; omega) id (fun h' u tk k => ⟨_, _, rfl, hQ h' u tk k⟩) z1
  | @tuple a o vs n xs e c q r =>
    obtain ⟨z1, z2⟩ := fits_tuple hz
    obtain ⟨bs, hb, hk⟩ := r.repr (prog := prog) (w := w) (by simpa [PyData.showable] using hs) z2
    obtain ⟨as, rr⟩ := (Rx.tuple e c q r).reads
    have na : a ∉ bs := not_mem_of_deeper rr (by simp only [PyData.depth]; omega) hb
    simp only [PyData.depth] at hu
    simp only [PyData.shown] at hQ
    refine call_repr_slot (by omega) ⟨o, e, c⟩ F.slot_tuple_repr ?_
    exact call_tuple_reprK e c q na hk hg1 (fun b _ => .nil b) (by show A.units + 1 + _ < cLine; omega) id (fun h' u tk k => ⟨_, _, rfl, hQ h' u tk k⟩) z1
  | @dict a o es n kvs l e c q r r2 =>
    obtain ⟨z1, z2, z3⟩ := fits_dict hz
    obtain ⟨s1, s2⟩ := PyData.showableKv_split kvs (by simpa [PyData.showable] using hs)
    obtain ⟨b1, hb1, k1⟩ := r.repr (prog := prog) (w := w) s1 z2
    obtain ⟨b2, hb2, k2⟩ := r2.repr (prog := prog) (w := w) s2 z3
    obtain ⟨as, rr⟩ := (Rx.dict l e c q r r2).reads
    have hb : ReadAtMost s.heap (PyData.depthKv kvs) (b1 ++ b2) := .append (hb1.mono (PyData.depthAll_keys_le kvs)) (hb2.mono (PyData.depthAll_vals_le kvs))
    have na : a ∉ b1 ++ b2 := not_mem_of_deeper rr (by simp only [PyData.depth]; omega) hb
    simp only [PyData.depth] at hu
    simp only [PyData.shown] at hQ
    refine call_repr_slot (by omega) ⟨o, e, c⟩ F.slot_dict_repr ?_
    exact call_dict_reprK e c q l na (two_dict k1 k2) hg1 (fun b _ => .nil b) (by show A.units + 1 + _ < cLine; omega) id (fun h' u tk k => ⟨_, _, rfl, hQ h' u tk k⟩) z1
end Sk

/-! Data of any depth over the abstract heap. -/
namespace Sk
open PySem PySem.Spec PyProof.Rows L2 Evl
mutual
inductive Dq (H : Hp) : V → PyData → Prop
  | non : Dq H .non .none
  | bl (b : Bool) : Dq H (.bl b) (.bool b)
  | int (i : Int) : Dq H (.int i) (.int i)
  | str (x : Str) : Dq H (.str x) (.str x)
  | lst {a xs ds} (e : H a = some (.lst xs)) (r : DqAll H xs ds) : Dq H (.ref a) (.list ds)
  | tup {a xs ds} (e : H a = some (.tup xs)) (r : DqAll H xs ds) : Dq H (.ref a) (.tuple ds)
  | dct {a kvs ds} (e : H a = some (.dK kvs)) (r : DqKv H kvs ds) : Dq H (.ref a) (.dict ds)
inductive DqAll (H : Hp) : List V → List PyData → Prop
  | nil : DqAll H [] []
  | cons {v vs d ds} (x : Dq H v d) (r : DqAll H vs ds) : DqAll H (v :: vs) (d :: ds)
inductive DqKv (H : Hp) : List (Key × V) → List (PyData × PyData) → Prop
  | nil : DqKv H [] []
  | cons {k : Str} {v d kvs ds} (x : Dq H v d) (r : DqKv H kvs ds) : DqKv H ((.inr k, v) :: kvs) ((.str k, d) :: ds)
end
mutual
theorem Dq.mono {H H' : Hp} (e : Ex H H') : ∀ {v d}, Dq H v d → Dq H' v d
  | _, _, .non => .non
  | _, _, .bl b => .bl b
  | _, _, .int i => .int i
  | _, _, .str x => .str x
  | _, _, .lst h r => .lst (e _ _ h) (r.mono e)
  | _, _, .tup h r => .tup (e _ _ h) (r.mono e)
  | _, _, .dct h r => .dct (e _ _ h) (r.mono e)
theorem DqAll.mono {H H' : Hp} (e : Ex H H') : ∀ {v d}, DqAll H v d → DqAll H' v d
  | _, _, .nil => .nil
  | _, _, .cons x r => .cons (x.mono e) (r.mono e)
theorem DqKv.mono {H H' : Hp} (e : Ex H H') : ∀ {v d}, DqKv H v d → DqKv H' v d
  | _, _, .nil => .nil
  | _, _, .cons x r => .cons (x.mono e) (r.mono e)
end
theorem DqAll.length {H : Hp} : ∀ {xs ds}, DqAll H xs ds → xs.length = ds.length
  | _, _, .nil => rfl
  | _, _, .cons _ r => congrArg Nat.succ r.length
theorem DqAll.get {H : Hp} : ∀ {xs ds}, DqAll H xs ds → ∀ {i : Nat} {v : V}, xs[i]? = some v → ∃ d, ds[i]? = some d ∧ Dq H v d
  | _, _, .nil, _, _, e => by simp at e
  | _, _, .cons x r, 0, _, e => by simp at e; subst e; exact ⟨_, rfl, x⟩
  | _, _, .cons x r, i + 1, _, e => by
    obtain ⟨d, h1, h2⟩ := r.get (i := i) (by simpa using e)
    exact ⟨d, by simpa using h1, h2⟩
theorem DqAll.snoc {H : Hp} : ∀ {xs ds}, DqAll H xs ds → ∀ {v d}, Dq H v d → DqAll H (xs ++ [v]) (ds ++ [d])
  | _, _, .nil, _, _, x => .cons x .nil
  | _, _, .cons y r, _, _, x => .cons y (r.snoc x)
theorem DqKv.length {H : Hp} : ∀ {xs ds}, DqKv H xs ds → xs.length = ds.length
  | _, _, .nil => rfl
  | _, _, .cons _ r => congrArg Nat.succ r.length
/-- the names -/
def keyS : PyData → Str
  | .str k => k
  | _ => Str.empty
theorem DqKv.keys {H : Hp} : ∀ {xs ds}, DqKv H xs ds → xs.map (·.1) = (ds.map fun p => keyS p.1).map Sum.inr
  | _, _, .nil => rfl
  | _, _, .cons _ r => by simp only [List.map_cons, r.keys, keyS]
/-- what stands under a name -/
def getD (ds : List (PyData × PyData)) (k : Str) : Option PyData := (ds.find? fun p => decide (keyS p.1 = k)).map (·.2)
theorem DqKv.val {H : Hp} {k : Str} : ∀ {xs ds}, DqKv H xs ds → ∀ {d}, getD ds k = some d → ∃ v, valV xs (.inr k) = some v ∧ Dq H v d
  | _, _, .nil, _, e => by simp [getD] at e
  | _, _, .cons (k := k') (v := v) (d := d') (ds := ds) x r, d, e => by
    by_cases hk : k' = k
    · subst hk
      simp [getD, keyS] at e
      subst e
      exact ⟨v, by simp [valV], x⟩
    · have e' : getD ds k = some d := by simpa [getD, keyS, hk] using e
      obtain ⟨u, h1, h2⟩ := r.val e'
      refine ⟨u, ?_, h2⟩
      rw [← h1]
      simp [valV, hk]
section
variable {X : Cx} {pins : List (Addr × Obj)} {σ : L2.St} {H : Hp} {s : Shared}
mutual
theorem Dq.rx (I : Inv X pins σ H s) : ∀ {v : V} {d : PyData} {u : Value}, Dq H v d → RelV v u → Rx s.heap u d
  | _, _, _, .non, r => by cases r; exact .none
  | _, _, _, .bl b, r => by cases r; exact .bool b
  | _, _, _, .int i, r => by obtain ⟨t, rfl⟩ := r; exact .int i t
  | _, _, _, .str x, r => by obtain ⟨t, rfl⟩ := r; exact .str x t
  | _, _, _, .lst e ra, r => by
    cases r
    obtain ⟨_, its, n, rv, z⟩ := I.hok _ _ e
    exact .list z rfl rfl (by simpa using ra.rx I rv)
  | _, _, _, .tup e ra, r => by
    cases r
    obtain ⟨_, its, rv, o, z, c, n, q⟩ := I.hok _ _ e
    exact .tuple z c q (by simpa using ra.rx I rv)
  | _, _, _, .dct e ra, r => by
    cases r
    obtain ⟨_, low, vs, rel, o, es, ep, z, c, q, _, pr, _⟩ := dk_of I.hok e
    obtain ⟨h1, h2⟩ := ra.rx I rel pr
    exact .dict low z c.1 q h1 h2
theorem DqAll.rx (I : Inv X pins σ H s) : ∀ {v : List V} {d : List PyData} {u : List Value}, DqAll H v d → Vals v u → RxAll s.heap u d
  | _, _, _, .nil, r => by cases r; exact .nil
  | _, _, _, .cons x ra, r => by
    cases r with
    | cons r1 r2 => exact .cons (x.rx I r1) (ra.rx I r2)
theorem DqKv.rx (I : Inv X pins σ H s) : ∀ {kvs : List (Key × V)} {ds : List (PyData × PyData)} {vs : List (Key × Value)} {es : List DictEntry}, DqKv H kvs ds → KV kvs vs → Pairs (mixKind X.prog X.w) es vs →
    RxAll s.heap (es.map (·.key)) (ds.map (·.1)) ∧ RxAll s.heap (es.map (·.val)) (ds.map (·.2))
  | _, _, _, _, .nil, r, p => by
    cases r
    cases p
    exact ⟨.nil, .nil⟩
  | _, _, _, _, .cons (k := k) x ra, r, p => by
    cases r with
    | @cons a b _ _ r1 r2 =>
      obtain ⟨kb, vb⟩ := b
      obtain ⟨h1, h2⟩ := r1
      have h1' : (Sum.inr k : Key) = kb := h1
      subst h1'
      cases p with
      | @cons e kv _ _ p1 p2 p3 =>
        obtain ⟨g1, g2⟩ := ra.rx I r2 p3
        have hk : keyIs (.inr k) e.key = true := p1
        obtain ⟨t, ek⟩ := Value.isStrOf_shape (show Value.isStrOf k e.key = true from hk)
        have ev : e.val = vb := p2
        simp only [List.map_cons]
        rw [ek, ev]
        exact ⟨.cons (.str k t) g1, .cons (x.rx I h2) g2⟩
end
end
/-- repr(v), no repr running around -/
theorem call_reprQ {X : Cx} (hg : X.A.guards = some []) (hu : X.A.units + 64 < cLine) : CallR X (.builtin "repr") (fun xs H Q => ∃ x d, xs = [x] ∧ Dq H x d ∧ d.showable = true ∧ d.shown.length ≤ sizeLine ∧ d.depth ≤ 60 ∧ Q (.str d.shown) H) := by
  intro pins s σ H xs us Q I r h
  obtain ⟨x, d, rfl, hd, hs, hz, hl, q⟩ := h
  obtain ⟨u, rfl, ru⟩ := vals1 r
  exact call_repr_rx (hd.rx I ru) hs hz hg (by omega) fun h' u' tk k => ⟨.str d.shown, H, I.kept k, ⟨_, rfl⟩, q⟩
end Sk

/-! A law's entry where it is known that no repr runs around. -/
namespace Sk
open PySem PySem.Spec PyProof.Rows L2 Evl
/-- the promise of the law's def, called from outside -/
def LawOk (P : Program) (w : World) (K : PySem.W.Frag) (mg : Str → Option Value) (base : Heap) (f : Addr) (fd : FuncData) (x : Str) (sp : Sp) : Prop :=
  ∀ (s : Shared) (H : Hp) (args : Args) (u : Value) (v : V) (Q : VK), Env0 P w K mg base callerA [] s H → BindsTo s fd args [(x, u)] → RelV v u → sp [v] H Q E0 → codeAny (model P w) callerA (.call (.ref f) args) (CR CX0 [] P w H s Q E0) s
/-- by its body -/
theorem law_of {P : Program} {w : World} {K : PySem.W.Frag} {mg : Str → Option Value} {base : Heap} {k : Nat} {f : Addr} {fd : FuncData} {x qual : Str} {st : Stmt} {N : List Str} {y : Str} {sp : Sp} (F : Fun K x qual st f fd) (S : FnScope N [y] (defScope st)) (hr : Room (k + 1) callerA)
    (hbody : ∀ (cdv : Value) (s : Shared) (H : Hp) (v : V) (Q : VK), Room k (callerA.deeper (envOfC qual (defScope st) s.heap.objs.size f cdv)) → (callerA.deeper (envOfC qual (defScope st) s.heap.objs.size f cdv)).guards = some [] → sp [v] H Q E0 →
      ∃ t, PSs (cxOf CX0 P w K mg base N qual (defScope st) f cdv callerA [] s H E0).nox (defBody st) t ∧ t { nx := fun _ H' => Q .non H', rt := Q } (start N [v]) H) : LawOk P w K mg base f fd y sp := by
  intro s H args u v Q e0 hb rv hsp
  obtain ⟨oc, od, kV, doc, pm, an, cdv, ct, osl, rfl, lk, hcd⟩ := F.ex
  have keep : ∀ b o, base.get? b = some o → s.heap.get? b = some o := fun b o z => (e0.bs b o z).1
  have kin := e0.mod.kin.keeps keep
  have kind : ∀ q ∈ [(y, u)], (defScope st).names.lookup q.1 = some .local ∨ ((defScope st).names.lookup q.1 = some .cell ∧ ((cellsFrom (s.heap.objs.size + 1) (defScope st).names []).lookup q.1).isSome = true) := by
    intro q hq
    obtain rfl := List.mem_singleton.mp hq
    exact (S.par y (List.mem_singleton.mpr rfl)).imp (fun z => z) fun z => ⟨z, PySem.W.cellsFrom_some _ _ _ (.inl z)⟩
  refine codeAny_call_function hr.depth (kin _ _ lk) rfl S.co S.gen rfl (PySem.W.codeRec_of kin hcd) (hb _ _ _ _ (wpAny_newFunctionEnv_cells S.kind kind fun env he s1 z => ?_))
  subst he
  refine ⟨(e0.mod.nolimit.keeps keep).keeps z.toInCall.keep, codeAny_func ?_⟩
  obtain ⟨t, ht, hq⟩ := hbody cdv s H v Q (hr.deeper _) rfl hsp
  have I : Inv (cxOf CX0 P w K mg base N qual (defScope st) f cdv callerA [] s H E0) [] (start N [v]) H s1 := inv_start (us := [u]) S hr.hd e0 rfl (.cons rv .nil) z
  refine wpAny_mono (ht.nox.run [] s1 _ H _ I hq) (fun fl s' hs => ?_) fun e s' hs => hs
  cases fl with
  | ret r =>
    obtain ⟨v', _, H', J, rr, q⟩ := hs
    exact ⟨v', H', J.os, J.bare, J.base, J.hok, rr, q⟩
  | next =>
    obtain ⟨_, H', J, q⟩ := hs
    exact ⟨.non, H', J.os, J.bare, J.base, J.hok, rfl, q⟩
  | brk => obtain ⟨_, _, _, q⟩ := hs; exact q.elim
  | cont => obtain ⟨_, _, _, q⟩ := hs; exact q.elim
/-- from the heap behind the top -/
theorem law_enter {P : Program} {w : World} {K : PySem.W.Frag} {mg mb : Str → Option Value} {fa a : Addr} {fd : FuncData} {x : Str} {sp : Sp} {s : Shared} {vs : List Value} {ns : List Int} (KX : K.In s.heap) (hns : s.heap.Ns mainGlobals mg) (hb : s.heap.Ns builtinsNs mb)
    (hbb : ∀ n : Str, n ≠ "__name__" → mb n = bootBuiltins n) (hlim : s.heap.NoLimit) (hg : s.gens = #[]) (ha : s.heap.get? a = some { cls := .type "list", data := .seq vs.toArray }) (hi : IntsAre vs ns) (hl : ns.length ≤ sizeLine)
    (F : ∀ base : Heap, K.In base → base.Ns mainGlobals mg → LawOk P w K mg base fa fd x sp) (hbind : ∀ (s : Shared) (u : Value), BindsTo s fd ⟨[u], []⟩ [(x, u)])
    (hsp : ∀ H : Hp, Only H → SqL K H a (ns.map V.int) → sp [.ref a] H (fun v _ => v = .bl true) E0) :
    codeAny (model P w) callerA (.call (.ref fa) ⟨[.ref a], []⟩) (fun r s' => r = .ok (.ret (.bool true)) ∧ OldK s.heap s'.heap ∧ s'.os = s.os ∧ AllBare s'.gens) s := by
  have rv := vals_ints hi
  have lenV := hi.length
  suffices core : ∀ H : Hp, Only H → SqL K H a (ns.map V.int) → HOk P w H s.heap → (∀ b, H b ≠ none → b = a ∧ K.lookup a = none) →
      codeAny (model P w) callerA (.call (.ref fa) ⟨[.ref a], []⟩) (fun r s' => r = .ok (.ret (.bool true)) ∧ OldK s.heap s'.heap ∧ s'.os = s.os ∧ AllBare s'.gens) s by
    cases hk : K.lookup a with
    | some o =>
      have e := KX a o hk
      rw [ha] at e
      cases e
      refine core (fun _ => none) (fun _ => .inl rfl) (.inr ⟨_, vs.toArray, _, hk, rfl, rfl, rfl, ?_, by simpa using rv⟩) (fun b u z => nomatch z) fun b z => absurd rfl z
      rw [List.size_toArray, lenV]; exact hl
    | none =>
      let ob : Obj := { cls := .type "list", data := .seq vs.toArray }
      have at_ : ∀ b u, (fun b => if b = a then some (HO.frz ob (.lst (ns.map V.int))) else none : Hp) b = some u → b = a ∧ u = .frz ob (.lst (ns.map V.int)) := by
        intro b u z
        by_cases h : b = a
        · subst h; simp at z; exact ⟨rfl, z.symm⟩
        · simp [h] at z
      refine core (fun b => if b = a then some (.frz ob (.lst (ns.map V.int))) else none) (fun b => ?_) (.inl (.inr ⟨ob, by simp⟩)) (fun b u z => ?_) fun b z => ?_
      · by_cases h : b = a
        · exact .inr ⟨ob, ns.map V.int, by simp [h]⟩
        · exact .inl (by simp [h])
      · obtain ⟨rfl, rfl⟩ := at_ b u z
        exact ⟨ha, by rw [List.length_map]; exact hl, vs, _, rv, ha⟩
      · by_cases h : b = a
        · exact ⟨h, hk⟩
        · exact absurd (by simp [h]) z
  intro H hO hS hok hA
  have dictNone : ∀ {b o es ep}, s.heap.get? b = some o → o.data = .dict es ep → H b = none := by
    intro b o es ep e d
    cases q : H b with
    | none => rfl
    | some u =>
      have := (hA b (by simp [q])).1
      subst this
      rw [ha] at e; cases e; cases d
  have nsK : ∀ {b m}, s.heap.Ns b m → (hidT s.heap H).Ns b m := fun ⟨o, es, ep, e, d, r⟩ => ⟨o, es, ep, hidT_get e (dictNone e d), d, r⟩
  have kin : K.In (hidT s.heap H) := fun b o e => hidT_get (KX b o e) (by
    cases q : H b with
    | none => rfl
    | some u =>
      obtain ⟨rfl, n⟩ := hA b (by simp [q])
      rw [n] at e; cases e)
  have e0 : Env0 P w K mg (hidT s.heap H) callerA [] s H := by
    refine ⟨rfl, ⟨kin, nsK hns, ⟨mb, nsK hb, hbb⟩, ?_⟩, fun b o e => of_hidT e, Nat.le_of_eq (hidT_size _ _), trivial, fun b z => ?_, hok, .of_eq hg⟩
    · obtain ⟨mc, h1, h2⟩ := hlim
      exact ⟨mc, nsK h1, h2⟩
    · cases (show b ∈ ([] : List Addr) from z)
  refine codeAny_mono (F _ kin (nsK hns) s H ⟨[.ref a], []⟩ (.ref a) (.ref a) _ e0 (hbind s (.ref a)) rfl (hsp H hO hS)) fun r s' h => ?_
  rcases r with e | fl
  · exact (show False from h).elim
  cases fl with
  | next => exact (show False from h).elim
  | brk => exact (show False from h).elim
  | cont => exact (show False from h).elim
  | ret u =>
    obtain ⟨v, H', os, bare, un, hok', r', q⟩ := h
    cases (show v = .bl true from q)
    cases (show u = Value.bool true from r')
    refine ⟨rfl, .of_keep fun b o e => ?_, os, bare⟩
    cases q : H b with
    | none => exact un.keep b o e q (fun z => by cases (show b ∈ ([] : List Addr) from z)) (fun z => by cases z)
    | some u =>
      rcases hO b with z | ⟨ob, xs, z⟩
      · rw [q] at z; cases z
      · have e1 := (hok b _ z).1
        rw [e] at e1; cases e1
        exact (hok' b _ (un.frzs b _ _ z)).1
/-- the end of a law row: the script has at most n ints of bounded size -/
theorem walk_law {l : PySem.W.OpenLaw} {n : Nat} {q : Program} {loose : List Str} {XP : (Str → Option Value) → Heap → Prop} {YP : World → Heap → Prop} {d : DefRec} {K : Params → PySem.W.Frag} {sp : World → Sp} {x : Str} (hn : l.most = some n) (hn2 : n ≤ sizeLine) (hdf : d.params.defaults = [])
    (hY : ∀ (w : World) (h : Heap), YP w h → (K w.params).In h)
    (F : ∀ (w : World) (mg : Str → Option Value) (fa : Addr) (h : Heap), (K w.params).In h → h.Ns mainGlobals mg → mg d.name = some (.ref fa) → ∃ fd : FuncData, (∀ (s : Shared) (u : Value), BindsTo s fd ⟨[u], []⟩ [(x, u)]) ∧
        ∀ base : Heap, (K w.params).In base → base.Ns mainGlobals mg → LawOk l.prog w (K w.params) mg base fa fd x (sp w))
    (hsp : ∀ (w : World) (H : Hp) (a : Addr) (ns : List Int), ns.length ≤ n → (∀ z ∈ ns, Builtin.Int.intBits z ≤ 1048576) → SqL (K w.params) H a (ns.map V.int) → sp w [.ref a] H (fun v _ => v = .bl true) E0) :
    PySem.W.WalkO q loose XP YP l.row.toRowW d [] (fun f vs => PySem.call f vs) := by
  refine Att.attach_callB hn hdf fun w s₀ s₁ mg mb fa o pm cd doc a vs ns G Y ho hd hcd hmg hobj hints hlen hbits hg => ?_
  obtain ⟨fd, hb, hF⟩ := F w mg fa _ (hY w _ Y) G.T.g hmg
  exact law_enter (hY w _ Y) G.T.g G.T.b G.T.builtins G.T.nolimit hg hobj hints (Nat.le_trans hlen hn2) hF hb fun H _ hS => hsp w H a ns hlen hbits hS
end Sk

/-! Values and their documents, in plain Lean. -/
namespace Sk
open PySem PySem.Spec PyProof.Rows L2 Evl
/-! ## sorted names -/
def leS (a b : Str) : Bool := !ltCps b.cps.toList a.cps.toList
def sortS (ks : List Str) : List Str := ks.mergeSort leS
theorem leS_iff {a b : Str} : leS a b = true ↔ ¬ b.cps.toList < a.cps.toList := by
  unfold leS; rw [ltCps_eq]; simp
theorem leS_trans {a b c : Str} (h1 : leS a b = true) (h2 : leS b c = true) : leS a c = true := by
  rw [leS_iff] at *
  have g1 : a.cps.toList ≤ b.cps.toList := h1
  have g2 : b.cps.toList ≤ c.cps.toList := h2
  exact List.le_trans g1 g2
theorem leS_total (a b : Str) : (leS a b || leS b a) = true := by
  rw [Bool.or_eq_true, leS_iff, leS_iff]
  by_cases h : b.cps.toList < a.cps.toList
  · exact .inr fun z => List.lt_irrefl _ (List.lt_trans h z)
  · exact .inl h
theorem leS_anti {a b : Str} (h1 : leS a b = true) (h2 : leS b a = true) : a = b := by
  rw [leS_iff] at *
  exact ext_toList (List.le_antisymm (show a.cps.toList ≤ b.cps.toList from h1) h2)
theorem rising_pairwise : ∀ (p : Str) (l : List Str), risingS p l = true → (p :: l).Pairwise fun a b => leS a b = true
  | p, [], _ => by simp
  | p, x :: r, h => by
    unfold risingS at h
    rw [Bool.and_eq_true] at h
    have ih := rising_pairwise x r h.2
    refine List.pairwise_cons.mpr ⟨fun y hy => ?_, ih⟩
    rcases List.mem_cons.mp hy with rfl | hy
    · exact h.1
    · exact leS_trans h.1 (List.rel_of_pairwise_cons ih hy)
theorem sorted_eq {ys ks : List Str} (hp : ys.Perm ks) (hs : sortedS ys = true) : ys = sortS ks := by
  have h1 : ys.Pairwise fun a b => leS a b = true := by
    cases ys with
    | nil => exact .nil
    | cons x r => exact rising_pairwise x r hs
  have h2 := List.pairwise_mergeSort (le := leS) (fun a b c => leS_trans) leS_total ks
  exact List.Perm.eq_of_pairwise (fun a b _ _ => leS_anti) h1 h2 (hp.trans (List.mergeSort_perm ks leS).symm)
theorem sortS_perm (ks : List Str) : (sortS ks).Perm ks := List.mergeSort_perm ks leS
/-! ## documents -/
def quo (x : Str) : Str := ("\"" : Str) ++ x ++ "\""
def lookS (l : List (Str × Str)) (k : Str) : Str := ((l.find? fun p => decide (p.1 = k)).map (·.2)).getD Str.empty
def memS (l : List (Str × Str)) (k : Str) : Str := quo k ++ ":" ++ lookS l k
mutual
def doc : PyData → Str
  | .bool b => if b then "true" else "false"
  | .int i => Str.ofString (toString i)
  | .str x => quo x
  | .list xs => ("[" : Str) ++ Str.join "," (docAll xs) ++ "]"
  | .dict kvs => ("{" : Str) ++ Str.join "," ((sortS (kvs.map fun p => keyS p.1)).map (memS (docKv kvs))) ++ "}"
  | .none => Str.empty
  | .tuple _ => Str.empty
def docAll : List PyData → List Str
  | [] => []
  | x :: r => doc x :: docAll r
def docKv : List (PyData × PyData) → List (Str × Str)
  | [] => []
  | (k, x) :: r => (keyS k, doc x) :: docKv r
end
theorem docAll_get : ∀ (xs : List PyData) (i : Nat) (x : PyData), xs[i]? = some x → (docAll xs)[i]? = some (doc x)
  | [], _, _, h => by simp at h
  | y :: r, 0, x, h => by simp at h; subst h; simp [docAll]
  | y :: r, i + 1, x, h => by simp only [docAll, List.getElem?_cons_succ] at h ⊢; exact docAll_get r i x h
theorem docAll_len : ∀ xs : List PyData, (docAll xs).length = xs.length
  | [] => by simp [docAll]
  | x :: r => by simp [docAll, docAll_len r]
theorem docAll_mem : ∀ (xs : List PyData) (t : Str), t ∈ docAll xs → ∃ x ∈ xs, t = doc x
  | [], _, h => by simp [docAll] at h
  | y :: r, t, h => by
    simp only [docAll, List.mem_cons] at h
    rcases h with rfl | h
    · exact ⟨y, by simp, rfl⟩
    · obtain ⟨x, hx, e⟩ := docAll_mem r t h
      exact ⟨x, by simp [hx], e⟩
theorem lookS_get : ∀ (ds : List (PyData × PyData)) (k : Str) (d : PyData), getD ds k = some d → lookS (docKv ds) k = doc d
  | [], _, _, h => by simp [getD] at h
  | (a, x) :: r, k, d, h => by
    by_cases e : keyS a = k
    · simp [getD, e] at h
      subst h
      simp [docKv, lookS, e]
    · have h' : getD r k = some d := by simpa [getD, e] using h
      rw [← lookS_get r k d h']
      simp [docKv, lookS, e]
theorem getD_mem : ∀ (ds : List (PyData × PyData)) (k : Str), k ∈ ds.map (fun p => keyS p.1) → ∃ d, getD ds k = some d ∧ ∃ p ∈ ds, p.2 = d
  | [], _, h => by simp at h
  | (a, x) :: r, k, h => by
    by_cases e : keyS a = k
    · exact ⟨x, by simp [getD, e], (a, x), by simp, rfl⟩
    · simp only [List.map_cons, List.mem_cons] at h
      rcases h with h | h
      · exact absurd h.symm e
      · obtain ⟨d, h1, p, h2, h3⟩ := getD_mem r k h
        exact ⟨d, by simpa [getD, e] using h1, p, by simp [h2], h3⟩
/-! ## the values that are drawn: of depth at most n -/
def okS (m : Nat) (x : Str) : Prop := x.length ≤ m ∧ ∀ c ∈ x.cps.toList, c < 128
def Gd (b : Bool) : Nat → PyData → Prop
  | 0, .int i => b = true ∧ i = 0
  | 0, _ => False
  | _ + 1, .bool _ => True
  | _ + 1, .int i => -1000000000 ≤ i ∧ i ≤ 1000000000
  | _ + 1, .str x => okS 12 x
  | n + 1, .list xs => xs.length ≤ 8 ∧ ∀ x ∈ xs, Gd b n x
  | n + 1, .dict kvs => kvs.length ≤ 8 ∧ (∀ p ∈ kvs, p.1 = .str (keyS p.1) ∧ okS 8 (keyS p.1) ∧ Gd b n p.2) ∧ (kvs.map fun p => keyS p.1).Nodup ∧ (n = 0 → kvs = [])
  | _ + 1, .none => False
  | _ + 1, .tuple _ => False
variable {b : Bool}
theorem gd0 {d : PyData} (h : Gd b 0 d) : b = true ∧ d = .int 0 := by
  cases d with
  | int i => exact ⟨h.1, by rw [h.2]⟩
  | none => exact h.elim
  | bool _ => exact h.elim
  | str _ => exact h.elim
  | list _ => exact h.elim
  | tuple _ => exact h.elim
  | dict _ => exact h.elim
theorem Gd.up : ∀ {n : Nat} {d : PyData}, Gd b n d → Gd b (n + 1) d
  | 0, d, h => by
    obtain ⟨_, rfl⟩ := gd0 h
    exact ⟨by decide, by decide⟩
  | _ + 1, .bool _, h => h
  | _ + 1, .int i, h => h
  | _ + 1, .str x, h => h
  | n + 1, .list xs, h => ⟨h.1, fun x m => (h.2 x m).up⟩
  | n + 1, .dict kvs, h => ⟨h.1, fun p m => ⟨(h.2.1 p m).1, (h.2.1 p m).2.1, (h.2.1 p m).2.2.up⟩, h.2.2.1, fun z => nomatch z⟩
  | _ + 1, .none, h => h.elim
  | _ + 1, .tuple _, h => h.elim
theorem Gd.wide : ∀ {n : Nat} {d : PyData}, Gd false n d → Gd b n d
  | 0, _, h => by
    cases (gd0 h).1
  | _ + 1, .bool _, h => h
  | _ + 1, .int i, h => h
  | _ + 1, .str x, h => h
  | n + 1, .list xs, h => ⟨h.1, fun x m => (h.2 x m).wide⟩
  | n + 1, .dict kvs, h => ⟨h.1, fun p m => ⟨(h.2.1 p m).1, (h.2.1 p m).2.1, (h.2.1 p m).2.2.wide⟩, h.2.2⟩
  | _ + 1, .none, h => h.elim
  | _ + 1, .tuple _, h => h.elim
theorem Gd.le {n m : Nat} {d : PyData} (h : Gd b n d) (l : n ≤ m) : Gd b m d := by
  induction l with
  | refl => exact h
  | step _ ih => exact ih.up
/-! ## how long they are -/
theorem join_le (sep : Str) (B : Nat) : ∀ ts : List Str, (∀ t ∈ ts, t.length ≤ B) → (Str.join sep ts).length ≤ ts.length * (B + sep.length)
  | [], _ => by show (0 : Nat) ≤ _; omega
  | [x], h => by
    have := h x (by simp)
    show x.length ≤ 1 * (B + sep.length)
    omega
  | x :: y :: r, h => by
    have ih := join_le sep B (y :: r) fun t m => h t (List.mem_cons_of_mem _ m)
    have := h x (by simp)
    show (x ++ sep ++ Str.join sep (y :: r)).length ≤ _
    rw [strLen_append, strLen_append]
    simp only [List.length_cons] at ih ⊢
    rw [Nat.succ_mul]
    omega
def bnd : Nat → Nat
  | 0 => 1
  | 1 => 122
  | n + 2 => 690 + 8 * bnd (n + 1)
theorem bnd_ge : ∀ n : Nat, 122 ≤ bnd (n + 1)
  | 0 => Nat.le_refl _
  | n + 1 => by show 122 ≤ 690 + 8 * bnd (n + 1); omega
theorem bnd_le {n : Nat} (h : n ≤ 6) : bnd n ≤ 7300000 := by
  match n, h with
  | 0, _ => decide
  | 1, _ => decide
  | 2, _ => decide
  | 3, _ => decide
  | 4, _ => decide
  | 5, _ => decide
  | 6, _ => decide
theorem all0 : ∀ {xs : List PyData}, (∀ x ∈ xs, Gd b 0 x) → xs = List.replicate xs.length (.int 0)
  | [], _ => rfl
  | x :: r, h => by
    obtain ⟨_, e⟩ := gd0 (h x (by simp))
    have ih := all0 (xs := r) fun y m => h y (by simp [m])
    rw [List.length_cons, List.replicate_succ, ← ih, e]
theorem int_len {i : Int} (h0 : -1000000000 ≤ i) (h1 : i ≤ 1000000000) : (Str.ofString (toString i)).length ≤ 11 := by
  have e : (10 : Nat) ^ 10 = 10000000000 := by decide
  have := int_text_length_le10 (a := i) (k := 10) (by decide) (by rw [e]; omega)
  rw [PySem.ofString_length]
  exact this
theorem quo_len (x : Str) : (quo x).length = x.length + 2 := by
  unfold quo; rw [strLen_append, strLen_append]
  show 1 + x.length + 1 = x.length + 2
  omega
theorem sortS_nil : sortS [] = [] := by simp [sortS]
theorem doc_len : ∀ {n : Nat} {d : PyData}, Gd b n d → (doc d).length ≤ bnd n
  | 0, _, h => by
    obtain ⟨_, rfl⟩ := gd0 h
    simp only [doc]
    decide +kernel
  | n + 1, .bool b, _ => by
    have := bnd_ge n
    cases b
    · show 5 ≤ _; omega
    · show 4 ≤ _; omega
  | n + 1, .int i, h => by
    have := bnd_ge n
    have := int_len h.1 h.2
    simp only [doc]; omega
  | n + 1, .str x, h => by
    have := bnd_ge n
    have := h.1
    simp only [doc]; rw [quo_len]; omega
  | 1, .list xs, h => by
    have z := join_le "," 1 (docAll xs) fun t m => by
      obtain ⟨x, hx, e⟩ := docAll_mem xs t m
      obtain ⟨_, ex⟩ := gd0 (h.2 x hx)
      rw [e, ex]
      simp only [doc]
      decide +kernel
    rw [docAll_len] at z
    have e1 : (Str.ofString ",").length = 1 := rfl
    rw [e1] at z
    have := h.1
    simp only [doc]
    rw [strLen_append, strLen_append]
    show 1 + _ + 1 ≤ 122
    omega
  | n + 2, .list xs, h => by
    have z := join_le "," (bnd (n + 1)) (docAll xs) fun t m => by
      obtain ⟨x, hx, e⟩ := docAll_mem xs t m
      rw [e]
      exact doc_len (h.2 x hx)
    rw [docAll_len] at z
    have e1 : (Str.ofString ",").length = 1 := rfl
    rw [e1] at z
    have z2 : xs.length * (bnd (n + 1) + 1) ≤ 8 * (bnd (n + 1) + 1) := Nat.mul_le_mul_right _ h.1
    simp only [doc]
    rw [strLen_append, strLen_append]
    show 1 + _ + 1 ≤ 690 + 8 * bnd (n + 1)
    omega
  | 1, .dict kvs, h => by
    cases h.2.2.2 rfl
    simp only [doc, List.map_nil, sortS_nil]
    show 2 ≤ 122
    decide
  | n + 2, .dict kvs, h => by
    have z := join_le "," (bnd (n + 1) + 11) ((sortS (kvs.map fun p => keyS p.1)).map (memS (docKv kvs))) fun t m => by
      obtain ⟨k, hk, rfl⟩ := List.mem_map.mp m
      have hk' := (sortS_perm _).mem_iff.mp hk
      obtain ⟨d, hd, p, hp, ep⟩ := getD_mem kvs k hk'
      obtain ⟨q, hq, eq⟩ := List.mem_map.mp hk'
      have hl := (h.2.1 q hq).2.1.1
      rw [eq] at hl
      have hx := doc_len (h.2.1 p hp).2.2
      rw [ep] at hx
      unfold memS
      rw [strLen_append, strLen_append, quo_len, lookS_get kvs k d hd]
      have e1 : (Str.ofString ":").length = 1 := rfl
      rw [e1]
      omega
    rw [List.length_map, (sortS_perm _).length_eq, List.length_map] at z
    have e1 : (Str.ofString ",").length = 1 := rfl
    rw [e1] at z
    have z2 : kvs.length * (bnd (n + 1) + 11 + 1) ≤ 8 * (bnd (n + 1) + 11 + 1) := Nat.mul_le_mul_right _ h.1
    simp only [doc]
    rw [strLen_append, strLen_append]
    show 1 + _ + 1 ≤ 690 + 8 * bnd (n + 1)
    omega
  | _ + 1, .none, h => h.elim
  | _ + 1, .tuple _, h => h.elim
/-! ## how long their reprs are -/
theorem rep_len {m : Nat} {x : Str} (h : okS m x) : (reprText x).length ≤ 10 * m + 2 := by
  have := PySem.StrLaws.reprText_len x fun c hc => Nat.lt_of_lt_of_le (h.2 c hc) (by decide)
  have := h.1
  omega
theorem lsum_le (B : Nat) : ∀ ts : List Str, (∀ t ∈ ts, t.length ≤ B) → (ts.map (·.length)).sum ≤ ts.length * B
  | [], _ => by simp
  | x :: r, h => by
    have ih := lsum_le B r fun t m => h t (List.mem_cons_of_mem _ m)
    have := h x (by simp)
    simp only [List.map_cons, List.sum_cons, List.length_cons, Nat.succ_mul]
    omega
theorem shownAll_mem : ∀ (xs : List PyData) (t : Str), t ∈ PyData.shownAll xs → ∃ x ∈ xs, t = x.shown
  | [], _, h => by simp [PyData.shownAll] at h
  | y :: r, t, h => by
    simp only [PyData.shownAll, List.mem_cons] at h
    rcases h with rfl | h
    · exact ⟨y, by simp, rfl⟩
    · obtain ⟨x, hx, e⟩ := shownAll_mem r t h
      exact ⟨x, by simp [hx], e⟩
theorem shownAll_len : ∀ xs : List PyData, (PyData.shownAll xs).length = xs.length
  | [] => by simp [PyData.shownAll]
  | x :: r => by simp [PyData.shownAll, shownAll_len r]
theorem shownKv_mem : ∀ (xs : List (PyData × PyData)) (t : Str), t ∈ PyData.shownKv xs → ∃ p ∈ xs, t = p.1.shown ++ ": " ++ p.2.shown
  | [], _, h => by simp [PyData.shownKv] at h
  | (a, b) :: r, t, h => by
    simp only [PyData.shownKv, List.mem_cons] at h
    rcases h with rfl | h
    · exact ⟨(a, b), by simp, rfl⟩
    · obtain ⟨x, hx, e⟩ := shownKv_mem r t h
      exact ⟨x, by simp [hx], e⟩
theorem shownKv_len : ∀ xs : List (PyData × PyData), (PyData.shownKv xs).length = xs.length
  | [] => by simp [PyData.shownKv]
  | (a, b) :: r => by simp [PyData.shownKv, shownKv_len r]
theorem shown_len : ∀ {n : Nat} {d : PyData}, Gd b n d → d.shown.length ≤ bnd n
  | 0, _, h => by
    obtain ⟨_, rfl⟩ := gd0 h
    simp only [PyData.shown]
    decide +kernel
  | n + 1, .bool b, _ => by
    have := bnd_ge n
    cases b
    · simp only [PyData.shown]; show 5 ≤ _; omega
    · simp only [PyData.shown]; show 4 ≤ _; omega
  | n + 1, .int i, h => by
    have := bnd_ge n
    have := int_len h.1 h.2
    simp only [PyData.shown]; omega
  | n + 1, .str x, h => by
    have := bnd_ge n
    have := rep_len h
    simp only [PyData.shown]; omega
  | 1, .list xs, h => by
    have z := lsum_le 1 (PyData.shownAll xs) fun t m => by
      obtain ⟨x, hx, e⟩ := shownAll_mem xs t m
      obtain ⟨_, ex⟩ := gd0 (h.2 x hx)
      rw [e, ex]
      simp only [PyData.shown]
      decide +kernel
    have z1 := textFrom_len_le (PyData.shownAll xs) 0 "["
    rw [shownAll_len] at z z1
    have e1 : (Str.ofString "[").length = 1 := rfl
    rw [e1] at z1
    have := h.1
    simp only [PyData.shown]
    unfold listText
    rw [strLen_append]
    show _ + 1 ≤ 122
    omega
  | n + 2, .list xs, h => by
    have z := lsum_le (bnd (n + 1)) (PyData.shownAll xs) fun t m => by
      obtain ⟨x, hx, e⟩ := shownAll_mem xs t m
      rw [e]
      exact shown_len (h.2 x hx)
    have z1 := textFrom_len_le (PyData.shownAll xs) 0 "["
    rw [shownAll_len] at z z1
    have z2 : xs.length * bnd (n + 1) ≤ 8 * bnd (n + 1) := Nat.mul_le_mul_right _ h.1
    have e1 : (Str.ofString "[").length = 1 := rfl
    rw [e1] at z1
    have := h.1
    simp only [PyData.shown]
    unfold listText
    rw [strLen_append]
    show _ + 1 ≤ 690 + 8 * bnd (n + 1)
    omega
  | 1, .dict kvs, h => by
    cases h.2.2.2 rfl
    simp only [PyData.shown, PyData.shownKv]
    show 2 ≤ 122
    decide
  | n + 2, .dict kvs, h => by
    have z := join_le ", " (bnd (n + 1) + 84) (PyData.shownKv kvs) fun t m => by
      obtain ⟨p, hp, e⟩ := shownKv_mem kvs t m
      obtain ⟨g1, g2, g3⟩ := h.2.1 p hp
      have hx := shown_len g3
      have hk := rep_len g2
      rw [e, strLen_append, strLen_append, g1]
      simp only [PyData.shown]
      have e1 : (Str.ofString ": ").length = 2 := rfl
      rw [e1]
      omega
    rw [shownKv_len] at z
    have e1 : (Str.ofString ", ").length = 2 := rfl
    rw [e1] at z
    have z2 : kvs.length * (bnd (n + 1) + 84 + 2) ≤ 8 * (bnd (n + 1) + 84 + 2) := Nat.mul_le_mul_right _ h.1
    simp only [PyData.shown]
    unfold dictText
    rw [strLen_append, strLen_append]
    show 1 + _ + 1 ≤ 690 + 8 * bnd (n + 1)
    omega
  | _ + 1, .none, h => h.elim
  | _ + 1, .tuple _, h => h.elim
theorem all_show : ∀ xs : List PyData, (∀ x ∈ xs, x.showable = true) → PyData.showableAll xs = true
  | [], _ => by simp [PyData.showableAll]
  | x :: r, h => by simp [PyData.showableAll, h x (by simp), all_show r fun y m => h y (by simp [m])]
theorem kv_show : ∀ xs : List (PyData × PyData), (∀ p ∈ xs, p.1.showable = true ∧ p.2.showable = true) → PyData.showableKv xs = true
  | [], _ => by simp [PyData.showableKv]
  | (a, b) :: r, h => by
    have := h (a, b) (by simp)
    simp [PyData.showableKv, this.1, this.2, kv_show r fun y m => h y (by simp [m])]
theorem Gd.show : ∀ {n : Nat} {d : PyData}, Gd b n d → d.showable = true
  | 0, _, h => by
    obtain ⟨_, rfl⟩ := gd0 h
    decide +kernel
  | n + 1, .bool b, _ => by simp [PyData.showable]
  | n + 1, .int i, h => by
    have : i.natAbs.log2 < 1920 := by
      have h1 : i.natAbs < 2 ^ 1920 := Nat.lt_of_le_of_lt (show i.natAbs ≤ 1000000000 by have := h.1; have := h.2; omega) (by decide)
      exact PySem.Flt.log2_lt_of (by decide) h1
    simpa [PyData.showable] using this
  | n + 1, .str x, h => by simp [PyData.showable]
  | n + 1, .list xs, h => by
    simp only [PyData.showable]
    exact all_show xs fun x m => (h.2 x m).show
  | n + 1, .dict kvs, h => by
    simp only [PyData.showable]
    refine kv_show kvs fun p m => ?_
    obtain ⟨g1, _, g3⟩ := h.2.1 p m
    exact ⟨by rw [g1]; simp [PyData.showable], g3.show⟩
  | _ + 1, .none, h => h.elim
  | _ + 1, .tuple _, h => h.elim
theorem depthAll_le {n : Nat} : ∀ xs : List PyData, (∀ x ∈ xs, x.depth ≤ n) → PyData.depthAll xs ≤ n
  | [], _ => by simp [PyData.depthAll]
  | x :: r, h => by
    have := h x (by simp)
    have := depthAll_le r fun y m => h y (by simp [m])
    simp only [PyData.depthAll]; omega
theorem depthKv_le {n : Nat} : ∀ xs : List (PyData × PyData), (∀ p ∈ xs, p.1.depth ≤ n ∧ p.2.depth ≤ n) → PyData.depthKv xs ≤ n
  | [], _ => by simp [PyData.depthKv]
  | (a, b) :: r, h => by
    obtain ⟨g1, g2⟩ := h (a, b) (by simp)
    simp only at g1 g2
    have := depthKv_le r fun y m => h y (by simp [m])
    simp only [PyData.depthKv]; omega
theorem Gd.depth : ∀ {n : Nat} {d : PyData}, Gd b n d → d.depth ≤ n
  | 0, _, h => by
    obtain ⟨_, rfl⟩ := gd0 h
    simp [PyData.depth]
  | n + 1, .bool b, _ => by simp [PyData.depth]
  | n + 1, .int i, h => by simp [PyData.depth]
  | n + 1, .str x, h => by simp [PyData.depth]
  | n + 1, .list xs, h => by
    have := depthAll_le xs fun x m => (h.2 x m).depth
    simp only [PyData.depth]; omega
  | n + 1, .dict kvs, h => by
    have := depthKv_le (n := n) kvs fun p m => by
      obtain ⟨g1, _, g3⟩ := h.2.1 p m
      exact ⟨by rw [g1]; simp [PyData.depth], g3.depth⟩
    simp only [PyData.depth]; omega
  | _ + 1, .none, h => h.elim
  | _ + 1, .tuple _, h => h.elim
end Sk

/-! isinstance of data. -/
namespace Sk
open PySem PySem.Spec PyProof.Rows L2 Evl
theorem kbb : kitB "bool" "bool" = some true := by decide +kernel
theorem kbi : kitB "bool" "int" = some true := by decide +kernel
theorem kbs : kitB "bool" "str" = some false := by decide +kernel
theorem kbl : kitB "bool" "list" = some false := by decide +kernel
theorem kbd : kitB "bool" "dict" = some false := by decide +kernel
theorem kbt : kitB "bool" "tuple" = some false := by decide +kernel
theorem kib : kitB "int" "bool" = some false := by decide +kernel
theorem kii : kitB "int" "int" = some true := by decide +kernel
theorem kis : kitB "int" "str" = some false := by decide +kernel
theorem kil : kitB "int" "list" = some false := by decide +kernel
theorem kid : kitB "int" "dict" = some false := by decide +kernel
theorem kit : kitB "int" "tuple" = some false := by decide +kernel
theorem ksb : kitB "str" "bool" = some false := by decide +kernel
theorem ksi : kitB "str" "int" = some false := by decide +kernel
theorem kss : kitB "str" "str" = some true := by decide +kernel
theorem ksl : kitB "str" "list" = some false := by decide +kernel
theorem ksd : kitB "str" "dict" = some false := by decide +kernel
theorem kst : kitB "str" "tuple" = some false := by decide +kernel
theorem klb : kitB "list" "bool" = some false := by decide +kernel
theorem kli : kitB "list" "int" = some false := by decide +kernel
theorem kls : kitB "list" "str" = some false := by decide +kernel
theorem kll : kitB "list" "list" = some true := by decide +kernel
theorem kld : kitB "list" "dict" = some false := by decide +kernel
theorem klt : kitB "list" "tuple" = some false := by decide +kernel
theorem kdb : kitB "dict" "bool" = some false := by decide +kernel
theorem kdi : kitB "dict" "int" = some false := by decide +kernel
theorem kds : kitB "dict" "str" = some false := by decide +kernel
theorem kdl : kitB "dict" "list" = some false := by decide +kernel
theorem kdd : kitB "dict" "dict" = some true := by decide +kernel
theorem kdt : kitB "dict" "tuple" = some false := by decide +kernel
theorem ktb : kitB "tuple" "bool" = some false := by decide +kernel
theorem kti : kitB "tuple" "int" = some false := by decide +kernel
theorem kts : kitB "tuple" "str" = some false := by decide +kernel
theorem ktl : kitB "tuple" "list" = some false := by decide +kernel
theorem ktd : kitB "tuple" "dict" = some false := by decide +kernel
theorem ktt : kitB "tuple" "tuple" = some true := by decide +kernel
def tyD : PyData → String
  | .none => "NoneType"
  | .bool _ => "bool"
  | .int _ => "int"
  | .str _ => "str"
  | .list _ => "list"
  | .tuple _ => "tuple"
  | .dict _ => "dict"
theorem Dq.ty {K : PySem.W.Frag} {H : Hp} : ∀ {v : V} {d : PyData}, Dq H v d → TyX K H v (.type (tyD d))
  | _, _, .non => .base .non
  | _, _, .bl b => .base (.bl b)
  | _, _, .int i => .base (.int i)
  | _, _, .str x => .base (.str x)
  | _, _, .lst e _ => .base (.lst e)
  | _, _, .tup e _ => .base (.tup e)
  | _, _, .dct e _ => .base (.dK e)
theorem call_isD {X : Cx} : CallR X (.builtin "isinstance") (fun xs H Q => ∃ x T d b, xs = [x, .ty T] ∧ Dq H x d ∧ kitB (tyD d) T = some b ∧ Q (.bl b) H) := by
  intro pins s σ H xs us Q I r h
  obtain ⟨x, T, d, b, rfl, hd, hk, q⟩ := h
  exact call_isi pins s σ H _ us Q I r ⟨x, .ty T, _, _, b, rfl, .ty T, hd.ty, kit_ty hk, q⟩
theorem tyes {σ : L2.St} {H : Hp} {A B : Hp → Prop} (h : A H) : tYes σ H fun b H3 => if b = true then A H3 else B H3 := by
  show (if true = true then A H else B H)
  rw [if_pos rfl]
  exact h
/-- a document read off -/
theorem Dq.lst_inv {H : Hp} {v : V} {xs : List PyData} (h : Dq H v (.list xs)) : ∃ a vs, v = .ref a ∧ H a = some (.lst vs) ∧ DqAll H vs xs := by
  cases h with
  | lst e r => exact ⟨_, _, rfl, e, r⟩
theorem Dq.dct_inv {H : Hp} {v : V} {xs : List (PyData × PyData)} (h : Dq H v (.dict xs)) : ∃ a vs, v = .ref a ∧ H a = some (.dK vs) ∧ DqKv H vs xs := by
  cases h with
  | dct e r => exact ⟨_, _, rfl, e, r⟩
theorem take_snoc {α : Type} {l : List α} {i : Nat} {x : α} (h : l[i]? = some x) : l.take (i + 1) = l.take i ++ [x] := by
  rw [List.take_add_one, h]; rfl
end Sk

/-! xs[::k]; texts of one sign joined; a dict with one more name. -/
namespace Sk
open PySem PySem.Spec PyProof.Rows L2 Evl
theorem vals_pick {xs : List V} {us : List Value} (r : Vals xs us) : ∀ L : List Nat, Vals (L.filterMap (xs[·]?)) (L.filterMap (us[·]?))
  | [] => .nil
  | i :: L => by
    have ih := vals_pick r L
    simp only [List.filterMap_cons]
    cases h : xs[i]? with
    | none => rw [r.none_of h]; exact ih
    | some x =>
      obtain ⟨u, e, ru⟩ := r.get h
      rw [e]
      exact .cons ru ih
theorem pick_mem {xs : List V} (L : List Nat) : ∀ z ∈ L.filterMap (xs[·]?), z ∈ xs := by
  intro z h
  obtain ⟨i, _, e⟩ := List.mem_filterMap.mp h
  exact List.mem_of_getElem? e
def tStep (K : PySem.W.Frag) (te tk : TE) : TE := fun σ H Q => te σ H fun x H1 => tk σ H1 fun y H2 => ∃ a xs k, x = .ref a ∧ y = .int k ∧ k ≠ 0 ∧ SqL K H2 a xs ∧
  ∀ p zs, H2 p = none → (∀ z ∈ zs, z ∈ xs) → zs.length ≤ xs.length → Q (.ref p) (upd H2 p (.lst zs))
theorem pe_step {X : Cx} {e k : Expr} {te tk : TE} {p3 pos : Pos} (he : PE X e te) (hk : PE X k tk) : PE X (.Subscript e (.Slice none none (some k) p3) pos) (tStep X.K te tk) := by
  refine ⟨fun pins s σ H Q I h => Subscript_ (thn (he.run pins s σ H _ I h) fun v s1 ⟨x, H1, I1, r1, q1⟩ => ?_)⟩
  refine wpAny_Slice (thn (po_none.run pins s1 σ H1 (fun o H2 => o = none ∧ H2 = H1) I1 ⟨rfl, rfl⟩) fun vl s2 ⟨l, H2, I2, pl, el, e2⟩ => ?_)
  cases el
  cases e2
  refine thn (po_none.run pins s2 σ H1 (fun o H2 => o = none ∧ H2 = H1) I2 ⟨rfl, rfl⟩) fun vu s3 ⟨l, H2, I3, pu, el, e2⟩ => ?_
  cases el
  cases e2
  rw [evalPart_some]
  refine thn (hk.run pins s3 σ H1 _ I3 q1) fun vk s4 ⟨y, H4, I4, r4, a, xs, n, ex, ey, hn, hs, q⟩ => ?_
  subst ex
  subst ey
  cases r1
  obtain ⟨t, rfl⟩ := r4
  let s5 : Shared := { s4 with heap := s4.heap.push { cls := .type "slice", data := .fields #[vl, vu, .int n t] } }
  have I5 : Inv X pins σ H4 s5 := I4.kept (t' := s4.toks) fun b ob z => Heap.get?_push_of_some _ z
  obtain ⟨its, r, ht, hz⟩ := I5.list hs
  have hlen := r.length
  show wpAny (model X.prog X.w) X.A (subscriptTail e (.Slice none none (some k) p3) (.ref a) (.ref s4.heap.objs.size)) (EP X pins σ Q) X.xe s5
  refine tail_any (ops := [.ref a, .ref s4.heap.objs.size]) ht.isList.typeIs PySem.slot_list_getitem.lookup ?_ (by with_unfolding_all rfl)
  refine wpAny_getItem_list_slice ht.isList (.new _ vl vu _) pl pu (.int n t) (fun z => hn (Option.some.inj z)) ?_ (by rw [List.size_toArray]; omega)
  have hsz := slicePick_size_le its.toArray none none (some n)
  rw [List.size_toArray] at hsz
  generalize hL : sliceRange (sliceBounds none none (some n) its.toArray.size).1 (sliceBounds none none (some n) its.toArray.size).2.1 (sliceBounds none none (some n) its.toArray.size).2.2 = L
  have e1 : slicePick its.toArray none none (some n) = (L.filterMap (its[·]?)).toArray := by
    unfold slicePick
    rw [hL]
    simp
  rw [e1, List.size_toArray] at hsz
  rw [e1]
  have hsz2 : (L.filterMap (its[·]?)).length ≤ its.length := hsz
  have rz := vals_pick r L
  have hl2 := rz.length
  refine ⟨.ref _, _, I5.laid (t' := s4.toks) (o := .lst (L.filterMap (xs[·]?))) (fun b ob z => Heap.get?_push_of_some _ z) (Nat.le_refl _) ?_, rfl, q _ _ (I5.hok.fresh (Nat.le_refl _)) (pick_mem L) (by rw [hl2, hlen]; exact hsz2)⟩
  exact ⟨by rw [hl2]; exact Nat.le_trans hsz2 (by rw [← hlen]; exact hz), _, 0, rz, Heap.get?_push_size _ rfl⟩
/-! ## one sign each, joined -/
def one (c : Nat) : Str := ⟨#[c]⟩
theorem tl_app (a b : Str) : (a ++ b).cps.toList = a.cps.toList ++ b.cps.toList := by
  show (a.cps ++ b.cps).toList = _
  simp
theorem join_one : ∀ cs : List Nat, (Str.join Str.empty (cs.map one)).cps.toList = cs
  | [] => rfl
  | [c] => rfl
  | c :: d :: r => by
    have ih := join_one (d :: r)
    show ((one c ++ Str.empty) ++ Str.join Str.empty ((d :: r).map one)).cps.toList = c :: d :: r
    rw [tl_app, tl_app, ih]
    rfl
theorem sum_one : ∀ cs : List Nat, ((cs.map one).map (·.length)).sum = cs.length
  | [] => rfl
  | c :: r => by
    have ih := sum_one r
    simp only [List.map_cons, List.sum_cons, List.length_cons]
    rw [ih]
    show 1 + r.length = r.length + 1
    omega
/-! ## a name put into a record -/
def putD (ds : List (PyData × PyData)) (k : Str) (d : PyData) : List (PyData × PyData) :=
  if (ds.any fun p => decide (keyS p.1 = k)) = true then ds.map (fun p => if keyS p.1 = k then (p.1, d) else p) else ds ++ [(.str k, d)]
theorem any_keys {H : Hp} {k : Str} : ∀ {kvs ds}, DqKv H kvs ds → (kvs.any fun kv => decide (kv.1 = (.inr k : Key))) = ds.any fun p => decide (keyS p.1 = k)
  | _, _, .nil => rfl
  | _, _, .cons (k := k') x r => by
    simp only [List.any_cons, any_keys r, keyS]
    congr 1
    by_cases e : k' = k
    · simp [e]
    · have : ¬ (Sum.inr k' : Key) = Sum.inr k := fun z => e (Sum.inr.inj z)
      simp [e]
theorem map_put {H : Hp} {k : Str} {v : V} {d : PyData} (h : Dq H v d) : ∀ {kvs : List (Key × V)} {ds : List (PyData × PyData)}, DqKv H kvs ds → DqKv H (kvs.map fun kv => if kv.1 = (.inr k : Key) then (kv.1, v) else kv) (ds.map fun p => if keyS p.1 = k then (p.1, d) else p)
  | _, _, .nil => .nil
  | _, _, .cons (k := k') x r => by
    have ih := map_put (k := k) h r
    by_cases e : k' = k
    · subst e
      simp only [List.map_cons]
      rw [if_pos trivial, if_pos (show keyS (PyData.str k') = k' from rfl)]
      exact .cons h ih
    · have e2 : ¬ (Sum.inr k' : Key) = Sum.inr k := fun z => e (Sum.inr.inj z)
      simp only [List.map_cons]
      rw [if_neg e2, if_neg (show ¬ keyS (PyData.str k') = k from e)]
      exact .cons x ih
theorem snoc_put {H : Hp} {k : Str} {v : V} {d : PyData} (h : Dq H v d) : ∀ {kvs ds}, DqKv H kvs ds → DqKv H (kvs ++ [(.inr k, v)]) (ds ++ [(.str k, d)])
  | _, _, .nil => .cons h .nil
  | _, _, .cons x r => .cons x (snoc_put h r)
theorem DqKv.put {H : Hp} {k : Str} {v : V} {d : PyData} {kvs ds} (r : DqKv H kvs ds) (h : Dq H v d) : DqKv H (putK kvs (.inr k) v) (putD ds k d) := by
  unfold putK putD
  rw [any_keys r]
  split
  · exact map_put h r
  · exact snoc_put h r
theorem putD_len (ds : List (PyData × PyData)) (k : Str) (d : PyData) : (putD ds k d).length ≤ ds.length + 1 := by
  unfold putD
  split <;> simp
theorem putD_keys (ds : List (PyData × PyData)) (k : Str) (d : PyData) : (putD ds k d).map (fun p => keyS p.1) = if k ∈ ds.map (fun p => keyS p.1) then ds.map (fun p => keyS p.1) else ds.map (fun p => keyS p.1) ++ [k] := by
  unfold putD
  by_cases h : k ∈ ds.map fun p => keyS p.1
  · have h' : (ds.any fun p => decide (keyS p.1 = k)) = true := by
      obtain ⟨p, hp, e⟩ := List.mem_map.mp h
      exact List.any_eq_true.mpr ⟨p, hp, by simp [e]⟩
    rw [if_pos h, if_pos h', List.map_map]
    refine List.map_congr_left fun p hp => ?_
    simp only [Function.comp]
    split <;> rfl
  · have h' : ¬ (ds.any fun p => decide (keyS p.1 = k)) = true := fun z => by
      obtain ⟨p, hp, e⟩ := List.any_eq_true.mp z
      exact h (List.mem_map.mpr ⟨p, hp, by simpa using e⟩)
    rw [if_neg h, if_neg h', List.map_append]
    rfl
/-- the parts of a record: whatever it has -/
def GdK (b : Bool) (n m : Nat) (ds : List (PyData × PyData)) : Prop := ds.length ≤ m ∧ (∀ p ∈ ds, p.1 = .str (keyS p.1) ∧ okS 8 (keyS p.1) ∧ Gd b n p.2) ∧ (ds.map fun p => keyS p.1).Nodup
theorem GdK.nil {b : Bool} {n : Nat} : GdK b n 0 [] := ⟨Nat.le_refl _, (fun _ h => nomatch h), by simp⟩
theorem GdK.put {b : Bool} {n m : Nat} {ds : List (PyData × PyData)} (g : GdK b n m ds) {k : Str} {d : PyData} (hk : okS 8 k) (hd : Gd b n d) : GdK b n (m + 1) (putD ds k d) := by
  refine ⟨?_, ?_, ?_⟩
  · have := putD_len ds k d
    have := g.1
    omega
  · intro p hp
    unfold putD at hp
    split at hp
    · obtain ⟨q, hq, rfl⟩ := List.mem_map.mp hp
      have z := g.2.1 q hq
      split
      · exact ⟨z.1, z.2.1, hd⟩
      · exact z
    · rcases List.mem_append.mp hp with hp | hp
      · exact g.2.1 p hp
      · cases List.mem_singleton.mp hp
        exact ⟨rfl, hk, hd⟩
  · rw [putD_keys]
    split
    · exact g.2.2
    · rename_i h
      exact List.nodup_append.mpr ⟨g.2.2, by simp, fun a ha b hb e => by
        cases List.mem_singleton.mp hb
        exact h (e ▸ ha)⟩
end Sk

/-! What is new between two heaps. -/
namespace Sk
open PySem PySem.Spec PyProof.Rows L2 Evl
def Nw (G H : Hp) : Hp := fun a => if G a = none then H a else none
theorem nw_some {G H : Hp} {a : Addr} {o : HO} (h : Nw G H a = some o) : G a = none ∧ H a = some o := by
  unfold Nw at h
  split at h
  · exact ⟨by assumption, h⟩
  · cases h
theorem nw_of {G H : Hp} {a : Addr} {o : HO} (n : G a = none) (h : H a = some o) : Nw G H a = some o := by
  unfold Nw; rw [if_pos n]; exact h
theorem nw_le {G H : Hp} : Ex (Nw G H) H := fun _ _ h => (nw_some h).2
theorem nw_ne {G H : Hp} {st a : Addr} {o : HO} (s : Strm st G) (h : Nw G H a = some o) : a ≠ st := by
  obtain ⟨u, e⟩ := s.some
  intro z; subst z
  rw [(nw_some h).1] at e; cases e
theorem nw_hd {G H : Hp} {st : Addr} (s : Strm st G) : Ex (Nw G H) (Hd st H) := fun a o h => hd_of (nw_ne s h) (nw_some h).2
theorem nw_aft {G H H' : Hp} {st : Addr} (s : Strm st G) (a : Aft st H H') : Ex (Nw G H) (Nw G H') := fun b o h => nw_of (nw_some h).1 (a.at (nw_ne s h) (nw_some h).2)
theorem nw_back {G G' H : Hp} (d : ∀ a, G' a = none → G a = none) : Ex (Nw G' H) (Nw G H) := fun b o h => nw_of (d b (nw_some h).1) (nw_some h).2
theorem Aft.none {H H' : Hp} {st : Addr} (a : Aft st H H') {b : Addr} (h : H' b = none) : H b = none := by
  obtain ⟨u, e⟩ := a.sm.some
  have n : b ≠ st := by intro z; subst z; rw [h] at e; cases e
  cases q : H b with
  | none => rfl
  | some o => rw [a.at n q] at h; cases h
theorem nw_upd {G H : Hp} {b : Addr} {o u : HO} (h : G b = some u) : Nw G (upd H b o) = Nw G H := by
  funext a
  unfold Nw
  split
  · rename_i z
    exact upd_ne (by intro e; subst e; rw [h] at z; cases z)
  · rfl
theorem nw_new {G H : Hp} {b : Addr} {o : HO} (h : H b = none) : Ex (Nw G H) (Nw G (upd H b o)) := fun a u e => nw_of (nw_some e).1 (by rw [upd_ne (ne_of_none (nw_some e).2 h)]; exact (nw_some e).2)
theorem upd_none {H : Hp} {a b : Addr} {o : HO} (h : upd H b o a = none) : H a = none := by
  unfold upd at h
  split at h
  · cases h
  · exact h
end Sk

/-! A call by names alone. -/
namespace Sk
open PySem PySem.Spec PyProof.Rows L2 Evl
theorem pe_callK0 {X : Cx} {CX : CXT} {k : Nat} {f : Addr} {fd : FuncData} {ps ks : List Str} {sp : Sp} {E : XK} {x : Str} {p pos : Pos} {kws : List Keyword} {tk : TA} {g : List Value → List Value → List Value} {gV : List V → List V → List V} (F : FnOk X.prog X.w X.K X.mg X.base CX k f fd ps sp)
    (hr : Room k X.A) (hg : Gl X x) (hm : X.mg x = some (.ref f)) (hk : PySem.W.keepIn X.K (.ref f) = true) (hb : KBinds X.K fd ps ks g gV) (hx : Passes CX X E) (hkw : PK X kws tk) (hall : (backToKw pos (keywordEach kws X.env)).all (·.1.isSome) = true := by rfl)
    (hks : (backToKw pos (keywordEach kws X.env)).filterMap (·.1) = ks := by rfl) (hdb : (x == ("__debug__" : Str)) = false := by decide)
    (hpl : ((backTo pos (starEach [] X.env)).any (·.1) || (backToKw pos (keywordEach kws X.env)).any (·.1.isNone)) = false := by rfl) : PE X (.Call (.Name x p) [] kws pos) (tCallK sp gV E tNil tk) := by
  refine ⟨fun pins s σ H Q I h => wpAny_Call_Name_kw (ld_glob I hg hm (PySem.W.callWith_KW0 (h₀ := X.base) I.ok.mod.kin hk hall (thn (hkw.run pos pins s σ H _ I h) fun ws s2 ⟨zs, H2, I2, rz, q2⟩ => ⟨I2.kIn, ?_⟩) hpl) hdb)⟩
  rw [hks]
  exact run_fnk (us := []) (vs := []) F hr hb hx I2 .nil rz q2
def gNoPos {α : Type} (us ws : List α) : List α := if us.isEmpty = true then ws else []
theorem kb_of {K : PySem.W.Frag} {x qual : Str} {st : Stmt} {f : Addr} {fd : FuncData} {ps ks : List Str} (F : Fun K x qual st f fd) (h0 : ps ≠ [])
    (h : ∀ (kV doc pm : Value) (an : Option Addr) (cdv ct : Value) (ws : List Value), ws.length = ps.length → bindArgs (PySem.W.fnOf x qual (defArgs st) (defBody st) (defScope st) .none kV doc pm an cdv ct) ⟨[], ks.zip ws⟩ = pure (ps.zip ws)) : KBinds K fd ps ks gNoPos gNoPos := by
  obtain ⟨oc, od, kV, doc, pm, an, cdv, ct, osl, rfl, lk, hcd⟩ := F.ex
  refine ⟨fun s us ws _ hl => ?_, fun {vs us zs ws} r rz => ?_⟩
  · unfold gNoPos at hl ⊢
    cases us with
    | nil => exact .of_eq (h kV doc pm an cdv ct ws hl)
    | cons u us =>
      cases ps with
      | nil => exact absurd rfl h0
      | cons p ps => simp at hl
  · cases r with
    | nil => exact rz
    | cons _ _ => exact .nil
end Sk

/-! {(..): v}; repr of whatever can be shown. -/
namespace Sk
open PySem PySem.Spec PyProof.Rows L2 Evl
/-- a dict written with one key, a tuple -/
def tDispT (tk tv : TE) : TE := fun σ H Q => ∀ p, H p = none → tk σ (upd H p (.dT [])) fun x H1 => tv σ H1 fun y H2 => H2 p = some (.dT []) ∧ ∃ (b : Addr) (k : List L2.Key), x = .ref b ∧ H2 b = some (.tup (k.map kV)) ∧ Q (.ref p) (upd H2 p (.dT [(k, y)]))
theorem pe_dispT {X : Cx} {kx vx : Expr} {pos : Pos} {tk tv : TE} (hu : X.A.units + 64 < cLine) (hk : PE X kx tk) (hv : PE X vx tv) : PE X (.Dict [some kx] [vx] pos) (tDispT tk tv) := by
  refine ⟨fun pins s σ H Q I q => ?_⟩
  have hn := I.hok.fresh (Nat.le_refl s.heap.objs.size)
  have I1 := I.laid (a := s.heap.objs.size) (o := .dT []) (h' := s.heap.push { cls := .type "dict", data := .dict #[] }) (t' := s.toks) (fun _ _ z => Heap.get?_push_of_some _ z) (Nat.le_refl _) (dt_empty s.heap I.big)
  have q0 := q _ hn
  rw [arm_eval_Dict, zip_pairTrees [some kx] [vx] X.env pos rfl rfl, dictDisplay_pairs _ (by simp [pairTrees]) (by simp [pairTrees])]
  refine wpAny_bind (wpAny_standAt (wpAny_bind (wpAny_subDictH (knd := tupleKind (mixKind X.prog X.w)) (show X.A.units < cLine by omega) (by simp [pairTrees]) ?_)))
  refine pairTrees_cons_walk (thn (hk.run pins _ σ _ _ I1 q0) fun u1 s1 ⟨x, H1, J1, r1, q1⟩ => thn (hv.run pins _ σ _ _ J1 q1) fun u2 s2 ⟨y, H2, J2, r2, q2⟩ => pairTrees_nil_walk ?_)
  obtain ⟨e, b, k, rfl, hb, q3⟩ := q2
  cases (show u1 = Value.ref b from r1)
  obtain ⟨z, hd, xs, r0, dd⟩ := dt_of J2.hok e
  cases r0
  refine ⟨[(k, b, u2)], ⟨rfl, rfl, key_of J2.hok hb, trivial⟩, dd, fun h' t2 dd' hs => wpAny_pure ?_⟩
  obtain ⟨o, es, ep, ho, hx, hdt, he, his, hn2⟩ := dd'
  have nb : b ≠ s.heap.objs.size := fun w => by rw [w, e] at hb; cases hb
  have nw : ObjOk X.prog X.w (upd H2 s.heap.objs.size (.dT [(k, y)])) h' s.heap.objs.size (.dT [(k, y)]) := ⟨Nat.le_trans (show 1 ≤ 16000000 by decide) (by decide), hd, [(k, b, u2)], .cons ⟨rfl, by rw [upd_ne nb]; exact hb, r2⟩ .nil, o, es, ep, ho, hx, hdt, he, hn2⟩
  exact ⟨.ref s.heap.objs.size, _, d_write J2 (by rw [e]; exact True.intro) hs ⟨o, ho⟩ nw, rfl, q3⟩
/-- what repr shows of v, while H is what it is -/
def Rpr (H : Hp) (v : V) (d : PyData) : Prop := ∀ (X : Cx) (pins : List (Addr × Obj)) (σ : L2.St) (s : Shared) (u : Value), Inv X pins σ H s → RelV v u → Rx s.heap u d
theorem Rpr.of {H : Hp} {v : V} {d : PyData} (h : Dq H v d) : Rpr H v d := fun _ _ _ _ _ I r => h.rx I r
theorem Rpr.dT {H : Hp} {a : Addr} {k : List L2.Key} {ks : List PyData} {y : V} {d : PyData} (h : H a = some (.dT [(k, y)])) (hk : DqAll H (k.map kV) ks) (hy : Dq H y d) : Rpr H (.ref a) (.dict [(.tuple ks, d)]) := fun X pins σ s u I r => by
  cases (show u = Value.ref a from r)
  obtain ⟨z, hd, xs, r0, o, es, ep, ho, hx, hdt, he, his, hn⟩ := dt_of I.hok h
  cases r0 with
  | @cons p x ps qs h1 h2 =>
    cases h2
    obtain ⟨x1, x2, x3⟩ := x
    obtain ⟨h1, h3, h4⟩ := h1
    have h1 : k = x1 := h1
    subst h1
    have h3 : H x2 = some (.tup (k.map kV)) := h3
    have kx : Rx s.heap (.ref x2) (.tuple ks) := (Dq.tup h3 hk).rx I rfl
    exact .dict hd ho hx.1 hdt (by rw [he]; exact .cons kx .nil) (by rw [he]; exact .cons (hy.rx I h4) .nil)
theorem call_reprG {X : Cx} (hg : X.A.guards = some []) (hu : X.A.units + 64 < cLine) : CallR X (.builtin "repr") (fun xs H Q => ∃ x d, xs = [x] ∧ Rpr H x d ∧ d.showable = true ∧ d.shown.length ≤ sizeLine ∧ d.depth ≤ 60 ∧ Q (.str d.shown) H) := by
  intro pins s σ H xs us Q I r h
  obtain ⟨x, d, rfl, hd, hs, hz, hl, q⟩ := h
  obtain ⟨u, rfl, ru⟩ := vals1 r
  exact call_repr_rx (hd X pins σ s u I ru) hs hz hg (by omega) fun h' u' tk k => ⟨.str d.shown, H, I.kept k, ⟨_, rfl⟩, q⟩
end Sk

/-! dict(..) of a tuple of no pair, of one pair. -/
namespace Sk
open PySem PySem.Spec PyProof.Rows L2 Evl
/-- a tuple, and no more -/
def Tq (H : Hp) (a : Addr) (xs : List V) : Prop := ∃ o : Obj, o.dict = none ∧ H a = some (.frz o (.tup xs))
theorem one_at {h : Heap} {b : Addr} {u2 u3 k v : Value} {j : Nat} (e : ([(u2, u3)] : List (Value × Value))[j]? = some (k, v)) (p : (#[Value.ref b] : Array Value)[0]? = some (.ref b) ∧ PairAt h b u2 u3) : (#[Value.ref b] : Array Value)[j]? = some (.ref b) ∧ PairAt h b k v := by
  cases j with
  | zero => cases e; exact p
  | succ j => simp at e
theorem one_at2 {knd : L2.Key → Value → Bool} {z : L2.Key} {u2 u3 k v : Value} {j : Nat} (e : ([(u2, u3)] : List (Value × Value))[j]? = some (k, v)) (p : ∃ y, ([(z, u3)] : List (L2.Key × Value))[0]? = some (y, u3) ∧ knd y u2 = true) : ∃ y, ([(z, u3)] : List (L2.Key × Value))[j]? = some (y, v) ∧ knd y k = true := by
  cases j with
  | zero => cases e; exact p
  | succ j => simp at e
theorem call_dictT {X : Cx} (hcalm : X.calm = true) : CallR X (.type "dict") (fun xs H Q => ∃ a, xs = [.ref a] ∧ ((Tq H a [] ∧ ∀ p, H p = none → Q (.ref p) (upd H p (.dK []))) ∨
    ∃ b z y, Tq H a [.ref b] ∧ SqT X.K H b [.str z, y] ∧ ∀ p, H p = none → Q (.ref p) (upd H p (.dK [(.inr z, y)])))) := by
  intro pins s σ H xs us Q I r q
  obtain ⟨a, rfl, q⟩ := q
  obtain ⟨u, rfl, rx⟩ := vals1 r
  cases (show u = Value.ref a from rx)
  have hm : (s.heap.objs.size == sysModules) = false := beq_eq_false_iff_ne.mpr (Nat.ne_of_gt I.big)
  have fin : ∀ {kvs : List (L2.Key × V)} {vs : List (L2.Key × Value)} {h' : Heap} {tk : Nat}, kvs.length ≤ 1 → KV kvs vs → h'.DictOf (mixKind X.prog X.w) s.heap.objs.size vs → (∀ b o, b ∉ ([] : List Addr) → s.heap.get? b = some o → h'.get? b = some o) →
      (∀ p, H p = none → Q (.ref p) (upd H p (.dK kvs))) → EP X pins σ Q (.ref s.heap.objs.size) { s with heap := h', toks := tk } := fun l k d e q =>
    ⟨.ref s.heap.objs.size, _, I.laid (fun b o z => e b o (fun m => nomatch m) z) (Nat.le_refl _) (show ObjOk X.prog X.w _ _ _ (.dK _) from ⟨Nat.le_trans l (by decide), hm, _, k, d⟩), rfl, q _ (I.hok.fresh (Nat.le_refl _))⟩
  rcases q with ⟨ha, q⟩ | ⟨b, z, y, ha, hb, q⟩
  · obtain ⟨o, hd, e0⟩ := ha
    obtain ⟨g, hz, its, rv, o', g', c, n, dt⟩ := (show ObjOk X.prog X.w H s.heap a (.frz o (.tup [])) from I.hok _ _ e0)
    cases rv
    rw [g] at g'
    cases g'
    exact PySem.call_dict_pairs (knd := mixKind X.prog X.w) (kvs := []) (PairArg.tuple a #[] (fun _ => a) []) (I.ok.hd hcalm) ⟨⟨o, n, g, c, hd, dt⟩, rfl, fun j k v e => by cases j <;> cases e⟩ ⟨rfl, fun i k v e => by cases i <;> cases e⟩ (Nat.zero_le _) fun h' tk d e => fin (Nat.zero_le _) .nil d e q
  · obtain ⟨o, hd, e0⟩ := ha
    obtain ⟨g, hz, its, rv, o', g', c, n, dt⟩ := (show ObjOk X.prog X.w H s.heap a (.frz o (.tup [.ref b])) from I.hok _ _ e0)
    obtain ⟨ib, rb, pb, hzb⟩ := I.tuple hb
    obtain ⟨u1, rfl, h1⟩ := vals1 rv
    obtain ⟨u2, u3, rfl, h2, h3⟩ := vals2 rb
    cases (show u1 = Value.ref b from h1)
    rw [g] at g'
    cases g'
    exact PySem.call_dict_pairs (knd := mixKind X.prog X.w) (kvs := [(.inr z, u3)]) (PairArg.tuple a #[.ref b] (fun _ => b) [(u2, u3)]) (I.ok.hd hcalm) ⟨⟨o, n, g, c, hd, dt⟩, rfl, fun j k v e => one_at e ⟨rfl, .inl pb⟩⟩ ⟨rfl, fun i k v e => one_at2 e ⟨.inr z, rfl, kV_is (k := .inr z) h2⟩⟩ (Nat.le_trans (show 1 ≤ 16000000 by decide) (by decide)) fun h' tk d e => fin (Nat.le_refl _) (.cons ⟨rfl, h3⟩ .nil) d e q
end Sk

/-! Sets of texts: set(xs), sorted(set), len(set). -/
namespace Sk
open PySem PySem.Spec PyProof.Rows L2 Evl
abbrev tk_ (P : Program) (w : World) : PySem.KeyKind P w Str := PySem.strKind P w
def nmE (e : Int × Value) : Str := strOf e.2
def TxE (P : Program) (w : World) (e : Int × Value) : Prop := ∃ x t, e.2 = Value.str x t ∧ e.1 = (tk_ P w).hash x
/-- a set of texts at a: its members are those of M -/
def TxSet (P : Program) (w : World) (M : List Str) (a : Addr) (h : Heap) : Prop :=
  ∃ ob es ep tb, h.get? a = some ob ∧ ob.ExactSet ∧ ob.data = .set es ep tb ∧ (∀ e ∈ es.toList, TxE P w e) ∧ (es.toList.map nmE).Nodup ∧ (∀ x, x ∈ es.toList.map nmE ↔ x ∈ M) ∧ es.size ≤ M.length ∧
    M.length < scanBound ∧ tb.fits es.size = true ∧ Ris tb.place.toList ∧ (w.params.followText "set-order" = true ∨ tb.led = true)
section
variable {P : Program} {w : World} {A : Around} {E : Value → Shared → Prop} {s : Shared} {a : Addr} {M : List Str}
theorem TxSet.on {h h' : Heap} (R : TxSet P w M a h) (k : ∀ o, h.get? a = some o → h'.get? a = some o) : TxSet P w M a h' := by
  obtain ⟨ob, es, ep, tb, h0, r⟩ := R
  exact ⟨ob, es, ep, tb, k ob h0, r⟩
theorem txE_is {e : Int × Value} (g : TxE P w e) (x : Str) : (tk_ P w).is x e.2 = true ↔ nmE e = x := by
  obtain ⟨y, t, q, _⟩ := g
  unfold nmE
  rw [q]
  have z := (tk_ P w).strs y y t (.str x t) (strKind_is P w y t)
  constructor
  · intro h
    exact (tk_ P w).inj _ _ _ (strKind_is P w y t) h
  · intro h
    have h' : y = x := h
    subst h'
    exact strKind_is P w y t
theorem txE_el {l : List (Int × Value)} (g : ∀ e ∈ l, TxE P w e) : ElemsOf (tk_ P w) l := fun e he => by
  obtain ⟨x, t, q, q2⟩ := g e he
  refine ⟨⟨x, ?_, q2⟩, ?_⟩
  · rw [q]; exact strKind_is P w x t
  · rw [q]; rfl
/-- what stands behind the table's writing -/
theorem tx_end {dm : Bool → Sem Unit} (hdm : ∀ (b : Bool) (s1 : Shared) (Z : Unit → Shared → Prop), Z () s1 → wpAny (model P w) A (dm b) Z E s1) {ob : Obj} {es es1 : Array (Int × Value)} {ep : Nat} {tb tb2 : SetTable}
    (h0 : s.heap.get? a = some ob) (hx : ob.ExactSet) (hd : ob.data = .set es ep tb) (g1 : ∀ e ∈ es1.toList, TxE P w e) (nd1 : (es1.toList.map nmE).Nodup) (m1 : ∀ x, x ∈ es1.toList.map nmE ↔ x ∈ M) (z1 : es1.size ≤ M.length)
    (zb : M.length < scanBound) (f2 : tb2.fits es1.size = true) (r2 : Ris tb2.place.toList) (l2 : w.params.followText "set-order" = true ∨ tb2.led = true) {wd : Bool} {R : Option Bool → Shared → Prop}
    (hR : ∀ h', Heap.SameBut a s.heap h' → TxSet P w M a h' → R (some true) { s with heap := h' }) :
    wpAny (model P w) A (do storeSet a es1 tb2
                            if (!wd && tb2.tooFull) = true then do
                                dm (relayAll tb2 es1 (SetTable.grown es1.size)).2.2
                                storeSet a (relayAll tb2 es1 (SetTable.grown es1.size)).1 (relayAll tb2 es1 (SetTable.grown es1.size)).2.1
                                pure (some true)
                              else pure (some true)) R E s := by
  have b1 : es1.size < scanBound := Nat.lt_of_le_of_lt z1 zb
  have at1 := store_at (es' := es1) (t' := tb2) h0 hd
  have same1 := Heap.SameBut.update s.heap a (Obj.putSet es1 tb2)
  refine wpAny_bind (wpAny_storeSet_of h0 hd ?_ (fits_of_scanBound b1))
  split
  · have pm := relayAll_perm tb2 es1 (SetTable.grown es1.size)
    have f3 := relayAll_fits tb2 es1 (SetTable.grown es1.size)
    have r3 := relayAll_ris tb2 es1 (SetTable.grown es1.size)
    have l3 := relayAll_led tb2 es1 (SetTable.grown es1.size)
    generalize relayAll tb2 es1 (SetTable.grown es1.size) = Y at pm f3 r3 l3 ⊢
    obtain ⟨es2, tb3, gv⟩ := Y
    dsimp only at pm f3 r3 l3 ⊢
    have sz : es2.size = es1.size := by simpa using pm.length_eq
    refine wpAny_bind (hdm _ _ _ (wpAny_bind (wpAny_storeSet_of at1 rfl ?_ (fits_of_scanBound (by omega)))))
    have at2 := store_at (es' := es2) (t' := tb3) at1 rfl
    refine wpAny_pure (hR _ (same1.trans (Heap.SameBut.update _ a _)) ⟨_, es2, _, tb3, at2, hx, rfl, fun e he => g1 e (pm.mem_iff.mp he), ?_, fun x => ?_, by omega, zb, f3, r3, ?_⟩)
    · exact (pm.map nmE).nodup_iff.mpr nd1
    · exact ((pm.map nmE).mem_iff).trans (m1 x)
    · exact l2.imp id fun z => l3.trans z
  · exact wpAny_pure (hR _ same1 ⟨_, es1, _, tb2, at1, hx, rfl, g1, nd1, m1, z1, zb, f2, r2, l2⟩)
theorem tx_add {x : Str} {t : Tok} {Q : Bool → Shared → Prop} (R : TxSet P w M a s.heap) (room : M.length + 1 < scanBound)
    (hQ : ∀ b h', Heap.SameBut a s.heap h' → TxSet P w (M ++ [x]) a h' → Q b { s with heap := h' }) : wpAny (model P w) A (setAddHashed a (.str x t) ((tk_ P w).hash x)) Q E s := by
  obtain ⟨ob, es, ep, tb, h0, hx, hd, g, nd, hm, hz, hb, hf, hr, hl⟩ := R
  have isx : (tk_ P w).is x (.str x t) = true := strKind_is P w x t
  have scn : (Value.str x t).scannable = true := rfl
  have elm := txE_el g
  have lenM : (M ++ [x]).length = M.length + 1 := by simp
  have esb : es.size < scanBound := Nat.lt_of_le_of_lt hz hb
  unfold setAddHashed setAddHashedIn
  refine wpAny_holding (wpAny_bind (wpAny_setState_of h0 hd hf ?_))
  dsimp only
  rw [byScan_of scn esb elm]
  simp only [↓reduceIte]
  unfold setAddByScan
  refine wpAny_bind (wpAny_bind (wpAny_rule (wpAny_bind (wpAny_setScan_of isx h0 hd hf elm ?_))))
  cases hfi : List.findIdx? (fun e => (tk_ P w).is x e.2) es.toList with
  | some j =>
    dsimp only
    obtain ⟨hj, pj, _⟩ := List.findIdx?_eq_some_iff_getElem.mp hfi
    have xin : x ∈ M := (hm x).mp (List.mem_map.mpr ⟨es.toList[j], List.getElem_mem hj, (txE_is (g _ (List.getElem_mem hj)) x).mp pj⟩)
    refine wpAny_pure (wpAny_pure (hQ _ s.heap (Heap.SameBut.refl a s.heap) ⟨ob, es, ep, tb, h0, hx, hd, g, nd, fun y => ?_, by omega, by omega, hf, hr, hl⟩))
    rw [hm y, List.mem_append, List.mem_singleton]
    exact ⟨.inl, fun z => z.elim id fun e => e ▸ xin⟩
  | none =>
    dsimp only
    have xout : x ∉ es.toList.map nmE := fun z => by
      obtain ⟨e, he, q⟩ := List.mem_map.mp z
      have c := List.findIdx?_eq_none_iff.mp hfi e he
      rw [(txE_is (g e he) x).mpr q] at c
      cases c
    have gave : ∀ (b : Bool) {s1 : Shared} {Z : Unit → Shared → Prop}, Z () s1 → wpAny (model P w) A (match b with | true => rule "set.scan.the-table-gave-way" | false => pure ()) Z E s1 :=
      fun b s1 Z q => by cases b <;> first | exact wpAny_pure q | exact wpAny_rule q
    have pm := layNew_perm tb es ((tk_ P w).hash x) (.str x t)
    have f1 := layNew_fits tb es ((tk_ P w).hash x) (.str x t)
    have r1 := layNew_ris tb es ((tk_ P w).hash x) (.str x t) hr
    have l1 := layNew_led tb es ((tk_ P w).hash x) (.str x t)
    generalize layNew tb es ((tk_ P w).hash x) (.str x t) = Y at pm f1 r1 l1 ⊢
    obtain ⟨es1, tb1, wd, gv⟩ := Y
    dsimp only at pm f1 r1 l1 ⊢
    rw [Array.toList_push] at pm
    have pc : es1.toList.Perm (((tk_ P w).hash x, Value.str x t) :: es.toList) := pm.trans (List.perm_append_singleton _ _)
    have pk : (es1.toList.map nmE).Perm (x :: es.toList.map nmE) := pc.map nmE
    have g1 : ∀ e ∈ es1.toList, TxE P w e := fun e he => by
      rcases List.mem_cons.mp (pc.mem_iff.mp he) with z | z
      · subst z; exact ⟨x, t, rfl, rfl⟩
      · exact g e z
    have nd1 : (es1.toList.map nmE).Nodup := pk.nodup_iff.mpr (List.nodup_cons.mpr ⟨xout, nd⟩)
    have m1 : ∀ y, y ∈ es1.toList.map nmE ↔ y ∈ M ++ [x] := fun y => by
      rw [pk.mem_iff, List.mem_cons, hm y, List.mem_append, List.mem_singleton]
      exact Or.comm
    have z1 : es1.size ≤ (M ++ [x]).length := by
      have e1 : es1.size = es.size + 1 := by simpa using pc.length_eq
      omega
    have l1' : w.params.followText "set-order" = true ∨ tb1.led = true := hl.imp id fun z => l1.trans z
    have zb : (M ++ [x]).length < scanBound := by omega
    refine wpAny_bind (gave _ ?_)
    split
    · refine wpAny_bind ?_
      rw [hashByValue_scannable 8 scn]
      refine wpAny_pure (tx_end (fun b s1 Z q => by cases b <;> first | exact wpAny_pure q | exact wpAny_rule q) h0 hx hd g1 nd1 m1 z1 zb ?_ ?_ ?_ fun h' sb r => ?_)
      · first | (split <;> first | exact f1 | exact SetTable.fits_plain_off f1) | exact f1
      · first | (split <;> exact r1) | exact r1
      · first | (split <;> exact l1') | exact l1'
      · dsimp only
        exact wpAny_pure (hQ _ h' sb r)
    · refine wpAny_bind (wpAny_pure ?_)
      simp only [↓reduceIte]
      refine tx_end (fun b s1 Z q => by cases b <;> first | exact wpAny_pure q | exact wpAny_rule q) h0 hx hd g1 nd1 m1 z1 zb f1 r1 l1' fun h' sb r => ?_
      dsimp only
      exact wpAny_pure (hQ _ h' sb r)
theorem tx_new {h : Heap} (h0 : h.get? a = some { cls := .type "set", dict := none, data := .set #[] 0 (.fresh 0 0 (!w.params.followText "set-order")) }) : TxSet P w [] a h := by
  refine ⟨_, #[], 0, _, h0, ⟨rfl, rfl, rfl⟩, rfl, (fun _ m => absurd m (by simp)), by simp, (fun x => by simp), Nat.le_refl _, by decide, rfl, List.Pairwise.nil, ?_⟩
  cases q : w.params.followText "set-order" with
  | true => exact .inl rfl
  | false => exact .inr rfl
/-- the members come one by one -/
theorem tx_loop {I : Addr} {fp wr : List Addr} {G : Array GenState → Array GenState → Prop} {n : Nat} {Pv : Nat → Value → Prop} {St : Nat → Shared → Prop} {R : Result → Shared → Prop} (W : WalksS P w A.in1 I fp wr G n Pv St) (S : Addr) (out : S ∉ fp)
    (xs : List Str) (len : n = xs.length) (room : xs.length + 1 < scanBound) (vals : ∀ i v, Pv i v → ∃ x t, xs[i]? = some x ∧ v = .str x t) : ∀ (m i : Nat) (s : Shared), n - i = m → i ≤ n → St i s → TxSet P w (xs.take i) S s.heap →
      (∀ s', Moved (S :: wr) G s s' → TxSet P w xs S s'.heap → R (.ok (.ret .none)) s') → codeAny (model P w) A (.builtin "set.update.loop" ⟨[.ref S, .ref I], []⟩) R s := by
  have outw : S ∉ wr := fun z => out (W.sub _ z)
  have more : ∀ b ∈ wr, b ∈ S :: wr := fun b z => List.mem_cons_of_mem _ z
  intro m
  induction m with
  | zero =>
    intro i s e0 le st hS hR
    refine codeAny_builtin F.entry_set_update_loop ?_
    rw [Around.under_plainId F.plain_set_update_loop _]
    have ei : i = n := by omega
    subst ei
    rw [List.take_of_length_le (Nat.le_of_eq len.symm)] at hS
    show wpAny _ A.in1 (pyNext (.ref I) >>= _) _ _ s
    refine wpAny_bind (W.done s _ _ st fun s' mv => ?_)
    show wpAny _ A.in1 (ret Value.none) _ _ s'
    exact wpAny_pure (hR s' (mv.mono more) (hS.on fun o e => mv.heap S o outw e))
  | succ m ih =>
    intro i s e0 le st hS hR
    have lt : i < n := by omega
    refine codeAny_builtin F.entry_set_update_loop ?_
    rw [Around.under_plainId F.plain_set_update_loop _]
    show wpAny _ A.in1 (pyNext (.ref I) >>= _) _ _ s
    refine wpAny_bind (W.item i s _ _ lt st fun v s' hv st' mv => ?_)
    obtain ⟨x, t, hx, rfl⟩ := vals i v hv
    have hS' : TxSet P w (xs.take i) S s'.heap := hS.on fun o e => mv.heap S o outw e
    show wpAny _ A.in1 (holding [Value.str x t] (setAdd S (.str x t)) >>= _) _ _ s'
    refine wpAny_bind (wpAny_holding ?_)
    unfold setAdd
    refine wpAny_holding (wpAny_bind ((tk_ P w).pyHash (k := x) (strKind_is _ _ _ _) ?_))
    refine tx_add (s := { s' with toks := s'.toks + 1 }) hS' (by rw [List.length_take]; omega) fun b h' sb hS2 => ?_
    rw [← take_snoc hx] at hS2
    refine wpAny_pure ⟨plainId_quiet F.plain_set_update_loop _, ih (i + 1) _ (by omega) lt (W.frame _ s' _ _ st' (Nat.le_succ _) fun c hc o e => ?_) hS2 fun s2 mv2 hS3 => hR s2 (Moved.trans W.gtrans ((mv.mono more).then_heap (Nat.le_succ _) fun c o hc e => ?_) mv2) hS3⟩
    · exact (sb.2 c fun z : c = S => out (z ▸ hc)).trans e
    · exact (sb.2 c fun z : c = S => hc (z ▸ List.mem_cons_self)).trans e
set_option maxHeartbeats 3200000 in
/-- set(xs), a list of texts -/
theorem tx_call {l : Addr} {its : Array Value} (xs : List Str) {Q : Value → Shared → Prop} (calm : A.handled = none) (hl : s.heap.IsList l its) (hi : StrsAre its.toList xs) (room : xs.length + 1 < scanBound)
    (hQ : ∀ (h' : Heap) (k : Nat), TxSet P w xs s.heap.objs.size h' → (∀ b o, s.heap.get? b = some o → h'.get? b = some o) → Q (.ref s.heap.objs.size) { s with heap := h', toks := k }) : wpAny (model P w) A (call (.type "set") [.ref l]) Q E s := by
  have zi : its.size = xs.length := by simpa using hi.len_eq
  have ⟨c, tl, hmro⟩ := F.called_set.mro
  have hmade := F.called_set.made
  have hsub := F.called_set.sub
  refine wpAny_call (codeAny_of_tree ?_)
  show wpAny _ _ (callAny (.type "set") _) _ _ _
  refine wpAny_pure ⟨Code.quiet_builtin _ (by decide +kernel), codeAny_builtin F.entry_type_call ?_⟩
  rw [Around.under_plain (weight_type_call_type "set" [.ref l] []) rfl]
  have u1 := F.called_set.notType
  have u2 := F.called_set.canCreate
  have u3 := F.typeCall_set_1 (.ref l)
  repeat (any_goals (first | assumption | wp_step))
  refine codeAny_mono (code_set_led1 (.ref l) (E := E) (Q₁ := fun v s1 => v = .ref s.heap.objs.size ∧ s1 = { s with heap := s.heap.push { cls := .type "set", dict := none, data := .set #[] 0 (.fresh 0 0 (!w.params.followText "set-order")) } }) ⟨rfl, rfl⟩) fun r s1 hr => ?_
  rcases r with er | fl
  · exact hr
  cases fl with
  | ret v =>
    obtain ⟨rfl, rfl⟩ := hr
    have hS : (s.heap.push { cls := .type "set", dict := none, data := .set #[] 0 (.fresh 0 0 (!w.params.followText "set-order")) }).get? s.heap.objs.size = some { cls := .type "set", dict := none, data := .set #[] 0 (.fresh 0 0 (!w.params.followText "set-order")) } := Heap.get?_push_size _ rfl
    have hT : Shared.TypeIs { s with heap := s.heap.push { cls := .type "set", dict := none, data := .set #[] 0 (.fresh 0 0 (!w.params.followText "set-order")) } } (.ref s.heap.objs.size) "set" := ⟨_, hS, rfl⟩
    have u4 := F.called_set.init.lookup
    have u5 := F.called_set.init.bind (.ref s.heap.objs.size)
    repeat (any_goals (first | assumption | wp_step))
    refine codeAny_mono (codeAny_call_builtin (R := wants (fun r s2 => r = .none ∧ ∃ h' k, s2 = { s with heap := h', toks := k } ∧ TxSet P w xs s.heap.objs.size h' ∧ (∀ b o, s.heap.get? b = some o → h'.get? b = some o)) E)
      F.called_set.init.plain F.entry_set_init (check_set_init_1 hT ?_)) fun r2 s2 hr2 => ?_
    · obtain ⟨ol, hol, hcl, nl, hdl⟩ := hl
      obtain ⟨ocls, odict, odata, oslots⟩ := ol
      simp only at hcl hdl
      subst hcl
      subst hdl
      have hol2 : (s.heap.push { cls := .type "set", dict := none, data := .set #[] 0 (.fresh 0 0 (!w.params.followText "set-order")) }).get? l = some { cls := .type "list", dict := odict, data := .seq its nl, slots := oslots } := Heap.get?_push_of_some _ hol
      have u6 := F.sub_list_set
      have u7 := F.sub_list_frozenset
      have u8 : (Value.type "list" == Value.type "dict") = false := by decide
      have il : (s.heap.push { cls := .type "set", dict := none, data := .set #[] 0 (.fresh 0 0 (!w.params.followText "set-order")) }).IsList l its := ⟨_, hol2, rfl, nl, rfl⟩
      unfold Builtin.«set.__init__» noKeywords Builtin.Frozenset.updateFrom
      generalize hPI : pyIter = PI
      wp_walk
      subst hPI
      refine wpAny_pyIter_list il (wpAny_bind (wpAny_runValue ?_))
      have ltl : l < s.heap.objs.size := Heap.lt_size hol
      have calm3 : A.in1.in1.in1.handled = none := by simp [calm]
      have zp : (s.heap.push { cls := .type "set", dict := none, data := .set #[] 0 (.fresh 0 0 (!w.params.followText "set-order")) }).objs.size = s.heap.objs.size + 1 := Heap.size_push ..
      have neI : l ≠ (s.heap.push { cls := .type "set", dict := none, data := .set #[] 0 (.fresh 0 0 (!w.params.followText "set-order")) }).objs.size := by
        rw [zp]; exact Nat.ne_of_lt (Nat.lt_succ_of_lt ltl)
      have outS : s.heap.objs.size ∉ [(s.heap.push { cls := .type "set", dict := none, data := .set #[] 0 (.fresh 0 0 (!w.params.followText "set-order")) }).objs.size, l] := fun z => by
        rw [zp] at z
        rcases List.mem_cons.mp z with z | z
        · exact absurd z (Nat.ne_of_lt (Nat.lt_succ_self _))
        · exact absurd (List.mem_singleton.mp z) (Nat.ne_of_gt ltl)
      have vals : ∀ (i : Nat) (v : Value), its[i]? = some v → ∃ x t, xs[i]? = some x ∧ v = .str x t := fun i v hv => by
        obtain ⟨y, t, q1, q2⟩ := StrsAre.item hi i v (by rw [Array.getElem?_toList]; exact hv)
        exact ⟨y, t, q2, q1⟩
      refine tx_loop ((Walks.list calm3 _ l neI its).toS) s.heap.objs.size outS xs zi room vals (its.size - 0) 0 _ (by omega) (Nat.zero_le _) ⟨⟨_, Heap.get?_push_size _ rfl, rfl, rfl⟩, (il.push _)⟩ ?hS0 ?hR
      case hS0 => exact tx_new (Heap.get?_push_of_some _ hS)
      case hR =>
        intro s' mv hS'
        obtain ⟨h', g', d', k', os'⟩ := s'
        have e1 : g' = s.gens := mv.gens
        have e2 : d' = s.drawn := mv.drawn
        have e3 : os' = s.os := mv.os
        subst e1
        subst e2
        subst e3
        show wpAny _ _ _ _ _ _
        refine wpAny_pure ?_
        show wpAny _ _ (ret Value.none) _ _ _
        refine wpAny_pure ⟨rfl, h', k', rfl, hS', fun b o e => ?_⟩
        have b0 : b < s.heap.objs.size := Heap.lt_size e
        refine mv.heap b o (fun z => ?_) (Heap.get?_push_of_some _ (Heap.get?_push_of_some _ e))
        rcases List.mem_cons.mp z with z | z
        · exact absurd z (Nat.ne_of_lt b0)
        · exact absurd (List.mem_singleton.mp z) (by rw [zp]; exact Nat.ne_of_lt (Nat.lt_succ_of_lt b0))
    · rcases r2 with er | fl2
      · exact hr2
      cases fl2 with
      | ret r =>
        obtain ⟨rfl, h', k, rfl, q1, q2⟩ := hr2
        repeat (any_goals (first | assumption | wp_step))
        exact hQ _ _ q1 q2
      | _ => exact hr2.elim
  | _ => exact hr.elim
/-- sorted(found), a set of texts -/
theorem tx_sorted {Q : Value → Shared → Prop} (R : TxSet P w M a s.heap) (calm : A.handled = none) (few : ∃ L : List Str, L.length < 64 ∧ ∀ x ∈ M, x ∈ L)
    (hQ : ∀ s' p (out : Array Value) (c : Nat) (ys : List Str), (∀ b o, s.heap.get? b = some o → s'.heap.get? b = some o) → s'.gens = s.gens → s'.os = s.os → s.heap.objs.size ≤ p → s'.heap.get? p = some (seqObj "list" out c) →
      StrsAre out.toList ys → ys.Nodup → sortedS ys = true → (∀ x, x ∈ ys ↔ x ∈ M) → ys.length ≤ M.length → Q (.ref p) s') : wpAny (model P w) A (call (.builtin "sorted") [.ref a]) Q E s := by
  obtain ⟨ob, es, ep, tb, h0, hx, hd, g, nd, hm, hz, hb, hf, hr, hl⟩ := R
  have esb : es.size < scanBound := Nat.lt_of_le_of_lt hz hb
  have es64 : es.size < 64 := by
    obtain ⟨L, l1, l2⟩ := few
    have z := length_le_of_nodup_of_subset (es.toList.map nmE) L nd fun x m => l2 x ((hm x).mp m)
    rw [List.length_map, Array.length_toList] at z
    omega
  refine Calls.call_function_entry kind_sorted plain_sorted entry_sorted (args_sorted1 _) ?_
  unfold Builtin.«sorted»
  refine wpAny_bind (m := checkCount "sorted" 1 1 _) (wpAny_pure (wpAny_bind (collect_set (A := A.in1) calm ⟨ob, h0, hx.1, hd⟩ hf esb hr hl fun s1 vs k1 z1 g1 o1 pm => ?_)))
  have len : vs.length = es.size := by simpa using pm.length_eq
  have hS : StrsAre vs (vs.map strOf) := by
    have key : ∀ us : List Value, (∀ v ∈ us, ∃ x t, v = Value.str x t) → StrsAre us (us.map strOf) := by
      intro us
      induction us with
      | nil => exact fun _ => .nil
      | cons u us ih =>
        intro q
        obtain ⟨x, t, rfl⟩ := q u List.mem_cons_self
        exact .cons x t (ih fun v m => q v (List.mem_cons_of_mem _ m))
    refine key vs fun v hv => ?_
    obtain ⟨e, he, q⟩ := List.mem_map.mp (pm.mem_iff.mp hv)
    obtain ⟨x, t, q2, _⟩ := g e he
    exact ⟨x, t, q ▸ q2⟩
  have pk : (vs.map strOf).Perm (es.toList.map nmE) := by
    have q := pm.map strOf
    rw [List.map_map] at q
    exact q
  refine wpAny_bind (wpAny_newList ?_ (by rw [len, sizeLine_eq]; omega))
  have hoL : (s1.heap.push (seqObj "list" vs.toArray 0)).get? s1.heap.objs.size = some (seqObj "list" vs.toArray 0) := Heap.get?_push_size _ rfl
  refine wpAny_bind (wpAny_holding (wpAny_call_entry slot_list_sort ⟨_, hoL, rfl⟩ entry_list_sort
    (list_sort_treeK strKind_oneLt hoL hS.keysOf (fun v1 v2 rest e => keyKind_strs (by rw [← e]; exact hS)) (by omega) fun st' hp hs => ⟨_, rfl, ?_⟩) (args_list_sort _)))
  obtain ⟨ys, y1, y2, y3⟩ := sorted_out_str hS hp hs
  obtain ⟨c, hc⟩ := sortedHeap_at (vs := vs) (out := (arrOf st').map (·.2)) hoL
  have pn : ys.Perm (es.toList.map nmE) := y2.trans pk
  refine wpAny_pure ⟨_, rfl, hQ _ s1.heap.objs.size _ c ys (fun b u e => ?_) g1 o1 z1 hc y1 (pn.nodup_iff.mpr nd) y3 (fun x => by rw [pn.mem_iff, hm x]) (by have := pn.length_eq; simp at this; omega)⟩
  have lt := Heap.lt_size (k1 b u e)
  exact (sortedHeap_old (Nat.ne_of_lt lt) (by rw [size_push']; exact Nat.lt_succ_of_lt lt)).trans (Heap.get?_push_of_some _ (k1 b u e))
end
end Sk

/-! The operators that an own class says: +, ~, len, ==, !=. -/
namespace Sk
open PySem PySem.Spec PyProof.Rows L2 Evl
section
variable {X : Cx} {pins : List (Addr × Obj)} {σ : L2.St} {H : Hp} {s : Shared} {CX : CXT} {n : Nat} {C g : Addr} {sp : Sp} {E : XK}
/-- an instance as the heap has it -/
theorem ins_at {a dx : Addr} {fs : List (Str × V)} (I : Inv X pins σ H s) (h : H a = some (.ins C dx fs)) : ∃ ox od, PySem.W.InstAt s.heap a ox C od := by
  obtain ⟨mA, O, _⟩ := ins_get I.hok h
  obtain ⟨od, J, _⟩ := O.look
  exact ⟨_, _, J⟩
/-- x op y, both of one class -/
def rBinI (C : Addr) (sp : Sp) (E : XK) : R2 := fun x y H Q => ∃ a b dx dy fs gs, x = .ref a ∧ y = .ref b ∧ H a = some (.ins C dx fs) ∧ H b = some (.ins C dy gs) ∧ sp [x, y] H Q E
theorem op_binI {op : Operator} (hc : PySem.W.selfFirst X.K C = true) (hs : PySem.W.findIn X.K (.ref C) (PySem.dunder op.info.2) = some (some (.ref g))) (hf : PySem.W.isFn X.K (.ref g) = true) (F : FnR X.prog X.w X.K X.mg X.base CX n g sp)
    (hr : Room n X.A) (hx : Passes CX X E) : OpR X (binaryOp op) (rBinI C sp E) := by
  intro pins s σ H x y v u Q I rx ry h
  obtain ⟨a, b, dx, dy, fs, gs, rfl, rfl, ha, hb, q⟩ := h
  cases (show v = Value.ref a from rx)
  cases (show u = Value.ref b from ry)
  obtain ⟨ox, od, J⟩ := ins_at I ha
  obtain ⟨oy, od', J'⟩ := ins_at I hb
  obtain ⟨m, hF⟩ := I.fr
  refine PySem.W.binop_K hF I.ok.mod.kin J J'.type hc hs hf ?_
  refine wpAny_mono (wpAny_call (run_fnR (us := [.ref a, .ref b]) (vs := [.ref a, .ref b]) F hr hx I (.cons rfl (.cons rfl .nil)) q)) (fun w s' z => ?_) fun _ _ x => x
  obtain ⟨z', H', I', rz, qz⟩ := z
  exact SlX.cmpback rz ⟨z', H', I', rz, qz⟩
/-- x == y (and the other comparisons), both of one class -/
theorem op_cmpI {op : CmpOp} (hop : ∀ a b, compareOp op a b = richCompare op a b) (hs : PySem.W.findIn X.K (.ref C) (cmpInfo op).2.1 = some (some (.ref g))) (hf : PySem.W.isFn X.K (.ref g) = true) (F : FnR X.prog X.w X.K X.mg X.base CX n g sp)
    (hr : Room n X.A) (hx : Passes CX X E) : OpR X (compareOp op) (rBinI C sp E) := by
  intro pins s σ H x y v u Q I rx ry h
  obtain ⟨a, b, dx, dy, fs, gs, rfl, rfl, ha, hb, q⟩ := h
  cases (show v = Value.ref a from rx)
  cases (show u = Value.ref b from ry)
  obtain ⟨ox, od, J⟩ := ins_at I ha
  obtain ⟨oy, od', J'⟩ := ins_at I hb
  obtain ⟨m, hF⟩ := I.fr
  rw [hop]
  refine PySem.W.cmp_K (op := op) (tb := .ref C) hr.units0 hF I.ok.mod.kin J J'.type (by simp [PySem.W.notFirst]) hs hf ?_
  refine wpAny_mono (wpAny_call (run_fnR (us := [.ref a, .ref b]) (vs := [.ref a, .ref b]) F hr hx I (.cons rfl (.cons rfl .nil)) q)) (fun w s' z => ?_) fun _ _ x => x
  obtain ⟨z', H', I', rz, qz⟩ := z
  exact SlX.cmpback rz ⟨z', H', I', rz, qz⟩
/-- ~x -/
def rUnI (C : Addr) (sp : Sp) (E : XK) : V → Hp → VK → Prop := fun x H Q => ∃ a dx fs, x = .ref a ∧ H a = some (.ins C dx fs) ∧ sp [x] H Q E
theorem un_invI (hs : PySem.W.findIn X.K (.ref C) "__invert__" = some (some (.ref g))) (hf : PySem.W.isFn X.K (.ref g) = true) (F : FnR X.prog X.w X.K X.mg X.base CX n g sp)
    (hr : Room n X.A) (hx : Passes CX X E) : UnR X (unaryOp .Invert) (rUnI C sp E) := by
  intro pins s σ H x v Q I rx h
  obtain ⟨a, dx, fs, rfl, ha, q⟩ := h
  cases (show v = Value.ref a from rx)
  obtain ⟨ox, od, J⟩ := ins_at I ha
  obtain ⟨m, hF⟩ := I.fr
  refine PySem.W.ksp_inv hF I.ok.mod.kin J hs hf ?_
  exact wpAny_call (run_fnR (us := [.ref a]) (vs := [.ref a]) F hr hx I (.cons rfl .nil) q)
/-- len(x) -/
theorem call_lenI (hs : PySem.W.findIn X.K (.ref C) "__len__" = some (some (.ref g))) (hf : PySem.W.isFn X.K (.ref g) = true) (F : FnR X.prog X.w X.K X.mg X.base CX n g sp)
    (hr : Room (n + 1) X.A) (hx : Passes CX X E) : CallR X (.builtin "len") (fun xs H Q => ∃ a dx fs, xs = [.ref a] ∧ H a = some (.ins C dx fs) ∧ sp [.ref a] H (fun z H' => ∃ k : Int, z = .int k ∧ 0 ≤ k ∧ k < 2 ^ 63 ∧ Q (.int k) H') E) := by
  intro pins s σ H xs us Q I r h
  obtain ⟨a, dx, fs, rfl, ha, q⟩ := h
  obtain ⟨u1, rfl, rx⟩ := vals1 r
  cases (show u1 = Value.ref a from rx)
  obtain ⟨ox, od, J⟩ := ins_at I ha
  obtain ⟨m, hF⟩ := I.fr
  refine PySem.W.len_K hF I.ok.mod.kin J hs hf ?_
  refine wpAny_mono (wpAny_call (SlX.run_at (us := [.ref a]) (ws := [.ref a]) F hr.in1 I.env0.in1 hx I (.cons rfl .nil) q)) (fun w s' z => ?_) fun _ _ x => x
  obtain ⟨z', H', I', rz, k, ez, h0, h1, qz⟩ := z
  subst ez
  obtain ⟨t, e⟩ := (show ∃ t, w = Value.int k t from rz)
  cases e
  exact ⟨⟨h0, h1⟩, .int k, H', I'.tok _, ⟨_, rfl⟩, qz⟩
end
section
variable {prog : Program} {w : World} {A : Around} {E : Value → Shared → Prop} {s : Shared} {K : PySem.W.Frag} {x C L f : Addr} {h₀ : Heap} {m : Str → Option Value} {ox : Obj} {od : Option Obj} {b : Value}
/-- object.__ne__ over an own __eq__ -/
theorem ne_call {Q : Value → Shared → Prop} (hu : A.in1.units < cLine) (X : K.In s.heap) (I : PySem.W.InstAt s.heap x ox C od) (hm : PySem.W.mroIn K C (.type "object") = some true) (hs : PySem.W.findIn K (.ref C) "__eq__" = some (some (.ref f))) (hf : PySem.W.isFn K (.ref f) = true)
    (h : wpAny (model prog w) A.in1 (call (.ref f) [.ref x, b]) (fun v s' => ∃ k, v = .bool k ∧ Q (.bool (!k)) s') E s) : wpAny (model prog w) A (call (.builtin "object.__ne__") [.ref x, b]) Q E s := by
  refine wpAny_call (codeAny_call_builtin F.cmp_object.ne.plain F.cmpEntry_ne (PySem.W.check_slot F.cmpKind_ne F.cmpSplit_ne (I.type.andThen (PySem.W.looks_mroIn X hm)) (F.cmpArgs_ne _ _) ?_))
  unfold Builtin.«object.__ne__»
  repeat (first
    | with_reducible refine wpAny_cRoomFor hu ?_
    | (refine wpAny_bind (m := callSpecialIfBound? (.ref x) (Str.ofString "__eq__") [b])
        (PySem.W.ifBound_K X I hs hf (wpAny_mono h (fun r s' hr => by
          obtain ⟨k, rfl, hq⟩ := hr
          repeat (first | exact hq | exact wpAny_pure hq | exact wpAny_truthy_bool hq | (refine wpAny_bind (m := truthy (.bool _)) (wpAny_truthy_bool ?_)) | wp_step)) fun _ _ e => e)))
    | wp_step)
theorem ifBound_ne {args : List Value} {Q : Option Value → Shared → Prop} (X : K.In s.heap) (I : PySem.W.InstAt s.heap x ox C od) (hs : PySem.W.findIn K (.ref C) "__ne__" = some (some (.builtin "object.__ne__")))
    (h : wpAny (model prog w) A (call (.builtin "object.__ne__") (.ref x :: args)) (fun v => Q (some v)) E s) : wpAny (model prog w) A (callSpecialIfBound? (.ref x) "__ne__" args) Q E s := by
  simp only [callSpecialIfBound?, bindSpecialIfBound?]
  refine wpAny_holding (wpAny_bind (wpAny_bind (wpAny_bind (I.type.here ((PySem.W.looks_findIn X hs).here ?_)))))
  refine wpAny_bind (wpAny_askSetting (wpAny_ite ?_))
  have fin : wpAny (model prog w) A (call (.builtin "object.__ne__") ([.ref x] ++ args) >>= fun v => pure (some v)) Q E s := wpAny_bind (wpAny_mono h (fun v s' h' => wpAny_pure h') fun _ _ h' => h')
  split
  · exact wpAny_bind (wpAny_of_eq (F.cmp_object.ne.bind _) (wpAny_pure (by exact fin)))
  · exact wpAny_tryCatch (wpAny_bind (wpAny_of_eq (F.cmp_object.ne.bind _) (wpAny_pure (by exact fin))))
theorem ne_K {tb : Value} {Q : Value → Shared → Prop} (hu : A.in1.units < cLine) (Fh : Fr h₀ L s.heap m) (X₀ : K.In h₀) (I : PySem.W.InstAt s.heap x ox C od) (hb : PySem.W.Looks (model prog w) s.heap (typeOf b) (.ref C))
    (hm : PySem.W.mroIn K C (.type "object") = some true) (hn : PySem.W.findIn K (.ref C) "__ne__" = some (some (.builtin "object.__ne__"))) (hs : PySem.W.findIn K (.ref C) "__eq__" = some (some (.ref f))) (hf : PySem.W.isFn K (.ref f) = true)
    (h : wpAny (model prog w) A.in1 (call (.ref f) [.ref x, b]) (fun v s' => ∃ k, v = .bool k ∧ Q (.bool (!k)) s') E s) : wpAny (model prog w) A (richCompare .NotEq (.ref x) b) Q E s := by
  have X := X₀.keeps Fh.keep
  have hu0 : A.units < cLine := by
    have : A.in1.units = A.units + 1 := rfl
    omega
  have one : wpAny (model prog w) A (tryCompare (.ref x) "__ne__" b) (fun r s' => ∃ v, r = some v ∧ Q v s') E s := by
    unfold tryCompare
    refine wpAny_bind (ifBound_ne X I hn (ne_call hu X I hm hs hf (wpAny_mono h (fun v s' hv => ?_) fun _ _ e => e)))
    obtain ⟨k, rfl, hq⟩ := hv
    exact ⟨k, rfl, wpAny_pure ⟨_, rfl, hq⟩⟩
  unfold richCompare
  simp only [oneThing_ref]
  refine wpAny_holding (wpAny_bind (wpAny_cRoomFor hu0 ?_))
  refine wpAny_bind (I.type.here (wpAny_bind (hb.here ?_)))
  rw [show (Value.ref C != Value.ref C) = false from by simp]
  simp only [Bool.false_eq_true, if_false]
  refine wpAny_bind (wpAny_pure ?_)
  simp only [Bool.false_eq_true, if_false]
  refine wpAny_bind (wpAny_mono one (fun r s' z => ?_) fun _ _ e => e)
  obtain ⟨v, rfl, hq⟩ := z
  exact wpAny_pure hq
end
section
variable {X : Cx} {pins : List (Addr × Obj)} {σ : L2.St} {H : Hp} {s : Shared} {CX : CXT} {n : Nat} {C g : Addr} {sp : Sp} {E : XK}
/-- x != y over an own __eq__ -/
def rNeI (C : Addr) (sp : Sp) (E : XK) : R2 := fun x y H Q => ∃ a b dx dy fs gs, x = .ref a ∧ y = .ref b ∧ H a = some (.ins C dx fs) ∧ H b = some (.ins C dy gs) ∧ sp [x, y] H (fun z H' => ∃ k, z = .bl k ∧ Q (.bl (!k)) H') E
theorem op_neI (hm : PySem.W.mroIn X.K C (.type "object") = some true) (hn : PySem.W.findIn X.K (.ref C) "__ne__" = some (some (.builtin "object.__ne__"))) (hs : PySem.W.findIn X.K (.ref C) "__eq__" = some (some (.ref g))) (hf : PySem.W.isFn X.K (.ref g) = true) (F : FnR X.prog X.w X.K X.mg X.base CX n g sp)
    (hr : Room (n + 1) X.A) (hx : Passes CX X E) : OpR X (compareOp .NotEq) (rNeI C sp E) := by
  intro pins s σ H x y v u Q I rx ry h
  obtain ⟨a, b, dx, dy, fs, gs, rfl, rfl, ha, hb, q⟩ := h
  cases (show v = Value.ref a from rx)
  cases (show u = Value.ref b from ry)
  obtain ⟨ox, od, J⟩ := ins_at I ha
  obtain ⟨oy, od', J'⟩ := ins_at I hb
  obtain ⟨m, hF⟩ := I.fr
  show wpAny (model X.prog X.w) X.A (richCompare .NotEq (.ref a) (.ref b)) (EP X pins σ Q) X.xe s
  refine ne_K (tb := .ref C) hr.in1.units0 hF I.ok.mod.kin J J'.type hm hn hs hf ?_
  refine wpAny_mono (wpAny_call (SlX.run_at (us := [.ref a, .ref b]) (ws := [.ref a, .ref b]) F hr.in1 I.env0.in1 hx I (.cons rfl (.cons rfl .nil)) q)) (fun w s' z => ?_) fun _ _ x => x
  obtain ⟨z', H', I', rz, k, ez, qz⟩ := z
  subst ez
  cases (show w = Value.bool k from rz)
  exact ⟨k, rfl, .bl (!k), H', I', rfl, qz⟩
end
end Sk

/-! Changes of texts: their sums. -/
namespace Sk
inductive Ed (α : Type) where
  | keep (c : α) | put (c : α) | drop (c : α) | swap (a b : α)
  deriving DecidableEq
namespace Ed
variable {α : Type} [DecidableEq α]
def ok : Ed α → Prop
  | swap a b => a ≠ b
  | _ => True
def isDrop : Ed α → Bool
  | drop _ => true
  | _ => false
def isPut : Ed α → Bool
  | put _ => true
  | _ => false
def inn : Ed α → List α
  | keep c => [c]
  | put _ => []
  | drop c => [c]
  | swap a _ => [a]
def out : Ed α → List α
  | keep c => [c]
  | put c => [c]
  | drop _ => []
  | swap _ b => [b]
def turn : Ed α → Ed α
  | keep c => keep c
  | put c => drop c
  | drop c => put c
  | swap a b => swap b a
def comp : Ed α → Ed α → List (Ed α)
  | keep _, s => [s]
  | f, keep _ => [f]
  | put _, drop _ => []
  | put _, put _ => []
  | put _, swap _ c => [put c]
  | drop a, drop _ => [drop a]
  | swap a _, drop _ => [drop a]
  | drop _, put _ => []
  | swap _ _, put _ => []
  | drop a, swap _ c => if a = c then [keep a] else [swap a c]
  | swap a _, swap _ c => if a = c then [keep a] else [swap a c]
end Ed
open Ed
variable {α : Type} [DecidableEq α]
def givenE (f : List (Ed α)) : List α := f.flatMap inn
def madeE (f : List (Ed α)) : List α := f.flatMap out
def sumE : List (Ed α) → List (Ed α) → List (Ed α)
  | .drop a :: f, s => .drop a :: sumE f s
  | f, .put b :: s => .put b :: sumE f s
  | a :: f, b :: s => comp a b ++ sumE f s
  | _, _ => []
termination_by f s => f.length + s.length
theorem sumE_drop (a : α) (f s : List (Ed α)) : sumE (.drop a :: f) s = .drop a :: sumE f s := by rw [sumE]
theorem sumE_nil_put (b : α) (s : List (Ed α)) : sumE [] (.put b :: s) = .put b :: sumE [] s := by rw [sumE]; simp
theorem sumE_put {x : Ed α} (h : isDrop x = false) (b : α) (f s : List (Ed α)) : sumE (x :: f) (.put b :: s) = .put b :: sumE (x :: f) s := by
  cases x <;> first | (cases h; done) | (rw [sumE]; simp)
theorem sumE_comp {x y : Ed α} (h : isDrop x = false) (g : isPut y = false) (f s : List (Ed α)) : sumE (x :: f) (y :: s) = comp x y ++ sumE f s := by
  cases x <;> cases y <;> first | (cases h; done) | (cases g; done) | (rw [sumE] <;> simp)
theorem sumE_nil : sumE ([] : List (Ed α)) [] = [] := by rw [sumE] <;> simp
/-- a row that can be put together -/
def Mt (f s : List (Ed α)) : Prop := madeE f = givenE s
theorem given_cons (x : Ed α) (f : List (Ed α)) : givenE (x :: f) = inn x ++ givenE f := rfl
theorem made_cons (x : Ed α) (f : List (Ed α)) : madeE (x :: f) = out x ++ madeE f := rfl
/-- the ways of a matched pair -/
inductive Mtd : List (Ed α) → List (Ed α) → Prop
  | nil : Mtd [] []
  | drop (a : α) {f s} : Mtd f s → Mtd (.drop a :: f) s
  | put (b : α) {f s} : (∀ x ∈ f.head?, isDrop x = false) → Mtd f s → Mtd f (.put b :: s)
  | both {x y : Ed α} {f s} (h : isDrop x = false) (g : isPut y = false) (e : out x = inn y) : Mtd f s → Mtd (x :: f) (y :: s)
theorem mtd_of : ∀ (n : Nat) (f s : List (Ed α)), f.length + s.length ≤ n → Mt f s → Mtd f s
  | 0, [], [], _, _ => .nil
  | 0, _ :: _, _, l, _ => by simp at l
  | 0, [], _ :: _, l, _ => by simp at l
  | n + 1, .drop a :: f, s, l, h => .drop a (mtd_of n f s (by simp at l; omega) h)
  | n + 1, [], [], _, _ => .nil
  | n + 1, [], y :: s, l, h => by
    cases y with
    | put b => exact .put b (by simp) (mtd_of n [] s (by simp at l ⊢; omega) h)
    | _ => exact absurd h (by simp [Mt, madeE, givenE, inn])
  | n + 1, x :: f, s, l, h => by
    cases hx : isDrop x with
    | true =>
      cases x <;> first | (cases hx; done) | skip
      case drop a => exact .drop a (mtd_of n f s (by simp at l; omega) h)
    | false =>
      cases s with
      | nil => cases x <;> first | (cases hx; done) | exact absurd h (by simp [Mt, madeE, givenE, out])
      | cons y s =>
        cases hy : isPut y with
        | true =>
          cases y <;> first | (cases hy; done) | skip
          case put b => exact .put b (fun z hz => by simp at hz; subst hz; exact hx) (mtd_of n _ s (by simp at l ⊢; omega) h)
        | false =>
          have e : out x = inn y ∧ Mt f s := by
            unfold Mt at h ⊢
            rw [made_cons, given_cons] at h
            cases x <;> cases y <;> first | (cases hx; done) | (cases hy; done) | (simp [out, inn] at h ⊢; exact h)
          exact .both hx hy e.1 (mtd_of n f s (by simp at l; omega) e.2)
theorem Mtd.mt {f s : List (Ed α)} (h : Mtd f s) : Mt f s := by
  induction h with
  | nil => rfl
  | drop a _ ih => exact ih
  | put b _ _ ih => exact ih
  | both h g e _ ih =>
    unfold Mt at ih ⊢
    rw [made_cons, given_cons, e, ih]
theorem Mtd.sum_put {f s : List (Ed α)} (b : α) (h : ∀ x ∈ f.head?, isDrop x = false) : sumE f (.put b :: s) = .put b :: sumE f s := by
  cases f with
  | nil => exact sumE_nil_put b s
  | cons x f => exact sumE_put (h x (by simp)) b f s
/-- one step behind another -/
theorem comp_io {x y : Ed α} (h : isDrop x = false) (g : isPut y = false) (e : out x = inn y) (oy : ok y) : givenE (comp x y) = inn x ∧ madeE (comp x y) = out y := by
  cases x <;> cases y <;> first | (cases h; done) | (cases g; done) | skip
  all_goals simp [out, inn] at e
  all_goals try subst e
  all_goals simp only [comp]
  all_goals try split
  all_goals simp_all [givenE, madeE, inn, out]
theorem comp_ok {x y : Ed α} (ox : ok x) (oy : ok y) : ∀ z ∈ comp x y, ok z := by
  cases x <;> cases y <;> simp only [comp] <;> (try split) <;> simp_all [ok]
theorem comp_turn {x y : Ed α} (h : isDrop x = false) (g : isPut y = false) (e : out x = inn y) : (comp x y).map turn = comp (turn y) (turn x) := by
  cases x <;> cases y <;> first | (cases h; done) | (cases g; done) | skip
  all_goals simp [out, inn] at e
  all_goals try subst e
  all_goals simp only [comp, turn]
  all_goals try rfl
  case swap.swap a b c =>
    by_cases z : a = c
    · subst z; simp [turn]
    · rw [if_neg z, if_neg (fun q => z q.symm)]; rfl
theorem given_app (f s : List (Ed α)) : givenE (f ++ s) = givenE f ++ givenE s := by simp [givenE]
theorem made_app (f s : List (Ed α)) : madeE (f ++ s) = madeE f ++ madeE s := by simp [madeE]
/-- (A) what a sum reads and writes -/
theorem sum_io {f s : List (Ed α)} (m : Mtd f s) (os : ∀ x ∈ s, ok x) : givenE (sumE f s) = givenE f ∧ madeE (sumE f s) = madeE s := by
  induction m with
  | nil => rw [sumE_nil]; exact ⟨rfl, rfl⟩
  | drop a _ ih =>
    rw [sumE_drop, given_cons, given_cons, (ih os).1, made_cons, (ih os).2]
    exact ⟨rfl, rfl⟩
  | put b h _ ih =>
    have o := ih fun x hx => os x (List.mem_cons_of_mem _ hx)
    rw [Mtd.sum_put b h, given_cons, o.1, made_cons, made_cons, o.2]
    exact ⟨rfl, rfl⟩
  | both h g e _ ih =>
    have o := ih fun x hx => os x (List.mem_cons_of_mem _ hx)
    have c := comp_io h g e (os _ List.mem_cons_self)
    rw [sumE_comp h g, given_app, made_app, o.1, o.2, c.1, c.2]
    exact ⟨rfl, rfl⟩
theorem sum_ok {f s : List (Ed α)} (m : Mtd f s) (of : ∀ x ∈ f, ok x) (os : ∀ x ∈ s, ok x) : ∀ x ∈ sumE f s, ok x := by
  induction m with
  | nil => rw [sumE_nil]; exact of
  | drop a _ ih =>
    rw [sumE_drop]
    intro x hx
    rcases List.mem_cons.mp hx with rfl | hx
    · trivial
    · exact ih (fun x hx => of x (List.mem_cons_of_mem _ hx)) os x hx
  | put b h _ ih =>
    rw [Mtd.sum_put b h]
    intro x hx
    rcases List.mem_cons.mp hx with rfl | hx
    · trivial
    · exact ih of (fun x hx => os x (List.mem_cons_of_mem _ hx)) x hx
  | both h g e _ ih =>
    rw [sumE_comp h g]
    intro x hx
    rcases List.mem_append.mp hx with hx | hx
    · exact comp_ok (of _ List.mem_cons_self) (os _ List.mem_cons_self) x hx
    · exact ih (fun x hx => of x (List.mem_cons_of_mem _ hx)) (fun x hx => os x (List.mem_cons_of_mem _ hx)) x hx
/-- the pairs that meet -/
def metE (f s : List (Ed α)) : List (Ed α × Ed α) := (f.filter fun x => !isDrop x).zip (s.filter fun y => !isPut y)
theorem sum_perm {f s : List (Ed α)} (m : Mtd f s) : (sumE f s).Perm ((f.filter isDrop) ++ (s.filter isPut) ++ (metE f s).flatMap fun p => comp p.1 p.2) := by
  induction m with
  | nil => rw [sumE_nil]; exact List.Perm.refl _
  | drop a _ ih =>
    rw [sumE_drop]
    exact ih.cons _
  | @put b f s h _ ih =>
    rw [Mtd.sum_put b h]
    have e : metE f (.put b :: s) = metE f s := by simp [metE, isPut]
    rw [e]
    refine (ih.cons _).trans ?_
    simp only [List.filter_cons, isPut, if_true, List.append_assoc]
    exact (List.perm_middle (a := Ed.put b) (l₁ := f.filter isDrop) (l₂ := s.filter isPut ++ (metE f s).flatMap fun p => comp p.1 p.2)).symm
  | @both x y f s h g e _ ih =>
    rw [sumE_comp h g]
    have e : metE (x :: f) (y :: s) = (x, y) :: metE f s := by simp [metE, h, g]
    rw [e, List.flatMap_cons]
    simp only [List.filter_cons, h, g]
    refine (ih.append_left _).trans ?_
    simp only [Bool.false_eq_true, if_false]
    have z := (List.perm_append_comm (l₁ := comp x y) (l₂ := f.filter isDrop ++ s.filter isPut)).append_right ((metE f s).flatMap fun p => comp p.1 p.2)
    simpa only [List.append_assoc] using z
theorem turn_turn (x : Ed α) : turn (turn x) = x := by cases x <;> rfl
theorem turn_ok {x : Ed α} (h : ok x) : ok (turn x) := by
  cases x <;> first | trivial | exact fun e => h e.symm
theorem turn_in (x : Ed α) : inn (turn x) = out x := by cases x <;> rfl
theorem turn_out (x : Ed α) : out (turn x) = inn x := by cases x <;> rfl
theorem turn_put (x : Ed α) : isPut (turn x) = isDrop x := by cases x <;> rfl
theorem turn_drop (x : Ed α) : isDrop (turn x) = isPut x := by cases x <;> rfl
theorem given_turn (f : List (Ed α)) : givenE (f.map turn) = madeE f := by
  simp only [givenE, madeE, List.flatMap_map, turn_in]
theorem made_turn (f : List (Ed α)) : madeE (f.map turn) = givenE f := by
  simp only [givenE, madeE, List.flatMap_map, turn_out]
theorem met_turn (f s : List (Ed α)) : metE (s.map turn) (f.map turn) = (metE f s).map fun p => (turn p.2, turn p.1) := by
  simp only [metE, List.filter_map, Function.comp_def, turn_put, turn_drop, List.zip_map, List.map_map]
  generalize f.filter _ = F
  generalize s.filter _ = S
  induction F generalizing S with
  | nil => cases S <;> rfl
  | cons x F ih => cases S with
    | nil => rfl
    | cons y S => simp only [List.zip_cons_cons, List.map_cons]; rw [ih S]; rfl
theorem met_ok {f s : List (Ed α)} (m : Mtd f s) : ∀ p ∈ metE f s, isDrop p.1 = false ∧ isPut p.2 = false ∧ out p.1 = inn p.2 := by
  induction m with
  | nil => intro p h; simp [metE] at h
  | drop a _ ih => exact ih
  | @put b f s h _ ih =>
    have e : metE f (.put b :: s) = metE f s := by simp [metE, isPut]
    rw [e]; exact ih
  | @both x y f s h g e _ ih =>
    have e' : metE (x :: f) (y :: s) = (x, y) :: metE f s := by simp [metE, h, g]
    rw [e']
    intro p hp
    rcases List.mem_cons.mp hp with rfl | hp
    · exact ⟨h, g, e⟩
    · exact ih p hp
/-- (F) turned round, a sum's steps are those of the turned sum -/
theorem turn_perm {f s : List (Ed α)} (m : Mtd f s) : ((sumE f s).map turn).Perm (sumE (s.map turn) (f.map turn)) := by
  have mt : Mt (s.map turn) (f.map turn) := by unfold Mt; rw [made_turn, given_turn]; exact m.mt.symm
  have a := (sum_perm m).map turn
  have b := sum_perm (mtd_of _ _ _ (Nat.le_refl _) mt)
  refine a.trans (List.Perm.trans ?_ b.symm)
  rw [met_turn, List.flatMap_map, List.map_append, List.map_append]
  have e1 : (f.filter isDrop).map turn = (f.map turn).filter isPut := by simp only [List.filter_map, Function.comp_def, turn_put]
  have e2 : (s.filter isPut).map turn = (s.map turn).filter isDrop := by simp only [List.filter_map, Function.comp_def, turn_drop]
  have e3 : ((metE f s).flatMap fun p => comp p.1 p.2).map turn = (metE f s).flatMap fun p => comp (turn p.2) (turn p.1) := by
    rw [List.map_flatMap]
    have : ∀ l : List (Ed α × Ed α), (∀ p ∈ l, isDrop p.1 = false ∧ isPut p.2 = false ∧ out p.1 = inn p.2) → (l.flatMap fun p => (comp p.1 p.2).map turn) = l.flatMap fun p => comp (turn p.2) (turn p.1) := by
      intro l
      induction l with
      | nil => intro _; rfl
      | cons p l ih =>
        intro h
        obtain ⟨h1, h2, h3⟩ := h p List.mem_cons_self
        rw [List.flatMap_cons, List.flatMap_cons, comp_turn h1 h2 h3, ih fun q hq => h q (List.mem_cons_of_mem _ hq)]
    exact this _ (met_ok m)
  rw [e1, e2, e3]
  exact List.perm_append_comm.append_right _
/-- (D, E) what is paid -/
theorem sum_cost {f s : List (Ed α)} (m : Mtd f s) (c : Ed α → Nat) (hk : ∀ a, c (.keep a) = 0) (h : ∀ x y z, isDrop x = false → isPut y = false → z ∈ comp x y → (comp x y = [z]) ∧ c z ≤ c x + c y) : ((sumE f s).map c).sum ≤ (f.map c).sum + (s.map c).sum := by
  induction m with
  | nil => rw [sumE_nil]; simp
  | drop a _ ih =>
    rw [sumE_drop]
    simp only [List.map_cons, List.sum_cons]
    omega
  | put b h' _ ih =>
    rw [Mtd.sum_put b h']
    simp only [List.map_cons, List.sum_cons]
    omega
  | @both x y f s h' g e _ ih =>
    rw [sumE_comp h' g, List.map_append, List.sum_append]
    simp only [List.map_cons, List.sum_cons]
    have : ((comp x y).map c).sum ≤ c x + c y := by
      cases hc : comp x y with
      | nil => simp
      | cons z l =>
        obtain ⟨h1, h2⟩ := h x y z h' g (by rw [hc]; exact List.mem_cons_self)
        rw [hc] at h1
        rw [h1]
        simpa using h2
    omega

theorem comp_head {x y : Ed α} (h : isDrop x = false) (g : isPut y = false) : (isPut y = false ∧ isDrop y = false → comp x y ≠ [] ∧ ∀ z ∈ comp x y, isDrop z = false) ∧ (isPut x = false → comp x y ≠ [] ∧ ∀ z ∈ comp x y, isPut z = false) := by
  cases x <;> cases y <;> first | (cases h; done) | (cases g; done) | skip
  all_goals simp only [comp]
  all_goals try split
  all_goals simp [isDrop, isPut]
theorem cs_eq (a b b' : α) : comp (.swap a b) (.swap b' a) = [.keep a] := by simp only [comp]; simp
theorem cs_ne {a c : α} (h : a ≠ c) (b b' : α) : comp (.swap a b) (.swap b' c) = [.swap a c] := by simp only [comp]; rw [if_neg h]
/-- three steps in a row -/
theorem comp_assoc {x y z : Ed α} (hx : isDrop x = false) (hy : isDrop y = false ∧ isPut y = false) (hz : isPut z = false) (e1 : out x = inn y) (e2 : out y = inn z) (ox : ok x) (oy : ok y) (oz : ok z) : ∃ a b, comp x y = [a] ∧ comp y z = [b] ∧ isDrop a = false ∧ isPut b = false ∧ comp a z = comp x b := by
  obtain ⟨hy1, hy2⟩ := hy
  cases x <;> cases y <;> cases z <;> first | (cases hx; done) | (cases hy1; done) | (cases hy2; done) | (cases hz; done) | skip
  all_goals simp [out, inn] at e1 e2
  all_goals try subst e1
  all_goals try subst e2
  all_goals try exact ⟨_, _, rfl, rfl, rfl, rfl, rfl⟩
  all_goals simp only [ok] at ox oy oz
  case keep.swap.swap c b d =>
    by_cases w : c = d
    · subst w; exact ⟨_, _, rfl, cs_eq _ _ _, rfl, rfl, cs_eq _ _ _⟩
    · exact ⟨_, _, rfl, cs_ne w _ _, rfl, rfl, cs_ne w _ _⟩
  case put.swap.swap c b d =>
    by_cases w : c = d
    · subst w; exact ⟨_, _, rfl, cs_eq _ _ _, rfl, rfl, rfl⟩
    · exact ⟨_, _, rfl, cs_ne w _ _, rfl, rfl, rfl⟩
  case swap.swap.keep a b d =>
    by_cases w : a = d
    · subst w; exact ⟨_, _, cs_eq _ _ _, rfl, rfl, rfl, (cs_eq _ _ _).symm⟩
    · exact ⟨_, _, cs_ne w _ _, rfl, rfl, rfl, (cs_ne w _ _).symm⟩
  case swap.swap.drop a b d =>
    by_cases w : a = d
    · subst w; exact ⟨_, _, cs_eq _ _ _, rfl, rfl, rfl, rfl⟩
    · exact ⟨_, _, cs_ne w _ _, rfl, rfl, rfl, rfl⟩
  case swap.swap.swap a b c d =>
    by_cases w : a = c
    · subst w
      by_cases v : b = d
      · subst v
        exact ⟨_, _, cs_eq _ _ _, cs_eq _ _ _, rfl, rfl, rfl⟩
      · exact ⟨_, _, cs_eq _ _ _, cs_ne v _ _, rfl, rfl, (cs_ne oz _ _).symm⟩
    · by_cases v : b = d
      · subst v
        exact ⟨_, _, cs_ne w _ _, cs_eq _ _ _, rfl, rfl, cs_ne ox _ _⟩
      · exact ⟨_, _, cs_ne w _ _, cs_ne v _ _, rfl, rfl, rfl⟩
/-- (B) sums may be put together in any way -/
theorem sum_assoc : ∀ (n : Nat) (f g h : List (Ed α)), f.length + g.length + h.length ≤ n → Mtd f g → Mtd g h → (∀ x ∈ f, ok x) → (∀ x ∈ g, ok x) → (∀ x ∈ h, ok x) → sumE (sumE f g) h = sumE f (sumE g h)
  | 0, f, g, h, l, _, _, _, _, _ => by
    have a : f = [] := List.length_eq_zero_iff.mp (by omega)
    have b : g = [] := List.length_eq_zero_iff.mp (by omega)
    have c : h = [] := List.length_eq_zero_iff.mp (by omega)
    subst a; subst b; subst c
    simp only [sumE_nil]
  | n + 1, f, g, h, l, m1, m2, o1, o2, o3 => by
    have tl : ∀ {x : Ed α} {r : List (Ed α)}, (∀ y ∈ x :: r, ok y) → ∀ y ∈ r, ok y := fun q y m => q y (List.mem_cons_of_mem _ m)
    cases m1 with
    | @drop a f g m1 =>
      rw [sumE_drop, sumE_drop, sumE_drop, sum_assoc n f g h (by simp at l; omega) m1 m2 (tl o1) o2 o3]
    | nil =>
      cases m2 with
      | nil => simp only [sumE_nil]
      | @put c _ h' p m2 =>
        have ih := sum_assoc n [] [] h' (by simp at l ⊢; omega) .nil m2 o1 o2 (tl o3)
        rw [sumE_nil] at ih
        rw [sumE_nil, sumE_nil_put, sumE_nil_put, ← ih]
    | @put b _ g' p m1 =>
      cases m2 with
      | @put c _ h' p2 m2 =>
        rw [Mtd.sum_put b p, Mtd.sum_put c p2, sumE_put rfl, Mtd.sum_put c p, ← Mtd.sum_put b p]
        rw [sum_assoc n f (.put b :: g') h' (by simp at l ⊢; omega) (.put b p m1) m2 o1 o2 (tl o3)]
      | @both _ y _ h' hx hy e m2 =>
        rw [Mtd.sum_put b p, sumE_comp rfl hy, sumE_comp rfl hy, sum_assoc n f g' h' (by simp at l ⊢; omega) m1 m2 o1 (tl o2) (tl o3)]
        cases y <;> first | (cases hy; done) | skip
        case keep d => exact (Mtd.sum_put b p).symm
        case drop d => rfl
        case swap d e' => exact (Mtd.sum_put e' p).symm
    | @both x y f' g' hx hy e m1 =>
      cases m2 with
      | @drop a _ _ m2 =>
        rw [sumE_drop, sumE_comp hx hy, sumE_comp hx rfl]
        have ih := sum_assoc n f' g' h (by simp at l ⊢; omega) m1 m2 (tl o1) (tl o2) o3
        cases x <;> first | (cases hx; done) | skip
        case keep d => simp only [comp, List.cons_append, List.nil_append]; rw [sumE_drop, ih]
        case put d => simp only [comp, List.nil_append]; exact ih
        case swap d e' => simp only [comp, List.cons_append, List.nil_append]; rw [sumE_drop, ih]
      | @put c _ h' p2 m2 =>
        have p : ∀ z ∈ (x :: f').head?, isDrop z = false := fun z hz => by simp at hz; subst hz; exact hx
        have dy := p2 y (by simp)
        rw [Mtd.sum_put c p2, Mtd.sum_put c p, Mtd.sum_put c, sum_assoc n (x :: f') (y :: g') h' (by simp at l ⊢; omega) (.both hx hy e m1) m2 o1 o2 (tl o3)]
        intro z hz
        rw [sumE_comp hx hy] at hz
        obtain ⟨q1, q2⟩ := (comp_head hx hy).1 ⟨hy, dy⟩
        cases hc : comp x y with
        | nil => exact absurd hc q1
        | cons w r =>
          rw [hc] at hz q2
          simp at hz
          subst hz
          exact q2 _ List.mem_cons_self
      | @both _ z _ h' hy' hz e2 m2 =>
        obtain ⟨a, b, c1, c2, d1, d2, c3⟩ := comp_assoc hx ⟨hy', hy⟩ hz e e2 (o1 _ List.mem_cons_self) (o2 _ List.mem_cons_self) (o3 _ List.mem_cons_self)
        rw [sumE_comp hx hy, sumE_comp hy' hz, c1, c2, List.singleton_append, List.singleton_append, sumE_comp d1 hz, sumE_comp hx d2, c3]
        rw [sum_assoc n f' g' h' (by simp at l ⊢; omega) m1 m2 (tl o1) (tl o2) (tl o3)]
def keptE (s : List α) : List (Ed α) := s.map .keep
theorem given_kept (s : List α) : givenE (keptE s) = s := by
  induction s with
  | nil => rfl
  | cons c s ih => simp only [keptE, List.map_cons] at ih ⊢; rw [given_cons, ih]; rfl
theorem made_kept (s : List α) : madeE (keptE s) = s := by
  induction s with
  | nil => rfl
  | cons c s ih => simp only [keptE, List.map_cons] at ih ⊢; rw [made_cons, ih]; rfl
theorem kept_ok (s : List α) : ∀ x ∈ keptE s, ok x := fun x h => by
  obtain ⟨c, _, rfl⟩ := List.mem_map.mp h
  trivial
/-- (C) what keeps all changes nothing -/
theorem kept_sum : ∀ f : List (Ed α), sumE (keptE (givenE f)) f = f
  | [] => sumE_nil
  | .put b :: f => by
    have e : givenE (.put b :: f) = givenE f := rfl
    rw [e, Mtd.sum_put b, kept_sum f]
    intro x hx
    cases h : givenE f with
    | nil => rw [h] at hx; simp [keptE] at hx
    | cons c r => rw [h] at hx; simp [keptE] at hx; subst hx; rfl
  | .keep a :: f => by
    have e : keptE (givenE (.keep a :: f)) = .keep a :: keptE (givenE f) := rfl
    rw [e, sumE_comp rfl rfl, kept_sum f]; rfl
  | .drop a :: f => by
    have e : keptE (givenE (.drop a :: f)) = .keep a :: keptE (givenE f) := rfl
    rw [e, sumE_comp rfl rfl, kept_sum f]; rfl
  | .swap a b :: f => by
    have e : keptE (givenE (.swap a b :: f)) = .keep a :: keptE (givenE f) := rfl
    rw [e, sumE_comp rfl rfl, kept_sum f]; rfl
theorem sum_kept : ∀ f : List (Ed α), sumE f (keptE (madeE f)) = f
  | [] => sumE_nil
  | .drop b :: f => by
    have e : madeE (.drop b :: f) = madeE f := rfl
    rw [e, sumE_drop, sum_kept f]
  | .keep a :: f => by
    have e : keptE (madeE (.keep a :: f)) = .keep a :: keptE (madeE f) := rfl
    rw [e, sumE_comp rfl rfl, sum_kept f]; rfl
  | .put a :: f => by
    have e : keptE (madeE (.put a :: f)) = .keep a :: keptE (madeE f) := rfl
    rw [e, sumE_comp rfl rfl, sum_kept f]; rfl
  | .swap a b :: f => by
    have e : keptE (madeE (.swap a b :: f)) = .keep b :: keptE (madeE f) := rfl
    rw [e, sumE_comp rfl rfl, sum_kept f]; rfl
theorem sum_len : ∀ {f s : List (Ed α)}, Mtd f s → (sumE f s).length ≤ f.length + s.length := by
  intro f s m
  induction m with
  | nil => rw [sumE_nil]; simp
  | drop a _ ih => rw [sumE_drop]; simp; omega
  | put b h _ ih => rw [Mtd.sum_put b h]; simp; omega
  | @both x y f s h g e _ ih =>
    rw [sumE_comp h g]
    have : (comp x y).length ≤ 1 := by
      cases x <;> cases y <;> simp only [comp] <;> (try split) <;> simp
    simp only [List.length_append, List.length_cons]
    omega
end Sk

/-! The program's defs and the law's, by their places. -/
namespace Sk
open PySem PySem.Spec PyProof.Rows L2 Evl
def topS (i : Nat) : Stmt := PySem.Challenge.pw_soonknown_k66_texts_by_number.main.body.getD i (.Pass ⟨0, 0, 0, 0⟩)
abbrev sSign : Stmt := topS 64
abbrev sStep : Stmt := topS 65
abbrev sAre : Stmt := topS 66
abbrev sTurn : Stmt := topS 67
abbrev sSumd : Stmt := topS 68
abbrev sComp : Stmt := topS 69
abbrev sStream : Stmt := topS 72
abbrev sDraw : Stmt := topS 73
abbrev sChoose : Stmt := topS 74
abbrev sSigns : Stmt := topS 75
abbrev sAlph : Stmt := topS 76
abbrev sWord : Stmt := topS 77
abbrev sAll : Stmt := topS 78
abbrev sLsd : Stmt := topS 79
abbrev sSet : Stmt := topS 80
abbrev sTextsOf : Stmt := topS 81
abbrev sNear : Stmt := topS 82
abbrev sOdd : Stmt := topS 83
abbrev sSame : Stmt := topS 84
abbrev sTextAt : Stmt := topS 85
abbrev sNumberOf : Stmt := topS 86
abbrev sObjR : Stmt := topS 87
abbrev sToldR : Stmt := topS 88
abbrev sLaw : Stmt := topS 89
abbrev sWhole : Stmt := topS 6
abbrev sBehind : Stmt := topS 29
abbrev sInit : Stmt := inClass (topS 70) 0
abbrev sKept : Stmt := inClass (topS 70) 1
abbrev sCall : Stmt := inClass (topS 70) 2
abbrev sLen : Stmt := inClass (topS 70) 3
abbrev sInv : Stmt := inClass (topS 70) 4
abbrev sAdd : Stmt := inClass (topS 70) 5
abbrev sEq : Stmt := inClass (topS 70) 6
abbrev sCost : Stmt := inClass (topS 70) 7
end Sk

/-! The built-ins that are used. -/
namespace Sk
open PySem PySem.Spec PyProof.Rows L2 Evl
structure Blt (mg : Str → Option Value) : Prop where
  isi : mg "isinstance" = none
  bool : mg "bool" = none
  int : mg "int" = none
  str : mg "str" = none
  list : mg "list" = none
  dict : mg "dict" = none
  sorted : mg "sorted" = none
  len : mg "len" = none
  range : mg "range" = none
  min : mg "min" = none
  max : mg "max" = none
  repr : mg "repr" = none
theorem bt_bool : bootBuiltins "bool" = some (.type "bool") := by decide +kernel
theorem bt_int : bootBuiltins "int" = some (.type "int") := by decide +kernel
theorem bt_str : bootBuiltins "str" = some (.type "str") := by decide +kernel
theorem bt_list : bootBuiltins "list" = some (.type "list") := by decide +kernel
theorem bt_dict : bootBuiltins "dict" = some (.type "dict") := by decide +kernel
theorem bt_isi : bootBuiltins "isinstance" = some (.builtin "isinstance") := by decide +kernel
theorem line_le {n : Nat} (h : n ≤ 16000000) : n ≤ sizeLine := by rw [sizeLine_eq]; omega
structure Blt2 (mg : Str → Option Value) : Prop where
  tuple : mg "tuple" = none
  set : mg "set" = none
  zip : mg "zip" = none
theorem bt_tuple : bootBuiltins "tuple" = some (.type "tuple") := by decide +kernel
theorem bt_min : bootBuiltins "min" = some (.builtin "min") := by decide +kernel
theorem bt_max : bootBuiltins "max" = some (.builtin "max") := by decide +kernel
theorem bt_sum : bootBuiltins "sum" = some (.builtin "sum") := by decide +kernel
structure Lt (P : Program) (w : World) (K : PySem.W.Frag) (mg : Str → Option Value) (base : Heap) (f : Addr) (fd : FuncData) (x : Str) (ps : List Str) (k : Nat) (sp : Sp) : Prop where
  g : FnOk P w K mg base CX0 k f fd ps sp
  b : Binds K fd ps []
  k : PySem.W.keepIn K (.ref f) = true
  m : mg x = some (.ref f)
end Sk

namespace Sk
open PySem PySem.Spec PyProof.Rows L2 Evl
theorem scStream : FnScope ["script", "start_v", "seed", "cell", "digits"] ["script", "start_v"] (defScope sStream) := ⟨rfl, rfl, rfl, by decide +kernel, rfl, by decide +kernel, by decide +kernel⟩
theorem scDraw : FnScope ["stream", "size", "found"] ["stream", "size"] (defScope sDraw) := ⟨rfl, rfl, rfl, by decide +kernel, rfl, by decide +kernel, by decide +kernel⟩
theorem scChoose : FnScope ["stream", "items"] ["stream", "items"] (defScope sChoose) := ⟨rfl, rfl, rfl, by decide +kernel, rfl, by decide +kernel, by decide +kernel⟩
/-- a source is made of the script -/
def spStream (K : PySem.W.Frag) : Sp := fun vs H Q _ => ∃ (a : Addr) (ns : List Int) (k : Int), vs = [.ref a, .int k] ∧ SqL K H a (ns.map V.int) ∧ ns.length ≤ 63 ∧ (∀ z ∈ ns, Builtin.Int.intBits z ≤ 1048576) ∧ 0 ≤ k ∧ k ≤ 100 ∧
  ∀ (st : Addr) (H' : Hp), H st = none → Ex H H' → Strm st H' → Q (.ref st) H'
/-- a draw: some number below the size -/
def spDraw : Sp := fun vs H Q _ => ∃ (st : Addr) (n : Int), vs = [.ref st, .int n] ∧ Strm st H ∧ 1 ≤ n ∧ n ≤ 1000000000 ∧
  ∀ (k : Int) (H' : Hp), 0 ≤ k → k < n → Aft st H H' → Q (.int k) H'
/-- a choice: some item -/
def Chs (K : PySem.W.Frag) (H : Hp) (x : V) (P : V → Prop) : Prop :=
  (∃ (a : Addr) (xs : List V), x = .ref a ∧ (SqL K H a xs ∨ SqT K H a xs) ∧ xs ≠ [] ∧ xs.length ≤ 100000 ∧ ∀ v ∈ xs, P v) ∨
  ∃ z : Str, x = .str z ∧ z.cps.toList ≠ [] ∧ z.length ≤ 100000 ∧ ∀ c ∈ z.cps.toList, P (.str ⟨#[c]⟩)
def spChoose (K : PySem.W.Frag) : Sp := fun vs H Q _ => ∃ (st : Addr) (x : V) (P : V → Prop), vs = [.ref st, x] ∧ Strm st H ∧ Chs K (Hd st H) x P ∧
  ∀ (v : V) (H' : Hp), P v → Aft st H H' → Q v H'
section
variable {P : Program} {w : World} {K : PySem.W.Frag} {mg : Str → Option Value} {base : Heap} {f g : Addr} {fd gd : FuncData}
theorem seed_next {s n : Int} (hs : 0 ≤ s ∧ s < 2 ^ 31) (hn : Builtin.Int.intBits n ≤ 1048576) : CMulW s 40127 ∧ CPowB (s * 40127 + n) 3 := by
  have h1 : s.natAbs < 2 ^ 31 := by omega
  have h2 : (40127 : Int).natAbs < 2 ^ 16 := by decide
  refine ⟨wide_mul h1 h2 (by decide) (by decide) (by decide), by decide, ?_⟩
  have h3 := abs_of_bits hn
  have h4 : (s * 40127).natAbs < 2 ^ (31 + 16) := wide_lt h1 h2
  have h5 : (2 : Nat) ^ (31 + 16) ≤ 2 ^ 1048576 := Nat.pow_le_pow_right (by decide) (by decide)
  have h6 : (s * 40127 + n).natAbs < 2 ^ 1048577 := by
    have e : (2 : Nat) ^ 1048577 = 2 ^ 1048576 + 2 ^ 1048576 := by rw [Nat.pow_succ]; omega
    rw [e]
    generalize (2 : Nat) ^ 1048576 = M at *
    omega
  have h7 := bits_of h6 (by decide)
  have e : ((2 : Int) ^ 27) = 134217728 := by decide
  rw [e]
  omega
theorem ok_stream {k : Nat} (F : Fun K "_law_stream" "_law_stream" sStream f fd) (B : Blt mg) : FnOk P w K mg base CX0 (k + 1) f fd ["script", "start_v"] (spStream K) := by
  refine F.ok scStream (fun vs H Q E h => ?_) (fun cdv A outer s H vs Q E hr h => ?_)
  · obtain ⟨a, ns, k, rfl, _⟩ := h
    rfl
  obtain ⟨a, ns, k, rfl, hS, h63, hb, h0, h1, q⟩ := h
  have nd := scStream.nd
  refine ⟨_, pss_cons (ps_set (i := 2) nd rfl (Or.inl rfl) (pe_op op_add pe_int (pv 1)))
    (pss_cons (ps_for PassesOwn.never rfl (pi_list (pv 0)) (pg_name (i := 3) nd rfl (Or.inl rfl))
      (pss_one (ps_set (i := 2) nd rfl (Or.inl rfl) (pe_op op_add (pe_op op_mod (pe_op op_powB (pe_callTy call_int1 rfl B.int bt_int (pa_cons (pe_op op_add (pe_op op_mulW (pv 2) pe_int) (pv 3)) pa_nil)) pe_int) pe_int) pe_int))))
    (pss_cons (ps_set (i := 4) nd rfl (Or.inl rfl) pe_int)
    (pss_cons (ps_if (PW.pt (pw_and (pt_cmpR op_lt (pv 1) (pe_callB call_len_seq rfl B.len PySem.boot_len (pa_cons (pv 0) pa_nil)) (nomark _)) (pw_and1 (pt_cmpR op_ge (pe_ix ix_list (pv 0) (pv 1) (fun _ _ => rfl)) (pe_op op_powB pe_int pe_int) (nomark _)))))
      (pss_one (ps_set (i := 4) nd rfl (Or.inl rfl) (pe_op op_sub (pe_ix ix_list (pv 0) (pv 1) (fun _ _ => rfl)) (pe_op op_powB pe_int pe_int)))) pss_nil)
    (pss_one (ps_ret (pe_lst (pa_cons (pv 4) (pa_cons (pv 2) pa_nil)))))))), ?_⟩
  refine ⟨_, rfl, _, _, rfl, rfl, ?_⟩
  refine ⟨_, rfl, a, rfl, ⟨_, hS⟩, for_list (xs := ns.map V.int) (fun i σ H' => ∃ (s : Int) (y : Option V), σ = [some (.ref a), some (.int k), some (.int s), y, none] ∧ 0 ≤ s ∧ s < 2 ^ 31 ∧ H' = H) ⟨13 + k, none, rfl, by omega, by omega, rfl⟩ (fun i σ H' _ hp => ?_) (fun i x σ H' hx hp => ?_) (fun σ H' hp => ?_)⟩
  · obtain ⟨_, _, _, _, _, rfl⟩ := hp
    exact hS
  · obtain ⟨s, y, rfl, hs0, hs1, rfl⟩ := hp
    rw [List.getElem?_map] at hx
    obtain ⟨n, hn, rfl⟩ := Option.map_eq_some_iff.mp hx
    have hbn := hb n (List.mem_of_getElem? hn)
    obtain ⟨c1, c2⟩ := seed_next ⟨hs0, hs1⟩ hbn
    have hm : (0 : Int) < 2147483629 := by decide
    refine ⟨_, rfl, _, _, rfl, rfl, c1, _, rfl, _, _, rfl, rfl, .inl ⟨_, rfl, _, _, rfl, rfl, c2, _, _, rfl, rfl, hm, _, _, rfl, rfl, _, some (.int n), rfl, ?_, ?_, rfl⟩⟩
    · have := Int.emod_nonneg ((s * 40127 + n) ^ (3 : Int).toNat) (show (2147483629 : Int) ≠ 0 by decide)
      omega
    · have := Int.emod_lt_of_pos ((s * 40127 + n) ^ (3 : Int).toNat) hm
      have e : ((2 : Int) ^ 31) = 2147483648 := by decide
      rw [e]
      omega
  · obtain ⟨s, y, rfl, hs0, hs1, rfl⟩ := hp
    have fin : ∀ d : Int, 0 ≤ d → d.natAbs < 2 ^ 1100000 → ([V.int d, V.int s].length ≤ sizeLine ∧ ∀ p, H' p = none → Q (.ref p) (upd H' p (.lst [.int d, .int s]))) := fun d hd1 hd2 =>
      ⟨(by show 2 ≤ sizeLine; decide), fun p hp => q p _ hp (Ex.new hp) ⟨d, s, upd_same, hd1, hd2, hs0, hs1⟩⟩
    have h18 : CPowB 10 18 := by refine ⟨by decide, by decide +kernel⟩
    refine ⟨_, rfl, _, rfl, a, _, rfl, .inl hS, _, _, rfl, rfl, _, rfl, ?_⟩
    refine ite2 (fun c => ?_) (fun c => ?_)
    · have c' : k < ((ns.map V.int).length : Int) := of_decide_eq_true c
      rw [List.length_map] at c'
      have hk : k.toNat < ns.length := by omega
      have hat : atI (ns.map V.int) k = some (.int ns[k.toNat]) := by
        have e : k = ((k.toNat : Nat) : Int) := by omega
        have z : atI (ns.map V.int) ((k.toNat : Nat) : Int) = some (.int ns[k.toNat]) := atI_nat (by rw [List.getElem?_map, List.getElem?_eq_getElem hk]; rfl)
        rw [← e] at z
        exact z
      refine ⟨_, rfl, _, rfl, a, _, _, _, rfl, rfl, hS, hat, _, _, rfl, rfl, h18, _, _, rfl, rfl, _, rfl, ?_⟩
      refine ite2 (fun c2 => ?_) (fun c2 => ?_)
      · have c2' : (10 : Int) ^ (18 : Int).toNat ≤ ns[k.toNat] := of_decide_eq_true c2
        refine ⟨_, rfl, _, rfl, a, _, _, _, rfl, rfl, hS, hat, _, _, rfl, rfl, h18, _, _, rfl, rfl, _, rfl, _, rfl, ?_⟩
        have hb2 := abs_of_bits (hb _ (List.getElem_mem hk))
        have e18 : (10 : Int) ^ (18 : Int).toNat = 1000000000000000000 := by decide
        rw [e18] at c2' ⊢
        refine fin _ (by omega) ?_
        have e : (2 : Nat) ^ 1048576 ≤ 2 ^ 1100000 := Nat.pow_le_pow_right (by decide) (by decide)
        generalize (2 : Nat) ^ 1048576 = M at *
        generalize (2 : Nat) ^ 1100000 = N at *
        omega
      · exact ⟨_, rfl, _, rfl, fin 0 (by decide) (Nat.two_pow_pos _)⟩
    · exact ⟨_, rfl, _, rfl, fin 0 (by decide) (Nat.two_pow_pos _)⟩
end
end Sk

namespace Sk
open PySem PySem.Spec PyProof.Rows L2 Evl
section
variable {P : Program} {w : World} {K : PySem.W.Frag} {mg : Str → Option Value} {base : Heap} {f g : Addr} {fd gd : FuncData}
theorem atI0 {a b : V} : atI [a, b] 0 = some a := atI_nat (j := 0) rfl
theorem atI1 {a b : V} : atI [a, b] 1 = some b := atI_nat (j := 1) rfl
theorem small31 {x : Int} (h0 : 0 ≤ x) (h : x < 2147483648) : x.natAbs < 2 ^ 31 := by
  have e : (2 : Nat) ^ 31 = 2147483648 := by decide
  rw [e]; omega
theorem powB_small {x : Int} (h0 : 0 ≤ x) (h : x < 2147483648) {j : Int} (j0 : 0 ≤ j) (j1 : j ≤ 10) : CPowB x j := by
  refine ⟨j0, ?_⟩
  have h7 := bits_of (small31 h0 h) (by decide)
  have e : ((2 : Int) ^ 27) = 134217728 := by decide
  rw [e]
  have h8 : (Builtin.Int.intBits x : Int) ≤ 31 := by omega
  have h9 : (0 : Int) ≤ (Builtin.Int.intBits x : Int) := by omega
  calc (Builtin.Int.intBits x : Int) * j ≤ 31 * 10 := Int.mul_le_mul h8 j1 j0 (by decide)
    _ ≤ 134217728 := by decide
theorem ok_draw {k : Nat} (F : Fun K "_law_draw" "_law_draw" sDraw f fd) (B : Blt mg) : FnOk P w K mg base CX0 (k + 1) f fd ["stream", "size"] spDraw := by
  refine F.ok scDraw (fun vs H Q E h => ?_) (fun cdv A outer s H vs Q E hr h => ?_)
  · obtain ⟨a, n, rfl, _⟩ := h
    rfl
  obtain ⟨st, n, rfl, hst, hn, hn9, q⟩ := h
  obtain ⟨d, sd, hs, hd0, hd1, hs0, hs1⟩ := hst
  have nd := scDraw.nd
  refine ⟨_, pss_cons (ps_if (pt_cmpR op_ge (pe_ix ix_list (pv 0) pe_int (fun _ _ => rfl)) (pv 1) (nomark _))
      (pss_cons (ps_set (i := 2) nd rfl (Or.inl rfl) (pe_op op_mod (pe_callTy call_int1 rfl B.int bt_int (pa_cons (pe_ix ix_list (pv 0) pe_int (fun _ _ => rfl)) pa_nil)) (pv 1)))
      (pss_cons (ps_asg (pe_op op_fdivW (pe_ix ix_list (pv 0) pe_int (fun _ _ => rfl)) (pv 1)) (pg_sub (pv 0) pe_int set_list))
      (pss_one (ps_ret (pv 2))))) pss_nil)
    (pss_cons (ps_asg (pe_op op_mod (pe_callTy call_int1 rfl B.int bt_int (pa_cons (pe_op op_add (pe_op op_mulW (pe_ix ix_list (pv 0) pe_int (fun _ _ => rfl)) pe_int) pe_int) pa_nil)) pe_int) (pg_sub (pv 0) pe_int set_list))
    (pss_one (ps_ret (pe_op op_mod (pe_op op_fdiv (pe_op op_mod (pe_op op_powB (pe_op op_mod (pe_op op_powB (pe_callTy call_int1 rfl B.int bt_int (pa_cons (pe_ix ix_list (pv 0) pe_int (fun _ _ => rfl)) pa_nil)) pe_int) pe_int) pe_int) pe_int) pe_int) (pv 1))))), ?_⟩
  have hL : SqL K H st [.int d, .int sd] := SqL.of hs
  refine ⟨_, rfl, st, _, 0, _, rfl, rfl, hL, atI0, _, rfl, _, _, rfl, rfl, _, rfl, ?_⟩
  have n31 : n.natAbs < 2 ^ 31 := small31 (by omega) (by omega)
  have up : ∀ a b : Int, 0 ≤ a → a.natAbs < 2 ^ 1100000 → 0 ≤ b → b < 2147483648 → Aft st H (upd H st (.lst [.int a, .int b])) := fun a b a0 a1 b0 b1 =>
    ⟨gr_upd, a, b, upd_same, a0, a1, b0, by have e : ((2 : Int) ^ 31) = 2147483648 := by decide
                                            rw [e]; exact b1⟩
  have e31 : ((2 : Int) ^ 31) = 2147483648 := by decide
  rw [e31] at hs1
  refine ite2 (fun c => ?_) (fun c => ?_)
  · have c' : n ≤ d := of_decide_eq_true c
    refine ⟨_, rfl, st, _, 0, _, rfl, rfl, hL, atI0, .inl ⟨_, rfl, _, rfl, _, _, rfl, rfl, (by omega : (0 : Int) < n), ?_⟩⟩
    refine ⟨_, rfl, st, _, 0, _, rfl, rfl, hL, atI0, _, rfl, _, _, rfl, rfl, wide_div (by omega) n31 (by decide) (by decide), ?_⟩
    refine ⟨_, rfl, st, _, 0, 0, rfl, rfl, hs, rfl, ?_⟩
    refine ⟨_, rfl, q _ _ (Int.emod_nonneg _ (by omega)) (Int.emod_lt_of_pos _ (by omega)) (up _ _ (Int.ediv_nonneg hd0 (by omega)) ?_ hs0 hs1)⟩
    refine Nat.lt_of_le_of_lt ?_ hd1
    have z0 : 0 ≤ d / n := Int.ediv_nonneg hd0 (by omega)
    have z1 : d / n ≤ d := Int.ediv_le_self n hd0
    omega
  · refine ⟨_, rfl, st, _, 1, _, rfl, rfl, hL, atI1, _, _, rfl, rfl, wide_mul (small31 hs0 hs1) (show (48271 : Int).natAbs < 2 ^ 16 by decide) (by decide) (by decide) (by decide), _, _, rfl, rfl, .inl ⟨_, rfl, _, _, rfl, rfl, (by decide : (0 : Int) < 2147483647), ?_⟩⟩
    refine ⟨_, rfl, st, _, 1, 1, rfl, rfl, hs, rfl, ?_⟩
    dsimp only [List.set]
    generalize hz : (sd * 48271 + 12345) % 2147483647 = z
    have z0 : 0 ≤ z := by rw [← hz]; exact Int.emod_nonneg _ (by decide)
    have z1 : z < 2147483648 := by
      have := Int.emod_lt_of_pos (sd * 48271 + 12345) (show (0 : Int) < 2147483647 by decide)
      omega
    have A1 := up d z hd0 hd1 z0 z1
    have hL2 : SqL K (upd H st (.lst [.int d, .int z])) st [.int d, .int z] := SqL.of upd_same
    refine ⟨_, rfl, st, _, 1, _, rfl, rfl, hL2, atI1, .inl ⟨_, rfl, _, _, rfl, rfl, powB_small z0 z1 (by decide) (by decide), _, _, rfl, rfl, (by decide : (0 : Int) < 2147483629), ?_⟩⟩
    dsimp only
    generalize hy : z ^ (3 : Int).toNat % 2147483629 = y
    have y0 : 0 ≤ y := by rw [← hy]; exact Int.emod_nonneg _ (by decide)
    have y1 : y < 2147483648 := by
      have := Int.emod_lt_of_pos (z ^ (3 : Int).toNat) (show (0 : Int) < 2147483629 by decide)
      omega
    refine ⟨_, _, rfl, rfl, powB_small y0 y1 (by decide) (by decide), _, _, rfl, rfl, (by decide : (0 : Int) < 1000000007), _, _, rfl, rfl, ⟨by decide, by decide⟩, _, rfl, _, _, rfl, rfl, (by omega : (0 : Int) < n), ?_⟩
    exact q _ _ (Int.emod_nonneg _ (by omega)) (Int.emod_lt_of_pos _ (by omega)) A1
/-- len of a list, a tuple, a text -/
theorem call_lenAny {X : Cx} : CallR X (.builtin "len") (fun xs H Q => (∃ p ys, xs = [.ref p] ∧ (SqL X.K H p ys ∨ SqT X.K H p ys) ∧ Q (.int ys.length) H) ∨ ∃ z, xs = [.str z] ∧ z.length ≤ sizeLine ∧ Q (.int z.length) H) := call_len_seq.or call_len_str
theorem ok_choose {k : Nat} {gd : FuncData} (F : Fun K "_law_choose" "_law_choose" sChoose f fd) (G : FnOk P w K mg base CX0 k g gd ["stream", "size"] spDraw) (bG : Binds K gd ["stream", "size"] []) (kG : PySem.W.keepIn K (.ref g) = true)
    (mG : mg "_law_draw" = some (.ref g)) (ml : mg "len" = none) : FnOk P w K mg base CX0 (k + 1) f fd ["stream", "items"] (spChoose K) := by
  refine F.ok scChoose (fun vs H Q E h => ?_) (fun cdv A outer s H vs Q E hr h => ?_)
  · obtain ⟨a, n, _, rfl, _⟩ := h
    rfl
  obtain ⟨st, x, Pv, rfl, hst, hx, q⟩ := h
  refine ⟨_, pss_one (ps_ret (pe_ix ix_seq (pv 1) (pe_call G hr rfl mG kG bG .nil pass0 (pa_cons (pv 0) (pa_cons (pe_callB call_lenAny rfl ml PySem.boot_len (pa_cons (pv 1) pa_nil)) pa_nil))) (fun _ _ => rfl))), ?_⟩
  refine ⟨_, rfl, _, rfl, _, rfl, ?_⟩
  rcases hx with ⟨a, xs, rfl, hs, hne, hl, hp⟩ | ⟨z, rfl, hne, hl, hp⟩
  · have hs' : ∀ H1, Ex (Hd st H) H1 → SqL K H1 a xs ∨ SqT K H1 a xs := fun H1 e => hs.elim (fun h => .inl (ex_l e h)) fun h => .inr (ex_t e h)
    have h1 : 1 ≤ xs.length := by cases xs with
      | nil => exact absurd rfl hne
      | cons _ _ => simp
    refine .inl ⟨a, xs, rfl, hs' _ hd_le, st, _, rfl, hst, by omega, by omega, fun i H1 i0 i1 A1 => ?_⟩
    have hi : i.toNat < xs.length := by omega
    have hat : atI xs i = some xs[i.toNat] := by
      have e : i = ((i.toNat : Nat) : Int) := by omega
      have z : atI xs ((i.toNat : Nat) : Int) = some xs[i.toNat] := atI_nat (List.getElem?_eq_getElem hi)
      rw [← e] at z
      exact z
    have fin := q _ H1 (hp _ (List.getElem_mem hi)) A1
    rcases hs' H1 (Ex.trans A1.gr hd_le) with h | h
    · exact .inl ⟨a, xs, i, _, rfl, rfl, h, hat, fin⟩
    · exact .inr (.inl ⟨a, xs, i, _, rfl, rfl, h, hat, fin⟩)
  · have e0 : z.length = z.cps.toList.length := by simp [Str.length]
    have h1 : 1 ≤ z.cps.toList.length := by
      cases h : z.cps.toList with
      | nil => exact absurd h hne
      | cons _ _ => simp
    refine .inr ⟨z, rfl, sz_of hl, st, _, rfl, hst, by omega, by omega, fun i H1 i0 i1 A1 => ?_⟩
    have hi : i.toNat < z.cps.toList.length := by omega
    have hat : atI z.cps.toList i = some z.cps.toList[i.toNat] := by
      have e : i = ((i.toNat : Nat) : Int) := by omega
      have z : atI z.cps.toList ((i.toNat : Nat) : Int) = some z.cps.toList[i.toNat] := atI_nat (List.getElem?_eq_getElem hi)
      rw [← e] at z
      exact z
    exact .inr (.inr ⟨z, i, _, rfl, rfl, sz_of hl, hat, q _ H1 (hp _ (List.getElem_mem hi)) A1⟩)
end
end Sk

/-! Steps as the program has them. -/
namespace Sk
open PySem PySem.Spec PyProof.Rows L2 Evl
theorem tup_inv {H : Hp} {v : V} {xs : List PyData} (h : Dq H v (.tuple xs)) : ∃ a vs, v = .ref a ∧ H a = some (.tup vs) ∧ DqAll H vs xs := by
  cases h with
  | tup e r => exact ⟨_, _, rfl, e, r⟩
theorem all_cons {H : Hp} {vs : List V} {d : PyData} {ds : List PyData} (h : DqAll H vs (d :: ds)) : ∃ v r, vs = v :: r ∧ Dq H v d ∧ DqAll H r ds := by
  cases h with
  | cons x r => exact ⟨_, _, rfl, x, r⟩
theorem all_nil {H : Hp} {vs : List V} (h : DqAll H vs []) : vs = [] := by cases h; rfl
theorem str_inv {H : Hp} {v : V} {x : Str} (h : Dq H v (.str x)) : v = .str x := by cases h; rfl
/-- a text of signs -/
def tx (cs : List Nat) : Str := ⟨cs.toArray⟩
theorem tx_len (cs : List Nat) : (tx cs).length = cs.length := by simp [tx, Str.length]
theorem tx_inj {a b : List Nat} (h : tx a = tx b) : a = b := by
  have := congrArg (fun z : Str => z.cps.toList) h
  simpa [tx] using this
theorem tx_of (z : Str) : tx z.cps.toList = z := by cases z; simp [tx]
theorem join_tx (cs : List Nat) : Str.join Str.empty (cs.map one) = tx cs := by
  rw [← tx_of (Str.join Str.empty (cs.map one)), join_one]
theorem one_len (c : Nat) : (one c).length = 1 := rfl
theorem one_inj {a b : Nat} (h : one a = one b) : a = b := by
  have := congrArg (fun z : Str => z.cps.toList) h
  simpa [one] using this
def edD : Ed Nat → PyData
  | .keep c => .tuple [.str "keep", .str (one c)]
  | .put c => .tuple [.str "put", .str (one c)]
  | .drop c => .tuple [.str "drop", .str (one c)]
  | .swap a b => .tuple [.str "swap", .str (one a), .str (one b)]
def edV : Ed Nat → List V
  | .keep c => [.str "keep", .str (one c)]
  | .put c => [.str "put", .str (one c)]
  | .drop c => [.str "drop", .str (one c)]
  | .swap a b => [.str "swap", .str (one a), .str (one b)]
theorem ed_inv {H : Hp} {v : V} {e : Ed Nat} (h : Dq H v (edD e)) : ∃ a, v = .ref a ∧ H a = some (.tup (edV e)) := by
  cases e
  case swap x y =>
    obtain ⟨a, vs, rfl, ha, r⟩ := tup_inv h
    obtain ⟨v1, r1, rfl, h1, r⟩ := all_cons r
    obtain ⟨v2, r2, rfl, h2, r⟩ := all_cons r
    obtain ⟨v3, r3, rfl, h3, r⟩ := all_cons r
    cases all_nil r
    cases str_inv h1; cases str_inv h2; cases str_inv h3
    exact ⟨a, rfl, ha⟩
  all_goals
    obtain ⟨a, vs, rfl, ha, r⟩ := tup_inv h
    obtain ⟨v1, r1, rfl, h1, r⟩ := all_cons r
    obtain ⟨v2, r2, rfl, h2, r⟩ := all_cons r
    cases all_nil r
    cases str_inv h1; cases str_inv h2
    exact ⟨a, rfl, ha⟩
theorem ed_of {H : Hp} {a : Addr} {e : Ed Nat} (h : H a = some (.tup (edV e))) : Dq H (.ref a) (edD e) := by
  cases e <;> exact .tup h (by repeat (first | exact .nil | refine .cons (.str _) ?_))
theorem scSign : FnScope ["thing"] ["thing"] (defScope sSign) := ⟨rfl, rfl, rfl, by decide +kernel, rfl, by decide +kernel, by decide +kernel⟩
theorem scStep : FnScope ["thing"] ["thing"] (defScope sStep) := ⟨rfl, rfl, rfl, by decide +kernel, rfl, by decide +kernel, by decide +kernel⟩
theorem scAre : FnScope ["thing", "step"] ["thing"] (defScope sAre) := ⟨rfl, rfl, rfl, by decide +kernel, rfl, by decide +kernel, by decide +kernel⟩
def spSign : Sp := fun vs H Q _ => ∃ c : Nat, vs = [.str (one c)] ∧ Q (.bl true) H
def spStep : Sp := fun vs H Q _ => ∃ (v : V) (e : Ed Nat), vs = [v] ∧ Dq H v (edD e) ∧ Ed.ok e ∧ ∀ H', Ex H H' → Q (.bl true) H'
def spAre : Sp := fun vs H Q _ => ∃ (a : Addr) (ws : List V) (es : List (Ed Nat)), vs = [.ref a] ∧ H a = some (.lst ws) ∧ DqAll H ws (es.map edD) ∧ (∀ e ∈ es, Ed.ok e) ∧ ∀ H', Ex H H' → Q (.bl true) H'
section
variable {P : Program} {w : World} {K : PySem.W.Frag} {mg : Str → Option Value} {base : Heap} {f g : Addr} {fd gd : FuncData}
theorem ok_sign {k : Nat} (F : Fun K "is_sign" "is_sign" sSign f fd) (B : Blt mg) : FnOk P w K mg base CX0 (k + 1) f fd ["thing"] spSign := by
  refine F.ok scSign (fun vs H Q E h => ?_) (fun cdv A outer s H vs Q E hr h => ?_)
  · obtain ⟨_, rfl, _⟩ := h
    rfl
  obtain ⟨c, rfl, q⟩ := h
  have nd := scSign.nd
  refine ⟨_, pss_one (ps_ret (pe_and (pe_callB call_isD rfl B.isi bt_isi (pa_cons (pv 0) (pa_cons (pe_bltn (v := .ty "str") rfl B.str bt_str rfl) pa_nil)))
    (pe_one (pe_cmpR op_eq (pe_callB call_len_str rfl B.len PySem.boot_len (pa_cons (pv 0) pa_nil)) pe_int (nomark _))))), ?_⟩
  refine ⟨_, rfl, _, _, _, _, rfl, .str _, kss, true, rfl, ?_⟩
  refine (if_pos rfl).mpr ?_
  exact ⟨_, rfl, _, rfl, line_le (by rw [one_len]; decide), rfl, q⟩
theorem ok_step (F : Fun K "is_step" "is_step" sStep f fd) (B : Blt mg) (B2 : Blt2 mg) (Sg : Lt P w K mg base g gd "is_sign" ["thing"] 1 spSign) : FnOk P w K mg base CX0 2 f fd ["thing"] spStep := by
  refine F.ok scStep (fun vs H Q E h => ?_) (fun cdv A outer s H vs Q E hr h => ?_)
  · obtain ⟨_, _, rfl, _⟩ := h
    rfl
  obtain ⟨v, e, rfl, hd, oe, q⟩ := h
  have nd := scStep.nd
  have hr1 : Room 1 _ := hr
  refine ⟨_, pss_cons (ps_if (PW.pt (pw_or (pt_not (pt_val (pe_callB call_isD rfl B.isi bt_isi (pa_cons (pv 0) (pa_cons (pe_bltn (v := .ty "tuple") rfl B2.tuple bt_tuple rfl) pa_nil)))))
      (pw_or (pt_cmpR op_lt (pe_callB call_len_seq rfl B.len PySem.boot_len (pa_cons (pv 0) pa_nil)) pe_int (nomark _)) (pw_or1 (pt_not (pt_val (pe_callB call_isD rfl B.isi bt_isi (pa_cons (pe_ix ix_tup (pv 0) pe_int (fun _ _ => rfl)) (pa_cons (pe_bltn (v := .ty "str") rfl B.str bt_str rfl) pa_nil))))))))) (pss_one (ps_ret pe_bl)) pss_nil)
    (pss_cons (ps_if (pt_cmpR op_eq (pe_ix ix_tup (pv 0) pe_int (fun _ _ => rfl)) pe_str (nomark _)) (pss_one (ps_ret (pe_and (pe_cmpR op_eq (pe_callB call_len_seq rfl B.len PySem.boot_len (pa_cons (pv 0) pa_nil)) pe_int (nomark _)) (pe_and (pe_call Sg.g hr1 rfl Sg.m Sg.k Sg.b .nil pass0 (pa_cons (pe_ix ix_tup (pv 0) pe_int (fun _ _ => rfl)) pa_nil)) (pe_and (pe_call Sg.g hr1 rfl Sg.m Sg.k Sg.b .nil pass0 (pa_cons (pe_ix ix_tup (pv 0) pe_int (fun _ _ => rfl)) pa_nil)) (pe_one (pe_cmpR op_ne (pe_ix ix_tup (pv 0) pe_int (fun _ _ => rfl)) (pe_ix ix_tup (pv 0) pe_int (fun _ _ => rfl)) (nomark _)))))))) pss_nil)
    (pss_one (ps_ret (pe_and (pe_cmpR op_in_seq (pe_ix ix_tup (pv 0) pe_int (fun _ _ => rfl)) (pe_tup (pa_cons pe_str (pa_cons pe_str (pa_cons pe_str pa_nil)))) (by with_unfolding_all rfl)) (pe_and (pe_cmpR op_eq (pe_callB call_len_seq rfl B.len PySem.boot_len (pa_cons (pv 0) pa_nil)) pe_int (nomark _)) (pe_one (pe_call Sg.g hr1 rfl Sg.m Sg.k Sg.b .nil pass0 (pa_cons (pe_ix ix_tup (pv 0) pe_int (fun _ _ => rfl)) pa_nil)))))))), ?_⟩
  obtain ⟨a, rfl, ha⟩ := ed_inv hd
  have hT : SqT K H a (edV e) := SqT.of ha
  refine ⟨_, rfl, _, _, _, _, rfl, hd, (by cases e <;> exact ktt : kitB (tyD (edD e)) "tuple" = some true), true, rfl, ?_⟩
  refine iteF ?_
  cases e
  case swap x y =>
    refine ⟨_, rfl, a, _, rfl, .inr hT, _, _, rfl, rfl, _, rfl, iteF ?_⟩
    refine ⟨_, rfl, a, _, _, _, rfl, rfl, hT, atI_nat (j := 0) rfl, _, _, _, _, rfl, .str _, kss, true, rfl, iteF ?_⟩
    refine ⟨_, rfl, a, _, _, _, rfl, rfl, hT, atI_nat (j := 0) rfl, rfl, _, rfl, iteT ?_⟩
    refine ⟨_, rfl, a, _, rfl, .inr hT, rfl, _, rfl, iteT ?_⟩
    refine ⟨_, rfl, a, _, _, _, rfl, rfl, hT, atI_nat (j := 1) rfl, x, rfl, _, rfl, iteT ?_⟩
    refine ⟨_, rfl, a, _, _, _, rfl, rfl, hT, atI_nat (j := 2) rfl, y, rfl, _, rfl, iteT ?_⟩
    refine ⟨_, rfl, a, _, _, _, rfl, rfl, hT, atI_nat (j := 1) rfl, _, rfl, a, _, _, _, rfl, rfl, hT, atI_nat (j := 2) rfl, rfl, ?_⟩
    have n : ¬ (V.str (one x) = V.str (one y)) := fun z => oe (one_inj (by injection z))
    rw [decide_eq_false n]
    exact q H (Ex.refl _)
  all_goals
    refine ⟨_, rfl, a, _, rfl, .inr hT, _, _, rfl, rfl, _, rfl, iteF ?_⟩
    refine ⟨_, rfl, a, _, _, _, rfl, rfl, hT, atI_nat (j := 0) rfl, _, _, _, _, rfl, .str _, kss, true, rfl, iteF ?_⟩
    refine ⟨_, rfl, a, _, _, _, rfl, rfl, hT, atI_nat (j := 0) rfl, rfl, _, rfl, iteF ?_⟩
    refine ⟨_, rfl, a, _, _, _, rfl, rfl, hT, atI_nat (j := 0) rfl, line_le (by show 3 ≤ 16000000; decide), fun p np => ?_⟩
    have x1 := Ex.new (o := HO.tup [.str "keep", .str "put", .str "drop"]) np
    have hT1 : SqT K (upd H p (HO.tup [.str "keep", .str "put", .str "drop"])) a _ := SqT.of (x1 _ _ ha)
    refine ⟨p, _, rfl, .inr (SqT.of upd_same), rfl, rfl, _, rfl, iteT ?_⟩
    refine ⟨_, rfl, a, _, rfl, .inr hT1, rfl, _, rfl, iteT ?_⟩
    exact ⟨_, rfl, a, _, _, _, rfl, rfl, hT1, atI_nat (j := 1) rfl, _, rfl, q _ x1⟩
theorem kit2 {K : PySem.W.Frag} {ty a b : String} {x y : Bool} (h1 : kitB ty a = some x) (h2 : kitB ty b = some y) : PySem.W.kitAny K (.type ty) [.type a, .type b] = some (x || y) := by
  cases x with
  | true => exact kitAny_cons (kit_ty h1) (fun z => nomatch z) fun _ => rfl
  | false =>
    refine kitAny_cons (kit_ty h1) (fun _ => ?_) fun z => nomatch z
    cases y with
    | true => exact kitAny_cons (kit_ty h2) (fun z => nomatch z) fun _ => rfl
    | false => exact kitAny_cons (kit_ty h2) (fun _ => kitAny_nil) fun z => nomatch z
theorem nle' {n : Nat} (h : n ≤ 1000) : n ≤ sizeLine := line_le (Nat.le_trans h (by decide))
theorem ok_are (F : Fun K "are_steps" "are_steps" sAre f fd) (B : Blt mg) (B2 : Blt2 mg) (St : Lt P w K mg base g gd "is_step" ["thing"] 2 spStep) : FnOk P w K mg base CX0 3 f fd ["thing"] spAre := by
  refine F.ok scAre (fun vs H Q E h => ?_) (fun cdv A outer s H vs Q E hr h => ?_)
  · obtain ⟨_, _, _, rfl, _⟩ := h
    rfl
  obtain ⟨a, ws, es, rfl, ha, hd, oe, q⟩ := h
  have nd := scAre.nd
  have hr2 : Room 2 _ := hr
  refine ⟨_, pss_cons (ps_if (pt_not (pt_val (pe_callB call_isiT rfl B.isi bt_isi (pa_cons (pv 0) (pa_cons (pe_tup (pa_cons (pe_bltn (v := .ty "list") rfl B.list bt_list rfl) (pa_cons (pe_bltn (v := .ty "tuple") rfl B2.tuple bt_tuple rfl) pa_nil))) pa_nil))))) (pss_one (ps_ret pe_bl)) pss_nil)
    (pss_one (ps_ret (pe_cmpR (op_eqD hr.units) (pe_lc (own := [("step", 1)]) (g := gName 1) rfl nd (pi_list (pv 0)) (blkOk_by (N := ["thing", "step"]) (sc := defScope sAre) (by decide +kernel)) (fun _ _ _ _ _ => pg_name (i := 1) nd rfl (Or.inl rfl))
      (fun _ _ _ _ _ => pts_one (pt_not (pt_val (pe_call St.g hr2 rfl St.m St.k St.b .nil pass0 (pa_cons (pv 1) pa_nil))))) (fun _ _ _ _ _ => pv 1)) (pe_lst pa_nil) (nomark _)))), ?_⟩
  refine ⟨_, rfl, nle' (by show 2 ≤ 1000; decide), fun T hT => ⟨_, T, _, _, _, true, rfl, upd_same, .cons (.ty _) (.cons (.ty _) .nil), .base (.lst ((Ex.new hT) _ _ ha)), kit2 kll klt, _, rfl, ?_⟩⟩
  have xT := Ex.new (o := HO.tup [.ty "list", .ty "tuple"]) hT
  generalize upd H T (HO.tup [.ty "list", .ty "tuple"]) = H1 at xT ⊢
  refine ⟨_, rfl, a, rfl, ⟨_, SqL.of (xT _ _ ha)⟩, fun D hD => ?_⟩
  refine lc_list (xs := ws) (fun i H' => Ex H1 H' ∧ H' D = some (.lst [])) ⟨Ex.new hD, upd_same⟩ (fun i H' _ p => SqL.of (p.1 _ _ (xT _ _ ha))) (fun i x H' hx p => ?_) (fun H' p => ?_)
  · obtain ⟨p1, p2⟩ := p
    obtain ⟨d, hdd, hq⟩ := hd.get hx
    rw [List.getElem?_map] at hdd
    obtain ⟨e, he, rfl⟩ := Option.map_eq_some_iff.mp hdd
    refine ⟨rfl, _, rfl, _, e, rfl, hq.mono (xT.trans p1), oe e (List.mem_of_getElem? he), fun H2 x2 => ⟨_, rfl, ?_⟩⟩
    exact iteF ⟨p1.trans x2, x2 _ _ p2⟩
  · obtain ⟨p1, p2⟩ := p
    refine ⟨nle' (by show 0 ≤ 1000; decide), fun l hl => ⟨.list [], .list [], .lst (SqL.of ((Ex.new hl) _ _ p2)) .nil, .lst (SqL.of upd_same) .nil, rfl, rfl, ?_⟩⟩
    exact q _ (xT.trans (p1.trans (Ex.new hl)))
end
end Sk

/-! A text times a number; x + y of an own class, in a try; either of two promises. -/
namespace Sk
open PySem PySem.Spec PyProof.Rows L2 Evl
section
variable {X : Cx}
def rMulS : R2 := fun x y H Q => ∃ (z : Str) (k : Int), x = .str z ∧ y = .int k ∧ MulOk z k ∧ Q (.str (Txt.mul z k)) H
theorem op_mulS : OpR X (binaryOp .Mult) rMulS := by
  intro pins s σ H x y v u Q I rx ry h
  obtain ⟨z, k, rfl, rfl, hk, q⟩ := h
  obtain ⟨t, rfl⟩ := rx
  obtain ⟨t', rfl⟩ := ry
  exact SB.mul hk fun t2 k2 => ⟨.str _, H, I.tok k2, ⟨_, rfl⟩, q⟩
theorem mul_mk (cs : List Nat) (k : Nat) (h : 1 ≤ k) : Txt.mul ⟨cs.toArray⟩ (k : Int) = ⟨(List.replicate k cs).flatten.toArray⟩ := by
  have fl : ∀ (n : Nat) (acc : Array Nat), (List.replicate n cs.toArray).foldl (· ++ ·) acc = acc ++ (List.replicate n cs).flatten.toArray := by
    intro n
    induction n with
    | zero => intro acc; simp
    | succ n ih =>
      intro acc
      rw [List.replicate_succ, List.foldl_cons, ih, List.replicate_succ, List.flatten_cons]
      simp [Array.append_assoc]
  unfold Txt.mul
  rw [if_neg (by omega)]
  split
  · rename_i hc
    rw [Bool.or_eq_true, beq_iff_eq, beq_iff_eq] at hc
    rcases hc with e | e
    · have : k = 1 := by omega
      subst this
      simp
    · have : cs = [] := by
        have e' : cs.toArray.size = 0 := e
        simpa using e'
      subst this
      have : (List.replicate k ([] : List Nat)).flatten = [] := by simp
      rw [this]
  · rw [Int.toNat_natCast]
    show (⟨(List.replicate k cs.toArray).foldl (· ++ ·) #[]⟩ : Str) = _
    rw [fl]
    simp
variable {CX : CXT} {n : Nat} {C g : Addr} {sp : Sp} {a b : Expr} {ta tb : TE} {pos : Pos}
theorem run_fnRT {pins : List (Addr × Obj)} {σ : L2.St} {H : Hp} {s : Shared} {Q : VK} {us : List Value} {vs : List V} {E : XK} (F : FnR X.prog X.w X.K X.mg X.base CX n g sp) (hr : Room n X.A) (hx : PassesAt CX X σ E) (I : Inv X pins σ H s) (r : Vals vs us) (h : sp vs H Q E) :
    codeAny (model X.prog X.w) X.A (.call (.ref g) ⟨us, []⟩) (fun r s' => match r with | .ok (.ret v) => EP X pins σ Q v s' | .ok _ => False | .error e => X.xe e s') s := by
  refine codeAny_mono (F X.A X.stack s H us vs Q E hr I.env0 r h) fun r s' hq => ?_
  cases r with
  | error e => exact hx pins H s e s' I hq
  | ok fl =>
    cases fl with
    | ret u => exact I.after hq
    | next => exact False.elim hq
    | brk => exact False.elim hq
    | cont => exact False.elim hq
/-- x + y of an own class, what is raised wished for at the slots -/
def tBinS (C : Addr) (sp : Sp) (E : L2.St → XK) (ta tb : TE) : TE := fun σ H Q => ta σ H fun x H1 => tb σ H1 fun y H2 => rBinI C sp (E σ) x y H2 Q
theorem pe_binS {op : Operator} {E : L2.St → XK} (hc : PySem.W.selfFirst X.K C = true) (hs : PySem.W.findIn X.K (.ref C) (PySem.dunder op.info.2) = some (some (.ref g))) (hf : PySem.W.isFn X.K (.ref g) = true) (F : FnR X.prog X.w X.K X.mg X.base CX n g sp)
    (hr : Room n X.A) (hx : ∀ σ, PassesAt CX X σ (E σ)) (ha : PE X a ta) (hb : PE X b tb) : PE X (.BinOp a op b pos) (tBinS C sp E ta tb) := by
  refine ⟨fun pins s σ H Q I h => wpAny_BinOp (binT ha hb I h fun v u s2 x y H2 I2 rx ry q => ?_)⟩
  obtain ⟨p, r, dx, dy, fs, gs, rfl, rfl, h1, h2, q⟩ := q
  cases (show v = Value.ref p from rx)
  cases (show u = Value.ref r from ry)
  obtain ⟨ox, od, J⟩ := ins_at I2 h1
  obtain ⟨oy, od', J'⟩ := ins_at I2 h2
  obtain ⟨m, hF⟩ := I2.fr
  refine PySem.W.binop_K hF I2.ok.mod.kin J J'.type hc hs hf ?_
  refine wpAny_mono (wpAny_call (run_fnRT (us := [.ref p, .ref r]) (vs := [.ref p, .ref r]) F hr (hx σ) I2 (.cons rfl (.cons rfl .nil)) q)) (fun w s' z => ?_) fun _ _ x => x
  obtain ⟨z', H', I', rz, qz⟩ := z
  exact SlX.cmpback rz ⟨z', H', I', rz, qz⟩
end
theorem fn_or {P : Program} {w : World} {K : PySem.W.Frag} {mg : Str → Option Value} {base : Heap} {CX : CXT} {k : Nat} {f : Addr} {fd : FuncData} {ps : List Str} {sp sp' : Sp} (F : FnOk P w K mg base CX k f fd ps sp) (G : FnOk P w K mg base CX k f fd ps sp') :
    FnOk P w K mg base CX k f fd ps (fun vs H Q E => sp vs H Q E ∨ sp' vs H Q E) :=
  ⟨fun vs H Q E q => q.elim (F.len vs H Q E) (G.len vs H Q E), fun A outer s H args us vs Q E hr he hb hv hs => hs.elim (F.run A outer s H args us vs Q E hr he hb hv) (G.run A outer s H args us vs Q E hr he hb hv)⟩
end Sk

/-! The dict {None: 0}; list(d.values()). -/
namespace Sk
open PySem PySem.Spec PyProof.Rows L2 Evl
def nEn (t : Nat) : DictEntry := ⟨reduceHash 0xFCA86420, .none, .int 0 t⟩
def NDx (a : Addr) (o : Obj) (h : Heap) : Prop := h.get? a = some o ∧ o.ExactDict ∧ (∃ ep t : Nat, o.data = .dict #[nEn t] ep) ∧ (a == sysModules) = false
def NoneD (a : Addr) (o : Obj) : HO := .ext (NDx a o)
theorem noneD_ok {P : Program} {w : World} {H : Hp} {h : Heap} {a : Addr} {o : Obj} (x : NDx a o h) : ObjOk P w H h a (NoneD a o) :=
  ⟨x, ⟨o, x.1⟩, fun _ _ q k => ⟨k o q.1, q.2⟩⟩
theorem one_pair {P : Program} {w : World} {es : Array DictEntry} {v : Value} (p : Pairs (noneKind P w) es.toList [(none, v)]) (k : KeysOf (noneKind P w) es) : es = #[⟨reduceHash 0xFCA86420, .none, v⟩] := by
  obtain ⟨l⟩ := es
  have p' : Pairs (noneKind P w) l [(none, v)] := p
  cases p' with
  | cons h1 h2 h3 =>
    cases h3
    rename_i e
    obtain ⟨hs, ky, vl⟩ := e
    have e1 : ky = .none := nk_none (show nkIs none ky = true from h1)
    have e2 : vl = v := h2
    subst e1 e2
    obtain ⟨k, hk, hh⟩ := k ⟨hs, .none, vl⟩ (by simp)
    cases k with
    | some k => exact absurd (show keyIs k .none = true from hk) (keyIs_none k)
    | none =>
      have e3 : hs = reduceHash 0xFCA86420 := hh
      subst e3
      rfl
section
variable {X : Cx} {pins : List (Addr × Obj)} {σ : L2.St} {H : Hp} {s : Shared}
theorem noneD_inv {a : Addr} {o : Obj} (I : Inv X pins σ H s) (h : H a = some (NoneD a o)) : NDx a o s.heap := (show ObjOk X.prog X.w H s.heap a (NoneD a o) from I.hok _ _ h).1
theorem noneD_dict {a : Addr} {o : Obj} (I : Inv X pins σ H s) (h : H a = some (NoneD a o)) : (a == sysModules) = false ∧ ∃ t, s.heap.DictOf (noneKind X.prog X.w) a [(none, .int 0 t)] := by
  obtain ⟨g, x, ⟨ep, t, d⟩, lo⟩ := noneD_inv I h
  refine ⟨lo, t, o, #[nEn t], ep, g, x, d, (fun e m => ?_), .cons rfl rfl .nil, by simp⟩
  have e' : e = nEn t := by simpa using m
  subst e'
  exact ⟨none, rfl, rfl⟩
/-- len -/
theorem call_lenN : CallR X (.builtin "len") (fun xs H Q => ∃ a o, xs = [V.ref a] ∧ H a = some (NoneD a o) ∧ Q (.int 1) H) := by
  intro pins s σ H xs us Q I r h
  obtain ⟨a, o, rfl, ha, q⟩ := h
  obtain ⟨u, rfl, ru⟩ := vals1 r
  cases (show u = Value.ref a from ru)
  obtain ⟨lo, t, dd⟩ := noneD_dict I ha
  exact call_len_dict lo dd (by show (1 : Int) < 2 ^ 63; decide) ⟨.int 1, H, I.tok _, ⟨_, rfl⟩, q⟩
end
/-- {None: 0} -/
def tDispN (tv : TE) : TE := fun σ H Q => ∀ p, H p = none → tv σ (upd H p (.dK [])) fun y H2 => H2 p = some (.dK []) ∧ y = .int 0 ∧ ∀ o, Q (.ref p) (upd H2 p (NoneD p o))
theorem empty_any {P : Program} {w : World} {h : Heap} {a : Addr} (d : h.DictOf (mixKind P w) a []) : h.DictOf (noneKind P w) a [] := by
  obtain ⟨o, es, ep, ho, hx, hd, hk, hp, hn⟩ := d
  have e : es = #[] := by
    have : es.toList = [] := by
      generalize es.toList = l at hp
      cases hp
      rfl
    exact Array.toList_eq_nil_iff.mp this
  subst e
  exact ⟨o, #[], ep, ho, hx, hd, (fun _ m => by simp at m), .nil, by simp⟩
theorem pe_dispN {X : Cx} {v : Expr} {j : Nat} {pos kp : Pos} {tv : TE} (hv : PE X v tv) : PE X (.Dict [some (.Constant .none j kp)] [v] pos) (tDispN tv) := by
  refine ⟨fun pins s σ H Q I q => ?_⟩
  have hn := I.hok.fresh (Nat.le_refl s.heap.objs.size)
  have I1 := I.laid (a := s.heap.objs.size) (o := .dK []) (h' := s.heap.push { cls := .type "dict", data := .dict #[] }) (t' := s.toks) (fun _ _ q => Heap.get?_push_of_some _ q) (Nat.le_refl _) (dk_empty s.heap I.big)
  refine wpAny_Dict_walk (knd := noneKind X.prog X.w) rfl rfl (by simp) (by simp) (pairTrees_cons_walk (Constant_none (thn (hv.run pins _ σ _ _ I1 (q _ hn)) fun w2 s2 ⟨y, H2, I2, ry, q2⟩ => pairTrees_nil_walk ?_)))
  obtain ⟨e, ey, q3⟩ := q2
  subst ey
  obtain ⟨t, rfl⟩ := ry
  obtain ⟨z, hd, vs0, r0, dd⟩ := dk_of I2.hok e
  cases r0
  refine ⟨[(none, .int 0 t)], ⟨rfl, rfl, trivial⟩, empty_any dd, fun h' dd' hs => ?_⟩
  obtain ⟨o, es, ep, ho, hx, hdt, hk, hp, hn2⟩ := dd'
  have e1 := one_pair (show Pairs (noneKind X.prog X.w) es.toList [(none, .int 0 t)] from hp) hk
  subst e1
  exact ⟨.ref s.heap.objs.size, _, d_write I2 (by rw [e]; exact True.intro) hs ⟨o, ho⟩ (noneD_ok ⟨ho, hx, ⟨ep, t, hdt⟩, hd⟩), rfl, q3 o⟩
/-! ### walked by its one key -/
def Itn (d : Addr) (o : Obj) : It := ⟨fun i H => H d = some (NoneD d o) ∧ i < 1, fun i H x H' => H' = H ∧ x = .non, fun i H => H d = some (NoneD d o) ∧ 1 ≤ i⟩
section
variable {P : Program} {w : World} {K : PySem.W.Frag} {tg : Expr} {d : Addr} {o : Obj} {ep t : Nat}
theorem turn_none (it : Addr) (hod : o.data = .dict #[nEn t] ep) : Turn P w K tg (Itn d o) [it] it (fun i h => h.IsKeyIter it d i 1 ep) where
  mem := by simp
  obj := fun i h st b hb => by
    have e : b = it := by simpa using hb
    subst e
    obtain ⟨oi, e, c, dd⟩ := st
    exact ⟨oi, e, fun v z => by rw [dd] at z; cases z⟩
  keep := fun i h h' st k => st.at fun oi e => k it (by simp) oi e
  item := by
    intro X hP hw hK hc i pins s σ H E I hf st hg
    subst hP hw hK
    obtain ⟨hd, hi⟩ := hg
    obtain ⟨f0, f1, f2, f3, f4, f5⟩ := hf it (by simp)
    obtain ⟨hgd, hx, _, lo⟩ := noneD_inv I hd
    have i0 : i = 0 := by omega
    subst i0
    refine next_key_item st hgd hod rfl (en := nEn t) rfl fun h' st' sb => ?_
    have I1 : Inv X pins σ H { s with heap := h' } := I.turned (t' := s.toks) (fun b ob hb e => (sb.2 b hb).trans e) f0 f1 f3 f4 f5
    obtain ⟨oi, e, c, dd⟩ := id st'
    exact ⟨.none, rfl, go_of (s := { s with heap := h' }) e c dd (by decide) ⟨.non, H, I1, rfl, ⟨rfl, rfl⟩, st', fun b hb => (hf b hb).1⟩⟩
  done := by
    intro X hP hw hK hc i pins s σ H E I hf st hg
    subst hP hw hK
    obtain ⟨hd, hi⟩ := hg
    obtain ⟨f0, f1, f2, f3, f4, f5⟩ := hf it (by simp)
    obtain ⟨hgd, hx, _, lo⟩ := noneD_inv I hd
    exact next_key_end (I.ok.hd hc) st hgd hod rfl hi fun h' eb => ⟨rfl, I.turned (t' := s.toks) (fun b ob hb e => eb b ob hb e) f0 f1 f3 f4 f5⟩
  self := fun A i s Q E st h => wpAny_pyIter_keyiter st h
end
def iNone (td : TE) : TI := fun σ H R => td σ H fun x H1 => ∃ d o, x = .ref d ∧ H1 d = some (NoneD d o) ∧ R (Itn d o) H1
section
variable {X : Cx} {tg e : Expr} {td : TE}
theorem pi_none (he : PE X e td) : PI X tg e (iNone td) := by
  refine ⟨fun pins s σ H R I h => ?_⟩
  refine thn (he.run pins s σ H _ I h) fun u s1 ⟨x, H1, I1, rx, d, o, ex, hd, q⟩ => ?_
  subst ex
  obtain rfl : u = Value.ref d := rx
  obtain ⟨hgd, hx, ⟨ep, t, hdt⟩, lo⟩ := noneD_inv I1 hd
  exact iter_keys lo hgd hx hdt (pi_one (tk := s1.toks) I1 _ (turn_none _ hdt) ⟨_, Heap.get?_push_size _ rfl, rfl, rfl⟩ q)
/-- either way of reading -/
theorem PI.or {ta tb : TI} (ha : PI X tg e ta) (hb : PI X tg e tb) : PI X tg e (fun σ H R => ta σ H R ∨ tb σ H R) := ⟨fun pins s σ H R I h => h.elim (ha.run pins s σ H R I) (hb.run pins s σ H R I)⟩
theorem PE.or {ta tb : TE} (ha : PE X e ta) (hb : PE X e tb) : PE X e (fun σ H Q => ta σ H Q ∨ tb σ H Q) := ⟨fun pins s σ H R I h => h.elim (ha.run pins s σ H R I) (hb.run pins s σ H R I)⟩
theorem PS.or {st : Stmt} {ta tb : TS} (ha : PS X st ta) (hb : PS X st tb) : PS X st (fun D σ H => ta D σ H ∨ tb D σ H) := ⟨fun pins s σ H D I h => h.elim (ha.run pins s σ H D I) (hb.run pins s σ H D I)⟩
end
theorem for_none {d : Addr} {o : Obj} {g : TG} {tb : TS} {D : Ends} {σ : L2.St} {H : Hp} (Pv : Nat → L2.St → Hp → Prop) (h0 : Pv 0 σ H) (hl : ∀ i σ H, i ≤ 1 → Pv i σ H → H d = some (NoneD d o))
    (hs : ∀ σ H, Pv 0 σ H → g .non σ H fun σ2 H2 => tb { D with nx := Pv 1, ct := Pv 1, bk := D.nx } σ2 H2) (hd : ∀ σ H, Pv 1 σ H → D.nx σ H) :
    ∃ W : Nat → Nat → L2.St → Hp → Prop, (∃ m, W 0 m σ H) ∧ ∀ i m σ H, W i m σ H →
      ((Itn d o).stop i H ∧ D.nx σ H) ∨ ((Itn d o).go i H ∧ ∃ N : L2.St → Hp → Prop, (∀ σ' H', N σ' H' → ∃ m', m' < m ∧ W (i + 1) m' σ' H') ∧ ∀ x H', (Itn d o).yld i H x H' → g x σ H' fun σ2 H2 => tb { D with nx := N, ct := N, bk := D.nx } σ2 H2) := by
  refine ⟨fun i m σ H => m = 1 - i ∧ i ≤ 1 ∧ Pv i σ H, ⟨1, by simp, Nat.zero_le _, h0⟩, ?_⟩
  rintro i m σ H ⟨rfl, hi, p⟩
  by_cases hlt : i < 1
  · have i0 : i = 0 := by omega
    subst i0
    refine .inr ⟨⟨hl _ _ _ hi p, hlt⟩, Pv 1, fun σ' H' p' => ⟨0, by omega, by omega, Nat.le_refl _, p'⟩, fun x H' y => ?_⟩
    obtain ⟨e, y⟩ := y
    subst e y
    exact hs σ _ p
  · have e : i = 1 := by omega
    subst e
    exact .inl ⟨⟨hl _ _ _ hi p, Nat.le_refl _⟩, hd σ H p⟩
theorem lc_none {d : Addr} {o : Obj} {g : TG} {tt : TT} {te : TE} {vs : List Nat} {σ : L2.St} {H1 : Hp} {D : Addr} {Qd : Hp → Prop} (Pv : Nat → Hp → Prop) (h0 : Pv 0 (upd H1 D (.lst []))) (hl : ∀ i H, i ≤ 1 → Pv i H → H d = some (NoneD d o))
    (hs : ∀ H, Pv 0 H → g .non (wipe σ vs) H fun σ2 H2 => wipe σ2 vs = wipe σ vs ∧ tt σ2 H2 fun b H3 =>
      if b = true then te σ2 H3 fun y H4 => ∃ acc, H4 D = some (.lst acc) ∧ acc.length < sizeLine ∧ Pv 1 (upd H4 D (.lst (acc ++ [y]))) else Pv 1 H3) (hd : ∀ H, Pv 1 H → Qd H) :
    ∃ W : Nat → Nat → Hp → Prop, (∃ m, W 0 m (upd H1 D (.lst []))) ∧ ∀ i m H, W i m H →
      ((Itn d o).stop i H ∧ Qd H) ∨ ((Itn d o).go i H ∧ ∃ Nx : Hp → Prop, (∀ H', Nx H' → ∃ m', m' < m ∧ W (i + 1) m' H') ∧ ∀ x H', (Itn d o).yld i H x H' → g x (wipe σ vs) H' fun σ2 H2 => wipe σ2 vs = wipe σ vs ∧ tt σ2 H2 fun b H3 =>
        if b = true then te σ2 H3 fun y H4 => ∃ acc, H4 D = some (.lst acc) ∧ acc.length < sizeLine ∧ Nx (upd H4 D (.lst (acc ++ [y]))) else Nx H3) := by
  refine ⟨fun i m H => m = 1 - i ∧ i ≤ 1 ∧ Pv i H, ⟨1, by simp, Nat.zero_le _, h0⟩, ?_⟩
  rintro i m H ⟨rfl, hi, p⟩
  by_cases hlt : i < 1
  · have i0 : i = 0 := by omega
    subst i0
    refine .inr ⟨⟨hl _ _ hi p, hlt⟩, Pv 1, fun H' p' => ⟨0, by omega, by omega, Nat.le_refl _, p'⟩, fun x H' y => ?_⟩
    obtain ⟨e, y⟩ := y
    subst e y
    exact hs _ p
  · have e : i = 1 := by omega
    subst e
    exact .inl ⟨⟨hl _ _ hi p, Nat.le_refl _⟩, hd H p⟩
theorem kv_vals : ∀ {kvs : List (Key × V)} {vs : List (Key × Value)}, KV kvs vs → Vals (kvs.map (·.2)) (vs.map (·.2))
  | _, _, .nil => .nil
  | _, _, .cons r t => .cons r.2 (kv_vals t)
/-! ### list(d.values()) -/
def tListVals (te : TE) : TE := fun σ H Q => te σ H fun x H1 => ∃ (d : Addr) (kvs : List (Key × V)), x = .ref d ∧ H1 d = some (.dK kvs) ∧ ∀ p, H1 p = none → Q (.ref p) (upd H1 p (.lst (kvs.map (·.2))))
section
variable {X : Cx} {e : Expr} {te : TE} {p apos cpos pos : Pos}
theorem pe_listVals (hc : X.calm = true) (he : PE X e te) (hg : Gl X "list") (hm : X.mg "list" = none) (hv : bootBuiltins "list" = some (.type "list")) (hbase : attributeBase e "values" X.env (eval e X.env) = eval e X.env := by rfl) (hline : (apos.endLine == cpos.line) = true := by rfl)
    (hs : starEach [.Call (.Attribute e "values" apos) [] [] cpos] X.env = (false, eval (.Call (.Attribute e "values" apos) [] [] cpos) X.env) :: starEach [] X.env := by rfl) :
    PE X (.Call (.Name "list" p) [.Call (.Attribute e "values" apos) [] [] cpos] [] pos) (tListVals te) := by
  refine ⟨fun pins s σ H Q I hq => ?_⟩
  refine wpAny_Call_Name_kw (ld_blt I hg hm hv ?_)
  refine PyProof.Rows.callWith_type1 ?_ hs rfl
  rw [hs]
  show wpAny _ _ (spliced ((false, eval (.Call (.Attribute e "values" apos) [] [] cpos) X.env) :: backTo pos (starEach [] X.env))) _ _ s
  refine Calls.spliced_cons ?_
  refine wpAny_Call_method (T := "dict") (id := "dict.values") hbase rfl hline F.plainAttrs_dict F.slot_dict_values F.type_dict_values (thn (he.run pins s σ H _ I hq) fun u s1 ⟨x, H1, I1, rx, d, kvs, ex, hd, q⟩ => ?_)
  subst ex
  obtain rfl : u = Value.ref d := rx
  obtain ⟨hz, hs0, vs, kv, hdo⟩ := I1.hok d _ hd
  obtain ⟨ep, hat⟩ := hdo.dictAt
  have lk : kvs.length = vs.length := Paired.length kv
  have I2 : Inv X pins σ H1 { s1 with heap := s1.heap.push { cls := .type "dict_values", data := .fields #[.ref d] } } := I1.kept (t' := s1.toks) fun b ob q => Heap.get?_push_of_some _ q
  refine ⟨hdo.typeIs, hdo.mapOf.noDict, ?_⟩
  show wpAny _ _ (callWith cpos (.builtin "dict.values") [.ref d] [] []) _ X.xe s1
  refine method_meetsIn F.slot_dict_values F.entry_dict_values rfl (PySem.evalArgs_none ⟨rfl, hdo.typeIs, F.args_dict_values_1 _, _, meets_dict_values (mixKind X.prog X.w) d hs0, ⟨vs, hdo⟩, ?_⟩)
  refine Calls.spliced_nil ?_
  refine PySem.W.kdl_call (PySem.W.kdl_values (knd := mixKind X.prog X.w) (kvs := vs) (ep := ep)) (I1.ok.hd hc) ⟨⟨_, Heap.get?_push_size _ rfl, rfl, rfl⟩, hat.push _⟩ (by rw [← lk]; exact hz) fun h' tk acc c' hk hD hacc => ?_
  have ea : acc.toList = vs.map (·.2) := by
    refine List.ext_getElem? fun j => ?_
    rw [List.getElem?_map]
    cases z : acc.toList[j]? with
    | some v =>
      obtain ⟨k, hk2⟩ := hacc.2 j v (by rw [← Array.getElem?_toList]; exact z)
      rw [hk2]; rfl
    | none =>
      have h1 : acc.toList.length ≤ j := List.getElem?_eq_none_iff.mp z
      rw [Array.length_toList, hacc.1] at h1
      rw [List.getElem?_eq_none h1]; rfl
  have hv2 : Vals (kvs.map (·.2)) acc.toList := by
    rw [ea]
    exact kv_vals kv
  exact ⟨.ref _, upd H1 _ (.lst (kvs.map (·.2))), I2.laid (t' := tk) hk (Nat.le_refl _) (show ObjOk X.prog X.w _ _ _ (.lst (kvs.map (·.2))) from ⟨by rw [List.length_map]; exact hz, acc.toList, c', hv2, by rw [Array.toArray_toList]; exact hD⟩), rfl, q _ (I2.hok.fresh (Nat.le_refl _))⟩
end
end Sk

/-! Things: data of any depth, dicts with keys ints and texts, and {None: 0}. -/
namespace Sk
open PySem PySem.Spec PyProof.Rows L2 Evl
def kPd : Key → PyData
  | .inl i => .int i
  | .inr x => .str x
def kSh : Key → Prop
  | .inl _ => True
  | .inr x => x.length ≤ 1000
mutual
inductive Dt (H : Hp) : V → PyData → Prop
  | non : Dt H .non .none
  | bl (b : Bool) : Dt H (.bl b) (.bool b)
  | int (i : Int) : Dt H (.int i) (.int i)
  | str (x : Str) (h : x.length ≤ 1000) : Dt H (.str x) (.str x)
  | lst {a xs ds} (e : H a = some (.lst xs)) (r : DtAll H xs ds) : Dt H (.ref a) (.list ds)
  | tup {a xs ds} (e : H a = some (.tup xs)) (r : DtAll H xs ds) : Dt H (.ref a) (.tuple ds)
  | dct {a kvs ds} (e : H a = some (.dK kvs)) (nd : (kvs.map (·.1)).Nodup) (r : DtKv H kvs ds) : Dt H (.ref a) (.dict ds)
  | dn {a o} (e : H a = some (NoneD a o)) : Dt H (.ref a) (.dict [(.none, .int 0)])
inductive DtAll (H : Hp) : List V → List PyData → Prop
  | nil : DtAll H [] []
  | cons {v vs d ds} (x : Dt H v d) (r : DtAll H vs ds) : DtAll H (v :: vs) (d :: ds)
inductive DtKv (H : Hp) : List (Key × V) → List (PyData × PyData) → Prop
  | nil : DtKv H [] []
  | cons {k : Key} {v d kvs ds} (hk : kSh k) (x : Dt H v d) (r : DtKv H kvs ds) : DtKv H ((k, v) :: kvs) ((kPd k, d) :: ds)
end
mutual
theorem Dt.mono {H H' : Hp} (e : Ex H H') : ∀ {v d}, Dt H v d → Dt H' v d
  | _, _, .non => .non
  | _, _, .bl b => .bl b
  | _, _, .int i => .int i
  | _, _, .str x h => .str x h
  | _, _, .lst h r => .lst (e _ _ h) (r.mono e)
  | _, _, .tup h r => .tup (e _ _ h) (r.mono e)
  | _, _, .dct h nd r => .dct (e _ _ h) nd (r.mono e)
  | _, _, .dn h => .dn (e _ _ h)
theorem DtAll.mono {H H' : Hp} (e : Ex H H') : ∀ {v d}, DtAll H v d → DtAll H' v d
  | _, _, .nil => .nil
  | _, _, .cons x r => .cons (x.mono e) (r.mono e)
theorem DtKv.mono {H H' : Hp} (e : Ex H H') : ∀ {v d}, DtKv H v d → DtKv H' v d
  | _, _, .nil => .nil
  | _, _, .cons hk x r => .cons hk (x.mono e) (r.mono e)
end
theorem DtAll.length {H : Hp} : ∀ {xs ds}, DtAll H xs ds → xs.length = ds.length
  | _, _, .nil => rfl
  | _, _, .cons _ r => congrArg Nat.succ r.length
theorem DtKv.length {H : Hp} : ∀ {xs ds}, DtKv H xs ds → xs.length = ds.length
  | _, _, .nil => rfl
  | _, _, .cons _ _ r => congrArg Nat.succ r.length
theorem DtAll.get {H : Hp} : ∀ {xs ds}, DtAll H xs ds → ∀ {i : Nat} {v : V}, xs[i]? = some v → ∃ d, ds[i]? = some d ∧ Dt H v d
  | _, _, .nil, _, _, e => by simp at e
  | _, _, .cons x r, 0, _, e => by simp at e; subst e; exact ⟨_, rfl, x⟩
  | _, _, .cons x r, i + 1, _, e => by
    obtain ⟨d, h1, h2⟩ := r.get (i := i) (by simpa using e)
    exact ⟨d, by simpa using h1, h2⟩
theorem DtAll.snoc {H : Hp} : ∀ {xs ds}, DtAll H xs ds → ∀ {v d}, Dt H v d → DtAll H (xs ++ [v]) (ds ++ [d])
  | _, _, .nil, _, _, x => .cons x .nil
  | _, _, .cons y r, _, _, x => .cons y (r.snoc x)
theorem DtAll.app {H : Hp} : ∀ {xs ds ys es}, DtAll H xs ds → DtAll H ys es → DtAll H (xs ++ ys) (ds ++ es)
  | _, _, _, _, .nil, q => q
  | _, _, _, _, .cons y r, q => .cons y (r.app q)
theorem DtKv.get {H : Hp} : ∀ {xs ds}, DtKv H xs ds → ∀ {i : Nat} {k : Key} {v : V}, xs[i]? = some (k, v) → ∃ d, ds[i]? = some (kPd k, d) ∧ kSh k ∧ Dt H v d
  | _, _, .nil, _, _, _, e => by simp at e
  | _, _, .cons hk x r, 0, _, _, e => by simp at e; obtain ⟨rfl, rfl⟩ := e; exact ⟨_, rfl, hk, x⟩
  | _, _, .cons hk x r, i + 1, _, _, e => by
    obtain ⟨d, h1, h2⟩ := r.get (i := i) (by simpa using e)
    exact ⟨d, by simpa using h1, h2⟩
theorem DtKv.vals {H : Hp} : ∀ {xs ds}, DtKv H xs ds → DtAll H (xs.map (·.2)) (ds.map (·.2))
  | _, _, .nil => .nil
  | _, _, .cons _ x r => .cons x r.vals
theorem Dt.key {H : Hp} {k : Key} (h : kSh k) : Dt H (kV k) (kPd k) := by
  cases k with
  | inl i => exact .int i
  | inr x => exact .str x h
theorem kPd_ty (k : Key) : (∀ xs, kPd k ≠ .list xs) ∧ ∀ xs, kPd k ≠ .dict xs := by
  cases k
  · exact ⟨(fun _ z => nomatch z), (fun _ z => nomatch z)⟩
  · exact ⟨(fun _ z => nomatch z), (fun _ z => nomatch z)⟩
/-! ### a thing is told by its value -/
mutual
theorem Dt.fn {H : Hp} : ∀ {v d}, Dt H v d → ∀ {d'}, Dt H v d' → d = d'
  | _, _, .non, _, h => by cases h; rfl
  | _, _, .bl b, _, h => by cases h; rfl
  | _, _, .int i, _, h => by cases h; rfl
  | _, _, .str x _, _, h => by cases h; rfl
  | _, _, .lst e r, _, h => by
    cases h with
    | lst e' r' =>
      rw [e] at e'
      cases e'
      rw [r.fn r']
    | tup e' r' => rw [e] at e'; cases e'
    | dct e' nd' r' => rw [e] at e'; cases e'
    | dn e' => rw [e] at e'; cases e'
  | _, _, .tup e r, _, h => by
    cases h with
    | tup e' r' =>
      rw [e] at e'
      cases e'
      rw [r.fn r']
    | lst e' r' => rw [e] at e'; cases e'
    | dct e' nd' r' => rw [e] at e'; cases e'
    | dn e' => rw [e] at e'; cases e'
  | _, _, .dct e nd r, _, h => by
    cases h with
    | dct e' nd' r' =>
      rw [e] at e'
      cases e'
      rw [r.fn r']
    | tup e' r' => rw [e] at e'; cases e'
    | lst e' r' => rw [e] at e'; cases e'
    | dn e' => rw [e] at e'; cases e'
  | _, _, .dn e, _, h => by
    cases h with
    | dn e' => rfl
    | tup e' r' => rw [e] at e'; cases e'
    | lst e' r' => rw [e] at e'; cases e'
    | dct e' nd' r' => rw [e] at e'; cases e'
theorem DtAll.fn {H : Hp} : ∀ {v d}, DtAll H v d → ∀ {d'}, DtAll H v d' → d = d'
  | _, _, .nil, _, h => by cases h; rfl
  | _, _, .cons x r, _, h => by
    cases h with
    | cons x' r' => rw [x.fn x', r.fn r']
theorem DtKv.fn {H : Hp} : ∀ {v d}, DtKv H v d → ∀ {d'}, DtKv H v d' → d = d'
  | _, _, .nil, _, h => by cases h; rfl
  | _, _, .cons _ x r, _, h => by
    cases h with
    | cons _ x' r' => rw [x.fn x', r.fn r']
end
/-! ### what is less deep does not hold the whole -/
mutual
theorem Dt.off {H : Hp} {a : Addr} {D : PyData} (hD : Dt H (.ref a) D) : ∀ {v d}, Dt H v d → d.depth < D.depth → Dt (Hd a H) v d
  | _, _, .non, _ => .non
  | _, _, .bl b, _ => .bl b
  | _, _, .int i, _ => .int i
  | _, _, .str x h, _ => .str x h
  | _, _, .lst (a := b) (xs := xs) (ds := ds) e r, l => by
    have n : b ≠ a := by
      intro z; subst z
      rw [hD.fn (.lst e r)] at l
      exact absurd l (Nat.lt_irrefl _)
    refine .lst (hd_of n e) (r.off hD ?_)
    simp only [PyData.depth] at l
    omega
  | _, _, .tup (a := b) (ds := ds) e r, l => by
    have n : b ≠ a := by
      intro z; subst z
      rw [hD.fn (.tup e r)] at l
      exact absurd l (Nat.lt_irrefl _)
    refine .tup (hd_of n e) (r.off hD ?_)
    simp only [PyData.depth] at l
    omega
  | _, _, .dct (a := b) (ds := ds) e nd r, l => by
    have n : b ≠ a := by
      intro z; subst z
      rw [hD.fn (.dct e nd r)] at l
      exact absurd l (Nat.lt_irrefl _)
    refine .dct (hd_of n e) nd (r.off hD ?_)
    simp only [PyData.depth] at l
    omega
  | _, _, .dn (a := b) (o := o) e, l => by
    have n : b ≠ a := by
      intro z; subst z
      rw [hD.fn (.dn e)] at l
      exact absurd l (Nat.lt_irrefl _)
    exact .dn (hd_of n e)
theorem DtAll.off {H : Hp} {a : Addr} {D : PyData} (hD : Dt H (.ref a) D) : ∀ {v d}, DtAll H v d → PyData.depthAll d < D.depth → DtAll (Hd a H) v d
  | _, _, .nil, _ => .nil
  | _, _, .cons x r, l => by
    simp only [PyData.depthAll] at l
    exact .cons (Dt.off hD x (by omega)) (r.off hD (by omega))
theorem DtKv.off {H : Hp} {a : Addr} {D : PyData} (hD : Dt H (.ref a) D) : ∀ {v d}, DtKv H v d → PyData.depthKv d < D.depth → DtKv (Hd a H) v d
  | _, _, .nil, _ => .nil
  | _, _, .cons hk x r, l => by
    simp only [PyData.depthKv] at l
    exact .cons hk (Dt.off hD x (by omega)) (r.off hD (by omega))
end
theorem DtKv.part {H : Hp} {a : Addr} {kvs : List (Key × V)} {ds : List (PyData × PyData)} (e : H a = some (.dK kvs)) (nd : (kvs.map (·.1)).Nodup) (r : DtKv H kvs ds) {i : Nat} {k : Key} {v : V} (hx : kvs[i]? = some (k, v)) : ∃ d, ds[i]? = some (kPd k, d) ∧ kSh k ∧ Dt (Hd a H) v d := by
  have r2 := r.off (.dct e nd r) (by simp only [PyData.depth]; omega)
  exact r2.get hx
theorem valV_nd : ∀ {kvs : List (Key × V)} {i : Nat} {k : Key} {v : V}, (kvs.map (·.1)).Nodup → kvs[i]? = some (k, v) → valV kvs k = some v
  | [], _, _, _, _, h => by simp at h
  | p :: r, 0, k, v, _, h => by
    simp at h
    subst h
    simp [valV]
  | p :: r, i + 1, k, v, nd, h => by
    have h' : r[i]? = some (k, v) := by simpa using h
    rw [List.map_cons, List.nodup_cons] at nd
    have hk : p.1 ≠ k := fun z => nd.1 (by rw [z]; exact List.mem_map.mpr ⟨_, List.mem_of_getElem? h', rfl⟩)
    have ih := valV_nd nd.2 h'
    rw [← ih]
    simp [valV, hk]
/-! ### repr, isinstance -/
section
variable {X : Cx} {pins : List (Addr × Obj)} {σ : L2.St} {H : Hp} {s : Shared}
mutual
theorem Dt.rx (I : Inv X pins σ H s) : ∀ {v : V} {d : PyData} {u : Value}, Dt H v d → RelV v u → Rx s.heap u d
  | _, _, _, .non, r => by cases r; exact .none
  | _, _, _, .bl b, r => by cases r; exact .bool b
  | _, _, _, .int i, r => by obtain ⟨t, rfl⟩ := r; exact .int i t
  | _, _, _, .str x _, r => by obtain ⟨t, rfl⟩ := r; exact .str x t
  | _, _, _, .lst e ra, r => by
    cases r
    obtain ⟨_, its, n, rv, z⟩ := I.hok _ _ e
    exact .list z rfl rfl (by simpa using ra.rx I rv)
  | _, _, _, .tup e ra, r => by
    cases r
    obtain ⟨_, its, rv, o, z, c, n, q⟩ := I.hok _ _ e
    exact .tuple z c q (by simpa using ra.rx I rv)
  | _, _, _, .dct e _ ra, r => by
    cases r
    obtain ⟨_, low, vs, rel, o, es, ep, z, c, q, _, pr, _⟩ := dk_of I.hok e
    obtain ⟨h1, h2⟩ := ra.rx I rel pr
    exact .dict low z c.1 q h1 h2
  | _, _, _, .dn e, r => by
    cases r
    obtain ⟨g, c, ⟨ep, t, q⟩, lo⟩ := noneD_inv I e
    exact .dict lo g c.1 q (.cons .none .nil) (.cons (.int 0 t) .nil)
theorem DtAll.rx (I : Inv X pins σ H s) : ∀ {v : List V} {d : List PyData} {u : List Value}, DtAll H v d → Vals v u → RxAll s.heap u d
  | _, _, _, .nil, r => by cases r; exact .nil
  | _, _, _, .cons x ra, r => by
    cases r with
    | cons r1 r2 => exact .cons (x.rx I r1) (ra.rx I r2)
theorem DtKv.rx (I : Inv X pins σ H s) : ∀ {kvs : List (Key × V)} {ds : List (PyData × PyData)} {vs : List (Key × Value)} {es : List DictEntry}, DtKv H kvs ds → KV kvs vs → Pairs (mixKind X.prog X.w) es vs →
    RxAll s.heap (es.map (·.key)) (ds.map (·.1)) ∧ RxAll s.heap (es.map (·.val)) (ds.map (·.2))
  | _, _, _, _, .nil, r, p => by
    cases r
    cases p
    exact ⟨.nil, .nil⟩
  | _, _, _, _, .cons (k := k) hk x ra, r, p => by
    cases r with
    | @cons a b _ _ r1 r2 =>
      obtain ⟨kb, vb⟩ := b
      obtain ⟨h1, h2⟩ := r1
      have h1' : k = kb := h1
      subst h1'
      cases p with
      | @cons e kv _ _ p1 p2 p3 =>
        obtain ⟨g1, g2⟩ := ra.rx I r2 p3
        have hk : keyIs k e.key = true := p1
        have ev : e.val = vb := p2
        simp only [List.map_cons]
        rw [ev]
        rcases keyIs_shape hk with ⟨i, t, rfl, ek⟩ | ⟨y, t, rfl, ek⟩
        · rw [ek]
          exact ⟨.cons (.int i t) g1, .cons (x.rx I h2) g2⟩
        · rw [ek]
          exact ⟨.cons (.str y t) g1, .cons (x.rx I h2) g2⟩
end
end
theorem call_reprT {X : Cx} (hg : X.A.guards = some []) (hu : X.A.units + 64 < cLine) : CallR X (.builtin "repr") (fun xs H Q => ∃ x d, xs = [x] ∧ Dt H x d ∧ d.showable = true ∧ d.shown.length ≤ sizeLine ∧ d.depth ≤ 60 ∧ Q (.str d.shown) H) := by
  intro pins s σ H xs us Q I r h
  obtain ⟨x, d, rfl, hd, hs, hz, hl, q⟩ := h
  obtain ⟨u, rfl, ru⟩ := vals1 r
  exact call_repr_rx (hd.rx I ru) hs hz hg (by omega) fun h' u' tk k => ⟨.str d.shown, H, I.kept k, ⟨_, rfl⟩, q⟩
theorem call_isT {X : Cx} : CallR X (.builtin "isinstance") (fun xs H Q => ∃ x T d b, xs = [x, .ty T] ∧ Dt H x d ∧ kitB (tyD d) T = some b ∧ Q (.bl b) H) := by
  intro pins s σ H xs us Q I r h
  obtain ⟨x, T, d, b, rfl, hd, hk, q⟩ := h
  have base : ∀ t, TyX X.K H x (.type t) → t = tyD d → wpAny (model X.prog X.w) X.A (call (.builtin "isinstance") us) (EP X pins σ Q) X.xe s := fun t ty e => by
    subst e
    exact call_isi pins s σ H _ us Q I r ⟨x, .ty T, _, _, b, rfl, .ty T, ty, kit_ty hk, q⟩
  cases hd with
  | non => exact base _ (.base .non) rfl
  | bl b => exact base _ (.base (.bl b)) rfl
  | int i => exact base _ (.base (.int i)) rfl
  | str z _ => exact base _ (.base (.str z)) rfl
  | lst e _ => exact base _ (.base (.lst e)) rfl
  | tup e _ => exact base _ (.base (.tup e)) rfl
  | dct e _ _ => exact base _ (.base (.dK e)) rfl
  | dn e =>
    obtain ⟨u1, u2, rfl, r1, r2⟩ := vals2 r
    cases (show u1 = Value.ref _ from r1)
    have e2 := (ClsV.ty T).eq r2
    subst e2
    obtain ⟨g, c, _⟩ := noneD_inv I e
    exact PySem.W.kia_one PySem.W.kitx_dict I.kIn ⟨_, g, c.1⟩ (kit_ty hk) (fun z => nomatch z) fun tk => ⟨.bl b, H, I.tok tk, rfl, q⟩
mutual
theorem Dq.t {H : Hp} {b : Bool} : ∀ {n : Nat} {v d}, Dq H v d → Gd b n d → Dt H v d
  | _, _, _, .non, _ => .non
  | _, _, _, .bl b, _ => .bl b
  | _, _, _, .int i, _ => .int i
  | n, _, _, .str x, g => by
    cases n with
    | zero => exact g.elim
    | succ n => exact .str x (Nat.le_trans g.1 (by decide))
  | n, _, _, .lst e r, g => by
    cases n with
    | zero => exact g.elim
    | succ n => exact .lst e (r.t g.2)
  | n, _, _, .tup e r, g => by
    cases n with
    | zero => exact g.elim
    | succ n => exact g.elim
  | n, _, _, .dct e r, g => by
    cases n with
    | zero => exact g.elim
    | succ n =>
      refine .dct e ?_ (r.t g.2.1)
      rw [r.keys]
      exact List.Pairwise.map Sum.inr (fun _ _ h z => h (Sum.inr.inj z)) g.2.2.1
theorem DqAll.t {H : Hp} {b : Bool} : ∀ {n : Nat} {v d}, DqAll H v d → (∀ x ∈ d, Gd b n x) → DtAll H v d
  | _, _, _, .nil, _ => .nil
  | _, _, _, .cons x r, g => .cons (x.t (g _ (by simp))) (r.t fun y m => g y (by simp [m]))
theorem DqKv.t {H : Hp} {b : Bool} : ∀ {n : Nat} {v d}, DqKv H v d → (∀ p ∈ d, p.1 = .str (keyS p.1) ∧ okS 8 (keyS p.1) ∧ Gd b n p.2) → DtKv H v d
  | _, _, _, .nil, _ => .nil
  | _, _, _, .cons x r, g => by
    obtain ⟨_, h1, h2⟩ := g _ (List.mem_cons_self)
    exact .cons (k := .inr _) (Nat.le_trans h1.1 (by decide)) (x.t h2) (r.t fun y m => g y (by simp [m]))
end
end Sk

namespace Sk
open PySem PySem.Spec PyProof.Rows L2 Evl
section
variable {X : Cx}
def rNil (f : Bool → Bool) : R2 := fun x y H Q => ∃ a b xs, x = .ref a ∧ y = .ref b ∧ H a = some (.lst xs) ∧ H b = some (.lst []) ∧ Q (.bl (f xs.isEmpty)) H
theorem op_eqNil (hu : X.A.units < cLine) : OpR X (compareOp .Eq) (rNil id) := by
  intro pins s σ H x y v u Q I rx ry h
  obtain ⟨a, b, xs, rfl, rfl, ea, eb, q⟩ := h
  cases (show v = Value.ref a from rx)
  cases (show u = Value.ref b from ry)
  obtain ⟨z, its, n, r, e⟩ := I.hok a _ ea
  obtain ⟨z2, its2, n2, r2, e2⟩ := I.hok b _ eb
  cases r2
  cases xs with
  | nil =>
    cases r
    exact SeqAt.RcAt.lists (e := fun _ => true) ⟨_, e, rfl, n, rfl⟩ ⟨_, e2, rfl, n2, rfl⟩ rfl hu (fun j h1 => absurd h1 (by simp)) _ _ _ _ ⟨.bl true, H, I, rfl, q⟩
  | cons x xs =>
    cases r with
    | cons r1 r3 =>
      exact SeqAt.RcAt.lists_lengths ⟨_, e, rfl, n, rfl⟩ ⟨_, e2, rfl, n2, rfl⟩ (by simp) hu _ _ _ _ ⟨.bl false, H, I, rfl, q⟩
theorem op_neNil (hu : X.A.units < cLine) : OpR X (compareOp .NotEq) (rNil not) := by
  intro pins s σ H x y v u Q I rx ry h
  obtain ⟨a, b, xs, rfl, rfl, ea, eb, q⟩ := h
  cases (show v = Value.ref a from rx)
  cases (show u = Value.ref b from ry)
  obtain ⟨z, its, n, r, e⟩ := I.hok a _ ea
  obtain ⟨z2, its2, n2, r2, e2⟩ := I.hok b _ eb
  cases r2
  cases xs with
  | nil =>
    cases r
    exact SeqAt.RcNeAt.lists (e := fun _ => true) ⟨_, e, rfl, n, rfl⟩ ⟨_, e2, rfl, n2, rfl⟩ rfl hu (fun j h1 => absurd h1 (by simp)) _ _ _ _ ⟨.bl false, H, I, rfl, q⟩
  | cons x xs =>
    cases r with
    | cons r1 r3 =>
      exact SeqAt.RcNeAt.lists_lengths ⟨_, e, rfl, n, rfl⟩ ⟨_, e2, rfl, n2, rfl⟩ (by simp) hu _ _ _ _ ⟨.bl true, H, I, rfl, q⟩
def rNilD : R2 := fun x y H Q => ∃ a b kvs, x = .ref a ∧ y = .ref b ∧ H a = some (.dK kvs) ∧ H b = some (.dK []) ∧ Q (.bl (!kvs.isEmpty)) H
theorem op_neNilD (hu : X.A.units < cLine) : OpR X (compareOp .NotEq) rNilD := by
  intro pins s σ H x y v u Q I rx ry h
  obtain ⟨a, b, kvs, rfl, rfl, ea, eb, q⟩ := h
  cases (show v = Value.ref a from rx)
  cases (show u = Value.ref b from ry)
  obtain ⟨_, ya, va, ra, da⟩ := (show ObjOk X.prog X.w H s.heap a (.dK kvs) from I.hok a _ ea)
  obtain ⟨_, yb, vb, rb, db⟩ := (show ObjOk X.prog X.w H s.heap b (.dK []) from I.hok b _ eb)
  cases rb
  cases kvs with
  | nil =>
    cases ra
    exact PySem.W.keq_ne (knd := mixKind X.prog X.w) (r := true) ya yb da db hu (fun _ => .nil) ⟨.bl false, H, I, rfl, q⟩
  | cons p kvs =>
    cases ra with
    | cons r1 r2 => exact PySem.W.keq_ne (knd := mixKind X.prog X.w) (r := true) ya yb da db hu (fun z => by cases z) ⟨.bl true, H, I, rfl, q⟩
end
theorem ex_mut {H H4 : Hp} {a : Addr} {o : HO} (x : Ex H H4) (h : H a = none) : Ex H (upd H4 a o) := fun b u e => by
  rw [upd_ne (ne_of_none e h)]
  exact x _ _ e
theorem ex_none {H H1 : Hp} {a : Addr} (x : Ex H H1) (h : H1 a = none) : H a = none := by
  cases e : H a with
  | none => rfl
  | some o => rw [x _ _ e] at h; cases h
theorem abs9 (i : Int) : decide ((if i < 0 then -i else i) ≤ (10 : Int) ^ (9 : Int).toNat) = (decide (-1000000000 ≤ i) && decide (i ≤ 1000000000)) := by
  have e : (10 : Int) ^ (9 : Int).toNat = 1000000000 := by decide
  rw [e, ← Bool.decide_and]
  refine decide_eq_decide.mpr ?_
  split <;> omega
theorem in_bools {α : Type} (f : α → Bool) : ∀ l : List α, inV (.bl false) (l.map fun p => V.bl (f p)) = !l.all f
  | [] => rfl
  | x :: r => by
    have ih := in_bools f r
    unfold inV at ih ⊢
    rw [List.map_cons, List.any_cons, ih, List.all_cons]
    cases f x with
    | true => rfl
    | false => rfl
theorem flat_bools {α : Type} (f : α → Bool) : ∀ l : List α, (l.map fun p => V.bl (f p)).all flatV = true
  | [] => rfl
  | x :: r => by rw [List.map_cons, List.all_cons, flat_bools f r]; rfl
/-- list(text) -/
theorem sign_vals {x : Str} : ∀ (l : List Value) (cs : List Nat), l.length = cs.length → (∀ (j : Nat) (v : Value), l[j]? = some v → ∃ (c : Nat) (u : Tok), cs[j]? = some c ∧ v = .str ⟨#[c]⟩ u) → Vals (cs.map fun c => V.str ⟨#[c]⟩) l
  | [], [], _, _ => .nil
  | v :: l, c :: cs, h, g => by
    obtain ⟨c', u, e, rfl⟩ := g 0 v rfl
    cases e
    exact .cons ⟨u, rfl⟩ (sign_vals (x := x) l cs (Nat.succ.inj h) fun j v e => by
      obtain ⟨c, u, h1, h2⟩ := g (j + 1) v (by simpa using e)
      exact ⟨c, u, by simpa using h1, h2⟩)
theorem call_listS {X : Cx} (hc : X.calm = true) : CallR X (.type "list") (fun xs H Q => ∃ x : Str, xs = [.str x] ∧ x.length ≤ sizeLine ∧ ∀ p, H p = none → Q (.ref p) (upd H p (.lst (x.cps.toList.map fun c => V.str ⟨#[c]⟩)))) := by
  intro pins s σ H xs us Q I r h
  obtain ⟨x, rfl, hz, q⟩ := h
  obtain ⟨u, rfl, t, rfl⟩ := vals1 r
  refine call_list_str (I.ok.hd hc) x t (fun h' tk acc' c' hk hD hacc => ?_) hz
  have hl : acc'.toList.length = x.cps.toList.length := by rw [Array.length_toList, hacc.1]; simp
  have hv := sign_vals (x := x) acc'.toList x.cps.toList hl fun j v e => by
    obtain ⟨c, u, h1, h2⟩ := hacc.2 j v (by rw [← Array.getElem?_toList]; exact e)
    exact ⟨c, u, by rw [Array.getElem?_toList]; exact h1, h2⟩
  exact ⟨.ref _, upd H _ (.lst (x.cps.toList.map fun c => V.str ⟨#[c]⟩)), I.laid (t' := tk) hk (Nat.le_refl _) (show ObjOk X.prog X.w _ _ _ (.lst (x.cps.toList.map fun c => V.str ⟨#[c]⟩)) from ⟨by rw [List.length_map, Array.length_toList]; exact hz, acc'.toList, c', hv, by rw [Array.toArray_toList]; exact hD⟩), rfl, q _ (I.hok.fresh (Nat.le_refl _))⟩
/-! ### what is written out is made of new objects -/
def Lit (te : TE) (σ : L2.St) (d : PyData) : Prop := ∀ H Q, (∀ v H', Ex H H' → Dt (Nw H H') v d → Q v H') → te σ H Q
def Lits (ta : TA) (σ : L2.St) (ds : List PyData) : Prop := ∀ H Q, (∀ vs H', Ex H H' → DtAll (Nw H H') vs ds → Q vs H') → ta σ H Q
theorem nw_up {G H H' : Hp} (x : Ex H H') : Ex (Nw G H) (Nw G H') := fun b o e => nw_of (nw_some e).1 (x _ _ (nw_some e).2)
theorem nw_dn {G G' H : Hp} (x : Ex G G') : Ex (Nw G' H) (Nw G H) := nw_back fun a h => ex_none x h
section
variable {σ : L2.St} {te tv : TE} {ta : TA} {d : PyData} {ds : List PyData}
theorem lits_nil : Lits tNil σ [] := fun H Q h => h [] H (Ex.refl _) .nil
theorem lits_cons (h : Lit te σ d) (h2 : Lits ta σ ds) : Lits (tCons te ta) σ (d :: ds) := fun H Q q => h H _ fun v H1 x1 a => h2 H1 _ fun vs H2 x2 b => q (v :: vs) H2 (x1.trans x2) (.cons (a.mono (nw_up x2)) (b.mono (nw_dn x1)))
theorem lit_int {i : Int} : Lit (tC (.int i)) σ (.int i) := fun H Q q => q _ H (Ex.refl _) (.int i)
theorem lit_bl {i : Bool} : Lit (tC (.bl i)) σ (.bool i) := fun H Q q => q _ H (Ex.refl _) (.bl i)
theorem lit_non : Lit (tC .non) σ .none := fun H Q q => q _ H (Ex.refl _) .non
theorem lit_str {x : Str} (h : x.length ≤ 1000 := by decide) : Lit (tC (.str x)) σ (.str x) := fun H Q q => q _ H (Ex.refl _) (.str x h)
theorem lit_var {i : Nat} {x : Str} (e : σ[i]? = some (some (.str x))) (h : x.length ≤ 1000) : Lit (tVar i) σ (.str x) := fun H Q q => ⟨_, e, q _ H (Ex.refl _) (.str x h)⟩
theorem lit_lst (h : Lits ta σ ds) (hl : ds.length ≤ sizeLine) : Lit (tLst ta) σ (.list ds) := fun H Q q => h H _ fun vs H1 x1 a => ⟨by rw [a.length]; exact hl, fun p np => q _ _ (x1.trans (Ex.new np)) (.lst (nw_of (ex_none x1 np) upd_same) (a.mono (nw_new np)))⟩
theorem lit_tup (h : Lits ta σ ds) (hl : ds.length ≤ sizeLine) : Lit (tTup ta) σ (.tuple ds) := fun H Q q => h H _ fun vs H1 x1 a => ⟨by rw [a.length]; exact hl, fun p np => q _ _ (x1.trans (Ex.new np)) (.tup (nw_of (ex_none x1 np) upd_same) (a.mono (nw_new np)))⟩
theorem lit_dnew : Lit tDNewK σ (.dict []) := fun H Q q p np => q _ _ (Ex.new np) (.dct (nw_of np upd_same) (by simp) .nil)
/-- a key that is reckoned without the heap -/
def Kt (tk : TE) (σ : L2.St) (k : Key) : Prop := ∀ H Q, Q (kV k) H → tk σ H Q
theorem kt_str {x : Str} : Kt (tC (.str x)) σ (.inr x) := fun H Q q => q
theorem kt_int {i : Int} : Kt (tC (.int i)) σ (.inl i) := fun H Q q => q
theorem lit_disp {tk : TE} {k : Key} (ht : Kt tk σ k) (hk : kSh k) (h : Lit tv σ d) : Lit (tDisp [(tk, tv)]) σ (.dict [(kPd k, d)]) := fun H Q q p np => ht _ _ <| h _ _ fun v H1 x1 a => by
  have hp : H1 p = some (.dK []) := x1 _ _ upd_same
  have x2 : Ex H (upd H1 p (.dK [(k, v)])) := fun b o e => by
    have n : b ≠ p := ne_of_none e np
    rw [upd_ne n]; exact x1 _ _ (by rw [upd_ne n]; exact e)
  refine ⟨hp, [(k, v)], rfl, by simp, ?_⟩
  refine q _ _ x2 (.dct (kvs := [(k, v)]) (nw_of np upd_same) (by simp) (.cons hk (a.mono fun b o e => ?_) .nil))
  obtain ⟨h1, h2⟩ := nw_some e
  have n : b ≠ p := by intro z; subst z; rw [upd_same] at h1; cases h1
  exact nw_of (by rw [upd_ne n] at h1; exact h1) (by rw [upd_ne n]; exact h2)
theorem lit_dispN : Lit (tDispN (tC (.int 0))) σ (.dict [(.none, .int 0)]) := fun H Q q p np => ⟨upd_same, rfl, fun o => q _ _ (fun b u e => by
  have n : b ≠ p := ne_of_none e np
  rw [upd_ne n, upd_ne n]; exact e) (.dn (nw_of np upd_same))⟩
end
section
variable {σ : L2.St} {te : TE}
theorem lit_of {i : Int} (h : ∀ H Q, Q (.int i) H → te σ H Q) : Lit te σ (.int i) := fun H Q q => h H Q (q _ H (Ex.refl _) (.int i))
theorem kS {x : Str} (h : x.length ≤ 1000 := by decide) : kSh (.inr x) := h
theorem lit_one {ta : TA} {d : PyData} (h : Lits ta σ [d]) : Lit (tLst ta) σ (.list [d]) := lit_lst h (show 1 ≤ sizeLine by decide)
theorem zeros {H : Hp} : ∀ n : Nat, DtAll H (List.replicate n [V.int 0]).flatten (List.replicate n (.int 0))
  | 0 => .nil
  | n + 1 => .cons (.int 0) (zeros n)
theorem lit_rep {k : Int} (h0 : 0 ≤ k) (h1 : k ≤ 100) : Lit (tOp rRep (tLst (tCons (tC (.int 0)) tNil)) (tC (.int k))) σ (.list (List.replicate k.toNat (.int 0))) := fun H Q q =>
  ⟨by show 1 ≤ sizeLine; decide, fun p np => ⟨p, k, [.int 0], rfl, rfl, upd_same, by omega, by omega, by rw [sizeLine_eq]; show 1 * k.toNat ≤ _; omega, fun p2 np2 => q _ _ ((Ex.new np).trans (Ex.new np2)) (.lst (nw_of (upd_none np2) upd_same) (zeros _))⟩⟩
end
theorem _root_.Sk.Aft.ex {st : Addr} {H H1 H2 : Hp} (a : Aft st H H1) (x : Ex H1 H2) : Aft st H H2 := a.trans ⟨gr_ex x, by
  obtain ⟨d, sd, e, r⟩ := a.sm
  exact ⟨d, sd, x _ _ e, r⟩⟩
theorem _root_.Sk.Aft.dn {st : Addr} {G H1 H2 : Hp} (a : Aft st G H1) : Ex (Nw H1 H2) (Nw G H2) := nw_back fun _ z => a.none z
theorem paired_snoc {α β : Type} {F : α → β → Prop} : ∀ {l : List α} {m : List β}, Paired F l m → ∀ {a b}, F a b → Paired F (l ++ [a]) (m ++ [b])
  | _, _, .nil, _, _, h => .cons h .nil
  | _, _, .cons x r, _, _, h => .cons x (paired_snoc r h)
end Sk

/-! Sets of texts over the abstract heap; a dict starred. -/
namespace Sk
open PySem PySem.Spec PyProof.Rows L2 Evl
/-- len(found), a set of texts -/
theorem setx_len {P : Program} {w : World} {A : Around} {E : Value → Shared → Prop} {s : Shared} {a : Addr} {M : List Str} {Q : Value → Shared → Prop} (R : TxSet P w M a s.heap)
    (hQ : ∀ (n : Nat) (ys : List Str), ys.Nodup → (∀ x, x ∈ ys ↔ x ∈ M) → ys.length = n → Q (.int n (s.toks + 1)) { s with toks := s.toks + 1 + 1 }) : wpAny (model P w) A (call (.builtin "len") [.ref a]) Q E s := by
  obtain ⟨ob, es, ep, tb, h0, hx, hd, g, nd, hm, hz, hb, hf, hr, hl⟩ := R
  have esb : es.size < scanBound := Nat.lt_of_le_of_lt hz hb
  exact call_len_set h0 hx hd hf (by unfold scanBound at esb; omega) (hQ es.size (es.toList.map nmE) nd hm (by simp))
def SetS (P : Program) (w : World) (a : Addr) (M : List Str) : HO := .ext fun h => TxSet P w M a h
theorem setS_new {P : Program} {w : World} {H : Hp} {h : Heap} {a : Addr} {M : List Str} (R : TxSet P w M a h) : ObjOk P w H h a (SetS P w a M) := by
  have ⟨ob, es, ep, tb, h0, r⟩ := R
  exact ⟨R, ⟨ob, h0⟩, fun h1 h2 p k => TxSet.on (show TxSet P w M a h1 from p) k⟩
section
variable {X : Cx}
/-- set(xs), texts -/
theorem cr_setS (hc : X.calm = true) : CallR X (.type "set") (fun xs H Q => ∃ (l : Addr) (ys : List Str), xs = [.ref l] ∧ SqL X.K H l (ys.map V.str) ∧ ys.length ≤ 1000 ∧ ∀ p, H p = none → Q (.ref p) (upd H p (SetS X.prog X.w p ys))) := by
  intro pins s σ H xs us Q I r h
  obtain ⟨l, ys, rfl, hl, few, q⟩ := h
  rw [Vals.ref1 r]
  obtain ⟨its, rv, pl, _⟩ := I.list hl
  refine tx_call (P := X.prog) (w := X.w) ys (I.ok.hd hc) pl.isList (by simpa using rv.strs) (Nat.lt_of_le_of_lt (Nat.succ_le_succ few) (by decide)) fun h' k R kp => ?_
  exact ⟨.ref _, upd H s.heap.objs.size (SetS X.prog X.w s.heap.objs.size ys), I.laid (t' := k) kp (Nat.le_refl _) (setS_new R), rfl, q _ (I.hok.fresh (Nat.le_refl _))⟩
/-- sorted(found), a set of texts -/
theorem cr_sortedSL (hc : X.calm = true) : CallR X (.builtin "sorted") (fun vs H Q => ∃ (a : Addr) (M : List Str), vs = [.ref a] ∧ H a = some (SetS X.prog X.w a M) ∧ (∃ L : List Str, L.length < 64 ∧ ∀ x ∈ M, x ∈ L) ∧ M.length ≤ 1000 ∧
    ∀ (ys : List Str) (p : Addr), ys.Nodup → sortedS ys = true → (∀ x, x ∈ ys ↔ x ∈ M) → ys.length ≤ M.length → H p = none → Q (.ref p) (upd H p (.lst (ys.map V.str)))) := by
  intro pins s σ H vs us Q I r h
  obtain ⟨a, M, rfl, ha, few, most, q⟩ := h
  have R : TxSet X.prog X.w M a s.heap := (I.hok a _ ha).1
  rw [Vals.ref1 r]
  refine tx_sorted R (I.ok.hd hc) few fun s' p out c ys kp hg ho hp hob hS nd hs hm hl => ?_
  have hn : H p = none := I.hok.fresh hp
  have lm : (ys.map V.str).length ≤ sizeLine := by rw [List.length_map]; exact Nat.le_trans hl (Nat.le_trans most (by rw [sizeLine_eq]; decide))
  have J : Inv X pins σ (upd H p (.lst (ys.map V.str))) { s with heap := s'.heap, gens := s'.gens, drawn := s'.drawn, toks := s'.toks } :=
    I.call (ch := []) (Un.laid kp hp hn) (I.hok.laid kp hp ⟨lm, out.toList, c, vals_of_strs hS, hob⟩) (by rw [hg]; exact I.bare) (fun _ z => nomatch z)
  have e : s' = { s with heap := s'.heap, gens := s'.gens, drawn := s'.drawn, toks := s'.toks } := by
    cases s'
    cases s
    cases ho
    rfl
  rw [e]
  exact ⟨.ref p, _, J, rfl, q ys p nd hs hm hl hn⟩
theorem cr_sortedSS (hc : X.calm = true) : CallR X (.builtin "sorted") (fun vs H Q => ∃ (a : Addr) (M : List Str), vs = [.ref a] ∧ H a = some (SetS X.prog X.w a M) ∧ M.length < 64 ∧
    ∀ (ys : List Str) (p : Addr), ys.Nodup → sortedS ys = true → (∀ x, x ∈ ys ↔ x ∈ M) → ys.length ≤ M.length → H p = none → Q (.ref p) (upd H p (.lst (ys.map V.str)))) := by
  intro pins s σ H vs us Q I r h
  obtain ⟨a, M, e, ha, few, q⟩ := h
  exact cr_sortedSL hc pins s σ H vs us Q I r ⟨a, M, e, ha, ⟨M, few, fun _ m => m⟩, by omega, q⟩
/-- len(found), a set of texts -/
theorem call_lenSet : CallR X (.builtin "len") (fun vs H Q => ∃ (a : Addr) (M : List Str), vs = [.ref a] ∧ H a = some (SetS X.prog X.w a M) ∧ ∀ (ys : List Str), ys.Nodup → (∀ x, x ∈ ys ↔ x ∈ M) → Q (.int ys.length) H) := by
  intro pins s σ H vs us Q I r h
  obtain ⟨a, M, rfl, ha, q⟩ := h
  have R : TxSet X.prog X.w M a s.heap := (I.hok a _ ha).1
  rw [Vals.ref1 r]
  exact setx_len R fun n ys nd hm hn => ⟨.int ys.length, H, I.kept (t' := s.toks + 1 + 1) (fun _ _ e => e), ⟨_, by rw [hn]⟩, q ys nd hm⟩
/-- *d in a display: the keys -/
def tStarD (te : TE) (t : TA) : TA := fun σ H Q => te σ H fun x H1 => ∃ (a : Addr) (kvs : List (Key × V)) (ks : List Str), x = .ref a ∧ Rd H1 a (.dK kvs) ∧ kvs.map (·.1) = ks.map Sum.inr ∧ ks.length ≤ 1000 ∧ t σ H1 fun ys H2 => Q (ks.map V.str ++ ys) H2
theorem pa_starD {e : Expr} {es : List Expr} {te : TE} {t : TA} {p : Pos} (hc : X.calm = true) (he : PE X e te) (hr : PA X es t) (hs : starEach (.Starred e p :: es) X.env = (true, eval e X.env) :: starEach es X.env := by rfl) : PA X (.Starred e p :: es) (tStarD te t) := by
  refine ⟨fun pos pins s σ H Q I h => ?_⟩
  refine PySem.W.items_star (thn (he.run pins s σ H _ I h) fun v s1 ⟨y, H1, I1, ry, a, kvs, ks, ey, hd, hks, few, q⟩ => ?_) hs
  subst ey
  obtain rfl : v = Value.ref a := ry
  obtain ⟨z, lo, vs, rel, dd⟩ := dk_rd I1.hok hd
  obtain ⟨ep, hat⟩ := dd.dictAt
  have hkeys : vs.map (·.1) = ks.map Sum.inr := rel.keys.symm.trans hks
  have hl : vs.length = ks.length := by simpa using congrArg List.length hkeys
  unfold PySem.W.StarOf notIterableAtAll
  refine wpAny_bind (wpAny_specialOf (T := "dict") dd.typeIs PySem.F.slot_dict_iter.lookup (wpAny_pure ⟨rfl, ?_⟩))
  refine (PySem.W.kdu_collect (A := X.A) (PySem.W.kdl_dict (knd := mixKind X.prog X.w) (kvs := vs) (ep := ep) lo) (I1.ok.hd hc) hat (Nat.le_trans (by omega : vs.length ≤ 1000) (by rw [sizeLine_eq]; decide)) fun h' tk acc hk hacc => ?_)
  have hal : acc.toList.length = ks.length := by rw [Array.length_toList, hacc.1, hl]
  have hS : StrsAre acc.toList ks := strs_at hal fun j v e => by
    obtain ⟨k, x, e1, e2⟩ := hacc.2 j v (by rw [← Array.getElem?_toList]; exact e)
    have e3 : (vs.map (·.1))[j]? = some k := by rw [List.getElem?_map, e1]; all_goals rfl
    rw [hkeys, List.getElem?_map] at e3
    cases e4 : ks[j]? with
    | none => rw [e4] at e3; cases e3
    | some y =>
      rw [e4] at e3
      cases (show Sum.inr y = k from Option.some.inj e3)
      obtain ⟨t, ht⟩ := Value.isStrOf_shape (x := y) (v := v) e2
      exact ⟨y, t, rfl, ht⟩
  have I2 : Inv X pins σ H1 { s1 with heap := h', toks := tk } := I1.kept (t' := tk) hk
  exact thn (hr.run pos pins _ σ H1 _ I2 q) fun ws s3 ⟨xs, H3, I3, r3, q3⟩ => ⟨ks.map V.str ++ xs, H3, I3, (vals_of_strs hS).append r3, q3⟩
end
end Sk

/-! What the law draws: characters, words. -/
namespace Sk
open PySem PySem.Spec PyProof.Rows L2 Evl
structure Drw (P : Program) (w : World) (K : PySem.W.Frag) (mg : Str → Option Value) (base : Heap) (fD fC : Addr) (dD dC : FuncData) : Prop where
  gD : FnOk P w K mg base CX0 1 fD dD ["stream", "size"] spDraw
  bD : Binds K dD ["stream", "size"] []
  kD : PySem.W.keepIn K (.ref fD) = true
  mD : mg "_law_draw" = some (.ref fD)
  gC : FnOk P w K mg base CX0 2 fC dC ["stream", "items"] (spChoose K)
  bC : Binds K dC ["stream", "items"] []
  kC : PySem.W.keepIn K (.ref fC) = true
  mC : mg "_law_choose" = some (.ref fC)
theorem scSigns : FnScope ["letters"] [] (defScope sSigns) := ⟨rfl, rfl, rfl, by decide +kernel, rfl, by decide +kernel, by decide +kernel⟩
abbrev NAlph : List Str := ["stream", "one", "two", "three", "some", "turn"]
theorem scAlph : FnScope NAlph ["stream"] (defScope sAlph) := ⟨rfl, rfl, rfl, by decide +kernel, rfl, by decide +kernel, by decide +kernel⟩
abbrev NWord : List Str := ["stream", "signs", "most", "turn"]
theorem scWord : FnScope NWord ["stream", "signs", "most"] (defScope sWord) := ⟨rfl, rfl, rfl, by decide +kernel, rfl, by decide +kernel, by decide +kernel⟩
def SgOk (z : Str) : Prop := z.cps.toList ≠ [] ∧ z.length ≤ 100 ∧ ∀ c ∈ z.cps.toList, c < 1114112
def spSgn : Sp := fun vs H Q _ => vs = [] ∧ ∀ z, SgOk z → Q (.str z) H
/-- three characters -/
def AlpAt (H : Hp) (a : Addr) : Prop := ∃ c1 c2 c3 : Nat, H a = some (.lst [.str (one c1), .str (one c2), .str (one c3)]) ∧ c1 < 1114112 ∧ c2 < 1114112 ∧ c3 < 1114112
theorem AlpAt.mono {H H' : Hp} {a : Addr} (x : Ex H H') (h : AlpAt H a) : AlpAt H' a := let ⟨c1, c2, c3, e, r⟩ := h; ⟨c1, c2, c3, x _ _ e, r⟩
def spAlph : Sp := fun vs H Q _ => ∃ st : Addr, vs = [.ref st] ∧ Strm st H ∧ ∀ a H', AlpAt (Hd st H') a → Aft st H H' → Q (.ref a) H'
/-- a text of at most n characters -/
def Tk (n : Nat) (cs : List Nat) : Prop := cs.length ≤ n ∧ ∀ c ∈ cs, c < 1114112
theorem Tk.le {n m : Nat} {cs : List Nat} (h : Tk n cs) (l : n ≤ m) : Tk m cs := ⟨Nat.le_trans h.1 l, h.2⟩
theorem Tk.app {n m : Nat} {a b : List Nat} (h : Tk n a) (g : Tk m b) : Tk (n + m) (a ++ b) := ⟨by rw [List.length_append]; exact Nat.add_le_add h.1 g.1, fun c k => (List.mem_append.mp k).elim (h.2 c) (g.2 c)⟩
theorem tx_cps (cs : List Nat) : (tx cs).cps.toList = cs := by simp [tx]
theorem tx_app (a b : List Nat) : tx a ++ tx b = tx (a ++ b) := by
  have h : (tx a ++ tx b).cps.toList = a ++ b := by rw [tl_app, tx_cps, tx_cps]
  have : tx ((tx a ++ tx b).cps.toList) = tx a ++ tx b := tx_of _
  rw [← this, h]
theorem one_tx (c : Nat) : one c = tx [c] := rfl
theorem cut_tx {n : Nat} {a : List Nat} (h : Tk n a) (lo hi : Option Int) : ∃ b, cutS (tx a) lo hi = tx b ∧ Tk n b := by
  refine ⟨_, rfl, ?_, fun c m => ?_⟩
  · rw [List.length_take, List.length_drop, tx_cps]
    have := h.1
    omega
  · rw [tx_cps] at m
    exact h.2 c (List.mem_of_mem_drop (List.mem_of_mem_take m))
def spWord : Sp := fun vs H Q _ => ∃ (st a : Addr) (h : Nat), vs = [.ref st, .ref a, .int h] ∧ Strm st H ∧ AlpAt (Hd st H) a ∧ h ≤ 1000 ∧ ∀ cs H', Tk h cs → Aft st H H' → Q (.str (tx cs)) H'
def txV (xs : List (List Nat)) : List V := (xs.map tx).map V.str
theorem txV_app (xs ys : List (List Nat)) : txV (xs ++ ys) = txV xs ++ txV ys := by simp [txV]
theorem txV_len (xs : List (List Nat)) : (txV xs).length = xs.length := by simp [txV]
section
variable {P : Program} {w : World} {K : PySem.W.Frag} {mg : Str → Option Value} {base : Heap} {f g fD fC : Addr} {fd gd dD dC : FuncData}
theorem ok_signs {k : Nat} (F : Fun K "_law_signs" "_law_signs" sSigns f fd) : FnOk P w K mg base CX0 (k + 1) f fd [] spSgn := by
  refine F.ok scSigns (fun vs H Q E h => ?_) (fun cdv A outer s H vs Q E hr h => ?_)
  · obtain ⟨rfl, _⟩ := h
    rfl
  have nd := scSigns.nd
  obtain ⟨rfl, q⟩ := h
  refine ⟨_, pss_cons (ps_set (i := 0) nd rfl (Or.inl rfl) pe_str) (pss_one (ps_ret (pe_op op_add_str (pv 0) pe_str))), ?_⟩
  refine ⟨_, rfl, _, _, rfl, rfl, line_le (by decide +kernel), q _ ⟨by decide +kernel, by decide +kernel, by decide +kernel⟩⟩
theorem ok_alph (F : Fun K "_law_alphabet" "_law_alphabet" sAlph f fd) (W : Drw P w K mg base fD fC dD dC) (B : Blt mg) (Sg : Lt P w K mg base g gd "_law_signs" [] 1 spSgn) : FnOk P w K mg base CX0 3 f fd ["stream"] spAlph := by
  refine F.ok scAlph (fun vs H Q E h => ?_) (fun cdv A outer s H vs Q E hr h => ?_)
  · obtain ⟨_, rfl, _⟩ := h
    rfl
  have nd := scAlph.nd
  obtain ⟨st, rfl, hst, q⟩ := h
  have hr1 : Room 1 _ := hr.mono (by decide)
  refine ⟨_, pss_cons (ps_asg (pe_lc (own := [("turn", 5)]) (g := gName 5) (tt := tYes) (te := tCall (spChoose K) [] E0 (tCons (tVar 0) (tCons (tCall spSgn [] E0 tNil) tNil))) rfl nd (pi_range1 rfl B.range (pa_cons pe_int pa_nil))
        (blkOk_by (N := NAlph) (sc := defScope sAlph) (by decide +kernel)) (fun _ _ _ _ _ => pg_name (i := 5) nd rfl (Or.inl rfl)) (fun _ _ _ _ _ => pts_nil) (fun _ _ _ _ _ => pe_call W.gC hr rfl W.mC W.kC W.bC .nil pass0 (pa_cons (pv 0) (pa_cons (pe_call0 Sg.g hr1 rfl Sg.m Sg.k Sg.b .nil pass0) pa_nil))))
      (pg_unl rfl (pgs_cons (pg_name (i := 1) nd rfl (Or.inl rfl)) (pgs_cons (pg_name (i := 2) nd rfl (Or.inl rfl)) (pgs_cons (pg_name (i := 3) nd rfl (Or.inl rfl)) pgs_nil)))))
    (pss_cons (ps_set (i := 4) nd rfl (Or.inl rfl) (pe_lst (pa_cons (pv 1) (pa_cons (pv 2) (pa_cons (pv 3) pa_nil)))))
    (pss_one (ps_ret (pe_call W.gC hr rfl W.mC W.kC W.bC .nil pass0 (pa_cons (pv 0) (pa_cons (pe_lst (pa_cons (pv 4) (pa_cons (pv 4) (pa_cons (pe_lst (pa_cons pe_str (pa_cons pe_str (pa_cons (pv 3) pa_nil)))) (pa_cons (pe_lst (pa_cons pe_str (pa_cons pe_str (pa_cons (pv 3) pa_nil)))) pa_nil))))) pa_nil)))))), ?_⟩
  refine ⟨3, rfl, by decide, by decide, fun L hL => ?_⟩
  have nst := hst.ne hL
  refine lc_range (lo := 0) (n := 3) (fun i H' => Aft st H H' ∧ ∃ cs : List Nat, cs.length = i ∧ (∀ c ∈ cs, c < 1114112) ∧ H' L = some (.lst (cs.map fun c => V.str (one c)))) ⟨(Aft.of hst).new hL, [], rfl, (fun _ m => nomatch m), upd_same⟩ (fun i H' hi p => ?_) (fun H' p => ?_)
  · obtain ⟨pA, cs, c1, cv, c2⟩ := p
    refine ⟨rfl, tyes ⟨_, rfl, rfl, fun z hz => ⟨st, _, fun v => ∃ c, v = .str (one c) ∧ c < 1114112, rfl, pA.sm, .inr ⟨z, rfl, hz.1, by have := hz.2.1; omega, fun c m => ⟨c, rfl, hz.2.2 c m⟩⟩, fun v H2 hv A2 => ?_⟩⟩⟩
    obtain ⟨c, rfl, hc⟩ := hv
    have hL2 : H2 L = some (.lst (cs.map fun c => V.str (one c))) := hd_le _ _ (A2.gr _ _ (hd_of nst c2))
    refine ⟨_, hL2, by rw [sizeLine_eq, List.length_map]; omega, (pA.trans A2).mut nst (by unfold Hd; rw [if_neg nst]; exact hL), cs ++ [c], by simp [c1], (fun x m => (List.mem_append.mp m).elim (cv x) fun m => by cases List.mem_singleton.mp m; exact hc), by rw [upd_same, List.map_append]; rfl⟩
  · obtain ⟨pA, cs, c1, cv, c2⟩ := p
    obtain ⟨a, b, c, rfl⟩ : ∃ a b c, cs = [a, b, c] := by
      match cs, c1 with
      | [a, b, c], _ => exact ⟨a, b, c, rfl⟩
    have ha := cv a (by simp)
    have hb := cv b (by simp)
    have hc := cv c (by simp)
    refine ⟨L, _, rfl, SqL.of c2, rfl, _, _, rfl, _, _, rfl, _, _, rfl, rfl, ?_⟩
    refine ⟨_, rfl, _, rfl, _, rfl, nle' (by show 3 ≤ 1000; decide), fun p np => ?_⟩
    refine ⟨_, rfl, _, rfl, _, rfl, _, rfl, nle' (by show 3 ≤ 1000; decide), fun r nr => ⟨_, rfl, nle' (by show 3 ≤ 1000; decide), fun r2 nr2 => ⟨nle' (by show 4 ≤ 1000; decide), fun t nt => ?_⟩⟩⟩
    have B1 := pA.new (o := HO.lst [.str (one a), .str (one b), .str (one c)]) np
    have fp : upd H' p (HO.lst [.str (one a), .str (one b), .str (one c)]) p = some (.lst [.str (one a), .str (one b), .str (one c)]) := upd_same
    generalize upd H' p (HO.lst [.str (one a), .str (one b), .str (one c)]) = G1 at B1 fp nr nr2 nt ⊢
    have B2 := B1.new (o := HO.lst [.str "a", .str "b", .str (one c)]) nr
    have fr : upd G1 r (HO.lst [.str "a", .str "b", .str (one c)]) r = some (.lst [.str "a", .str "b", .str (one c)]) := upd_same
    have fp := (Ex.new (o := HO.lst [.str "a", .str "b", .str (one c)]) nr) _ _ fp
    generalize upd G1 r (HO.lst [.str "a", .str "b", .str (one c)]) = G2 at B2 fp fr nr2 nt ⊢
    have B3 := B2.new (o := HO.lst [.str "a", .str "A", .str (one c)]) nr2
    have fr2 : upd G2 r2 (HO.lst [.str "a", .str "A", .str (one c)]) r2 = some (.lst [.str "a", .str "A", .str (one c)]) := upd_same
    have x3 := Ex.new (o := HO.lst [.str "a", .str "A", .str (one c)]) nr2
    have fp := x3 _ _ fp
    have fr := x3 _ _ fr
    generalize upd G2 r2 (HO.lst [.str "a", .str "A", .str (one c)]) = G3 at B3 fp fr fr2 nt ⊢
    have B4 := B3.new (o := HO.lst [.ref p, .ref p, .ref r, .ref r2]) nt
    have x4 := Ex.new (o := HO.lst [.ref p, .ref p, .ref r, .ref r2]) nt
    have ft : upd G3 t (HO.lst [.ref p, .ref p, .ref r, .ref r2]) t = some (.lst [.ref p, .ref p, .ref r, .ref r2]) := upd_same
    have fp := x4 _ _ fp
    have fr := x4 _ _ fr
    have fr2 := x4 _ _ fr2
    generalize upd G3 t (HO.lst [.ref p, .ref p, .ref r, .ref r2]) = G4 at B4 fp fr fr2 ft ⊢
    have ns : ∀ {b : Addr} {x y z : V}, G4 b = some (.lst [x, y, z]) → b ≠ st := fun e k => by
      obtain ⟨d, s', e', _⟩ := B4.sm
      rw [k, e'] at e
      cases e
    have ns4 : t ≠ st := fun k => by
      obtain ⟨d, s', e', _⟩ := B4.sm
      rw [k, e'] at ft
      cases ft
    refine ⟨st, _, fun v => ∃ a, v = .ref a ∧ AlpAt (Hd st G4) a, rfl, B4.sm, .inl ⟨t, _, rfl, .inl (SqL.of (hd_of ns4 ft)), by simp, by show 4 ≤ 100000; decide, fun v m => ?_⟩, fun v H2 hv A2 => ?_⟩
    · simp only [List.mem_cons, List.not_mem_nil, or_false] at m
      rcases m with rfl | rfl | rfl | rfl
      · exact ⟨p, rfl, a, b, c, hd_of (ns fp) fp, ha, hb, hc⟩
      · exact ⟨p, rfl, a, b, c, hd_of (ns fp) fp, ha, hb, hc⟩
      · exact ⟨r, rfl, 97, 98, c, hd_of (ns fr) fr, by decide, by decide, hc⟩
      · exact ⟨r2, rfl, 97, 65, c, hd_of (ns fr2) fr2, by decide, by decide, hc⟩
    · obtain ⟨a', rfl, al⟩ := hv
      exact q a' H2 (al.mono A2.gr) (B4.trans A2)
theorem ok_word (F : Fun K "_law_word" "_law_word" sWord f fd) (W : Drw P w K mg base fD fC dD dC) (B : Blt mg) : FnOk P w K mg base CX0 3 f fd ["stream", "signs", "most"] spWord := by
  refine F.ok scWord (fun vs H Q E h => ?_) (fun cdv A outer s H vs Q E hr h => ?_)
  · obtain ⟨_, _, _, rfl, _⟩ := h
    rfl
  obtain ⟨st, al, h, rfl, hst, hal, lh, q⟩ := h
  have nd := scWord.nd
  have hr1 : Room 1 _ := hr.mono (by decide)
  refine ⟨_, pss_one (ps_ret (pe_join pe_str (pe_lc (own := [("turn", 3)]) (g := gName 3) (tt := tYes) (te := tCall (spChoose K) [] E0 (tCons (tVar 0) (tCons (tVar 1) tNil))) rfl nd (pi_range1 rfl B.range (pa_cons (pe_call W.gD hr1 rfl W.mD W.kD W.bD .nil pass0 (pa_cons (pv 0) (pa_cons (pe_op op_add (pv 2) pe_int) pa_nil))) pa_nil))
      (blkOk_by (N := NWord) (sc := defScope sWord) (by decide +kernel)) (fun _ _ _ _ _ => pg_name (i := 3) nd rfl (Or.inl rfl)) (fun _ _ _ _ _ => pts_nil) (fun _ _ _ _ _ => pe_call W.gC hr rfl W.mC W.kC W.bC .nil pass0 (pa_cons (pv 0) (pa_cons (pv 1) pa_nil)))))), ?_⟩
  refine ⟨⟨_, rfl⟩, _, rfl, _, rfl, _, _, rfl, rfl, st, _, rfl, hst, by omega, by omega, fun k H1 k0 k1 A1 => ⟨k, rfl, by omega, by omega, fun L hL => ?_⟩⟩
  have nst := A1.sm.ne hL
  obtain ⟨a1, a2, a3, ea, l1, l2, l3⟩ := hal.mono A1.gr
  refine lc_range (lo := 0) (fun i H' => Aft st H1 H' ∧ ∃ cs : List Nat, cs.length = i ∧ (∀ c ∈ cs, c < 1114112) ∧ H' L = some (.lst (cs.map fun c => V.str (one c)))) ⟨(Aft.of A1.sm).new hL, [], rfl, (fun _ m => nomatch m), upd_same⟩ (fun i H' hi p => ?_) (fun H' p => ?_)
  · obtain ⟨pA, cs, c1, cv, c2⟩ := p
    refine ⟨rfl, tyes ⟨_, rfl, _, rfl, st, _, fun v => ∃ c, v = .str (one c) ∧ c < 1114112, rfl, pA.sm, .inl ⟨al, _, rfl, .inl (SqL.of (pA.gr _ _ ea)), by simp, by show 3 ≤ 100000; decide, fun v m => ?_⟩, fun v H2 hv A2 => ?_⟩⟩
    · simp only [List.mem_cons, List.not_mem_nil, or_false] at m
      rcases m with rfl | rfl | rfl
      · exact ⟨a1, rfl, l1⟩
      · exact ⟨a2, rfl, l2⟩
      · exact ⟨a3, rfl, l3⟩
    obtain ⟨c, rfl, hc⟩ := hv
    have hL2 : H2 L = some (.lst (cs.map fun c => V.str (one c))) := hd_le _ _ (A2.gr _ _ (hd_of nst c2))
    refine ⟨_, hL2, by rw [sizeLine_eq, List.length_map]; omega, (pA.trans A2).mut nst (by unfold Hd; rw [if_neg nst]; exact hL), cs ++ [c], by simp [c1], (fun x m => (List.mem_append.mp m).elim (cv x) fun m => by cases List.mem_singleton.mp m; exact hc), by rw [upd_same, List.map_append]; rfl⟩
  · obtain ⟨pA, cs, c1, cv, c2⟩ := p
    have e0 : (Str.ofString "").length = 0 := rfl
    refine ⟨_, L, cs.map one, rfl, rfl, .inl (SqL.of (by rw [c2, List.map_map]; rfl)), by rw [sum_one, e0]; omega, ?_⟩
    rw [TL.join_eq]
    have e : Str.join (Str.ofString "") (cs.map one) = tx cs := join_tx cs
    rw [e]
    exact q cs H' ⟨by omega, cv⟩ (A1.trans pA)
end
end Sk

/-! tuple(xs) of a list: a tuple of which it is known that it has no dict of its own. -/
namespace Sk
open PySem PySem.Spec PyProof.Rows L2 Evl
theorem Tq.mono {H H' : Hp} {a : Addr} {xs : List V} (x : Ex H H') (h : Tq H a xs) : Tq H' a xs := let ⟨o, d, e⟩ := h; ⟨o, d, x _ _ e⟩
theorem Tq.sq {K : PySem.W.Frag} {H : Hp} {a : Addr} {xs : List V} (h : Tq H a xs) : SqT K H a xs := let ⟨o, _, e⟩ := h; .inl (.inr ⟨o, e⟩)
theorem call_tupleF {X : Cx} : CallR X (.type "tuple") (fun xs H Q => ∃ p ys, xs = [.ref p] ∧ SqL X.K H p ys ∧ ∀ l o, H l = none → Obj.dict o = none → Q (.ref l) (upd H l (.frz o (.tup ys)))) := by
  intro pins s σ H xs us Q I r h
  obtain ⟨p, ys, rfl, hq, q⟩ := h
  obtain ⟨u, rfl, rx⟩ := vals1 r
  cases (show u = Value.ref p from rx)
  obtain ⟨its, r1, pl, hz⟩ := I.list hq
  have hlen := r1.length
  refine call_tuple_list pl.isList (fun h' kp => ?_) (by simp only [List.size_toArray]; omega)
  have I1 : Inv X pins σ H { s with heap := h' } := I.kept (t' := s.toks) kp
  have I2 := I1.laid (a := h'.objs.size) (o := .frz { cls := .type "tuple", data := .seq its.toArray } (.tup ys)) (h' := h'.push { cls := .type "tuple", data := .seq its.toArray }) (t' := s.toks) (fun b o e => Heap.get?_push_of_some _ e) (Nat.le_refl _)
    (show ObjOk X.prog X.w _ _ _ (.frz _ (.tup ys)) from ⟨Heap.get?_push_size _ rfl, hz, its, r1, IsTup.new _ _⟩)
  exact ⟨.ref h'.objs.size, _, I2, rfl, q _ _ (I1.hok.fresh (Nat.le_refl _)) rfl⟩
end Sk

/-! Loops taken turn by turn; the objects that a def has made, one by one. -/
namespace Sk
open PySem PySem.Spec PyProof.Rows L2 Evl
def Un (c : TT) (tb : TS) (D : Ends) : Nat → L2.St → Hp → Prop
  | 0 => fun σ H => c σ H fun b H1 => b = false ∧ D.nx σ H1
  | n + 1 => fun σ H => c σ H fun b H1 => if b = true then tb { D with nx := Un c tb D n, ct := Un c tb D n, bk := D.nx } σ H1 else D.nx σ H1
theorem while_n {c : TT} {tb : TS} {D : Ends} {σ : L2.St} {H : Hp} (mono : ∀ σ H Q Q', (∀ b H1, Q b H1 → Q' b H1) → c σ H Q → c σ H Q') (n : Nat) (h : Un c tb D n σ H) : tWhile c tb D σ H := by
  refine ⟨fun m σ H => Un c tb D m σ H, ⟨n, h⟩, fun m σ H h => ?_⟩
  cases m with
  | zero => exact mono _ _ _ _ (fun b H1 q => by obtain ⟨rfl, q⟩ := q; exact iteF q) h
  | succ m => exact mono _ _ _ _ (fun b H1 q => by
      cases b with
      | true => exact iteT ⟨Un c tb D m, fun _ _ z => ⟨m, Nat.lt_succ_self m, z⟩, by simpa using q⟩
      | false => exact iteF (by simpa using q)) h
def Fl (sq : Hp → Prop) (g : TG) (tb : TS) (D : Ends) : List V → L2.St → Hp → Prop
  | [] => fun σ H => sq H ∧ D.nx σ H
  | x :: xs => fun σ H => sq H ∧ g x σ H fun σ2 H2 => tb { D with nx := Fl sq g tb D xs, ct := Fl sq g tb D xs, bk := D.nx } σ2 H2
theorem Fl.sq {sq : Hp → Prop} {g : TG} {tb : TS} {D : Ends} {xs : List V} {σ : L2.St} {H : Hp} (h : Fl sq g tb D xs σ H) : sq H := by
  cases xs with
  | nil => exact h.1
  | cons x xs => exact h.1
theorem drop_at {xs : List V} {i : Nat} {x : V} (h : xs[i]? = some x) : xs.drop i = x :: xs.drop (i + 1) := by
  obtain ⟨hi, e⟩ := List.getElem?_eq_some_iff.mp h
  rw [List.drop_eq_getElem_cons hi, e]
theorem for_listU {K : PySem.W.Frag} {a : Addr} {xs : List V} {g : TG} {tb : TS} {D : Ends} {σ : L2.St} {H : Hp} (h : Fl (fun H => SqL K H a xs) g tb D xs σ H) :
    ∃ W : Nat → Nat → L2.St → Hp → Prop, (∃ m, W 0 m σ H) ∧ ∀ i m σ H, W i m σ H → ((Itl K a).stop i H ∧ D.nx σ H) ∨ ((Itl K a).go i H ∧ ∃ N : L2.St → Hp → Prop, (∀ σ' H', N σ' H' → ∃ m', m' < m ∧ W (i + 1) m' σ' H') ∧ ∀ x H', (Itl K a).yld i H x H' → g x σ H' fun σ2 H2 => tb { D with nx := N, ct := N, bk := D.nx } σ2 H2) :=
  for_list (xs := xs) (fun i σ H => Fl (fun H => SqL K H a xs) g tb D (xs.drop i) σ H) h (fun i σ H _ p => p.sq) (fun i x σ H e p => by rw [drop_at e] at p; exact p.2) (fun σ H p => by rw [List.drop_length] at p; exact p.2)
theorem for_tupU {K : PySem.W.Frag} {a : Addr} {xs : List V} {g : TG} {tb : TS} {D : Ends} {σ : L2.St} {H : Hp} (h : Fl (fun H => SqT K H a xs) g tb D xs σ H) :
    ∃ W : Nat → Nat → L2.St → Hp → Prop, (∃ m, W 0 m σ H) ∧ ∀ i m σ H, W i m σ H → ((Itt K a).stop i H ∧ D.nx σ H) ∨ ((Itt K a).go i H ∧ ∃ N : L2.St → Hp → Prop, (∀ σ' H', N σ' H' → ∃ m', m' < m ∧ W (i + 1) m' σ' H') ∧ ∀ x H', (Itt K a).yld i H x H' → g x σ H' fun σ2 H2 => tb { D with nx := N, ct := N, bk := D.nx } σ2 H2) :=
  for_tup (xs := xs) (fun i σ H => Fl (fun H => SqT K H a xs) g tb D (xs.drop i) σ H) h (fun i σ H _ p => p.sq) (fun i x σ H e p => by rw [drop_at e] at p; exact p.2) (fun σ H p => by rw [List.drop_length] at p; exact p.2)
/-! ### what is sure of more is sure of less -/
def MonE (te : TE) : Prop := ∀ σ H (Q Q' : VK), (∀ v H1, Q v H1 → Q' v H1) → te σ H Q → te σ H Q'
theorem mon_var {i : Nat} : MonE (tVar i) := fun σ H Q Q' k ⟨v, e, q⟩ => ⟨v, e, k _ _ q⟩
theorem mon_c {v : V} : MonE (tC v) := fun σ H Q Q' k q => k _ _ q
theorem mon_len {K : PySem.W.Frag} {te : TE} (h : MonE te) : MonE (tCB (fun xs H Q => ∃ p ys, xs = [V.ref p] ∧ (SqL K H p ys ∨ SqT K H p ys) ∧ Q (.int ((ys.length : Nat) : Int)) H) (tCons te tNil)) :=
  fun σ H Q Q' k q => h σ H _ _ (fun v H1 ⟨p, ys, e, s, z⟩ => ⟨p, ys, e, s, k _ _ z⟩) q
theorem mon_op {r : R2} {ta tb : TE} (hr : ∀ x y H (Q Q' : VK), (∀ v H1, Q v H1 → Q' v H1) → r x y H Q → r x y H Q') (ha : MonE ta) (hb : MonE tb) : MonE (tOp r ta tb) := fun σ H Q Q' k q => ha σ H _ _ (fun x H1 z => hb σ H1 _ _ (fun y H2 w => hr x y H2 _ _ k w) z) q
theorem mon_I0 {f : Int → Int → V} : ∀ x y H (Q Q' : VK), (∀ v H1, Q v H1 → Q' v H1) → rI0 f x y H Q → rI0 f x y H Q' := fun x y H Q Q' k ⟨i, j, e1, e2, q⟩ => ⟨i, j, e1, e2, k _ _ q⟩
theorem mon_test {te : TE} (h : MonE te) : ∀ σ H (Q Q' : Bool → Hp → Prop), (∀ b H1, Q b H1 → Q' b H1) → tTest te σ H Q → tTest te σ H Q' := fun σ H Q Q' k q => h σ H _ _ (fun v H1 ⟨b, e, z⟩ => ⟨b, e, k _ _ z⟩) q
theorem ex_none' {H H1 : Hp} {a : Addr} (x : Ex H H1) (h : H1 a = none) : H a = none := by
  cases e : H a with
  | none => rfl
  | some o => rw [x _ _ e] at h; cases h
theorem set_same {xs : List Addr} {i : Nat} {a : Addr} (h : xs[i]? = some a) : xs.set i a = xs := by
  refine List.ext_getElem? fun j => ?_
  rw [List.getElem?_set]
  by_cases z : i = j
  · subst z
    rw [if_pos rfl, if_pos (List.getElem?_eq_some_iff.mp h).1, h]
  · rw [if_neg z]
theorem nodup_at {xs : List Addr} (n : xs.Nodup) {i j : Nat} {a : Addr} (h : xs[i]? = some a) (h2 : xs[j]? = some a) : i = j := by
  obtain ⟨hi, e⟩ := List.getElem?_eq_some_iff.mp h
  obtain ⟨hj, e2⟩ := List.getElem?_eq_some_iff.mp h2
  exact (List.getElem_inj n).mp (e.trans e2.symm)
/-! ### the objects of one's own -/
structure Lv (H0 H : Hp) (l : List (Addr × HO)) : Prop where
  nd : (l.map (·.1)).Nodup
  at_ : ∀ p ∈ l, H p.1 = some p.2
  off : ∀ p ∈ l, H0 p.1 = none
  ex : Ex H0 H
theorem Lv.nil {H0 H : Hp} (x : Ex H0 H) : Lv H0 H [] := ⟨List.nodup_nil, (fun _ m => nomatch m), (fun _ m => nomatch m), x⟩
theorem Lv.get {H0 H : Hp} {l : List (Addr × HO)} (L : Lv H0 H l) (i : Nat) {a : Addr} {o : HO} (h : l[i]? = some (a, o)) : H a = some o := L.at_ _ (List.mem_of_getElem? h)
theorem Lv.new {H0 H : Hp} {l : List (Addr × HO)} (L : Lv H0 H l) {a : Addr} {o : HO} (n : H a = none) : Lv H0 (upd H a o) ((a, o) :: l) := by
  refine ⟨?_, ?_, ?_, L.ex.trans (Ex.new n)⟩
  · rw [List.map_cons, List.nodup_cons]
    refine ⟨fun m => ?_, L.nd⟩
    obtain ⟨p, hp, e⟩ := List.mem_map.mp m
    have := L.at_ p hp
    rw [e, n] at this
    cases this
  · intro p m
    rcases List.mem_cons.mp m with rfl | m
    · exact upd_same
    · exact (Ex.new n) _ _ (L.at_ p m)
  · intro p m
    rcases List.mem_cons.mp m with rfl | m
    · exact ex_none' L.ex n
    · exact L.off p m
theorem Lv.mut {H0 H : Hp} {l : List (Addr × HO)} (L : Lv H0 H l) (i : Nat) {a : Addr} {o : HO} (o' : HO) (h : l[i]? = some (a, o)) : Lv H0 (upd H a o') (l.set i (a, o')) := by
  obtain ⟨hi, e⟩ := List.getElem?_eq_some_iff.mp h
  have m0 : (a, o) ∈ l := List.mem_of_getElem? h
  have hk : (l.set i (a, o')).map (·.1) = l.map (·.1) := by
    rw [List.map_set]
    have : (l.map (·.1))[i]? = some a := by rw [List.getElem?_map, h]; rfl
    exact set_same this
  refine ⟨by rw [hk]; exact L.nd, ?_, ?_, fun b u eb => ?_⟩
  · intro p m
    obtain ⟨j, hj⟩ := List.mem_iff_getElem?.mp m
    rw [List.getElem?_set] at hj
    by_cases z : i = j
    · subst z
      rw [if_pos rfl, if_pos hi] at hj
      cases hj
      exact upd_same
    · rw [if_neg z] at hj
      have np : p.1 ≠ a := fun w => by
        have h1 : (l.map (·.1))[j]? = some a := by rw [List.getElem?_map, hj, ← w]; rfl
        have h2 : (l.map (·.1))[i]? = some a := by rw [List.getElem?_map, h]; rfl
        exact z (nodup_at L.nd h2 h1)
      rw [upd_ne np]
      exact L.at_ p (List.mem_of_getElem? hj)
  · intro p m
    have : p.1 ∈ l.map (·.1) := by rw [← hk]; exact List.mem_map.mpr ⟨p, m, rfl⟩
    obtain ⟨q, hq, eq⟩ := List.mem_map.mp this
    rw [← eq]
    exact L.off q hq
  · have := L.off _ m0
    have nb : b ≠ a := fun w => by rw [w, this] at eb; cases eb
    rw [upd_ne nb]
    exact L.ex _ _ eb
end Sk
namespace Sk
open PySem PySem.Spec PyProof.Rows L2 Evl
/-! ### comprehensions -/
def Fc (sq : Hp → Prop) (g : TG) (tt : TT) (te : TE) (vs : List Nat) (σ : L2.St) (D : Addr) (Qd : Hp → Prop) : List V → Hp → Prop
  | [] => fun H => sq H ∧ Qd H
  | x :: xs => fun H => sq H ∧ g x (wipe σ vs) H fun σ2 H2 => wipe σ2 vs = wipe σ vs ∧ tt σ2 H2 fun b H3 =>
      if b = true then te σ2 H3 fun y H4 => ∃ acc, H4 D = some (.lst acc) ∧ acc.length < sizeLine ∧ Fc sq g tt te vs σ D Qd xs (upd H4 D (.lst (acc ++ [y]))) else Fc sq g tt te vs σ D Qd xs H3
theorem Fc.sq {sq : Hp → Prop} {g : TG} {tt : TT} {te : TE} {vs : List Nat} {σ : L2.St} {D : Addr} {Qd : Hp → Prop} {xs : List V} {H : Hp} (h : Fc sq g tt te vs σ D Qd xs H) : sq H := by
  cases xs with
  | nil => exact h.1
  | cons x xs => exact h.1
section
variable {K : PySem.W.Frag} {a : Addr} {xs : List V} {g : TG} {tt : TT} {te : TE} {vs : List Nat} {σ : L2.St} {H1 : Hp} {D : Addr} {Qd : Hp → Prop}
theorem lc_tupU (h : Fc (fun H => SqT K H a xs) g tt te vs σ D Qd xs (upd H1 D (.lst []))) :
    ∃ W : Nat → Nat → Hp → Prop, (∃ m, W 0 m (upd H1 D (.lst []))) ∧ ∀ i m H, W i m H →
      ((Itt K a).stop i H ∧ Qd H) ∨ ((Itt K a).go i H ∧ ∃ Nx : Hp → Prop, (∀ H', Nx H' → ∃ m', m' < m ∧ W (i + 1) m' H') ∧ ∀ x H', (Itt K a).yld i H x H' → g x (wipe σ vs) H' fun σ2 H2 => wipe σ2 vs = wipe σ vs ∧ tt σ2 H2 fun b H3 =>
        if b = true then te σ2 H3 fun y H4 => ∃ acc, H4 D = some (.lst acc) ∧ acc.length < sizeLine ∧ Nx (upd H4 D (.lst (acc ++ [y]))) else Nx H3) :=
  lc_tup (xs := xs) (fun i H => Fc (fun H => SqT K H a xs) g tt te vs σ D Qd (xs.drop i) H) h (fun i H _ p => p.sq) (fun i x H e p => by rw [drop_at e] at p; exact p.2) (fun H p => by rw [List.drop_length] at p; exact p.2)
theorem lc_listU (h : Fc (fun H => SqL K H a xs) g tt te vs σ D Qd xs (upd H1 D (.lst []))) :
    ∃ W : Nat → Nat → Hp → Prop, (∃ m, W 0 m (upd H1 D (.lst []))) ∧ ∀ i m H, W i m H →
      ((Itl K a).stop i H ∧ Qd H) ∨ ((Itl K a).go i H ∧ ∃ Nx : Hp → Prop, (∀ H', Nx H' → ∃ m', m' < m ∧ W (i + 1) m' H') ∧ ∀ x H', (Itl K a).yld i H x H' → g x (wipe σ vs) H' fun σ2 H2 => wipe σ2 vs = wipe σ vs ∧ tt σ2 H2 fun b H3 =>
        if b = true then te σ2 H3 fun y H4 => ∃ acc, H4 D = some (.lst acc) ∧ acc.length < sizeLine ∧ Nx (upd H4 D (.lst (acc ++ [y]))) else Nx H3) :=
  lc_list (xs := xs) (fun i H => Fc (fun H => SqL K H a xs) g tt te vs σ D Qd (xs.drop i) H) h (fun i H _ p => p.sq) (fun i x H e p => by rw [drop_at e] at p; exact p.2) (fun H p => by rw [List.drop_length] at p; exact p.2)
end
end Sk
namespace Sk
open PySem PySem.Spec PyProof.Rows L2 Evl
theorem Lv.ext {H0 H H' : Hp} {l : List (Addr × HO)} (L : Lv H0 H l) (x : Ex H H') : Lv H0 H' l := ⟨L.nd, fun p m => x _ _ (L.at_ p m), L.off, L.ex.trans x⟩
end Sk
namespace Sk
open PySem PySem.Spec PyProof.Rows L2 Evl
theorem Lv.go {C : Hp → Prop} {H0 H : Hp} {l : List (Addr × HO)} (L : Lv H0 H l) (k : ∀ G, Lv H0 G l → C G) : C H := k H L
end Sk

/-! States of two small languages: the def renumbered. -/
namespace Sk
open PySem PySem.Spec PyProof.Rows L2 Evl
abbrev sCommon : Stmt := topS 16
abbrev sRenum : Stmt := topS 24
abbrev sAscend : Stmt := topS 26
abbrev sCounts : Stmt := topS 27
abbrev sMoves : Stmt := topS 28
abbrev sTexts : Stmt := topS 36
abbrev NRen : List Str := ["states", "first", "numbers", "order", "found", "accepting", "steps", "row", "sign", "later"]
theorem scRen : FnScope NRen ["states", "first"] (defScope sRenum) := ⟨rfl, rfl, rfl, by decide +kernel, rfl, by decide +kernel, by decide +kernel⟩
/-- the automaton of no text, as it is handed on -/
def StA (H : Hp) (p : Addr) : Prop := ∃ s r, H p = some (.lst [.ref s]) ∧ H s = some (.tup [.bl false, .ref r]) ∧ Tq H r []
/-- the automaton of "a" -/
def StB (H : Hp) (p : Addr) : Prop := ∃ s t r u q, H p = some (.lst [.ref s, .ref t]) ∧ H s = some (.tup [.bl false, .ref r]) ∧ Tq H r [.ref q] ∧ H q = some (.tup [.str "a", .int 1]) ∧ H t = some (.tup [.bl true, .ref u]) ∧ Tq H u []
theorem StA.mono {H H' : Hp} {p : Addr} (x : Ex H H') (h : StA H p) : StA H' p := let ⟨s, r, a, b, c⟩ := h; ⟨s, r, x _ _ a, x _ _ b, c.mono x⟩
theorem StB.mono {H H' : Hp} {p : Addr} (x : Ex H H') (h : StB H p) : StB H' p := let ⟨s, t, r, u, q, a, b, c, d, e, f⟩ := h; ⟨s, t, r, u, q, x _ _ a, x _ _ b, c.mono x, x _ _ d, x _ _ e, f.mono x⟩
def St2 (H : Hp) (p : Addr) : Prop := StA H p ∨ StB H p
def spRen : Sp := fun vs H Q _ => ∃ p, (∀ p' H', Ex H H' → St2 H' p' → Q (.ref p') H') ∧
  ((vs = [.ref p, .int 0] ∧ ∃ s r, H p = some (.lst [.ref s]) ∧ H s = some (.tup [.bl false, .ref r]) ∧ H r = some (.tup [])) ∨
   (vs = [.ref p, .int 1] ∧ ∃ s t r u q, H p = some (.lst [.ref t, .ref s]) ∧ H s = some (.tup [.bl false, .ref r]) ∧ H r = some (.tup [.ref q]) ∧ H q = some (.tup [.str "a", .int 0]) ∧ H t = some (.tup [.bl true, .ref u]) ∧ H u = some (.tup [])))
section
variable {P : Program} {w : World} {K : PySem.W.Frag} {mg : Str → Option Value} {base : Heap} {f : Addr} {fd : FuncData}
theorem ok_ren {k : Nat} (F : Fun K "renumbered" "renumbered" sRenum f fd) (B : Blt mg) (B2 : Blt2 mg) (nw : ∃ t, mg "NOWHERE" = some (.int (-1) t)) : FnOk P w K mg base CX0 (k + 1) f fd ["states", "first"] spRen := by
  refine F.ok scRen (fun vs H Q E h => ?_) (fun cdv A outer s H vs Q E hr h => ?_)
  · obtain ⟨_, _, ⟨rfl, _⟩ | ⟨rfl, _⟩⟩ := h <;> rfl
  have nd := scRen.nd
  obtain ⟨tn, hn⟩ := nw
  obtain ⟨p, q, h⟩ := h
  have hv : ∃ i, vs = [.ref p, .int i] := by
    rcases h with ⟨rfl, _⟩ | ⟨rfl, _⟩ <;> exact ⟨_, rfl⟩
  refine ⟨_, pss_cons (ps_set (i := 2) nd rfl (Or.inl rfl) (pe_op op_rep (pe_lst (pa_cons (pe_glob (v := .int (-1)) rfl hn ⟨_, rfl⟩) pa_nil)) (pe_callB call_len_seq rfl B.len PySem.boot_len (pa_cons (pv 0) pa_nil))))
    (pss_cons (ps_asg pe_int (pg_sub (pv 2) (pv 1) set_list))
    (pss_cons (ps_set (i := 3) nd rfl (Or.inl rfl) (pe_lst (pa_cons (pv 1) pa_nil)))
    (pss_cons (ps_set (i := 4) nd rfl (Or.inl rfl) (pe_lst pa_nil))
    (pss_cons (ps_while PassesOwn.never (pt_cmpR op_lt (pe_callB call_len_seq rfl B.len PySem.boot_len (pa_cons (pv 4) pa_nil)) (pe_callB call_len_seq rfl B.len PySem.boot_len (pa_cons (pv 3) pa_nil)) (nomark _))
      (pss_cons (ps_asg (pe_ix ix_list (pv 0) (pe_ix ix_list (pv 3) (pe_callB call_len_seq rfl B.len PySem.boot_len (pa_cons (pv 4) pa_nil)) (fun _ _ => rfl)) (fun _ _ => rfl)) (pg_tup rfl (pgs_cons (pg_name (i := 5) nd rfl (Or.inl rfl)) (pgs_cons (pg_name (i := 6) nd rfl (Or.inl rfl)) pgs_nil))))
      (pss_cons (ps_set (i := 7) nd rfl (Or.inl rfl) (pe_lst pa_nil))
      (pss_cons (ps_for PassesOwn.never rfl (pi_tup (pv 6)) (pg_tup rfl (pgs_cons (pg_name (i := 8) nd rfl (Or.inl rfl)) (pgs_cons (pg_name (i := 9) nd rfl (Or.inl rfl)) pgs_nil)))
        (pss_cons (ps_if (pt_cmpR op_eq (pe_ix ix_list (pv 2) (pv 9) (fun _ _ => rfl)) (pe_glob (v := .int (-1)) rfl hn ⟨_, rfl⟩) (nomark _))
          (pss_cons (ps_asg (pe_callB call_len_seq rfl B.len PySem.boot_len (pa_cons (pv 3) pa_nil)) (pg_sub (pv 2) (pv 9) set_list))
          (pss_one (ps_expr (pe_bm PySem.F.plainAttrs_list PySem.F.slot_list_append PySem.F.type_list_append mt_append (pv 3) (pa_cons (pv 9) pa_nil))))) pss_nil)
        (pss_one (ps_expr (pe_bm PySem.F.plainAttrs_list PySem.F.slot_list_append PySem.F.type_list_append mt_append (pv 7) (pa_cons (pe_tup (pa_cons (pv 8) (pa_cons (pe_ix ix_list (pv 2) (pv 9) (fun _ _ => rfl)) pa_nil))) pa_nil))))))
      (pss_one (ps_expr (pe_bm PySem.F.plainAttrs_list PySem.F.slot_list_append PySem.F.type_list_append mt_append (pv 4) (pa_cons (pe_tup (pa_cons (pv 5) (pa_cons (pe_callTy call_tupleF rfl B2.tuple bt_tuple (pa_cons (pv 7) pa_nil)) pa_nil))) pa_nil))))))))
    (pss_one (ps_ret (pv 4))))))), ?_⟩
  rcases h with ⟨rfl, s0, r0, hp, hs, hr0⟩ | ⟨rfl, s0, t0, r0, u0, q0, hp, hs, hr0, hq0, ht0, hu0⟩
  · refine ⟨nle' (by show 1 ≤ 1000; decide), fun a0 n0 => ?_⟩
    have L1 := (Lv.nil (Ex.refl H)).new (o := HO.lst [V.int (-1)]) n0
    generalize upd H a0 (HO.lst [V.int (-1)]) = G1 at L1 ⊢
    refine ⟨_, rfl, p, _, rfl, .inl (SqL.of (L1.ex _ _ hp)), a0, _, _, rfl, rfl, (L1.get 0 rfl), (by show -(2 ^ 63) ≤ (1 : Int); decide), (by show (1 : Int) < 2 ^ 63; decide), nle' (by show 1 ≤ 1000; decide), fun a1 n1 => ?_⟩
    have L2 := L1.new (o := HO.lst (List.replicate (Int.toNat ((([V.ref s0] : List V).length : Nat) : Int)) [V.int (-1)]).flatten) n1
    generalize upd G1 a1 (HO.lst (List.replicate (Int.toNat ((([V.ref s0] : List V).length : Nat) : Int)) [V.int (-1)]).flatten) = G2 at L2 ⊢
    refine ⟨_, rfl, _, rfl, a1, [V.int (-1)], 0, 0, rfl, rfl, (L2.get 0 rfl), rfl, ?_⟩
    have L3 := L2.mut 0 (a := a1) (HO.lst ([V.int (-1)].set 0 (V.int 0))) rfl
    generalize upd G2 a1 (HO.lst ([V.int (-1)].set 0 (V.int 0))) = G3 at L3 ⊢
    refine ⟨_, rfl, nle' (by show 1 ≤ 1000; decide), fun a2 n2 => ?_⟩
    have L4 := L3.new (o := HO.lst [V.int 0]) n2
    generalize upd G3 a2 (HO.lst [V.int 0]) = G4 at L4 ⊢
    refine ⟨nle' (by show 0 ≤ 1000; decide), fun a3 n3 => ?_⟩
    have L5 := L4.new (o := HO.lst []) n3
    generalize upd G4 a3 (HO.lst []) = G5 at L5 ⊢
    refine while_n (mon_test (mon_op mon_I0 (mon_len mon_var) (mon_len mon_var))) 1 ?_
    refine ⟨_, rfl, a3, ([] : List V), rfl, .inl (SqL.of (L5.get 0 rfl)), _, rfl, a2, [V.int 0], rfl, .inl (SqL.of (L5.get 1 rfl)), _, _, rfl, rfl, true, rfl, iteT ?_⟩
    refine ⟨_, rfl, _, rfl, _, rfl, a3, ([] : List V), rfl, .inl (SqL.of (L5.get 0 rfl)), a2, [V.int 0], _, .int 0, rfl, rfl, (SqL.of (L5.get 1 rfl)), rfl, p, _, 0, .ref s0, rfl, rfl, SqL.of (L5.ex _ _ hp), rfl, s0, _, rfl, SqT.of (L5.ex _ _ hs), rfl, _, _, rfl, _, _, rfl, rfl, ?_⟩
    refine ⟨nle' (by show 0 ≤ 1000; decide), fun a4 n4 => ?_⟩
    have L6 := L5.new (o := HO.lst []) n4
    generalize upd G5 a4 (HO.lst []) = G6 at L6 ⊢
    refine ⟨_, rfl, r0, rfl, ⟨_, SqT.of (L6.ex _ _ hr0)⟩, for_tupU (xs := []) ⟨SqT.of (L6.ex _ _ hr0), ?_⟩⟩
    refine ⟨_, rfl, Or.inl ⟨rfl, _, (SqL.of (L6.get 1 rfl))⟩, _, rfl, _, rfl, a4, ([] : List V), rfl, (SqL.of (L6.get 0 rfl)), fun t5 ot5 nt5 dt5 => ?_⟩
    have L7 := L6.new (o := HO.frz ot5 (.tup ([] : List V))) nt5
    generalize upd G6 t5 (HO.frz ot5 (.tup ([] : List V))) = G7 at L7 ⊢
    refine ⟨nle' (by show 2 ≤ 1000; decide), fun t6 nt6 => ?_⟩
    have L8 := L7.new (o := HO.tup [V.bl false, V.ref t5]) nt6
    generalize upd G7 t6 (HO.tup [V.bl false, V.ref t5]) = G8 at L8 ⊢
    refine ⟨a3, ([] : List V), .ref t6, rfl, rfl, (L8.get 3 rfl), Nat.lt_of_lt_of_le (show 0 < 1000 by decide) (nle' (Nat.le_refl _)), ?_⟩
    have L9 := L8.mut 3 (a := a3) (HO.lst (([] : List V) ++ [V.ref t6])) rfl
    generalize upd G8 a3 (HO.lst (([] : List V) ++ [V.ref t6])) = G9 at L9 ⊢
    refine ⟨_, rfl, a3, [V.ref t6], rfl, .inl (SqL.of (L9.get 3 rfl)), _, rfl, a2, [V.int 0], rfl, .inl (SqL.of (L9.get 4 rfl)), _, _, rfl, rfl, false, rfl, rfl, ?_⟩
    exact ⟨_, rfl, q a3 _ L9.ex (.inl ⟨t6, t5, (L9.get 3 rfl), (L9.get 0 rfl), ot5, dt5, (L9.get 1 rfl)⟩)⟩
  · refine ⟨nle' (by show 1 ≤ 1000; decide), fun a0 n0 => ?_⟩
    have L1 := (Lv.nil (Ex.refl H)).new (o := HO.lst [V.int (-1)]) n0
    generalize upd H a0 (HO.lst [V.int (-1)]) = G1 at L1 ⊢
    refine ⟨_, rfl, p, _, rfl, .inl (SqL.of (L1.ex _ _ hp)), a0, _, _, rfl, rfl, (L1.get 0 rfl), (by show -(2 ^ 63) ≤ (2 : Int); decide), (by show (2 : Int) < 2 ^ 63; decide), nle' (by show 2 ≤ 1000; decide), fun a1 n1 => ?_⟩
    have L2 := L1.new (o := HO.lst (List.replicate (Int.toNat ((([V.ref t0, V.ref s0] : List V).length : Nat) : Int)) [V.int (-1)]).flatten) n1
    generalize upd G1 a1 (HO.lst (List.replicate (Int.toNat ((([V.ref t0, V.ref s0] : List V).length : Nat) : Int)) [V.int (-1)]).flatten) = G2 at L2 ⊢
    refine ⟨_, rfl, _, rfl, a1, [V.int (-1), V.int (-1)], 1, 1, rfl, rfl, (L2.get 0 rfl), rfl, ?_⟩
    have L3 := L2.mut 0 (a := a1) (HO.lst ([V.int (-1), V.int (-1)].set 1 (V.int 0))) rfl
    generalize upd G2 a1 (HO.lst ([V.int (-1), V.int (-1)].set 1 (V.int 0))) = G3 at L3 ⊢
    refine ⟨_, rfl, nle' (by show 1 ≤ 1000; decide), fun a2 n2 => ?_⟩
    have L4 := L3.new (o := HO.lst [V.int 1]) n2
    generalize upd G3 a2 (HO.lst [V.int 1]) = G4 at L4 ⊢
    refine ⟨nle' (by show 0 ≤ 1000; decide), fun a3 n3 => ?_⟩
    have L5 := L4.new (o := HO.lst []) n3
    generalize upd G4 a3 (HO.lst []) = G5 at L5 ⊢
    refine while_n (mon_test (mon_op mon_I0 (mon_len mon_var) (mon_len mon_var))) 2 ?_
    refine ⟨_, rfl, a3, ([] : List V), rfl, .inl (SqL.of (L5.get 0 rfl)), _, rfl, a2, [V.int 1], rfl, .inl (SqL.of (L5.get 1 rfl)), _, _, rfl, rfl, true, rfl, iteT ?_⟩
    refine ⟨_, rfl, _, rfl, _, rfl, a3, ([] : List V), rfl, .inl (SqL.of (L5.get 0 rfl)), a2, [V.int 1], _, .int 1, rfl, rfl, (SqL.of (L5.get 1 rfl)), rfl, p, _, 1, .ref s0, rfl, rfl, SqL.of (L5.ex _ _ hp), rfl, s0, _, rfl, SqT.of (L5.ex _ _ hs), rfl, _, _, rfl, _, _, rfl, rfl, ?_⟩
    refine ⟨nle' (by show 0 ≤ 1000; decide), fun a4 n4 => ?_⟩
    have L6 := L5.new (o := HO.lst []) n4
    generalize upd G5 a4 (HO.lst []) = G6 at L6 ⊢
    refine ⟨_, rfl, r0, rfl, ⟨_, SqT.of (L6.ex _ _ hr0)⟩, for_tupU (xs := [.ref q0]) ⟨SqT.of (L6.ex _ _ hr0), q0, _, rfl, SqT.of (L6.ex _ _ hq0), rfl, _, _, rfl, _, _, rfl, rfl, ?_⟩⟩
    refine ⟨_, rfl, _, rfl, a1, [.int (-1), .int 0], 0, .int (-1), rfl, rfl, (SqL.of (L6.get 3 rfl)), rfl, rfl, true, rfl, iteT ?_⟩
    refine ⟨_, rfl, a2, [.int 1], rfl, .inl (SqL.of (L6.get 2 rfl)), _, rfl, _, rfl, a1, [.int (-1), .int 0], 0, 0, rfl, rfl, (L6.get 3 rfl), rfl, ?_⟩
    have L7 := L6.mut 3 (a := a1) (HO.lst ([V.int (-1), V.int 0].set 0 (V.int ((([V.int 1] : List V).length : Nat) : Int)))) rfl
    generalize upd G6 a1 (HO.lst ([V.int (-1), V.int 0].set 0 (V.int ((([V.int 1] : List V).length : Nat) : Int)))) = G7 at L7 ⊢
    refine ⟨_, rfl, Or.inl ⟨rfl, _, (SqL.of (L7.get 2 rfl))⟩, _, rfl, a2, [.int 1], .int 0, rfl, rfl, (L7.get 2 rfl), Nat.lt_of_lt_of_le (show 1 < 1000 by decide) (nle' (Nat.le_refl _)), ?_⟩
    have L8 := L7.mut 2 (a := a2) (HO.lst ([V.int 1] ++ [V.int 0])) rfl
    generalize upd G7 a2 (HO.lst ([V.int 1] ++ [V.int 0])) = G8 at L8 ⊢
    refine ⟨_, rfl, Or.inl ⟨rfl, _, (SqL.of (L8.get 0 rfl))⟩, _, rfl, _, rfl, _, rfl, a1, [.int 1, .int 0], 0, .int 1, rfl, rfl, (SqL.of (L8.get 3 rfl)), rfl, nle' (by show 2 ≤ 1000; decide), fun t7 n7 => ?_⟩
    have L9 := L8.new (o := HO.tup [V.str "a", V.int 1]) n7
    generalize upd G8 t7 (HO.tup [V.str "a", V.int 1]) = G9 at L9 ⊢
    refine ⟨a4, [], .ref t7, rfl, rfl, (L9.get 1 rfl), Nat.lt_of_lt_of_le (show 0 < 1000 by decide) (nle' (Nat.le_refl _)), ?_⟩
    have L10 := L9.mut 1 (a := a4) (HO.lst ([] ++ [V.ref t7])) rfl
    generalize upd G9 a4 (HO.lst ([] ++ [V.ref t7])) = G10 at L10 ⊢
    refine ⟨SqT.of (L10.ex _ _ hr0), ?_⟩
    refine ⟨_, rfl, Or.inl ⟨rfl, _, (SqL.of (L10.get 2 rfl))⟩, _, rfl, _, rfl, a4, [V.ref t7], rfl, (SqL.of (L10.get 1 rfl)), fun t8 ot8 nt8 dt8 => ?_⟩
    have L11 := L10.new (o := HO.frz ot8 (.tup [V.ref t7])) nt8
    generalize upd G10 t8 (HO.frz ot8 (.tup [V.ref t7])) = G11 at L11 ⊢
    refine ⟨nle' (by show 2 ≤ 1000; decide), fun t9 nt9 => ?_⟩
    have L12 := L11.new (o := HO.tup [V.bl false, V.ref t8]) nt9
    generalize upd G11 t9 (HO.tup [V.bl false, V.ref t8]) = G12 at L12 ⊢
    refine ⟨a3, ([] : List V), .ref t9, rfl, rfl, (L12.get 4 rfl), Nat.lt_of_lt_of_le (show 0 < 1000 by decide) (nle' (Nat.le_refl _)), ?_⟩
    have L13 := L12.mut 4 (a := a3) (HO.lst (([] : List V) ++ [V.ref t9])) rfl
    generalize upd G12 a3 (HO.lst (([] : List V) ++ [V.ref t9])) = G13 at L13 ⊢
    refine ⟨_, rfl, a3, [V.ref t9], rfl, .inl (SqL.of (L13.get 4 rfl)), _, rfl, a2, [V.int 1, .int 0], rfl, .inl (SqL.of (L13.get 5 rfl)), _, _, rfl, rfl, true, rfl, iteT ?_⟩
    refine ⟨_, rfl, _, rfl, _, rfl, a3, [V.ref t9], rfl, .inl (SqL.of (L13.get 4 rfl)), a2, [V.int 1, .int 0], _, .int 0, rfl, rfl, (SqL.of (L13.get 5 rfl)), rfl, p, _, 0, .ref t0, rfl, rfl, SqL.of (L13.ex _ _ hp), rfl, t0, _, rfl, SqT.of (L13.ex _ _ ht0), rfl, _, _, rfl, _, _, rfl, rfl, ?_⟩
    refine ⟨nle' (by show 0 ≤ 1000; decide), fun b4 m4 => ?_⟩
    have L14 := L13.new (o := HO.lst []) m4
    generalize upd G13 b4 (HO.lst []) = G14 at L14 ⊢
    refine ⟨_, rfl, u0, rfl, ⟨_, SqT.of (L14.ex _ _ hu0)⟩, for_tupU (xs := []) ⟨SqT.of (L14.ex _ _ hu0), ?_⟩⟩
    refine ⟨_, rfl, Or.inl ⟨rfl, _, (SqL.of (L14.get 5 rfl))⟩, _, rfl, _, rfl, b4, ([] : List V), rfl, (SqL.of (L14.get 0 rfl)), fun t10 ot10 nt10 dt10 => ?_⟩
    have L15 := L14.new (o := HO.frz ot10 (.tup ([] : List V))) nt10
    generalize upd G14 t10 (HO.frz ot10 (.tup ([] : List V))) = G15 at L15 ⊢
    refine ⟨nle' (by show 2 ≤ 1000; decide), fun t11 nt11 => ?_⟩
    have L16 := L15.new (o := HO.tup [V.bl true, V.ref t10]) nt11
    generalize upd G15 t11 (HO.tup [V.bl true, V.ref t10]) = G16 at L16 ⊢
    refine ⟨a3, [V.ref t9], .ref t11, rfl, rfl, (L16.get 7 rfl), Nat.lt_of_lt_of_le (show 1 < 1000 by decide) (nle' (Nat.le_refl _)), ?_⟩
    have L17 := L16.mut 7 (a := a3) (HO.lst ([V.ref t9] ++ [V.ref t11])) rfl
    generalize upd G16 a3 (HO.lst ([V.ref t9] ++ [V.ref t11])) = G17 at L17 ⊢
    refine ⟨_, rfl, a3, [V.ref t9, .ref t11], rfl, .inl (SqL.of (L17.get 7 rfl)), _, rfl, a2, [V.int 1, .int 0], rfl, .inl (SqL.of (L17.get 8 rfl)), _, _, rfl, rfl, false, rfl, rfl, ?_⟩
    exact ⟨_, rfl, q a3 _ L17.ex (.inr ⟨t9, t11, t8, t10, t7, (L17.get 7 rfl), (L17.get 3 rfl), ⟨ot8, dt8, (L17.get 4 rfl)⟩, (L17.get 5 rfl), (L17.get 0 rfl), ot10, dt10, (L17.get 1 rfl)⟩)⟩
end
end Sk

/-! The order of the states of two small languages. -/
namespace Sk
open PySem PySem.Spec PyProof.Rows L2 Evl
abbrev NAsc : List Str := ["states", "waiting", "_", "steps", "later", "order", "at"]
theorem scAsc : FnScope NAsc ["states"] (defScope sAscend) := ⟨rfl, rfl, rfl, by decide +kernel, rfl, by decide +kernel, by decide +kernel⟩
def spAsc : Sp := fun vs H Q _ => ∃ p, vs = [.ref p] ∧ ((StA H p ∧ ∀ a H', Ex H H' → H' a = some (.lst [.int 0]) → Q (.ref a) H') ∨ (StB H p ∧ ∀ a H', Ex H H' → H' a = some (.lst [.int 0, .int 1]) → Q (.ref a) H'))
theorem sq_mono {K : PySem.W.Frag} {H H' : Hp} {a : Addr} {xs : List V} (x : Ex H H') (h : SqT K H a xs) : SqT K H' a xs := by
  rcases h with (h | ⟨o, h⟩) | h
  · exact .inl (.inl (x _ _ h))
  · exact .inl (.inr ⟨o, x _ _ h⟩)
  · exact .inr h
section
variable {P : Program} {w : World} {K : PySem.W.Frag} {mg : Str → Option Value} {base : Heap} {f : Addr} {fd : FuncData}
theorem ok_asc {k : Nat} (F : Fun K "ascending_order" "ascending_order" sAscend f fd) (B : Blt mg) : FnOk P w K mg base CX0 (k + 1) f fd ["states"] spAsc := by
  refine F.ok scAsc (fun vs H Q E h => ?_) (fun cdv A outer s H vs Q E hr h => ?_)
  · obtain ⟨_, rfl, _⟩ := h
    rfl
  have nd := scAsc.nd
  obtain ⟨p, rfl, h⟩ := h
  refine ⟨_, pss_cons (ps_set (i := 1) nd rfl (Or.inl rfl) (pe_op op_rep (pe_lst (pa_cons pe_int pa_nil)) (pe_callB call_len_seq rfl B.len PySem.boot_len (pa_cons (pv 0) pa_nil))))
    (pss_cons (ps_for PassesOwn.never rfl (pi_list (pv 0)) (pg_tup rfl (pgs_cons (pg_name (i := 2) nd rfl (Or.inl rfl)) (pgs_cons (pg_name (i := 3) nd rfl (Or.inl rfl)) pgs_nil)))
      (pss_one (ps_for PassesOwn.never rfl (pi_tup (pv 3)) (pg_tup rfl (pgs_cons (pg_name (i := 2) nd rfl (Or.inl rfl)) (pgs_cons (pg_name (i := 4) nd rfl (Or.inl rfl)) pgs_nil)))
        (pss_one (ps_asg (pe_op op_add (pe_ix ix_list (pv 1) (pv 4) (fun _ _ => rfl)) pe_int) (pg_sub (pv 1) (pv 4) set_list))))))
    (pss_cons (ps_set (i := 5) nd rfl (Or.inl rfl) (pe_lst (pa_cons pe_int pa_nil)))
    (pss_cons (ps_set (i := 6) nd rfl (Or.inl rfl) pe_int)
    (pss_cons (ps_while PassesOwn.never (pt_cmpR op_lt (pv 6) (pe_callB call_len_seq rfl B.len PySem.boot_len (pa_cons (pv 5) pa_nil)) (nomark _))
      (pss_cons (ps_for PassesOwn.never rfl (pi_tup (pe_ix ix_tup (pe_ix ix_list (pv 0) (pe_ix ix_list (pv 5) (pv 6) (fun _ _ => rfl)) (fun _ _ => rfl)) pe_int (fun _ _ => rfl))) (pg_tup rfl (pgs_cons (pg_name (i := 2) nd rfl (Or.inl rfl)) (pgs_cons (pg_name (i := 4) nd rfl (Or.inl rfl)) pgs_nil)))
        (pss_cons (ps_asg (pe_op op_sub (pe_ix ix_list (pv 1) (pv 4) (fun _ _ => rfl)) pe_int) (pg_sub (pv 1) (pv 4) set_list))
        (pss_one (ps_if (pt_cmpR op_eq (pe_ix ix_list (pv 1) (pv 4) (fun _ _ => rfl)) pe_int (nomark _)) (pss_one (ps_expr (pe_bm PySem.F.plainAttrs_list PySem.F.slot_list_append PySem.F.type_list_append mt_append (pv 5) (pa_cons (pv 4) pa_nil)))) pss_nil))))
      (pss_one (ps_set (i := 6) nd rfl (Or.inl rfl) (pe_op op_add (pv 6) pe_int)))))
    (pss_one (ps_ret (pv 5))))))), ?_⟩
  rcases h with ⟨⟨s0, r0, hp, hs, hr⟩, q⟩ | ⟨⟨s0, t0, r0, u0, q0, hp, hs, hr, hq0, ht, hu⟩, q⟩
  · have hr0 := hr.sq (K := K)
    refine ⟨nle' (by show 1 ≤ 1000; decide), fun a0 n0 => ?_⟩
    have L1 := (Lv.nil (Ex.refl H)).new (o := HO.lst [V.int 0]) n0
    generalize upd H a0 (HO.lst [V.int 0]) = G1 at L1 ⊢
    refine ⟨_, rfl, p, _, rfl, .inl (SqL.of (L1.ex _ _ hp)), a0, _, _, rfl, rfl, (L1.get 0 rfl), (by show -(2 ^ 63) ≤ (1 : Int); decide), (by show (1 : Int) < 2 ^ 63; decide), nle' (by show 1 ≤ 1000; decide), fun a1 n1 => ?_⟩
    have L2 := L1.new (o := HO.lst (List.replicate (Int.toNat ((([V.ref s0] : List V).length : Nat) : Int)) [V.int 0]).flatten) n1
    generalize upd G1 a1 (HO.lst (List.replicate (Int.toNat ((([V.ref s0] : List V).length : Nat) : Int)) [V.int 0]).flatten) = G2 at L2 ⊢
    refine ⟨_, rfl, p, rfl, ⟨_, SqL.of (L2.ex _ _ hp)⟩, for_listU (xs := [V.ref s0]) ⟨SqL.of (L2.ex _ _ hp), s0, _, rfl, SqT.of (L2.ex _ _ hs), rfl, _, _, rfl, _, _, rfl, rfl, ?_⟩⟩
    refine ⟨_, rfl, r0, rfl, ⟨_, (sq_mono L2.ex hr0)⟩, for_tupU (xs := []) ⟨(sq_mono L2.ex hr0), ?_⟩⟩
    refine ⟨SqL.of (L2.ex _ _ hp), ?_⟩
    refine ⟨nle' (by show 1 ≤ 1000; decide), fun a2 n2 => ?_⟩
    have L3 := L2.new (o := HO.lst [V.int 0]) n2
    generalize upd G2 a2 (HO.lst [V.int 0]) = G3 at L3 ⊢
    refine while_n (mon_test (mon_op mon_I0 mon_var (mon_len mon_var))) 1 ?_
    refine ⟨_, rfl, _, rfl, a2, [V.int 0], rfl, .inl (SqL.of (L3.get 0 rfl)), _, _, rfl, rfl, true, rfl, iteT ?_⟩
    refine ⟨_, rfl, _, rfl, _, rfl, a2, [V.int 0], _, .int 0, rfl, rfl, (SqL.of (L3.get 0 rfl)), rfl, p, _, 0, .ref s0, rfl, rfl, SqL.of (L3.ex _ _ hp), rfl, s0, _, 1, .ref r0, rfl, rfl, SqT.of (L3.ex _ _ hs), rfl, r0, rfl, ⟨_, (sq_mono L3.ex hr0)⟩, for_tupU (xs := []) ⟨(sq_mono L3.ex hr0), ?_⟩⟩
    refine ⟨_, rfl, _, _, rfl, rfl, ?_⟩
    refine ⟨_, rfl, _, rfl, a2, [V.int 0], rfl, .inl (SqL.of (L3.get 0 rfl)), _, _, rfl, rfl, false, rfl, rfl, ?_⟩
    exact ⟨_, rfl, q a2 _ L3.ex (L3.get 0 rfl)⟩
  · have hr0 := hr.sq (K := K)
    have hu0 := hu.sq (K := K)
    refine ⟨nle' (by show 1 ≤ 1000; decide), fun a0 n0 => ?_⟩
    have L1 := (Lv.nil (Ex.refl H)).new (o := HO.lst [V.int 0]) n0
    generalize upd H a0 (HO.lst [V.int 0]) = G1 at L1 ⊢
    refine ⟨_, rfl, p, _, rfl, .inl (SqL.of (L1.ex _ _ hp)), a0, _, _, rfl, rfl, (L1.get 0 rfl), (by show -(2 ^ 63) ≤ (2 : Int); decide), (by show (2 : Int) < 2 ^ 63; decide), nle' (by show 2 ≤ 1000; decide), fun a1 n1 => ?_⟩
    have L2 := L1.new (o := HO.lst (List.replicate (Int.toNat ((([V.ref s0, V.ref t0] : List V).length : Nat) : Int)) [V.int 0]).flatten) n1
    generalize upd G1 a1 (HO.lst (List.replicate (Int.toNat ((([V.ref s0, V.ref t0] : List V).length : Nat) : Int)) [V.int 0]).flatten) = G2 at L2 ⊢
    refine ⟨_, rfl, p, rfl, ⟨_, SqL.of (L2.ex _ _ hp)⟩, for_listU (xs := [V.ref s0, V.ref t0]) ⟨SqL.of (L2.ex _ _ hp), s0, _, rfl, SqT.of (L2.ex _ _ hs), rfl, _, _, rfl, _, _, rfl, rfl, ?_⟩⟩
    refine ⟨_, rfl, r0, rfl, ⟨_, (sq_mono L2.ex hr0)⟩, for_tupU (xs := [.ref q0]) ⟨(sq_mono L2.ex hr0), q0, _, rfl, SqT.of (L2.ex _ _ hq0), rfl, _, _, rfl, _, _, rfl, rfl, ?_⟩⟩
    refine ⟨_, rfl, _, rfl, a1, [.int 0, .int 0], 1, .int 0, rfl, rfl, (SqL.of (L2.get 0 rfl)), rfl, _, _, rfl, rfl, _, rfl, _, rfl, a1, [.int 0, .int 0], 1, 1, rfl, rfl, (L2.get 0 rfl), rfl, ?_⟩
    have L3 := L2.mut 0 (a := a1) (HO.lst ([V.int 0, V.int 0].set 1 (V.int (0 + 1)))) rfl
    generalize upd G2 a1 (HO.lst ([V.int 0, V.int 0].set 1 (V.int (0 + 1)))) = G3 at L3 ⊢
    refine ⟨(sq_mono L3.ex hr0), ?_⟩
    refine ⟨SqL.of (L3.ex _ _ hp), t0, _, rfl, SqT.of (L3.ex _ _ ht), rfl, _, _, rfl, _, _, rfl, rfl, ?_⟩
    refine ⟨_, rfl, u0, rfl, ⟨_, (sq_mono L3.ex hu0)⟩, for_tupU (xs := []) ⟨(sq_mono L3.ex hu0), ?_⟩⟩
    refine ⟨SqL.of (L3.ex _ _ hp), ?_⟩
    refine ⟨nle' (by show 1 ≤ 1000; decide), fun a2 n2 => ?_⟩
    have L4 := L3.new (o := HO.lst [V.int 0]) n2
    generalize upd G3 a2 (HO.lst [V.int 0]) = G4 at L4 ⊢
    refine while_n (mon_test (mon_op mon_I0 mon_var (mon_len mon_var))) 2 ?_
    refine ⟨_, rfl, _, rfl, a2, [V.int 0], rfl, .inl (SqL.of (L4.get 0 rfl)), _, _, rfl, rfl, true, rfl, iteT ?_⟩
    refine ⟨_, rfl, _, rfl, _, rfl, a2, [V.int 0], _, .int 0, rfl, rfl, (SqL.of (L4.get 0 rfl)), rfl, p, _, 0, .ref s0, rfl, rfl, SqL.of (L4.ex _ _ hp), rfl, s0, _, 1, .ref r0, rfl, rfl, SqT.of (L4.ex _ _ hs), rfl, r0, rfl, ⟨_, (sq_mono L4.ex hr0)⟩, for_tupU (xs := [.ref q0]) ⟨(sq_mono L4.ex hr0), q0, _, rfl, SqT.of (L4.ex _ _ hq0), rfl, _, _, rfl, _, _, rfl, rfl, ?_⟩⟩
    refine ⟨_, rfl, _, rfl, a1, [.int 0, .int (0 + 1)], 1, .int (0 + 1), rfl, rfl, (SqL.of (L4.get 1 rfl)), rfl, _, _, rfl, rfl, _, rfl, _, rfl, a1, [.int 0, .int (0 + 1)], 1, 1, rfl, rfl, (L4.get 1 rfl), rfl, ?_⟩
    have L5 := L4.mut 1 (a := a1) (HO.lst ([V.int 0, V.int (0 + 1)].set 1 (V.int (0 + 1 - 1)))) rfl
    generalize upd G4 a1 (HO.lst ([V.int 0, V.int (0 + 1)].set 1 (V.int (0 + 1 - 1)))) = G5 at L5 ⊢
    refine ⟨_, rfl, _, rfl, a1, [.int 0, .int (0 + 1 - 1)], 1, .int (0 + 1 - 1), rfl, rfl, (SqL.of (L5.get 1 rfl)), rfl, rfl, true, rfl, iteT ?_⟩
    refine ⟨_, rfl, Or.inl ⟨rfl, _, (SqL.of (L5.get 0 rfl))⟩, _, rfl, a2, [.int 0], .int 1, rfl, rfl, (L5.get 0 rfl), Nat.lt_of_lt_of_le (show 1 < 1000 by decide) (nle' (Nat.le_refl _)), ?_⟩
    have L6 := L5.mut 0 (a := a2) (HO.lst ([V.int 0] ++ [V.int 1])) rfl
    generalize upd G5 a2 (HO.lst ([V.int 0] ++ [V.int 1])) = G6 at L6 ⊢
    refine ⟨(sq_mono L6.ex hr0), ?_⟩
    refine ⟨_, rfl, _, _, rfl, rfl, ?_⟩
    refine ⟨_, rfl, _, rfl, a2, [V.int 0, .int 1], rfl, .inl (SqL.of (L6.get 0 rfl)), _, _, rfl, rfl, true, rfl, iteT ?_⟩
    refine ⟨_, rfl, _, rfl, _, rfl, a2, [V.int 0, .int 1], _, .int 1, rfl, rfl, (SqL.of (L6.get 0 rfl)), rfl, p, _, 1, .ref t0, rfl, rfl, SqL.of (L6.ex _ _ hp), rfl, t0, _, 1, .ref u0, rfl, rfl, SqT.of (L6.ex _ _ ht), rfl, u0, rfl, ⟨_, (sq_mono L6.ex hu0)⟩, for_tupU (xs := []) ⟨(sq_mono L6.ex hu0), ?_⟩⟩
    refine ⟨_, rfl, _, _, rfl, rfl, ?_⟩
    refine ⟨_, rfl, _, rfl, a2, [V.int 0, .int 1], rfl, .inl (SqL.of (L6.get 0 rfl)), _, _, rfl, rfl, false, rfl, rfl, ?_⟩
    exact ⟨_, rfl, q a2 _ L6.ex (L6.get 0 rfl)⟩
end
end Sk

/-! xs[::k], what it gives said. -/
namespace Sk
open PySem PySem.Spec PyProof.Rows L2 Evl
def stepV {α : Type} (xs : List α) (k : Int) : List α := (sliceRange (sliceBounds none none (some k) xs.length).1 (sliceBounds none none (some k) xs.length).2.1 (sliceBounds none none (some k) xs.length).2.2).filterMap (xs[·]?)
def tStepD (K : PySem.W.Frag) (te tk : TE) : TE := fun σ H Q => te σ H fun x H1 => tk σ H1 fun y H2 => ∃ a xs k, x = .ref a ∧ y = .int k ∧ k ≠ 0 ∧ SqL K H2 a xs ∧
  ∀ p, H2 p = none → Q (.ref p) (upd H2 p (.lst (stepV xs k)))
theorem pe_stepD {X : Cx} {e k : Expr} {te tk : TE} {p3 pos : Pos} (he : PE X e te) (hk : PE X k tk) : PE X (.Subscript e (.Slice none none (some k) p3) pos) (tStepD X.K te tk) := by
  refine ⟨fun pins s σ H Q I h => Subscript_ (thn (he.run pins s σ H _ I h) fun v s1 ⟨x, H1, I1, r1, q1⟩ => ?_)⟩
  refine wpAny_Slice (thn (po_none.run pins s1 σ H1 (fun o H2 => o = none ∧ H2 = H1) I1 ⟨rfl, rfl⟩) fun vl s2 ⟨l, H2, I2, pl, el, e2⟩ => ?_)
  cases el
  cases e2
  refine thn (po_none.run pins s2 σ H1 (fun o H2 => o = none ∧ H2 = H1) I2 ⟨rfl, rfl⟩) fun vu s3 ⟨l, H2, I3, pu, el, e2⟩ => ?_
  cases el
  cases e2
  rw [evalPart_some]
  refine thn (hk.run pins s3 σ H1 _ I3 q1) fun vk s4 ⟨y, H4, I4, r4, a, xs, n, ex, ey, hn, hs, q⟩ => ?_
  subst ex
  subst ey
  cases r1
  obtain ⟨t, rfl⟩ := r4
  let s5 : Shared := { s4 with heap := s4.heap.push { cls := .type "slice", data := .fields #[vl, vu, .int n t] } }
  have I5 : Inv X pins σ H4 s5 := I4.kept (t' := s4.toks) fun b ob z => Heap.get?_push_of_some _ z
  obtain ⟨its, r, ht, hz⟩ := I5.list hs
  have hlen := r.length
  show wpAny (model X.prog X.w) X.A (subscriptTail e (.Slice none none (some k) p3) (.ref a) (.ref s4.heap.objs.size)) (EP X pins σ Q) X.xe s5
  refine tail_any (ops := [.ref a, .ref s4.heap.objs.size]) ht.isList.typeIs PySem.slot_list_getitem.lookup ?_ (by with_unfolding_all rfl)
  refine wpAny_getItem_list_slice ht.isList (.new _ vl vu _) pl pu (.int n t) (fun z => hn (Option.some.inj z)) ?_ (by rw [List.size_toArray]; omega)
  have hsz := slicePick_size_le its.toArray none none (some n)
  rw [List.size_toArray] at hsz
  generalize hL : sliceRange (sliceBounds none none (some n) its.toArray.size).1 (sliceBounds none none (some n) its.toArray.size).2.1 (sliceBounds none none (some n) its.toArray.size).2.2 = L
  have e1 : slicePick its.toArray none none (some n) = (L.filterMap (its[·]?)).toArray := by
    unfold slicePick
    rw [hL]
    simp
  rw [e1, List.size_toArray] at hsz
  rw [e1]
  have hsz2 : (L.filterMap (its[·]?)).length ≤ its.length := hsz
  have rz := vals_pick r L
  have hl2 := rz.length
  have el : its.toArray.size = xs.length := by rw [List.size_toArray, hlen]
  rw [el] at hL
  refine ⟨.ref _, _, I5.laid (t' := s4.toks) (o := .lst (L.filterMap (xs[·]?))) (fun b ob z => Heap.get?_push_of_some _ z) (Nat.le_refl _) ?_, rfl, by rw [← hL]; exact q _ (I5.hok.fresh (Nat.le_refl _))⟩
  exact ⟨by rw [hl2]; exact Nat.le_trans hsz2 (by rw [← hlen]; exact hz), _, 0, rz, Heap.get?_push_size _ rfl⟩
end Sk

/-! How many texts two small languages have. -/
namespace Sk
open PySem PySem.Spec PyProof.Rows L2 Evl
abbrev NCnt : List Str := ["states", "found", "at", "accepting", "steps", "_", "later"]
theorem scCnt : FnScope NCnt ["states"] (defScope sCounts) := ⟨rfl, rfl, rfl, by decide +kernel, rfl, by decide +kernel, by decide +kernel⟩
def spCnt : Sp := fun vs H Q _ => ∃ p, vs = [.ref p] ∧ St2 H p ∧ ∀ a n ns H', Ex H H' → H' a = some (.lst (.int n :: ns)) → Q (.ref a) H'
section
variable {P : Program} {w : World} {K : PySem.W.Frag} {mg : Str → Option Value} {base : Heap} {f fA : Addr} {fd dA : FuncData}
theorem ok_cnt (F : Fun K "counts_of" "counts_of" sCounts f fd) (B : Blt mg) (ms : mg "sum" = none) (As : Lt P w K mg base fA dA "ascending_order" ["states"] 1 spAsc) : FnOk P w K mg base CX0 2 f fd ["states"] spCnt := by
  refine F.ok scCnt (fun vs H Q E h => ?_) (fun cdv A outer s H vs Q E hr h => ?_)
  · obtain ⟨_, rfl, _⟩ := h
    rfl
  have nd := scCnt.nd
  obtain ⟨p, rfl, h, q⟩ := h
  refine ⟨_, pss_cons (ps_set (i := 1) nd rfl (Or.inr rfl) (pe_op op_rep (pe_lst (pa_cons pe_int pa_nil)) (pe_callB call_len_seq rfl B.len PySem.boot_len (pa_cons (pv 0) pa_nil))))
    (pss_cons (ps_for PassesOwn.never rfl (pi_list (pe_stepD (pe_call As.g hr rfl As.m As.k As.b .nil pass0 (pa_cons (pv 0) pa_nil)) (pe_un un_neg pe_int))) (pg_name (i := 2) nd rfl (Or.inl rfl))
      (pss_cons (ps_asg (pe_ix ix_list (pv 0) (pv 2) (fun _ _ => rfl)) (pg_tup rfl (pgs_cons (pg_name (i := 3) nd rfl (Or.inl rfl)) (pgs_cons (pg_name (i := 4) nd rfl (Or.inl rfl)) pgs_nil))))
      (pss_one (ps_asg (pe_op op_add (pe_callTy call_int1 rfl B.int bt_int (pa_cons (pv 3) pa_nil)) (pe_callB (cr_sum rfl) rfl ms bt_sum (pa_cons (pe_lc (own := [("_", 5), ("later", 6)]) (g := gTup K 2 (gCons (gName 5) (gCons (gName 6) gNil))) (tt := tYes) (te := tOp (rIxL K) (tVar 1) (tVar 6)) rfl nd (pi_tup (pv 4)) (blkOk_by (N := NCnt) (sc := defScope sCounts) (by decide +kernel))
          (fun _ _ _ _ _ => pg_tup rfl (pgs_cons (pg_name (i := 5) nd rfl (Or.inl rfl)) (pgs_cons (pg_name (i := 6) nd rfl (Or.inl rfl)) pgs_nil))) (fun _ _ _ _ _ => pts_nil) (fun _ _ _ _ _ => pe_ix ix_list (pv 1) (pv 6) (fun _ _ => rfl))) pa_nil)))
        (pg_sub (pv 1) (pv 2) set_list)))))
    (pss_one (ps_ret (pv 1)))), ?_⟩
  rcases h with sa | sb
  · obtain ⟨s0, r0, hp, hs, hr0⟩ := id sa
    have hr0 := hr0.sq (K := K)
    refine ⟨nle' (by show 1 ≤ 1000; decide), fun a0 n0 => ?_⟩
    have L1 := (Lv.nil (Ex.refl H)).new (o := HO.lst [V.int 0]) n0
    generalize upd H a0 (HO.lst [V.int 0]) = G1 at L1 ⊢
    refine ⟨_, rfl, p, _, rfl, .inl (SqL.of (L1.ex _ _ hp)), a0, _, _, rfl, rfl, (L1.get 0 rfl), (by show -(2 ^ 63) ≤ (1 : Int); decide), (by show (1 : Int) < 2 ^ 63; decide), nle' (by show 1 ≤ 1000; decide), fun a1 n1 => ?_⟩
    have L2 := L1.new (o := HO.lst (List.replicate (Int.toNat ((([V.ref s0] : List V).length : Nat) : Int)) [V.int 0]).flatten) n1
    generalize upd G1 a1 (HO.lst (List.replicate (Int.toNat ((([V.ref s0] : List V).length : Nat) : Int)) [V.int 0]).flatten) = G2 at L2 ⊢
    refine ⟨_, rfl, p, rfl, .inl ⟨sa.mono L2.ex, fun b0 Hx xx ex => ?_⟩⟩
    have Lx := L2.ext xx
    have se : stepV [V.int 0] (-1) = [V.int 0] := by decide +kernel
    refine ⟨_, rfl, b0, [V.int 0], -1, rfl, rfl, by decide, SqL.of ex, fun c0 m0 => ?_⟩
    rw [se]
    have L3 := Lx.new (o := HO.lst [V.int 0]) m0
    generalize upd Hx c0 (HO.lst [V.int 0]) = G3 at L3 ⊢
    refine ⟨c0, rfl, ⟨_, (SqL.of (L3.get 0 rfl))⟩, for_listU (xs := [V.int 0]) ⟨(SqL.of (L3.get 0 rfl)), ?_⟩⟩
    refine ⟨_, rfl, _, rfl, p, _, 0, .ref s0, rfl, rfl, SqL.of (L3.ex _ _ hp), rfl, s0, _, rfl, SqT.of (L3.ex _ _ hs), rfl, _, _, rfl, _, _, rfl, rfl, ?_⟩
    refine ⟨_, rfl, .inr ⟨false, rfl, _, rfl, r0, rfl, ⟨_, (sq_mono L3.ex hr0)⟩, fun D hD => ?_⟩⟩
    have MD := L3.new (o := HO.lst []) hD
    refine lc_tupU (xs := []) ⟨(sq_mono MD.ex hr0), ?_⟩
    generalize upd G3 D (HO.lst []) = WD at MD ⊢
    refine ⟨D, [], rfl, (SqL.of (MD.get 0 rfl)), _, _, rfl, rfl, _, rfl, _, rfl, a1, [.int 0], 0, 0, rfl, rfl, (MD.get 2 rfl), rfl, ?_⟩
    have L9 := MD.mut 2 (a := a1) (HO.lst ([V.int 0].set 0 (V.int (0 + 0)))) rfl
    refine ⟨SqL.of (L9.get 1 rfl), ?_⟩
    exact ⟨_, rfl, q a1 _ _ _ L9.ex (L9.get 2 rfl)⟩
  · obtain ⟨s0, t0, r0, u0, q0, hp, hs, hr0, hq0, ht, hu0⟩ := id sb
    have hr0 := hr0.sq (K := K)
    have hu0 := hu0.sq (K := K)
    refine ⟨nle' (by show 1 ≤ 1000; decide), fun a0 n0 => ?_⟩
    have L1 := (Lv.nil (Ex.refl H)).new (o := HO.lst [V.int 0]) n0
    generalize upd H a0 (HO.lst [V.int 0]) = G1 at L1 ⊢
    refine ⟨_, rfl, p, _, rfl, .inl (SqL.of (L1.ex _ _ hp)), a0, _, _, rfl, rfl, (L1.get 0 rfl), (by show -(2 ^ 63) ≤ (2 : Int); decide), (by show (2 : Int) < 2 ^ 63; decide), nle' (by show 2 ≤ 1000; decide), fun a1 n1 => ?_⟩
    have L2 := L1.new (o := HO.lst (List.replicate (Int.toNat ((([V.ref s0, V.ref t0] : List V).length : Nat) : Int)) [V.int 0]).flatten) n1
    generalize upd G1 a1 (HO.lst (List.replicate (Int.toNat ((([V.ref s0, V.ref t0] : List V).length : Nat) : Int)) [V.int 0]).flatten) = G2 at L2 ⊢
    refine ⟨_, rfl, p, rfl, .inr ⟨sb.mono L2.ex, fun b0 Hx xx ex => ?_⟩⟩
    have Lx := L2.ext xx
    have se : stepV [V.int 0, V.int 1] (-1) = [V.int 1, V.int 0] := by decide +kernel
    refine ⟨_, rfl, b0, [V.int 0, V.int 1], -1, rfl, rfl, by decide, SqL.of ex, fun c0 m0 => ?_⟩
    rw [se]
    have L3 := Lx.new (o := HO.lst [V.int 1, V.int 0]) m0
    generalize upd Hx c0 (HO.lst [V.int 1, V.int 0]) = G3 at L3 ⊢
    refine ⟨c0, rfl, ⟨_, (SqL.of (L3.get 0 rfl))⟩, for_listU (xs := [V.int 1, V.int 0]) ⟨(SqL.of (L3.get 0 rfl)), ?_⟩⟩
    refine ⟨_, rfl, _, rfl, p, _, 1, .ref t0, rfl, rfl, SqL.of (L3.ex _ _ hp), rfl, t0, _, rfl, SqT.of (L3.ex _ _ ht), rfl, _, _, rfl, _, _, rfl, rfl, ?_⟩
    refine ⟨_, rfl, .inr ⟨true, rfl, _, rfl, u0, rfl, ⟨_, (sq_mono L3.ex hu0)⟩, fun D hD => ?_⟩⟩
    have MD := L3.new (o := HO.lst []) hD
    refine lc_tupU (xs := []) ⟨(sq_mono MD.ex hu0), ?_⟩
    generalize upd G3 D (HO.lst []) = WD at MD ⊢
    refine ⟨D, [], rfl, (SqL.of (MD.get 0 rfl)), _, _, rfl, rfl, _, rfl, _, rfl, a1, [.int 0, .int 0], 1, 1, rfl, rfl, (MD.get 2 rfl), rfl, ?_⟩
    have L4 := MD.mut 2 (a := a1) (HO.lst ([V.int 0, V.int 0].set 1 (V.int (1 + 0)))) rfl
    refine L4.go (C := fun G => Fl _ _ _ _ _ _ G) fun G4 L4 => ?_
    refine ⟨(SqL.of (L4.get 1 rfl)), ?_⟩
    refine ⟨_, rfl, _, rfl, p, _, 0, .ref s0, rfl, rfl, SqL.of (L4.ex _ _ hp), rfl, s0, _, rfl, SqT.of (L4.ex _ _ hs), rfl, _, _, rfl, _, _, rfl, rfl, ?_⟩
    refine ⟨_, rfl, .inr ⟨false, rfl, _, rfl, r0, rfl, ⟨_, (sq_mono L4.ex hr0)⟩, fun E hE => ?_⟩⟩
    have ME := L4.new (o := HO.lst []) hE
    refine lc_tupU (xs := [.ref q0]) ⟨(sq_mono ME.ex hr0), q0, _, rfl, SqT.of (ME.ex _ _ hq0), rfl, _, _, rfl, _, _, rfl, rfl, rfl, tyes ⟨_, rfl, _, rfl, a1, [.int 0, .int (1 + 0)], 1, _, rfl, rfl, (SqL.of (ME.get 3 rfl)), rfl, [], (ME.get 0 rfl), Nat.lt_of_lt_of_le (show 0 < 1000 by decide) (nle' (Nat.le_refl _)), ?_⟩⟩
    generalize upd G4 E (HO.lst []) = WE at ME ⊢
    have L4 := ME.mut 0 (a := E) (HO.lst ([] ++ [V.int (1 + 0)])) rfl
    generalize upd WE E (HO.lst ([] ++ [V.int (1 + 0)])) = G4 at L4 ⊢
    refine ⟨(sq_mono L4.ex hr0), ?_⟩
    refine ⟨E, [1 + 0], rfl, (SqL.of (L4.get 0 rfl)), _, _, rfl, rfl, _, rfl, _, rfl, a1, [.int 0, .int (1 + 0)], 0, 0, rfl, rfl, (L4.get 3 rfl), rfl, ?_⟩
    have L9 := L4.mut 3 (a := a1) (HO.lst ([V.int 0, V.int (1 + 0)].set 0 (V.int (0 + List.sum [1 + 0])))) rfl
    refine ⟨SqL.of (L9.get 2 rfl), ?_⟩
    exact ⟨_, rfl, q a1 _ _ _ L9.ex (L9.get 3 rfl)⟩
end
end Sk

/-! The moves of the states of two small languages; how two small texts begin. -/
namespace Sk
open PySem PySem.Spec PyProof.Rows L2 Evl
abbrev NMov : List Str := ["states", "_", "steps"]
theorem scMov : FnScope NMov ["states"] (defScope sMoves) := ⟨rfl, rfl, rfl, by decide +kernel, rfl, by decide +kernel, by decide +kernel⟩
theorem scCom : FnScope ["first", "second", "size"] ["first", "second"] (defScope sCommon) := ⟨rfl, rfl, rfl, by decide +kernel, rfl, by decide +kernel, by decide +kernel⟩
def spMov : Sp := fun vs H Q _ => ∃ p, vs = [.ref p] ∧ St2 H p ∧ ∀ a H', Ex H H' → Q (.ref a) H'
def spCom : Sp := fun vs H Q _ => vs = [.str "", .str "a"] ∧ Q (.str "") H
section
variable {P : Program} {w : World} {K : PySem.W.Frag} {mg : Str → Option Value} {base : Heap} {f fA : Addr} {fd dA : FuncData}
theorem ok_mov {k : Nat} (F : Fun K "moves_of_states" "moves_of_states" sMoves f fd) (B : Blt mg) : FnOk P w K mg base CX0 (k + 1) f fd ["states"] spMov := by
  refine F.ok scMov (fun vs H Q E h => ?_) (fun cdv A outer s H vs Q E hr h => ?_)
  · obtain ⟨_, rfl, _⟩ := h
    rfl
  have nd := scMov.nd
  obtain ⟨p, rfl, h, q⟩ := h
  refine ⟨_, pss_one (ps_ret (pe_lst (StX.pa_star (pe_lc (own := [("_", 1), ("steps", 2)]) (g := gTup K 2 (gCons (gName 1) (gCons (gName 2) gNil))) (tt := tYes) (te := tCB (fun xs H Q => ∃ a, xs = [.ref a] ∧ ((Tq H a [] ∧ ∀ p, H p = none → Q (.ref p) (upd H p (.dK []))) ∨
    ∃ b z y, Tq H a [.ref b] ∧ SqT K H b [.str z, y] ∧ ∀ p, H p = none → Q (.ref p) (upd H p (.dK [(.inr z, y)])))) (tCons (tVar 2) tNil)) rfl nd (pi_list (pv 0)) (blkOk_by (N := NMov) (sc := defScope sMoves) (by decide +kernel))
          (fun _ _ _ _ _ => pg_tup rfl (pgs_cons (pg_name (i := 1) nd rfl (Or.inl rfl)) (pgs_cons (pg_name (i := 2) nd rfl (Or.inl rfl)) pgs_nil))) (fun _ _ _ _ _ => pts_nil) (fun _ _ _ _ _ => pe_callTy (call_dictT rfl) rfl B.dict bt_dict (pa_cons (pv 2) pa_nil))) (pa_cons pe_dnewK pa_nil)))), ?_⟩
  rcases h with h | h
  · obtain ⟨s0, r0, hp, hs, hr0⟩ := h
    refine ⟨_, rfl, p, rfl, ⟨_, SqL.of hp⟩, fun D hD => ?_⟩
    have M1 := (Lv.nil (Ex.refl H)).new (o := HO.lst []) hD
    refine lc_listU (xs := [.ref s0]) ⟨SqL.of (M1.ex _ _ hp), s0, _, rfl, SqT.of (M1.ex _ _ hs), rfl, _, _, rfl, _, _, rfl, rfl, rfl, tyes ⟨_, rfl, r0, rfl,  .inl ⟨(hr0.mono M1.ex), fun d1 m1 => ?_⟩⟩⟩
    have M2 := M1.new (o := HO.dK []) m1
    refine ⟨[], M2.get 1 rfl, Nat.lt_of_lt_of_le (show 0 < 1000 by decide) (nle' (Nat.le_refl _)), ?_⟩
    have M3 := M2.mut 1 (a := D) (HO.lst ([] ++ [V.ref d1])) rfl
    refine M3.go (C := fun G => Fc _ _ _ _ _ _ _ _ _ G) fun G3 M3 => ?_
    refine ⟨SqL.of (M3.ex _ _ hp), ?_⟩
    refine ⟨D, _, rfl, .inr (SqL.of (M3.get 1 rfl)), fun e1 k1 => ⟨nle' (by show 1+1 ≤ 1000; decide), fun l1 j1 => q l1 _ (M3.ex.trans ((Ex.new k1).trans (Ex.new j1)))⟩⟩
  · obtain ⟨s0, t0, r0, u0, q0, hp, hs, hr0, hq0, ht, hu0⟩ := h
    refine ⟨_, rfl, p, rfl, ⟨_, SqL.of hp⟩, fun D hD => ?_⟩
    have M1 := (Lv.nil (Ex.refl H)).new (o := HO.lst []) hD
    refine lc_listU (xs := [.ref s0, .ref t0]) ⟨SqL.of (M1.ex _ _ hp), s0, _, rfl, SqT.of (M1.ex _ _ hs), rfl, _, _, rfl, _, _, rfl, rfl, rfl, tyes ⟨_, rfl, r0, rfl,  .inr ⟨q0, "a", .int 1, (hr0.mono M1.ex), SqT.of (M1.ex _ _ hq0), fun d1 m1 => ?_⟩⟩⟩
    have M2 := M1.new (o := HO.dK [(.inr "a", V.int 1)]) m1
    refine ⟨[], M2.get 1 rfl, Nat.lt_of_lt_of_le (show 0 < 1000 by decide) (nle' (Nat.le_refl _)), ?_⟩
    have M3 := M2.mut 1 (a := D) (HO.lst ([] ++ [V.ref d1])) rfl
    refine M3.go (C := fun G => Fc _ _ _ _ _ _ _ _ _ G) fun G3 M3 => ?_
    refine ⟨SqL.of (M3.ex _ _ hp), t0, _, rfl, SqT.of (M3.ex _ _ ht), rfl, _, _, rfl, _, _, rfl, rfl, rfl, tyes ⟨_, rfl, u0, rfl,  .inl ⟨(hu0.mono M3.ex), fun d2 m2 => ?_⟩⟩⟩
    have M4 := M3.new (o := HO.dK []) m2
    refine ⟨[.ref d1], M4.get 2 rfl, Nat.lt_of_lt_of_le (show 1 < 1000 by decide) (nle' (Nat.le_refl _)), ?_⟩
    have M5 := M4.mut 2 (a := D) (HO.lst ([V.ref d1] ++ [V.ref d2])) rfl
    refine M5.go (C := fun G => Fc _ _ _ _ _ _ _ _ _ G) fun G5 M5 => ?_
    refine ⟨SqL.of (M5.ex _ _ hp), ?_⟩
    refine ⟨D, _, rfl, .inr (SqL.of (M5.get 2 rfl)), fun e1 k1 => ⟨nle' (by show 2+1 ≤ 1000; decide), fun l1 j1 => q l1 _ (M5.ex.trans ((Ex.new k1).trans (Ex.new j1)))⟩⟩
theorem ok_com {k : Nat} (F : Fun K "common_start" "common_start" sCommon f fd) (B : Blt mg) (B2 : Blt2 mg) : FnOk P w K mg base CX0 (k + 1) f fd ["first", "second"] spCom := by
  refine F.ok scCom (fun vs H Q E h => ?_) (fun cdv A outer s H vs Q E hr h => ?_)
  · obtain ⟨rfl, _⟩ := h
    rfl
  have nd := scCom.nd
  obtain ⟨rfl, q⟩ := h
  refine ⟨_, pss_cons (ps_set (i := 2) nd rfl (Or.inl rfl) pe_int)
    (pss_cons (ps_while PassesOwn.never (PW.pt (pw_and (pt_cmpR op_lt (pv 2) (pe_callB (call_min2 rfl) rfl B.min bt_min (pa_cons (pe_callB call_len_str rfl B.len PySem.boot_len (pa_cons (pv 0) pa_nil)) (pa_cons (pe_callB call_len_str rfl B.len PySem.boot_len (pa_cons (pv 1) pa_nil)) pa_nil))) (nomark _)) (pw_and1 (pt_cmpR op_eq (pe_ix ix_str (pv 0) (pv 2) (fun _ _ => rfl)) (pe_ix ix_str (pv 1) (pv 2) (fun _ _ => rfl)) (nomark _)))))
      (pss_one (ps_aug (i := 2) nd rfl (Or.inl rfl) pe_int ip_add)))
    (pss_one (ps_ret (pe_slice sl_str (pv 0) po_none (po_some (pv 2)))))), ?_⟩
  refine ⟨fun m σ H' => σ = [some (.str ""), some (.str "a"), some (.int 0)] ∧ H' = H, ⟨0, rfl, rfl⟩, ?_⟩
  rintro m σ H' ⟨rfl, rfl⟩
  refine ⟨_, rfl, _, rfl, "", rfl, by decide +kernel, _, rfl, "a", rfl, by decide +kernel, _, _, rfl, _, _, rfl, rfl, false, rfl, iteF (iteF ?_)⟩
  exact ⟨_, rfl, _, rfl, 0, rfl, "", rfl, by decide +kernel, q⟩
end
end Sk

/-! A dict of which the one key is the tuple (True, ()). -/
namespace Sk
open PySem PySem.Spec PyProof.Rows L2 Evl
def NkO (a : Addr) (o : Obj) : HO := .ext fun h => h.get? a = some o
def keyTE : NestedKey := .tup [.num 1, .tup []]
def NEmp (a : Addr) (o : Obj) : Prop := o.ExactDict ∧ (∃ ep, o.data = .dict #[] ep) ∧ (a == sysModules) = false
def NOne (w : World) (a : Addr) (o : Obj) (b : Addr) (n : Int) : Prop := o.ExactDict ∧ (∃ es ep t, o.data = .dict es ep ∧ es.toList = [⟨keyTE.hash w, .ref b, .int n t⟩]) ∧ (a == sysModules) = false
def KeyAt (H : Hp) (b : Addr) : Prop := ∃ e, H b = some (.tup [.bl true, .ref e]) ∧ H e = some (.tup [])
theorem nkO_ok {P : Program} {w : World} {H : Hp} {h : Heap} {a : Addr} {o : Obj} (x : h.get? a = some o) : ObjOk P w H h a (NkO a o) := ⟨x, ⟨o, x⟩, fun _ _ q k => k o q⟩
section
variable {X : Cx} {pins : List (Addr × Obj)} {σ : L2.St} {H : Hp} {s : Shared}
theorem nkO_inv {a : Addr} {o : Obj} (I : Inv X pins σ H s) (h : H a = some (NkO a o)) : s.heap.get? a = some o := (show ObjOk X.prog X.w H s.heap a (NkO a o) from I.hok _ _ h).1
theorem keyAt_is {b : Addr} (I : Inv X pins σ H s) (h : KeyAt H b) : NestedIs s.heap keyTE (.ref b) ∧ keyTE.depth ≤ 8 := by
  obtain ⟨e, h1, h2⟩ := h
  obtain ⟨_, its, rv, o, g, c, n, d⟩ := (show ObjOk X.prog X.w H s.heap b (.tup [.bl true, .ref e]) from I.hok _ _ h1)
  obtain ⟨_, it2, rv2, o2, g2, c2, n2, d2⟩ := (show ObjOk X.prog X.w H s.heap e (.tup []) from I.hok _ _ h2)
  obtain ⟨u1, u2, rfl, r1, r2⟩ := vals2 rv
  cases rv2
  cases (show u1 = Value.bool true from r1)
  cases (show u2 = Value.ref e from r2)
  exact ⟨.tup g c d (.cons (.bool rfl) (.cons (.tup g2 c2 d2 .nil) .nil)), by decide⟩
theorem nEmp_dict {a : Addr} {o : Obj} (I : Inv X pins σ H s) (h : H a = some (NkO a o)) (e : NEmp a o) : s.heap.DictOfH (nestedKind X.prog X.w) a [] := by
  obtain ⟨x, ⟨ep, d⟩, _⟩ := e
  exact ⟨o, #[], ep, nkO_inv I h, x, d, rfl, (fun _ m => nomatch m), List.nodup_nil⟩
theorem nOne_dict {a b : Addr} {o : Obj} {n : Int} (I : Inv X pins σ H s) (h : H a = some (NkO a o)) (e : NOne X.w a o b n) (k : KeyAt H b) : ∃ t, s.heap.DictOfH (nestedKind X.prog X.w) a [(keyTE, b, .int n t)] := by
  obtain ⟨x, ⟨es, ep, t, d, el⟩, _⟩ := e
  exact ⟨t, o, es, ep, nkO_inv I h, x, d, el, (fun y m => by cases List.mem_singleton.mp m; exact keyAt_is I k), by simp⟩
end
/-- {}, to hold such a key -/
def tDNewN : TE := fun _ H Q => ∀ p o, H p = none → NEmp p o → Q (.ref p) (upd H p (NkO p o))
theorem pe_dnewN {X : Cx} {pos : Pos} : PE X (.Dict [] [] pos) tDNewN := ⟨fun pins s σ H Q I h => by
  have e : NEmp s.heap.objs.size ({ cls := .type "dict", data := .dict #[] } : Obj) := ⟨⟨rfl, rfl, rfl⟩, ⟨_, rfl⟩, beq_eq_false_iff_ne.mpr (Ne.symm (Nat.ne_of_lt I.big))⟩
  exact wpAny_Dict_empty ⟨.ref s.heap.objs.size, _, I.laid (a := s.heap.objs.size) (o := NkO _ _) (t' := s.toks) (fun _ _ q => Heap.get?_push_of_some _ q) (Nat.le_refl _) (nkO_ok (Heap.get?_push_size _ rfl)), rfl, h _ _ (I.hok.fresh (Nat.le_refl _)) e⟩⟩
section
variable {X : Cx}
theorem op_notInN (hu : X.A.units + 64 < cLine) : OpR X (compareOp .NotIn) (fun x y H Q => ∃ d o b, x = .ref b ∧ y = .ref d ∧ H d = some (NkO d o) ∧ NEmp d o ∧ KeyAt H b ∧ Q (.bl true) H) := by
  intro pins s σ H x y v u Q I rx ry h
  obtain ⟨d, o, b, rfl, rfl, hd, e, k, q⟩ := h
  cases (show v = Value.ref b from rx)
  cases (show u = Value.ref d from ry)
  exact wpAny_notIn_heap (knd := nestedKind X.prog X.w) (k := keyTE) (xs := []) (show X.A.units + 1 + 8 < cLine by omega) (keyAt_is I k) e.2.2 (nEmp_dict I hd e) ⟨.bl true, H, I.tok _, rfl, q⟩
theorem set_nk (hu : X.A.units + 64 < cLine) : PSet X (fun o i v H Q => ∃ d ob b n, o = .ref d ∧ i = .ref b ∧ v = .int n ∧ H d = some (NkO d ob) ∧ NEmp d ob ∧ KeyAt H b ∧ ∀ o2, NOne X.w d o2 b n → Q (upd H d (NkO d o2))) := by
  intro pins s σ H o i v ov iv u Q I ro ri rv h
  obtain ⟨d, ob, b, n, rfl, rfl, rfl, hd, e, k, q⟩ := h
  cases (show ov = Value.ref d from ro)
  cases (show iv = Value.ref b from ri)
  obtain ⟨t, rfl⟩ := rv
  refine wpAny_setItem_heap (knd := nestedKind X.prog X.w) (k := keyTE) (xs := []) (show X.A.units + 1 + 8 < cLine by omega) (keyAt_is I k) (nEmp_dict I hd e) (fun h' dd hs => ?_) (Nat.zero_le _)
  obtain ⟨o2, es, ep, ho, hx, hdt, he, his, hn⟩ := dd
  exact ⟨_, d_write I (by rw [hd]; exact True.intro) hs ⟨o2, ho⟩ (nkO_ok ho), q o2 ⟨hx, ⟨es, ep, t, hdt, he⟩, e.2.2⟩⟩
theorem ix_nk (hu : X.A.units + 64 < cLine) : IxR X (fun x y H Q => ∃ d ob b n, x = .ref d ∧ y = .ref b ∧ H d = some (NkO d ob) ∧ NOne X.w d ob b n ∧ KeyAt H b ∧ Q (.int n) H) := by
  intro value slice pins s σ H x y v u Q I rx ry h hs
  obtain ⟨d, ob, b, n, rfl, rfl, hd, e, k, q⟩ := h
  cases (show v = Value.ref d from rx)
  cases (show u = Value.ref b from ry)
  obtain ⟨t, dd⟩ := nOne_dict I hd e k
  exact subscriptTail_builtinR (x := .int n t) dd.typeIs slot_dict_getitem.lookup (wpAny_getItem_heap (knd := nestedKind X.prog X.w) (k := keyTE) (p := (b, .int n t)) (Q := fun r s' => r = .int n t ∧ EP X pins σ Q r s') (show X.A.units + 1 + 8 < cLine by omega) (keyAt_is I k) dd (by simp [atKey]) ⟨rfl, .int n, H, I.tok _, ⟨t, rfl⟩, q⟩) hs
end
end Sk
namespace Sk
open PySem PySem.Spec PyProof.Rows L2 Evl
theorem lc_strU {x : Str} {g : TG} {tt : TT} {te : TE} {vs : List Nat} {σ : L2.St} {H1 : Hp} {D : Addr} {Qd : Hp → Prop} (h : Fc (fun _ => True) g tt te vs σ D Qd (x.cps.toList.map fun c => V.str ⟨#[c]⟩) (upd H1 D (.lst []))) :
    ∃ W : Nat → Nat → Hp → Prop, (∃ m, W 0 m (upd H1 D (.lst []))) ∧ ∀ i m H, W i m H →
      ((Its x).stop i H ∧ Qd H) ∨ ((Its x).go i H ∧ ∃ Nx : Hp → Prop, (∀ H', Nx H' → ∃ m', m' < m ∧ W (i + 1) m' H') ∧ ∀ y H', (Its x).yld i H y H' → g y (wipe σ vs) H' fun σ2 H2 => wipe σ2 vs = wipe σ vs ∧ tt σ2 H2 fun b H3 =>
        if b = true then te σ2 H3 fun y H4 => ∃ acc, H4 D = some (.lst acc) ∧ acc.length < sizeLine ∧ Nx (upd H4 D (.lst (acc ++ [y]))) else Nx H3) :=
  lc_it walk_str (fun i H => Fc (fun _ => True) g tt te vs σ D Qd ((x.cps.toList.map fun c => V.str ⟨#[c]⟩).drop i) H) h (fun _ _ _ _ => trivial)
    (fun i y H1 H2 hi p wv => by
      obtain ⟨rfl, c, hc, rfl⟩ := wv
      have e : (x.cps.toList.map fun c => V.str ⟨#[c]⟩)[i]? = some (V.str ⟨#[c]⟩) := by
        rw [List.getElem?_map, Array.getElem?_toList, hc]
        rfl
      rw [drop_at e] at p
      exact p.2)
    (fun H p => by
      rw [List.drop_eq_nil_of_le (by rw [List.length_map]; exact Nat.le_of_eq (by simp))] at p
      exact p.2)
end Sk

/-! The states of two small lists of texts. -/
namespace Sk
open PySem PySem.Spec PyProof.Rows L2 Evl
abbrev NTex : List Str := ["texts", "states", "numbers", "before", "opened", "text", "shared", "accepting", "steps", "told", "_"]
theorem scTex : FnScope NTex ["texts"] (defScope sTexts) := ⟨rfl, rfl, rfl, by decide +kernel, rfl, by decide +kernel, by decide +kernel⟩
def spTex : Sp := fun vs H Q _ => ∃ l, vs = [.ref l] ∧ (H l = some (.lst []) ∨ H l = some (.lst [.str "a"])) ∧ ∀ a H', Ex H H' → St2 H' a → Q (.ref a) H'
section
variable {P : Program} {w : World} {K : PySem.W.Frag} {mg : Str → Option Value} {base : Heap} {f fC fR : Addr} {fd dC dR : FuncData}
theorem ok_tex (F : Fun K "states_of_texts" "states_of_texts" sTexts f fd) (B : Blt mg) (B2 : Blt2 mg) (Cm : Lt P w K mg base fC dC "common_start" ["first", "second"] 1 spCom) (Rn : Lt P w K mg base fR dR "renumbered" ["states", "first"] 1 spRen) : FnOk P w K mg base CX0 2 f fd ["texts"] spTex := by
  refine F.ok scTex (fun vs H Q E h => ?_) (fun cdv A outer s H vs Q E hr h => ?_)
  · obtain ⟨_, rfl, _⟩ := h
    rfl
  have nd := scTex.nd
  have hu : (A.deeper (envOfC "states_of_texts" (defScope sTexts) s.heap.objs.size f cdv)).units + 64 < cLine := hr.units
  obtain ⟨l, rfl, h, q⟩ := h
  refine ⟨_, pss_cons (ps_set (i := 1) nd rfl (Or.inl rfl) (pe_lst pa_nil))
    (pss_cons (ps_set (i := 2) nd rfl (Or.inl rfl) pe_dnewN)
    (pss_cons (ps_set (i := 3) nd rfl (Or.inl rfl) pe_str)
    (pss_cons (ps_set (i := 4) nd rfl (Or.inl rfl) (pe_lst (pa_cons (pe_tup (pa_cons pe_bl (pa_cons (pe_lst pa_nil) pa_nil))) pa_nil)))
    (pss_cons (ps_for PassesOwn.never rfl (pi_list (pe_lst (StX.pa_star (pe_callB cr_sortedS rfl B.sorted boot_sorted (pa_cons (pv 0) pa_nil)) (pa_cons pe_non pa_nil)))) (pg_name (i := 5) nd rfl (Or.inl rfl))
      (pss_cons (ps_set (i := 6) nd rfl (Or.inl rfl) (pe_ifExp (pt_cmpR op_isN (pv 5) pe_non (nomark _)) pe_int (pe_callB call_len_str rfl B.len PySem.boot_len (pa_cons (pe_call Cm.g hr rfl Cm.m Cm.k Cm.b .nil pass0 (pa_cons (pv 3) (pa_cons (pv 5) pa_nil))) pa_nil))))
      (pss_cons (ps_while PassesOwn.never (pt_cmpR op_gt (pe_callB call_len_seq rfl B.len PySem.boot_len (pa_cons (pv 4) pa_nil)) (pe_op op_add (pv 6) pe_int) (nomark _))
        (pss_cons (ps_asg (pe_bm0 PySem.F.plainAttrs_list PySem.F.slot_list_pop PySem.F.type_list_pop mt_pop (pv 4)) (pg_tup rfl (pgs_cons (pg_name (i := 7) nd rfl (Or.inl rfl)) (pgs_cons (pg_name (i := 8) nd rfl (Or.inl rfl)) pgs_nil))))
        (pss_cons (ps_set (i := 9) nd rfl (Or.inl rfl) (pe_tup (pa_cons (pv 7) (pa_cons (pe_callTy call_tuple_of rfl B2.tuple bt_tuple (pa_cons (pv 8) pa_nil)) pa_nil))))
        (pss_cons (ps_if (pt_cmpR (op_notInN hu) (pv 9) (pv 2) (by with_unfolding_all rfl))
          (pss_cons (ps_asg (pe_callB call_len_seq rfl B.len PySem.boot_len (pa_cons (pv 1) pa_nil)) (pg_sub (pv 2) (pv 9) (set_nk hu)))
          (pss_one (ps_expr (pe_bm PySem.F.plainAttrs_list PySem.F.slot_list_append PySem.F.type_list_append mt_append (pv 1) (pa_cons (pv 9) pa_nil))))) pss_nil)
        (pss_one (ps_expr (pe_bm PySem.F.plainAttrs_list PySem.F.slot_list_append PySem.F.type_list_append mt_append (pe_ix ix_tup (pe_ix ix_list (pv 4) (pe_un un_neg pe_int) (fun _ _ => rfl)) pe_int (fun _ _ => rfl)) (pa_cons (pe_tup (pa_cons (pe_ix ix_str (pv 3) (pe_op op_sub (pe_callB call_len_seq rfl B.len PySem.boot_len (pa_cons (pv 4) pa_nil)) pe_int) (fun _ _ => rfl)) (pa_cons (pe_ix (ix_nk hu) (pv 2) (pv 9) (fun _ _ => rfl)) pa_nil))) pa_nil))))))))
      (pss_one (ps_if (pt_cmpR op_notN (pv 5) pe_non (nomark _))
        (pss_cons (ps_expr (pe_bm PySem.F.plainAttrs_list PySem.F.slot_list_extend PySem.F.type_list_extend mt_extend (pv 4) (pa_cons (pe_lc (own := [("_", 10)]) (g := gName 10) (tt := tYes) (te := tTup (tCons (tC (.bl false)) (tCons (tLst tNil) tNil))) rfl nd (pi_str (pe_slice sl_str (pv 5) (po_some (pv 6)) po_none)) (blkOk_by (N := NTex) (sc := defScope sTexts) (by decide +kernel))
            (fun _ _ _ _ _ => pg_name (i := 10) nd rfl (Or.inl rfl)) (fun _ _ _ _ _ => pts_nil) (fun _ _ _ _ _ => pe_tup (pa_cons pe_bl (pa_cons (pe_lst pa_nil) pa_nil)))) pa_nil)))
        (pss_cons (ps_asg (pe_tup (pa_cons pe_bl (pa_cons (pe_ix ix_tup (pe_ix ix_list (pv 4) (pe_un un_neg pe_int) (fun _ _ => rfl)) pe_int (fun _ _ => rfl)) pa_nil))) (pg_sub (pv 4) (pe_un un_neg pe_int) set_list))
        (pss_one (ps_set (i := 3) nd rfl (Or.inl rfl) (pv 5))))) pss_nil)))))
    (pss_cons (ps_expr (pe_bm PySem.F.plainAttrs_list PySem.F.slot_list_append PySem.F.type_list_append mt_append (pv 1) (pa_cons (pe_tup (pa_cons (pe_ix ix_tup (pe_ix ix_list (pv 4) pe_int (fun _ _ => rfl)) pe_int (fun _ _ => rfl)) (pa_cons (pe_callTy call_tuple_of rfl B2.tuple bt_tuple (pa_cons (pe_ix ix_tup (pe_ix ix_list (pv 4) pe_int (fun _ _ => rfl)) pe_int (fun _ _ => rfl)) pa_nil)) pa_nil))) pa_nil)))
    (pss_one (ps_ret (pe_call Rn.g hr rfl Rn.m Rn.k Rn.b .nil pass0 (pa_cons (pv 1) (pa_cons (pe_op op_sub (pe_callB call_len_seq rfl B.len PySem.boot_len (pa_cons (pv 1) pa_nil)) pe_int) pa_nil)))))))))), ?_⟩
  rcases h with hl | hl
  · refine ⟨nle' (by show 0 ≤ 1000; decide), fun a1 n1 => ?_⟩
    have L1 := (Lv.nil (Ex.refl H)).new (o := HO.lst []) n1
    generalize upd H a1 (HO.lst []) = G1 at L1 ⊢
    intro a2 o2 n2 d2
    have L2 := L1.new (o := NkO a2 o2) n2
    generalize upd G1 a2 (NkO a2 o2) = G2 at L2 ⊢
    refine ⟨nle' (by show 0 ≤ 1000; decide), fun b0 m0 => ?_⟩
    have L3 := L2.new (o := HO.lst []) m0
    generalize upd G2 b0 (HO.lst []) = G3 at L3 ⊢
    refine ⟨nle' (by show 2 ≤ 1000; decide), fun t0 k0 => ?_⟩
    have L4 := L3.new (o := HO.tup [V.bl false, V.ref b0]) k0
    generalize upd G3 t0 (HO.tup [V.bl false, V.ref b0]) = G4 at L4 ⊢
    refine ⟨nle' (by show 1 ≤ 1000; decide), fun a4 n4 => ?_⟩
    have L5 := L4.new (o := HO.lst [V.ref t0]) n4
    generalize upd G4 a4 (HO.lst [V.ref t0]) = G5 at L5 ⊢
    refine ⟨_, rfl, l, [], rfl, SqL.of (L5.ex _ _ hl), by decide, fun ys c0 pe so j0 => ?_⟩
    obtain rfl : ys = [] := pe.eq_nil
    have L6 := L5.new (o := HO.lst (([] : List Str).map V.str)) j0
    generalize upd G5 c0 (HO.lst (([] : List Str).map V.str)) = G6 at L6 ⊢
    refine ⟨c0, _, rfl, .inr (SqL.of (L6.get 0 rfl)), nle' (by show 1 ≤ 1000; decide), fun c1 j1 => ?_⟩
    have L7 := L6.new (o := HO.lst (([] : List Str).map V.str ++ [V.non])) j1
    generalize upd G6 c1 (HO.lst (([] : List Str).map V.str ++ [V.non])) = G7 at L7 ⊢
    refine ⟨c1, rfl, ⟨_, (SqL.of (L7.get 0 rfl))⟩, for_listU (xs := [V.non]) ⟨(SqL.of (L7.get 0 rfl)), ?_⟩⟩
    refine ⟨_, rfl, rfl, true, rfl, iteT ?_⟩
    refine while_n (mon_test (mon_op mon_I0 (mon_len mon_var) (mon_op mon_I0 mon_var mon_c))) 0 ?_
    refine ⟨_, rfl, a4, [.ref t0], rfl, .inl (SqL.of (L7.get 2 rfl)), _, rfl, _, _, rfl, rfl, _, _, rfl, rfl, false, rfl, rfl, ?_⟩
    refine ⟨_, rfl, rfl, false, rfl, iteF ?_⟩
    refine ⟨(SqL.of (L7.get 0 rfl)), ?_⟩
    refine ⟨_, rfl, Or.inl ⟨rfl, _, (SqL.of (L7.get 6 rfl))⟩, _, rfl, a4, [.ref t0], 0, .ref t0, rfl, rfl, (SqL.of (L7.get 2 rfl)), rfl, t0, [.bl false, .ref b0], 0, .bl false, rfl, rfl, SqT.of (L7.get 3 rfl), rfl, _, rfl, a4, [.ref t0], 0, .ref t0, rfl, rfl, (SqL.of (L7.get 2 rfl)), rfl, t0, [.bl false, .ref b0], 1, .ref b0, rfl, rfl, SqT.of (L7.get 3 rfl), rfl, b0, ([] : List V), rfl, .inl ⟨(SqL.of (L7.get 4 rfl)), fun e1 k1 => ?_⟩⟩
    have L8 := L7.new (o := HO.tup ([] : List V)) k1
    generalize upd G7 e1 (HO.tup ([] : List V)) = G8 at L8 ⊢
    refine ⟨nle' (by show 2 ≤ 1000; decide), fun e2 k2 => ?_⟩
    have L9 := L8.new (o := HO.tup [V.bl false, V.ref e1]) k2
    generalize upd G8 e2 (HO.tup [V.bl false, V.ref e1]) = G9 at L9 ⊢
    refine ⟨a1, ([] : List V), .ref e2, rfl, rfl, (L9.get 8 rfl), Nat.lt_of_lt_of_le (show 0 < 1000 by decide) (nle' (Nat.le_refl _)), ?_⟩
    have L10 := L9.mut 8 (a := a1) (HO.lst (([] : List V) ++ [V.ref e2])) rfl
    generalize upd G9 a1 (HO.lst (([] : List V) ++ [V.ref e2])) = G10 at L10 ⊢
    refine ⟨_, rfl, _, rfl, a1, _, rfl, .inl (SqL.of (L10.get 8 rfl)), _, _, rfl, rfl, a1, fun p' H' x' s' => q p' H' (L10.ex.trans x') s', ?_⟩
    exact .inl ⟨rfl, e2, e1, (L10.get 8 rfl), (L10.get 0 rfl), (L10.get 1 rfl)⟩
  · refine ⟨nle' (by show 0 ≤ 1000; decide), fun a1 n1 => ?_⟩
    have L1 := (Lv.nil (Ex.refl H)).new (o := HO.lst []) n1
    generalize upd H a1 (HO.lst []) = G1 at L1 ⊢
    intro a2 o2 n2 d2
    have L2 := L1.new (o := NkO a2 o2) n2
    generalize upd G1 a2 (NkO a2 o2) = G2 at L2 ⊢
    refine ⟨nle' (by show 0 ≤ 1000; decide), fun b0 m0 => ?_⟩
    have L3 := L2.new (o := HO.lst []) m0
    generalize upd G2 b0 (HO.lst []) = G3 at L3 ⊢
    refine ⟨nle' (by show 2 ≤ 1000; decide), fun t0 k0 => ?_⟩
    have L4 := L3.new (o := HO.tup [V.bl false, V.ref b0]) k0
    generalize upd G3 t0 (HO.tup [V.bl false, V.ref b0]) = G4 at L4 ⊢
    refine ⟨nle' (by show 1 ≤ 1000; decide), fun a4 n4 => ?_⟩
    have L5 := L4.new (o := HO.lst [V.ref t0]) n4
    generalize upd G4 a4 (HO.lst [V.ref t0]) = G5 at L5 ⊢
    refine ⟨_, rfl, l, ([("a" : Str)] : List Str), rfl, SqL.of (L5.ex _ _ hl), by decide, fun ys c0 pe so j0 => ?_⟩
    obtain rfl : ys = ([("a" : Str)] : List Str) := List.perm_singleton.mp pe
    have L6 := L5.new (o := HO.lst ((([("a" : Str)] : List Str) : List Str).map V.str)) j0
    generalize upd G5 c0 (HO.lst ((([("a" : Str)] : List Str) : List Str).map V.str)) = G6 at L6 ⊢
    refine ⟨c0, _, rfl, .inr (SqL.of (L6.get 0 rfl)), nle' (by show 2 ≤ 1000; decide), fun c1 j1 => ?_⟩
    have L7 := L6.new (o := HO.lst ((([("a" : Str)] : List Str) : List Str).map V.str ++ [V.non])) j1
    generalize upd G6 c1 (HO.lst ((([("a" : Str)] : List Str) : List Str).map V.str ++ [V.non])) = G7 at L7 ⊢
    refine ⟨c1, rfl, ⟨_, (SqL.of (L7.get 0 rfl))⟩, for_listU (xs := [V.str "a", V.non]) ⟨(SqL.of (L7.get 0 rfl)), ?_⟩⟩
    refine ⟨_, rfl, rfl, false, rfl, iteF ⟨_, rfl, _, rfl, rfl, "", rfl, by decide +kernel, ?_⟩⟩
    refine while_n (mon_test (mon_op mon_I0 (mon_len mon_var) (mon_op mon_I0 mon_var mon_c))) 0 ?_
    refine ⟨_, rfl, a4, [.ref t0], rfl, .inl (SqL.of (L7.get 2 rfl)), _, rfl, _, _, rfl, rfl, _, _, rfl, rfl, false, rfl, rfl, ?_⟩
    refine ⟨_, rfl, rfl, true, rfl, iteT ?_⟩
    refine ⟨_, rfl, Or.inl ⟨rfl, _, (SqL.of (L7.get 2 rfl))⟩, _, rfl, _, rfl, _, rfl, "a", rfl, by decide +kernel, _, rfl, fun D hD => ?_⟩
    have ec : cutS "a" (some ((("" : Str).length : Nat) : Int)) none = "a" := by decide +kernel
    rw [ec]
    have MD := L7.new (o := HO.lst []) hD
    refine lc_strU (x := "a") ⟨trivial, rfl, tyes ⟨nle' (by show 0 ≤ 1000; decide), fun b1 m1 => ?_⟩⟩
    have L8 := MD.new (o := HO.lst []) m1
    generalize upd (upd G7 D (HO.lst [])) b1 (HO.lst []) = G8 at L8 ⊢
    refine ⟨nle' (by show 2 ≤ 1000; decide), fun t1 k1 => ?_⟩
    have L9 := L8.new (o := HO.tup [V.bl false, V.ref b1]) k1
    generalize upd G8 t1 (HO.tup [V.bl false, V.ref b1]) = G9 at L9 ⊢
    refine ⟨[], (L9.get 2 rfl), Nat.lt_of_lt_of_le (show 0 < 1000 by decide) (nle' (Nat.le_refl _)), ?_⟩
    have L10 := L9.mut 2 (a := D) (HO.lst ([] ++ [V.ref t1])) rfl
    generalize upd G9 D (HO.lst ([] ++ [V.ref t1])) = G10 at L10 ⊢
    refine ⟨trivial, ?_⟩
    refine ⟨a4, D, [.ref t0], [.ref t1], rfl, rfl, (L10.get 5 rfl), (L10.get 2 rfl), nle' (by show 2 ≤ 1000; decide), ?_⟩
    have L11 := L10.mut 5 (a := a4) (HO.lst ([V.ref t0] ++ [V.ref t1])) rfl
    generalize upd G10 a4 (HO.lst ([V.ref t0] ++ [V.ref t1])) = G11 at L11 ⊢
    refine ⟨_, rfl, _, rfl, a4, [.ref t0, .ref t1], -1, .ref t1, rfl, rfl, (SqL.of (L11.get 5 rfl)), rfl, t1, [.bl false, .ref b1], 1, .ref b1, rfl, rfl, SqT.of (L11.get 0 rfl), rfl, nle' (by show 2 ≤ 1000; decide), fun t2 k2 => ?_⟩
    have L12 := L11.new (o := HO.tup [V.bl true, V.ref b1]) k2
    generalize upd G11 t2 (HO.tup [V.bl true, V.ref b1]) = G12 at L12 ⊢
    refine ⟨_, rfl, _, rfl, a4, [.ref t0, .ref t1], -1, 1, rfl, rfl, (L12.get 6 rfl), rfl, ?_⟩
    have L13 := L12.mut 6 (a := a4) (HO.lst ([V.ref t0, V.ref t1].set 1 (V.ref t2))) rfl
    generalize upd G12 a4 (HO.lst ([V.ref t0, V.ref t1].set 1 (V.ref t2))) = G13 at L13 ⊢
    refine ⟨_, rfl, ?_⟩
    refine ⟨(SqL.of (L13.get 4 rfl)), ?_⟩
    refine ⟨_, rfl, rfl, true, rfl, iteT ?_⟩
    refine while_n (mon_test (mon_op mon_I0 (mon_len mon_var) (mon_op mon_I0 mon_var mon_c))) 1 ?_
    refine ⟨_, rfl, a4, [.ref t0, .ref t2], rfl, .inl (SqL.of (L13.get 6 rfl)), _, rfl, _, _, rfl, rfl, _, _, rfl, rfl, true, rfl, iteT ?_⟩
    refine ⟨_, rfl, Or.inl ⟨rfl, _, (SqL.of (L13.get 6 rfl))⟩, a4, [.ref t0, .ref t2], .ref t2, rfl, rfl, (L13.get 6 rfl), rfl, ?_⟩
    have L14 := L13.mut 6 (a := a4) (HO.lst ([V.ref t0, V.ref t2].dropLast)) rfl
    generalize upd G13 a4 (HO.lst ([V.ref t0, V.ref t2].dropLast)) = G14 at L14 ⊢
    refine ⟨t2, _, rfl, SqT.of (L14.get 0 rfl), rfl, _, _, rfl, _, _, rfl, rfl, ?_⟩
    refine ⟨_, rfl, _, rfl, b1, [], rfl, .inl ⟨(SqL.of (L14.get 2 rfl)), fun e0 j2 => ?_⟩⟩
    have L15 := L14.new (o := HO.tup []) j2
    generalize upd G14 e0 (HO.tup []) = G15 at L15 ⊢
    refine ⟨nle' (by show 2 ≤ 1000; decide), fun td j3 => ?_⟩
    have L16 := L15.new (o := HO.tup [V.bl true, V.ref e0]) j3
    generalize upd G15 td (HO.tup [V.bl true, V.ref e0]) = G16 at L16 ⊢
    refine ⟨_, rfl, _, rfl, a2, o2, td, rfl, rfl, (L16.get 11 rfl), d2, ⟨e0, (L16.get 0 rfl), (L16.get 1 rfl)⟩, true, rfl, iteT ?_⟩
    refine ⟨_, rfl, a1, [], rfl, .inl (SqL.of (L16.get 12 rfl)), _, rfl, _, rfl, a2, o2, td, _, rfl, rfl, rfl, (L16.get 11 rfl), d2, ⟨e0, (L16.get 0 rfl), (L16.get 1 rfl)⟩, fun o3 d3 => ?_⟩
    have L17 := L16.mut 11 (a := a2) (NkO a2 o3) rfl
    generalize upd G16 a2 (NkO a2 o3) = G17 at L17 ⊢
    refine ⟨_, rfl, Or.inl ⟨rfl, _, (SqL.of (L17.get 12 rfl))⟩, _, rfl, a1, [], .ref td, rfl, rfl, (L17.get 12 rfl), Nat.lt_of_lt_of_le (show 0 < 1000 by decide) (nle' (Nat.le_refl _)), ?_⟩
    have L18 := L17.mut 12 (a := a1) (HO.lst ([] ++ [V.ref td])) rfl
    generalize upd G17 a1 (HO.lst ([] ++ [V.ref td])) = G18 at L18 ⊢
    refine ⟨_, rfl, _, rfl, a4, [.ref t0], -1, .ref t0, rfl, rfl, (SqL.of (L18.get 8 rfl)), rfl, t0, [.bl false, .ref b0], 1, .ref b0, rfl, rfl, SqT.of (L18.get 9 rfl), rfl, Or.inl ⟨rfl, _, (SqL.of (L18.get 10 rfl))⟩, _, rfl, _, rfl, a4, [.ref t0], rfl, .inl (SqL.of (L18.get 8 rfl)), _, _, rfl, rfl, "a", 0, 97, rfl, rfl, by decide +kernel, rfl, _, rfl, _, rfl, a2, o3, td, _, rfl, rfl, (L18.get 11 rfl), d3, ⟨e0, (L18.get 0 rfl), (L18.get 1 rfl)⟩, nle' (by show 2 ≤ 1000; decide), fun t5 k5 => ?_⟩
    have L19 := L18.new (o := HO.tup [V.str ⟨#[97]⟩, V.int ((([] : List V).length : Nat) : Int)]) k5
    generalize upd G18 t5 (HO.tup [V.str ⟨#[97]⟩, V.int ((([] : List V).length : Nat) : Int)]) = G19 at L19 ⊢
    refine ⟨b0, [], .ref t5, rfl, rfl, (L19.get 11 rfl), Nat.lt_of_lt_of_le (show 0 < 1000 by decide) (nle' (Nat.le_refl _)), ?_⟩
    have L20 := L19.mut 11 (a := b0) (HO.lst ([] ++ [V.ref t5])) rfl
    generalize upd G19 b0 (HO.lst ([] ++ [V.ref t5])) = G20 at L20 ⊢
    refine ⟨_, rfl, a4, [.ref t0], rfl, .inl (SqL.of (L20.get 9 rfl)), _, rfl, _, _, rfl, rfl, _, _, rfl, rfl, false, rfl, rfl, ?_⟩
    refine ⟨_, rfl, rfl, false, rfl, iteF ?_⟩
    refine ⟨(SqL.of (L20.get 7 rfl)), ?_⟩
    refine ⟨_, rfl, Or.inl ⟨rfl, _, (SqL.of (L20.get 13 rfl))⟩, _, rfl, a4, [.ref t0], 0, .ref t0, rfl, rfl, (SqL.of (L20.get 9 rfl)), rfl, t0, [.bl false, .ref b0], 0, .bl false, rfl, rfl, SqT.of (L20.get 10 rfl), rfl, _, rfl, a4, [.ref t0], 0, .ref t0, rfl, rfl, (SqL.of (L20.get 9 rfl)), rfl, t0, [.bl false, .ref b0], 1, .ref b0, rfl, rfl, SqT.of (L20.get 10 rfl), rfl, b0, [V.ref t5], rfl, .inl ⟨(SqL.of (L20.get 11 rfl)), fun e1 k1 => ?_⟩⟩
    have L21 := L20.new (o := HO.tup [V.ref t5]) k1
    generalize upd G20 e1 (HO.tup [V.ref t5]) = G21 at L21 ⊢
    refine ⟨nle' (by show 2 ≤ 1000; decide), fun e2 k2 => ?_⟩
    have L22 := L21.new (o := HO.tup [V.bl false, V.ref e1]) k2
    generalize upd G21 e2 (HO.tup [V.bl false, V.ref e1]) = G22 at L22 ⊢
    refine ⟨a1, [V.ref td], .ref e2, rfl, rfl, (L22.get 15 rfl), Nat.lt_of_lt_of_le (show 1 < 1000 by decide) (nle' (Nat.le_refl _)), ?_⟩
    have L23 := L22.mut 15 (a := a1) (HO.lst ([V.ref td] ++ [V.ref e2])) rfl
    generalize upd G22 a1 (HO.lst ([V.ref td] ++ [V.ref e2])) = G23 at L23 ⊢
    refine ⟨_, rfl, _, rfl, a1, _, rfl, .inl (SqL.of (L23.get 15 rfl)), _, _, rfl, rfl, a1, fun p' H' x' s' => q p' H' (L23.ex.trans x') s', ?_⟩
    exact .inr ⟨rfl, e2, td, e1, e0, t5, (L23.get 15 rfl), (L23.get 0 rfl), (L23.get 1 rfl), (L23.get 2 rfl), (L23.get 3 rfl), (L23.get 4 rfl)⟩
end
end Sk

/-! Automata as lists of rows: what they accept; a list of texts put into one, text by text. No Python in it. -/
namespace Lg
/-- accepting; the steps: a sign, a state -/
abbrev Row := Bool × List (Nat × Nat)
def lk (c : Nat) : List (Nat × Nat) → Option Nat
  | [] => none
  | (d, j) :: r => if c = d then some j else lk c r
theorem lk_mem {c j : Nat} : ∀ {l : List (Nat × Nat)}, lk c l = some j → (c, j) ∈ l
  | (d, i) :: r, h => by
    unfold lk at h
    by_cases z : c = d
    · rw [if_pos z] at h; cases h; subst z; exact List.mem_cons_self ..
    · rw [if_neg z] at h; exact List.mem_cons_of_mem _ (lk_mem h)
theorem lk_none {c : Nat} : ∀ {l : List (Nat × Nat)}, (∀ p ∈ l, p.1 ≠ c) → lk c l = none
  | [], _ => rfl
  | (d, i) :: r, h => by
    unfold lk
    rw [if_neg (fun z => h (d, i) (List.mem_cons_self ..) z.symm)]
    exact lk_none fun p m => h p (List.mem_cons_of_mem _ m)
theorem lk_app {c : Nat} {m : List (Nat × Nat)} : ∀ {l : List (Nat × Nat)}, lk c (l ++ m) = (lk c l).orElse fun _ => lk c m
  | [] => rfl
  | (d, i) :: r => by
    show (if c = d then some i else lk c (r ++ m)) = (if c = d then some i else lk c r).orElse _
    by_cases z : c = d
    · rw [if_pos z, if_pos z]; rfl
    · rw [if_neg z, if_neg z]; exact lk_app
theorem lk_of {c j : Nat} {l : List (Nat × Nat)} (a : (l.map (·.1)).Pairwise (· < ·)) (h : (c, j) ∈ l) : lk c l = some j := by
  induction l with
  | nil => cases h
  | cons p r ih =>
    obtain ⟨d, i⟩ := p
    rw [List.map_cons, List.pairwise_cons] at a
    unfold lk
    rcases List.mem_cons.mp h with e | h
    · cases e; rw [if_pos rfl]
    · have := a.1 c (List.mem_map.mpr ⟨(c, j), h, rfl⟩)
      rw [if_neg (by show ¬ c = d; have : d < c := this; omega)]
      exact ih a.2 h
/-- what is accepted from a state on -/
def acc (S : List Row) : List Nat → Nat → Bool
  | [], i => ((S[i]?).map (·.1)).getD false
  | c :: w, i => (((S[i]?).bind fun r => lk c r.2).map (acc S w)).getD false
/-- what a row accepts -/
def accR (S : List Row) (r : Row) : List Nat → Bool
  | [] => r.1
  | c :: w => ((lk c r.2).map (acc S w)).getD false
theorem acc_row {S : List Row} {i : Nat} {r : Row} (h : S[i]? = some r) (w : List Nat) : acc S w i = accR S r w := by
  cases w with
  | nil => simp [acc, accR, h]
  | cons c w => simp [acc, accR, h]
/-- steps lead to states ahead of their own -/
def Down (S : List Row) : Prop := ∀ (i : Nat) (r : Row), S[i]? = some r → ∀ p ∈ r.2, p.2 < i
theorem acc_more {S T : List Row} (d : Down S) : ∀ (w : List Nat) (i : Nat), i < S.length → acc (S ++ T) w i = acc S w i
  | [], i, h => by simp only [acc]; rw [List.getElem?_append_left h]
  | c :: w, i, h => by
    simp only [acc]
    rw [List.getElem?_append_left h, List.getElem?_eq_getElem h]
    cases e : lk c (S[i]).2 with
    | none => simp [e]
    | some j =>
      have := d i S[i] (List.getElem?_eq_getElem h) _ (lk_mem e)
      simp [e, acc_more d w j (Nat.lt_trans this h)]
theorem accR_more {S T : List Row} {r : Row} (d : Down S) (h : ∀ p ∈ r.2, p.2 < S.length) (w : List Nat) : accR (S ++ T) r w = accR S r w := by
  cases w with
  | nil => rfl
  | cons c w =>
    simp only [accR]
    cases e : lk c r.2 with
    | none => simp
    | some j => simp [acc_more d w j (h _ (lk_mem e))]
/-! ### the opened states along a text -/
/-- what is accepted along the pending signs b, level by level -/
def accO (S : List Row) : List Row → List Nat → List Nat → Bool
  | [], _, _ => false
  | r :: _, _, [] => r.1
  | r :: O, b, c :: w => match lk c r.2 with
    | some j => acc S w j
    | none => match b with
      | [] => false
      | d :: b => if c = d then accO S O b w else false
theorem accO_some {S : List Row} {r : Row} {O : List Row} {b w : List Nat} {c j : Nat} (h : lk c r.2 = some j) : accO S (r :: O) b (c :: w) = acc S w j := by
  cases b <;> simp [accO, h]
theorem accO_end {S : List Row} {r : Row} {O : List Row} {w : List Nat} {c : Nat} (h : lk c r.2 = none) : accO S (r :: O) [] (c :: w) = false := by simp [accO, h]
theorem accO_go {S : List Row} {r : Row} {O : List Row} {b w : List Nat} {c d : Nat} (h : lk c r.2 = none) : accO S (r :: O) (d :: b) (c :: w) = if c = d then accO S O b w else false := by simp [accO, h]
theorem accO_nil {S : List Row} {r : Row} {O : List Row} {b : List Nat} : accO S (r :: O) b [] = r.1 := by cases b <;> rfl
theorem accO_more {S T : List Row} (d : Down S) : ∀ (O : List Row) (b w : List Nat), (∀ r ∈ O, ∀ p ∈ r.2, p.2 < S.length) → accO (S ++ T) O b w = accO S O b w
  | [], _, _, _ => rfl
  | r :: O, b, [], h => by rw [accO_nil, accO_nil]
  | r :: O, b, c :: w, h => by
    cases e : lk c r.2 with
    | some j => rw [accO_some e, accO_some e]; exact acc_more d w j (h r (List.mem_cons_self ..) _ (lk_mem e))
    | none =>
      cases b with
      | nil => rw [accO_end e, accO_end e]
      | cons d' b => rw [accO_go e, accO_go e, accO_more d O b w fun r m => h r (List.mem_cons_of_mem _ m)]
/-- the last level of all: as its row -/
theorem accO_one {S : List Row} {r : Row} (w : List Nat) : accO S [r] [] w = accR S r w := by
  cases w with
  | nil => rfl
  | cons c w =>
    cases e : lk c r.2 with
    | some j => rw [accO_some e]; simp [accR, e]
    | none => rw [accO_end e]; simp [accR, e]
/-- the last level is closed: a step to its state stands in the one below -/
theorem accO_close {S : List Row} {r0 r1 : Row} {d j : Nat} (hj : ∀ w, acc S w j = accR S r1 w) : ∀ (O : List Row) (b w : List Nat), b.length = O.length → accO S (O ++ [(r0.1, r0.2 ++ [(d, j)])]) b w = accO S (O ++ [r0, r1]) (b ++ [d]) w
  | [], [], w, _ => by
    cases w with
    | nil => rfl
    | cons c w =>
      show accO S [(r0.1, r0.2 ++ [(d, j)])] [] (c :: w) = accO S [r0, r1] [d] (c :: w)
      cases e : lk c r0.2 with
      | some k => rw [accO_some e, accO_some (by rw [lk_app, e]; rfl)]
      | none =>
        rw [accO_go e]
        by_cases z : c = d
        · rw [if_pos z, accO_one (r := r1), accO_some (j := j) (by show lk c (r0.2 ++ [(d, j)]) = _; rw [lk_app, e]; simp [lk, z]), hj w]
        · rw [if_neg z, accO_end (by show lk c (r0.2 ++ [(d, j)]) = _; rw [lk_app, e]; simp [lk, z])]
  | r :: O, a :: b, [], _ => by rw [List.cons_append, accO_nil, List.cons_append, accO_nil]
  | r :: O, a :: b, c :: w, h => by
    show accO S (r :: (O ++ _)) (a :: b) (c :: w) = accO S (r :: (O ++ [r0, r1])) (a :: (b ++ [d])) (c :: w)
    cases e : lk c r.2 with
    | some k => rw [accO_some e, accO_some e]
    | none => rw [accO_go e, accO_go e, accO_close hj O b w (by simpa using h)]
  | [], _ :: _, _, h => by simp at h
  | _ :: _, [], _, h => by simp at h
/-- no level has a step with the sign that is pending there -/
def Clr : List Row → List Nat → Prop
  | r :: O, d :: b => (∀ p ∈ r.2, p.1 ≠ d) ∧ Clr O b
  | _, _ => True
/-- levels for a text's further signs -/
def fresh : List Nat → List Row
  | [] => []
  | [_] => [(true, [])]
  | _ :: t => (false, []) :: fresh t
theorem fresh_len : ∀ t : List Nat, (fresh t).length = t.length
  | [] => rfl
  | [_] => rfl
  | _ :: b :: t => by show (fresh (b :: t)).length + 1 = _; rw [fresh_len (b :: t)]; rfl
theorem accO_fresh {S : List Row} : ∀ (t w : List Nat) (a : Nat), accO S (fresh (a :: t)) t w = decide (w = t)
  | [], w, a => by
    cases w with
    | nil => rfl
    | cons c w => show accO S [(true, [])] [] (c :: w) = _; rw [accO_end rfl]; simp
  | b :: t, [], a => by show accO S ((false, []) :: fresh (b :: t)) _ [] = _; rw [accO_nil]; simp
  | b :: t, c :: w, a => by
    show accO S ((false, []) :: fresh (b :: t)) (b :: t) (c :: w) = _
    rw [accO_go rfl]
    by_cases z : c = b
    · subst z; rw [if_pos rfl, accO_fresh t w c]; simp
    · rw [if_neg z]; simp [z]
/-- a text that goes on behind the pending signs -/
theorem accO_add {S : List Row} {r0 : Row} {a : Nat} {t : List Nat} (hd : ∀ p ∈ r0.2, p.1 ≠ a) : ∀ (O : List Row) (b w : List Nat), b.length = O.length → Clr O b →
    accO S (O ++ r0 :: fresh (a :: t)) (b ++ a :: t) w = (accO S (O ++ [r0]) b w || decide (w = b ++ a :: t))
  | [], [], w, _, _ => by
    cases w with
    | nil => show r0.1 = (r0.1 || decide ([] = a :: t)); simp
    | cons c w =>
      show accO S (r0 :: fresh (a :: t)) (a :: t) (c :: w) = (accO S [r0] [] (c :: w) || decide (c :: w = a :: t))
      cases e : lk c r0.2 with
      | some k =>
        have : c ≠ a := fun z => hd _ (lk_mem e) z
        rw [accO_some e, accO_some e]
        simp [this]
      | none =>
        rw [accO_go e, accO_end e]
        by_cases z : c = a
        · rw [if_pos z, accO_fresh, z]; simp
        · rw [if_neg z]; simp [z]
  | r :: O, d :: b, [], _, _ => by
    rw [List.cons_append, accO_nil, List.cons_append, accO_nil]
    simp
  | r :: O, d :: b, c :: w, h, q => by
    show accO S (r :: (O ++ r0 :: fresh (a :: t))) (d :: (b ++ a :: t)) (c :: w) = (accO S (r :: (O ++ [r0])) (d :: b) (c :: w) || decide (c :: w = d :: (b ++ a :: t)))
    cases e : lk c r.2 with
    | some k =>
      have : c ≠ d := fun z => q.1 _ (lk_mem e) z
      rw [accO_some e, accO_some e]
      simp [this]
    | none =>
      rw [accO_go e, accO_go e]
      by_cases z : c = d
      · rw [if_pos z, if_pos z, accO_add hd O b w (by simpa using h) q.2, z]; simp
      · rw [if_neg z, if_neg z]; simp [z]
  | [], _ :: _, _, h, _ => by simp at h
  | _ :: _, [], _, h, _ => by simp at h
/-- the same text as the pending signs -/
theorem accO_last {S : List Row} {r0 : Row} : ∀ (O : List Row) (b w : List Nat), b.length = O.length → Clr O b → accO S (O ++ [(true, r0.2)]) b w = (accO S (O ++ [r0]) b w || decide (w = b))
  | [], [], w, _, _ => by
    cases w with
    | nil => show true = (r0.1 || decide (([] : List Nat) = [])); simp
    | cons c w =>
      show accO S [(true, r0.2)] [] (c :: w) = (accO S [r0] [] (c :: w) || decide (c :: w = []))
      cases e : lk c r0.2 with
      | some k => rw [accO_some (show lk c (true, r0.2).2 = some k from e), accO_some e]; simp
      | none => rw [accO_end (show lk c (true, r0.2).2 = none from e), accO_end e]; simp
  | r :: O, d :: b, [], _, _ => by
    rw [List.cons_append, accO_nil, List.cons_append, accO_nil]
    simp
  | r :: O, d :: b, c :: w, h, q => by
    show accO S (r :: (O ++ [(true, r0.2)])) (d :: b) (c :: w) = (accO S (r :: (O ++ [r0])) (d :: b) (c :: w) || decide (c :: w = d :: b))
    cases e : lk c r.2 with
    | some k =>
      have : c ≠ d := fun z => q.1 _ (lk_mem e) z
      rw [accO_some e, accO_some e]
      simp [this]
    | none =>
      rw [accO_go e, accO_go e]
      by_cases z : c = d
      · rw [if_pos z, if_pos z, accO_last O b w (by simpa using h) q.2, z]; simp
      · rw [if_neg z, if_neg z]; simp [z]
  | [], _ :: _, _, h, _ => by simp at h
  | _ :: _, [], _, h, _ => by simp at h
end Lg

/-! A list of ascending texts put into an automaton, text by text. -/
namespace Lg
def Asc (r : Row) : Prop := (r.2.map (·.1)).Pairwise (· < ·)
/-- S: the states so far; O: the opened ones along the first k signs of the last text B; P: the texts so far -/
structure Bld (S O : List Row) (B : List Nat) (k : Nat) (P : List Nat → Prop) : Prop where
  down : Down S
  nd : S.Nodup
  len : O.length = k + 1
  kb : k ≤ B.length
  tgt : ∀ r ∈ O, ∀ p ∈ r.2, p.2 < S.length
  asc : ∀ r ∈ S, Asc r
  ascO : ∀ r ∈ O, Asc r
  lim : ∀ (i : Nat) (r : Row), O[i]? = some r → ∀ p ∈ r.2, ∃ c, B[i]? = some c ∧ p.1 ≤ c ∧ (i < k → p.1 < c)
  ok : ∀ w, accO S O (B.take k) w = true ↔ P w
theorem bld_nil : Bld [] [(false, [])] [] 0 (fun _ => False) := by
  refine ⟨fun i r h => by simp at h, List.nodup_nil, rfl, Nat.le_refl _, ?_, ?_, ?_, ?_, ?_⟩
  · intro r m p h; rw [List.mem_singleton.mp m] at h; cases h
  · intro r m; cases m
  · intro r m; rw [List.mem_singleton.mp m]; exact List.Pairwise.nil
  · intro i r h p hp
    cases i with
    | zero => cases h; cases hp
    | succ i => simp at h
  · intro w
    cases w with
    | nil => simp [accO]
    | cons c w => simp [accO, lk]
theorem clr_of {O : List Row} {b : List Nat} (h : ∀ (i : Nat) (r : Row), O[i]? = some r → ∀ p ∈ r.2, ∀ c, b[i]? = some c → p.1 ≠ c) : Clr O b := by
  induction O generalizing b with
  | nil => exact trivial
  | cons r O ih =>
    cases b with
    | nil => exact trivial
    | cons d b =>
      refine ⟨fun p m => h 0 r rfl p m d rfl, ih fun i r' e p m c ec => h (i + 1) r' (by simpa using e) p m c (by simpa using ec)⟩
/-- the last of the opened states gets its number -/
theorem Bld.close {S S' O : List Row} {r0 r1 : Row} {B : List Nat} {k j : Nat} {P : List Nat → Prop} (h : Bld S (O ++ [r0, r1]) B (k + 1) P) (hS : (S' = S ∧ S[j]? = some r1) ∨ (S' = S ++ [r1] ∧ j = S.length ∧ r1 ∉ S)) {d : Nat} (hd : B[k]? = some d) :
    Bld S' (O ++ [(r0.1, r0.2 ++ [(d, j)])]) B k P := by
  have lO : O.length = k := by have := h.len; simp at this; omega
  have t0 := h.tgt r0 (by simp)
  have t1 := h.tgt r1 (by simp)
  have e0 : (O ++ [r0, r1])[k]? = some r0 := by rw [List.getElem?_append_right (by omega), lO]; simp
  have l0 : ∀ p ∈ r0.2, p.1 < d := fun p m => by
    obtain ⟨c, hc, _, h3⟩ := h.lim k r0 e0 p m
    rw [hd] at hc; cases hc
    exact h3 (by omega)
  have more : ∃ T, S' = S ++ T := by
    rcases hS with ⟨e, _⟩ | ⟨e, _⟩
    · exact ⟨[], by rw [e, List.append_nil]⟩
    · exact ⟨[r1], e⟩
  obtain ⟨T, eT⟩ := more
  have ej : S'[j]? = some r1 := by
    rcases hS with ⟨e, q⟩ | ⟨e, q, _⟩
    · rw [e]; exact q
    · rw [e, q]; simp
  have jl : j < S'.length := (List.getElem?_eq_some_iff.mp ej).1
  have sl : S.length ≤ S'.length := by rw [eT]; simp
  have dn : Down S' := by
    rcases hS with ⟨e, _⟩ | ⟨e, _, _⟩
    · rw [e]; exact h.down
    · rw [e]
      intro i r hi p m
      by_cases z : i < S.length
      · rw [List.getElem?_append_left z] at hi; exact h.down i r hi p m
      · rw [List.getElem?_append_right (by omega)] at hi
        have zi : i = S.length := by
          have := (List.getElem?_eq_some_iff.mp hi).1
          simp at this; omega
        subst zi
        simp at hi
        subst hi
        exact t1 p m
  refine ⟨dn, ?_, by simp [lO], by have := h.kb; omega, ?_, ?_, ?_, ?_, ?_⟩
  · rcases hS with ⟨e, _⟩ | ⟨e, _, q⟩
    · rw [e]; exact h.nd
    · rw [e, List.nodup_append]
      refine ⟨h.nd, by simp, fun a ha b hb => ?_⟩
      cases List.mem_singleton.mp hb
      exact fun z => q (z ▸ ha)
  · intro r m p hp
    rcases List.mem_append.mp m with m | m
    · exact Nat.lt_of_lt_of_le (h.tgt r (List.mem_append_left _ m) p hp) sl
    · cases List.mem_singleton.mp m
      rcases List.mem_append.mp hp with hp | hp
      · exact Nat.lt_of_lt_of_le (t0 p hp) sl
      · cases List.mem_singleton.mp hp; exact jl
  · intro r m
    rcases hS with ⟨e, _⟩ | ⟨e, _, _⟩
    · rw [e] at m; exact h.asc r m
    · rw [e] at m
      rcases List.mem_append.mp m with m | m
      · exact h.asc r m
      · cases List.mem_singleton.mp m; exact h.ascO r1 (by simp)
  · intro r m
    rcases List.mem_append.mp m with m | m
    · exact h.ascO r (List.mem_append_left _ m)
    · cases List.mem_singleton.mp m
      show ((r0.2 ++ [(d, j)]).map (·.1)).Pairwise (· < ·)
      rw [List.map_append, List.pairwise_append]
      refine ⟨h.ascO r0 (by simp), by simp, fun a ha b hb => ?_⟩
      obtain ⟨p, mp, rfl⟩ := List.mem_map.mp ha
      simp at hb
      subst hb
      exact l0 p mp
  · intro i r hi p hp
    by_cases z : i < O.length
    · rw [List.getElem?_append_left z] at hi
      obtain ⟨c, h1, h2, h3⟩ := h.lim i r (by rw [List.getElem?_append_left z]; exact hi) p hp
      exact ⟨c, h1, h2, fun _ => h3 (by omega)⟩
    · rw [List.getElem?_append_right (by omega)] at hi
      have zi : i = O.length := by
        have := (List.getElem?_eq_some_iff.mp hi).1
        simp at this; omega
      subst zi
      simp at hi
      subst hi
      rw [lO]
      refine ⟨d, hd, ?_, fun z => absurd z (Nat.lt_irrefl _)⟩
      rcases List.mem_append.mp hp with hp | hp
      · exact Nat.le_of_lt (l0 p hp)
      · cases List.mem_singleton.mp hp; exact Nat.le_refl _
  · intro w
    have kb := h.kb
    have tk : B.take (k + 1) = B.take k ++ [d] := by
      rw [List.take_add_one, hd]
      rfl
    have := h.ok w
    rw [tk] at this
    rw [← this, accO_close (r0 := r0) (r1 := r1) (fun w => acc_row ej w) O (B.take k) w (by rw [List.length_take]; omega), eT, accO_more h.down _ _ _ h.tgt]
/-- a further text -/
theorem Bld.add {S O : List Row} {r0 : Row} {B t : List Nat} {k : Nat} {P : List Nat → Prop} (h : Bld S (O ++ [r0]) B k P) (hk : k < t.length) (e : t.take k = B.take k) (hl : ∀ c, B[k]? = some c → ∀ c', t[k]? = some c' → c < c') :
    Bld S (O ++ r0 :: fresh (t.drop k)) t t.length (fun w => P w ∨ w = t) := by
  have lO : O.length = k := by have := h.len; simp at this; omega
  obtain ⟨a, u, eu⟩ : ∃ a u, t.drop k = a :: u := by
    cases q : t.drop k with
    | nil => have := congrArg List.length q; simp at this; omega
    | cons a u => exact ⟨a, u, rfl⟩
  have ta : t[k]? = some a := by
    have : (t.drop k)[0]? = some a := by rw [eu]; rfl
    rwa [List.getElem?_drop, Nat.add_zero] at this
  have et : t = B.take k ++ a :: u := by rw [← e, ← eu, List.take_append_drop]
  have kb := h.kb
  have fr : ∀ r ∈ fresh (t.drop k), r.2 = [] := by
    generalize t.drop k = v
    intro r m
    induction v with
    | nil => cases m
    | cons x v ih =>
      cases v with
      | nil => cases List.mem_singleton.mp m; rfl
      | cons y v => rcases List.mem_cons.mp m with rfl | m; rfl; exact ih m
  have e0 : (O ++ [r0])[k]? = some r0 := by rw [List.getElem?_append_right (by omega), lO]; simp
  have r0a : ∀ p ∈ r0.2, p.1 < a := fun p m => by
    obtain ⟨c, hc, h2, _⟩ := h.lim k r0 e0 p m
    have := hl c hc a ta
    omega
  have mem : ∀ r ∈ O ++ r0 :: fresh (t.drop k), r ∈ O ++ [r0] ∨ r.2 = [] := fun r m => by
    rcases List.mem_append.mp m with m | m
    · exact .inl (List.mem_append_left _ m)
    · rcases List.mem_cons.mp m with rfl | m
      · exact .inl (by simp)
      · exact .inr (fr r m)
  refine ⟨h.down, h.nd, ?_, Nat.le_refl _, ?_, h.asc, ?_, ?_, ?_⟩
  · rw [List.length_append, List.length_cons, fresh_len, List.length_drop]; omega
  · intro r m p hp
    rcases mem r m with m | m
    · exact h.tgt r m p hp
    · rw [m] at hp; cases hp
  · intro r m
    rcases mem r m with m | m
    · exact h.ascO r m
    · unfold Asc; rw [m]; exact List.Pairwise.nil
  · intro i r hi p hp
    have ti : ∀ i, i < k → t[i]? = B[i]? := fun i z => by
      have h1 : (t.take k)[i]? = (B.take k)[i]? := by rw [e]
      rwa [List.getElem?_take_of_lt z, List.getElem?_take_of_lt z] at h1
    by_cases z : i < k
    · rw [List.getElem?_append_left (by omega)] at hi
      obtain ⟨c, h1, h2, h3⟩ := h.lim i r (by rw [List.getElem?_append_left (by omega)]; exact hi) p hp
      exact ⟨c, by rw [ti i z]; exact h1, h2, fun _ => h3 z⟩
    · rw [List.getElem?_append_right (by omega), lO] at hi
      by_cases zk : i = k
      · subst zk
        simp at hi
        subst hi
        exact ⟨a, ta, Nat.le_of_lt (r0a p hp), fun _ => r0a p hp⟩
      · obtain ⟨m, em⟩ : ∃ m, i - k = m + 1 := ⟨i - k - 1, by omega⟩
        rw [em, List.getElem?_cons_succ] at hi
        rw [fr r (List.mem_of_getElem? hi)] at hp
        cases hp
  · intro w
    have cl : Clr O (B.take k) := clr_of fun i r hi p m c hc => by
      have z : i < O.length := (List.getElem?_eq_some_iff.mp hi).1
      obtain ⟨c', h1, _, h3⟩ := h.lim i r (by rw [List.getElem?_append_left z]; exact hi) p m
      rw [List.getElem?_take_of_lt (by omega), h1] at hc
      cases hc
      have := h3 (by omega)
      omega
    have := accO_add (S := S) (r0 := r0) (a := a) (t := u) (fun p m => Nat.ne_of_lt (r0a p m)) O (B.take k) w (by rw [List.length_take]; omega) cl
    rw [List.take_length, eu]
    rw [← et] at this
    rw [this, Bool.or_eq_true, h.ok w, decide_eq_true_eq]
/-- the same text again -/
theorem Bld.again {S O : List Row} {r0 : Row} {B : List Nat} {P : List Nat → Prop} (h : Bld S (O ++ [r0]) B B.length P) : Bld S (O ++ [(true, r0.2)]) B B.length (fun w => P w ∨ w = B) := by
  have lO : O.length = B.length := by have := h.len; simp at this; omega
  have same : ∀ r ∈ O ++ [(true, r0.2)], ∃ r' ∈ O ++ [r0], r'.2 = r.2 := fun r m => by
    rcases List.mem_append.mp m with m | m
    · exact ⟨r, List.mem_append_left _ m, rfl⟩
    · cases List.mem_singleton.mp m; exact ⟨r0, by simp, rfl⟩
  refine ⟨h.down, h.nd, by simp [lO], Nat.le_refl _, ?_, h.asc, ?_, ?_, ?_⟩
  · intro r m p hp
    obtain ⟨r', m', e⟩ := same r m
    exact h.tgt r' m' p (e ▸ hp)
  · intro r m
    obtain ⟨r', m', e⟩ := same r m
    have := h.ascO r' m'
    unfold Asc at this ⊢
    rwa [e] at this
  · intro i r hi p hp
    by_cases z : i < O.length
    · rw [List.getElem?_append_left z] at hi
      exact h.lim i r (by rw [List.getElem?_append_left z]; exact hi) p hp
    · rw [List.getElem?_append_right (by omega)] at hi
      have zi : i = O.length := by
        have := (List.getElem?_eq_some_iff.mp hi).1
        simp at this; omega
      subst zi
      simp at hi
      subst hi
      exact h.lim O.length r0 (by simp) p hp
  · intro w
    have cl : Clr O B := clr_of fun i r hi p m c hc => by
      have z : i < O.length := (List.getElem?_eq_some_iff.mp hi).1
      obtain ⟨c', h1, _, h3⟩ := h.lim i r (by rw [List.getElem?_append_left z]; exact hi) p m
      rw [h1] at hc
      cases hc
      have := h3 (by omega)
      omega
    have e := h.ok w
    rw [List.take_length] at e ⊢
    rw [accO_last O B w lO.symm cl, Bool.or_eq_true, e, decide_eq_true_eq]
/-- all is closed -/
theorem Bld.done {S : List Row} {r : Row} {B : List Nat} {P : List Nat → Prop} (h : Bld S [r] B 0 P) : Down (S ++ [r]) ∧ (∀ r' ∈ S ++ [r], Asc r') ∧ ∀ w, acc (S ++ [r]) w S.length = true ↔ P w := by
  have t := h.tgt r (by simp)
  refine ⟨?_, ?_, ?_⟩
  · intro i r' hi p m
    by_cases z : i < S.length
    · rw [List.getElem?_append_left z] at hi; exact h.down i r' hi p m
    · rw [List.getElem?_append_right (by omega)] at hi
      have zi : i = S.length := by
        have := (List.getElem?_eq_some_iff.mp hi).1
        simp at this; omega
      subst zi
      simp at hi
      subst hi
      exact t p m
  · intro r' m
    rcases List.mem_append.mp m with m | m
    · exact h.asc r' m
    · cases List.mem_singleton.mp m; exact h.ascO r (by simp)
  · intro w
    have := h.ok w
    rw [List.take_zero, accO_one] at this
    rw [acc_row (r := r) (by simp), accR_more h.down t, this]
end Lg

/-! States renumbered in the order of a breadth-first search. -/
namespace Lg
def ren (ord : List Nat) (l : List (Nat × Nat)) : List (Nat × Nat) := l.map fun p => (p.1, ord.idxOf p.2)
/-- ord: the states found so far; G: those that are done; dn: the steps done of the one at hand, row: what they have become -/
structure Rn (F : List Row) (root : Nat) (ord : List Nat) (G : List Row) (dn row : List (Nat × Nat)) : Prop where
  nd : ord.Nodup
  lt : ∀ j ∈ ord, j < F.length
  hd : ord[0]? = some root
  gs : ∀ (i : Nat) (r : Row), G[i]? = some r → ∃ old R, ord[i]? = some old ∧ F[old]? = some R ∧ r = (R.1, ren ord R.2) ∧ ∀ p ∈ R.2, p.2 ∈ ord
  rw : row = ren ord dn
  dm : ∀ p ∈ dn, p.2 ∈ ord
  pr : ∀ m, 0 < m → m < ord.length → (∃ (i : Nat) (r : Row) (c : Nat), i < m ∧ G[i]? = some r ∧ (c, m) ∈ r.2) ∨ (G.length < m ∧ ∃ c, (c, m) ∈ row)
def stp (ord : List Nat) (j : Nat) : List Nat := if j ∈ ord then ord else ord ++ [j]
theorem stp_mem {ord : List Nat} {j : Nat} : j ∈ stp ord j := by
  unfold stp
  by_cases h : j ∈ ord
  · rw [if_pos h]; exact h
  · rw [if_neg h]; simp
theorem stp_sub {ord : List Nat} {j i : Nat} (h : i ∈ ord) : i ∈ stp ord j := by
  unfold stp
  by_cases z : j ∈ ord
  · rw [if_pos z]; exact h
  · rw [if_neg z]; exact List.mem_append_left _ h
theorem stp_idx {ord : List Nat} {j i : Nat} (h : i ∈ ord) : (stp ord j).idxOf i = ord.idxOf i := by
  unfold stp
  by_cases z : j ∈ ord
  · rw [if_pos z]
  · rw [if_neg z, List.idxOf_append, if_pos h]
theorem stp_new {ord : List Nat} {j : Nat} (h : j ∉ ord) : (stp ord j).idxOf j = ord.length := by
  unfold stp
  rw [if_neg h, List.idxOf_append, if_neg h]
  simp
theorem stp_at {ord : List Nat} {j i a : Nat} (h : ord[i]? = some a) : (stp ord j)[i]? = some a := by
  unfold stp
  by_cases z : j ∈ ord
  · rw [if_pos z]; exact h
  · rw [if_neg z, List.getElem?_append_left (List.getElem?_eq_some_iff.mp h).1]; exact h
theorem ren_stp {ord : List Nat} {j : Nat} {l : List (Nat × Nat)} (h : ∀ p ∈ l, p.2 ∈ ord) : ren (stp ord j) l = ren ord l := by
  unfold ren
  exact List.map_congr_left fun p m => by rw [stp_idx (h p m)]
theorem rn_start {F : List Row} {root : Nat} (h : root < F.length) : Rn F root [root] [] [] [] := by
  refine ⟨by simp, ?_, rfl, ?_, rfl, ?_, ?_⟩
  · intro j m; cases List.mem_singleton.mp m; exact h
  · intro i r e; simp at e
  · intro p m; cases m
  · intro m h0 h1; simp at h1; omega
theorem Rn.step {F G : List Row} {root c j : Nat} {ord : List Nat} {dn row : List (Nat × Nat)} (h : Rn F root ord G dn row) (hj : j < F.length) (hG : G.length < ord.length) : Rn F root (stp ord j) G (dn ++ [(c, j)]) (row ++ [(c, (stp ord j).idxOf j)]) := by
  refine ⟨?_, ?_, stp_at h.hd, ?_, ?_, ?_, ?_⟩
  · unfold stp
    by_cases z : j ∈ ord
    · rw [if_pos z]; exact h.nd
    · rw [if_neg z, List.nodup_append]
      exact ⟨h.nd, by simp, fun a ha b hb => by cases List.mem_singleton.mp hb; exact fun q => z (q ▸ ha)⟩
  · intro i m
    unfold stp at m
    by_cases z : j ∈ ord
    · rw [if_pos z] at m; exact h.lt i m
    · rw [if_neg z] at m
      rcases List.mem_append.mp m with m | m
      · exact h.lt i m
      · cases List.mem_singleton.mp m; exact hj
  · intro i r e
    obtain ⟨old, R, h1, h2, h3, h4⟩ := h.gs i r e
    exact ⟨old, R, stp_at h1, h2, by rw [ren_stp h4]; exact h3, fun p m => stp_sub (h4 p m)⟩
  · rw [show ren (stp ord j) (dn ++ [(c, j)]) = ren (stp ord j) dn ++ [(c, (stp ord j).idxOf j)] by simp [ren], ren_stp h.dm, ← h.rw]
  · intro p m
    rcases List.mem_append.mp m with m | m
    · exact stp_sub (h.dm p m)
    · cases List.mem_singleton.mp m; exact stp_mem
  · intro m h0 h1
    by_cases z : m < ord.length
    · rcases h.pr m h0 z with q | ⟨q, c', m'⟩
      · exact .inl q
      · exact .inr ⟨q, c', List.mem_append_left _ m'⟩
    · have hn : j ∉ ord := fun y => by unfold stp at h1; rw [if_pos y] at h1; exact z h1
      have e : m = ord.length := by
        unfold stp at h1
        rw [if_neg hn] at h1
        simp at h1
        omega
      refine .inr ⟨by omega, c, ?_⟩
      rw [stp_new hn, e]
      simp
theorem Rn.next {F G : List Row} {root old : Nat} {R : Row} {ord : List Nat} {row : List (Nat × Nat)} (h : Rn F root ord G R.2 row) (ho : ord[G.length]? = some old) (hR : F[old]? = some R) : Rn F root ord (G ++ [(R.1, row)]) [] [] := by
  refine ⟨h.nd, h.lt, h.hd, ?_, rfl, (fun p m => by cases m), ?_⟩
  · intro i r e
    by_cases z : i < G.length
    · rw [List.getElem?_append_left z] at e; exact h.gs i r e
    · rw [List.getElem?_append_right (by omega)] at e
      have zi : i = G.length := by
        have := (List.getElem?_eq_some_iff.mp e).1
        simp at this; omega
      subst zi
      simp at e
      subst e
      exact ⟨old, R, ho, hR, by rw [h.rw], h.dm⟩
  · intro m h0 h1
    rcases h.pr m h0 h1 with ⟨i, r, c, q1, q2, q3⟩ | ⟨q, c, m'⟩
    · exact .inl ⟨i, r, c, q1, by rw [List.getElem?_append_left (List.getElem?_eq_some_iff.mp q2).1]; exact q2, q3⟩
    · exact .inl ⟨G.length, (R.1, row), c, q, by simp, m'⟩
theorem lk_ren {ord : List Nat} {c : Nat} : ∀ l : List (Nat × Nat), lk c (ren ord l) = (lk c l).map ord.idxOf
  | [] => rfl
  | (d, j) :: l => by
    show (if c = d then some (ord.idxOf j) else lk c (ren ord l)) = Option.map _ (if c = d then some j else lk c l)
    by_cases z : c = d
    · rw [if_pos z, if_pos z]; rfl
    · rw [if_neg z, if_neg z, lk_ren l]
/-- an automaton of which state 0 leads to all others, and steps lead downwards -/
structure Aut (G : List Row) (rk : Nat → Nat) : Prop where
  ne : 0 < G.length
  tgt : ∀ (i : Nat) (r : Row), G[i]? = some r → ∀ p ∈ r.2, p.2 < G.length
  rd : ∀ (i : Nat) (r : Row), G[i]? = some r → ∀ p ∈ r.2, rk p.2 < rk i
  asc : ∀ (i : Nat) (r : Row), G[i]? = some r → Asc r
  pr : ∀ m, 0 < m → m < G.length → ∃ (i : Nat) (r : Row) (c : Nat), i < m ∧ G[i]? = some r ∧ (c, m) ∈ r.2
theorem idx_at {ord : List Nat} (nd : ord.Nodup) {i a : Nat} (h : ord[i]? = some a) : ord.idxOf a = i := by
  obtain ⟨hi, e⟩ := List.getElem?_eq_some_iff.mp h
  rw [← e]
  exact nd.idxOf_getElem i hi
theorem at_idx {ord : List Nat} {a : Nat} (h : a ∈ ord) : ord[ord.idxOf a]? = some a := by
  rw [List.getElem?_eq_getElem (List.idxOf_lt_length_of_mem h), List.getElem_idxOf]
theorem Rn.done {F G : List Row} {root : Nat} {ord : List Nat} (h : Rn F root ord G [] []) (dF : Down F) (aF : ∀ r ∈ F, Asc r) (hl : ord.length ≤ G.length) (hl2 : G.length ≤ ord.length) :
    Aut G (fun i => (ord[i]?).getD 0) ∧ ∀ w, acc G w 0 = acc F w root := by
  have ln : G.length = ord.length := Nat.le_antisymm hl2 hl
  refine ⟨⟨?_, ?_, ?_, ?_, ?_⟩, fun w => ?_⟩
  · rw [ln]; exact (List.getElem?_eq_some_iff.mp h.hd).1
  · intro i r e p m
    obtain ⟨old, R, h1, h2, rfl, h4⟩ := h.gs i r e
    obtain ⟨q, hq, rfl⟩ := List.mem_map.mp m
    rw [ln]
    exact List.idxOf_lt_length_of_mem (h4 q hq)
  · intro i r e p m
    obtain ⟨old, R, h1, h2, rfl, h4⟩ := h.gs i r e
    obtain ⟨q, hq, rfl⟩ := List.mem_map.mp m
    show ((ord[ord.idxOf q.2]?).getD 0) < (ord[i]?).getD 0
    rw [at_idx (h4 q hq), h1]
    exact dF old R h2 q hq
  · intro i r e
    obtain ⟨old, R, h1, h2, rfl, h4⟩ := h.gs i r e
    have := aF R (List.mem_of_getElem? h2)
    unfold Asc at this ⊢
    show ((ren ord R.2).map (·.1)).Pairwise (· < ·)
    rw [show (ren ord R.2).map (·.1) = R.2.map (·.1) by simp [ren]]
    exact this
  · intro m h0 h1
    rcases h.pr m h0 (by omega) with q | ⟨q, c, m'⟩
    · exact q
    · cases m'
  · have key : ∀ (w : List Nat) (i a : Nat), ord[i]? = some a → acc G w i = acc F w a := fun w => by
      induction w with
      | nil =>
        intro i a e
        have gi : i < G.length := by rw [ln]; exact (List.getElem?_eq_some_iff.mp e).1
        obtain ⟨old, R, h1, h2, h3, h4⟩ := h.gs i G[i] (List.getElem?_eq_getElem gi)
        rw [e] at h1
        cases h1
        simp only [acc]
        rw [List.getElem?_eq_getElem gi, h3, h2]
        rfl
      | cons c w ih =>
        intro i a e
        have gi : i < G.length := by rw [ln]; exact (List.getElem?_eq_some_iff.mp e).1
        obtain ⟨old, R, h1, h2, h3, h4⟩ := h.gs i G[i] (List.getElem?_eq_getElem gi)
        rw [e] at h1
        cases h1
        simp only [acc]
        rw [List.getElem?_eq_getElem gi, h3, h2]
        show ((lk c (ren ord R.2)).map (acc G w)).getD false = ((lk c R.2).map (acc F w)).getD false
        rw [lk_ren]
        cases q : lk c R.2 with
        | none => rfl
        | some j =>
          show acc G w (ord.idxOf j) = acc F w j
          exact ih _ _ (at_idx (h4 (c, j) (lk_mem q)))
    exact key w 0 root h.hd
end Lg

/-! The texts of an automaton in ascending order; how many there are; each by its number. -/
namespace Lg
def wdR (f : Nat → List (List Nat)) (r : Row) : List (List Nat) := (if r.1 = true then [[]] else []) ++ r.2.flatMap fun p => (f p.2).map (p.1 :: ·)
def wd (G : List Row) : Nat → Nat → List (List Nat)
  | 0, _ => []
  | n + 1, i => ((G[i]?).map (wdR (wd G n))).getD []
theorem wdR_congr {f g : Nat → List (List Nat)} {r : Row} (h : ∀ p ∈ r.2, f p.2 = g p.2) : wdR f r = wdR g r := by
  unfold wdR
  congr 1
  have : ∀ l : List (Nat × Nat), (∀ p ∈ l, f p.2 = g p.2) → (l.flatMap fun p => (f p.2).map (p.1 :: ·)) = l.flatMap fun p => (g p.2).map (p.1 :: ·) := fun l => by
    induction l with
    | nil => intro _; rfl
    | cons p l ih =>
      intro h
      rw [List.flatMap_cons, List.flatMap_cons, h p (List.mem_cons_self ..), ih fun q m => h q (List.mem_cons_of_mem _ m)]
  exact this r.2 h
section
variable {G : List Row} {rk : Nat → Nat}
theorem wd_same (A : Aut G rk) : ∀ (n m i : Nat), rk i < n → rk i < m → wd G n i = wd G m i
  | 0, _, _, h, _ => absurd h (Nat.not_lt_zero _)
  | _ + 1, 0, _, _, h => absurd h (Nat.not_lt_zero _)
  | n + 1, m + 1, i, hn, hm => by
    unfold wd
    cases e : G[i]? with
    | none => rfl
    | some r =>
      show wdR (wd G n) r = wdR (wd G m) r
      refine wdR_congr fun p mp => ?_
      have := A.rd i r e p mp
      exact wd_same A n m p.2 (by omega) (by omega)
/-- the texts that are accepted from a state on -/
def wds (G : List Row) (rk : Nat → Nat) (i : Nat) : List (List Nat) := wd G (rk i + 1) i
theorem wds_row (A : Aut G rk) {i : Nat} {r : Row} (e : G[i]? = some r) : wds G rk i = wdR (wds G rk) r := by
  show ((G[i]?).map (wdR (wd G (rk i)))).getD [] = _
  rw [e]
  show wdR (wd G (rk i)) r = _
  refine wdR_congr fun p m => ?_
  have := A.rd i r e p m
  exact wd_same A (rk i) (rk p.2 + 1) p.2 this (Nat.lt_succ_self _)
theorem wds_mem (A : Aut G rk) : ∀ (w : List Nat) (i : Nat), i < G.length → (w ∈ wds G rk i ↔ acc G w i = true)
  | [], i, h => by
    have e := List.getElem?_eq_getElem h
    rw [wds_row A e]
    simp only [acc, e, Option.map_some, Option.getD_some, wdR, List.mem_append, List.mem_flatMap, List.mem_map]
    constructor
    · rintro (q | ⟨p, _, w, _, q⟩)
      · by_cases z : (G[i]).1 = true
        · exact z
        · rw [if_neg z] at q; cases q
      · cases q
    · intro q; left; rw [if_pos q]; simp
  | c :: w, i, h => by
    have e := List.getElem?_eq_getElem h
    rw [wds_row A e]
    simp only [acc, e, Option.bind_some, wdR, List.mem_append, List.mem_flatMap, List.mem_map]
    constructor
    · rintro (q | ⟨p, mp, w', mw, q⟩)
      · by_cases z : (G[i]).1 = true
        · rw [if_pos z] at q; simp at q
        · rw [if_neg z] at q; cases q
      · have q1 : p.1 = c ∧ w' = w := by simpa using q
        obtain ⟨q1, q2⟩ := q1
        rw [q2] at mw
        rw [lk_of (A.asc i _ e) (show (c, p.2) ∈ (G[i]).2 by rw [← q1]; exact mp)]
        exact (wds_mem A w p.2 (A.tgt i _ e p mp)).mp mw
    · intro q
      cases k : lk c (G[i]).2 with
      | none => rw [k] at q; cases q
      | some j =>
        rw [k] at q
        exact .inr ⟨(c, j), lk_mem k, w, (wds_mem A w j (A.tgt i _ e _ (lk_mem k))).mpr q, rfl⟩
theorem wds_sorted (A : Aut G rk) : ∀ (n i : Nat), rk i < n → i < G.length → (wds G rk i).Pairwise (· < ·)
  | 0, _, h, _ => absurd h (Nat.not_lt_zero _)
  | n + 1, i, hn, h => by
    have e := List.getElem?_eq_getElem h
    rw [wds_row A e]
    have low : ∀ p ∈ (G[i]).2, (wds G rk p.2).Pairwise (· < ·) := fun p m => wds_sorted A n p.2 (by have := A.rd i _ e p m; omega) (A.tgt i _ e p m)
    have up := A.asc i _ e
    unfold wdR
    rw [List.pairwise_append]
    refine ⟨?_, ?_, ?_⟩
    · by_cases z : (G[i]).1 = true
      · rw [if_pos z]; simp
      · rw [if_neg z]; exact List.Pairwise.nil
    · unfold Asc at up
      generalize (G[i]).2 = l at low up
      induction l with
      | nil => exact List.Pairwise.nil
      | cons p l ih =>
        rw [List.map_cons, List.pairwise_cons] at up
        rw [List.flatMap_cons, List.pairwise_append]
        refine ⟨?_, ih (fun q m => low q (List.mem_cons_of_mem _ m)) up.2, ?_⟩
        · exact List.Pairwise.map _ (fun a b hab => List.cons_lt_cons_iff.mpr (.inr ⟨rfl, hab⟩)) (low p (List.mem_cons_self ..))
        · intro a ha b hb
          obtain ⟨w, _, rfl⟩ := List.mem_map.mp ha
          obtain ⟨q, mq, hb⟩ := List.mem_flatMap.mp hb
          obtain ⟨w', _, rfl⟩ := List.mem_map.mp hb
          exact List.cons_lt_cons_iff.mpr (.inl (up.1 q.1 (List.mem_map.mpr ⟨q, mq, rfl⟩)))
    · intro a ha b hb
      by_cases z : (G[i]).1 = true
      · rw [if_pos z] at ha
        cases List.mem_singleton.mp ha
        obtain ⟨p, _, hb⟩ := List.mem_flatMap.mp hb
        obtain ⟨w, _, rfl⟩ := List.mem_map.mp hb
        exact List.nil_lt_cons _ _
      · rw [if_neg z] at ha; cases ha
/-- how many there are -/
def many (G : List Row) (rk : Nat → Nat) (i : Nat) : Nat := (wds G rk i).length
theorem many_row (A : Aut G rk) {i : Nat} {r : Row} (e : G[i]? = some r) : many G rk i = (if r.1 = true then 1 else 0) + (r.2.map fun p => many G rk p.2).sum := by
  unfold many
  rw [wds_row A e]
  unfold wdR
  rw [List.length_append, List.length_flatMap]
  have : (r.2.map fun p => ((wds G rk p.2).map (p.1 :: ·)).length) = r.2.map fun p => (wds G rk p.2).length := List.map_congr_left fun p _ => by rw [List.length_map]
  rw [this]
  by_cases z : r.1 = true
  · rw [if_pos z, if_pos z]; rfl
  · rw [if_neg z, if_neg z]; rfl
/-- the text with number n, among those that begin with a step -/
def pick (f : Nat → Nat) : List (Nat × Nat) → Nat → Option (Nat × Nat × Nat)
  | [], _ => none
  | p :: l, n => if n < f p.2 then some (p.1, p.2, n) else pick f l (n - f p.2)
theorem pick_flat {f : Nat → List (List Nat)} : ∀ (l : List (Nat × Nat)) (n : Nat), (l.flatMap fun p => (f p.2).map (p.1 :: ·))[n]? = (pick (fun j => (f j).length) l n).bind fun q => ((f q.2.1)[q.2.2]?).map (q.1 :: ·)
  | [], n => rfl
  | p :: l, n => by
    rw [List.flatMap_cons]
    unfold pick
    by_cases z : n < (f p.2).length
    · rw [if_pos z, List.getElem?_append_left (by rw [List.length_map]; exact z), List.getElem?_map]
      rfl
    · rw [if_neg z, List.getElem?_append_right (by rw [List.length_map]; omega), List.length_map, pick_flat l]
theorem wds_first (A : Aut G rk) {i : Nat} {r : Row} (e : G[i]? = some r) (h : r.1 = true) : (wds G rk i)[0]? = some [] := by
  rw [wds_row A e]
  unfold wdR
  rw [if_pos h]
  rfl
theorem wds_at (A : Aut G rk) {i : Nat} {r : Row} (e : G[i]? = some r) {n : Nat} (h : ¬ (n = 0 ∧ r.1 = true)) : (wds G rk i)[n]? = (pick (many G rk) r.2 (n - (if r.1 = true then 1 else 0))).bind fun q => ((wds G rk q.2.1)[q.2.2]?).map (q.1 :: ·) := by
  rw [wds_row A e]
  unfold wdR
  by_cases z : r.1 = true
  · rw [if_pos z, if_pos z, List.getElem?_append_right (by show 1 ≤ n; rcases Nat.eq_zero_or_pos n with q | q; exact absurd ⟨q, z⟩ h; exact q)]
    exact pick_flat r.2 (n - 1)
  · rw [if_neg z, if_neg z, List.nil_append, Nat.sub_zero]
    exact pick_flat r.2 n
/-- the number of a text -/
theorem wds_rank (A : Aut G rk) {i : Nat} {r : Row} (e : G[i]? = some r) {c j m : Nat} {w : List Nat} (k : lk c r.2 = some j) (h : (wds G rk j)[m]? = some w) :
    (wds G rk i)[(if r.1 = true then 1 else 0) + ((r.2.filter fun p => decide (p.1 < c)).map fun p => many G rk p.2).sum + m]? = some (c :: w) := by
  have up := A.asc i r e
  have flat : ∀ l : List (Nat × Nat), (l.map (·.1)).Pairwise (· < ·) → lk c l = some j → (l.flatMap fun p => (wds G rk p.2).map (p.1 :: ·))[((l.filter fun p => decide (p.1 < c)).map fun p => many G rk p.2).sum + m]? = some (c :: w) := fun l => by
    induction l with
    | nil => intro _ k; cases k
    | cons p l ih =>
      intro up k
      rw [List.map_cons, List.pairwise_cons] at up
      unfold lk at k
      rw [List.flatMap_cons]
      by_cases z : c = p.1
      · rw [if_pos z] at k
        cases k
        have none : (p :: l).filter (fun q => decide (q.1 < c)) = [] := by
          rw [List.filter_eq_nil_iff]
          intro q mq
          rcases List.mem_cons.mp mq with rfl | mq
          · simp; omega
          · have := up.1 q.1 (List.mem_map.mpr ⟨q, mq, rfl⟩)
            simp; omega
        rw [none]
        have lm : m < (wds G rk p.2).length := (List.getElem?_eq_some_iff.mp h).1
        rw [List.getElem?_append_left (by rw [List.length_map]; simpa using lm), List.getElem?_map]
        simp only [List.map_nil, List.sum_nil, Nat.zero_add]
        rw [h, z]
        rfl
      · rw [if_neg z] at k
        have lt : p.1 < c := up.1 c (List.mem_map.mpr ⟨(c, j), lk_mem k, rfl⟩)
        rw [List.filter_cons_of_pos (by simpa using lt), List.map_cons, List.sum_cons]
        have := ih up.2 k
        rw [List.getElem?_append_right (by rw [List.length_map]; show (wds G rk p.2).length ≤ (wds G rk p.2).length + _ + m; omega), List.length_map]
        rw [show many G rk p.2 + (List.map (fun p => many G rk p.2) (List.filter (fun p => decide (p.1 < c)) l)).sum + m - (wds G rk p.2).length = (List.map (fun p => many G rk p.2) (List.filter (fun p => decide (p.1 < c)) l)).sum + m by unfold many; omega]
        exact this
  rw [wds_row A e]
  unfold wdR
  by_cases z : r.1 = true
  · rw [if_pos z, if_pos z, List.getElem?_append_right (by show 1 ≤ _; omega)]
    rw [show 1 + ((r.2.filter fun p => decide (p.1 < c)).map fun p => many G rk p.2).sum + m - ([[]] : List (List Nat)).length = ((r.2.filter fun p => decide (p.1 < c)).map fun p => many G rk p.2).sum + m by show 1 + _ + m - 1 = _; omega]
    exact flat r.2 up k
  · rw [if_neg z, if_neg z, List.nil_append, Nat.zero_add]
    exact flat r.2 up k
end
/-- two ascending lists of the same texts are the same list -/
theorem sorted_eq : ∀ {xs ys : List (List Nat)}, xs.Pairwise (· < ·) → ys.Pairwise (· < ·) → (∀ a, a ∈ xs ↔ a ∈ ys) → xs = ys
  | [], [], _, _, _ => rfl
  | [], b :: ys, _, _, h => by have := (h b).mpr (List.mem_cons_self ..); cases this
  | a :: xs, [], _, _, h => by have := (h a).mp (List.mem_cons_self ..); cases this
  | a :: xs, b :: ys, hx, hy, h => by
    rw [List.pairwise_cons] at hx hy
    have ab : a = b := by
      rcases List.mem_cons.mp ((h a).mp (List.mem_cons_self ..)) with q | q
      · exact q
      · rcases List.mem_cons.mp ((h b).mpr (List.mem_cons_self ..)) with q' | q'
        · exact q'.symm
        · exact absurd (List.lt_trans (hy.1 a q) (hx.1 b q')) (List.lt_irrefl _)
    subst ab
    have nx : a ∉ xs := fun m => List.lt_irrefl _ (hx.1 a m)
    have ny : a ∉ ys := fun m => List.lt_irrefl _ (hy.1 a m)
    rw [sorted_eq hx.2 hy.2 fun x => ⟨fun m => (List.mem_cons.mp ((h x).mp (List.mem_cons_of_mem _ m))).elim (fun z => absurd (z ▸ m) nx) id, fun m => (List.mem_cons.mp ((h x).mpr (List.mem_cons_of_mem _ m))).elim (fun z => absurd (z ▸ m) ny) id⟩]
end Lg

/-! All states, each one ahead of those to which its steps lead. -/
namespace Lg
def tgs (G : List Row) (i : Nat) : List Nat := ((G[i]?).map fun r => r.2.map (·.2)).getD []
def cn (G : List Row) (j i : Nat) : Nat := (tgs G i).count j
def sm (f : Nat → Nat) (L : List Nat) : Nat := (L.map f).sum
theorem sm_cons {f : Nat → Nat} {x : Nat} {L : List Nat} : sm f (x :: L) = f x + sm f L := by simp [sm]
theorem sm_app {f : Nat → Nat} {L M : List Nat} : sm f (L ++ M) = sm f L + sm f M := by simp [sm]
theorem sm_erase {f : Nat → Nat} {x : Nat} : ∀ {L : List Nat}, x ∈ L → sm f L = f x + sm f (L.erase x)
  | y :: L, h => by
    by_cases z : y = x
    · subst z; rw [List.erase_cons_head, sm_cons]
    · rw [List.erase_cons_tail (by simpa using z), sm_cons, sm_cons, sm_erase (by rcases List.mem_cons.mp h with q | q; exact absurd q.symm z; exact q)]
      omega
theorem sm_le {f : Nat → Nat} : ∀ (n : Nat) (L : List Nat), L.Nodup → (∀ x ∈ L, x < n) → sm f L ≤ sm f (List.range n)
  | 0, L, _, h => by
    cases L with
    | nil => exact Nat.le_refl _
    | cons x L => exact absurd (h x (List.mem_cons_self ..)) (Nat.not_lt_zero _)
  | n + 1, L, nd, h => by
    rw [List.range_succ, sm_app, sm_cons, show sm f [] = 0 from rfl]
    by_cases z : n ∈ L
    · rw [sm_erase z]
      have := sm_le (f := f) n (L.erase n) (nd.erase n) fun x m => by
        have h1 := h x (List.mem_of_mem_erase m)
        have h2 : x ≠ n := fun q => by rw [q] at m; exact nd.not_mem_erase m
        omega
      omega
    · have := sm_le (f := f) n L nd fun x m => by
        have h1 := h x m
        have h2 : x ≠ n := fun q => z (q ▸ m)
        omega
      omega
theorem sm_sup {f : Nat → Nat} : ∀ (n : Nat) (L : List Nat), (∀ i, i < n → 0 < f i → i ∈ L) → sm f (List.range n) ≤ sm f L
  | 0, L, _ => Nat.zero_le _
  | n + 1, L, h => by
    rw [List.range_succ, sm_app, sm_cons, show sm f [] = 0 from rfl]
    by_cases z : f n = 0
    · have := sm_sup (f := f) n L fun i hi hp => h i (by omega) hp
      omega
    · rw [sm_erase (h n (by omega) (by omega))]
      have := sm_sup (f := f) n (L.erase n) fun i hi hp => (List.mem_erase_of_ne (by omega)).mpr (h i (by omega) hp)
      omega
section
variable {G : List Row} {rk : Nat → Nat}
theorem tgs_at {i : Nat} {r : Row} (e : G[i]? = some r) : tgs G i = r.2.map (·.2) := by simp [tgs, e]
theorem tgs_mem {i j : Nat} : j ∈ tgs G i ↔ ∃ r, G[i]? = some r ∧ ∃ c, (c, j) ∈ r.2 := by
  constructor
  · intro h
    cases e : G[i]? with
    | none => simp [tgs, e] at h
    | some r =>
      rw [tgs_at e] at h
      obtain ⟨p, m, rfl⟩ := List.mem_map.mp h
      exact ⟨r, rfl, p.1, m⟩
  · rintro ⟨r, e, c, m⟩
    rw [tgs_at e]
    exact List.mem_map.mpr ⟨(c, j), m, rfl⟩
theorem rk_top (A : Aut G rk) : ∀ (m i : Nat), i ≤ m → i < G.length → rk i ≤ rk 0
  | 0, i, h, _ => by rw [Nat.le_zero.mp h]; exact Nat.le_refl _
  | m + 1, i, h, hi => by
    by_cases z : i = 0
    · rw [z]; exact Nat.le_refl _
    · obtain ⟨k, r, c, h1, h2, h3⟩ := A.pr i (by omega) hi
      have e1 : rk i < rk k := A.rd k r h2 _ h3
      have := rk_top A m k (by omega) (by omega)
      omega
theorem no_zero (A : Aut G rk) (i : Nat) : 0 ∉ tgs G i := fun h => by
  obtain ⟨r, e, c, m⟩ := tgs_mem.mp h
  have e1 : rk 0 < rk i := A.rd i r e _ m
  have := rk_top A i i (Nat.le_refl _) (List.getElem?_eq_some_iff.mp e).1
  omega
/-- ord: those found so far; at: how many of them are done; cur: the steps done of the one at hand -/
structure Kh (G : List Row) (ord : List Nat) (k : Nat) (cur : List Nat) : Prop where
  nd : ord.Nodup
  lt : ∀ j ∈ ord, j < G.length
  h0 : ord[0]? = some 0
  al : k ≤ ord.length
  mem : ∀ j, 0 < j → j < G.length → (j ∈ ord ↔ sm (cn G j) (List.range G.length) = sm (cn G j) (ord.take k) + cur.count j)
  pre : ∀ (q j : Nat), ord[q]? = some j → ∀ i, j ∈ tgs G i → ∃ q', q' < q ∧ ord[q']? = some i
theorem kh_start (A : Aut G rk) : Kh G [0] 0 [] := by
  refine ⟨by simp, ?_, rfl, Nat.zero_le _, ?_, ?_⟩
  · intro j m; cases List.mem_singleton.mp m; exact A.ne
  · intro j h0 h1
    obtain ⟨i, r, c, h2, h3, h4⟩ := A.pr j h0 h1
    have := sm_le (f := cn G j) G.length [i] (by simp) (fun x m => by cases List.mem_singleton.mp m; omega)
    rw [sm_cons, show sm (cn G j) [] = 0 from rfl] at this
    have : 0 < cn G j i := List.count_pos_iff.mpr (tgs_mem.mpr ⟨r, h3, c, h4⟩)
    constructor
    · intro m; have := List.mem_singleton.mp m; omega
    · intro e
      rw [List.take_zero, show sm (cn G j) [] = 0 from rfl, List.count_nil] at e
      omega
  · intro q j e i m
    cases q with
    | zero => cases e; exact absurd m (no_zero A i)
    | succ q => simp at e
/-- how much is still waited for -/
def wt (G : List Row) (ord : List Nat) (k : Nat) (cur : List Nat) (j : Nat) : Int := (sm (cn G j) (List.range G.length) : Int) - (sm (cn G j) (ord.take k) : Int) - (cur.count j : Int)
theorem Kh.step (A : Aut G rk) {ord cur rest : List Nat} {k i j : Nat} (h : Kh G ord k cur) (ho : ord[k]? = some i) (ht : tgs G i = cur ++ j :: rest) :
    (wt G ord k (cur ++ [j]) j = 0 → Kh G (ord ++ [j]) k (cur ++ [j])) ∧ (wt G ord k (cur ++ [j]) j ≠ 0 → Kh G ord k (cur ++ [j])) := by
  have kl := (List.getElem?_eq_some_iff.mp ho).1
  have jm : j ∈ tgs G i := by rw [ht]; simp
  have j0 : 0 < j := by
    rcases Nat.eq_zero_or_pos j with z | z
    · rw [z] at jm; exact absurd jm (no_zero A i)
    · exact z
  have jl : j < G.length := by
    obtain ⟨r, e, c, m⟩ := tgs_mem.mp jm
    exact A.tgt i r e _ m
  have other : ∀ j', j' ≠ j → (cur ++ [j]).count j' = cur.count j' := fun j' n => by simp [List.count_append, List.count_singleton, Ne.symm n]
  have same : (cur ++ [j]).count j = cur.count j + 1 := by simp [List.count_append]
  -- what is done never exceeds all
  have tk : ord.take (k + 1) = ord.take k ++ [i] := by rw [List.take_add_one, ho]; rfl
  have ndk : (ord.take (k + 1)).Nodup := h.nd.sublist (List.take_sublist _ _)
  have ltk : ∀ x ∈ ord.take (k + 1), x < G.length := fun x m => h.lt x (List.mem_of_mem_take m)
  have ci : ∀ j', (cur ++ [j]).count j' ≤ cn G j' i := fun j' => by
    unfold cn
    rw [ht, List.count_append, List.count_append, List.count_cons, List.count_cons, List.count_nil]
    omega
  have le : ∀ j', sm (cn G j') (ord.take k) + cn G j' i ≤ sm (cn G j') (List.range G.length) := fun j' => by
    have := sm_le (f := cn G j') G.length _ ndk ltk
    rw [tk, sm_app, sm_cons, show sm (cn G j') [] = 0 from rfl] at this
    omega
  constructor
  · intro w0
    have all : sm (cn G j) (List.range G.length) = sm (cn G j) (ord.take k) + (cur ++ [j]).count j := by unfold wt at w0; omega
    have nj : j ∉ ord := fun m => by
      have := (h.mem j j0 jl).mp m
      omega
    refine ⟨?_, ?_, ?_, ?_, ?_, ?_⟩
    · rw [List.nodup_append]
      exact ⟨h.nd, by simp, fun a ha b hb => by cases List.mem_singleton.mp hb; exact fun q => nj (q ▸ ha)⟩
    · intro x m
      rcases List.mem_append.mp m with m | m
      · exact h.lt x m
      · cases List.mem_singleton.mp m; exact jl
    · rw [List.getElem?_append_left (List.getElem?_eq_some_iff.mp h.h0).1]; exact h.h0
    · rw [List.length_append]; have := h.al; omega
    · intro j' p0 pl
      rw [List.take_append_of_le_length h.al]
      by_cases z : j' = j
      · subst z
        exact ⟨fun _ => all, fun _ => by simp⟩
      · rw [other j' z, ← h.mem j' p0 pl, List.mem_append, List.mem_singleton]
        exact ⟨fun m => m.elim id (fun q => absurd q z), .inl⟩
    · intro q x e i' m
      by_cases z : q < ord.length
      · rw [List.getElem?_append_left z] at e
        obtain ⟨q', h1, h2⟩ := h.pre q x e i' m
        exact ⟨q', h1, by rw [List.getElem?_append_left (by omega)]; exact h2⟩
      · rw [List.getElem?_append_right (by omega)] at e
        have zq : q = ord.length := by
          have := (List.getElem?_eq_some_iff.mp e).1
          simp at this; omega
        subst zq
        simp at e
        subst e
        have im : i' ∈ ord.take (k + 1) := by
          refine Classical.byContradiction fun ni => ?_
          have il : i' < G.length := by
            obtain ⟨r, e, _⟩ := tgs_mem.mp m
            exact (List.getElem?_eq_some_iff.mp e).1
          have := sm_le (f := cn G j) G.length (i' :: ord.take (k + 1)) (List.nodup_cons.mpr ⟨ni, ndk⟩) (fun x mx => by
            rcases List.mem_cons.mp mx with rfl | mx
            · exact il
            · exact ltk x mx)
          rw [sm_cons, tk, sm_app, sm_cons, show sm (cn G j) [] = 0 from rfl] at this
          have pos : 0 < cn G j i' := List.count_pos_iff.mpr m
          have := ci j
          omega
        obtain ⟨q', hq⟩ := List.mem_iff_getElem?.mp im
        have ql : q' < k + 1 := by
          have := (List.getElem?_eq_some_iff.mp hq).1
          rw [List.length_take] at this; omega
        rw [List.getElem?_take_of_lt ql] at hq
        exact ⟨q', by omega, by rw [List.getElem?_append_left (by omega)]; exact hq⟩
  · intro w0
    have nall : sm (cn G j) (List.range G.length) ≠ sm (cn G j) (ord.take k) + (cur ++ [j]).count j := fun e => w0 (by unfold wt; omega)
    refine ⟨h.nd, h.lt, h.h0, h.al, ?_, h.pre⟩
    intro j' p0 pl
    by_cases z : j' = j
    · subst z
      constructor
      · intro m
        have := (h.mem j' p0 pl).mp m
        have := le j'
        have := ci j'
        omega
      · intro e; exact absurd e nall
    · rw [other j' z]; exact h.mem j' p0 pl
theorem Kh.next {ord : List Nat} {k i : Nat} (h : Kh G ord k (tgs G i)) (ho : ord[k]? = some i) : Kh G ord (k + 1) [] := by
  refine ⟨h.nd, h.lt, h.h0, (List.getElem?_eq_some_iff.mp ho).1, ?_, h.pre⟩
  intro j p0 pl
  rw [h.mem j p0 pl, List.take_add_one, ho, List.count_nil, sm_app]
  show _ ↔ _ = sm (cn G j) (ord.take k) + sm (cn G j) [i] + 0
  rw [sm_cons, show sm (cn G j) [] = 0 from rfl]
  rfl
/-- all are found, and each one ahead of where its steps lead -/
theorem Kh.done (A : Aut G rk) {ord : List Nat} (h : Kh G ord ord.length []) : (∀ j, j < G.length → j ∈ ord) ∧ ∀ (X Y : List Nat) (i : Nat), ord = X ++ i :: Y → ∀ j ∈ tgs G i, j ∈ Y := by
  have all : ∀ (m j : Nat), rk 0 - rk j ≤ m → j < G.length → j ∈ ord := fun m => by
    induction m with
    | zero =>
      intro j hm hj
      by_cases z : j = 0
      · rw [z]; exact List.mem_of_getElem? h.h0
      · obtain ⟨i, r, c, h1, h2, h3⟩ := A.pr j (by omega) hj
        have e1 : rk j < rk i := A.rd i r h2 _ h3
        have := rk_top A i i (Nat.le_refl _) (by omega)
        omega
    | succ m ih =>
      intro j hm hj
      by_cases z : j = 0
      · rw [z]; exact List.mem_of_getElem? h.h0
      · rw [h.mem j (by omega) hj, List.take_length, List.count_nil, Nat.add_zero]
        refine Nat.le_antisymm (sm_sup _ _ fun i hi hp => ?_) (sm_le _ _ h.nd h.lt)
        have mi := List.count_pos_iff.mp hp
        obtain ⟨r, e, c, mc⟩ := tgs_mem.mp mi
        have h1 := A.rd i r e _ mc
        have h2 := rk_top A i i (Nat.le_refl _) hi
        have h3 : rk j < rk i := h1
        exact ih i (by omega) hi
  refine ⟨fun j hj => all _ j (Nat.le_refl _) hj, fun X Y i e j m => ?_⟩
  have jl : j < G.length := by
    obtain ⟨r, e, c, mc⟩ := tgs_mem.mp m
    exact A.tgt i r e _ mc
  obtain ⟨q, hq⟩ := List.mem_iff_getElem?.mp (all _ j (Nat.le_refl _) jl)
  obtain ⟨q', h1, h2⟩ := h.pre q j hq i m
  have ei : ord[X.length]? = some i := by rw [e, List.getElem?_append_right (Nat.le_refl _)]; simp
  have : q' = X.length := (idx_at h.nd h2).symm.trans (idx_at h.nd ei)
  rw [e, List.getElem?_append_right (by omega)] at hq
  obtain ⟨d, hd⟩ : ∃ d, q - X.length = d + 1 := ⟨q - X.length - 1, by omega⟩
  rw [hd, List.getElem?_cons_succ] at hq
  exact List.mem_of_getElem? hq
end
end Lg

/-! Automata in the heap. -/
namespace Sk
open PySem PySem.Spec PyProof.Rows L2 Evl Lg
/-- what is no list stays -/
def Nl (H H' : Hp) : Prop := ∀ (b : Addr) (o : HO), (∀ xs, o ≠ .lst xs) → H b = some o → H' b = some o
theorem Nl.of {H H' : Hp} (x : Ex H H') : Nl H H' := fun b o _ e => x _ _ e
theorem Nl.trans {H H1 H2 : Hp} (x : Nl H H1) (y : Nl H1 H2) : Nl H H2 := fun b o n e => y _ _ n (x _ _ n e)
theorem Nl.mut {H : Hp} {a : Addr} {xs ys : List V} (h : H a = some (.lst xs)) : Nl H (upd H a (.lst ys)) := fun b o n e => by
  have : b ≠ a := fun z => by rw [z, h] at e; cases e; exact n xs rfl
  rw [upd_ne this]; exact e
/-- a step, a row of steps, a state -/
def StpAt (H : Hp) (q : Addr) (p : Nat × Nat) : Prop := H q = some (.tup [.str (one p.1), .int (p.2 : Int)])
def RowAt (K : PySem.W.Frag) (H : Hp) (s : Addr) (r : Lg.Row) : Prop := ∃ t qs, H s = some (.tup [.bl r.1, .ref t]) ∧ SqT K H t (qs.map V.ref) ∧ Paired (StpAt H) qs r.2
def RowTq (H : Hp) (s : Addr) (r : Lg.Row) : Prop := ∃ t qs, H s = some (.tup [.bl r.1, .ref t]) ∧ Tq H t (qs.map V.ref) ∧ Paired (StpAt H) qs r.2
def SAt (K : PySem.W.Frag) (H : Hp) (p : Addr) (S : List Lg.Row) : Prop := ∃ ss, H p = some (.lst (ss.map V.ref)) ∧ Paired (RowAt K H) ss S
def STq (H : Hp) (p : Addr) (S : List Lg.Row) : Prop := ∃ ss, H p = some (.lst (ss.map V.ref)) ∧ Paired (RowTq H) ss S
theorem paired_imp {α β : Type} {R R' : α → β → Prop} (k : ∀ a b, R a b → R' a b) : ∀ {as : List α} {bs : List β}, Paired R as bs → Paired R' as bs
  | _, _, .nil => .nil
  | _, _, .cons h t => .cons (k _ _ h) (paired_imp k t)
theorem paired_len {α β : Type} {R : α → β → Prop} : ∀ {as : List α} {bs : List β}, Paired R as bs → as.length = bs.length
  | _, _, .nil => rfl
  | _, _, .cons _ t => congrArg Nat.succ (paired_len t)
theorem paired_at {α β : Type} {R : α → β → Prop} : ∀ {as : List α} {bs : List β}, Paired R as bs → ∀ {i : Nat} {b : β}, bs[i]? = some b → ∃ a, as[i]? = some a ∧ R a b
  | _, _, .nil, _, _, e => by simp at e
  | _, _, .cons h t, 0, _, e => by cases e; exact ⟨_, rfl, h⟩
  | _, _, .cons h t, i + 1, _, e => by
    obtain ⟨a, h1, h2⟩ := paired_at t (i := i) (by simpa using e)
    exact ⟨a, by simpa using h1, h2⟩
theorem pair_snoc {α β : Type} {R : α → β → Prop} {a : α} {b : β} (h : R a b) : ∀ {as : List α} {bs : List β}, Paired R as bs → Paired R (as ++ [a]) (bs ++ [b])
  | _, _, .nil => .cons h .nil
  | _, _, .cons h' t => .cons h' (pair_snoc h t)
theorem StpAt.nl {H H' : Hp} {q : Addr} {p : Nat × Nat} (x : Nl H H') (h : StpAt H q p) : StpAt H' q p := x _ _ (fun _ => nofun) h
theorem Tq.nl {H H' : Hp} {a : Addr} {xs : List V} (x : Nl H H') (h : Tq H a xs) : Tq H' a xs := let ⟨o, d, e⟩ := h; ⟨o, d, x _ _ (fun _ => nofun) e⟩
theorem RowTq.nl {H H' : Hp} {s : Addr} {r : Lg.Row} (x : Nl H H') (h : RowTq H s r) : RowTq H' s r := let ⟨t, qs, a, b, c⟩ := h; ⟨t, qs, x _ _ (fun _ => nofun) a, b.nl x, paired_imp (fun _ _ z => z.nl x) c⟩
theorem sq_mono' {K : PySem.W.Frag} {H H' : Hp} {a : Addr} {xs : List V} (x : Ex H H') (h : SqT K H a xs) : SqT K H' a xs := by
  rcases h with (h | ⟨o, h⟩) | h
  · exact .inl (.inl (x _ _ h))
  · exact .inl (.inr ⟨o, x _ _ h⟩)
  · exact .inr h
theorem RowAt.mono {K : PySem.W.Frag} {H H' : Hp} {s : Addr} {r : Lg.Row} (x : Ex H H') (h : RowAt K H s r) : RowAt K H' s r := let ⟨t, qs, a, b, c⟩ := h; ⟨t, qs, x _ _ a, sq_mono' x b, paired_imp (fun _ _ z => z.nl (Nl.of x)) c⟩
theorem RowTq.at_ {K : PySem.W.Frag} {H : Hp} {s : Addr} {r : Lg.Row} (h : RowTq H s r) : RowAt K H s r := let ⟨t, qs, a, b, c⟩ := h; ⟨t, qs, a, b.sq, c⟩
theorem SAt.mono {K : PySem.W.Frag} {H H' : Hp} {p : Addr} {S : List Lg.Row} (x : Ex H H') (h : SAt K H p S) : SAt K H' p S := let ⟨ss, a, b⟩ := h; ⟨ss, x _ _ a, paired_imp (fun _ _ z => z.mono x) b⟩
theorem STq.mono {H H' : Hp} {p : Addr} {S : List Lg.Row} (x : Ex H H') (h : STq H p S) : STq H' p S := let ⟨ss, a, b⟩ := h; ⟨ss, x _ _ a, paired_imp (fun _ _ z => z.nl (Nl.of x)) b⟩
end Sk

/-! A dict of which the keys are rows of an automaton, each with its number. -/
namespace Sk
open PySem PySem.Spec PyProof.Rows L2 Evl Lg
def kB (b : Bool) : NestedKey := .num (if b = true then 1 else 0)
def kStep (p : Nat × Nat) : NestedKey := .tup [.text (one p.1), .num (p.2 : Int)]
def kRow (r : Lg.Row) : NestedKey := .tup [kB r.1, .tup (r.2.map kStep)]
theorem kStep_inj {p q : Nat × Nat} (h : kStep p = kStep q) : p = q := by
  unfold kStep at h
  injection h with h
  injection h with h1 h2
  injection h2 with h2 _
  injection h1 with h1
  injection h2 with h2
  obtain ⟨a, b⟩ := p
  obtain ⟨c, d⟩ := q
  have h1 : one a = one c := h1
  have h2 : (b : Int) = (d : Int) := h2
  have e1 : a = c := by
    unfold one at h1
    injection h1 with h1
    injection h1 with h1
    injection h1
  rw [e1, Int.ofNat.inj h2]
theorem kSteps_inj : ∀ {l m : List (Nat × Nat)}, l.map kStep = m.map kStep → l = m
  | [], [], _ => rfl
  | [], _ :: _, h => by simp at h
  | _ :: _, [], h => by simp at h
  | p :: l, q :: m, h => by
    rw [List.map_cons, List.map_cons] at h
    injection h with h1 h2
    rw [kStep_inj h1, kSteps_inj h2]
theorem kRow_inj {r s : Lg.Row} (h : kRow r = kRow s) : r = s := by
  unfold kRow at h
  injection h with h
  injection h with h1 h2
  injection h2 with h2 _
  injection h2 with h2
  obtain ⟨a, b⟩ := r
  obtain ⟨c, d⟩ := s
  have e2 : b = d := kSteps_inj h2
  have e1 : a = c := by
    unfold kB at h1
    injection h1 with h1
    have h1 : (if a = true then (1 : Int) else 0) = if c = true then 1 else 0 := h1
    cases a <;> cases c <;> first | rfl | (simp at h1)
  rw [e1, e2]
section
variable {X : Cx} {pins : List (Addr × Obj)} {σ : L2.St} {H : Hp} {s : Shared}
theorem stp_is {q : Addr} {p : Nat × Nat} (I : Inv X pins σ H s) (h : StpAt H q p) : NestedIs s.heap (kStep p) (.ref q) := by
  obtain ⟨_, its, rv, o, g, c, n, d⟩ := (show ObjOk X.prog X.w H s.heap q (.tup [.str (one p.1), .int (p.2 : Int)]) from I.hok _ _ h)
  obtain ⟨u1, u2, rfl, r1, r2⟩ := vals2 rv
  obtain ⟨t1, rfl⟩ := r1
  obtain ⟨t2, rfl⟩ := r2
  exact .tup g c d (.cons (.text _ _) (.cons (.int _ _) .nil))
theorem stps_are (I : Inv X pins σ H s) : ∀ {qs : List Addr} {l : List (Nat × Nat)} {us : List Value}, Paired (StpAt H) qs l → Vals (qs.map V.ref) us → NestedAll s.heap (l.map kStep) us
  | _, _, us, .nil, r => by cases r; exact .nil
  | _, _, us, .cons (a := q) h t, r => by
    cases r with
    | @cons a b as bs r1 r2 =>
      cases (show b = Value.ref q from r1)
      exact .cons (stp_is I h) (stps_are I t r2)
theorem row_is {a : Addr} {r : Lg.Row} (I : Inv X pins σ H s) (h : RowAt X.K H a r) : NestedIs s.heap (kRow r) (.ref a) ∧ (kRow r).depth ≤ 8 := by
  obtain ⟨t, qs, h1, h2, h3⟩ := h
  obtain ⟨_, its, rv, o, g, c, n, d⟩ := (show ObjOk X.prog X.w H s.heap a (.tup [.bl r.1, .ref t]) from I.hok _ _ h1)
  obtain ⟨u1, u2, rfl, r1, r2⟩ := vals2 rv
  cases (show u1 = Value.bool r.1 from r1)
  cases (show u2 = Value.ref t from r2)
  obtain ⟨it2, rv2, ⟨o2, g2, c2, n2, d2⟩, _⟩ := I.tuple h2
  refine ⟨.tup g c d (.cons (.bool rfl) (.cons (.tup g2 c2 d2 (by simpa using stps_are I h3 rv2)) .nil)), ?_⟩
  have dl : ∀ l : List (Nat × Nat), NestedKey.depthAll (l.map kStep) ≤ 1 := fun l => by
    induction l with
    | nil => exact Nat.zero_le _
    | cons p l ih =>
      simp only [List.map_cons, NestedKey.depthAll, kStep, NestedKey.depth]
      omega
  have := dl r.2
  simp only [kRow, kB, NestedKey.depth, NestedKey.depthAll]
  omega
end
/-- the entries: row i has the number i -/
def ents (tds : List Addr) (S : List Lg.Row) (ts : List Nat) : List (NestedKey × Addr × Value) := (List.range S.length).map fun (i : Nat) => (kRow ((S[i]?).getD (false, [])), (tds[i]?).getD 0, .int (i : Int) ((ts[i]?).getD 0))
def NMany (w : World) (a : Addr) (o : Obj) (tds : List Addr) (S : List Lg.Row) : Prop := ∃ ts : List Nat, o.ExactDict ∧ (∃ es ep, o.data = .dict es ep ∧ es.toList = (ents tds S ts).map fun x => (⟨x.1.hash w, .ref x.2.1, x.2.2⟩ : DictEntry)) ∧ (a == sysModules) = false
theorem ents_keys {tds : List Addr} {S : List Lg.Row} {ts : List Nat} : (ents tds S ts).map (·.1) = S.map kRow := by
  unfold ents
  rw [List.map_map]
  refine List.ext_getElem? fun i => ?_
  rw [List.getElem?_map, List.getElem?_map]
  by_cases h : i < S.length
  · rw [List.getElem?_range h, List.getElem?_eq_getElem h]
    simp [h]
  · rw [List.getElem?_eq_none (by simp; omega), List.getElem?_eq_none (by omega)]
    rfl
theorem kRows_nodup {S : List Lg.Row} (h : S.Nodup) : (S.map kRow).Nodup := by
  induction S with
  | nil => exact List.nodup_nil
  | cons r S ih =>
    rw [List.nodup_cons] at h
    rw [List.map_cons, List.nodup_cons]
    refine ⟨fun m => ?_, ih h.2⟩
    obtain ⟨s, ms, e⟩ := List.mem_map.mp m
    exact h.1 (kRow_inj e ▸ ms)
theorem ents_at {tds : List Addr} {S : List Lg.Row} {ts : List Nat} {i : Nat} {r : Lg.Row} (h : S[i]? = some r) : (ents tds S ts)[i]? = some (kRow r, (tds[i]?).getD 0, .int (i : Int) ((ts[i]?).getD 0)) := by
  unfold ents
  rw [List.getElem?_map, List.getElem?_range (List.getElem?_eq_some_iff.mp h).1]
  show some (kRow ((S[i]?).getD (false, [])), _, _) = _
  rw [h]
  rfl
theorem ents_len {tds : List Addr} {S : List Lg.Row} {ts : List Nat} : (ents tds S ts).length = S.length := by simp [ents]
section
variable {X : Cx} {pins : List (Addr × Obj)} {σ : L2.St} {H : Hp} {s : Shared}
theorem nm_dict {d : Addr} {o : Obj} {tds : List Addr} {S : List Lg.Row} (I : Inv X pins σ H s) (hd : H d = some (NkO d o)) (n : NMany X.w d o tds S) (nd : S.Nodup) (rows : Paired (RowAt X.K H) tds S) : ∃ ts, s.heap.DictOfH (nestedKind X.prog X.w) d (ents tds S ts) ∧ ((ents tds S ts).map (·.1)).Nodup := by
  obtain ⟨ts, x, ⟨es, ep, e1, e2⟩, _⟩ := n
  have kn : ((ents tds S ts).map (·.1)).Nodup := by rw [ents_keys]; exact kRows_nodup nd
  refine ⟨ts, ⟨o, es, ep, nkO_inv I hd, x, e1, e2, fun y m => ?_, kn⟩, kn⟩
  obtain ⟨i, hi⟩ := List.mem_iff_getElem?.mp m
  have li : i < S.length := by have := (List.getElem?_eq_some_iff.mp hi).1; rwa [ents_len] at this
  have hS : S[i]? = some S[i] := List.getElem?_eq_getElem li
  rw [ents_at hS] at hi
  cases hi
  obtain ⟨a, ha, hr⟩ := paired_at rows hS
  show NestedIs _ _ (.ref ((tds[i]?).getD 0)) ∧ _
  rw [ha]
  exact row_is I hr
theorem no_key {tds : List Addr} {S : List Lg.Row} {ts : List Nat} {r : Lg.Row} (h : r ∉ S) : atKey (ents tds S ts) (kRow r) = none := atKey_none_of_get fun j p e => by
  have lj : j < S.length := by have := (List.getElem?_eq_some_iff.mp e).1; rwa [ents_len] at this
  have hS : S[j]? = some S[j] := List.getElem?_eq_getElem lj
  rw [ents_at hS] at e
  have e : kRow S[j] = kRow r := by injection e with e; injection e
  exact h (kRow_inj e ▸ List.getElem_mem lj)
theorem has_key {tds : List Addr} {S : List Lg.Row} {ts : List Nat} {r : Lg.Row} {i : Nat} (kn : ((ents tds S ts).map (·.1)).Nodup) (h : S[i]? = some r) : atKey (ents tds S ts) (kRow r) = some ((tds[i]?).getD 0, .int (i : Int) ((ts[i]?).getD 0)) := atKey_of_get kn (ents_at h)
end
theorem nmany_nil {w : World} {a : Addr} {o : Obj} (h : NEmp a o) : NMany w a o [] [] := by
  obtain ⟨x, ⟨ep, e⟩, l⟩ := h
  exact ⟨[], x, ⟨_, ep, e, rfl⟩, l⟩
section
variable {X : Cx}
theorem op_notInM (hu : X.A.units + 64 < cLine) : OpR X (compareOp .NotIn) (fun x y H Q => ∃ d o b tds S r, x = .ref b ∧ y = .ref d ∧ H d = some (NkO d o) ∧ NMany X.w d o tds S ∧ S.Nodup ∧ Paired (RowAt X.K H) tds S ∧ RowAt X.K H b r ∧ Q (.bl (decide (r ∉ S))) H) := by
  intro pins s σ H x y v u Q I rx ry h
  obtain ⟨d, o, b, tds, S, r, rfl, rfl, hd, n, nd, rows, hb, q⟩ := h
  cases (show v = Value.ref b from rx)
  cases (show u = Value.ref d from ry)
  obtain ⟨ts, dd, kn⟩ := nm_dict I hd n nd rows
  have e : (!(atKey (ents tds S ts) (kRow r)).isSome) = decide (r ∉ S) := by
    by_cases m : r ∈ S
    · obtain ⟨i, hi⟩ := List.mem_iff_getElem?.mp m
      rw [has_key kn hi, decide_eq_false (fun z => z m)]
      rfl
    · rw [no_key m, decide_eq_true m]
      rfl
  obtain ⟨_, _, _, lo⟩ := n
  refine wpAny_notIn_heap (knd := nestedKind X.prog X.w) (k := kRow r) (show X.A.units + 1 + 8 < cLine by omega) (row_is I hb) lo dd ?_
  rw [e]
  exact ⟨.bl _, H, I.tok _, rfl, q⟩
theorem set_nm (hu : X.A.units + 64 < cLine) : PSet X (fun o i v H Q => ∃ d ob b tds S r, o = .ref d ∧ i = .ref b ∧ v = .int (S.length : Int) ∧ H d = some (NkO d ob) ∧ NMany X.w d ob tds S ∧ S.Nodup ∧ S.length ≤ 1000000 ∧ Paired (RowAt X.K H) tds S ∧ RowAt X.K H b r ∧ r ∉ S ∧ ∀ o2, NMany X.w d o2 (tds ++ [b]) (S ++ [r]) → Q (upd H d (NkO d o2))) := by
  intro pins s σ H o i v ov iv u Q I ro ri rv h
  obtain ⟨d, ob, b, tds, S, r, rfl, rfl, rfl, hd, n, nd, ls, rows, hb, nr, q⟩ := h
  cases (show ov = Value.ref d from ro)
  cases (show iv = Value.ref b from ri)
  obtain ⟨t, rfl⟩ := rv
  obtain ⟨ts, dd, kn⟩ := nm_dict I hd n nd rows
  obtain ⟨_, _, _, lo⟩ := n
  refine wpAny_setItem_heap (knd := nestedKind X.prog X.w) (k := kRow r) (xs := ents tds S ts) (show X.A.units + 1 + 8 < cLine by omega) (row_is I hb) dd (fun h' dd' hs => ?_) (by rw [ents_len, sizeLine_eq]; omega)
  rw [storedH_new (no_key nr)] at dd'
  have lt : tds.length = S.length := paired_len rows
  have ee : ents tds S ts ++ [(kRow r, b, .int (S.length : Int) t)] = ents (tds ++ [b]) (S ++ [r]) ((List.range S.length).map (fun i => (ts[i]?).getD 0) ++ [t]) := by
    refine List.ext_getElem? fun i => ?_
    by_cases z : i < S.length
    · have hS : S[i]? = some S[i] := List.getElem?_eq_getElem z
      rw [List.getElem?_append_left (by rw [ents_len]; exact z), ents_at hS, ents_at (r := S[i]) (by rw [List.getElem?_append_left z]; exact hS)]
      rw [List.getElem?_append_left (by omega), List.getElem?_append_left (by simp; omega), List.getElem?_map, List.getElem?_range z]
      rfl
    · by_cases z2 : i = S.length
      · subst z2
        rw [List.getElem?_append_right (by rw [ents_len]; exact Nat.le_refl _), ents_len, ents_at (r := r) (by simp)]
        simp [← lt]
      · rw [List.getElem?_eq_none (by rw [List.length_append, ents_len]; simp; omega), List.getElem?_eq_none (by rw [ents_len]; simp; omega)]
  rw [ee] at dd'
  obtain ⟨o2, es, ep, ho, hx, hdt, he, his, hn⟩ := dd'
  exact ⟨_, d_write I (by rw [hd]; exact True.intro) hs ⟨o2, ho⟩ (nkO_ok ho), q o2 ⟨_, hx, ⟨es, ep, hdt, he⟩, lo⟩⟩
theorem ix_nm (hu : X.A.units + 64 < cLine) : IxR X (fun x y H Q => ∃ (d : Addr) (ob : Obj) (b : Addr) (tds : List Addr) (S : List Lg.Row) (r : Lg.Row) (i : Nat), x = .ref d ∧ y = .ref b ∧ H d = some (NkO d ob) ∧ NMany X.w d ob tds S ∧ S.Nodup ∧ Paired (RowAt X.K H) tds S ∧ RowAt X.K H b r ∧ S[i]? = some r ∧ Q (.int (i : Int)) H) := by
  intro value slice pins s σ H x y v u Q I rx ry h hs
  obtain ⟨d, ob, b, tds, S, r, i, rfl, rfl, hd, n, nd, rows, hb, hi, q⟩ := h
  cases (show v = Value.ref d from rx)
  cases (show u = Value.ref b from ry)
  obtain ⟨ts, dd, kn⟩ := nm_dict I hd n nd rows
  exact subscriptTail_builtinR (x := .int (i : Int) ((ts[i]?).getD 0)) dd.typeIs slot_dict_getitem.lookup (wpAny_getItem_heap (knd := nestedKind X.prog X.w) (k := kRow r) (p := ((tds[i]?).getD 0, .int (i : Int) ((ts[i]?).getD 0))) (Q := fun r s' => r = .int (i : Int) ((ts[i]?).getD 0) ∧ EP X pins σ Q r s') (show X.A.units + 1 + 8 < cLine by omega) (row_is I hb) dd (has_key kn hi) ⟨rfl, .int (i : Int), H, I.tok _, ⟨_, rfl⟩, q⟩) hs
end
end Sk

/-! renumbered, of any automaton. -/
namespace Sk
open PySem PySem.Spec PyProof.Rows L2 Evl Lg
def numV (ord : List Nat) (j : Nat) : Int := if j ∈ ord then (ord.idxOf j : Int) else -1
def numL (ord : List Nat) (n : Nat) : List V := (List.range n).map fun j => V.int (numV ord j)
theorem numL_at {ord : List Nat} {n j : Nat} (h : j < n) : (numL ord n)[j]? = some (V.int (numV ord j)) := by
  unfold numL
  rw [List.getElem?_map, List.getElem?_range h]
  rfl
theorem numL_len {ord : List Nat} {n : Nat} : (numL ord n).length = n := by simp [numL]
theorem numL_set {ord : List Nat} {n j : Nat} (h : j < n) (hn : j ∉ ord) : (numL ord n).set j (V.int (ord.length : Int)) = numL (ord ++ [j]) n := by
  refine List.ext_getElem? fun i => ?_
  rw [List.getElem?_set, numL_len]
  by_cases hi : i < n
  · rw [numL_at hi]
    by_cases z : j = i
    · subst z
      rw [if_pos rfl, if_pos hi, numL_at hi]
      have : numV (ord ++ [j]) j = (ord.length : Int) := by
        unfold numV
        rw [if_pos (by simp), List.idxOf_append, if_neg hn]
        simp
      rw [this]
    · rw [if_neg z, numL_at hi]
      have : numV (ord ++ [j]) i = numV ord i := by
        unfold numV
        by_cases m : i ∈ ord
        · rw [if_pos m, if_pos (List.mem_append_left _ m), List.idxOf_append, if_pos m]
        · rw [if_neg m, if_neg (fun q => (List.mem_append.mp q).elim m fun q => z (List.mem_singleton.mp q).symm)]
      rw [this]
  · have h1 : (numL ord n)[i]? = none := List.getElem?_eq_none (by rw [numL_len]; omega)
    have h2 : (numL (ord ++ [j]) n)[i]? = none := List.getElem?_eq_none (by rw [numL_len]; omega)
    rw [h1, h2, if_neg (by omega)]
theorem numL_start {n root : Nat} (h : root < n) : ((List.replicate n (V.int (-1))).set root (V.int 0)) = numL [root] n := by
  refine List.ext_getElem? fun i => ?_
  rw [List.getElem?_set, List.length_replicate]
  by_cases hi : i < n
  · rw [numL_at hi]
    by_cases z : root = i
    · subst z; rw [if_pos rfl, if_pos hi]; simp [numV]
    · rw [if_neg z, List.getElem?_replicate, if_pos hi]
      unfold numV
      rw [if_neg (fun q => z (List.mem_singleton.mp q).symm)]
  · have h2 : (numL [root] n)[i]? = none := List.getElem?_eq_none (by rw [numL_len]; omega)
    rw [h2, if_neg (by omega), List.getElem?_replicate, if_neg hi]
theorem nodup_le {n : Nat} {l : List Nat} (nd : l.Nodup) (h : ∀ x ∈ l, x < n) : l.length ≤ n := by
  have := sm_le (f := fun _ => 1) n l nd h
  have e : ∀ m : List Nat, sm (fun _ => 1) m = m.length := fun m => by
    induction m with
    | nil => rfl
    | cons a m ih => rw [sm_cons, ih, List.length_cons]; omega
  rw [e, e, List.length_range] at this
  exact this
def spRenG (K : PySem.W.Frag) : Sp := fun vs H Q _ => ∃ (p : Addr) (F : List Lg.Row) (root : Nat), vs = [.ref p, .int (root : Int)] ∧ SAt K H p F ∧ root < F.length ∧ Down F ∧ F.length ≤ 100000 ∧ (∀ r ∈ F, r.2.length ≤ 100000) ∧
  ∀ p' H' ord G, Ex H H' → Rn F root ord G [] [] → G.length = ord.length → STq H' p' G → Q (.ref p') H'
theorem Lv.tail {H0 H : Hp} {x : Addr × HO} {l : List (Addr × HO)} (L : Lv H0 H (x :: l)) : Lv H0 H l := ⟨(List.nodup_cons.mp (by simpa using L.nd)).2, fun p m => L.at_ p (List.mem_cons_of_mem _ m), fun p m => L.off p (List.mem_cons_of_mem _ m), L.ex⟩
theorem paired_atL {α β : Type} {R : α → β → Prop} : ∀ {as : List α} {bs : List β}, Paired R as bs → ∀ {i : Nat} {a : α}, as[i]? = some a → ∃ b, bs[i]? = some b ∧ R a b
  | _, _, .nil, _, _, e => by simp at e
  | _, _, .cons h t, 0, _, e => by cases e; exact ⟨_, rfl, h⟩
  | _, _, .cons h t, i + 1, _, e => by
    obtain ⟨a, h1, h2⟩ := paired_atL t (i := i) (by simpa using e)
    exact ⟨a, by simpa using h1, h2⟩
def oL (ord : List Nat) : List V := ord.map fun (j : Nat) => V.int (j : Int)
def RnW (H : Hp) (F : List Lg.Row) (root : Nat) (p a0 a1 a2 a3 : Addr) (m : Nat) (σ : L2.St) (H' : Hp) : Prop := ∃ (ord : List Nat) (G : List Lg.Row) (ss : List Addr) (y5 y6 y7 y8 y9 : Option V), m = F.length - G.length ∧ σ = [some (.ref p), some (.int (root : Int)), some (.ref a1), some (.ref a2), some (.ref a3), y5, y6, y7, y8, y9] ∧
      Lv H H' [(a3, .lst (ss.map V.ref)), (a2, .lst (oL ord)), (a1, .lst (numL ord F.length)), (a0, .lst [V.int (-1)])] ∧ Paired (RowTq H') ss G ∧ Rn F root ord G [] [] ∧ G.length ≤ ord.length
section
variable {P : Program} {w : World} {K : PySem.W.Frag} {mg : Str → Option Value} {base : Heap} {f : Addr} {fd : FuncData}
theorem ok_renG {k : Nat} (F0 : Fun K "renumbered" "renumbered" sRenum f fd) (B : Blt mg) (B2 : Blt2 mg) (nw : ∃ t, mg "NOWHERE" = some (.int (-1) t)) : FnOk P w K mg base CX0 (k + 1) f fd ["states", "first"] (spRenG K) := by
  refine F0.ok scRen (fun vs H Q E h => ?_) (fun cdv A outer s H vs Q E hr h => ?_)
  · obtain ⟨_, _, _, rfl, _⟩ := h
    rfl
  have nd := scRen.nd
  obtain ⟨tn, hn⟩ := nw
  obtain ⟨p, F, root, rfl, ⟨ss0, hp, hss⟩, hroot, dF, lF, lr, q⟩ := h
  have l0 : ss0.length = F.length := paired_len hss
  refine ⟨_, pss_cons (ps_set (i := 2) nd rfl (Or.inl rfl) (pe_op op_rep (pe_lst (pa_cons (pe_glob (v := .int (-1)) rfl hn ⟨_, rfl⟩) pa_nil)) (pe_callB call_len_seq rfl B.len PySem.boot_len (pa_cons (pv 0) pa_nil))))
    (pss_cons (ps_asg pe_int (pg_sub (pv 2) (pv 1) set_list))
    (pss_cons (ps_set (i := 3) nd rfl (Or.inl rfl) (pe_lst (pa_cons (pv 1) pa_nil)))
    (pss_cons (ps_set (i := 4) nd rfl (Or.inl rfl) (pe_lst pa_nil))
    (pss_cons (ps_while PassesOwn.never (pt_cmpR op_lt (pe_callB call_len_seq rfl B.len PySem.boot_len (pa_cons (pv 4) pa_nil)) (pe_callB call_len_seq rfl B.len PySem.boot_len (pa_cons (pv 3) pa_nil)) (nomark _))
      (pss_cons (ps_asg (pe_ix ix_list (pv 0) (pe_ix ix_list (pv 3) (pe_callB call_len_seq rfl B.len PySem.boot_len (pa_cons (pv 4) pa_nil)) (fun _ _ => rfl)) (fun _ _ => rfl)) (pg_tup rfl (pgs_cons (pg_name (i := 5) nd rfl (Or.inl rfl)) (pgs_cons (pg_name (i := 6) nd rfl (Or.inl rfl)) pgs_nil))))
      (pss_cons (ps_set (i := 7) nd rfl (Or.inl rfl) (pe_lst pa_nil))
      (pss_cons (ps_for PassesOwn.never rfl (pi_tup (pv 6)) (pg_tup rfl (pgs_cons (pg_name (i := 8) nd rfl (Or.inl rfl)) (pgs_cons (pg_name (i := 9) nd rfl (Or.inl rfl)) pgs_nil)))
        (pss_cons (ps_if (pt_cmpR op_eq (pe_ix ix_list (pv 2) (pv 9) (fun _ _ => rfl)) (pe_glob (v := .int (-1)) rfl hn ⟨_, rfl⟩) (nomark _))
          (pss_cons (ps_asg (pe_callB call_len_seq rfl B.len PySem.boot_len (pa_cons (pv 3) pa_nil)) (pg_sub (pv 2) (pv 9) set_list))
          (pss_one (ps_expr (pe_bm PySem.F.plainAttrs_list PySem.F.slot_list_append PySem.F.type_list_append mt_append (pv 3) (pa_cons (pv 9) pa_nil))))) pss_nil)
        (pss_one (ps_expr (pe_bm PySem.F.plainAttrs_list PySem.F.slot_list_append PySem.F.type_list_append mt_append (pv 7) (pa_cons (pe_tup (pa_cons (pv 8) (pa_cons (pe_ix ix_list (pv 2) (pv 9) (fun _ _ => rfl)) pa_nil))) pa_nil))))))
      (pss_one (ps_expr (pe_bm PySem.F.plainAttrs_list PySem.F.slot_list_append PySem.F.type_list_append mt_append (pv 4) (pa_cons (pe_tup (pa_cons (pv 5) (pa_cons (pe_callTy call_tupleF rfl B2.tuple bt_tuple (pa_cons (pv 7) pa_nil)) pa_nil))) pa_nil))))))))
    (pss_one (ps_ret (pv 4))))))), ?_⟩
  refine ⟨nle' (by show 1 ≤ 1000; decide), fun a0 n0 => ?_⟩
  have L0 := (Lv.nil (Ex.refl H)).new (o := HO.lst [V.int (-1)]) n0
  generalize upd H a0 (HO.lst [V.int (-1)]) = G0 at L0 ⊢
  refine ⟨_, rfl, p, _, rfl, .inl (SqL.of (L0.ex _ _ hp)), a0, _, _, rfl, rfl, L0.get 0 rfl, by omega, by rw [List.length_map]; omega, by rw [List.length_map, l0]; simp; rw [sizeLine_eq]; omega, fun a1 n1 => ?_⟩
  have e1 : (List.replicate (Int.toNat ((((ss0.map V.ref) : List V).length : Nat) : Int)) [V.int (-1)]).flatten = List.replicate F.length (V.int (-1)) := by
    rw [List.length_map, l0, Int.toNat_natCast]
    generalize F.length = n
    induction n with
    | zero => rfl
    | succ n ih => rw [List.replicate_succ, List.flatten_cons, ih, List.replicate_succ]; rfl
  rw [e1]
  have L1 := L0.new (o := HO.lst (List.replicate F.length (V.int (-1)))) n1
  generalize upd G0 a1 (HO.lst (List.replicate F.length (V.int (-1)))) = G1 at L1 ⊢
  refine ⟨_, rfl, _, rfl, a1, _, root, root, rfl, rfl, L1.get 0 rfl, ?_, ?_⟩
  · unfold ixN; rw [if_pos (by omega), if_pos (by rw [List.length_replicate]; omega)]; simp
  rw [numL_start hroot]
  have L2 := L1.mut 0 (a := a1) (HO.lst (numL [root] F.length)) rfl
  generalize upd G1 a1 (HO.lst (numL [root] F.length)) = G2 at L2 ⊢
  refine ⟨_, rfl, nle' (by show 1 ≤ 1000; decide), fun a2 n2 => ?_⟩
  have L3 := L2.new (o := HO.lst [V.int (root : Int)]) n2
  generalize upd G2 a2 (HO.lst [V.int (root : Int)]) = G3 at L3 ⊢
  refine ⟨nle' (by show 0 ≤ 1000; decide), fun a3 n3 => ?_⟩
  have L4 := L3.new (o := HO.lst []) n3
  generalize upd G3 a3 (HO.lst []) = G4 at L4 ⊢
  refine ⟨RnW H F root p a0 a1 a2 a3, ⟨_, [root], [], [], none, none, none, none, none, rfl, rfl, L4, .nil, rn_start hroot, Nat.zero_le _⟩, ?_⟩
  rintro m σ H' ⟨ord, G, ss, y5, y6, y7, y8, y9, rfl, rfl, L, hG, rn, lg⟩
  have lss : ss.length = G.length := paired_len hG
  have lo : ord.length ≤ F.length := nodup_le rn.nd rn.lt
  have loL : ∀ o : List Nat, (oL o).length = o.length := fun o => List.length_map _
  refine ⟨_, rfl, a3, _, rfl, .inl (SqL.of (L.get 0 rfl)), _, rfl, a2, _, rfl, .inl (SqL.of (L.get 1 rfl)), _, _, rfl, rfl, _, rfl, ?_⟩
  rw [List.length_map, loL, lss]
  by_cases hlt : G.length < ord.length
  case neg =>
    rw [decide_eq_false (by omega)]
    refine iteF ⟨_, rfl, q a3 H' ord G L.ex rn (by omega) ⟨ss, L.get 0 rfl, hG⟩⟩
  rw [decide_eq_true (by omega)]
  refine iteT ⟨RnW H F root p a0 a1 a2 a3 (F.length - (G.length + 1)), fun σ' H'' z => ⟨_, by omega, z⟩, ?_⟩
  have ho : ord[G.length]? = some ord[G.length] := List.getElem?_eq_getElem hlt
  generalize ord[G.length] = old at ho
  have oF : old < F.length := rn.lt old (List.mem_of_getElem? ho)
  have hR : F[old]? = some F[old] := List.getElem?_eq_getElem oF
  generalize F[old] = R at hR
  obtain ⟨s0, hs0, t, qs, r1, r2, r3⟩ := paired_at hss hR
  have lqs : qs.length = R.2.length := paired_len r3
  have lR : R.2.length ≤ 100000 := lr R (List.mem_of_getElem? hR)
  refine ⟨_, rfl, _, rfl, _, rfl, a3, _, rfl, .inl (SqL.of (L.get 0 rfl)), a2, _, _, .int (old : Int), rfl, rfl, SqL.of (L.get 1 rfl), ?_, p, _, _, .ref s0, rfl, rfl, SqL.of (L.ex _ _ hp), ?_, s0, _, rfl, SqT.of (L.ex _ _ r1), rfl, _, _, rfl, _, _, rfl, rfl, ?_⟩
  · rw [List.length_map, lss]; exact atI_nat (by rw [oL, List.getElem?_map, ho]; rfl)
  · exact atI_nat (by rw [List.getElem?_map, hs0]; rfl)
  refine ⟨nle' (by show 0 ≤ 1000; decide), fun a4 n4 => ?_⟩
  have hG5 := paired_imp (fun _ _ z => RowTq.nl (Nl.of (Ex.new (o := HO.lst []) n4)) z) hG
  have L5 := L.new (o := HO.lst []) n4
  generalize upd H' a4 (HO.lst []) = G5 at L5 hG5 ⊢
  refine ⟨_, rfl, t, rfl, ⟨_, sq_mono' L5.ex r2⟩, for_tup (xs := qs.map V.ref) (fun i σ H6 => ∃ (ord' : List Nat) (row : List (Nat × Nat)) (rs : List Addr) (y8 y9 : Option V), σ = [some (.ref p), some (.int (root : Int)), some (.ref a1), some (.ref a2), some (.ref a3), some (.bl R.1), some (.ref t), some (.ref a4), y8, y9] ∧
      Lv H H6 [(a4, .lst (rs.map V.ref)), (a3, .lst (ss.map V.ref)), (a2, .lst (oL ord')), (a1, .lst (numL ord' F.length)), (a0, .lst [V.int (-1)])] ∧ Paired (StpAt H6) rs row ∧ Paired (RowTq H6) ss G ∧ Rn F root ord' G (R.2.take i) row ∧ ord'[G.length]? = some old ∧ row.length ≤ i)
    ⟨ord, [], [], _, _, rfl, L5, .nil, hG5, rn, ho, Nat.le_refl _⟩ (fun i σ H6 _ z => ?_) (fun i x σ H6 hx z => ?_) (fun σ H6 z => ?_)⟩
  · obtain ⟨ord', row, rs, y8, y9, rfl, L6, _⟩ := z
    exact sq_mono' L6.ex r2
  · obtain ⟨ord', row, rs, y8, y9, rfl, L6, hrs, hG6, rn6, ho6, lrow⟩ := z
    have li := (List.getElem?_eq_some_iff.mp hx).1
    rw [List.length_map, lqs] at li
    rw [List.getElem?_map] at hx
    obtain ⟨q0, hq0, rfl⟩ := Option.map_eq_some_iff.mp hx
    obtain ⟨⟨c, j⟩, hcj, hq⟩ := paired_atL r3 hq0
    have hq : H q0 = some (.tup [.str (one c), .int (j : Int)]) := hq
    have jF : j < F.length := Nat.lt_trans (dF old R hR (c, j) (List.mem_of_getElem? hcj)) oF
    have lrs : rs.length = row.length := paired_len hrs
    have gl6 : G.length < ord'.length := (List.getElem?_eq_some_iff.mp ho6).1
    have lo6 : ord'.length ≤ F.length := nodup_le rn6.nd rn6.lt
    have rnS := rn6.step (c := c) jF gl6
    have tk : R.2.take (i + 1) = R.2.take i ++ [(c, j)] := by rw [List.take_add_one, hcj]; rfl
    refine ⟨q0, _, rfl, SqT.of (L6.ex _ _ hq), rfl, _, _, rfl, _, _, rfl, rfl, ?_⟩
    refine ⟨_, rfl, _, rfl, a1, _, _, V.int (numV ord' j), rfl, rfl, SqL.of (L6.get 3 rfl), atI_nat (numL_at jF), rfl, _, rfl, ?_⟩
    by_cases hm : j ∈ ord'
    · have nv : numV ord' j = (ord'.idxOf j : Int) := by unfold numV; rw [if_pos hm]
      have st : stp ord' j = ord' := by unfold stp; rw [if_pos hm]
      rw [st] at rnS
      rw [nv, decide_eq_false (by intro z; injection z with z; omega)]
      refine iteF ⟨_, rfl, Or.inl ⟨rfl, _, SqL.of (L6.get 0 rfl)⟩, _, rfl, _, rfl, _, rfl, a1, _, _, V.int (numV ord' j), rfl, rfl, SqL.of (L6.get 3 rfl), atI_nat (numL_at jF), nle' (by show 2 ≤ 1000; decide), fun t7 n7 => ?_⟩
      rw [nv]
      have nl := Nl.of (Ex.new (o := HO.tup [.str (one c), .int (ord'.idxOf j : Int)]) n7)
      have L7 := L6.new (o := HO.tup [.str (one c), .int (ord'.idxOf j : Int)]) n7
      generalize upd H6 t7 (HO.tup [.str (one c), .int (ord'.idxOf j : Int)]) = G7 at L7 nl ⊢
      have f7 := L7.get 0 rfl
      have f4 := L7.get 1 rfl
      refine ⟨a4, _, .ref t7, rfl, rfl, L7.get 1 rfl, by rw [List.length_map, sizeLine_eq]; omega, ?_⟩
      have nl2 := nl.trans (Nl.mut (ys := rs.map V.ref ++ [.ref t7]) f4)
      have L8 := L7.mut 1 (a := a4) (HO.lst (rs.map V.ref ++ [.ref t7])) rfl
      have L8 : Lv H (upd G7 a4 (HO.lst (rs.map V.ref ++ [.ref t7]))) [(t7, .tup [.str (one c), .int (ord'.idxOf j : Int)]), (a4, .lst ((rs ++ [t7]).map V.ref)), (a3, .lst (ss.map V.ref)), (a2, .lst (oL ord')), (a1, .lst (numL ord' F.length)), (a0, .lst [V.int (-1)])] := by rw [List.map_append]; exact L8
      refine ⟨ord', row ++ [(c, ord'.idxOf j)], rs ++ [t7], _, _, rfl, L8.tail, pair_snoc (show StpAt _ t7 (c, ord'.idxOf j) from L8.get 0 rfl) (paired_imp (fun _ _ z => StpAt.nl nl2 z) hrs), paired_imp (fun _ _ z => RowTq.nl nl2 z) hG6, ?_, ho6, by simp; omega⟩
      rw [tk]; exact rnS
    · have st : stp ord' j = ord' ++ [j] := by unfold stp; rw [if_neg hm]
      rw [st] at rnS
      have nv : numV ord' j = -1 := by unfold numV; rw [if_neg hm]
      have nv2 : numV (ord' ++ [j]) j = (ord'.length : Int) := by
        unfold numV
        rw [if_pos (by simp), List.idxOf_append, if_neg hm]
        simp
      have ix : (ord' ++ [j]).idxOf j = ord'.length := by rw [List.idxOf_append, if_neg hm]; simp
      rw [nv, decide_eq_true rfl]
      refine iteT ⟨_, rfl, a2, _, rfl, .inl (SqL.of (L6.get 2 rfl)), _, rfl, _, rfl, a1, _, _, j, rfl, rfl, L6.get 3 rfl, ?_, ?_⟩
      · unfold ixN; rw [if_pos (by omega), if_pos (by rw [numL_len]; omega)]; simp
      rw [loL, numL_set jF hm]
      have nlA := Nl.mut (ys := numL (ord' ++ [j]) F.length) (L6.get 3 rfl)
      have L7 := L6.mut 3 (a := a1) (HO.lst (numL (ord' ++ [j]) F.length)) rfl
      generalize upd H6 a1 (HO.lst (numL (ord' ++ [j]) F.length)) = G7 at L7 nlA ⊢
      refine ⟨_, rfl, Or.inl ⟨rfl, _, SqL.of (L7.get 2 rfl)⟩, _, rfl, a2, _, .int (j : Int), rfl, rfl, L7.get 2 rfl, by rw [loL, sizeLine_eq]; omega, ?_⟩
      have eo : oL ord' ++ [V.int (j : Int)] = oL (ord' ++ [j]) := by simp [oL]
      rw [eo]
      have nlB := nlA.trans (Nl.mut (ys := oL (ord' ++ [j])) (L7.get 2 rfl))
      have L8 := L7.mut 2 (a := a2) (HO.lst (oL (ord' ++ [j]))) rfl
      generalize upd G7 a2 (HO.lst (oL (ord' ++ [j]))) = G8 at L8 nlB ⊢
      refine ⟨_, rfl, Or.inl ⟨rfl, _, SqL.of (L8.get 0 rfl)⟩, _, rfl, _, rfl, _, rfl, a1, _, _, V.int (numV (ord' ++ [j]) j), rfl, rfl, SqL.of (L8.get 3 rfl), atI_nat (numL_at jF), nle' (by show 2 ≤ 1000; decide), fun t7 n7 => ?_⟩
      rw [nv2]
      have nlC := nlB.trans (Nl.of (Ex.new (o := HO.tup [.str (one c), .int (ord'.length : Int)]) n7))
      have L9 := L8.new (o := HO.tup [.str (one c), .int (ord'.length : Int)]) n7
      generalize upd G8 t7 (HO.tup [.str (one c), .int (ord'.length : Int)]) = G9 at L9 nlC ⊢
      refine ⟨a4, _, .ref t7, rfl, rfl, L9.get 1 rfl, by rw [List.length_map, sizeLine_eq]; omega, ?_⟩
      have nlD := nlC.trans (Nl.mut (ys := rs.map V.ref ++ [.ref t7]) (L9.get 1 rfl))
      have LA := L9.mut 1 (a := a4) (HO.lst (rs.map V.ref ++ [.ref t7])) rfl
      have LA : Lv H (upd G9 a4 (HO.lst (rs.map V.ref ++ [.ref t7]))) [(t7, .tup [.str (one c), .int (ord'.length : Int)]), (a4, .lst ((rs ++ [t7]).map V.ref)), (a3, .lst (ss.map V.ref)), (a2, .lst (oL (ord' ++ [j]))), (a1, .lst (numL (ord' ++ [j]) F.length)), (a0, .lst [V.int (-1)])] := by rw [List.map_append]; exact LA
      refine ⟨ord' ++ [j], row ++ [(c, ord'.length)], rs ++ [t7], _, _, rfl, LA.tail, pair_snoc (show StpAt _ t7 (c, ord'.length) from LA.get 0 rfl) (paired_imp (fun _ _ z => StpAt.nl nlD z) hrs), paired_imp (fun _ _ z => RowTq.nl nlD z) hG6, ?_, ?_, by simp; omega⟩
      · rw [tk, ← ix]; exact rnS
      · rw [List.getElem?_append_left gl6]; exact ho6
  · obtain ⟨ord', row, rs, y8, y9, rfl, L6, hrs, hG6, rn6, ho6, lrow⟩ := z
    rw [List.length_map, lqs, List.take_length] at rn6
    have lrs : rs.length = row.length := paired_len hrs
    rw [List.length_map, lqs] at lrow
    have lo6 : ord'.length ≤ F.length := nodup_le rn6.nd rn6.lt
    have gl6 : G.length < ord'.length := (List.getElem?_eq_some_iff.mp ho6).1
    refine ⟨_, rfl, Or.inl ⟨rfl, _, SqL.of (L6.get 1 rfl)⟩, _, rfl, _, rfl, a4, _, rfl, SqL.of (L6.get 0 rfl), fun t8 o8 n8 d8 => ?_⟩
    have nlA := Nl.of (Ex.new (o := HO.frz o8 (.tup (rs.map V.ref))) n8)
    have L7 := L6.new (o := HO.frz o8 (.tup (rs.map V.ref))) n8
    generalize upd H6 t8 (HO.frz o8 (.tup (rs.map V.ref))) = G7 at L7 nlA ⊢
    refine ⟨nle' (by show 2 ≤ 1000; decide), fun t9 n9 => ?_⟩
    have nlB := nlA.trans (Nl.of (Ex.new (o := HO.tup [.bl R.1, .ref t8]) n9))
    have L8 := L7.new (o := HO.tup [.bl R.1, .ref t8]) n9
    generalize upd G7 t9 (HO.tup [.bl R.1, .ref t8]) = G8 at L8 nlB ⊢
    refine ⟨a3, _, .ref t9, rfl, rfl, L8.get 3 rfl, by rw [List.length_map, sizeLine_eq]; omega, ?_⟩
    have nlC := nlB.trans (Nl.mut (ys := ss.map V.ref ++ [.ref t9]) (L8.get 3 rfl))
    have L9 := L8.mut 3 (a := a3) (HO.lst (ss.map V.ref ++ [.ref t9])) rfl
    have L9 : Lv H (upd G8 a3 (HO.lst (ss.map V.ref ++ [.ref t9]))) [(t9, .tup [.bl R.1, .ref t8]), (t8, .frz o8 (.tup (rs.map V.ref))), (a4, .lst (rs.map V.ref)), (a3, .lst ((ss ++ [t9]).map V.ref)), (a2, .lst (oL ord')), (a1, .lst (numL ord' F.length)), (a0, .lst [V.int (-1)])] := by rw [List.map_append]; exact L9
    exact ⟨ord', G ++ [(R.1, row)], ss ++ [t9], _, _, _, _, _, by simp, rfl, L9.tail.tail.tail, pair_snoc ⟨t8, rs, L9.get 0 rfl, ⟨o8, d8, L9.get 1 rfl⟩, paired_imp (fun _ _ z => StpAt.nl nlC z) hrs⟩ (paired_imp (fun _ _ z => RowTq.nl nlC z) hG6), rn6.next ho6 hR, by simp; omega⟩
end
end Sk

/-! common_start, of any texts. -/
namespace Sk
open PySem PySem.Spec PyProof.Rows L2 Evl Lg
def lcp : List Nat → List Nat → Nat
  | a :: x, b :: y => if a = b then lcp x y + 1 else 0
  | _, _ => 0
theorem lcp_take : ∀ a b : List Nat, a.take (lcp a b) = b.take (lcp a b)
  | [], [] => rfl
  | [], _ :: _ => rfl
  | _ :: _, [] => rfl
  | a :: x, b :: y => by
    unfold lcp
    by_cases z : a = b
    · rw [if_pos z, List.take_succ_cons, List.take_succ_cons, lcp_take x y, z]
    · rw [if_neg z]; rfl
theorem lcp_le : ∀ a b : List Nat, lcp a b ≤ a.length ∧ lcp a b ≤ b.length
  | [], [] => ⟨Nat.le_refl _, Nat.le_refl _⟩
  | [], _ :: _ => ⟨Nat.le_refl _, Nat.zero_le _⟩
  | _ :: _, [] => ⟨Nat.zero_le _, Nat.le_refl _⟩
  | a :: x, b :: y => by
    unfold lcp
    have := lcp_le x y
    by_cases z : a = b
    · rw [if_pos z]; simp; omega
    · rw [if_neg z]; simp
theorem lcp_stop : ∀ (a b : List Nat) (x y : Nat), a[lcp a b]? = some x → b[lcp a b]? = some y → x ≠ y
  | [], _, _, _, h, _ => by simp at h
  | _ :: _, [], _, _, _, h => by simp at h
  | a :: x, b :: y, u, v, h1, h2 => by
    unfold lcp at h1 h2
    by_cases z : a = b
    · rw [if_pos z] at h1 h2
      exact lcp_stop x y u v (by simpa using h1) (by simpa using h2)
    · rw [if_neg z] at h1 h2
      cases h1
      cases h2
      exact z
theorem lcp_at {a b : List Nat} {k : Nat} (h : k < lcp a b) : a[k]? = b[k]? := by
  have := congrArg (fun l => l[k]?) (lcp_take a b)
  simpa [List.getElem?_take, h] using this
def spComG : Sp := fun vs H Q _ => ∃ a b : List Nat, vs = [.str (tx a), .str (tx b)] ∧ a.length ≤ 100000 ∧ b.length ≤ 100000 ∧ Q (.str (tx (a.take (lcp a b)))) H
section
variable {P : Program} {w : World} {K : PySem.W.Frag} {mg : Str → Option Value} {base : Heap} {f fA : Addr} {fd dA : FuncData}
theorem ok_comG {k0 : Nat} (F : Fun K "common_start" "common_start" sCommon f fd) (B : Blt mg) (B2 : Blt2 mg) : FnOk P w K mg base CX0 (k0 + 1) f fd ["first", "second"] spComG := by
  refine F.ok scCom (fun vs H Q E h => ?_) (fun cdv A outer s H vs Q E hr h => ?_)
  · obtain ⟨_, _, rfl, _⟩ := h
    rfl
  have nd := scCom.nd
  obtain ⟨a, b, rfl, la, lb, q⟩ := h
  refine ⟨_, pss_cons (ps_set (i := 2) nd rfl (Or.inl rfl) pe_int)
    (pss_cons (ps_while PassesOwn.never (PW.pt (pw_and (pt_cmpR op_lt (pv 2) (pe_callB (call_min2 rfl) rfl B.min bt_min (pa_cons (pe_callB call_len_str rfl B.len PySem.boot_len (pa_cons (pv 0) pa_nil)) (pa_cons (pe_callB call_len_str rfl B.len PySem.boot_len (pa_cons (pv 1) pa_nil)) pa_nil))) (nomark _)) (pw_and1 (pt_cmpR op_eq (pe_ix ix_str (pv 0) (pv 2) (fun _ _ => rfl)) (pe_ix ix_str (pv 1) (pv 2) (fun _ _ => rfl)) (nomark _)))))
      (pss_one (ps_aug (i := 2) nd rfl (Or.inl rfl) pe_int ip_add)))
    (pss_one (ps_ret (pe_slice sl_str (pv 0) po_none (po_some (pv 2)))))), ?_⟩
  have lta : (tx a).length ≤ sizeLine := line_le (by rw [tx_len]; omega)
  have ltb : (tx b).length ≤ sizeLine := line_le (by rw [tx_len]; omega)
  have tla : (tx a).cps.toList = a := by simp [tx]
  have tlb : (tx b).cps.toList = b := by simp [tx]
  obtain ⟨l1, l2⟩ := lcp_le a b
  refine ⟨fun m σ H' => ∃ k : Nat, m = lcp a b - k ∧ k ≤ lcp a b ∧ σ = [some (.str (tx a)), some (.str (tx b)), some (.int (k : Int))] ∧ H' = H, ⟨_, 0, rfl, Nat.zero_le _, rfl, rfl⟩, ?_⟩
  rintro m σ H' ⟨k, rfl, kl, rfl, rfl⟩
  have fin : lcp a b = k → tRet (tSl rSlS (tVar 0) tNoPart (tPart (tVar 2))) { nx := fun _ H' => Q .non H', rt := Q } [some (.str (tx a)), some (.str (tx b)), some (.int (k : Int))] H' := fun e => by
    refine ⟨_, rfl, _, rfl, _, rfl, tx a, rfl, lta, ?_⟩
    have : cutS (tx a) none (some (k : Int)) = tx (a.take (lcp a b)) := by
      rw [e]
      have h : (tx a).cps.toList = a := by simp [tx]
      unfold cutS
      rw [h, HT.sIx_none, HT.sIx_nat, tx_len, List.drop_zero, Nat.sub_zero]
      show (⟨(a.take (min k a.length)).toArray⟩ : Str) = ⟨(a.take k).toArray⟩
      rw [Nat.min_eq_left (by omega)]
    rw [this]
    exact q
  refine ⟨_, rfl, _, rfl, tx a, rfl, lta, _, rfl, tx b, rfl, ltb, _, _, rfl, _, _, rfl, rfl, _, rfl, ?_⟩
  rw [tx_len, tx_len]
  by_cases hk : k < a.length ∧ k < b.length
  case neg =>
    rw [decide_eq_false (by
      by_cases z : (b.length : Int) < (a.length : Int)
      · rw [if_pos z]; omega
      · rw [if_neg z]; omega)]
    exact iteF (iteF (fin (by omega)))
  rw [decide_eq_true (by
      by_cases z : (b.length : Int) < (a.length : Int)
      · rw [if_pos z]; omega
      · rw [if_neg z]; omega)]
  have ea : a[k]? = some a[k] := List.getElem?_eq_getElem hk.1
  have eb : b[k]? = some b[k] := List.getElem?_eq_getElem hk.2
  refine iteT ⟨_, rfl, _, rfl, tx a, _, _, rfl, rfl, lta, by rw [tla]; exact atI_nat ea, _, rfl, _, rfl, tx b, _, _, rfl, rfl, ltb, by rw [tlb]; exact atI_nat eb, rfl, _, rfl, ?_⟩
  by_cases z : a[k] = b[k]
  · have lt : k < lcp a b := by
      refine Nat.lt_of_le_of_ne kl fun e => ?_
      have e1 : a[lcp a b]? = some a[k] := (congrArg (a[·]?) e.symm).trans ea
      have e2 : b[lcp a b]? = some b[k] := (congrArg (b[·]?) e.symm).trans eb
      exact lcp_stop a b _ _ e1 e2 z
    rw [decide_eq_true (by rw [z])]
    refine iteT ⟨fun σ' H'' => ∃ k' : Nat, lcp a b - (k + 1) = lcp a b - k' ∧ k' ≤ lcp a b ∧ σ' = [some (.str (tx a)), some (.str (tx b)), some (.int (k' : Int))] ∧ H'' = H', fun _ _ y => ⟨_, by omega, y⟩, ?_⟩
    exact ⟨_, rfl, _, _, rfl, rfl, k + 1, rfl, lt, rfl, rfl⟩
  · rw [decide_eq_false (by intro y; injection y with y; injection y with y; injection y with y; injection y with y; exact z y)]
    refine iteF (fin ?_)
    refine Nat.le_antisymm (Nat.le_of_not_lt fun y => z ?_) kl
    have := lcp_at y
    rw [ea, eb] at this
    injection this
end
end Sk

/-! The states of any list of texts. -/
namespace Sk
open PySem PySem.Spec PyProof.Rows L2 Evl Lg
/-- tuples stay -/
def Tl (H H' : Hp) : Prop := ∀ (b : Addr) (xs : List V), H b = some (.tup xs) → H' b = some (.tup xs)
theorem Tl.of {H H' : Hp} (x : Ex H H') : Tl H H' := fun b _ e => x _ _ e
theorem Tl.trans {H H1 H2 : Hp} (x : Tl H H1) (y : Tl H1 H2) : Tl H H2 := fun b xs e => y _ _ (x _ _ e)
theorem Tl.mut {H : Hp} {a : Addr} {o o' : HO} (h : H a = some o) (n : ∀ xs, o ≠ .tup xs) : Tl H (upd H a o') := fun b xs e => by
  have : b ≠ a := fun z => by rw [z, h] at e; cases e; exact n xs rfl
  rw [upd_ne this]; exact e
def RowTp (H : Hp) (s : Addr) (r : Lg.Row) : Prop := ∃ t qs, H s = some (.tup [.bl r.1, .ref t]) ∧ H t = some (.tup (qs.map V.ref)) ∧ Paired (StpAt H) qs r.2
theorem StpAt.tl {H H' : Hp} {q : Addr} {p : Nat × Nat} (x : Tl H H') (h : StpAt H q p) : StpAt H' q p := x _ _ h
theorem RowTp.tl {H H' : Hp} {s : Addr} {r : Lg.Row} (x : Tl H H') (h : RowTp H s r) : RowTp H' s r := let ⟨t, qs, a, b, c⟩ := h; ⟨t, qs, x _ _ a, x _ _ b, paired_imp (fun _ _ z => StpAt.tl x z) c⟩
theorem RowTp.at_ {K : PySem.W.Frag} {H : Hp} {s : Addr} {r : Lg.Row} (h : RowTp H s r) : RowAt K H s r := let ⟨t, qs, a, b, c⟩ := h; ⟨t, qs, a, SqT.of b, c⟩
/-- an opened state: its tuple, its list of steps -/
abbrev Op := Addr × Addr × List Addr
def OpT (H : Hp) (e : Op) (r : Lg.Row) : Prop := H e.1 = some (.tup [.bl r.1, .ref e.2.1]) ∧ Paired (StpAt H) e.2.2 r.2
theorem OpT.tl {H H' : Hp} {e : Op} {r : Lg.Row} (x : Tl H H') (h : OpT H e r) : OpT H' e r := ⟨x _ _ h.1, paired_imp (fun _ _ z => StpAt.tl x z) h.2⟩
def opC (e : Op) : Addr × HO := (e.2.1, .lst (e.2.2.map V.ref))
def opR (e : Op) : V := .ref e.1
abbrev TL (a1 a2 a4 c1 : Addr) (o2 : Obj) (tds : List Addr) (es : List Op) (cs : List V) : List (Addr × HO) :=
  (a1, .lst (tds.map V.ref)) :: (a2, NkO a2 o2) :: (a4, .lst (es.map opR)) :: (c1, .lst cs) :: es.map opC
structure TxH (w : World) (H0 H : Hp) (a1 a2 a4 c1 : Addr) (o2 : Obj) (tds : List Addr) (es : List Op) (cs : List V) (S O : List Lg.Row) : Prop where
  lv : Lv H0 H (TL a1 a2 a4 c1 o2 tds es cs)
  nm : NMany w a2 o2 tds S
  rw_ : Paired (RowTp H) tds S
  op : Paired (OpT H) es O
theorem Lv.drop_ {H0 H : Hp} {l m : List (Addr × HO)} (L : Lv H0 H l) (s : m.Sublist l) : Lv H0 H m := ⟨L.nd.sublist (s.map _), fun p h => L.at_ p (s.subset h), fun p h => L.off p (s.subset h), L.ex⟩
theorem Lv.sub {H0 H : Hp} {l m : List (Addr × HO)} (L : Lv H0 H l) (nd : (m.map (·.1)).Nodup) (s : ∀ p ∈ m, p ∈ l) : Lv H0 H m := ⟨nd, fun p h => L.at_ p (s p h), fun p h => L.off p (s p h), L.ex⟩
theorem Lv.perm {H0 H : Hp} {l m : List (Addr × HO)} (L : Lv H0 H l) (p : l.Perm m) : Lv H0 H m := L.sub ((p.map _).nodup_iff.mp L.nd) fun _ h => p.mem_iff.mpr h
theorem paired_end {α β : Type} {R : α → β → Prop} : ∀ {as : List α} {bs : List β}, Paired R as bs → bs ≠ [] → ∃ as' a bs' b, as = as' ++ [a] ∧ bs = bs' ++ [b] ∧ Paired R as' bs' ∧ R a b
  | [], _, .nil, n => absurd rfl n
  | [a], [b], .cons h .nil, _ => ⟨[], a, [], b, rfl, rfl, .nil, h⟩
  | a :: a2 :: as, b :: b2 :: bs, .cons h (.cons h2 t2), _ => by
    obtain ⟨as', x, bs', y, e1, e2, p, r⟩ := paired_end (.cons h2 t2) (by simp)
    exact ⟨a :: as', x, b :: bs', y, by rw [e1]; rfl, by rw [e2]; rfl, .cons h p, r⟩
theorem atI_end {α : Type} (xs : List α) (a : α) : atI (xs ++ [a]) (-1) = some a := by
  unfold atI ixN
  have e : ((xs ++ [a]).length : Int) = (xs.length : Int) + 1 := by simp
  rw [if_neg (by decide), if_pos (by omega), e]
  show (xs ++ [a])[((-1 : Int) + ((xs.length : Int) + 1)).toNat]? = some a
  rw [show ((-1 : Int) + ((xs.length : Int) + 1)).toNat = xs.length by omega]
  simp
theorem lcp_self : ∀ a : List Nat, lcp a a = a.length
  | [] => rfl
  | a :: x => by unfold lcp; rw [if_pos rfl, lcp_self x]; rfl
theorem fresh_rep : ∀ (u : List Nat) (a : Nat), fresh (a :: u) = List.replicate u.length (false, []) ++ [(true, [])]
  | [], _ => rfl
  | b :: u, a => by
    show (false, []) :: fresh (b :: u) = _
    rw [fresh_rep u b]
    rfl
theorem paired_app {α β : Type} {R : α → β → Prop} : ∀ {as : List α} {bs : List β} {cs : List α} {ds : List β}, Paired R as bs → Paired R cs ds → Paired R (as ++ cs) (bs ++ ds)
  | _, _, _, _, .nil, h => h
  | _, _, _, _, .cons h t, q => .cons h (paired_app t q)
theorem cutS_from5 (ds : List Nat) (n : Nat) : cutS (tx ds) (some (n : Int)) none = tx (ds.drop n) := by
  have h : (tx ds).cps.toList = ds := by simp [tx]
  unfold cutS
  rw [h, HT.sIx_nat, HT.sIx_none, tx_len]
  show (⟨((ds.drop (min n ds.length)).take (ds.length - min n ds.length)).toArray⟩ : Str) = ⟨(ds.drop n).toArray⟩
  rw [List.take_of_length_le (by rw [List.length_drop]; exact Nat.le_refl _)]
  congr 2
  by_cases q : n ≤ ds.length
  · rw [Nat.min_eq_left q]
  · rw [Nat.min_eq_right (by omega), List.drop_eq_nil_of_le (Nat.le_refl _), List.drop_eq_nil_of_le (by omega)]
def sumL (l : List (List Nat)) : Nat := (l.map List.length).sum
/-- one state of the build: what is told of the numbers -/
structure Bnd5 (S O : List Lg.Row) (T : Nat) (m : Nat) : Prop where
  t : T + O.length ≤ m + 1
  s : S.length ≤ T
  rs : ∀ r ∈ S, r.2.length ≤ T
  ro : ∀ r ∈ O, r.2.length ≤ T
theorem sorted_pw5 {ys : List Str} (hs : sortedS ys = true) : ys.Pairwise fun a b => leS a b = true := by
  cases ys with
  | nil => exact .nil
  | cons x r => exact rising_pairwise x r hs
theorem ltCps_lcp : ∀ (a b : List Nat), ltCps b a = false → b = a ∨ (lcp a b < b.length ∧ ∀ c, a[lcp a b]? = some c → ∀ c', b[lcp a b]? = some c' → c < c')
  | [], [], _ => .inl rfl
  | [], b :: bs, _ => .inr ⟨by show 0 < _; simp, fun c h => by simp at h⟩
  | a :: as, [], h => by simp [ltCps] at h
  | a :: as, b :: bs, h => by
    unfold lcp
    by_cases z : a = b
    · subst z
      rw [if_pos rfl]
      have h' : ltCps bs as = false := by
        unfold ltCps at h
        simpa using h
      rcases ltCps_lcp as bs h' with e | ⟨e1, e2⟩
      · exact .inl (by rw [e])
      · exact .inr ⟨by simpa using e1, fun c hc c' hc' => e2 c (by simpa using hc) c' (by simpa using hc')⟩
    · rw [if_neg z]
      refine .inr ⟨by simp, fun c hc c' hc' => ?_⟩
      cases hc
      cases hc'
      unfold ltCps at h
      rw [Bool.or_eq_false_iff] at h
      have := of_decide_eq_false h.1
      omega
/-- a further text, or the same once more -/
theorem bld_more {S O : List Lg.Row} {B t : List Nat} {P : List Nat → Prop} (h : Bld S O B (lcp B t) P) (o : ltCps t B = false) {R' : List Lg.Row} {r1 : Lg.Row} (e : O ++ List.replicate (t.drop (lcp B t)).length (false, []) = R' ++ [r1]) :
    Bld S (R' ++ [(true, r1.2)]) t t.length (fun w => P w ∨ w = t) := by
  obtain ⟨O0, r0, rfl⟩ : ∃ O0 r0, O = O0 ++ [r0] := by
    have := h.len
    rcases List.eq_nil_or_concat O with z | ⟨a, b, z⟩
    · rw [z] at this; simp at this
    · exact ⟨a, b, by rw [z]; simp⟩
  rcases ltCps_lcp B t o with z | ⟨z1, z2⟩
  · subst z
    rw [lcp_self] at h e
    rw [List.drop_length] at e
    simp only [List.length_nil, List.replicate_zero, List.append_nil] at e
    have e2 := List.append_inj' e rfl
    obtain ⟨e3, e4⟩ := e2
    cases e4
    subst e3
    exact h.again
  · have := h.add z1 (lcp_take B t).symm z2
    obtain ⟨a, u, eu⟩ : ∃ a u, t.drop (lcp B t) = a :: u := by
      cases q : t.drop (lcp B t) with
      | nil => have := congrArg List.length q; simp at this; omega
      | cons a u => exact ⟨a, u, rfl⟩
    rw [eu] at this e
    rw [fresh_rep] at this
    have e' : (O0 ++ r0 :: List.replicate u.length (false, [])) ++ [((false, []) : Lg.Row)] = R' ++ [r1] := by
      rw [← e, List.length_cons, List.replicate_succ']
      simp
    obtain ⟨e3, e4⟩ := List.append_inj' e' rfl
    cases e4
    rw [← e3]
    simpa using this
theorem shE {te : TE} {σ : L2.St} {H : Hp} {Q : VK} (Pq : V → Hp → Prop) (h : ∀ v H', Pq v H' → Q v H') (k : (∀ v H', Pq v H' → Q v H') → te σ H Q) : te σ H Q := k h
def sg (l a1 a2 a4 : Addr) (B : List Nat) (y5 y6 y7 y8 y9 : Option V) : L2.St := [some (.ref l), some (.ref a1), some (.ref a2), some (.str (tx B)), some (.ref a4), y5, y6, y7, y8, y9, none]
def k0Of (B : List Nat) : Option (List Nat) → Nat
  | some t => lcp B t
  | none => 0
def xOf : Option (List Nat) → V
  | some t => .str (tx t)
  | none => .non
def csOf (zs : List (List Nat)) : List V := (zs.map tx).map V.str ++ [V.non]
def FoI (w : World) (H : Hp) (l a1 a2 a4 c1 : Addr) (zs : List (List Nat)) (i : Nat) (σ : L2.St) (H' : Hp) : Prop := ∃ (B : List Nat) (S O : List Lg.Row) (o2 : Obj) (tds : List Addr) (es : List Op) (T : Nat) (P : List Nat → Prop) (y5 y6 y7 y8 y9 : Option V),
  σ = sg l a1 a2 a4 B y5 y6 y7 y8 y9 ∧ TxH w H H' a1 a2 a4 c1 o2 tds es (csOf zs) S O ∧ Bnd5 S O T (sumL (zs.take i)) ∧ (∀ v, P v ↔ v ∈ zs.take i) ∧ B.length ≤ sumL zs ∧
  ((i ≤ zs.length ∧ Bld S O B B.length P ∧ ∀ t, zs[i]? = some t → ltCps t B = false) ∨ (i = zs.length + 1 ∧ ∃ r, O = [r] ∧ Bld S [r] B 0 P))
def WhI (w : World) (H : Hp) (l a1 a2 a4 c1 : Addr) (zs : List (List Nat)) (B : List Nat) (P : List Nat → Prop) (M k0 : Nat) (y5 : Option V) (m : Nat) (σ : L2.St) (H' : Hp) : Prop := ∃ (S O : List Lg.Row) (o2 : Obj) (tds : List Addr) (es : List Op) (T : Nat) (y7 y8 y9 : Option V),
  k0 ≤ m ∧ σ = sg l a1 a2 a4 B y5 (some (.int (k0 : Int))) y7 y8 y9 ∧ TxH w H H' a1 a2 a4 c1 o2 tds es (csOf zs) S O ∧ Bnd5 S O T M ∧ Bld S O B m P
theorem shNx {c : Bool} {A B : TS} {D : Ends} {σ : L2.St} {H : Hp} (Pq : L2.St → Hp → Prop) (h : ∀ σ' H', Pq σ' H' → D.nx σ' H') (k : (∀ σ' H', Pq σ' H' → D.nx σ' H') → if c = true then A D σ H else B D σ H) : if c = true then A D σ H else B D σ H := k h
def spTexG (K : PySem.W.Frag) : Sp := fun vs H Q _ => ∃ (l : Addr) (xs : List (List Nat)), vs = [.ref l] ∧ H l = some (.lst ((xs.map tx).map V.str)) ∧ xs.length < 64 ∧ sumL xs ≤ 50000 ∧
  ∀ p' H' G rk, Ex H H' → STq H' p' G → Aut G rk → G.length ≤ 100000 → (∀ r ∈ G, r.2.length ≤ 100000) → (∀ w, acc G w 0 = true ↔ w ∈ xs) → Q (.ref p') H'
section
variable {P : Program} {w : World} {K : PySem.W.Frag} {mg : Str → Option Value} {base : Heap} {f fC fR : Addr} {fd dC dR : FuncData}
theorem ok_texG (F : Fun K "states_of_texts" "states_of_texts" sTexts f fd) (B : Blt mg) (B2 : Blt2 mg) (Cm : Lt P w K mg base fC dC "common_start" ["first", "second"] 1 spComG) (Rn_ : Lt P w K mg base fR dR "renumbered" ["states", "first"] 1 (spRenG K)) : FnOk P w K mg base CX0 2 f fd ["texts"] (spTexG K) := by
  refine F.ok scTex (fun vs H Q E h => ?_) (fun cdv A outer s H vs Q E hr h => ?_)
  · obtain ⟨_, _, rfl, _⟩ := h
    rfl
  have nd := scTex.nd
  have hu : (A.deeper (envOfC "states_of_texts" (defScope sTexts) s.heap.objs.size f cdv)).units + 64 < cLine := hr.units
  obtain ⟨l, xs, rfl, hl, lx, sx, q⟩ := h
  refine ⟨_, pss_cons (ps_set (i := 1) nd rfl (Or.inl rfl) (pe_lst pa_nil))
    (pss_cons (ps_set (i := 2) nd rfl (Or.inl rfl) pe_dnewN)
    (pss_cons (ps_set (i := 3) nd rfl (Or.inl rfl) pe_str)
    (pss_cons (ps_set (i := 4) nd rfl (Or.inl rfl) (pe_lst (pa_cons (pe_tup (pa_cons pe_bl (pa_cons (pe_lst pa_nil) pa_nil))) pa_nil)))
    (pss_cons (ps_for PassesOwn.never rfl (pi_list (pe_lst (StX.pa_star (pe_callB cr_sortedS rfl B.sorted boot_sorted (pa_cons (pv 0) pa_nil)) (pa_cons pe_non pa_nil)))) (pg_name (i := 5) nd rfl (Or.inl rfl))
      (pss_cons (ps_set (i := 6) nd rfl (Or.inl rfl) (pe_ifExp (pt_cmpR op_isN (pv 5) pe_non (nomark _)) pe_int (pe_callB call_len_str rfl B.len PySem.boot_len (pa_cons (pe_call Cm.g hr rfl Cm.m Cm.k Cm.b .nil pass0 (pa_cons (pv 3) (pa_cons (pv 5) pa_nil))) pa_nil))))
      (pss_cons (ps_while PassesOwn.never (pt_cmpR op_gt (pe_callB call_len_seq rfl B.len PySem.boot_len (pa_cons (pv 4) pa_nil)) (pe_op op_add (pv 6) pe_int) (nomark _))
        (pss_cons (ps_asg (pe_bm0 PySem.F.plainAttrs_list PySem.F.slot_list_pop PySem.F.type_list_pop mt_pop (pv 4)) (pg_tup rfl (pgs_cons (pg_name (i := 7) nd rfl (Or.inl rfl)) (pgs_cons (pg_name (i := 8) nd rfl (Or.inl rfl)) pgs_nil))))
        (pss_cons (ps_set (i := 9) nd rfl (Or.inl rfl) (pe_tup (pa_cons (pv 7) (pa_cons (pe_callTy call_tuple_of rfl B2.tuple bt_tuple (pa_cons (pv 8) pa_nil)) pa_nil))))
        (pss_cons (ps_if (pt_cmpR (op_notInM hu) (pv 9) (pv 2) (by with_unfolding_all rfl))
          (pss_cons (ps_asg (pe_callB call_len_seq rfl B.len PySem.boot_len (pa_cons (pv 1) pa_nil)) (pg_sub (pv 2) (pv 9) (set_nm hu)))
          (pss_one (ps_expr (pe_bm PySem.F.plainAttrs_list PySem.F.slot_list_append PySem.F.type_list_append mt_append (pv 1) (pa_cons (pv 9) pa_nil))))) pss_nil)
        (pss_one (ps_expr (pe_bm PySem.F.plainAttrs_list PySem.F.slot_list_append PySem.F.type_list_append mt_append (pe_ix ix_tup (pe_ix ix_list (pv 4) (pe_un un_neg pe_int) (fun _ _ => rfl)) pe_int (fun _ _ => rfl)) (pa_cons (pe_tup (pa_cons (pe_ix ix_str (pv 3) (pe_op op_sub (pe_callB call_len_seq rfl B.len PySem.boot_len (pa_cons (pv 4) pa_nil)) pe_int) (fun _ _ => rfl)) (pa_cons (pe_ix (ix_nm hu) (pv 2) (pv 9) (fun _ _ => rfl)) pa_nil))) pa_nil))))))))
      (pss_one (ps_if (pt_cmpR op_notN (pv 5) pe_non (nomark _))
        (pss_cons (ps_expr (pe_bm PySem.F.plainAttrs_list PySem.F.slot_list_extend PySem.F.type_list_extend mt_extend (pv 4) (pa_cons (pe_lc (own := [("_", 10)]) (g := gName 10) (tt := tYes) (te := tTup (tCons (tC (.bl false)) (tCons (tLst tNil) tNil))) rfl nd (pi_str (pe_slice sl_str (pv 5) (po_some (pv 6)) po_none)) (blkOk_by (N := NTex) (sc := defScope sTexts) (by decide +kernel))
            (fun _ _ _ _ _ => pg_name (i := 10) nd rfl (Or.inl rfl)) (fun _ _ _ _ _ => pts_nil) (fun _ _ _ _ _ => pe_tup (pa_cons pe_bl (pa_cons (pe_lst pa_nil) pa_nil)))) pa_nil)))
        (pss_cons (ps_asg (pe_tup (pa_cons pe_bl (pa_cons (pe_ix ix_tup (pe_ix ix_list (pv 4) (pe_un un_neg pe_int) (fun _ _ => rfl)) pe_int (fun _ _ => rfl)) pa_nil))) (pg_sub (pv 4) (pe_un un_neg pe_int) set_list))
        (pss_one (ps_set (i := 3) nd rfl (Or.inl rfl) (pv 5))))) pss_nil)))))
    (pss_cons (ps_expr (pe_bm PySem.F.plainAttrs_list PySem.F.slot_list_append PySem.F.type_list_append mt_append (pv 1) (pa_cons (pe_tup (pa_cons (pe_ix ix_tup (pe_ix ix_list (pv 4) pe_int (fun _ _ => rfl)) pe_int (fun _ _ => rfl)) (pa_cons (pe_callTy call_tuple_of rfl B2.tuple bt_tuple (pa_cons (pe_ix ix_tup (pe_ix ix_list (pv 4) pe_int (fun _ _ => rfl)) pe_int (fun _ _ => rfl)) pa_nil)) pa_nil))) pa_nil)))
    (pss_one (ps_ret (pe_call Rn_.g hr rfl Rn_.m Rn_.k Rn_.b .nil pass0 (pa_cons (pv 1) (pa_cons (pe_op op_sub (pe_callB call_len_seq rfl B.len PySem.boot_len (pa_cons (pv 1) pa_nil)) pe_int) pa_nil)))))))))), ?_⟩
  refine ⟨nle' (by show 0 ≤ 1000; decide), fun a1 n1 => ?_⟩
  have L1 := (Lv.nil (Ex.refl H)).new (o := HO.lst []) n1
  generalize upd H a1 (HO.lst []) = G1 at L1 ⊢
  intro a2 o2 n2 d2
  have L2 := L1.new (o := NkO a2 o2) n2
  generalize upd G1 a2 (NkO a2 o2) = G2 at L2 ⊢
  refine ⟨nle' (by show 0 ≤ 1000; decide), fun b0 m0 => ?_⟩
  have L3 := L2.new (o := HO.lst []) m0
  generalize upd G2 b0 (HO.lst []) = G3 at L3 ⊢
  refine ⟨nle' (by show 2 ≤ 1000; decide), fun t0 k0 => ?_⟩
  have L4 := L3.new (o := HO.tup [V.bl false, V.ref b0]) k0
  generalize upd G3 t0 (HO.tup [V.bl false, V.ref b0]) = G4 at L4 ⊢
  refine ⟨nle' (by show 1 ≤ 1000; decide), fun a4 n4 => ?_⟩
  have L5 := L4.new (o := HO.lst [V.ref t0]) n4
  generalize upd G4 a4 (HO.lst [V.ref t0]) = G5 at L5 ⊢
  refine ⟨_, rfl, l, xs.map tx, rfl, SqL.of (L5.ex _ _ hl), by rw [List.length_map]; exact lx, fun ys c0 pe so j0 => ?_⟩
  obtain ⟨zs, rfl⟩ : ∃ zs : List (List Nat), ys = zs.map tx := ⟨ys.map fun y => y.cps.toList, by rw [List.map_map]; exact (List.map_id' _).symm.trans (List.map_congr_left fun y _ => by simp [tx])⟩
  have L6 := L5.new (o := HO.lst ((zs.map tx).map V.str)) j0
  generalize upd G5 c0 (HO.lst ((zs.map tx).map V.str)) = G6 at L6 ⊢
  have lz : zs.length = xs.length := by have := pe.length_eq; simpa using this
  refine ⟨c0, _, rfl, .inr (SqL.of (L6.get 0 rfl)), nle' (by rw [List.length_append, List.length_map, List.length_map]; show zs.length + 1 ≤ 1000; omega), fun c1 j1 => ?_⟩
  have L7 := L6.new (o := HO.lst ((zs.map tx).map V.str ++ [V.non])) j1
  generalize upd G6 c1 (HO.lst ((zs.map tx).map V.str ++ [V.non])) = G7 at L7 ⊢
  have zp : zs.Perm xs := by
    have := pe.map (fun y : Str => y.cps.toList)
    simpa [List.map_map, Function.comp_def, tx] using this
  have sz : sumL zs ≤ 50000 := by
    have : sumL zs = sumL xs := (zp.map List.length).sum_nat
    omega
  have le_s : ∀ t ∈ zs, t.length ≤ sumL zs := fun t m => by
    have : t.length ∈ zs.map List.length := List.mem_map.mpr ⟨t, m, rfl⟩
    unfold sumL
    generalize zs.map List.length = q at this
    induction q with
    | nil => cases this
    | cons x q ih =>
      rw [List.sum_cons]
      rcases List.mem_cons.mp this with e | e
      · omega
      · have := ih e; omega
  have pw : ∀ i s t, zs[i]? = some s → zs[i + 1]? = some t → ltCps t s = false := fun i s t h1 h2 => by
    have := sorted_pw5 so
    rw [List.pairwise_iff_getElem] at this
    obtain ⟨i1, e1⟩ := List.getElem?_eq_some_iff.mp h1
    obtain ⟨i2, e2⟩ := List.getElem?_eq_some_iff.mp h2
    have := this i (i + 1) (by simpa using i1) (by simpa using i2) (by omega)
    simp only [List.getElem_map, e1, e2] at this
    unfold leS at this
    simpa [tx] using this
  refine ⟨c1, rfl, ⟨_, SqL.of (L7.get 0 rfl)⟩, for_list (xs := csOf zs) (FoI w H l a1 a2 a4 c1 zs)
    ⟨[], [], [(false, [])], o2, [], [(t0, b0, [])], 0, _, none, none, none, none, none, rfl, ⟨?_, nmany_nil d2, .nil, .cons ⟨L7.get 3 rfl, .nil⟩ .nil⟩, ⟨Nat.le_refl _, Nat.le_refl _, (fun _ m => nomatch m), fun r m => by rw [List.mem_singleton.mp m]; exact Nat.le_refl _⟩, (fun v => by rw [List.take_zero]; exact ⟨False.elim, fun m => nomatch m⟩), Nat.zero_le _, .inl ⟨Nat.zero_le _, bld_nil, fun t _ => by cases t <;> rfl⟩⟩
    (fun i σ H6 _ z => ?_) (fun i x σ H6 hx z => ?_) (fun σ H6 z => ?_)⟩
  · refine L7.sub ?_ (fun p m => ?_)
    · have := L7.nd
      simp only [TL, opC, List.map_cons, List.map_nil, List.nodup_cons, List.mem_cons, List.not_mem_nil, or_false, not_or, List.nodup_nil, and_true, not_false_eq_true] at this ⊢
      grind
    · simp only [TL, opC, opR, csOf, List.map_cons, List.map_nil, List.mem_cons, List.not_mem_nil, or_false] at m ⊢
      rcases m with rfl | rfl | rfl | rfl | rfl <;> simp
  · obtain ⟨B, S, O, o2, tds, es, T, P, y5, y6, y7, y8, y9, rfl, T6, _⟩ := z
    exact SqL.of (T6.lv.get 3 rfl)
  · obtain ⟨B, S, O, o3, tds, es, T, P, y5, y6, y7, y8, y9, rfl, T6, bn, hP, lB, cs⟩ := z
    have li : i ≤ zs.length := by
      have := (List.getElem?_eq_some_iff.mp hx).1
      simp [csOf] at this
      omega
    obtain ⟨bl, hB⟩ : Bld S O B B.length P ∧ ∀ t, zs[i]? = some t → ltCps t B = false := by
      rcases cs with ⟨_, a, b⟩ | ⟨h, _⟩
      · exact ⟨a, b⟩
      · omega
    obtain ⟨ot, hot, hx⟩ : ∃ ot : Option (List Nat), ot = zs[i]? ∧ x = xOf ot := by
      refine ⟨_, rfl, ?_⟩
      by_cases z : i < zs.length
      · rw [List.getElem?_eq_getElem z]
        rw [csOf, List.getElem?_append_left (by simpa using z)] at hx
        simp only [List.getElem?_map, List.getElem?_eq_getElem z, Option.map_some] at hx
        injection hx with hx
        exact hx.symm
      · have : i = zs.length := by omega
        subst this
        rw [List.getElem?_eq_none (Nat.le_refl _)]
        simp [csOf] at hx
        exact hx.symm
    have k0B : k0Of B ot ≤ B.length := by
      cases ot with
      | none => exact Nat.zero_le _
      | some t => exact (lcp_le B t).1
    refine shE (te := tIf _ _ _) (fun v H7 => v = .int (k0Of B ot : Int) ∧ H7 = H6) (fun v H7 e => ?_) (fun qq => ?_)
    · obtain ⟨rfl, rfl⟩ := e
      generalize hk0 : k0Of B ot = k0 at k0B
      refine ⟨WhI w H l a1 a2 a4 c1 zs B P (sumL (zs.take i)) k0 (some x), ⟨B.length, S, O, o3, tds, es, T, _, _, _, k0B, rfl, T6, bn, bl⟩, ?_⟩
      rintro m σ H7 ⟨S, O, o3, tds, es, T, y7, y8, y9, km, rfl, T7, bn, bl⟩
      obtain ⟨lv, nm, rows, op⟩ := T7
      have lt : tds.length = S.length := paired_len rows
      have le : es.length = O.length := paired_len op
      have lO := bl.len
      have bt := bn.t
      have bs := bn.s
      have f1 := lv.get 0 rfl
      have f4 := lv.get 2 rfl
      have fc := lv.get 3 rfl
      refine ⟨_, rfl, a4, _, rfl, .inl (SqL.of f4), _, rfl, _, _, rfl, rfl, _, _, rfl, rfl, _, rfl, ?_⟩
      rw [List.length_map, le, lO]
      by_cases hm : m = k0
      case pos =>
        subst hm
        rw [decide_eq_false (by omega)]
        refine iteF ?_
        cases ot with
        | none =>
          subst hx
          have e0 : m = 0 := hk0.symm
          subst e0
          have iz : i = zs.length := by
            have := List.getElem?_eq_none_iff.mp hot.symm
            omega
          refine ⟨_, rfl, rfl, false, rfl, iteF ?_⟩
          obtain ⟨r, rfl⟩ : ∃ r, O = [r] := by
            cases O with
            | nil => simp at lO
            | cons r O =>
              cases O with
              | nil => exact ⟨r, rfl⟩
              | cons _ _ => simp at lO
          rw [List.take_of_length_le (by omega)] at bn hP
          refine ⟨B, S, [r], o3, tds, es, T, P, _, _, _, _, _, rfl, ⟨lv, nm, rows, op⟩, ?_, ?_, lB, .inr ⟨by omega, r, rfl, bl⟩⟩
          · rw [List.take_of_length_le (by omega)]; exact bn
          · rw [List.take_of_length_le (by omega)]; exact hP
        | some t =>
          subst hx
          refine ⟨_, rfl, rfl, true, rfl, iteT ?_⟩
          have tm : t ∈ zs := List.mem_of_getElem? hot.symm
          have ltt := le_s t tm
          have km : m = lcp B t := hk0.symm
          have ti : i < zs.length := (List.getElem?_eq_some_iff.mp hot.symm).1
          have tk1 : zs.take (i + 1) = zs.take i ++ [t] := by rw [List.take_add_one, ← hot]; rfl
          have sk1 : sumL (zs.take (i + 1)) = sumL (zs.take i) + t.length := by rw [tk1]; unfold sumL; simp
          have tk : sumL (zs.take (i + 1)) ≤ sumL zs := by
            have e := congrArg (fun q => (q.map List.length).sum) (List.take_append_drop (i + 1) zs)
            simp only [List.map_append, List.sum_append] at e
            unfold sumL
            omega
          have ud : (t.drop m).length ≤ t.length := by rw [List.length_drop]; omega
          refine ⟨_, rfl, Or.inl ⟨rfl, _, SqL.of f4⟩, _, rfl, _, rfl, _, rfl, tx t, rfl, line_le (by rw [tx_len]; omega), _, rfl, fun D hD => ?_⟩
          rw [cutS_from5]
          generalize hu5 : t.drop m = u at ud
          refine lc_it walk_str (fun n G => ∃ fs : List Op, fs.length = n ∧ n ≤ u.length ∧ Lv H G ((D, .lst (fs.map opR)) :: (fs.map opC ++ TL a1 a2 a4 c1 o3 tds es (csOf zs))) ∧ Tl H7 G ∧ Paired (OpT G) fs (List.replicate n (false, []))) ?_ (fun _ _ _ _ => trivial) (fun n y G1 G2 hn p wv => ?_) (fun G p => ?_)
          · exact ⟨[], rfl, Nat.zero_le _, lv.new hD, Tl.of (Ex.new hD), .nil⟩
          · obtain ⟨rfl, c, hc, rfl⟩ := wv
            obtain ⟨fs, lf, nu, LG, xG, pf⟩ := p
            have hn' : n < u.length := by simpa [tx] using hn
            refine ⟨rfl, tyes ⟨nle' (by show 0 ≤ 1000; decide), fun b5 m5 => ?_⟩⟩
            have x5 := xG.trans (Tl.of (Ex.new (o := HO.lst []) m5))
            have y5' := Tl.of (Ex.new (o := HO.lst []) m5)
            have LG5 := LG.new (o := HO.lst []) m5
            generalize upd G2 b5 (HO.lst []) = G5' at LG5 x5 y5' ⊢
            refine ⟨nle' (by show 2 ≤ 1000; decide), fun t5 k5 => ?_⟩
            have x6 := x5.trans (Tl.of (Ex.new (o := HO.tup [V.bl false, V.ref b5]) k5))
            have y6' := y5'.trans (Tl.of (Ex.new (o := HO.tup [V.bl false, V.ref b5]) k5))
            have LG6 := LG5.new (o := HO.tup [V.bl false, V.ref b5]) k5
            generalize upd G5' t5 (HO.tup [V.bl false, V.ref b5]) = G6' at LG6 x6 y6' ⊢
            refine ⟨fs.map opR, LG6.get 2 rfl, by rw [List.length_map, lf, sizeLine_eq]; omega, ?_⟩
            have z6 := Tl.mut (o' := HO.lst (fs.map opR ++ [V.ref t5])) (LG6.get 2 rfl) (fun _ => nofun)
            have ht5 := z6 _ _ (LG6.get 0 rfl)
            have LG7 := LG6.mut 2 (a := D) (HO.lst (fs.map opR ++ [V.ref t5])) rfl
            generalize upd G6' D (HO.lst (fs.map opR ++ [V.ref t5])) = G7' at LG7 z6 ht5 ⊢
            refine ⟨fs ++ [(t5, b5, [])], by simp [lf], by omega, ?_, x6.trans z6, ?_⟩
            · have L8 := LG7.tail
              have : ((b5, HO.lst []) :: (D, .lst (fs.map opR ++ [V.ref t5])) :: (fs.map opC ++ TL a1 a2 a4 c1 o3 tds es (csOf zs))).Perm ((D, .lst ((fs ++ [(t5, b5, [])]).map opR)) :: ((fs ++ [(t5, b5, [])]).map opC ++ TL a1 a2 a4 c1 o3 tds es (csOf zs))) := by
                rw [List.map_append, List.map_append, List.append_assoc]
                refine (List.Perm.swap _ _ _).trans (List.Perm.cons _ ?_)
                exact (List.perm_middle (l₁ := fs.map opC)).symm
              exact L8.perm this
            · rw [List.replicate_succ']
              exact pair_snoc ⟨ht5, .nil⟩ (paired_imp (fun _ _ z => OpT.tl (y6'.trans z6) z) pf)
          · obtain ⟨fs, lf, nu, LG, xG, pf⟩ := p
            have su : (tx u).cps.size = u.length := by simp [tx]
            rw [su] at lf pf
            have LG := LG.perm (m := (D, .lst (fs.map opR)) :: (a1, .lst (tds.map V.ref)) :: (a2, NkO a2 o3) :: (a4, .lst (es.map opR)) :: (c1, .lst (csOf zs)) :: (es ++ fs).map opC) (.cons _ (by
              rw [List.map_append]
              exact List.perm_append_comm))
            refine ⟨a4, D, es.map opR, fs.map opR, rfl, rfl, LG.get 3 rfl, LG.get 0 rfl, by have := bl.kb; rw [List.length_map, List.length_map, lf, le, lO, sizeLine_eq]; omega, ?_⟩
            rw [← List.map_append]
            have z1 := xG.trans (Tl.mut (o' := HO.lst ((es ++ fs).map opR)) (LG.get 3 rfl) (fun _ => nofun))
            have z1' := Tl.mut (o' := HO.lst ((es ++ fs).map opR)) (LG.get 3 rfl) (fun _ => nofun)
            have N1 := (LG.mut 3 (a := a4) (HO.lst ((es ++ fs).map opR)) rfl).tail
            generalize upd G a4 (HO.lst ((es ++ fs).map opR)) = J1 at N1 z1 z1' ⊢
            have N1 : Lv H J1 ((a1, .lst (tds.map V.ref)) :: (a2, NkO a2 o3) :: (a4, .lst ((es ++ fs).map opR)) :: (c1, .lst (csOf zs)) :: (es ++ fs).map opC) := N1
            have pE := paired_app (paired_imp (fun _ _ z => OpT.tl z1 z) op) (paired_imp (fun _ _ z => OpT.tl z1' z) pf)
            have lE := paired_len pE
            obtain ⟨E', e1, R', r1, eE, eR, pE', h1⟩ := paired_end pE (by intro z; have := congrArg List.length z; rw [List.length_append, bl.len] at this; simp at this)
            rw [eE] at N1 pE lE
            rw [eR] at pE lE
            obtain ⟨t1, b1, qs1⟩ := e1
            obtain ⟨ht1, hq1⟩ := h1
            have ht1 : J1 t1 = some (.tup [.bl r1.1, .ref b1]) := ht1
            have bl' := bl
            rw [km] at bl'
            have em := bld_more bl' (hB t hot.symm) (R' := R') (r1 := r1) (by rw [← km, hu5]; exact eR)
            rw [List.map_append] at N1
            refine ⟨_, rfl, _, rfl, a4, _, -1, .ref t1, rfl, rfl, SqL.of (N1.get 2 rfl), ?_, t1, [.bl r1.1, .ref b1], 1, .ref b1, rfl, rfl, SqT.of ht1, rfl, nle' (by show 2 ≤ 1000; decide), fun t2 k2 => ?_⟩
            · exact atI_end _ _
            have z2 := Tl.of (Ex.new (o := HO.tup [V.bl true, V.ref b1]) k2)
            have N2 := N1.new (o := HO.tup [V.bl true, V.ref b1]) k2
            generalize upd J1 t2 (HO.tup [V.bl true, V.ref b1]) = J2 at N2 z2 ⊢
            refine ⟨_, rfl, _, rfl, a4, _, -1, E'.length, rfl, rfl, N2.get 3 rfl, ?_, ?_⟩
            · have e : ((E'.map opR ++ [((t1, b1, qs1) : Op)].map opR).length : Int) = (E'.length : Int) + 1 := by simp
              unfold ixN
              rw [if_neg (by decide), if_pos (by omega), e]
              congr 1
              omega
            have st : (E'.map opR ++ [((t1, b1, qs1) : Op)].map opR).set E'.length (.ref t2) = (E' ++ [((t2, b1, qs1) : Op)]).map opR := by
              rw [List.set_append_right _ _ (by simp)]
              simp [opR]
            rw [st]
            have z3 := z2.trans (Tl.mut (o' := HO.lst ((E' ++ [((t2, b1, qs1) : Op)]).map opR)) (N2.get 3 rfl) (fun _ => nofun))
            have N3 := N2.mut 3 (a := a4) (HO.lst ((E' ++ [((t2, b1, qs1) : Op)]).map opR)) rfl
            generalize upd J2 a4 (HO.lst ((E' ++ [((t2, b1, qs1) : Op)]).map opR)) = J3 at N3 z3 ⊢
            have lR := congrArg List.length eR
            simp only [List.length_append, List.length_replicate, List.length_cons, List.length_nil] at lR
            refine ⟨_, rfl, ?_⟩
            refine ⟨t, S, R' ++ [(true, r1.2)], o3, tds, E' ++ [(t2, b1, qs1)], T, _, _, _, _, _, _, rfl, ⟨?_, nm, paired_imp (fun _ _ z => RowTp.tl (z1.trans z3) z) rows, ?_⟩, ⟨?_, bn.s, bn.rs, ?_⟩, fun v => ?_, ltt, .inl ⟨by omega, em, fun t' ht' => pw i t t' hot.symm ht'⟩⟩
            · have N4 : Lv H J3 ((a1, .lst (tds.map V.ref)) :: (a2, NkO a2 o3) :: (a4, .lst ((E' ++ [((t2, b1, qs1) : Op)]).map opR)) :: (c1, .lst (csOf zs)) :: (E' ++ [((t1, b1, qs1) : Op)]).map opC) := by
                exact N3.tail
              have e : (E' ++ [((t1, b1, qs1) : Op)]).map opC = (E' ++ [((t2, b1, qs1) : Op)]).map opC := by simp [opC]
              rw [e] at N4
              exact N4
            · exact pair_snoc ⟨N3.get 0 rfl, paired_imp (fun _ _ z => StpAt.tl z3 z) hq1⟩ (paired_imp (fun _ _ z => OpT.tl z3 z) pE')
            · have := bn.t
              rw [List.length_append]
              show T + (R'.length + 1) ≤ _
              omega
            · have old : ∀ r ∈ R' ++ [r1], r.2.length ≤ T := fun r m => by
                rw [← eR] at m
                rcases List.mem_append.mp m with m | m
                · exact bn.ro r m
                · rw [List.eq_of_mem_replicate m]; exact Nat.zero_le _
              intro r m
              rcases List.mem_append.mp m with m | m
              · exact old r (List.mem_append_left _ m)
              · rw [List.mem_singleton.mp m]; exact old r1 (by simp)
            · rw [tk1, List.mem_append, List.mem_singleton, hP]
      rw [decide_eq_true (by omega)]
      refine iteT ⟨WhI w H l a1 a2 a4 c1 zs B P (sumL (zs.take i)) k0 (some x) (m - 1), fun σ' H'' z => ⟨_, by omega, z⟩, ?_⟩
      obtain ⟨k, rfl⟩ : ∃ k, m = k + 1 := ⟨m - 1, by omega⟩
      obtain ⟨es1, e1, O1, r1, rfl, rfl, op1, h1⟩ := paired_end op (by intro z; rw [z] at lO; simp at lO)
      obtain ⟨es0, e0, O0, r0, rfl, rfl, op0, h0⟩ := paired_end op1 (by intro z; rw [z] at lO; simp at lO)
      rw [show O0 ++ [r0] ++ [r1] = O0 ++ [r0, r1] by simp] at bl bn bt lO
      rw [show es0 ++ [e0] ++ [e1] = es0 ++ [e0, e1] by simp] at lv f4
      obtain ⟨t1, b1, qs1⟩ := e1
      obtain ⟨t0', b0', qs0⟩ := e0
      obtain ⟨ht1, hq1⟩ := h1
      obtain ⟨ht0, hq0⟩ := h0
      have ht1 : H7 t1 = some (.tup [.bl r1.1, .ref b1]) := ht1
      have ht0 : H7 t0' = some (.tup [.bl r0.1, .ref b0']) := ht0
      have lv : Lv H H7 ((b0', .lst (qs0.map V.ref)) :: (b1, .lst (qs1.map V.ref)) :: (a1, .lst (tds.map V.ref)) :: (a2, NkO a2 o3) :: (a4, .lst ((es0 ++ [(t0', b0', qs0), (t1, b1, qs1)]).map opR)) :: (c1, .lst (csOf zs)) :: es0.map opC) := by
        refine lv.perm ?_
        rw [show TL a1 a2 a4 c1 o3 tds (es0 ++ [(t0', b0', qs0), (t1, b1, qs1)]) (csOf zs) = ((a1, .lst (tds.map V.ref)) :: (a2, NkO a2 o3) :: (a4, .lst ((es0 ++ [(t0', b0', qs0), (t1, b1, qs1)]).map opR)) :: (c1, .lst (csOf zs)) :: es0.map opC) ++ [(b0', .lst (qs0.map V.ref)), (b1, .lst (qs1.map V.ref))] by simp [TL, opC]]
        exact List.perm_append_comm
      refine ⟨_, rfl, Or.inl ⟨rfl, _, SqL.of (lv.get 4 rfl)⟩, a4, _, .ref t1, rfl, rfl, lv.get 4 rfl, by simp [opR], ?_⟩
      have dl : ((es0 ++ [((t0', b0', qs0) : Op), (t1, b1, qs1)]).map opR).dropLast = es0.map opR ++ [.ref t0'] := by
        rw [List.map_append]
        simp [opR, List.dropLast_append]
      rw [dl]
      have x1 := Tl.mut (o' := HO.lst (es0.map opR ++ [.ref t0'])) (lv.get 4 rfl) (fun _ => nofun)
      have N1 := lv.mut 4 (a := a4) (HO.lst (es0.map opR ++ [.ref t0'])) rfl
      generalize upd H7 a4 (HO.lst (es0.map opR ++ [.ref t0'])) = J1 at N1 x1 ⊢
      refine ⟨t1, _, rfl, SqT.of (x1 _ _ ht1), rfl, _, _, rfl, _, _, rfl, rfl, ?_⟩
      refine ⟨_, rfl, _, rfl, b1, _, rfl, .inl ⟨SqL.of (N1.get 1 rfl), fun ee j2 => ?_⟩⟩
      have x2 := x1.trans (Tl.of (Ex.new (o := HO.tup (qs1.map V.ref)) j2))
      have N2 := N1.new (o := HO.tup (qs1.map V.ref)) j2
      generalize upd J1 ee (HO.tup (qs1.map V.ref)) = J2 at N2 x2 ⊢
      refine ⟨nle' (by show 2 ≤ 1000; decide), fun td j3 => ?_⟩
      have x3 := x2.trans (Tl.of (Ex.new (o := HO.tup [V.bl r1.1, V.ref ee]) j3))
      have N3 := N2.new (o := HO.tup [V.bl r1.1, V.ref ee]) j3
      generalize upd J2 td (HO.tup [V.bl r1.1, V.ref ee]) = J3 at N3 x3 ⊢
      have rows3 := paired_imp (fun _ _ z => RowTp.tl x3 z) rows
      have rtd : RowTp J3 td r1 := ⟨ee, qs1, N3.get 0 rfl, N3.get 1 rfl, paired_imp (fun _ _ z => StpAt.tl x3 z) hq1⟩
      refine ⟨_, rfl, _, rfl, a2, o3, td, tds, S, r1, rfl, rfl, N3.get 5 rfl, nm, bl.nd, paired_imp (fun _ _ z => RowTp.at_ z) rows3, rtd.at_, _, rfl, ?_⟩
      have bk : ∃ d, B[k]? = some d := by
        have := bl.kb
        exact ⟨_, List.getElem?_eq_getElem (by omega)⟩
      obtain ⟨d, hd⟩ := bk
      have l0 : es0.length + 2 = k + 2 := by
        have := bl.len
        have q0 := paired_len op0
        simp at this
        omega
      have lB' : (tx B).length ≤ sizeLine := line_le (by rw [tx_len]; omega)
      have szL : (1000000 : Nat) < sizeLine := by rw [sizeLine_eq]; decide
      refine shNx (fun σ' H' => ∃ (S' : List Lg.Row) (o4 : Obj) (tds' : List Addr) (j : Nat), σ' = sg l a1 a2 a4 B (some x) (some (.int (k0 : Int))) (some (.bl r1.1)) (some (.ref b1)) (some (.ref td)) ∧
        Lv H H' ((td, .tup [V.bl r1.1, V.ref ee]) :: (ee, .tup (qs1.map V.ref)) :: (b0', .lst (qs0.map V.ref)) :: (b1, .lst (qs1.map V.ref)) :: (a1, .lst (tds'.map V.ref)) :: (a2, NkO a2 o4) :: (a4, .lst (es0.map opR ++ [.ref t0'])) :: (c1, .lst (csOf zs)) :: es0.map opC) ∧
        NMany w a2 o4 tds' S' ∧ Paired (RowTp H') tds' S' ∧ Tl J3 H' ∧ S'.Nodup ∧ S'[j]? = some r1 ∧ ((S' = S ∧ S[j]? = some r1) ∨ (S' = S ++ [r1] ∧ j = S.length ∧ r1 ∉ S))) (fun σ' H' hp => ?_) (fun qq => ?_)
      · obtain ⟨S', o4, tds', j, rfl, N, nm', rows', x', nd', hj, hS⟩ := hp
        have ht0' := x' _ _ (x3 _ _ ht0)
        have rtd' := RowTp.tl x' rtd
        refine ⟨_, rfl, _, rfl, a4, _, -1, .ref t0', rfl, rfl, SqL.of (N.get 6 rfl), atI_end _ _, t0', [.bl r0.1, .ref b0'], 1, .ref b0', rfl, rfl, SqT.of ht0', rfl, Or.inl ⟨rfl, _, SqL.of (N.get 2 rfl)⟩, _, rfl, _, rfl, a4, _, rfl, .inl (SqL.of (N.get 6 rfl)), _, _, rfl, rfl, tx B, _, d, rfl, rfl, lB', ?_, _, rfl, _, rfl, a2, o4, td, tds', S', r1, j, rfl, rfl, N.get 5 rfl, nm', nd', paired_imp (fun _ _ z => RowTp.at_ z) rows', rtd'.at_, hj, nle' (by show 2 ≤ 1000; decide), fun t5 k5 => ?_⟩
        · rw [show (tx B).cps.toList = B by simp [tx]]
          rw [show (((es0.map opR ++ [V.ref t0']).length : Nat) : Int) - 1 = ((k : Nat) : Int) by simp; omega]
          exact atI_nat hd
        have x5 := (Tl.of (Ex.new (o := HO.tup [V.str (⟨#[d]⟩ : Str), V.int (j : Int)]) k5))
        have N5 := N.new (o := HO.tup [V.str (⟨#[d]⟩ : Str), V.int (j : Int)]) k5
        generalize upd H' t5 (HO.tup [V.str (⟨#[d]⟩ : Str), V.int (j : Int)]) = J5 at N5 x5 ⊢
        have lq0 : qs0.length = r0.2.length := paired_len hq0
        have b3 := bn.ro r0 (by simp)
        have b4 : T + (k + 2) ≤ sumL (zs.take i) + 1 := by
          have := bn.t
          rw [bl.len] at this
          exact this
        have tk : sumL (zs.take i) ≤ sumL zs := by
          have e := congrArg (fun q => (q.map List.length).sum) (List.take_append_drop i zs)
          simp only [List.map_append, List.sum_append] at e
          unfold sumL
          omega
        refine ⟨b0', _, .ref t5, rfl, rfl, N5.get 3 rfl, by rw [List.length_map]; omega, ?_⟩
        have x6 := x5.trans (Tl.mut (o' := HO.lst (qs0.map V.ref ++ [.ref t5])) (N5.get 3 rfl) (fun _ => nofun))
        have N6 := N5.mut 3 (a := b0') (HO.lst (qs0.map V.ref ++ [.ref t5])) rfl
        generalize upd J5 b0' (HO.lst (qs0.map V.ref ++ [.ref t5])) = J6 at N6 x6 ⊢
        have x7 := (x3.trans x').trans x6
        refine ⟨S', O0 ++ [(r0.1, r0.2 ++ [(d, j)])], o4, tds', es0 ++ [(t0', b0', qs0 ++ [t5])], T + 1, _, _, _, by omega, rfl, ⟨?_, nm', paired_imp (fun _ _ z => RowTp.tl x6 z) rows', ?_⟩, ⟨?_, ?_, ?_, ?_⟩, bl.close hS hd⟩
        · have N7 : Lv H J6 ((b0', .lst (qs0.map V.ref ++ [.ref t5])) :: (a1, .lst (tds'.map V.ref)) :: (a2, NkO a2 o4) :: (a4, .lst (es0.map opR ++ [.ref t0'])) :: (c1, .lst (csOf zs)) :: es0.map opC) := N6.drop_ (.cons _ (.cons _ (.cons _ (.cons₂ _ (.cons _ (List.Sublist.refl _))))))
          rw [show TL a1 a2 a4 c1 o4 tds' (es0 ++ [(t0', b0', qs0 ++ [t5])]) (csOf zs) = ((a1, .lst (tds'.map V.ref)) :: (a2, NkO a2 o4) :: (a4, .lst (es0.map opR ++ [.ref t0'])) :: (c1, .lst (csOf zs)) :: es0.map opC) ++ [(b0', .lst (qs0.map V.ref ++ [.ref t5]))] by simp [TL, opC, opR]]
          exact N7.perm (List.perm_append_comm (l₁ := [_]))
        · refine pair_snoc ⟨x6 _ _ ht0', ?_⟩ (paired_imp (fun _ _ z => OpT.tl x7 z) op0)
          exact pair_snoc (show StpAt J6 t5 (d, j) from N6.get 0 rfl) (paired_imp (fun _ _ z => StpAt.tl x7 z) hq0)
        · have := paired_len op0
          simp
          omega
        · rcases hS with ⟨e, _⟩ | ⟨e, _, _⟩
          · rw [e]; omega
          · rw [e]; simp; omega
        · intro r m
          rcases hS with ⟨e, _⟩ | ⟨e, _, _⟩
          · rw [e] at m; have := bn.rs r m; omega
          · rw [e] at m
            rcases List.mem_append.mp m with m | m
            · have := bn.rs r m; omega
            · rw [List.mem_singleton.mp m]; have := bn.ro r1 (by simp); omega
        · intro r m
          rcases List.mem_append.mp m with m | m
          · have := bn.ro r (List.mem_append_left _ m); omega
          · rw [List.mem_singleton.mp m]; simp; omega
      · by_cases hm1 : r1 ∈ S
        · rw [decide_eq_false (fun z => z hm1)]
          obtain ⟨j, hj⟩ := List.mem_iff_getElem?.mp hm1
          exact iteF (qq _ _ ⟨S, o3, tds, j, rfl, N3, nm, rows3, fun _ _ e => e, bl.nd, hj, .inl ⟨rfl, hj⟩⟩)
        · rw [decide_eq_true hm1]
          have tk : sumL (zs.take i) ≤ sumL zs := by
            have e := congrArg (fun q => (q.map List.length).sum) (List.take_append_drop i zs)
            simp only [List.map_append, List.sum_append] at e
            unfold sumL
            omega
          refine iteT ⟨_, rfl, a1, _, rfl, .inl (SqL.of (N3.get 4 rfl)), _, rfl, _, rfl, a2, o3, td, tds, S, r1, rfl, rfl, by rw [List.length_map, lt], N3.get 5 rfl, nm, bl.nd, by omega, paired_imp (fun _ _ z => RowTp.at_ z) rows3, rtd.at_, hm1, fun o4 d4 => ?_⟩
          have y4 := Tl.mut (o' := NkO a2 o4) (N3.get 5 rfl) (fun _ => nofun)
          have N4 := N3.mut 5 (a := a2) (NkO a2 o4) rfl
          generalize upd J3 a2 (NkO a2 o4) = J4 at N4 y4 ⊢
          refine ⟨_, rfl, Or.inl ⟨rfl, _, SqL.of (N4.get 4 rfl)⟩, _, rfl, a1, _, .ref td, rfl, rfl, N4.get 4 rfl, by rw [List.length_map, lt]; omega, ?_⟩
          have y5' := y4.trans (Tl.mut (o' := HO.lst (tds.map V.ref ++ [.ref td])) (N4.get 4 rfl) (fun _ => nofun))
          have N5 := N4.mut 4 (a := a1) (HO.lst (tds.map V.ref ++ [.ref td])) rfl
          generalize upd J4 a1 (HO.lst (tds.map V.ref ++ [.ref td])) = J5 at N5 y5' ⊢
          refine qq _ _ ⟨S ++ [r1], o4, tds ++ [td], S.length, rfl, by rw [List.map_append]; exact N5, d4, pair_snoc (RowTp.tl y5' rtd) (paired_imp (fun _ _ z => RowTp.tl y5' z) rows3), y5', ?_, by simp, .inr ⟨rfl, rfl, hm1⟩⟩
          rw [List.nodup_append]
          exact ⟨bl.nd, by simp, fun a ha b hb => by cases List.mem_singleton.mp hb; exact fun z => hm1 (z ▸ ha)⟩
    · cases ot with
      | none =>
        subst hx
        refine ⟨_, rfl, rfl, true, rfl, iteT ?_⟩
        exact qq _ _ ⟨rfl, rfl⟩
      | some t =>
        subst hx
        have tm : t ∈ zs := List.mem_of_getElem? hot.symm
        have ltt := le_s t tm
        refine ⟨_, rfl, rfl, false, rfl, iteF ⟨_, rfl, _, rfl, B, t, rfl, by omega, by omega, _, rfl, line_le (by rw [tx_len, List.length_take]; omega), qq _ _ ⟨?_, rfl⟩⟩⟩
        rw [tx_len, List.length_take, Nat.min_eq_left (lcp_le B t).1]
        rfl
  · obtain ⟨B, S, O, o3, tds, es, T, P, y5, y6, y7, y8, y9, rfl, T6, bn, hP, lB, cs⟩ := z
    rcases cs with ⟨h, _⟩ | ⟨_, r, rfl, bl⟩
    · rw [show (csOf zs).length = zs.length + 1 by simp [csOf]] at h
      omega
    rw [List.take_of_length_le (by simp [csOf])] at bn hP
    obtain ⟨lv, nm, rows, op⟩ := T6
    cases op with
    | @cons e0 _ es0 _ h0 hn =>
    cases hn
    obtain ⟨t, b, qs⟩ := e0
    obtain ⟨ht, hq⟩ := h0
    have ht : H6 t = some (.tup [.bl r.1, .ref b]) := ht
    have f1 := lv.get 0 rfl
    have f4 := lv.get 2 rfl
    have fb := lv.get 4 rfl
    have f4 : H6 a4 = some (.lst [.ref t]) := f4
    have lq : qs.length = r.2.length := paired_len hq
    have lt : tds.length = S.length := paired_len rows
    have b1 := bn.t
    have b2 := bn.s
    have b3 := bn.ro r (by simp)
    have lO : [r].length = 1 := rfl
    have szL : (1000000 : Nat) < sizeLine := by rw [sizeLine_eq]; decide
    refine ⟨_, rfl, Or.inl ⟨rfl, _, SqL.of f1⟩, _, rfl, a4, [.ref t], 0, .ref t, rfl, rfl, SqL.of f4, rfl, t, [.bl r.1, .ref b], 0, .bl r.1, rfl, rfl, SqT.of ht, rfl, _, rfl, a4, [.ref t], 0, .ref t, rfl, rfl, SqL.of f4, rfl, t, [.bl r.1, .ref b], 1, .ref b, rfl, rfl, SqT.of ht, rfl, b, qs.map V.ref, rfl, .inl ⟨SqL.of fb, fun e1 k1 => ?_⟩⟩
    have x1 := Tl.of (Ex.new (o := HO.tup (qs.map V.ref)) k1)
    have M1 := lv.new (o := HO.tup (qs.map V.ref)) k1
    generalize upd H6 e1 (HO.tup (qs.map V.ref)) = J1 at M1 x1 ⊢
    refine ⟨nle' (by show 2 ≤ 1000; decide), fun e2 k2 => ?_⟩
    have x2 := x1.trans (Tl.of (Ex.new (o := HO.tup [V.bl r.1, V.ref e1]) k2))
    have M2 := M1.new (o := HO.tup [V.bl r.1, V.ref e1]) k2
    generalize upd J1 e2 (HO.tup [V.bl r.1, V.ref e1]) = J2 at M2 x2 ⊢
    refine ⟨a1, tds.map V.ref, .ref e2, rfl, rfl, M2.get 2 rfl, by rw [List.length_map, lt]; omega, ?_⟩
    have x3 := x2.trans (Tl.mut (o' := HO.lst (tds.map V.ref ++ [.ref e2])) (M2.get 2 rfl) (fun _ => nofun))
    have M3 := M2.mut 2 (a := a1) (HO.lst (tds.map V.ref ++ [.ref e2])) rfl
    generalize upd J2 a1 (HO.lst (tds.map V.ref ++ [.ref e2])) = J3 at M3 x3 ⊢
    obtain ⟨dn, ac, ok⟩ := bl.done
    refine ⟨_, rfl, _, rfl, a1, _, rfl, .inl (SqL.of (M3.get 2 rfl)), _, _, rfl, rfl, a1, S ++ [r], S.length, ?_, ⟨tds ++ [e2], ?_, ?_⟩, by simp, dn, by simp; omega, ?_, fun p' H' ord G x' rn lg st => ?_⟩
    · rw [List.length_append, List.length_map, lt]
      show [V.ref a1, V.int _] = _
      congr 3
      simp
    · rw [List.map_append]; exact M3.get 2 rfl
    · exact pair_snoc ⟨e1, qs, M3.get 0 rfl, SqT.of (M3.get 1 rfl), paired_imp (fun _ _ z => StpAt.tl x3 z) hq⟩ (paired_imp (fun _ _ z => (RowTp.tl x3 z).at_) rows)
    · intro r' m
      rcases List.mem_append.mp m with m | m
      · have := bn.rs r' m; omega
      · rw [List.mem_singleton.mp m]; omega
    · obtain ⟨au, al⟩ := rn.done dn ac (by omega) (by omega)
      refine q p' H' G _ (M3.ex.trans x') st au ?_ (fun r' m => ?_) fun v => ?_
      · have := nodup_le rn.nd rn.lt
        rw [lg]; simp at this; omega
      · obtain ⟨i', hi'⟩ := List.mem_iff_getElem?.mp m
        obtain ⟨old, R, g1, g2, rfl, g4⟩ := rn.gs i' r' hi'
        show (ren ord R.2).length ≤ _
        rw [ren, List.length_map]
        rcases List.mem_append.mp (List.mem_of_getElem? g2) with m | m
        · have := bn.rs R m; omega
        · rw [List.mem_singleton.mp m]; omega
      · rw [al, ok, hP]; exact zp.mem_iff
end
end Sk

/-! dict(steps) of any row of steps. -/
namespace Sk
open PySem PySem.Spec PyProof.Rows L2 Evl Lg
def movK (l : List (Nat × Nat)) : List (L2.Key × V) := l.map fun q => (.inr (one q.1), .int (q.2 : Int))
section
variable {X : Cx} {pins : List (Addr × Obj)} {σ : L2.St} {H : Hp} {s : Shared}
theorem steps_pairs (I : Inv X pins σ H s) : ∀ {qs : List Addr} {l : List (Nat × Nat)}, Paired (StpAt H) qs l → ∃ (us : List (Value × Value)) (kvs : List (L2.Key × Value)), us.length = l.length ∧ kvs.length = l.length ∧
    (∀ (i : Nat) k v, us[i]? = some (k, v) → ∃ q, qs[i]? = some q ∧ PairAt s.heap q k v) ∧ (∀ (i : Nat) k v, us[i]? = some (k, v) → ∃ y, kvs[i]? = some (y, v) ∧ (mixKind X.prog X.w).is y k = true) ∧ KV (movK l) kvs ∧ kvs.map (·.1) = l.map fun q => Sum.inr (one q.1)
  | _, _, .nil => ⟨[], [], rfl, rfl, (fun i k v e => by simp at e), (fun i k v e => by simp at e), .nil, rfl⟩
  | _, _, @Paired.cons _ _ _ q p qs l h t => by
    obtain ⟨us, kvs, h1, h2, h3, h4, h5, h6⟩ := steps_pairs I t
    have hb : H q = some (.tup [.str (one p.1), .int (p.2 : Int)]) := h
    obtain ⟨ib, rb, pb, hzb⟩ := I.tuple (SqT.of hb)
    obtain ⟨u2, u3, rfl, r2, r3⟩ := vals2 rb
    refine ⟨(u2, u3) :: us, (.inr (one p.1), u3) :: kvs, by simp [h1], by simp [h2], fun i k v e => ?_, fun i k v e => ?_, .cons ⟨rfl, r3⟩ h5, by simp [h6]⟩
    · cases i with
      | zero => cases e; exact ⟨q, rfl, .inl pb⟩
      | succ i =>
        obtain ⟨q', a, b⟩ := h3 i k v (by simpa using e)
        exact ⟨q', by simpa using a, b⟩
    · cases i with
      | zero => cases e; exact ⟨.inr (one p.1), rfl, kV_is (k := .inr (one p.1)) r2⟩
      | succ i =>
        obtain ⟨y, a, b⟩ := h4 i k v (by simpa using e)
        exact ⟨y, by simpa using a, b⟩
end
theorem refs_vals : ∀ {qs : List Addr} {us : List Value}, Vals (qs.map V.ref) us → us = qs.map Value.ref
  | [], _, .nil => rfl
  | q :: qs, _, .cons h t => by
    have h' : _ = Value.ref q := h
    rw [h', refs_vals t]
    rfl
theorem call_dictTG {X : Cx} (hcalm : X.calm = true) : CallR X (.type "dict") (fun xs H Q => ∃ a qs l, xs = [.ref a] ∧ Tq H a (qs.map V.ref) ∧ Paired (StpAt H) qs l ∧ (l.map (·.1)).Nodup ∧ l.length ≤ 100000 ∧ ∀ p, H p = none → Q (.ref p) (upd H p (.dK (movK l)))) := by
  intro pins s σ H xs us Q I r q
  obtain ⟨a, qs, l, rfl, ha, pq, nl, ll, q⟩ := q
  obtain ⟨u, rfl, rx⟩ := vals1 r
  cases (show u = Value.ref a from rx)
  have hm : (s.heap.objs.size == sysModules) = false := beq_eq_false_iff_ne.mpr (Nat.ne_of_gt I.big)
  obtain ⟨o, hd, e0⟩ := ha
  obtain ⟨g, hz, its, rv, o', g', c, n, dt⟩ := (show ObjOk X.prog X.w H s.heap a (.frz o (.tup (qs.map V.ref))) from I.hok _ _ e0)
  rw [g] at g'
  cases g'
  obtain rfl := refs_vals rv
  obtain ⟨us, kvs, l1, l2, h3, h4, h5, h6⟩ := steps_pairs I pq
  have nk : (kvs.map (·.1)).Nodup := by
    rw [h6]
    have : (l.map fun q => (Sum.inr (one q.1) : L2.Key)) = (l.map (·.1)).map fun c => Sum.inr (one c) := by rw [List.map_map]; rfl
    rw [this]
    refine List.pairwise_map.mpr (List.Pairwise.imp (fun {x y} n e => n ?_) nl)
    injection e with e
    unfold one at e
    injection e with e
    injection e with e
    injection e
  have lq : qs.length = l.length := paired_len pq
  exact PySem.call_dict_pairs (knd := mixKind X.prog X.w) (kvs := kvs) (PairArg.tuple a (qs.map Value.ref).toArray (fun i => (qs[i]?).getD 0) us) (I.ok.hd hcalm)
    ⟨⟨o, n, g, c, hd, dt⟩, by simp [lq, l1], fun j k v e => by
      obtain ⟨q', e1, e2⟩ := h3 j k v e
      have ed : (qs[j]?).getD 0 = q' := by rw [e1]; rfl
      show _ = some (Value.ref ((qs[j]?).getD 0)) ∧ PairAt s.heap ((qs[j]?).getD 0) k v
      rw [ed]
      refine ⟨?_, e2⟩
      simp [e1]⟩
    ⟨by rw [l1, l2], fun i k v e => h4 i k v e⟩ (by rw [l1, sizeLine_eq]; omega) fun h' tk d e => by
      rw [merged_nil_of_nodup kvs nk] at d
      exact ⟨.ref s.heap.objs.size, _, I.laid (fun b o z => e b o (fun m => nomatch m) z) (Nat.le_refl _) (show ObjOk X.prog X.w _ _ _ (.dK _) from ⟨by rw [movK, List.length_map, sizeLine_eq]; omega, hm, _, h5, d⟩), rfl, q _ (I.hok.fresh (Nat.le_refl _))⟩
end Sk

/-! moves_of_states of any automaton. -/
namespace Sk
open PySem PySem.Spec PyProof.Rows L2 Evl Lg
def MvAt (H : Hp) (a : Addr) (G : List Lg.Row) : Prop := ∃ ds e, H a = some (.lst (ds.map V.ref ++ [V.ref e])) ∧ Paired (fun d (r : Lg.Row) => H d = some (.dK (movK r.2))) ds G ∧ H e = some (.dK [])
theorem MvAt.mono {H H' : Hp} {a : Addr} {G : List Lg.Row} (x : Ex H H') (h : MvAt H a G) : MvAt H' a G := let ⟨ds, e, p, q, r⟩ := h; ⟨ds, e, x _ _ p, paired_imp (fun _ _ z => x _ _ z) q, x _ _ r⟩
def spMovG : Sp := fun vs H Q _ => ∃ (p : Addr) (G : List Lg.Row), vs = [.ref p] ∧ STq H p G ∧ (∀ r ∈ G, Asc r ∧ r.2.length ≤ 100000) ∧ G.length ≤ 100000 ∧ ∀ a H', Ex H H' → H a = none → MvAt H' a G → Q (.ref a) H'
section
variable {P : Program} {w : World} {K : PySem.W.Frag} {mg : Str → Option Value} {base : Heap} {f fA : Addr} {fd dA : FuncData}
theorem ok_movG {k : Nat} (F : Fun K "moves_of_states" "moves_of_states" sMoves f fd) (B : Blt mg) : FnOk P w K mg base CX0 (k + 1) f fd ["states"] spMovG := by
  refine F.ok scMov (fun vs H Q E h => ?_) (fun cdv A outer s H vs Q E hr h => ?_)
  · obtain ⟨_, _, rfl, _⟩ := h
    rfl
  have nd := scMov.nd
  obtain ⟨p, G, rfl, ⟨ss, hp, hss⟩, hG, lG, q⟩ := h
  have ls : ss.length = G.length := paired_len hss
  refine ⟨_, pss_one (ps_ret (pe_lst (StX.pa_star (pe_lc (own := [("_", 1), ("steps", 2)]) (g := gTup K 2 (gCons (gName 1) (gCons (gName 2) gNil))) (tt := tYes) (te := tCB (fun xs H Q => ∃ a qs l, xs = [.ref a] ∧ Tq H a (qs.map V.ref) ∧ Paired (StpAt H) qs l ∧ (l.map (·.1)).Nodup ∧ l.length ≤ 100000 ∧ ∀ p, H p = none → Q (.ref p) (upd H p (.dK (movK l)))) (tCons (tVar 2) tNil)) rfl nd (pi_list (pv 0)) (blkOk_by (N := NMov) (sc := defScope sMoves) (by decide +kernel))
          (fun _ _ _ _ _ => pg_tup rfl (pgs_cons (pg_name (i := 1) nd rfl (Or.inl rfl)) (pgs_cons (pg_name (i := 2) nd rfl (Or.inl rfl)) pgs_nil))) (fun _ _ _ _ _ => pts_nil) (fun _ _ _ _ _ => pe_callTy (call_dictTG rfl) rfl B.dict bt_dict (pa_cons (pv 2) pa_nil))) (pa_cons pe_dnewK pa_nil)))), ?_⟩
  refine ⟨_, rfl, p, rfl, ⟨_, SqL.of hp⟩, fun D hD => ?_⟩
  have M1 := (Lv.nil (Ex.refl H)).new (o := HO.lst []) hD
  refine lc_list (xs := ss.map V.ref) (fun n G1 => ∃ ds : List Addr, n ≤ G.length ∧ Lv H G1 [(D, .lst (ds.map V.ref))] ∧ Paired (fun d (r : Lg.Row) => G1 d = some (.dK (movK r.2))) ds (G.take n)) ⟨[], Nat.zero_le _, M1, .nil⟩ (fun n G1 _ z => ?_) (fun n y G1 hy z => ?_) (fun G1 z => ?_)
  · obtain ⟨ds, _, M, _⟩ := z
    exact SqL.of (M.ex _ _ hp)
  · obtain ⟨ds, nG, M, pd⟩ := z
    have hn : n < G.length := by
      have := (List.getElem?_eq_some_iff.mp hy).1
      simpa [ls] using this
    rw [List.getElem?_map] at hy
    obtain ⟨s0, hs0, rfl⟩ := Option.map_eq_some_iff.mp hy
    obtain ⟨R, hR, t, qs, r1, r2, r3⟩ := paired_atL hss hs0
    obtain ⟨aR, lR⟩ := hG R (List.mem_of_getElem? hR)
    have ld : ds.length = n := by have := paired_len pd; rw [List.length_take] at this; omega
    have tk : G.take (n + 1) = G.take n ++ [R] := by rw [List.take_add_one, hR]; rfl
    refine ⟨s0, _, rfl, SqT.of (M.ex _ _ r1), rfl, _, _, rfl, _, _, rfl, rfl, rfl, tyes ⟨_, rfl, t, qs, R.2, rfl, r2.mono M.ex, paired_imp (fun _ _ z => StpAt.nl (Nl.of M.ex) z) r3, ?_, lR, fun d1 m1 => ?_⟩⟩
    · exact List.Pairwise.imp (fun {x y} h => Nat.ne_of_lt h) aR
    have x2 := Ex.new (o := HO.dK (movK R.2)) m1
    have M2 := M.new (o := HO.dK (movK R.2)) m1
    generalize upd G1 d1 (HO.dK (movK R.2)) = G2 at M2 x2 ⊢
    refine ⟨ds.map V.ref, M2.get 1 rfl, by rw [List.length_map, ld, sizeLine_eq]; omega, ?_⟩
    have hD2 := M2.get 1 (a := D) rfl
    have h1 := M2.get 0 (a := d1) rfl
    have st : ∀ (b : Addr) (z : List (L2.Key × V)), G2 b = some (.dK z) → upd G2 D (HO.lst (ds.map V.ref ++ [V.ref d1])) b = some (.dK z) := fun b z e => by
      have : b ≠ D := fun q => by rw [q, hD2] at e; cases e
      rw [upd_ne this]; exact e
    have M3 := (M2.mut 1 (a := D) (HO.lst (ds.map V.ref ++ [V.ref d1])) rfl).tail
    refine ⟨ds ++ [d1], by omega, by rw [List.map_append]; exact M3, ?_⟩
    rw [tk]
    exact pair_snoc (R := fun d (r : Lg.Row) => upd G2 D (HO.lst (ds.map V.ref ++ [V.ref d1])) d = some (.dK (movK r.2))) (st _ _ h1) (paired_imp (fun _ _ z => st _ _ (x2 _ _ z)) pd)
  · obtain ⟨ds, _, M, pd⟩ := z
    rw [List.length_map, ls, List.take_length] at pd
    have ld : ds.length = G.length := paired_len pd
    refine ⟨D, _, rfl, .inr (SqL.of (M.get 0 rfl)), fun e1 k1 => ⟨by rw [List.length_append, List.length_map, ld, sizeLine_eq]; show G.length + 1 ≤ _; omega, fun l1 j1 => q l1 _ (M.ex.trans ((Ex.new k1).trans (Ex.new j1))) (ex_none' (M.ex.trans (Ex.new k1)) j1) ?_⟩⟩
    have x1 := (Ex.new (o := HO.dK []) k1).trans (Ex.new (o := HO.lst (ds.map V.ref ++ [V.ref e1])) j1)
    exact ⟨ds, e1, upd_same, paired_imp (fun _ _ z => x1 _ _ z) pd, (Ex.new j1) _ _ upd_same⟩
end
end Sk

/-! ascending_order, of any automaton. -/
namespace Sk
open PySem PySem.Spec PyProof.Rows L2 Evl Lg
def vL (f : Nat → Int) (n : Nat) : List V := (List.range n).map fun j => V.int (f j)
theorem vL_at {f : Nat → Int} {n j : Nat} (h : j < n) : (vL f n)[j]? = some (V.int (f j)) := by
  unfold vL
  rw [List.getElem?_map, List.getElem?_range h]
  rfl
theorem vL_len {f : Nat → Int} {n : Nat} : (vL f n).length = n := by simp [vL]
theorem vL_eq {f g : Nat → Int} {n : Nat} (h : ∀ j, j < n → f j = g j) : vL f n = vL g n := List.map_congr_left fun j m => by rw [h j (List.mem_range.mp m)]
theorem vL_set {f g : Nat → Int} {n j : Nat} {x : Int} (hj : g j = x) (h : ∀ i, i < n → i ≠ j → g i = f i) : (vL f n).set j (V.int x) = vL g n := by
  refine List.ext_getElem? fun i => ?_
  rw [List.getElem?_set, vL_len]
  by_cases hi : i < n
  · rw [vL_at hi]
    by_cases z : j = i
    · subst z; rw [if_pos rfl, if_pos hi, vL_at hi, hj]
    · rw [if_neg z, vL_at hi, h i hi (Ne.symm z)]
  · have h1 : ∀ f : Nat → Int, (vL f n)[i]? = none := fun f => List.getElem?_eq_none (by rw [vL_len]; omega)
    rw [h1, h1]
    by_cases z : j = i
    · rw [if_pos z, if_neg (by omega)]
    · rw [if_neg z]
theorem vL_rep {n : Nat} : List.replicate n (V.int 0) = vL (fun _ => 0) n := by
  refine List.ext_getElem? fun i => ?_
  by_cases hi : i < n
  · rw [vL_at hi, List.getElem?_replicate, if_pos hi]
  · have h1 : (vL (fun _ => 0) n)[i]? = none := List.getElem?_eq_none (by rw [vL_len]; omega)
    rw [h1, List.getElem?_replicate, if_neg hi]
theorem rep_flat {n : Nat} {v : V} : (List.replicate n [v]).flatten = List.replicate n v := by
  induction n with
  | zero => rfl
  | succ n ih => rw [List.replicate_succ, List.flatten_cons, ih, List.replicate_succ]; rfl
def spAscG (K : PySem.W.Frag) : Sp := fun vs H Q _ => ∃ (p : Addr) (G : List Lg.Row) (rk : Nat → Nat), vs = [.ref p] ∧ SAt K H p G ∧ Aut G rk ∧ G.length ≤ 100000 ∧
  ∀ a H' ord, Ex H H' → H' a = some (.lst (oL ord)) → Kh G ord ord.length [] → Q (.ref a) H'
theorem oL_len {o : List Nat} : (oL o).length = o.length := List.length_map _
theorem oL_at {o : List Nat} {i a : Nat} (h : o[i]? = some a) : (oL o)[i]? = some (V.int (a : Int)) := by rw [oL, List.getElem?_map, h]; rfl
theorem wt_step {G : List Lg.Row} {ord cur : List Nat} {k j i : Nat} : wt G ord k (cur ++ [j]) i = wt G ord k cur i - (if i = j then 1 else 0) := by
  unfold wt
  rw [List.count_append, List.count_singleton]
  by_cases z : i = j
  · subst z; simp; omega
  · rw [if_neg z, if_neg (by simpa using Ne.symm z)]; omega
theorem wt_ord {G : List Lg.Row} {ord cur more : List Nat} {k i : Nat} (h : k ≤ ord.length) : wt G (ord ++ more) k cur i = wt G ord k cur i := by
  unfold wt
  rw [List.take_append_of_le_length h]
theorem wt_next {G : List Lg.Row} {ord : List Nat} {k i j : Nat} (h : ord[k]? = some i) : wt G ord (k + 1) [] j = wt G ord k (tgs G i) j := by
  unfold wt
  rw [List.take_add_one, h, sm_app, List.count_nil]
  show _ - ((sm (cn G j) (ord.take k) + sm (cn G j) [i] : Nat) : Int) - _ = _
  rw [sm_cons, show sm (cn G j) [] = 0 from rfl]
  unfold cn
  omega
def AsW (H : Hp) (G : List Lg.Row) (p a0 a1 a2 : Addr) (m : Nat) (σ : L2.St) (H' : Hp) : Prop := ∃ (ord : List Nat) (k : Nat) (y2 y3 y4 : Option V), m = G.length - k ∧ σ = [some (.ref p), some (.ref a1), y2, y3, y4, some (.ref a2), some (.int (k : Int))] ∧
  Lv H H' [(a2, .lst (oL ord)), (a1, .lst (vL (wt G ord k []) G.length)), (a0, .lst [V.int 0])] ∧ Kh G ord k []
section
variable {P : Program} {w : World} {K : PySem.W.Frag} {mg : Str → Option Value} {base : Heap} {f : Addr} {fd : FuncData}
theorem ok_ascG {k0 : Nat} (F0 : Fun K "ascending_order" "ascending_order" sAscend f fd) (B : Blt mg) : FnOk P w K mg base CX0 (k0 + 1) f fd ["states"] (spAscG K) := by
  refine F0.ok scAsc (fun vs H Q E h => ?_) (fun cdv A0 outer s H vs Q E hr h => ?_)
  · obtain ⟨_, _, _, rfl, _⟩ := h
    rfl
  have nd := scAsc.nd
  obtain ⟨p, G, rk, rfl, ⟨ss, hp, hss⟩, A, lG, q⟩ := h
  have lss : ss.length = G.length := paired_len hss
  refine ⟨_, pss_cons (ps_set (i := 1) nd rfl (Or.inl rfl) (pe_op op_rep (pe_lst (pa_cons pe_int pa_nil)) (pe_callB call_len_seq rfl B.len PySem.boot_len (pa_cons (pv 0) pa_nil))))
    (pss_cons (ps_for PassesOwn.never rfl (pi_list (pv 0)) (pg_tup rfl (pgs_cons (pg_name (i := 2) nd rfl (Or.inl rfl)) (pgs_cons (pg_name (i := 3) nd rfl (Or.inl rfl)) pgs_nil)))
      (pss_one (ps_for PassesOwn.never rfl (pi_tup (pv 3)) (pg_tup rfl (pgs_cons (pg_name (i := 2) nd rfl (Or.inl rfl)) (pgs_cons (pg_name (i := 4) nd rfl (Or.inl rfl)) pgs_nil)))
        (pss_one (ps_asg (pe_op op_add (pe_ix ix_list (pv 1) (pv 4) (fun _ _ => rfl)) pe_int) (pg_sub (pv 1) (pv 4) set_list))))))
    (pss_cons (ps_set (i := 5) nd rfl (Or.inl rfl) (pe_lst (pa_cons pe_int pa_nil)))
    (pss_cons (ps_set (i := 6) nd rfl (Or.inl rfl) pe_int)
    (pss_cons (ps_while PassesOwn.never (pt_cmpR op_lt (pv 6) (pe_callB call_len_seq rfl B.len PySem.boot_len (pa_cons (pv 5) pa_nil)) (nomark _))
      (pss_cons (ps_for PassesOwn.never rfl (pi_tup (pe_ix ix_tup (pe_ix ix_list (pv 0) (pe_ix ix_list (pv 5) (pv 6) (fun _ _ => rfl)) (fun _ _ => rfl)) pe_int (fun _ _ => rfl))) (pg_tup rfl (pgs_cons (pg_name (i := 2) nd rfl (Or.inl rfl)) (pgs_cons (pg_name (i := 4) nd rfl (Or.inl rfl)) pgs_nil)))
        (pss_cons (ps_asg (pe_op op_sub (pe_ix ix_list (pv 1) (pv 4) (fun _ _ => rfl)) pe_int) (pg_sub (pv 1) (pv 4) set_list))
        (pss_one (ps_if (pt_cmpR op_eq (pe_ix ix_list (pv 1) (pv 4) (fun _ _ => rfl)) pe_int (nomark _)) (pss_one (ps_expr (pe_bm PySem.F.plainAttrs_list PySem.F.slot_list_append PySem.F.type_list_append mt_append (pv 5) (pa_cons (pv 4) pa_nil)))) pss_nil))))
      (pss_one (ps_set (i := 6) nd rfl (Or.inl rfl) (pe_op op_add (pv 6) pe_int)))))
    (pss_one (ps_ret (pv 5))))))), ?_⟩
  refine ⟨nle' (by show 1 ≤ 1000; decide), fun a0 n0 => ?_⟩
  have L0 := (Lv.nil (Ex.refl H)).new (o := HO.lst [V.int 0]) n0
  generalize upd H a0 (HO.lst [V.int 0]) = G0 at L0 ⊢
  refine ⟨_, rfl, p, _, rfl, .inl (SqL.of (L0.ex _ _ hp)), a0, _, _, rfl, rfl, L0.get 0 rfl, by omega, by rw [List.length_map]; omega, by rw [List.length_map, lss]; simp; rw [sizeLine_eq]; omega, fun a1 n1 => ?_⟩
  rw [List.length_map, lss, Int.toNat_natCast, rep_flat, vL_rep]
  have L1 := L0.new (o := HO.lst (vL (fun _ => 0) G.length)) n1
  generalize upd G0 a1 (HO.lst (vL (fun _ => 0) G.length)) = G1 at L1 ⊢
  refine ⟨_, rfl, p, rfl, ⟨_, SqL.of (L1.ex _ _ hp)⟩, for_list (xs := ss.map V.ref) (fun i σ H' => ∃ y2 y3 y4, σ = [some (.ref p), some (.ref a1), y2, y3, y4, none, none] ∧ Lv H H' [(a1, .lst (vL (fun j => (sm (cn G j) (List.range i) : Int)) G.length)), (a0, .lst [V.int 0])])
    ⟨none, none, none, rfl, L1⟩ (fun i σ H' _ z => ?_) (fun i x σ H' hx z => ?_) (fun σ H' z => ?_)⟩
  · obtain ⟨_, _, _, _, L⟩ := z
    exact SqL.of (L.ex _ _ hp)
  · obtain ⟨y2, y3, y4, rfl, L⟩ := z
    have li := (List.getElem?_eq_some_iff.mp hx).1
    rw [List.length_map, lss] at li
    rw [List.getElem?_map] at hx
    obtain ⟨s0, hs0, rfl⟩ := Option.map_eq_some_iff.mp hx
    obtain ⟨R, hR, t, qs, r1, r2, r3⟩ := paired_atL hss hs0
    have lqs : qs.length = R.2.length := paired_len r3
    refine ⟨s0, _, rfl, SqT.of (L.ex _ _ r1), rfl, _, _, rfl, _, _, rfl, rfl, ?_⟩
    refine ⟨_, rfl, t, rfl, ⟨_, sq_mono' L.ex r2⟩, for_tup (xs := qs.map V.ref) (fun i' σ H6 => ∃ y2 y4, σ = [some (.ref p), some (.ref a1), y2, some (.ref t), y4, none, none] ∧ Lv H H6 [(a1, .lst (vL (fun j => (sm (cn G j) (List.range i) : Int) + (((tgs G i).take i').count j : Int)) G.length)), (a0, .lst [V.int 0])])
      ⟨_, _, rfl, by simpa using L⟩ (fun i' σ H6 _ z => ?_) (fun i' x σ H6 hx z => ?_) (fun σ H6 z => ?_)⟩
    · obtain ⟨_, _, _, L6⟩ := z
      exact sq_mono' L6.ex r2
    · obtain ⟨y2, y4, rfl, L6⟩ := z
      rw [List.getElem?_map] at hx
      obtain ⟨q0, hq0, rfl⟩ := Option.map_eq_some_iff.mp hx
      obtain ⟨⟨c, j⟩, hcj, hq⟩ := paired_atL r3 hq0
      have hq : H q0 = some (.tup [.str (one c), .int (j : Int)]) := hq
      have jG : j < G.length := A.tgt i R hR _ (List.mem_of_getElem? hcj)
      have tk : (tgs G i).take (i' + 1) = (tgs G i).take i' ++ [j] := by
        rw [List.take_add_one, tgs_at hR, List.getElem?_map, hcj]
        rfl
      refine ⟨q0, _, rfl, SqT.of (L6.ex _ _ hq), rfl, _, _, rfl, _, _, rfl, rfl, ?_⟩
      refine ⟨_, rfl, _, rfl, a1, _, _, _, rfl, rfl, SqL.of (L6.get 0 rfl), atI_nat (vL_at jG), _, _, rfl, rfl, _, rfl, _, rfl, a1, _, _, j, rfl, rfl, L6.get 0 rfl, ?_, ?_⟩
      · unfold ixN; rw [if_pos (by omega), if_pos (by rw [vL_len]; omega)]; simp
      rw [vL_set (g := fun j' => (sm (cn G j') (List.range i) : Int) + (((tgs G i).take (i' + 1)).count j' : Int)) (by rw [tk, List.count_append]; simp; omega) (fun x _ nx => by rw [tk, List.count_append, List.count_singleton, if_neg (by simpa using Ne.symm nx)]; omega)]
      exact ⟨_, _, rfl, L6.mut 0 _ rfl⟩
    · obtain ⟨y2, y4, rfl, L6⟩ := z
      rw [List.length_map, lqs, List.take_of_length_le (by rw [tgs_at hR, List.length_map]; exact Nat.le_refl _)] at L6
      refine ⟨_, _, _, rfl, ?_⟩
      rw [vL_eq (g := fun j => (sm (cn G j) (List.range (i + 1)) : Int)) (fun j _ => by rw [List.range_succ, sm_app, sm_cons, show sm (cn G j) [] = 0 from rfl]; unfold cn; omega)] at L6
      exact L6
  obtain ⟨y2, y3, y4, rfl, L⟩ := z
  rw [List.length_map, lss] at L
  refine ⟨nle' (by show 1 ≤ 1000; decide), fun a2 n2 => ?_⟩
  have L2' := L.new (o := HO.lst [V.int 0]) n2
  generalize upd H' a2 (HO.lst [V.int 0]) = G2 at L2' ⊢
  refine ⟨AsW H G p a0 a1 a2, ⟨_, [0], 0, _, _, _, rfl, rfl, ?_, kh_start A⟩, ?_⟩
  · rw [vL_eq (g := wt G [0] 0 []) (fun j _ => by unfold wt; simp [sm])] at L2'
    exact L2'
  rintro m σ H1 ⟨ord, k, y2, y3, y4, rfl, rfl, L3, kh⟩
  have lo : ord.length ≤ G.length := nodup_le kh.nd kh.lt
  refine ⟨_, rfl, _, rfl, a2, _, rfl, .inl (SqL.of (L3.get 0 rfl)), _, _, rfl, rfl, _, rfl, ?_⟩
  rw [oL_len]
  by_cases hlt : k < ord.length
  case neg =>
    rw [decide_eq_false (by omega)]
    have e : k = ord.length := by have := kh.al; omega
    subst e
    exact iteF ⟨_, rfl, q a2 H1 ord L3.ex (L3.get 0 rfl) kh⟩
  rw [decide_eq_true (by omega)]
  refine iteT ⟨AsW H G p a0 a1 a2 (G.length - (k + 1)), fun σ' H'' z => ⟨_, by omega, z⟩, ?_⟩
  have ho : ord[k]? = some ord[k] := List.getElem?_eq_getElem hlt
  generalize ord[k] = i at ho
  have iG : i < G.length := kh.lt i (List.mem_of_getElem? ho)
  have hR : G[i]? = some G[i] := List.getElem?_eq_getElem iG
  generalize G[i] = R at hR
  obtain ⟨s0, hs0, t, qs, r1, r2, r3⟩ := paired_at hss hR
  have lqs : qs.length = R.2.length := paired_len r3
  refine ⟨_, rfl, _, rfl, _, rfl, a2, _, _, .int (i : Int), rfl, rfl, SqL.of (L3.get 0 rfl), atI_nat (oL_at ho), p, _, _, .ref s0, rfl, rfl, SqL.of (L3.ex _ _ hp), atI_nat (by rw [List.getElem?_map, hs0]; rfl), s0, _, 1, .ref t, rfl, rfl, SqT.of (L3.ex _ _ r1), rfl, t, rfl, ⟨_, sq_mono' L3.ex r2⟩,
    for_tup (xs := qs.map V.ref) (fun i' σ H6 => ∃ (ord' : List Nat) (y2 y4 : Option V), σ = [some (.ref p), some (.ref a1), y2, y3, y4, some (.ref a2), some (.int (k : Int))] ∧ Lv H H6 [(a2, .lst (oL ord')), (a1, .lst (vL (wt G ord' k ((tgs G i).take i')) G.length)), (a0, .lst [V.int 0])] ∧ Kh G ord' k ((tgs G i).take i') ∧ ord'[k]? = some i)
      ⟨ord, _, _, rfl, L3, kh, ho⟩ (fun i' σ H6 _ z => ?_) (fun i' x σ H6 hx z => ?_) (fun σ H6 z => ?_)⟩
  · obtain ⟨_, _, _, _, L6, _⟩ := z
    exact sq_mono' L6.ex r2
  · obtain ⟨ord', y2, y4, rfl, L6, kh6, ho6⟩ := z
    rw [List.getElem?_map] at hx
    obtain ⟨q0, hq0, rfl⟩ := Option.map_eq_some_iff.mp hx
    obtain ⟨⟨c, j⟩, hcj, hq⟩ := paired_atL r3 hq0
    have hq : H q0 = some (.tup [.str (one c), .int (j : Int)]) := hq
    have jG : j < G.length := A.tgt i R hR _ (List.mem_of_getElem? hcj)
    have tj : (tgs G i)[i']? = some j := by rw [tgs_at hR, List.getElem?_map, hcj]; rfl
    have tk : (tgs G i).take (i' + 1) = (tgs G i).take i' ++ [j] := by rw [List.take_add_one, tj]; rfl
    have td : tgs G i = (tgs G i).take i' ++ j :: (tgs G i).drop (i' + 1) := by
      obtain ⟨hi, e⟩ := List.getElem?_eq_some_iff.mp tj
      rw [← e, ← List.drop_eq_getElem_cons hi, List.take_append_drop]
    obtain ⟨st1, st2⟩ := kh6.step A ho6 td
    have lo6 : ord'.length ≤ G.length := nodup_le kh6.nd kh6.lt
    refine ⟨q0, _, rfl, SqT.of (L6.ex _ _ hq), rfl, _, _, rfl, _, _, rfl, rfl, ?_⟩
    refine ⟨_, rfl, _, rfl, a1, _, _, _, rfl, rfl, SqL.of (L6.get 1 rfl), atI_nat (vL_at jG), _, _, rfl, rfl, _, rfl, _, rfl, a1, _, _, j, rfl, rfl, L6.get 1 rfl, ?_, ?_⟩
    · unfold ixN; rw [if_pos (by omega), if_pos (by rw [vL_len]; omega)]; simp
    rw [vL_set (g := wt G ord' k ((tgs G i).take (i' + 1))) (by rw [tk, wt_step, if_pos rfl]) (fun x _ nx => by rw [tk, wt_step, if_neg nx]; omega)]
    have L7 := L6.mut 1 (a := a1) (HO.lst (vL (wt G ord' k ((tgs G i).take (i' + 1))) G.length)) rfl
    generalize upd H6 a1 (HO.lst (vL (wt G ord' k ((tgs G i).take (i' + 1))) G.length)) = G7 at L7 ⊢
    refine ⟨_, rfl, _, rfl, a1, _, _, _, rfl, rfl, SqL.of (L7.get 1 rfl), atI_nat (vL_at jG), rfl, _, rfl, ?_⟩
    by_cases w0 : wt G ord' k ((tgs G i).take (i' + 1)) j = 0
    · rw [w0, decide_eq_true rfl]
      refine iteT ⟨_, rfl, Or.inl ⟨rfl, _, SqL.of (L7.get 0 rfl)⟩, _, rfl, a2, _, .int (j : Int), rfl, rfl, L7.get 0 rfl, by rw [oL_len, sizeLine_eq]; omega, ?_⟩
      rw [show oL ord' ++ [V.int (j : Int)] = oL (ord' ++ [j]) by simp [oL]]
      have L8 := L7.mut 0 (a := a2) (HO.lst (oL (ord' ++ [j]))) rfl
      refine ⟨ord' ++ [j], _, _, rfl, ?_, by rw [tk]; exact st1 (by rw [← tk]; exact w0), by rw [List.getElem?_append_left (List.getElem?_eq_some_iff.mp ho6).1]; exact ho6⟩
      rw [vL_eq (f := wt G (ord' ++ [j]) k ((tgs G i).take (i' + 1))) (g := wt G ord' k ((tgs G i).take (i' + 1))) fun j' _ => wt_ord kh6.al]
      exact L8
    · rw [decide_eq_false (by intro z; injection z with z; exact w0 z)]
      exact iteF ⟨ord', _, _, rfl, L7, by rw [tk]; exact st2 (by rw [← tk]; exact w0), ho6⟩
  · obtain ⟨ord', y2, y4, rfl, L6, kh6, ho6⟩ := z
    have ef : (tgs G i).take (qs.map V.ref).length = tgs G i := List.take_of_length_le (by rw [List.length_map, lqs, tgs_at hR, List.length_map]; exact Nat.le_refl _)
    rw [ef] at L6 kh6
    refine ⟨_, rfl, _, _, rfl, rfl, ord', k + 1, _, _, _, rfl, rfl, ?_, kh6.next ho6⟩
    rw [vL_eq (f := wt G ord' (k + 1) []) (g := wt G ord' k (tgs G i)) fun j _ => wt_next ho6]
    exact L6
end
end Sk

/-! counts_of, of any automaton. -/
namespace Sk
open PySem PySem.Spec PyProof.Rows L2 Evl Lg
theorem stepV_rev (xs : List V) : stepV xs (-1) = xs.reverse := by
  unfold stepV
  rw [PySem.W.krv_bounds]
  show (sliceRange ((xs.length : Int) - 1) (-1) (-1)).filterMap (xs[·]?) = _
  rw [PySem.W.krv_sliceRange, PySem.W.krv_range, List.filterMap_reverse]
  have := PySem.W.krv_all xs.toArray
  simp at this
  rw [this]
def mL (G : List Lg.Row) (rk : Nat → Nat) (dn : List Nat) : List V := vL (fun i => if i ∈ dn then (many G rk i : Int) else 0) G.length
def spCntG (K : PySem.W.Frag) : Sp := fun vs H Q _ => ∃ (p : Addr) (G : List Lg.Row) (rk : Nat → Nat), vs = [.ref p] ∧ SAt K H p G ∧ Aut G rk ∧ G.length ≤ 100000 ∧ (∀ r ∈ G, r.2.length ≤ 100000) ∧
  ∀ a H', Ex H H' → H a = none → H' a = some (.lst (vL (fun i => (many G rk i : Int)) G.length)) → Q (.ref a) H'
theorem sum_cast (l : List Nat) : (l.map fun (n : Nat) => (n : Int)).sum = ((l.sum : Nat) : Int) := by
  induction l with
  | nil => rfl
  | cons a l ih => rw [List.map_cons, List.sum_cons, List.sum_cons, ih]; omega
section
variable {P : Program} {w : World} {K : PySem.W.Frag} {mg : Str → Option Value} {base : Heap} {f fA : Addr} {fd dA : FuncData}
theorem ok_cntG (F0 : Fun K "counts_of" "counts_of" sCounts f fd) (B : Blt mg) (ms : mg "sum" = none) (As : Lt P w K mg base fA dA "ascending_order" ["states"] 1 (spAscG K)) : FnOk P w K mg base CX0 2 f fd ["states"] (spCntG K) := by
  refine F0.ok scCnt (fun vs H Q E h => ?_) (fun cdv A0 outer s H vs Q E hr h => ?_)
  · obtain ⟨_, _, _, rfl, _⟩ := h
    rfl
  have nd := scCnt.nd
  obtain ⟨p, G, rk, rfl, sat, A, lG, lr, q⟩ := h
  obtain ⟨ss, hp, hss⟩ := id sat
  have lss : ss.length = G.length := paired_len hss
  refine ⟨_, pss_cons (ps_set (i := 1) nd rfl (Or.inr rfl) (pe_op op_rep (pe_lst (pa_cons pe_int pa_nil)) (pe_callB call_len_seq rfl B.len PySem.boot_len (pa_cons (pv 0) pa_nil))))
    (pss_cons (ps_for PassesOwn.never rfl (pi_list (pe_stepD (pe_call As.g hr rfl As.m As.k As.b .nil pass0 (pa_cons (pv 0) pa_nil)) (pe_un un_neg pe_int))) (pg_name (i := 2) nd rfl (Or.inl rfl))
      (pss_cons (ps_asg (pe_ix ix_list (pv 0) (pv 2) (fun _ _ => rfl)) (pg_tup rfl (pgs_cons (pg_name (i := 3) nd rfl (Or.inl rfl)) (pgs_cons (pg_name (i := 4) nd rfl (Or.inl rfl)) pgs_nil))))
      (pss_one (ps_asg (pe_op op_add (pe_callTy call_int1 rfl B.int bt_int (pa_cons (pv 3) pa_nil)) (pe_callB (cr_sum rfl) rfl ms bt_sum (pa_cons (pe_lc (own := [("_", 5), ("later", 6)]) (g := gTup K 2 (gCons (gName 5) (gCons (gName 6) gNil))) (tt := tYes) (te := tOp (rIxL K) (tVar 1) (tVar 6)) rfl nd (pi_tup (pv 4)) (blkOk_by (N := NCnt) (sc := defScope sCounts) (by decide +kernel))
          (fun _ _ _ _ _ => pg_tup rfl (pgs_cons (pg_name (i := 5) nd rfl (Or.inl rfl)) (pgs_cons (pg_name (i := 6) nd rfl (Or.inl rfl)) pgs_nil))) (fun _ _ _ _ _ => pts_nil) (fun _ _ _ _ _ => pe_ix ix_list (pv 1) (pv 6) (fun _ _ => rfl))) pa_nil)))
        (pg_sub (pv 1) (pv 2) set_list)))))
    (pss_one (ps_ret (pv 1)))), ?_⟩
  refine ⟨nle' (by show 1 ≤ 1000; decide), fun a0 n0 => ?_⟩
  have L0 := (Lv.nil (Ex.refl H)).new (o := HO.lst [V.int 0]) n0
  generalize upd H a0 (HO.lst [V.int 0]) = G0 at L0 ⊢
  refine ⟨_, rfl, p, _, rfl, .inl (SqL.of (L0.ex _ _ hp)), a0, _, _, rfl, rfl, L0.get 0 rfl, by omega, by rw [List.length_map]; omega, by rw [List.length_map, lss]; simp; rw [sizeLine_eq]; omega, fun a1 n1 => ?_⟩
  rw [List.length_map, lss, Int.toNat_natCast, rep_flat, vL_rep]
  have L1 := L0.new (o := HO.lst (vL (fun _ => 0) G.length)) n1
  generalize upd G0 a1 (HO.lst (vL (fun _ => 0) G.length)) = G1 at L1 ⊢
  refine ⟨_, rfl, p, G, rk, rfl, sat.mono L1.ex, A, lG, fun b0 Hx ord xx ex kh => ?_⟩
  obtain ⟨all, beh⟩ := kh.done A
  have Lx := L1.ext xx
  refine ⟨_, rfl, b0, _, -1, rfl, rfl, by decide, SqL.of ex, fun c0 m0 => ?_⟩
  rw [stepV_rev]
  have Ly := Lx.new (o := HO.lst (oL ord).reverse) m0
  generalize upd Hx c0 (HO.lst (oL ord).reverse) = Gy at Ly ⊢
  have er : (oL ord).reverse = oL ord.reverse := by simp [oL]
  rw [er] at Ly
  refine ⟨c0, rfl, ⟨_, SqL.of (Ly.get 0 rfl)⟩, for_list (xs := oL ord.reverse) (fun i σ H' => ∃ y2 y3 y4 y5 y6, σ = [some (.ref p), some (.ref a1), y2, y3, y4, y5, y6] ∧ Lv H H' [(c0, .lst (oL ord.reverse)), (a1, .lst (mL G rk (ord.reverse.take i))), (a0, .lst [V.int 0])])
    ⟨none, none, none, none, none, rfl, ?_⟩ (fun i σ H' _ z => ?_) (fun i x σ H' hx z => ?_) (fun σ H' z => ?_)⟩
  · unfold mL
    rw [vL_eq (g := fun _ => 0) fun j _ => by simp]
    exact Ly
  · obtain ⟨_, _, _, _, _, _, L⟩ := z
    exact SqL.of (L.get 0 rfl)
  · obtain ⟨y2, y3, y4, y5, y6, rfl, L⟩ := z
    rw [oL, List.getElem?_map] at hx
    obtain ⟨a, ha, rfl⟩ := Option.map_eq_some_iff.mp hx
    have am : a ∈ ord := List.mem_reverse.mp (List.mem_of_getElem? ha)
    have aG : a < G.length := kh.lt a am
    have hR : G[a]? = some G[a] := List.getElem?_eq_getElem aG
    generalize G[a] = R at hR
    obtain ⟨s0, hs0, t, qs, r1, r2, r3⟩ := paired_at hss hR
    have lqs : qs.length = R.2.length := paired_len r3
    have lR : R.2.length ≤ 100000 := lr R (List.mem_of_getElem? hR)
    -- what comes behind is done
    have dn : ∀ j ∈ tgs G a, j ∈ ord.reverse.take i := fun j mj => by
      obtain ⟨li, e⟩ := List.getElem?_eq_some_iff.mp ha
      have e2 : ord.reverse = ord.reverse.take i ++ a :: ord.reverse.drop (i + 1) := by
        rw [← e, ← List.drop_eq_getElem_cons li, List.take_append_drop]
      have e3 : ord = (ord.reverse.drop (i + 1)).reverse ++ a :: (ord.reverse.take i).reverse := by
        have := congrArg List.reverse e2
        rw [List.reverse_reverse, List.reverse_append, List.reverse_cons, List.append_assoc] at this
        exact this
      exact List.mem_reverse.mp (beh _ _ a e3 j mj)
    refine ⟨_, rfl, _, rfl, p, _, _, .ref s0, rfl, rfl, SqL.of (L.ex _ _ hp), atI_nat (by rw [List.getElem?_map, hs0]; rfl), s0, _, rfl, SqT.of (L.ex _ _ r1), rfl, _, _, rfl, _, _, rfl, rfl, ?_⟩
    refine ⟨_, rfl, .inr ⟨R.1, rfl, _, rfl, t, rfl, ⟨_, sq_mono' L.ex r2⟩, fun D hD => ?_⟩⟩
    have LD := L.new (o := HO.lst []) hD
    refine lc_tup (xs := qs.map V.ref) (fun i' H6 => Lv H H6 [(D, .lst (((R.2.take i').map fun q => (many G rk q.2 : Int)).map V.int)), (c0, .lst (oL ord.reverse)), (a1, .lst (mL G rk (ord.reverse.take i))), (a0, .lst [V.int 0])]) (by simpa using LD) (fun i' H6 _ z => sq_mono' z.ex r2) (fun i' x H6 hx z => ?_) (fun H6 z => ?_)
    · rw [List.getElem?_map] at hx
      obtain ⟨q0, hq0, rfl⟩ := Option.map_eq_some_iff.mp hx
      obtain ⟨⟨c, j⟩, hcj, hq⟩ := paired_atL r3 hq0
      have hq : H q0 = some (.tup [.str (one c), .int (j : Int)]) := hq
      have jG : j < G.length := A.tgt a R hR _ (List.mem_of_getElem? hcj)
      have jm : j ∈ ord.reverse.take i := dn j (tgs_mem.mpr ⟨R, hR, c, List.mem_of_getElem? hcj⟩)
      have li' := (List.getElem?_eq_some_iff.mp hcj).1
      refine ⟨q0, _, rfl, SqT.of (z.ex _ _ hq), rfl, _, _, rfl, _, _, rfl, rfl, rfl, tyes ⟨_, rfl, _, rfl, a1, _, _, _, rfl, rfl, SqL.of (z.get 2 rfl), atI_nat (vL_at jG), _, z.get 0 rfl, by simp; rw [sizeLine_eq]; omega, ?_⟩⟩
      have L7 := z.mut 0 (a := D) (HO.lst ((((R.2.take i').map fun q => (many G rk q.2 : Int)).map V.int) ++ [V.int (if j ∈ ord.reverse.take i then (many G rk j : Int) else 0)])) rfl
      rw [List.take_add_one, hcj]
      rw [if_pos jm] at L7 ⊢
      simpa using L7
    · rw [List.length_map, lqs, List.take_length] at z
      refine ⟨D, _, rfl, SqL.of (z.get 0 rfl), _, _, rfl, rfl, _, rfl, _, rfl, a1, _, _, a, rfl, rfl, z.get 2 rfl, ?_, ?_⟩
      · unfold ixN mL; rw [if_pos (by omega), if_pos (by rw [vL_len]; omega)]; simp
      have em : (many G rk a : Int) = (if R.1 = true then 1 else 0) + (R.2.map fun q => (many G rk q.2 : Int)).sum := by
        rw [many_row A hR]
        have := sum_cast (R.2.map fun q => many G rk q.2)
        rw [List.map_map] at this
        rw [show (R.2.map fun q => (many G rk q.2 : Int)).sum = (List.map ((fun (n : Nat) => (n : Int)) ∘ fun q => many G rk q.2) R.2).sum from rfl, this]
        by_cases b : R.1 = true
        · rw [if_pos b, if_pos b]; omega
        · rw [if_neg b, if_neg b]; omega
      have tk : ord.reverse.take (i + 1) = ord.reverse.take i ++ [a] := by rw [List.take_add_one, ha]; rfl
      unfold mL
      rw [vL_set (g := fun j => if j ∈ ord.reverse.take (i + 1) then (many G rk j : Int) else 0) (by rw [tk, if_pos (by simp)]; exact em) (fun x _ nx => by
        rw [tk]
        by_cases m : x ∈ ord.reverse.take i
        · rw [if_pos m, if_pos (List.mem_append_left _ m)]
        · rw [if_neg m, if_neg (fun y => (List.mem_append.mp y).elim m fun y => nx (List.mem_singleton.mp y))])]
      exact ⟨_, _, _, _, _, rfl, (z.mut 2 (a := a1) _ rfl).tail⟩
  · obtain ⟨y2, y3, y4, y5, y6, rfl, L⟩ := z
    rw [oL_len, List.take_length] at L
    have e := L.get 1 rfl
    unfold mL at e
    rw [vL_eq (g := fun i => (many G rk i : Int)) fun j hj => by rw [if_pos (List.mem_reverse.mpr (all j hj))]] at e
    exact ⟨_, rfl, q a1 H' L.ex (L.off _ (List.mem_cons_of_mem _ (List.mem_cons_self ..))) e⟩
end
end Sk

/-! Steps turned round, put together. -/
namespace Sk
open PySem PySem.Spec PyProof.Rows L2 Evl
theorem scTurn : FnScope ["step"] ["step"] (defScope sTurn) := ⟨rfl, rfl, rfl, by decide +kernel, rfl, by decide +kernel, by decide +kernel⟩
theorem scComp : FnScope ["first", "second"] ["first", "second"] (defScope sComp) := ⟨rfl, rfl, rfl, by decide +kernel, rfl, by decide +kernel, by decide +kernel⟩
def spTurn : Sp := fun vs H Q _ => ∃ (v : V) (e : Ed Nat), vs = [v] ∧ Dq H v (edD e) ∧ ∀ u H', Ex H H' → Dq H' u (edD e.turn) → Q u H'
def spComp : Sp := fun vs H Q _ => ∃ (v v' : V) (x y : Ed Nat), vs = [v, v'] ∧ Dq H v (edD x) ∧ Dq H v' (edD y) ∧ x.isDrop = false ∧ y.isPut = false ∧ ∀ p H' ws, Ex H H' → H p = none → H' p = some (.lst ws) → DqAll H' ws ((x.comp y).map edD) → Q (.ref p) H'
section
variable {P : Program} {w : World} {K : PySem.W.Frag} {mg : Str → Option Value} {base : Heap} {f g : Addr} {fd gd : FuncData}
theorem ok_turn {k : Nat} (F : Fun K "turned" "turned" sTurn f fd) : FnOk P w K mg base CX0 (k + 1) f fd ["step"] spTurn := by
  refine F.ok scTurn (fun vs H Q E h => ?_) (fun cdv A outer s H vs Q E hr h => ?_)
  · obtain ⟨_, _, rfl, _⟩ := h
    rfl
  obtain ⟨v, e, rfl, hd, q⟩ := h
  have nd := scTurn.nd
  refine ⟨_, pss_cons (ps_if (pt_cmpR op_eq (pe_ix ix_tup (pv 0) pe_int (fun _ _ => rfl)) pe_str (nomark _)) (pss_one (ps_ret (pe_tup (pa_cons pe_str (pa_cons (pe_ix ix_tup (pv 0) pe_int (fun _ _ => rfl)) pa_nil))))) pss_nil)
    (pss_cons (ps_if (pt_cmpR op_eq (pe_ix ix_tup (pv 0) pe_int (fun _ _ => rfl)) pe_str (nomark _)) (pss_one (ps_ret (pe_tup (pa_cons pe_str (pa_cons (pe_ix ix_tup (pv 0) pe_int (fun _ _ => rfl)) pa_nil))))) pss_nil)
    (pss_one (ps_ret (pe_ifExp (pt_cmpR op_eq (pe_ix ix_tup (pv 0) pe_int (fun _ _ => rfl)) pe_str (nomark _)) (pe_tup (pa_cons pe_str (pa_cons (pe_ix ix_tup (pv 0) pe_int (fun _ _ => rfl)) (pa_cons (pe_ix ix_tup (pv 0) pe_int (fun _ _ => rfl)) pa_nil)))) (pv 0))))), ?_⟩
  obtain ⟨a, rfl, ha⟩ := ed_inv hd
  have hT : SqT K H a (edV e) := SqT.of ha
  cases e with
  | put c =>
    refine ⟨_, rfl, a, _, _, _, rfl, rfl, hT, atI_nat (j := 0) rfl, rfl, _, rfl, iteT ?_⟩
    exact ⟨_, rfl, a, _, _, _, rfl, rfl, hT, atI_nat (j := 1) rfl, nle' (by show 2 ≤ 1000; decide), fun p np => q _ _ (Ex.new np) (ed_of (e := .drop c) upd_same)⟩
  | drop c =>
    refine ⟨_, rfl, a, _, _, _, rfl, rfl, hT, atI_nat (j := 0) rfl, rfl, _, rfl, iteF ?_⟩
    refine ⟨_, rfl, a, _, _, _, rfl, rfl, hT, atI_nat (j := 0) rfl, rfl, _, rfl, iteT ?_⟩
    exact ⟨_, rfl, a, _, _, _, rfl, rfl, hT, atI_nat (j := 1) rfl, nle' (by show 2 ≤ 1000; decide), fun p np => q _ _ (Ex.new np) (ed_of (e := .put c) upd_same)⟩
  | keep c =>
    refine ⟨_, rfl, a, _, _, _, rfl, rfl, hT, atI_nat (j := 0) rfl, rfl, _, rfl, iteF ?_⟩
    refine ⟨_, rfl, a, _, _, _, rfl, rfl, hT, atI_nat (j := 0) rfl, rfl, _, rfl, iteF ?_⟩
    refine ⟨_, rfl, a, _, _, _, rfl, rfl, hT, atI_nat (j := 0) rfl, rfl, _, rfl, iteF ?_⟩
    exact ⟨_, rfl, q _ _ (Ex.refl _) hd⟩
  | swap x y =>
    refine ⟨_, rfl, a, _, _, _, rfl, rfl, hT, atI_nat (j := 0) rfl, rfl, _, rfl, iteF ?_⟩
    refine ⟨_, rfl, a, _, _, _, rfl, rfl, hT, atI_nat (j := 0) rfl, rfl, _, rfl, iteF ?_⟩
    refine ⟨_, rfl, a, _, _, _, rfl, rfl, hT, atI_nat (j := 0) rfl, rfl, _, rfl, iteT ?_⟩
    exact ⟨_, rfl, a, _, _, _, rfl, rfl, hT, atI_nat (j := 2) rfl, _, rfl, a, _, _, _, rfl, rfl, hT, atI_nat (j := 1) rfl, nle' (by show 3 ≤ 1000; decide), fun p np => q _ _ (Ex.new np) (ed_of (e := .swap y x) upd_same)⟩
theorem ok_comp {k : Nat} (F : Fun K "composed" "composed" sComp f fd) : FnOk P w K mg base CX0 (k + 1) f fd ["first", "second"] spComp := by
  refine F.ok scComp (fun vs H Q E h => ?_) (fun cdv A outer s H vs Q E hr h => ?_)
  · obtain ⟨_, _, _, _, rfl, _⟩ := h
    rfl
  obtain ⟨v, v', x, y, rfl, hx, hy, dx, py, q⟩ := h
  have nd := scComp.nd
  refine ⟨_, pss_cons (ps_if (pt_cmpR op_eq (pe_ix ix_tup (pv 0) pe_int (fun _ _ => rfl)) pe_str (nomark _)) (pss_one (ps_ret (pe_lst (pa_cons (pv 1) pa_nil)))) pss_nil)
    (pss_cons (ps_if (pt_cmpR op_eq (pe_ix ix_tup (pv 1) pe_int (fun _ _ => rfl)) pe_str (nomark _)) (pss_one (ps_ret (pe_lst (pa_cons (pv 0) pa_nil)))) pss_nil)
    (pss_cons (ps_if (pt_cmpR op_eq (pe_ix ix_tup (pv 0) pe_int (fun _ _ => rfl)) pe_str (nomark _)) (pss_one (ps_ret (pe_ifExp (pt_cmpR op_eq (pe_ix ix_tup (pv 1) pe_int (fun _ _ => rfl)) pe_str (nomark _)) (pe_lst pa_nil)
        (pe_lst (pa_cons (pe_tup (pa_cons pe_str (pa_cons (pe_ix ix_tup (pv 1) pe_int (fun _ _ => rfl)) pa_nil))) pa_nil))))) pss_nil)
    (pss_cons (ps_if (pt_cmpR op_eq (pe_ix ix_tup (pv 1) pe_int (fun _ _ => rfl)) pe_str (nomark _)) (pss_one (ps_ret (pe_lst (pa_cons (pe_tup (pa_cons pe_str (pa_cons (pe_ix ix_tup (pv 0) pe_int (fun _ _ => rfl)) pa_nil))) pa_nil)))) pss_nil)
    (pss_one (ps_ret (pe_ifExp (pt_cmpR op_eq (pe_ix ix_tup (pv 0) pe_int (fun _ _ => rfl)) (pe_ix ix_tup (pv 1) pe_int (fun _ _ => rfl)) (nomark _)) (pe_lst (pa_cons (pe_tup (pa_cons pe_str (pa_cons (pe_ix ix_tup (pv 0) pe_int (fun _ _ => rfl)) pa_nil))) pa_nil))
        (pe_lst (pa_cons (pe_tup (pa_cons pe_str (pa_cons (pe_ix ix_tup (pv 0) pe_int (fun _ _ => rfl)) (pa_cons (pe_ix ix_tup (pv 1) pe_int (fun _ _ => rfl)) pa_nil)))) pa_nil)))))))), ?_⟩
  obtain ⟨a, rfl, ha⟩ := ed_inv hx
  obtain ⟨b, rfl, hb⟩ := ed_inv hy
  have hT : SqT K H a (edV x) := SqT.of ha
  have hU : SqT K H b (edV y) := SqT.of hb
  have one_ : ∀ (e : Ed Nat), x.comp y = [e] → ∀ p r, H p = none → upd H p (.tup (edV e)) r = none → Q (.ref r) (upd (upd H p (.tup (edV e))) r (.lst [.ref p])) := fun e he p r np nr => by
    have xp := Ex.new (o := HO.tup (edV e)) np
    have xr := Ex.new (o := HO.lst [V.ref p]) nr
    refine q r _ [.ref p] (xp.trans xr) (upd_none nr) upd_same ?_
    rw [he]
    exact .cons (ed_of (xr _ _ upd_same)) .nil
  have old : ∀ (c : Addr) (e : Ed Nat), x.comp y = [e] → Dq H (.ref c) (edD e) → ∀ r, H r = none → Q (.ref r) (upd H r (.lst [.ref c])) := fun c e he hc r nr => by
    have xr := Ex.new (o := HO.lst [V.ref c]) nr
    refine q r _ [.ref c] xr nr upd_same ?_
    rw [he]
    exact .cons (hc.mono xr) .nil
  cases x with
  | drop c => cases dx
  | keep c =>
    refine ⟨_, rfl, a, _, _, _, rfl, rfl, hT, atI_nat (j := 0) rfl, rfl, _, rfl, iteT ?_⟩
    exact ⟨_, rfl, nle' (by show 1 ≤ 1000; decide), fun r nr => old b y rfl hy r nr⟩
  | put c =>
    refine ⟨_, rfl, a, _, _, _, rfl, rfl, hT, atI_nat (j := 0) rfl, rfl, _, rfl, iteF ?_⟩
    cases y with
    | put d => cases py
    | keep d =>
      refine ⟨_, rfl, b, _, _, _, rfl, rfl, hU, atI_nat (j := 0) rfl, rfl, _, rfl, iteT ?_⟩
      exact ⟨_, rfl, nle' (by show 1 ≤ 1000; decide), fun r nr => old a _ rfl hx r nr⟩
    | drop d =>
      refine ⟨_, rfl, b, _, _, _, rfl, rfl, hU, atI_nat (j := 0) rfl, rfl, _, rfl, iteF ?_⟩
      refine ⟨_, rfl, a, _, _, _, rfl, rfl, hT, atI_nat (j := 0) rfl, rfl, _, rfl, iteT ?_⟩
      refine ⟨_, rfl, b, _, _, _, rfl, rfl, hU, atI_nat (j := 0) rfl, rfl, _, rfl, iteT ?_⟩
      exact ⟨nle' (by show 0 ≤ 1000; decide), fun r nr => q r _ [] (Ex.new nr) nr upd_same .nil⟩
    | swap d e =>
      refine ⟨_, rfl, b, _, _, _, rfl, rfl, hU, atI_nat (j := 0) rfl, rfl, _, rfl, iteF ?_⟩
      refine ⟨_, rfl, a, _, _, _, rfl, rfl, hT, atI_nat (j := 0) rfl, rfl, _, rfl, iteT ?_⟩
      refine ⟨_, rfl, b, _, _, _, rfl, rfl, hU, atI_nat (j := 0) rfl, rfl, _, rfl, iteF ?_⟩
      refine ⟨_, rfl, b, _, _, _, rfl, rfl, hU, atI_nat (j := 2) rfl, nle' (by show 2 ≤ 1000; decide), fun p np => ⟨nle' (by show 1 ≤ 1000; decide), fun r nr => one_ (.put e) rfl p r np nr⟩⟩
  | swap c d =>
    refine ⟨_, rfl, a, _, _, _, rfl, rfl, hT, atI_nat (j := 0) rfl, rfl, _, rfl, iteF ?_⟩
    cases y with
    | put d => cases py
    | keep d =>
      refine ⟨_, rfl, b, _, _, _, rfl, rfl, hU, atI_nat (j := 0) rfl, rfl, _, rfl, iteT ?_⟩
      exact ⟨_, rfl, nle' (by show 1 ≤ 1000; decide), fun r nr => old a _ rfl hx r nr⟩
    | drop d' =>
      refine ⟨_, rfl, b, _, _, _, rfl, rfl, hU, atI_nat (j := 0) rfl, rfl, _, rfl, iteF ?_⟩
      refine ⟨_, rfl, a, _, _, _, rfl, rfl, hT, atI_nat (j := 0) rfl, rfl, _, rfl, iteF ?_⟩
      refine ⟨_, rfl, b, _, _, _, rfl, rfl, hU, atI_nat (j := 0) rfl, rfl, _, rfl, iteT ?_⟩
      refine ⟨_, rfl, a, _, _, _, rfl, rfl, hT, atI_nat (j := 1) rfl, nle' (by show 2 ≤ 1000; decide), fun p np => ⟨nle' (by show 1 ≤ 1000; decide), fun r nr => one_ (.drop c) rfl p r np nr⟩⟩
    | swap d' e =>
      refine ⟨_, rfl, b, _, _, _, rfl, rfl, hU, atI_nat (j := 0) rfl, rfl, _, rfl, iteF ?_⟩
      refine ⟨_, rfl, a, _, _, _, rfl, rfl, hT, atI_nat (j := 0) rfl, rfl, _, rfl, iteF ?_⟩
      refine ⟨_, rfl, b, _, _, _, rfl, rfl, hU, atI_nat (j := 0) rfl, rfl, _, rfl, iteF ?_⟩
      refine ⟨_, rfl, a, _, _, _, rfl, rfl, hT, atI_nat (j := 1) rfl, _, rfl, b, _, _, _, rfl, rfl, hU, atI_nat (j := 2) rfl, rfl, _, rfl, ?_⟩
      by_cases z : c = e
      · subst z
        rw [decide_eq_true rfl]
        exact iteT ⟨_, rfl, a, _, _, _, rfl, rfl, hT, atI_nat (j := 1) rfl, nle' (by show 2 ≤ 1000; decide), fun p np => ⟨nle' (by show 1 ≤ 1000; decide), fun r nr => one_ (.keep c) (cs_eq _ _ _) p r np nr⟩⟩
      · rw [decide_eq_false fun q => z (one_inj (by injection q))]
        exact iteF ⟨_, rfl, a, _, _, _, rfl, rfl, hT, atI_nat (j := 1) rfl, _, rfl, b, _, _, _, rfl, rfl, hU, atI_nat (j := 2) rfl, nle' (by show 3 ≤ 1000; decide), fun p np => ⟨nle' (by show 1 ≤ 1000; decide), fun r nr => one_ (.swap c e) (cs_ne z _ _) p r np nr⟩⟩
end
end Sk

/-! Two rows of steps, one behind the other. -/
namespace Sk
open PySem PySem.Spec PyProof.Rows L2 Evl
theorem hd_upd_ {D : Addr} {H : Hp} {o : HO} : Hd D (upd H D o) = Hd D H := by
  funext a
  unfold Hd
  split
  · rfl
  · rename_i n
    rw [upd_ne n]
theorem DqAll.getI {H : Hp} : ∀ {xs ds}, DqAll H xs ds → ∀ {i : Nat} {d : PyData}, ds[i]? = some d → ∃ v, xs[i]? = some v ∧ Dq H v d
  | _, _, .nil, _, _, e => by simp at e
  | _, _, .cons x r, 0, _, e => by simp at e; subst e; exact ⟨_, rfl, x⟩
  | _, _, .cons x r, i + 1, _, e => by
    obtain ⟨v, h1, h2⟩ := r.getI (i := i) (by simpa using e)
    exact ⟨v, by simpa using h1, h2⟩
theorem DqAll.app {H : Hp} : ∀ {xs ds}, DqAll H xs ds → ∀ {ys es}, DqAll H ys es → DqAll H (xs ++ ys) (ds ++ es)
  | _, _, .nil, _, _, y => y
  | _, _, .cons x r, _, _, y => .cons x (r.app y)
def tag : Ed Nat → Str
  | .keep _ => "keep"
  | .put _ => "put"
  | .drop _ => "drop"
  | .swap _ _ => "swap"
theorem tag_drop (e : Ed Nat) : decide (V.str (tag e) = V.str "drop") = e.isDrop := by cases e <;> rfl
theorem tag_put (e : Ed Nat) : decide (V.str (tag e) = V.str "put") = e.isPut := by cases e <;> rfl
theorem edV_tag (e : Ed Nat) : ∃ r, edV e = .str (tag e) :: r := by cases e <;> exact ⟨_, rfl⟩
theorem hd_eds {L : Addr} {H : Hp} {l : List V} (hL : H L = some (.lst l)) : ∀ {cs : List V} {es : List (Ed Nat)}, DqAll H cs (es.map edD) → DqAll (Hd L H) cs (es.map edD)
  | _, [], h => by cases h; exact .nil
  | _, e :: es, h => by
    obtain ⟨v, r, rfl, h1, h2⟩ := all_cons h
    obtain ⟨a, rfl, ha⟩ := ed_inv h1
    exact .cons (ed_of (hd_of (fun z => by subst z; rw [hL] at ha; cases ha) ha)) (hd_eds hL h2)
theorem drop_cons {α : Type} {f : List α} {i : Nat} {x : α} {r : List α} (h : f.drop i = x :: r) : i < f.length ∧ f[i]? = some x ∧ f.drop (i + 1) = r := by
  have l : i < f.length := by
    rcases Nat.lt_or_ge i f.length with z | z
    · exact z
    · rw [List.drop_of_length_le z] at h; cases h
  rw [List.drop_eq_getElem_cons l] at h
  injection h with h1 h2
  exact ⟨l, by rw [List.getElem?_eq_getElem l, h1], h2⟩
abbrev NSum : List Str := ["firsts", "seconds", "found", "at", "place"]
theorem scSumd : FnScope NSum ["firsts", "seconds"] (defScope sSumd) := ⟨rfl, rfl, rfl, by decide +kernel, rfl, by decide +kernel, by decide +kernel⟩
def spSumd : Sp := fun vs H Q _ => ∃ (a b : Addr) (us ws : List V) (f s : List (Ed Nat)), vs = [.ref a, .ref b] ∧ H a = some (.tup us) ∧ DqAll H us (f.map edD) ∧ H b = some (.tup ws) ∧ DqAll H ws (s.map edD) ∧ Mtd f s ∧ f.length + s.length ≤ 100000 ∧
  ∀ p H' xs, Ex H H' → H p = none → H' p = some (.lst xs) → DqAll H' xs ((sumE f s).map edD) → Q (.ref p) H'
section
variable {P : Program} {w : World} {K : PySem.W.Frag} {mg : Str → Option Value} {base : Heap} {f g : Addr} {fd gd : FuncData}
theorem ok_sumd (F : Fun K "summed" "summed" sSumd f fd) (B : Blt mg) (Cm : Lt P w K mg base g gd "composed" ["first", "second"] 1 spComp) : FnOk P w K mg base CX0 2 f fd ["firsts", "seconds"] spSumd := by
  refine F.ok scSumd (fun vs H Q E h => ?_) (fun cdv A outer s H vs Q E hr h => ?_)
  · obtain ⟨_, _, _, _, _, _, rfl, _⟩ := h
    rfl
  obtain ⟨a, b, us, ws, ff, ss, rfl, ha, hf, hb, hs, mt, lm, q⟩ := h
  have nd := scSumd.nd
  have hr1 : Room 1 _ := hr
  refine ⟨_, pss_cons (ps_set (i := 2) nd rfl (Or.inl rfl) (pe_lst pa_nil)) (pss_cons (ps_set (i := 3) nd rfl (Or.inl rfl) pe_int) (pss_cons (ps_set (i := 4) nd rfl (Or.inl rfl) pe_int)
    (pss_cons (ps_while PassesOwn.never (PW.pt (pw_or (pt_cmpR op_lt (pv 3) (pe_callB call_len_seq rfl B.len PySem.boot_len (pa_cons (pv 0) pa_nil)) (nomark _)) (pw_or1 (pt_cmpR op_lt (pv 4) (pe_callB call_len_seq rfl B.len PySem.boot_len (pa_cons (pv 1) pa_nil)) (nomark _)))))
      (pss_one (ps_if (PW.pt (pw_and (pt_cmpR op_lt (pv 3) (pe_callB call_len_seq rfl B.len PySem.boot_len (pa_cons (pv 0) pa_nil)) (nomark _)) (pw_and1 (pt_cmpR op_eq (pe_ix ix_tup (pe_ix ix_tup (pv 0) (pv 3) (fun _ _ => rfl)) pe_int (fun _ _ => rfl)) pe_str (nomark _)))))
        (pss_cons (ps_expr (pe_bm PySem.F.plainAttrs_list PySem.F.slot_list_append PySem.F.type_list_append mt_append (pv 2) (pa_cons (pe_ix ix_tup (pv 0) (pv 3) (fun _ _ => rfl)) pa_nil))) (pss_one (ps_set (i := 3) nd rfl (Or.inl rfl) (pe_op op_add (pv 3) pe_int))))
        (pss_one (ps_if (PW.pt (pw_and (pt_cmpR op_lt (pv 4) (pe_callB call_len_seq rfl B.len PySem.boot_len (pa_cons (pv 1) pa_nil)) (nomark _)) (pw_and1 (pt_cmpR op_eq (pe_ix ix_tup (pe_ix ix_tup (pv 1) (pv 4) (fun _ _ => rfl)) pe_int (fun _ _ => rfl)) pe_str (nomark _)))))
          (pss_cons (ps_expr (pe_bm PySem.F.plainAttrs_list PySem.F.slot_list_append PySem.F.type_list_append mt_append (pv 2) (pa_cons (pe_ix ix_tup (pv 1) (pv 4) (fun _ _ => rfl)) pa_nil))) (pss_one (ps_set (i := 4) nd rfl (Or.inl rfl) (pe_op op_add (pv 4) pe_int))))
          (pss_cons (ps_expr (pe_bm PySem.F.plainAttrs_list PySem.F.slot_list_extend PySem.F.type_list_extend mt_extend (pv 2) (pa_cons (pe_call Cm.g hr1 rfl Cm.m Cm.k Cm.b .nil pass0 (pa_cons (pe_ix ix_tup (pv 0) (pv 3) (fun _ _ => rfl)) (pa_cons (pe_ix ix_tup (pv 1) (pv 4) (fun _ _ => rfl)) pa_nil))) pa_nil)))
          (pss_cons (ps_set (i := 3) nd rfl (Or.inl rfl) (pe_op op_add (pv 3) pe_int)) (pss_one (ps_set (i := 4) nd rfl (Or.inl rfl) (pe_op op_add (pv 4) pe_int))))))))))
    (pss_one (ps_ret (pv 2)))))), ?_⟩
  have lu : us.length = ff.length := by rw [hf.length, List.length_map]
  have lw : ws.length = ss.length := by rw [hs.length, List.length_map]
  refine ⟨nle' (by show 0 ≤ 1000; decide), fun L hL => ?_⟩
  refine ⟨fun m σ H' => ∃ (i j : Nat) (acc : List V) (done : List (Ed Nat)), m = (ff.length - i) + (ss.length - j) ∧ i ≤ ff.length ∧ j ≤ ss.length ∧ σ = [some (.ref a), some (.ref b), some (.ref L), some (.int i), some (.int j)] ∧ Ex H (Hd L H') ∧ H' L = some (.lst acc) ∧
      DqAll (Hd L H') acc (done.map edD) ∧ done ++ sumE (ff.drop i) (ss.drop j) = sumE ff ss ∧ Mtd (ff.drop i) (ss.drop j) ∧ acc.length ≤ i + j, ⟨_, 0, 0, [], [], rfl, Nat.zero_le _, Nat.zero_le _, rfl, fun c o e => hd_of (ne_of_none e hL) (by rw [upd_ne (ne_of_none e hL)]; exact e), upd_same, .nil, rfl, mt, Nat.le_refl _⟩, ?_⟩
  rintro m σ H' ⟨i, j, acc, done, rfl, li, lj, rfl, x0, hL', hacc, hsum, mm, la⟩
  have xx : Ex H H' := x0.trans hd_le
  have hT : SqT K H' a us := SqT.of (xx _ _ ha)
  have hU : SqT K H' b ws := SqT.of (xx _ _ hb)
  have el : ∀ {x : Ed Nat} {r : List (Ed Nat)}, ff.drop i = x :: r → ∃ v p, us[i]? = some v ∧ v = .ref p ∧ Dq H v (edD x) ∧ SqT K H' p (edV x) := fun {x r} h => by
    obtain ⟨v, h1, h2⟩ := hf.getI (i := i) (d := edD x) (by rw [List.getElem?_map, (drop_cons h).2.1]; rfl)
    obtain ⟨p, rfl, h3⟩ := ed_inv h2
    exact ⟨_, p, h1, rfl, h2, SqT.of (xx _ _ h3)⟩
  have er : ∀ {x : Ed Nat} {r : List (Ed Nat)}, ss.drop j = x :: r → ∃ v p, ws[j]? = some v ∧ v = .ref p ∧ Dq H v (edD x) ∧ SqT K H' p (edV x) := fun {x r} h => by
    obtain ⟨v, h1, h2⟩ := hs.getI (i := j) (d := edD x) (by rw [List.getElem?_map, (drop_cons h).2.1]; rfl)
    obtain ⟨p, rfl, h3⟩ := ed_inv h2
    exact ⟨_, p, h1, rfl, h2, SqT.of (xx _ _ h3)⟩
  have lti : i < ff.length → decide ((i : Int) < ((us.length : Nat) : Int)) = true := fun z => decide_eq_true (by omega)
  have ltj : j < ss.length → decide ((j : Int) < ((ws.length : Nat) : Int)) = true := fun z => decide_eq_true (by omega)
  have gei : ff.drop i = [] → decide ((i : Int) < ((us.length : Nat) : Int)) = false := fun z => decide_eq_false (by have := congrArg List.length z; simp at this; omega)
  have gej : ss.drop j = [] → decide ((j : Int) < ((ws.length : Nat) : Int)) = false := fun z => decide_eq_false (by have := congrArg List.length z; simp at this; omega)
  have lsz : acc.length < sizeLine := by rw [sizeLine_eq]; omega
  generalize hF : ff.drop i = FF at mm hsum el gei
  generalize hS : ss.drop j = SS' at mm hsum er gej
  cases mm with
  | nil =>
    refine ⟨_, rfl, _, rfl, a, _, rfl, .inr hT, _, _, rfl, rfl, _, rfl, ?_⟩
    rw [gei rfl]
    refine iteF ⟨_, rfl, _, rfl, b, _, rfl, .inr hU, _, _, rfl, rfl, _, rfl, ?_⟩
    rw [gej rfl]
    refine iteF ⟨_, rfl, q L H' acc xx hL hL' ?_⟩
    rw [← hsum, sumE_nil, List.append_nil]
    exact hacc.mono hd_le
  | @drop c F' _ mm =>
    obtain ⟨v, p, h1, rfl, hd, hp⟩ := el rfl
    obtain ⟨l1, l2, l3⟩ := drop_cons hF
    refine ⟨_, rfl, _, rfl, a, _, rfl, .inr hT, _, _, rfl, rfl, _, rfl, ?_⟩
    rw [lti l1]
    refine iteT ⟨_, fun σ' H'' z => z, ?_⟩
    refine ⟨_, rfl, _, rfl, a, _, rfl, .inr hT, _, _, rfl, rfl, _, rfl, ?_⟩
    rw [lti l1]
    refine iteT ⟨_, rfl, _, rfl, a, _, _, _, rfl, rfl, hT, atI_nat h1, p, _, _, _, rfl, rfl, hp, atI_nat (j := 0) rfl, rfl, _, rfl, iteT ?_⟩
    refine ⟨_, rfl, .inl ⟨rfl, _, SqL.of hL'⟩, _, rfl, _, rfl, a, _, _, _, rfl, rfl, hT, atI_nat h1, L, _, _, rfl, rfl, hL', lsz, ?_⟩
    refine ⟨_, rfl, _, _, rfl, rfl, ?_⟩
    refine ⟨(ff.length - (i + 1)) + (ss.length - j), by omega, i + 1, j, acc ++ [.ref p], done ++ [.drop c], rfl, l1, lj, rfl, by rw [hd_upd_]; exact x0, upd_same, ?_, ?_, ?_, by simp; omega⟩
    · rw [hd_upd_, List.map_append]
      exact hacc.snoc (hd.mono x0)
    · rw [l3, hS, ← hsum, sumE_drop]
      simp
    · rw [l3, hS]; exact mm
  | @put c _ S' hh mm =>
    obtain ⟨v, p, h1, rfl, hd, hp⟩ := er rfl
    obtain ⟨l1, l2, l3⟩ := drop_cons hS
    have nxt : ∀ {N : L2.St → Hp → Prop}, (∀ σ' H'', (∃ m', m' < (ff.length - i) + (ss.length - j) ∧ ∃ (i j : Nat) (acc : List V) (done : List (Ed Nat)), m' = (ff.length - i) + (ss.length - j) ∧ i ≤ ff.length ∧ j ≤ ss.length ∧ σ' = [some (.ref a), some (.ref b), some (.ref L), some (.int i), some (.int j)] ∧ Ex H (Hd L H'') ∧ H'' L = some (.lst acc) ∧
        DqAll (Hd L H'') acc (done.map edD) ∧ done ++ sumE (ff.drop i) (ss.drop j) = sumE ff ss ∧ Mtd (ff.drop i) (ss.drop j) ∧ acc.length ≤ i + j) → N σ' H'') → N [some (.ref a), some (.ref b), some (.ref L), some (.int i), some (.int ((j + 1 : Nat) : Int))] (upd H' L (.lst (acc ++ [.ref p]))) := fun {N} k => by
      refine k _ _ ⟨(ff.length - i) + (ss.length - (j + 1)), by omega, i, j + 1, acc ++ [.ref p], done ++ [.put c], rfl, li, l1, rfl, by rw [hd_upd_]; exact x0, upd_same, ?_, ?_, ?_, by simp; omega⟩
      · rw [hd_upd_, List.map_append]
        exact hacc.snoc (hd.mono x0)
      · rw [l3, hF, ← hsum, Mtd.sum_put c hh]
        simp
      · rw [l3, hF]; exact mm
    cases FF with
    | nil =>
      refine ⟨_, rfl, _, rfl, a, _, rfl, .inr hT, _, _, rfl, rfl, _, rfl, ?_⟩
      rw [gei rfl]
      refine iteF ⟨_, rfl, _, rfl, b, _, rfl, .inr hU, _, _, rfl, rfl, _, rfl, ?_⟩
      rw [ltj l1]
      refine iteT ⟨_, fun σ' H'' z => z, ?_⟩
      refine ⟨_, rfl, _, rfl, a, _, rfl, .inr hT, _, _, rfl, rfl, _, rfl, ?_⟩
      rw [gei rfl]
      refine iteF ?_
      refine ⟨_, rfl, _, rfl, b, _, rfl, .inr hU, _, _, rfl, rfl, _, rfl, ?_⟩
      rw [ltj l1]
      refine iteT ⟨_, rfl, _, rfl, b, _, _, _, rfl, rfl, hU, atI_nat h1, p, _, _, _, rfl, rfl, hp, atI_nat (j := 0) rfl, rfl, _, rfl, iteT ?_⟩
      refine ⟨_, rfl, .inl ⟨rfl, _, SqL.of hL'⟩, _, rfl, _, rfl, b, _, _, _, rfl, rfl, hU, atI_nat h1, L, _, _, rfl, rfl, hL', lsz, ?_⟩
      refine ⟨_, rfl, _, _, rfl, rfl, ?_⟩
      exact nxt fun _ _ z => z
    | cons x FF =>
      have dx := hh x (by simp)
      obtain ⟨v', p', h1', rfl, hd', hp'⟩ := el rfl
      obtain ⟨l1', l2', l3'⟩ := drop_cons hF
      obtain ⟨r, er'⟩ := edV_tag x
      rw [er'] at hp'
      refine ⟨_, rfl, _, rfl, a, _, rfl, .inr hT, _, _, rfl, rfl, _, rfl, ?_⟩
      rw [lti l1']
      refine iteT ⟨_, fun σ' H'' z => z, ?_⟩
      refine ⟨_, rfl, _, rfl, a, _, rfl, .inr hT, _, _, rfl, rfl, _, rfl, ?_⟩
      rw [lti l1']
      refine iteT ⟨_, rfl, _, rfl, a, _, _, _, rfl, rfl, hT, atI_nat h1', p', _, _, _, rfl, rfl, hp', atI_nat (j := 0) rfl, rfl, _, rfl, ?_⟩
      rw [tag_drop, dx]
      refine iteF ?_
      refine ⟨_, rfl, _, rfl, b, _, rfl, .inr hU, _, _, rfl, rfl, _, rfl, ?_⟩
      rw [ltj l1]
      refine iteT ⟨_, rfl, _, rfl, b, _, _, _, rfl, rfl, hU, atI_nat h1, p, _, _, _, rfl, rfl, hp, atI_nat (j := 0) rfl, rfl, _, rfl, iteT ?_⟩
      refine ⟨_, rfl, .inl ⟨rfl, _, SqL.of hL'⟩, _, rfl, _, rfl, b, _, _, _, rfl, rfl, hU, atI_nat h1, L, _, _, rfl, rfl, hL', lsz, ?_⟩
      refine ⟨_, rfl, _, _, rfl, rfl, ?_⟩
      exact nxt fun _ _ z => z
  | @both x y F' S' hx hy e mm =>
    obtain ⟨v, p, h1, rfl, hd, hp⟩ := el rfl
    obtain ⟨l1, l2, l3⟩ := drop_cons hF
    obtain ⟨v', p', h1', rfl, hd', hp'⟩ := er rfl
    obtain ⟨l1', l2', l3'⟩ := drop_cons hS
    obtain ⟨r, eg⟩ := edV_tag x
    rw [eg] at hp
    obtain ⟨r', eg'⟩ := edV_tag y
    rw [eg'] at hp'
    refine ⟨_, rfl, _, rfl, a, _, rfl, .inr hT, _, _, rfl, rfl, _, rfl, ?_⟩
    rw [lti l1]
    refine iteT ⟨_, fun σ' H'' z => z, ?_⟩
    refine ⟨_, rfl, _, rfl, a, _, rfl, .inr hT, _, _, rfl, rfl, _, rfl, ?_⟩
    rw [lti l1]
    refine iteT ⟨_, rfl, _, rfl, a, _, _, _, rfl, rfl, hT, atI_nat h1, p, _, _, _, rfl, rfl, hp, atI_nat (j := 0) rfl, rfl, _, rfl, ?_⟩
    rw [tag_drop, hx]
    refine iteF ?_
    refine ⟨_, rfl, _, rfl, b, _, rfl, .inr hU, _, _, rfl, rfl, _, rfl, ?_⟩
    rw [ltj l1']
    refine iteT ⟨_, rfl, _, rfl, b, _, _, _, rfl, rfl, hU, atI_nat h1', p', _, _, _, rfl, rfl, hp', atI_nat (j := 0) rfl, rfl, _, rfl, ?_⟩
    rw [tag_put, hy]
    refine iteF ?_
    refine ⟨_, rfl, .inl ⟨rfl, _, SqL.of hL'⟩, _, rfl, _, rfl, a, _, _, _, rfl, rfl, hT, atI_nat h1, _, rfl, _, rfl, b, _, _, _, rfl, rfl, hU, atI_nat h1', _, _, x, y, rfl, hd.mono xx, hd'.mono xx, hx, hy, fun c H2 cs x2 nc hc hcs => ?_⟩
    have nLc : L ≠ c := fun z => by subst z; rw [hL'] at nc; cases nc
    have nst : ∀ d o, Hd L H' d = some o → Hd L H2 d = some o := fun d o e => hd_of (hd_some e).1 (x2 _ _ (hd_some e).2)
    have lc : cs.length ≤ 1 := by
      have := hcs.length
      rw [List.length_map] at this
      rw [this]
      cases x <;> cases y <;> simp only [Ed.comp] <;> (try split) <;> simp
    refine ⟨L, c, _, _, rfl, rfl, x2 _ _ hL', hc, by rw [sizeLine_eq]; omega, ?_⟩
    refine ⟨_, rfl, _, _, rfl, rfl, _, rfl, _, _, rfl, rfl, ?_⟩
    refine ⟨(ff.length - (i + 1)) + (ss.length - (j + 1)), by omega, i + 1, j + 1, acc ++ cs, done ++ x.comp y, rfl, l1, l1', rfl, by rw [hd_upd_]; exact x0.trans nst, upd_same, ?_, ?_, ?_, by simp; omega⟩
    · rw [hd_upd_, List.map_append]
      exact (hacc.mono nst).app (hd_eds (x2 _ _ hL') hcs)
    · rw [l3, l3', ← hsum, sumE_comp hx hy]
      simp
    · rw [l3, l3']; exact mm
end
end Sk

/-! The class: how a script is made. -/
namespace Sk
open PySem PySem.Spec PyProof.Rows L2 Evl
theorem sg_ : ¬ (("steps" : Str) = "given") := by decide +kernel
theorem sm_ : ¬ (("steps" : Str) = "made") := by decide +kernel
theorem gm_ : ¬ (("given" : Str) = "made") := by decide +kernel
/-- the fields -/
def sf (t : Addr) (g m : Str) : List (Str × V) := putF "made" (.str m) (putF "given" (.str g) (putF "steps" (.ref t) []))
theorem sf_steps (t : Addr) (g m : Str) : (sf t g m).lookup ("steps" : Str) = some (.ref t) := by
  unfold sf
  rw [lookup_putF, if_neg sm_, lookup_putF, if_neg sg_, lookup_putF, if_pos rfl]
theorem sf_given (t : Addr) (g m : Str) : (sf t g m).lookup ("given" : Str) = some (.str g) := by
  unfold sf
  rw [lookup_putF, if_neg gm_, lookup_putF, if_pos rfl]
theorem sf_made (t : Addr) (g m : Str) : (sf t g m).lookup ("made" : Str) = some (.str m) := by
  unfold sf
  rw [lookup_putF, if_pos rfl]
/-- a script of these steps -/
def ScAt (C : Addr) (H : Hp) (p : Addr) (es : List (Ed Nat)) : Prop := ∃ dx t us, H p = some (.ins C dx (sf t (tx (givenE es)) (tx (madeE es)))) ∧ H t = some (.tup us) ∧ DqAll H us (es.map edD)
theorem ScAt.mono {C : Addr} {H H' : Hp} {p : Addr} {es : List (Ed Nat)} (x : Ex H H') (h : ScAt C H p es) : ScAt C H' p es := by
  obtain ⟨dx, t, us, h1, h2, h3⟩ := h
  exact ⟨dx, t, us, x _ _ h1, x _ _ h2, h3.mono x⟩
structure ScT (K : PySem.W.Frag) (mg : Str → Option Value) (C : Addr) : Prop where
  cl : Cls K C
  nS : NoAttr K C "steps"
  nG : NoAttr K C "given"
  nM : NoAttr K C "made"
  mC : mg "Script" = some (.ref C)
theorem at1 {e : Ed Nat} (h : e.isPut = false) : ∃ c, e.inn = [c] ∧ atI (edV e) (1 : Int) = some (.str (one c)) := by
  cases e <;> first | (cases h; done) | exact ⟨_, rfl, atI_nat (j := 1) rfl⟩
theorem atL {e : Ed Nat} (h : e.isDrop = false) : ∃ c, e.out = [c] ∧ atI (edV e) (-1 : Int) = some (.str (one c)) := by
  cases e with
  | drop c => cases h
  | keep c => exact ⟨c, rfl, atI_last [V.str "keep"] (V.str (one c))⟩
  | put c => exact ⟨c, rfl, atI_last [V.str "put"] (V.str (one c))⟩
  | swap a b => exact ⟨b, rfl, atI_last [V.str "swap", V.str (one a)] (V.str (one b))⟩
theorem inn_put {e : Ed Nat} (h : e.isPut = true) : e.inn = [] := by cases e <;> first | (cases h; done) | rfl
theorem out_drop {e : Ed Nat} (h : e.isDrop = true) : e.out = [] := by cases e <;> first | (cases h; done) | rfl
theorem given_snoc {es : List (Ed Nat)} {i : Nat} {e : Ed Nat} (h : es[i]? = some e) : givenE (es.take (i + 1)) = givenE (es.take i) ++ e.inn := by
  rw [take_snoc h, given_app]; simp [givenE]
theorem made_snoc {es : List (Ed Nat)} {i : Nat} {e : Ed Nat} (h : es[i]? = some e) : madeE (es.take (i + 1)) = madeE (es.take i) ++ e.out := by
  rw [take_snoc h, made_app]; simp [madeE]
theorem given_len (es : List (Ed Nat)) : (givenE es).length ≤ es.length := by
  induction es with
  | nil => simp [givenE]
  | cons e es ih => rw [given_cons, List.length_append, List.length_cons]; have : e.inn.length ≤ 1 := by cases e <;> simp [Ed.inn]
                    omega
theorem made_len (es : List (Ed Nat)) : (madeE es).length ≤ es.length := by
  induction es with
  | nil => simp [madeE]
  | cons e es ih => rw [made_cons, List.length_append, List.length_cons]; have : e.out.length ≤ 1 := by cases e <;> simp [Ed.out]
                    omega
abbrev NIni : List Str := ["self", "steps", "step"]
theorem scIni : FnScope NIni ["self", "steps"] (defScope sInit) := ⟨rfl, rfl, rfl, by decide +kernel, rfl, by decide +kernel, by decide +kernel⟩
def spIni (C : Addr) : Sp := fun vs H Q _ => ∃ (p l dx : Addr) (ws : List V) (es : List (Ed Nat)), vs = [.ref p, .ref l] ∧ H p = some (.ins C dx []) ∧ H l = some (.lst ws) ∧ DqAll (Hd p H) ws (es.map edD) ∧ (∀ e ∈ es, Ed.ok e) ∧ es.length ≤ 100000 ∧
  ∀ H', Ex (Hd p H) H' → ScAt C H' p es → Q .non H'
section
variable {P : Program} {w : World} {K : PySem.W.Frag} {mg : Str → Option Value} {base : Heap} {f g : Addr} {fd gd : FuncData} {C : Addr}
theorem ok_ini (F : Fun K "__init__" "Script.__init__" sInit f fd) (B : Blt mg) (B2 : Blt2 mg) (T : ScT K mg C) (Ar : Lt P w K mg base g gd "are_steps" ["thing"] 3 spAre) : FnOk P w K mg base CX0 4 f fd ["self", "steps"] (spIni C) := by
  refine F.ok scIni (fun vs H Q E h => ?_) (fun cdv A outer s H vs Q E hr h => ?_)
  · obtain ⟨_, _, _, _, _, rfl, _⟩ := h
    rfl
  obtain ⟨p, l, dx, ws, es, rfl, hp, hl, hd, oe, le, q⟩ := h
  have nd := scIni.nd
  have hr3 : Room 3 _ := hr
  refine ⟨_, pss_cons (ps_if (pt_not (pt_val (pe_call Ar.g hr3 rfl Ar.m Ar.k Ar.b .nil pass0 (pa_cons (pv 1) pa_nil)))) (pss_one ps_never) pss_nil)
    (pss_cons (ps_fld (pv 0) (pe_callTy call_tuple_of rfl B2.tuple bt_tuple (pa_cons (pv 1) pa_nil)) rfl)
    (pss_cons (ps_fld (pv 0) (pe_join pe_str (pe_lc (own := [("step", 2)]) (g := gName 2) (tt := tTest (tOp rNe (tOp (rIxT K) (tVar 2) (tC (.int 0))) (tC (.str "put")))) (te := tOp (rIxT K) (tVar 2) (tC (.int 1))) rfl nd (pi_tup (pe_fld (pv 0) rfl)) (blkOk_by (N := NIni) (sc := defScope sInit) (by decide +kernel)) (fun _ _ _ _ _ => pg_name (i := 2) nd rfl (Or.inl rfl))
        (fun _ _ _ _ _ => pts_one (pt_cmpR op_ne (pe_ix ix_tup (pv 2) pe_int (fun _ _ => rfl)) pe_str (nomark _))) (fun _ _ _ _ _ => pe_ix ix_tup (pv 2) pe_int (fun _ _ => rfl)))) rfl)
    (pss_one (ps_fld (pv 0) (pe_join pe_str (pe_lc (own := [("step", 2)]) (g := gName 2) (tt := tTest (tOp rNe (tOp (rIxT K) (tVar 2) (tC (.int 0))) (tC (.str "drop")))) (te := tOp (rIxT K) (tVar 2) (tUn (rU fun i => .int (-i)) (tC (.int 1)))) rfl nd (pi_tup (pe_fld (pv 0) rfl)) (blkOk_by (N := NIni) (sc := defScope sInit) (by decide +kernel)) (fun _ _ _ _ _ => pg_name (i := 2) nd rfl (Or.inl rfl))
        (fun _ _ _ _ _ => pts_one (pt_cmpR op_ne (pe_ix ix_tup (pv 2) pe_int (fun _ _ => rfl)) pe_str (nomark _))) (fun _ _ _ _ _ => pe_ix ix_tup (pv 2) (pe_un un_neg pe_int) (fun _ _ => rfl)))) rfl)))), ?_⟩
  refine ⟨_, rfl, l, ws, es, rfl, hl, hd.mono hd_le, oe, fun H1 x1 => ⟨_, rfl, ?_⟩⟩
  refine iteF ?_
  have hp1 := x1 _ _ hp
  have hl1 := x1 _ _ hl
  have pl : l ≠ p := fun z => by subst z; rw [hl] at hp; cases hp
  refine ⟨_, rfl, l, ws, rfl, .inl ⟨SqL.of hl1, fun t nt => ⟨_, rfl, p, C, dx, [], rfl, (by rw [upd_ne (ne_of_none hp1 nt)]; exact hp1), T.cl, T.nS, (by show 0 < 1000; decide), ?_⟩⟩⟩
  have ntp : t ≠ p := fun z => by subst z; rw [hp1] at nt; cases nt
  have x2 : Ex (Hd p H) (Hd p (upd (upd H1 t (.tup ws)) p (.ins C dx (putF "steps" (.ref t) [])))) := fun b o e => by
    obtain ⟨n, e'⟩ := hd_some e
    have e1 := x1 _ _ e'
    exact hd_of n (by rw [upd_ne n, upd_ne (ne_of_none e1 nt)]; exact e1)
  have ht2 : Hd p (upd (upd H1 t (.tup ws)) p (.ins C dx (putF "steps" (.ref t) []))) t = some (.tup ws) := hd_of ntp (by rw [upd_ne ntp, upd_same])
  have hp2 : upd (upd H1 t (.tup ws)) p (.ins C dx (putF "steps" (.ref t) [])) p = some (.ins C dx (putF "steps" (.ref t) [])) := upd_same
  generalize upd (upd H1 t (.tup ws)) p (.ins C dx (putF "steps" (.ref t) [])) = H2 at x2 ht2 hp2 ⊢
  have lk : (putF "steps" (V.ref t) []).lookup ("steps" : Str) = some (.ref t) := by rw [lookup_putF, if_pos rfl]
  -- what it reads
  refine ⟨⟨_, rfl⟩, _, rfl, p, C, dx, _, _, rfl, hp2, T.cl, T.nS, lk, t, rfl, ⟨_, SqT.of (hd_le _ _ ht2)⟩, fun D hD => ?_⟩
  refine lc_tup (xs := ws) (fun i H' => Ex H2 H' ∧ H' D = some (.lst ((givenE (es.take i)).map fun c => V.str (one c)))) ⟨Ex.new hD, upd_same⟩ (fun i H' _ z => SqT.of (z.1 _ _ (hd_le _ _ ht2))) (fun i x H' hx z => ?_) (fun H3 z => ?_)
  · obtain ⟨z1, z2⟩ := z
    obtain ⟨d, hdd, hq⟩ := hd.get hx
    rw [List.getElem?_map] at hdd
    obtain ⟨e, he, rfl⟩ := Option.map_eq_some_iff.mp hdd
    obtain ⟨a, rfl, ha⟩ := ed_inv (hq.mono (x2.trans (hd_le.trans z1)))
    obtain ⟨r, er⟩ := edV_tag e
    refine ⟨rfl, _, rfl, a, _, _, _, rfl, rfl, SqT.of ha, (by rw [er]; exact atI_nat (j := 0) rfl), rfl, _, rfl, ?_⟩
    rw [tag_put]
    cases hpe : e.isPut with
    | true => exact iteF ⟨z1, by rw [given_snoc he, inn_put hpe, List.append_nil]; exact z2⟩
    | false =>
      obtain ⟨c, ec, hc⟩ := at1 hpe
      refine iteT ⟨_, rfl, a, _, _, _, rfl, rfl, SqT.of ha, hc, _, z2, ?_, z1.mut hD, ?_⟩
      · rw [sizeLine_eq, List.length_map]
        have := given_len (es.take i)
        rw [List.length_take] at this
        omega
      · rw [upd_same, given_snoc he, ec, List.map_append]; rfl
  obtain ⟨x3, hD3⟩ := z
  have lw : ws.length = es.length := by rw [hd.length, List.length_map]
  rw [lw, List.take_length] at hD3
  have jn : ∀ cs : List Nat, Txt.join (Str.ofString "") (cs.map one) = tx cs := fun cs => (TL.join_eq _ _).trans (join_tx cs)
  have bn : ∀ cs : List Nat, cs.length ≤ 100000 → ((cs.map one).map (·.length)).sum + (cs.map one).length * (Str.ofString "").length ≤ 16777216 := fun cs h => by
    have e0 : (Str.ofString "").length = 0 := rfl
    rw [sum_one, e0]; omega
  have gl := given_len es
  have ml := made_len es
  refine ⟨_, D, (givenE es).map one, rfl, rfl, .inl (SqL.of (by rw [hD3, List.map_map]; rfl)), bn _ (by omega), ?_⟩
  rw [jn]
  refine ⟨_, rfl, p, C, dx, _, rfl, x3 _ _ hp2, T.cl, T.nG, (by show 1 < 1000; decide), ?_⟩
  have x4 : Ex (Hd p H2) (Hd p (upd H3 p (.ins C dx (putF "given" (.str (tx (givenE es))) (putF "steps" (.ref t) []))))) := fun b o e => by
    obtain ⟨n, e'⟩ := hd_some e
    exact hd_of n (by rw [upd_ne n]; exact x3 _ _ e')
  have hp4 : upd H3 p (.ins C dx (putF "given" (.str (tx (givenE es))) (putF "steps" (.ref t) []))) p = some (.ins C dx (putF "given" (.str (tx (givenE es))) (putF "steps" (.ref t) []))) := upd_same
  generalize upd H3 p (.ins C dx (putF "given" (.str (tx (givenE es))) (putF "steps" (.ref t) []))) = H4 at x4 hp4 ⊢
  have ht4 := x4 _ _ ht2
  have lk2 : (putF "given" (.str (tx (givenE es))) (putF "steps" (V.ref t) [])).lookup ("steps" : Str) = some (.ref t) := by rw [lookup_putF, if_neg sg_, lookup_putF, if_pos rfl]
  -- what it writes
  refine ⟨⟨_, rfl⟩, _, rfl, p, C, dx, _, _, rfl, hp4, T.cl, T.nS, lk2, t, rfl, ⟨_, SqT.of (hd_le _ _ ht4)⟩, fun D' hD' => ?_⟩
  refine lc_tup (xs := ws) (fun i H' => Ex H4 H' ∧ H' D' = some (.lst ((madeE (es.take i)).map fun c => V.str (one c)))) ⟨Ex.new hD', upd_same⟩ (fun i H' _ z => SqT.of (z.1 _ _ (hd_le _ _ ht4))) (fun i x H' hx z => ?_) (fun H5 z => ?_)
  · obtain ⟨z1, z2⟩ := z
    obtain ⟨d, hdd, hq⟩ := hd.get hx
    rw [List.getElem?_map] at hdd
    obtain ⟨e, he, rfl⟩ := Option.map_eq_some_iff.mp hdd
    obtain ⟨a, rfl, ha⟩ := ed_inv (hq.mono ((x2.trans x4).trans (hd_le.trans z1)))
    obtain ⟨r, er⟩ := edV_tag e
    refine ⟨rfl, _, rfl, a, _, _, _, rfl, rfl, SqT.of ha, (by rw [er]; exact atI_nat (j := 0) rfl), rfl, _, rfl, ?_⟩
    rw [tag_drop]
    cases hpe : e.isDrop with
    | true => exact iteF ⟨z1, by rw [made_snoc he, out_drop hpe, List.append_nil]; exact z2⟩
    | false =>
      obtain ⟨c, ec, hc⟩ := atL hpe
      refine iteT ⟨_, rfl, _, rfl, a, _, _, _, rfl, rfl, SqT.of ha, hc, _, z2, ?_, z1.mut hD', ?_⟩
      · rw [sizeLine_eq, List.length_map]
        have := made_len (es.take i)
        rw [List.length_take] at this
        omega
      · rw [upd_same, made_snoc he, ec, List.map_append]; rfl
  obtain ⟨x5, hD5⟩ := z
  rw [lw, List.take_length] at hD5
  refine ⟨_, D', (madeE es).map one, rfl, rfl, .inl (SqL.of (by rw [hD5, List.map_map]; rfl)), bn _ (by omega), ?_⟩
  rw [jn]
  refine ⟨_, rfl, p, C, dx, _, rfl, x5 _ _ hp4, T.cl, T.nM, ?_, ?_⟩
  · show (putF "given" (.str (tx (givenE es))) (putF "steps" (V.ref t) [])).length < 1000
    show (if ("steps" : Str) = "given" then _ else _ : List (Str × V)).length < 1000
    rw [if_neg sg_]
    show 2 < 1000
    decide
  have x6 : Ex (Hd p H4) (upd H5 p (.ins C dx (sf t (tx (givenE es)) (tx (madeE es))))) := fun b o e => by
    obtain ⟨n, e'⟩ := hd_some e
    rw [upd_ne n]; exact x5 _ _ e'
  have xA : Ex (Hd p H) (upd H5 p (.ins C dx (sf t (tx (givenE es)) (tx (madeE es))))) := (x2.trans x4).trans x6
  exact q _ xA ⟨dx, t, ws, upd_same, x6 _ _ ht4, hd.mono xA⟩
end
end Sk

/-! The class: called, measured, turned, added, compared. -/
namespace Sk
open PySem PySem.Spec PyProof.Rows L2 Evl
section
variable {X : Cx} {CX : CXT} {k i : Nat} {C f : Addr} {fd : FuncData} {ps : List Str} {sp : Sp} {dvs : List V} {ds : List Value} {E : XK} {x : Str} {p pos : Pos} {e : Expr} {es : List Expr} {t : TA}
/-- cls(..): a local name that holds the class -/
def tMakeL (i : Nat) (C : Addr) (sp : Sp) (dvs : List V) (E : XK) (t : TA) : TE := fun σ H Q => σ[i]? = some (some (.ref C)) ∧ tMake C sp dvs E t σ H Q
theorem pe_makeL (M : Mk X.K C f) (F : FnOk X.prog X.w X.K X.mg X.base CX k f fd ps sp) (hr : Room (k + 1) X.A) (hN : X.N[i]? = some x) (hv : Vis X.env.scope x) (hb : Binds X.K fd ps ds) (hd : Vals dvs ds) (hx : Passes CX X E) (ha : PA X (e :: es) t)
    (hdb : (x == ("__debug__" : Str)) = false := by decide) (hcd : (x == ("__classdict__" : Str)) = false := by decide)
    (he : starEach (e :: es) X.env = (false, eval e X.env) :: starEach es X.env := by rfl) (hpl : (backTo pos (starEach es X.env)).any (·.1) = false := by rfl) : PE X (.Call (.Name x p) (e :: es) [] pos) (tMakeL i C sp dvs E t) := by
  refine ⟨fun pins s σ H Q I h => ?_⟩
  obtain ⟨hs, ht⟩ := h
  refine wpAny_Call_Name_kw (thn ((pe_var (pos := p) hN hv hdb hcd).run pins s σ H (fun v H1 => v = .ref C ∧ H1 = H) I ⟨.ref C, hs, rfl, rfl⟩) fun u s1 ⟨v, H1, I1, r1, q1⟩ => ?_)
  obtain ⟨rfl, rfl⟩ := q1
  cases r1
  refine PySem.W.callWith_K (h₀ := X.base) I.ok.mod.kin M.kp (thn (ha.run pos pins s1 σ _ _ I1 ht) fun us s2 ⟨vs, H2, I2, r, q⟩ => ⟨I2.kIn, ?_⟩) he hpl
  exact run_make M F hr hb hd hx I2 r q
end
/-- a new script -/
theorem mk_sc {C l : Addr} {H1 : Hp} {ws : List V} {es : List (Ed Nat)} {Q : VK} {E : XK} (hl : H1 l = some (.lst ws)) (hd : DqAll H1 ws (es.map edD)) (oe : ∀ e ∈ es, Ed.ok e) (le : es.length ≤ 100000)
    (q : ∀ x H2, Ex H1 H2 → H1 x = none → ScAt C H2 x es → Q (.ref x) H2) : ∀ x dx, H1 x = none → H1 dx = none → dx ≠ x → spIni C (.ref x :: ([.ref l] ++ [])) (upd (upd H1 dx (.own x)) x (.ins C dx [])) (fun v H2 => v = .non ∧ Q (.ref x) H2) E := by
  intro x dx nx ndx ne
  have e1 : Ex H1 (upd (upd H1 dx (.own x)) x (.ins C dx [])) := fun b o e => by
    rw [upd_ne (ne_of_none e nx), upd_ne (ne_of_none e ndx)]; exact e
  have e2 : Ex H1 (Hd x (upd (upd H1 dx (.own x)) x (.ins C dx []))) := fun b o e => hd_of (ne_of_none e nx) (e1 _ _ e)
  exact ⟨x, l, dx, ws, es, rfl, upd_same, e1 _ _ hl, hd.mono e2, oe, le, fun H' x' sc => ⟨rfl, q x H' (e2.trans x') nx sc⟩⟩
def notKeep : Ed Nat → Bool
  | .keep _ => false
  | _ => true
theorem tag_keep (e : Ed Nat) : decide (V.str (tag e) = V.str "keep") = !notKeep e := by cases e <;> rfl
def cntE (es : List (Ed Nat)) : Nat := (es.filter notKeep).length
abbrev NInv : List Str := ["self", "step"]
theorem scCall : FnScope ["self", "text"] ["self", "text"] (defScope sCall) := ⟨rfl, rfl, rfl, by decide +kernel, rfl, by decide +kernel, by decide +kernel⟩
theorem scLen : FnScope NInv ["self"] (defScope sLen) := ⟨rfl, rfl, rfl, by decide +kernel, rfl, by decide +kernel, by decide +kernel⟩
theorem scInv : FnScope NInv ["self"] (defScope sInv) := ⟨rfl, rfl, rfl, by decide +kernel, rfl, by decide +kernel, by decide +kernel⟩
theorem scAdd : FnScope ["self", "other"] ["self", "other"] (defScope sAdd) := ⟨rfl, rfl, rfl, by decide +kernel, rfl, by decide +kernel, by decide +kernel⟩
theorem scEq : FnScope ["self", "other"] ["self", "other"] (defScope sEq) := ⟨rfl, rfl, rfl, by decide +kernel, rfl, by decide +kernel, by decide +kernel⟩
def spCal (C : Addr) : Sp := fun vs H Q _ => ∃ (p : Addr) (es : List (Ed Nat)), vs = [.ref p, .str (tx (givenE es))] ∧ ScAt C H p es ∧ Q (.str (tx (madeE es))) H
def spLen (C : Addr) : Sp := fun vs H Q _ => ∃ (p : Addr) (es : List (Ed Nat)), vs = [.ref p] ∧ ScAt C H p es ∧ es.length ≤ 100000 ∧ ∀ H', Ex H H' → Q (.int (cntE es)) H'
def spInv (C : Addr) : Sp := fun vs H Q _ => ∃ (p : Addr) (es : List (Ed Nat)), vs = [.ref p] ∧ ScAt C H p es ∧ (∀ e ∈ es, Ed.ok e) ∧ es.length ≤ 100000 ∧ ∀ x H', Ex H H' → H x = none → ScAt C H' x (es.map Ed.turn) → Q (.ref x) H'
def spAdd (C : Addr) : Sp := fun vs H Q _ => ∃ (p r : Addr) (es fs : List (Ed Nat)), vs = [.ref p, .ref r] ∧ ScAt C H p es ∧ ScAt C H r fs ∧ Mtd es fs ∧ (∀ e ∈ es, Ed.ok e) ∧ (∀ e ∈ fs, Ed.ok e) ∧ es.length + fs.length ≤ 100000 ∧ ∀ x H', Ex H H' → H x = none → ScAt C H' x (sumE es fs) → Q (.ref x) H'
def spEqT (C : Addr) : Sp := fun vs H Q _ => ∃ (p r : Addr) (es : List (Ed Nat)), vs = [.ref p, .ref r] ∧ ScAt C H p es ∧ ScAt C H r es ∧ ∀ H', Ex H H' → Q (.bl true) H'
structure ScM (K : PySem.W.Frag) (mg : Str → Option Value) (C : Addr) : Prop where
  T : ScT K mg C
  hCl : PySem.W.findIn K (.ref C) "__class__" = some (some (.builtin "object.__class__"))
  hGt : PySem.W.specialIn K (.builtin "object.__class__") "__get__" = some (some (.builtin "getset_descriptor.__get__"))
  hTk : PySem.W.takesIn K (.builtin "object.__class__") = some true
  hOb : PySem.W.mroIn K C (.type "object") = some true
  kit : PySem.W.kitOne K (.ref C) (.ref C) = some true
section
variable {P : Program} {w : World} {K : PySem.W.Frag} {mg : Str → Option Value} {base : Heap} {f g fi : Addr} {fd gd fid : FuncData} {C : Addr}
theorem ok_cal {k : Nat} (F : Fun K "__call__" "Script.__call__" sCall f fd) (B : Blt mg) (T : ScT K mg C) : FnOk P w K mg base CX0 (k + 1) f fd ["self", "text"] (spCal C) := by
  refine F.ok scCall (fun vs H Q E h => ?_) (fun cdv A outer s H vs Q E hr h => ?_)
  · obtain ⟨_, _, rfl, _⟩ := h
    rfl
  obtain ⟨p, es, rfl, ⟨dx, t, us, h1, h2, h3⟩, q⟩ := h
  have nd := scCall.nd
  refine ⟨_, pss_cons (ps_if (PW.pt (pw_or (pt_not (pt_val (pe_callB call_isD rfl B.isi bt_isi (pa_cons (pv 1) (pa_cons (pe_bltn (v := .ty "str") rfl B.str bt_str rfl) pa_nil))))) (pw_or1 (pt_cmpR op_ne (pv 1) (pe_fld (pv 0) rfl) (nomark _))))) (pss_one ps_never) pss_nil)
    (pss_one (ps_ret (pe_fld (pv 0) rfl))), ?_⟩
  refine ⟨_, rfl, _, _, _, _, rfl, .str _, kss, true, rfl, ?_⟩
  refine iteF ⟨_, rfl, _, rfl, p, C, dx, _, _, rfl, h1, T.cl, T.nG, sf_given _ _ _, rfl, _, rfl, iteNS rfl ?_⟩
  exact ⟨_, rfl, p, C, dx, _, _, rfl, h1, T.cl, T.nM, sf_made _ _ _, q⟩
theorem ok_len {k : Nat} (F : Fun K "__len__" "Script.__len__" sLen f fd) (B : Blt mg) (T : ScT K mg C) : FnOk P w K mg base CX0 (k + 1) f fd ["self"] (spLen C) := by
  refine F.ok scLen (fun vs H Q E h => ?_) (fun cdv A outer s H vs Q E hr h => ?_)
  · obtain ⟨_, _, rfl, _⟩ := h
    rfl
  obtain ⟨p, es, rfl, ⟨dx, t, us, h1, h2, h3⟩, le, q⟩ := h
  have nd := scLen.nd
  refine ⟨_, pss_one (ps_ret (pe_callB call_len_seq rfl B.len PySem.boot_len (pa_cons (pe_lc (own := [("step", 1)]) (g := gName 1) (tt := tTest (tOp rNe (tOp (rIxT K) (tVar 1) (tC (.int 0))) (tC (.str "keep")))) (te := tVar 1) rfl nd (pi_tup (pe_fld (pv 0) rfl)) (blkOk_by (N := NInv) (sc := defScope sLen) (by decide +kernel)) (fun _ _ _ _ _ => pg_name (i := 1) nd rfl (Or.inl rfl))
      (fun _ _ _ _ _ => pts_one (pt_cmpR op_ne (pe_ix ix_tup (pv 1) pe_int (fun _ _ => rfl)) pe_str (nomark _))) (fun _ _ _ _ _ => pv 1)) pa_nil))), ?_⟩
  refine ⟨_, rfl, p, C, dx, _, _, rfl, h1, T.cl, T.nS, sf_steps _ _ _, t, rfl, ⟨_, SqT.of h2⟩, fun D hD => ?_⟩
  refine lc_tup (xs := us) (fun i H' => Ex H H' ∧ ∃ acc, H' D = some (.lst acc) ∧ acc.length = cntE (es.take i)) ⟨Ex.new hD, [], upd_same, rfl⟩ (fun i H' _ z => SqT.of (z.1 _ _ h2)) (fun i x H' hx z => ?_) (fun H3 z => ?_)
  · obtain ⟨z1, acc, z2, z3⟩ := z
    obtain ⟨d, hdd, hq⟩ := h3.get hx
    rw [List.getElem?_map] at hdd
    obtain ⟨e, he, rfl⟩ := Option.map_eq_some_iff.mp hdd
    obtain ⟨a, rfl, ha⟩ := ed_inv (hq.mono z1)
    obtain ⟨r, er⟩ := edV_tag e
    have cs : cntE (es.take (i + 1)) = cntE (es.take i) + (if notKeep e then 1 else 0) := by
      rw [take_snoc he]; unfold cntE
      rw [List.filter_append, List.length_append]
      cases hk : notKeep e <;> simp [List.filter_cons, hk]
    refine ⟨rfl, _, rfl, a, _, _, _, rfl, rfl, SqT.of ha, (by rw [er]; exact atI_nat (j := 0) rfl), rfl, _, rfl, ?_⟩
    rw [tag_keep]
    cases hk : notKeep e with
    | false => exact iteF ⟨z1, acc, z2, by rw [cs, hk]; exact z3⟩
    | true =>
      refine iteT ⟨_, rfl, acc, z2, ?_, z1.mut hD, acc ++ [.ref a], upd_same, by rw [cs, hk, List.length_append, z3]; rfl⟩
      rw [z3, sizeLine_eq]
      have : cntE (es.take i) ≤ es.length := Nat.le_trans (List.length_filter_le _ _) (by rw [List.length_take]; omega)
      omega
  obtain ⟨z1, acc, z2, z3⟩ := z
  have lu : us.length = es.length := by rw [h3.length, List.length_map]
  rw [lu, List.take_length] at z3
  refine ⟨D, acc, rfl, .inl (SqL.of z2), ?_⟩
  rw [z3]
  exact q _ z1
theorem ok_inv (F : Fun K "__invert__" "Script.__invert__" sInv f fd) (T : ScT K mg C) (M : Mk K C fi) (Gi : FnOk P w K mg base CX0 4 fi fid ["self", "steps"] (spIni C)) (bi : Binds K fid ["self", "steps"] []) (Tu : Lt P w K mg base g gd "turned" ["step"] 1 spTurn) : FnOk P w K mg base CX0 6 f fd ["self"] (spInv C) := by
  refine F.ok scInv (fun vs H Q E h => ?_) (fun cdv A outer s H vs Q E hr h => ?_)
  · obtain ⟨_, _, rfl, _⟩ := h
    rfl
  obtain ⟨p, es, rfl, ⟨dx, t, us, h1, h2, h3⟩, oe, le, q⟩ := h
  have nd := scInv.nd
  have hr1 : Room 1 _ := hr.mono (by decide)
  refine ⟨_, pss_one (ps_ret (pe_make M Gi hr rfl T.mC bi .nil pass0 (pa_cons (pe_lc (own := [("step", 1)]) (g := gName 1) (tt := tYes) (te := tCall spTurn [] E0 (tCons (tVar 1) tNil)) rfl nd (pi_tup (pe_fld (pv 0) rfl)) (blkOk_by (N := NInv) (sc := defScope sInv) (by decide +kernel)) (fun _ _ _ _ _ => pg_name (i := 1) nd rfl (Or.inl rfl))
      (fun _ _ _ _ _ => pts_nil) (fun _ _ _ _ _ => pe_call Tu.g hr1 rfl Tu.m Tu.k Tu.b .nil pass0 (pa_cons (pv 1) pa_nil))) pa_nil))), ?_⟩
  refine ⟨_, rfl, p, C, dx, _, _, rfl, h1, T.cl, T.nS, sf_steps _ _ _, t, rfl, ⟨_, SqT.of h2⟩, fun D hD => ?_⟩
  refine lc_tup (xs := us) (fun i H' => Ex H H' ∧ ∃ acc, H' D = some (.lst acc) ∧ acc.length = i ∧ DqAll (Hd D H') acc (((es.map Ed.turn).take i).map edD)) ⟨Ex.new hD, [], upd_same, rfl, .nil⟩ (fun i H' _ z => SqT.of (z.1 _ _ h2)) (fun i x H' hx z => ?_) (fun H3 z => ?_)
  · obtain ⟨z1, acc, z2, z3, z4⟩ := z
    obtain ⟨d, hdd, hq⟩ := h3.get hx
    rw [List.getElem?_map] at hdd
    obtain ⟨e, he, rfl⟩ := Option.map_eq_some_iff.mp hdd
    have jl := (List.getElem?_eq_some_iff.mp he).1
    refine ⟨rfl, tyes ⟨_, rfl, _, e, rfl, hq.mono z1, fun u H2 x2 du => ?_⟩⟩
    have z2' := x2 _ _ z2
    refine ⟨acc, z2', by rw [sizeLine_eq]; omega, (z1.trans x2).mut hD, acc ++ [u], upd_same, by simp [z3], ?_⟩
    rw [hd_upd_, take_snoc (show (es.map Ed.turn)[i]? = some e.turn by rw [List.getElem?_map, he]; rfl), List.map_append]
    refine (z4.mono fun b o e => hd_of (hd_some e).1 (x2 _ _ (hd_some e).2)).snoc ?_
    obtain ⟨a, rfl, ha⟩ := ed_inv du
    exact ed_of (hd_of (fun z => by subst z; rw [z2'] at ha; cases ha) ha)
  obtain ⟨z1, acc, z2, z3, z4⟩ := z
  have lu : us.length = es.length := by rw [h3.length, List.length_map]
  rw [List.take_of_length_le (by rw [List.length_map, lu]; exact Nat.le_refl _)] at z4
  refine mk_sc z2 (z4.mono hd_le) (fun e m => ?_) (by rw [List.length_map]; exact le) fun x H2 x2 nx sc => q x H2 (z1.trans x2) (by
    cases h : H x with
    | none => rfl
    | some o => rw [z1 _ _ h] at nx; cases nx) sc
  obtain ⟨e', m', rfl⟩ := List.mem_map.mp m
  exact turn_ok (oe e' m')
theorem ok_add (F : Fun K "__add__" "Script.__add__" sAdd f fd) (T : ScT K mg C) (M : Mk K C fi) (Gi : FnOk P w K mg base CX0 4 fi fid ["self", "steps"] (spIni C)) (bi : Binds K fid ["self", "steps"] []) (Sm : Lt P w K mg base g gd "summed" ["firsts", "seconds"] 2 spSumd) : FnOk P w K mg base CX0 6 f fd ["self", "other"] (spAdd C) := by
  refine F.ok scAdd (fun vs H Q E h => ?_) (fun cdv A outer s H vs Q E hr h => ?_)
  · obtain ⟨_, _, _, _, rfl, _⟩ := h
    rfl
  obtain ⟨p, r, es, fs, rfl, ⟨dx, t, us, h1, h2, h3⟩, ⟨dy, t', us', h1', h2', h3'⟩, mt, oe, of, le, q⟩ := h
  have nd := scAdd.nd
  have hr2 : Room 2 _ := hr.mono (by decide)
  refine ⟨_, pss_cons (ps_if (pt_cmpR op_ne (pe_fld (pv 1) rfl) (pe_fld (pv 0) rfl) (nomark _)) (pss_one ps_never) pss_nil)
    (pss_one (ps_ret (pe_make M Gi hr rfl T.mC bi .nil pass0 (pa_cons (pe_call Sm.g hr2 rfl Sm.m Sm.k Sm.b .nil pass0 (pa_cons (pe_fld (pv 0) rfl) (pa_cons (pe_fld (pv 1) rfl) pa_nil))) pa_nil)))), ?_⟩
  refine ⟨_, rfl, r, C, dy, _, _, rfl, h1', T.cl, T.nG, sf_given _ _ _, _, rfl, p, C, dx, _, _, rfl, h1, T.cl, T.nM, sf_made _ _ _, rfl, _, rfl, iteNS (by rw [mt.mt]) ?_⟩
  refine ⟨_, rfl, p, C, dx, _, _, rfl, h1, T.cl, T.nS, sf_steps _ _ _, _, rfl, r, C, dy, _, _, rfl, h1', T.cl, T.nS, sf_steps _ _ _, t, t', us, us', es, fs, rfl, h2, h3, h2', h3', mt, le, fun l H1 xs x1 nl hl hxs => ?_⟩
  refine mk_sc hl hxs (sum_ok mt oe of) (Nat.le_trans (sum_len mt) le) fun x H2 x2 nx sc => q x H2 (x1.trans x2) (by
    cases h : H x with
    | none => rfl
    | some o => rw [x1 _ _ h] at nx; cases nx) sc
theorem edV_str (e : Ed Nat) : ∀ x ∈ edV e, ∃ z, x = V.str z := by
  cases e <;> simp [edV]
theorem prs_ed {H : Hp} (e : Ed Nat) : Prs DFlat (edV e) (edV e) H := ⟨rfl, fun i x y h1 h2 => by
  rw [h1] at h2
  cases h2
  obtain ⟨z, rfl⟩ := edV_str e x (List.mem_of_getElem? h1)
  exact ⟨rfl, rfl, by simp [eqV]⟩⟩
theorem prs_eds {K : PySem.W.Frag} {H : Hp} {us us' : List V} {es : List (Ed Nat)} (h : DqAll H us (es.map edD)) (h' : DqAll H us' (es.map edD)) : Prs (DTup K DFlat) us us' H := ⟨by rw [h.length, h'.length], fun i x y h1 h2 => by
  obtain ⟨d, hd, q⟩ := h.get h1
  obtain ⟨d', hd', q'⟩ := h'.get h2
  rw [hd] at hd'
  cases hd'
  rw [List.getElem?_map] at hd
  obtain ⟨e, _, rfl⟩ := Option.map_eq_some_iff.mp hd
  obtain ⟨a, rfl, ha⟩ := ed_inv q
  obtain ⟨b, rfl, hb⟩ := ed_inv q'
  exact ⟨a, b, _, _, rfl, rfl, SqT.of ha, SqT.of hb, prs_ed e⟩⟩
theorem ok_eq (F : Fun K "__eq__" "Script.__eq__" sEq f fd) (B : Blt mg) (T : ScM K mg C) : FnOk P w K mg base CX0 3 f fd ["self", "other"] (spEqT C) := by
  refine F.ok scEq (fun vs H Q E h => ?_) (fun cdv A outer s H vs Q E hr h => ?_)
  · obtain ⟨_, _, _, rfl, _⟩ := h
    rfl
  obtain ⟨p, r, es, rfl, ⟨dx, t, us, h1, h2, h3⟩, ⟨dy, t', us', h1', h2', h3'⟩, q⟩ := h
  have nd := scEq.nd
  have hr2 : Room 2 _ := hr
  refine ⟨_, pss_one (ps_ret (pe_and (pe_callB call_isi rfl B.isi bt_isi (pa_cons (pv 1) (pa_cons (pe_glob (v := .ref C) rfl T.T.mC rfl) pa_nil))) (pe_one (pe_cmpR (op_eqG (rcG_tup (mon_tup mon_flat) (eqG_tup mon_flat eqG_flat)) hr2) (pe_fld (pv 0) rfl) (pe_fld (pv 1) rfl) (nomark _))))), ?_⟩
  refine ⟨_, rfl, .ref r, .ref C, _, _, true, rfl, .own C, .base (.ins h1' T.T.cl T.hCl T.hGt T.hTk T.hOb), T.kit, true, rfl, iteT ?_⟩
  refine ⟨_, rfl, p, C, dx, _, _, rfl, h1, T.T.cl, T.T.nS, sf_steps _ _ _, _, rfl, r, C, dy, _, _, rfl, h1', T.T.cl, T.T.nS, sf_steps _ _ _, ⟨t, t', us, us', rfl, rfl, SqT.of h2, SqT.of h2', prs_eds h3 h3'⟩, fun H' x => q H' x⟩
end
end Sk

/-! The class: its cost, by keywords; what keeps all. -/
namespace Sk
open PySem PySem.Spec PyProof.Rows L2 Evl
section
variable {X : Cx} {CX : CXT} {k n : Nat} {C f : Addr} {fd : FuncData} {ps ks : List Str} {sp : Sp} {E : XK} {m : Str} {apos pos : Pos} {o : Expr} {kws : List Keyword} {ta : TE} {tk : TA} {g : List Value → List Value → List Value} {gV : List V → List V → List V}
/-- o.m(k = v, ..) -/
def tMethN (C : Addr) (m : Str) (n : Nat) (sp : Sp) (gV : List V → List V → List V) (E : XK) (ta : TE) (tk : TA) : TE := fun σ H Q => ta σ H fun x H1 => ∃ a dx fs, x = V.ref a ∧ H1 a = some (.ins C dx fs) ∧ fs.lookup m = none ∧ tk σ H1 fun zs H2 => zs.length = n ∧ sp (gV [.ref a] zs) H2 Q E
theorem pe_methN {pl : Sem Bool} (he : PE X o ta) (c : Cls X.K C) (hm : Meth X.K C m f) (F : FnOk X.prog X.w X.K X.mg X.base CX k f fd ps sp) (hr : Room k X.A) (hb : KBn X.K fd ps 1 ks g gV) (hx : Passes CX X E) (hkw : PK X kws tk)
    (hall : (backToKw pos (keywordEach kws X.env)).all (·.1.isSome) = true := by rfl) (hks : (backToKw pos (keywordEach kws X.env)).filterMap (·.1) = ks := by rfl)
    (hpl : ((backTo pos (starEach [] X.env)).any (·.1) || (backToKw pos (keywordEach kws X.env)).any (·.1.isNone)) = false := by rfl)
    (ht : eval (.Call (.Attribute o m apos) [] kws pos) X.env = (do
      let ov ← eval o X.env
      standAt apos.atName
      let (f, first) ← holding [ov] (getMethod ov m pl)
      callWith pos f first (backTo pos (starEach [] X.env)) (backToKw pos (keywordEach kws X.env))) := by rfl) :
    PE X (.Call (.Attribute o m apos) [] kws pos) (tMethN C m ks.length sp gV E ta tk) := by
  refine ⟨fun pins s σ H Q I h => ?_⟩
  refine PySem.W.methodCall_KW (pl := pl) (thn (he.run pins s σ H _ I h) fun u s1 ⟨x, H1, I1, rx, a, dx, fs, ex, ea, l, q⟩ => ?_) ht
  subst ex
  obtain rfl : u = Value.ref a := rx
  refine getmeth_ok I1 ea c hm l ?_
  refine PySem.W.callWith_KW0 (h₀ := X.base) (first := [.ref a]) I1.ok.mod.kin hm.kp hall (thn (hkw.run pos pins s1 σ H1 _ I1 q) fun ws s2 ⟨zs, H2, I2, rz, l2, q2⟩ => ⟨I2.kIn, ?_⟩) hpl
  rw [hks]
  exact run_fnN (us := [.ref a]) (vs := [.ref a]) F hr hb hx I2 (.cons rfl .nil) rz rfl l2 q2
end
def priceE (a b c : Int) : Ed Nat → Int
  | .keep _ => 0
  | .put _ => a
  | .drop _ => b
  | .swap _ _ => c
def costE (a b c : Int) (es : List (Ed Nat)) : Int := (es.map (priceE a b c)).sum
abbrev NCos : List Str := ["self", "put", "drop", "swap", "prices", "step"]
abbrev NKep : List Str := ["cls", "text", "sign"]
theorem scKep : FnScope NKep ["cls", "text"] (defScope sKept) := ⟨rfl, rfl, rfl, by decide +kernel, rfl, by decide +kernel, by decide +kernel⟩
def spCos (C : Addr) : Sp := fun vs H Q _ => ∃ (p : Addr) (a b c : Int) (es : List (Ed Nat)), vs = [.ref p, .int a, .int b, .int c] ∧ ScAt C H p es ∧ es.length ≤ 100000 ∧ ∀ H', Ex H H' → Q (.int (costE a b c es)) H'
def spKep (C : Addr) : Sp := fun vs H Q _ => ∃ cs : List Nat, vs = [.ref C, .str (tx cs)] ∧ cs.length ≤ 100000 ∧ ∀ x H', Ex H H' → H x = none → ScAt C H' x (keptE cs) → Q (.ref x) H'
theorem val_price (a b c : Int) (e : Ed Nat) : valV (mergeK [] [((.inr "keep" : Key), V.int 0), (.inr "put", V.int a), (.inr "drop", V.int b), (.inr "swap", V.int c)]) (.inr (tag e)) = some (.int (priceE a b c e)) := by cases e <;> rfl
section
variable {P : Program} {w : World} {K : PySem.W.Frag} {mg : Str → Option Value} {base : Heap} {f g fi : Addr} {fd gd fid : FuncData} {C : Addr}
theorem ok_kep (F : Fun K "kept" "Script.kept" sKept f fd) (M : Mk K C fi) (Gi : FnOk P w K mg base CX0 4 fi fid ["self", "steps"] (spIni C)) (bi : Binds K fid ["self", "steps"] []) : FnOk P w K mg base CX0 6 f fd ["cls", "text"] (spKep C) := by
  refine F.ok scKep (fun vs H Q E h => ?_) (fun cdv A outer s H vs Q E hr h => ?_)
  · obtain ⟨_, rfl, _⟩ := h
    rfl
  obtain ⟨cs, rfl, le, q⟩ := h
  have nd := scKep.nd
  refine ⟨_, pss_one (ps_ret (pe_makeL (i := 0) M Gi hr rfl (Or.inl rfl) bi .nil pass0 (pa_cons (pe_lc (own := [("sign", 2)]) (g := gName 2) (tt := tYes) (te := tTup (tCons (tC (.str "keep")) (tCons (tVar 2) tNil))) rfl nd (pi_str (pv 1)) (blkOk_by (N := NKep) (sc := defScope sKept) (by decide +kernel)) (fun _ _ _ _ _ => pg_name (i := 2) nd rfl (Or.inl rfl))
      (fun _ _ _ _ _ => pts_nil) (fun _ _ _ _ _ => pe_tup (pa_cons pe_str (pa_cons (pv 2) pa_nil)))) pa_nil))), ?_⟩
  refine ⟨rfl, _, rfl, tx cs, rfl, fun D hD => ?_⟩
  refine lc_it walk_str (fun i H' => Ex H H' ∧ ∃ acc, H' D = some (.lst acc) ∧ acc.length = i ∧ DqAll (Hd D H') acc (((keptE cs).take i).map edD)) ⟨Ex.new hD, [], upd_same, rfl, .nil⟩ (fun _ _ _ _ => trivial) (fun i y H1 H2 hi z wv => ?_) (fun H3 z => ?_)
  · obtain ⟨z1, acc, z2, z3, z4⟩ := z
    obtain ⟨rfl, c, hc, rfl⟩ := wv
    have hc' : cs[i]? = some c := by simpa [tx] using hc
    have jl := (List.getElem?_eq_some_iff.mp hc').1
    refine ⟨rfl, tyes ⟨_, rfl, nle' (by show 2 ≤ 1000; decide), fun r nr => ?_⟩⟩
    have xr := Ex.new (o := HO.tup [.str "keep", .str ⟨#[c]⟩]) nr
    have nD : D ≠ r := ne_of_none z2 nr
    refine ⟨acc, xr _ _ z2, by rw [sizeLine_eq]; omega, (z1.trans xr).mut hD, acc ++ [.ref r], upd_same, by simp [z3], ?_⟩
    rw [hd_upd_, take_snoc (show (keptE cs)[i]? = some (.keep c) by rw [keptE, List.getElem?_map, hc']; rfl), List.map_append]
    refine (z4.mono fun b o e => hd_of (hd_some e).1 (xr _ _ (hd_some e).2)).snoc ?_
    exact ed_of (e := .keep c) (hd_of nD.symm upd_same)
  obtain ⟨z1, acc, z2, z3, z4⟩ := z
  rw [List.take_of_length_le (by simp [keptE, tx])] at z4
  refine mk_sc z2 (z4.mono hd_le) (kept_ok cs) (by rw [keptE, List.length_map]; exact le) fun x H2 x2 nx sc => q x H2 (z1.trans x2) (by
    cases h : H x with
    | none => rfl
    | some o => rw [z1 _ _ h] at nx; cases nx) sc
end
end Sk


namespace Sk
open PySem PySem.Spec PyProof.Rows L2 Evl
theorem mk_ex {C x dx : Addr} {H1 : Hp} (nx : H1 x = none) (ndx : H1 dx = none) : Ex H1 (upd (upd H1 dx (.own x)) x (.ins C dx [])) ∧ Ex H1 (Hd x (upd (upd H1 dx (.own x)) x (.ins C dx []))) := by
  have e1 : Ex H1 (upd (upd H1 dx (.own x)) x (.ins C dx [])) := fun b o e => by
    rw [upd_ne (ne_of_none e nx), upd_ne (ne_of_none e ndx)]; exact e
  exact ⟨e1, fun b o e => hd_of (ne_of_none e nx) (e1 _ _ e)⟩
end Sk

/-! Two small languages made. -/
namespace Sk
open PySem PySem.Spec PyProof.Rows L2 Evl
abbrev sLInit : Stmt := inClass (topS 62) 0
abbrev sListed : Stmt := inClass (topS 62) 2
abbrev sLEq : Stmt := inClass (topS 62) 8
theorem scLIni : FnScope ["self", "states"] ["self", "states"] (defScope sLInit) := ⟨rfl, rfl, rfl, by decide +kernel, rfl, by decide +kernel, by decide +kernel⟩
theorem scLst : FnScope ["cls", "texts"] ["cls", "texts"] (defScope sListed) := ⟨rfl, rfl, rfl, by decide +kernel, rfl, by decide +kernel, by decide +kernel⟩
theorem scLEq : FnScope ["self", "other"] ["self", "other"] (defScope sLEq) := ⟨rfl, rfl, rfl, by decide +kernel, rfl, by decide +kernel, by decide +kernel⟩
structure LgT (K : PySem.W.Frag) (mg : Str → Option Value) (C : Addr) : Prop where
  cl : Cls K C
  n1 : NoAttr K C "_states"
  n2 : NoAttr K C "_moves"
  n3 : NoAttr K C "_many"
  n4 : NoAttr K C "count"
  n5 : NoAttr K C "_kept_net"
  mC : mg "Language" = some (.ref C)
  hCl : PySem.W.findIn K (.ref C) "__class__" = some (some (.builtin "object.__class__"))
  hGt : PySem.W.specialIn K (.builtin "object.__class__") "__get__" = some (some (.builtin "getset_descriptor.__get__"))
  hTk : PySem.W.takesIn K (.builtin "object.__class__") = some true
  hOb : PySem.W.mroIn K C (.type "object") = some true
  kit : PySem.W.kitOne K (.ref C) (.ref C) = some true
/-- a language -/
def LgAt (C : Addr) (H : Hp) (x : Addr) : Prop := ∃ dx fs l as, H x = some (.ins C dx fs) ∧ fs.lookup ("_states" : Str) = some (.ref l) ∧ H l = some (.lst (List.map V.ref as))
theorem LgAt.mono {C : Addr} {H H' : Hp} {x : Addr} (e : Ex H H') (h : LgAt C H x) : LgAt C H' x := let ⟨dx, fs, l, ws, a, b, c⟩ := h; ⟨dx, fs, l, ws, e _ _ a, b, e _ _ c⟩
theorem St2.mono {H H' : Hp} {p : Addr} (x : Ex H H') (h : St2 H p) : St2 H' p := h.imp (StA.mono x) (StB.mono x)
theorem St2.list {H : Hp} {p : Addr} (h : St2 H p) : ∃ as, H p = some (.lst (List.map V.ref as)) := by
  rcases h with ⟨s, r, h, _⟩ | ⟨s, t, r, u, q, h, _⟩
  · exact ⟨[s], h⟩
  · exact ⟨[s, t], h⟩
theorem eq_refs {K : PySem.W.Frag} {H : Hp} : ∀ as : List Addr, Paired (EqV K H 1) (as.map V.ref) (as.map V.ref)
  | [] => .nil
  | a :: as => .cons (.inr (.inl ⟨a, rfl, rfl⟩)) (eq_refs as)
def spLin (C : Addr) : Sp := fun vs H Q _ => ∃ (p a dx : Addr), vs = [.ref p, .ref a] ∧ H p = some (.ins C dx []) ∧ St2 (Hd p H) a ∧ ∀ H', Ex (Hd p H) H' → LgAt C H' p → Q .non H'
def spLst (C : Addr) : Sp := fun vs H Q _ => ∃ l, vs = [.ref C, .ref l] ∧ (H l = some (.lst []) ∨ H l = some (.lst [.str "a"])) ∧ ∀ x H', Ex H H' → H x = none → LgAt C H' x → Q (.ref x) H'
def spLEq (C : Addr) : Sp := fun vs H Q _ => ∃ x, vs = [.ref x, .ref x] ∧ LgAt C H x ∧ Q (.bl true) H
section
variable {P : Program} {w : World} {K : PySem.W.Frag} {mg : Str → Option Value} {base : Heap} {f fM fN fT fi C : Addr} {fd dM dN dT fid : FuncData}
theorem ok_lin (F : Fun K "__init__" "Language.__init__" sLInit f fd) (B : Blt mg) (T : LgT K mg C) (Mv : Lt P w K mg base fM dM "moves_of_states" ["states"] 1 spMov) (Ct : Lt P w K mg base fN dN "counts_of" ["states"] 2 spCnt) : FnOk P w K mg base CX0 3 f fd ["self", "states"] (spLin C) := by
  refine F.ok scLIni (fun vs H Q E h => ?_) (fun cdv A outer s H vs Q E hr h => ?_)
  · obtain ⟨_, _, _, rfl, _⟩ := h
    rfl
  have nd := scLIni.nd
  have hr1 : Room 1 _ := hr.mono (by decide)
  obtain ⟨p, a, dx, rfl, hp, sa, q⟩ := h
  refine ⟨_, pss_cons (ps_fld (pv 0) (pe_callTy call_list_of rfl B.list bt_list (pa_cons (pv 1) pa_nil)) rfl)
    (pss_cons (ps_fld (pv 0) (pe_call Mv.g hr1 rfl Mv.m Mv.k Mv.b .nil pass0 (pa_cons (pv 1) pa_nil)) rfl)
    (pss_cons (ps_fld (pv 0) (pe_call Ct.g hr rfl Ct.m Ct.k Ct.b .nil pass0 (pa_cons (pv 1) pa_nil)) rfl)
    (pss_cons (ps_fld (pv 0) (pe_ix ix_list (pe_fld (pv 0) rfl) pe_int (fun _ _ => rfl)) rfl)
    (pss_one (ps_fld (pv 0) pe_non rfl))))), ?_⟩
  obtain ⟨as, ha⟩ := sa.list
  obtain ⟨ws, hw⟩ : ∃ ws, ws = List.map V.ref as := ⟨_, rfl⟩
  rw [← hw] at ha
  have L0 : Lv (Hd p H) H [(p, .ins C dx [])] := ⟨by simp, (fun z m => by cases List.mem_singleton.mp m; exact hp), (fun z m => by cases List.mem_singleton.mp m; exact if_pos rfl), hd_le⟩
  refine ⟨_, rfl, a, ws, rfl, .inl (SqL.of (L0.ex _ _ ha)), fun l nl => ?_⟩
  have L1 := L0.new (o := HO.lst ws) nl
  generalize upd H l (HO.lst ws) = G1 at L1 ⊢
  refine ⟨_, rfl, p, C, dx, [], rfl, L1.get 1 rfl, T.cl, T.n1, (by show 0 < 1000; decide), ?_⟩
  have L2 := L1.mut 1 (a := p) (HO.ins C dx (putF "_states" (.ref l) [])) rfl
  generalize upd G1 p (HO.ins C dx (putF "_states" (.ref l) [])) = G2 at L2 ⊢
  refine ⟨_, rfl, a, rfl, sa.mono L2.ex, fun m Hm xm => ?_⟩
  have L3 := L2.ext xm
  refine ⟨_, rfl, p, C, dx, _, rfl, L3.get 1 rfl, T.cl, T.n2, (by show 1 < 1000; decide), ?_⟩
  have L4 := L3.mut 1 (a := p) (HO.ins C dx (putF "_moves" (.ref m) (putF "_states" (.ref l) []))) rfl
  generalize upd Hm p (HO.ins C dx (putF "_moves" (.ref m) (putF "_states" (.ref l) []))) = G4 at L4 ⊢
  refine ⟨_, rfl, a, rfl, sa.mono L4.ex, fun c n ns Hc xc ec => ?_⟩
  have L5 := L4.ext xc
  have cp : c ≠ p := fun z => by
    have := L5.get 1 (a := p) rfl
    rw [z, this] at ec
    cases ec
  refine ⟨_, rfl, p, C, dx, _, rfl, L5.get 1 rfl, T.cl, T.n3, (by show 2 < 1000; decide), ?_⟩
  have L6 := L5.mut 1 (a := p) (HO.ins C dx (putF "_many" (.ref c) (putF "_moves" (.ref m) (putF "_states" (.ref l) [])))) rfl
  have ec6 : upd Hc p (HO.ins C dx (putF "_many" (.ref c) (putF "_moves" (.ref m) (putF "_states" (.ref l) [])))) c = some (.lst (.int n :: ns)) := by rw [upd_ne cp]; exact ec
  generalize upd Hc p (HO.ins C dx (putF "_many" (.ref c) (putF "_moves" (.ref m) (putF "_states" (.ref l) [])))) = G6 at L6 ec6 ⊢
  refine ⟨_, rfl, p, C, dx, _, .ref c, rfl, L6.get 1 rfl, T.cl, T.n3, by rw [lookup_putF, if_pos rfl], c, _, 0, .int n, rfl, rfl, SqL.of ec6, atI_nat (j := 0) rfl, _, rfl, p, C, dx, _, rfl, L6.get 1 rfl, T.cl, T.n4, (by show 3 < 1000; decide), ?_⟩
  have L7 := L6.mut 1 (a := p) (HO.ins C dx (putF "count" (.int n) (putF "_many" (.ref c) (putF "_moves" (.ref m) (putF "_states" (.ref l) []))))) rfl
  generalize upd G6 p (HO.ins C dx (putF "count" (.int n) (putF "_many" (.ref c) (putF "_moves" (.ref m) (putF "_states" (.ref l) []))))) = G7 at L7 ⊢
  refine ⟨_, rfl, p, C, dx, _, rfl, L7.get 1 rfl, T.cl, T.n5, (by show 4 < 1000; decide), ?_⟩
  have L8 := L7.mut 1 (a := p) (HO.ins C dx (putF "_kept_net" .non (putF "count" (.int n) (putF "_many" (.ref c) (putF "_moves" (.ref m) (putF "_states" (.ref l) [])))))) rfl
  exact q _ L8.ex ⟨dx, _, l, as, L8.get 1 rfl, by rw [lookup_putF, if_neg (by decide +kernel), lookup_putF, if_neg (by decide +kernel), lookup_putF, if_neg (by decide +kernel), lookup_putF, if_neg (by decide +kernel), lookup_putF, if_pos rfl], hw ▸ L8.get 0 rfl⟩
theorem ok_lst (F : Fun K "listed" "Language.listed" sListed f fd) (M : Mk K C fi) (Gi : FnOk P w K mg base CX0 3 fi fid ["self", "states"] (spLin C)) (bi : Binds K fid ["self", "states"] []) (Tx : Lt P w K mg base fT dT "states_of_texts" ["texts"] 2 spTex) : FnOk P w K mg base CX0 5 f fd ["cls", "texts"] (spLst C) := by
  refine F.ok scLst (fun vs H Q E h => ?_) (fun cdv A outer s H vs Q E hr h => ?_)
  · obtain ⟨_, rfl, _⟩ := h
    rfl
  have nd := scLst.nd
  have hr2 : Room 2 _ := hr.mono (by decide)
  obtain ⟨l, rfl, hl, q⟩ := h
  refine ⟨_, pss_one (ps_ret (pe_makeL (i := 0) M Gi hr rfl (Or.inl rfl) bi .nil pass0 (pa_cons (pe_call Tx.g hr2 rfl Tx.m Tx.k Tx.b .nil pass0 (pa_cons (pv 1) pa_nil)) pa_nil))), ?_⟩
  refine ⟨rfl, _, rfl, l, rfl, hl, fun a H1 x1 s1 => ?_⟩
  intro x dx nx ndx ne
  obtain ⟨e1, e2⟩ := mk_ex (C := C) nx ndx
  refine ⟨x, a, dx, rfl, upd_same, s1.mono e2, fun H2 x2 g => ⟨rfl, ?_⟩⟩
  exact q x H2 (x1.trans (e2.trans x2)) (ex_none' x1 nx) g
theorem ok_leq (F : Fun K "__eq__" "Language.__eq__" sLEq f fd) (B : Blt mg) (T : LgT K mg C) : FnOk P w K mg base CX0 1 f fd ["self", "other"] (spLEq C) := by
  refine F.ok scLEq (fun vs H Q E h => ?_) (fun cdv A outer s H vs Q E hr h => ?_)
  · obtain ⟨_, rfl, _⟩ := h
    rfl
  have nd := scLEq.nd
  have hu : (A.deeper (envOfC "Language.__eq__" (defScope sLEq) s.heap.objs.size f cdv)).units + 64 < cLine := hr.units
  obtain ⟨x, rfl, ⟨dx, fs, l, ws, h1, h2, h3⟩, q⟩ := h
  refine ⟨_, pss_one (ps_ret (pe_and (pe_callB call_isi rfl B.isi bt_isi (pa_cons (pv 1) (pa_cons (pe_glob (v := .ref C) rfl T.mC rfl) pa_nil))) (pe_one (pe_cmpR (op_eqV hu) (pe_fld (pv 0) rfl) (pe_fld (pv 1) rfl) (nomark _))))), ?_⟩
  refine ⟨_, rfl, .ref x, .ref C, _, _, true, rfl, .own C, .base (.ins h1 T.cl T.hCl T.hGt T.hTk T.hOb), T.kit, true, rfl, iteT ?_⟩
  refine ⟨_, rfl, x, C, dx, _, _, rfl, h1, T.cl, T.n1, h2, _, rfl, x, C, dx, _, _, rfl, h1, T.cl, T.n1, h2, 1, by decide, .inl ⟨l, l, _, _, rfl, rfl, SqL.of h3, SqL.of h3, eq_refs ws⟩, q⟩
end
end Sk

/-! Language(states), Language.listed(texts): of any automaton, of any list of texts. -/
namespace Sk
open PySem PySem.Spec PyProof.Rows L2 Evl Lg
/-- a language: its automaton -/
def LgG (C : Addr) (H : Hp) (x : Addr) (G : List Lg.Row) (rk : Nat → Nat) : Prop := ∃ dx fs l m c, H x = some (.ins C dx fs) ∧ fs.lookup ("_states" : Str) = some (.ref l) ∧ STq H l G ∧ fs.lookup ("_moves" : Str) = some (.ref m) ∧ MvAt H m G ∧
  fs.lookup ("_many" : Str) = some (.ref c) ∧ H c = some (.lst (vL (fun i => (many G rk i : Int)) G.length)) ∧ fs.lookup ("count" : Str) = some (.int (many G rk 0 : Int)) ∧ fs.lookup ("_kept_net" : Str) = some .non ∧
  ∀ a : Str, a ≠ "_states" → a ≠ "_moves" → a ≠ "_many" → a ≠ "count" → a ≠ "_kept_net" → fs.lookup a = none
theorem LgG.mono {C : Addr} {H H' : Hp} {x : Addr} {G : List Lg.Row} {rk : Nat → Nat} (e : Ex H H') (h : LgG C H x G rk) : LgG C H' x G rk := let ⟨dx, fs, l, m, c, h1, h2, h3, h4, h5, h6, h7, h8, h9⟩ := h; ⟨dx, fs, l, m, c, e _ _ h1, h2, h3.mono e, h4, h5.mono e, h6, e _ _ h7, h8, h9⟩
/-- what the fields lead to is new -/
def LgNew (U H : Hp) (x : Addr) : Prop := ∀ (C dx : Addr) (fs : List (Str × V)), H x = some (.ins C dx fs) → ∀ (a : Str) (b : Addr), fs.lookup a = some (.ref b) → U b = none
theorem LgNew.mono {U H H' : Hp} {x C dx : Addr} {fs : List (Str × V)} (e : Ex H H') (hx : H x = some (.ins C dx fs)) (h : LgNew U H x) : LgNew U H' x := fun C' dx' fs' hx' a b l => by
  rw [e _ _ hx] at hx'
  cases hx'
  exact h _ _ _ hx a b l
def spLinG (C : Addr) : Sp := fun vs H Q _ => ∃ (p a dx : Addr) (G : List Lg.Row) (rk : Nat → Nat), vs = [.ref p, .ref a] ∧ H p = some (.ins C dx []) ∧ STq (Hd p H) a G ∧ Aut G rk ∧ G.length ≤ 100000 ∧ (∀ r ∈ G, r.2.length ≤ 100000) ∧ ∀ H', Ex (Hd p H) H' → LgG C H' p G rk → LgNew (Hd p H) H' p → Q .non H'
def spLstG (C : Addr) : Sp := fun vs H Q _ => ∃ (l : Addr) (xs : List (List Nat)), vs = [.ref C, .ref l] ∧ H l = some (.lst ((xs.map tx).map V.str)) ∧ xs.length < 64 ∧ sumL xs ≤ 50000 ∧
  ∀ x H' G rk, Ex H H' → H x = none → LgG C H' x G rk → LgNew H H' x → Aut G rk → G.length ≤ 100000 → (∀ r ∈ G, r.2.length ≤ 100000) → (∀ w, acc G w 0 = true ↔ w ∈ xs) → Q (.ref x) H'
theorem STq.sat {K : PySem.W.Frag} {H : Hp} {p : Addr} {S : List Lg.Row} (h : STq H p S) : SAt K H p S := let ⟨ss, a, b⟩ := h; ⟨ss, a, paired_imp (fun _ _ z => z.at_) b⟩
theorem STq.rows {H H' : Hp} {p l : Addr} {S : List Lg.Row} {ws : List V} (x : Ex H H') (h : STq H p S) (e : H p = some (.lst ws)) (g : H' l = some (.lst ws)) : STq H' l S := by
  obtain ⟨ss, a, b⟩ := h
  rw [a] at e
  cases e
  exact ⟨ss, g, paired_imp (fun _ _ z => z.nl (Nl.of x)) b⟩
section
variable {P : Program} {w : World} {K : PySem.W.Frag} {mg : Str → Option Value} {base : Heap} {f fM fN fT fi C : Addr} {fd dM dN dT fid : FuncData}
theorem ok_linG (F : Fun K "__init__" "Language.__init__" sLInit f fd) (B : Blt mg) (T : LgT K mg C) (Mv : Lt P w K mg base fM dM "moves_of_states" ["states"] 1 spMovG) (Ct : Lt P w K mg base fN dN "counts_of" ["states"] 2 (spCntG K)) : FnOk P w K mg base CX0 3 f fd ["self", "states"] (spLinG C) := by
  refine F.ok scLIni (fun vs H Q E h => ?_) (fun cdv A outer s H vs Q E hr h => ?_)
  · obtain ⟨_, _, _, _, _, rfl, _⟩ := h
    rfl
  have nd := scLIni.nd
  have hr1 : Room 1 _ := hr.mono (by decide)
  obtain ⟨p, a, dx, G, rk, rfl, hp, sa, au, lG, lr, q⟩ := h
  refine ⟨_, pss_cons (ps_fld (pv 0) (pe_callTy call_list_of rfl B.list bt_list (pa_cons (pv 1) pa_nil)) rfl)
    (pss_cons (ps_fld (pv 0) (pe_call Mv.g hr1 rfl Mv.m Mv.k Mv.b .nil pass0 (pa_cons (pv 1) pa_nil)) rfl)
    (pss_cons (ps_fld (pv 0) (pe_call Ct.g hr rfl Ct.m Ct.k Ct.b .nil pass0 (pa_cons (pv 1) pa_nil)) rfl)
    (pss_cons (ps_fld (pv 0) (pe_ix ix_list (pe_fld (pv 0) rfl) pe_int (fun _ _ => rfl)) rfl)
    (pss_one (ps_fld (pv 0) pe_non rfl))))), ?_⟩
  obtain ⟨as, ha, hrow⟩ := id sa
  obtain ⟨ws, hw⟩ : ∃ ws, ws = List.map V.ref as := ⟨_, rfl⟩
  rw [← hw] at ha
  have L0 : Lv (Hd p H) H [(p, .ins C dx [])] := ⟨by simp, (fun z m => by cases List.mem_singleton.mp m; exact hp), (fun z m => by cases List.mem_singleton.mp m; exact if_pos rfl), hd_le⟩
  refine ⟨_, rfl, a, ws, rfl, .inl (SqL.of (L0.ex _ _ ha)), fun l nl => ?_⟩
  have newl : Hd p H l = none := ex_none' hd_le nl
  have L1 := L0.new (o := HO.lst ws) nl
  generalize upd H l (HO.lst ws) = G1 at L1 ⊢
  refine ⟨_, rfl, p, C, dx, [], rfl, L1.get 1 rfl, T.cl, T.n1, (by show 0 < 1000; decide), ?_⟩
  have L2 := L1.mut 1 (a := p) (HO.ins C dx (putF "_states" (.ref l) [])) rfl
  generalize upd G1 p (HO.ins C dx (putF "_states" (.ref l) [])) = G2 at L2 ⊢
  refine ⟨_, rfl, a, G, rfl, sa.mono L2.ex, (fun r m => by
    obtain ⟨i, hi⟩ := List.mem_iff_getElem?.mp m
    exact ⟨au.asc i r hi, lr r m⟩), lG, fun m Hm xm nm gm => ?_⟩
  have newm : Hd p H m = none := ex_none' L2.ex nm
  have L3 := L2.ext xm
  refine ⟨_, rfl, p, C, dx, _, rfl, L3.get 1 rfl, T.cl, T.n2, (by show 1 < 1000; decide), ?_⟩
  have L4 := L3.mut 1 (a := p) (HO.ins C dx (putF "_moves" (.ref m) (putF "_states" (.ref l) []))) rfl
  have y4 : ∀ b o, (∀ fs, o ≠ HO.ins C dx fs) → Hm b = some o → upd Hm p (HO.ins C dx (putF "_moves" (.ref m) (putF "_states" (.ref l) []))) b = some o := fun b o n e => by
    have : b ≠ p := fun z => by rw [z, L3.get 1 (a := p) rfl] at e; cases e; exact n _ rfl
    rw [upd_ne this]; exact e
  generalize upd Hm p (HO.ins C dx (putF "_moves" (.ref m) (putF "_states" (.ref l) []))) = G4 at L4 y4 ⊢
  refine ⟨_, rfl, a, G, rk, rfl, (sa.mono L4.ex).sat, au, lG, lr, fun c Hc xc nc ec => ?_⟩
  have newc : Hd p H c = none := ex_none' L4.ex nc
  have L5 := L4.ext xc
  refine ⟨_, rfl, p, C, dx, _, rfl, L5.get 1 rfl, T.cl, T.n3, (by show 2 < 1000; decide), ?_⟩
  have L6 := L5.mut 1 (a := p) (HO.ins C dx (putF "_many" (.ref c) (putF "_moves" (.ref m) (putF "_states" (.ref l) [])))) rfl
  have y6 : ∀ b o, (∀ fs, o ≠ HO.ins C dx fs) → Hc b = some o → upd Hc p (HO.ins C dx (putF "_many" (.ref c) (putF "_moves" (.ref m) (putF "_states" (.ref l) [])))) b = some o := fun b o n e => by
    have : b ≠ p := fun z => by rw [z, L5.get 1 (a := p) rfl] at e; cases e; exact n _ rfl
    rw [upd_ne this]; exact e
  generalize upd Hc p (HO.ins C dx (putF "_many" (.ref c) (putF "_moves" (.ref m) (putF "_states" (.ref l) [])))) = G6 at L6 y6 ⊢
  have ec6 := y6 c (.lst _) (fun _ => nofun) ec
  refine ⟨_, rfl, p, C, dx, _, .ref c, rfl, L6.get 1 rfl, T.cl, T.n3, by rw [lookup_putF, if_pos rfl], c, _, 0, .int (many G rk 0 : Int), rfl, rfl, SqL.of ec6, atI_nat (j := 0) (vL_at au.ne), _, rfl, p, C, dx, _, rfl, L6.get 1 rfl, T.cl, T.n4, (by show 3 < 1000; decide), ?_⟩
  have L7 := L6.mut 1 (a := p) (HO.ins C dx (putF "count" (.int (many G rk 0 : Int)) (putF "_many" (.ref c) (putF "_moves" (.ref m) (putF "_states" (.ref l) []))))) rfl
  have y7 : ∀ b o, (∀ fs, o ≠ HO.ins C dx fs) → G6 b = some o → upd G6 p (HO.ins C dx (putF "count" (.int (many G rk 0 : Int)) (putF "_many" (.ref c) (putF "_moves" (.ref m) (putF "_states" (.ref l) []))))) b = some o := fun b o n e => by
    have : b ≠ p := fun z => by rw [z, L6.get 1 (a := p) rfl] at e; cases e; exact n _ rfl
    rw [upd_ne this]; exact e
  generalize upd G6 p (HO.ins C dx (putF "count" (.int (many G rk 0 : Int)) (putF "_many" (.ref c) (putF "_moves" (.ref m) (putF "_states" (.ref l) []))))) = G7 at L7 y7 ⊢
  refine ⟨_, rfl, p, C, dx, _, rfl, L7.get 1 rfl, T.cl, T.n5, (by show 4 < 1000; decide), ?_⟩
  have L8 := L7.mut 1 (a := p) (HO.ins C dx (putF "_kept_net" .non (putF "count" (.int (many G rk 0 : Int)) (putF "_many" (.ref c) (putF "_moves" (.ref m) (putF "_states" (.ref l) [])))))) rfl
  have y8 : ∀ b o, (∀ fs, o ≠ HO.ins C dx fs) → G7 b = some o → upd G7 p (HO.ins C dx (putF "_kept_net" .non (putF "count" (.int (many G rk 0 : Int)) (putF "_many" (.ref c) (putF "_moves" (.ref m) (putF "_states" (.ref l) [])))))) b = some o := fun b o n e => by
    have : b ≠ p := fun z => by rw [z, L7.get 1 (a := p) rfl] at e; cases e; exact n _ rfl
    rw [upd_ne this]; exact e
  obtain ⟨ds, e0, g1, g2, g3⟩ := gm
  have up : ∀ b o, (∀ fs, o ≠ HO.ins C dx fs) → Hm b = some o → upd G7 p (HO.ins C dx (putF "_kept_net" .non (putF "count" (.int (many G rk 0 : Int)) (putF "_many" (.ref c) (putF "_moves" (.ref m) (putF "_states" (.ref l) [])))))) b = some o := fun b o n e => y8 _ _ n (y7 _ _ n (y6 _ _ n (xc _ _ (y4 _ _ n e))))
  have fk : ∀ (g x : Str) (v : V) (fs : List (Str × V)), x ≠ g → (putF g v fs).lookup x = fs.lookup x := fun g x v fs n => by rw [lookup_putF, if_neg n]
  refine q _ L8.ex ⟨dx, _, l, m, c, L8.get 1 rfl, ?_, STq.rows L8.ex sa ha (L8.get 0 rfl), ?_, ⟨ds, e0, up m (.lst _) (fun _ => nofun) g1, paired_imp (fun d r z => up d (.dK (movK r.2)) (fun _ => nofun) z) g2, up e0 (.dK []) (fun _ => nofun) g3⟩, ?_, y8 c (.lst _) (fun _ => nofun) (y7 c (.lst _) (fun _ => nofun) ec6), ?_, ?_, fun a n1 n2 n3 n4 n5 => ?_⟩ fun C' dx' fs' ex' a b hb => ?_
  · rw [fk _ _ _ _ (by decide +kernel), fk _ _ _ _ (by decide +kernel), fk _ _ _ _ (by decide +kernel), fk _ _ _ _ (by decide +kernel), lookup_putF, if_pos rfl]
  · rw [fk _ _ _ _ (by decide +kernel), fk _ _ _ _ (by decide +kernel), fk _ _ _ _ (by decide +kernel), lookup_putF, if_pos rfl]
  · rw [fk _ _ _ _ (by decide +kernel), fk _ _ _ _ (by decide +kernel), lookup_putF, if_pos rfl]
  · rw [fk _ _ _ _ (by decide +kernel), lookup_putF, if_pos rfl]
  · rw [lookup_putF, if_pos rfl]
  · rw [fk _ _ _ _ n5, fk _ _ _ _ n4, fk _ _ _ _ n3, fk _ _ _ _ n2, fk _ _ _ _ n1]; rfl
  · rw [L8.get 1 (a := p) rfl] at ex'
    cases ex'
    rw [lookup_putF] at hb
    split at hb
    · cases hb
    rw [lookup_putF] at hb
    split at hb
    · cases hb
    rw [lookup_putF] at hb
    split at hb
    · cases hb; exact newc
    rw [lookup_putF] at hb
    split at hb
    · cases hb; exact newm
    rw [lookup_putF] at hb
    split at hb
    · cases hb; exact newl
    · cases hb
theorem ok_lstG (F : Fun K "listed" "Language.listed" sListed f fd) (M : Mk K C fi) (Gi : FnOk P w K mg base CX0 3 fi fid ["self", "states"] (spLinG C)) (bi : Binds K fid ["self", "states"] []) (Tx : Lt P w K mg base fT dT "states_of_texts" ["texts"] 2 (spTexG K)) : FnOk P w K mg base CX0 5 f fd ["cls", "texts"] (spLstG C) := by
  refine F.ok scLst (fun vs H Q E h => ?_) (fun cdv A outer s H vs Q E hr h => ?_)
  · obtain ⟨_, _, rfl, _⟩ := h
    rfl
  have nd := scLst.nd
  have hr2 : Room 2 _ := hr.mono (by decide)
  obtain ⟨l, xs, rfl, hl, lx, sx, q⟩ := h
  refine ⟨_, pss_one (ps_ret (pe_makeL (i := 0) M Gi hr rfl (Or.inl rfl) bi .nil pass0 (pa_cons (pe_call Tx.g hr2 rfl Tx.m Tx.k Tx.b .nil pass0 (pa_cons (pv 1) pa_nil)) pa_nil))), ?_⟩
  refine ⟨rfl, _, rfl, l, xs, rfl, hl, lx, sx, fun a H1 G rk x1 s1 au lG lr ac => ?_⟩
  intro x dx nx ndx ne
  obtain ⟨e1, e2⟩ := mk_ex (C := C) nx ndx
  refine ⟨x, a, dx, G, rk, rfl, upd_same, s1.mono e2, au, lG, lr, fun H2 x2 g gn => ⟨rfl, ?_⟩⟩
  exact q x H2 G rk (x1.trans (e2.trans x2)) (ex_none' x1 nx) g (fun C' dx' fs' h' a' b' l' => ex_none' (x1.trans e2) (gn C' dx' fs' h' a' b' l')) au lG lr ac
end
end Sk

/-! The operators that an own class says: in, x[i], bool(x). -/
namespace Sk
open PySem PySem.Spec PyProof.Rows L2 Evl
section
variable {prog : Program} {w : World} {A : Around} {E : Value → Shared → Prop} {s : Shared} {K : PySem.W.Frag} {x C L f : Addr} {h₀ : Heap} {m : Str → Option Value} {ox : Obj} {od : Option Obj}
theorem bool_own {Q : Value → Shared → Prop} (Fh : Fr h₀ L s.heap m) (X : K.In h₀) (I : PySem.W.InstAt s.heap x ox C od) (hs : PySem.W.findIn K (.ref C) "__bool__" = some (some (.ref f))) (hf : PySem.W.isFn K (.ref f) = true)
    (h : wpAny (model prog w) A.in1.in1 (call (.ref f) [.ref x]) (fun r s₁ => ∃ b, r = Value.bool b ∧ Q r s₁) E s) : wpAny (model prog w) A (call (.type "bool") [.ref x]) Q E s := by
  refine callType_codes (T := "bool") (Bi := Builtin.«object.__init__») (Q₁ := fun r s₁ => ∃ b, r = Value.bool b ∧ Q r s₁) PySem.F.called_bool (PySem.F.typeCall_bool_1 _) PySem.F.entry_object_init ?_ ?_
  · refine codeAny_of_tree ?_
    show wpAny _ A.in1.in1 (do checkBuiltinCall "bool.__new__" ⟨[.type "bool", .ref x], []⟩; again (.builtin "bool.__new__" ⟨[.type "bool", .ref x], []⟩)) _ _ s
    refine wpAny_bind (wpAny_of_eq (PySem.F.newCall_bool_1 _) (wpAny_pure ⟨plainId_quiet (by decide +kernel) _, codeAny_builtin PySem.F.entry_bool_new ?_⟩))
    rw [Around.under_plainId (by decide +kernel) _]
    unfold Builtin.«bool.__new__»
    refine wpAny_bind (wpAny_of_eq (a := true) (by first | rfl | kernel_rfl) ?_)
    refine PySem.W.KFB.if_not rfl ?_
    refine wpAny_bind (wpAny_of_eq (a := true) PySem.F.conv_sub_bool ?_)
    refine PySem.W.KFB.if_not rfl ?_
    refine wpAny_bind (wpAny_of_eq (a := [.ref x]) (by first | rfl | kernel_rfl) ?_)
    refine wpAny_bind (PySem.W.truthy_K Fh X I hs hf (wpAny_mono h (fun r s₁ hr => ?_) fun _ _ y => y))
    obtain ⟨b, rfl, hq⟩ := hr
    exact wpAny_pure ⟨b, rfl, hq⟩
  · rintro obj s₁ ⟨b, rfl, hq⟩
    exact ⟨PySem.typeIs_bool _ _, PySem.F.args_object_init_2 _ _, object_init_meets PySem.F.called_bool.init.lookup PySem.F.called_bool.made (by decide) prog w A.in1 _ s₁ ⟨PySem.typeIs_bool _ _, rfl, hq⟩⟩
end
section
variable {X : Cx} {pins : List (Addr × Obj)} {σ : L2.St} {H : Hp} {s : Shared} {CX : CXT} {n : Nat} {C g : Addr} {sp : Sp} {E : XK}
/-- y in x, x of an own class -/
def rInI (C : Addr) (sp : Sp) (E : XK) : R2 := fun v y H Q => ∃ a dx fs, y = .ref a ∧ H a = some (.ins C dx fs) ∧ sp [.ref a, v] H (fun z H' => ∃ k, z = .bl k ∧ Q (.bl k) H') E
theorem op_inI (hs : PySem.W.findIn X.K (.ref C) "__contains__" = some (some (.ref g))) (hf : PySem.W.isFn X.K (.ref g) = true) (F : FnR X.prog X.w X.K X.mg X.base CX n g sp)
    (hr : Room n X.A) (hx : Passes CX X E) : OpR X (compareOp .In) (rInI C sp E) := by
  intro pins s σ H x y v u Q I rx ry h
  obtain ⟨a, dx, fs, rfl, ha, q⟩ := h
  cases (show u = Value.ref a from ry)
  obtain ⟨oy, od, J⟩ := ins_at I ha
  obtain ⟨m, hF⟩ := I.fr
  refine PySem.W.in_K hF I.ok.mod.kin J hs hf ?_
  refine wpAny_mono (wpAny_call (run_fnR (us := [.ref a, v]) (vs := [.ref a, x]) F hr hx I (.cons rfl (.cons rx .nil)) q)) (fun w s' z => ?_) fun _ _ x => x
  obtain ⟨z', H', I', rz, k, ez, qz⟩ := z
  subst ez
  cases (show w = Value.bool k from rz)
  exact wpAny_truthy_bool ⟨.bl k, H', I', rfl, qz⟩
/-- y not in x -/
def rNinI (C : Addr) (sp : Sp) (E : XK) : R2 := fun v y H Q => ∃ a dx fs, y = .ref a ∧ H a = some (.ins C dx fs) ∧ sp [.ref a, v] H (fun z H' => ∃ k, z = .bl k ∧ Q (.bl (!k)) H') E
theorem op_ninI (hs : PySem.W.findIn X.K (.ref C) "__contains__" = some (some (.ref g))) (hf : PySem.W.isFn X.K (.ref g) = true) (F : FnR X.prog X.w X.K X.mg X.base CX n g sp)
    (hr : Room n X.A) (hx : Passes CX X E) : OpR X (compareOp .NotIn) (rNinI C sp E) := by
  intro pins s σ H x y v u Q I rx ry h
  obtain ⟨a, dx, fs, rfl, ha, q⟩ := h
  cases (show u = Value.ref a from ry)
  obtain ⟨oy, od, J⟩ := ins_at I ha
  obtain ⟨m, hF⟩ := I.fr
  refine PySem.W.notIn_K hF I.ok.mod.kin J hs hf ?_
  refine wpAny_mono (wpAny_call (run_fnR (us := [.ref a, v]) (vs := [.ref a, x]) F hr hx I (.cons rfl (.cons rx .nil)) q)) (fun w s' z => ?_) fun _ _ x => x
  obtain ⟨z', H', I', rz, k, ez, qz⟩ := z
  subst ez
  cases (show w = Value.bool k from rz)
  exact wpAny_truthy_bool ⟨.bl (!k), H', I', rfl, qz⟩
/-- the callee runs below, what it raises wished for at the slots -/
theorem run_atS {A : Around} {Q : VK} {us : List Value} {ws : List V} (F : FnR X.prog X.w X.K X.mg X.base CX n g sp) (hr : Room n A) (e0 : Env0 X.prog X.w X.K X.mg X.base A X.stack s H) (hx : PassesAt CX X σ E) (I : Inv X pins σ H s) (r : Vals ws us) (h : sp ws H Q E) :
    codeAny (model X.prog X.w) A (.call (.ref g) ⟨us, []⟩) (fun r s' => match r with | .ok (.ret v) => EP X pins σ Q v s' | .ok _ => False | .error e => X.xe e s') s := by
  refine codeAny_mono (F A X.stack s H us ws Q E hr e0 r h) fun r s' hq => ?_
  cases r with
  | error e => exact hx pins H s e s' I hq
  | ok fl =>
    cases fl with
    | ret u => exact I.after hq
    | next => exact False.elim hq
    | brk => exact False.elim hq
    | cont => exact False.elim hq
def SubIx (b : Expr) : Prop := ∀ o i, subscripted b true o i = runValue (.builtin "lifetime.subscript" ⟨[o, i], []⟩)
/-- x[i] of an own class, what is raised wished for at the slots -/
def tIxI (C : Addr) (sp : Sp) (E : L2.St → XK) (ta tb : TE) : TE := fun σ H Q => ta σ H fun x H1 => tb σ H1 fun y H2 => ∃ a dx fs, x = V.ref a ∧ H2 a = some (.ins C dx fs) ∧ sp [.ref a, y] H2 Q (E σ)
theorem pe_ixI {E : L2.St → XK} {a b : Expr} {ta tb : TE} {pos : Pos} (hs : PySem.W.findIn X.K (.ref C) "__getitem__" = some (some (.ref g))) (hf : PySem.W.fnIn X.K g = true) (hfn : PySem.W.isFn X.K (.ref g) = true) (F : FnR X.prog X.w X.K X.mg X.base CX n g sp)
    (hr : Room (n + 1) X.A) (hx : ∀ σ, PassesAt CX X σ (E σ)) (ha : PE X a ta) (hb : PE X b tb) (hsl : SubIx b) : PE X (.Subscript a b pos) (tIxI C sp E ta tb) := by
  refine ⟨fun pins s σ H Q I h => ?_⟩
  refine Subscript_ (binT ha hb I h fun v u s2 x y H2 I2 rx ry q => ?_)
  obtain ⟨p, dx, fs, rfl, hp, q⟩ := q
  cases (show v = Value.ref p from rx)
  obtain ⟨oy, od, J⟩ := ins_at I2 hp
  obtain ⟨m, hF⟩ := I2.fr
  refine PySem.W.sub_K hF I2.ok.mod.kin J hs hf hfn ?_ (hsl _ _)
  exact wpAny_call (run_atS (us := [.ref p, u]) (ws := [.ref p, y]) F hr.in1 I2.env0.in1 (hx σ) I2 (.cons rfl (.cons ry .nil)) q)
theorem passAt_of {E : XK} (h : Passes CX X E) : ∀ σ : L2.St, PassesAt CX X σ E := fun σ pins H s e s' I q => h pins σ H s e s' I q
/-- bool(x) -/
theorem call_boolI (hs : PySem.W.findIn X.K (.ref C) "__bool__" = some (some (.ref g))) (hf : PySem.W.isFn X.K (.ref g) = true) (F : FnR X.prog X.w X.K X.mg X.base CX n g sp)
    (hr : Room (n + 2) X.A) (hx : Passes CX X E) : CallR X (.type "bool") (fun xs H Q => ∃ a dx fs, xs = [.ref a] ∧ H a = some (.ins C dx fs) ∧ sp [.ref a] H (fun z H' => ∃ k, z = .bl k ∧ Q (.bl k) H') E) := by
  intro pins s σ H xs us Q I r h
  obtain ⟨a, dx, fs, rfl, ha, q⟩ := h
  obtain ⟨u, rfl, ru⟩ := r.one
  cases (show u = Value.ref a from ru)
  obtain ⟨ox, od, J⟩ := ins_at I ha
  obtain ⟨m, hF⟩ := I.fr
  have hr2 : Room n X.A.in1.in1 := (show Room (n + 1) X.A.in1 from Room.in1 hr).in1
  refine bool_own hF I.ok.mod.kin J hs hf (wpAny_mono (wpAny_call (SlX.run_at (us := [.ref a]) (ws := [.ref a]) F hr2 I.env0.in1.in1 hx I (.cons rfl .nil) q)) (fun w s' z => ?_) fun _ _ x => x)
  obtain ⟨z', H', I', rz, k, ez, qz⟩ := z
  subst ez
  cases (show w = Value.bool k from rz)
  exact ⟨k, rfl, .bl k, H', I', rfl, qz⟩
end
end Sk

/-! What the law draws: all short texts, a list of texts. -/
namespace Sk
open PySem PySem.Spec PyProof.Rows L2 Evl
abbrev NAll : List Str := ["signs", "most", "found", "current", "turn", "longer", "word", "sign"]
theorem scAll : FnScope NAll ["signs", "most"] (defScope sAll) := ⟨rfl, rfl, rfl, by decide +kernel, rfl, by decide +kernel, by decide +kernel⟩
def spAll : Sp := fun vs H Q _ => ∃ (a : Addr) (m : Nat), vs = [.ref a, .int m] ∧ AlpAt H a ∧ m ≤ 3 ∧ ∀ l xs H', Ex H H' → H l = none → H' l = some (.lst (txV xs)) → xs.length ≤ 40 → (∀ x ∈ xs, Tk 3 x) → Q (.ref l) H'
theorem txV_at {xs : List (List Nat)} {i : Nat} {v : V} (h : (txV xs)[i]? = some v) : ∃ x, xs[i]? = some x ∧ v = .str (tx x) := by
  unfold txV at h
  rw [List.getElem?_map, List.getElem?_map, Option.map_map] at h
  obtain ⟨x, hx, e⟩ := Option.map_eq_some_iff.mp h
  exact ⟨x, hx, e.symm⟩
section
variable {P : Program} {w : World} {K : PySem.W.Frag} {mg : Str → Option Value} {base : Heap} {f g fD fC : Addr} {fd gd dD dC : FuncData}
theorem ok_all {k : Nat} (F : Fun K "_law_all" "_law_all" sAll f fd) (B : Blt mg) : FnOk P w K mg base CX0 (k + 1) f fd ["signs", "most"] spAll := by
  refine F.ok scAll (fun vs H Q E h => ?_) (fun cdv A outer s H vs Q E hr h => ?_)
  · obtain ⟨_, _, rfl, _⟩ := h
    rfl
  have nd := scAll.nd
  obtain ⟨al, m, rfl, ⟨a1, a2, a3, ea, l1, l2, l3⟩, hm, q⟩ := h
  refine ⟨_, pss_cons (ps_par (i := 2) (j := 3) rfl nd rfl rfl (by decide) rfl rfl (pa_cons (pe_lst (pa_cons pe_str pa_nil)) (pa_cons (pe_lst (pa_cons pe_str pa_nil)) pa_nil)) (by rfl))
    (pss_cons (ps_for PassesOwn.never rfl (pi_range1 rfl B.range (pa_cons (pv 1) pa_nil)) (pg_name (i := 4) nd rfl (Or.inl rfl))
      (pss_cons (ps_set (i := 5) nd rfl (Or.inl rfl) (pe_lst pa_nil))
      (pss_cons (ps_for PassesOwn.never rfl (pi_list (pv 3)) (pg_name (i := 6) nd rfl (Or.inr rfl))
        (pss_one (ps_expr (pe_bm PySem.F.plainAttrs_list PySem.F.slot_list_extend PySem.F.type_list_extend mt_extend (pv 5) (pa_cons (pe_lc (own := [("sign", 7)]) (g := gName 7) (tt := tYes) (te := tOp (fun x y H Q => ∃ i j, x = .str i ∧ y = .str j ∧ i.length + j.length ≤ sizeLine ∧ Q (.str (i ++ j)) H) (tVar 6) (tVar 7)) rfl nd (pi_list (pv 0)) (blkOk_by (N := NAll) (sc := defScope sAll) (by decide +kernel))
          (fun _ _ _ _ _ => pg_name (i := 7) nd rfl (Or.inl rfl)) (fun _ _ _ _ _ => pts_nil) (fun _ _ _ _ _ => pe_op op_add_str (pv 6) (pv 7))) pa_nil)))))
      (pss_cons (ps_set (i := 3) nd rfl (Or.inl rfl) (pv 5))
      (pss_one (ps_expr (pe_bm PySem.F.plainAttrs_list PySem.F.slot_list_extend PySem.F.type_list_extend mt_extend (pv 2) (pa_cons (pv 3) pa_nil))))))))
    (pss_one (ps_ret (pv 2)))), ?_⟩
  refine ⟨nle' (by show 1 ≤ 1000; decide), fun f0 nf => ⟨nle' (by show 1 ≤ 1000; decide), fun c0 nc => ⟨_, _, rfl, ?_⟩⟩⟩
  have L0 := (Lv.nil (Ex.refl H)).new (o := HO.lst [V.str ""]) nf
  generalize upd H f0 (HO.lst [V.str ""]) = G0 at L0 nc ⊢
  have L2 := L0.new (o := HO.lst [V.str ""]) nc
  generalize upd G0 c0 (HO.lst [V.str ""]) = G2 at L2 ⊢
  refine ⟨_, rfl, m, rfl, by omega, by omega, for_range (lo := 0) (n := m) (fun i σ H' => ∃ (cu : Addr) (xs ys : List (List Nat)) (y4 y5 y6 y7 : Option V), σ = [some (.ref al), some (.int m), some (.ref f0), some (.ref cu), y4, y5, y6, y7] ∧ Lv H H' [(cu, .lst (txV ys)), (f0, .lst (txV xs))] ∧
      ys.length = 3 ^ i ∧ 2 * xs.length + 1 = 3 ^ (i + 1) ∧ (∀ y ∈ ys, Tk i y) ∧ (∀ x ∈ xs, Tk 3 x)) ⟨c0, [[]], [[]], none, none, none, none, rfl, L2, rfl, rfl, ?_, ?_⟩ (fun i σ H' hi p => ?_) (fun σ H' p => ?_)⟩
  · intro y my
    cases List.mem_singleton.mp my
    exact ⟨Nat.le_refl _, fun _ z => nomatch z⟩
  · intro y my
    cases List.mem_singleton.mp my
    exact ⟨Nat.zero_le _, fun _ z => nomatch z⟩
  · obtain ⟨cu, xs, ys, y4, y5, y6, y7, rfl, L, ly, lx, ty, tx3⟩ := p
    have li : i ≤ 2 := by omega
    have p27 : 3 ^ (i + 1) ≤ 27 := Nat.pow_le_pow_right (by decide) (show i + 1 ≤ 3 by omega)
    have pw : 3 ^ (i + 1) = 3 ^ i * 3 := Nat.pow_succ ..
    have pw2 : 3 ^ (i + 1 + 1) = 3 ^ (i + 1) * 3 := Nat.pow_succ ..
    refine ⟨nle' (by show 0 ≤ 1000; decide), fun lo nl => ?_⟩
    have M := L.new (o := HO.lst []) nl
    generalize upd H' lo (HO.lst []) = G at M ⊢
    refine ⟨_, rfl, cu, rfl, ⟨_, SqL.of (M.get 1 rfl)⟩, for_list (xs := txV ys) (fun j σ H2 => ∃ (zs : List (List Nat)) (z4 z6 z7 : Option V), σ = [some (.ref al), some (.int m), some (.ref f0), some (.ref cu), z4, some (.ref lo), z6, z7] ∧ Lv H H2 [(lo, .lst (txV zs)), (cu, .lst (txV ys)), (f0, .lst (txV xs))] ∧
      zs.length = 3 * j ∧ (∀ z ∈ zs, Tk (i + 1) z)) ⟨[], _, _, _, rfl, M, rfl, fun _ m => nomatch m⟩ (fun j σ H2 _ p => ?_) (fun j v σ H2 hv p => ?_) (fun σ H2 p => ?_)⟩
    · obtain ⟨_, _, _, _, _, L, _⟩ := p
      exact SqL.of (L.get 1 rfl)
    · obtain ⟨zs, z4, z6, z7, rfl, N, lz, tz⟩ := p
      obtain ⟨y, hy, rfl⟩ := txV_at hv
      have ty1 := ty y (List.mem_of_getElem? hy)
      have lj : j < ys.length := (List.getElem?_eq_some_iff.mp hy).1
      refine ⟨_, rfl, .inl ⟨rfl, _, SqL.of (N.get 0 rfl)⟩, _, rfl, al, rfl, ⟨_, SqL.of (N.ex _ _ ea)⟩, fun D nD => ?_⟩
      refine lc_list (xs := [V.str (one a1), V.str (one a2), V.str (one a3)]) (fun n G3 => Ex H2 G3 ∧ G3 D = some (.lst (txV (([a1, a2, a3].take n).map fun c => y ++ [c])))) ⟨Ex.new nD, upd_same⟩ (fun n G3 _ z => SqL.of (z.1 _ _ (N.ex _ _ ea))) (fun n x G3 hx z => ?_) (fun G3 z => ?_)
      · obtain ⟨x3, fD⟩ := z
        have hx' : ([a1, a2, a3].map fun c => V.str (one c))[n]? = some x := hx
        rw [List.getElem?_map] at hx'
        obtain ⟨c, hc, rfl⟩ := Option.map_eq_some_iff.mp hx'
        have ln : n < 3 := (List.getElem?_eq_some_iff.mp hc).1
        refine ⟨rfl, tyes ⟨_, rfl, _, rfl, _, _, rfl, rfl, line_le (by rw [tx_len, one_tx, tx_len]; have := ty1.1; simp; omega), _, fD, by rw [sizeLine_eq, txV_len, List.length_map, List.length_take]; simp; omega, x3.mut nD, ?_⟩⟩
        rw [upd_same, one_tx, tx_app, take_snoc hc, List.map_append, txV_app]
        rfl
      · obtain ⟨x3, fD⟩ := z
        have N3 := N.ext x3
        refine ⟨lo, D, _, _, rfl, rfl, N3.get 0 rfl, fD, ?_, ?_⟩
        · rw [txV_len, txV_len, sizeLine_eq]
          show zs.length + 3 ≤ _
          omega
        have N4 := N3.mut 0 (a := lo) (HO.lst (txV zs ++ txV (([a1, a2, a3].take 3).map fun c => y ++ [c]))) rfl
        refine ⟨zs ++ ([a1, a2, a3].take 3).map fun c => y ++ [c], _, _, _, rfl, by rw [txV_app]; exact N4, by rw [List.length_append, lz]; show 3 * j + 3 = _; omega, fun z mz => ?_⟩
        rcases List.mem_append.mp mz with mz | mz
        · exact tz z mz
        · obtain ⟨c, mc, rfl⟩ := List.mem_map.mp mz
          refine ty1.app ⟨Nat.le_refl _, fun d md => ?_⟩
          cases List.mem_singleton.mp md
          rcases List.mem_cons.mp mc with rfl | mc
          · exact l1
          rcases List.mem_cons.mp mc with rfl | mc
          · exact l2
          cases List.mem_singleton.mp mc
          exact l3
    · obtain ⟨zs, z4, z6, z7, rfl, N, lz, tz⟩ := p
      rw [txV_len] at lz
      refine ⟨_, rfl, _, rfl, .inl ⟨rfl, _, SqL.of (N.get 2 rfl)⟩, _, rfl, f0, lo, _, _, rfl, rfl, N.get 2 rfl, N.get 0 rfl, by rw [txV_len, txV_len, sizeLine_eq]; omega, ?_⟩
      have N4 := N.mut 2 (a := f0) (HO.lst (txV xs ++ txV zs)) rfl
      have N5 : Lv H (upd H2 f0 (HO.lst (txV xs ++ txV zs))) [(lo, .lst (txV zs)), (f0, .lst (txV (xs ++ zs)))] := ⟨by
        have := N4.nd
        simp at this ⊢
        exact this.1.2, fun p m => N4.at_ p (by rw [txV_app] at m; simp at m ⊢; rcases m with m | m; exact .inl m; exact .inr (.inr m)), fun p m => N4.off p (by rw [txV_app] at m; simp at m ⊢; rcases m with m | m; exact .inl m; exact .inr (.inr m)), N4.ex⟩
      refine ⟨lo, xs ++ zs, zs, _, _, _, _, rfl, N5, by rw [lz, ly]; omega, by rw [List.length_append]; omega, tz, fun x mx => (List.mem_append.mp mx).elim (tx3 x) fun mx => (tz x mx).le (by omega)⟩
  · obtain ⟨cu, xs, ys, y4, y5, y6, y7, rfl, L, ly, lx, ty, tx3⟩ := p
    have p81 : 3 ^ (m + 1) ≤ 81 := Nat.pow_le_pow_right (by decide) (show m + 1 ≤ 4 by omega)
    exact ⟨_, rfl, q f0 xs H' L.ex (L.off (f0, .lst (txV xs)) (by simp)) (L.get 1 rfl) (by omega) tx3⟩
end
end Sk

/-! What the law draws: a list of texts, a text near to them. -/
namespace Sk
open PySem PySem.Spec PyProof.Rows L2 Evl
theorem no2 {b : Bool} {A C : Prop} (hA : C → A) (h : C) : if b = true then A else C := by
  cases b
  · exact iteF h
  · exact iteT (hA h)
theorem no3 {b : Bool} {A C : Prop} (hA : b = true → C → A) (h : C) : if b = true then A else C := by
  cases b
  · exact iteF h
  · exact iteT (hA rfl h)
theorem dec_no {x y : Int} (h : x ≠ y) {A C : Prop} (z : C) : if decide (V.int x = V.int y) = true then A else C := by
  rw [decide_eq_false (fun e => h (by injection e))]
  exact iteF z
theorem dec_yes {x y : Int} (h : x = y) {A C : Prop} (z : A) : if decide (V.int x = V.int y) = true then A else C := by
  rw [decide_eq_true (by rw [h])]
  exact iteT z
abbrev NLsd : List Str := ["stream", "signs", "far", "found", "turn", "word", "kind"]
theorem scLsd : FnScope NLsd ["stream", "signs", "far"] (defScope sLsd) := ⟨rfl, rfl, rfl, by decide +kernel, rfl, by decide +kernel, by decide +kernel⟩
def spLsd : Sp := fun vs H Q _ => ∃ (st al : Addr) (far : Int), vs = [.ref st, .ref al, .int far] ∧ Strm st H ∧ AlpAt (Hd st H) al ∧ 1 ≤ far ∧ far ≤ 100 ∧
  ∀ l xs H', Aft st H H' → H l = none → H' l = some (.lst (txV xs)) → xs.length ≤ 40 → (∀ x ∈ xs, Tk 500 x) → Q (.ref l) H'
theorem mul_tx {n : Nat} {a : List Nat} (h : Tk n a) {k : Int} (h1 : 1 ≤ k) (h2 : k ≤ 1000) (hn : n ≤ 1000) : MulOk (tx a) k ∧ ∃ b, Txt.mul (tx a) k = tx b ∧ Tk (n * k.toNat) b := by
  obtain ⟨m, rfl⟩ : ∃ m : Nat, k = (m : Int) := ⟨k.toNat, by omega⟩
  have la := h.1
  have ll : (tx a).length ≤ 1000 := by rw [tx_len]; omega
  refine ⟨⟨?_, fun _ _ => ?_, fun _ _ => ?_⟩, _, mul_mk a m (by omega), ?_, fun c hc => ?_⟩
  · rw [Bool.or_eq_false_iff]
    exact ⟨decide_eq_false (by omega), decide_eq_false (by omega)⟩
  · have : ((2 : Int) ^ 63 - 1) / (m : Int) ≥ 9000000000000000 := by
      refine (Int.le_ediv_iff_mul_le (by omega)).mpr ?_
      have e : (2 : Int) ^ 63 = 9223372036854775808 := by decide
      rw [e]; omega
    omega
  · show decide ((tx a).length * ((m : Int)).toNat > sizeLine) = false
    refine decide_eq_false ?_
    rw [sizeLine_eq]
    have : (tx a).length * ((m : Int)).toNat ≤ 1000 * 1000 := Nat.mul_le_mul ll (by omega)
    omega
  · rw [List.length_flatten, List.map_replicate, List.sum_replicate_nat, Int.toNat_natCast, Nat.mul_comm]
    exact Nat.mul_le_mul_right _ la
  · obtain ⟨l, ml, hl⟩ := List.mem_flatten.mp hc
    rw [List.eq_of_mem_replicate ml] at hl
    exact h.2 c hl
section
variable {P : Program} {w : World} {K : PySem.W.Frag} {mg : Str → Option Value} {base : Heap} {f fA fW fD fC : Addr} {fd dA dW dD dC : FuncData}
theorem ok_lsd (F : Fun K "_law_listed" "_law_listed" sLsd f fd) (B : Blt mg) (W : Drw P w K mg base fD fC dD dC) (Al : Lt P w K mg base fA dA "_law_all" ["signs", "most"] 1 spAll) (Wo : Lt P w K mg base fW dW "_law_word" ["stream", "signs", "most"] 3 spWord) : FnOk P w K mg base CX0 4 f fd ["stream", "signs", "far"] spLsd := by
  refine F.ok scLsd (fun vs H Q E h => ?_) (fun cdv A outer s H vs Q E hr h => ?_)
  · obtain ⟨_, _, _, rfl, _⟩ := h
    rfl
  have nd := scLsd.nd
  have hr1 : Room 1 _ := hr.mono (by decide)
  have hr2 : Room 2 _ := hr.mono (by decide)
  have hu : (A.deeper (envOfC "_law_listed" (defScope sLsd) s.heap.objs.size f cdv)).units < cLine := Nat.lt_of_le_of_lt (Nat.le_add_right _ 64) hr.units
  obtain ⟨st, al, far, rfl, hst, hal, f1, f2, q⟩ := h
  refine ⟨_, pss_cons (ps_if (pt_cmpR op_eq (pe_call W.gD hr1 rfl W.mD W.kD W.bD .nil pass0 (pa_cons (pv 0) (pa_cons pe_int pa_nil))) pe_int (nomark _))
      (pss_one (ps_ret (pe_call Al.g hr1 rfl Al.m Al.k Al.b .nil pass0 (pa_cons (pv 1) (pa_cons (pe_op op_add pe_int (pe_call W.gD hr1 rfl W.mD W.kD W.bD .nil pass0 (pa_cons (pv 0) (pa_cons pe_int pa_nil)))) pa_nil))))) pss_nil)
    (pss_cons (ps_set (i := 3) nd rfl (Or.inl rfl) (pe_lst pa_nil))
    (pss_cons (ps_for PassesOwn.never rfl (pi_range1 rfl B.range (pa_cons (pe_call W.gD hr1 rfl W.mD W.kD W.bD .nil pass0 (pa_cons (pv 0) (pa_cons pe_int pa_nil))) pa_nil)) (pg_name (i := 4) nd rfl (Or.inl rfl))
      (pss_cons (ps_par (i := 5) (j := 6) rfl nd rfl rfl (by decide) rfl rfl (pa_cons (pe_call Wo.g hr rfl Wo.m Wo.k Wo.b .nil pass0 (pa_cons (pv 0) (pa_cons (pv 1) (pa_cons pe_int pa_nil)))) (pa_cons (pe_call W.gD hr1 rfl W.mD W.kD W.bD .nil pass0 (pa_cons (pv 0) (pa_cons pe_int pa_nil))) pa_nil)) (by rfl))
      (pss_cons (ps_if (PW.pt (pw_and (pt_cmpR (op_neNil hu) (pv 3) (pe_lst pa_nil) (nomark _)) (pw_and1 (pt_cmpR op_eq (pv 6) pe_int (nomark _)))))
          (pss_one (ps_set (i := 5) nd rfl (Or.inl rfl) (pe_op op_add_str (pe_slice sl_str (pe_call W.gC hr2 rfl W.mC W.kC W.bC .nil pass0 (pa_cons (pv 0) (pa_cons (pv 3) pa_nil))) po_none (po_some pe_int)) (pe_slice sl_str (pv 5) po_none (po_some pe_int)))))
          (pss_one (ps_if (PW.pt (pw_and (pt_cmpR (op_neNil hu) (pv 3) (pe_lst pa_nil) (nomark _)) (pw_and1 (pt_cmpR op_eq (pv 6) pe_int (nomark _)))))
            (pss_one (ps_set (i := 5) nd rfl (Or.inl rfl) (pe_op op_add_str (pe_slice sl_str (pv 5) po_none (po_some pe_int)) (pe_slice sl_str (pe_call W.gC hr2 rfl W.mC W.kC W.bC .nil pass0 (pa_cons (pv 0) (pa_cons (pv 3) pa_nil))) (po_some (pe_un un_neg pe_int)) po_none))))
            (pss_one (ps_if (PW.pt (pw_and (pt_cmpR (op_neNil hu) (pv 3) (pe_lst pa_nil) (nomark _)) (pw_and1 (pt_cmpR op_eq (pv 6) pe_int (nomark _)))))
              (pss_one (ps_set (i := 5) nd rfl (Or.inl rfl) (pe_call W.gC hr2 rfl W.mC W.kC W.bC .nil pass0 (pa_cons (pv 0) (pa_cons (pv 3) pa_nil)))))
              (pss_one (ps_if (PW.pt (pw_and (pt_cmpR op_eq (pv 6) pe_int (nomark _)) (pw_and1 (pt_cmpR op_lt (pv 4) pe_int (nomark _)))))
                (pss_one (ps_set (i := 5) nd rfl (Or.inl rfl) (pe_op op_mulS (pe_slice sl_str (pv 5) po_none (po_some pe_int)) (pe_op op_add pe_int (pe_call W.gD hr1 rfl W.mD W.kD W.bD .nil pass0 (pa_cons (pv 0) (pa_cons (pv 2) pa_nil)))))))
                pss_nil)))))))
      (pss_one (ps_expr (pe_bm PySem.F.plainAttrs_list PySem.F.slot_list_append PySem.F.type_list_append mt_append (pv 3) (pa_cons (pv 5) pa_nil)))))))
    (pss_one (ps_ret (pv 3))))), ?_⟩
  refine ⟨_, rfl, st, 9, rfl, hst, by decide, by decide, fun k0 G0 k00 k01 B0 => ⟨rfl, _, rfl, ?_⟩⟩
  by_cases e0 : k0 = 0
  · refine dec_yes e0 ⟨_, rfl, _, rfl, st, 3, rfl, B0.sm, by decide, by decide, fun m G1 m0 m1 B1 => ⟨_, _, rfl, rfl, al, (1 + m).toNat, ?_, (hal.mono (B0.trans B1).gr).mono hd_le, by omega, fun l xs H' x nl fl lx tk => ?_⟩⟩
    · show [V.ref al, V.int (1 + m)] = _
      rw [Int.toNat_of_nonneg (by omega)]
    · have A2 := (B0.trans B1).trans ⟨gr_ex x, (by
        obtain ⟨d, s', e', r⟩ := B1.sm
        exact ⟨d, s', x _ _ e', r⟩)⟩
      exact q l xs H' A2 ((B0.trans B1).none nl) fl lx fun z mz => (tk z mz).le (by decide)
  refine dec_no e0 ⟨nle' (by show 0 ≤ 1000; decide), fun fo nf => ?_⟩
  have nfs := B0.sm.ne nf
  have B1 := B0.new (o := HO.lst []) nf
  have ff : upd G0 fo (HO.lst []) fo = some (.lst []) := upd_same
  have hfo : H fo = none := B0.none nf
  generalize upd G0 fo (HO.lst []) = G1 at B1 ff ⊢
  refine ⟨_, rfl, st, 9, rfl, B1.sm, by decide, by decide, fun n G2 n0 n1 B2 => ⟨n, rfl, by omega, by omega, ?_⟩⟩
  have A0 := B1.trans B2
  have fo2 : G2 fo = some (.lst []) := B2.at nfs ff
  refine for_range (lo := 0) (n := n.toNat) (fun i σ H' => ∃ (xs : List (List Nat)) (y4 y5 y6 : Option V), σ = [some (.ref st), some (.ref al), some (.int far), some (.ref fo), y4, y5, y6] ∧ Aft st H H' ∧ H' fo = some (.lst (txV xs)) ∧ xs.length = i ∧ ∀ x ∈ xs, Tk (400 + 4 * i) x)
    ⟨[], none, none, none, rfl, A0, fo2, rfl, fun _ m => nomatch m⟩ (fun i σ H' hi p => ?_) (fun σ H' p => ?_)
  · obtain ⟨xs, y4, y5, y6, rfl, A1, hfx, lx, tk⟩ := p
    have hi' : i < 8 := by omega
    refine ⟨_, rfl, _, rfl, st, al, 4, rfl, A1.sm, hal.mono A1.gr, by decide, fun cs H2 tc A2 => ?_⟩
    refine ⟨_, rfl, st, 7, rfl, A2.sm, by decide, by decide, fun kd H3 d0 d1 A3 => ⟨_, _, rfl, ?_⟩⟩
    have A4 := (A1.trans A2).trans A3
    have hf3 : H3 fo = some (.lst (txV xs)) := A3.at nfs (A2.at nfs hfx)
    have hfH : Hd st H fo = none := by unfold Hd; rw [if_neg nfs]; exact hfo
    -- the end of a turn
    have fin : ∀ (bs : List Nat) (H5 : Hp), Tk (400 + 4 * (i + 1)) bs → Aft st H H5 → H5 fo = some (.lst (txV xs)) → ∃ (xs' : List (List Nat)) (y4 y5 y6 : Option V), [some (V.ref st), some (.ref al), some (.int far), some (.ref fo), some (.int ((0 : Nat) + (i : Nat) : Int)), some (.str (tx bs)), some (.int kd)] = [some (.ref st), some (.ref al), some (.int far), some (.ref fo), y4, y5, y6] ∧ Aft st H (upd H5 fo (.lst (txV xs ++ [.str (tx bs)]))) ∧ upd H5 fo (.lst (txV xs ++ [.str (tx bs)])) fo = some (.lst (txV xs')) ∧ xs'.length = i + 1 ∧ ∀ x ∈ xs', Tk (400 + 4 * (i + 1)) x := fun bs H5 tb A5 h5 => by
      refine ⟨xs ++ [bs], _, _, _, rfl, A5.mut nfs hfH, by rw [upd_same, txV_app]; rfl, by simp [lx], fun x mx => ?_⟩
      rcases List.mem_append.mp mx with mx | mx
      · exact (tk x mx).le (by omega)
      · cases List.mem_singleton.mp mx; exact tb
    have lnx : (txV xs).length < sizeLine := by rw [txV_len, sizeLine_eq]; omega
    have lcs : (tx cs).length ≤ sizeLine := line_le (by rw [tx_len]; have := tc.1; omega)
    -- a choice of one of the texts
    have chs : ∀ (H5 : Hp), xs ≠ [] → Aft st H H5 → H5 fo = some (.lst (txV xs)) → Chs K (Hd st H5) (.ref fo) fun v => ∃ bs, v = .str (tx bs) ∧ Tk (400 + 4 * i) bs := fun H5 ne A5 h5 =>
      .inl ⟨fo, _, rfl, .inl (SqL.of (hd_of nfs h5)), by unfold txV; simpa using ne, by rw [txV_len]; omega, fun v mv => by
        obtain ⟨j, hj⟩ := List.mem_iff_getElem?.mp mv
        obtain ⟨x, hx, rfl⟩ := txV_at hj
        exact ⟨x, rfl, tk x (List.mem_of_getElem? hx)⟩⟩
    have emp : (txV xs).isEmpty = xs.isEmpty := by cases xs <;> rfl
    refine ⟨_, rfl, nle' (by show 0 ≤ 1000; decide), fun l1 m1 => ⟨fo, l1, _, rfl, rfl, (Ex.new m1) _ _ hf3, upd_same, _, rfl, ?_⟩⟩
    have C1 := A4.new (o := HO.lst []) m1
    have h1 := (Ex.new (o := HO.lst []) m1) _ _ hf3
    generalize upd H3 l1 (HO.lst []) = G3 at C1 h1 ⊢
    have tcut : ∀ (bs : List Nat) (lo hi : Option Int), Tk (400 + 4 * i) bs → (tx bs).length ≤ sizeLine := fun bs lo hi tb => line_le (by rw [tx_len]; have := tb.1; omega)
    by_cases k1 : xs ≠ [] ∧ kd = 1
    · have eb : (!(txV xs).isEmpty) = true := by rw [emp]; cases xs with
        | nil => exact absurd rfl k1.1
        | cons _ _ => rfl
      refine (if_pos eb).mpr ⟨_, rfl, rfl, _, rfl, dec_yes k1.2 ⟨_, rfl, _, rfl, st, _, _, rfl, C1.sm, chs G3 k1.1 C1 h1, fun v H4 hv A5 => ?_⟩⟩
      obtain ⟨bs, rfl, tb⟩ := hv
      obtain ⟨b1, e1, t1⟩ := cut_tx tb none (some 3)
      obtain ⟨b2, e2, t2⟩ := cut_tx tc none (some 3)
      have h4 := A5.at nfs h1
      refine ⟨_, rfl, tx bs, rfl, tcut bs none none tb, _, rfl, _, rfl, tx cs, rfl, lcs, _, _, rfl, rfl, ?_, ?_⟩
      · rw [e1, e2, tx_len, tx_len]
        have := t1.1
        have := t2.1
        exact line_le (by omega)
      rw [e1, e2, tx_app]
      exact ⟨_, rfl, .inl ⟨rfl, _, SqL.of h4⟩, _, rfl, fo, _, _, rfl, rfl, h4, lnx, fin _ H4 ((t1.app t2).le (by omega)) (C1.trans A5) h4⟩
    have ne : (!(txV xs).isEmpty) = true → xs ≠ [] := fun hb e => by rw [e] at hb; cases hb
    have eb : xs ≠ [] → (!(txV xs).isEmpty) = true := fun e => by
      cases xs with
      | nil => exact absurd rfl e
      | cons _ _ => rfl
    refine no3 (fun hb z => ⟨_, rfl, rfl, _, rfl, dec_no (fun e => k1 ⟨ne hb, e⟩) z⟩) ?_
    refine ⟨_, rfl, nle' (by show 0 ≤ 1000; decide), fun l2 m2 => ⟨fo, l2, _, rfl, rfl, (Ex.new m2) _ _ h1, upd_same, _, rfl, ?_⟩⟩
    have C2 := C1.new (o := HO.lst []) m2
    have h2 := (Ex.new (o := HO.lst []) m2) _ _ h1
    generalize upd G3 l2 (HO.lst []) = G4 at C2 h2 ⊢
    by_cases k2 : xs ≠ [] ∧ kd = 2
    · refine (if_pos (eb k2.1)).mpr ⟨_, rfl, rfl, _, rfl, dec_yes k2.2 ⟨_, rfl, _, rfl, tx cs, rfl, lcs, _, rfl, _, rfl, st, _, _, rfl, C2.sm, chs G4 k2.1 C2 h2, fun v H4 hv A5 => ?_⟩⟩
      obtain ⟨bs, rfl, tb⟩ := hv
      obtain ⟨b1, e1, t1⟩ := cut_tx tc none (some 3)
      obtain ⟨b2, e2, t2⟩ := cut_tx tb (some (-3)) none
      have h4 := A5.at nfs h2
      refine ⟨_, rfl, _, rfl, tx bs, rfl, tcut bs none none tb, _, _, rfl, rfl, ?_, ?_⟩
      · rw [e1, e2, tx_len, tx_len]
        have := t1.1
        have := t2.1
        exact line_le (by omega)
      rw [e1, e2, tx_app]
      exact ⟨_, rfl, .inl ⟨rfl, _, SqL.of h4⟩, _, rfl, fo, _, _, rfl, rfl, h4, lnx, fin _ H4 ((t1.app t2).le (by omega)) (C2.trans A5) h4⟩
    refine no3 (fun hb z => ⟨_, rfl, rfl, _, rfl, dec_no (fun e => k2 ⟨ne hb, e⟩) z⟩) ?_
    refine ⟨_, rfl, nle' (by show 0 ≤ 1000; decide), fun l3 m3 => ⟨fo, l3, _, rfl, rfl, (Ex.new m3) _ _ h2, upd_same, _, rfl, ?_⟩⟩
    have C3 := C2.new (o := HO.lst []) m3
    have h3 := (Ex.new (o := HO.lst []) m3) _ _ h2
    generalize upd G4 l3 (HO.lst []) = G5 at C3 h3 ⊢
    by_cases k3 : xs ≠ [] ∧ kd = 3
    · refine (if_pos (eb k3.1)).mpr ⟨_, rfl, rfl, _, rfl, dec_yes k3.2 ⟨_, rfl, _, rfl, st, _, _, rfl, C3.sm, chs G5 k3.1 C3 h3, fun v H4 hv A5 => ?_⟩⟩
      obtain ⟨bs, rfl, tb⟩ := hv
      have h4 := A5.at nfs h3
      exact ⟨_, rfl, .inl ⟨rfl, _, SqL.of h4⟩, _, rfl, fo, _, _, rfl, rfl, h4, lnx, fin _ H4 (tb.le (by omega)) (C3.trans A5) h4⟩
    refine no3 (fun hb z => ⟨_, rfl, rfl, _, rfl, dec_no (fun e => k3 ⟨ne hb, e⟩) z⟩) ?_
    refine ⟨_, rfl, rfl, _, rfl, ?_⟩
    by_cases k4 : kd = 4
    · refine dec_yes k4 ⟨_, rfl, _, _, rfl, rfl, _, rfl, ?_⟩
      refine ite2 (fun _ => ?_) (fun _ => ?_)
      · refine ⟨_, rfl, _, rfl, tx cs, rfl, lcs, _, rfl, _, rfl, st, far, rfl, C3.sm, f1, by omega, fun mm H4 mm0 mm1 A5 => ?_⟩
        obtain ⟨b1, e1, t1⟩ := cut_tx tc none (some 2)
        obtain ⟨mo, b2, e2, t2⟩ := mul_tx t1 (k := 1 + mm) (by omega) (by omega) (by omega)
        have h4 := A5.at nfs h3
        refine ⟨_, _, rfl, rfl, _, _, rfl, rfl, by rw [e1]; exact mo, ?_⟩
        rw [e1, e2]
        have : 4 * (1 + mm).toNat ≤ 400 := by omega
        exact ⟨_, rfl, .inl ⟨rfl, _, SqL.of h4⟩, _, rfl, fo, _, _, rfl, rfl, h4, lnx, fin _ H4 (t2.le (by omega)) (C3.trans A5) h4⟩
      · exact ⟨_, rfl, .inl ⟨rfl, _, SqL.of h3⟩, _, rfl, fo, _, _, rfl, rfl, h3, lnx, fin cs G5 (tc.le (by omega)) C3 h3⟩
    · exact dec_no k4 ⟨_, rfl, .inl ⟨rfl, _, SqL.of h3⟩, _, rfl, fo, _, _, rfl, rfl, h3, lnx, fin cs G5 (tc.le (by omega)) C3 h3⟩
  · obtain ⟨xs, y4, y5, y6, rfl, A1, hfx, lx, tk⟩ := p
    exact ⟨_, rfl, q fo xs H' A1 hfo hfx (by omega) fun x mx => (tk x mx).le (by omega)⟩
end
end Sk

/-! A language asked: in, bool. -/
namespace Sk
open PySem PySem.Spec PyProof.Rows L2 Evl Lg
abbrev sLBool : Stmt := inClass (topS 62) 5
abbrev sLCon : Stmt := inClass (topS 62) 6
abbrev NBeh : List Str := ["moves", "text", "at", "sign"]
theorem scBeh : FnScope NBeh ["moves", "text"] (defScope sBehind) := ⟨rfl, rfl, rfl, by decide +kernel, rfl, by decide +kernel, by decide +kernel⟩
theorem scLBool : FnScope ["self"] ["self"] (defScope sLBool) := ⟨rfl, rfl, rfl, by decide +kernel, rfl, by decide +kernel, by decide +kernel⟩
theorem scLCon : FnScope ["self", "text", "at"] ["self", "text"] (defScope sLCon) := ⟨rfl, rfl, rfl, by decide +kernel, rfl, by decide +kernel, by decide +kernel⟩
/-- the state behind a text -/
def run (G : List Lg.Row) : List Nat → Nat → Option Nat
  | [], i => some i
  | c :: w, i => ((G[i]?).bind fun r => lk c r.2).bind (run G w)
theorem run_app {G : List Lg.Row} : ∀ (u v : List Nat) (i : Nat), run G (u ++ v) i = (run G u i).bind (run G v)
  | [], _, _ => rfl
  | c :: u, v, i => by
    show ((G[i]?).bind fun r => lk c r.2).bind (run G (u ++ v)) = (((G[i]?).bind fun r => lk c r.2).bind (run G u)).bind (run G v)
    cases (G[i]?).bind fun r => lk c r.2 with
    | none => rfl
    | some j => exact run_app u v j
theorem acc_run {G : List Lg.Row} : ∀ (w : List Nat) (i : Nat), acc G w i = (((run G w i).bind fun j => G[j]?).map (·.1)).getD false
  | [], i => by simp [acc, run]
  | c :: w, i => by
    show (((G[i]?).bind fun r => lk c r.2).map (acc G w)).getD false = (((((G[i]?).bind fun r => lk c r.2).bind (run G w)).bind fun j => G[j]?).map (·.1)).getD false
    cases (G[i]?).bind fun r => lk c r.2 with
    | none => rfl
    | some j => exact acc_run w j
theorem run_lt {G : List Lg.Row} {rk : Nat → Nat} (A : Aut G rk) : ∀ (w : List Nat) (i j : Nat), i < G.length → run G w i = some j → j < G.length
  | [], i, j, h, e => by cases e; exact h
  | c :: w, i, j, h, e => by
    have e : ((G[i]?).bind fun r => lk c r.2).bind (run G w) = some j := e
    rw [List.getElem?_eq_getElem h] at e
    cases k : lk c (G[i]).2 with
    | none => rw [Option.bind_some, k] at e; cases e
    | some m =>
      rw [Option.bind_some, k] at e
      exact run_lt A w m j (A.tgt i _ (List.getElem?_eq_getElem h) _ (lk_mem k)) e
def endS (G : List Lg.Row) (w : List Nat) : Int := match run G w 0 with
  | some j => (j : Int)
  | none => -1
theorem valV_mov (c : Nat) : ∀ l : List (Nat × Nat), valV (movK l) (.inr (one c) : L2.Key) = (lk c l).map fun (j : Nat) => V.int (j : Int)
  | [] => rfl
  | (d, j) :: r => by
    show valV ((.inr (one d), V.int (j : Int)) :: movK r) (.inr (one c) : L2.Key) = (if c = d then some j else lk c r).map _
    by_cases z : c = d
    · subst z
      rw [if_pos rfl, valV_pos rfl]; rfl
    · rw [if_neg z, valV_neg (fun e => z (by
        have e : (Sum.inr (one d) : L2.Key) = .inr (one c) := e
        injection e with e
        injection e with e
        injection e with e
        injection e with e
        exact e.symm))]
      exact valV_mov c r
def spBeh : Sp := fun vs H Q _ => ∃ (m : Addr) (w : List Nat) (G : List Lg.Row) (rk : Nat → Nat), vs = [.ref m, .str (tx w)] ∧ MvAt H m G ∧ Aut G rk ∧ w.length ≤ 1000000 ∧ Q (.int (endS G w)) H
def spConG (K : PySem.W.Frag) (C : Addr) : Sp := fun vs H Q _ => ∃ (p : Addr) (G : List Lg.Row) (rk : Nat → Nat), LgG C H p G rk ∧ Aut G rk ∧
  ((∃ w, vs = [.ref p, .str (tx w)] ∧ w.length ≤ 1000000 ∧ Q (.bl (acc G w 0)) H) ∨ ∃ v t, vs = [.ref p, v] ∧ TyX K H v t ∧ PySem.W.kitOne K t (.type "str") = some false ∧ Q (.bl false) H)
def spBoolG (C : Addr) : Sp := fun vs H Q _ => ∃ (p : Addr) (G : List Lg.Row) (rk : Nat → Nat), vs = [.ref p] ∧ LgG C H p G rk ∧ Q (.bl (decide (0 < (many G rk 0 : Int)))) H
section
variable {P : Program} {w : World} {K : PySem.W.Frag} {mg : Str → Option Value} {base : Heap} {f fB C : Addr} {fd dB : FuncData}
theorem ok_beh {k : Nat} (F : Fun K "state_behind" "state_behind" sBehind f fd) (nw : ∃ t, mg "NOWHERE" = some (.int (-1) t)) : FnOk P w K mg base CX0 (k + 1) f fd ["moves", "text"] spBeh := by
  refine F.ok scBeh (fun vs H Q E h => ?_) (fun cdv A outer s H vs Q E hr h => ?_)
  · obtain ⟨_, _, _, _, rfl, _⟩ := h
    rfl
  have nd := scBeh.nd
  obtain ⟨tN, hn⟩ := nw
  have hu : (A.deeper (envOfC "state_behind" (defScope sBehind) s.heap.objs.size f cdv)).units + 1 < cLine := Nat.lt_of_le_of_lt (Nat.add_le_add_left (by decide) _) hr.units
  obtain ⟨m, w, G, rk, rfl, ⟨ds, e, h1, h2, h3⟩, au, lw, q⟩ := h
  refine ⟨_, pss_cons (ps_set (i := 2) nd rfl (Or.inl rfl) pe_int)
    (pss_cons (ps_for PassesOwn.never rfl (pi_str (pv 1)) (pg_name (i := 3) nd rfl (Or.inl rfl))
      (pss_cons (ps_set (i := 2) nd rfl (Or.inl rfl) (pe_dget2 hu (pe_ix ix_list (pv 0) (pv 2) (fun _ _ => rfl)) (pv 3) (pe_glob (v := .int (-1)) rfl hn ⟨_, rfl⟩) ⟨by rfl, by rfl, by rfl, by rfl⟩))
      (pss_one (ps_if (pt_cmpR op_eq (pv 2) (pe_glob (v := .int (-1)) rfl hn ⟨_, rfl⟩) (nomark _)) (pss_one (ps_ret (pe_glob (v := .int (-1)) rfl hn ⟨_, rfl⟩))) pss_nil))))
    (pss_one (ps_ret (pv 2)))), ?_⟩
  have ld : ds.length = G.length := paired_len h2
  refine ⟨_, rfl, tx w, rfl, for_it walk_str (fun i σ H' => H' = H ∧ ∃ y j, σ = [some (.ref m), some (.str (tx w)), some (.int ((j : Nat) : Int)), y] ∧ run G (w.take i) 0 = some j ∧ j < G.length) ⟨rfl, none, 0, rfl, rfl, au.ne⟩ (fun _ _ _ _ _ => trivial) (fun i y σ H1 H2 hi p wk => ?_) (fun σ H1 p => ?_)⟩
  · obtain ⟨rfl, y', j, rfl, hj, lj⟩ := p
    obtain ⟨rfl, c, hc, rfl⟩ := wk
    have hc' : w[i]? = some c := by simpa [tx] using hc
    have tk : w.take (i + 1) = w.take i ++ [c] := take_snoc hc'
    have hG : G[j]? = some G[j] := List.getElem?_eq_getElem lj
    obtain ⟨d, hd, hdk⟩ := paired_at h2 hG
    have at1 : atI (ds.map V.ref ++ [V.ref e]) ((j : Nat) : Int) = some (.ref d) := atI_nat (by
      rw [List.getElem?_append_left (by rw [List.length_map]; omega), List.getElem?_map, hd]; rfl)
    have r1 : run G (w.take (i + 1)) 0 = lk c (G[j]).2 := by
      rw [tk, run_app, hj]
      show (((G[j]?).bind fun r => lk c r.2).bind (run G [])) = _
      rw [hG, Option.bind_some]
      cases lk c (G[j]).2 <;> rfl
    refine ⟨_, rfl, _, rfl, m, _, _, .ref d, rfl, rfl, SqL.of h1, at1, d, rfl, .inl ⟨_, .inl hdk⟩, _, rfl, _, DGet.k (k := Sum.inr (one c)) hdk, ?_⟩
    rw [valV_mov]
    cases k : lk c (G[j]).2 with
    | none =>
      refine ⟨_, rfl, rfl, _, rfl, dec_yes rfl ?_⟩
      have : endS G w = -1 := by
        unfold endS
        have e2 : run G w 0 = none := by
          rw [← List.take_append_drop (i + 1) w, run_app, r1, k]
          rfl
        rw [e2]
      rw [this] at q
      exact q
    | some j' =>
      refine ⟨_, rfl, rfl, _, rfl, dec_no (by omega) ⟨rfl, _, j', rfl, by rw [r1, k], au.tgt j _ hG _ (lk_mem k)⟩⟩
  · obtain ⟨rfl, y', j, rfl, hj, lj⟩ := p
    have e2 : w.take (tx w).cps.size = w := List.take_of_length_le (by simp [tx])
    rw [e2] at hj
    have : endS G w = (j : Int) := by unfold endS; rw [hj]
    rw [this] at q
    exact ⟨_, rfl, q⟩
theorem ok_conG {k : Nat} (F : Fun K "__contains__" "Language.__contains__" sLCon f fd) (B : Blt mg) (T : LgT K mg C) (nw : ∃ t, mg "NOWHERE" = some (.int (-1) t)) (Be : Lt P w K mg base fB dB "state_behind" ["moves", "text"] k spBeh) : FnOk P w K mg base CX0 (k + 1) f fd ["self", "text"] (spConG K C) := by
  refine F.ok scLCon (fun vs H Q E h => ?_) (fun cdv A outer s H vs Q E hr h => ?_)
  · obtain ⟨_, _, _, _, _, ⟨_, rfl, _⟩ | ⟨_, _, rfl, _⟩⟩ := h <;> rfl
  have nd := scLCon.nd
  obtain ⟨tN, hn⟩ := nw
  obtain ⟨p, G, rk, ⟨dx, fs, l, m, c, g1, g2, g3, g4, g5, g6, g7, g8, g9⟩, au, h⟩ := h
  rcases h with ⟨w, rfl, lw, q⟩ | ⟨v, t, rfl, ht, hk, q⟩
  · refine ⟨_, pss_cons (ps_if (pt_not (pt_val (pe_callB call_isi rfl B.isi bt_isi (pa_cons (pv 1) (pa_cons (pe_bltn (v := .ty "str") rfl B.str bt_str rfl) pa_nil))))) (pss_one (ps_ret pe_bl)) pss_nil)
      (pss_cons (ps_set (i := 2) nd rfl (Or.inl rfl) (pe_call Be.g hr rfl Be.m Be.k Be.b .nil pass0 (pa_cons (pe_fld (pv 0) rfl) (pa_cons (pv 1) pa_nil))))
      (pss_one (ps_ret (pe_and (pe_cmpR op_ne (pv 2) (pe_glob (v := .int (-1)) rfl hn ⟨_, rfl⟩) (nomark _)) (pe_one (pe_ix ix_tup (pe_ix ix_list (pe_fld (pv 0) rfl) (pv 2) (fun _ _ => rfl)) pe_int (fun _ _ => rfl))))))), ?_⟩
    refine ⟨_, rfl, _, .ty "str", _, _, true, rfl, .ty _, (Dq.str _).ty, kss, true, rfl, iteF ?_⟩
    refine ⟨_, rfl, p, C, dx, _, _, rfl, g1, T.cl, T.n2, g4, _, rfl, m, w, G, rk, rfl, g5, au, lw, ?_⟩
    refine ⟨_, rfl, rfl, _, rfl, ?_⟩
    obtain ⟨ss, hl, hss⟩ := g3
    rw [acc_run] at q
    cases e : run G w 0 with
    | none =>
      have e1 : endS G w = -1 := by unfold endS; rw [e]
      rw [e] at q
      rw [e1, decide_eq_true rfl]
      exact iteF q
    | some j =>
      have e1 : endS G w = (j : Int) := by unfold endS; rw [e]
      have lj := run_lt au w 0 j au.ne e
      have hG : G[j]? = some G[j] := List.getElem?_eq_getElem lj
      rw [e, Option.bind_some, hG] at q
      obtain ⟨s0, hs0, t, qs, r1, r2, r3⟩ := paired_at hss hG
      rw [e1, decide_eq_false (fun z => by injection z with z; omega)]
      exact iteT ⟨_, rfl, p, C, dx, _, _, rfl, g1, T.cl, T.n1, g2, _, rfl, l, _, _, .ref s0, rfl, rfl, SqL.of hl, atI_nat (by rw [List.getElem?_map, hs0]; rfl), s0, _, 0, _, rfl, rfl, SqT.of r1, atI_nat (j := 0) rfl, q⟩
  · refine ⟨_, pss_cons (ps_if (pt_not (pt_val (pe_callB call_isi rfl B.isi bt_isi (pa_cons (pv 1) (pa_cons (pe_bltn (v := .ty "str") rfl B.str bt_str rfl) pa_nil))))) (pss_one (ps_ret pe_bl)) pss_nil)
      (pss_cons ps_never (pss_one ps_never)), ?_⟩
    exact ⟨_, rfl, v, .ty "str", t, _, false, rfl, .ty _, ht, hk, false, rfl, iteT q⟩
theorem ok_boolG {k : Nat} (F : Fun K "__bool__" "Language.__bool__" sLBool f fd) (B : Blt mg) (T : LgT K mg C) : FnOk P w K mg base CX0 (k + 1) f fd ["self"] (spBoolG C) := by
  refine F.ok scLBool (fun vs H Q E h => ?_) (fun cdv A outer s H vs Q E hr h => ?_)
  · obtain ⟨_, _, _, rfl, _⟩ := h
    rfl
  have nd := scLBool.nd
  obtain ⟨p, G, rk, rfl, ⟨dx, fs, l, m, c, g1, g2, g3, g4, g5, g6, g7, g8, g9⟩, q⟩ := h
  refine ⟨_, pss_one (ps_ret (pe_callTy call_bool1 rfl B.bool bt_bool (pa_cons (pe_cmpR op_gt (pe_fld (pv 0) rfl) pe_int (nomark _)) pa_nil))), ?_⟩
  exact ⟨_, rfl, p, C, dx, _, _, rfl, g1, T.cl, T.n4, g8, _, _, rfl, rfl, .inr ⟨_, rfl, q⟩⟩
end
end Sk

/-! An own error class over ValueError whose __init__ stores its one argument: made as a value, read, asked for its class. -/
namespace PySem
namespace SkE
open PySem.W PySem.Calls PyProof.Rows PySem.HandSPX
def iA (at_ : Str) (p1 p2 : Pos) : Arguments := { posonlyargs := [], args := [{ arg := "self", annotation := none, pos := p1 }, { arg := at_, annotation := none, pos := p2 }], vararg := none, kwonlyargs := [], kw_defaults := [], kwarg := none, defaults := [] }
def iB (at_ : Str) (q1 q2 q3 q4 : Pos) : List Stmt := [.Assign [.Attribute (.Name "self" q1) at_ q2] (.Name at_ q3) q4]
def iS (at_ : Str) : Scope := { kind := .function, names := [(PySem.Str.ofString "self", .local), (at_, .local)], isGenerator := false, isCoroutine := false, more := [] }
structure ErrTxt (K : Frag) (mg : Str → Option Value) (cl at_ qn : Str) (C fI : Addr) : Prop where
  gC : mg cl = some (.ref C)
  cls : ∃ nm q N bs bm sn sub ab col dd k0 k1 k2 k3 k5, K.lookup C = some (excClassObj nm q C N bs bm true sn sub ab col dd k0 k1 k2 k3 k5 "ValueError.__new__") ∧ refsVE bm = true
  sa : findIn K (.ref C) "__setattr__" = some (some (.builtin "object.__setattr__"))
  ga : findIn K (.ref C) "__getattribute__" = some (some (.builtin "BaseException.__getattribute__"))
  gg : findIn K (.ref C) "__getattr__" = some none
  noN : findIn K (.ref C) at_ = some none
  iC : findIn K (.ref C) "__init__" = some (some (.ref fI))
  tC : typeIn K (.ref fI) = some (.type "function")
  kC : keepIn K (.ref C) = true
  exC : subIn K (.ref C) (.type "BaseException") = some true
  tyC : typeIn K (.ref C) = some (.type "type")
  hdC : hasDictIn K C = true
  fn : ∃ (oc : Value) (od : Option Addr) (doc pm : Value) (an : Option Addr) (cdv ct : Value) (osl : Array (Option Value)) (p1 p2 q1 q2 q3 q4 : Pos),
    K.lookup fI = some ⟨oc, od, .func (fnOf "__init__" qn (iA at_ p1 p2) (iB at_ q1 q2 q3 q4) (iS at_) .none .none doc pm an cdv ct), osl⟩ ∧ codeIn K cdv qn = true
  -- of isinstance
  cl_ : (clsIn K C).isSome = true
  hCl : findIn K (.ref C) "__class__" = some (some (.builtin "object.__class__"))
  hGt : specialIn K (.builtin "object.__class__") "__get__" = some (some (.builtin "getset_descriptor.__get__"))
  hTk : takesIn K (.builtin "object.__class__") = some true
  hOb : mroIn K C (.type "object") = some true
structure InitEnd (at_ : Str) (h h' : Heap) (x C dx t1 : Addr) (v : Value) : Prop where
  keep : ∀ b o, b ≠ x → h.get? b = some o → h'.get? b = some o
  obj : h'.get? x = some { cls := .ref C, dict := some dx, data := .fields #[.ref t1, .none, .none, .none, .bool false, .none] }
  dbig : h.objs.size ≤ dx
  dne : dx ≠ x
  ns : h'.Ns1 dx (fun y => if y = at_ then some v else none)
structure OwnMade (at_ : Str) (h h' : Heap) (e C d : Addr) (v : Value) : Prop where
  keep : ∀ b o, h.get? b = some o → h'.get? b = some o
  new : h.objs.size ≤ e
  obj : ∃ oe vs, h'.get? e = some oe ∧ oe.cls = .ref C ∧ oe.dict = some d ∧ oe.data = .fields vs ∧ vs[1]? = some .none
  dbig : h.objs.size ≤ d
  dne : d ≠ e
  ns : h'.Ns1 d (fun y => if y = at_ then some v else none)
theorem ldC {M : Model} {s : Shared} {name : Str} {scope : Scope} {L a : Addr} {cd : Value} {m : Str → Option Value} {x : Str} {pos : Pos} {v : Value} {Q : Value → Shared → Prop} {A : Around} {E : Value → Shared → Prop} (hn : s.heap.Ns L m) (hv : m x = some v) (h : Q v s)
    (hk : scope.kind = .function := by rfl) (hl : (envOfC name scope L a cd).kindOf x = some .local := by rfl) (hd : (x == ("__debug__" : Str)) = false := by decide) :
    wpAny M A (eval (.Name x pos) (envOfC name scope L a cd)) Q E s := wpAny_Name (wpAny_loadName_local hk hl hn hv h) hd
/-- what __init__ does, called by position or by name -/
def InitOk (K : Frag) (at_ : Str) (C fI : Addr) : Prop := ∀ (prog : Program) (w : World) (A : Around) (R : Result → Shared → Prop) (s : Shared) (args : Args) (x t0 : Addr) (v : Value), (args = ⟨[.ref x, v], []⟩ ∨ args = ⟨[.ref x], [(at_, v)]⟩) →
  K.In s.heap → s.heap.NoLimit → s.heap.get? x = some (excO C t0) → K.lookup x = none → A.depth < recursionLimit → (∀ h' tk dx, InitEnd at_ s.heap h' x C dx t0 v → R (.ok (.ret .none)) { s with heap := h', toks := tk }) → codeAny (model prog w) A (.call (.ref fI) args) R s
theorem init_position {K : Frag} {mg : Str → Option Value} {cl qn : Str} {C fI : Addr} (T : ErrTxt K mg cl "position" qn C fI) : InitOk K "position" C fI := by
  intro prog w A R s args x t0 v hargs X hlim hx hnx hroom hq
  obtain ⟨oc, od, doc, pm, an, cdv, ct, osl, p1, p2, q1, q2, q3, q4, ho, hcd⟩ := T.fn
  obtain ⟨nm, q, N, bs, bm, sn, sub, ab, col, dd, k0, k1, k2, k3, k5, hC, hbm⟩ := T.cls
  have hcl : clsIn K C = some { name := nm, bases := bs, mro := .ref C :: bm, ns := N, qualname := q, hasDict := true, slotNames := sn, subclasses := sub, abstract := ab, collection := col, hasDel := false } := by unfold clsIn; rw [hC] <;> rfl
  have hb : BindsTo s (fnOf "__init__" qn (iA "position" p1 p2) (iB "position" q1 q2 q3 q4) (iS "position") .none .none doc pm an cdv ct) args [("self", .ref x), ("position", v)] := by
    rcases hargs with rfl | rfl
    · exact .of_eq (by first | rfl | with_unfolding_all rfl)
    · exact .of_eq (by first | rfl | with_unfolding_all rfl)
  refine Att.call_fn (binds := [("self", .ref x), ("position", v)]) X hlim ho hcd hroom hb (by first | rfl | decide | with_unfolding_all rfl) (fun s₁ IC => ?_) rfl rfl rfl
  obtain ⟨h₁, tk₁, rfl⟩ := IC.toInCall.same
  have k := IC.toInCall.keep
  have hn := IC.toInCall.ns
  have X₁ : K.In h₁ := X.keeps k
  have hx₁ := k _ _ hx
  show wpAny _ _ (execs _ _) _ _ _
  refine wpAny_execs_cons (plainObj_wpAny_Assign_Attribute (ldC (v := v) hn (by first | rfl | with_unfolding_all rfl | kernel_rfl) (ldC (v := .ref x) hn (by first | rfl | with_unfolding_all rfl | kernel_rfl) ?_)))
  refine set_plain X₁ (ox := excO C t0) (od := none) ⟨hx₁, rfl, rfl, trivial⟩ T.sa (exc_osa X₁ hx₁ hcl (show refsVE (.ref C :: bm) = true from hbm) rfl T.noN fun h₃ tk₃ dx k₃ dn dne hx₃ hn₃ => ?_)
  show wpAny _ _ (execs _ _) _ _ _
  have z : s.heap.objs.size < h₁.objs.size := hn.lt
  exact wpAny_execs_nil (hq h₃ tk₃ dx ⟨fun b o nb e => k₃ b o nb (k b o e), hx₃, Nat.le_of_lt (Nat.lt_of_lt_of_le z dn), dne, hn₃⟩)
theorem init_length {K : Frag} {mg : Str → Option Value} {cl qn : Str} {C fI : Addr} (T : ErrTxt K mg cl "length" qn C fI) : InitOk K "length" C fI := by
  intro prog w A R s args x t0 v hargs X hlim hx hnx hroom hq
  obtain ⟨oc, od, doc, pm, an, cdv, ct, osl, p1, p2, q1, q2, q3, q4, ho, hcd⟩ := T.fn
  obtain ⟨nm, q, N, bs, bm, sn, sub, ab, col, dd, k0, k1, k2, k3, k5, hC, hbm⟩ := T.cls
  have hcl : clsIn K C = some { name := nm, bases := bs, mro := .ref C :: bm, ns := N, qualname := q, hasDict := true, slotNames := sn, subclasses := sub, abstract := ab, collection := col, hasDel := false } := by unfold clsIn; rw [hC] <;> rfl
  have hb : BindsTo s (fnOf "__init__" qn (iA "length" p1 p2) (iB "length" q1 q2 q3 q4) (iS "length") .none .none doc pm an cdv ct) args [("self", .ref x), ("length", v)] := by
    rcases hargs with rfl | rfl
    · exact .of_eq (by first | rfl | with_unfolding_all rfl)
    · exact .of_eq (by first | rfl | with_unfolding_all rfl)
  refine Att.call_fn (binds := [("self", .ref x), ("length", v)]) X hlim ho hcd hroom hb (by first | rfl | decide | with_unfolding_all rfl) (fun s₁ IC => ?_) rfl rfl rfl
  obtain ⟨h₁, tk₁, rfl⟩ := IC.toInCall.same
  have k := IC.toInCall.keep
  have hn := IC.toInCall.ns
  have X₁ : K.In h₁ := X.keeps k
  have hx₁ := k _ _ hx
  show wpAny _ _ (execs _ _) _ _ _
  refine wpAny_execs_cons (plainObj_wpAny_Assign_Attribute (ldC (v := v) hn (by first | rfl | with_unfolding_all rfl | kernel_rfl) (ldC (v := .ref x) hn (by first | rfl | with_unfolding_all rfl | kernel_rfl) ?_)))
  refine set_plain X₁ (ox := excO C t0) (od := none) ⟨hx₁, rfl, rfl, trivial⟩ T.sa (exc_osa X₁ hx₁ hcl (show refsVE (.ref C :: bm) = true from hbm) rfl T.noN fun h₃ tk₃ dx k₃ dn dne hx₃ hn₃ => ?_)
  show wpAny _ _ (execs _ _) _ _ _
  have z : s.heap.objs.size < h₁.objs.size := hn.lt
  exact wpAny_execs_nil (hq h₃ tk₃ dx ⟨fun b o nb e => k₃ b o nb (k b o e), hx₃, Nat.le_of_lt (Nat.lt_of_lt_of_le z dn), dne, hn₃⟩)
theorem init_count {K : Frag} {mg : Str → Option Value} {cl qn : Str} {C fI : Addr} (T : ErrTxt K mg cl "count" qn C fI) : InitOk K "count" C fI := by
  intro prog w A R s args x t0 v hargs X hlim hx hnx hroom hq
  obtain ⟨oc, od, doc, pm, an, cdv, ct, osl, p1, p2, q1, q2, q3, q4, ho, hcd⟩ := T.fn
  obtain ⟨nm, q, N, bs, bm, sn, sub, ab, col, dd, k0, k1, k2, k3, k5, hC, hbm⟩ := T.cls
  have hcl : clsIn K C = some { name := nm, bases := bs, mro := .ref C :: bm, ns := N, qualname := q, hasDict := true, slotNames := sn, subclasses := sub, abstract := ab, collection := col, hasDel := false } := by unfold clsIn; rw [hC] <;> rfl
  have hb : BindsTo s (fnOf "__init__" qn (iA "count" p1 p2) (iB "count" q1 q2 q3 q4) (iS "count") .none .none doc pm an cdv ct) args [("self", .ref x), ("count", v)] := by
    rcases hargs with rfl | rfl
    · exact .of_eq (by first | rfl | with_unfolding_all rfl)
    · exact .of_eq (by first | rfl | with_unfolding_all rfl)
  refine Att.call_fn (binds := [("self", .ref x), ("count", v)]) X hlim ho hcd hroom hb (by first | rfl | decide | with_unfolding_all rfl) (fun s₁ IC => ?_) rfl rfl rfl
  obtain ⟨h₁, tk₁, rfl⟩ := IC.toInCall.same
  have k := IC.toInCall.keep
  have hn := IC.toInCall.ns
  have X₁ : K.In h₁ := X.keeps k
  have hx₁ := k _ _ hx
  show wpAny _ _ (execs _ _) _ _ _
  refine wpAny_execs_cons (plainObj_wpAny_Assign_Attribute (ldC (v := v) hn (by first | rfl | with_unfolding_all rfl | kernel_rfl) (ldC (v := .ref x) hn (by first | rfl | with_unfolding_all rfl | kernel_rfl) ?_)))
  refine set_plain X₁ (ox := excO C t0) (od := none) ⟨hx₁, rfl, rfl, trivial⟩ T.sa (exc_osa X₁ hx₁ hcl (show refsVE (.ref C :: bm) = true from hbm) rfl T.noN fun h₃ tk₃ dx k₃ dn dne hx₃ hn₃ => ?_)
  show wpAny _ _ (execs _ _) _ _ _
  have z : s.heap.objs.size < h₁.objs.size := hn.lt
  exact wpAny_execs_nil (hq h₃ tk₃ dx ⟨fun b o nb e => k₃ b o nb (k b o e), hx₃, Nat.le_of_lt (Nat.lt_of_lt_of_le z dn), dne, hn₃⟩)
theorem init_path {K : Frag} {mg : Str → Option Value} {cl qn : Str} {C fI : Addr} (T : ErrTxt K mg cl "path" qn C fI) : InitOk K "path" C fI := by
  intro prog w A R s args x t0 v hargs X hlim hx hnx hroom hq
  obtain ⟨oc, od, doc, pm, an, cdv, ct, osl, p1, p2, q1, q2, q3, q4, ho, hcd⟩ := T.fn
  obtain ⟨nm, q, N, bs, bm, sn, sub, ab, col, dd, k0, k1, k2, k3, k5, hC, hbm⟩ := T.cls
  have hcl : clsIn K C = some { name := nm, bases := bs, mro := .ref C :: bm, ns := N, qualname := q, hasDict := true, slotNames := sn, subclasses := sub, abstract := ab, collection := col, hasDel := false } := by unfold clsIn; rw [hC] <;> rfl
  have hb : BindsTo s (fnOf "__init__" qn (iA "path" p1 p2) (iB "path" q1 q2 q3 q4) (iS "path") .none .none doc pm an cdv ct) args [("self", .ref x), ("path", v)] := by
    rcases hargs with rfl | rfl
    · exact .of_eq (by first | rfl | with_unfolding_all rfl)
    · exact .of_eq (by first | rfl | with_unfolding_all rfl)
  refine Att.call_fn (binds := [("self", .ref x), ("path", v)]) X hlim ho hcd hroom hb (by first | rfl | decide | with_unfolding_all rfl) (fun s₁ IC => ?_) rfl rfl rfl
  obtain ⟨h₁, tk₁, rfl⟩ := IC.toInCall.same
  have k := IC.toInCall.keep
  have hn := IC.toInCall.ns
  have X₁ : K.In h₁ := X.keeps k
  have hx₁ := k _ _ hx
  show wpAny _ _ (execs _ _) _ _ _
  refine wpAny_execs_cons (plainObj_wpAny_Assign_Attribute (ldC (v := v) hn (by first | rfl | with_unfolding_all rfl | kernel_rfl) (ldC (v := .ref x) hn (by first | rfl | with_unfolding_all rfl | kernel_rfl) ?_)))
  refine set_plain X₁ (ox := excO C t0) (od := none) ⟨hx₁, rfl, rfl, trivial⟩ T.sa (exc_osa X₁ hx₁ hcl (show refsVE (.ref C :: bm) = true from hbm) rfl T.noN fun h₃ tk₃ dx k₃ dn dne hx₃ hn₃ => ?_)
  show wpAny _ _ (execs _ _) _ _ _
  have z : s.heap.objs.size < h₁.objs.size := hn.lt
  exact wpAny_execs_nil (hq h₃ tk₃ dx ⟨fun b o nb e => k₃ b o nb (k b o e), hx₃, Nat.le_of_lt (Nat.lt_of_lt_of_le z dn), dne, hn₃⟩)
theorem init_bound {K : Frag} {mg : Str → Option Value} {cl qn : Str} {C fI : Addr} (T : ErrTxt K mg cl "bound" qn C fI) : InitOk K "bound" C fI := by
  intro prog w A R s args x t0 v hargs X hlim hx hnx hroom hq
  obtain ⟨oc, od, doc, pm, an, cdv, ct, osl, p1, p2, q1, q2, q3, q4, ho, hcd⟩ := T.fn
  obtain ⟨nm, q, N, bs, bm, sn, sub, ab, col, dd, k0, k1, k2, k3, k5, hC, hbm⟩ := T.cls
  have hcl : clsIn K C = some { name := nm, bases := bs, mro := .ref C :: bm, ns := N, qualname := q, hasDict := true, slotNames := sn, subclasses := sub, abstract := ab, collection := col, hasDel := false } := by unfold clsIn; rw [hC] <;> rfl
  have hb : BindsTo s (fnOf "__init__" qn (iA "bound" p1 p2) (iB "bound" q1 q2 q3 q4) (iS "bound") .none .none doc pm an cdv ct) args [("self", .ref x), ("bound", v)] := by
    rcases hargs with rfl | rfl
    · exact .of_eq (by first | rfl | with_unfolding_all rfl)
    · exact .of_eq (by first | rfl | with_unfolding_all rfl)
  refine Att.call_fn (binds := [("self", .ref x), ("bound", v)]) X hlim ho hcd hroom hb (by first | rfl | decide | with_unfolding_all rfl) (fun s₁ IC => ?_) rfl rfl rfl
  obtain ⟨h₁, tk₁, rfl⟩ := IC.toInCall.same
  have k := IC.toInCall.keep
  have hn := IC.toInCall.ns
  have X₁ : K.In h₁ := X.keeps k
  have hx₁ := k _ _ hx
  show wpAny _ _ (execs _ _) _ _ _
  refine wpAny_execs_cons (plainObj_wpAny_Assign_Attribute (ldC (v := v) hn (by first | rfl | with_unfolding_all rfl | kernel_rfl) (ldC (v := .ref x) hn (by first | rfl | with_unfolding_all rfl | kernel_rfl) ?_)))
  refine set_plain X₁ (ox := excO C t0) (od := none) ⟨hx₁, rfl, rfl, trivial⟩ T.sa (exc_osa X₁ hx₁ hcl (show refsVE (.ref C :: bm) = true from hbm) rfl T.noN fun h₃ tk₃ dx k₃ dn dne hx₃ hn₃ => ?_)
  show wpAny _ _ (execs _ _) _ _ _
  have z : s.heap.objs.size < h₁.objs.size := hn.lt
  exact wpAny_execs_nil (hq h₃ tk₃ dx ⟨fun b o nb e => k₃ b o nb (k b o e), hx₃, Nat.le_of_lt (Nat.lt_of_lt_of_le z dn), dne, hn₃⟩)
theorem init_number {K : Frag} {mg : Str → Option Value} {cl qn : Str} {C fI : Addr} (T : ErrTxt K mg cl "number" qn C fI) : InitOk K "number" C fI := by
  intro prog w A R s args x t0 v hargs X hlim hx hnx hroom hq
  obtain ⟨oc, od, doc, pm, an, cdv, ct, osl, p1, p2, q1, q2, q3, q4, ho, hcd⟩ := T.fn
  obtain ⟨nm, q, N, bs, bm, sn, sub, ab, col, dd, k0, k1, k2, k3, k5, hC, hbm⟩ := T.cls
  have hcl : clsIn K C = some { name := nm, bases := bs, mro := .ref C :: bm, ns := N, qualname := q, hasDict := true, slotNames := sn, subclasses := sub, abstract := ab, collection := col, hasDel := false } := by unfold clsIn; rw [hC] <;> rfl
  have hb : BindsTo s (fnOf "__init__" qn (iA "number" p1 p2) (iB "number" q1 q2 q3 q4) (iS "number") .none .none doc pm an cdv ct) args [("self", .ref x), ("number", v)] := by
    rcases hargs with rfl | rfl
    · exact .of_eq (by first | rfl | with_unfolding_all rfl)
    · exact .of_eq (by first | rfl | with_unfolding_all rfl)
  refine Att.call_fn (binds := [("self", .ref x), ("number", v)]) X hlim ho hcd hroom hb (by first | rfl | decide | with_unfolding_all rfl) (fun s₁ IC => ?_) rfl rfl rfl
  obtain ⟨h₁, tk₁, rfl⟩ := IC.toInCall.same
  have k := IC.toInCall.keep
  have hn := IC.toInCall.ns
  have X₁ : K.In h₁ := X.keeps k
  have hx₁ := k _ _ hx
  show wpAny _ _ (execs _ _) _ _ _
  refine wpAny_execs_cons (plainObj_wpAny_Assign_Attribute (ldC (v := v) hn (by first | rfl | with_unfolding_all rfl | kernel_rfl) (ldC (v := .ref x) hn (by first | rfl | with_unfolding_all rfl | kernel_rfl) ?_)))
  refine set_plain X₁ (ox := excO C t0) (od := none) ⟨hx₁, rfl, rfl, trivial⟩ T.sa (exc_osa X₁ hx₁ hcl (show refsVE (.ref C :: bm) = true from hbm) rfl T.noN fun h₃ tk₃ dx k₃ dn dne hx₃ hn₃ => ?_)
  show wpAny _ _ (execs _ _) _ _ _
  have z : s.heap.objs.size < h₁.objs.size := hn.lt
  exact wpAny_execs_nil (hq h₃ tk₃ dx ⟨fun b o nb e => k₃ b o nb (k b o e), hx₃, Nat.le_of_lt (Nat.lt_of_lt_of_le z dn), dne, hn₃⟩)
theorem init_command {K : Frag} {mg : Str → Option Value} {cl qn : Str} {C fI : Addr} (T : ErrTxt K mg cl "command" qn C fI) : InitOk K "command" C fI := by
  intro prog w A R s args x t0 v hargs X hlim hx hnx hroom hq
  obtain ⟨oc, od, doc, pm, an, cdv, ct, osl, p1, p2, q1, q2, q3, q4, ho, hcd⟩ := T.fn
  obtain ⟨nm, q, N, bs, bm, sn, sub, ab, col, dd, k0, k1, k2, k3, k5, hC, hbm⟩ := T.cls
  have hcl : clsIn K C = some { name := nm, bases := bs, mro := .ref C :: bm, ns := N, qualname := q, hasDict := true, slotNames := sn, subclasses := sub, abstract := ab, collection := col, hasDel := false } := by unfold clsIn; rw [hC] <;> rfl
  have hb : BindsTo s (fnOf "__init__" qn (iA "command" p1 p2) (iB "command" q1 q2 q3 q4) (iS "command") .none .none doc pm an cdv ct) args [("self", .ref x), ("command", v)] := by
    rcases hargs with rfl | rfl
    · exact .of_eq (by first | rfl | with_unfolding_all rfl)
    · exact .of_eq (by first | rfl | with_unfolding_all rfl)
  refine Att.call_fn (binds := [("self", .ref x), ("command", v)]) X hlim ho hcd hroom hb (by first | rfl | decide | with_unfolding_all rfl) (fun s₁ IC => ?_) rfl rfl rfl
  obtain ⟨h₁, tk₁, rfl⟩ := IC.toInCall.same
  have k := IC.toInCall.keep
  have hn := IC.toInCall.ns
  have X₁ : K.In h₁ := X.keeps k
  have hx₁ := k _ _ hx
  show wpAny _ _ (execs _ _) _ _ _
  refine wpAny_execs_cons (plainObj_wpAny_Assign_Attribute (ldC (v := v) hn (by first | rfl | with_unfolding_all rfl | kernel_rfl) (ldC (v := .ref x) hn (by first | rfl | with_unfolding_all rfl | kernel_rfl) ?_)))
  refine set_plain X₁ (ox := excO C t0) (od := none) ⟨hx₁, rfl, rfl, trivial⟩ T.sa (exc_osa X₁ hx₁ hcl (show refsVE (.ref C :: bm) = true from hbm) rfl T.noN fun h₃ tk₃ dx k₃ dn dne hx₃ hn₃ => ?_)
  show wpAny _ _ (execs _ _) _ _ _
  have z : s.heap.objs.size < h₁.objs.size := hn.lt
  exact wpAny_execs_nil (hq h₃ tk₃ dx ⟨fun b o nb e => k₃ b o nb (k b o e), hx₃, Nat.le_of_lt (Nat.lt_of_lt_of_le z dn), dne, hn₃⟩)
end SkE
end PySem

/-! The errors of scripts: how they are made. -/
namespace PySem
namespace SkE
open PySem.W PySem.Calls PyProof.Rows PySem.HandSPX
theorem init_wrong {K : Frag} {mg : Str → Option Value} {cl qn : Str} {C fI : Addr} (T : ErrTxt K mg cl "wrong" qn C fI) : InitOk K "wrong" C fI := by
  intro prog w A R s args x t0 v hargs X hlim hx hnx hroom hq
  obtain ⟨oc, od, doc, pm, an, cdv, ct, osl, p1, p2, q1, q2, q3, q4, ho, hcd⟩ := T.fn
  obtain ⟨nm, q, N, bs, bm, sn, sub, ab, col, dd, k0, k1, k2, k3, k5, hC, hbm⟩ := T.cls
  have hcl : clsIn K C = some { name := nm, bases := bs, mro := .ref C :: bm, ns := N, qualname := q, hasDict := true, slotNames := sn, subclasses := sub, abstract := ab, collection := col, hasDel := false } := by unfold clsIn; rw [hC] <;> rfl
  have hb : BindsTo s (fnOf "__init__" qn (iA "wrong" p1 p2) (iB "wrong" q1 q2 q3 q4) (iS "wrong") .none .none doc pm an cdv ct) args [("self", .ref x), ("wrong", v)] := by
    rcases hargs with rfl | rfl
    · exact .of_eq (by first | rfl | with_unfolding_all rfl)
    · exact .of_eq (by first | rfl | with_unfolding_all rfl)
  refine Att.call_fn (binds := [("self", .ref x), ("wrong", v)]) X hlim ho hcd hroom hb (by first | rfl | decide | with_unfolding_all rfl) (fun s₁ IC => ?_) rfl rfl rfl
  obtain ⟨h₁, tk₁, rfl⟩ := IC.toInCall.same
  have k := IC.toInCall.keep
  have hn := IC.toInCall.ns
  have X₁ : K.In h₁ := X.keeps k
  have hx₁ := k _ _ hx
  show wpAny _ _ (execs _ _) _ _ _
  refine wpAny_execs_cons (plainObj_wpAny_Assign_Attribute (ldC (v := v) hn (by first | rfl | with_unfolding_all rfl | kernel_rfl) (ldC (v := .ref x) hn (by first | rfl | with_unfolding_all rfl | kernel_rfl) ?_)))
  refine set_plain X₁ (ox := excO C t0) (od := none) ⟨hx₁, rfl, rfl, trivial⟩ T.sa (exc_osa X₁ hx₁ hcl (show refsVE (.ref C :: bm) = true from hbm) rfl T.noN fun h₃ tk₃ dx k₃ dn dne hx₃ hn₃ => ?_)
  show wpAny _ _ (execs _ _) _ _ _
  have z : s.heap.objs.size < h₁.objs.size := hn.lt
  exact wpAny_execs_nil (hq h₃ tk₃ dx ⟨fun b o nb e => k₃ b o nb (k b o e), hx₃, Nat.le_of_lt (Nat.lt_of_lt_of_le z dn), dne, hn₃⟩)
theorem init_steps {K : Frag} {mg : Str → Option Value} {cl qn : Str} {C fI : Addr} (T : ErrTxt K mg cl "steps" qn C fI) : InitOk K "steps" C fI := by
  intro prog w A R s args x t0 v hargs X hlim hx hnx hroom hq
  obtain ⟨oc, od, doc, pm, an, cdv, ct, osl, p1, p2, q1, q2, q3, q4, ho, hcd⟩ := T.fn
  obtain ⟨nm, q, N, bs, bm, sn, sub, ab, col, dd, k0, k1, k2, k3, k5, hC, hbm⟩ := T.cls
  have hcl : clsIn K C = some { name := nm, bases := bs, mro := .ref C :: bm, ns := N, qualname := q, hasDict := true, slotNames := sn, subclasses := sub, abstract := ab, collection := col, hasDel := false } := by unfold clsIn; rw [hC] <;> rfl
  have hb : BindsTo s (fnOf "__init__" qn (iA "steps" p1 p2) (iB "steps" q1 q2 q3 q4) (iS "steps") .none .none doc pm an cdv ct) args [("self", .ref x), ("steps", v)] := by
    rcases hargs with rfl | rfl
    · exact .of_eq (by first | rfl | with_unfolding_all rfl)
    · exact .of_eq (by first | rfl | with_unfolding_all rfl)
  refine Att.call_fn (binds := [("self", .ref x), ("steps", v)]) X hlim ho hcd hroom hb (by first | rfl | decide | with_unfolding_all rfl) (fun s₁ IC => ?_) rfl rfl rfl
  obtain ⟨h₁, tk₁, rfl⟩ := IC.toInCall.same
  have k := IC.toInCall.keep
  have hn := IC.toInCall.ns
  have X₁ : K.In h₁ := X.keeps k
  have hx₁ := k _ _ hx
  show wpAny _ _ (execs _ _) _ _ _
  refine wpAny_execs_cons (plainObj_wpAny_Assign_Attribute (ldC (v := v) hn (by first | rfl | with_unfolding_all rfl | kernel_rfl) (ldC (v := .ref x) hn (by first | rfl | with_unfolding_all rfl | kernel_rfl) ?_)))
  refine set_plain X₁ (ox := excO C t0) (od := none) ⟨hx₁, rfl, rfl, trivial⟩ T.sa (exc_osa X₁ hx₁ hcl (show refsVE (.ref C :: bm) = true from hbm) rfl T.noN fun h₃ tk₃ dx k₃ dn dne hx₃ hn₃ => ?_)
  show wpAny _ _ (execs _ _) _ _ _
  have z : s.heap.objs.size < h₁.objs.size := hn.lt
  exact wpAny_execs_nil (hq h₃ tk₃ dx ⟨fun b o nb e => k₃ b o nb (k b o e), hx₃, Nat.le_of_lt (Nat.lt_of_lt_of_le z dn), dne, hn₃⟩)
end SkE
end PySem

namespace PySem
namespace SkE
open PySem.W PySem.Calls PyProof.Rows PySem.HandSPX
section
variable {prog : Program} {w : World} {A : Around} {E : Value → Shared → Prop} {R : Result → Shared → Prop} {h : Heap} {g : Array GenState} {d : Drawn} {t : Nat} {os : OsState}
variable {nm q : Str} {C N : Addr} {bs bm bmB : List Value} {hdct : Bool} {sn : List Str} {sub : List Value} {ab : Bool} {col : Option Bool} {dd : Option Addr} {k0 k1 k2 k3 k5 : Option Value} {B newId initId : String} {kw : List (Str × Value)}
theorem checkK (F : ExcBaseFacts B newId initId bmB) (hT : ∀ X : String, bm.contains (.type X) = bmB.contains (.type X)) {Q : Unit → Shared → Prop}
    (hC : h.get? C = some (excClassObj nm q C N bs bm hdct sn sub ab col dd k0 k1 k2 k3 k5 newId)) (hq : Q () ⟨h, g, d, t, os⟩) : wpAny (model prog w) A (checkBuiltinCall newId ⟨[.ref C], kw⟩) Q E ⟨h, g, d, t, os⟩ := by
  have hcont : (Value.ref C :: bm).contains (.type B) = true := by
    rw [List.contains_cons, hT, F.hasB, Bool.or_true]
  have z := F.noStar
  simp only [checkBuiltinCall, F.newKind, F.newSplit, F.newRow]
  repeat (first
    | refine wpAny_loadPart_at hC ?_
    | (refine wpAny_isSubtype_exc hC ?_
       rw [hcont])
    | refine wpAny_staticBase_exc hC ?_
    | refine wpAny_madeBy_exc hC ?_
    | simp only [bne_self_eq_false, Bool.false_eq_true, if_false]
    | wp_step)
  exact hq
theorem newK (F : ExcBaseFacts B newId initId bmB) (hT : ∀ X : String, bm.contains (.type X) = bmB.contains (.type X))
    (hC : h.get? C = some (excClassObj nm q C N bs bm hdct sn sub ab col dd k0 k1 k2 k3 k5 newId))
    (hq : R (.ok (.ret (.ref (h.objs.size + 1)))) ⟨(h.push (kdv_tup [])).push (excO C h.objs.size), g, d, t, os⟩) :
    codeAny (model prog w) A (.builtin newId ⟨[.ref C], kw⟩) R ⟨h, g, d, t, os⟩ := by
  have ends := F.ends
  have inn : ∀ X : String, (Value.ref C :: bm).contains (.type X) = bmB.contains (.type X) := fun X => by
    rw [List.contains_cons, hT]; rfl
  have hcB := (inn B).trans F.hasB
  have hcA := (inn "AttributeError").trans F.noAttr
  have hcN := (inn "NameError").trans F.noName
  refine codeAny_builtinAt F.entry ?_
  unfold Builtin.«BaseException.__new__»
  refine wpAt_bind ?_
  show wpAt _ _ _ (stack >>= _) _ _ _
  refine wpAt_bind (wpAt_stack fun p below => wpAt_of_wpAny ?_)
  wp_walk
  refine wpAt_of_wpAny ?_
  rw [F.owner]
  repeat (first
    | with_reducible refine wpAny_madeHere_exc F.canon hC ?_
    | with_reducible refine wpAny_loadPart_at hC ?_
    | (with_reducible refine wpAny_isSubtype_exc hC ?_
       first | rw [hcB] | rw [hcA] | rw [hcN])
    | wp_step)
  show R _ _
  rw [Heap.size_push]
  exact hq
theorem typeK (F : ExcBaseFacts B newId initId bmB) (hT : ∀ X : String, bm.contains (.type X) = bmB.contains (.type X)) {fI : Addr} {Q : Fin → Shared → Prop}
    (hC : h.get? C = some (excClassObj nm q C N bs bm hdct sn sub ab col dd k0 k1 k2 k3 k5 newId)) (hi : Looks (model prog w) h (typeLookup (.ref C) "__init__") (some (.ref fI)))
    (hb : ∀ self, Looks (model prog w) h (bindSpecial (.ref fI) self) (.ref fI, [self]))
    (hq : codeAny (model prog w) A (.call (.ref fI) ⟨[.ref (h.objs.size + 1)], kw⟩) (fun r s' => match r with | .ok (.ret v) => v = .none ∧ Q (.done (.ret (.ref (h.objs.size + 1)))) s' | .ok _ => False | .error e => E e s')
      ⟨(h.push (kdv_tup [])).push (excO C h.objs.size), g, d, t, os⟩) : wpAny (model prog w) A (Builtin.«type.__call__» ⟨[.ref C], kw⟩) Q E ⟨h, g, d, t, os⟩ := by
  repeat (first
    | with_reducible refine wpAny_loadPart_at hC ?_
    | with_reducible refine wpAny_madeBy_exc hC ?_
    | wp_step)
  refine codeAny_call_builtin_code (Code.quiet_builtin _ F.quiet) (checkK F hT hC ?_)
  refine newK F hT hC ?_
  show wpAny _ _ _ _ _ _
  have k : ∀ b o, h.get? b = some o → ((h.push (kdv_tup [])).push (excO C h.objs.size)).get? b = some o := fun b o e => Heap.get?_push_of_some _ (Heap.get?_push_of_some _ e)
  have hC1 := k _ _ hC
  have hget : ((h.push (kdv_tup [])).push (excO C h.objs.size)).get? (h.objs.size + 1) = some (excO C h.objs.size) := by
    heap_get
  have me : (Value.ref C :: bm).contains (.ref C) = true := by
    simp
  have i1 := hi.keeps k
  have b1 := (hb (.ref (h.objs.size + 1))).keeps k
  unfold isInstance
  repeat (first
    | with_reducible refine wpAny_loadPart_at hget ?_
    | (with_reducible refine wpAny_isSubtype_exc hC1 ?_
       rw [me])
    | wp_step)
  show wpAny _ _ (typeLookup (.ref C) _) _ _ _
  refine i1.at (wpAny_holding (wpAny_bind (b1.at (wpAny_bind (wpAny_call (codeAny_mono hq fun r s' z => ?_))))))
  rcases r with e | fl
  · exact z
  · cases fl with
    | ret v =>
      obtain ⟨rfl, z⟩ := z
      first
        | exact wpAny_pure (wpAny_pure z)
        | (wp_walk
           exact z)
    | next => exact z.elim
    | brk => exact z.elim
    | cont => exact z.elim
theorem callK (F : ExcBaseFacts B newId initId bmB) (hT : ∀ X : String, bm.contains (.type X) = bmB.contains (.type X)) {fI : Addr}
    (hC : h.get? C = some (excClassObj nm q C N bs bm hdct sn sub ab col dd k0 k1 k2 k3 k5 newId)) (hi : Looks (model prog w) h (typeLookup (.ref C) "__init__") (some (.ref fI)))
    (hb : ∀ self, Looks (model prog w) h (bindSpecial (.ref fI) self) (.ref fI, [self]))
    (hq : codeAny (model prog w) (A.under (.builtin "type.__call__" ⟨[.ref C], kw⟩)) (.call (.ref fI) ⟨[.ref (h.objs.size + 1)], kw⟩) (InitBack (h.objs.size + 1) R) ⟨(h.push (kdv_tup [])).push (excO C h.objs.size), g, d, t, os⟩) :
    codeAny (model prog w) A (.call (.ref C) ⟨[], kw⟩) R ⟨h, g, d, t, os⟩ := by
  have f1 := tc_lookup
  have f2 := tc_bind (.ref C)
  have ty : (⟨h, g, d, t, os⟩ : Shared).TypeIs (.ref C) "type" := ⟨_, hC, rfl⟩
  refine codeAny_of_tree ?_
  show wpAny _ _ (callAny (.ref C) _) _ _ _
  repeat (any_goals (first
    | assumption
    | with_reducible refine wpAny_loadPart_at hC ?_
    | wp_step))
  refine ⟨rfl, codeAny_call_builtin_at (Code.quiet_builtin _ (by decide +kernel)) entry_typeCall ?_⟩
  refine wpAny_check_type_call_sub hC (typeK F hT hC hi hb ?_)
  refine codeAny_mono hq fun r s' z => ?_
  rcases r with e | (v | _ | _ | _)
  all_goals exact z
end
end SkE
end PySem

namespace PySem
namespace SkE
open PySem.W PySem.Calls PyProof.Rows PySem.HandSPX
section
variable {prog : Program} {w : World} {A : Around} {E : Value → Shared → Prop} {R : Result → Shared → Prop} {s : Shared} {K : Frag} {mg : Str → Option Value} {cl at_ qn : Str} {C fI : Addr}
theorem under_kw {A : Around} {C : Addr} {us : List Value} {kw : List (Str × Value)} : (A.under (.builtin "type.__call__" ⟨.ref C :: us, kw⟩)).depth = A.depth + 1 := L2.make_depth
/-- behind __init__: the error is made -/
theorem made_end {hp : Heap} {g : Array GenState} {dr : Drawn} {os : OsState} {rest : List Value} {h' : Heap} {tk : Nat} {dx : Addr} {v : Value} (M : InitEnd at_ ((hp.push (kdv_tup rest)).push (excO C hp.objs.size)) h' (hp.objs.size + 1) C dx hp.objs.size v) :
    OwnMade at_ hp h' (hp.objs.size + 1) C dx v := by
  have k : ∀ b o, hp.get? b = some o → ((hp.push (kdv_tup rest)).push (excO C hp.objs.size)).get? b = some o := fun b o e => Heap.get?_push_of_some _ (Heap.get?_push_of_some _ e)
  have z : hp.objs.size + 1 + 1 ≤ dx := by
    have q := M.dbig
    rw [Heap.size_push, Heap.size_push] at q
    exact q
  exact ⟨fun b o e => M.keep b o (Nat.ne_of_lt (Nat.lt_succ_of_lt (Heap.lt_size e))) (k b o e), Nat.le_succ _, ⟨_, _, M.obj, rfl, rfl, rfl, rfl⟩, by omega, M.dne, M.ns⟩
theorem err_made (T : ErrTxt K mg cl at_ qn C fI) (IO : InitOk K at_ C fI) {v : Value} {args : Args} (ha : args = ⟨[v], []⟩ ∨ args = ⟨[], [(at_, v)]⟩) (X : K.In s.heap) (hlim : s.heap.NoLimit) (hroom : A.depth + 1 < recursionLimit)
    (hq : ∀ h' tk e d, OwnMade at_ s.heap h' e C d v → R (.ok (.ret (.ref e))) { s with heap := h', toks := tk }) : codeAny (model prog w) A (.call (.ref C) args) R s := by
  obtain ⟨nm, q, N, bs, bm, sn, sub, ab, col, dd, k0, k1, k2, k3, k5, hC, hbm⟩ := T.cls
  obtain ⟨hp, g, dr, tk, os⟩ := s
  have start : ∀ rest : List Value, K.In ((hp.push (kdv_tup rest)).push (excO C hp.objs.size)) ∧ ((hp.push (kdv_tup rest)).push (excO C hp.objs.size)).NoLimit ∧ ((hp.push (kdv_tup rest)).push (excO C hp.objs.size)).get? (hp.objs.size + 1) = some (excO C hp.objs.size) := fun rest => by
    have k : ∀ b o, hp.get? b = some o → ((hp.push (kdv_tup rest)).push (excO C hp.objs.size)).get? b = some o := fun b o e => Heap.get?_push_of_some _ (Heap.get?_push_of_some _ e)
    exact ⟨X.keeps k, hlim.keeps k, by heap_get⟩
  have no : K.lookup (hp.objs.size + 1) = none := by
    cases e : K.lookup (hp.objs.size + 1) with
    | none => rfl
    | some o => exact absurd (Nat.lt_of_succ_lt (Heap.lt_size (show hp.get? _ = some o from X _ _ e))) (Nat.lt_irrefl _)
  rcases ha with rfl | rfl
  · obtain ⟨s1, s2, s3⟩ := start [v]
    refine call_own F.excBase_ValueError (fun Y => refsVE_contains Y bm hbm) (X _ _ hC) (looks_findIn X T.iC) (fun self => bind_fn X self T.tC) (by rw [List.length_singleton]; exact Nat.le_trans (by decide) (Nat.le_of_eq sizeLine_eq.symm)) ?_
    refine IO prog w _ _ ⟨_, g, dr, tk, os⟩ _ _ _ v (.inl rfl) s1 s2 s3 no ?_ fun h' tk' dx M => ⟨rfl, hq h' tk' _ dx (made_end (g := g) (dr := dr) (os := os) (tk := tk') M)⟩
    rw [under_kw]; exact hroom
  · obtain ⟨s1, s2, s3⟩ := start []
    refine callK F.excBase_ValueError (fun Y => refsVE_contains Y bm hbm) (X _ _ hC) (looks_findIn X T.iC) (fun self => bind_fn X self T.tC) ?_
    refine IO prog w _ _ ⟨_, g, dr, tk, os⟩ _ _ _ v (.inr rfl) s1 s2 s3 no ?_ fun h' tk' dx M => ⟨rfl, hq h' tk' _ dx (made_end (g := g) (dr := dr) (os := os) (tk := tk') M)⟩
    rw [under_kw]; exact hroom
end
end SkE
end PySem
namespace Sk
open PySem PySem.Spec PyProof.Rows L2 Evl PySem.SkE
/-- an error of the class at C, its own dict at d -/
def ErO (C d e : Addr) : HO := .ext fun h => ∃ (oe : Obj) (vs : Array Value), h.get? e = some oe ∧ oe.cls = .ref C ∧ oe.dict = some d ∧ oe.data = .fields vs ∧ vs[1]? = some .none
theorem relO_one {v : V} {v' : Value} {at_ : Str} (r : RelV v v') (f : Str) : RelO (List.lookup f [(at_, v)]) (if f = at_ then some v' else none) := by
  by_cases hw : f = at_
  · subst hw
    rw [if_pos rfl]
    simp only [List.lookup, beq_self_eq_true]
    exact r
  · have q : (f == at_) = false := by simpa using hw
    rw [if_neg hw]
    simp only [List.lookup, q]
    trivial
section
variable {X : Cx} {pins : List (Addr × Obj)} {σ : L2.St} {H : Hp} {s : Shared} {cl at_ qn : Str} {C fI : Addr}
/-- the heap behind a made error -/
theorem made_inv (I : Inv X pins σ H s) {h' : Heap} {tk : Nat} {e d : Addr} {v : V} {v' : Value} (rv : RelV v v') (M : OwnMade at_ s.heap h' e C d v') :
    H e = none ∧ H d = none ∧ d ≠ e ∧ Inv X pins σ (upd (upd H d (.xd [(at_, v)])) e (ErO C d e)) { s with heap := h', toks := tk } := by
  have he := I.hok.fresh M.new
  have hd := I.hok.fresh M.dbig
  have he2 : (upd H d (.xd [(at_, v)])) e = none := by
    rw [upd_ne (Ne.symm M.dne)]; exact he
  refine ⟨he, hd, M.dne, I.un ((Un.laid (h := s.heap) (h' := s.heap) (fun _ _ z => z) M.dbig hd).trans (Un.laid M.keep M.new he2)) ?_⟩
  have h1 : HOk X.prog X.w (upd H d (.xd [(at_, v)])) h' := I.hok.laidN M.keep hd ⟨_, M.ns, fun f => relO_one rv f⟩
  obtain ⟨oe, vs, g, r⟩ := M.obj
  exact h1.laidN (fun _ _ z => z) he2 ⟨⟨oe, vs, g, r⟩, ⟨oe, g⟩, fun _ _ ⟨o, vs, q, r⟩ k => ⟨o, vs, k o q, r⟩⟩
def tErr (C : Addr) (at_ : Str) (ta : TA) : TE := fun σ H Q => ta σ H fun vs H1 => ∃ v, vs = [v] ∧ ∀ e d, H1 e = none → H1 d = none → d ≠ e → Q (.ref e) (upd (upd H1 d (.xd [(at_, v)])) e (ErO C d e))
theorem pe_err {a : Expr} {ta : TA} {p pos : Pos} {k : Nat} (T : ErrTxt X.K X.mg cl at_ qn C fI) (IO : InitOk X.K at_ C fI) (hr : Room k X.A) (ha : PA X [a] ta) (hg : Gl X cl := by rfl) (hdb : (cl == ("__debug__" : Str)) = false := by decide)
    (he : starEach (a :: []) X.env = (false, eval a X.env) :: starEach [] X.env := by rfl) (hpl : (backTo pos (starEach [] X.env)).any (·.1) = false := by rfl) : PE X (.Call (.Name cl p) [a] [] pos) (tErr C at_ ta) := by
  refine ⟨fun pins s σ H Q I h => wpAny_Call_Name_kw (ld_glob I hg T.gC ?_ hdb)⟩
  refine PySem.W.callWith_K (h₀ := X.base) I.ok.mod.kin T.kC (thn (ha.run pos pins s σ H _ I h) fun us s1 ⟨vs, H1, I1, r1, v, ev, q⟩ => ?_) he hpl
  subst ev
  refine ⟨I1.kIn, ?_⟩
  obtain ⟨u, rfl, ru⟩ := vals1 r1
  refine wpAny_call (err_made T IO (.inl rfl) I1.kIn I1.nolimit (by have := hr.dp; omega) fun h' tk e d M => ?_)
  obtain ⟨g1, g2, g3, J⟩ := made_inv (tk := tk) I1 ru M
  exact ⟨.ref e, _, J, rfl, q e d g1 g2 g3⟩
theorem pe_errK {kws : List Keyword} {ta : TA} {p pos : Pos} {k : Nat} (T : ErrTxt X.K X.mg cl at_ qn C fI) (IO : InitOk X.K at_ C fI) (hr : Room k X.A) (ha : PK X kws ta) (hg : Gl X cl := by rfl) (hdb : (cl == ("__debug__" : Str)) = false := by decide)
    (hall : (backToKw pos (keywordEach kws X.env)).all (·.1.isSome) = true := by rfl) (hks : (backToKw pos (keywordEach kws X.env)).filterMap (·.1) = [at_] := by rfl)
    (hpl : ((backTo pos (starEach [] X.env)).any (·.1) || (backToKw pos (keywordEach kws X.env)).any (·.1.isNone)) = false := by rfl) : PE X (.Call (.Name cl p) [] kws pos) (tErr C at_ ta) := by
  refine ⟨fun pins s σ H Q I h => wpAny_Call_Name_kw (ld_glob I hg T.gC ?_ hdb)⟩
  refine PySem.W.callWith_KW0 (h₀ := X.base) I.ok.mod.kin T.kC hall (thn (ha.run pos pins s σ H _ I h) fun us s1 ⟨vs, H1, I1, r1, v, ev, q⟩ => ?_) hpl
  subst ev
  refine ⟨I1.kIn, ?_⟩
  rw [hks]
  obtain ⟨u, rfl, ru⟩ := vals1 r1
  refine wpAny_call (err_made T IO (.inr rfl) I1.kIn I1.nolimit (by have := hr.dp; omega) fun h' tk e d M => ?_)
  obtain ⟨g1, g2, g3, J⟩ := made_inv (tk := tk) I1 ru M
  exact ⟨.ref e, _, J, rfl, q e d g1 g2 g3⟩
/-- the error at e stands, with its field -/
def IsErr (H : Hp) (C : Addr) (at_ : Str) (e : Addr) (v : V) : Prop := ∃ d, H e = some (ErO C d e) ∧ H d = some (.xd [(at_, v)])
theorem IsErr.inst (I : Inv X pins σ H s) {e : Addr} {v : V} (h : IsErr H C at_ e v) : ∃ oe od, PySem.W.InstAt s.heap e oe C (some od) ∧ ∃ u, RelV v u ∧ PySem.W.lookIn at_ od = some (some u) := by
  obtain ⟨d, h1, h2⟩ := h
  obtain ⟨⟨oe, vs, g, c, dd, da, _⟩, _⟩ := (show ObjOk X.prog X.w H s.heap e (ErO C d e) from I.hok _ _ h1)
  obtain ⟨mA, hns, hr⟩ := (show ObjOk X.prog X.w H s.heap d (.xd [(at_, v)]) from I.hok _ _ h2)
  obtain ⟨od, ho, hl⟩ := lookIn_ns hns
  have l : List.lookup at_ [(at_, v)] = some v := by simp [List.lookup]
  obtain ⟨u, hu, ru⟩ := RelO.some_of (v := v) (o := mA at_) (by rw [← l]; exact hr at_)
  refine ⟨oe, od, ⟨g, c, by unfold PySem.W.notCls; rw [da] <;> rfl, by rw [dd]; exact ho⟩, u, ru, by rw [hl, hu]⟩
/-- e.attr -/
def tErrFld (C : Addr) (at_ : Str) (te : TE) : TE := fun σ H Q => te σ H fun x H1 => ∃ e v, x = .ref e ∧ IsErr H1 C at_ e v ∧ Q v H1
theorem pe_errFld {e : Expr} {te : TE} {pos : Pos} (T : ErrTxt X.K X.mg cl at_ qn C fI) (he : PE X e te) (hb : attributeBase e at_ X.env (eval e X.env) = eval e X.env := by rfl) : PE X (.Attribute e at_ pos) (tErrFld C at_ te) := by
  refine ⟨fun pins s σ H Q I h => attr_of hb (thn (he.run pins s σ H _ I h) fun u s1 hh => ?_)⟩
  obtain ⟨x, H1, I1, rx, e0, v, ex, hi, q⟩ := hh
  subst ex
  cases (show u = Value.ref e0 from rx)
  obtain ⟨oe, od, J, u, ru, hl⟩ := hi.inst I1
  exact HandSPX.exc_get I1.kIn J T.ga T.gg T.exC (PySem.W.findObj_own T.hdC T.noN rfl hl) (handed_of ru) ⟨v, H1, I1.tok _, ru, q⟩
/-- isinstance(e, class) -/
theorem call_isErr (T : ErrTxt X.K X.mg cl at_ qn C fI) : CallR X (.builtin "isinstance") (fun xs H Q => ∃ (e : Addr) (v c : V) (u : Value) (b : Bool), xs = [.ref e, c] ∧ ClsV c u ∧ IsErr H C at_ e v ∧ PySem.W.kitOne X.K (.ref C) u = some b ∧ Q (.bl b) H) := by
  intro pins s σ H xs us Q I r h
  obtain ⟨e, v, c, u, b, rfl, k, hi, hk, q⟩ := h
  obtain ⟨u1, u2, rfl, r1, r2⟩ := vals2 r
  cases (show u1 = Value.ref e from r1)
  have e2 := k.eq r2
  subst e2
  obtain ⟨oe, od, J, _⟩ := hi.inst I
  exact PySem.W.kia_one (PySem.W.kitx_exc T.cl_ T.ga T.gg T.exC T.hCl T.hGt T.hTk T.hOb) I.kIn J hk (fun z => nomatch z) fun tk => ⟨.bl b, H, I.tok tk, rfl, q⟩
end
end Sk

namespace Sk
open PySem PySem.Spec PyProof.Rows L2 Evl PySem.SkE
/-- an own error's class, which one left open -/
def ErrC (K : PySem.W.Frag) (at_ : Str) (C : Addr) : Prop := ∃ mg cl qn fI, ErrTxt K mg cl at_ qn C fI
section
variable {X : Cx}
/-- e.attr, of any own error that stores it -/
def tErrFldA (K : PySem.W.Frag) (at_ : Str) (te : TE) : TE := fun σ H Q => te σ H fun x H1 => ∃ e v C, x = .ref e ∧ ErrC K at_ C ∧ IsErr H1 C at_ e v ∧ Q v H1
theorem pe_errFldA {e : Expr} {te : TE} {at_ : Str} {pos : Pos} (he : PE X e te) (hb : attributeBase e at_ X.env (eval e X.env) = eval e X.env := by rfl) : PE X (.Attribute e at_ pos) (tErrFldA X.K at_ te) := by
  refine ⟨fun pins s σ H Q I h => attr_of hb (thn (he.run pins s σ H _ I h) fun u s1 hh => ?_)⟩
  obtain ⟨x, H1, I1, rx, e0, v, C, ex, ⟨mg, cl, qn, fI, T⟩, hi, q⟩ := hh
  subst ex
  cases (show u = Value.ref e0 from rx)
  obtain ⟨oe, od, J, u, ru, hl⟩ := hi.inst I1
  exact HandSPX.exc_get I1.kIn J T.ga T.gg T.exC (PySem.W.findObj_own T.hdC T.noN rfl hl) (handed_of ru) ⟨v, H1, I1.tok _, ru, q⟩
/-- isinstance(e, class) -/
def rIsErr (K : PySem.W.Frag) : List V → Hp → VK → Prop := fun xs H Q => ∃ (C e : Addr) (at_ : Str) (v c : V) (u : Value) (b : Bool), xs = [.ref e, c] ∧ ClsV c u ∧ ErrC K at_ C ∧ IsErr H C at_ e v ∧ PySem.W.kitOne K (.ref C) u = some b ∧ Q (.bl b) H
theorem call_isErrA : CallR X (.builtin "isinstance") (rIsErr X.K) := by
  intro pins s σ H xs us Q I r h
  obtain ⟨C, e, at_, v, c, u, b, rfl, k, ⟨mg, cl, qn, fI, T⟩, hi, hk, q⟩ := h
  obtain ⟨u1, u2, rfl, r1, r2⟩ := vals2 r
  cases (show u1 = Value.ref e from r1)
  have e2 := k.eq r2
  subst e2
  obtain ⟨oe, od, J, _⟩ := hi.inst I
  exact PySem.W.kia_one (PySem.W.kitx_exc T.cl_ T.ga T.gg T.exC T.hCl T.hGt T.hTk T.hOb) I.kIn J hk (fun z => nomatch z) fun tk => ⟨.bl b, H, I.tok tk, rfl, q⟩
end
end Sk

/-! An own error raised; caught, and kept by another name. -/
namespace Sk
open PySem PySem.Spec PyProof.Rows L2 Evl PySem.SkE
section
variable {X : Cx} {cl at_ qn : Str} {C fI : Addr}
def tMkE (C : Addr) (at_ : Str) (ta : TA) : L2.St → Hp → XK → Prop := fun σ H Q => ta σ H fun vs H1 => ∃ v, vs = [v] ∧ ∀ d, H1 d = none → Q (.ref C) (some d) (upd H1 d (.xd [(at_, v)]))
theorem pmk_err {a : Expr} {ta : TA} {p pos : Pos} {k : Nat} (T : ErrTxt X.K X.mg cl at_ qn C fI) (IO : InitOk X.K at_ C fI) (hr : Room k X.A) (ha : PA X [a] ta) (hg : Gl X cl := by rfl) (hdb : (cl == ("__debug__" : Str)) = false := by decide)
    (he : starEach (a :: []) X.env = (false, eval a X.env) :: starEach [] X.env := by rfl) (hpl : (backTo pos (starEach [] X.env)).any (·.1) = false := by rfl) :
    PMk X (.Call (.Name cl p) [a] [] pos) (tMkE C at_ ta) := by
  intro pins s σ H Q I h
  refine wpAny_Call_Name_kw (ld_glob I hg T.gC ?_ hdb)
  refine PySem.W.callWith_K (h₀ := X.base) I.ok.mod.kin T.kC (thn (ha.run pos pins s σ H _ I h) fun us s1 ⟨vs, H1, I1, r1, v, ev, q1⟩ => ?_) he hpl
  subst ev
  refine ⟨I1.kIn, ?_⟩
  obtain ⟨v', rfl, rv⟩ := vals1 r1
  have hlim := I1.nolimit
  obtain ⟨hp, g, dr, tk, os⟩ := s1
  refine wpAny_call (err_made T IO (.inl rfl) I1.kIn hlim (by have := hr.dp; omega) fun h' tk' e d M => ?_)
  show MkP X pins σ Q (.ref e) ⟨h', g, dr, tk', os⟩
  obtain ⟨oe, fv, hoe, hc, hd, hdat, h1⟩ := M.obj
  have hns := M.ns
  obtain ⟨G', g1, g2⟩ := restrict h' fun b => decide (b ≠ e)
  have gk : ∀ b, b ≠ e → G'.get? b = h'.get? b := fun b hb => g1 b (decide_eq_true hb)
  have ge : G'.get? e = none := g2 e (by simp)
  have old : ∀ b o, hp.get? b = some o → G'.get? b = some o := fun b o q => (gk b (Nat.ne_of_lt (Nat.lt_of_lt_of_le (Heap.lt_size q) M.new))).trans (M.keep b o q)
  have ob : ObjOk X.prog X.w (upd H1 d (.xd [(at_, v)])) G' d (.xd [(at_, v)]) :=
    ⟨_, hns.at (fun o q => (gk d M.dne).trans q), fun f => relO_one rv f⟩
  have J : Inv X pins σ (upd H1 d (.xd [(at_, v)])) ⟨G', g, dr, tk', os⟩ := I1.laid (t' := tk') old M.dbig ob
  refine ⟨e, oe, fv, ⟨G', g, dr, tk', os⟩, _, .ref C, some d, rfl, J, fun b o q => ?_, ge, hoe, ⟨hc, hd⟩, hdat, h1, ?_, rfl, I1.bare, raises_own T.exC T.tyC, q1 d (I1.hok.fresh M.dbig)⟩
  · by_cases hb : b = e
    · have q' : G'.get? b = some o := q
      rw [hb, ge] at q'; cases q'
    · exact (gk b hb).symm.trans q
  · rw [upd_ne (Ne.symm M.dne)]
    exact I1.hok.fresh M.new
/-- raise C(e) -/
def tRaiseE (C : Addr) (at_ : Str) (W : WX) (ta : TA) : TS := fun _ σ H => tMkE C at_ ta σ H fun cls d H' => W cls d σ H'
theorem ps_raiseE {a : Expr} {ta : TA} {W : WX} {p pos pos2 : Pos} {k : Nat} (hc : X.calm = true) (T : ErrTxt X.K X.mg cl at_ qn C fI) (IO : InitOk X.K at_ C fI) (hr : Room k X.A) (tk : Takes X W) (ha : PA X [a] ta) (hg : Gl X cl := by rfl) (hdb : (cl == ("__debug__" : Str)) = false := by decide)
    (he : starEach (a :: []) X.env = (false, eval a X.env) :: starEach [] X.env := by rfl) (hpl : (backTo pos (starEach [] X.env)).any (·.1) = false := by rfl) :
    PS X (.Raise (some (.Call (.Name cl p) [a] [] pos)) none pos2) (tRaiseE C at_ W ta) := ps_raise hc tk (pmk_err T IO hr ha hg hdb he hpl)
/-- a caught error, kept: its class, its own dict -/
def ErG (C d e : Addr) : HO := .ext fun h => ∃ (oe : Obj) (vs : Array Value), h.get? e = some oe ∧ oe.cls = .ref C ∧ oe.dict = some d ∧ oe.data = .fields vs
def ErH (cls : Value) (d : Option Addr) (e : Addr) : HO := .ext fun h => ∃ (oe : Obj) (vs : Array Value), h.get? e = some oe ∧ oe.cls = cls ∧ oe.dict = d ∧ oe.data = .fields vs
theorem erH_eq {C d e : Addr} : ErH (.ref C) (some d) e = ErG C d e := rfl
end
/-- what the clause 'except x as n' wishes, where the error is kept behind the suite -/
def wAsK (K : PySem.W.Frag) (c : Value) (i : Nat) (ts : Addr → Value → Option Addr → TS) (Wout : WX) (D : Ends) : WX := fun cls d σ H =>
  ∃ b, PySem.W.exmOne K cls c = some b ∧ (b = true → ∀ a, H a = none → ts a cls d { nx := fun σ' H' => D.nx (σ'.set i none) (upd H' a (ErH cls d a)), rt := fun v H' => D.rt v (upd H' a (ErH cls d a)), bk := fun σ' H' => D.bk (σ'.set i none) (upd H' a (ErH cls d a)), ct := fun σ' H' => D.ct (σ'.set i none) (upd H' a (ErH cls d a)) } (σ.set i (some (.ref a))) H) ∧
    (b = false → Wout cls d σ H)
section
variable {X : Cx} {pins : List (Addr × Obj)} {σ : L2.St} {H : Hp} {s : Shared}
/-- an object that is new since the entry and was not tracked is tracked -/
theorem Inv.track {a : Addr} {oe : Obj} {vs : Array Value} {cls : Value} {d : Option Addr} (I : Inv X pins σ H s) (e : s.heap.get? a = some oe) (hz : Zc cls d oe) (hd : oe.data = .fields vs) (na : H a = none) (n0 : X.s_0.heap.get? a = none) (nL : a ≠ X.env.locals) (np : ∀ p ∈ X.pn ++ pins, p.1 ≠ a) :
    Inv X pins σ (upd H a (ErH cls d a)) s := by
  have ba : ∀ b o, X.s_0.heap.get? b = some o → b ≠ a := fun b o q z => by
    rw [z, n0] at q
    cases q
  have ht : ∀ b u, H b = some u → b ≠ a := fun b u q z => by
    rw [z, na] at q
    cases q
  have cne : ∀ x c, X.env.cells.lookup x = some c → c ≠ a := fun x c q z => by
    obtain ⟨v, o, ho, hv⟩ := I.cell x c q
    rw [z, e] at ho
    cases ho
    rw [hd] at hv
    cases hv
  refine ⟨I.ok, I.os, I.bare, ⟨I.base.keep, I.base.slot, fun b o q n hx => ?_, I.base.there, fun b xs q => ?_, fun b o u q => ?_, fun b ps q => ?_⟩, I.loc, I.cell, ?_, fun x c q => ?_, fun p hp => ?_, fun b u q => ?_, I.len⟩
  · rw [upd_ne (ba b o q)]
    exact I.base.free b o q n hx
  · have q' := I.base.tups b xs q
    rw [upd_ne (ht _ _ q')]
    exact q'
  · have q' := I.base.frzs b o u q
    rw [upd_ne (ht _ _ q')]
    exact q'
  · obtain ⟨m, q'⟩ := I.base.tbls b ps q
    exact ⟨m, by rw [upd_ne (ht _ _ q')]; exact q'⟩
  · rw [upd_ne (Ne.symm nL)]
    exact I.free
  · rw [upd_ne (cne x c q)]
    exact I.freeC x c q
  · obtain ⟨p1, p2, p3⟩ := I.pin p hp
    exact ⟨p1, by rw [upd_ne (np p hp)]; exact p2, p3⟩
  · by_cases hb : b = a
    · subst hb
      rw [upd_same] at q
      cases q
      exact ⟨⟨oe, vs, e, hz.1, hz.2, hd⟩, ⟨oe, e⟩, fun _ _ ⟨o, v, q, r⟩ k => ⟨o, v, k o q, r⟩⟩
    · rw [upd_ne hb] at q
      exact (I.hok b u q).stay (fun c v _ q => q) (fun c q => by rw [upd_ne (ht _ _ q)]; exact q) fun c xs q => by rw [upd_ne (ht _ _ q)]; exact q
end
section
variable {X : Cx} {x n : Str} {c : Value} {i : Nat} {body suite : List Stmt} {b₀ : Stmt} {npq pos pos' : Pos} {tb : WX → TS} {ts : Addr → Value → Option Addr → TS} {Wout : WX}
theorem ps_try_keep (hs : X.stack = X.env :: X.outer) (hf : X.env.frame = some X.env.locals) (hex : X.ex = []) (hN : X.N.Nodup) (hi : X.N[i]? = some n) (hln : X.env.kindOf n = some .local) (hc : Names X x c) (tk : Takes X Wout)
    (hb : ∀ (W : WX) (pn : List (Addr × Obj)) (xe : Value → Shared → Prop), Takes (X.tr pn xe) W → PassesOwn (model X.prog X.w) X.A X.env xe → PSs (X.tr pn xe) body (tb W))
    (hsu : ∀ (a : Addr) (oe : Obj) (cls : Value) (d : Option Addr) (pn : List (Addr × Obj)), Zc cls d oe → (∃ vs, oe.data = .fields vs) → PSs (X.suite a ((a, oe) :: pn)) (b₀ :: suite) (ts a cls d)) :
    PS X (.Try body [.ExceptHandler (some (.Name x npq)) (some n) (b₀ :: suite) pos'] [] [] pos) (fun D σ H => tb (wAsK X.K c i ts Wout D) D σ H) := by
  refine ⟨fun pins s σ H D I h => ?_⟩
  have ok := I.ok
  have hfr : X.A.frames = some (X.env :: X.outer) := by rw [ok.frames, hs]
  have hloc : Loc X.env.scope n := .inl hln
  refine wpAny_Try_except ?_
  refine wpAny_mono ((hb (wAsK X.K c i ts Wout D) (X.pn ++ pins) (fun e s₁ => wpAny (model X.prog X.w) X.A (noteFrame e X.env) (fun _ s₂ => wpAny (model X.prog X.w) X.A (setFlight e none) (fun _ s₃ =>
    wpAny (model X.prog X.w) X.A (handleBy e X.env [.ExceptHandler (some (.Name x npq)) (some n) (b₀ :: suite) pos']) (SP X pins D) X.xe s₃) X.xe s₂) X.xe s₁) (fun u s' xx => ?_) PassesOwn.looking).run [] s σ H D (I.toTry _) h) (fun f s1 hsp => ?_) (fun e s1 he => he)
  · obtain ⟨a, B, sI, pins', σ', H', cls, d, rfl, J', nb, up, sky, na, os, ag, b, hb1, hyes, hno⟩ := xx
    have J : Inv X pins σ' H' sI := J'.ofTry ok
    have sky' : Sky B (X.env :: X.outer) a (Zc cls d) X.env.locals s'.heap := by rw [← hs]; exact sky
    show wpAny (model X.prog X.w) X.A (noteFrame (.ref a) X.env) _ _ _
    refine Sky.land Zc.steady hfr hf sky' fun h3 fl3 up3 => ?_
    have J3 : Inv X pins σ' H' { s' with heap := h3 } := J.landed nb fl3.1 (up.trans up3) os ag
    obtain ⟨oe3, vs3, he3, hz3, hd3⟩ := fl3.there
    have notFr : ∀ {h : Heap} {o : Obj} {vs : Array Value}, h.FunFrames B (X.env :: X.outer) → h.get? a = some o → o.data = .fields vs → a ∉ frs (X.env :: X.outer) := fun {h o vs} ff e dd hm => by
      obtain ⟨_, o', e', hnf⟩ := ff.mem hm
      rw [e] at e'; cases e'
      exact hnf _ dd
    have nfr := notFr fl3.2.2.1 he3 hd3
    have nL : a ≠ X.env.locals := fun z => nfr (List.mem_filterMap.mpr ⟨X.env, List.mem_cons_self, by rw [hf, z]⟩)
    have nF : a ∉ X.fs := fun hm => by
      obtain ⟨e, he, q⟩ := List.mem_filterMap.mp hm
      exact nfr (List.mem_filterMap.mpr ⟨e, List.mem_cons_of_mem _ he, q⟩)
    have aI : sI.heap.get? a = none := by
      cases q : sI.heap.get? a with
      | none => rfl
      | some o =>
        have z := nb a o q (by rw [hs]; exact nfr)
        rw [fl3.2.1] at z
        cases z
    have n0 : X.s_0.heap.get? a = none := by
      cases q : X.s_0.heap.get? a with
      | none => rfl
      | some o =>
        obtain ⟨o', z⟩ := J.base.there a o q (by rw [hex]; exact fun z => nomatch z)
        rw [aI] at z
        cases z
    have np : ∀ p ∈ X.pn ++ pins, p.1 ≠ a := fun p hp z => by
      have q := (J.pin p hp).1
      rw [z, aI] at q
      cases q
    have S3 := J3.suite he3 hd3 na nL nF
    refine wpAny_handleBy_cons (codeAny_handlers_test ?_) (by intro q; cases q)
    have LT : PySem.W.Looks (model X.prog X.w) h3 (typeOf (.ref a)) cls := fun A Q E s k q => wpAny_typeOf_ref (k _ _ he3) (by rw [hz3.1]; exact q)
    have LM := PySem.W.exm_one (M := model X.prog X.w) (J3.kIn) LT hb1
    have test : ∀ {Q : Value → Shared → Prop} {E : Value → Shared → Prop}, Q c { s' with heap := h3 } → wpAny (model X.prog X.w) (X.A.mark (some (.ref a))) (eval (.Name x npq) X.env) Q E { s' with heap := h3 } := fun {Q E} q => by
      obtain ⟨hg, hdbg, hm | ⟨hm, hv, hnn⟩⟩ := hc
      · exact ld_glob (X := X.suite a ((a, oe3) :: (X.pn ++ pins))) S3 hg hm q hdbg
      · exact ld_blt (X := X.suite a ((a, oe3) :: (X.pn ++ pins))) S3 hg hm hv q hnn hdbg
    refine test (LM.here ?_)
    cases b with
    | true =>
      refine codeAny_handlers_suite_as ?_
      refine HandSPX.lands_againZ fl3 fun h4 fl4 up4 => ?_
      have J4 : Inv X pins σ' H' { s' with heap := h4 } := J.landed nb fl4.1 ((up.trans up3).trans up4) os ag
      obtain ⟨oe4, vs4, he4, hz4, hd4⟩ := fl4.there
      have S4 := J4.suite he4 hd4 na nL nF
      refine store_ok (X := X.suite a ((a, oe4) :: (X.pn ++ pins))) (v := .ref a) S4 hN hi hloc rfl (fun s5 S5 => ?_) (.inr hln)
      refine wpAny_mono ((hsu a oe4 cls d (X.pn ++ pins) hz4 ⟨_, hd4⟩).run [] s5 _ H' _ S5 (hyes rfl a na)) (fun f s6 hsp => ?_) (fun _ _ z => False.elim z)
      have end_ : ∀ {σ6 : L2.St} {H6 : Hp} {Q : Shared → Prop}, Inv (X.suite a ((a, oe4) :: (X.pn ++ pins))) [] σ6 H6 s6 → (∀ s7, Inv X pins (σ6.set i none) (upd H6 a (ErH cls d a)) s7 → Q s7) →
          wpAny (model X.prog X.w) X.A (do bindName X.env n .none; unbindBehindTheSuite X.env n pos') (fun _ s7 => Q s7) X.xe s6 := fun {σ6 H6 Q} S6 hq => by
        obtain ⟨p1, p2, _⟩ := S6.pin (a, oe4) (by simp)
        exact gone_ok (Inv.track (S6.unsuite ok) p1 hz4 hd4 p2 n0 nL np) hN hi hln hq
      cases f with
      | next =>
        obtain ⟨σ6, H6, S6, q6⟩ := hsp
        exact end_ S6 fun s7 J7 => ⟨_, _, J7, q6⟩
      | brk =>
        obtain ⟨σ6, H6, S6, q6⟩ := hsp
        exact end_ S6 fun s7 J7 => ⟨_, _, J7, q6⟩
      | cont =>
        obtain ⟨σ6, H6, S6, q6⟩ := hsp
        exact end_ S6 fun s7 J7 => ⟨_, _, J7, q6⟩
      | ret u =>
        obtain ⟨v6, σ6, H6, S6, r6, q6⟩ := hsp
        exact end_ S6 fun s7 J7 => ⟨_, _, _, J7, r6, q6⟩
    | false =>
      show wpAny _ X.A (handleBy (.ref a) X.env []) _ _ _
      refine wpAny_handleBy_nil ?_
      obtain ⟨k1, k2, k3, oe, vs, T, oT, ts', he, hz, hd, h1, hr⟩ := id fl3
      unfold PySem.passOn
      refine wpAny_bind (wpAny_field he hd h1 ?_)
      rw [if_neg (show ¬ ((Value.ref T == Value.none) = true) from by simp)]
      have fin : wpAny (model X.prog X.w) X.A (setFlight (.ref a) X.env.frame) (fun _ s4 => wpAny (model X.prog X.w) X.A (throw (.ref a) : Sem Flow) (SP X pins D) X.xe s4) X.xe { s' with heap := h3 } := by
        rw [hf]
        refine HandSPX.setFlight_upZ fl3 fun h4 hh4 up4 => wpAny_throw (tk _ _ ?_)
        exact ⟨a, B, sI, pins, σ', H', cls, d, rfl, J, nb, (up.trans up3).trans up4, .inr (.inr (by rw [hs]; exact hh4)), na, os, ag, hno rfl⟩
      first
        | exact wpAny_bind (wpAny_pure (wpAny_bind fin))
        | exact wpAny_bind fin
  · cases f with
    | next =>
      obtain ⟨σ', H', J', q⟩ := hsp
      exact wpAny_execs_nil ⟨σ', H', J'.ofTry ok, q⟩
    | brk =>
      obtain ⟨σ', H', J', q⟩ := hsp
      exact ⟨σ', H', J'.ofTry ok, q⟩
    | cont =>
      obtain ⟨σ', H', J', q⟩ := hsp
      exact ⟨σ', H', J'.ofTry ok, q⟩
    | ret u =>
      obtain ⟨v, σ', H', J', r, q⟩ := hsp
      exact ⟨v, σ', H', J'.ofTry ok, r, q⟩
end
end Sk

/-! A kept error: its field, its class. -/
namespace Sk
open PySem PySem.Spec PyProof.Rows L2 Evl PySem.SkE
def IsErG (H : Hp) (C : Addr) (at_ : Str) (e : Addr) (v : V) : Prop := ∃ d, H e = some (ErG C d e) ∧ H d = some (.xd [(at_, v)])
section
variable {X : Cx} {pins : List (Addr × Obj)} {σ : L2.St} {H : Hp} {s : Shared} {cl at_ qn : Str} {C fI : Addr}
theorem IsErG.inst (I : Inv X pins σ H s) {e : Addr} {v : V} (h : IsErG H C at_ e v) : ∃ oe od, PySem.W.InstAt s.heap e oe C (some od) ∧ ∃ u, RelV v u ∧ PySem.W.lookIn at_ od = some (some u) := by
  obtain ⟨d, h1, h2⟩ := h
  obtain ⟨⟨oe, vs, g, c, dd, da⟩, _⟩ := (show ObjOk X.prog X.w H s.heap e (ErG C d e) from I.hok _ _ h1)
  obtain ⟨mA, hns, hr⟩ := (show ObjOk X.prog X.w H s.heap d (.xd [(at_, v)]) from I.hok _ _ h2)
  obtain ⟨od, ho, hl⟩ := lookIn_ns hns
  have l : List.lookup at_ [(at_, v)] = some v := by simp [List.lookup]
  obtain ⟨u, hu, ru⟩ := RelO.some_of (v := v) (o := mA at_) (by rw [← l]; exact hr at_)
  refine ⟨oe, od, ⟨g, c, by unfold PySem.W.notCls; rw [da] <;> rfl, by rw [dd]; exact ho⟩, u, ru, by rw [hl, hu]⟩
/-- e.attr -/
def tErgFld (C : Addr) (at_ : Str) (te : TE) : TE := fun σ H Q => te σ H fun x H1 => ∃ e v, x = .ref e ∧ IsErG H1 C at_ e v ∧ Q v H1
theorem pe_ergFld {e : Expr} {te : TE} {pos : Pos} (T : ErrTxt X.K X.mg cl at_ qn C fI) (he : PE X e te) (hb : attributeBase e at_ X.env (eval e X.env) = eval e X.env := by rfl) : PE X (.Attribute e at_ pos) (tErgFld C at_ te) := by
  refine ⟨fun pins s σ H Q I h => attr_of hb (thn (he.run pins s σ H _ I h) fun u s1 hh => ?_)⟩
  obtain ⟨x, H1, I1, rx, e0, v, ex, hi, q⟩ := hh
  subst ex
  cases (show u = Value.ref e0 from rx)
  obtain ⟨oe, od, J, u, ru, hl⟩ := hi.inst I1
  exact HandSPX.exc_get I1.kIn J T.ga T.gg T.exC (PySem.W.findObj_own T.hdC T.noN rfl hl) (handed_of ru) ⟨v, H1, I1.tok _, ru, q⟩
/-- isinstance(e, class) -/
theorem call_isErG (T : ErrTxt X.K X.mg cl at_ qn C fI) : CallR X (.builtin "isinstance") (fun xs H Q => ∃ (e : Addr) (v c : V) (u : Value) (b : Bool), xs = [.ref e, c] ∧ ClsV c u ∧ IsErG H C at_ e v ∧ PySem.W.kitOne X.K (.ref C) u = some b ∧ Q (.bl b) H) := by
  intro pins s σ H xs us Q I r h
  obtain ⟨e, v, c, u, b, rfl, k, hi, hk, q⟩ := h
  obtain ⟨u1, u2, rfl, r1, r2⟩ := vals2 r
  cases (show u1 = Value.ref e from r1)
  have e2 := k.eq r2
  subst e2
  obtain ⟨oe, od, J, _⟩ := hi.inst I
  exact PySem.W.kia_one (PySem.W.kitx_exc T.cl_ T.ga T.gg T.exC T.hCl T.hGt T.hTk T.hOb) I.kIn J hk (fun z => nomatch z) fun tk => ⟨.bl b, H, I.tok tk, rfl, q⟩
/-- isinstance(e, (class, ..)) -/
theorem call_isErGT (T : ErrTxt X.K X.mg cl at_ qn C fI) : CallR X (.builtin "isinstance") (fun xs H Q => ∃ (e t : Addr) (v : V) (cs : List V) (us : List Value) (b : Bool), xs = [.ref e, .ref t] ∧ H t = some (.tup cs) ∧ Paired ClsV cs us ∧ IsErG H C at_ e v ∧ PySem.W.kitAny X.K (.ref C) us = some b ∧ Q (.bl b) H) := by
  intro pins s σ H xs us Q I r h
  obtain ⟨e, t, v, cs, cu, b, rfl, ht, hc, hi, hk, q⟩ := h
  obtain ⟨u1, u2, rfl, r1, r2⟩ := vals2 r
  cases (show u1 = Value.ref e from r1)
  cases (show u2 = Value.ref t from r2)
  obtain ⟨oe, od, J, _⟩ := hi.inst I
  obtain ⟨_, its, rv, o, h1, h2, n, h3⟩ := (show ObjOk X.prog X.w H s.heap t (.tup cs) from I.hok t _ ht)
  have e3 := ClsV.all hc rv
  subst e3
  obtain ⟨oc, oq, dt, sl⟩ := o
  cases (show oc = _ from h2)
  cases (show dt = _ from h3)
  exact PySem.W.kia_tup (PySem.W.kitx_exc T.cl_ T.ga T.gg T.exC T.hCl T.hGt T.hTk T.hOb) I.kIn J h1 hk (fun z => nomatch z) fun tk => ⟨.bl b, H, I.tok tk, rfl, q⟩
end
end Sk

/-! A language asked: the text with a number. -/
namespace Sk
open PySem PySem.Spec PyProof.Rows L2 Evl Lg PySem.SkE
abbrev sLGet : Stmt := inClass (topS 62) 13
theorem scWhole : FnScope ["thing"] ["thing"] (defScope sWhole) := ⟨rfl, rfl, rfl, by decide +kernel, rfl, by decide +kernel, by decide +kernel⟩
abbrev NGet : List Str := ["self", "number", "signs", "at", "left", "sign", "later"]
theorem scLGet : FnScope NGet ["self", "number"] (defScope sLGet) := ⟨rfl, rfl, rfl, by decide +kernel, rfl, by decide +kernel, by decide +kernel⟩
/-- whether a thing is a whole number -/
def WhOf (K : PySem.W.Frag) (H : Hp) (v : V) (b : Bool) : Prop := (∃ i, v = .int i ∧ b = true) ∨ (∃ c, v = .bl c ∧ b = false) ∨ ∃ t, TyX K H v t ∧ PySem.W.kitOne K t (.type "int") = some false ∧ b = false
def spWh (K : PySem.W.Frag) : Sp := fun vs H Q _ => ∃ v b, vs = [v] ∧ WhOf K H v b ∧ Q (.bl b) H
def spGetG (K : PySem.W.Frag) (C W : Addr) : Sp := fun vs H Q E => ∃ (p : Addr) (G : List Lg.Row) (rk : Nat → Nat), LgG C H p G rk ∧ Aut G rk ∧ (∀ r ∈ G, r.2.length ≤ 100000) ∧ (∀ w ∈ wds G rk 0, w.length ≤ 1000000) ∧
  ((∃ n : Nat, vs = [.ref p, .int (n : Int)] ∧ ∃ w, (wds G rk 0)[n]? = some w ∧ ∀ H', Ex H H' → Q (.str (tx w)) H') ∨
   ∃ v b, vs = [.ref p, v] ∧ WhOf K H v b ∧ (b = true → ∀ i, v = .int i → ¬ (0 ≤ i ∧ i < (many G rk 0 : Int))) ∧ ∀ H' dd, Ex H H' → H' dd = none → E (.ref W) (some dd) (upd H' dd (.xd [("count", .int (many G rk 0 : Int))])))
section
variable {P : Program} {w : World} {K : PySem.W.Frag} {mg : Str → Option Value} {base : Heap} {f fB C W fI : Addr} {fd dB : FuncData} {qn : Str}
theorem ok_wh {k : Nat} (F : Fun K "is_whole" "is_whole" sWhole f fd) (B : Blt mg) : FnOk P w K mg base CX0 (k + 1) f fd ["thing"] (spWh K) := by
  refine F.ok scWhole (fun vs H Q E h => ?_) (fun cdv A outer s H vs Q E hr h => ?_)
  · obtain ⟨_, _, rfl, _⟩ := h
    rfl
  have nd := scWhole.nd
  obtain ⟨v, b, rfl, hw, q⟩ := h
  refine ⟨_, pss_one (ps_ret (pe_and (pe_callB call_isi rfl B.isi bt_isi (pa_cons (pv 0) (pa_cons (pe_bltn (v := .ty "int") rfl B.int bt_int rfl) pa_nil))) (pe_one (pe_not (pe_callB call_isi rfl B.isi bt_isi (pa_cons (pv 0) (pa_cons (pe_bltn (v := .ty "bool") rfl B.bool bt_bool rfl) pa_nil))))))), ?_⟩
  rcases hw with ⟨i, rfl, rfl⟩ | ⟨c, rfl, rfl⟩ | ⟨t, ht, hk, rfl⟩
  · exact ⟨_, rfl, _, .ty "int", _, _, true, rfl, .ty _, (Dq.int i).ty, kii, _, rfl, iteT ⟨_, rfl, _, .ty "bool", _, _, false, rfl, .ty _, (Dq.int i).ty, kib, _, rfl, q⟩⟩
  · exact ⟨_, rfl, _, .ty "int", _, _, true, rfl, .ty _, (Dq.bl c).ty, kbi, _, rfl, iteT ⟨_, rfl, _, .ty "bool", _, _, true, rfl, .ty _, (Dq.bl c).ty, kbb, _, rfl, q⟩⟩
  · exact ⟨_, rfl, _, .ty "int", _, _, false, rfl, .ty _, ht, hk, _, rfl, iteF q⟩
theorem ok_getG (F : Fun K "__getitem__" "Language.__getitem__" sLGet f fd) (B : Blt mg) (T : LgT K mg C) (Tw : ErrTxt K mg "NoSuchText" "count" qn W fI) (Wh : Lt P w K mg base fB dB "is_whole" ["thing"] 1 (spWh K)) : FnOk P w K mg base (L2.CX P w) 5 f fd ["self", "number"] (spGetG K C W) := by
  refine F.okX scLGet (fun vs H Q E h => ?_) (fun cdv A outer s H vs Q E hr h => ?_)
  · obtain ⟨_, _, _, _, _, _, _, ⟨_, rfl, _⟩ | ⟨_, _, rfl, _⟩⟩ := h <;> rfl
  have nd := scLGet.nd
  have hr1 : Room 1 _ := hr.mono (by decide)
  obtain ⟨p, G, rk, ⟨dx, fs, l, m, c, g1, g2, g3, g4, g5, g6, g7, g8, g9⟩, au, lr, lw, h⟩ := h
  obtain ⟨ss, hl, hss⟩ := g3
  rcases h with ⟨n, rfl, w0, hw, q⟩ | ⟨v, b, rfl, hw, nb, q⟩
  · have ln : n < many G rk 0 := (List.getElem?_eq_some_iff.mp hw).1
    have lw0 := lw w0 (List.mem_of_getElem? hw)
    refine ⟨_, pss_cons (ps_if (PW.pt (pw_or (pt_not (pt_val (pe_call Wh.g hr1 rfl Wh.m Wh.k Wh.b .nil pass0 (pa_cons (pv 1) pa_nil)))) (pw_or1 (pt_not (pt_chain op_le op_lt pe_int (pv 1) (pe_fld (pv 0) rfl)))))) (pss_one ps_never) pss_nil)
      (PSs.nox (pss_cons (ps_set (i := 2) nd rfl (Or.inl rfl) (pe_lst pa_nil))
      (pss_cons (ps_set (i := 3) nd rfl (Or.inl rfl) pe_int)
      (pss_cons (ps_set (i := 4) nd rfl (Or.inl rfl) (pv 1))
      (pss_cons (ps_while PassesOwn.never (pt_not (PW.pt (pw_and (pt_cmpR op_eq (pv 4) pe_int (nomark _)) (pw_and1 (pt_val (pe_ix ix_tup (pe_ix ix_list (pe_fld (pv 0) rfl) (pv 3) (fun _ _ => rfl)) pe_int (fun _ _ => rfl)))))))
        (pss_cons (ps_set (i := 4) nd rfl (Or.inl rfl) (pe_op op_sub (pv 4) (pe_callTy call_int1 rfl B.int bt_int (pa_cons (pe_ix ix_tup (pe_ix ix_list (pe_fld (pv 0) rfl) (pv 3) (fun _ _ => rfl)) pe_int (fun _ _ => rfl)) pa_nil))))
        (pss_cons (ps_for PassesOwn.never rfl (pi_tup (pe_ix ix_tup (pe_ix ix_list (pe_fld (pv 0) rfl) (pv 3) (fun _ _ => rfl)) pe_int (fun _ _ => rfl))) (pg_tup rfl (pgs_cons (pg_name (i := 5) nd rfl (Or.inl rfl)) (pgs_cons (pg_name (i := 6) nd rfl (Or.inl rfl)) pgs_nil)))
          (pss_cons (ps_if (pt_cmpR op_lt (pv 4) (pe_ix ix_list (pe_fld (pv 0) rfl) (pv 6) (fun _ _ => rfl)) (nomark _)) (pss_one ps_break) pss_nil)
          (pss_one (ps_set (i := 4) nd rfl (Or.inl rfl) (pe_op op_sub (pv 4) (pe_ix ix_list (pe_fld (pv 0) rfl) (pv 6) (fun _ _ => rfl)))))))
        (pss_cons (ps_expr (pe_bm PySem.F.plainAttrs_list PySem.F.slot_list_append PySem.F.type_list_append mt_append (pv 2) (pa_cons (pv 5) pa_nil)))
        (pss_one (ps_set (i := 3) nd rfl (Or.inl rfl) (pv 6)))))))
      (pss_one (ps_ret (pe_join pe_str (pv 2))))))))), ?_⟩
    have at1 : ∀ {r : Lg.Row} {i : Nat}, G[i]? = some r → ∃ s0 t qs, atI (ss.map V.ref) ((i : Nat) : Int) = some (.ref s0) ∧ H s0 = some (.tup [.bl r.1, .ref t]) ∧ Tq H t (qs.map V.ref) ∧ Paired (StpAt H) qs r.2 := fun {r i} hG => by
      obtain ⟨s0, hs0, t, qs, r1, r2, r3⟩ := paired_at hss hG
      exact ⟨s0, t, qs, atI_nat (by rw [List.getElem?_map, hs0]; rfl), r1, r2, r3⟩
    refine ⟨_, rfl, .int (n : Int), true, rfl, .inl ⟨_, rfl, rfl⟩, true, rfl, iteF ?_⟩
    refine ⟨_, rfl, _, _, rfl, rfl, _, rfl, (if_pos (decide_eq_true (by omega))).mpr ⟨_, rfl, p, C, dx, _, _, rfl, g1, T.cl, T.n4, g8, _, _, rfl, rfl, _, rfl, ?_⟩⟩
    rw [decide_eq_true (by omega)]
    refine iteF ⟨nle' (by show 0 ≤ 1000; decide), fun sl nsl => ?_⟩
    have L0 := (Lv.nil (Ex.refl H)).new (o := HO.lst []) nsl
    generalize upd H sl (HO.lst []) = G0 at L0 ⊢
    refine ⟨_, rfl, ?_⟩
    refine ⟨fun mm σ H' => ∃ (i n' : Nat) (u w' : List Nat) (y5 y6 : Option V), mm = rk i ∧ σ = [some (.ref p), some (.int (n : Int)), some (.ref sl), some (.int (i : Int)), some (.int (n' : Int)), y5, y6] ∧ Lv H H' [(sl, .lst (u.map fun c => V.str (one c)))] ∧ i < G.length ∧ (wds G rk i)[n']? = some w' ∧ w0 = u ++ w',
      ⟨_, 0, n, [], w0, none, none, rfl, rfl, L0, au.ne, hw, rfl⟩, ?_⟩
    rintro mm σ H' ⟨i, n', u, w', y5, y6, rfl, rfl, L, li, hw', rfl⟩
    have hG : G[i]? = some G[i] := List.getElem?_eq_getElem li
    generalize G[i] = r at hG
    obtain ⟨s0, t, qs, a1, r1, r2, r3⟩ := at1 hG
    have lqs : qs.length = r.2.length := paired_len r3
    have e1 := L.ex
    have G1 := e1 _ _ g1
    have luw : u.length + w'.length ≤ 1000000 := by rw [← List.length_append]; exact lw0
    refine ⟨_, rfl, rfl, _, rfl, ?_⟩
    -- the end of the loop
    have fin : (n' = 0 ∧ r.1 = true) → w' = [] := fun ⟨z1, z2⟩ => by
      rw [z1, wds_first au hG z2] at hw'
      injection hw' with hw'
      exact hw'.symm
    by_cases z : n' = 0 ∧ r.1 = true
    · rw [show (n' : Int) = 0 by omega]
      refine dec_yes rfl ⟨_, rfl, p, C, dx, _, _, rfl, G1, T.cl, T.n1, g2, _, rfl, l, _, _, .ref s0, rfl, rfl, SqL.of (e1 _ _ hl), a1, s0, _, 0, _, rfl, rfl, SqT.of (e1 _ _ r1), atI_nat (j := 0) rfl, r.1, rfl, ?_⟩
      rw [z.2]
      have x1 : H' sl = some (.lst ((u.map one).map V.str)) := by rw [List.map_map]; exact L.get 0 rfl
      have x2 : u ++ w' = u := by rw [fin z, List.append_nil]
      have e0 : (Str.ofString "").length = 0 := rfl
      refine iteF ⟨⟨_, rfl⟩, _, rfl, _, sl, u.map one, rfl, rfl, .inl (SqL.of x1), by rw [sum_one, e0]; show u.length + _ * 0 ≤ 16777216; omega, ?_⟩
      rw [TL.join_eq]
      have e : Str.join (Str.ofString "") (u.map one) = tx u := join_tx u
      rw [e]
      rw [x2] at q
      exact q H' e1
    -- a further turn
    have pk : (pick (many G rk) r.2 (n' - (if r.1 = true then 1 else 0))).bind (fun q => ((wds G rk q.2.1)[q.2.2]?).map (q.1 :: ·)) = some w' := by rw [← wds_at au hG z]; exact hw'
    obtain ⟨⟨cc, j, mm⟩, hpk, hmm⟩ := Option.bind_eq_some_iff.mp pk
    obtain ⟨w2, hw2, rfl⟩ := Option.map_eq_some_iff.mp hmm
    refine no3 (fun hb k => ⟨_, rfl, p, C, dx, _, _, rfl, G1, T.cl, T.n1, g2, _, rfl, l, _, _, .ref s0, rfl, rfl, SqL.of (e1 _ _ hl), a1, s0, _, 0, _, rfl, rfl, SqT.of (e1 _ _ r1), atI_nat (j := 0) rfl, r.1, rfl, ?_⟩) ?_
    · have : r.1 = false := by
        cases e : r.1 with
        | false => rfl
        | true =>
          have hb' := of_decide_eq_true hb
          injection hb' with hb'
          exact absurd ⟨by omega, e⟩ z
      rw [this]
      exact k
    refine iteT ⟨fun σ' H'' => ∃ m', m' < rk i ∧ ∃ (i n' : Nat) (u' w' : List Nat) (y5 y6 : Option V), m' = rk i ∧ σ' = [some (.ref p), some (.int (n : Int)), some (.ref sl), some (.int (i : Int)), some (.int (n' : Int)), y5, y6] ∧ Lv H H'' [(sl, .lst (u'.map fun c => V.str (one c)))] ∧ i < G.length ∧ (wds G rk i)[n']? = some w' ∧ u ++ (cc :: w2) = u' ++ w', fun _ _ y => y, ?_⟩
    have hj : (cc, j) ∈ r.2 := by
      have : ∀ (l : List (Nat × Nat)) (k : Nat), pick (many G rk) l k = some (cc, j, mm) → (cc, j) ∈ l := fun l => by
        induction l with
        | nil => intro k h; cases h
        | cons q l ih =>
          intro k h
          unfold pick at h
          by_cases y : k < many G rk q.2
          · rw [if_pos y] at h; cases h; exact List.mem_cons_self ..
          · rw [if_neg y] at h; exact List.mem_cons_of_mem _ (ih _ h)
      exact this _ _ hpk
    have rj := au.rd i r hG _ hj
    have jG := au.tgt i r hG _ hj
    refine ⟨_, rfl, _, rfl, p, C, dx, _, _, rfl, G1, T.cl, T.n1, g2, _, rfl, l, _, _, .ref s0, rfl, rfl, SqL.of (e1 _ _ hl), a1, s0, _, 0, _, rfl, rfl, SqT.of (e1 _ _ r1), atI_nat (j := 0) rfl, .inr ⟨r.1, rfl, _, _, rfl, rfl, ?_⟩⟩
    have sub1 : (n' : Int) - (if r.1 = true then 1 else 0) = ((n' - (if r.1 = true then 1 else 0) : Nat) : Int) := by
      by_cases e : r.1 = true
      · rw [if_pos e, if_pos e]
        have : n' ≠ 0 := fun y => z ⟨y, e⟩
        omega
      · rw [if_neg e, if_neg e]; omega
    rw [show (fun i j : Int => V.int (i - j)) (n' : Int) (if r.1 = true then 1 else 0) = V.int ((n' - (if r.1 = true then 1 else 0) : Nat) : Int) from congrArg V.int sub1]
    generalize n' - (if r.1 = true then 1 else 0) = k0 at hpk
    refine ⟨_, rfl, p, C, dx, _, _, rfl, G1, T.cl, T.n1, g2, _, rfl, l, _, _, .ref s0, rfl, rfl, SqL.of (e1 _ _ hl), a1, s0, _, 1, _, rfl, rfl, SqT.of (e1 _ _ r1), atI_nat (j := 1) rfl, t, rfl, ⟨_, sq_mono' e1 r2.sq⟩, ?_⟩
    have rI : ∀ (a : Nat), a ∈ r.2.map (·.2) → a < G.length := fun a m => by
      obtain ⟨q, mq, rfl⟩ := List.mem_map.mp m
      exact au.tgt i r hG q mq
    refine for_tup (xs := qs.map V.ref) (fun k σ H2 => ∃ (lf : Nat) (z5 z6 : Option V), σ = [some (.ref p), some (.int (n : Int)), some (.ref sl), some (.int (i : Int)), some (.int (lf : Int)), z5, z6] ∧ H2 = H' ∧ pick (many G rk) (r.2.drop k) lf = some (cc, j, mm)) ⟨k0, _, _, rfl, rfl, hpk⟩ (fun k σ H2 _ y => ?_) (fun k x σ H2 hx y => ?_) (fun σ H2 y => ?_)
    · obtain ⟨_, _, _, _, rfl, _⟩ := y
      exact sq_mono' e1 r2.sq
    · obtain ⟨lf, z5, z6, rfl, rfl, hp⟩ := y
      rw [List.getElem?_map] at hx
      obtain ⟨q0, hq0, rfl⟩ := Option.map_eq_some_iff.mp hx
      obtain ⟨⟨c0, j0⟩, hcj, hq⟩ := paired_atL r3 hq0
      have hq : H q0 = some (.tup [.str (one c0), .int (j0 : Int)]) := hq
      have dr : r.2.drop k = (c0, j0) :: r.2.drop (k + 1) := by
        obtain ⟨hi, e⟩ := List.getElem?_eq_some_iff.mp hcj
        rw [List.drop_eq_getElem_cons hi, e]
      rw [dr] at hp
      have j0G : j0 < G.length := rI j0 (List.mem_map.mpr ⟨(c0, j0), List.mem_of_getElem? hcj, rfl⟩)
      refine ⟨q0, _, rfl, SqT.of (e1 _ _ hq), rfl, _, _, rfl, _, _, rfl, rfl, ?_⟩
      refine ⟨_, rfl, _, rfl, p, C, dx, _, _, rfl, G1, T.cl, T.n3, g6, _, rfl, c, _, _, _, rfl, rfl, SqL.of (e1 _ _ g7), atI_nat (vL_at j0G), _, _, rfl, rfl, _, rfl, ?_⟩
      by_cases y : lf < many G rk j0
      · rw [decide_eq_true (by omega)]
        unfold pick at hp
        rw [if_pos y] at hp
        injection hp with hp
        injection hp with h1 hp
        injection hp with h2 h3
        subst h1
        subst h2
        subst h3
        refine iteT ⟨_, rfl, .inl ⟨rfl, _, SqL.of (L.get 0 rfl)⟩, _, rfl, sl, _, _, rfl, rfl, L.get 0 rfl, by rw [List.length_map, sizeLine_eq]; omega, _, rfl, rk j0, rj, j0, lf, u ++ [c0], w2, _, _, rfl, rfl, ?_, jG, hw2, by simp⟩
        have := L.mut 0 (a := sl) (HO.lst ((u.map fun c => V.str (one c)) ++ [V.str (one c0)])) rfl
        rw [List.map_append]
        exact this
      · rw [decide_eq_false (by omega)]
        unfold pick at hp
        rw [if_neg y] at hp
        refine iteF ⟨_, rfl, _, rfl, p, C, dx, _, _, rfl, G1, T.cl, T.n3, g6, _, rfl, c, _, _, _, rfl, rfl, SqL.of (e1 _ _ g7), atI_nat (vL_at j0G), _, _, rfl, rfl, lf - many G rk j0, some (.str (one c0)), some (.int (j0 : Int)), ?_, rfl, hp⟩
        show [some (V.ref p), some (.int (n : Int)), some (.ref sl), some (.int (i : Int)), some (V.int ((lf : Int) - (many G rk j0 : Int))), some (.str (one c0)), some (.int (j0 : Int))] = _
        rw [show (lf : Int) - (many G rk j0 : Int) = ((lf - many G rk j0 : Nat) : Int) by omega]
    · obtain ⟨lf, z5, z6, rfl, rfl, hp⟩ := y
      rw [List.length_map, lqs, List.drop_length] at hp
      cases hp
  · refine ⟨_, pss_cons (ps_if (PW.pt (pw_or (pt_not (pt_val (pe_call Wh.g hr1 rfl Wh.m Wh.k Wh.b .nil pass0 (pa_cons (pv 1) pa_nil)))) (pw_or1 (pt_not (pt_chain op_le op_lt pe_int (pv 1) (pe_fld (pv 0) rfl)))))) (pss_one (ps_raiseE rfl Tw (init_count Tw) hr (takes_of rfl rfl rfl rfl) (pa_cons (pe_fld (pv 0) rfl) pa_nil))) pss_nil)
      (pss_cons ps_never (pss_cons ps_never (pss_cons ps_never (pss_cons ps_never (pss_one ps_never))))), ?_⟩
    refine ⟨_, rfl, v, b, rfl, hw, b, rfl, ?_⟩
    cases b with
    | false => exact iteT ⟨_, rfl, p, C, dx, _, _, rfl, g1, T.cl, T.n4, g8, _, rfl, fun dd hdd => q H dd (Ex.refl _) hdd⟩
    | true =>
      rcases hw with ⟨i, rfl, _⟩ | ⟨_, _, z⟩ | ⟨_, _, _, z⟩
      · have nb := nb rfl i rfl
        refine iteF ⟨_, rfl, _, _, rfl, rfl, _, rfl, ?_⟩
        by_cases i0 : 0 ≤ i
        · rw [decide_eq_true i0]
          refine iteT ⟨_, rfl, p, C, dx, _, _, rfl, g1, T.cl, T.n4, g8, _, _, rfl, rfl, _, rfl, ?_⟩
          rw [decide_eq_false (fun z => nb ⟨i0, z⟩)]
          exact iteT ⟨_, rfl, p, C, dx, _, _, rfl, g1, T.cl, T.n4, g8, _, rfl, fun dd hdd => q H dd (Ex.refl _) hdd⟩
        · rw [decide_eq_false i0]
          exact iteF ⟨_, rfl, iteT ⟨_, rfl, p, C, dx, _, _, rfl, g1, T.cl, T.n4, g8, _, rfl, fun dd hdd => q H dd (Ex.refl _) hdd⟩⟩
      · cases z
      · cases z
end
end Sk

/-! A language asked: the number of a text. -/
namespace Sk
open PySem PySem.Spec PyProof.Rows L2 Evl Lg PySem.SkE
abbrev sLRank : Stmt := inClass (topS 62) 14
abbrev NRank : List Str := ["self", "text", "number", "at", "sign", "accepting", "steps", "other", "later"]
theorem scLRank : FnScope NRank ["self", "text"] (defScope sLRank) := ⟨rfl, rfl, rfl, by decide +kernel, rfl, by decide +kernel, by decide +kernel⟩
theorem wds_nodup {G : List Lg.Row} {rk : Nat → Nat} (A : Aut G rk) : (wds G rk 0).Nodup := (wds_sorted A _ 0 (Nat.lt_succ_self _) A.ne).imp fun h e => by rw [e] at h; exact List.lt_irrefl _ h
/-- what is in no language: a text that is not accepted, no text -/
def NotIn (K : PySem.W.Frag) (H : Hp) (G : List Lg.Row) (v : V) : Prop := (∃ w, v = .str (tx w) ∧ w.length ≤ 1000000 ∧ acc G w 0 = false) ∨ ∃ t, TyX K H v t ∧ PySem.W.kitOne K t (.type "str") = some false
def spRankG (K : PySem.W.Frag) (C W : Addr) : Sp := fun vs H Q E => ∃ (p : Addr) (G : List Lg.Row) (rk : Nat → Nat), LgG C H p G rk ∧ Aut G rk ∧ (∀ r ∈ G, r.2.length ≤ 100000) ∧
  ((∃ (n : Nat) (w : List Nat), vs = [.ref p, .str (tx w)] ∧ w.length ≤ 1000000 ∧ (wds G rk 0)[n]? = some w ∧ ∀ H', Ex H H' → Q (.int (n : Int)) H') ∨
   ∃ v, vs = [.ref p, v] ∧ NotIn K H G v ∧ ∀ H' dd, Ex H H' → H' dd = none → E (.ref W) (some dd) (upd H' dd (.xd [("wrong", v)])))
theorem lt_one (a b : Nat) : decide ((one a).cps.toList < (one b).cps.toList) = decide (a < b) := by
  refine decide_eq_decide.mpr ?_
  show [a] < [b] ↔ a < b
  rw [List.cons_lt_cons_iff]
  constructor
  · rintro (h | ⟨_, h⟩)
    · exact h
    · exact absurd h (List.lt_irrefl _)
  · exact .inl
section
variable {P : Program} {w : World} {K : PySem.W.Frag} {mg : Str → Option Value} {base : Heap} {f gC C W fI : Addr} {fd dB : FuncData} {qn : Str}
theorem ok_rankG (F : Fun K "rank_of" "Language.rank_of" sLRank f fd) (B : Blt mg) (ms : mg "sum" = none) (T : LgT K mg C) (Tw : ErrTxt K mg "NotInside" "wrong" qn W fI) (hs : PySem.W.findIn K (.ref C) "__contains__" = some (some (.ref gC))) (hf : PySem.W.isFn K (.ref gC) = true) (Co : FnR P w K mg base CX0 2 gC (spConG K C)) :
    FnOk P w K mg base (L2.CX P w) 5 f fd ["self", "text"] (spRankG K C W) := by
  refine F.okX scLRank (fun vs H Q E h => ?_) (fun cdv A outer s H vs Q E hr h => ?_)
  · obtain ⟨_, _, _, _, _, _, ⟨_, _, rfl, _⟩ | ⟨_, rfl, _⟩⟩ := h <;> rfl
  have nd := scLRank.nd
  have hr2 : Room 2 _ := hr.mono (by decide)
  have hu : (A.deeper (envOfC "Language.rank_of" (defScope sLRank) s.heap.objs.size f cdv)).units + 1 < cLine := Nat.lt_of_le_of_lt (Nat.add_le_add_left (by decide) _) hr.units
  obtain ⟨p, G, rk, g0, au, lr, h⟩ := h
  obtain ⟨dx, fs, l, m, c, g1, g2, g3, g4, g5, g6, g7, g8, g9⟩ := id g0
  obtain ⟨ss, hl, hss⟩ := g3
  rcases h with ⟨n, w0, rfl, lw, hw, q⟩ | ⟨v, rfl, nb, q⟩
  · refine ⟨_, pss_cons (ps_if (pt_cmpR (op_ninI (E := E0) hs hf Co hr2 pass0) (pv 1) (pv 0) rfl) (pss_one ps_never) pss_nil)
      (PSs.nox (pss_cons (ps_set (i := 2) nd rfl (Or.inl rfl) pe_int)
      (pss_cons (ps_set (i := 3) nd rfl (Or.inl rfl) pe_int)
      (pss_cons (ps_for PassesOwn.never rfl (pi_str (pv 1)) (pg_name (i := 4) nd rfl (Or.inr rfl))
        (pss_cons (ps_asg (pe_ix ix_list (pe_fld (pv 0) rfl) (pv 3) (fun _ _ => rfl)) (pg_tup rfl (pgs_cons (pg_name (i := 5) nd rfl (Or.inl rfl)) (pgs_cons (pg_name (i := 6) nd rfl (Or.inl rfl)) pgs_nil))))
        (pss_cons (ps_set (i := 2) nd rfl (Or.inl rfl) (pe_op op_add (pe_op op_add (pv 2) (pe_callTy call_int1 rfl B.int bt_int (pa_cons (pv 5) pa_nil))) (pe_callB (cr_sum rfl) rfl ms bt_sum (pa_cons (pe_lc (own := [("other", 7), ("later", 8)]) (g := gTup K 2 (gCons (gName 7) (gCons (gName 8) gNil)))
            (tt := tTest (tOp (fun x y H Q => ∃ i j, x = .str i ∧ y = .str j ∧ Q (.bl (decide (i.cps.toList < j.cps.toList))) H) (tVar 7) (tVar 4))) (te := tOp (rIxL K) (tFld K (tVar 0) "_many") (tVar 8)) rfl nd (pi_tup (pv 6)) (blkOk_by (N := NRank) (sc := defScope sLRank) (by decide +kernel))
            (fun _ _ _ _ _ => pg_tup rfl (pgs_cons (pg_name (i := 7) nd rfl (Or.inl rfl)) (pgs_cons (pg_name (i := 8) nd rfl (Or.inl rfl)) pgs_nil))) (fun _ _ _ _ _ => pts_one (pt_cmpR op_lt_str (pv 7) (pv 4) (nomark _))) (fun _ _ _ _ _ => pe_ix ix_list (pe_fld (pv 0) rfl) (pv 8) (fun _ _ => rfl))) pa_nil))))
        (pss_one (ps_set (i := 3) nd rfl (Or.inl rfl) (pe_dget hu (pe_ix ix_list (pe_fld (pv 0) rfl) (pv 3) (fun _ _ => rfl)) (pv 4) (fun _ _ => rfl)))))))
      (pss_one (ps_ret (pv 2))))))), ?_⟩
    have hw1 : acc G w0 0 = true := (wds_mem au w0 0 au.ne).mp (List.mem_of_getElem? hw)
    refine ⟨_, rfl, _, rfl, p, dx, fs, rfl, g1, p, G, rk, g0, au, .inl ⟨w0, rfl, lw, true, by rw [hw1], _, rfl, iteF ?_⟩⟩
    have hm : w0 ∈ wds G rk 0 := List.mem_of_getElem? hw
    obtain ⟨ds, de, m1, m2, m3⟩ := g5
    refine ⟨_, rfl, tx w0, rfl, for_it walk_str (fun i σ H' => ∃ (j N : Nat) (y4 y5 y6 y7 y8 : Option V), σ = [some (.ref p), some (.str (tx w0)), some (.int (N : Int)), some (.int (j : Int)), y4, y5, y6, y7, y8] ∧ Ex H H' ∧ j < G.length ∧ w0.drop i ∈ wds G rk j ∧ ∀ m, (wds G rk j)[m]? = some (w0.drop i) → (wds G rk 0)[N + m]? = some w0)
      ⟨0, 0, none, none, none, none, none, rfl, Ex.refl H, au.ne, hm, fun m e => by rw [Nat.zero_add]; exact e⟩ (fun _ _ _ _ _ => trivial) (fun i y σ H1 H2 hi p' wk => ?_) (fun σ H1 p' => ?_)⟩
    · obtain ⟨j, N, y4, y5, y6, y7, y8, rfl, x1, lj, mj, hN⟩ := p'
      obtain ⟨rfl, c0, hc, rfl⟩ := wk
      have hc' : w0[i]? = some c0 := by simpa [tx] using hc
      have dr : w0.drop i = c0 :: w0.drop (i + 1) := by
        obtain ⟨hi, e⟩ := List.getElem?_eq_some_iff.mp hc'
        rw [List.drop_eq_getElem_cons hi, e]
      have hG : G[j]? = some G[j] := List.getElem?_eq_getElem lj
      generalize G[j] = r at hG
      obtain ⟨s0, hs0, t, qs, r1, r2, r3⟩ := paired_at hss hG
      obtain ⟨d, hd, hdk⟩ := paired_at m2 hG
      have ld : ds.length = G.length := paired_len m2
      have lqs : qs.length = r.2.length := paired_len r3
      have lrr := lr r (List.mem_of_getElem? hG)
      -- where the character leads
      obtain ⟨j', k, mj'⟩ : ∃ j', lk c0 r.2 = some j' ∧ w0.drop (i + 1) ∈ wds G rk j' := by
        rw [dr] at mj
        have ac := (wds_mem au _ j lj).mp mj
        simp only [acc, hG, Option.bind_some] at ac
        cases k : lk c0 r.2 with
        | none => rw [k] at ac; cases ac
        | some j' =>
          rw [k] at ac
          exact ⟨j', rfl, (wds_mem au _ j' (au.tgt j r hG _ (lk_mem k))).mpr ac⟩
      have j'G := au.tgt j r hG _ (lk_mem k)
      have a1 : atI (ss.map V.ref) ((j : Nat) : Int) = some (.ref s0) := atI_nat (by rw [List.getElem?_map, hs0]; rfl)
      have a2 : atI (ds.map V.ref ++ [V.ref de]) ((j : Nat) : Int) = some (.ref d) := atI_nat (by
        rw [List.getElem?_append_left (by rw [List.length_map]; omega), List.getElem?_map, hd]; rfl)
      refine ⟨_, rfl, p, C, dx, _, _, rfl, x1 _ _ g1, T.cl, T.n1, g2, _, rfl, l, _, _, .ref s0, rfl, rfl, SqL.of (x1 _ _ hl), a1, s0, _, rfl, SqT.of (x1 _ _ r1), rfl, _, _, rfl, _, _, rfl, rfl, ?_⟩
      refine ⟨_, rfl, _, rfl, .inr ⟨r.1, rfl, _, _, rfl, rfl, _, rfl, t, rfl, ⟨_, sq_mono' x1 r2.sq⟩, fun D nD => ?_⟩⟩
      refine lc_tup (xs := qs.map V.ref) (fun q G6 => Ex H2 G6 ∧ G6 D = some (.lst ((((r.2.take q).filter fun q => decide (q.1 < c0)).map fun q => (many G rk q.2 : Int)).map V.int))) ⟨Ex.new nD, upd_same⟩ (fun q G6 _ z => sq_mono' (x1.trans z.1) r2.sq) (fun q x G6 hx z => ?_) (fun G6 z => ?_)
      · obtain ⟨z1, z2⟩ := z
        have x6 := x1.trans z1
        rw [List.getElem?_map] at hx
        obtain ⟨q0, hq0, rfl⟩ := Option.map_eq_some_iff.mp hx
        obtain ⟨⟨c1, j1⟩, hcj, hq⟩ := paired_atL r3 hq0
        have hq : H q0 = some (.tup [.str (one c1), .int (j1 : Int)]) := hq
        have j1G : j1 < G.length := au.tgt j r hG _ (List.mem_of_getElem? hcj)
        have tk : r.2.take (q + 1) = r.2.take q ++ [(c1, j1)] := by rw [List.take_add_one, hcj]; rfl
        have lq := (List.getElem?_eq_some_iff.mp hcj).1
        refine ⟨q0, _, rfl, SqT.of (x6 _ _ hq), rfl, _, _, rfl, _, _, rfl, rfl, rfl, _, rfl, _, rfl, _, _, rfl, rfl, _, rfl, ?_⟩
        rw [show decide ((one c1).cps.toList < (⟨#[c0]⟩ : Str).cps.toList) = decide (c1 < c0) from lt_one c1 c0]
        by_cases cc : c1 < c0
        · rw [decide_eq_true cc]
          refine iteT ⟨_, rfl, p, C, dx, _, _, rfl, x6 _ _ g1, T.cl, T.n3, g6, _, rfl, c, _, _, _, rfl, rfl, SqL.of (x6 _ _ g7), atI_nat (vL_at j1G), _, z2, ?_, z1.mut nD, ?_⟩
          · rw [List.length_map, List.length_map, sizeLine_eq]
            have := List.length_filter_le (fun q : Nat × Nat => decide (q.1 < c0)) (r.2.take q)
            rw [List.length_take] at this
            omega
          · rw [upd_same, tk, List.filter_append, List.filter_cons_of_pos (by simpa using cc), List.filter_nil]
            simp
        · rw [decide_eq_false cc]
          refine iteF ⟨z1, ?_⟩
          rw [tk, List.filter_append, List.filter_cons_of_neg (by simpa using cc), List.filter_nil, List.append_nil]
          exact z2
      · obtain ⟨z1, z2⟩ := z
        have x6 := x1.trans z1
        rw [List.length_map, lqs, List.take_length] at z2
        refine ⟨D, _, rfl, SqL.of z2, _, _, rfl, rfl, ?_⟩
        refine ⟨_, rfl, p, C, dx, _, _, rfl, x6 _ _ g1, T.cl, T.n2, g4, _, rfl, m, _, _, .ref d, rfl, rfl, SqL.of (x6 _ _ m1), a2, _, rfl, d, .int (j' : Int), rfl, ?_, ?_⟩
        · have := DGet.k (k := Sum.inr (one c0)) (x6 _ _ hdk)
          rw [valV_mov, k] at this
          exact this
        have sc := sum_cast ((r.2.filter fun q => decide (q.1 < c0)).map fun q => many G rk q.2)
        rw [List.map_map] at sc
        have ev : ((N : Int) + (if r.1 = true then 1 else 0)) + ((r.2.filter fun q => decide (q.1 < c0)).map fun q => (many G rk q.2 : Int)).sum = ((N + ((if r.1 = true then 1 else 0) + ((r.2.filter fun q => decide (q.1 < c0)).map fun q => many G rk q.2).sum) : Nat) : Int) := by
          rw [show ((r.2.filter fun q => decide (q.1 < c0)).map fun q => (many G rk q.2 : Int)).sum = (List.map ((fun (n : Nat) => (n : Int)) ∘ fun q : Nat × Nat => many G rk q.2) (r.2.filter fun q => decide (q.1 < c0))).sum from rfl, sc]
          by_cases b : r.1 = true
          · rw [if_pos b, if_pos b]; omega
          · rw [if_neg b, if_neg b]; omega
        refine ⟨j', N + ((if r.1 = true then 1 else 0) + ((r.2.filter fun q => decide (q.1 < c0)).map fun q => many G rk q.2).sum), some (.str (one c0)), some (.bl r.1), some (.ref t), y7, y8, ?_, x6, j'G, mj', fun m' e => ?_⟩
        · show [some (V.ref p), some (.str (tx w0)), some (V.int (((N : Int) + (if r.1 = true then 1 else 0)) + ((r.2.filter fun q => decide (q.1 < c0)).map fun q => (many G rk q.2 : Int)).sum)), some (.int (j' : Int)), some (.str (one c0)), some (.bl r.1), some (.ref t), y7, y8] = _
          rw [ev]
        · have := wds_rank au hG k e
          rw [← dr] at this
          have := hN _ this
          rwa [Nat.add_assoc N]
    · obtain ⟨j, N, y4, y5, y6, y7, y8, rfl, x1, lj, mj, hN⟩ := p'
      have e2 : w0.drop (tx w0).cps.size = [] := List.drop_eq_nil_of_le (by simp [tx])
      rw [e2] at mj hN
      have hG : G[j]? = some G[j] := List.getElem?_eq_getElem lj
      have ac := (wds_mem au [] j lj).mp mj
      simp only [acc, hG, Option.map_some, Option.getD_some] at ac
      have := hN 0 (wds_first au hG ac)
      rw [Nat.add_zero] at this
      have nd0 := wds_nodup au
      have eN : N = n := by
        obtain ⟨h1, e1⟩ := List.getElem?_eq_some_iff.mp this
        obtain ⟨h2, e2⟩ := List.getElem?_eq_some_iff.mp hw
        exact (List.getElem_inj nd0).mp (e1.trans e2.symm)
      subst eN
      exact ⟨_, rfl, q H1 x1⟩
  · refine ⟨_, pss_cons (ps_if (pt_cmpR (op_ninI (E := E0) hs hf Co hr2 pass0) (pv 1) (pv 0) rfl) (pss_one (ps_raiseE rfl Tw (init_wrong Tw) hr (takes_of rfl rfl rfl rfl) (pa_cons (pv 1) pa_nil))) pss_nil)
      (pss_cons ps_never (pss_cons ps_never (pss_cons ps_never (pss_one ps_never)))), ?_⟩
    rcases nb with ⟨w1, rfl, lw1, na⟩ | ⟨t, ht, hk⟩
    · refine ⟨_, rfl, _, rfl, p, dx, fs, rfl, g1, p, G, rk, g0, au, .inl ⟨w1, rfl, lw1, false, by rw [na], _, rfl, iteT ⟨_, rfl, _, rfl, fun dd hdd => q H dd (Ex.refl _) hdd⟩⟩⟩
    · refine ⟨_, rfl, _, rfl, p, dx, fs, rfl, g1, p, G, rk, g0, au, .inr ⟨v, t, rfl, ht, hk, false, rfl, _, rfl, iteT ⟨_, rfl, _, rfl, fun dd hdd => q H dd (Ex.refl _) hdd⟩⟩⟩
end
end Sk

/-! A def called where it is known that no repr runs around. -/
namespace Sk
open PySem PySem.Spec PyProof.Rows L2 Evl
structure FnG (P : Program) (w : World) (K : PySem.W.Frag) (mg : Str → Option Value) (base : Heap) (k : Nat) (f : Addr) (fd : FuncData) (ps : List Str) (sp : Sp) : Prop where
  len : ∀ vs H Q E, sp vs H Q E → vs.length = ps.length
  run : ∀ (A : Around) (outer : List Env) (s : Shared) (H : Hp) (args : Args) (us : List Value) (vs : List V) (Q : VK), A.guards = some [] → Room k A → Env0 P w K mg base A outer s H → BindsTo s fd args (ps.zip us) → Vals vs us → sp vs H Q E0 →
    codeAny (model P w) A (.call (.ref f) args) (CR CX0 outer P w H s Q E0) s
theorem fng_of {P : Program} {w : World} {K : PySem.W.Frag} {mg : Str → Option Value} {base : Heap} {x qual : Str} {st : Stmt} {f : Addr} {fd : FuncData} {N ps : List Str} {k : Nat} {sp : Sp} (F : Fun K x qual st f fd) (S : FnScope N ps (defScope st)) (len : ∀ vs H Q E, sp vs H Q E → vs.length = ps.length)
    (hbody : ∀ (cdv : Value) (A : Around) (outer : List Env) (s : Shared) (H : Hp) (vs : List V) (Q : VK), Room k (A.deeper (envOfC qual (defScope st) s.heap.objs.size f cdv)) → (A.deeper (envOfC qual (defScope st) s.heap.objs.size f cdv)).guards = some [] → sp vs H Q E0 →
      ∃ t, PSs (cxOf CX0 P w K mg base N qual (defScope st) f cdv A outer s H E0).nox (defBody st) t ∧ t { nx := fun _ H' => Q .non H', rt := Q } (start N vs) H) : FnG P w K mg base (k + 1) f fd ps sp := by
  obtain ⟨oc, od, kV, doc, pm, an, cdv, ct, osl, rfl, lk, hcd⟩ := F.ex
  refine ⟨len, fun A outer s H args us vs Q hgd hr e0 hb r hsp => ?_⟩
  have hl := len _ _ _ _ hsp
  have kp : ∀ b o, base.get? b = some o → s.heap.get? b = some o := fun b o z => (e0.bs b o z).1
  have kin := e0.mod.kin.keeps kp
  have kind : ∀ q ∈ ps.zip us, (defScope st).names.lookup q.1 = some .local ∨ ((defScope st).names.lookup q.1 = some .cell ∧ ((cellsFrom (s.heap.objs.size + 1) (defScope st).names []).lookup q.1).isSome = true) := by
    intro q hq
    exact (S.par q.1 (List.of_mem_zip (show (q.1, q.2) ∈ ps.zip us from hq)).1).imp (fun z => z) fun z => ⟨z, PySem.W.cellsFrom_some _ _ _ (.inl z)⟩
  refine codeAny_call_function hr.depth (kin _ _ lk) rfl S.co S.gen rfl (PySem.W.codeRec_of kin hcd) (hb _ _ _ _ (wpAny_newFunctionEnv_cells S.kind kind fun env he s1 z => ?_))
  subst he
  refine ⟨(e0.mod.nolimit.keeps kp).keeps z.toInCall.keep, codeAny_func ?_⟩
  obtain ⟨t, ht, hq⟩ := hbody cdv A outer s H vs Q (hr.deeper _) hgd hsp
  have I : Inv (cxOf CX0 P w K mg base N qual (defScope st) f cdv A outer s H E0) [] (start N vs) H s1 := inv_start S hr.hd e0 hl r z
  refine wpAny_mono (ht.nox.run [] s1 _ H _ I hq) (fun fl s' hs => ?_) fun e s' hs => hs
  cases fl with
  | ret r =>
    obtain ⟨v', _, H', J, rr, q⟩ := hs
    exact ⟨v', H', J.os, J.bare, J.base, J.hok, rr, q⟩
  | next =>
    obtain ⟨_, H', J, q⟩ := hs
    exact ⟨.non, H', J.os, J.bare, J.base, J.hok, rfl, q⟩
  | brk => obtain ⟨_, _, _, q⟩ := hs; exact q.elim
  | cont => obtain ⟨_, _, _, q⟩ := hs; exact q.elim
theorem pe_callG {X : Cx} {k : Nat} {f : Addr} {fd : FuncData} {ps : List Str} {sp : Sp} {x : Str} {p pos : Pos} {e : Expr} {es : List Expr} {t : TA} (hgd : X.A.guards = some []) (F : FnG X.prog X.w X.K X.mg X.base k f fd ps sp) (hr : Room k X.A) (hg : Gl X x) (hm : X.mg x = some (.ref f)) (hk : PySem.W.keepIn X.K (.ref f) = true) (hb : Binds X.K fd ps [])
    (hx : Passes CX0 X E0) (ha : PA X (e :: es) t) (hdb : (x == ("__debug__" : Str)) = false := by decide) (he : starEach (e :: es) X.env = (false, eval e X.env) :: starEach es X.env := by rfl) (hpl : (backTo pos (starEach es X.env)).any (·.1) = false := by rfl) :
    PE X (.Call (.Name x p) (e :: es) [] pos) (tCall sp [] E0 t) := by
  refine ⟨fun pins s σ H Q I h => wpAny_Call_Name_kw (ld_glob I hg hm (PySem.W.callWith_K (h₀ := X.base) I.ok.mod.kin hk (thn (ha.run pos pins s σ H _ I h) fun us s1 ⟨vs, H1, I1, r, q⟩ => ⟨I1.kIn, ?_⟩) he hpl) hdb)⟩
  have q' : sp vs H1 Q E0 := by simpa using q
  have hl : us.length = ps.length := by rw [← r.length]; exact F.len _ _ _ _ q'
  have hb' := hb s1 us I1.kIn (by simpa using hl)
  rw [List.append_nil] at hb'
  refine wpAny_call (codeAny_mono (F.run X.A X.stack s1 H1 ⟨us, []⟩ us vs Q hgd hr I1.env0 hb' r q') fun r s' hq => ?_)
  cases r with
  | error e => exact hx pins σ H1 s1 e s' I1 hq
  | ok fl =>
    cases fl with
    | ret u => exact I1.after hq
    | next => exact False.elim hq
    | brk => exact False.elim hq
    | cont => exact False.elim hq
end Sk

/-! What is written out in a display, or drawn before, is made of things that are new since some heap. -/
namespace Sk
open PySem PySem.Spec PyProof.Rows L2 Evl
def LqE (B H0 : Hp) (te : TE) (σ : L2.St) (d : PyData) : Prop := ∀ H Q, Ex H0 H → (∀ v H', Ex H H' → Dq (Nw B H') v d → Q v H') → te σ H Q
def LqA (B H0 : Hp) (ta : TA) (σ : L2.St) (ds : List PyData) : Prop := ∀ H Q, Ex H0 H → (∀ vs H', Ex H H' → DqAll (Nw B H') vs ds → Q vs H') → ta σ H Q
theorem nw_ex {B H H' : Hp} (x : Ex H H') : Ex (Nw B H) (Nw B H') := fun b o h => nw_of (nw_some h).1 (x _ _ (nw_some h).2)
theorem dom_none {B H0 H : Hp} (dm : ∀ a, H0 a = none → B a = none) (x : Ex H0 H) {p : Addr} (np : H p = none) : B p = none := by
  apply dm
  cases q : H0 p with
  | none => rfl
  | some o => rw [x _ _ q] at np; cases np
section
variable {B H0 : Hp} {σ : L2.St} {te tv : TE} {ta : TA} {d : PyData} {ds : List PyData}
theorem lq_nil : LqA B H0 tNil σ [] := fun H Q _ q => q [] H (Ex.refl _) .nil
theorem lq_cons (h : LqE B H0 te σ d) (h2 : LqA B H0 ta σ ds) : LqA B H0 (tCons te ta) σ (d :: ds) := fun H Q x q => h H _ x fun v H1 x1 a => h2 H1 _ (x.trans x1) fun vs H2 x2 b => q (v :: vs) H2 (x1.trans x2) (.cons (a.mono (nw_ex x2)) b)
theorem lq_int {i : Int} : LqE B H0 (tC (.int i)) σ (.int i) := fun H Q _ q => q _ H (Ex.refl _) (.int i)
theorem lq_bl {i : Bool} : LqE B H0 (tC (.bl i)) σ (.bool i) := fun H Q _ q => q _ H (Ex.refl _) (.bl i)
theorem lq_non : LqE B H0 (tC .non) σ .none := fun H Q _ q => q _ H (Ex.refl _) .non
theorem lq_str {z : Str} : LqE B H0 (tC (.str z)) σ (.str z) := fun H Q _ q => q _ H (Ex.refl _) (.str z)
theorem lq_var {i : Nat} {v : V} (e : σ[i]? = some (some v)) (h : Dq (Nw B H0) v d) : LqE B H0 (tVar i) σ d := fun H Q x q => ⟨v, e, q v H (Ex.refl _) (h.mono (nw_ex x))⟩
theorem lq_lst (dm : ∀ a, H0 a = none → B a = none) (h : LqA B H0 ta σ ds) (hl : ds.length ≤ sizeLine) : LqE B H0 (tLst ta) σ (.list ds) := fun H Q x q => h H _ x fun vs H1 x1 a => ⟨by rw [a.length]; exact hl, fun p np => q _ _ (x1.trans (Ex.new np)) (.lst (nw_of (dom_none dm (x.trans x1) np) upd_same) (a.mono (nw_ex (Ex.new np))))⟩
theorem lq_tup (dm : ∀ a, H0 a = none → B a = none) (h : LqA B H0 ta σ ds) (hl : ds.length ≤ sizeLine) : LqE B H0 (tTup ta) σ (.tuple ds) := fun H Q x q => h H _ x fun vs H1 x1 a => ⟨by rw [a.length]; exact hl, fun p np => q _ _ (x1.trans (Ex.new np)) (.tup (nw_of (dom_none dm (x.trans x1) np) upd_same) (a.mono (nw_ex (Ex.new np))))⟩
theorem lq_dnew (dm : ∀ a, H0 a = none → B a = none) : LqE B H0 tDNewK σ (.dict []) := fun H Q x q p np => q _ _ (Ex.new np) (.dct (nw_of (dom_none dm x np) upd_same) .nil)
/-- {k: z} -/
theorem lq_disp (dm : ∀ a, H0 a = none → B a = none) {k z : Str} : LqE B H0 (tDisp [(tC (.str k), tC (.str z))]) σ (.dict [(.str k, .str z)]) := fun H Q x q p np =>
  ⟨upd_same, [(.inr k, .str z)], rfl, by simp, by
    have x2 : Ex H (upd (upd H p (.dK [])) p (.dK [(.inr k, .str z)])) := fun b o e => by
      have n : b ≠ p := ne_of_none e np
      rw [upd_ne n, upd_ne n]; exact e
    exact q _ _ x2 (.dct (kvs := [(.inr k, .str z)]) (nw_of (dom_none dm x np) upd_same) (.cons (.str _) .nil))⟩
end
end Sk

/-! What may be shown: small data. -/
namespace Sk
open PySem PySem.Spec PyProof.Rows L2 Evl
theorem line_le' {n : Nat} (h : n ≤ 16000000) : n ≤ sizeLine := Nat.le_trans h (by decide)
/-! ### what may be shown -/
structure Shw (d : PyData) : Prop where
  s : d.showable = true
  z : d.shown.length ≤ sizeLine
  d : d.depth ≤ 60
theorem lsum_mul (B : Nat) : ∀ ts : List Nat, (∀ t ∈ ts, t ≤ B) → ts.sum ≤ ts.length * B
  | [], _ => by simp
  | x :: r, h => by
    have ih := lsum_mul B r fun t m => h t (List.mem_cons_of_mem _ m)
    have := h x List.mem_cons_self
    simp only [List.sum_cons, List.length_cons, Nat.succ_mul]
    omega
theorem shownAll_map : ∀ l : List PyData, PyData.shownAll l = l.map PyData.shown
  | [] => by simp [PyData.shownAll]
  | x :: r => by simp [PyData.shownAll, shownAll_map r]
theorem showAll_of : ∀ l : List PyData, (∀ d ∈ l, d.showable = true) → PyData.showableAll l = true
  | [], _ => by simp [PyData.showableAll]
  | x :: r, h => by simp [PyData.showableAll, h x List.mem_cons_self, showAll_of r fun d m => h d (List.mem_cons_of_mem _ m)]
/-- a list or a tuple of small things -/
theorem shw_seq {xs : List PyData} {m B : Nat} (h : ∀ x ∈ xs, x.showable = true ∧ x.shown.length ≤ B ∧ x.depth ≤ 30) (l : xs.length ≤ m) (b : m * (B + 2) ≤ 15000000) : Shw (.list xs) ∧ Shw (.tuple xs) := by
  have s := lsum_mul B (xs.map fun x => x.shown.length) fun y hy => by
    obtain ⟨x, hx, rfl⟩ := List.mem_map.mp hy
    exact (h x hx).2.1
  rw [List.length_map] at s
  have m1 : xs.length * B ≤ m * B := Nat.mul_le_mul_right _ l
  rw [Nat.mul_add] at b
  have dp : PyData.depthAll xs ≤ 30 := depthAll_le xs fun x m => (h x m).2.2
  have z1 := listText_len_le (PyData.shownAll xs)
  have z2 := tupleText_len_le (PyData.shownAll xs)
  rw [shownAll_map, List.map_map, List.length_map] at z1 z2
  have e : (List.map ((fun x => x.length) ∘ PyData.shown) xs).sum = (xs.map fun x => x.shown.length).sum := rfl
  rw [e] at z1 z2
  refine ⟨⟨by simp only [PyData.showable]; exact showAll_of xs fun d m => (h d m).1, line_le' ?_, by simp only [PyData.depth]; omega⟩, ⟨by simp only [PyData.showable]; exact showAll_of xs fun d m => (h d m).1, line_le' ?_, by simp only [PyData.depth]; omega⟩⟩
  · simp only [PyData.shown]
    rw [shownAll_map]
    omega
  · simp only [PyData.shown]
    rw [shownAll_map]
    omega
/-- a text of signs -/
theorem shw_str {x : Str} (h : ∀ c ∈ x.cps.toList, c < 1114112) : (PyData.str x).showable = true ∧ (PyData.str x).shown.length ≤ 10 * x.length + 2 ∧ (PyData.str x).depth ≤ 30 := by
  refine ⟨rfl, ?_, by simp [PyData.depth]⟩
  simp only [PyData.shown]
  exact PySem.StrLaws.reprText_len x fun c hc => Nat.lt_trans (h c hc) (by decide)
theorem shw_txt {x : Str} (h : ∀ c ∈ x.cps.toList, c < 1114112) (l : x.length ≤ 100000) : Shw (.str x) := by
  obtain ⟨a, b, c⟩ := shw_str h
  exact ⟨a, line_le' (by omega), by omega⟩
end Sk

/-! The law's helpers: texts sorted, near texts, other values; whether two values show the same. -/
namespace Sk
open PySem PySem.Spec PyProof.Rows L2 Evl
theorem scSet : FnScope ["texts"] ["texts"] (defScope sSet) := ⟨rfl, rfl, rfl, by decide +kernel, rfl, by decide +kernel, by decide +kernel⟩
abbrev NNear : List Str := ["stream", "texts", "signs", "word", "at", "kind"]
theorem scNear : FnScope NNear ["stream", "texts", "signs"] (defScope sNear) := ⟨rfl, rfl, rfl, by decide +kernel, rfl, by decide +kernel, by decide +kernel⟩
theorem scSame : FnScope ["one", "two"] ["one", "two"] (defScope sSame) := ⟨rfl, rfl, rfl, by decide +kernel, rfl, by decide +kernel, by decide +kernel⟩
/-! ### ascending texts -/
theorem ltCps_lt : ∀ {a b : List Nat}, ltCps b a = false → a ≠ b → a < b
  | [], [], _, n => absurd rfl n
  | [], _ :: _, _, _ => List.nil_lt_cons _ _
  | _ :: _, [], h, _ => by simp [ltCps] at h
  | a :: r, b :: t, h, n => by
    unfold ltCps at h
    rw [Bool.or_eq_false_iff, Bool.and_eq_false_iff] at h
    have h1 : ¬ b < a := of_decide_eq_false h.1
    rcases Nat.lt_or_ge a b with z | z
    · exact List.cons_lt_cons_iff.mpr (.inl z)
    · have e : a = b := by omega
      subst e
      refine List.cons_lt_cons_iff.mpr (.inr ⟨rfl, ltCps_lt ?_ fun e => n (by rw [e])⟩)
      rcases h.2 with q | q
      · simp at q
      · exact q
theorem sorted_lt {ds : List (List Nat)} (s : sortedS (ds.map tx) = true) (n : (ds.map tx).Nodup) : ds.Pairwise (· < ·) := by
  have p := sorted_pw5 s
  rw [List.pairwise_map] at p
  have q : ds.Pairwise fun a b => tx a ≠ tx b := by
    unfold List.Nodup at n
    rwa [List.pairwise_map] at n
  refine (p.and q).imp fun {a b} h => ?_
  have h1 := h.1
  unfold leS at h1
  exact ltCps_lt (by simpa [tx] using h1) fun e => h.2 (by rw [e])
def spSet : Sp := fun vs H Q _ => ∃ (l : Addr) (xs : List (List Nat)), vs = [.ref l] ∧ H l = some (.lst (txV xs)) ∧ xs.length < 64 ∧
  ∀ p ds H', Ex H H' → H p = none → H' p = some (.lst (txV ds)) → ds.Pairwise (· < ·) → (∀ w, w ∈ ds ↔ w ∈ xs) → ds.length ≤ xs.length → Q (.ref p) H'
def spNear : Sp := fun vs H Q _ => ∃ (st tl al : Addr) (xs : List (List Nat)), vs = [.ref st, .ref tl, .ref al] ∧ Strm st H ∧ Hd st H tl = some (.lst (txV xs)) ∧ AlpAt (Hd st H) al ∧ xs.length ≤ 1000 ∧ (∀ x ∈ xs, Tk 500 x) ∧
  ∀ cs H', Tk 1001 cs → Aft st H H' → Q (.str (tx cs)) H'
def spSame : Sp := fun vs H Q _ => ∃ v1 v2 d, vs = [v1, v2] ∧ Dq H v1 d ∧ Dq H v2 d ∧ Shw d ∧ Q (.bl true) H
section
variable {P : Program} {w : World} {K : PySem.W.Frag} {mg : Str → Option Value} {base : Heap} {f fA fW fD fC : Addr} {fd dA dW dD dC : FuncData}
theorem ok_set {k : Nat} (F : Fun K "_law_set" "_law_set" sSet f fd) (B : Blt mg) (B2 : Blt2 mg) : FnOk P w K mg base CX0 (k + 1) f fd ["texts"] spSet := by
  refine F.ok scSet (fun vs H Q E h => ?_) (fun cdv A outer s H vs Q E hr h => ?_)
  · obtain ⟨_, _, rfl, _⟩ := h
    rfl
  have nd := scSet.nd
  obtain ⟨l, xs, rfl, hl, lx, q⟩ := h
  refine ⟨_, pss_one (ps_ret (pe_callB (cr_sortedSS rfl) rfl B.sorted boot_sorted (pa_cons (pe_callTy (cr_setS rfl) rfl B2.set boot_set (pa_cons (pv 0) pa_nil)) pa_nil))), ?_⟩
  refine ⟨_, rfl, l, xs.map tx, rfl, SqL.of hl, by rw [List.length_map]; omega, fun p np => ⟨p, _, rfl, upd_same, by rw [List.length_map]; omega, fun ys r nd2 hs hm hn nr => ?_⟩⟩
  have e : ys = (ys.map fun y => y.cps.toList).map tx := by
    rw [List.map_map]
    exact (List.map_id'' (f := tx ∘ fun y => y.cps.toList) (fun y => tx_of y) ys).symm
  generalize ys.map (fun y => y.cps.toList) = ds at e
  subst e
  refine q r ds _ ((Ex.new np).trans (Ex.new nr)) (upd_none nr) upd_same (sorted_lt hs nd2) (fun w => ?_) (by simpa using hn)
  have := hm (tx w)
  constructor
  · intro m
    obtain ⟨x, mx, ex⟩ := List.mem_map.mp (this.mp (List.mem_map.mpr ⟨w, m, rfl⟩))
    rw [← tx_inj ex]; exact mx
  · intro m
    obtain ⟨x, mx, ex⟩ := List.mem_map.mp (this.mpr (List.mem_map.mpr ⟨w, m, rfl⟩))
    rw [← tx_inj ex]; exact mx
theorem ok_near (F : Fun K "_law_near" "_law_near" sNear f fd) (B : Blt mg) (W : Drw P w K mg base fD fC dD dC) (Wo : Lt P w K mg base fW dW "_law_word" ["stream", "signs", "most"] 3 spWord) : FnOk P w K mg base CX0 4 f fd ["stream", "texts", "signs"] spNear := by
  refine F.ok scNear (fun vs H Q E h => ?_) (fun cdv A outer s H vs Q E hr h => ?_)
  · obtain ⟨_, _, _, _, rfl, _⟩ := h
    rfl
  have nd := scNear.nd
  have hr1 : Room 1 _ := hr.mono (by decide)
  have hr2 : Room 2 _ := hr.mono (by decide)
  have hu : (A.deeper (envOfC "_law_near" (defScope sNear) s.heap.objs.size f cdv)).units < cLine := Nat.lt_of_le_of_lt (Nat.le_add_right _ 64) hr.units
  obtain ⟨st, tl, al, xs, rfl, hst, htl, hal, lx, tk, q⟩ := h
  refine ⟨_, pss_cons (ps_set (i := 3) nd rfl (Or.inl rfl) (pe_ifExp (pt_cmpR (op_neNil hu) (pv 1) (pe_lst pa_nil) (nomark _)) (pe_call W.gC hr2 rfl W.mC W.kC W.bC .nil pass0 (pa_cons (pv 0) (pa_cons (pv 1) pa_nil))) pe_str))
    (pss_cons (ps_par (i := 4) (j := 5) rfl nd rfl rfl (by decide) rfl rfl (pa_cons (pe_call W.gD hr1 rfl W.mD W.kD W.bD .nil pass0 (pa_cons (pv 0) (pa_cons (pe_op op_add (pe_callB call_len_str rfl B.len PySem.boot_len (pa_cons (pv 3) pa_nil)) pe_int) pa_nil)))
        (pa_cons (pe_call W.gD hr1 rfl W.mD W.kD W.bD .nil pass0 (pa_cons (pv 0) (pa_cons pe_int pa_nil))) pa_nil)) (by rfl))
    (pss_cons (ps_if (pt_cmpR op_eq (pv 5) pe_int (nomark _)) (pss_one (ps_ret (pe_op op_add_str (pe_op op_add_str (pe_slice sl_str (pv 3) po_none (po_some (pv 4))) (pe_call W.gC hr2 rfl W.mC W.kC W.bC .nil pass0 (pa_cons (pv 0) (pa_cons (pv 2) pa_nil)))) (pe_slice sl_str (pv 3) (po_some (pv 4)) po_none)))) pss_nil)
    (pss_cons (ps_if (pt_cmpR op_eq (pv 5) pe_int (nomark _)) (pss_one (ps_ret (pe_op op_add_str (pe_slice sl_str (pv 3) po_none (po_some (pv 4))) (pe_slice sl_str (pv 3) (po_some (pe_op op_add (pv 4) pe_int)) po_none)))) pss_nil)
    (pss_cons (ps_if (pt_cmpR op_eq (pv 5) pe_int (nomark _)) (pss_one (ps_ret (pe_slice sl_str (pv 3) po_none (po_some (pv 4))))) pss_nil)
    (pss_one (ps_ret (pe_ifExp (pt_cmpR op_eq (pv 5) pe_int (nomark _)) (pe_call Wo.g hr rfl Wo.m Wo.k Wo.b .nil pass0 (pa_cons (pv 0) (pa_cons (pv 2) (pa_cons pe_int pa_nil)))) (pv 3)))))))), ?_⟩
  have nts : tl ≠ st := (hd_some htl).1
  have emp : (txV xs).isEmpty = xs.isEmpty := by cases xs <;> rfl
  refine shE (te := tIf _ _ _) (fun v H7 => ∃ cs, v = .str (tx cs) ∧ Tk 500 cs ∧ Aft st H H7) (fun v G hv => ?_) (fun qq => ?_)
  case refine_2 =>
    refine ⟨_, rfl, nle' (by show 0 ≤ 1000; decide), fun l1 m1 => ⟨tl, l1, _, rfl, rfl, (Ex.new m1) _ _ (hd_le _ _ htl), upd_same, _, rfl, ?_⟩⟩
    have C1 := (Aft.of hst).new (o := HO.lst []) m1
    have h1 := C1.gr _ _ htl
    generalize upd H l1 (HO.lst []) = G1 at C1 h1 ⊢
    rw [emp]
    cases xs with
    | nil => exact iteF (qq _ _ ⟨[], rfl, ⟨Nat.zero_le _, fun _ m => nomatch m⟩, C1⟩)
    | cons x xs =>
      refine iteT ⟨_, rfl, _, rfl, st, _, fun v => ∃ bs, v = .str (tx bs) ∧ Tk 500 bs, rfl, C1.sm, .inl ⟨tl, _, rfl, .inl (SqL.of h1), by simp [txV], by rw [txV_len]; omega, fun v mv => ?_⟩, fun v G hv A2 => ?_⟩
      · obtain ⟨j, hj⟩ := List.mem_iff_getElem?.mp mv
        obtain ⟨y, hy, rfl⟩ := txV_at hj
        exact ⟨y, rfl, tk y (List.mem_of_getElem? hy)⟩
      · obtain ⟨bs, rfl, tb⟩ := hv
        exact qq _ _ ⟨bs, rfl, tb, C1.trans A2⟩
  obtain ⟨cs, rfl, tc, A1⟩ := hv
  have lcs : (tx cs).length ≤ sizeLine := line_le (by rw [tx_len]; have := tc.1; omega)
  have lc := tc.1
  refine ⟨_, rfl, _, rfl, tx cs, rfl, lcs, _, _, rfl, rfl, st, _, rfl, A1.sm, by rw [tx_len]; omega, by rw [tx_len]; omega, fun an G2 a0 a1 A2 => ⟨_, rfl, st, 6, rfl, A2.sm, by decide, by decide, fun kd G3 d0 d1 A3 => ⟨_, _, rfl, ?_⟩⟩⟩
  have A4 := (A1.trans A2).trans A3
  have al3 := hal.mono A4.gr
  clear A1 A2 A3
  refine ⟨_, rfl, rfl, _, rfl, ?_⟩
  by_cases k0 : kd = 0
  · refine dec_yes k0 ⟨_, rfl, _, rfl, _, rfl, tx cs, rfl, lcs, ?_⟩
    obtain ⟨a1', a2', a3', ea, l1', l2', l3'⟩ := al3
    obtain ⟨b1, e1, t1⟩ := cut_tx tc none (some an)
    refine ⟨_, rfl, _, rfl, st, _, fun v => ∃ c, v = .str (tx [c]) ∧ c < 1114112, rfl, A4.sm, .inl ⟨al, _, rfl, .inl (SqL.of ea), by simp, by show 3 ≤ 100000; decide, fun v m => ?_⟩, fun v H2 hv A5 => ?_⟩
    · simp only [List.mem_cons, List.not_mem_nil, or_false] at m
      rcases m with rfl | rfl | rfl
      · exact ⟨a1', rfl, l1'⟩
      · exact ⟨a2', rfl, l2'⟩
      · exact ⟨a3', rfl, l3'⟩
    obtain ⟨c, rfl, hc⟩ := hv
    have t2 : Tk 1 [c] := ⟨Nat.le_refl _, fun d m => by cases List.mem_singleton.mp m; exact hc⟩
    have t3 := t1.app t2
    obtain ⟨b2, e2, t4⟩ := cut_tx tc (some an) none
    have t5 := t3.app t4
    have := t3.1
    have := t4.1
    refine ⟨_, _, rfl, rfl, ?_, _, rfl, _, rfl, _, rfl, tx cs, rfl, lcs, _, _, rfl, rfl, ?_, ?_⟩
    · rw [e1, tx_len, tx_len]; have := t1.1; exact line_le (by simp; omega)
    · rw [e1, e2, tx_app, tx_len, tx_len]; exact line_le (by omega)
    rw [e1, e2, tx_app, tx_app]
    exact q _ H2 t5 (A4.trans A5)
  refine dec_no k0 ⟨_, rfl, rfl, _, rfl, ?_⟩
  by_cases k1 : kd = 1
  · obtain ⟨b1, e1, t1⟩ := cut_tx tc none (some an)
    obtain ⟨b2, e2, t2⟩ := cut_tx tc (some (an + 1)) none
    have := t1.1
    have := t2.1
    refine dec_yes k1 ⟨_, rfl, _, rfl, _, rfl, tx cs, rfl, lcs, _, rfl, _, rfl, _, _, rfl, rfl, _, rfl, tx cs, rfl, lcs, _, _, rfl, rfl, ?_, ?_⟩
    · rw [e1, e2, tx_len, tx_len]; exact line_le (by omega)
    rw [e1, e2, tx_app]
    exact q _ G3 ((t1.app t2).le (by decide)) A4
  refine dec_no k1 ⟨_, rfl, rfl, _, rfl, ?_⟩
  by_cases k2 : kd = 2
  · obtain ⟨b1, e1, t1⟩ := cut_tx tc none (some an)
    refine dec_yes k2 ⟨_, rfl, _, rfl, _, rfl, tx cs, rfl, lcs, ?_⟩
    rw [e1]
    exact q _ G3 (t1.le (by decide)) A4
  refine dec_no k2 ⟨_, rfl, rfl, _, rfl, ?_⟩
  by_cases k3 : kd = 3
  · exact dec_yes k3 ⟨_, rfl, _, rfl, st, al, 4, rfl, A4.sm, al3, by decide, fun bs G4 tb A5 => q bs G4 (tb.le (by decide)) (A4.trans A5)⟩
  · exact dec_no k3 ⟨_, rfl, q cs G3 (tc.le (by decide)) A4⟩
theorem ok_same (F : Fun K "_law_same" "_law_same" sSame f fd) (B : Blt mg) : FnG P w K mg base 1 f fd ["one", "two"] spSame := by
  refine fng_of F scSame (fun vs H Q E h => ?_) (fun cdv A outer s H vs Q hr hg h => ?_)
  · obtain ⟨_, _, _, rfl, _⟩ := h
    rfl
  have nd := scSame.nd
  have hu : (A.deeper (envOfC "_law_same" (defScope sSame) s.heap.objs.size f cdv)).units + 64 < cLine := hr.units
  obtain ⟨v1, v2, d, rfl, h1, h2, sh, q⟩ := h
  refine ⟨_, pss_one (ps_ret (pe_cmpR op_eq (pe_callB (call_reprQ hg hu) rfl B.repr boot_repr (pa_cons (pv 0) pa_nil)) (pe_callB (call_reprQ hg hu) rfl B.repr boot_repr (pa_cons (pv 1) pa_nil)) (nomark _))), ?_⟩
  refine ⟨_, rfl, v1, d, rfl, h1, sh.s, sh.z, sh.d, _, rfl, v2, d, rfl, h2, sh.s, sh.z, sh.d, rfl, ?_⟩
  rw [decide_eq_true rfl]
  exact q
end
end Sk

/-! The law asks a language: all its texts, a text by number, a number by text. -/
namespace Sk
open PySem PySem.Spec PyProof.Rows L2 Evl Lg PySem.SkE
section
variable {X : Cx} {CX : CXT} {k : Nat} {C f : Addr} {m : Str} {sp : Sp} {o e : Expr} {es : List Expr} {ta : TE} {t : TA} {apos pos : Pos}
/-- o.m(e, ..), what is raised wished for at the slots -/
def tMethX (C : Addr) (m : Str) (sp : Sp) (E : L2.St → XK) (ta : TE) (t : TA) : TE := fun σ H Q => ta σ H fun x H1 => ∃ a dx fs, x = V.ref a ∧ H1 a = some (.ins C dx fs) ∧ fs.lookup m = none ∧ t σ H1 fun vs H2 => sp (V.ref a :: vs) H2 Q (E σ)
theorem pe_methX {E : L2.St → XK} {pl : Sem Bool} (he : PE X o ta) (c : Cls X.K C) (hm : Meth X.K C m f) (F : FnR X.prog X.w X.K X.mg X.base CX k f sp) (hr : Room k X.A) (hx : ∀ σ, PassesAt CX X σ (E σ)) (ha : PA X (e :: es) t)
    (hst : starEach (e :: es) X.env = (false, eval e X.env) :: starEach es X.env := by rfl) (hpl : (backTo pos (starEach es X.env)).any (·.1) = false := by rfl)
    (ht : eval (.Call (.Attribute o m apos) (e :: es) [] pos) X.env = (do
      let ov ← eval o X.env
      standAt apos.atName
      let (f, first) ← holding [ov] (getMethod ov m pl)
      callWith pos f first (backTo pos (starEach (e :: es) X.env)) (backToKw pos (keywordEach [] X.env))) := by rfl) :
    PE X (.Call (.Attribute o m apos) (e :: es) [] pos) (tMethX C m sp E ta t) := by
  refine ⟨fun pins s σ H Q I h => ?_⟩
  refine PySem.W.methodCall_KW (pl := pl) (thn (he.run pins s σ H _ I h) fun u s1 ⟨x, H1, I1, rx, a, dx, fs, ex, ea, l, q⟩ => ?_) ht
  subst ex
  obtain rfl : u = Value.ref a := rx
  refine getmeth_ok I1 ea c hm l ?_
  refine PySem.W.callWith_K (first := [.ref a]) (h₀ := X.base) I.ok.mod.kin hm.kp (thn (ha.run pos pins s1 σ H1 _ I1 q) fun us s2 ⟨vs, H2, I2, r, q2⟩ => ⟨I2.kIn, ?_⟩) hst hpl
  exact wpAny_call (run_atS (us := .ref a :: us) (ws := .ref a :: vs) F hr I2.env0 (hx σ) I2 (.cons rfl r) q2)
end
theorem passE {P : Program} {w : World} {X : Cx} : Passes (L2.CX P w) X E0 := fun _ _ _ _ _ _ _ h => by
  obtain ⟨_, _, _, _, _, _, _, _, _, _, _, _, z⟩ := h
  exact z.elim
/-- the language of some texts -/
def LgX (L : Addr) (H : Hp) (x : Addr) (ds : List (List Nat)) : Prop := ∃ G rk, LgG L H x G rk ∧ Aut G rk ∧ G.length ≤ 100000 ∧ (∀ r ∈ G, r.2.length ≤ 100000) ∧ wds G rk 0 = ds ∧ (∀ w ∈ ds, w.length ≤ 1000000) ∧ ds.length ≤ 1000
theorem LgX.mono {L : Addr} {H H' : Hp} {x : Addr} {ds : List (List Nat)} (e : Ex H H') (h : LgX L H x ds) : LgX L H' x ds := let ⟨G, rk, a, b⟩ := h; ⟨G, rk, a.mono e, b⟩
structure LgM (P : Program) (w : World) (K : PySem.W.Frag) (mg : Str → Option Value) (base : Heap) (L W1 W2 : Addr) : Prop where
  T : LgT K mg L
  con : ∃ g, PySem.W.findIn K (.ref L) "__contains__" = some (some (.ref g)) ∧ PySem.W.isFn K (.ref g) = true ∧ FnR P w K mg base CX0 2 g (spConG K L)
  get : ∃ g, PySem.W.findIn K (.ref L) "__getitem__" = some (some (.ref g)) ∧ PySem.W.fnIn K g = true ∧ PySem.W.isFn K (.ref g) = true ∧ FnR P w K mg base (L2.CX P w) 5 g (spGetG K L W1)
  rnk : ∃ g, Meth K L "rank_of" g ∧ FnR P w K mg base (L2.CX P w) 5 g (spRankG K L W2)
  bol : ∃ g, PySem.W.findIn K (.ref L) "__bool__" = some (some (.ref g)) ∧ PySem.W.isFn K (.ref g) = true ∧ FnR P w K mg base CX0 1 g (spBoolG L)
theorem scTextsOf : FnScope ["language", "number"] ["language"] (defScope sTextsOf) := ⟨rfl, rfl, rfl, by decide +kernel, rfl, by decide +kernel, by decide +kernel⟩
abbrev NTextAt : List Str := ["language", "number", "error"]
theorem scTextAt : FnScope NTextAt ["language", "number"] (defScope sTextAt) := ⟨rfl, rfl, rfl, by decide +kernel, rfl, by decide +kernel, by decide +kernel⟩
abbrev NNumOf : List Str := ["language", "text", "error"]
theorem scNumOf : FnScope NNumOf ["language", "text"] (defScope sNumberOf) := ⟨rfl, rfl, rfl, by decide +kernel, rfl, by decide +kernel, by decide +kernel⟩
def spTextsOf (L : Addr) : Sp := fun vs H Q _ => ∃ (x : Addr) (ds : List (List Nat)), vs = [.ref x] ∧ LgX L H x ds ∧ ∀ l H', Ex H H' → H l = none → H' l = some (.lst (txV ds)) → Q (.ref l) H'
/-- no number of a text -/
def NoNum (K : PySem.W.Frag) (H : Hp) (n : Nat) (v : V) : Prop := ∃ b, WhOf K H v b ∧ (b = true → ∀ i, v = .int i → ¬ (0 ≤ i ∧ i < (n : Int)))
def spTextAt (K : PySem.W.Frag) (L : Addr) : Sp := fun vs H Q _ => ∃ (x : Addr) (ds : List (List Nat)) (v : V), vs = [.ref x, v] ∧ LgX L H x ds ∧ NoNum K H ds.length v ∧ ∀ l H', Ex H H' → H' l = some (.lst [.str "refused", .int (ds.length : Int)]) → Q (.ref l) H'
/-- no text of some texts -/
def NoTxt (K : PySem.W.Frag) (H : Hp) (ds : List (List Nat)) (v : V) : Prop := (∃ w, v = .str (tx w) ∧ w.length ≤ 1000000 ∧ w ∉ ds) ∨ ∃ t, TyX K H v t ∧ PySem.W.kitOne K t (.type "str") = some false
def spNumOf (K : PySem.W.Frag) (L : Addr) : Sp := fun vs H Q _ => ∃ (x : Addr) (ds : List (List Nat)) (v : V), vs = [.ref x, v] ∧ LgX L H x ds ∧
  ((∃ (n : Nat) (w : List Nat), v = .str (tx w) ∧ ds[n]? = some w ∧ ∀ l H', Ex H H' → H' l = some (.lst [.int (n : Int)]) → Q (.ref l) H') ∨ (NoTxt K H ds v ∧ ∀ l H', Ex H H' → H' l = some (.lst [.str "refused", v]) → Q (.ref l) H'))
section
variable {P : Program} {w : World} {K : PySem.W.Frag} {mg : Str → Option Value} {base : Heap} {f L W1 W2 fI1 fI2 : Addr} {fd : FuncData} {qn1 qn2 : Str}
theorem ok_textsOf (F : Fun K "_law_texts_of" "_law_texts_of" sTextsOf f fd) (B : Blt mg) (Z : LgM P w K mg base L W1 W2) : FnOk P w K mg base CX0 7 f fd ["language"] (spTextsOf L) := by
  refine F.ok scTextsOf (fun vs H Q E h => ?_) (fun cdv A outer s H vs Q E hr h => ?_)
  · obtain ⟨_, _, rfl, _⟩ := h
    rfl
  have nd := scTextsOf.nd
  obtain ⟨x, ds, rfl, ⟨G, rk, lg, au, lG, lr, ew, lw, ld⟩, q⟩ := h
  obtain ⟨g, g1, g2, g3, gF⟩ := Z.get
  have T := Z.T
  subst ew
  refine ⟨_, pss_one (ps_ret (pe_lc (own := [("number", 1)]) (g := gName 1) (tt := tYes) (te := tIxI L (spGetG K L W1) (fun _ => E0) (tVar 0) (tVar 1)) rfl nd (pi_range1 rfl B.range (pa_cons (pe_fld (pv 0) rfl) pa_nil))
      (blkOk_by (N := ["language", "number"]) (sc := defScope sTextsOf) (by decide +kernel)) (fun _ _ _ _ _ => pg_name (i := 1) nd rfl (Or.inl rfl)) (fun _ _ _ _ _ => pts_nil) (fun _ _ _ _ _ => pe_ixI (E := fun _ => E0) g1 g2 g3 gF (hr.mono (by decide)) (passAt_of passE) (pv 0) (pv 1) (fun _ _ => rfl)))), ?_⟩
  obtain ⟨dx, fs, l, m, c, h1, h2, h3, h4, h5, h6, h7, h8, h9⟩ := id lg
  refine ⟨_, rfl, x, L, dx, _, _, rfl, h1, T.cl, T.n4, h8, _, rfl, by omega, by unfold many; omega, fun D nD => ?_⟩
  refine lc_range (lo := 0) (n := (wds G rk 0).length) (fun i H' => Ex H H' ∧ H' D = some (.lst (txV ((wds G rk 0).take i)))) ⟨Ex.new nD, upd_same⟩ (fun i H' hi p => ?_) (fun H' p => ?_)
  · obtain ⟨p1, p2⟩ := p
    have e : (wds G rk 0)[i]? = some (wds G rk 0)[i] := List.getElem?_eq_getElem hi
    refine ⟨rfl, tyes ⟨_, rfl, _, rfl, x, dx, fs, rfl, p1 _ _ h1, x, G, rk, lg.mono p1, au, lr, lw, .inl ⟨i, by simp, _, e, fun H2 x2 => ⟨_, x2 _ _ p2, by rw [txV_len, List.length_take, sizeLine_eq]; omega, (p1.trans x2).mut nD, ?_⟩⟩⟩⟩
    rw [upd_same, take_snoc e, txV_app]
    rfl
  · obtain ⟨p1, p2⟩ := p
    rw [List.take_length] at p2
    exact q D H' p1 nD p2
theorem ok_textAt (F : Fun K "_law_text_at" "_law_text_at" sTextAt f fd) (Z : LgM P w K mg base L W1 W2) (Tw : ErrTxt K mg "NoSuchText" "count" qn1 W1 fI1) (te : PySem.W.exmOne K (.ref W1) (.ref W1) = some true) : FnOk P w K mg base CX0 7 f fd ["language", "number"] (spTextAt K L) := by
  refine F.ok scTextAt (fun vs H Q E h => ?_) (fun cdv A outer s H vs Q E hr h => ?_)
  · obtain ⟨_, _, _, rfl, _⟩ := h
    rfl
  have nd := scTextAt.nd
  obtain ⟨x, ds, v, rfl, ⟨G, rk, lg, au, lG, lr, ew, lw, ld⟩, ⟨b, wh, nb⟩, q⟩ := h
  obtain ⟨g, g1, g2, g3, gF⟩ := Z.get
  subst ew
  obtain ⟨dx, fs, _, _, _, h1, _⟩ := id lg
  refine ⟨_, pss_one (ps_try_as (i := 2) (tb := fun Wx => tRet (tLst (tCons (tIxI L (spGetG K L W1) (WE Wx) (tVar 0) (tVar 1)) tNil))) (ts := fun a cls d => tRet (tLst (tCons (tC (.str "refused")) (tCons (tXf a cls d W1 "count" (tVar 2)) tNil)))) (Wout := fun _ _ _ _ => False) rfl rfl nd rfl rfl ⟨rfl, by decide, Or.inl Tw.gC⟩ takes0
        (fun Wx pn xe tk _ => pss_one (ps_ret (by exact (pe_lst (pa_cons (pe_ixI g1 g2 g3 gF (hr.mono (by decide)) (fun σ => passAt tk σ) (pv 0) (pv 1) (fun _ _ => rfl)) pa_nil)))))
        (fun a oe cls d pn hz hf => pss_one (ps_ret (by exact (pe_lst (pa_cons pe_str (pa_cons (pe_xf ⟨Tw.ga, Tw.gg, Tw.exC, Tw.hdC⟩ Tw.noN hz hf (pv 2)) pa_nil))))))), ?_⟩
  refine ⟨_, rfl, _, rfl, x, dx, fs, rfl, h1, x, G, rk, lg, au, lr, lw, .inr ⟨v, b, rfl, wh, nb, fun H1 dd x1 hdd => ⟨true, te, fun _ a na => ?_, fun z => nomatch z⟩⟩⟩
  have xd : Ex H1 (upd H1 dd (.xd [("count", .int (many G rk 0 : Int))])) := Ex.new hdd
  refine ⟨_, rfl, rfl, rfl, dd, _, _, rfl, upd_same, by simp [List.lookup]; rfl, nle' (by show 2 ≤ 1000; decide), fun c nc => ?_⟩
  exact q c _ ((x1.trans xd).trans (Ex.new nc)) upd_same
theorem ok_numOf (F : Fun K "_law_number_of" "_law_number_of" sNumberOf f fd) (Z : LgM P w K mg base L W1 W2) (Tw : ErrTxt K mg "NotInside" "wrong" qn2 W2 fI2) (te : PySem.W.exmOne K (.ref W2) (.ref W2) = some true) : FnOk P w K mg base CX0 7 f fd ["language", "text"] (spNumOf K L) := by
  refine F.ok scNumOf (fun vs H Q E h => ?_) (fun cdv A outer s H vs Q E hr h => ?_)
  · obtain ⟨_, _, _, rfl, _⟩ := h
    rfl
  have nd := scNumOf.nd
  obtain ⟨x, ds, v, rfl, ⟨G, rk, lg, au, lG, lr, ew, lw, ld⟩, q⟩ := h
  obtain ⟨g, gM, gF⟩ := Z.rnk
  subst ew
  obtain ⟨dx, fs, _, _, _, h1, _, _, _, _, _, _, _, _, h2⟩ := id lg
  have nl : fs.lookup ("rank_of" : Str) = none := h2 _ (by decide +kernel) (by decide +kernel) (by decide +kernel) (by decide +kernel) (by decide +kernel)
  refine ⟨_, pss_one (ps_try_as (i := 2) (tb := fun Wx => tRet (tLst (tCons (tMethX L "rank_of" (spRankG K L W2) (WE Wx) (tVar 0) (tCons (tVar 1) tNil)) tNil))) (ts := fun a cls d => tRet (tLst (tCons (tC (.str "refused")) (tCons (tXf a cls d W2 "wrong" (tVar 2)) tNil)))) (Wout := fun _ _ _ _ => False) rfl rfl nd rfl rfl ⟨rfl, by decide, Or.inl Tw.gC⟩ takes0
        (fun Wx pn xe tk _ => pss_one (ps_ret (by exact (pe_lst (pa_cons (pe_methX (pv 0) Z.T.cl gM gF (hr.mono (by decide)) (fun σ => passAt tk σ) (pa_cons (pv 1) pa_nil)) pa_nil)))))
        (fun a oe cls d pn hz hf => pss_one (ps_ret (by exact (pe_lst (pa_cons pe_str (pa_cons (pe_xf ⟨Tw.ga, Tw.gg, Tw.exC, Tw.hdC⟩ Tw.noN hz hf (pv 2)) pa_nil))))))), ?_⟩
  rcases q with ⟨n, w1, rfl, e, q⟩ | ⟨nt, q⟩
  · exact ⟨_, rfl, x, dx, fs, rfl, h1, nl, _, rfl, x, G, rk, lg, au, lr, .inl ⟨n, w1, rfl, lw _ (List.mem_of_getElem? e), e, fun H1 x1 => ⟨nle' (by show 1 ≤ 1000; decide), fun l nl => q l _ (x1.trans (Ex.new nl)) upd_same⟩⟩⟩
  · refine ⟨_, rfl, x, dx, fs, rfl, h1, nl, _, rfl, x, G, rk, lg, au, lr, .inr ⟨v, rfl, ?_, fun H1 dd x1 hdd => ⟨true, te, fun _ a na => ?_, fun z => nomatch z⟩⟩⟩
    · rcases nt with ⟨w1, rfl, l1, n1⟩ | ⟨t, ht, hk⟩
      · refine .inl ⟨w1, rfl, l1, ?_⟩
        cases e : acc G w1 0 with
        | false => rfl
        | true => exact absurd ((wds_mem au w1 0 au.ne).mpr e) n1
      · exact .inr ⟨t, ht, hk⟩
    have xd : Ex H1 (upd H1 dd (.xd [("wrong", v)])) := Ex.new hdd
    refine ⟨_, rfl, rfl, rfl, dd, _, _, rfl, upd_same, by simp [List.lookup]; rfl, nle' (by show 2 ≤ 1000; decide), fun c nc => ?_⟩
    exact q c _ ((x1.trans xd).trans (Ex.new nc)) upd_same
end
end Sk

/-! The law: whether a language tells its texts. -/
namespace Sk
open PySem PySem.Spec PyProof.Rows L2 Evl Lg PySem.SkE
abbrev NToldR : List Str := ["language", "due", "text"]
theorem scToldR : FnScope NToldR ["language", "due"] (defScope sToldR) := ⟨rfl, rfl, rfl, by decide +kernel, rfl, by decide +kernel, by decide +kernel⟩
/-! ### what is shown -/
theorem dq_txs {H : Hp} : ∀ ds : List (List Nat), DqAll H (txV ds) (ds.map fun w => PyData.str (tx w))
  | [] => .nil
  | d :: ds => .cons (.str _) (dq_txs ds)
theorem dq_ints {H : Hp} : ∀ is : List Int, DqAll H (is.map V.int) (is.map PyData.int)
  | [] => .nil
  | d :: ds => .cons (.int _) (dq_ints ds)
/-- small shown things -/
def Sm (B : Nat) (d : PyData) : Prop := d.showable = true ∧ d.shown.length ≤ B ∧ d.depth ≤ 30
theorem Sm.le {B B' : Nat} {d : PyData} (h : Sm B d) (l : B ≤ B') : Sm B' d := ⟨h.1, Nat.le_trans h.2.1 l, h.2.2⟩
theorem sm_nat : ∀ n : Nat, n < 2000 → Sm 10 (.int (n : Int)) := by
  intro n h
  refine ⟨?_, ?_, by simp [PyData.depth]⟩
  · have : ∀ n : Fin 2000, (PyData.int ((n : Nat) : Int)).showable = true := by decide +kernel
    exact this ⟨n, h⟩
  · have : ∀ n : Fin 2000, (PyData.int ((n : Nat) : Int)).shown.length ≤ 10 := by decide +kernel
    exact this ⟨n, h⟩
theorem sm_bool (b : Bool) : Sm 10 (.bool b) := by cases b <;> exact ⟨by decide +kernel, by decide +kernel, by decide +kernel⟩
theorem sm_txt {n : Nat} {cs : List Nat} (h : Tk n cs) : Sm (10 * n + 2) (.str (tx cs)) := by
  have := shw_str (x := tx cs) fun c m => h.2 c (by rwa [tx_cps] at m)
  exact ⟨this.1, Nat.le_trans this.2.1 (by rw [tx_len]; have := h.1; omega), this.2.2⟩
theorem shw_l {xs : List PyData} {m B : Nat} (h : ∀ x ∈ xs, Sm B x) (l : xs.length ≤ m) (b : m * (B + 2) ≤ 15000000) : Shw (.list xs) := (shw_seq h l b).1
/-- a list of small things is small -/
theorem sm_l {xs : List PyData} {m B D : Nat} (h : ∀ x ∈ xs, Sm B x) (l : xs.length ≤ m) (dp : PyData.depthAll xs ≤ D) (hD : D ≤ 29) : Sm (m * (B + 2) + 4) (.list xs) := by
  have s := lsum_mul B (xs.map fun x => x.shown.length) fun y hy => by
    obtain ⟨x, hx, rfl⟩ := List.mem_map.mp hy
    exact (h x hx).2.1
  rw [List.length_map] at s
  have m1 : xs.length * (B + 2) ≤ m * (B + 2) := Nat.mul_le_mul_right _ l
  have m2 : xs.length * (B + 2) = xs.length * B + xs.length * 2 := Nat.mul_add ..
  have z1 := listText_len_le (PyData.shownAll xs)
  rw [shownAll_map, List.map_map, List.length_map] at z1
  have e : (List.map ((fun x => x.length) ∘ PyData.shown) xs).sum = (xs.map fun x => x.shown.length).sum := rfl
  rw [e] at z1
  refine ⟨by simp only [PyData.showable]; exact showAll_of xs fun d m => (h d m).1, ?_, by simp only [PyData.depth]; omega⟩
  simp only [PyData.shown]
  rw [shownAll_map]
  omega
def spToldR (L : Addr) : Sp := fun vs H Q _ => ∃ (x dl : Addr) (ds : List (List Nat)), vs = [.ref x, .ref dl] ∧ LgX L H x ds ∧ H dl = some (.lst (txV ds)) ∧ (∀ w ∈ ds, Tk 500 w) ∧ ds.length ≤ 40 ∧ ∀ H', Ex H H' → Q (.bl true) H'
section
variable {P : Program} {w : World} {K : PySem.W.Frag} {mg : Str → Option Value} {base : Heap} {f fT fS L W1 W2 : Addr} {fd dT dS : FuncData}
theorem ok_toldR (F : Fun K "_law_told_right" "_law_told_right" sToldR f fd) (B : Blt mg) (Z : LgM P w K mg base L W1 W2) (To : Lt P w K mg base fT dT "_law_texts_of" ["language"] 7 (spTextsOf L))
    (Sm_ : FnG P w K mg base 1 fS dS ["one", "two"] spSame) (bS : Binds K dS ["one", "two"] []) (kS : PySem.W.keepIn K (.ref fS) = true) (mS : mg "_law_same" = some (.ref fS)) : FnG P w K mg base 8 f fd ["language", "due"] (spToldR L) := by
  refine fng_of F scToldR (fun vs H Q E h => ?_) (fun cdv A outer s H vs Q hr hg h => ?_)
  · obtain ⟨_, _, _, rfl, _⟩ := h
    rfl
  have nd := scToldR.nd
  have hu : (A.deeper (envOfC "_law_told_right" (defScope sToldR) s.heap.objs.size f cdv)).units < cLine := Nat.lt_of_le_of_lt (Nat.le_add_right _ 64) hr.units
  have hr1 : Room 1 _ := hr.mono (by decide)
  have hr3 : Room 3 _ := hr.mono (by decide)
  have hr5 : Room 5 _ := hr.mono (by decide)
  obtain ⟨x, dl, ds, rfl, lx, hdl, tk, ld, q⟩ := h
  obtain ⟨gb, b1, b2, bF⟩ := Z.bol
  obtain ⟨gr, rM, rF⟩ := Z.rnk
  have T := Z.T
  refine ⟨_, pss_cons (ps_if (pt_not (pt_val (pe_callG hg Sm_ hr1 rfl mS kS bS pass0 (pa_cons (pe_lst (pa_cons (pe_fld (pv 0) rfl) (pa_cons (pe_callTy (call_boolI (E := E0) b1 b2 bF hr3 pass0) rfl B.bool bt_bool (pa_cons (pv 0) pa_nil)) pa_nil)))
        (pa_cons (pe_lst (pa_cons (pe_callB call_len_seq rfl B.len PySem.boot_len (pa_cons (pv 1) pa_nil)) (pa_cons (pe_cmpR (op_neNil hu) (pv 1) (pe_lst pa_nil) (nomark _)) pa_nil))) pa_nil))))) (pss_one (ps_ret pe_bl)) pss_nil)
    (pss_cons (ps_if (pt_not (pt_val (pe_callG hg Sm_ hr1 rfl mS kS bS pass0 (pa_cons (pe_call To.g hr rfl To.m To.k To.b .nil pass0 (pa_cons (pv 0) pa_nil)) (pa_cons (pv 1) pa_nil))))) (pss_one (ps_ret pe_bl)) pss_nil)
    (pss_one (ps_ret (pe_callG hg Sm_ hr1 rfl mS kS bS pass0 (pa_cons (pe_lc (own := [("text", 2)]) (g := gName 2) (tt := tYes) (te := tMethX L "rank_of" (spRankG K L W2) (fun _ => E0) (tVar 0) (tCons (tVar 2) tNil)) rfl nd (pi_list (pv 1)) (blkOk_by (N := NToldR) (sc := defScope sToldR) (by decide +kernel))
          (fun _ _ _ _ _ => pg_name (i := 2) nd rfl (Or.inl rfl)) (fun _ _ _ _ _ => pts_nil) (fun _ _ _ _ _ => pe_methX (E := fun _ => E0) (pv 0) T.cl rM rF hr5 (passAt_of passE) (pa_cons (pv 2) pa_nil)))
        (pa_cons (pe_listRg rfl rfl B.list (prg_1 rfl B.range (pe_callB call_len_seq rfl B.len PySem.boot_len (pa_cons (pv 1) pa_nil)))) pa_nil)))))), ?_⟩
  obtain ⟨G, rk, lg, au, lG, lr, ew, lw, ld2⟩ := id lx
  obtain ⟨dx, fs, l, m, c, h1, h2, h3, h4, h5, h6, h7, h8, h9, h10⟩ := id lg
  have nl : fs.lookup ("rank_of" : Str) = none := h10 _ (by decide +kernel) (by decide +kernel) (by decide +kernel) (by decide +kernel) (by decide +kernel)
  have emany : many G rk 0 = ds.length := by rw [← ew]; rfl
  rw [emany] at h8
  have e0 : decide (0 < (many G rk 0 : Int)) = !(txV ds).isEmpty := by
    rw [emany]
    cases ds with
    | nil => rfl
    | cons a r => simp [txV]
  refine ⟨_, rfl, x, L, dx, _, _, rfl, h1, T.cl, T.n4, h8, _, rfl, x, dx, fs, rfl, h1, x, G, rk, rfl, lg, _, rfl, nle' (by show 2 ≤ 1000; decide), fun l1 m1 => ?_⟩
  have x1 := Ex.new (o := HO.lst [V.int (ds.length : Int), V.bl (decide (0 < (many G rk 0 : Int)))]) m1
  have f1 : upd H l1 (HO.lst [V.int (ds.length : Int), V.bl (decide (0 < (many G rk 0 : Int)))]) l1 = some (.lst [V.int (ds.length : Int), V.bl (decide (0 < (many G rk 0 : Int)))]) := upd_same
  generalize upd H l1 (HO.lst [V.int (ds.length : Int), V.bl (decide (0 < (many G rk 0 : Int)))]) = G1 at x1 f1 ⊢
  refine ⟨_, rfl, dl, _, rfl, .inl (SqL.of (x1 _ _ hdl)), _, rfl, nle' (by show 0 ≤ 1000; decide), fun l2 m2 => ⟨dl, l2, _, rfl, rfl, (Ex.new m2) _ _ (x1 _ _ hdl), upd_same, nle' (by show 2 ≤ 1000; decide), fun l3 m3 => ?_⟩⟩
  have x3 := (Ex.new (o := HO.lst []) m2).trans (Ex.new (o := HO.lst [V.int ((txV ds).length : Int), V.bl (!(txV ds).isEmpty)]) m3)
  refine ⟨_, _, .list [.int (ds.length : Int), .bool (decide (0 < (many G rk 0 : Int)))], rfl, .lst (x3 _ _ f1) (.cons (.int _) (.cons (.bl _) .nil)), .lst upd_same (by rw [txV_len, e0]; exact .cons (.int _) (.cons (.bl _) .nil)), ?_, ?_⟩
  · refine shw_l (m := 2) (B := 10) (fun y my => ?_) (Nat.le_refl _) (by decide)
    rcases List.mem_cons.mp my with rfl | my
    · exact sm_nat _ (by omega)
    · cases List.mem_singleton.mp my
      exact sm_bool _
  refine ⟨true, rfl, iteF ?_⟩
  have lx3 := x1.trans x3
  generalize upd (upd G1 l2 (HO.lst [])) l3 (HO.lst [V.int ((txV ds).length : Int), V.bl (!(txV ds).isEmpty)]) = G3 at lx3 ⊢
  have sh : Shw (.list (ds.map fun w => PyData.str (tx w))) := shw_l (m := 40) (B := 5002) (fun y my => by
    obtain ⟨z, mz, rfl⟩ := List.mem_map.mp my
    exact sm_txt (tk z mz)) (by rw [List.length_map]; exact ld) (by decide)
  refine ⟨_, rfl, x, ds, rfl, lx.mono lx3, fun l5 G5 x5 n5 f5 => ⟨_, rfl, .ref l5, .ref dl, _, rfl, .lst f5 (dq_txs ds), .lst (x5 _ _ (lx3 _ _ hdl)) (dq_txs ds), sh, true, rfl, iteF ?_⟩⟩
  have x6 := lx3.trans x5
  clear f5 x5
  refine ⟨_, rfl, dl, rfl, ⟨_, SqL.of (x6 _ _ hdl)⟩, fun D nD => ?_⟩
  refine lc_list (xs := txV ds) (fun i H' => Ex G5 H' ∧ H' D = some (.lst (((List.range i).map fun (n : Nat) => (n : Int)).map V.int))) ⟨Ex.new nD, upd_same⟩ (fun i H' _ z => SqL.of (z.1 _ _ (x6 _ _ hdl))) (fun i v H' hv z => ?_) (fun H' z => ?_)
  · obtain ⟨z1, z2⟩ := z
    obtain ⟨y, hy, rfl⟩ := txV_at hv
    have x7 := x6.trans z1
    have li := (List.getElem?_eq_some_iff.mp hy).1
    refine ⟨rfl, tyes ⟨_, rfl, x, dx, fs, rfl, x7 _ _ h1, nl, _, rfl, x, G, rk, lg.mono x7, au, lr, .inl ⟨i, y, rfl, lw y (List.mem_of_getElem? hy), by rw [ew]; exact hy, fun H2 x2 => ⟨_, x2 _ _ z2, by rw [List.length_map, List.length_map, List.length_range, sizeLine_eq]; omega, (z1.trans x2).mut nD, ?_⟩⟩⟩⟩
    rw [upd_same, List.range_succ, List.map_append, List.map_append]
    rfl
  · obtain ⟨z1, z2⟩ := z
    have x7 := x6.trans z1
    rw [txV_len] at z2
    refine ⟨_, rfl, dl, _, rfl, .inl (SqL.of (x7 _ _ hdl)), _, rfl, RgOk.of_le (Int.le_refl _) (by rw [txV_len]; omega) (by decide) (by omega), fun q2 nq => ?_⟩
    have x8 := Ex.new (o := HO.lst (rgV 0 ((txV ds).length : Int))) nq
    have er : rgV 0 ((txV ds).length : Int) = ((List.range ds.length).map fun (n : Nat) => (n : Int)).map V.int := by
      unfold rgV
      rw [txV_len, List.map_map, Int.sub_zero, Int.toNat_natCast]
      exact List.map_congr_left fun i _ => by simp
    refine ⟨.ref D, .ref q2, _, rfl, .lst (x8 _ _ z2) (dq_ints _), .lst upd_same (by rw [er]; exact dq_ints _), shw_l (m := 40) (B := 10) (fun y my => ?_) (by simpa using ld) (by decide), q _ (x7.trans x8)⟩
    obtain ⟨k, mk, rfl⟩ := List.mem_map.mp my
    obtain ⟨n, mn, rfl⟩ := List.mem_map.mp mk
    have := List.mem_range.mp mn
    exact sm_nat n (by omega)
end
end Sk

/-! The law: other values. -/
namespace Sk
open PySem PySem.Spec PyProof.Rows L2 Evl Lg PySem.SkE
theorem scOdd : FnScope [] [] (defScope sOdd) := ⟨rfl, rfl, rfl, by decide +kernel, rfl, by decide +kernel, by decide +kernel⟩
/-- the values that are no texts and no numbers -/
def oddD : List PyData := [.none, .bool true, .bool false, .int 0, .int (-1), .int 1, .int (10 ^ 59), .tuple [], .tuple [.str "a"], .list [.str "a"], .list [], .dict [], .dict [(.str "a", .int 1)], .tuple [.str "a", .str "b"]]
section
variable {B H0 : Hp} {σ : L2.St}
theorem lq_of {te : TE} {i : Int} (h : ∀ H Q, Q (.int i) H → te σ H Q) : LqE B H0 te σ (.int i) := fun H Q _ q => h H _ (q _ H (Ex.refl _) (.int i))
theorem lq_retL {ta : TA} {D : Ends} {ds : List PyData} (h : LqA (fun _ => none) H0 ta σ ds) (hl : ds.length ≤ 1000) (k : ∀ p vs H', Ex H0 H' → H0 p = none → H' p = some (.lst vs) → DqAll H' vs ds → D.rt (.ref p) H') : tRet (tLst ta) D σ H0 := by
  refine h H0 _ (Ex.refl _) fun us H1 x1 a => ⟨by rw [a.length, sizeLine_eq]; omega, fun p np => ?_⟩
  exact k p us _ (x1.trans (Ex.new np)) (ex_none' x1 np) upd_same (a.mono (nw_le.trans (Ex.new np)))
theorem lq_sub01 : LqE B H0 (tOp (rI0 fun i j => V.int (i - j)) (tC (.int 0)) (tC (.int 1))) σ (.int (-1)) := lq_of fun H Q q => ⟨0, 1, rfl, rfl, q⟩
theorem lq_pow59 : LqE B H0 (tOp (rI CPowB fun i j => V.int (i ^ j.toNat)) (tC (.int 10)) (tC (.int 59))) σ (.int (10 ^ 59)) := lq_of fun H Q q => ⟨10, 59, rfl, rfl, ⟨by decide, by decide +kernel⟩, q⟩
theorem lq_dispI (dm : ∀ a, H0 a = none → B a = none) {k : Str} {z : Int} : LqE B H0 (tDisp [(tC (.str k), tC (.int z))]) σ (.dict [(.str k, .int z)]) := fun H Q x q p np =>
  ⟨upd_same, [(.inr k, .int z)], rfl, by simp, by
    have x2 : Ex H (upd (upd H p (.dK [])) p (.dK [(.inr k, .int z)])) := fun b o e => by
      have n : b ≠ p := ne_of_none e np
      rw [upd_ne n, upd_ne n]; exact e
    exact q _ _ x2 (.dct (kvs := [(.inr k, .int z)]) (nw_of (dom_none dm x np) upd_same) (.cons (.int _) .nil))⟩
end
def spOdd : Sp := fun vs H Q _ => vs = [] ∧ ∀ l us H', Ex H H' → H l = none → H' l = some (.lst us) → DqAll H' us oddD → Q (.ref l) H'
section
variable {P : Program} {w : World} {K : PySem.W.Frag} {mg : Str → Option Value} {base : Heap} {f : Addr} {fd : FuncData}
theorem ok_odd {k : Nat} (F : Fun K "_law_odd" "_law_odd" sOdd f fd) : FnOk P w K mg base CX0 (k + 1) f fd [] spOdd := by
  refine F.ok scOdd (fun vs H Q E h => ?_) (fun cdv A outer s H vs Q E hr h => ?_)
  · obtain ⟨rfl, _⟩ := h
    rfl
  have nd := scOdd.nd
  obtain ⟨rfl, q⟩ := h
  refine ⟨_, pss_one (ps_ret (pe_lst (pa_cons pe_non (pa_cons pe_bl (pa_cons pe_bl (pa_cons pe_int (pa_cons (pe_op op_sub pe_int pe_int) (pa_cons pe_int (pa_cons (pe_op op_powB pe_int pe_int) (pa_cons (pe_tup pa_nil)
    (pa_cons (pe_tup (pa_cons pe_str pa_nil)) (pa_cons (pe_lst (pa_cons pe_str pa_nil)) (pa_cons (pe_lst pa_nil) (pa_cons pe_dnewK (pa_cons (pe_disp (pps_cons pe_str pe_int pps_nil) rfl rfl (by simp) (by simp)) (pa_cons (pe_tup (pa_cons pe_str (pa_cons pe_str pa_nil))) pa_nil)))))))))))))))), ?_⟩
  have dm : ∀ a, H a = none → (fun _ => none : Hp) a = none := fun _ _ => rfl
  have all : LqA (fun _ => none) H _ (L2.start [] []) oddD := lq_cons lq_non (lq_cons lq_bl (lq_cons lq_bl (lq_cons lq_int (lq_cons lq_sub01 (lq_cons lq_int (lq_cons lq_pow59 (lq_cons (lq_tup dm lq_nil (by decide))
    (lq_cons (lq_tup dm (lq_cons lq_str lq_nil) (by decide)) (lq_cons (lq_lst dm (lq_cons lq_str lq_nil) (by decide)) (lq_cons (lq_lst dm lq_nil (by decide)) (lq_cons (lq_dnew dm) (lq_cons (lq_dispI dm) (lq_cons (lq_tup dm (lq_cons lq_str (lq_cons lq_str lq_nil)) (by decide)) lq_nil)))))))))))))
  exact lq_retL all (by decide) fun p us H' x np fp a => q p us H' x np fp a
end
end Sk

/-! An object made, what is raised wished for at the slots. -/
namespace Sk
open PySem PySem.Spec PyProof.Rows L2 Evl PySem.SkE
def tMakeS (C : Addr) (sp : Sp) (E : L2.St → XK) (t : TA) : TE := fun σ H Q => t σ H fun vs H1 => ∀ x dx, H1 x = Option.none → H1 dx = Option.none → dx ≠ x →
  sp (V.ref x :: vs) (upd (upd H1 dx (.own x)) x (.ins C dx [])) (fun v H2 => v = .non ∧ Q (.ref x) H2) (E σ)
section
variable {X : Cx} {CX : CXT} {k : Nat} {f C : Addr} {sp : Sp} {x : Str} {e : Expr} {es : List Expr} {t : TA} {p pos : Pos}
theorem run_makeS {E : XK} {pins : List (Addr × Obj)} {σ : L2.St} {H : Hp} {s : Shared} {Q : VK} {us : List Value} {vs : List V} (M : Mk X.K C f) (F : FnR X.prog X.w X.K X.mg X.base CX k f sp) (hr : Room (k + 1) X.A) (hx : PassesAt CX X σ E) (I : Inv X pins σ H s) (r : Vals vs us)
    (h : ∀ x dx, H x = Option.none → H dx = Option.none → dx ≠ x → sp (V.ref x :: vs) (upd (upd H dx (.own x)) x (.ins C dx [])) (fun v H2 => v = .non ∧ Q (.ref x) H2) E) :
    wpAny (model X.prog X.w) X.A (call (.ref C) us) (EP X pins σ Q) X.xe s := by
  have hq := h (s.heap.objs.size + 1) s.heap.objs.size (I.hok.fresh (Nat.le_succ _)) (I.hok.fresh (Nat.le_refl _)) (Nat.ne_of_lt (Nat.lt_succ_self _))
  have I2 := Inv.made (C := C) I
  have r2 : Vals (V.ref (s.heap.objs.size + 1) :: vs) (Value.ref (s.heap.objs.size + 1) :: us) := .cons rfl r
  refine wpAny_call (make_map (f := f) I.kIn M.makes M.init (beq_iff_eq.mp M.fn) (codeAny_mono (F _ X.stack _ _ (Value.ref (s.heap.objs.size + 1) :: us) _ _ E (hr.make C us []) (I2.env0.make C us []) r2 hq) fun r s' hq' => ?_))
  cases r with
  | error e => exact hx pins _ _ e s' I2 hq'
  | ok fl =>
    cases fl with
    | ret u =>
      obtain ⟨v, H', I3, rv, ev, q3⟩ := I2.after hq'
      subst ev
      exact ⟨rv, ⟨V.ref (s.heap.objs.size + 1), H', I3, rfl, q3⟩⟩
    | next => exact False.elim hq'
    | brk => exact False.elim hq'
    | cont => exact False.elim hq'
/-- C(e, ..), what is raised wished for at the slots -/
theorem pe_makeS {E : L2.St → XK} (M : Mk X.K C f) (F : FnR X.prog X.w X.K X.mg X.base CX k f sp) (hr : Room (k + 1) X.A) (hg : Gl X x) (hm : X.mg x = some (.ref C)) (hx : ∀ σ, PassesAt CX X σ (E σ)) (ha : PA X (e :: es) t) (hdb : (x == ("__debug__" : Str)) = false := by decide)
    (he : starEach (e :: es) X.env = (false, eval e X.env) :: starEach es X.env := by rfl) (hpl : (backTo pos (starEach es X.env)).any (·.1) = false := by rfl) : PE X (.Call (.Name x p) (e :: es) [] pos) (tMakeS C sp E t) := by
  refine ⟨fun pins s σ H Q I h => ?_⟩
  refine wpAny_Call_Name_kw (ld_glob I hg hm ?_ hdb)
  refine PySem.W.callWith_K (h₀ := X.base) I.ok.mod.kin M.kp (thn (ha.run pos pins s σ H _ I h) fun us s1 ⟨vs, H1, I1, r, q⟩ => ⟨I1.kIn, ?_⟩) he hpl
  exact run_makeS M F hr (hx σ) I1 r q
end
end Sk

/-! The law: objects of the package are refused. -/
namespace Sk
open PySem PySem.Spec PyProof.Rows L2 Evl Lg PySem.SkE
theorem opR_or {X : Cx} {f : Value → Value → Sem Value} {r r2 : R2} (h : OpR X f r) (h2 : OpR X f r2) : OpR X f (fun x y H Q => r x y H Q ∨ r2 x y H Q) := fun pins s σ H x y v u Q I rx ry q => q.elim (h pins s σ H x y v u Q I rx ry) (h2 pins s σ H x y v u Q I rx ry)
abbrev NObjR : List Str := ["language", "word", "thing", "told"]
theorem scObjR : FnScope NObjR ["language", "word"] (defScope sObjR) := ⟨rfl, rfl, rfl, by decide +kernel, rfl, by decide +kernel, by decide +kernel⟩
theorem LgX.at_ {L : Addr} {H : Hp} {x : Addr} {ds : List (List Nat)} (h : LgX L H x ds) : LgAt L H x := by
  obtain ⟨G, rk, ⟨dx, fs, l, m, c, g1, g2, ⟨ss, hl, _⟩, _⟩, _⟩ := h
  exact ⟨dx, fs, l, ss, g1, g2, hl⟩
theorem LgX.cnt {L : Addr} {H : Hp} {x : Addr} {ds : List (List Nat)} (h : LgX L H x ds) : ∃ dx fs, H x = some (.ins L dx fs) ∧ fs.lookup ("count" : Str) = some (.int (ds.length : Int)) := by
  obtain ⟨G, rk, ⟨dx, fs, l, m, c, g1, g2, g3, g4, g5, g6, g7, g8, g9⟩, _, _, _, rfl, _⟩ := h
  exact ⟨dx, fs, g1, g8⟩
/-- the classes Script and Language -/
structure Cl66 (P : Program) (w : World) (K : PySem.W.Frag) (mg : Str → Option Value) (base : Heap) (C L W1 W2 : Addr) : Prop where
  S : ScM K mg C
  M : LgM P w K mg base L W1 W2
  kep : ∃ p g mc, ClX.CRead K C mc ∧ ClX.CMet K C mc "kept" p g ∧ FnR P w K mg base CX0 6 g (spKep C)
  mkS : ∃ g, Mk K C g ∧ FnR P w K mg base CX0 4 g (spIni C)
  lis : ∃ p g mc, ClX.CRead K L mc ∧ ClX.CMet K L mc "listed" p g ∧ FnR P w K mg base CX0 5 g (spLstG L)
  eqS : ∃ g, PySem.W.findIn K (.ref C) "__eq__" = some (some (.ref g)) ∧ PySem.W.isFn K (.ref g) = true ∧ FnR P w K mg base CX0 3 g (spEqT C)
  eqL : ∃ g, PySem.W.findIn K (.ref L) "__eq__" = some (some (.ref g)) ∧ PySem.W.isFn K (.ref g) = true ∧ FnR P w K mg base CX0 1 g (spLEq L)
  sS : PySem.W.kitOne K (.ref C) (.type "str") = some false
  sL : PySem.W.kitOne K (.ref L) (.type "str") = some false
  iS : PySem.W.kitOne K (.ref C) (.type "int") = some false
  iL : PySem.W.kitOne K (.ref L) (.type "int") = some false
def spObjR (L : Addr) : Sp := fun vs H Q _ => ∃ (x : Addr) (ds : List (List Nat)) (cs : List Nat), vs = [.ref x, .str (tx cs)] ∧ LgX L H x ds ∧ Tk 1001 cs ∧ ∀ H', Ex H H' → Q (.bl true) H'
section
variable {P : Program} {w : World} {K : PySem.W.Frag} {mg : Str → Option Value} {base : Heap} {f fN fA fS C L W1 W2 : Addr} {fd dN dA dS : FuncData}
theorem ok_objR (F : Fun K "_law_objects_right" "_law_objects_right" sObjR f fd) (B : Blt mg) (Z : Cl66 P w K mg base C L W1 W2) (Nu : Lt P w K mg base fN dN "_law_number_of" ["language", "text"] 7 (spNumOf K L)) (Ta : Lt P w K mg base fA dA "_law_text_at" ["language", "number"] 7 (spTextAt K L))
    (Sm_ : FnG P w K mg base 1 fS dS ["one", "two"] spSame) (bS : Binds K dS ["one", "two"] []) (kS : PySem.W.keepIn K (.ref fS) = true) (mS : mg "_law_same" = some (.ref fS)) : FnG P w K mg base 8 f fd ["language", "word"] (spObjR L) := by
  refine fng_of F scObjR (fun vs H Q E h => ?_) (fun cdv A outer s H vs Q hr hg h => ?_)
  · obtain ⟨_, _, _, rfl, _⟩ := h
    rfl
  have nd := scObjR.nd
  have hr1 : Room 1 _ := hr.mono (by decide)
  have hr2 : Room 2 _ := hr.mono (by decide)
  have hr3 : Room 3 _ := hr.mono (by decide)
  have hr5 : Room 5 _ := hr.mono (by decide)
  have hr6 : Room 6 _ := hr.mono (by decide)
  obtain ⟨x, ds, cs, rfl, lx, tk, q⟩ := h
  obtain ⟨kp, kg, kmc, kR, kM, kF⟩ := Z.kep
  obtain ⟨lp, lg, lmc, lR, lM, lF⟩ := Z.lis
  obtain ⟨mg_, mK, mF⟩ := Z.mkS
  obtain ⟨eg, e1, e2, eF⟩ := Z.eqS
  obtain ⟨mg2, m1, m2, mF2⟩ := Z.eqL
  obtain ⟨gc, c1, c2, cF⟩ := Z.M.con
  have T := Z.S.T
  have TL := Z.M.T
  refine ⟨_, pss_cons (ps_for PassesOwn.never rfl (pi_list (pe_lst (pa_cons (ClX.pe_cmeth (pe_glob (v := .ref C) rfl T.mC rfl) kR kM kF hr6 pass0 (pa_cons (pv 1) pa_nil))
        (pa_cons (pe_makeS (E := fun _ => E0) mK mF hr5 rfl T.mC (passAt_of pass0) (pa_cons (pe_lst pa_nil) pa_nil))
        (pa_cons (ClX.pe_cmeth (pe_glob (v := .ref L) rfl TL.mC rfl) lR lM lF hr5 pass0 (pa_cons (pe_lst (pa_cons (pv 1) pa_nil)) pa_nil)) (pa_cons (pv 0) pa_nil)))))) (pg_name (i := 2) nd rfl (Or.inl rfl))
      (pss_cons (ps_set (i := 3) nd rfl (Or.inl rfl) (pe_call Nu.g hr rfl Nu.m Nu.k Nu.b .nil pass0 (pa_cons (pv 0) (pa_cons (pv 2) pa_nil))))
      (pss_cons (ps_if (PW.pt (pw_or (pt_cmpR (op_inI (E := E0) c1 c2 cF hr2 pass0) (pv 2) (pv 0) rfl) (pw_or (pt_cmpR op_ne (pe_callB call_len_seq rfl B.len PySem.boot_len (pa_cons (pv 3) pa_nil)) pe_int (nomark _))
          (pw_or1 (pt_not (pt_cmpR (opR_or (op_cmpI (E := E0) (fun _ _ => rfl) e1 e2 eF hr3 pass0) (op_cmpI (E := E0) (fun _ _ => rfl) m1 m2 mF2 hr1 pass0)) (pe_ix ix_list (pv 3) pe_int (fun _ _ => rfl)) (pv 2) (nomark _))))))) (pss_one (ps_ret pe_bl)) pss_nil)
      (pss_one (ps_if (pt_not (pt_val (pe_callG hg Sm_ hr1 rfl mS kS bS pass0 (pa_cons (pe_call Ta.g hr rfl Ta.m Ta.k Ta.b .nil pass0 (pa_cons (pv 0) (pa_cons (pv 2) pa_nil))) (pa_cons (pe_lst (pa_cons pe_str (pa_cons (pe_fld (pv 0) rfl) pa_nil))) pa_nil))))) (pss_one (ps_ret pe_bl)) pss_nil)))))
    (pss_cons (ps_set (i := 2) nd rfl (Or.inl rfl) (pe_lst (pa_cons (pv 1) pa_nil)))
    (pss_cons (ps_set (i := 3) nd rfl (Or.inl rfl) (pe_call Nu.g hr rfl Nu.m Nu.k Nu.b .nil pass0 (pa_cons (pv 0) (pa_cons (pv 2) pa_nil))))
    (pss_cons (ps_expr (pe_bm PySem.F.plainAttrs_list PySem.F.slot_list_append PySem.F.type_list_append mt_append (pv 2) (pa_cons pe_int pa_nil)))
    (pss_one (ps_ret (pe_callG hg Sm_ hr1 rfl mS kS bS pass0 (pa_cons (pv 3) (pa_cons (pe_lst (pa_cons pe_str (pa_cons (pv 2) pa_nil))) pa_nil)))))))), ?_⟩
  have tyS : ∀ {H' : Hp} {y : Addr} {es : List (Ed Nat)}, ScAt C H' y es → TyX K H' (.ref y) (.ref C) := fun ⟨dx, t, us, h1, _, _⟩ => .base (.ins h1 T.cl Z.S.hCl Z.S.hGt Z.S.hTk Z.S.hOb)
  have tyL : ∀ {H' : Hp} {y : Addr}, LgAt L H' y → TyX K H' (.ref y) (.ref L) := fun ⟨dx, fs, l, as, h1, _, _⟩ => .base (.ins h1 TL.cl TL.hCl TL.hGt TL.hTk TL.hOb)
  have lcs := tk.1
  have shc : Shw (.list [.str "refused", .int (ds.length : Int)]) := by
    obtain ⟨_, _, _, _, _, _, _, _, ld⟩ := id lx
    refine shw_l (m := 2) (B := 100) (fun y my => ?_) (Nat.le_refl _) (by decide)
    rcases List.mem_cons.mp my with rfl | my
    · exact ⟨by decide +kernel, by decide +kernel, by decide +kernel⟩
    · cases List.mem_singleton.mp my
      exact (sm_nat _ (by omega)).le (by decide)
  refine ⟨rfl, _, rfl, cs, rfl, by omega, fun x1 H1 y1 u1 s1 => ⟨nle' (by show 0 ≤ 1000; decide), fun l2 n2 => ?_⟩⟩
  have e2 := Ex.new (o := HO.lst []) n2
  have f2 : upd H1 l2 (HO.lst []) l2 = some (.lst []) := upd_same
  have s1 := s1.mono e2
  have z2 := y1.trans e2
  generalize upd H1 l2 (HO.lst []) = G2 at f2 s1 z2 ⊢
  intro x2 dx2 nx2 ndx2 ne2
  obtain ⟨v1, v2⟩ := mk_ex (C := C) nx2 ndx2
  refine ⟨x2, l2, dx2, [], [], rfl, upd_same, v1 _ _ f2, .nil, (fun _ m => nomatch m), by decide, fun H3 y3 s2 => ⟨rfl, ?_⟩⟩
  have w3 := v2.trans y3
  have s1 := s1.mono w3
  have z3 := z2.trans w3
  clear v1 v2 w3 y3 f2
  refine ⟨rfl, _, rfl, nle' (by show 1 ≤ 1000; decide), fun l4 n4 => ⟨l4, [cs], rfl, upd_same, by show 1 < 64; decide, by simp [sumL]; omega, fun x3 H5 Gy ry y5 u5 g5 _ _ _ _ _ => ?_⟩⟩
  have g5 : LgAt L H5 x3 := by
    obtain ⟨dx, fs, l, m, c, g1, g2, ⟨ss, hl, _⟩, _⟩ := g5
    exact ⟨dx, fs, l, ss, g1, g2, hl⟩
  have w5 := (Ex.new n4).trans y5
  have s1 := s1.mono w5
  have s2 := s2.mono w5
  have z5 := z3.trans w5
  refine ⟨_, rfl, nle' (by show 4 ≤ 1000; decide), fun Tl nT => ?_⟩
  have eT := Ex.new (o := HO.lst [.ref x1, .ref x2, .ref x3, .ref x]) nT
  have fT : upd H5 Tl (HO.lst [.ref x1, .ref x2, .ref x3, .ref x]) Tl = some (.lst [.ref x1, .ref x2, .ref x3, .ref x]) := upd_same
  have s1 := s1.mono eT
  have s2 := s2.mono eT
  have g5 := g5.mono eT
  have z0 := z5.trans eT
  generalize upd H5 Tl (HO.lst [.ref x1, .ref x2, .ref x3, .ref x]) = G0 at fT s1 s2 g5 z0 ⊢
  clear eT w5 nT
  have lx0 := lx.mono z0
  have g6 := lx0.at_
  refine ⟨Tl, rfl, ⟨_, SqL.of fT⟩, for_listU (xs := [.ref x1, .ref x2, .ref x3, .ref x]) ⟨SqL.of fT, ?_⟩⟩
  have b1 := (Ex.refl G0)
  refine ⟨_, rfl, _, rfl, x, ds, .ref x1, rfl, lx0.mono b1, .inr ⟨.inr ⟨_, tyS (s1.mono b1), Z.sS⟩, fun la1 A1 xa1 fa1 => ?_⟩⟩
  have a1 := b1.trans xa1
  obtain ⟨Gr1, rk1, lgr1, au1, _⟩ := lx0.mono a1
  obtain ⟨dr1, fr1, _, _, _, hr1_, _⟩ := id lgr1
  refine ⟨_, rfl, _, rfl, x, dr1, fr1, rfl, hr1_, x, Gr1, rk1, lgr1, au1, .inr ⟨_, _, rfl, tyS (s1.mono a1), Z.sS, false, rfl, _, rfl, iteF ?_⟩⟩
  refine ⟨_, rfl, la1, _, rfl, .inl (SqL.of fa1), rfl, _, rfl, iteNS rfl ?_⟩
  obtain ⟨dy1, ty1, uy1, p11, p12, p13⟩ := s1.mono a1
  refine ⟨_, rfl, la1, _, 1, .ref x1, rfl, rfl, SqL.of fa1, rfl, _, rfl, .inl ⟨x1, x1, dy1, dy1, _, _, rfl, rfl, p11, p11, x1, x1, _, rfl, ⟨dy1, ty1, uy1, p11, p12, p13⟩, ⟨dy1, ty1, uy1, p11, p12, p13⟩, fun B1 xb1 => ⟨true, rfl, iteF ?_⟩⟩⟩
  have c1 := a1.trans xb1
  refine ⟨_, rfl, _, rfl, x, ds, .ref x1, rfl, lx0.mono c1, ⟨false, .inr (.inr ⟨_, tyS (s1.mono c1), Z.iS, rfl⟩), fun z => nomatch z⟩, fun lc1 C1 xc1 fc1 => ?_⟩
  have d1 := c1.trans xc1
  obtain ⟨dq1, fq1, hq1, hc1⟩ := (lx0.mono d1).cnt
  refine ⟨_, rfl, x, L, dq1, fq1, _, rfl, hq1, TL.cl, TL.n4, hc1, nle' (by show 2 ≤ 1000; decide), fun ld1 nd1 => ⟨.ref lc1, .ref ld1, _, rfl, .lst ((Ex.new nd1) _ _ fc1) (.cons (.str _) (.cons (.int _) .nil)), .lst upd_same (.cons (.str _) (.cons (.int _) .nil)), shc, true, rfl, iteF ?_⟩⟩
  have ee1 := d1.trans (Ex.new (o := HO.lst [.str "refused", .int (ds.length : Int)]) nd1)
  refine ⟨SqL.of (ee1 _ _ fT), ?_⟩
  have b2 := ee1
  refine ⟨_, rfl, _, rfl, x, ds, .ref x2, rfl, lx0.mono b2, .inr ⟨.inr ⟨_, tyS (s2.mono b2), Z.sS⟩, fun la2 A2 xa2 fa2 => ?_⟩⟩
  have a2 := b2.trans xa2
  obtain ⟨Gr2, rk2, lgr2, au2, _⟩ := lx0.mono a2
  obtain ⟨dr2, fr2, _, _, _, hr2_, _⟩ := id lgr2
  refine ⟨_, rfl, _, rfl, x, dr2, fr2, rfl, hr2_, x, Gr2, rk2, lgr2, au2, .inr ⟨_, _, rfl, tyS (s2.mono a2), Z.sS, false, rfl, _, rfl, iteF ?_⟩⟩
  refine ⟨_, rfl, la2, _, rfl, .inl (SqL.of fa2), rfl, _, rfl, iteNS rfl ?_⟩
  obtain ⟨dy2, ty2, uy2, p21, p22, p23⟩ := s2.mono a2
  refine ⟨_, rfl, la2, _, 1, .ref x2, rfl, rfl, SqL.of fa2, rfl, _, rfl, .inl ⟨x2, x2, dy2, dy2, _, _, rfl, rfl, p21, p21, x2, x2, _, rfl, ⟨dy2, ty2, uy2, p21, p22, p23⟩, ⟨dy2, ty2, uy2, p21, p22, p23⟩, fun B2 xb2 => ⟨true, rfl, iteF ?_⟩⟩⟩
  have c2 := a2.trans xb2
  refine ⟨_, rfl, _, rfl, x, ds, .ref x2, rfl, lx0.mono c2, ⟨false, .inr (.inr ⟨_, tyS (s2.mono c2), Z.iS, rfl⟩), fun z => nomatch z⟩, fun lc2 C2 xc2 fc2 => ?_⟩
  have d2 := c2.trans xc2
  obtain ⟨dq2, fq2, hq2, hc2⟩ := (lx0.mono d2).cnt
  refine ⟨_, rfl, x, L, dq2, fq2, _, rfl, hq2, TL.cl, TL.n4, hc2, nle' (by show 2 ≤ 1000; decide), fun ld2 nd2 => ⟨.ref lc2, .ref ld2, _, rfl, .lst ((Ex.new nd2) _ _ fc2) (.cons (.str _) (.cons (.int _) .nil)), .lst upd_same (.cons (.str _) (.cons (.int _) .nil)), shc, true, rfl, iteF ?_⟩⟩
  have ee2 := d2.trans (Ex.new (o := HO.lst [.str "refused", .int (ds.length : Int)]) nd2)
  refine ⟨SqL.of (ee2 _ _ fT), ?_⟩
  have b3 := ee2
  refine ⟨_, rfl, _, rfl, x, ds, .ref x3, rfl, lx0.mono b3, .inr ⟨.inr ⟨_, tyL (g5.mono b3), Z.sL⟩, fun la3 A3 xa3 fa3 => ?_⟩⟩
  have a3 := b3.trans xa3
  obtain ⟨Gr3, rk3, lgr3, au3, _⟩ := lx0.mono a3
  obtain ⟨dr3, fr3, _, _, _, hr3_, _⟩ := id lgr3
  refine ⟨_, rfl, _, rfl, x, dr3, fr3, rfl, hr3_, x, Gr3, rk3, lgr3, au3, .inr ⟨_, _, rfl, tyL (g5.mono a3), Z.sL, false, rfl, _, rfl, iteF ?_⟩⟩
  refine ⟨_, rfl, la3, _, rfl, .inl (SqL.of fa3), rfl, _, rfl, iteNS rfl ?_⟩
  obtain ⟨dy3, fy3, ly3, ay3, p31, p32, p33⟩ := g5.mono a3
  refine ⟨_, rfl, la3, _, 1, .ref x3, rfl, rfl, SqL.of fa3, rfl, _, rfl, .inr ⟨x3, x3, dy3, dy3, _, _, rfl, rfl, p31, p31, x3, rfl, ⟨dy3, fy3, ly3, ay3, p31, p32, p33⟩, true, rfl, iteF ?_⟩⟩
  have c3 := a3
  refine ⟨_, rfl, _, rfl, x, ds, .ref x3, rfl, lx0.mono c3, ⟨false, .inr (.inr ⟨_, tyL (g5.mono c3), Z.iL, rfl⟩), fun z => nomatch z⟩, fun lc3 C3 xc3 fc3 => ?_⟩
  have d3 := c3.trans xc3
  obtain ⟨dq3, fq3, hq3, hc3⟩ := (lx0.mono d3).cnt
  refine ⟨_, rfl, x, L, dq3, fq3, _, rfl, hq3, TL.cl, TL.n4, hc3, nle' (by show 2 ≤ 1000; decide), fun ld3 nd3 => ⟨.ref lc3, .ref ld3, _, rfl, .lst ((Ex.new nd3) _ _ fc3) (.cons (.str _) (.cons (.int _) .nil)), .lst upd_same (.cons (.str _) (.cons (.int _) .nil)), shc, true, rfl, iteF ?_⟩⟩
  have ee3 := d3.trans (Ex.new (o := HO.lst [.str "refused", .int (ds.length : Int)]) nd3)
  refine ⟨SqL.of (ee3 _ _ fT), ?_⟩
  have b4 := ee3
  refine ⟨_, rfl, _, rfl, x, ds, .ref x, rfl, lx0.mono b4, .inr ⟨.inr ⟨_, tyL (g6.mono b4), Z.sL⟩, fun la4 A4 xa4 fa4 => ?_⟩⟩
  have a4 := b4.trans xa4
  obtain ⟨Gr4, rk4, lgr4, au4, _⟩ := lx0.mono a4
  obtain ⟨dr4, fr4, _, _, _, hr4_, _⟩ := id lgr4
  refine ⟨_, rfl, _, rfl, x, dr4, fr4, rfl, hr4_, x, Gr4, rk4, lgr4, au4, .inr ⟨_, _, rfl, tyL (g6.mono a4), Z.sL, false, rfl, _, rfl, iteF ?_⟩⟩
  refine ⟨_, rfl, la4, _, rfl, .inl (SqL.of fa4), rfl, _, rfl, iteNS rfl ?_⟩
  obtain ⟨dy4, fy4, ly4, ay4, p41, p42, p43⟩ := g6.mono a4
  refine ⟨_, rfl, la4, _, 1, .ref x, rfl, rfl, SqL.of fa4, rfl, _, rfl, .inr ⟨x, x, dy4, dy4, _, _, rfl, rfl, p41, p41, x, rfl, ⟨dy4, fy4, ly4, ay4, p41, p42, p43⟩, true, rfl, iteF ?_⟩⟩
  have c4 := a4
  refine ⟨_, rfl, _, rfl, x, ds, .ref x, rfl, lx0.mono c4, ⟨false, .inr (.inr ⟨_, tyL (g6.mono c4), Z.iL, rfl⟩), fun z => nomatch z⟩, fun lc4 C4 xc4 fc4 => ?_⟩
  have d4 := c4.trans xc4
  obtain ⟨dq4, fq4, hq4, hc4⟩ := (lx0.mono d4).cnt
  refine ⟨_, rfl, x, L, dq4, fq4, _, rfl, hq4, TL.cl, TL.n4, hc4, nle' (by show 2 ≤ 1000; decide), fun ld4 nd4 => ⟨.ref lc4, .ref ld4, _, rfl, .lst ((Ex.new nd4) _ _ fc4) (.cons (.str _) (.cons (.int _) .nil)), .lst upd_same (.cons (.str _) (.cons (.int _) .nil)), shc, true, rfl, iteF ?_⟩⟩
  have ee4 := d4.trans (Ex.new (o := HO.lst [.str "refused", .int (ds.length : Int)]) nd4)
  refine ⟨SqL.of (ee4 _ _ fT), ?_⟩
  -- behind the loop
  have zz := z0.trans ee4
  have lx9 := lx0.mono ee4
  refine ⟨_, rfl, nle' (by show 1 ≤ 1000; decide), fun lw nw => ?_⟩
  have M1 := (Lv.nil zz).new (o := HO.lst [.str (tx cs)]) nw
  have lx9 := lx9.mono (Ex.new (o := HO.lst [.str (tx cs)]) nw)
  generalize upd _ lw (HO.lst [V.str (tx cs)]) = G9 at M1 lx9 ⊢
  refine ⟨_, rfl, _, rfl, x, ds, .ref lw, rfl, lx9, .inr ⟨.inr ⟨_, .base (.lst (M1.get 0 rfl)), kls⟩, fun lt G10 xt ft => ?_⟩⟩
  have M2 := M1.ext xt
  have nlt : lt ≠ lw := fun z => by rw [z, M2.get 0 (a := lw) rfl] at ft; cases ft
  refine ⟨_, rfl, .inl ⟨rfl, _, SqL.of (M2.get 0 rfl)⟩, lw, _, _, rfl, rfl, M2.get 0 rfl, by rw [sizeLine_eq]; show 1 < 16777216; decide, ?_⟩
  have M3 := M2.mut 0 (a := lw) (HO.lst ([.str (tx cs)] ++ [.int 0])) rfl
  have ft : upd G10 lw (HO.lst ([.str (tx cs)] ++ [.int 0])) lt = some (.lst [.str "refused", .ref lw]) := by rw [upd_ne nlt]; exact ft
  generalize upd G10 lw (HO.lst ([V.str (tx cs)] ++ [V.int 0])) = G11 at M3 ft ⊢
  refine ⟨_, rfl, _, rfl, nle' (by show 2 ≤ 1000; decide), fun lv nv => ?_⟩
  have xv := Ex.new (o := HO.lst [.str "refused", .ref lw]) nv
  have dw : Dq (upd G11 lv (HO.lst [.str "refused", .ref lw])) (.ref lw) (.list [.str (tx cs), .int 0]) := .lst (xv _ _ (M3.get 0 rfl)) (.cons (.str _) (.cons (.int _) .nil))
  refine ⟨.ref lt, .ref lv, .list [.str "refused", .list [.str (tx cs), .int 0]], rfl, .lst (xv _ _ ft) (.cons (.str _) (.cons dw .nil)), .lst upd_same (.cons (.str _) (.cons dw .nil)), ?_, q _ (M3.ex.trans xv)⟩
  have sw : Sm (2 * (10012 + 2) + 4) (.list [.str (tx cs), .int 0]) := sm_l (m := 2) (B := 10012) (D := 1) (fun y my => by
    rcases List.mem_cons.mp my with rfl | my
    · exact sm_txt tk
    · cases List.mem_singleton.mp my
      exact (sm_nat 0 (by decide)).le (by decide)) (Nat.le_refl _) (by simp [PyData.depthAll, PyData.depth]) (by decide)
  refine shw_l (m := 2) (B := 20032) (fun y my => ?_) (Nat.le_refl _) (by decide)
  rcases List.mem_cons.mp my with rfl | my
  · exact ⟨by decide +kernel, by decide +kernel, by decide +kernel⟩
  · cases List.mem_singleton.mp my
    exact sw.le (by decide)
end
end Sk

/-! A language beside what changes: the stream, a list of texts. -/
namespace Sk
open PySem PySem.Spec PyProof.Rows L2 Evl Lg PySem.SkE
theorem nl_hd {H : Hp} {st : Addr} {xs : List V} (h : H st = some (.lst xs)) : Nl H (Hd st H) := fun b o n e => hd_of (fun z => by rw [z, h] at e; cases e; exact n xs rfl) e
/-- what is no list stays, three lists stay: so does the language -/
theorem LgG.by {C : Addr} {H H' : Hp} {x : Addr} {G : List Lg.Row} {rk : Nat → Nat} (n : Nl H H') (h : LgG C H x G rk) (k : ∀ (dx : Addr) (fs : List (Str × V)), H x = some (.ins C dx fs) → ∀ (a : Str) (b : Addr) (ys : List V), fs.lookup a = some (.ref b) → H b = some (.lst ys) → (∀ y ∈ ys, ∀ z, y ≠ .str z) → ys ≠ [] → H' b = some (.lst ys)) (ne : 0 < G.length) : LgG C H' x G rk := by
  obtain ⟨dx, fs, l, m, c, h1, h2, ⟨ss, a1, a2⟩, h4, ⟨ds, e, b1, b2, b3⟩, h6, h7, h8, h9, h10⟩ := h
  have kk := k dx fs h1
  have ls : ss.length = G.length := paired_len a2
  refine ⟨dx, fs, l, m, c, n _ _ (by intro _; exact nofun) h1, h2, ⟨ss, kk _ _ _ h2 a1 (fun y my => ?_) ?_, paired_imp (fun _ _ z => z.nl n) a2⟩, h4, ⟨ds, e, kk _ _ _ h4 b1 (fun y my => ?_) (by simp), paired_imp (fun _ _ z => n _ _ (by intro _; exact nofun) z) b2, n _ _ (by intro _; exact nofun) b3⟩, h6, kk _ _ _ h6 h7 (fun y my => ?_) ?_, h8, h9, h10⟩
  · obtain ⟨s, _, rfl⟩ := List.mem_map.mp my
    exact nofun
  · intro z
    have := congrArg List.length z
    rw [List.length_map, ls, List.length_nil] at this
    omega
  · rcases List.mem_append.mp my with my | my
    · obtain ⟨s, _, rfl⟩ := List.mem_map.mp my
      exact nofun
    · cases List.mem_singleton.mp my; exact nofun
  · unfold vL at my
    simp only [List.mem_map] at my
    obtain ⟨i, _, rfl⟩ := my
    exact nofun
  · intro z
    have := congrArg List.length z
    rw [vL_len, List.length_nil] at this
    omega
theorem LgX.by {L : Addr} {H H' : Hp} {x : Addr} {ds : List (List Nat)} (n : Nl H H') (h : LgX L H x ds) (k : ∀ (dx : Addr) (fs : List (Str × V)), H x = some (.ins L dx fs) → ∀ (a : Str) (b : Addr) (ys : List V), fs.lookup a = some (.ref b) → H b = some (.lst ys) → (∀ y ∈ ys, ∀ z, y ≠ .str z) → ys ≠ [] → H' b = some (.lst ys)) : LgX L H' x ds :=
  let ⟨G, rk, a, b, r⟩ := h; ⟨G, rk, a.by n k b.ne, b, r⟩
/-- a list of texts is changed -/
theorem LgX.mutT {L : Addr} {H : Hp} {x hl : Addr} {ds : List (List Nat)} {us vs : List V} (h : LgX L H x ds) (e : H hl = some (.lst us)) (hu : ∀ u ∈ us, ∃ z, u = .str z) : LgX L (upd H hl (.lst vs)) x ds := by
  refine h.by (Nl.mut e) fun dx fs _ a b ys _ hb ny ne => ?_
  have : b ≠ hl := fun z => by
    rw [z, e] at hb
    cases hb
    cases us with
    | nil => exact ne rfl
    | cons u us =>
      obtain ⟨z, rfl⟩ := hu u (List.mem_cons_self ..)
      exact ny _ (List.mem_cons_self ..) z rfl
  rw [upd_ne this]; exact hb
/-- beside the stream -/
theorem LgX.hd {L : Addr} {U H : Hp} {x st : Addr} {ds : List (List Nat)} {xs : List V} {o : HO} (h : LgX L H x ds) (e : H st = some (.lst xs)) (n : LgNew U H x) (u : U st = some o) : LgX L (Hd st H) x ds := by
  refine h.by (nl_hd e) fun dx fs hx a b ys l hb _ _ => hd_of (fun z => ?_) hb
  have := n _ _ _ hx a b l
  rw [z, u] at this
  cases this
structure Fix (L st tl al dl x : Addr) (xs ds : List (List Nat)) (H : Hp) : Prop where
  sm : Strm st H
  tl : Hd st H tl = some (.lst (txV xs))
  al : AlpAt (Hd st H) al
  dl : Hd st H dl = some (.lst (txV ds))
  lx : LgX L (Hd st H) x ds
theorem Fix.aft {L st tl al dl x : Addr} {xs ds : List (List Nat)} {H H' : Hp} (h : Fix L st tl al dl x xs ds H) (a : Aft st H H') : Fix L st tl al dl x xs ds H' := ⟨a.sm, a.gr _ _ h.tl, h.al.mono a.gr, a.gr _ _ h.dl, h.lx.mono a.gr⟩
theorem Strm.af {st : Addr} {H H' : Hp} (s : Strm st H) (x : Ex H H') : Aft st H H' := (Aft.of s).ex x
/-! ### what is asked of a list of texts -/
theorem inV_txs (cs : List Nat) : ∀ ds : List (List Nat), inV (.str (tx cs)) (txV ds) = decide (cs ∈ ds)
  | [] => rfl
  | d :: ds => by
    have ih := inV_txs cs ds
    unfold inV at ih ⊢
    show (eqV (.str (tx d)) (.str (tx cs)) || (txV ds).any fun y => eqV y (.str (tx cs))) = _
    rw [ih]
    show ((tx d == tx cs) || decide (cs ∈ ds)) = _
    by_cases z : cs = d
    · subst z
      simp
    · have : (tx d == tx cs) = false := by
        rw [beq_eq_false_iff_ne]
        exact fun e => z (tx_inj e).symm
      rw [this, Bool.false_or]
      simp [z]
theorem flat_txs : ∀ ds : List (List Nat), (txV ds).all flatV = true
  | [] => rfl
  | d :: ds => by
    show (flatV (.str (tx d)) && (txV ds).all flatV) = true
    rw [flat_txs ds]; rfl
theorem txs_eqv (ds : List (List Nat)) : PyData.eqv (.list (ds.map fun w => PyData.str (tx w))) (.list (ds.map fun w => PyData.str (tx w))) = true := by
  have : ∀ ds : List (List Nat), PyData.eqvAll (ds.map fun w => PyData.str (tx w)) (ds.map fun w => PyData.str (tx w)) = true := fun ds => by
    induction ds with
    | nil => simp [PyData.eqvAll]
    | cons d ds ih => simp [PyData.eqvAll, PyData.eqv, ih]
  simp only [PyData.eqv]
  simp [this]
theorem lay_txs {n : Nat} : ∀ ds : List (List Nat), (∀ w ∈ ds, Tk n w) → PyData.canLayAll0 (ds.map fun w => PyData.str (tx w)) = true
  | [], _ => by simp [PyData.canLayAll0]
  | d :: ds, h => by
    have hd := (h d (List.mem_cons_self ..)).2
    have ih := lay_txs ds fun w m => h w (List.mem_cons_of_mem _ m)
    have one : (PyData.str (tx d)).canLay0 = true := by
      simp [PyData.canLay0, PyData.strOk, tx]
      exact hd
    simp only [List.map_cons, PyData.canLayAll0, one, ih, Bool.true_and]
theorem txs_shaped {n : Nat} {ds : List (List Nat)} (h : ∀ w ∈ ds, Tk n w) : SeqAt.shaped (.list (ds.map fun w => PyData.str (tx w))) = true := by
  have h1 : (PyData.list (ds.map fun w => PyData.str (tx w))).canLay0 = true := by
    simp only [PyData.canLay0]
    exact lay_txs ds h
  have h2 : (PyData.list (ds.map fun w => PyData.str (tx w))).depth ≤ 64 := by
    simp only [PyData.depth]
    have := depthAll_le (n := 2) (ds.map fun w => PyData.str (tx w)) (fun x m => by
      obtain ⟨e, _, rfl⟩ := List.mem_map.mp m
      simp [PyData.depth])
    omega
  unfold SeqAt.shaped
  rw [h1, decide_eq_true h2]
  rfl
theorem dp_txs {K : PySem.W.Frag} {H : Hp} : ∀ ds : List (List Nat), DpAll K H (txV ds) (ds.map fun w => PyData.str (tx w))
  | [] => .nil
  | d :: ds => .cons (.str _) (dp_txs ds)
end Sk

/-! The law. -/
namespace Sk
open PySem PySem.Spec PyProof.Rows L2 Evl Lg PySem.SkE
abbrev NLaw : List Str := ["script", "start_v", "stream", "signs", "texts", "handed", "due", "language", "number", "value", "turn", "text", "told"]
theorem scLaw : FnScope NLaw ["script"] (defScope sLaw) := ⟨rfl, rfl, rfl, by decide +kernel, rfl, by decide +kernel, by decide +kernel⟩
def spLaw (K : PySem.W.Frag) : Sp := fun vs H Q _ => ∃ (a : Addr) (ns : List Int), vs = [.ref a] ∧ SqL K H a (ns.map V.int) ∧ ns.length ≤ 63 ∧ (∀ z ∈ ns, Builtin.Int.intBits z ≤ 1048576) ∧ ∀ H', Q (.bl true) H'
/-- what is no number of n texts, whatever is made behind it -/
def NnOf (n : Nat) (U : Hp) (v : V) : Prop := (∃ i, v = .int i ∧ ¬ (0 ≤ i ∧ i < (n : Int))) ∨ (∃ b, v = .bl b) ∨ v = .non ∨ (∃ z, v = .str z) ∨ ∃ a xs, v = .ref a ∧ (U a = some (.lst xs) ∨ U a = some (.tup xs))
theorem NnOf.at_ {K : PySem.W.Frag} {n : Nat} {U H : Hp} {v : V} (h : NnOf n U v) (x : Ex U H) : NoNum K H n v := by
  rcases h with ⟨i, rfl, hi⟩ | ⟨b, rfl⟩ | rfl | ⟨z, rfl⟩ | ⟨a, xs, rfl, e | e⟩
  · exact ⟨true, .inl ⟨i, rfl, rfl⟩, fun _ j e => by cases e; exact hi⟩
  · exact ⟨false, .inr (.inl ⟨b, rfl, rfl⟩), fun z => nomatch z⟩
  · exact ⟨false, .inr (.inr ⟨_, Dq.non.ty, (show kitB "NoneType" "int" = some false by decide +kernel), rfl⟩), fun z => nomatch z⟩
  · exact ⟨false, .inr (.inr ⟨_, (Dq.str z).ty, ksi, rfl⟩), fun z => nomatch z⟩
  · exact ⟨false, .inr (.inr ⟨_, .base (.lst (x _ _ e)), kli, rfl⟩), fun z => nomatch z⟩
  · exact ⟨false, .inr (.inr ⟨_, .base (.tup (x _ _ e)), kti, rfl⟩), fun z => nomatch z⟩
theorem odd_str {K : PySem.W.Frag} : ∀ d ∈ oddD, PySem.W.kitOne K (.type (tyD d)) (.type "str") = some false := fun d m => by
  simp only [oddD, List.mem_cons, List.not_mem_nil, or_false] at m
  rcases m with rfl | rfl | rfl | rfl | rfl | rfl | rfl | rfl | rfl | rfl | rfl | rfl | rfl | rfl <;> first | exact kbs | exact kis | exact kts | exact kls | exact kds | exact (by decide +kernel)
theorem odd_shw : ∀ d ∈ oddD, Shw (.list [.bool false, .list [.str "refused", d]]) := fun d m => by
  simp only [oddD, List.mem_cons, List.not_mem_nil, or_false] at m
  rcases m with rfl | rfl | rfl | rfl | rfl | rfl | rfl | rfl | rfl | rfl | rfl | rfl | rfl | rfl <;> exact ⟨by decide +kernel, by decide +kernel, by decide +kernel⟩
section
variable {P : Program} {w : World} {K : PySem.W.Frag} {mg : Str → Option Value} {base : Heap} {fL fS fA fI fE fT fO fR fN fM fD fG C L W1 W2 : Addr} {dL dS dA dI dE dT dO dR dN dM dD dG : FuncData}
theorem ok_law (F : Fun K "law" "law" sLaw fL dL) (B : Blt mg) (Z : Cl66 P w K mg base C L W1 W2)
    (St : Lt P w K mg base fS dS "_law_stream" ["script", "start_v"] 1 (spStream K))
    (Al : Lt P w K mg base fA dA "_law_alphabet" ["stream"] 3 spAlph)
    (Ls : Lt P w K mg base fI dI "_law_listed" ["stream", "signs", "far"] 4 spLsd)
    (Se : Lt P w K mg base fE dE "_law_set" ["texts"] 1 spSet)
    (Od : Lt P w K mg base fD dD "_law_odd" [] 1 spOdd)
    (Ne : Lt P w K mg base fN dN "_law_near" ["stream", "texts", "signs"] 4 spNear)
    (Nu : Lt P w K mg base fM dM "_law_number_of" ["language", "text"] 7 (spNumOf K L))
    (Ta : Lt P w K mg base fT dT "_law_text_at" ["language", "number"] 7 (spTextAt K L))
    (Tr : FnG P w K mg base 8 fR dR ["language", "due"] (spToldR L)) (bT : Binds K dR ["language", "due"] []) (kT : PySem.W.keepIn K (.ref fR) = true) (mT : mg "_law_told_right" = some (.ref fR))
    (Or_ : FnG P w K mg base 8 fO dO ["language", "word"] (spObjR L)) (bO : Binds K dO ["language", "word"] []) (kO : PySem.W.keepIn K (.ref fO) = true) (mO : mg "_law_objects_right" = some (.ref fO))
    (Sm_ : FnG P w K mg base 1 fG dG ["one", "two"] spSame) (bS : Binds K dG ["one", "two"] []) (kS : PySem.W.keepIn K (.ref fG) = true) (mS : mg "_law_same" = some (.ref fG)) :
    LawOk P w K mg base fL dL "script" (spLaw K) := by
  refine law_of (k := 8) F scLaw ⟨rfl, by decide, by decide⟩ fun cdv s H v Q hr hg h => ?_
  have nd := scLaw.nd
  have hu : (callerA.deeper (envOfC "law" (defScope sLaw) s.heap.objs.size fL cdv)).units + 64 < cLine := hr.units
  have hr1 : Room 1 _ := hr.mono (by decide)
  have hr2 : Room 2 _ := hr.mono (by decide)
  have hr3 : Room 3 _ := hr.mono (by decide)
  have hr4 : Room 4 _ := hr.mono (by decide)
  have hr5 : Room 5 _ := hr.mono (by decide)
  have hr7 : Room 7 _ := hr.mono (by decide)
  obtain ⟨a, ns, ev, hS, h63, hb, q⟩ := h
  cases ev
  obtain ⟨lp, lg, lmc, lR, lM, lF⟩ := Z.lis
  obtain ⟨gc, c1, c2, cF⟩ := Z.M.con
  have TL := Z.M.T
  refine ⟨_, pss_cons (ps_for PassesOwn.never rfl (pi_range1 rfl B.range (pa_cons (pe_callB (call_max2 rfl) rfl B.max bt_max (pa_cons pe_int (pa_cons (pe_callB (call_min2 rfl) rfl B.min bt_min (pa_cons pe_int (pa_cons (pe_callB call_len_seq rfl B.len PySem.boot_len (pa_cons (pv 0) pa_nil)) pa_nil))) pa_nil))) pa_nil)) (pg_name (i := 1) nd rfl (Or.inl rfl))
      (pss_cons (ps_set (i := 2) nd rfl (Or.inl rfl) (pe_call St.g hr1 rfl St.m St.k St.b .nil pass0 (pa_cons (pv 0) (pa_cons (pv 1) pa_nil))))
      (pss_cons (ps_set (i := 3) nd rfl (Or.inl rfl) (pe_call Al.g hr3 rfl Al.m Al.k Al.b .nil pass0 (pa_cons (pv 2) pa_nil)))
      (pss_cons (ps_set (i := 4) nd rfl (Or.inl rfl) (pe_call Ls.g hr4 rfl Ls.m Ls.k Ls.b .nil pass0 (pa_cons (pv 2) (pa_cons (pv 3) (pa_cons pe_int pa_nil)))))
      (pss_cons (ps_par (i := 5) (j := 6) rfl nd rfl rfl (by decide) rfl rfl (pa_cons (pe_callTy call_list_of rfl B.list bt_list (pa_cons (pv 4) pa_nil)) (pa_cons (pe_call Se.g hr1 rfl Se.m Se.k Se.b .nil pass0 (pa_cons (pv 4) pa_nil)) pa_nil)) (by rfl))
      (pss_cons (ps_set (i := 7) nd rfl (Or.inl rfl) (ClX.pe_cmeth (pe_glob (v := .ref L) rfl TL.mC rfl) lR lM lF hr5 pass0 (pa_cons (pv 5) pa_nil)))
      (pss_cons (ps_if (pt_cmpR (op_neD hu) (pv 5) (pv 4) (nomark _)) (pss_one (ps_ret pe_bl)) pss_nil)
      (pss_cons (ps_expr (pe_bm PySem.F.plainAttrs_list PySem.F.slot_list_append PySem.F.type_list_append mt_append (pv 5) (pa_cons pe_str pa_nil)))
      (pss_cons (ps_asg pe_str (pg_sub (pv 5) pe_int set_list))
      (pss_cons (ps_if (pt_not (pt_val (pe_callG hg Tr hr rfl mT kT bT pass0 (pa_cons (pv 7) (pa_cons (pv 6) pa_nil))))) (pss_one (ps_ret pe_bl)) pss_nil)
      (pss_cons (ps_for PassesOwn.never rfl (pi_list (pe_lst (pa_cons (pe_op op_sub pe_int pe_int) (pa_cons (pe_callB call_len_seq rfl B.len PySem.boot_len (pa_cons (pv 6) pa_nil)) (pa_cons (pe_op op_add (pe_callB call_len_seq rfl B.len PySem.boot_len (pa_cons (pv 6) pa_nil)) pe_int)
            (pa_cons (pe_op op_powB pe_int pe_int) (pa_cons (pe_op op_sub (pe_op op_sub pe_int (pe_callB call_len_seq rfl B.len PySem.boot_len (pa_cons (pv 6) pa_nil))) pe_int) (pa_cons pe_non (pa_cons pe_bl (pa_cons pe_bl (pa_cons pe_str (pa_cons (pe_tup pa_nil) (pa_cons (pe_lst (pa_cons pe_int pa_nil)) pa_nil))))))))))))) (pg_name (i := 8) nd rfl (Or.inl rfl))
          (pss_one (ps_if (pt_not (pt_val (pe_callG hg Sm_ hr1 rfl mS kS bS pass0 (pa_cons (pe_call Ta.g hr7 rfl Ta.m Ta.k Ta.b .nil pass0 (pa_cons (pv 7) (pa_cons (pv 8) pa_nil))) (pa_cons (pe_lst (pa_cons pe_str (pa_cons (pe_callB call_len_seq rfl B.len PySem.boot_len (pa_cons (pv 6) pa_nil)) pa_nil))) pa_nil))))) (pss_one (ps_ret pe_bl)) pss_nil)))
      (pss_cons (ps_for PassesOwn.never rfl (pi_list (pe_call0 Od.g hr1 rfl Od.m Od.k Od.b .nil pass0)) (pg_name (i := 9) nd rfl (Or.inl rfl))
          (pss_one (ps_if (pt_not (pt_val (pe_callG hg Sm_ hr1 rfl mS kS bS pass0 (pa_cons (pe_lst (pa_cons (pe_cmpR (op_inI (E := E0) c1 c2 cF hr2 pass0) (pv 9) (pv 7) rfl) (pa_cons (pe_call Nu.g hr7 rfl Nu.m Nu.k Nu.b .nil pass0 (pa_cons (pv 7) (pa_cons (pv 9) pa_nil))) pa_nil)))
              (pa_cons (pe_lst (pa_cons pe_bl (pa_cons (pe_lst (pa_cons pe_str (pa_cons (pv 9) pa_nil))) pa_nil))) pa_nil))))) (pss_one (ps_ret pe_bl)) pss_nil)))
      (pss_cons (ps_for PassesOwn.never rfl (pi_range1 rfl B.range (pa_cons pe_int pa_nil)) (pg_name (i := 10) nd rfl (Or.inl rfl))
          (pss_cons (ps_set (i := 11) nd rfl (Or.inl rfl) (pe_call Ne.g hr4 rfl Ne.m Ne.k Ne.b .nil pass0 (pa_cons (pv 2) (pa_cons (pv 4) (pa_cons (pv 3) pa_nil)))))
          (pss_cons (ps_set (i := 12) nd rfl (Or.inl rfl) (pe_ifExp (pt_cmpR op_in_seq (pv 11) (pv 6) rfl) (pe_lst (pa_cons (pe_bm PySem.F.plainAttrs_list PySem.F.slot_list_index PySem.F.type_list_index mt_index (pv 6) (pa_cons (pv 11) pa_nil)) pa_nil)) (pe_lst (pa_cons pe_str (pa_cons (pv 11) pa_nil)))))
          (pss_one (ps_if (pt_not (pt_val (pe_callG hg Sm_ hr1 rfl mS kS bS pass0 (pa_cons (pe_lst (pa_cons (pe_cmpR (op_inI (E := E0) c1 c2 cF hr2 pass0) (pv 11) (pv 7) rfl) (pa_cons (pe_call Nu.g hr7 rfl Nu.m Nu.k Nu.b .nil pass0 (pa_cons (pv 7) (pa_cons (pv 11) pa_nil))) pa_nil)))
              (pa_cons (pe_lst (pa_cons (pe_cmpR op_in_seq (pv 11) (pv 6) rfl) (pa_cons (pv 12) pa_nil))) pa_nil))))) (pss_one (ps_ret pe_bl)) pss_nil)))))
      (pss_one (ps_if (PW.pt (pw_or (pt_not (pt_val (pe_callG hg Or_ hr rfl mO kO bO pass0 (pa_cons (pv 7) (pa_cons (pe_call Ne.g hr4 rfl Ne.m Ne.k Ne.b .nil pass0 (pa_cons (pv 2) (pa_cons (pv 4) (pa_cons (pv 3) pa_nil)))) pa_nil))))) (pw_or1 (pt_not (pt_val (pe_callG hg Tr hr rfl mT kT bT pass0 (pa_cons (pv 7) (pa_cons (pv 6) pa_nil)))))))) (pss_one (ps_ret pe_bl)) pss_nil)))))))))))))))
    (pss_one (ps_ret pe_bl)), ?_⟩
  have lns : (ns.map V.int).length = ns.length := List.length_map _
  refine ⟨_, rfl, a, _, rfl, .inl hS, _, _, rfl, _, _, rfl, ?_⟩
  have mm : ∃ m : Nat, m ≤ 3 ∧ (if (if (((ns.map V.int).length : Nat) : Int) < 3 then (((ns.map V.int).length : Nat) : Int) else 3) > 1 then (if (((ns.map V.int).length : Nat) : Int) < 3 then (((ns.map V.int).length : Nat) : Int) else 3) else 1) = (m : Int) := by
    rw [lns]
    by_cases h4 : ((ns.length : Nat) : Int) < 3
    · rw [if_pos h4]
      by_cases h1 : ((ns.length : Nat) : Int) > 1
      · rw [if_pos h1]; exact ⟨ns.length, by omega, rfl⟩
      · rw [if_neg h1]; exact ⟨1, by omega, rfl⟩
    · rw [if_neg h4]; exact ⟨3, by omega, rfl⟩
  obtain ⟨m, m4, em⟩ := mm
  rw [em]
  refine ⟨_, rfl, by omega, by omega, for_range (lo := 0) (n := m) (fun i σ H2 => SqL K H2 a (ns.map V.int) ∧ ∃ y1 y2 y3 y4 y5 y6 y7 y8 y9 y10 y11 y12, σ = [some (.ref a), y1, y2, y3, y4, y5, y6, y7, y8, y9, y10, y11, y12]) ⟨hS, none, none, none, none, none, none, none, none, none, none, none, none, rfl⟩ (fun j σ H0 hj p => ?_) (fun σ H2 p => ?_)⟩
  case refine_2 =>
    obtain ⟨_, y1, y2, y3, y4, y5, y6, y7, y8, y9, y10, y11, y12, rfl⟩ := p
    exact q H2
  obtain ⟨p0, y1, y2, y3, y4, y5, y6, y7, y8, y9, y10, y11, y12, rfl⟩ := p
  refine ⟨_, rfl, _, rfl, a, ns, _, rfl, p0, h63, hb, by omega, by omega, fun st H1 nst E1 S1 => ?_⟩
  have s1 : SqL K (Hd st H1) a (ns.map V.int) := by
    refine ex_l (H := H0) (fun b o e => hd_of ?_ (E1 b o e)) p0
    intro z; subst z; rw [nst] at e; cases e
  refine ⟨_, rfl, st, rfl, S1, fun al G1 hal A1 => ?_⟩
  refine ⟨_, rfl, _, rfl, st, al, 100, rfl, A1.sm, hal, by decide, by decide, fun tl xs G2 A2 ntl ftl lx tk => ?_⟩
  have A02 := A1.trans A2
  refine ⟨_, rfl, tl, _, rfl, .inl (SqL.of ftl), fun hl nhl => ?_⟩
  have A3 := A02.new (o := HO.lst (txV xs)) nhl
  have C3 := (Aft.of A02.sm).new (o := HO.lst (txV xs)) nhl
  have x3 := Ex.new (o := HO.lst (txV xs)) nhl
  have fhl : upd G2 hl (HO.lst (txV xs)) hl = some (.lst (txV xs)) := upd_same
  have hsl := A02.sm.ne nhl
  have hG2 : Hd st G2 hl = none := by unfold Hd; rw [if_neg hsl]; exact nhl
  have hHl : Hd st H1 hl = none := by unfold Hd; rw [if_neg hsl]; exact A02.none nhl
  have ntlh : tl ≠ hl := ne_of_none ftl nhl
  have nts : tl ≠ st := A1.sm.ne ntl
  generalize upd G2 hl (HO.lst (txV xs)) = G3 at A3 C3 x3 fhl ⊢
  refine ⟨_, rfl, tl, xs, rfl, x3 _ _ ftl, by omega, fun dl ds G4 x4 ndl fdl so mem ld => ⟨_, _, rfl, ?_⟩⟩
  have A4 := A3.ex x4
  have C4 := C3.ex x4
  have ndh : dl ≠ hl := fun z => by rw [z, fhl] at ndl; cases ndl
  have nds : dl ≠ st := A3.sm.ne ndl
  have sum : sumL xs ≤ 50000 := by
    have : ∀ l : List (List Nat), (∀ x ∈ l, x.length ≤ 500) → sumL l ≤ l.length * 500 := fun l => by
      induction l with
      | nil => intro _; exact Nat.zero_le _
      | cons y l ih =>
        intro h
        have h1 := h y (List.mem_cons_self ..)
        have h2 := ih fun x m => h x (List.mem_cons_of_mem _ m)
        show y.length + sumL l ≤ (l.length + 1) * 500
        omega
    have := this xs fun x m => (tk x m).1
    omega
  refine ⟨rfl, _, rfl, hl, xs, rfl, x4 _ _ fhl, by omega, sum, fun x G5 Gx rk x5 nx lg lnw au lG lr ac => ?_⟩
  have A5 := A4.ex x5
  have C5 := C4.ex x5
  have fhl5 := x5 _ _ (x4 _ _ fhl)
  have ftl5 := x5 _ _ (x4 _ _ (x3 _ _ ftl))
  have fdl5 := x5 _ _ fdl
  have tkd : ∀ w ∈ ds, Tk 500 w := fun w m => tk w ((mem w).mp m)
  have ew : wds Gx rk 0 = ds := Lg.sorted_eq (wds_sorted au _ 0 (Nat.lt_succ_self _) au.ne) so fun w => by
    rw [wds_mem au w 0 au.ne, ac w, mem w]
  have L5 : LgX L G5 x ds := ⟨Gx, rk, lg, au, lG, lr, ew, fun w m => by have := (tkd w m).1; omega, by omega⟩
  obtain ⟨xi, xf, _, _, _, hx5, _⟩ := id lg
  have nxh : x ≠ hl := fun z => by rw [z, fhl5] at hx5; cases hx5
  refine ⟨_, rfl, _, rfl, .list (xs.map fun w => PyData.str (tx w)), .list (xs.map fun w => PyData.str (tx w)), .lst (SqL.of fhl5) (dp_txs xs), .lst (SqL.of ftl5) (dp_txs xs), txs_shaped tk, txs_shaped tk, ?_⟩
  rw [txs_eqv]
  refine ⟨_, rfl, iteF ⟨_, rfl, .inl ⟨rfl, _, SqL.of fhl5⟩, hl, _, _, rfl, rfl, fhl5, by rw [txV_len, sizeLine_eq]; omega, ?_⟩⟩
  have fhl6 : upd G5 hl (HO.lst (txV xs ++ [V.str "other"])) hl = some (.lst (txV xs ++ [V.str "other"])) := upd_same
  refine ⟨_, rfl, hl, _, 0, 0, rfl, rfl, fhl6, ?_, ?_⟩
  · unfold ixN
    rw [if_pos (by decide), if_pos (by rw [List.length_append]; simp)]
    rfl
  have A6 := A5.mut (o := HO.lst (txV xs ++ [V.str "other"])) hsl hHl
  have C6 := C5.mut (o := HO.lst (txV xs ++ [V.str "other"])) hsl hG2
  have L6 := L5.mutT (vs := txV xs ++ [V.str "other"]) fhl5 (fun u mu => by
    obtain ⟨i, hi⟩ := List.mem_iff_getElem?.mp mu
    obtain ⟨y, _, rfl⟩ := txV_at hi
    exact ⟨_, rfl⟩)
  have ftl6 : upd G5 hl (HO.lst (txV xs ++ [V.str "other"])) tl = some (.lst (txV xs)) := by rw [upd_ne ntlh]; exact ftl5
  have fdl6 : upd G5 hl (HO.lst (txV xs ++ [V.str "other"])) dl = some (.lst (txV ds)) := by rw [upd_ne ndh]; exact fdl5
  have hx6 : upd G5 hl (HO.lst (txV xs ++ [V.str "other"])) x = some (.ins L xi xf) := by rw [upd_ne nxh]; exact hx5
  generalize upd G5 hl (HO.lst (txV xs ++ [V.str "other"])) = G6 at A6 C6 L6 ftl6 fdl6 hx6 fhl6 ⊢
  have A7 := A6.mut (o := HO.lst ((txV xs ++ [V.str "other"]).set 0 (V.str "another"))) hsl hHl
  have C7 := C6.mut (o := HO.lst ((txV xs ++ [V.str "other"]).set 0 (V.str "another"))) hsl hG2
  have L7 := L6.mutT (vs := (txV xs ++ [V.str "other"]).set 0 (V.str "another")) fhl6 (fun u mu => by
    rcases List.mem_append.mp mu with mu | mu
    · obtain ⟨i, hi⟩ := List.mem_iff_getElem?.mp mu
      obtain ⟨y, _, rfl⟩ := txV_at hi
      exact ⟨_, rfl⟩
    · exact ⟨_, List.mem_singleton.mp mu⟩)
  have ftl7 : upd G6 hl (HO.lst ((txV xs ++ [V.str "other"]).set 0 (V.str "another"))) tl = some (.lst (txV xs)) := by rw [upd_ne ntlh]; exact ftl6
  have fdl7 : upd G6 hl (HO.lst ((txV xs ++ [V.str "other"]).set 0 (V.str "another"))) dl = some (.lst (txV ds)) := by rw [upd_ne ndh]; exact fdl6
  have hx7 : upd G6 hl (HO.lst ((txV xs ++ [V.str "other"]).set 0 (V.str "another"))) x = some (.ins L xi xf) := by rw [upd_ne nxh]; exact hx6
  generalize upd G6 hl (HO.lst ((txV xs ++ [V.str "other"]).set 0 (V.str "another"))) = G7 at A7 C7 L7 ftl7 fdl7 hx7 ⊢
  have X7 : Fix L st tl al dl x xs ds G7 := by
    obtain ⟨d7, s7, e7, _⟩ := A7.sm
    obtain ⟨d4, s4, e4, _⟩ := A4.sm
    have hal7 : AlpAt (Hd st G7) al := (hal.mono A2.gr).mono C7.gr
    exact ⟨A7.sm, hd_of nts ftl7, hal7, hd_of nds fdl7, L7.hd e7 (fun C dx fs h' => by
      rw [hx7] at h'
      cases h'
      exact lnw _ _ _ hx5) e4⟩
  refine ⟨_, rfl, _, rfl, x, dl, ds, rfl, X7.lx.mono hd_le, hd_le _ _ X7.dl, tkd, by omega, fun G8 x8 => ⟨true, rfl, iteF ?_⟩⟩
  have A8 := A7.trans (X7.sm.af x8)
  have X8 := X7.aft (X7.sm.af x8)
  clear A1 A2 A02 A3 A4 A5 A6 A7 C3 C4 C5 C6 C7 L5 L6 L7 ftl7 fdl7 hx7 X7 x8
  have sdl := SqL.of (K := K) (hd_le _ _ X8.dl)
  refine ⟨_, _, rfl, rfl, _, rfl, dl, _, rfl, .inl sdl, _, rfl, dl, _, rfl, .inl sdl, _, _, rfl, rfl, _, _, rfl, rfl, ⟨by decide, by decide +kernel⟩, _, rfl, dl, _, rfl, .inl sdl, _, _, rfl, rfl, _, _, rfl, rfl, ?_⟩
  refine ⟨nle' (by show 0 ≤ 1000; decide), fun tp ntp => ⟨nle' (by show 1 ≤ 1000; decide), fun l0 nl0 => ⟨nle' (by show 11 ≤ 1000; decide), fun Tl nT => ?_⟩⟩⟩
  have ld9 : ds.length < 1000 := by omega
  have fT : upd (upd (upd G8 tp (HO.tup [])) l0 (HO.lst [V.int 0])) Tl (HO.lst [V.int (0 - 1), V.int ((txV ds).length : Int), V.int (((txV ds).length : Int) + 7), V.int (10 ^ (30 : Int).toNat), V.int (0 - ((txV ds).length : Int) - 1), V.non, V.bl true, V.bl false, V.str "0", V.ref tp, V.ref l0]) Tl = some (.lst [V.int (0 - 1), V.int ((txV ds).length : Int), V.int (((txV ds).length : Int) + 7), V.int (10 ^ (30 : Int).toNat), V.int (0 - ((txV ds).length : Int) - 1), V.non, V.bl true, V.bl false, V.str "0", V.ref tp, V.ref l0]) := upd_same
  have xT := Ex.new (o := HO.lst [V.int (0 - 1), V.int ((txV ds).length : Int), V.int (((txV ds).length : Int) + 7), V.int (10 ^ (30 : Int).toNat), V.int (0 - ((txV ds).length : Int) - 1), V.non, V.bl true, V.bl false, V.str "0", V.ref tp, V.ref l0]) nT
  have x0 := Ex.new (o := HO.lst [V.int 0]) nl0
  have ftp := xT _ _ (x0 _ _ (upd_same (o := HO.tup []) (H := G8) (a := tp)))
  have fl0 := xT _ _ (upd_same (o := HO.lst [V.int 0]) (H := upd G8 tp (HO.tup [])) (a := l0))
  have x9 := ((Ex.new (o := HO.tup []) ntp).trans x0).trans xT
  clear xT x0
  generalize upd (upd (upd G8 tp (HO.tup [])) l0 (HO.lst [V.int 0])) Tl (HO.lst [V.int (0 - 1), V.int ((txV ds).length : Int), V.int (((txV ds).length : Int) + 7), V.int (10 ^ (30 : Int).toNat), V.int (0 - ((txV ds).length : Int) - 1), V.non, V.bl true, V.bl false, V.str "0", V.ref tp, V.ref l0]) = G9 at fT ftp fl0 x9 ⊢
  have A9 := A8.trans (X8.sm.af x9)
  have X9 := X8.aft (X8.sm.af x9)
  clear A8 X8 x9
  have nn : ∀ v ∈ [V.int (0 - 1), V.int ((txV ds).length : Int), V.int (((txV ds).length : Int) + 7), V.int (10 ^ (30 : Int).toNat), V.int (0 - ((txV ds).length : Int) - 1), V.non, V.bl true, V.bl false, V.str "0", V.ref tp, V.ref l0], NnOf ds.length G9 v := fun v m => by
    have e : (txV ds).length = ds.length := txV_len ..
    simp only [List.mem_cons, List.not_mem_nil, or_false] at m
    rcases m with rfl | rfl | rfl | rfl | rfl | rfl | rfl | rfl | rfl | rfl | rfl
    · exact .inl ⟨_, rfl, by omega⟩
    · exact .inl ⟨_, rfl, by omega⟩
    · exact .inl ⟨_, rfl, by omega⟩
    · refine .inl ⟨_, rfl, ?_⟩
      have : (10 : Int) ^ (30 : Int).toNat = 1000000000000000000000000000000 := by decide +kernel
      rw [this]; omega
    · exact .inl ⟨_, rfl, by omega⟩
    · exact .inr (.inr (.inl rfl))
    · exact .inr (.inl ⟨_, rfl⟩)
    · exact .inr (.inl ⟨_, rfl⟩)
    · exact .inr (.inr (.inr (.inl ⟨_, rfl⟩)))
    · exact .inr (.inr (.inr (.inr ⟨_, _, rfl, .inr ftp⟩)))
    · exact .inr (.inr (.inr (.inr ⟨_, _, rfl, .inl fl0⟩)))
  have shc : Shw (.list [.str "refused", .int (ds.length : Int)]) := by
    refine shw_l (m := 2) (B := 100) (fun y my => ?_) (Nat.le_refl _) (by decide)
    rcases List.mem_cons.mp my with rfl | my
    · exact ⟨by decide +kernel, by decide +kernel, by decide +kernel⟩
    · cases List.mem_singleton.mp my
      exact (sm_nat _ (by omega)).le (by decide)
  generalize [V.int (0 - 1), V.int ((txV ds).length : Int), V.int (((txV ds).length : Int) + 7), V.int (10 ^ (30 : Int).toNat), V.int (0 - ((txV ds).length : Int) - 1), V.non, V.bl true, V.bl false, V.str "0", V.ref tp, V.ref l0] = L11 at fT nn
  refine ⟨Tl, rfl, ⟨_, SqL.of fT⟩, for_list (xs := L11) (fun i σ H' => Ex G9 H' ∧ ∃ z8 z9 z10 z11 z12, σ = [some (.ref a), some (.int (0 + (j : Int))), some (.ref st), some (.ref al), some (.ref tl), some (.ref hl), some (.ref dl), some (.ref x), z8, z9, z10, z11, z12]) ⟨Ex.refl _, _, _, _, _, _, rfl⟩ (fun i σ H' _ p => SqL.of (p.1 _ _ fT)) (fun i v σ H' hv p => ?_) (fun σ H' p => ?_)⟩
  · obtain ⟨px, z8, z9, z10, z11, z12, rfl⟩ := p
    have nv := (nn v (List.mem_of_getElem? hv)).at_ (K := K) px
    have lx := X9.lx.mono (hd_le.trans px)
    refine ⟨_, rfl, _, rfl, x, ds, v, rfl, lx, nv, fun la Ha xa fa => ?_⟩
    have pa := px.trans xa
    refine ⟨_, rfl, dl, _, rfl, .inl (SqL.of (pa _ _ (hd_le _ _ X9.dl))), nle' (by show 2 ≤ 1000; decide), fun lb nb => ⟨.ref la, .ref lb, _, rfl, .lst ((Ex.new nb) _ _ fa) (.cons (.str _) (.cons (.int _) .nil)), .lst upd_same (by rw [txV_len]; exact (.cons (.str _) (.cons (.int _) .nil))), shc, true, rfl, iteF ?_⟩⟩
    exact ⟨pa.trans (Ex.new nb), _, _, _, _, _, rfl⟩
  obtain ⟨x10, z8, z9, z10, z11, z12, rfl⟩ := p
  have A10 := A9.trans (X9.sm.af x10)
  have X10 := X9.aft (X9.sm.af x10)
  clear A9 X9 x10 nn shc fT ftp fl0 nT nl0 ntp sdl
  -- other values
  refine ⟨rfl, fun lo us G11 x11 nlo flo dq => ⟨lo, rfl, ⟨_, SqL.of flo⟩, for_list (xs := us) (fun i σ H' => Ex G11 H' ∧ ∃ z8 z9 z10 z11 z12, σ = [some (.ref a), some (.int (0 + (j : Int))), some (.ref st), some (.ref al), some (.ref tl), some (.ref hl), some (.ref dl), some (.ref x), z8, z9, z10, z11, z12]) ⟨Ex.refl _, _, _, _, _, _, rfl⟩ (fun i σ H' _ p => SqL.of (p.1 _ _ flo)) (fun i v σ H3 hv p => ?_) (fun σ H3 p => ?_)⟩⟩
  · obtain ⟨px, z8, z9, z10, z11, z12, rfl⟩ := p
    obtain ⟨d, hd, dv⟩ := dq.get hv
    have md := List.mem_of_getElem? hd
    have dv := dv.mono px
    have lx := X10.lx.mono (hd_le.trans (x11.trans px))
    obtain ⟨Gr, rk, lgr, au, _⟩ := id lx
    obtain ⟨dr, fr, _, _, _, hr_, _⟩ := id lgr
    refine ⟨_, rfl, _, rfl, x, dr, fr, rfl, hr_, x, Gr, rk, lgr, au, .inr ⟨_, _, rfl, dv.ty, odd_str d md, false, rfl, ?_⟩⟩
    refine ⟨_, rfl, _, rfl, x, ds, v, rfl, lx, .inr ⟨.inr ⟨_, dv.ty, odd_str d md⟩, fun la Ha xa fa => ?_⟩⟩
    refine ⟨nle' (by show 2 ≤ 1000; decide), fun l1 n1 => ⟨_, rfl, nle' (by show 2 ≤ 1000; decide), fun l2 n2 => ⟨nle' (by show 2 ≤ 1000; decide), fun l3 n3 => ?_⟩⟩⟩
    have y1 := Ex.new (o := HO.lst [V.bl false, V.ref la]) n1
    have y2 := Ex.new (o := HO.lst [V.str "refused", v]) n2
    have y3 := Ex.new (o := HO.lst [V.bl false, V.ref l2]) n3
    have y := (y1.trans y2).trans y3
    have dv' := dv.mono (xa.trans y)
    have da : Dq _ (.ref la) (.list [.str "refused", d]) := .lst (y _ _ fa) (.cons (.str _) (.cons dv' .nil))
    have db : Dq _ (.ref l2) (.list [.str "refused", d]) := .lst (y3 _ _ upd_same) (.cons (.str _) (.cons dv' .nil))
    refine ⟨.ref l1, .ref l3, .list [.bool false, .list [.str "refused", d]], rfl, .lst ((y2.trans y3) _ _ upd_same) (.cons (.bl _) (.cons da .nil)), .lst upd_same (.cons (.bl _) (.cons db .nil)), odd_shw d md, true, rfl, iteF ?_⟩
    exact ⟨(px.trans xa).trans y, _, _, _, _, _, rfl⟩
  obtain ⟨x12, z8, z9, z10, z11, z12, rfl⟩ := p
  have A12 := A10.trans (X10.sm.af (x11.trans x12))
  have X12 := X10.aft (X10.sm.af (x11.trans x12))
  clear A10 X10 x11 x12 dq flo nlo
  -- near texts
  refine ⟨_, rfl, by omega, by omega, for_range (lo := 0) (n := 6) (fun i σ H' => Aft st H3 H' ∧ ∃ z8 z9 z10 z11 z12, σ = [some (.ref a), some (.int (0 + (j : Int))), some (.ref st), some (.ref al), some (.ref tl), some (.ref hl), some (.ref dl), some (.ref x), z8, z9, z10, z11, z12]) ⟨Aft.of X12.sm, _, _, _, _, _, rfl⟩ (fun i σ H4 _ p => ?_) (fun σ H4 p => ?_)⟩
  · obtain ⟨pA, z8, z9, z10, z11, z12, rfl⟩ := p
    have XA := X12.aft pA
    refine ⟨_, rfl, _, rfl, _, rfl, st, tl, al, xs, rfl, XA.sm, XA.tl, XA.al, by omega, tk, fun cs H5 tc A5 => ?_⟩
    have X5 := XA.aft A5
    have p5 := pA.trans A5
    have tcl := tc.1
    have sdl := SqL.of (K := K) (hd_le _ _ X5.dl)
    have lx := X5.lx.mono hd_le
    obtain ⟨Gr, rk, lgr, au, _, _, ew2, _⟩ := id lx
    obtain ⟨dr, fr, _, _, _, hr_, _⟩ := id lgr
    have eac : acc Gr cs 0 = decide (cs ∈ ds) := by
      have := wds_mem au cs 0 au.ne
      rw [ew2] at this
      cases e : acc Gr cs 0 with
      | true => exact (decide_eq_true (this.mpr e)).symm
      | false => exact (decide_eq_false fun m => by rw [this.mp m] at e; cases e).symm
    refine ⟨_, rfl, _, rfl, dl, _, rfl, .inl sdl, rfl, flat_txs ds, _, rfl, ?_⟩
    rw [inV_txs]
    by_cases mc : cs ∈ ds
    · rw [decide_eq_true mc]
      obtain ⟨jj, lj, ej⟩ := List.mem_iff_getElem.mp mc
      have lds : ds.length ≤ 1000 := by omega
      refine iteT ⟨_, rfl, .inl ⟨rfl, _, sdl⟩, _, rfl, dl, _, _, jj, .str (tx cs), rfl, rfl, sdl, rfl, flat_txs ds, ?_, ?_, ?_, ?_⟩
      · simp [txV, List.getElem?_eq_getElem lj, ej]
      · simp [eqV]
      · intro mm z' hm hz
        obtain ⟨y, hy, rfl⟩ := txV_at hz
        obtain ⟨lm, em⟩ := List.getElem?_eq_some_iff.mp hy
        show (tx y == tx cs) = false
        rw [beq_eq_false_iff_ne]
        intro e
        have e := tx_inj e
        have := List.pairwise_iff_getElem.mp so mm jj lm lj hm
        rw [em, ej, e] at this
        exact List.lt_irrefl _ this
      refine ⟨nle' (by show 1 ≤ 1000; decide), fun lt nt => ?_⟩
      have xt := Ex.new (o := HO.lst [V.int (jj : Int)]) nt
      have ft : upd H5 lt (HO.lst [V.int (jj : Int)]) lt = some (.lst [V.int (jj : Int)]) := upd_same
      generalize upd H5 lt (HO.lst [V.int (jj : Int)]) = G6 at xt ft ⊢
      refine ⟨_, rfl, _, rfl, x, dr, fr, rfl, xt _ _ hr_, x, Gr, rk, lgr.mono xt, au, .inl ⟨cs, rfl, by omega, acc Gr cs 0, rfl, ?_⟩⟩
      rw [eac, decide_eq_true mc]
      refine ⟨_, rfl, _, rfl, x, ds, _, rfl, lx.mono xt, .inl ⟨jj, cs, rfl, by rw [List.getElem?_eq_getElem lj, ej], fun la Ha xa fa => ?_⟩⟩
      refine ⟨nle' (by show 2 ≤ 1000; decide), fun l1 n1 => ⟨_, rfl, _, rfl, dl, _, rfl, .inl (SqL.of (xt.trans (xa.trans (Ex.new n1)) _ _ (hd_le _ _ X5.dl))), rfl, flat_txs ds, ?_⟩⟩
      rw [inV_txs, decide_eq_true mc]
      refine ⟨_, rfl, nle' (by show 2 ≤ 1000; decide), fun l3 n3 => ?_⟩
      have y1 := Ex.new (o := HO.lst [V.bl true, V.ref la]) n1
      have y3 := Ex.new (o := HO.lst [V.bl true, V.ref lt]) n3
      have da : Dq _ (.ref la) (.list [.int (jj : Int)]) := .lst ((y1.trans y3) _ _ fa) (.cons (.int _) .nil)
      have db : Dq _ (.ref lt) (.list [.int (jj : Int)]) := .lst ((xa.trans (y1.trans y3)) _ _ ft) (.cons (.int _) .nil)
      refine ⟨.ref l1, .ref l3, .list [.bool true, .list [.int (jj : Int)]], rfl, .lst (y3 _ _ upd_same) (.cons (.bl _) (.cons da .nil)), .lst upd_same (.cons (.bl _) (.cons db .nil)), ?_, true, rfl, iteF ?_⟩
      · refine shw_l (m := 2) (B := 1000) (fun y my => ?_) (Nat.le_refl _) (by decide)
        rcases List.mem_cons.mp my with rfl | my
        · exact (sm_bool true).le (by decide)
        · cases List.mem_singleton.mp my
          exact (sm_l (m := 1) (B := 10) (D := 0) (fun y my => by
            cases List.mem_singleton.mp my
            exact sm_nat _ (by omega)) (Nat.le_refl _) (by simp [PyData.depthAll, PyData.depth]) (by decide)).le (by decide)
      exact ⟨p5.trans (X5.sm.af (xt.trans (xa.trans (y1.trans y3)))), _, _, _, _, _, rfl⟩
    · rw [decide_eq_false mc]
      refine iteF ⟨_, rfl, nle' (by show 2 ≤ 1000; decide), fun lt nt => ?_⟩
      have xt := Ex.new (o := HO.lst [V.str "refused", V.str (tx cs)]) nt
      have ft : upd H5 lt (HO.lst [V.str "refused", V.str (tx cs)]) lt = some (.lst [V.str "refused", V.str (tx cs)]) := upd_same
      generalize upd H5 lt (HO.lst [V.str "refused", V.str (tx cs)]) = G6 at xt ft ⊢
      refine ⟨_, rfl, _, rfl, x, dr, fr, rfl, xt _ _ hr_, x, Gr, rk, lgr.mono xt, au, .inl ⟨cs, rfl, by omega, acc Gr cs 0, rfl, ?_⟩⟩
      rw [eac, decide_eq_false mc]
      refine ⟨_, rfl, _, rfl, x, ds, _, rfl, lx.mono xt, .inr ⟨.inl ⟨cs, rfl, by omega, mc⟩, fun la Ha xa fa => ?_⟩⟩
      refine ⟨nle' (by show 2 ≤ 1000; decide), fun l1 n1 => ⟨_, rfl, _, rfl, dl, _, rfl, .inl (SqL.of (xt.trans (xa.trans (Ex.new n1)) _ _ (hd_le _ _ X5.dl))), rfl, flat_txs ds, ?_⟩⟩
      rw [inV_txs, decide_eq_false mc]
      refine ⟨_, rfl, nle' (by show 2 ≤ 1000; decide), fun l3 n3 => ?_⟩
      have y1 := Ex.new (o := HO.lst [V.bl false, V.ref la]) n1
      have y3 := Ex.new (o := HO.lst [V.bl false, V.ref lt]) n3
      have da : Dq _ (.ref la) (.list [.str "refused", .str (tx cs)]) := .lst ((y1.trans y3) _ _ fa) (.cons (.str _) (.cons (.str _) .nil))
      have db : Dq _ (.ref lt) (.list [.str "refused", .str (tx cs)]) := .lst ((xa.trans (y1.trans y3)) _ _ ft) (.cons (.str _) (.cons (.str _) .nil))
      refine ⟨.ref l1, .ref l3, .list [.bool false, .list [.str "refused", .str (tx cs)]], rfl, .lst (y3 _ _ upd_same) (.cons (.bl _) (.cons da .nil)), .lst upd_same (.cons (.bl _) (.cons db .nil)), ?_, true, rfl, iteF ?_⟩
      · refine shw_l (m := 2) (B := 30000) (fun y my => ?_) (Nat.le_refl _) (by decide)
        rcases List.mem_cons.mp my with rfl | my
        · exact (sm_bool false).le (by decide)
        · cases List.mem_singleton.mp my
          exact (sm_l (m := 2) (B := 10012) (D := 1) (fun y my => by
            rcases List.mem_cons.mp my with rfl | my
            · exact ⟨by decide +kernel, by decide +kernel, by decide +kernel⟩
            · cases List.mem_singleton.mp my
              exact sm_txt tc) (Nat.le_refl _) (by simp [PyData.depthAll, PyData.depth]) (by decide)).le (by decide)
      exact ⟨p5.trans (X5.sm.af (xt.trans (xa.trans (y1.trans y3)))), _, _, _, _, _, rfl⟩
  obtain ⟨pA, z8, z9, z10, z11, z12, rfl⟩ := p
  have A13 := A12.trans pA
  have X13 := X12.aft pA
  clear A12 X12 pA
  have lx := X13.lx.mono hd_le
  refine ⟨_, rfl, _, rfl, _, rfl, _, rfl, st, tl, al, xs, rfl, X13.sm, X13.tl, X13.al, by omega, tk, fun cs H5 tc A5 => ?_⟩
  have X5 := X13.aft A5
  have A15 := A13.trans A5
  refine ⟨x, ds, cs, rfl, X5.lx.mono hd_le, tc, fun H6 x6 => ⟨true, rfl, iteF ?_⟩⟩
  have X6 := X5.aft (X5.sm.af x6)
  have A16 := A15.trans (X5.sm.af x6)
  refine ⟨_, rfl, _, rfl, x, dl, ds, rfl, X6.lx.mono hd_le, hd_le _ _ X6.dl, tkd, by omega, fun H7 x7 => ⟨true, rfl, iteF ?_⟩⟩
  have A17 := A16.trans (X6.sm.af x7)
  refine ⟨?_, _, _, _, _, _, _, _, _, _, _, _, _, rfl⟩
  exact ex_l (Ex.trans A17.gr hd_le) s1
end
end Sk

namespace Sk
open PySem PySem.Spec PyProof.Rows L2 Evl PySem.SkE
theorem all_mk {P : Program} {w : World} {K : PySem.W.Frag} {h : Heap} {mg : Str → Option Value} {fa f0 f1 f2 f3 f4 f5 f6 f7 f8 f9 f10 f11 f12 f13 f14 f15 f16 f17 f18 f19 f20 f21 f22 f23 f24 f25 f26 f27 f28 S c0 i0 c1 i1 : Addr} (X : K.In h) (G : h.Ns mainGlobals mg) (hfa : mg "law" = some (.ref fa))
    {od0 an0 od1 an1 od2 an2 od3 an3 od4 an4 od5 an5 od6 an6 od7 an7 od8 an8 od9 an9 od10 an10 od11 an11 od12 an12 od13 an13 od14 an14 od15 an15 od16 an16 od17 an17 od18 an18 od19 an19 od20 an20 od21 an21 od22 an22 od23 an23 od24 an24 od25 an25 od26 an26 od27 an27 od28 an28 : Option Addr} {sl0 sl1 sl2 sl3 sl4 sl5 sl6 sl7 sl8 sl9 sl10 sl11 sl12 sl13 sl14 sl15 sl16 sl17 sl18 sl19 sl20 sl21 sl22 sl23 sl24 sl25 sl26 sl27 sl28 : Array (Option Value)} {oc0 kV0 dc0 pm0 cd0 ct0 oc1 kV1 dc1 pm1 cd1 ct1 oc2 kV2 dc2 pm2 cd2 ct2 oc3 kV3 dc3 pm3 cd3 ct3 oc4 kV4 dc4 pm4 cd4 ct4 oc5 kV5 dc5 pm5 cd5 ct5 oc6 kV6 dc6 pm6 cd6 ct6 oc7 kV7 dc7 pm7 cd7 ct7 oc8 kV8 dc8 pm8 cd8 ct8 oc9 kV9 dc9 pm9 cd9 ct9 oc10 kV10 dc10 pm10 cd10 ct10 oc11 kV11 dc11 pm11 cd11 ct11 oc12 kV12 dc12 pm12 cd12 ct12 oc13 kV13 dc13 pm13 cd13 ct13 oc14 kV14 dc14 pm14 cd14 ct14 oc15 kV15 dc15 pm15 cd15 ct15 oc16 kV16 dc16 pm16 cd16 ct16 oc17 kV17 dc17 pm17 cd17 ct17 oc18 kV18 dc18 pm18 cd18 ct18 oc19 kV19 dc19 pm19 cd19 ct19 oc20 kV20 dc20 pm20 cd20 ct20 oc21 kV21 dc21 pm21 cd21 ct21 oc22 kV22 dc22 pm22 cd22 ct22 oc23 kV23 dc23 pm23 cd23 ct23 oc24 kV24 dc24 pm24 cd24 ct24 oc25 kV25 dc25 pm25 cd25 ct25 oc26 kV26 dc26 pm26 cd26 ct26 oc27 kV27 dc27 pm27 cd27 ct27 oc28 kV28 dc28 pm28 cd28 ct28 : Value}
    (a0 : PySem.W.nsIn K mainGlobals "is_whole" = some (some (.ref f0))) (l0 : K.lookup f0 = some ⟨oc0, od0, .func (PySem.W.fnOf "is_whole" "is_whole" (defArgs sWhole) (defBody sWhole) (defScope sWhole) .none kV0 dc0 pm0 an0 cd0 ct0), sl0⟩) (c0_ : PySem.W.codeIn K cd0 "is_whole" = true) (k0 : PySem.W.keepIn K (.ref f0) = true)
    (a1 : PySem.W.nsIn K mainGlobals "is_sign" = some (some (.ref f1))) (l1 : K.lookup f1 = some ⟨oc1, od1, .func (PySem.W.fnOf "is_sign" "is_sign" (defArgs sSign) (defBody sSign) (defScope sSign) .none kV1 dc1 pm1 an1 cd1 ct1), sl1⟩) (c1_ : PySem.W.codeIn K cd1 "is_sign" = true) (k1 : PySem.W.keepIn K (.ref f1) = true)
    (a2 : PySem.W.nsIn K mainGlobals "is_step" = some (some (.ref f2))) (l2 : K.lookup f2 = some ⟨oc2, od2, .func (PySem.W.fnOf "is_step" "is_step" (defArgs sStep) (defBody sStep) (defScope sStep) .none kV2 dc2 pm2 an2 cd2 ct2), sl2⟩) (c2_ : PySem.W.codeIn K cd2 "is_step" = true) (k2 : PySem.W.keepIn K (.ref f2) = true)
    (a3 : PySem.W.nsIn K mainGlobals "are_steps" = some (some (.ref f3))) (l3 : K.lookup f3 = some ⟨oc3, od3, .func (PySem.W.fnOf "are_steps" "are_steps" (defArgs sAre) (defBody sAre) (defScope sAre) .none kV3 dc3 pm3 an3 cd3 ct3), sl3⟩) (c3_ : PySem.W.codeIn K cd3 "are_steps" = true) (k3 : PySem.W.keepIn K (.ref f3) = true)
    (a4 : PySem.W.nsIn K mainGlobals "common_start" = some (some (.ref f4))) (l4 : K.lookup f4 = some ⟨oc4, od4, .func (PySem.W.fnOf "common_start" "common_start" (defArgs sCommon) (defBody sCommon) (defScope sCommon) .none kV4 dc4 pm4 an4 cd4 ct4), sl4⟩) (c4_ : PySem.W.codeIn K cd4 "common_start" = true) (k4 : PySem.W.keepIn K (.ref f4) = true)
    (a5 : PySem.W.nsIn K mainGlobals "renumbered" = some (some (.ref f5))) (l5 : K.lookup f5 = some ⟨oc5, od5, .func (PySem.W.fnOf "renumbered" "renumbered" (defArgs sRenum) (defBody sRenum) (defScope sRenum) .none kV5 dc5 pm5 an5 cd5 ct5), sl5⟩) (c5_ : PySem.W.codeIn K cd5 "renumbered" = true) (k5 : PySem.W.keepIn K (.ref f5) = true)
    (a6 : PySem.W.nsIn K mainGlobals "ascending_order" = some (some (.ref f6))) (l6 : K.lookup f6 = some ⟨oc6, od6, .func (PySem.W.fnOf "ascending_order" "ascending_order" (defArgs sAscend) (defBody sAscend) (defScope sAscend) .none kV6 dc6 pm6 an6 cd6 ct6), sl6⟩) (c6_ : PySem.W.codeIn K cd6 "ascending_order" = true) (k6 : PySem.W.keepIn K (.ref f6) = true)
    (a7 : PySem.W.nsIn K mainGlobals "counts_of" = some (some (.ref f7))) (l7 : K.lookup f7 = some ⟨oc7, od7, .func (PySem.W.fnOf "counts_of" "counts_of" (defArgs sCounts) (defBody sCounts) (defScope sCounts) .none kV7 dc7 pm7 an7 cd7 ct7), sl7⟩) (c7_ : PySem.W.codeIn K cd7 "counts_of" = true) (k7 : PySem.W.keepIn K (.ref f7) = true)
    (a8 : PySem.W.nsIn K mainGlobals "moves_of_states" = some (some (.ref f8))) (l8 : K.lookup f8 = some ⟨oc8, od8, .func (PySem.W.fnOf "moves_of_states" "moves_of_states" (defArgs sMoves) (defBody sMoves) (defScope sMoves) .none kV8 dc8 pm8 an8 cd8 ct8), sl8⟩) (c8_ : PySem.W.codeIn K cd8 "moves_of_states" = true) (k8 : PySem.W.keepIn K (.ref f8) = true)
    (a9 : PySem.W.nsIn K mainGlobals "state_behind" = some (some (.ref f9))) (l9 : K.lookup f9 = some ⟨oc9, od9, .func (PySem.W.fnOf "state_behind" "state_behind" (defArgs sBehind) (defBody sBehind) (defScope sBehind) .none kV9 dc9 pm9 an9 cd9 ct9), sl9⟩) (c9_ : PySem.W.codeIn K cd9 "state_behind" = true) (k9 : PySem.W.keepIn K (.ref f9) = true)
    (a10 : PySem.W.nsIn K mainGlobals "states_of_texts" = some (some (.ref f10))) (l10 : K.lookup f10 = some ⟨oc10, od10, .func (PySem.W.fnOf "states_of_texts" "states_of_texts" (defArgs sTexts) (defBody sTexts) (defScope sTexts) .none kV10 dc10 pm10 an10 cd10 ct10), sl10⟩) (c10_ : PySem.W.codeIn K cd10 "states_of_texts" = true) (k10 : PySem.W.keepIn K (.ref f10) = true)
    (a11 : PySem.W.nsIn K mainGlobals "_law_stream" = some (some (.ref f11))) (l11 : K.lookup f11 = some ⟨oc11, od11, .func (PySem.W.fnOf "_law_stream" "_law_stream" (defArgs sStream) (defBody sStream) (defScope sStream) .none kV11 dc11 pm11 an11 cd11 ct11), sl11⟩) (c11_ : PySem.W.codeIn K cd11 "_law_stream" = true) (k11 : PySem.W.keepIn K (.ref f11) = true)
    (a12 : PySem.W.nsIn K mainGlobals "_law_draw" = some (some (.ref f12))) (l12 : K.lookup f12 = some ⟨oc12, od12, .func (PySem.W.fnOf "_law_draw" "_law_draw" (defArgs sDraw) (defBody sDraw) (defScope sDraw) .none kV12 dc12 pm12 an12 cd12 ct12), sl12⟩) (c12_ : PySem.W.codeIn K cd12 "_law_draw" = true) (k12 : PySem.W.keepIn K (.ref f12) = true)
    (a13 : PySem.W.nsIn K mainGlobals "_law_choose" = some (some (.ref f13))) (l13 : K.lookup f13 = some ⟨oc13, od13, .func (PySem.W.fnOf "_law_choose" "_law_choose" (defArgs sChoose) (defBody sChoose) (defScope sChoose) .none kV13 dc13 pm13 an13 cd13 ct13), sl13⟩) (c13_ : PySem.W.codeIn K cd13 "_law_choose" = true) (k13 : PySem.W.keepIn K (.ref f13) = true)
    (a14 : PySem.W.nsIn K mainGlobals "_law_signs" = some (some (.ref f14))) (l14 : K.lookup f14 = some ⟨oc14, od14, .func (PySem.W.fnOf "_law_signs" "_law_signs" (defArgs sSigns) (defBody sSigns) (defScope sSigns) .none kV14 dc14 pm14 an14 cd14 ct14), sl14⟩) (c14_ : PySem.W.codeIn K cd14 "_law_signs" = true) (k14 : PySem.W.keepIn K (.ref f14) = true)
    (a15 : PySem.W.nsIn K mainGlobals "_law_alphabet" = some (some (.ref f15))) (l15 : K.lookup f15 = some ⟨oc15, od15, .func (PySem.W.fnOf "_law_alphabet" "_law_alphabet" (defArgs sAlph) (defBody sAlph) (defScope sAlph) .none kV15 dc15 pm15 an15 cd15 ct15), sl15⟩) (c15_ : PySem.W.codeIn K cd15 "_law_alphabet" = true) (k15 : PySem.W.keepIn K (.ref f15) = true)
    (a16 : PySem.W.nsIn K mainGlobals "_law_word" = some (some (.ref f16))) (l16 : K.lookup f16 = some ⟨oc16, od16, .func (PySem.W.fnOf "_law_word" "_law_word" (defArgs sWord) (defBody sWord) (defScope sWord) .none kV16 dc16 pm16 an16 cd16 ct16), sl16⟩) (c16_ : PySem.W.codeIn K cd16 "_law_word" = true) (k16 : PySem.W.keepIn K (.ref f16) = true)
    (a17 : PySem.W.nsIn K mainGlobals "_law_all" = some (some (.ref f17))) (l17 : K.lookup f17 = some ⟨oc17, od17, .func (PySem.W.fnOf "_law_all" "_law_all" (defArgs sAll) (defBody sAll) (defScope sAll) .none kV17 dc17 pm17 an17 cd17 ct17), sl17⟩) (c17_ : PySem.W.codeIn K cd17 "_law_all" = true) (k17 : PySem.W.keepIn K (.ref f17) = true)
    (a18 : PySem.W.nsIn K mainGlobals "_law_listed" = some (some (.ref f18))) (l18 : K.lookup f18 = some ⟨oc18, od18, .func (PySem.W.fnOf "_law_listed" "_law_listed" (defArgs sLsd) (defBody sLsd) (defScope sLsd) .none kV18 dc18 pm18 an18 cd18 ct18), sl18⟩) (c18_ : PySem.W.codeIn K cd18 "_law_listed" = true) (k18 : PySem.W.keepIn K (.ref f18) = true)
    (a19 : PySem.W.nsIn K mainGlobals "_law_set" = some (some (.ref f19))) (l19 : K.lookup f19 = some ⟨oc19, od19, .func (PySem.W.fnOf "_law_set" "_law_set" (defArgs sSet) (defBody sSet) (defScope sSet) .none kV19 dc19 pm19 an19 cd19 ct19), sl19⟩) (c19_ : PySem.W.codeIn K cd19 "_law_set" = true) (k19 : PySem.W.keepIn K (.ref f19) = true)
    (a20 : PySem.W.nsIn K mainGlobals "_law_texts_of" = some (some (.ref f20))) (l20 : K.lookup f20 = some ⟨oc20, od20, .func (PySem.W.fnOf "_law_texts_of" "_law_texts_of" (defArgs sTextsOf) (defBody sTextsOf) (defScope sTextsOf) .none kV20 dc20 pm20 an20 cd20 ct20), sl20⟩) (c20_ : PySem.W.codeIn K cd20 "_law_texts_of" = true) (k20 : PySem.W.keepIn K (.ref f20) = true)
    (a21 : PySem.W.nsIn K mainGlobals "_law_near" = some (some (.ref f21))) (l21 : K.lookup f21 = some ⟨oc21, od21, .func (PySem.W.fnOf "_law_near" "_law_near" (defArgs sNear) (defBody sNear) (defScope sNear) .none kV21 dc21 pm21 an21 cd21 ct21), sl21⟩) (c21_ : PySem.W.codeIn K cd21 "_law_near" = true) (k21 : PySem.W.keepIn K (.ref f21) = true)
    (a22 : PySem.W.nsIn K mainGlobals "_law_odd" = some (some (.ref f22))) (l22 : K.lookup f22 = some ⟨oc22, od22, .func (PySem.W.fnOf "_law_odd" "_law_odd" (defArgs sOdd) (defBody sOdd) (defScope sOdd) .none kV22 dc22 pm22 an22 cd22 ct22), sl22⟩) (c22_ : PySem.W.codeIn K cd22 "_law_odd" = true) (k22 : PySem.W.keepIn K (.ref f22) = true)
    (a23 : PySem.W.nsIn K mainGlobals "_law_same" = some (some (.ref f23))) (l23 : K.lookup f23 = some ⟨oc23, od23, .func (PySem.W.fnOf "_law_same" "_law_same" (defArgs sSame) (defBody sSame) (defScope sSame) .none kV23 dc23 pm23 an23 cd23 ct23), sl23⟩) (c23_ : PySem.W.codeIn K cd23 "_law_same" = true) (k23 : PySem.W.keepIn K (.ref f23) = true)
    (a24 : PySem.W.nsIn K mainGlobals "_law_text_at" = some (some (.ref f24))) (l24 : K.lookup f24 = some ⟨oc24, od24, .func (PySem.W.fnOf "_law_text_at" "_law_text_at" (defArgs sTextAt) (defBody sTextAt) (defScope sTextAt) .none kV24 dc24 pm24 an24 cd24 ct24), sl24⟩) (c24_ : PySem.W.codeIn K cd24 "_law_text_at" = true) (k24 : PySem.W.keepIn K (.ref f24) = true)
    (a25 : PySem.W.nsIn K mainGlobals "_law_number_of" = some (some (.ref f25))) (l25 : K.lookup f25 = some ⟨oc25, od25, .func (PySem.W.fnOf "_law_number_of" "_law_number_of" (defArgs sNumberOf) (defBody sNumberOf) (defScope sNumberOf) .none kV25 dc25 pm25 an25 cd25 ct25), sl25⟩) (c25_ : PySem.W.codeIn K cd25 "_law_number_of" = true) (k25 : PySem.W.keepIn K (.ref f25) = true)
    (a26 : PySem.W.nsIn K mainGlobals "_law_objects_right" = some (some (.ref f26))) (l26 : K.lookup f26 = some ⟨oc26, od26, .func (PySem.W.fnOf "_law_objects_right" "_law_objects_right" (defArgs sObjR) (defBody sObjR) (defScope sObjR) .none kV26 dc26 pm26 an26 cd26 ct26), sl26⟩) (c26_ : PySem.W.codeIn K cd26 "_law_objects_right" = true) (k26 : PySem.W.keepIn K (.ref f26) = true)
    (a27 : PySem.W.nsIn K mainGlobals "_law_told_right" = some (some (.ref f27))) (l27 : K.lookup f27 = some ⟨oc27, od27, .func (PySem.W.fnOf "_law_told_right" "_law_told_right" (defArgs sToldR) (defBody sToldR) (defScope sToldR) .none kV27 dc27 pm27 an27 cd27 ct27), sl27⟩) (c27_ : PySem.W.codeIn K cd27 "_law_told_right" = true) (k27 : PySem.W.keepIn K (.ref f27) = true)
    (a28 : PySem.W.nsIn K mainGlobals "law" = some (some (.ref f28))) (l28 : K.lookup f28 = some ⟨oc28, od28, .func (PySem.W.fnOf "law" "law" (defArgs sLaw) (defBody sLaw) (defScope sLaw) .none kV28 dc28 pm28 an28 cd28 ct28), sl28⟩) (c28_ : PySem.W.codeIn K cd28 "law" = true) (k28 : PySem.W.keepIn K (.ref f28) = true)
    (aS : PySem.W.nsIn K mainGlobals "SchemaError" = some (some (.ref S)))
    {nm0 q0 nm1 q1 : Str} {N0 N1 : Addr} {bs0 sb0 bs1 sb1 : List Value} {sn0 sn1 : List Str} {ab0 ab1 : Bool} {cl0 cl1 : Option Bool} {dd0 eo0 en0 dd1 eo1 en1 : Option Addr} {u0 v0 w0 x0 y0 u1 v1 w1 x1 y1 : Option Value} {ec0 ed0 ep0 ev0 et0 ec1 ed1 ep1 ev1 et1 : Value} {es0 es1 : Array (Option Value)} {p0 r0 s0 t0 g0 j0 p1 r1 s1 t1 g1 j1 : Pos}
    (A0 : PySem.W.nsIn K mainGlobals "NoSuchText" = some (some (.ref c0))) (B0 : K.lookup c0 = some (excClassObj nm0 q0 c0 N0 bs0 [.ref S, .type "ValueError", .type "Exception", .type "BaseException", .type "object"] true sn0 sb0 ab0 cl0 dd0 u0 v0 w0 x0 y0 "ValueError.__new__")) (C0 : PySem.W.findIn K (.ref c0) "__setattr__" = some (some (.builtin "object.__setattr__"))) (D0 : PySem.W.findIn K (.ref c0) "__getattribute__" = some (some (.builtin "BaseException.__getattribute__"))) (E0 : PySem.W.findIn K (.ref c0) "__getattr__" = some none) (F0 : PySem.W.findIn K (.ref c0) "count" = some none) (G0 : PySem.W.findIn K (.ref c0) "__init__" = some (some (.ref i0))) (H0 : PySem.W.typeIn K (.ref i0) = some (.type "function")) (I0 : PySem.W.keepIn K (.ref c0) = true) (J0 : PySem.W.subIn K (.ref c0) (.type "BaseException") = some true) (K0 : PySem.W.typeIn K (.ref c0) = some (.type "type")) (L0 : PySem.W.hasDictIn K c0 = true) (M0 : K.lookup i0 = some ⟨ec0, eo0, .func (PySem.W.fnOf "__init__" "NoSuchText.__init__" (SkE.iA "count" p0 r0) (SkE.iB "count" s0 t0 g0 j0) (SkE.iS "count") .none .none ed0 ep0 en0 ev0 et0), es0⟩) (O0 : PySem.W.codeIn K ev0 "NoSuchText.__init__" = true) (P0 : (PySem.W.clsIn K c0).isSome = true) (Q0 : PySem.W.findIn K (.ref c0) "__class__" = some (some (.builtin "object.__class__"))) (U0 : PySem.W.mroIn K c0 (.type "object") = some true)
    (A1 : PySem.W.nsIn K mainGlobals "NotInside" = some (some (.ref c1))) (B1 : K.lookup c1 = some (excClassObj nm1 q1 c1 N1 bs1 [.ref S, .type "ValueError", .type "Exception", .type "BaseException", .type "object"] true sn1 sb1 ab1 cl1 dd1 u1 v1 w1 x1 y1 "ValueError.__new__")) (C1 : PySem.W.findIn K (.ref c1) "__setattr__" = some (some (.builtin "object.__setattr__"))) (D1 : PySem.W.findIn K (.ref c1) "__getattribute__" = some (some (.builtin "BaseException.__getattribute__"))) (E1 : PySem.W.findIn K (.ref c1) "__getattr__" = some none) (F1 : PySem.W.findIn K (.ref c1) "wrong" = some none) (G1 : PySem.W.findIn K (.ref c1) "__init__" = some (some (.ref i1))) (H1 : PySem.W.typeIn K (.ref i1) = some (.type "function")) (I1 : PySem.W.keepIn K (.ref c1) = true) (J1 : PySem.W.subIn K (.ref c1) (.type "BaseException") = some true) (K1 : PySem.W.typeIn K (.ref c1) = some (.type "type")) (L1 : PySem.W.hasDictIn K c1 = true) (M1 : K.lookup i1 = some ⟨ec1, eo1, .func (PySem.W.fnOf "__init__" "NotInside.__init__" (SkE.iA "wrong" p1 r1) (SkE.iB "wrong" s1 t1 g1 j1) (SkE.iS "wrong") .none .none ed1 ep1 en1 ev1 et1), es1⟩) (O1 : PySem.W.codeIn K ev1 "NotInside.__init__" = true) (P1 : (PySem.W.clsIn K c1).isSome = true) (Q1 : PySem.W.findIn K (.ref c1) "__class__" = some (some (.builtin "object.__class__"))) (U1 : PySem.W.mroIn K c1 (.type "object") = some true)
    (X0 : PySem.W.specialIn K (.builtin "object.__class__") "__get__" = some (some (.builtin "getset_descriptor.__get__"))) (X1 : PySem.W.takesIn K (.builtin "object.__class__") = some true)
    (X2 : ((List.range 2).all fun n => (List.range 2).all fun k => PySem.W.kitOne K (.ref ([c0, c1].getD n 0)) (.ref ([c0, c1].getD k 0)) == some (decide (n = k))) = true) (X3 : ((List.range 2).all fun n => PySem.W.kitOne K (.ref ([c0, c1].getD n 0)) (.ref S) == some true) = true) (X4 : ((List.range 2).all fun n => PySem.W.kitOne K (.ref ([c0, c1].getD n 0)) (.type "ValueError") == some true) = true)
    {SC SL pK pLk gI gK gE gLi gLk gLe gLb gLc gLg gLr : Addr} {tN : Tok} {rK rLk : List Value} {odI anI odK anK odE anE odLi anLi odLk anLk odLe anLe odLb anLb odLc anLc odLg anLg odLr anLr : Option Addr} {slI slK slE slLi slLk slLe slLb slLc slLg slLr : Array (Option Value)} {ocI kVI dcI pmI cdI ctI ocK kVK dcK pmK cdK ctK ocE kVE dcE pmE cdE ctE ocLi kVLi dcLi pmLi cdLi ctLi ocLk kVLk dcLk pmLk cdLk ctLk ocLe kVLe dcLe pmLe cdLe ctLe ocLb kVLb dcLb pmLb cdLb ctLb ocLc kVLc dcLc pmLc cdLc ctLc ocLg kVLg dcLg pmLg cdLg ctLg ocLr kVLr dcLr pmLr cdLr ctLr : Value}
    (ex0 : PySem.W.nsIn K mainGlobals "tuple" = some none)
    (ex1 : PySem.W.nsIn K mainGlobals "set" = some none)
    (ex2 : PySem.W.nsIn K mainGlobals "zip" = some none)
    (ex3 : PySem.W.nsIn K mainGlobals "sum" = some none)
    (X10 : PySem.W.nsIn K mainGlobals "NOWHERE" = some (some (.int (-1) tN)))
    (X11 : PySem.W.specialIn K (.builtin "object.__class__") "__get__" = some (some (.builtin "getset_descriptor.__get__")))
    (X12 : PySem.W.takesIn K (.builtin "object.__class__") = some true)
    (X13 : PySem.W.nsIn K mainGlobals "Script" = some (some (.ref SC)))
    (X14 : PySem.W.plainGet K SC Str.empty = true)
    (X15 : PySem.W.hasDictIn K SC = true)
    (X16 : PySem.W.plainOver K SC = true)
    (X17 : PySem.W.findIn K (.ref SC) "__setattr__" = some (some (.builtin "object.__setattr__")))
    (X18 : PySem.W.findIn K (.ref SC) "steps" = some none)
    (X19 : PySem.W.findIn K (.ref SC) "given" = some none)
    (X20 : PySem.W.findIn K (.ref SC) "made" = some none)
    (X21 : PySem.W.findIn K (.ref SC) "__class__" = some (some (.builtin "object.__class__")))
    (X22 : PySem.W.mroIn K SC (.type "object") = some true)
    (X23 : PySem.W.kitOne K (.ref SC) (.ref SC) = some true)
    (X24 : PySem.W.kitOne K (.ref SC) (.type "str") = some false)
    (X25 : PySem.W.kitOne K (.ref SC) (.type "int") = some false)
    (X26 : PySem.W.makesIn K SC = true)
    (X27 : PySem.W.keepIn K (.ref SC) = true)
    (X28 : PySem.W.readsIn K SC (.type "type") = true)
    (X29 : PySem.W.specialIn K (.ref SC) "__getattribute__" = some (some (.builtin "type.__getattribute__")))
    (X30 : PySem.W.nsIn K mainGlobals "Language" = some (some (.ref SL)))
    (X31 : PySem.W.plainGet K SL Str.empty = true)
    (X32 : PySem.W.hasDictIn K SL = true)
    (X33 : PySem.W.plainOver K SL = true)
    (X34 : PySem.W.findIn K (.ref SL) "__setattr__" = some (some (.builtin "object.__setattr__")))
    (X35 : PySem.W.findIn K (.ref SL) "_states" = some none)
    (X36 : PySem.W.findIn K (.ref SL) "_moves" = some none)
    (X37 : PySem.W.findIn K (.ref SL) "_many" = some none)
    (X38 : PySem.W.findIn K (.ref SL) "count" = some none)
    (X39 : PySem.W.findIn K (.ref SL) "_kept_net" = some none)
    (X40 : PySem.W.findIn K (.ref SL) "__class__" = some (some (.builtin "object.__class__")))
    (X41 : PySem.W.mroIn K SL (.type "object") = some true)
    (X42 : PySem.W.kitOne K (.ref SL) (.ref SL) = some true)
    (X43 : PySem.W.kitOne K (.ref SL) (.type "str") = some false)
    (X44 : PySem.W.kitOne K (.ref SL) (.type "int") = some false)
    (X45 : PySem.W.makesIn K SL = true)
    (X46 : PySem.W.keepIn K (.ref SL) = true)
    (X47 : PySem.W.readsIn K SL (.type "type") = true)
    (X48 : PySem.W.specialIn K (.ref SL) "__getattribute__" = some (some (.builtin "type.__getattribute__")))
    (X49 : PySem.W.findIn K (.ref SC) "__init__" = some (some (.ref gI)))
    (X50 : PySem.W.isFn K (.ref gI) = true)
    (X51 : K.lookup gI = some ⟨ocI, odI, .func (PySem.W.fnOf "__init__" "Script.__init__" (defArgs sInit) (defBody sInit) (defScope sInit) .none kVI dcI pmI anI cdI ctI), slI⟩)
    (X52 : PySem.W.codeIn K cdI "Script.__init__" = true)
    (X53 : PySem.W.keepIn K (.ref gI) = true)
    (X54 : PySem.W.findCls K (.ref SC) (.type "type") "kept" = some (.get (.builtin "classmethod.__get__") (.ref pK) .none (.ref SC)))
    (X55 : PySem.W.recIn K pK "classmethod" = some (.ref gK :: rK))
    (X56 : PySem.W.fnIn K gK = true)
    (X57 : PySem.W.isFn K (.ref gK) = true)
    (X58 : K.lookup gK = some ⟨ocK, odK, .func (PySem.W.fnOf "kept" "Script.kept" (defArgs sKept) (defBody sKept) (defScope sKept) .none kVK dcK pmK anK cdK ctK), slK⟩)
    (X59 : PySem.W.codeIn K cdK "Script.kept" = true)
    (X60 : PySem.W.keepIn K (.ref gK) = true)
    (X61 : PySem.W.findIn K (.ref SC) "__eq__" = some (some (.ref gE)))
    (X62 : PySem.W.isFn K (.ref gE) = true)
    (X63 : K.lookup gE = some ⟨ocE, odE, .func (PySem.W.fnOf "__eq__" "Script.__eq__" (defArgs sEq) (defBody sEq) (defScope sEq) .none kVE dcE pmE anE cdE ctE), slE⟩)
    (X64 : PySem.W.codeIn K cdE "Script.__eq__" = true)
    (X65 : PySem.W.keepIn K (.ref gE) = true)
    (X66 : PySem.W.findIn K (.ref SL) "__init__" = some (some (.ref gLi)))
    (X67 : PySem.W.isFn K (.ref gLi) = true)
    (X68 : K.lookup gLi = some ⟨ocLi, odLi, .func (PySem.W.fnOf "__init__" "Language.__init__" (defArgs sLInit) (defBody sLInit) (defScope sLInit) .none kVLi dcLi pmLi anLi cdLi ctLi), slLi⟩)
    (X69 : PySem.W.codeIn K cdLi "Language.__init__" = true)
    (X70 : PySem.W.keepIn K (.ref gLi) = true)
    (X71 : PySem.W.findCls K (.ref SL) (.type "type") "listed" = some (.get (.builtin "classmethod.__get__") (.ref pLk) .none (.ref SL)))
    (X72 : PySem.W.recIn K pLk "classmethod" = some (.ref gLk :: rLk))
    (X73 : PySem.W.fnIn K gLk = true)
    (X74 : PySem.W.isFn K (.ref gLk) = true)
    (X75 : K.lookup gLk = some ⟨ocLk, odLk, .func (PySem.W.fnOf "listed" "Language.listed" (defArgs sListed) (defBody sListed) (defScope sListed) .none kVLk dcLk pmLk anLk cdLk ctLk), slLk⟩)
    (X76 : PySem.W.codeIn K cdLk "Language.listed" = true)
    (X77 : PySem.W.keepIn K (.ref gLk) = true)
    (X78 : PySem.W.findIn K (.ref SL) "__eq__" = some (some (.ref gLe)))
    (X79 : PySem.W.isFn K (.ref gLe) = true)
    (X80 : K.lookup gLe = some ⟨ocLe, odLe, .func (PySem.W.fnOf "__eq__" "Language.__eq__" (defArgs sLEq) (defBody sLEq) (defScope sLEq) .none kVLe dcLe pmLe anLe cdLe ctLe), slLe⟩)
    (X81 : PySem.W.codeIn K cdLe "Language.__eq__" = true)
    (X82 : PySem.W.keepIn K (.ref gLe) = true)
    (X83 : PySem.W.findIn K (.ref SL) "__bool__" = some (some (.ref gLb)))
    (X84 : PySem.W.isFn K (.ref gLb) = true)
    (X85 : K.lookup gLb = some ⟨ocLb, odLb, .func (PySem.W.fnOf "__bool__" "Language.__bool__" (defArgs sLBool) (defBody sLBool) (defScope sLBool) .none kVLb dcLb pmLb anLb cdLb ctLb), slLb⟩)
    (X86 : PySem.W.codeIn K cdLb "Language.__bool__" = true)
    (X87 : PySem.W.keepIn K (.ref gLb) = true)
    (X88 : PySem.W.findIn K (.ref SL) "__contains__" = some (some (.ref gLc)))
    (X89 : PySem.W.isFn K (.ref gLc) = true)
    (X90 : K.lookup gLc = some ⟨ocLc, odLc, .func (PySem.W.fnOf "__contains__" "Language.__contains__" (defArgs sLCon) (defBody sLCon) (defScope sLCon) .none kVLc dcLc pmLc anLc cdLc ctLc), slLc⟩)
    (X91 : PySem.W.codeIn K cdLc "Language.__contains__" = true)
    (X92 : PySem.W.keepIn K (.ref gLc) = true)
    (X93 : PySem.W.findIn K (.ref SL) "__getitem__" = some (some (.ref gLg)))
    (X94 : PySem.W.fnIn K gLg = true)
    (X95 : PySem.W.isFn K (.ref gLg) = true)
    (X96 : K.lookup gLg = some ⟨ocLg, odLg, .func (PySem.W.fnOf "__getitem__" "Language.__getitem__" (defArgs sLGet) (defBody sLGet) (defScope sLGet) .none kVLg dcLg pmLg anLg cdLg ctLg), slLg⟩)
    (X97 : PySem.W.codeIn K cdLg "Language.__getitem__" = true)
    (X98 : PySem.W.keepIn K (.ref gLg) = true)
    (X99 : PySem.W.findIn K (.ref SL) "rank_of" = some (some (.ref gLr)))
    (X100 : PySem.W.isFn K (.ref gLr) = true)
    (X101 : K.lookup gLr = some ⟨ocLr, odLr, .func (PySem.W.fnOf "rank_of" "Language.rank_of" (defArgs sLRank) (defBody sLRank) (defScope sLRank) .none kVLr dcLr pmLr anLr cdLr ctLr), slLr⟩)
    (X102 : PySem.W.codeIn K cdLr "Language.rank_of" = true)
    (X103 : PySem.W.keepIn K (.ref gLr) = true)
    (X104 : PySem.W.exmOne K (.ref c0) (.ref c0) = some true)
    (X105 : PySem.W.exmOne K (.ref c1) (.ref c1) = some true)
    (z0 : PySem.W.nsIn K mainGlobals "isinstance" = some none)
    (z1 : PySem.W.nsIn K mainGlobals "bool" = some none)
    (z2 : PySem.W.nsIn K mainGlobals "int" = some none)
    (z3 : PySem.W.nsIn K mainGlobals "str" = some none)
    (z4 : PySem.W.nsIn K mainGlobals "list" = some none)
    (z5 : PySem.W.nsIn K mainGlobals "dict" = some none)
    (z6 : PySem.W.nsIn K mainGlobals "sorted" = some none)
    (z7 : PySem.W.nsIn K mainGlobals "len" = some none)
    (z8 : PySem.W.nsIn K mainGlobals "range" = some none)
    (z9 : PySem.W.nsIn K mainGlobals "min" = some none)
    (z10 : PySem.W.nsIn K mainGlobals "max" = some none)
    (z11 : PySem.W.nsIn K mainGlobals "repr" = some none)
    : ∃ fd : FuncData, (∀ (s : Shared) (u : Value), BindsTo s fd ⟨[u], []⟩ [("script", u)]) ∧ ∀ base : Heap, K.In base → base.Ns mainGlobals mg → LawOk P w K mg base fa fd "script" (spLaw K) := by
  have e := hfa.symm.trans (PySem.W.mg_of X G a28)
  cases e
  have F0_ := fun_mk (st := sWhole) l0 c0_ k0
  have F1_ := fun_mk (st := sSign) l1 c1_ k1
  have F2_ := fun_mk (st := sStep) l2 c2_ k2
  have F3_ := fun_mk (st := sAre) l3 c3_ k3
  have F4_ := fun_mk (st := sCommon) l4 c4_ k4
  have F5_ := fun_mk (st := sRenum) l5 c5_ k5
  have F6_ := fun_mk (st := sAscend) l6 c6_ k6
  have F7_ := fun_mk (st := sCounts) l7 c7_ k7
  have F8_ := fun_mk (st := sMoves) l8 c8_ k8
  have F9_ := fun_mk (st := sBehind) l9 c9_ k9
  have F10_ := fun_mk (st := sTexts) l10 c10_ k10
  have F11_ := fun_mk (st := sStream) l11 c11_ k11
  have F12_ := fun_mk (st := sDraw) l12 c12_ k12
  have F13_ := fun_mk (st := sChoose) l13 c13_ k13
  have F14_ := fun_mk (st := sSigns) l14 c14_ k14
  have F15_ := fun_mk (st := sAlph) l15 c15_ k15
  have F16_ := fun_mk (st := sWord) l16 c16_ k16
  have F17_ := fun_mk (st := sAll) l17 c17_ k17
  have F18_ := fun_mk (st := sLsd) l18 c18_ k18
  have F19_ := fun_mk (st := sSet) l19 c19_ k19
  have F20_ := fun_mk (st := sTextsOf) l20 c20_ k20
  have F21_ := fun_mk (st := sNear) l21 c21_ k21
  have F22_ := fun_mk (st := sOdd) l22 c22_ k22
  have F23_ := fun_mk (st := sSame) l23 c23_ k23
  have F24_ := fun_mk (st := sTextAt) l24 c24_ k24
  have F25_ := fun_mk (st := sNumberOf) l25 c25_ k25
  have F26_ := fun_mk (st := sObjR) l26 c26_ k26
  have F27_ := fun_mk (st := sToldR) l27 c27_ k27
  have F28_ := fun_mk (st := sLaw) l28 c28_ k28
  have b0 := F0_.binds (ps := ["thing"]) fun _ _ _ _ _ _ us hl => match us, hl with | [_], _ => rfl
  have m0 := PySem.W.mg_of X G a0
  have b1 := F1_.binds (ps := ["thing"]) fun _ _ _ _ _ _ us hl => match us, hl with | [_], _ => rfl
  have m1 := PySem.W.mg_of X G a1
  have b2 := F2_.binds (ps := ["thing"]) fun _ _ _ _ _ _ us hl => match us, hl with | [_], _ => rfl
  have m2 := PySem.W.mg_of X G a2
  have b3 := F3_.binds (ps := ["thing"]) fun _ _ _ _ _ _ us hl => match us, hl with | [_], _ => rfl
  have m3 := PySem.W.mg_of X G a3
  have b4 := F4_.binds (ps := ["first", "second"]) fun _ _ _ _ _ _ us hl => match us, hl with | [_, _], _ => rfl
  have m4 := PySem.W.mg_of X G a4
  have b5 := F5_.binds (ps := ["states", "first"]) fun _ _ _ _ _ _ us hl => match us, hl with | [_, _], _ => rfl
  have m5 := PySem.W.mg_of X G a5
  have b6 := F6_.binds (ps := ["states"]) fun _ _ _ _ _ _ us hl => match us, hl with | [_], _ => rfl
  have m6 := PySem.W.mg_of X G a6
  have b7 := F7_.binds (ps := ["states"]) fun _ _ _ _ _ _ us hl => match us, hl with | [_], _ => rfl
  have m7 := PySem.W.mg_of X G a7
  have b8 := F8_.binds (ps := ["states"]) fun _ _ _ _ _ _ us hl => match us, hl with | [_], _ => rfl
  have m8 := PySem.W.mg_of X G a8
  have b9 := F9_.binds (ps := ["moves", "text"]) fun _ _ _ _ _ _ us hl => match us, hl with | [_, _], _ => rfl
  have m9 := PySem.W.mg_of X G a9
  have b10 := F10_.binds (ps := ["texts"]) fun _ _ _ _ _ _ us hl => match us, hl with | [_], _ => rfl
  have m10 := PySem.W.mg_of X G a10
  have b11 := F11_.binds (ps := ["script", "start_v"]) fun _ _ _ _ _ _ us hl => match us, hl with | [_, _], _ => rfl
  have m11 := PySem.W.mg_of X G a11
  have b12 := F12_.binds (ps := ["stream", "size"]) fun _ _ _ _ _ _ us hl => match us, hl with | [_, _], _ => rfl
  have m12 := PySem.W.mg_of X G a12
  have b13 := F13_.binds (ps := ["stream", "items"]) fun _ _ _ _ _ _ us hl => match us, hl with | [_, _], _ => rfl
  have m13 := PySem.W.mg_of X G a13
  have b14 := F14_.binds (ps := []) fun _ _ _ _ _ _ us hl => match us, hl with | [], _ => rfl
  have m14 := PySem.W.mg_of X G a14
  have b15 := F15_.binds (ps := ["stream"]) fun _ _ _ _ _ _ us hl => match us, hl with | [_], _ => rfl
  have m15 := PySem.W.mg_of X G a15
  have b16 := F16_.binds (ps := ["stream", "signs", "most"]) fun _ _ _ _ _ _ us hl => match us, hl with | [_, _, _], _ => rfl
  have m16 := PySem.W.mg_of X G a16
  have b17 := F17_.binds (ps := ["signs", "most"]) fun _ _ _ _ _ _ us hl => match us, hl with | [_, _], _ => rfl
  have m17 := PySem.W.mg_of X G a17
  have b18 := F18_.binds (ps := ["stream", "signs", "far"]) fun _ _ _ _ _ _ us hl => match us, hl with | [_, _, _], _ => rfl
  have m18 := PySem.W.mg_of X G a18
  have b19 := F19_.binds (ps := ["texts"]) fun _ _ _ _ _ _ us hl => match us, hl with | [_], _ => rfl
  have m19 := PySem.W.mg_of X G a19
  have b20 := F20_.binds (ps := ["language"]) fun _ _ _ _ _ _ us hl => match us, hl with | [_], _ => rfl
  have m20 := PySem.W.mg_of X G a20
  have b21 := F21_.binds (ps := ["stream", "texts", "signs"]) fun _ _ _ _ _ _ us hl => match us, hl with | [_, _, _], _ => rfl
  have m21 := PySem.W.mg_of X G a21
  have b22 := F22_.binds (ps := []) fun _ _ _ _ _ _ us hl => match us, hl with | [], _ => rfl
  have m22 := PySem.W.mg_of X G a22
  have b23 := F23_.binds (ps := ["one", "two"]) fun _ _ _ _ _ _ us hl => match us, hl with | [_, _], _ => rfl
  have m23 := PySem.W.mg_of X G a23
  have b24 := F24_.binds (ps := ["language", "number"]) fun _ _ _ _ _ _ us hl => match us, hl with | [_, _], _ => rfl
  have m24 := PySem.W.mg_of X G a24
  have b25 := F25_.binds (ps := ["language", "text"]) fun _ _ _ _ _ _ us hl => match us, hl with | [_, _], _ => rfl
  have m25 := PySem.W.mg_of X G a25
  have b26 := F26_.binds (ps := ["language", "word"]) fun _ _ _ _ _ _ us hl => match us, hl with | [_, _], _ => rfl
  have m26 := PySem.W.mg_of X G a26
  have b27 := F27_.binds (ps := ["language", "due"]) fun _ _ _ _ _ _ us hl => match us, hl with | [_, _], _ => rfl
  have m27 := PySem.W.mg_of X G a27
  have B : Blt mg := ⟨PySem.W.mg_none_of X G z0, PySem.W.mg_none_of X G z1, PySem.W.mg_none_of X G z2, PySem.W.mg_none_of X G z3, PySem.W.mg_none_of X G z4, PySem.W.mg_none_of X G z5, PySem.W.mg_none_of X G z6, PySem.W.mg_none_of X G z7, PySem.W.mg_none_of X G z8, PySem.W.mg_none_of X G z9, PySem.W.mg_none_of X G z10, PySem.W.mg_none_of X G z11⟩
  have T0 : SkE.ErrTxt K mg "NoSuchText" "count" "NoSuchText.__init__" c0 i0 := { gC := PySem.W.mg_of X G A0, cls := ⟨_, _, _, _, _, _, _, _, _, _, _, _, _, _, _, B0, rfl⟩, sa := C0, ga := D0, gg := E0, noN := F0, iC := G0, tC := H0, kC := I0, exC := J0, tyC := K0, hdC := L0, fn := ⟨_, _, _, _, _, _, _, _, _, _, _, _, _, _, M0, O0⟩, cl_ := P0, hCl := Q0, hGt := X0, hTk := X1, hOb := U0 }
  have T1 : SkE.ErrTxt K mg "NotInside" "wrong" "NotInside.__init__" c1 i1 := { gC := PySem.W.mg_of X G A1, cls := ⟨_, _, _, _, _, _, _, _, _, _, _, _, _, _, _, B1, rfl⟩, sa := C1, ga := D1, gg := E1, noN := F1, iC := G1, tC := H1, kC := I1, exC := J1, tyC := K1, hdC := L1, fn := ⟨_, _, _, _, _, _, _, _, _, _, _, _, _, _, M1, O1⟩, cl_ := P1, hCl := Q1, hGt := X0, hTk := X1, hOb := U1 }
  have mS := PySem.W.mg_of X G aS
  let C : Nat → Addr := fun n => [c0, c1].getD n 0
  let I : Nat → Addr := fun n => [i0, i1].getD n 0
  refine ⟨PySem.W.fnOf "law" "law" (defArgs sLaw) (defBody sLaw) (defScope sLaw) .none kV28 dc28 pm28 an28 cd28 ct28, fun s v => .of_eq rfl, fun base _ _ => ?_⟩
  have B2 : Blt2 mg := ⟨PySem.W.mg_none_of X G ex0, PySem.W.mg_none_of X G ex1, PySem.W.mg_none_of X G ex2⟩
  have ms : mg "sum" = none := PySem.W.mg_none_of X G ex3
  have nw : ∃ t, mg "NOWHERE" = some (.int (-1) t) := ⟨_, PySem.W.mg_of X G X10⟩
  have gDr : FnOk P w K mg base CX0 1 f12 _ ["stream", "size"] spDraw := ok_draw (k := 0) F12_ B
  have W : Drw P w K mg base f12 f13 _ _ := ⟨gDr, b12, k12, m12, ok_choose (k := 1) F13_ gDr b12 k12 m12 B.len, b13, k13, m13⟩
  have Sgn : Lt P w K mg base f1 _ "is_sign" ["thing"] 1 spSign := ⟨ok_sign (k := 0) F1_ B, b1, k1, m1⟩
  have Stp : Lt P w K mg base f2 _ "is_step" ["thing"] 2 spStep := ⟨ok_step F2_ B B2 Sgn, b2, k2, m2⟩
  have Are : Lt P w K mg base f3 _ "are_steps" ["thing"] 3 spAre := ⟨ok_are F3_ B B2 Stp, b3, k3, m3⟩
  have Wh : Lt P w K mg base f0 _ "is_whole" ["thing"] 1 (spWh K) := ⟨ok_wh (k := 0) F0_ B, b0, k0, m0⟩
  have MI := fun_mk (st := sInit) X51 X52 X53
  have bMI := MI.binds (ps := ["self", "steps"]) fun _ _ _ _ _ _ us hl => match us, hl with | [_, _], _ => rfl
  have MK := fun_mk (st := sKept) X58 X59 X60
  have bMK := MK.binds (ps := ["cls", "text"]) fun _ _ _ _ _ _ us hl => match us, hl with | [_, _], _ => rfl
  have ME := fun_mk (st := sEq) X63 X64 X65
  have bME := ME.binds (ps := ["self", "other"]) fun _ _ _ _ _ _ us hl => match us, hl with | [_, _], _ => rfl
  have MLi := fun_mk (st := sLInit) X68 X69 X70
  have bMLi := MLi.binds (ps := ["self", "states"]) fun _ _ _ _ _ _ us hl => match us, hl with | [_, _], _ => rfl
  have MLk := fun_mk (st := sListed) X75 X76 X77
  have bMLk := MLk.binds (ps := ["cls", "texts"]) fun _ _ _ _ _ _ us hl => match us, hl with | [_, _], _ => rfl
  have MLe := fun_mk (st := sLEq) X80 X81 X82
  have bMLe := MLe.binds (ps := ["self", "other"]) fun _ _ _ _ _ _ us hl => match us, hl with | [_, _], _ => rfl
  have MLb := fun_mk (st := sLBool) X85 X86 X87
  have bMLb := MLb.binds (ps := ["self"]) fun _ _ _ _ _ _ us hl => match us, hl with | [_], _ => rfl
  have MLc := fun_mk (st := sLCon) X90 X91 X92
  have bMLc := MLc.binds (ps := ["self", "text"]) fun _ _ _ _ _ _ us hl => match us, hl with | [_, _], _ => rfl
  have MLg := fun_mk (st := sLGet) X96 X97 X98
  have bMLg := MLg.binds (ps := ["self", "number"]) fun _ _ _ _ _ _ us hl => match us, hl with | [_, _], _ => rfl
  have MLr := fun_mk (st := sLRank) X101 X102 X103
  have bMLr := MLr.binds (ps := ["self", "text"]) fun _ _ _ _ _ _ us hl => match us, hl with | [_, _], _ => rfl
  have TT : ScT K mg SC := ⟨⟨X14, X15, X16, X17⟩, X18, X19, X20, PySem.W.mg_of X G X13⟩
  have MM : ScM K mg SC := ⟨TT, X21, X11, X12, X22, X23⟩
  have MKc : Mk K SC gI := ⟨X26, X49, X50, X27⟩
  have TL : LgT K mg SL := ⟨⟨X31, X32, X33, X34⟩, X35, X36, X37, X38, X39, PySem.W.mg_of X G X30, X40, X11, X12, X41, X42⟩
  have MKl : Mk K SL gLi := ⟨X45, X66, X67, X46⟩
  have Gi : FnOk P w K mg base CX0 4 gI _ ["self", "steps"] (spIni SC) := ok_ini MI B B2 TT Are
  have QI : FnR P w K mg base CX0 4 gI (spIni SC) := ((Gi : FnOk P w K mg base CX0 4 gI _ _ (spIni SC)).raw bMI .nil).imp fun vs H Q E h => by rw [List.append_nil]; exact h
  have QE : FnR P w K mg base CX0 3 gE (spEqT SC) := ((ok_eq ME B MM : FnOk P w K mg base CX0 3 gE _ _ (spEqT SC)).raw bME .nil).imp fun vs H Q E h => by rw [List.append_nil]; exact h
  have QK : FnR P w K mg base CX0 6 gK (spKep SC) := ((ok_kep MK MKc Gi bMI : FnOk P w K mg base CX0 6 gK _ _ (spKep SC)).raw bMK .nil).imp fun vs H Q E h => by rw [List.append_nil]; exact h
  have Com : Lt P w K mg base f4 _ "common_start" ["first", "second"] 1 spComG := ⟨ok_comG (k0 := 0) F4_ B B2, b4, k4, m4⟩
  have Ren : Lt P w K mg base f5 _ "renumbered" ["states", "first"] 1 (spRenG K) := ⟨ok_renG (k := 0) F5_ B B2 nw, b5, k5, m5⟩
  have Asc : Lt P w K mg base f6 _ "ascending_order" ["states"] 1 (spAscG K) := ⟨ok_ascG (k0 := 0) F6_ B, b6, k6, m6⟩
  have Cnt : Lt P w K mg base f7 _ "counts_of" ["states"] 2 (spCntG K) := ⟨ok_cntG F7_ B ms Asc, b7, k7, m7⟩
  have Mov : Lt P w K mg base f8 _ "moves_of_states" ["states"] 1 spMovG := ⟨ok_movG (k := 0) F8_ B, b8, k8, m8⟩
  have Beh : Lt P w K mg base f9 _ "state_behind" ["moves", "text"] 1 spBeh := ⟨ok_beh (k := 0) F9_ nw, b9, k9, m9⟩
  have Tex : Lt P w K mg base f10 _ "states_of_texts" ["texts"] 2 (spTexG K) := ⟨ok_texG F10_ B B2 Com Ren, b10, k10, m10⟩
  have GLi : FnOk P w K mg base CX0 3 gLi _ ["self", "states"] (spLinG SL) := ok_linG MLi B TL Mov Cnt
  have QLk : FnR P w K mg base CX0 5 gLk (spLstG SL) := ((ok_lstG MLk MKl GLi bMLi Tex : FnOk P w K mg base CX0 5 gLk _ _ (spLstG SL)).raw bMLk .nil).imp fun vs H Q E h => by rw [List.append_nil]; exact h
  have QLe : FnR P w K mg base CX0 1 gLe (spLEq SL) := ((ok_leq MLe B TL : FnOk P w K mg base CX0 1 gLe _ _ (spLEq SL)).raw bMLe .nil).imp fun vs H Q E h => by rw [List.append_nil]; exact h
  have QLb : FnR P w K mg base CX0 1 gLb (spBoolG SL) := ((ok_boolG (k := 0) MLb B TL : FnOk P w K mg base CX0 1 gLb _ _ (spBoolG SL)).raw bMLb .nil).imp fun vs H Q E h => by rw [List.append_nil]; exact h
  have QLc : FnR P w K mg base CX0 2 gLc (spConG K SL) := ((ok_conG MLc B TL nw Beh : FnOk P w K mg base CX0 2 gLc _ _ (spConG K SL)).raw bMLc .nil).imp fun vs H Q E h => by rw [List.append_nil]; exact h
  have QLg : FnR P w K mg base (L2.CX P w) 5 gLg (spGetG K SL c0) := ((ok_getG MLg B TL T0 Wh : FnOk P w K mg base (L2.CX P w) 5 gLg _ _ (spGetG K SL c0)).raw bMLg .nil).imp fun vs H Q E h => by rw [List.append_nil]; exact h
  have QLr : FnR P w K mg base (L2.CX P w) 5 gLr (spRankG K SL c1) := ((ok_rankG MLr B ms TL T1 X88 X89 QLc : FnOk P w K mg base (L2.CX P w) 5 gLr _ _ (spRankG K SL c1)).raw bMLr .nil).imp fun vs H Q E h => by rw [List.append_nil]; exact h
  have ZM : LgM P w K mg base SL c0 c1 := { T := TL, con := ⟨gLc, X88, X89, QLc⟩, get := ⟨gLg, X93, X94, X95, QLg⟩, rnk := ⟨gLr, ⟨X99, X100, X103⟩, QLr⟩, bol := ⟨gLb, X83, X84, QLb⟩ }
  have Z : Cl66 P w K mg base SC SL c0 c1 := { S := MM, M := ZM, kep := ⟨pK, gK, .type "type", ⟨X28, X29⟩, ⟨X54, ⟨_, X55⟩, X56⟩, QK⟩, mkS := ⟨gI, MKc, QI⟩, lis := ⟨pLk, gLk, .type "type", ⟨X47, X48⟩, ⟨X71, ⟨_, X72⟩, X73⟩, QLk⟩, eqS := ⟨gE, X61, X62, QE⟩, eqL := ⟨gLe, X78, X79, QLe⟩, sS := X24, sL := X43, iS := X25, iL := X44 }
  have St : Lt P w K mg base f11 _ "_law_stream" ["script", "start_v"] 1 (spStream K) := ⟨ok_stream (k := 0) F11_ B, b11, k11, m11⟩
  have Sg : Lt P w K mg base f14 _ "_law_signs" [] 1 spSgn := ⟨ok_signs (k := 0) F14_, b14, k14, m14⟩
  have Al : Lt P w K mg base f15 _ "_law_alphabet" ["stream"] 3 spAlph := ⟨ok_alph F15_ W B Sg, b15, k15, m15⟩
  have Wo : Lt P w K mg base f16 _ "_law_word" ["stream", "signs", "most"] 3 spWord := ⟨ok_word F16_ W B, b16, k16, m16⟩
  have All : Lt P w K mg base f17 _ "_law_all" ["signs", "most"] 1 spAll := ⟨ok_all (k := 0) F17_ B, b17, k17, m17⟩
  have Ls : Lt P w K mg base f18 _ "_law_listed" ["stream", "signs", "far"] 4 spLsd := ⟨ok_lsd F18_ B W All Wo, b18, k18, m18⟩
  have Se : Lt P w K mg base f19 _ "_law_set" ["texts"] 1 spSet := ⟨ok_set (k := 0) F19_ B B2, b19, k19, m19⟩
  have To : Lt P w K mg base f20 _ "_law_texts_of" ["language"] 7 (spTextsOf SL) := ⟨ok_textsOf F20_ B ZM, b20, k20, m20⟩
  have Ne : Lt P w K mg base f21 _ "_law_near" ["stream", "texts", "signs"] 4 spNear := ⟨ok_near F21_ B W Wo, b21, k21, m21⟩
  have Od : Lt P w K mg base f22 _ "_law_odd" [] 1 spOdd := ⟨ok_odd (k := 0) F22_, b22, k22, m22⟩
  have Sm_ : FnG P w K mg base 1 f23 _ ["one", "two"] spSame := ok_same F23_ B
  have Ta : Lt P w K mg base f24 _ "_law_text_at" ["language", "number"] 7 (spTextAt K SL) := ⟨ok_textAt F24_ ZM T0 X104, b24, k24, m24⟩
  have Nu : Lt P w K mg base f25 _ "_law_number_of" ["language", "text"] 7 (spNumOf K SL) := ⟨ok_numOf F25_ ZM T1 X105, b25, k25, m25⟩
  have Or_ : FnG P w K mg base 8 f26 _ ["language", "word"] (spObjR SL) := ok_objR F26_ B Z Nu Ta Sm_ b23 k23 m23
  have Tr : FnG P w K mg base 8 f27 _ ["language", "due"] (spToldR SL) := ok_toldR F27_ B ZM To Sm_ b23 k23 m23
  exact ok_law F28_ B Z St Al Ls Se Od Ne Nu Ta Tr b27 k27 m27 Or_ b26 k26 m26 Sm_ b23 k23 m23
end Sk
open PySem PySem.W PyProof.Rows
set_option maxHeartbeats 0 in
theorem PySem.Challenge.cw_soonknown_k66_texts_by_number_holds : PySem.Challenge.rw_soonknown_k66_texts_by_number.Holds := by
  refine Sk.hd ?_
  k_fill
  refine Sk.walk_law (l := PySem.Challenge.rw_soonknown_k66_texts_by_number) (n := 63) (x := "script") (sp := fun w => Sk.spLaw _) rfl (by decide) rfl (fun w h Y => PySem.W.kIn_of Y) ?F fun w H a ns hl hb hS => ⟨a, ns, rfl, hS, hl, hb, fun _ => rfl⟩
  case F =>
    intro w mg fa h KX G hmg
    refine' Sk.all_mk KX G hmg ?a0 ?l0 ?c0_ ?k0 ?a1 ?l1 ?c1_ ?k1 ?a2 ?l2 ?c2_ ?k2 ?a3 ?l3 ?c3_ ?k3 ?a4 ?l4 ?c4_ ?k4 ?a5 ?l5 ?c5_ ?k5 ?a6 ?l6 ?c6_ ?k6 ?a7 ?l7 ?c7_ ?k7 ?a8 ?l8 ?c8_ ?k8 ?a9 ?l9 ?c9_ ?k9 ?a10 ?l10 ?c10_ ?k10 ?a11 ?l11 ?c11_ ?k11 ?a12 ?l12 ?c12_ ?k12 ?a13 ?l13 ?c13_ ?k13 ?a14 ?l14 ?c14_ ?k14 ?a15 ?l15 ?c15_ ?k15 ?a16 ?l16 ?c16_ ?k16 ?a17 ?l17 ?c17_ ?k17 ?a18 ?l18 ?c18_ ?k18 ?a19 ?l19 ?c19_ ?k19 ?a20 ?l20 ?c20_ ?k20 ?a21 ?l21 ?c21_ ?k21 ?a22 ?l22 ?c22_ ?k22 ?a23 ?l23 ?c23_ ?k23 ?a24 ?l24 ?c24_ ?k24 ?a25 ?l25 ?c25_ ?k25 ?a26 ?l26 ?c26_ ?k26 ?a27 ?l27 ?c27_ ?k27 ?a28 ?l28 ?c28_ ?k28 ?aS ?A0 ?B0 ?C0 ?D0 ?E0 ?F0 ?G0 ?H0 ?I0 ?J0 ?K0 ?L0 ?M0 ?O0 ?P0 ?Q0 ?U0 ?A1 ?B1 ?C1 ?D1 ?E1 ?F1 ?G1 ?H1 ?I1 ?J1 ?K1 ?L1 ?M1 ?O1 ?P1 ?Q1 ?U1 ?X0 ?X1 ?X2 ?X3 ?X4 ?ex0 ?ex1 ?ex2 ?ex3 ?X10 ?X11 ?X12 ?X13 ?X14 ?X15 ?X16 ?X17 ?X18 ?X19 ?X20 ?X21 ?X22 ?X23 ?X24 ?X25 ?X26 ?X27 ?X28 ?X29 ?X30 ?X31 ?X32 ?X33 ?X34 ?X35 ?X36 ?X37 ?X38 ?X39 ?X40 ?X41 ?X42 ?X43 ?X44 ?X45 ?X46 ?X47 ?X48 ?X49 ?X50 ?X51 ?X52 ?X53 ?X54 ?X55 ?X56 ?X57 ?X58 ?X59 ?X60 ?X61 ?X62 ?X63 ?X64 ?X65 ?X66 ?X67 ?X68 ?X69 ?X70 ?X71 ?X72 ?X73 ?X74 ?X75 ?X76 ?X77 ?X78 ?X79 ?X80 ?X81 ?X82 ?X83 ?X84 ?X85 ?X86 ?X87 ?X88 ?X89 ?X90 ?X91 ?X92 ?X93 ?X94 ?X95 ?X96 ?X97 ?X98 ?X99 ?X100 ?X101 ?X102 ?X103 ?X104 ?X105 ?z0 ?z1 ?z2 ?z3 ?z4 ?z5 ?z6 ?z7 ?z8 ?z9 ?z10 ?z11
    (case a0 => (refine' Sk.s_nsIn ?subp ?subq; (case subp => k_is); (case subq => kernel_rfl)))
    (case l0 => (refine' Sk.s_lookup ?subp ?subq; (case subp => k_is); (case subq => kernel_rfl)))
    (case c0_ => (refine' Sk.s_codeIn ?subp ?subq; (case subp => k_is); (case subq => kernel_rfl)))
    (case k0 => (refine' Sk.s_keepIn ?subp ?subq; (case subp => k_is); (case subq => kernel_rfl)))
    (case a1 => (refine' Sk.s_nsIn ?subp ?subq; (case subp => k_is); (case subq => kernel_rfl)))
    (case l1 => (refine' Sk.s_lookup ?subp ?subq; (case subp => k_is); (case subq => kernel_rfl)))
    (case c1_ => (refine' Sk.s_codeIn ?subp ?subq; (case subp => k_is); (case subq => kernel_rfl)))
    (case k1 => (refine' Sk.s_keepIn ?subp ?subq; (case subp => k_is); (case subq => kernel_rfl)))
    (case a2 => (refine' Sk.s_nsIn ?subp ?subq; (case subp => k_is); (case subq => kernel_rfl)))
    (case l2 => (refine' Sk.s_lookup ?subp ?subq; (case subp => k_is); (case subq => kernel_rfl)))
    (case c2_ => (refine' Sk.s_codeIn ?subp ?subq; (case subp => k_is); (case subq => kernel_rfl)))
    (case k2 => (refine' Sk.s_keepIn ?subp ?subq; (case subp => k_is); (case subq => kernel_rfl)))
    (case a3 => (refine' Sk.s_nsIn ?subp ?subq; (case subp => k_is); (case subq => kernel_rfl)))
    (case l3 => (refine' Sk.s_lookup ?subp ?subq; (case subp => k_is); (case subq => kernel_rfl)))
    (case c3_ => (refine' Sk.s_codeIn ?subp ?subq; (case subp => k_is); (case subq => kernel_rfl)))
    (case k3 => (refine' Sk.s_keepIn ?subp ?subq; (case subp => k_is); (case subq => kernel_rfl)))
    (case a4 => (refine' Sk.s_nsIn ?subp ?subq; (case subp => k_is); (case subq => kernel_rfl)))
    (case l4 => (refine' Sk.s_lookup ?subp ?subq; (case subp => k_is); (case subq => kernel_rfl)))
    (case c4_ => (refine' Sk.s_codeIn ?subp ?subq; (case subp => k_is); (case subq => kernel_rfl)))
    (case k4 => (refine' Sk.s_keepIn ?subp ?subq; (case subp => k_is); (case subq => kernel_rfl)))
    (case a5 => (refine' Sk.s_nsIn ?subp ?subq; (case subp => k_is); (case subq => kernel_rfl)))
    (case l5 => (refine' Sk.s_lookup ?subp ?subq; (case subp => k_is); (case subq => kernel_rfl)))
    (case c5_ => (refine' Sk.s_codeIn ?subp ?subq; (case subp => k_is); (case subq => kernel_rfl)))
    (case k5 => (refine' Sk.s_keepIn ?subp ?subq; (case subp => k_is); (case subq => kernel_rfl)))
    (case a6 => (refine' Sk.s_nsIn ?subp ?subq; (case subp => k_is); (case subq => kernel_rfl)))
    (case l6 => (refine' Sk.s_lookup ?subp ?subq; (case subp => k_is); (case subq => kernel_rfl)))
    (case c6_ => (refine' Sk.s_codeIn ?subp ?subq; (case subp => k_is); (case subq => kernel_rfl)))
    (case k6 => (refine' Sk.s_keepIn ?subp ?subq; (case subp => k_is); (case subq => kernel_rfl)))
    (case a7 => (refine' Sk.s_nsIn ?subp ?subq; (case subp => k_is); (case subq => kernel_rfl)))
    (case l7 => (refine' Sk.s_lookup ?subp ?subq; (case subp => k_is); (case subq => kernel_rfl)))
    (case c7_ => (refine' Sk.s_codeIn ?subp ?subq; (case subp => k_is); (case subq => kernel_rfl)))
    (case k7 => (refine' Sk.s_keepIn ?subp ?subq; (case subp => k_is); (case subq => kernel_rfl)))
    (case a8 => (refine' Sk.s_nsIn ?subp ?subq; (case subp => k_is); (case subq => kernel_rfl)))
    (case l8 => (refine' Sk.s_lookup ?subp ?subq; (case subp => k_is); (case subq => kernel_rfl)))
    (case c8_ => (refine' Sk.s_codeIn ?subp ?subq; (case subp => k_is); (case subq => kernel_rfl)))
    (case k8 => (refine' Sk.s_keepIn ?subp ?subq; (case subp => k_is); (case subq => kernel_rfl)))
    (case a9 => (refine' Sk.s_nsIn ?subp ?subq; (case subp => k_is); (case subq => kernel_rfl)))
    (case l9 => (refine' Sk.s_lookup ?subp ?subq; (case subp => k_is); (case subq => kernel_rfl)))
    (case c9_ => (refine' Sk.s_codeIn ?subp ?subq; (case subp => k_is); (case subq => kernel_rfl)))
    (case k9 => (refine' Sk.s_keepIn ?subp ?subq; (case subp => k_is); (case subq => kernel_rfl)))
    (case a10 => (refine' Sk.s_nsIn ?subp ?subq; (case subp => k_is); (case subq => kernel_rfl)))
    (case l10 => (refine' Sk.s_lookup ?subp ?subq; (case subp => k_is); (case subq => kernel_rfl)))
    (case c10_ => (refine' Sk.s_codeIn ?subp ?subq; (case subp => k_is); (case subq => kernel_rfl)))
    (case k10 => (refine' Sk.s_keepIn ?subp ?subq; (case subp => k_is); (case subq => kernel_rfl)))
    (case a11 => (refine' Sk.s_nsIn ?subp ?subq; (case subp => k_is); (case subq => kernel_rfl)))
    (case l11 => (refine' Sk.s_lookup ?subp ?subq; (case subp => k_is); (case subq => kernel_rfl)))
    (case c11_ => (refine' Sk.s_codeIn ?subp ?subq; (case subp => k_is); (case subq => kernel_rfl)))
    (case k11 => (refine' Sk.s_keepIn ?subp ?subq; (case subp => k_is); (case subq => kernel_rfl)))
    (case a12 => (refine' Sk.s_nsIn ?subp ?subq; (case subp => k_is); (case subq => kernel_rfl)))
    (case l12 => (refine' Sk.s_lookup ?subp ?subq; (case subp => k_is); (case subq => kernel_rfl)))
    (case c12_ => (refine' Sk.s_codeIn ?subp ?subq; (case subp => k_is); (case subq => kernel_rfl)))
    (case k12 => (refine' Sk.s_keepIn ?subp ?subq; (case subp => k_is); (case subq => kernel_rfl)))
    (case a13 => (refine' Sk.s_nsIn ?subp ?subq; (case subp => k_is); (case subq => kernel_rfl)))
    (case l13 => (refine' Sk.s_lookup ?subp ?subq; (case subp => k_is); (case subq => kernel_rfl)))
    (case c13_ => (refine' Sk.s_codeIn ?subp ?subq; (case subp => k_is); (case subq => kernel_rfl)))
    (case k13 => (refine' Sk.s_keepIn ?subp ?subq; (case subp => k_is); (case subq => kernel_rfl)))
    (case a14 => (refine' Sk.s_nsIn ?subp ?subq; (case subp => k_is); (case subq => kernel_rfl)))
    (case l14 => (refine' Sk.s_lookup ?subp ?subq; (case subp => k_is); (case subq => kernel_rfl)))
    (case c14_ => (refine' Sk.s_codeIn ?subp ?subq; (case subp => k_is); (case subq => kernel_rfl)))
    (case k14 => (refine' Sk.s_keepIn ?subp ?subq; (case subp => k_is); (case subq => kernel_rfl)))
    (case a15 => (refine' Sk.s_nsIn ?subp ?subq; (case subp => k_is); (case subq => kernel_rfl)))
    (case l15 => (refine' Sk.s_lookup ?subp ?subq; (case subp => k_is); (case subq => kernel_rfl)))
    (case c15_ => (refine' Sk.s_codeIn ?subp ?subq; (case subp => k_is); (case subq => kernel_rfl)))
    (case k15 => (refine' Sk.s_keepIn ?subp ?subq; (case subp => k_is); (case subq => kernel_rfl)))
    (case a16 => (refine' Sk.s_nsIn ?subp ?subq; (case subp => k_is); (case subq => kernel_rfl)))
    (case l16 => (refine' Sk.s_lookup ?subp ?subq; (case subp => k_is); (case subq => kernel_rfl)))
    (case c16_ => (refine' Sk.s_codeIn ?subp ?subq; (case subp => k_is); (case subq => kernel_rfl)))
    (case k16 => (refine' Sk.s_keepIn ?subp ?subq; (case subp => k_is); (case subq => kernel_rfl)))
    (case a17 => (refine' Sk.s_nsIn ?subp ?subq; (case subp => k_is); (case subq => kernel_rfl)))
    (case l17 => (refine' Sk.s_lookup ?subp ?subq; (case subp => k_is); (case subq => kernel_rfl)))
    (case c17_ => (refine' Sk.s_codeIn ?subp ?subq; (case subp => k_is); (case subq => kernel_rfl)))
    (case k17 => (refine' Sk.s_keepIn ?subp ?subq; (case subp => k_is); (case subq => kernel_rfl)))
    (case a18 => (refine' Sk.s_nsIn ?subp ?subq; (case subp => k_is); (case subq => kernel_rfl)))
    (case l18 => (refine' Sk.s_lookup ?subp ?subq; (case subp => k_is); (case subq => kernel_rfl)))
    (case c18_ => (refine' Sk.s_codeIn ?subp ?subq; (case subp => k_is); (case subq => kernel_rfl)))
    (case k18 => (refine' Sk.s_keepIn ?subp ?subq; (case subp => k_is); (case subq => kernel_rfl)))
    (case a19 => (refine' Sk.s_nsIn ?subp ?subq; (case subp => k_is); (case subq => kernel_rfl)))
    (case l19 => (refine' Sk.s_lookup ?subp ?subq; (case subp => k_is); (case subq => kernel_rfl)))
    (case c19_ => (refine' Sk.s_codeIn ?subp ?subq; (case subp => k_is); (case subq => kernel_rfl)))
    (case k19 => (refine' Sk.s_keepIn ?subp ?subq; (case subp => k_is); (case subq => kernel_rfl)))
    (case a20 => (refine' Sk.s_nsIn ?subp ?subq; (case subp => k_is); (case subq => kernel_rfl)))
    (case l20 => (refine' Sk.s_lookup ?subp ?subq; (case subp => k_is); (case subq => kernel_rfl)))
    (case c20_ => (refine' Sk.s_codeIn ?subp ?subq; (case subp => k_is); (case subq => kernel_rfl)))
    (case k20 => (refine' Sk.s_keepIn ?subp ?subq; (case subp => k_is); (case subq => kernel_rfl)))
    (case a21 => (refine' Sk.s_nsIn ?subp ?subq; (case subp => k_is); (case subq => kernel_rfl)))
    (case l21 => (refine' Sk.s_lookup ?subp ?subq; (case subp => k_is); (case subq => kernel_rfl)))
    (case c21_ => (refine' Sk.s_codeIn ?subp ?subq; (case subp => k_is); (case subq => kernel_rfl)))
    (case k21 => (refine' Sk.s_keepIn ?subp ?subq; (case subp => k_is); (case subq => kernel_rfl)))
    (case a22 => (refine' Sk.s_nsIn ?subp ?subq; (case subp => k_is); (case subq => kernel_rfl)))
    (case l22 => (refine' Sk.s_lookup ?subp ?subq; (case subp => k_is); (case subq => kernel_rfl)))
    (case c22_ => (refine' Sk.s_codeIn ?subp ?subq; (case subp => k_is); (case subq => kernel_rfl)))
    (case k22 => (refine' Sk.s_keepIn ?subp ?subq; (case subp => k_is); (case subq => kernel_rfl)))
    (case a23 => (refine' Sk.s_nsIn ?subp ?subq; (case subp => k_is); (case subq => kernel_rfl)))
    (case l23 => (refine' Sk.s_lookup ?subp ?subq; (case subp => k_is); (case subq => kernel_rfl)))
    (case c23_ => (refine' Sk.s_codeIn ?subp ?subq; (case subp => k_is); (case subq => kernel_rfl)))
    (case k23 => (refine' Sk.s_keepIn ?subp ?subq; (case subp => k_is); (case subq => kernel_rfl)))
    (case a24 => (refine' Sk.s_nsIn ?subp ?subq; (case subp => k_is); (case subq => kernel_rfl)))
    (case l24 => (refine' Sk.s_lookup ?subp ?subq; (case subp => k_is); (case subq => kernel_rfl)))
    (case c24_ => (refine' Sk.s_codeIn ?subp ?subq; (case subp => k_is); (case subq => kernel_rfl)))
    (case k24 => (refine' Sk.s_keepIn ?subp ?subq; (case subp => k_is); (case subq => kernel_rfl)))
    (case a25 => (refine' Sk.s_nsIn ?subp ?subq; (case subp => k_is); (case subq => kernel_rfl)))
    (case l25 => (refine' Sk.s_lookup ?subp ?subq; (case subp => k_is); (case subq => kernel_rfl)))
    (case c25_ => (refine' Sk.s_codeIn ?subp ?subq; (case subp => k_is); (case subq => kernel_rfl)))
    (case k25 => (refine' Sk.s_keepIn ?subp ?subq; (case subp => k_is); (case subq => kernel_rfl)))
    (case a26 => (refine' Sk.s_nsIn ?subp ?subq; (case subp => k_is); (case subq => kernel_rfl)))
    (case l26 => (refine' Sk.s_lookup ?subp ?subq; (case subp => k_is); (case subq => kernel_rfl)))
    (case c26_ => (refine' Sk.s_codeIn ?subp ?subq; (case subp => k_is); (case subq => kernel_rfl)))
    (case k26 => (refine' Sk.s_keepIn ?subp ?subq; (case subp => k_is); (case subq => kernel_rfl)))
    (case a27 => (refine' Sk.s_nsIn ?subp ?subq; (case subp => k_is); (case subq => kernel_rfl)))
    (case l27 => (refine' Sk.s_lookup ?subp ?subq; (case subp => k_is); (case subq => kernel_rfl)))
    (case c27_ => (refine' Sk.s_codeIn ?subp ?subq; (case subp => k_is); (case subq => kernel_rfl)))
    (case k27 => (refine' Sk.s_keepIn ?subp ?subq; (case subp => k_is); (case subq => kernel_rfl)))
    (case a28 => (refine' Sk.s_nsIn ?subp ?subq; (case subp => k_is); (case subq => kernel_rfl)))
    (case l28 => (refine' Sk.s_lookup ?subp ?subq; (case subp => k_is); (case subq => kernel_rfl)))
    (case c28_ => (refine' Sk.s_codeIn ?subp ?subq; (case subp => k_is); (case subq => kernel_rfl)))
    (case k28 => (refine' Sk.s_keepIn ?subp ?subq; (case subp => k_is); (case subq => kernel_rfl)))
    (case aS => (refine' Sk.s_nsIn ?subp ?subq; (case subp => k_is); (case subq => kernel_rfl)))
    (case A0 => (refine' Sk.s_nsIn ?subp ?subq; (case subp => k_is); (case subq => kernel_rfl)))
    (case B0 => (refine' Sk.s_lookup ?subp ?subq; (case subp => k_is); (case subq => kernel_rfl)))
    (case C0 => (refine' Sk.s_findIn ?subp ?subq; (case subp => k_is); (case subq => kernel_rfl)))
    (case D0 => (refine' Sk.s_findIn ?subp ?subq; (case subp => k_is); (case subq => kernel_rfl)))
    (case E0 => (refine' Sk.s_findIn ?subp ?subq; (case subp => k_is); (case subq => kernel_rfl)))
    (case F0 => (refine' Sk.s_findIn ?subp ?subq; (case subp => k_is); (case subq => kernel_rfl)))
    (case G0 => (refine' Sk.s_findIn ?subp ?subq; (case subp => k_is); (case subq => kernel_rfl)))
    (case H0 => (refine' Sk.s_typeIn ?subp ?subq; (case subp => k_is); (case subq => kernel_rfl)))
    (case I0 => (refine' Sk.s_keepIn ?subp ?subq; (case subp => k_is); (case subq => kernel_rfl)))
    (case J0 => (refine' Sk.s_subIn ?subp ?subq; (case subp => k_is); (case subq => kernel_rfl)))
    (case K0 => (refine' Sk.s_typeIn ?subp ?subq; (case subp => k_is); (case subq => kernel_rfl)))
    (case L0 => (refine' Sk.s_hasDictIn ?subp ?subq; (case subp => k_is); (case subq => kernel_rfl)))
    (case M0 => (refine' Sk.s_lookup ?subp ?subq; (case subp => k_is); (case subq => kernel_rfl)))
    (case O0 => (refine' Sk.s_codeIn ?subp ?subq; (case subp => k_is); (case subq => kernel_rfl)))
    (case P0 => first | kernel_rfl | rfl | decide +kernel)
    (case Q0 => (refine' Sk.s_findIn ?subp ?subq; (case subp => k_is); (case subq => kernel_rfl)))
    (case U0 => (refine' Sk.s_mroIn ?subp ?subq; (case subp => k_is); (case subq => kernel_rfl)))
    (case A1 => (refine' Sk.s_nsIn ?subp ?subq; (case subp => k_is); (case subq => kernel_rfl)))
    (case B1 => (refine' Sk.s_lookup ?subp ?subq; (case subp => k_is); (case subq => kernel_rfl)))
    (case C1 => (refine' Sk.s_findIn ?subp ?subq; (case subp => k_is); (case subq => kernel_rfl)))
    (case D1 => (refine' Sk.s_findIn ?subp ?subq; (case subp => k_is); (case subq => kernel_rfl)))
    (case E1 => (refine' Sk.s_findIn ?subp ?subq; (case subp => k_is); (case subq => kernel_rfl)))
    (case F1 => (refine' Sk.s_findIn ?subp ?subq; (case subp => k_is); (case subq => kernel_rfl)))
    (case G1 => (refine' Sk.s_findIn ?subp ?subq; (case subp => k_is); (case subq => kernel_rfl)))
    (case H1 => (refine' Sk.s_typeIn ?subp ?subq; (case subp => k_is); (case subq => kernel_rfl)))
    (case I1 => (refine' Sk.s_keepIn ?subp ?subq; (case subp => k_is); (case subq => kernel_rfl)))
    (case J1 => (refine' Sk.s_subIn ?subp ?subq; (case subp => k_is); (case subq => kernel_rfl)))
    (case K1 => (refine' Sk.s_typeIn ?subp ?subq; (case subp => k_is); (case subq => kernel_rfl)))
    (case L1 => (refine' Sk.s_hasDictIn ?subp ?subq; (case subp => k_is); (case subq => kernel_rfl)))
    (case M1 => (refine' Sk.s_lookup ?subp ?subq; (case subp => k_is); (case subq => kernel_rfl)))
    (case O1 => (refine' Sk.s_codeIn ?subp ?subq; (case subp => k_is); (case subq => kernel_rfl)))
    (case P1 => first | kernel_rfl | rfl | decide +kernel)
    (case Q1 => (refine' Sk.s_findIn ?subp ?subq; (case subp => k_is); (case subq => kernel_rfl)))
    (case U1 => (refine' Sk.s_mroIn ?subp ?subq; (case subp => k_is); (case subq => kernel_rfl)))
    (case X0 => (refine' Sk.s_specialIn ?subp ?subq; (case subp => k_is); (case subq => kernel_rfl)))
    (case X1 => (refine' Sk.s_takesIn ?subp ?subq; (case subp => k_is); (case subq => kernel_rfl)))
    (case X2 => first | kernel_rfl | rfl | decide +kernel)
    (case X3 => first | kernel_rfl | rfl | decide +kernel)
    (case X4 => first | kernel_rfl | rfl | decide +kernel)
    (case ex0 => (refine' Sk.s_nsIn ?subp ?subq; (case subp => k_is); (case subq => kernel_rfl)))
    (case ex1 => (refine' Sk.s_nsIn ?subp ?subq; (case subp => k_is); (case subq => kernel_rfl)))
    (case ex2 => (refine' Sk.s_nsIn ?subp ?subq; (case subp => k_is); (case subq => kernel_rfl)))
    (case ex3 => (refine' Sk.s_nsIn ?subp ?subq; (case subp => k_is); (case subq => kernel_rfl)))
    (case X10 => (refine' Sk.s_nsIn ?subp ?subq; (case subp => k_is); (case subq => kernel_rfl)))
    (case X11 => (refine' Sk.s_specialIn ?subp ?subq; (case subp => k_is); (case subq => kernel_rfl)))
    (case X12 => (refine' Sk.s_takesIn ?subp ?subq; (case subp => k_is); (case subq => kernel_rfl)))
    (case X13 => (refine' Sk.s_nsIn ?subp ?subq; (case subp => k_is); (case subq => kernel_rfl)))
    (case X14 => (refine' Sk.s_plainGet ?subp ?subq; (case subp => k_is); (case subq => kernel_rfl)))
    (case X15 => (refine' Sk.s_hasDictIn ?subp ?subq; (case subp => k_is); (case subq => kernel_rfl)))
    (case X16 => (refine' Sk.s_plainOver ?subp ?subq; (case subp => k_is); (case subq => kernel_rfl)))
    (case X17 => (refine' Sk.s_findIn ?subp ?subq; (case subp => k_is); (case subq => kernel_rfl)))
    (case X18 => (refine' Sk.s_findIn ?subp ?subq; (case subp => k_is); (case subq => kernel_rfl)))
    (case X19 => (refine' Sk.s_findIn ?subp ?subq; (case subp => k_is); (case subq => kernel_rfl)))
    (case X20 => (refine' Sk.s_findIn ?subp ?subq; (case subp => k_is); (case subq => kernel_rfl)))
    (case X21 => (refine' Sk.s_findIn ?subp ?subq; (case subp => k_is); (case subq => kernel_rfl)))
    (case X22 => (refine' Sk.s_mroIn ?subp ?subq; (case subp => k_is); (case subq => kernel_rfl)))
    (case X23 => first | kernel_rfl | rfl | decide +kernel)
    (case X24 => first | kernel_rfl | rfl | decide +kernel)
    (case X25 => first | kernel_rfl | rfl | decide +kernel)
    (case X26 => (refine' Sk.s_makesIn ?subp ?subq; (case subp => k_is); (case subq => kernel_rfl)))
    (case X27 => (refine' Sk.s_keepIn ?subp ?subq; (case subp => k_is); (case subq => kernel_rfl)))
    (case X28 => (refine' Sk.s_readsIn ?subp ?subq; (case subp => k_is); (case subq => kernel_rfl)))
    (case X29 => (refine' Sk.s_specialIn ?subp ?subq; (case subp => k_is); (case subq => kernel_rfl)))
    (case X30 => (refine' Sk.s_nsIn ?subp ?subq; (case subp => k_is); (case subq => kernel_rfl)))
    (case X31 => (refine' Sk.s_plainGet ?subp ?subq; (case subp => k_is); (case subq => kernel_rfl)))
    (case X32 => (refine' Sk.s_hasDictIn ?subp ?subq; (case subp => k_is); (case subq => kernel_rfl)))
    (case X33 => (refine' Sk.s_plainOver ?subp ?subq; (case subp => k_is); (case subq => kernel_rfl)))
    (case X34 => (refine' Sk.s_findIn ?subp ?subq; (case subp => k_is); (case subq => kernel_rfl)))
    (case X35 => (refine' Sk.s_findIn ?subp ?subq; (case subp => k_is); (case subq => kernel_rfl)))
    (case X36 => (refine' Sk.s_findIn ?subp ?subq; (case subp => k_is); (case subq => kernel_rfl)))
    (case X37 => (refine' Sk.s_findIn ?subp ?subq; (case subp => k_is); (case subq => kernel_rfl)))
    (case X38 => (refine' Sk.s_findIn ?subp ?subq; (case subp => k_is); (case subq => kernel_rfl)))
    (case X39 => (refine' Sk.s_findIn ?subp ?subq; (case subp => k_is); (case subq => kernel_rfl)))
    (case X40 => (refine' Sk.s_findIn ?subp ?subq; (case subp => k_is); (case subq => kernel_rfl)))
    (case X41 => (refine' Sk.s_mroIn ?subp ?subq; (case subp => k_is); (case subq => kernel_rfl)))
    (case X42 => first | kernel_rfl | rfl | decide +kernel)
    (case X43 => first | kernel_rfl | rfl | decide +kernel)
    (case X44 => first | kernel_rfl | rfl | decide +kernel)
    (case X45 => (refine' Sk.s_makesIn ?subp ?subq; (case subp => k_is); (case subq => kernel_rfl)))
    (case X46 => (refine' Sk.s_keepIn ?subp ?subq; (case subp => k_is); (case subq => kernel_rfl)))
    (case X47 => (refine' Sk.s_readsIn ?subp ?subq; (case subp => k_is); (case subq => kernel_rfl)))
    (case X48 => (refine' Sk.s_specialIn ?subp ?subq; (case subp => k_is); (case subq => kernel_rfl)))
    (case X49 => (refine' Sk.s_findIn ?subp ?subq; (case subp => k_is); (case subq => kernel_rfl)))
    (case X50 => (refine' Sk.s_isFn ?subp ?subq; (case subp => k_is); (case subq => kernel_rfl)))
    (case X51 => (refine' Sk.s_lookup ?subp ?subq; (case subp => k_is); (case subq => kernel_rfl)))
    (case X52 => (refine' Sk.s_codeIn ?subp ?subq; (case subp => k_is); (case subq => kernel_rfl)))
    (case X53 => (refine' Sk.s_keepIn ?subp ?subq; (case subp => k_is); (case subq => kernel_rfl)))
    (case X54 => (refine' Sk.s_findCls ?subp ?subq; (case subp => k_is); (case subq => kernel_rfl)))
    (case X55 => (refine' Sk.s_recIn ?subp ?subq; (case subp => k_is); (case subq => kernel_rfl)))
    (case X56 => (refine' Sk.s_fnIn ?subp ?subq; (case subp => k_is); (case subq => kernel_rfl)))
    (case X57 => (refine' Sk.s_isFn ?subp ?subq; (case subp => k_is); (case subq => kernel_rfl)))
    (case X58 => (refine' Sk.s_lookup ?subp ?subq; (case subp => k_is); (case subq => kernel_rfl)))
    (case X59 => (refine' Sk.s_codeIn ?subp ?subq; (case subp => k_is); (case subq => kernel_rfl)))
    (case X60 => (refine' Sk.s_keepIn ?subp ?subq; (case subp => k_is); (case subq => kernel_rfl)))
    (case X61 => (refine' Sk.s_findIn ?subp ?subq; (case subp => k_is); (case subq => kernel_rfl)))
    (case X62 => (refine' Sk.s_isFn ?subp ?subq; (case subp => k_is); (case subq => kernel_rfl)))
    (case X63 => (refine' Sk.s_lookup ?subp ?subq; (case subp => k_is); (case subq => kernel_rfl)))
    (case X64 => (refine' Sk.s_codeIn ?subp ?subq; (case subp => k_is); (case subq => kernel_rfl)))
    (case X65 => (refine' Sk.s_keepIn ?subp ?subq; (case subp => k_is); (case subq => kernel_rfl)))
    (case X66 => (refine' Sk.s_findIn ?subp ?subq; (case subp => k_is); (case subq => kernel_rfl)))
    (case X67 => (refine' Sk.s_isFn ?subp ?subq; (case subp => k_is); (case subq => kernel_rfl)))
    (case X68 => (refine' Sk.s_lookup ?subp ?subq; (case subp => k_is); (case subq => kernel_rfl)))
    (case X69 => (refine' Sk.s_codeIn ?subp ?subq; (case subp => k_is); (case subq => kernel_rfl)))
    (case X70 => (refine' Sk.s_keepIn ?subp ?subq; (case subp => k_is); (case subq => kernel_rfl)))
    (case X71 => (refine' Sk.s_findCls ?subp ?subq; (case subp => k_is); (case subq => kernel_rfl)))
    (case X72 => (refine' Sk.s_recIn ?subp ?subq; (case subp => k_is); (case subq => kernel_rfl)))
    (case X73 => (refine' Sk.s_fnIn ?subp ?subq; (case subp => k_is); (case subq => kernel_rfl)))
    (case X74 => (refine' Sk.s_isFn ?subp ?subq; (case subp => k_is); (case subq => kernel_rfl)))
    (case X75 => (refine' Sk.s_lookup ?subp ?subq; (case subp => k_is); (case subq => kernel_rfl)))
    (case X76 => (refine' Sk.s_codeIn ?subp ?subq; (case subp => k_is); (case subq => kernel_rfl)))
    (case X77 => (refine' Sk.s_keepIn ?subp ?subq; (case subp => k_is); (case subq => kernel_rfl)))
    (case X78 => (refine' Sk.s_findIn ?subp ?subq; (case subp => k_is); (case subq => kernel_rfl)))
    (case X79 => (refine' Sk.s_isFn ?subp ?subq; (case subp => k_is); (case subq => kernel_rfl)))
    (case X80 => (refine' Sk.s_lookup ?subp ?subq; (case subp => k_is); (case subq => kernel_rfl)))
    (case X81 => (refine' Sk.s_codeIn ?subp ?subq; (case subp => k_is); (case subq => kernel_rfl)))
    (case X82 => (refine' Sk.s_keepIn ?subp ?subq; (case subp => k_is); (case subq => kernel_rfl)))
    (case X83 => (refine' Sk.s_findIn ?subp ?subq; (case subp => k_is); (case subq => kernel_rfl)))
    (case X84 => (refine' Sk.s_isFn ?subp ?subq; (case subp => k_is); (case subq => kernel_rfl)))
    (case X85 => (refine' Sk.s_lookup ?subp ?subq; (case subp => k_is); (case subq => kernel_rfl)))
    (case X86 => (refine' Sk.s_codeIn ?subp ?subq; (case subp => k_is); (case subq => kernel_rfl)))
    (case X87 => (refine' Sk.s_keepIn ?subp ?subq; (case subp => k_is); (case subq => kernel_rfl)))
    (case X88 => (refine' Sk.s_findIn ?subp ?subq; (case subp => k_is); (case subq => kernel_rfl)))
    (case X89 => (refine' Sk.s_isFn ?subp ?subq; (case subp => k_is); (case subq => kernel_rfl)))
    (case X90 => (refine' Sk.s_lookup ?subp ?subq; (case subp => k_is); (case subq => kernel_rfl)))
    (case X91 => (refine' Sk.s_codeIn ?subp ?subq; (case subp => k_is); (case subq => kernel_rfl)))
    (case X92 => (refine' Sk.s_keepIn ?subp ?subq; (case subp => k_is); (case subq => kernel_rfl)))
    (case X93 => (refine' Sk.s_findIn ?subp ?subq; (case subp => k_is); (case subq => kernel_rfl)))
    (case X94 => (refine' Sk.s_fnIn ?subp ?subq; (case subp => k_is); (case subq => kernel_rfl)))
    (case X95 => (refine' Sk.s_isFn ?subp ?subq; (case subp => k_is); (case subq => kernel_rfl)))
    (case X96 => (refine' Sk.s_lookup ?subp ?subq; (case subp => k_is); (case subq => kernel_rfl)))
    (case X97 => (refine' Sk.s_codeIn ?subp ?subq; (case subp => k_is); (case subq => kernel_rfl)))
    (case X98 => (refine' Sk.s_keepIn ?subp ?subq; (case subp => k_is); (case subq => kernel_rfl)))
    (case X99 => (refine' Sk.s_findIn ?subp ?subq; (case subp => k_is); (case subq => kernel_rfl)))
    (case X100 => (refine' Sk.s_isFn ?subp ?subq; (case subp => k_is); (case subq => kernel_rfl)))
    (case X101 => (refine' Sk.s_lookup ?subp ?subq; (case subp => k_is); (case subq => kernel_rfl)))
    (case X102 => (refine' Sk.s_codeIn ?subp ?subq; (case subp => k_is); (case subq => kernel_rfl)))
    (case X103 => (refine' Sk.s_keepIn ?subp ?subq; (case subp => k_is); (case subq => kernel_rfl)))
    (case X104 => first | kernel_rfl | rfl | decide +kernel)
    (case X105 => first | kernel_rfl | rfl | decide +kernel)
    (case z0 => (refine' Sk.s_nsIn ?subp ?subq; (case subp => k_is); (case subq => kernel_rfl)))
    (case z1 => (refine' Sk.s_nsIn ?subp ?subq; (case subp => k_is); (case subq => kernel_rfl)))
    (case z2 => (refine' Sk.s_nsIn ?subp ?subq; (case subp => k_is); (case subq => kernel_rfl)))
    (case z3 => (refine' Sk.s_nsIn ?subp ?subq; (case subp => k_is); (case subq => kernel_rfl)))
    (case z4 => (refine' Sk.s_nsIn ?subp ?subq; (case subp => k_is); (case subq => kernel_rfl)))
    (case z5 => (refine' Sk.s_nsIn ?subp ?subq; (case subp => k_is); (case subq => kernel_rfl)))
    (case z6 => (refine' Sk.s_nsIn ?subp ?subq; (case subp => k_is); (case subq => kernel_rfl)))
    (case z7 => (refine' Sk.s_nsIn ?subp ?subq; (case subp => k_is); (case subq => kernel_rfl)))
    (case z8 => (refine' Sk.s_nsIn ?subp ?subq; (case subp => k_is); (case subq => kernel_rfl)))
    (case z9 => (refine' Sk.s_nsIn ?subp ?subq; (case subp => k_is); (case subq => kernel_rfl)))
    (case z10 => (refine' Sk.s_nsIn ?subp ?subq; (case subp => k_is); (case subq => kernel_rfl)))
    (case z11 => (refine' Sk.s_nsIn ?subp ?subq; (case subp => k_is); (case subq => kernel_rfl)))

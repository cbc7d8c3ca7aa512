import PyProof.Rows.All
import Wide.All
import OpenK.AllK
import Wide.FinOn
import HandS.ForMost
import HandS.Deep
import HandS.IsInst
import HandS.TupLe
import HandS.TupAny
import HandS.TupSets
import HandS.Style
import HandS.Zip
import HandS.More
import HandS.SortInts
import HandS.Codes
import HandS.Walk
import HandS.Iter
import KE.GoesEnum
import PyProof.Rows.SortShell
import HandS.Conv
import HandS.OwnEq
import PyProof.InstNe
import HandS.Strs
import PyProof.WalksMore
import KE.KDictPairs
import KE.KDictCopyH
import KE.KDictKeyed
import HandS.SetFor
import HandS.Exc
import HandS.ExcInit
import HandS.ExcIs
import HandS.ExcField
import HandS.WordsExc
import HandS.CallSlots
import KE.KExcIs
import PyProof.FactsAll.dict
import HandS.TupMul
import HandS.SortRule
import KE.GoesMore
import KE.KDictSum
import HandS.MapObj
import HandS.RepeatKit
import PyProof.ListNew
import HandS.DictComp
import KE.KeyNested
import KE.KDictDisplayH
import PyProof.DictTable
import PyProof.Rows.TupTab
import HandS.Small
import HandS.SetBool
import PyProof.SliceList
import KE.SortData
import HandS.SetKeys
import HandS.Star
import HandS.Comp
import HandS.Nested
import HandS.EndTab
import KE.KNestM
import PySem.Challenge.RW_growalong_k19_whole_pictures
set_option Elab.async false
set_option linter.all false
set_option maxRecDepth 100000
set_option maxHeartbeats 4000000
/-! ## GA -/
namespace GA
open PySem L2

/-! ### heaps: what stays -/
/-- tuples stay -/
def Ts (H H' : Hp) : Prop := ∀ a xs, Rd H a (.tup xs) → Rd H' a (.tup xs)
/-- the hand of draws: a list at hd whose first item is the list of ints at c -/
def Hand (H : Hp) (hd c : Addr) : Prop := c ≠ hd ∧ (∃ ns : List Int, H c = some (.lst (ns.map V.int))) ∧ ∃ (i b m k : Int), H hd = some (.lst [.ref c, .int i, .int b, .int m, .int k]) ∧ 0 ≤ i
/-- all that stood stands, but for the hand's own list -/
structure G (o : Option (Addr × Addr)) (H H' : Hp) : Prop where
  keep : ∀ a u, (∀ p, o = some p → a ≠ p.1) → H a = some u → H' a = some u
  tups : Ts H H'
  hand : ∀ p, o = some p → Hand H p.1 p.2 → Hand H' p.1 p.2
theorem G.refl {o : Option (Addr × Addr)} {H : Hp} : G o H H := ⟨fun _ _ _ h => h, fun _ _ h => h, fun _ _ h => h⟩
theorem G.trans {o : Option (Addr × Addr)} {H H1 H2 : Hp} (a : G o H H1) (b : G o H1 H2) : G o H H2 :=
  ⟨fun x u n h => b.keep x u n (a.keep x u n h), fun x xs h => b.tups x xs (a.tups x xs h), fun p e h => b.hand p e (a.hand p e h)⟩
theorem G.all {H H' : Hp} (g : G none H H') (a : Addr) (u : HO) (h : H a = some u) : H' a = some u := g.keep a u (fun p e => nomatch e) h
theorem G.of_all {o : Option (Addr × Addr)} {H H' : Hp} (k : ∀ a u, H a = some u → H' a = some u) : G o H H' :=
  ⟨fun a u _ h => k a u h, fun a xs h => h.elim (fun h => .inl (k _ _ h)) fun ⟨ob, h⟩ => .inr ⟨ob, k _ _ h⟩,
    fun p _ ⟨n, ⟨ns, h1⟩, i, b, m, z, h2, h3⟩ => ⟨n, ⟨ns, k _ _ h1⟩, i, b, m, z, k _ _ h2, h3⟩⟩
theorem G.up {o : Option (Addr × Addr)} {H H' : Hp} (g : G none H H') : G o H H' := G.of_all g.all
theorem G.alloc {o : Option (Addr × Addr)} {H : Hp} {p : Addr} {u : HO} (h : H p = none) : G o H (upd H p u) := G.of_all fun a w e => by
  rw [upd_ne (ne_of_none e h)]; exact e
/-- a thing that H does not know is changed -/
theorem G.mut {o : Option (Addr × Addr)} {H H' : Hp} {l : Addr} {u : HO} (g : G o H H') (h : H l = none) (hh : ∀ p, o = some p → Hand H p.1 p.2) : G o H (upd H' l u) := by
  refine ⟨fun a w n e => ?_, fun a xs e => ?_, fun p e x => ?_⟩
  · rw [upd_ne (ne_of_none e h)]; exact g.keep a w n e
  · have ne : a ≠ l := by
      rcases e with e | ⟨ob, e⟩ <;> exact ne_of_none e h
    rcases g.tups a xs e with q | ⟨ob, q⟩
    · exact .inl (by rw [upd_ne ne]; exact q)
    · exact .inr ⟨ob, by rw [upd_ne ne]; exact q⟩
  · obtain ⟨n0, ⟨ns0, h0⟩, i0, b0, m0, k0, h1, _⟩ := hh p e
    obtain ⟨n, ⟨ns, h2⟩, i, b, m, k, h3, h4⟩ := g.hand p e x
    exact ⟨n, ⟨ns, by rw [upd_ne (ne_of_none h0 h)]; exact h2⟩, i, b, m, k, by rw [upd_ne (ne_of_none h1 h)]; exact h3, h4⟩
theorem Hand.ne {H : Hp} {hd c l : Addr} (x : Hand H hd c) (h : H l = none) : l ≠ hd := fun e => by
  obtain ⟨_, _, _, _, _, _, h1, _⟩ := x
  rw [← e, h] at h1; cases h1
/-- an address that is not the hand's -/
def Off (o : Option (Addr × Addr)) (a : Addr) : Prop := ∀ p, o = some p → a ≠ p.1
theorem off_none {a : Addr} : Off none a := fun _ e => nomatch e
theorem off_new {hd c l : Addr} {H : Hp} (x : Hand H hd c) (h : H l = none) : Off (some (hd, c)) l := fun p e => by cases e; exact x.ne h
theorem off_ins {hd c a C dx : Addr} {fs : List (Str × V)} {H : Hp} (x : Hand H hd c) (h : H a = some (.ins C dx fs)) : Off (some (hd, c)) a := fun p e => by
  cases e
  obtain ⟨_, _, _, _, _, _, h1, _⟩ := x
  exact ne_of h h1 (by intro z; cases z)
theorem off_dK {hd c a : Addr} {kvs : List (Key × V)} {H : Hp} (x : Hand H hd c) (h : H a = some (.dK kvs)) : Off (some (hd, c)) a := fun p e => by
  cases e
  obtain ⟨_, _, _, _, _, _, h1, _⟩ := x
  exact ne_of h h1 (by intro z; cases z)

/-! ### data without lists -/
mutual
def nl : PyData → Bool
  | .list _ => false
  | .dict _ => false
  | .tuple ds => nls ds
  | .none => true
  | .bool _ => true
  | .int _ => true
  | .str _ => true
def nls : List PyData → Bool
  | [] => true
  | d :: ds => nl d && nls ds
end
theorem nls_iff : ∀ {ds : List PyData}, nls ds = true ↔ ∀ d ∈ ds, nl d = true
  | [] => by simp [nls]
  | d :: ds => by simp [nls, nls_iff (ds := ds)]
section
variable {K : PySem.W.Frag} {H H' : Hp}
theorem sqT_t (t : Ts H H') {a : Addr} {xs : List V} (h : SqT K H a xs) : SqT K H' a xs := h.elim (fun h => .inl (t _ _ h)) .inr
mutual
theorem dp_t (t : Ts H H') : ∀ (d : PyData) (v : V), nl d = true → Dp K H v d → Dp K H' v d
  | .none, _, _, h => by cases h; exact .non
  | .bool b, _, _, h => by cases h; exact .bl b
  | .int i, _, _, h => by cases h; exact .int i
  | .str x, _, _, h => by cases h; exact .str x
  | .list ds, _, n, _ => by simp [nl] at n
  | .dict ds, _, n, _ => by simp [nl] at n
  | .tuple ds, _, n, h => by
    cases h with
    | tup hs ha => exact .tup (sqT_t t hs) (dpAll_t t ds _ (by simpa [nl] using n) ha)
theorem dpAll_t (t : Ts H H') : ∀ (ds : List PyData) (vs : List V), nls ds = true → DpAll K H vs ds → DpAll K H' vs ds
  | [], _, _, h => by cases h; exact .nil
  | d :: ds, _, n, h => by
    cases h with
    | cons h1 h2 =>
      have n' : nl d = true ∧ nls ds = true := by simpa [nls] using n
      exact .cons (dp_t t d _ n'.1 h1) (dpAll_t t ds _ n'.2 h2)
end
theorem DpAll.length : ∀ {vs : List V} {ds : List PyData}, DpAll K H vs ds → vs.length = ds.length
  | _, _, .nil => rfl
  | _, _, .cons _ t => by simp [DpAll.length t]
theorem DpAll.get : ∀ {vs : List V} {ds : List PyData} {i : Nat} {v : V}, DpAll K H vs ds → vs[i]? = some v → ∃ d, ds[i]? = some d ∧ Dp K H v d
  | _, _, _, _, .nil, e => by simp at e
  | _, _, 0, _, .cons h _, e => by simp at e; subst e; exact ⟨_, rfl, h⟩
  | _, _, i + 1, v, .cons _ t, e => by
    obtain ⟨d, h1, h2⟩ := DpAll.get (i := i) (v := v) t (by simpa using e)
    exact ⟨d, by simpa using h1, h2⟩
theorem DpAll.get' : ∀ {vs : List V} {ds : List PyData} {i : Nat} {d : PyData}, DpAll K H vs ds → ds[i]? = some d → ∃ v, vs[i]? = some v ∧ Dp K H v d
  | _, _, _, _, .nil, e => by simp at e
  | _, _, 0, _, .cons h _, e => by simp at e; subst e; exact ⟨_, rfl, h⟩
  | _, _, i + 1, d, .cons _ t, e => by
    obtain ⟨v, h1, h2⟩ := DpAll.get' (i := i) (d := d) t (by simpa using e)
    exact ⟨v, by simpa using h1, h2⟩
theorem DpAll.app : ∀ {vs ws : List V} {ds es : List PyData}, DpAll K H vs ds → DpAll K H ws es → DpAll K H (vs ++ ws) (ds ++ es)
  | _, _, _, _, .nil, h => h
  | _, _, _, _, .cons h t, h' => .cons h (DpAll.app t h')
theorem DpAll.one {v : V} {d : PyData} (h : Dp K H v d) : DpAll K H [v] [d] := .cons h .nil
theorem DpAll.ints : ∀ (ns : List Int), DpAll K H (ns.map V.int) (ns.map PyData.int)
  | [] => .nil
  | n :: ns => .cons (.int n) (DpAll.ints ns)
theorem DpAll.of_ints : ∀ {ns : List Int} {vs : List V}, DpAll K H vs (ns.map PyData.int) → vs = ns.map V.int
  | [], _, .nil => rfl
  | n :: ns, _, .cons h t => by cases h; rw [DpAll.of_ints t]; rfl
end
/-- a tuple of ints, a pair, a tuple of pairs -/
abbrev dI (ns : List Int) : PyData := .tuple (ns.map PyData.int)
abbrev dP (w : Int × Int) : PyData := .tuple [.int w.1, .int w.2]
abbrev dW (ws : List (Int × Int)) : PyData := .tuple (ws.map dP)
theorem nls_ints (ns : List Int) : nls (ns.map PyData.int) = true := by rw [nls_iff]; intro d h; simp only [List.mem_map] at h; obtain ⟨n, _, rfl⟩ := h; rfl
theorem nls_pairs (ws : List (Int × Int)) : nls (ws.map dP) = true := by rw [nls_iff]; intro d h; simp only [List.mem_map] at h; obtain ⟨n, _, rfl⟩ := h; rfl
theorem nl_dI (ns : List Int) : nl (dI ns) = true := by show nls _ = true; exact nls_ints ns
theorem nl_dP (w : Int × Int) : nl (dP w) = true := rfl
theorem nl_dW (ws : List (Int × Int)) : nl (dW ws) = true := by show nls _ = true; exact nls_pairs ws
section
variable {K : PySem.W.Frag} {H H' : Hp}
theorem dp_dI {v : V} {ns : List Int} (h : Dp K H v (dI ns)) : ∃ a, v = .ref a ∧ SqT K H a (ns.map V.int) := by
  cases h with
  | tup hs ha => exact ⟨_, rfl, by rw [← DpAll.of_ints ha]; exact hs⟩
theorem dp_dP {v : V} {w : Int × Int} (h : Dp K H v (dP w)) : ∃ a, v = .ref a ∧ SqT K H a [.int w.1, .int w.2] := by
  cases h with
  | tup hs ha =>
    cases ha with
    | cons h1 t =>
      cases t with
      | cons h2 t =>
        cases t; cases h1; cases h2
        exact ⟨_, rfl, hs⟩
theorem dp_tup {v : V} {ds : List PyData} (h : Dp K H v (.tuple ds)) : ∃ a vs, v = .ref a ∧ SqT K H a vs ∧ DpAll K H vs ds := by
  cases h with
  | tup hs ha => exact ⟨_, _, rfl, hs, ha⟩
theorem dp_ofI {a : Addr} {ns : List Int} (h : SqT K H a (ns.map V.int)) : Dp K H (.ref a) (dI ns) := .tup h (DpAll.ints ns)
theorem dp_ofP {a : Addr} {i j : Int} (h : SqT K H a [.int i, .int j]) : Dp K H (.ref a) (dP (i, j)) := .tup h (.cons (.int i) (.cons (.int j) .nil))
end

/-! ### steps: a reading by its first part -/
section
variable {K : PySem.W.Frag} {σ : L2.St} {H : Hp} {Q : VK} {QB : Bool → Hp → Prop} {D : Ends} {ta tb tc te : TE} {t u : TT} {ts tu : TS} {r r' : R2} {v x y : V} {i j : Int} {n : Nat} {b : Bool} {A B : Prop}
theorem w_var {i : Nat} (h : σ[i]? = some (some v)) (q : Q v H) : tVar i σ H Q := ⟨v, h, q⟩
theorem w_c (q : Q v H) : tC v σ H Q := q
theorem w_op (q : ta σ H fun x H1 => tb σ H1 fun y H2 => r x y H2 Q) : tOp r ta tb σ H Q := q
theorem w_un {f : V → Hp → VK → Prop} (q : ta σ H fun x H1 => f x H1 Q) : tUn f ta σ H Q := q
theorem w_seq (q : ts { D with nx := tu D } σ H) : tSeq ts tu D σ H := q
theorem w_next (q : D.nx σ H) : tNext D σ H := q
theorem w_break (q : D.bk σ H) : tBreak D σ H := q
theorem w_set {i : Nat} (q : te σ H fun x H1 => D.nx (σ.set i (some x)) H1) : tAsg te (gName i) D σ H := q
theorem w_asg {g : TG} (q : te σ H fun x H1 => g x σ H1 D.nx) : tAsg te g D σ H := q
theorem w_drop (q : te σ H fun _ H1 => D.nx σ H1) : tDrop te D σ H := q
theorem w_ret (q : te σ H D.rt) : tRet te D σ H := q
theorem w_retN (q : D.rt .non H) : tRetN D σ H := q
theorem w_ifS (q : t σ H fun b H1 => if b = true then ts D σ H1 else tu D σ H1) : tIfS t ts tu D σ H := q
theorem w_test (q : te σ H fun x H' => ∃ k, x = .bl k ∧ QB k H') : tTest te σ H QB := q
theorem w_tB (q : te σ H fun x H' => ∃ k, x = .bl k ∧ QB k H') : tB te σ H QB := q
theorem w_bl (q : QB b H) : ∃ k, V.bl b = .bl k ∧ QB k H := ⟨b, rfl, q⟩
theorem w_not (q : t σ H fun c H1 => QB (!c) H1) : tNot t σ H QB := q
theorem w_and (q : t σ H fun c H1 => if c = true then u σ H1 QB else QB false H1) : tAnd t u σ H QB := q
theorem w_or (q : t σ H fun c H1 => if c = true then QB true H1 else u σ H1 QB) : tOr t u σ H QB := q
theorem w_andV (q : ta σ H fun x H1 => ∃ c, x = .bl c ∧ if c = true then tb σ H1 Q else Q (.bl false) H1) : tAndV ta tb σ H Q := q
theorem w_orV (q : ta σ H fun x H1 => ∃ c, x = .bl c ∧ if c = true then Q (.bl true) H1 else tb σ H1 Q) : tOrV ta tb σ H Q := q
theorem w_notV (q : ta σ H fun x H1 => ∃ c, x = .bl c ∧ Q (.bl (!c)) H1) : tNotV ta σ H Q := q
theorem w_if (q : t σ H fun c H1 => if c = true then ta σ H1 Q else tb σ H1 Q) : tIf t ta tb σ H Q := q
theorem w_blc {F : Bool → Prop} (q : F b) : ∃ c, V.bl b = .bl c ∧ F c := ⟨b, rfl, q⟩
theorem w_nil {QA : List V → Hp → Prop} (q : QA [] H) : tNil σ H QA := q
theorem w_cons {tr : TA} {QA : List V → Hp → Prop} (q : te σ H fun x H1 => tr σ H1 fun xs H2 => QA (x :: xs) H2) : tCons te tr σ H QA := q
theorem w_CB {f : List V → Hp → VK → Prop} {tr : TA} (q : tr σ H fun vs H1 => f vs H1 Q) : tCB f tr σ H Q := q
theorem w_call {sp : Sp} {E : XK} {tr : TA} (q : tr σ H fun vs H1 => sp (vs ++ []) H1 Q E) : tCall sp [] E tr σ H Q := q
theorem w_tup {tr : TA} (q : tr σ H fun xs H1 => xs.length ≤ sizeLine ∧ ∀ p, H1 p = none → Q (.ref p) (upd H1 p (.tup xs))) : tTup tr σ H Q := q
theorem w_lst {tr : TA} (q : tr σ H fun xs H1 => xs.length ≤ sizeLine ∧ ∀ p, H1 p = none → Q (.ref p) (upd H1 p (.lst xs))) : tLst tr σ H Q := q
theorem w_chain (q : ta σ H fun x H1 => tb σ H1 fun y H2 => r x y H2 fun z H3 => ∃ k, z = .bl k ∧ (if k = true then tc σ H3 fun w' H4 => r' y w' H4 Q else Q (.bl false) H3)) : tChain r r' ta tb tc σ H Q := q
theorem w_sl {f : V → Option Int → Option Int → Hp → VK → Prop} {tl th : TO} (q : te σ H fun x H1 => tl σ H1 fun l H2 => th σ H2 fun u H3 => f x l u H3 Q) : tSl f te tl th σ H Q := q
theorem w_part {QO : Option Int → Hp → Prop} (q : te σ H fun x H1 => ∃ i, x = .int i ∧ QO (some i) H1) : tPart te σ H QO := q
theorem w_noPart {QO : Option Int → Hp → Prop} (q : QO none H) : tNoPart σ H QO := q
theorem w_inti {F : Int → Prop} (q : F i) : ∃ k, V.int i = .int k ∧ F k := ⟨i, rfl, q⟩
theorem w_fld {f : Str} (q : te σ H fun x H1 => ∃ a C dx fs v, x = .ref a ∧ H1 a = some (.ins C dx fs) ∧ Cls K C ∧ NoAttr K C f ∧ fs.lookup f = some v ∧ Q v H1) : tFld K te f σ H Q := q
theorem w_sfld {f : Str} (q : tb σ H fun y H1 => ta σ H1 fun x H2 => ∃ a C dx fs, x = .ref a ∧ H2 a = some (.ins C dx fs) ∧ Cls K C ∧ NoAttr K C f ∧ fs.length < 1000 ∧ D.nx σ (upd H2 a (.ins C dx (putF f y fs)))) : sFld K ta tb f D σ H := q
theorem w_gsub {to ti : TE} {s : TSet} {QS : L2.St → Hp → Prop} (q : to σ H fun o H1 => ti σ H1 fun i H2 => s o i v H2 fun H3 => QS σ H3) : gSub to ti s v σ H QS := q
theorem w_gname {i : Nat} {QS : L2.St → Hp → Prop} (q : QS (σ.set i (some v)) H) : gName i v σ H QS := q
/-! by values -/
theorem r_I0 {g : Int → Int → V} (q : Q (g i j) H) : rI0 g (.int i) (.int j) H Q := ⟨i, j, rfl, rfl, q⟩
theorem r_I {C : Int → Int → Prop} {g : Int → Int → V} (c : C i j) (q : Q (g i j) H) : rI C g (.int i) (.int j) H Q := ⟨i, j, rfl, rfl, c, q⟩
theorem r_U {g : Int → V} (q : Q (g i) H) : rU g (.int i) H Q := ⟨i, rfl, q⟩
theorem r_eqI (q : Q (.bl (decide (i = j))) H) : rEq (.int i) (.int j) H Q := ⟨rfl, by
  have e : decide (V.int i = V.int j) = decide (i = j) := by simp
  rw [e]; exact q⟩
theorem r_neI (q : Q (.bl (!decide (i = j))) H) : rNe (.int i) (.int j) H Q := ⟨rfl, by
  have e : decide (V.int i = V.int j) = decide (i = j) := by simp
  rw [e]; exact q⟩
theorem r_eqB {a b : Bool} (q : Q (.bl (decide (a = b))) H) : rEq (.bl a) (.bl b) H Q := ⟨rfl, by
  have e : decide (V.bl a = V.bl b) = decide (a = b) := by simp
  rw [e]; exact q⟩
theorem r_neB {a b : Bool} (q : Q (.bl (!decide (a = b))) H) : rNe (.bl a) (.bl b) H Q := ⟨rfl, by
  have e : decide (V.bl a = V.bl b) = decide (a = b) := by simp
  rw [e]; exact q⟩
theorem r_ixT {p : Addr} {xs : List V} (h : SqT K H p xs) (e : atI xs i = some v) (q : Q v H) : rIxT K (.ref p) (.int i) H Q := ⟨p, xs, i, v, rfl, rfl, h, e, q⟩
theorem r_ixL {p : Addr} {xs : List V} (h : SqL K H p xs) (e : atI xs i = some v) (q : Q v H) : rIxL K (.ref p) (.int i) H Q := ⟨p, xs, i, v, rfl, rfl, h, e, q⟩
theorem w_ite (h1 : b = true → A) (h2 : b = false → B) : if b = true then A else B := by
  cases b with
  | true => exact h1 rfl
  | false => exact h2 rfl
theorem w_newT {o : Option (Addr × Addr)} {xs : List V} (q : ∀ p H1, H p = none → G o H H1 → H1 p = some (.tup xs) → Q (.ref p) H1) (hz : xs.length ≤ 100000 := by simp) : xs.length ≤ sizeLine ∧ ∀ p, H p = none → Q (.ref p) (upd H p (.tup xs)) :=
  ⟨Nat.le_trans hz (by decide), fun p hp => q p _ hp (G.alloc hp) upd_same⟩
theorem w_newL {o : Option (Addr × Addr)} {xs : List V} (q : ∀ p H1, H p = none → G o H H1 → H1 p = some (.lst xs) → Q (.ref p) H1) (hz : xs.length ≤ 100000 := by simp) : xs.length ≤ sizeLine ∧ ∀ p, H p = none → Q (.ref p) (upd H p (.lst xs)) :=
  ⟨Nat.le_trans hz (by decide), fun p hp => q p _ hp (G.alloc hp) upd_same⟩
end
end GA
/-! ## GB -/
namespace PySem
open Sem (wp)
open AutoSeq1 (wpAny_loadPart')
theorem ga_enumerate_newT (l : Addr) (items : Array Value) :
    Meets (Builtin.«enumerate.__new__» ⟨[.type "enumerate", .ref l], []⟩) (fun _ R s => s.heap.IsTuple l items ∧
      R (.ok (.ret (.ref (s.heap.push { cls := .type "tuple_iterator", data := .fields #[.ref l, .int 0 0] }).objs.size)))
        { s with heap := (s.heap.push { cls := .type "tuple_iterator", data := .fields #[.ref l, .int 0 0] }).push { cls := .type "enumerate", data := .fields #[.none, .bool false, .ref s.heap.objs.size, rawInt 0, .none, .none] } }) :=
  .of_wp fun prog w A R s h => by
    obtain ⟨hp, g, d, tk, os⟩ := s; obtain ⟨hl, h⟩ := h
    have hsub := sub_enumerate
    have hL : Heap.IsTuple (Shared.heap ⟨hp, g, d, tk, os⟩) l items := hl
    obtain ⟨ob, hob, _⟩ := id hl
    wp_walk using wpAny_loadPart' hob
    refine wpAny_stack_any fun st => wpAny_pure ?_
    split
    · rename_i c _ _ _ _ _
      cases (c == Value.type "enumerate")
      · wp_walk using wpAny_loadPart' hob, wpAny_pyIter_tuple hL
        exact ⟨_, rfl, h⟩
      · wp_walk using wpAny_loadPart' hob, wpAny_pyIter_tuple hL
        exact ⟨_, rfl, h⟩
    · wp_walk using wpAny_loadPart' hob, wpAny_pyIter_tuple hL
      exact ⟨_, rfl, h⟩
theorem ga_enumerate_tuple {prog : Program} {w : World} {A : Around} {E : Value → Shared → Prop} {s : Shared} {l : Addr} {items : Array Value} {Q : Value → Shared → Prop} (hL : s.heap.IsTuple l items)
    (h : ∀ h', IsEnum h' (s.heap.objs.size + 1) s.heap.objs.size 0 .none → h'.IsTupleIter s.heap.objs.size l 0 → h'.objs.size = s.heap.objs.size + 2 →
      (∀ b o, s.heap.get? b = some o → h'.get? b = some o) → Q (.ref (s.heap.objs.size + 1)) { s with heap := h' }) :
    wpAny (model prog w) A (call (.type "enumerate") [.ref l]) Q E s := by
  refine callType_new F.called_enumerate (by decide) (F.typeCall_enumerate_1 _) (F.newCall_enumerate_1 _) (fun obj => F.args_object_init_2 obj _) F.entry_enumerate_new
    (ga_enumerate_newT l items) ⟨hL, ?_⟩
  have hz : (s.heap.push { cls := .type "tuple_iterator", data := .fields #[.ref l, .int 0 0] }).objs.size = s.heap.objs.size + 1 := Heap.size_push ..
  show _ ∧ _
  rw [hz]
  have he : IsEnum ((s.heap.push { cls := .type "tuple_iterator", data := .fields #[.ref l, .int 0 0] }).push
      { cls := .type "enumerate", data := .fields #[.none, .bool false, .ref s.heap.objs.size, rawInt 0, .none, .none] }) (s.heap.objs.size + 1) s.heap.objs.size 0 .none := by
    have := Heap.get?_push_size (s.heap.push { cls := .type "tuple_iterator", data := .fields #[.ref l, .int 0 0] })
      (o := { cls := .type "enumerate", data := .fields #[.none, .bool false, .ref s.heap.objs.size, rawInt 0, .none, .none] }) rfl
    rw [hz] at this; exact this
  refine ⟨⟨_, he, rfl⟩, h _ he ⟨_, Heap.get?_push_of_some _ (Heap.get?_push_size _ rfl), rfl, rfl⟩ (by rw [Heap.size_push, hz]) fun b o x => Heap.get?_push_of_some _ (Heap.get?_push_of_some _ x)⟩
end PySem
namespace GA
open PySem PySem.Spec PyProof.Rows L2
/-- enumerate over a tuple -/
def IteT (K : PySem.W.Frag) (a : Addr) : It :=
  ⟨fun i H => ∃ (xs : List V) (x : V), SqT K H a xs ∧ xs[i]? = some x, fun i H v H' => ∃ T x, v = .ref T ∧ H T = none ∧ H' = upd H T (.tup [.int (i : Nat), x]) ∧ ∀ xs, SqT K H a xs → xs[i]? = some x, fun i H => ∃ xs : List V, SqT K H a xs ∧ xs.length ≤ i⟩
theorem turn_enumT {P : Program} {w : World} {K : PySem.W.Frag} {elts : List Expr} {kk : Nat} {tpos : Pos} (a e it : Addr) (nai : a ≠ it) (nae : a ≠ e) :
    Turn P w K (.Tuple elts kk tpos) (IteT K a) [e, it] e (fun i h => (∃ old, IsEnum h e it ((i : Nat) : Int) old) ∧ h.IsTupleIter it a i ∧ e ≠ it) where
  mem := by simp
  obj := fun i h st b hb => by
    obtain ⟨⟨old, he⟩, ⟨o, ho, hc, hd⟩, _⟩ := st
    have e' : b = e ∨ b = it := by simpa using hb
    rcases e' with z | z
    · rw [z]; exact ⟨_, he, fun v q => nomatch q⟩
    · rw [z]; exact ⟨o, ho, fun v q => by rw [hd] at q; cases q⟩
  keep := fun i h h' st k => let ⟨⟨old, he⟩, hi, hne⟩ := st; ⟨⟨old, k e (by simp) _ he⟩, hi.at fun o q => k it (by simp) o q, hne⟩
  item := by
    intro X hP hw hK hc i pins s σ H E I hf st hg
    subst hP hw hK
    obtain ⟨⟨old, he⟩, hit, hne⟩ := st
    obtain ⟨xs, x, hq, hx⟩ := hg
    obtain ⟨its, rv, p, hz⟩ := I.tuple hq
    obtain ⟨u, hu, ru⟩ := rv.get hx
    have hel : e < s.heap.objs.size := Heap.lt_size he
    have hil : it < s.heap.objs.size := by obtain ⟨_, q, _⟩ := hit; exact Heap.lt_size q
    have hi : i < its.toArray.size := by
      have := (List.getElem?_eq_some_iff.mp hu).1
      simpa using this
    refine wpAny_pyNext_enum_itemD (Draws.tuple (prog := X.prog) (w := X.w) (A := X.A.in1) (I.ok.hd hc) it a nai its.toArray) he ⟨hit, p⟩ hi hne (by simp [hne, Ne.symm nae]) fun v h' tk hv ho hst hT hsz hk => ?_
    have ev : v = u := by
      have z : its.toArray[i]? = some u := by simpa using hu
      rw [z] at hv; exact (Option.some.inj hv).symm
    subst ev
    refine ⟨_, rfl, wpAny_letOwnedTupleGo_enum (s := { s with heap := h', toks := tk + 1 }) ho fun h'' he' sb => ?_⟩
    have hT2 : h''.get? s.heap.objs.size = some { cls := .type "tuple", data := .seq #[.int i tk, v] } := (sb.2 _ (Nat.ne_of_gt hel)).trans hT
    have new : ObjOk X.prog X.w (upd H s.heap.objs.size (.tup [.int (i : Nat), x])) h'' s.heap.objs.size (.tup [.int (i : Nat), x]) :=
      ⟨by show 2 ≤ sizeLine; decide, [.int i tk, v], .cons ⟨_, rfl⟩ (.cons ru .nil), ⟨_, hT2, rfl, _, rfl⟩⟩
    have I1 : Inv X pins σ (upd H s.heap.objs.size (.tup [.int (i : Nat), x])) { s with heap := h'', toks := tk + 1 } :=
      I.turnedNew (ch := [e, it]) (fun b ob hb q => (sb.2 b (fun z => hb (by simp [z]))).trans (hk b ob (fun z => hb (by simp [z])) (fun z => hb (by simp [z])) q)) hf (Nat.le_refl _) new
    refine ⟨.ref s.heap.objs.size, _, I1, rfl, ⟨_, x, rfl, I.hok.fresh (Nat.le_refl _), rfl, fun ys hy => by rw [I.tuple_inj hy hq]; exact hx⟩, ⟨⟨v, ?_⟩, hst.1.at fun o q => (sb.2 it (Ne.symm hne)).trans q, hne⟩, fun b hb => ?_⟩
    · have e1 : ((i + 1 : Nat) : Int) = (i : Int) + 1 := by omega
      rw [e1]; exact he'
    · have hb' : b < s.heap.objs.size := by
        have e' : b = e ∨ b = it := by simpa using hb
        rcases e' with z | z
        · rw [z]; exact hel
        · rw [z]; exact hil
      rw [upd_ne (Nat.ne_of_lt hb')]
      exact (hf b hb).1
  done := by
    intro X hP hw hK hc i pins s σ H E I hf st hg
    subst hP hw hK
    obtain ⟨⟨old, he⟩, hit, hne⟩ := st
    obtain ⟨xs, hq, hx⟩ := hg
    obtain ⟨its, rv, p, hz⟩ := I.tuple hq
    obtain ⟨f0, f1, f2, f3, f4, f5⟩ := hf it (by simp)
    have hl := rv.length
    have hT : s.TypeIs (.ref e) "enumerate" := ⟨_, he, rfl⟩
    unfold pyNext
    refine wpAny_bind (wpAny_attempt (wpAny_callSpecial?_slot (name := Str.ofString "__next__") hT F.slot_enumerate_next
      (wpAny_call_entry F.slot_enumerate_next hT F.entry_enumerate_next ?_ (F.args_enumerate_next_1 _))))
    show wpAny _ _ (field (.ref e) 2 >>= _) _ _ _
    refine wpAny_bind (wpAny_field he rfl (x := .ref it) rfl ?_)
    refine wpAny_bind (wpAny_nextOf_tuple_end (I.ok.hd hc) hit p (by simp; omega) fun h' x' he' hx' => ?_)
    obtain ⟨o, ho, hc'⟩ := hx'
    refine wpAny_bind (wpAny_isInstance (T := "StopIteration") (b := true) ⟨o, ho, hc'⟩ isSubtype_stop ?_)
    exact wpAny_pure ⟨rfl, I.turned (t' := s.toks) (fun b o hb q => he' b o hb q) f0 f1 f3 f4 f5⟩
  self := by
    intro A i s Q E st h
    obtain ⟨⟨old, he⟩, _⟩ := st
    exact wpAny_pyIter_enum he h
def iEnumT (K : PySem.W.Frag) (ta : TA) : TI := fun σ H R => ta σ H fun vs H1 => ∃ a xs, vs = [.ref a] ∧ SqT K H1 a xs ∧ R (IteT K a) H1
theorem pi_enumT {X : Cx} {e : Expr} {ta : TA} {p pos tpos : Pos} {elts : List Expr} {kk : Nat} (hg : Gl X "enumerate") (hm : X.mg "enumerate" = none) (ha : PA X [e] ta) (hs : starEach [e] X.env = [(false, eval e X.env)] := by rfl) :
    PI X (.Tuple elts kk tpos) (.Call (.Name "enumerate" p) [e] [] pos) (iEnumT X.K ta) := by
  refine ⟨fun pins s σ H R I h => ?_⟩
  refine Call_ (ld_blt I hg hm boot_enumerate (PyProof.Rows.callWith_type1 (thn (ha.run pos pins s σ H _ I h) fun us s1 ⟨vs, H1, I1, r1, q1⟩ => ?_) hs rfl))
  obtain ⟨a, xs, ex, hq, q⟩ := q1
  subst ex
  cases r1 with
  | cons r rr =>
    cases rr
    cases r
    obtain ⟨its, rv, p', hz⟩ := I1.tuple hq
    have hal : a < s1.heap.objs.size := p'.lt
    refine ga_enumerate_tuple p' fun h' he hit hsz hk => wpAny_pyIter_enum he ?_
    have I2 : Inv X pins σ H1 { s1 with heap := h' } := I1.kept (t' := s1.toks) hk
    refine ⟨s1.heap.objs.size + 1, [s1.heap.objs.size + 1, s1.heap.objs.size], _, _, H1, rfl, I2, turn_enumT a (s1.heap.objs.size + 1) s1.heap.objs.size (Nat.ne_of_lt hal) (Nat.ne_of_lt (Nat.lt_succ_of_lt hal)), ⟨⟨.none, he⟩, hit, Nat.succ_ne_self _⟩, fun b hb => ?_, q⟩
    have e' : b = s1.heap.objs.size + 1 ∨ b = s1.heap.objs.size := by simpa using hb
    have hle : s1.heap.objs.size ≤ b := by
      rcases e' with z | z
      · rw [z]; exact Nat.le_add_right _ _
      · rw [z]; exact Nat.le_refl _
    exact I1.fpOk hle (I1.hok.fresh hle)
theorem walk_enumT {K : PySem.W.Frag} {a : Addr} {xs : List V} : Walk (IteT K a) xs.length (fun H => SqT K H a xs) (YPair (fun i => some (.int (i : Nat))) (fun i => xs[i]?)) := by
  refine ⟨fun i _ hi q => ⟨xs, xs[i], q, by simp [hi]⟩, fun _ q => ⟨xs, q, Nat.le_refl _⟩, fun i H v H' _ q y => ?_⟩
  obtain ⟨T, x, h1, h2, h3, h4⟩ := y
  exact ⟨T, .int (i : Nat), x, h1, h2, h3, rfl, h4 xs q⟩
end GA
/-! ## GC -/
namespace GA
open PySem L2
theorem Ts.of {H H' : Hp} (k : ∀ a u, H a = some u → (∀ xs, u ≠ .lst xs) → H' a = some u) : Ts H H' := fun a xs h => h.elim (fun h => .inl (k a _ h fun _ z => nomatch z)) fun ⟨ob, h⟩ => .inr ⟨ob, k a _ h fun _ z => nomatch z⟩
theorem Ts.updl {H : Hp} {D : Addr} {xs : List V} {u : HO} (h : H D = some (.lst xs)) : Ts H (upd H D u) := Ts.of fun a w e n => by
  rw [upd_ne (ne_of e h (n xs))]; exact e
theorem Ts.trans {H H1 H2 : Hp} (a : Ts H H1) (b : Ts H1 H2) : Ts H H2 := fun x xs h => b x xs (a x xs h)
section
variable {K : PySem.W.Frag} {J : It} {n : Nat} {Gd : Hp → Prop} {Y : Nat → Hp → V → Hp → Prop} {o : Option (Addr × Addr)} {H1 : Hp} {D : Addr} {g : TG} {tt : TT} {te : TE} {vs : List Nat} {σ : L2.St} {Qd : Hp → Prop}
/-- a comprehension: what it has made as data; Pv by the turn, the data, the heap -/
theorem lc_data (wk : Walk J n Gd Y) (hn : n ≤ 100000) (hD : H1 D = none) (hh : ∀ p, o = some p → Hand H1 p.1 p.2) (Pv : Nat → List PyData → Hp → Prop)
    (stab : ∀ i acc H xs l, Pv i acc H → H D = some (.lst xs) → Pv i acc (upd H D (.lst l)))
    (h0 : Pv 0 [] (upd H1 D (.lst [])))
    (hG : ∀ i acc H, G o H1 H → Pv i acc H → Gd H)
    (hs : ∀ i x acc H H', i < n → G o H1 H → Pv i acc H → Y i H x H' → ∀ (Qy : V → Hp → Prop) (Qn : Hp → Prop), (∀ y H4 e, G o H H4 → Dp K H4 y e → nl e = true → Pv (i + 1) (acc ++ [e]) H4 → Qy y H4) → (∀ H3, G o H H3 → Pv (i + 1) acc H3 → Qn H3) →
      g x (wipe σ vs) H' fun σ2 H2 => wipe σ2 vs = wipe σ vs ∧ tt σ2 H2 fun b H3 => if b = true then te σ2 H3 Qy else Qn H3)
    (hd : ∀ ds xs H', Pv n ds H' → G o H1 H' → H' D = some (.lst xs) → DpAll K H' xs ds → nls ds = true → Qd H') :
    ∃ W : Nat → Nat → Hp → Prop, (∃ m, W 0 m (upd H1 D (.lst []))) ∧ ∀ i m H, W i m H →
      (J.stop i H ∧ Qd H) ∨ (J.go i H ∧ ∃ Nx : Hp → Prop, (∀ H', Nx H' → ∃ m', m' < m ∧ W (i + 1) m' H') ∧ ∀ x H', J.yld i H x H' → g x (wipe σ vs) H' fun σ2 H2 => wipe σ2 vs = wipe σ vs ∧ tt σ2 H2 fun b H3 =>
        if b = true then te σ2 H3 fun y H4 => ∃ acc, H4 D = some (.lst acc) ∧ acc.length < sizeLine ∧ Nx (upd H4 D (.lst (acc ++ [y]))) else Nx H3) := by
  have offD : ∀ p, o = some p → D ≠ p.1 := fun p e => (hh p e).ne hD
  refine lc_it wk (fun i H => ∃ ds xs, G o H1 H ∧ Pv i ds H ∧ H D = some (.lst xs) ∧ DpAll K H xs ds ∧ nls ds = true ∧ xs.length ≤ i) ?_ ?_ ?_ ?_
  · exact ⟨[], [], (G.refl).mut hD hh, h0, upd_same, .nil, rfl, Nat.le_refl _⟩
  · rintro i H _ ⟨ds, xs, q1, q2, _⟩
    exact hG i ds H q1 q2
  · rintro i x H H' hi ⟨ds, xs, q1, q2, q3, q4, q5, q6⟩ y
    have keepD : ∀ {H4 : Hp}, G o H H4 → H4 D = some (.lst xs) := fun g4 => g4.keep D _ offD q3
    refine hs i x ds H H' hi q1 q2 y _ _ (fun v H4 e g4 he ne hp => ?_) fun H3 g3 hp => ⟨ds, xs, q1.trans g3, hp, keepD g3, dpAll_t g3.tups _ _ q5 q4, q5, by omega⟩
    have hD4 := keepD g4
    have t4 : Ts H4 (upd H4 D (.lst (xs ++ [v]))) := Ts.updl hD4
    refine ⟨xs, hD4, Nat.lt_of_le_of_lt (by omega : xs.length ≤ 100000) (by decide), ds ++ [e], xs ++ [v], (q1.trans g4).mut hD hh, stab _ _ _ _ _ hp hD4, upd_same, ?_, ?_, ?_⟩
    · exact DpAll.app (dpAll_t (g4.tups.trans t4) _ _ q5 q4) (DpAll.one (dp_t t4 e v ne he))
    · rw [nls_iff] at q5 ⊢
      intro d hd
      rcases List.mem_append.mp hd with z | z
      · exact q5 d z
      · have : d = e := by simpa using z
        rw [this]; exact ne
    · rw [List.length_append, List.length_singleton]; omega
  · rintro H ⟨ds, xs, q1, q2, q3, q4, q5, _⟩
    exact hd ds xs H q2 q1 q3 q4 q5
/-- one whose items are told by their places -/
theorem lc_pure (wk : Walk J n Gd Y) (hn : n ≤ 100000) (hD : H1 D = none) (hh : ∀ p, o = some p → Hand H1 p.1 p.2) (f : Nat → Option PyData)
    (hG : ∀ H, G o H1 H → Gd H)
    (hs : ∀ i x H H', i < n → G o H1 H → Y i H x H' → ∀ (Qy : V → Hp → Prop) (Qn : Hp → Prop), (∀ y H4 e, G o H H4 → Dp K H4 y e → nl e = true → f i = some e → Qy y H4) → (∀ H3, G o H H3 → f i = none → Qn H3) →
      g x (wipe σ vs) H' fun σ2 H2 => wipe σ2 vs = wipe σ vs ∧ tt σ2 H2 fun b H3 => if b = true then te σ2 H3 Qy else Qn H3)
    (hd : ∀ xs H', G o H1 H' → H' D = some (.lst xs) → DpAll K H' xs ((List.range n).filterMap f) → nls ((List.range n).filterMap f) = true → Qd H') :
    ∃ W : Nat → Nat → Hp → Prop, (∃ m, W 0 m (upd H1 D (.lst []))) ∧ ∀ i m H, W i m H →
      (J.stop i H ∧ Qd H) ∨ (J.go i H ∧ ∃ Nx : Hp → Prop, (∀ H', Nx H' → ∃ m', m' < m ∧ W (i + 1) m' H') ∧ ∀ x H', J.yld i H x H' → g x (wipe σ vs) H' fun σ2 H2 => wipe σ2 vs = wipe σ vs ∧ tt σ2 H2 fun b H3 =>
        if b = true then te σ2 H3 fun y H4 => ∃ acc, H4 D = some (.lst acc) ∧ acc.length < sizeLine ∧ Nx (upd H4 D (.lst (acc ++ [y]))) else Nx H3) := by
  refine lc_data (K := K) wk hn hD hh (fun i acc _ => acc = (List.range i).filterMap f) (fun _ _ _ _ _ h _ => h) rfl (fun _ _ H q _ => hG H q) ?_ ?_
  · rintro i x acc H H' hi q1 rfl y Qy Qn ky kn
    refine hs i x H H' hi q1 y Qy Qn (fun y H4 e g4 he ne hf => ky y H4 e g4 he ne ?_) fun H3 g3 hf => kn H3 g3 ?_
    · rw [List.range_succ, List.filterMap_append]; simp [hf]
    · rw [List.range_succ, List.filterMap_append]; simp [hf]
  · rintro ds xs H' rfl q1 q2 q3 q4
    exact hd xs H' q1 q2 q3 q4
end
theorem G.at_hd {H0 H' : Hp} {hd c : Addr} (x : Hand H0 hd c) (E : ∀ a, a ≠ hd → H' a = H0 a) {i b m k : Int} (h : H' hd = some (.lst [.ref c, .int i, .int b, .int m, .int k])) (hi : 0 ≤ i) : G (some (hd, c)) H0 H' ∧ Hand H' hd c := by
  obtain ⟨n, ⟨ns, h1⟩, i0, b0, m0, k0, h2, h3⟩ := x
  have hh : Hand H' hd c := ⟨n, ⟨ns, by rw [E c n]; exact h1⟩, i, b, m, k, h, hi⟩
  refine ⟨⟨fun a u z e => ?_, fun a xs e => ?_, fun p e _ => ?_⟩, hh⟩
  · rw [E a (z _ rfl)]; exact e
  · have na : a ≠ hd := by
      rcases e with e | ⟨ob, e⟩
      · exact ne_of e h2 (by intro z; cases z)
      · exact ne_of e h2 (by intro z; cases z)
    rcases e with e | ⟨ob, e⟩
    · exact .inl (by rw [E a na]; exact e)
    · exact .inr ⟨ob, by rw [E a na]; exact e⟩
  · cases e; exact hh
theorem mem_cutV {xs : List V} {lo hi : Option Int} {v : V} (h : v ∈ cutV xs lo hi) : v ∈ xs := by
  unfold cutV at h
  exact List.mem_of_mem_drop (List.mem_of_mem_take h)
theorem ints_of {xs : List V} (h : ∀ v ∈ xs, ∃ n : Int, v = .int n) : ∃ ns : List Int, xs = ns.map V.int := by
  induction xs with
  | nil => exact ⟨[], rfl⟩
  | cons x xs ih =>
    obtain ⟨n, rfl⟩ := h x List.mem_cons_self
    obtain ⟨ns, rfl⟩ := ih fun v hv => h v (List.mem_cons_of_mem _ hv)
    exact ⟨n :: ns, rfl⟩
/-! new objects, told by what they leave -/
theorem PE.weak {X : Cx} {e : Expr} {t t' : TE} (h : PE X e t) (w : ∀ σ H Q, t' σ H Q → t σ H Q) : PE X e t' := ⟨fun pins s σ H Q I q => h.run pins s σ H Q I (w σ H Q q)⟩
theorem CallR.weak {X : Cx} {f : Value} {r r' : List V → Hp → VK → Prop} (h : CallR X f r) (w : ∀ xs H Q, r' xs H Q → r xs H Q) : CallR X f r' := fun pins s σ H xs us Q I rv q => h pins s σ H xs us Q I rv (w xs H Q q)
theorem OpR.weak {X : Cx} {f : Value → Value → Sem Value} {r r' : R2} (h : OpR X f r) (w : ∀ x y H Q, r' x y H Q → r x y H Q) : OpR X f r' := fun pins s σ H x y v u Q I r1 r2 q => h pins s σ H x y v u Q I r1 r2 (w x y H Q q)
theorem SlR.weak {X : Cx} {r r' : V → Option Int → Option Int → Hp → VK → Prop} (h : SlR X r) (w : ∀ x l u H Q, r' x l u H Q → r x l u H Q) : SlR X r' := fun pins s σ H x v vl vu lo hi sl Q I r1 hs pl pu q => h pins s σ H x v vl vu lo hi sl Q I r1 hs pl pu (w x lo hi H Q q)
/-- for each new object u at p: F p H2 -/
def New (H : Hp) (u : HO) (F : Addr → Hp → Prop) : Prop := ∀ p H2, H p = none → (∀ o, G o H H2) → H2 p = some u → F p H2
theorem New.go {H : Hp} {u : HO} {F : Addr → Hp → Prop} (h : New H u F) {p : Addr} (hp : H p = none) : F p (upd H p u) := h p _ hp (fun _ => G.alloc hp) upd_same
def tTupN (t : TA) : TE := fun σ H Q => t σ H fun xs H1 => xs.length ≤ sizeLine ∧ New H1 (.tup xs) fun p H2 => Q (.ref p) H2
def tLstN (t : TA) : TE := fun σ H Q => t σ H fun xs H1 => xs.length ≤ sizeLine ∧ New H1 (.lst xs) fun p H2 => Q (.ref p) H2
section
variable {X : Cx} {es : List Expr} {t : TA} {pos : Pos}
theorem pe_tupN {x1} (h : PA X es t) : PE X (.Tuple es x1 pos) (tTupN t) := by
  have h' : PA X es (fun σ H QA => t σ H QA) := h
  refine ⟨fun pins s σ H Q I q => ?_⟩
  have hm : PA X es (fun σ H QA => t σ H (fun xs H1 => xs.length ≤ sizeLine ∧ New H1 (.tup xs) fun p H2 => Q (.ref p) H2) ∧ ∀ xs H1, (xs.length ≤ sizeLine ∧ New H1 (.tup xs) fun p H2 => Q (.ref p) H2) → QA xs H1) :=
    ⟨fun pos pins s σ H QA I q => wpAny_mono (h.run pos pins s σ H _ I q.1) (fun us s1 ⟨vs, H1, I1, r, z⟩ => ⟨vs, H1, I1, r, q.2 vs H1 z⟩) fun _ _ z => z⟩
  exact (pe_tup hm).run pins s σ H Q I ⟨q, fun xs H1 z => ⟨z.1, fun p hp => z.2.go hp⟩⟩
theorem pe_lstN (h : PA X es t) : PE X (.List es pos) (tLstN t) := by
  refine ⟨fun pins s σ H Q I q => ?_⟩
  have hm : PA X es (fun σ H QA => t σ H (fun xs H1 => xs.length ≤ sizeLine ∧ New H1 (.lst xs) fun p H2 => Q (.ref p) H2) ∧ ∀ xs H1, (xs.length ≤ sizeLine ∧ New H1 (.lst xs) fun p H2 => Q (.ref p) H2) → QA xs H1) :=
    ⟨fun pos pins s σ H QA I q => wpAny_mono (h.run pos pins s σ H _ I q.1) (fun us s1 ⟨vs, H1, I1, r, z⟩ => ⟨vs, H1, I1, r, q.2 vs H1 z⟩) fun _ _ z => z⟩
  exact (pe_lst hm).run pins s σ H Q I ⟨q, fun xs H1 z => ⟨z.1, fun p hp => z.2.go hp⟩⟩
end
/-- tuple(a list): a new tuple; tuple(a tuple): itself -/
def rTupleN (K : PySem.W.Frag) : List V → Hp → VK → Prop := fun xs H Q => ∃ p ys, xs = [.ref p] ∧ ((SqL K H p ys ∧ New H (.tup ys) fun l H2 => Q (.ref l) H2) ∨ (SqT K H p ys ∧ Q (.ref p) H))
theorem call_tupleN {X : Cx} : CallR X (.type "tuple") (rTupleN X.K) := CallR.weak call_tuple_of fun xs H Q h => by
  obtain ⟨p, ys, e, h | h⟩ := h
  · exact ⟨p, ys, e, .inl ⟨h.1, fun l hl => h.2.go hl⟩⟩
  · exact ⟨p, ys, e, .inr h⟩
def rListN (K : PySem.W.Frag) : List V → Hp → VK → Prop := fun xs H Q => ∃ p ys, xs = [.ref p] ∧ (SqL K H p ys ∨ SqT K H p ys) ∧ New H (.lst ys) fun l H2 => Q (.ref l) H2
theorem call_listN {X : Cx} : CallR X (.type "list") (rListN X.K) := CallR.weak call_list_of fun xs H Q h => by
  obtain ⟨p, ys, e, h, q⟩ := h
  exact ⟨p, ys, e, h, fun l hl => q.go hl⟩
theorem w_tupN {σ : L2.St} {H : Hp} {Q : VK} {tr : TA} (q : tr σ H fun xs H1 => xs.length ≤ sizeLine ∧ New H1 (.tup xs) fun p H2 => Q (.ref p) H2) : tTupN tr σ H Q := q
theorem w_lstN {σ : L2.St} {H : Hp} {Q : VK} {tr : TA} (q : tr σ H fun xs H1 => xs.length ≤ sizeLine ∧ New H1 (.lst xs) fun p H2 => Q (.ref p) H2) : tLstN tr σ H Q := q
/-- for up to so many items -/
theorem sz {n : Nat} (h : n ≤ 100000) : n ≤ sizeLine := Nat.le_trans h (by decide)
theorem filterMap_range_map {α β : Type} (l : List α) (f : α → β) : (List.range l.length).filterMap (fun i => (l[i]?).map f) = l.map f := by
  induction l with
  | nil => rfl
  | cons a l ih =>
    rw [List.length_cons, List.range_succ_eq_map, List.filterMap_cons, List.filterMap_map]
    simp only [List.getElem?_cons_zero, Option.map_some, List.map_cons]
    congr 1
theorem filterMap_range_fm {α β : Type} (l : List α) (f : α → Option β) : (List.range l.length).filterMap (fun i => (l[i]?).bind f) = l.filterMap f := by
  induction l with
  | nil => rfl
  | cons a l ih =>
    rw [List.length_cons, List.range_succ_eq_map, List.filterMap_cons, List.filterMap_map, List.filterMap_cons]
    simp only [List.getElem?_cons_zero, Option.bind_some]
    cases f a with
    | none => exact ih
    | some b => simp only []; congr 1
section
variable {K : PySem.W.Frag} {σ : L2.St} {H : Hp} {Q : VK} {D : Ends}
theorem w_lc {wi : TI} {g : TG} {tt : TT} {te : TE} {vs : List Nat} (q : wi σ H fun J H1 => ∀ D, H1 D = none → ∃ W : Nat → Nat → Hp → Prop, (∃ m, W 0 m (upd H1 D (.lst []))) ∧ ∀ i m H, W i m H →
  (J.stop i H ∧ Q (.ref D) H) ∨ (J.go i H ∧ ∃ Nx : Hp → Prop, (∀ H', Nx H' → ∃ m', m' < m ∧ W (i + 1) m' H') ∧ ∀ x H', J.yld i H x H' → g x (wipe σ vs) H' fun σ2 H2 => wipe σ2 vs = wipe σ vs ∧ tt σ2 H2 fun b H3 =>
    if b = true then te σ2 H3 fun y H4 => ∃ acc, H4 D = some (.lst acc) ∧ acc.length < sizeLine ∧ Nx (upd H4 D (.lst (acc ++ [y]))) else Nx H3)) : tLc wi g tt te vs σ H Q := q
theorem w_nt {A B : Prop} (q : B) : if (!true) = true then A else B := q
theorem w_nf {A B : Prop} (q : A) : if (!false) = true then A else B := q
theorem w_iteE {b : Bool} {A B : Prop} (e : b = true) (q : A) : if b = true then A else B := by rw [if_pos e]; exact q
theorem w_iteN {b : Bool} {A B : Prop} (e : b = false) (q : B) : if b = true then A else B := by rw [e]; exact q
theorem w_isN {te : TE} (q : te σ H fun x H1 => Q (.bl (decide (x = .non))) H1) : tIsN te σ H Q := q
theorem w_notN {te : TE} (q : te σ H fun x H1 => Q (.bl (!decide (x = .non))) H1) : tNotN te σ H Q := q
theorem w_seqM {ts tu : TS} (M : L2.St → Hp → Prop) (h1 : ∀ N : L2.St → Hp → Prop, (∀ σ' H', M σ' H' → N σ' H') → ts { D with nx := N } σ H) (h2 : ∀ σ' H', M σ' H' → tu D σ' H') : tSeq ts tu D σ H := h1 _ h2
theorem w_make {C : Addr} {sp : Sp} {E : XK} {tr : TA} (q : tr σ H fun vs H1 => ∀ x dx, H1 x = none → H1 dx = none → dx ≠ x → sp (.ref x :: (vs ++ [])) (upd (upd H1 dx (.own x)) x (.ins C dx [])) (fun v H2 => v = .non ∧ Q (.ref x) H2) E) : tMake C sp [] E tr σ H Q := q
theorem w_yes {QB : Bool → Hp → Prop} (q : QB true H) : tYes σ H QB := q
theorem w_for {wi : TI} {g : TG} {tb : TS} (q : wi σ H fun J H1 => ∃ W : Nat → Nat → L2.St → Hp → Prop, (∃ m, W 0 m σ H1) ∧ ∀ i m σ H, W i m σ H →
  (J.stop i H ∧ D.nx σ H) ∨ (J.go i H ∧ ∃ N : L2.St → Hp → Prop, (∀ σ' H', N σ' H' → ∃ m', m' < m ∧ W (i + 1) m' σ' H') ∧ ∀ x H', J.yld i H x H' → g x σ H' fun σ2 H2 => tb { D with nx := N, ct := N, bk := D.nx } σ2 H2)) : tFor wi g tb D σ H := q
variable {R : It → Hp → Prop} {ta : TA} {te : TE}
theorem w_rng1 (q : ta σ H fun vs H1 => ∃ j : Int, vs = [.int j] ∧ -(2 ^ 62) ≤ j ∧ j < 2 ^ 62 ∧ R (Itr 0 j.toNat) H1) : iRng1 ta σ H R := q
theorem w_rng2 (q : ta σ H fun vs H1 => ∃ i j : Int, vs = [.int i, .int j] ∧ (-(2 ^ 62) ≤ i ∧ i < 2 ^ 62 ∧ -(2 ^ 62) ≤ j ∧ j < 2 ^ 62) ∧ R (Itr i (j - i).toNat) H1) : iRng2 ta σ H R := q
theorem w_itup (q : te σ H fun x H1 => ∃ a, x = .ref a ∧ (∃ xs, SqT K H1 a xs) ∧ R (Itt K a) H1) : iTup K te σ H R := q
theorem w_ilist (q : te σ H fun x H1 => ∃ a, x = .ref a ∧ (∃ xs, SqL K H1 a xs) ∧ R (Itl K a) H1) : iList K te σ H R := q
theorem w_ienum (q : ta σ H fun vs H1 => ∃ a xs, vs = [.ref a] ∧ SqT K H1 a xs ∧ R (IteT K a) H1) : iEnumT K ta σ H R := q
theorem w_izip (q : ta σ H fun vs H1 => ∃ a b xs ys, vs = [.ref a, .ref b] ∧ ((SqL K H1 a xs ∧ SqL K H1 b ys ∧ R (Itz K a b) H1) ∨ (SqT K H1 a xs ∧ SqT K H1 b ys ∧ R (RZ.ItzT K a b) H1))) : RZ.iZipA K ta σ H R := q
theorem w_BM {T : String} {r : V → List V → Hp → VK → Prop} {to : TE} (q : to σ H fun x H1 => tyV K T x H1 ∧ ta σ H1 fun xs H2 => r x xs H2 Q) : tBM K T r to ta σ H Q := q
theorem w_BM0 {T : String} {r : V → List V → Hp → VK → Prop} {to : TE} (q : to σ H fun x H1 => tyV K T x H1 ∧ r x [] H1 Q) : tBM0 K T r to σ H Q := q
theorem i_BM {l : Addr} {xs : List V} {F : Prop} (h : H l = some (.lst xs)) (q : F) : tyV K "list" (.ref l) H ∧ F := ⟨.inl ⟨rfl, _, SqL.of h⟩, q⟩
theorem r_app {l : Addr} {xs : List V} {y : V} (h : H l = some (.lst xs)) (hz : xs.length ≤ 90000) (q : Q .non (upd H l (.lst (xs ++ [y])))) : rAppend (.ref l) [y] H Q := ⟨l, xs, y, rfl, rfl, h, Nat.lt_of_le_of_lt hz (by decide), q⟩
theorem i_rng1 {F : Int → Prop} {j : Int} (h1 : 0 ≤ j) (h2 : j ≤ 100000) (q : F j) : ∃ k : Int, [V.int j] = [.int k] ∧ -(2 ^ 62) ≤ k ∧ k < 2 ^ 62 ∧ F k := ⟨j, rfl, by omega, by omega, q⟩
theorem i_rng2 {F : Int → Int → Prop} {i j : Int} (h : -100000 ≤ i ∧ i ≤ 100000 ∧ -100000 ≤ j ∧ j ≤ 100000) (q : F i j) : ∃ k l : Int, [V.int i, V.int j] = [.int k, .int l] ∧ (-(2 ^ 62) ≤ k ∧ k < 2 ^ 62 ∧ -(2 ^ 62) ≤ l ∧ l < 2 ^ 62) ∧ F k l := ⟨i, j, rfl, by omega, q⟩
theorem i_tup {F : Addr → Prop} {a : Addr} {xs : List V} (h : SqT K H a xs) (q : F a) : ∃ b, V.ref a = .ref b ∧ (∃ xs, SqT K H b xs) ∧ F b := ⟨a, rfl, ⟨xs, h⟩, q⟩
theorem i_list {F : Addr → Prop} {a : Addr} {xs : List V} (h : SqL K H a xs) (q : F a) : ∃ b, V.ref a = .ref b ∧ (∃ xs, SqL K H b xs) ∧ F b := ⟨a, rfl, ⟨xs, h⟩, q⟩
theorem i_enum {F : Addr → Prop} {a : Addr} {xs : List V} (h : SqT K H a xs) (q : F a) : ∃ (b : Addr) (ys : List V), [V.ref a] = [.ref b] ∧ SqT K H b ys ∧ F b := ⟨a, xs, rfl, h, q⟩
end
end GA
/-! ## GD -/
namespace GA
open PySem L2
/-! ### data within data -/
def rInDT (K : PySem.W.Frag) : R2 := fun x y H Q => ∃ d ds, Dp K H x d ∧ Dp K H y (.tuple ds) ∧ SeqAt.shaped d = true ∧ SeqAt.shaped (.tuple ds) = true ∧ Q (.bl (ds.any fun z => PyData.eqv z d)) H
theorem op_inDT {X : Cx} (hu : X.A.units + 65 < cLine) : OpR X (compareOp .In) (rInDT X.K) := by
  intro pins s σ H x y v u Q I rx ry h
  obtain ⟨d, ds, hd, he, sd, se, q⟩ := h
  obtain ⟨as, r1⟩ := Dp.reads I d x v hd rx
  obtain ⟨bs, r2⟩ := Dp.reads I (.tuple ds) y u he ry
  exact SeqAt.in_tuple_reads r2 r1 (SeqAt.canLay_of_shaped se) (SeqAt.canLay_of_shaped sd) (PyProof.Rows.room_in_shaped sd hu) ⟨.bl _, H, I, rfl, q⟩
theorem u65 {k : Nat} {A : Around} (hr : Room k A) : A.units + 65 < cLine := by
  have := hr.un
  omega
theorem canAll {ds : List PyData} (h : ∀ d ∈ ds, d.canLay0 = true) : PyData.canLayAll0 ds = true := by
  induction ds with
  | nil => rfl
  | cons d ds ih => rw [PyData.canLayAll0, h d List.mem_cons_self, ih fun e he => h e (List.mem_cons_of_mem _ he)]; rfl
theorem depAll {n : Nat} {ds : List PyData} (h : ∀ d ∈ ds, d.depth ≤ n) : PyData.depthAll ds ≤ n := by
  induction ds with
  | nil => rw [PyData.depthAll]; exact Nat.zero_le _
  | cons d ds ih =>
    rw [PyData.depthAll]
    have h1 := h d List.mem_cons_self
    have h2 := ih fun e he => h e (List.mem_cons_of_mem _ he)
    omega
theorem sh_of {d : PyData} (h1 : d.canLay0 = true) (h2 : d.depth ≤ 64) : SeqAt.shaped d = true := by
  unfold SeqAt.shaped
  rw [h1, decide_eq_true h2]; rfl
theorem dep_tup {n : Nat} {ds : List PyData} (h : ∀ d ∈ ds, d.depth ≤ n) : (PyData.tuple ds).depth ≤ n + 1 := by
  rw [PyData.depth]
  have := depAll h
  omega
theorem can_tup {ds : List PyData} (h : ∀ d ∈ ds, d.canLay0 = true) : (PyData.tuple ds).canLay0 = true := by
  rw [PyData.canLay0]; exact canAll h
theorem can_int {n : Int} : (PyData.int n).canLay0 = true := by simp [PyData.canLay0]
theorem dep_int {n : Int} : (PyData.int n).depth = 0 := by simp [PyData.depth]
theorem can_dI (ns : List Int) : (dI ns).canLay0 = true := can_tup fun d h => by
  obtain ⟨n, _, rfl⟩ := List.mem_map.mp h
  exact can_int
theorem dep_dI (ns : List Int) : (dI ns).depth ≤ 1 := dep_tup (n := 0) fun d h => by
  obtain ⟨n, _, rfl⟩ := List.mem_map.mp h
  rw [dep_int]; exact Nat.le_refl _
theorem can_dP (w : Int × Int) : (dP w).canLay0 = true := can_dI [w.1, w.2]
theorem dep_dP (w : Int × Int) : (dP w).depth ≤ 1 := dep_dI [w.1, w.2]
theorem can_dW (ws : List (Int × Int)) : (dW ws).canLay0 = true := can_tup fun d h => by
  obtain ⟨n, _, rfl⟩ := List.mem_map.mp h
  exact can_dP n
theorem dep_dW (ws : List (Int × Int)) : (dW ws).depth ≤ 2 := dep_tup (n := 1) fun d h => by
  obtain ⟨n, _, rfl⟩ := List.mem_map.mp h
  exact dep_dP n
theorem sh_dI (ns : List Int) : SeqAt.shaped (dI ns) = true := sh_of (can_dI ns) (Nat.le_trans (dep_dI ns) (by decide))
theorem sh_dP (w : Int × Int) : SeqAt.shaped (dP w) = true := sh_of (can_dP w) (Nat.le_trans (dep_dP w) (by decide))
theorem sh_dW (ws : List (Int × Int)) : SeqAt.shaped (dW ws) = true := sh_of (can_dW ws) (Nat.le_trans (dep_dW ws) (by decide))
theorem eqv_int {i j : Int} : PyData.eqv (.int i) (.int j) = decide (i = j) := by
  rw [PyData.eqv]; exact Bool.beq_eq_decide_eq i j
theorem eqvAll_map {α : Type} [DecidableEq α] {f : α → PyData} (h : ∀ x y, PyData.eqv (f x) (f y) = decide (x = y)) : ∀ (xs ys : List α), PyData.eqvAll (xs.map f) (ys.map f) = decide (xs = ys)
  | [], [] => by simp [PyData.eqvAll]
  | [], y :: ys => by simp [PyData.eqvAll]
  | x :: xs, [] => by simp [PyData.eqvAll]
  | x :: xs, y :: ys => by
    rw [List.map_cons, List.map_cons, PyData.eqvAll, h, eqvAll_map h xs ys]
    simp only [List.cons.injEq]
    by_cases h1 : x = y <;> by_cases h2 : xs = ys <;> simp [h1, h2]
theorem eqv_dI (ns ms : List Int) : PyData.eqv (dI ns) (dI ms) = decide (ns = ms) := by
  rw [PyData.eqv]; exact eqvAll_map (fun _ _ => eqv_int) ns ms
theorem eqv_dP (u v : Int × Int) : PyData.eqv (dP u) (dP v) = decide (u = v) := by
  have := eqv_dI [u.1, u.2] [v.1, v.2]
  have e : decide (([u.1, u.2] : List Int) = [v.1, v.2]) = decide (u = v) := by
    rw [decide_eq_decide]
    constructor
    · intro h
      injection h with h1 h2
      injection h2 with h2 _
      exact Prod.ext h1 h2
    · intro h; rw [h]
  rw [← e]; exact this
theorem eqv_dW (us ws : List (Int × Int)) : PyData.eqv (dW us) (dW ws) = decide (us = ws) := by
  rw [PyData.eqv]; exact eqvAll_map eqv_dP us ws
theorem any_dP (ws : List (Int × Int)) (u : Int × Int) : ((ws.map dP).any fun z => PyData.eqv z (dP u)) = decide (u ∈ ws) := by
  rw [List.any_map]
  have : (fun z => PyData.eqv z (dP u)) ∘ dP = fun z => decide (z = u) := by
    funext z; exact eqv_dP z u
  rw [this]
  induction ws with
  | nil => simp
  | cons w ws ih =>
    rw [List.any_cons, ih]
    by_cases h : w = u
    · simp [h]
    · have h' : ¬ u = w := fun e => h e.symm
      simp [h, h']
/-! the rules with the written part told: for a comprehension's block -/
section
variable {X : Cx}
theorem k_ix_tup (K : PySem.W.Frag) (hK : X.K = K := by rfl) : IxR X (rIxT K) := by subst hK; exact ix_tup
theorem k_ix_list (K : PySem.W.Frag) (hK : X.K = K := by rfl) : IxR X (rIxL K) := by subst hK; exact ix_list
theorem k_op_in_seq (K : PySem.W.Frag) (hK : X.K = K := by rfl) : OpR X (compareOp .In) (rIn K false) := by subst hK; exact op_in_seq
theorem k_op_notIn_seq (K : PySem.W.Frag) (hK : X.K = K := by rfl) : OpR X (compareOp .NotIn) (rIn K true) := by subst hK; exact op_notIn_seq
theorem k_call_isi (K : PySem.W.Frag) (hK : X.K = K := by rfl) : CallR X (.builtin "isinstance") (rIsi K) := by subst hK; exact call_isi
theorem k_call_isiT (K : PySem.W.Frag) (hK : X.K = K := by rfl) : CallR X (.builtin "isinstance") (rIsiT K) := by subst hK; exact call_isiT
theorem k_call_tupleN (K : PySem.W.Frag) (hK : X.K = K := by rfl) : CallR X (.type "tuple") (rTupleN K) := by subst hK; exact call_tupleN
theorem k_call_listN (K : PySem.W.Frag) (hK : X.K = K := by rfl) : CallR X (.type "list") (rListN K) := by subst hK; exact call_listN
theorem k_op_inDT (K : PySem.W.Frag) (hu : X.A.units + 65 < cLine) (hK : X.K = K := by rfl) : OpR X (compareOp .In) (rInDT K) := by subst hK; exact op_inDT hu
theorem k_op_eqD (K : PySem.W.Frag) (hu : X.A.units + 64 < cLine) (hK : X.K = K := by rfl) : OpR X (compareOp .Eq) (rEqD K) := by subst hK; exact op_eqD hu
theorem k_op_neD (K : PySem.W.Frag) (hu : X.A.units + 64 < cLine) (hK : X.K = K := by rfl) : OpR X (compareOp .NotEq) (rNeD K) := by subst hK; exact op_neD hu
theorem k_cr_all (K : PySem.W.Frag) (hc : X.calm = true) (hK : X.K = K := by rfl) : CallR X (.builtin "all") (rAll K) := by subst hK; exact cr_all hc
/-- len of a list or tuple -/
def rLenK (K : PySem.W.Frag) : List V → Hp → VK → Prop := fun xs H Q => ∃ p ys, xs = [.ref p] ∧ (SqL K H p ys ∨ SqT K H p ys) ∧ Q (.int ys.length) H
theorem k_call_len_seq (K : PySem.W.Frag) (hK : X.K = K := by rfl) : CallR X (.builtin "len") (rLenK K) := by subst hK; exact call_len_seq
theorem k_fld (K : PySem.W.Frag) {e : Expr} {f : Str} {pos : Pos} {ta : TE} (he : PE X e ta) (hb : attributeBase e f X.env (eval e X.env) = eval e X.env) (hK : X.K = K := by rfl) : PE X (.Attribute e f pos) (tFld K ta f) := by subst hK; exact pe_fld he hb
theorem k_pi_list (K : PySem.W.Frag) {tg l : Expr} {tl : TE} (hl : PE X l tl) (hK : X.K = K := by rfl) : PI X tg l (iList K tl) := by subst hK; exact pi_list hl
theorem k_pi_tup (K : PySem.W.Frag) {tg l : Expr} {tl : TE} (hl : PE X l tl) (hK : X.K = K := by rfl) : PI X tg l (iTup K tl) := by subst hK; exact pi_tup hl
end
end GA
/-! ## GE -/
namespace PyProof.Rows
open PySem
section
variable {prog : Program} {w : World} {A : Around} {E : Value → Shared → Prop} {s : Shared}
theorem ga_collect_tuple {l : Addr} {vs : List Value} {Q : List Value → Shared → Prop} (hl : s.heap.IsTuple l vs.toArray)
    (h : Q vs { s with heap := (s.heap.push (seqObj "list" #[] 0)).update s.heap.objs.size (Obj.mapSeq (· ++ vs.toArray)) }) (hsz : vs.length ≤ sizeLine := by size_fits) :
    wpAny (model prog w) A (collect (.ref l)) Q E s := by
  obtain ⟨o, ho, hc, n, hd⟩ := id hl
  unfold collect
  refine wpAny_bind (wpAny_runValue (codeAny_builtin entry_proto_collect' ?_))
  show wpAny _ _ (do again (.builtin "list.__iadd__" ⟨[← newList [], .ref l], []⟩)) _ _ s
  refine wpAny_bind (wpAny_newList (wpAny_pure ⟨Code.quiet_builtin _ (by decide +kernel), codeAny_builtin entry_list_iadd' ?_⟩))
  show wpAny _ _ (Builtin.List.listExtendWith (.ref s.heap.objs.size) (.ref l) (.ref s.heap.objs.size)) _ _ { s with heap := s.heap.push (seqObj "list" #[] 0) }
  unfold Builtin.List.listExtendWith
  have ho' : (s.heap.push (seqObj "list" #[] 0)).get? l = some o := Heap.get?_push_of_some _ ho
  refine wpAny_bind (wpAny_typeOf (T := "tuple") ⟨o, ho', hc⟩ ?_)
  have ht : (Value.type "tuple" == Value.type "tuple") = true := by rfl
  rw [if_pos (by rw [ht]; simp)]
  refine wpAny_bind (listItems_at ho' hd ?_)
  refine wpAny_bind (listItems_at (xs := #[]) (n := 0) (Heap.get?_push_size _ rfl) rfl ?_)
  rw [if_neg (by simp)]
  refine wpAny_bind (listUpdate_at (xs := #[]) (n := 0) (Heap.get?_push_size _ rfl) rfl ?_ (Nat.zero_le _) (by show (#[] ++ vs.toArray).size ≤ sizeLine + 1; simp only [Array.size_append, List.size_toArray, List.length_nil]; omega))
  refine wpAny_pure ?_
  show wpAny (model prog w) A (do
      let o ← load s.heap.objs.size
      match o.data with
      | .seq xs _ => pure xs.toList
      | _ => unsupported "internal:collect") Q E { s with heap := (s.heap.push (seqObj "list" #[] 0)).update s.heap.objs.size (Obj.mapSeq (· ++ vs.toArray)) }
  refine wpAny_bind (wpAny_load (get?_update_seq (Heap.get?_push_size _ rfl) _) ?_)
  show wpAny _ _ (pure ((#[] : Array Value) ++ vs.toArray).toList) Q E _
  rw [show ((#[] : Array Value) ++ vs.toArray).toList = vs by simp]
  exact wpAny_pure h
end
end PyProof.Rows
namespace SrtO
open PySem PyProof.Rows Srt
section
variable {prog : Program} {w : World} {A : Around} {E : Value → Shared → Prop} {s : Shared}
theorem ga_sorted_ordT {l : Addr} {vs : List Value} {ltv : Value → Value → Bool} {Q : Value → Shared → Prop} (O : Swo ltv) (hl : s.heap.IsTuple l vs.toArray) (hz : vs.length ≤ sizeLine)
    (hS : 2 ≤ vs.length → ∀ (h₁ : Heap) (a : Addr), h₁.get? a = some (seqObj "list" vs.toArray 0) → (∀ b o, s.heap.get? b = some o → b ≠ a ∧ h₁.get? b = some o) → SortableO prog w A.in1.in1 { s with heap := h₁ } a vs ltv)
    (h : ∀ out : List Value, Srtd ltv out → Stb ltv out vs → Q (.ref (s.heap.objs.size + 1)) { s with heap := sortedAll s.heap vs out.toArray }) :
    wpAny (model prog w) A (call (.builtin "sorted") [.ref l]) Q E s := by
  refine Calls.call_function_entry kind_sorted plain_sorted entry_sorted (args_sorted1 _) ?_
  unfold Builtin.«sorted»
  refine wpAny_bind (m := checkCount "sorted" 1 1 _) (wpAny_pure ?_)
  refine wpAny_bind (ga_collect_tuple hl ?_ hz)
  refine wpAny_bind (wpAny_newList ?_ hz)
  have hsz : ((s.heap.push (seqObj "list" #[] 0)).update s.heap.objs.size (Obj.mapSeq (· ++ vs.toArray))).objs.size = s.heap.objs.size + 1 := by
    rw [Heap.size_update, size_push']
  have hoL : (((s.heap.push (seqObj "list" #[] 0)).update s.heap.objs.size (Obj.mapSeq (· ++ vs.toArray))).push (seqObj "list" vs.toArray 0)).get? (s.heap.objs.size + 1) = some (seqObj "list" vs.toArray 0) := by
    rw [← hsz]; exact Heap.get?_push_size _ rfl
  have keep : ∀ b o, s.heap.get? b = some o → b ≠ s.heap.objs.size + 1 ∧ (((s.heap.push (seqObj "list" #[] 0)).update s.heap.objs.size (Obj.mapSeq (· ++ vs.toArray))).push (seqObj "list" vs.toArray 0)).get? b = some o := fun b o q => by
    have hlt : b < s.heap.objs.size := Heap.lt_size q
    refine ⟨Nat.ne_of_lt (Nat.lt_succ_of_lt hlt), Heap.get?_push_of_some _ ?_⟩
    rw [Heap.get?_update_ne _ _ _ _ (Nat.ne_of_lt hlt)]
    exact Heap.get?_push_of_some _ q
  show wpAny _ _ _ _ _ { s with heap := ((s.heap.push (seqObj "list" #[] 0)).update s.heap.objs.size (Obj.mapSeq (· ++ vs.toArray))).push (seqObj "list" vs.toArray 0) }
  rw [hsz]
  refine wpAny_bind (wpAny_holding (wpAny_call_entry slot_list_sort ⟨_, hoL, rfl⟩ entry_list_sort (list_sort_ord O hoL hz (fun h2 => hS h2 _ _ hoL keep) fun out hs hb => ⟨_, rfl, ?_⟩) (args_list_sort _)))
  exact wpAny_pure ⟨_, rfl, h out hs hb⟩
end
end SrtO
namespace GA
open PySem PySem.Spec PyProof.Rows L2
/-- sorted(t), t a tuple of ints -/
def rSortedIT (K : PySem.W.Frag) : List V → Hp → VK → Prop := fun vs H Q => ∃ (a : Addr) (ns : List Int), vs = [V.ref a] ∧ SqT K H a (ns.map V.int) ∧
  ∀ (ns' : List Int), ns'.Perm ns → ns'.Pairwise (· ≤ ·) → New H (.lst (ns'.map V.int)) fun p H2 => Q (.ref p) H2
theorem cr_sortedIT {X : Cx} : CallR X (.builtin "sorted") (rSortedIT X.K) := by
  intro pins s σ H vs us Q I r h
  obtain ⟨a, ns, rfl, hs, q⟩ := h
  obtain ⟨its, rv, hl, hz⟩ := I.tuple hs
  rw [Vals.ref1 r]
  have hi := rv.ints
  refine SrtO.ga_sorted_ordT SrtO.swo_int hl (by rw [← rv.length]; exact hz) (fun h2 h₁ a' _ _ => SrtO.ints_sortable hi h2) fun out h1 h2 => ?_
  obtain ⟨k1, k2, k3⟩ := SrtO.ints_out hi h1 h2
  obtain ⟨ep, he'⟩ := PyProof.Rows.sortedAll_at s.heap its out.toArray
  have hlen : ((out.map SrtO.iv).map V.int).length ≤ sizeLine := by
    rw [List.length_map, k2.length_eq]
    rw [List.length_map] at hz
    exact hz
  exact ⟨.ref _, upd H (s.heap.objs.size + 1) (.lst ((out.map SrtO.iv).map V.int)), I.laid (t' := s.toks) (fun _ _ => PyProof.Rows.sortedAll_old) (Nat.le_succ _) ⟨hlen, out, ep, vals_of_ints k1, he'⟩, rfl, (q _ k2 k3).go (I.hok.fresh (Nat.le_succ _))⟩
def rSortedIL (K : PySem.W.Frag) : List V → Hp → VK → Prop := fun vs H Q => ∃ (a : Addr) (ns : List Int), vs = [V.ref a] ∧ SqL K H a (ns.map V.int) ∧
  ∀ (ns' : List Int), ns'.Perm ns → ns'.Pairwise (· ≤ ·) → New H (.lst (ns'.map V.int)) fun p H2 => Q (.ref p) H2
theorem cr_sortedIL {X : Cx} : CallR X (.builtin "sorted") (rSortedIL X.K) := CallR.weak cr_sortedI fun xs H Q h => by
  obtain ⟨a, ns, e, h1, q⟩ := h
  exact ⟨a, ns, e, h1, fun ns' p k1 k2 hp => (q ns' k1 k2).go hp⟩
/-- sorted(d), d a dict with int keys -/
def rSortedDN : List V → Hp → VK → Prop := fun xs H Q => ∃ (a : Addr) (kvs : List (Key × V)) (ks : List Int), xs = [.ref a] ∧ H a = some (.dK kvs) ∧ kvs.map (·.1) = ks.map Sum.inl ∧ ks.length < 64 ∧
  ∀ (ns' : List Int), ns'.Perm ks → ns'.Pairwise (· ≤ ·) → New H (.lst (ns'.map V.int)) fun p H2 => Q (.ref p) H2
theorem cr_sortedDN {X : Cx} (hc : X.calm = true) : CallR X (.builtin "sorted") rSortedDN := CallR.weak (call_sortedDI hc) fun xs H Q h => by
  obtain ⟨a, kvs, ks, e, h1, h2, h3, q⟩ := h
  exact ⟨a, kvs, ks, e, .inl h1, h2, h3, fun ys p k1 k2 hp => (q ys k1 k2).go hp⟩
/-- list(range(..)) -/
def tLstRgN (te : L2.St → Hp → (Int → Int → Hp → Prop) → Prop) : TE := fun σ H Q => te σ H fun a b H1 => RgOk a b ∧ New H1 (.lst (rgV a b)) fun q H2 => Q (.ref q) H2
/-- a range's ends, told: whatever is wanted is wanted of less -/
def MoR (te : L2.St → Hp → (Int → Int → Hp → Prop) → Prop) : Prop := ∀ σ H F F', (∀ a b H1, F a b H1 → F' a b H1) → te σ H F → te σ H F'
theorem pe_listRgN {X : Cx} {e : Expr} {te : L2.St → Hp → (Int → Int → Hp → Prop) → Prop} {p pos : Pos} (hc : X.calm = true) (hg : Gl X "list") (hm : X.mg "list" = none) (he : PRg X e te) (mo : MoR te) (na : starEach [e] X.env = (false, eval e X.env) :: starEach [] X.env := by rfl) : PE X (.Call (.Name "list" p) [e] [] pos) (tLstRgN te) :=
  PE.weak (pe_listRg hc hg hm he na) fun σ H Q q => mo σ H _ _ (fun a b H1 h => ⟨h.1, fun q hq => h.2.go hq⟩) q
def MoE (te : TE) : Prop := ∀ σ H Q Q', (∀ v H1, Q v H1 → Q' v H1) → te σ H Q → te σ H Q'
theorem mo_var {i : Nat} : MoE (tVar i) := fun _ _ _ _ h ⟨v, e, q⟩ => ⟨v, e, h _ _ q⟩
theorem mo_rg1 {te : TE} (h : MoE te) : MoR (tRg1 te) := fun σ H F F' k q => h σ H _ _ (fun v H1 ⟨n, e, z⟩ => ⟨n, e, k _ _ _ z⟩) q
theorem mo_op {te tb : TE} {r : R2} (h : MoE te) (hb : MoE tb) (hr : ∀ x y H Q Q', (∀ v H1, Q v H1 → Q' v H1) → r x y H Q → r x y H Q') : MoE (tOp r te tb) := fun σ H Q Q' k q => h σ H _ _ (fun v H1 z => hb σ H1 _ _ (fun u H2 z => hr _ _ _ _ _ k z) z) q
theorem mo_fld {K : PySem.W.Frag} {te : TE} {f : Str} (h : MoE te) : MoE (tFld K te f) := fun σ H Q Q' k q => h σ H _ _ (fun v H1 ⟨a, C, dx, fs, v', e1, e2, e3, e4, e5, z⟩ => ⟨a, C, dx, fs, v', e1, e2, e3, e4, e5, k _ _ z⟩) q
section
variable {K : PySem.W.Frag} {σ : L2.St} {H : Hp} {Q : VK}
theorem w_lstRg {te : L2.St → Hp → (Int → Int → Hp → Prop) → Prop} (q : te σ H fun a b H1 => RgOk a b ∧ New H1 (.lst (rgV a b)) fun q H2 => Q (.ref q) H2) : tLstRgN te σ H Q := q
theorem w_rg1 {te : TE} {F : Int → Int → Hp → Prop} (q : te σ H fun x H1 => ∃ n, x = .int n ∧ F 0 n H1) : tRg1 te σ H F := q
end
end GA
/-! ## GF -/
namespace GA
open PySem PySem.Spec PyProof.Rows L2
def ltW (u v : Int × Int) : Prop := u.1 < v.1 ∨ (u.1 = v.1 ∧ u.2 < v.2)
def in64 (u : Int × Int) : Prop := (0 ≤ u.1 ∧ u.1 < 64) ∧ (0 ≤ u.2 ∧ u.2 < 64)
section
variable {K : PySem.W.Frag} {H : Hp}
theorem ks_of : ∀ {xs : List V} {us : List (Int × Int)}, DpAll K H xs (us.map dP) → ∃ ks : List (Addr × List Int), xs = (ks.map fun p => V.ref p.1) ∧ (∀ p ∈ ks, SqT K H p.1 (p.2.map V.int)) ∧ ks.map (·.2) = us.map fun u => [u.1, u.2]
  | _, [], .nil => ⟨[], rfl, (fun _ h => nomatch h), rfl⟩
  | _, u :: us, .cons h t => by
    obtain ⟨ks, rfl, h1, h2⟩ := ks_of t
    obtain ⟨a, rfl, ha⟩ := dp_dP h
    refine ⟨(a, [u.1, u.2]) :: ks, rfl, fun p hp => ?_, by rw [List.map_cons, h2]; rfl⟩
    rcases List.mem_cons.mp hp with e | hp
    · rw [e]; exact ha
    · exact h1 p hp
end
theorem dp_ks {K : PySem.W.Frag} {H : Hp} : ∀ (M : List (Addr × List Int)) (ws : List (Int × Int)), (∀ q ∈ M, SqT K H q.1 (q.2.map V.int)) → M.map (·.2) = (ws.map fun u => [u.1, u.2]) → DpAll K H (M.map fun q => V.ref q.1) (ws.map dP)
  | [], [], _, _ => .nil
  | [], _ :: _, _, e => by simp at e
  | _ :: _, [], _, e => by simp at e
  | q :: M, w :: ws, h, e => by
    rw [List.map_cons, List.map_cons] at e
    injection e with e1 e2
    refine .cons ?_ (dp_ks M ws (fun p hp => h p (List.mem_cons_of_mem _ hp)) e2)
    have z := h q List.mem_cons_self
    rw [e1] at z
    exact dp_ofP z
section
variable {X : Cx}
/-- set(l), l a list of pairs of ints -/
def rSetPN (K : PySem.W.Frag) (P : Program) (w : World) : List V → Hp → VK → Prop := fun vs H Q => ∃ (l : Addr) (xs : List V) (us : List (Int × Int)), vs = [V.ref l] ∧ SqL K H l xs ∧ DpAll K H xs (us.map dP) ∧ us.length < 64 ∧
  ∀ a L H2, H a = none → (∀ o, G o H H2) → H2 a = some (SetTO P w a L) → (∀ p ∈ L, SqT K H2 p.1 (p.2.map V.int)) → (∀ ns, ns ∈ L.map (·.2) ↔ ∃ u ∈ us, ns = [u.1, u.2]) → Q (.ref a) H2
theorem cr_setPN (hc : X.calm = true) (hu : X.A.units + 64 < cLine) : CallR X (.type "set") (rSetPN X.K X.prog X.w) := CallR.weak (cr_setOfT hc hu) fun vs H Q h => by
  obtain ⟨l, xs, us, e, hl, hd, hz, q⟩ := h
  obtain ⟨ks, rfl, h1, h2⟩ := ks_of hd
  have hz' : ks.length = us.length := by
    have := congrArg List.length h2
    simpa using this
  refine ⟨l, ks, e, hl, h1, by omega, fun a L ha s1 s2 => ?_⟩
  refine q a L _ ha (fun _ => G.alloc ha) upd_same (fun p hp => sqT_t ((G.alloc (o := none) ha).tups) (h1 p (s1 p hp))) fun ns => ?_
  have mem : ∀ ns, ns ∈ ks.map (·.2) ↔ ∃ u ∈ us, ns = [u.1, u.2] := fun ns => by
    rw [h2, List.mem_map]
    exact ⟨fun ⟨u, a, b⟩ => ⟨u, a, b.symm⟩, fun ⟨u, a, b⟩ => ⟨u, a, b.symm⟩⟩
  rw [← mem]
  constructor
  · intro h
    obtain ⟨p, hp, rfl⟩ := List.mem_map.mp h
    exact List.mem_map.mpr ⟨p, s1 p hp, rfl⟩
  · intro h
    obtain ⟨p, hp, rfl⟩ := List.mem_map.mp h
    exact s2 p hp
theorem code_lt {u v : Int × Int} (hu : in64 u) (hv : in64 v) (h : TS.code 64 [u.1, u.2] ≤ TS.code 64 [v.1, v.2]) : ltW u v ∨ u = v := by
  unfold in64 at hu hv
  rw [code_pair, code_pair] at h
  unfold ltW
  by_cases e : u.1 = v.1
  · by_cases e2 : u.2 = v.2
    · exact .inr (Prod.ext e e2)
    · exact .inl (.inr ⟨e, by omega⟩)
  · exact .inl (.inl (by omega))
/-- sorted(s), s a set of pairs of small ints -/
def rSortSN (K : PySem.W.Frag) (P : Program) (w : World) : List V → Hp → VK → Prop := fun vs H Q => ∃ (a : Addr) (L : List (Addr × List Int)) (us : List (Int × Int)), vs = [V.ref a] ∧ H a = some (SetTO P w a L) ∧ (∀ p ∈ L, SqT K H p.1 (p.2.map V.int)) ∧ (∀ ns, ns ∈ L.map (·.2) ↔ ∃ u ∈ us, ns = [u.1, u.2]) ∧ (∀ u ∈ us, in64 u) ∧
  ∀ ws : List (Int × Int), ws.Pairwise ltW → (∀ u, u ∈ ws ↔ u ∈ us) → ws.length < 64 → ∀ p H2 ys, H p = none → (∀ o, G o H H2) → H2 p = some (.lst ys) → DpAll K H2 ys (ws.map dP) → Q (.ref p) H2
theorem cr_sortSN (hc : X.calm = true) : CallR X (.builtin "sorted") (rSortSN X.K X.prog X.w) := CallR.weak (cr_sortedT hc) fun vs H Q h => by
  obtain ⟨a, L, us, e, ha, hk, hm, hb, q⟩ := h
  have get : ∀ p ∈ L, ∃ u ∈ us, p.2 = [u.1, u.2] := fun p hp => (hm p.2).mp (List.mem_map.mpr ⟨p, hp, rfl⟩)
  refine ⟨a, L, 2, 64, e, ha, hk, by decide, fun p hp => ?_, fun L' p pm nd few pw hp => ?_⟩
  · obtain ⟨u, hu, e⟩ := get p hp
    have b := hb u hu
    unfold in64 at b
    rw [e]
    refine ⟨rfl, ?_⟩
    intro n hn
    rcases List.mem_cons.mp hn with e | hn
    · subst e; exact ⟨b.1.1, b.1.2⟩
    · have : n = u.2 := by simpa using hn
      subst this; exact ⟨b.2.1, b.2.2⟩
  · have get' : ∀ p ∈ L', ∃ u ∈ us, p.2 = [u.1, u.2] := fun p hp => get p (pm.mem_iff.mp hp)
    -- the pairs in their order
    have ws_of : ∀ M : List (Addr × List Int), (∀ p ∈ M, p ∈ L') → ∃ ws : List (Int × Int), M.map (·.2) = (ws.map fun u => [u.1, u.2]) ∧ (∀ u ∈ ws, u ∈ us) := by
      intro M
      induction M with
      | nil => exact fun _ => ⟨[], rfl, (fun _ h => nomatch h)⟩
      | cons p M ih =>
        intro hM
        obtain ⟨ws, h1, h2⟩ := ih fun p hp => hM p (List.mem_cons_of_mem _ hp)
        obtain ⟨u, hu, e⟩ := get' p (hM p List.mem_cons_self)
        refine ⟨u :: ws, by rw [List.map_cons, List.map_cons, h1, e], fun v hv => ?_⟩
        rcases List.mem_cons.mp hv with z | z
        · rw [z]; exact hu
        · exact h2 v z
    obtain ⟨ws, e1, e2⟩ := ws_of L' fun _ h => h
    have len : L'.length = ws.length := by
      have := congrArg List.length e1
      simpa using this
    have inj : ∀ u v : Int × Int, ([u.1, u.2] : List Int) = [v.1, v.2] → u = v := fun u v h => by
      injection h with h1 h2
      injection h2 with h2 _
      exact Prod.ext h1 h2
    have pw2 : (L'.map (·.2)).Pairwise (fun x y => TS.code 64 x ≤ TS.code 64 y) := List.pairwise_map.mpr pw
    rw [e1] at pw2 nd
    have asc : ws.Pairwise ltW := by
      rw [List.pairwise_map] at pw2
      have nd' : ws.Nodup := (List.pairwise_map.mp nd).imp fun h e => h (by rw [e])
      exact (List.pairwise_iff_getElem.mpr fun i j hi hj hij => by
        have h1 := List.pairwise_iff_getElem.mp pw2 i j hi hj hij
        have h2 := List.pairwise_iff_getElem.mp nd' i j hi hj hij
        rcases code_lt (hb _ (e2 _ (List.getElem_mem hi))) (hb _ (e2 _ (List.getElem_mem hj))) h1 with z | z
        · exact z
        · exact absurd z h2)
    refine q ws asc (fun u => ⟨e2 u, fun hu => ?_⟩) (by omega) p _ _ hp (fun _ => G.alloc hp) upd_same ?_
    · have h1 : ([u.1, u.2] : List Int) ∈ L.map (·.2) := (hm _).mpr ⟨u, hu, rfl⟩
      have h2 : ([u.1, u.2] : List Int) ∈ L'.map (·.2) := (pm.map (·.2)).mem_iff.mpr h1
      rw [e1, List.mem_map] at h2
      obtain ⟨v, hv, e⟩ := h2
      rw [← inj _ _ e]; exact hv
    · have t : Ts H (upd H p (.lst (L'.map fun q => V.ref q.1))) := (G.alloc (o := none) hp).tups
      have hk' : ∀ q ∈ L', SqT X.K _ q.1 (q.2.map V.int) := fun q hq => sqT_t t (hk q (pm.mem_iff.mp hq))
      exact dp_ks L' ws hk' e1
/-- sorted(l), l a list of pairs of small ints -/
def rSortPN (K : PySem.W.Frag) : List V → Hp → VK → Prop := fun vs H Q => ∃ (a : Addr) (xs : List V) (us : List (Int × Int)), vs = [V.ref a] ∧ SqL K H a xs ∧ DpAll K H xs (us.map dP) ∧ us.length < 64 ∧ (∀ u ∈ us, in64 u) ∧
  ∀ us' : List (Int × Int), us'.Perm us → us'.Pairwise (fun u v => ltW u v ∨ u = v) → ∀ p H2 ys, H p = none → (∀ o, G o H H2) → H2 p = some (.lst ys) → DpAll K H2 ys (us'.map dP) → Q (.ref p) H2
theorem cr_sortPN : CallR X (.builtin "sorted") (rSortPN X.K) := by
  classical
  intro pins s σ H vs us0 Q I r h
  obtain ⟨a, xs, us, rfl, hs, hd, hz, hb, q⟩ := h
  have uniq : ∀ {v : V} {u u' : Int × Int}, Dp X.K H v (dP u) → Dp X.K H v (dP u') → u = u' := fun {v u u'} h h' => by
    obtain ⟨a, rfl, ha⟩ := dp_dP h
    obtain ⟨a', e, ha'⟩ := dp_dP h'
    cases e
    have z := I.tuple_inj ha ha'
    injection z with z1 z2
    injection z2 with z2 _
    exact Prod.ext (V.int.inj z1) (V.int.inj z2)
  let f : V → Int × Int := fun v => if h : ∃ u, Dp X.K H v (dP u) then h.choose else (0, 0)
  have fv : ∀ {v : V} {u : Int × Int}, Dp X.K H v (dP u) → f v = u := fun {v u} h => by
    have hx : ∃ u, Dp X.K H v (dP u) := ⟨u, h⟩
    have : f v = hx.choose := dif_pos hx
    rw [this]
    exact uniq hx.choose_spec h
  have all : ∀ {ys : List V} {ws : List (Int × Int)}, DpAll X.K H ys (ws.map dP) → ws = ys.map f := by
    intro ys ws h
    induction ws generalizing ys with
    | nil => cases h; rfl
    | cons w ws ih =>
      cases h with
      | cons h t => rw [List.map_cons, fv h, ← ih t]
  have e0 := all hd
  have at_ : ∀ y ∈ xs, ∃ u ∈ us, Dp X.K H y (dP u) := fun y hy => by
    obtain ⟨i, hi⟩ := List.getElem?_of_mem hy
    obtain ⟨d, hd1, hd2⟩ := DpAll.get hd hi
    rw [List.getElem?_map] at hd1
    obtain ⟨u, hu, rfl⟩ := Option.map_eq_some_iff.mp hd1
    exact ⟨u, List.mem_of_getElem? hu, hd2⟩
  refine cr_sortT (d := 2) (B := 64) (by decide) pins s σ H _ us0 Q I r ⟨a, xs, rfl, hs, by rw [DpAll.length hd, List.length_map]; exact hz, fun x hx => ?_, fun ys p pm pw hp => ?_⟩
  · obtain ⟨u, hu, hx⟩ := at_ x hx
    obtain ⟨t, rfl, ht⟩ := dp_dP hx
    have b := hb u hu
    unfold in64 at b
    refine ⟨[u.1, u.2], ⟨t, rfl, ht⟩, rfl, ?_⟩
    intro n hn
    rcases List.mem_cons.mp hn with e | hn
    · subst e; exact ⟨b.1.1, b.1.2⟩
    · have : n = u.2 := by simpa using hn
      subst this; exact ⟨b.2.1, b.2.2⟩
  · have aty : ∀ y ∈ ys, ∃ u ∈ us, Dp X.K H y (dP u) := fun y hy => at_ y (pm.mem_iff.mp hy)
    have t : Ts H (upd H p (.lst ys)) := (G.alloc (o := none) hp).tups
    refine q (ys.map f) (by rw [e0]; exact pm.map f) ?_ p _ ys hp (fun _ => G.alloc hp) upd_same ?_
    · rw [List.pairwise_map]
      refine pw.imp_of_mem fun {y z} hy hz2 h => ?_
      obtain ⟨u, hu, h1⟩ := aty y hy
      obtain ⟨v, hv, h2⟩ := aty z hz2
      rw [fv h1, fv h2]
      obtain ⟨t1, rfl, k1⟩ := dp_dP h1
      obtain ⟨t2, rfl, k2⟩ := dp_dP h2
      exact code_lt (hb u hu) (hb v hv) (h _ _ ⟨t1, rfl, k1⟩ ⟨t2, rfl, k2⟩)
    · refine dpAll_t t _ _ (nls_pairs _) ?_
      clear pm pw hp t
      induction ys with
      | nil => exact .nil
      | cons y ys ih =>
        obtain ⟨u, hu, h1⟩ := aty y List.mem_cons_self
        refine .cons ?_ (ih fun y hy => aty y (List.mem_cons_of_mem _ hy))
        rw [fv h1]; exact h1
/-- t + u, tuples -/
def rCatN (K : PySem.W.Frag) : R2 := fun x y H Q => ∃ a b xs ys, x = .ref a ∧ y = .ref b ∧ SqT K H a xs ∧ SqT K H b ys ∧ xs.length + ys.length ≤ 100000 ∧ ∀ p H2, (∀ o, G o H H2) → SqT K H2 p (xs ++ ys) → Q (.ref p) H2
theorem op_catN : OpR X (binaryOp .Add) (rCatN X.K) := OpR.weak op_catA fun x y H Q h => by
  obtain ⟨a, b, xs, ys, e1, e2, h1, h2, hz, q⟩ := h
  refine ⟨a, b, xs, ys, e1, e2, h1, h2, sz hz, fun e => ?_, fun _ e => ?_, fun _ _ p hp => ?_⟩
  · subst e; exact q b H (fun _ => G.refl) h2
  · subst e; exact q a H (fun _ => G.refl) (by rw [List.append_nil]; exact h1)
  · exact q p _ (fun _ => G.alloc hp) (SqT.of upd_same)
end
end GA
/-! ## GG -/
namespace PySem.W
open PySem PySem.Spec PySem.Calls PyProof.Rows
open Builtin
section
variable {prog : Program} {w : World} {A : Around} {E : Value → Shared → Prop} {K : Frag} {x C L f : Addr} {h₀ hh : Heap} {g : Array GenState} {d : Drawn} {t : Nat} {os : OsState} {m : Str → Option Value} {ox : Obj} {od : Option Obj} {b tb : Value}
theorem ga_ifBound_ne {M : Model} {args : List Value} {Q : Option Value → Shared → Prop} (X : K.In hh) (I : InstAt hh x ox C od) (hs : findIn K (.ref C) "__ne__" = some (some (.builtin "object.__ne__")))
    (h : wpAny M A (call (.builtin "object.__ne__") (.ref x :: args)) (fun v => Q (some v)) E ⟨hh, g, d, t, os⟩) : wpAny M A (callSpecialIfBound? (.ref x) "__ne__" args) Q E ⟨hh, g, d, t, os⟩ := by
  simp only [callSpecialIfBound?, bindSpecialIfBound?]
  refine wpAny_holding (wpAny_bind (wpAny_bind (wpAny_bind (I.type.here ((looks_findIn X hs).here ?_)))))
  simp only [F.cmp_object.ne.bind]
  refine wpAny_bind (wpAny_askSetting (wpAny_ite ?_))
  have fin : wpAny M A (call (.builtin "object.__ne__") ([.ref x] ++ args) >>= fun v => pure (some v)) Q E ⟨hh, g, d, t, os⟩ :=
    wpAny_bind (wpAny_mono h (fun v s' h' => wpAny_pure h') fun _ _ h' => h')
  split
  · first
      | exact wpAny_bind (wpAny_pure (wpAny_pure fin))
      | exact wpAny_pure (wpAny_pure fin)
      | exact wpAny_pure fin
      | exact wpAny_bind (wpAny_pure fin)
  · first
      | exact wpAny_tryCatch (wpAny_bind (wpAny_pure (wpAny_pure fin)))
      | exact wpAny_tryCatch (wpAny_pure (wpAny_pure fin))
      | exact wpAny_tryCatch (wpAny_pure fin)
      | exact wpAny_tryCatch (wpAny_bind (wpAny_pure fin))
theorem ga_check_ne {M : Model} {rest : List Value} {Q : Unit → Shared → Prop} (X : K.In hh) (I : InstAt hh x ox C od) (hm : mroIn K C (.type "object") = some true) (ha : argsOk "object.__ne__" ⟨.ref x :: rest, []⟩) (hq : Q () ⟨hh, g, d, t, os⟩) :
    wpAny M A (checkBuiltinCall "object.__ne__" ⟨.ref x :: rest, []⟩) Q E ⟨hh, g, d, t, os⟩ := by
  simp only [checkBuiltinCall, F.cmpKind_ne, F.cmpSplit_ne]
  refine wpAny_bind ?_
  unfold isInstance
  refine wpAny_bind (I.type.here ((looks_mroIn X hm).here ?_))
  simp only [Bool.not_true, Bool.false_eq_true, if_false]
  cases hsig : Manifest.signature? "object.__ne__" with
  | none => exact wpAny_pure hq
  | some sig =>
    simp only [argsOk, hsig] at ha
    have h2 : Bind.checkArgs "object.__ne__" sig ⟨.ref x :: rest, []⟩ = pure () := ha
    show wpAny M A (Bind.checkArgs "object.__ne__" sig ⟨.ref x :: rest, []⟩) Q E _
    rw [h2]; exact wpAny_pure hq
theorem ga_ne_body (X : K.In hh) (I : InstAt hh x ox C od) (hs : findIn K (.ref C) "__eq__" = some (some (.ref f))) (hf : isFn K (.ref f) = true) (hu : A.units < cLine) {Q : Fin → Shared → Prop}
    (h : wpAny (model prog w) A (call (.ref f) [.ref x, b]) (fun v s' => ∃ r, v = .bool r ∧ Q (.done (.ret (.bool (!r)))) s') E ⟨hh, g, d, t, os⟩) :
    wpAny (model prog w) A (Builtin.«object.__ne__» ⟨[.ref x, b], []⟩) Q E ⟨hh, g, d, t, os⟩ := by
  unfold Builtin.«object.__ne__»
  repeat (first
    | with_reducible refine wpAny_cRoomFor hu ?_
    | (refine wpAny_bind (m := callSpecialIfBound? (.ref x) (Str.ofString "__eq__") [b])
        (ifBound_K X I hs hf (wpAny_mono h (fun r s' hr => by
          obtain ⟨q, rfl, hq⟩ := hr
          repeat (first | exact hq | exact wpAny_pure hq | exact wpAny_truthy_bool hq | (refine wpAny_bind (m := truthy (.bool _)) (wpAny_truthy_bool ?_)) | wp_step)) fun _ _ e => e)))
    | wp_step)
theorem ga_ne_K {Q : Value → Shared → Prop} (hu : A.units + 1 < cLine) (F : Fr h₀ L hh m) (X₀ : K.In h₀) (I : InstAt hh x ox C od) (hb : Looks (model prog w) hh (typeOf b) tb) (hn : notFirst K C tb = true)
    (hs : findIn K (.ref C) "__eq__" = some (some (.ref f))) (hf : isFn K (.ref f) = true) (hne : findIn K (.ref C) "__ne__" = some (some (.builtin "object.__ne__"))) (hm : mroIn K C (.type "object") = some true)
    (h : wpAny (model prog w) A.in1 (call (.ref f) [.ref x, b]) (fun v s' => ∃ r, v = .bool r ∧ Q (.bool (!r)) s') E ⟨hh, g, d, t, os⟩) : wpAny (model prog w) A (richCompare .NotEq (.ref x) b) Q E ⟨hh, g, d, t, os⟩ := by
  have X := X₀.keeps F.keep
  have one : wpAny (model prog w) A (tryCompare (.ref x) (cmpInfo .NotEq).2.1 b) (fun r s' => ∃ v, r = some v ∧ Q v s') E ⟨hh, g, d, t, os⟩ := by
    rw [cmpInfo_NotEq]
    unfold tryCompare
    refine wpAny_bind (ga_ifBound_ne X I hne (wpAny_call (codeAny_call_builtin PySem.F.cmp_object.ne.plain PySem.F.cmpEntry_ne
      (ga_check_ne X I hm (PySem.F.cmpArgs_ne _ _) (ga_ne_body (A := A.in1) X I hs hf hu (wpAny_mono h (fun v s' hv => ?_) fun _ _ e => e))))))
    obtain ⟨r, rfl, hq⟩ := hv
    first | exact ⟨r, rfl, wpAny_pure ⟨_, rfl, hq⟩⟩ | exact ⟨r, rfl, wpAny_pure (wpAny_pure ⟨_, rfl, hq⟩)⟩
  unfold richCompare
  simp only [oneThing_ref]
  refine wpAny_holding (wpAny_bind (wpAny_cRoomFor (Nat.lt_of_succ_lt hu) ?_))
  refine wpAny_bind (I.type.here (wpAny_bind (hb.here ?_)))
  split
  · rename_i q
    have e : subIn K tb (.ref C) = some false := by
      rcases Bool.or_eq_true_iff.mp hn with e | e
      · rw [beq_iff_eq.mp e] at q; simp at q
      · exact beq_iff_eq.mp e
    refine wpAny_bind ((looks_subIn X e).here ?_)
    simp only [Bool.false_eq_true, if_false]
    refine wpAny_bind (wpAny_mono one (fun r s' z => ?_) fun _ _ e => e)
    obtain ⟨v, rfl, hq⟩ := z
    exact wpAny_pure hq
  · refine wpAny_bind (wpAny_pure ?_)
    simp only [Bool.false_eq_true, if_false]
    refine wpAny_bind (wpAny_mono one (fun r s' z => ?_) fun _ _ e => e)
    obtain ⟨v, rfl, hq⟩ := z
    exact wpAny_pure hq
end
end PySem.W
namespace GA
open PySem PySem.Spec PyProof.Rows L2
section
variable {X : Cx} {n : Nat}
/-- x != y of two instances whose own == says True -/
def rNeG (D : Eqv) : R2 := fun x y H Q => D x y H ∧ ∀ H', Ext H H' → Q (.bl false) H'
theorem op_neG {CX : CXT} {C f : Addr} {fd : FuncData} {ps : List Str} {R : Addr → Addr → Hp → Prop} {E : XK} (F : FnOk X.prog X.w X.K X.mg X.base CX n f fd ps (spEq R))
    (hs : PySem.W.findIn X.K (.ref C) "__eq__" = some (some (.ref f))) (hf : PySem.W.isFn X.K (.ref f) = true) (hb : Binds X.K fd ps []) (hx : Passes CX X E)
    (hne : PySem.W.findIn X.K (.ref C) "__ne__" = some (some (.builtin "object.__ne__"))) (hm : PySem.W.mroIn X.K C (.type "object") = some true) (rm : Room (n + 1) X.A) : OpR X (compareOp .NotEq) (rNeG (DIns C R)) := by
  intro pins s σ H x y u v Q I rx ry hq
  obtain ⟨⟨a, b, dx, dy, fs, gs, rfl, rfl, ha, hb', hr⟩, q⟩ := hq
  cases rx
  cases ry
  obtain ⟨mA, J, _⟩ := ins_get I.hok ha
  obtain ⟨mB, J', _⟩ := ins_get I.hok hb'
  obtain ⟨od, J, _⟩ := J.look
  obtain ⟨od', J', _⟩ := J'.look
  obtain ⟨m, hF⟩ := I.fr
  have rm1 : Room n X.A.in1 := rm.in1
  show wpAny (model X.prog X.w) X.A (richCompare .NotEq (.ref a) (.ref b)) (EP X pins σ Q) X.xe s
  refine PySem.W.ga_ne_K (tb := .ref C) rm1.units0 hF I.ok.mod.kin J J'.type (by simp [PySem.W.notFirst]) hs hf hne hm ?_
  have hsp : spEq R [.ref a, .ref b] H (fun v H' => v = .bl true ∧ Ext H H') E := ⟨a, b, rfl, hr, fun H' e => ⟨rfl, e⟩⟩
  have e0 : Env0 X.prog X.w X.K X.mg X.base X.A.in1 X.stack s H := ⟨I.env0.frames, I.env0.mod, I.env0.bs, I.env0.bsz, I.env0.funs, I.env0.frf, I.env0.hok, I.env0.bare⟩
  have hl := F.len _ _ _ _ hsp
  have r2 : Vals [V.ref a, V.ref b] [Value.ref a, Value.ref b] := .cons rfl (.cons rfl .nil)
  refine wpAny_call (codeAny_mono (F.run X.A.in1 X.stack s H ⟨[.ref a, .ref b], []⟩ [.ref a, .ref b] [.ref a, .ref b] _ E rm1 e0 (by
    have := hb s [.ref a, .ref b] I.kIn (by simpa using hl)
    simpa using this) r2 hsp) fun r s' hq => ?_)
  cases r with
  | error e => exact hx pins σ H s e s' I hq
  | ok fl =>
    cases fl with
    | ret w =>
      obtain ⟨z, H', I', rz, ez, ex⟩ := I.after hq
      subst ez
      cases rz
      exact ⟨true, rfl, .bl false, H', I', rfl, q H' ex⟩
    | next => exact False.elim hq
    | brk => exact False.elim hq
    | cont => exact False.elim hq
end
end GA
/-! ## GH -/
namespace L2
open PySem PySem.Spec PyProof.Rows
/-- the set as it is laid, and the heap with it -/
abbrev eset (w : World) : Obj := { cls := .type "set", dict := none, data := .set #[] 0 (.fresh 0 0 (!w.params.followText "set-order")) }
abbrev eheap (w : World) (h : Heap) : Heap := h.push (eset w)
section
variable {P : Program} {w : World} {A : Around} {E : Value → Shared → Prop} {s : Shared}
theorem gone_above {h : Heap} {b : Addr} (hb : h.objs.size ≤ b) : h.get? b = none := by
  cases q : h.get? b with
  | none => rfl
  | some o => exact absurd (Heap.lt_size q) (Nat.not_lt.mpr hb)
/-- set(t), t a tuple whose items are tuples of ints -/
theorem ga_set_of_tuple {l : Addr} {its : Array Value} (ks : List (Addr × List Int)) {Q : Value → Shared → Prop} (quiet : A.handled = none) (hl : s.heap.IsTuple l its) (hit : its.toList = ks.map fun p => Value.ref p.1)
    (hk : ∀ p ∈ ks, IsT P w s.heap p.2 p.1) (few : ks.length < 64) (un : A.units + 3 < cLine)
    (q : ∀ (h' : Heap) (tk : Nat) L es ep t, SetTR P w h' s.heap.objs.size L es ep t → Got ks ks.length L → (∀ b o, s.heap.get? b = some o → h'.get? b = some o) → Q (.ref s.heap.objs.size) { s with heap := h', toks := tk }) :
    wpAny (model P w) A (call (.type "set") [.ref l]) Q E s := by
  have isz : its.size = ks.length := by simpa using congrArg List.length hit
  have C := F.called_set
  obtain ⟨c, tl, m1⟩ := C.mro
  have m2 := C.made
  have m3 := C.sub
  have m4 := C.notType
  have m5 := C.canCreate
  have m6 := F.typeCall_set_1 (.ref l)
  refine wpAny_call (codeAny_of_tree (?_ : wpAny _ _ (callAny (.type "set") _) _ _ _))
  refine wpAny_pure ⟨Code.quiet_builtin _ (by decide +kernel), codeAny_builtin F.entry_type_call ?_⟩
  rw [Around.under_plain (weight_type_call_type "set" [.ref l] []) rfl]
  repeat (any_goals (first | assumption | wp_step))
  refine codeAny_mono (code_set_led1 (.ref l) (E := E) (Q₁ := fun ob s1 => ob = .ref s.heap.objs.size ∧ s1 = { s with heap := eheap w s.heap }) ⟨rfl, rfl⟩) fun r s1 hr => ?_
  match r, hr with
  | .error e, hr => exact hr
  | .ok .next, hr => exact hr.elim
  | .ok .brk, hr => exact hr.elim
  | .ok .cont, hr => exact hr.elim
  | .ok (.ret ob), hr =>
    obtain ⟨e1, e2⟩ := hr
    subst e1 e2
    have at0 : (eheap w s.heap).get? s.heap.objs.size = some (eset w) := Heap.get?_push_size _ rfl
    have ty0 : Shared.TypeIs { s with heap := eheap w s.heap } (.ref s.heap.objs.size) "set" := ⟨_, at0, rfl⟩
    have m7 := C.init.lookup
    have m8 := C.init.bind (.ref s.heap.objs.size)
    repeat (any_goals (first | assumption | wp_step))
    refine codeAny_mono (codeAny_call_builtin (R := wants (fun r s2 => r = .none ∧ ∃ h' tk L es ep t, s2 = { s with heap := h', toks := tk } ∧ SetTR P w h' s.heap.objs.size L es ep t ∧ Got ks ks.length L ∧
      (∀ b o, s.heap.get? b = some o → h'.get? b = some o)) E) C.init.plain F.entry_set_init (check_set_init_1 ty0 ?_)) fun r2 s2 hr2 => ?_
    · have hl1 : (eheap w s.heap).IsTuple l its := hl.push _
      obtain ⟨⟨oc, od, odt, osl⟩, ho, e1, nl, e2⟩ := id hl1
      simp only at e1 e2
      subst e1 e2
      have lS : l < s.heap.objs.size := by
        obtain ⟨o, h, _⟩ := hl
        exact Heap.lt_size h
      have n1 := F.sub_tuple_set
      have n2 := F.sub_tuple_frozenset
      have n3 : (Value.type "tuple" == Value.type "dict") = false := by decide
      have z1 : (eheap w s.heap).objs.size = s.heap.objs.size + 1 := Heap.size_push ..
      have nI : l ≠ (eheap w s.heap).objs.size := by
        rw [z1]; exact Nat.ne_of_lt (Nat.lt_succ_of_lt lS)
      unfold Builtin.«set.__init__» noKeywords Builtin.Frozenset.updateFrom
      generalize hpi : pyIter = PI
      wp_walk
      subst hpi
      refine wpAny_pyIter_tuple hl1 (wpAny_bind (wpAny_runValue ?_))
      have val : ∀ (i : Nat) (v : Value), its[i]? = some v → ∃ p, ks[i]? = some p ∧ v = .ref p.1 := fun i v hv => by
        have z : (ks.map fun p => Value.ref p.1)[i]? = some v := by rw [← hit, Array.getElem?_toList]; exact hv
        rw [List.getElem?_map] at z
        obtain ⟨p, hp, e⟩ := Option.map_eq_some_iff.mp z
        exact ⟨p, hp, e.symm⟩
      refine set_update_tups ((Walks.tuple (by simp [quiet]) _ l nI its).toS) s.heap.objs.size ?f1 ks isz few val s.heap hk (gone_above (Nat.le_refl _)) ?f2 (by simp; omega) (its.size - 0) 0 _ (by omega) (Nat.zero_le _)
        ⟨⟨_, Heap.get?_push_size _ rfl, rfl, rfl⟩, hl1.push _⟩ (fun b o e => Heap.get?_push_of_some _ (Heap.get?_push_of_some _ e)) ?f3 ?f4
      case f1 =>
        rw [z1]
        simp only [List.mem_cons, List.not_mem_nil, or_false, not_or]
        exact ⟨Nat.ne_of_lt (Nat.lt_succ_self _), Nat.ne_of_gt lS⟩
      case f2 =>
        intro b hb
        refine gone_above ?_
        rw [List.mem_singleton.mp hb, z1]
        exact Nat.le_succ _
      case f3 => exact ⟨[], #[], 0, _, setTR_fresh (Heap.get?_push_of_some _ at0), Got.zero ks⟩
      case f4 =>
        rintro ⟨h', g2, d', tk', os'⟩ L es ep t mv R got kp
        obtain rfl : g2 = s.gens := mv.gens
        obtain rfl : d' = s.drawn := mv.drawn
        obtain rfl : os' = s.os := mv.os
        rw [isz] at got
        exact wpAny_pure (wpAny_pure ⟨rfl, h', tk', L, es, ep, t, rfl, R, got, kp⟩)
    · match r2, hr2 with
      | .error e, hr2 => exact hr2
      | .ok .next, hr2 => exact hr2.elim
      | .ok .brk, hr2 => exact hr2.elim
      | .ok .cont, hr2 => exact hr2.elim
      | .ok (.ret z), hr2 =>
        obtain ⟨e3, h', tk, L, es, ep, t, e4, R, got, kp⟩ := hr2
        subst e3 e4
        repeat (any_goals (first | assumption | wp_step))
        exact q _ _ _ _ _ _ R got kp
end
end L2
/-! ## GI -/
namespace GA
open PySem PySem.Spec PyProof.Rows L2
/-! ### a list of pairs being filled -/
def Fil (K : PySem.W.Frag) (o : Option (Addr × Addr)) (H0 H : Hp) (D : Addr) (us : List (Int × Int)) : Prop := G o H0 H ∧ ∃ xs, H D = some (.lst xs) ∧ DpAll K H xs (us.map dP)
section
variable {K : PySem.W.Frag} {o : Option (Addr × Addr)} {H0 H H1 H' : Hp} {D : Addr} {us : List (Int × Int)}
theorem back_none (g : G none H0 H1) (h : H1 D = none) : H0 D = none := by
  cases c : H0 D with
  | none => rfl
  | some u => rw [g.all _ _ c] at h; cases h
theorem Fil.nil (g : G o H0 H1) (h0 : H0 D = none) (hh : ∀ p, o = some p → Hand H0 p.1 p.2) : Fil K o H0 (upd H1 D (.lst [])) D [] := ⟨g.mut h0 hh, [], upd_same, .nil⟩
theorem Fil.g (f : Fil K o H0 H D us) (g : G o H H') (off : Off o D) : Fil K o H0 H' D us := by
  obtain ⟨g0, xs, h1, h2⟩ := f
  exact ⟨g0.trans g, xs, g.keep _ _ off h1, dpAll_t g.tups _ _ (nls_pairs us) h2⟩
theorem Fil.app (f : Fil K o H0 H D us) (h0 : H0 D = none) (hh : ∀ p, o = some p → Hand H0 p.1 p.2) {v : V} {u : Int × Int} (hv : Dp K H v (dP u)) (hz : us.length ≤ 90000) :
    ∃ acc, H D = some (.lst acc) ∧ acc.length < sizeLine ∧ Fil K o H0 (upd H D (.lst (acc ++ [v]))) D (us ++ [u]) := by
  obtain ⟨g0, xs, h1, h2⟩ := f
  have t : Ts H (upd H D (.lst (xs ++ [v]))) := Ts.updl h1
  have l2 := DpAll.length h2
  rw [List.length_map] at l2
  refine ⟨xs, h1, Nat.lt_of_le_of_lt (by omega : xs.length ≤ 90000) (by decide), g0.mut h0 hh, _, upd_same, ?_⟩
  rw [List.map_append]
  exact DpAll.app (dpAll_t t _ _ (nls_pairs us) h2) (DpAll.one (dp_t t _ _ (nl_dP u) hv))
end
/-! ### two for -/
section
variable {J J1 : It} {n n1 : Nat} {Gd G1 : Hp → Prop} {Y Y1 : Nat → Hp → V → Hp → Prop} {g g1 : TG} {tt tt1 : TT} {te : TE} {wi1 : TI} {vs vs1 : List Nat} {σ σ2 : L2.St} {H1 H4 : Hp} {D : Addr} {Qd Nx : Hp → Prop}
theorem lc2_it (w : Walk J n Gd Y) (Pv : Nat → Hp → Prop) (h0 : Pv 0 (upd H1 D (.lst []))) (hG : ∀ i H, i ≤ n → Pv i H → Gd H)
    (hs : ∀ i x H H', i < n → Pv i H → Y i H x H' → g x (wipe σ vs) H' fun σ2 H2 => wipe σ2 vs = wipe σ vs ∧ tt σ2 H2 fun b H3 =>
      if b = true then wi1 σ2 H3 fun J1 H4 => ∃ W1 : Nat → Nat → Hp → Prop, (∃ m, W1 0 m H4) ∧ ∀ j k H, W1 j k H →
        (J1.stop j H ∧ Pv (i + 1) H) ∨ (J1.go j H ∧ ∃ Nx1 : Hp → Prop, (∀ H', Nx1 H' → ∃ k', k' < k ∧ W1 (j + 1) k' H') ∧ ∀ x H', J1.yld j H x H' → g1 x (wipe σ2 vs1) H' fun σ3 H5 => wipe σ3 vs1 = wipe σ2 vs1 ∧ tt1 σ3 H5 fun b H6 =>
          if b = true then te σ3 H6 fun y H7 => ∃ acc, H7 D = some (.lst acc) ∧ acc.length < sizeLine ∧ Nx1 (upd H7 D (.lst (acc ++ [y]))) else Nx1 H6)
      else Pv (i + 1) H3) (hd : ∀ H, Pv n H → Qd H) :
    ∃ W : Nat → Nat → Hp → Prop, (∃ m, W 0 m (upd H1 D (.lst []))) ∧ ∀ i m H, W i m H →
      (J.stop i H ∧ Qd H) ∨ (J.go i H ∧ ∃ Nx : Hp → Prop, (∀ H', Nx H' → ∃ m', m' < m ∧ W (i + 1) m' H') ∧ ∀ x H', J.yld i H x H' → g x (wipe σ vs) H' fun σ2 H2 => wipe σ2 vs = wipe σ vs ∧ tt σ2 H2 fun b H3 =>
        if b = true then wi1 σ2 H3 fun J1 H4 => ∃ W1 : Nat → Nat → Hp → Prop, (∃ m, W1 0 m H4) ∧ ∀ j k H, W1 j k H →
          (J1.stop j H ∧ Nx H) ∨ (J1.go j H ∧ ∃ Nx1 : Hp → Prop, (∀ H', Nx1 H' → ∃ k', k' < k ∧ W1 (j + 1) k' H') ∧ ∀ x H', J1.yld j H x H' → g1 x (wipe σ2 vs1) H' fun σ3 H5 => wipe σ3 vs1 = wipe σ2 vs1 ∧ tt1 σ3 H5 fun b H6 =>
            if b = true then te σ3 H6 fun y H7 => ∃ acc, H7 D = some (.lst acc) ∧ acc.length < sizeLine ∧ Nx1 (upd H7 D (.lst (acc ++ [y]))) else Nx1 H6)
        else Nx H3) := by
  refine ⟨fun i m H => m = n - i ∧ i ≤ n ∧ Pv i H, ⟨n, by simp, Nat.zero_le _, h0⟩, ?_⟩
  rintro i m H ⟨rfl, hi, p⟩
  have q := hG i H hi p
  by_cases c : i < n
  · exact .inr ⟨w.goes i H c q, Pv (i + 1), fun H' p' => ⟨n - (i + 1), by omega, rfl, c, p'⟩, fun x H' y => hs i x H H' c p (w.yields i H x H' c q y)⟩
  · obtain rfl : i = n := by omega
    exact .inl ⟨w.stops H q, hd H p⟩
theorem in_it (w : Walk J1 n1 G1 Y1) (P1 : Nat → Hp → Prop) (h0 : P1 0 H4) (hG : ∀ j H, j ≤ n1 → P1 j H → G1 H)
    (hs : ∀ j x H H', j < n1 → P1 j H → Y1 j H x H' → g1 x (wipe σ2 vs1) H' fun σ3 H5 => wipe σ3 vs1 = wipe σ2 vs1 ∧ tt1 σ3 H5 fun b H6 =>
      if b = true then te σ3 H6 fun y H7 => ∃ acc, H7 D = some (.lst acc) ∧ acc.length < sizeLine ∧ P1 (j + 1) (upd H7 D (.lst (acc ++ [y]))) else P1 (j + 1) H6) (hd : ∀ H, P1 n1 H → Nx H) :
    ∃ W1 : Nat → Nat → Hp → Prop, (∃ m, W1 0 m H4) ∧ ∀ j k H, W1 j k H →
      (J1.stop j H ∧ Nx H) ∨ (J1.go j H ∧ ∃ Nx1 : Hp → Prop, (∀ H', Nx1 H' → ∃ k', k' < k ∧ W1 (j + 1) k' H') ∧ ∀ x H', J1.yld j H x H' → g1 x (wipe σ2 vs1) H' fun σ3 H5 => wipe σ3 vs1 = wipe σ2 vs1 ∧ tt1 σ3 H5 fun b H6 =>
        if b = true then te σ3 H6 fun y H7 => ∃ acc, H7 D = some (.lst acc) ∧ acc.length < sizeLine ∧ Nx1 (upd H7 D (.lst (acc ++ [y]))) else Nx1 H6) := by
  refine ⟨fun i m H => m = n1 - i ∧ i ≤ n1 ∧ P1 i H, ⟨n1, by simp, Nat.zero_le _, h0⟩, ?_⟩
  rintro i m H ⟨rfl, hi, p⟩
  have q := hG i H hi p
  by_cases c : i < n1
  · exact .inr ⟨w.goes i H c q, P1 (i + 1), fun H' p' => ⟨n1 - (i + 1), by omega, rfl, c, p'⟩, fun x H' y => hs i x H H' c p (w.yields i H x H' c q y)⟩
  · obtain rfl : i = n1 := by omega
    exact .inl ⟨w.stops H q, hd H p⟩
theorem w_lc2 {wi : TI} {Q : VK} (q : wi σ H1 fun J H1 => ∀ D, H1 D = none → ∃ W : Nat → Nat → Hp → Prop, (∃ m, W 0 m (upd H1 D (.lst []))) ∧ ∀ i m H, W i m H →
  (J.stop i H ∧ Q (.ref D) H) ∨ (J.go i H ∧ ∃ Nx : Hp → Prop, (∀ H', Nx H' → ∃ m', m' < m ∧ W (i + 1) m' H') ∧ ∀ x H', J.yld i H x H' → g x (wipe σ vs) H' fun σ2 H2 => wipe σ2 vs = wipe σ vs ∧ tt σ2 H2 fun b H3 =>
    if b = true then wi1 σ2 H3 fun J1 H4 => ∃ W1 : Nat → Nat → Hp → Prop, (∃ m, W1 0 m H4) ∧ ∀ j k H, W1 j k H →
      (J1.stop j H ∧ Nx H) ∨ (J1.go j H ∧ ∃ Nx1 : Hp → Prop, (∀ H', Nx1 H' → ∃ k', k' < k ∧ W1 (j + 1) k' H') ∧ ∀ x H', J1.yld j H x H' → g1 x (wipe σ2 vs1) H' fun σ3 H5 => wipe σ3 vs1 = wipe σ2 vs1 ∧ tt1 σ3 H5 fun b H6 =>
        if b = true then te σ3 H6 fun y H7 => ∃ acc, H7 D = some (.lst acc) ∧ acc.length < sizeLine ∧ Nx1 (upd H7 D (.lst (acc ++ [y]))) else Nx1 H6)
    else Nx H3)) : tLc2 wi g tt wi1 g1 tt1 te vs vs1 σ H1 Q := q
end
/-! ### a list or a tuple -/
def iSeq (K : PySem.W.Frag) (te : TE) : TI := fun σ H R => te σ H fun x H1 => ∃ a, x = .ref a ∧ (((∃ xs, SqL K H1 a xs) ∧ R (Itl K a) H1) ∨ ((∃ xs, SqT K H1 a xs) ∧ R (Itt K a) H1))
section
variable {X : Cx}
theorem pi_seq {tg l : Expr} {tl : TE} (hl : PE X l tl) : PI X tg l (iSeq X.K tl) := by
  refine ⟨fun pins s σ H R I h => ?_⟩
  refine thn (hl.run pins s σ H _ I h) fun v s1 ⟨x, H1, I1, r1, a, e, q1⟩ => ?_
  subst e
  cases r1
  rcases q1 with ⟨⟨xs, hq⟩, q⟩ | ⟨⟨xs, hq⟩, q⟩
  · obtain ⟨its, rv, p, _⟩ := I1.list hq
    refine wpAny_pyIter_list p.isList ⟨s1.heap.objs.size, [s1.heap.objs.size], _, _, H1, rfl, I1.kept (t' := s1.toks) fun b o e => Heap.get?_push_of_some _ e, turn_list a _, ⟨_, Heap.get?_push_size _ rfl, rfl, rfl⟩, fun b hb => ?_, q⟩
    obtain rfl : b = s1.heap.objs.size := by simpa using hb
    exact I1.fpOk (Nat.le_refl _) (I1.hok.fresh (Nat.le_refl _))
  · obtain ⟨its, rv, p, _⟩ := I1.tuple hq
    refine wpAny_pyIter_tuple p ⟨s1.heap.objs.size, [s1.heap.objs.size], _, _, H1, rfl, I1.kept (t' := s1.toks) fun b o e => Heap.get?_push_of_some _ e, turn_tuple a _, ⟨_, Heap.get?_push_size _ rfl, rfl, rfl⟩, fun b hb => ?_, q⟩
    obtain rfl : b = s1.heap.objs.size := by simpa using hb
    exact I1.fpOk (Nat.le_refl _) (I1.hok.fresh (Nat.le_refl _))
theorem k_pi_seq (K : PySem.W.Frag) {tg l : Expr} {tl : TE} (hl : PE X l tl) (hK : X.K = K := by rfl) : PI X tg l (iSeq K tl) := by subst hK; exact pi_seq hl
theorem w_iseq {K : PySem.W.Frag} {te : TE} {σ : L2.St} {H : Hp} {R : It → Hp → Prop} (q : te σ H fun x H1 => ∃ a, x = .ref a ∧ (((∃ xs, SqL K H1 a xs) ∧ R (Itl K a) H1) ∨ ((∃ xs, SqT K H1 a xs) ∧ R (Itt K a) H1))) : iSeq K te σ H R := q
/-- set(xs), a list or a tuple of pairs of ints -/
def rSetPA (K : PySem.W.Frag) (P : Program) (w : World) : List V → Hp → VK → Prop := fun vs H Q => ∃ (l : Addr) (xs : List V) (us : List (Int × Int)), vs = [V.ref l] ∧ (SqL K H l xs ∨ SqT K H l xs) ∧ DpAll K H xs (us.map dP) ∧ us.length < 64 ∧
  ∀ a L H2, H a = none → (∀ o, G o H H2) → H2 a = some (SetTO P w a L) → (∀ p ∈ L, SqT K H2 p.1 (p.2.map V.int)) → (∀ ns, ns ∈ L.map (·.2) ↔ ∃ u ∈ us, ns = [u.1, u.2]) → Q (.ref a) H2
theorem cr_setPA (hc : X.calm = true) (hu : X.A.units + 64 < cLine) : CallR X (.type "set") (rSetPA X.K X.prog X.w) := by
  intro pins s σ H vs us0 Q I r h
  obtain ⟨l, xs, us, rfl, hl, hd, hz, q⟩ := h
  rcases hl with hl | hl
  · exact cr_setPN hc hu pins s σ H _ us0 Q I r ⟨l, xs, us, rfl, hl, hd, hz, q⟩
  · obtain ⟨ks, rfl, h1, h2⟩ := ks_of hd
    have hz' : ks.length = us.length := by simpa using congrArg List.length h2
    rw [Vals.ref1 r]
    obtain ⟨its, rv, pl, _⟩ := I.tuple hl
    have hn : H s.heap.objs.size = none := I.hok.fresh (Nat.le_refl _)
    refine ga_set_of_tuple (P := X.prog) (w := X.w) ks (I.ok.hd hc) pl (by simpa using refs_of_vals rv) (fun p hp => I.isT (h1 p hp)) (by omega) (by omega) fun h' tk L es ep t R g k => ?_
    refine ⟨.ref s.heap.objs.size, upd H s.heap.objs.size (SetTO X.prog X.w s.heap.objs.size L), I.laid (t' := tk) k (Nat.le_refl _) (setTO_new R.t0), rfl, q _ L _ hn (fun _ => G.alloc hn) upd_same (fun p hp => sqT_t ((G.alloc (o := none) hn).tups) (h1 p (List.mem_of_mem_take (g.sub p hp)))) fun ns => ?_⟩
    have mem : ns ∈ ks.map (·.2) ↔ ∃ u ∈ us, ns = [u.1, u.2] := by
      rw [h2, List.mem_map]
      exact ⟨fun ⟨u, a, b⟩ => ⟨u, a, b.symm⟩, fun ⟨u, a, b⟩ => ⟨u, a, b.symm⟩⟩
    rw [← mem]
    constructor
    · intro h
      obtain ⟨p, hp, rfl⟩ := List.mem_map.mp h
      exact List.mem_map.mpr ⟨p, List.mem_of_mem_take (g.sub p hp), rfl⟩
    · intro h
      obtain ⟨p, hp, rfl⟩ := List.mem_map.mp h
      exact g.all p (by rw [List.take_length]; exact hp)
/-- t.index(z), t a tuple of ints -/
def rIndexTI (K : PySem.W.Frag) : V → List V → Hp → VK → Prop := fun x xs H Q => ∃ (p : Addr) (ns : List Int) (z : Int) (j : Nat), x = .ref p ∧ xs = [.int z] ∧ SqT K H p (ns.map V.int) ∧ ns[j]? = some z ∧ (∀ m, m < j → ns[m]? ≠ some z) ∧ Q (.int (j : Nat)) H
theorem mt_indexTI : MtR X "tuple.index" (rIndexTI X.K) := by
  intro pins s σ H x xs v us Q I rx rs h
  obtain ⟨p, ns, z, j, rfl, rfl, hq, hy, hno, q⟩ := h
  cases rx
  obtain ⟨u, rfl, t, rfl⟩ := vals1 rs
  obtain ⟨its, r, ⟨⟨cls, dd, dt, sl⟩, ho, hc, n, hd⟩, hz⟩ := I.tuple hq
  simp only at hc hd
  subst hc hd
  have hl : its.toArray.size = ns.length := by rw [List.size_toArray, ← r.length, List.length_map]
  have it : ∀ (m : Nat) (hm : m < its.toArray.size), ∃ y t', ns[m]? = some y ∧ its.toArray[m] = Value.int y t' := fun m hm => by
    have hm' : m < ns.length := by rw [← hl]; exact hm
    obtain ⟨w, hw, t', hw'⟩ := r.get (i := m) (x := .int ns[m]) (by simp [hm'])
    refine ⟨ns[m], t', List.getElem?_eq_getElem hm', ?_⟩
    have e := (List.getElem?_eq_some_iff.mp hw).2
    rw [← hw', ← e]
    simp
  have flat : (ns.map V.int).all flatV = true := by rw [List.all_map, List.all_eq_true]; exact fun _ _ => rfl
  have jl : j < its.toArray.size := by rw [hl]; exact (List.getElem?_eq_some_iff.mp hy).1
  refine call_meets PySem.F.slot_tuple_index ⟨_, ho, rfl⟩ PySem.F.entry_tuple_index (PySem.F.args_tuple_index_2 _ _) (TI.tuple_indexAt p its.toArray n dd sl (.int z t) (eqU (.int z)) j jl ?_ ?_)
    ⟨ho, fun w hw => mem_eqAt (x := .int z) ⟨t, rfl⟩ rfl r flat w (by simpa using hw), ⟨.int (j : Nat), H, I.tok _, ⟨_, rfl⟩, q⟩⟩
  · obtain ⟨y, t', h1, h2⟩ := it j jl
    rw [hy] at h1
    cases h1
    rw [h2]
    exact beq_self_eq_true z
  · intro m hm hmj
    obtain ⟨y, t', h1, h2⟩ := it m hm
    rw [h2]
    have ne : y ≠ z := fun e => hno m hmj (by rw [h1, e])
    exact beq_eq_false_iff_ne.mpr ne
theorem k_mt_indexTI (K : PySem.W.Frag) (hK : X.K = K := by rfl) : MtR X "tuple.index" (rIndexTI K) := by subst hK; exact mt_indexTI
/-- xs + ys, lists -/
def rCatLN : R2 := fun x y H Q => ∃ l b xs zs, x = .ref l ∧ y = .ref b ∧ H l = some (.lst xs) ∧ H b = some (.lst zs) ∧ xs.length + zs.length ≤ 100000 ∧ New H (.lst (xs ++ zs)) fun p H2 => Q (.ref p) H2
theorem op_catLN : OpR X (binaryOp .Add) rCatLN := OpR.weak op_cat fun x y H Q h => by
  obtain ⟨l, b, xs, zs, e1, e2, h1, h2, hz, q⟩ := h
  exact ⟨l, b, xs, zs, e1, e2, h1, h2, sz hz, fun p hp => q.go hp⟩
end
end GA
/-! ## GJ -/
namespace GA
open PySem PySem.Spec PyProof.Rows L2
/-! ### dict(pairs) whose keys are tuples -/
/-- one pair (key, value): where the pair's tuple stands, the key, where the key stands, the value -/
structure DPair where
  at_ : Addr
  key : List L2.Key
  kat : Addr
  val : V
def rDictPT : List V → Hp → VK → Prop := fun xs H Q => ∃ (a : Addr) (L : List DPair), xs = [.ref a] ∧ H a = some (.lst (L.map fun q => V.ref q.at_)) ∧ (∀ q ∈ L, H q.at_ = some (.tup [.ref q.kat, q.val]) ∧ H q.kat = some (.tup (q.key.map kV))) ∧ (L.map fun q => q.key).Nodup ∧ New H (.dT (L.map fun q => (q.key, q.val))) fun p H2 => Q (.ref p) H2
section
variable {X : Cx}
theorem pairs_told {pins : List (Addr × Obj)} {σ : L2.St} {H : Hp} {s : Shared} (I : Inv X pins σ H s) : ∀ (L : List DPair), (∀ q ∈ L, H q.at_ = some (.tup [.ref q.kat, q.val]) ∧ H q.kat = some (.tup (q.key.map kV))) →
    ∃ prs : List (List L2.Key × Addr × Value), Paired (fun (q : DPair) (p : List L2.Key × Addr × Value) => p.1 = q.key ∧ p.2.1 = q.kat ∧ RelV q.val p.2.2 ∧ s.heap.IsTuple q.at_ #[.ref q.kat, p.2.2]) L prs
  | [], _ => ⟨[], .nil⟩
  | q :: L, h => by
    obtain ⟨prs, r⟩ := pairs_told I L fun q' hq => h q' (List.mem_cons_of_mem _ hq)
    obtain ⟨h1, _⟩ := h q List.mem_cons_self
    obtain ⟨_, its, rv, pl⟩ := I.hok q.at_ _ h1
    cases rv with
    | cons r1 r2 =>
      cases r2 with
      | cons r2 r3 =>
        cases r3
        cases r1
        exact ⟨(q.key, q.kat, _) :: prs, .cons ⟨rfl, rfl, r2, pl⟩ r⟩
theorem paired_len {α β : Type} {F : α → β → Prop} : ∀ {l : List α} {m : List β}, Paired F l m → l.length = m.length
  | _, _, .nil => rfl
  | _, _, .cons _ t => by rw [List.length_cons, List.length_cons, paired_len t]
theorem paired_at {α β : Type} {F : α → β → Prop} : ∀ {l : List α} {m : List β} {i : Nat} {y : β}, Paired F l m → m[i]? = some y → ∃ x, l[i]? = some x ∧ F x y
  | _, _, _, _, .nil, e => by simp at e
  | _, _, 0, _, .cons h _, e => by simp at e; subst e; exact ⟨_, rfl, h⟩
  | _, _, i + 1, y, .cons _ t, e => by
    obtain ⟨x, h1, h2⟩ := paired_at (i := i) (y := y) t (by simpa using e)
    exact ⟨x, by simpa using h1, h2⟩
theorem paired_keys {s : Shared} {L : List DPair} {prs : List (List L2.Key × Addr × Value)} (r : Paired (fun (q : DPair) (p : List L2.Key × Addr × Value) => p.1 = q.key ∧ p.2.1 = q.kat ∧ RelV q.val p.2.2 ∧ s.heap.IsTuple q.at_ #[.ref q.kat, p.2.2]) L prs) : prs.map (·.1) = L.map fun q => q.key := by
  induction r with
  | nil => rfl
  | cons h _ ih => rw [List.map_cons, List.map_cons, ih, h.1]
theorem paired_kt {s : Shared} {H : Hp} {L : List DPair} {prs : List (List L2.Key × Addr × Value)} (r : Paired (fun (q : DPair) (p : List L2.Key × Addr × Value) => p.1 = q.key ∧ p.2.1 = q.kat ∧ RelV q.val p.2.2 ∧ s.heap.IsTuple q.at_ #[.ref q.kat, p.2.2]) L prs)
    (h : ∀ q ∈ L, H q.kat = some (.tup (q.key.map kV))) : KT H (L.map fun q => (q.key, q.val)) prs := by
  induction r with
  | nil => exact .nil
  | @cons q p L prs e _ ih =>
    refine .cons ⟨e.1.symm, ?_, e.2.2.1⟩ (ih fun q' hq => h q' (List.mem_cons_of_mem _ hq))
    rw [e.2.1]
    exact h q List.mem_cons_self
theorem call_dictPT (hc : X.calm = true) (hu : X.A.units + 64 < cLine) : CallR X (.type "dict") rDictPT := by
  intro pins s σ H xs us Q I r h
  obtain ⟨a, L, rfl, ha, hL, nd, q⟩ := h
  obtain ⟨u, rfl, rx⟩ := vals1 r
  cases rx
  obtain ⟨hz, its, n, rv, ea⟩ := I.hok a _ ha
  have eits : its = L.map fun q => Value.ref q.at_ := by
    have e : (L.map fun q => V.ref q.at_) = (L.map fun q => q.at_).map V.ref := by rw [List.map_map]; rfl
    rw [e] at rv
    have := L2.refs_at rv
    rw [this, List.map_map]; rfl
  obtain ⟨prs, pr⟩ := pairs_told I L hL
  have len := paired_len pr
  have keys := paired_keys pr
  have P := PairArg.list (prog := X.prog) (w := X.w) a its.toArray (fun j => (L[j]?.map fun q => q.at_).getD 0) (prs.map fun p => (Value.ref p.2.1, p.2.2))
  have Lsz : L.length ≤ sizeLine := by
    rw [List.length_map] at hz
    exact hz
  have key_in : ∀ p ∈ prs, ∃ q ∈ L, p.1 = q.key ∧ p.2.1 = q.kat := fun p hp => by
    obtain ⟨i, hi⟩ := List.getElem?_of_mem hp
    obtain ⟨q, hq, e⟩ := paired_at pr hi
    exact ⟨q, List.mem_of_getElem? hq, e.1, e.2.1⟩
  have newA : H s.heap.objs.size = none := I.hok.fresh (Nat.le_refl _)
  refine call_dict_pairsH (knd := tupleKind (mixKind X.prog X.w)) (ps := prs) P (I.ok.hd hc) (by show _ < cLine; simp; omega) ⟨⟨_, n, ea, rfl, rfl, rfl⟩, ?_, fun j k v e => ?_⟩ ⟨by rw [List.length_map], fun i key v e => ?_⟩ (fun h' keep p hp => ?_) (by rw [List.length_map]; omega) fun h' tk D keep => ?_
  · rw [List.size_toArray, eits, List.length_map, List.length_map, len]
  · rw [List.getElem?_map] at e
    obtain ⟨p, hp, e⟩ := Option.map_eq_some_iff.mp e
    cases e
    obtain ⟨q, hq, e1, e2, e3, e4⟩ := paired_at pr hp
    have eq1 : (L[j]?.map fun q => q.at_).getD 0 = q.at_ := by rw [hq]; rfl
    refine ⟨?_, .inl ?_⟩
    · show its.toArray[j]? = some (.ref ((L[j]?.map fun q => q.at_).getD 0))
      rw [eq1, eits]
      simp [hq]
    · show s.heap.IsTuple ((L[j]?.map fun q => q.at_).getD 0) _
      rw [eq1]
      show s.heap.IsTuple q.at_ #[.ref p.2.1, p.2.2]
      rw [e2]
      exact e4
  · have e : (prs.map fun p => (Value.ref p.2.1, p.2.2))[i]? = some (key, v) := e
    rw [List.getElem?_map] at e
    obtain ⟨p, hp, e⟩ := Option.map_eq_some_iff.mp e
    cases e
    exact ⟨p.1, p.2.1, hp, rfl⟩
  · obtain ⟨q, hq, e1, e2⟩ := key_in p hp
    have k0 := key_of I.hok (hL q hq).2
    rw [e1, e2]
    obtain ⟨o, items, m, ho, rest⟩ := k0
    exact ⟨o, items, m, keep _ _ (Nat.ne_of_lt (Heap.lt_size ho)) (by simp) ho, rest⟩
  · have e0 : storedAllH [] prs = prs := storedAllH_nil_of_nodup prs (by rw [keys]; exact nd)
    rw [e0] at D
    obtain ⟨o, es, ep, d1, d2, d3, d4, _, d6⟩ := D
    have hm : (s.heap.objs.size == sysModules) = false := beq_eq_false_iff_ne.mpr (Nat.ne_of_gt I.big)
    have kt : KT (upd H s.heap.objs.size (.dT (L.map fun q => (q.key, q.val)))) (L.map fun q => (q.key, q.val)) prs := paired_kt pr fun q hq => by
      rw [upd_ne (ne_of_none (hL q hq).2 newA)]
      exact (hL q hq).2
    exact ⟨.ref s.heap.objs.size, _, I.laid (o := .dT (L.map fun q => (q.key, q.val))) (t' := tk) (fun b o e => keep b o (by simp) e) (Nat.le_refl _) ⟨by rw [List.length_map]; exact Lsz, hm, prs, kt, o, es, ep, d1, d2, d3, d4, d6⟩, rfl, q.go newA⟩
end
end GA
/-! ## GK -/
namespace GA
open PySem PySem.Spec PyProof.Rows L2
section
variable {X : Cx}
/-- len(set(t)), t a tuple of unlike ints -/
def tLenSetTI (K : PySem.W.Frag) (ta : TE) : TE := fun σ H Q => ta σ H fun x H1 => ∃ (l : Addr) (ns : List Int), x = V.ref l ∧ SqT K H1 l (ns.map V.int) ∧ ns.length ≤ 1000 ∧ ns.Nodup ∧ Q (.int ns.length) H1
theorem pe_lenSetTI {a : Expr} {ta : TE} {p p2 q pos : Pos} (hc : X.calm = true) (hg : Gl X "len") (hm : X.mg "len" = none) (hg2 : Gl X "set") (hm2 : X.mg "set" = none) (ha : PE X a ta)
    (na : starEach [a] X.env = (false, eval a X.env) :: starEach [] X.env := by rfl) : PE X (.Call (.Name "len" p) [.Call (.Name "set" p2) [a] [] q] [] pos) (tLenSetTI X.K ta) := by
  refine ⟨fun pins s σ H Q I h => Call_ (ld_blt I hg hm PySem.boot_len (PyProof.Rows.callWith_builtin1 (PyProof.Rows.args_cons ?_ rfl) rfl rfl))⟩
  refine Call_ (ld_blt I hg2 hm2 PyProof.Rows.boot_set (PyProof.Rows.callWith_type1 (PyProof.Rows.args_cons (thn (ha.run pins s σ H _ I h) fun v s1 ⟨x, H1, I1, r1, l, ns, ex, hq, h1, hnd, q1⟩ => PyProof.Rows.args_nil ?_) na) na rfl))
  subst ex
  cases r1
  obtain ⟨its, r, pt, _⟩ := I1.tuple hq
  refine call_set_tupI ns (I1.ok.hd hc) pt (ints_of_vals r) (by unfold scanBound; omega) fun h' tk c R _ keep => PyProof.Rows.args_nil ?_
  obtain ⟨o, es, ep, t, ho, hex, hd, _, nd, mem, hsz, hf, _⟩ := R
  have e : es.size = ns.length := by
    have pm : (es.toList.map keyOf).Perm ns := (List.perm_ext_iff_of_nodup nd hnd).mpr fun k => by rw [← mem]; simp
    have := pm.length_eq
    simpa using this
  have I2 : Inv X pins σ H1 { s1 with heap := h', toks := tk } := I1.kept keep
  exact call_len_set ho hex hd hf (by rw [e]; omega) ⟨.int ns.length, H1, I2.tok _, ⟨_, by rw [e]⟩, q1⟩
end
end GA
/-! ## GL -/
namespace GA
open PySem L2
/-! ### methods of tuples; tuples whose object is known -/
section
variable {X : Cx} {T : String} {name : Str} {id : String} {r : V → List V → Hp → VK → Prop} {o e : Expr} {es : List Expr} {apos cpos : Pos} {to : TE} {t : TA}
theorem k_bm (K : PySem.W.Frag) (pa : PlainAttrs T) (slot : Slot T name id) (hty : typeOf (.builtin id) = pure (.type "method_descriptor")) (hm : MtR X id r) (ho : PE X o to) (ha : PA X (e :: es) t) (hK : X.K = K := by rfl)
    (h1 : attributeBase o name X.env (eval o X.env) = eval o X.env := by rfl)
    (h2 : ((backTo cpos (starEach (e :: es) X.env)).all (fun x => !x.1) && (backToKw cpos (keywordEach [] X.env)).all (fun x => x.1.isSome) && decide ((e :: es).length + ([] : List Keyword).length + (if ([] : List Keyword).isEmpty then 0 else 1) < 30)) = true := by rfl)
    (h3 : (apos.endLine == cpos.line) = true := by rfl) (h4 : starEach (e :: es) X.env = (false, eval e X.env) :: starEach es X.env := by rfl) (h5 : (backTo cpos (starEach es X.env)).any (·.1) = false := by rfl) :
    PE X (.Call (.Attribute o name apos) (e :: es) [] cpos) (tBM K T r to t) := by
  subst hK
  exact pe_bm pa slot hty hm ho ha h1 h2 h3 h4 h5
/-- a tuple whose object is known: it has no names of its own -/
def FrzT (H : Hp) (p : Addr) (xs : List V) : Prop := ∃ ob : Obj, H p = some (.frz ob (.tup xs)) ∧ ob.dict = none
theorem FrzT.sq {K : PySem.W.Frag} {H : Hp} {p : Addr} {xs : List V} (h : FrzT H p xs) : SqT K H p xs := by
  obtain ⟨ob, h, _⟩ := h
  exact .inl (.inr ⟨ob, h⟩)
theorem FrzT.n {H H' : Hp} {p : Addr} {xs : List V} (h : FrzT H p xs) (g : G none H H') : FrzT H' p xs := by
  obtain ⟨ob, h, d⟩ := h
  exact ⟨ob, g.all _ _ h, d⟩
def tBMT (r : V → List V → Hp → VK → Prop) (to : TE) (t : TA) : TE := fun σ H Q => to σ H fun x H1 => (∃ p xs, x = .ref p ∧ FrzT H1 p xs) ∧ t σ H1 fun vs H2 => r x vs H2 Q
theorem w_bmt {r : V → List V → Hp → VK → Prop} {σ : L2.St} {H : Hp} {Q : VK} (q : to σ H fun x H1 => (∃ p xs, x = .ref p ∧ FrzT H1 p xs) ∧ t σ H1 fun vs H2 => r x vs H2 Q) : tBMT r to t σ H Q := q
theorem pe_bmT (pa : PlainAttrs "tuple") (slot : Slot "tuple" name id) (hty : typeOf (.builtin id) = pure (.type "method_descriptor")) (hm : MtR X id r) (ho : PE X o to) (ha : PA X (e :: es) t)
    (h1 : attributeBase o name X.env (eval o X.env) = eval o X.env := by rfl)
    (h2 : ((backTo cpos (starEach (e :: es) X.env)).all (fun x => !x.1) && (backToKw cpos (keywordEach [] X.env)).all (fun x => x.1.isSome) && decide ((e :: es).length + ([] : List Keyword).length + (if ([] : List Keyword).isEmpty then 0 else 1) < 30)) = true := by rfl)
    (h3 : (apos.endLine == cpos.line) = true := by rfl) (h4 : starEach (e :: es) X.env = (false, eval e X.env) :: starEach es X.env := by rfl) (h5 : (backTo cpos (starEach es X.env)).any (·.1) = false := by rfl) :
    PE X (.Call (.Attribute o name apos) (e :: es) [] cpos) (tBMT r to t) := by
  refine ⟨fun pins s σ H Q I h => ?_⟩
  refine wpAny_Call_method_late h1 h2 h3 rfl (thn (ho.run pins s σ H _ I h) fun v s1 ⟨x, H1, I1, r1, ⟨p, xs, ex, ob, hp, dn⟩, q1⟩ => ?_)
  subst ex
  cases r1
  obtain ⟨a1, _, its, _, o', a2, a3, _⟩ := I1.hok p _ hp
  obtain rfl : o' = ob := by
    rw [a1] at a2
    exact (Option.some.inj a2).symm
  refine ⟨"tuple", id, pa, slot, hty, ⟨o', a1, a3⟩, fun a e => by cases e; exact ⟨o', a1, dn⟩, ?_⟩
  have hA := ha.run cpos pins s1 σ H1 _ I1 q1
  rw [h4] at hA ⊢
  refine Calls.callWith_builtin (by show (false || (backTo cpos (starEach es X.env)).any (·.1)) = false; rw [h5] <;> rfl) (Calls.evalArgs_plain ?_)
  exact thn hA fun us s2 ⟨vs, H2, I2, r2, q2⟩ => hm pins s2 σ H2 (.ref p) vs (.ref p) us Q I2 rfl r2 q2
/-- tuple(a list): the new tuple's object is told -/
def rTupleF (K : PySem.W.Frag) : List V → Hp → VK → Prop := fun xs H Q => ∃ p ys, xs = [.ref p] ∧ SqL K H p ys ∧ ∀ l H2, H l = none → (∀ o, G o H H2) → FrzT H2 l ys → Q (.ref l) H2
theorem call_tupleF : CallR X (.type "tuple") (rTupleF X.K) := by
  intro pins s σ H xs us Q I r h
  obtain ⟨p, ys, rfl, hq, q⟩ := h
  obtain ⟨u, rfl, rx⟩ := vals1 r
  cases rx
  obtain ⟨its, r', pl, hz⟩ := I.list hq
  have hlen := r'.length
  refine call_tuple_list pl.isList (fun h' kp => ?_) (by simp only [List.size_toArray] <;> omega)
  have I1 : Inv X pins σ H { s with heap := h' } := I.kept (t' := s.toks) kp
  have new : H h'.objs.size = none := I1.hok.fresh (Nat.le_refl _)
  refine ⟨.ref h'.objs.size, _, I1.laid (o := .frz { cls := .type "tuple", data := .seq its.toArray } (.tup ys)) (t' := s.toks) (fun b o e => Heap.get?_push_of_some _ e) (Nat.le_refl _) ⟨Heap.get?_push_size _ rfl, hz, its, r', PyProof.Rows.IsTup.new _ _⟩, rfl, q _ _ new (fun _ => G.alloc new) ⟨_, upd_same, rfl⟩⟩
end
end GA
/-! ## GM -/
/-! tuples compared item by item, where an item's own == may run -/
namespace GQB
open PySem PySem.SeqAt GQ
open AutoSeq1 (wpAny_loadPart')
open MeetsSeq MeetsSeq2 MeetsSeq3 SeqRoads2
section
variable {prog : Program} {w : World} {A : Around} {R : Result → Shared → Prop}
theorem tuple_eqB (l b : Addr) (items items2 : Array Value) (n n2 : Nat) (dd dd2 : Option Addr) (sl sl2 : Array (Option Value)) (e : Nat → Bool) (I : Shared → Prop)
    (turn : ∀ i (h1 : i < items.size) (h2 : i < items2.size) s, I s → wpAny (model prog w) A.in1 (eqBool items[i] items2[i]) (fun r s' => r = e i ∧ I s') (fun e s' => R (.error e) s') s)
    (fin : ∀ s, I s → R (.ok (.ret (.bool ((List.range (min items.size items2.size)).all e && items.size == items2.size)))) s) {s : Shared} (hl1 : s.heap.get? l = some { cls := .type "tuple", dict := dd, data := .seq items n, slots := sl }) (hb1 : s.heap.get? b = some { cls := .type "tuple", dict := dd2, data := .seq items2 n2, slots := sl2 }) (h : I s) :
    wpAny (model prog w) A.in1 (Builtin.«tuple.__eq__» ⟨[.ref l, .ref b], []⟩) (FinOf prog w A R) (fun e s' => R (.error e) s') s := by
  have f2 := AutoSeq1.sub_tuple_tuple
  have hZ : (items.toList.zip items2.toList).length = min items.size items2.size := by simp
  have h0 := h
  obtain ⟨hp, g, d, tk, os⟩ := s
  wp_walk using wpAny_loadPart' hl1, wpAny_loadPart' hb1, wpAny_forIn_list _ (fun rest b s' => b.1 = none ∧ ∃ i, rest = (items.toList.zip items2.toList).drop i ∧ (∀ j, j < i → e j = true) ∧ I s') _
  case turn =>
    rintro ⟨y, x⟩ rest b s' ⟨hb', i, hz, hi, hI⟩
    have hlt : i < (items.toList.zip items2.toList).length := by
      rcases Nat.lt_or_ge i (items.toList.zip items2.toList).length with h' | h'
      · exact h'
      · rw [List.drop_of_length_le h'] at hz; cases hz
    have hm : i < min items.size items2.size := hZ ▸ hlt
    have h1 : i < items.size := Nat.lt_of_lt_of_le hm (Nat.min_le_left _ _)
    have h2 : i < items2.size := Nat.lt_of_lt_of_le hm (Nat.min_le_right _ _)
    rw [List.drop_eq_getElem_cons hlt] at hz
    injection hz with hyx hrest
    have hy : y = items[i] := by have := congrArg Prod.fst hyx; simpa using this
    have hx : x = items2[i] := by have := congrArg Prod.snd hyx; simpa using this
    subst hy hx
    refine wpAny_bind (wpAny_mono (turn i h1 h2 s' hI) (fun r s2 q2 => ?_) fun _ _ x => x)
    obtain ⟨hr, q2⟩ := q2
    subst hr
    cases hei : e i with
    | true =>
      wp_walk
      refine ⟨rfl, i + 1, hrest, fun j hj => ?_, q2⟩
      rcases Nat.lt_succ_iff_lt_or_eq.mp hj with z | z
      · exact hi j z
      · rw [z]; exact hei
    | false =>
      have al : (List.range (min items.size items2.size)).all e = false := by
        rw [Bool.eq_false_iff]
        intro z
        have := List.all_eq_true.mp z i (List.mem_range.mpr hm)
        rw [hei] at this; cases this
      have hR := fin s2 q2
      rw [al, Bool.false_and] at hR
      wp_walk
      simpa using hR
  case fin =>
    rintro ⟨b1, b2⟩ s' ⟨hb', i, hz, hi, hI⟩
    simp only at hb'
    subst hb'
    have hge : min items.size items2.size ≤ i := by
      rcases Nat.lt_or_ge i (items.toList.zip items2.toList).length with h' | h'
      · rw [List.drop_eq_getElem_cons h'] at hz; cases hz
      · exact hZ ▸ h'
    have al : (List.range (min items.size items2.size)).all e = true := List.all_eq_true.mpr fun j hj => hi j (Nat.lt_of_lt_of_le (List.mem_range.mp hj) hge)
    have hR := fin s' hI
    rw [al, Bool.true_and] at hR
    wp_walk
    simpa [Builtin.Tuple.tupleCompareSizes] using hR
  case h =>
    exact ⟨rfl, 0, rfl, (fun _ h => absurd h (Nat.not_lt_zero _)), h0⟩
end
section
variable {prog : Program} {w : World} {A : Around} {E : Value → Shared → Prop} {s : Shared}
theorem rc_tupB {l b : Addr} {items items2 : Array Value} {Q : Value → Shared → Prop} (hu : A.units < cLine) (e : Nat → Bool) (I : Shared → Prop)
    (hl : s.heap.IsTuple l items) (hb : s.heap.IsTuple b items2)
    (turn : ∀ i (h1 : i < items.size) (h2 : i < items2.size) s, I s → wpAny (model prog w) A.in1 (eqBool items[i] items2[i]) (fun r s' => r = e i ∧ I s') E s)
    (fin : ∀ s, I s → Q (.bool ((List.range (min items.size items2.size)).all e && items.size == items2.size)) s) (h : I s) : wpAny (model prog w) A (richCompare .Eq (.ref l) (.ref b)) Q E s := by
  obtain ⟨⟨cls, dd, data, sl⟩, ho, hc, n, hd⟩ := id hl
  obtain ⟨⟨cls2, dd2, data2, sl2⟩, ho2, hc2, n2, hd2⟩ := id hb
  simp only at hc hd hc2 hd2
  subst hc hd hc2 hd2
  refine wpAny_richCompare_same_room (op := .Eq) ⟨_, ho, rfl⟩ ⟨_, ho2, rfl⟩ F.slot_tuple_eq (call_here F.slot_tuple_eq ⟨_, ho, rfl⟩ F.entry_tuple_eq (F.args_tuple_eq_2 _ _) ?_) hu
  exact tuple_eqB (R := wants (fun v s' => v ≠ .notImplemented ∧ Q v s') E) l b items items2 n n2 dd dd2 sl sl2 e I turn (fun s' q => ⟨(fun x => nomatch x), fin s' q⟩) ho ho2 h
end
end GQB
/-! ## GN -/
namespace GA
open PySem PySem.Spec PyProof.Rows L2
/-! ### any thing, as far as it is looked at -/
inductive Tg where
  | non
  | bl (b : Bool)
  | int (i : Int)
  | str (s : Str)
  | tup (ts : List Tg)
  | oth
/-- an object that is neither a tuple nor flat: a list, a dict, an instance of the class at C -/
def Oth (C : Addr) (H : Hp) (a : Addr) : Prop := (∃ xs, H a = some (.lst xs)) ∨ (∃ kvs, H a = some (.dK kvs)) ∨ ∃ dx fs, H a = some (.ins C dx fs)
mutual
inductive Ab (C hd : Addr) (H : Hp) : V → Tg → Prop
  | non : Ab C hd H .non .non
  | bl (b : Bool) : Ab C hd H (.bl b) (.bl b)
  | int (i : Int) : Ab C hd H (.int i) (.int i)
  | str (x : Str) : Ab C hd H (.str x) (.str x)
  | tup {a : Addr} {xs : List V} {ts : List Tg} : Rd H a (.tup xs) → AbAll C hd H xs ts → Ab C hd H (.ref a) (.tup ts)
  | oth {a : Addr} : a ≠ hd → Oth C H a → Ab C hd H (.ref a) .oth
inductive AbAll (C hd : Addr) (H : Hp) : List V → List Tg → Prop
  | nil : AbAll C hd H [] []
  | cons {v : V} {vs : List V} {t : Tg} {ts : List Tg} : Ab C hd H v t → AbAll C hd H vs ts → AbAll C hd H (v :: vs) (t :: ts)
end
theorem Oth.k {C : Addr} {H H' : Hp} {a : Addr} (h : Oth C H a) (k : ∀ u, H a = some u → H' a = some u) : Oth C H' a := by
  rcases h with ⟨xs, h⟩ | ⟨kvs, h⟩ | ⟨dx, fs, h⟩
  · exact .inl ⟨xs, k _ h⟩
  · exact .inr (.inl ⟨kvs, k _ h⟩)
  · exact .inr (.inr ⟨dx, fs, k _ h⟩)
mutual
theorem Ab.k {C hd : Addr} {H H' : Hp} (t : Ts H H') (k : ∀ a u, a ≠ hd → H a = some u → H' a = some u) : ∀ (g : Tg) (v : V), Ab C hd H v g → Ab C hd H' v g
  | .non, _, h => by cases h; exact .non
  | .bl b, _, h => by cases h; exact .bl b
  | .int b, _, h => by cases h; exact .int b
  | .str b, _, h => by cases h; exact .str b
  | .oth, _, h => by
    cases h with
    | oth n o => exact .oth n (o.k fun u e => k _ u n e)
  | .tup ts, _, h => by
    cases h with
    | tup r a => exact .tup (t _ _ r) (AbAll.k t k ts _ a)
theorem AbAll.k {C hd : Addr} {H H' : Hp} (t : Ts H H') (k : ∀ a u, a ≠ hd → H a = some u → H' a = some u) : ∀ (gs : List Tg) (vs : List V), AbAll C hd H vs gs → AbAll C hd H' vs gs
  | [], _, h => by cases h; exact .nil
  | g :: gs, _, h => by
    cases h with
    | cons h1 h2 => exact .cons (Ab.k t k g _ h1) (AbAll.k t k gs _ h2)
end
/-- whatever may change is the hand alone -/
def OH (o : Option (Addr × Addr)) (hd : Addr) : Prop := ∀ p, o = some p → p.1 = hd
theorem OH.n {hd : Addr} : OH none hd := fun _ e => nomatch e
theorem OH.s {hd c : Addr} : OH (some (hd, c)) hd := fun _ e => by cases e; rfl
section
variable {C hd : Addr} {H H' : Hp} {o : Option (Addr × Addr)}
theorem Ab.g {v : V} {t : Tg} (h : Ab C hd H v t) (g : G o H H') (oh : OH o hd) : Ab C hd H' v t := h.k g.tups (fun a u n e => g.keep a u (fun p ep z => n (z.trans (oh p ep))) e) t v
theorem AbAll.g {vs : List V} {ts : List Tg} (h : AbAll C hd H vs ts) (g : G o H H') (oh : OH o hd) : AbAll C hd H' vs ts := h.k g.tups (fun a u n e => g.keep a u (fun p ep z => n (z.trans (oh p ep))) e) ts vs
theorem Ab.n {v : V} {t : Tg} (h : Ab C hd H v t) (g : G none H H') : Ab C hd H' v t := h.g g OH.n
theorem AbAll.n {vs : List V} {ts : List Tg} (h : AbAll C hd H vs ts) (g : G none H H') : AbAll C hd H' vs ts := h.g g OH.n
theorem AbAll.length : ∀ {vs : List V} {ts : List Tg}, AbAll C hd H vs ts → vs.length = ts.length
  | _, _, .nil => rfl
  | _, _, .cons _ t => by simp [AbAll.length t]
theorem AbAll.get : ∀ {vs : List V} {ts : List Tg} {i : Nat} {v : V}, AbAll C hd H vs ts → vs[i]? = some v → ∃ t, ts[i]? = some t ∧ Ab C hd H v t
  | _, _, _, _, .nil, e => by simp at e
  | _, _, 0, _, .cons h _, e => by simp at e; subst e; exact ⟨_, rfl, h⟩
  | _, _, i + 1, v, .cons _ t, e => by
    obtain ⟨d, h1, h2⟩ := AbAll.get (i := i) (v := v) t (by simpa using e)
    exact ⟨d, by simpa using h1, h2⟩
theorem AbAll.get' : ∀ {vs : List V} {ts : List Tg} {i : Nat} {t : Tg}, AbAll C hd H vs ts → ts[i]? = some t → ∃ v, vs[i]? = some v ∧ Ab C hd H v t
  | _, _, _, _, .nil, e => by simp at e
  | _, _, 0, _, .cons h _, e => by simp at e; subst e; exact ⟨_, rfl, h⟩
  | _, _, i + 1, v, .cons _ t, e => by
    obtain ⟨d, h1, h2⟩ := AbAll.get' (i := i) (t := v) t (by simpa using e)
    exact ⟨d, by simpa using h1, h2⟩
theorem AbAll.app : ∀ {vs ws : List V} {ts us : List Tg}, AbAll C hd H vs ts → AbAll C hd H ws us → AbAll C hd H (vs ++ ws) (ts ++ us)
  | _, _, _, _, .nil, h => h
  | _, _, _, _, .cons h t, h' => .cons h (AbAll.app t h')
theorem AbAll.take : ∀ {vs : List V} {ts : List Tg} (n : Nat), AbAll C hd H vs ts → AbAll C hd H (vs.take n) (ts.take n)
  | _, _, 0, _ => by simp; exact .nil
  | _, _, n + 1, .nil => by simp; exact .nil
  | _, _, n + 1, .cons h t => by simp; exact .cons h (AbAll.take n t)
theorem AbAll.drop : ∀ {vs : List V} {ts : List Tg} (n : Nat), AbAll C hd H vs ts → AbAll C hd H (vs.drop n) (ts.drop n)
  | _, _, 0, h => h
  | _, _, n + 1, .nil => by simp; exact .nil
  | _, _, n + 1, .cons h t => by simp; exact AbAll.drop n t
theorem rd_one {a : Addr} {xs ys : List V} (h : Rd H a (.tup xs)) (h' : Rd H a (.tup ys)) : xs = ys := by
  rcases h with h | ⟨o, h⟩ <;> rcases h' with h' | ⟨o', h'⟩ <;> rw [h] at h' <;> cases h' <;> rfl
theorem rd_oth {a : Addr} {xs : List V} (h : Rd H a (.tup xs)) (h' : Oth C H a) : False := by
  rcases h with h | ⟨o, h⟩ <;> rcases h' with ⟨_, h'⟩ | ⟨_, h'⟩ | ⟨_, _, h'⟩ <;> rw [h] at h' <;> cases h'
mutual
theorem Ab.one : ∀ (g : Tg) (v : V) (g' : Tg), Ab C hd H v g → Ab C hd H v g' → g = g'
  | .non, _, _, h, h' => by cases h; cases h'; rfl
  | .bl b, _, _, h, h' => by cases h; cases h'; rfl
  | .int b, _, _, h, h' => by cases h; cases h'; rfl
  | .str b, _, _, h, h' => by cases h; cases h'; rfl
  | .oth, _, _, h, h' => by
    cases h with
    | oth n o =>
      cases h' with
      | oth _ _ => rfl
      | tup r _ => exact (rd_oth r o).elim
  | .tup ts, _, _, h, h' => by
    cases h with
    | tup r a =>
      cases h' with
      | oth _ o => exact (rd_oth r o).elim
      | tup r' a' =>
        obtain rfl := rd_one r r'
        rw [AbAll.one ts _ _ a a']
theorem AbAll.one : ∀ (gs : List Tg) (vs : List V) (gs' : List Tg), AbAll C hd H vs gs → AbAll C hd H vs gs' → gs = gs'
  | [], _, _, h, h' => by cases h; cases h'; rfl
  | g :: gs, _, _, h, h' => by
    cases h with
    | cons h1 h2 =>
      cases h' with
      | cons h1' h2' => rw [Ab.one g _ _ h1 h1', AbAll.one gs _ _ h2 h2']
end
end
/-! ### isinstance of them -/
structure InsK (K : PySem.W.Frag) (C : Addr) : Prop where
  ic : C8.InsC K C
  int : PySem.W.kitOne K (.ref C) (.type "int") = some false
  bool : PySem.W.kitOne K (.ref C) (.type "bool") = some false
  tuple : PySem.W.kitOne K (.ref C) (.type "tuple") = some false
  str : PySem.W.kitOne K (.ref C) (.type "str") = some false
def isT : String → Tg → Bool
  | "int", .int _ => true
  | "int", .bl _ => true
  | "bool", .bl _ => true
  | "str", .str _ => true
  | "tuple", .tup _ => true
  | _, _ => false
theorem ab_isi {K : PySem.W.Frag} {C hd : Addr} {H : Hp} {v : V} {t : Tg} {n : String} {Q : VK} (I : InsK K C) (h : Ab C hd H v t) (hn : n = "int" ∨ n = "bool" ∨ n = "str" ∨ n = "tuple") (q : Q (.bl (isT n t)) H) : rIsi K [v, .ty n] H Q := by
  have mk : ∀ (ty : Value) (b : Bool), TyX K H v ty → PySem.W.kitOne K ty (.type n) = some b → isT n t = b → rIsi K [v, .ty n] H Q := fun ty b h1 h2 h3 => ⟨v, .ty n, ty, .type n, b, rfl, .ty n, h1, h2, h3 ▸ q⟩
  cases h with
  | non => exact mk _ (isT n .non) (.base .non) (by rcases hn with rfl | rfl | rfl | rfl <;> exact kit_ty (by decide +kernel)) rfl
  | bl b => exact mk _ (isT n (.bl b)) (.base (.bl b)) (by rcases hn with rfl | rfl | rfl | rfl <;> exact kit_ty (by cases b <;> decide +kernel)) rfl
  | int i => exact mk _ (isT n (.int 0)) (.base (.int i)) (by rcases hn with rfl | rfl | rfl | rfl <;> exact kit_ty (by decide +kernel)) (by rcases hn with rfl | rfl | rfl | rfl <;> rfl)
  | str x => exact mk _ (isT n (.str "")) (.base (.str x)) (by rcases hn with rfl | rfl | rfl | rfl <;> exact kit_ty (by decide +kernel)) (by rcases hn with rfl | rfl | rfl | rfl <;> rfl)
  | @tup a xs ts r al =>
    have ty : TyX K H (.ref a) (.type "tuple") := by
      rcases r with r | ⟨o, r⟩
      · exact .base (.tup r)
      · exact .fTuple r
    exact mk _ (isT n (.tup [])) ty (by rcases hn with rfl | rfl | rfl | rfl <;> exact kit_ty (by decide +kernel)) (by rcases hn with rfl | rfl | rfl | rfl <;> rfl)
  | @oth a ne o =>
    rcases o with ⟨xs, o⟩ | ⟨kvs, o⟩ | ⟨dx, fs, o⟩
    · exact mk _ (isT n .oth) (.base (.lst o)) (by rcases hn with rfl | rfl | rfl | rfl <;> exact kit_ty (by decide +kernel)) rfl
    · exact mk _ (isT n .oth) (.base (.dK o)) (by rcases hn with rfl | rfl | rfl | rfl <;> exact kit_ty (by decide +kernel)) rfl
    · refine mk _ (isT n .oth) (.base (.ins o I.ic.cl I.ic.ha I.ic.hn I.ic.htk I.ic.hm)) ?_ rfl
      rcases hn with rfl | rfl | rfl | rfl
      · exact I.int
      · exact I.bool
      · exact I.str
      · exact I.tuple
/-! ### t >= u, tuples of ints -/
def rGeT (K : PySem.W.Frag) : R2 := fun x y H Q => ∃ (a b : Addr) (ns ms : List Int), x = .ref a ∧ y = .ref b ∧ SqT K H a (ns.map V.int) ∧ SqT K H b (ms.map V.int) ∧
  Q (.bl (Ob.lexAt (fun j => decide (ns.getD j 0 = ms.getD j 0)) (fun j => decide (ms.getD j 0 ≤ ns.getD j 0)) (decide (ns.length ≥ ms.length)) 0 (min ns.length ms.length))) H
theorem op_geT {X : Cx} (hu : X.A.units < cLine) : OpR X (compareOp .GtE) (rGeT X.K) := by
  intro pins s σ H x y v u Q I rx ry h
  obtain ⟨a, b, ns, ms, rfl, rfl, ha, hb, q⟩ := h
  cases rx
  cases ry
  obtain ⟨its, r1, p1, _⟩ := I.tuple ha
  obtain ⟨its2, r2, p2, _⟩ := I.tuple hb
  have i1 : IntsAre its ns := Vals.ints r1
  have i2 : IntsAre its2 ms := Vals.ints r2
  have e1 : its.toArray.size = ns.length := by rw [List.size_toArray]; exact i1.length
  have e2 : its2.toArray.size = ms.length := by rw [List.size_toArray]; exact i2.length
  have at1 : ∀ j (h1 : j < its.toArray.size), ∃ t, its.toArray[j] = .int (ns.getD j 0) t := fun j h1 => PyProof.Rows.IntsAre.int_at i1 _ _ (by simp at h1; simp [h1])
  have at2 : ∀ j (h1 : j < its2.toArray.size), ∃ t, its2.toArray[j] = .int (ms.getD j 0) t := fun j h1 => PyProof.Rows.IntsAre.int_at i2 _ _ (by simp at h1; simp [h1])
  have R := Ob.RcOp.tuples_ge (A := X.A) (s := s) (e := fun j => decide (ns.getD j 0 = ms.getD j 0)) (r := fun j => decide (ms.getD j 0 ≤ ns.getD j 0)) p1 p2 hu (fun j h1 h2 => by
    obtain ⟨t, et⟩ := at1 j h1
    obtain ⟨t', et'⟩ := at2 j h2
    rw [et, et']
    have z : (ns.getD j 0 == ms.getD j 0) = decide (ns.getD j 0 = ms.getD j 0) := by
      by_cases q : ns.getD j 0 = ms.getD j 0
      · rw [decide_eq_true q]; exact beq_iff_eq.mpr q
      · rw [decide_eq_false q]; exact beq_eq_false_iff_ne.mpr q
    rw [← z]
    exact SeqAt.EqAt.int_int _ _ _ _) (fun j h1 h2 _ => by
    obtain ⟨t, et⟩ := at1 j h1
    obtain ⟨t', et'⟩ := at2 j h2
    rw [et, et']
    exact Ob.RcOp.ge_int _ _ _ _)
  rw [e1, e2] at R
  exact R X.prog X.w X.xe _ ⟨.bl _, H, I, rfl, q⟩
/-! ### tuples told by what they hold -/
def rCatR : R2 := fun x y H Q => ∃ a b xs ys, x = .ref a ∧ y = .ref b ∧ Rd H a (.tup xs) ∧ Rd H b (.tup ys) ∧ xs.length + ys.length ≤ 100000 ∧ ∀ p H2, (∀ o, G o H H2) → Rd H2 p (.tup (xs ++ ys)) → Q (.ref p) H2
theorem op_catR {X : Cx} : OpR X (binaryOp .Add) rCatR := OpR.weak op_catA fun x y H Q h => by
  obtain ⟨a, b, xs, ys, e1, e2, h1, h2, hz, q⟩ := h
  refine ⟨a, b, xs, ys, e1, e2, .inl h1, .inl h2, sz hz, fun e => ?_, fun _ e => ?_, fun _ _ p hp => ?_⟩
  · subst e; exact q b H (fun _ => G.refl) h2
  · subst e; exact q a H (fun _ => G.refl) (by rw [List.append_nil]; exact h1)
  · exact q p _ (fun _ => G.alloc hp) (.inl upd_same)
def rSlR : V → Option Int → Option Int → Hp → VK → Prop := fun x lo hi H Q => ∃ a xs, x = .ref a ∧ Rd H a (.tup xs) ∧ ∀ p H2, (∀ o, G o H H2) → Rd H2 p (.tup (cutV xs lo hi)) → Q (.ref p) H2
theorem sl_tupR {X : Cx} : SlR X rSlR := SlR.weak sl_tupA fun x lo hi H Q ⟨a, xs, e, h, q⟩ => ⟨a, xs, e, .inl h, fun w => q a H (fun _ => G.refl) (by
    have c : cutV xs lo hi = xs := by
      unfold cutV
      rw [w.1, w.2, List.drop_zero, Nat.sub_zero, List.take_length]
    rw [c]; exact h), fun _ p hp => q p _ (fun _ => G.alloc hp) (.inl upd_same)⟩
end GA
/-! ## GO -/
namespace GA
open PySem PySem.Spec PyProof.Rows L2
/-! ### what the head tells of a class -/
theorem kit_mro {K : PySem.W.Frag} {C : Addr} {n : String} {b : Bool} (h : PySem.W.mroIn K C (.type n) = some b) (hm : PySem.W.kitMeta n = true) : PySem.W.kitOne K (.ref C) (.type n) = some b := by
  unfold PySem.W.kitOne
  have e : ((Value.ref C : Value) == .type n) = false := rfl
  rw [e, if_neg Bool.false_ne_true]
  show (if PySem.W.kitMeta n = true then PySem.W.subIn K (.ref C) (.type n) else none) = some b
  rw [if_pos hm]
  exact h
theorem InsK.of {K : PySem.W.Frag} {C : Addr} (ic : C8.InsC K C) (hi : PySem.W.mroIn K C (.type "int") = some false) (hb : PySem.W.mroIn K C (.type "bool") = some false) (ht : PySem.W.mroIn K C (.type "tuple") = some false) (hs : PySem.W.mroIn K C (.type "str") = some false) : InsK K C :=
  ⟨ic, kit_mro hi (by decide +kernel), kit_mro hb (by decide +kernel), kit_mro ht (by decide +kernel), kit_mro hs (by decide +kernel)⟩
theorem cls_some {K : PySem.W.Frag} {C : Addr} {b : Value} {r : Bool} (h : PySem.W.mroIn K C b = some r) : (PySem.W.clsIn K C).isSome = true := by
  unfold PySem.W.mroIn at h
  cases e : PySem.W.clsIn K C with
  | none => rw [e] at h; cases h
  | some _ => rfl
theorem kit_own {K : PySem.W.Frag} {C : Addr} {T : String} {l : List Value} (hc : (PySem.W.clsIn K C).isSome = true) (hty : PySem.W.typeIn K (.ref C) = some (.type "type")) (hf : fastBuiltinMro T = some l) (hl : l.contains (.ref C) = false) : PySem.W.kitOne K (.type T) (.ref C) = some false := by
  unfold PySem.W.kitOne
  have e : ((Value.type T : Value) == .ref C) = false := rfl
  rw [e, if_neg Bool.false_ne_true]
  show (if ((PySem.W.clsIn K C).isSome && PySem.W.typeIn K (.ref C) == some (.type "type")) = true then PySem.W.subIn K (.type T) (.ref C) else none) = some false
  have z : (PySem.W.typeIn K (.ref C) == some (.type "type")) = true := by rw [hty]; exact beq_self_eq_true _
  rw [hc, z, Bool.and_self, if_pos rfl]
  show (fastBuiltinMro T).map (·.contains (.ref C)) = some false
  rw [hf, Option.map_some, hl]
theorem not_first {K : PySem.W.Frag} {C : Addr} {T : String} {l : List Value} (hf : fastBuiltinMro T = some l) (hl : l.contains (.ref C) = false) : PySem.W.notFirst K C (.type T) = true := by
  unfold PySem.W.notFirst
  have e : PySem.W.subIn K (.type T) (.ref C) = some false := by
    show (fastBuiltinMro T).map (·.contains (.ref C)) = some false
    rw [hf, Option.map_some, hl]
  rw [e]; exact Bool.or_true _
theorem fb_tuple : fastBuiltinMro "tuple" = some [.type "tuple", .type "object"] := by decide +kernel
theorem fb_int : fastBuiltinMro "int" = some [.type "int", .type "object"] := by decide +kernel
/-! ### x == y by x's own == -/
section
variable {X : Cx} {n : Nat} {CX : CXT} {C f : Addr} {fd : FuncData} {ps : List Str} {sp : Sp} {E : XK}
theorem rc_own (F : FnOk X.prog X.w X.K X.mg X.base CX n f fd ps sp) (hs : PySem.W.findIn X.K (.ref C) "__eq__" = some (some (.ref f))) (hf : PySem.W.isFn X.K (.ref f) = true) (hb : Binds X.K fd ps []) (hx : Passes CX X E)
    {A : Around} {pins : List (Addr × Obj)} {s : Shared} {σ : L2.St} {H : Hp} {a dx : Addr} {fs : List (Str × V)} {y : V} {v t : Value} {Q : Bool → Hp → Prop}
    (sb : Sub X n A) (I : Inv X pins σ H s) (ha : H a = some (.ins C dx fs)) (ry : RelV y v) (ty : TyX X.K H y t) (nf : PySem.W.notFirst X.K C t = true) (hsp : sp [.ref a, y] H (fun z H' => ∃ b, z = .bl b ∧ Q b H') E) :
    wpAny (model X.prog X.w) A (richCompare .Eq (.ref a) v) (fun r s' => ∃ b H', r = .bool b ∧ Inv X pins σ H' s' ∧ Q b H') X.xe s := by
  obtain ⟨mA, J, _⟩ := ins_get I.hok ha
  obtain ⟨od, J, _⟩ := J.look
  obtain ⟨P, Z, p, _⟩ := kit_of I ry ty
  obtain ⟨m, hF⟩ := I.fr
  refine PySem.W.cmp_K (op := .Eq) (tb := t) sb.room.units0 hF I.ok.mod.kin J (Z.ty _ _ I.kIn p) nf hs hf ?_
  have e0 : Env0 X.prog X.w X.K X.mg X.base A X.stack s H := by
    have e := I.env0
    exact ⟨by rw [sb.fr]; exact e.frames, e.mod, e.bs, e.bsz, e.funs, e.frf, e.hok, e.bare⟩
  have hl := F.len _ _ _ _ hsp
  have r2 : Vals [V.ref a, y] [Value.ref a, v] := .cons rfl (.cons ry .nil)
  refine wpAny_call (codeAny_mono (F.run A X.stack s H ⟨[.ref a, v], []⟩ [.ref a, v] [.ref a, y] _ E sb.room e0 (by
    have := hb s [.ref a, v] I.kIn (by simpa using hl)
    simpa using this) r2 hsp) fun r s' hq => ?_)
  cases r with
  | error e => exact hx pins σ H s e s' I hq
  | ok fl =>
    cases fl with
    | ret w =>
      obtain ⟨z, H', I', rz, b, ez, q⟩ := I.after hq
      subst ez
      cases rz
      exact ⟨b, H', rfl, I', q⟩
    | next => exact False.elim hq
    | brk => exact False.elim hq
    | cont => exact False.elim hq
/-- x == y, x an instance of the class at C -/
def rEqI (K : PySem.W.Frag) (C : Addr) (sp : Sp) (E : XK) : R2 := fun x y H Q => ∃ a dx fs t, x = .ref a ∧ H a = some (.ins C dx fs) ∧ TyX K H y t ∧ PySem.W.notFirst K C t = true ∧ sp [.ref a, y] H (fun z H' => ∃ b, z = .bl b ∧ Q (.bl b) H') E
theorem op_eqI (F : FnOk X.prog X.w X.K X.mg X.base CX n f fd ps sp) (hs : PySem.W.findIn X.K (.ref C) "__eq__" = some (some (.ref f))) (hf : PySem.W.isFn X.K (.ref f) = true) (hb : Binds X.K fd ps []) (hx : Passes CX X E) (hr : Room n X.A) : OpR X (compareOp .Eq) (rEqI X.K C sp E) := by
  intro pins s σ H x y u v Q I rx ry h
  obtain ⟨a, dx, fs, t, rfl, ha, ty, nf, hsp⟩ := h
  cases rx
  show wpAny (model X.prog X.w) X.A (richCompare .Eq (.ref a) v) (EP X pins σ Q) X.xe s
  refine wpAny_mono (rc_own F hs hf hb hx (Q := fun b H' => Q (.bl b) H') ⟨hr, rfl⟩ I ha ry ty nf hsp) (fun r s' z => ?_) fun _ _ x => x
  obtain ⟨b, H', rfl, I', q⟩ := z
  exact ⟨.bl b, H', I', rfl, q⟩
/-! ### any thing == data of ints and tuples -/
mutual
def eqT : Tg → Tg → Bool
  | .tup ts, .tup us => eqTs ts us
  | .int i, .int j => decide (i = j)
  | .bl b, .int j => decide ((if b then 1 else 0) = j)
  | _, _ => false
def eqTs : List Tg → List Tg → Bool
  | [], [] => true
  | t :: ts, u :: us => eqT t u && eqTs ts us
  | _, _ => false
end
/-- what only ints and tuples make up -/
inductive Pl : Nat → Tg → Prop
  | int {d : Nat} (i : Int) : Pl d (.int i)
  | tup {d : Nat} {us : List Tg} : (∀ u ∈ us, Pl d u) → Pl (d + 1) (.tup us)
mutual
theorem eqT_self : ∀ (d : Nat) (t : Tg), Pl d t → eqT t t = true
  | _, .int i, _ => by simp [eqT]
  | _, .tup ts, .tup h => by rw [eqT]; exact eqTs_self _ ts h
theorem eqTs_self : ∀ (d : Nat) (ts : List Tg), (∀ u ∈ ts, Pl d u) → eqTs ts ts = true
  | _, [], _ => rfl
  | d, t :: ts, h => by rw [eqTs, eqT_self d t (h t List.mem_cons_self), eqTs_self d ts fun u hu => h u (List.mem_cons_of_mem _ hu)]; rfl
end
theorem eqTs_all : ∀ (ts us : List Tg), eqTs ts us = ((List.range (min ts.length us.length)).all (fun i => eqT (ts.getD i .non) (us.getD i .non)) && ts.length == us.length)
  | [], [] => rfl
  | [], _ :: _ => by simp [eqTs]
  | _ :: _, [] => by simp [eqTs]
  | t :: ts, u :: us => by
    rw [eqTs, eqTs_all ts us]
    simp only [List.length_cons, Nat.succ_min_succ, List.range_succ_eq_map, List.all_cons, List.getD_cons_zero, List.all_map]
    have e : (ts.length + 1 == us.length + 1) = (ts.length == us.length) := by
      by_cases h : ts.length = us.length
      · rw [h]; simp
      · have h' : ¬ ts.length + 1 = us.length + 1 := by omega
        rw [beq_eq_false_iff_ne.mpr h, beq_eq_false_iff_ne.mpr h']
    rw [e, Bool.and_assoc]
    congr 2
/-- what an instance's own == says of what is none of its class -/
def spNe (C : Addr) : Sp := fun vs H Q _ => ∃ a y, vs = [.ref a, y] ∧ (∃ dx fs, H a = some (.ins C dx fs)) ∧ ((∃ j, y = .int j) ∨ ∃ b ys, y = .ref b ∧ Rd H b (.tup ys)) ∧ ∀ H', G none H H' → Q (.bl false) H'
def EqB (X : Cx) (n : Nat) (D : V → V → Bool → Hp → Prop) : Prop :=
  ∀ (A : Around) (pins : List (Addr × Obj)) (s : Shared) (σ : L2.St) (H : Hp) (x y : V) (u v : Value) (b : Bool), Sub X n A → Inv X pins σ H s → RelV x u → RelV y v → D x y b H →
    wpAny (model X.prog X.w) A (eqBool u v) (fun r s' => r = b ∧ ∃ H', Inv X pins σ H' s' ∧ G none H H') X.xe s
def DAb (C hd : Addr) (d : Nat) : V → V → Bool → Hp → Prop := fun x y b H => ∃ t u, Ab C hd H x t ∧ Ab C hd H y u ∧ Pl d u ∧ b = eqT t u
theorem rd_ty {K : PySem.W.Frag} {H : Hp} {b : Addr} {ys : List V} (r : Rd H b (.tup ys)) : TyX K H (.ref b) (.type "tuple") := by
  rcases r with r | ⟨o, r⟩
  · exact .base (.tup r)
  · exact .fTuple r
end
end GA
/-! ## GP -/
/-! a dict == an int, a tuple -/
namespace GQD
open PySem PySem.SeqAt
open AutoSeq1 (wpAny_loadPart')
open MeetsSeq
theorem dict_eq_declines_int (l : Addr) (es : Array DictEntry) (ep : Nat) (dd : Option Addr) (sl : Array (Option Value)) (b : Int) (u : Tok) :
    Meets (Builtin.«dict.__eq__» ⟨[.ref l, .int b u], []⟩) (fun _ R s => s.heap.get? l = some { cls := .type "dict", dict := dd, data := .dict es ep, slots := sl } ∧ R (.ok (.ret .notImplemented)) s) :=
  .of_wp fun prog w A R s h => by obtain ⟨hp, g, d, tk, os⟩ := s; obtain ⟨hl, h⟩ := h; have f1 := F.sub_int_dict; wp_walk using wpAny_loadPart' hl; exact ⟨_, rfl, h⟩
theorem int_eq_declines_dict (b : Int) (u : Tok) (l : Addr) (es : Array DictEntry) (ep : Nat) (dd : Option Addr) (sl : Array (Option Value)) :
    Meets (Builtin.«int.__eq__» ⟨[.int b u, .ref l], []⟩) (fun _ R s => s.heap.get? l = some { cls := .type "dict", dict := dd, data := .dict es ep, slots := sl } ∧ R (.ok (.ret .notImplemented)) s) :=
  .of_wp fun prog w A R s h => by obtain ⟨hp, g, d, tk, os⟩ := s; obtain ⟨hl, h⟩ := h; wp_walk using wpAny_loadPart' hl, wpAny_load hl; exact ⟨_, rfl, h⟩
theorem dict_eq_declines_tuple (l b : Addr) (es : Array DictEntry) (ep : Nat) (items2 : Array Value) (n2 : Nat) (dd dd2 : Option Addr) (sl sl2 : Array (Option Value)) :
    Meets (Builtin.«dict.__eq__» ⟨[.ref l, .ref b], []⟩) (fun _ R s => s.heap.get? l = some { cls := .type "dict", dict := dd, data := .dict es ep, slots := sl } ∧ s.heap.get? b = some { cls := .type "tuple", dict := dd2, data := .seq items2 n2, slots := sl2 } ∧ R (.ok (.ret .notImplemented)) s) :=
  .of_wp fun prog w A R s h => by obtain ⟨hp, g, d, tk, os⟩ := s; obtain ⟨hl, hb, h⟩ := h; have f1 := F.sub_tuple_dict; wp_walk using wpAny_loadPart' hl, wpAny_loadPart' hb; exact ⟨_, rfl, h⟩
theorem tuple_eq_declines_dict (l b : Addr) (es : Array DictEntry) (ep : Nat) (items : Array Value) (n : Nat) (dd dd2 : Option Addr) (sl sl2 : Array (Option Value)) :
    Meets (Builtin.«tuple.__eq__» ⟨[.ref l, .ref b], []⟩) (fun _ R s => s.heap.get? l = some { cls := .type "tuple", dict := dd, data := .seq items n, slots := sl } ∧ s.heap.get? b = some { cls := .type "dict", dict := dd2, data := .dict es ep, slots := sl2 } ∧ R (.ok (.ret .notImplemented)) s) :=
  .of_wp fun prog w A R s h => by obtain ⟨hp, g, d, tk, os⟩ := s; obtain ⟨hl, hb, h⟩ := h; have f1 := F.sub_dict_tuple; wp_walk using wpAny_loadPart' hl, wpAny_loadPart' hb; exact ⟨_, rfl, h⟩
section
variable {A : Around} {s : Shared} {l b : Addr} {es : Array DictEntry} {ep : Nat} {dd : Option Addr} {sl : Array (Option Value)} {items2 : Array Value}
theorem RcAt.dict_int (i : Int) (u : Tok) (ho : s.heap.get? l = some { cls := .type "dict", dict := dd, data := .dict es ep, slots := sl }) (hu : A.units < cLine) : RcAt A s (.ref l) (.int i u) false := fun prog w E Q h =>
  rc_eq_decline_or (k := false) ⟨_, ho, rfl⟩ (typeIs_int s i u) (by decide) F.sub_int_dict F.slot_dict_eq F.slot_int_eq_refl
    (fun _ hq => call_meets F.slot_dict_eq ⟨_, ho, rfl⟩ F.entry_dict_eq (F.args_dict_eq_2 _ _) (dict_eq_declines_int l es ep dd sl i u) ⟨ho, hq⟩)
    (fun _ hq => call_meets F.slot_int_eq_refl (typeIs_int s i u) F.entry_int_eq (F.args_int_eq_2 _ _) (int_eq_declines_dict i u l es ep dd sl) ⟨ho, hq⟩)
    (fun _ hq => wpAny_of_eq (rfl : isSame (.ref l) (.int i u) = pure false) hq) (.inr hu) h
theorem EqAt.dict_int (i : Int) (u : Tok) (ho : s.heap.get? l = some { cls := .type "dict", dict := dd, data := .dict es ep, slots := sl }) (hu : A.units < cLine) : EqAt A s (.ref l) (.int i u) false := fun prog w E Q h => by
  unfold eqBool
  refine wpAny_holding ?_
  refine wpAny_ite_split (fun hab => absurd (eq_of_beq hab) nofun) (fun _ => ?_)
  exact wpAny_bind (RcAt.dict_int i u ho hu prog w E _ (wpAny_truthy_bool h))
theorem RcAt.dict_tuple (ho : s.heap.get? l = some { cls := .type "dict", dict := dd, data := .dict es ep, slots := sl }) (hb : s.heap.IsTuple b items2) (hu : A.units < cLine) : RcAt A s (.ref l) (.ref b) false := fun prog w E Q h => by
  have hne : l ≠ b := fun e => by
    obtain ⟨o, h1, h2, _⟩ := hb
    rw [← e, ho] at h1
    cases h1
    exact absurd h2 (by simp)
  obtain ⟨⟨cls2, dd2, data2, sl2⟩, ho2, hc2, n2, hd2⟩ := id hb
  simp only at hc2 hd2
  subst hc2 hd2
  exact (rc_eq_decline_or (k := false) ⟨_, ho, rfl⟩ ⟨_, ho2, rfl⟩ (by decide) F.sub_tuple_dict F.slot_dict_eq F.slot_tuple_eq_refl
    (fun _ hq => call_meets F.slot_dict_eq ⟨_, ho, rfl⟩ F.entry_dict_eq (F.args_dict_eq_2 _ _) (dict_eq_declines_tuple l b es ep items2 n2 dd dd2 sl sl2) ⟨ho, ho2, hq⟩)
    (fun _ hq => call_meets F.slot_tuple_eq_refl ⟨_, ho2, rfl⟩ F.entry_tuple_eq (F.args_tuple_eq_2 _ _) (tuple_eq_declines_dict b l es ep items2 n2 dd2 dd sl2 sl) ⟨ho2, ho, hq⟩)
    (fun _ hq => wpAny_isSame_ref_other hne ho ho2 (by simp) hq) (.inr hu) h)
end
end GQD
namespace GA
open PySem PySem.Spec PyProof.Rows L2
section
variable {X : Cx} {n : Nat} {CX : CXT} {C f hd : Addr} {fd : FuncData} {ps : List Str} {sp : Sp} {E : XK}
theorem eqBool_int {prog : Program} {w : World} {A : Around} {a : Addr} {j : Int} {t : Tok} {Q : Bool → Shared → Prop} {E : Value → Shared → Prop} {s : Shared} (h : wpAny (model prog w) A (richCompare .Eq (.ref a) (.int j t)) (fun v s' => ∃ r, v = .bool r ∧ Q r s') E s) : wpAny (model prog w) A (eqBool (.ref a) (.int j t)) Q E s := by
  unfold eqBool
  refine wpAny_holding ?_
  refine wpAny_ite_split (fun hab => absurd (eq_of_beq hab) nofun) (fun _ => ?_)
  refine wpAny_bind (wpAny_mono h (fun v s' hv => ?_) fun _ _ x => x)
  obtain ⟨r, rfl, q⟩ := hv
  exact wpAny_truthy_bool q
theorem dk_obj {P : Program} {w : World} {H : Hp} {h : Heap} {a : Addr} {kvs : List (L2.Key × V)} (hok : HOk P w H h) (e : H a = some (.dK kvs)) : ∃ es ep dd sl, h.get? a = some { cls := .type "dict", dict := dd, data := .dict es ep, slots := sl } := by
  obtain ⟨_, _, vs, _, o, es, ep, h1, h2, h3, _⟩ := (show ObjOk P w H h a (.dK kvs) from hok a _ e)
  obtain ⟨c, d, dt, s⟩ := o
  have hc := h2.1
  simp only at hc h3
  subst hc h3
  exact ⟨es, ep, d, s, h1⟩
/-- what must be known of the own == -/
structure OwnEq (X : Cx) (n : Nat) (CX : CXT) (C f : Addr) (fd : FuncData) (ps : List Str) (sp : Sp) (E : XK) : Prop where
  F : FnOk X.prog X.w X.K X.mg X.base CX n f fd ps sp
  hs : PySem.W.findIn X.K (.ref C) "__eq__" = some (some (.ref f))
  hf : PySem.W.isFn X.K (.ref f) = true
  hb : Binds X.K fd ps []
  hx : Passes CX X E
  ne : ∀ vs H Q E', spNe C vs H Q E' → sp vs H Q E'
theorem nf_int {K : PySem.W.Frag} {C : Addr} : PySem.W.notFirst K C (.type "int") = true := not_first fb_int rfl
theorem nf_tuple {K : PySem.W.Frag} {C : Addr} : PySem.W.notFirst K C (.type "tuple") = true := not_first fb_tuple rfl
theorem rc_own_ne (O : OwnEq X n CX C f fd ps sp E) {A : Around} {pins : List (Addr × Obj)} {s : Shared} {σ : L2.St} {H : Hp} {a : Addr} {y : V} {v : Value} (sb : Sub X n A) (I : Inv X pins σ H s) (ha : ∃ dx fs, H a = some (.ins C dx fs)) (ry : RelV y v)
    (hy : (∃ j, y = .int j) ∨ ∃ b ys, y = .ref b ∧ Rd H b (.tup ys)) : wpAny (model X.prog X.w) A (richCompare .Eq (.ref a) v) (fun r s' => ∃ H', r = .bool false ∧ Inv X pins σ H' s' ∧ G none H H') X.xe s := by
  obtain ⟨dx, fs, ha⟩ := ha
  have hsp : sp [.ref a, y] H (fun z H' => ∃ b, z = .bl b ∧ (b = false ∧ G none H H')) E := O.ne _ _ _ _ ⟨a, y, rfl, ⟨dx, fs, ha⟩, hy, fun H' g => ⟨false, rfl, rfl, g⟩⟩
  have go : ∀ t, TyX X.K H y t → PySem.W.notFirst X.K C t = true → wpAny (model X.prog X.w) A (richCompare .Eq (.ref a) v) (fun r s' => ∃ H', r = .bool false ∧ Inv X pins σ H' s' ∧ G none H H') X.xe s := fun t ty nf =>
    wpAny_mono (rc_own O.F O.hs O.hf O.hb O.hx (Q := fun b H' => b = false ∧ G none H H') sb I ha ry ty nf hsp) (fun r s' ⟨b, H', e, I', eb, g⟩ => ⟨H', by rw [e, eb], I', g⟩) fun _ _ x => x
  rcases hy with ⟨j, rfl⟩ | ⟨b, ys, rfl, r⟩
  · exact go _ (.base (.int j)) nf_int
  · exact go _ (rd_ty r) nf_tuple
theorem eqB_ab (O : OwnEq X n CX C f fd ps sp E) : ∀ d, EqB X (n + d + 1) (DAb C hd d)
  | d => by
    intro A pins s σ H x y u v b sb I rx ry h
    obtain ⟨t, g, hx, hy, pl, rfl⟩ := h
    have pure_ : ∀ {r : Bool}, SeqAt.EqAt A s u v r → wpAny (model X.prog X.w) A (eqBool u v) (fun r' s' => r' = r ∧ ∃ H', Inv X pins σ H' s' ∧ G none H H') X.xe s := fun q => q X.prog X.w X.xe _ ⟨rfl, H, I, G.refl⟩
    have hu := sb.room.units0
    have sbn : Sub X n A := sb.mono (by omega)
    cases pl with
    | int j =>
      cases hy
      obtain ⟨tk, rfl⟩ := (show ∃ tk, v = Value.int j tk from ry)
      cases hx with
      | non => cases (show u = Value.none from rx); exact pure_ (SeqAt.EqAt.none_int j tk)
      | bl c =>
        cases (show u = Value.bool c from rx)
        have e : eqT (.bl c) (.int j) = ((if c then 1 else 0) == j) := by cases c <;> simp [eqT, Bool.beq_eq_decide_eq] <;> rfl
        rw [e]
        exact pure_ (SeqAt.EqAt.bool_int c j tk)
      | int i =>
        obtain ⟨tk2, rfl⟩ := (show ∃ tk, u = Value.int i tk from rx)
        have e : eqT (.int i) (.int j) = (i == j) := by
          rw [eqT]
          by_cases q : i = j
          · rw [decide_eq_true q]; exact (beq_iff_eq.mpr q).symm
          · rw [decide_eq_false q]; exact (beq_eq_false_iff_ne.mpr q).symm
        rw [e]
        exact pure_ (SeqAt.EqAt.int_int i tk2 j tk)
      | str x => obtain ⟨tk2, rfl⟩ := (show ∃ tk, u = Value.str x tk from rx); exact pure_ (SeqAt.EqAt.str_int x tk2 j tk)
      | @tup a xs ts r al =>
        cases (show u = Value.ref a from rx)
        obtain ⟨its, rv, p, _⟩ := I.tuple (.inl r)
        exact pure_ (SeqAt.EqAt.tuple_int j tk p hu)
      | @oth a ne o =>
        cases (show u = Value.ref a from rx)
        rcases o with ⟨xs, o⟩ | ⟨kvs, o⟩ | o
        · obtain ⟨its, rv, p, _⟩ := I.list (.inl (.inl o))
          exact pure_ (SeqAt.EqAt.list_int j tk p.isList hu)
        · obtain ⟨es, ep, dd, sl, e⟩ := dk_obj I.hok o
          exact pure_ (GQD.EqAt.dict_int j tk e hu)
        · refine eqBool_int (wpAny_mono (rc_own_ne O sbn I o ry (.inl ⟨j, rfl⟩)) (fun r s' ⟨H', e, I', g⟩ => ⟨false, e, rfl, H', I', g⟩) fun _ _ x => x)
    | @tup d' us hpl =>
      cases hy with
      | @tup b ys _ r2 al2 =>
        cases (show v = Value.ref b from ry)
        obtain ⟨its2, rv2, p2, _⟩ := I.tuple (.inl r2)
        cases hx with
        | non => cases (show u = Value.none from rx); exact pure_ (SeqAt.EqAt.none_tuple p2 hu)
        | bl c => cases (show u = Value.bool c from rx); exact pure_ (SeqAt.EqAt.bool_tuple c p2 hu)
        | int i => obtain ⟨tk2, rfl⟩ := (show ∃ tk, u = Value.int i tk from rx); exact pure_ (SeqAt.EqAt.int_tuple i tk2 p2 hu)
        | str x => obtain ⟨tk2, rfl⟩ := (show ∃ tk, u = Value.str x tk from rx); exact pure_ (SeqAt.EqAt.str_tuple x tk2 p2 hu)
        | @oth a ne o =>
          cases (show u = Value.ref a from rx)
          have hne : a ≠ b := fun e => rd_oth r2 (e ▸ o)
          rcases o with ⟨xs, o⟩ | ⟨kvs, o⟩ | o
          · obtain ⟨its, rv, p, _⟩ := I.list (.inl (.inl o))
            exact pure_ (SeqAt.EqAt.list_tuple p.isList p2 hu)
          · obtain ⟨es, ep, dd, sl, e⟩ := dk_obj I.hok o
            exact pure_ (SeqAt.EqAt.of_refs hne (GQD.RcAt.dict_tuple e p2 hu))
          · exact GQ.eqBool_refG hne (wpAny_mono (rc_own_ne O sbn I o ry (.inr ⟨b, ys, rfl, r2⟩)) (fun r s' ⟨H', e, I', g⟩ => ⟨false, e, rfl, H', I', g⟩) fun _ _ x => x)
        | @tup a xs ts r al =>
          cases (show u = Value.ref a from rx)
          obtain ⟨its, rv, p, _⟩ := I.tuple (.inl r)
          by_cases hab : a = b
          · subst hab
            obtain rfl := rd_one r r2
            obtain rfl := AbAll.one _ _ _ al al2
            rw [eqT_self (d' + 1) (.tup ts) (.tup hpl)]
            exact pure_ (SeqAt.EqAt.same _)
          · have l1 : its.toArray.size = ts.length := by rw [List.size_toArray, ← rv.length, al.length]
            have l2 : its2.toArray.size = us.length := by rw [List.size_toArray, ← rv2.length, al2.length]
            refine GQ.eqBool_refG hab (GQB.rc_tupB hu (fun i => eqT (ts.getD i .non) (us.getD i .non)) (fun s' => ∃ H', Inv X pins σ H' s' ∧ G none H H') p p2 (fun i h1 h2 s' ⟨H', I', g⟩ => ?_) (fun s' ⟨H', I', g⟩ => ⟨_, rfl, ?_, H', I', g⟩) ⟨H, I, G.refl⟩)
            · have h1' : i < its.length := by simpa using h1
              have h2' : i < its2.length := by simpa using h2
              have k1 : i < xs.length := by rw [rv.length]; exact h1'
              have k2 : i < ys.length := by rw [rv2.length]; exact h2'
              obtain ⟨u', hu', ru⟩ := rv.get (List.getElem?_eq_getElem k1)
              obtain ⟨v', hv', rw'⟩ := rv2.get (List.getElem?_eq_getElem k2)
              obtain ⟨t', ht', at_⟩ := al.get (List.getElem?_eq_getElem k1)
              obtain ⟨g', hg', ag⟩ := al2.get (List.getElem?_eq_getElem k2)
              rw [List.getElem?_eq_getElem h1'] at hu'
              rw [List.getElem?_eq_getElem h2'] at hv'
              have e1 : its.toArray[i] = u' := by simpa using Option.some.inj hu'
              have e2 : its2.toArray[i] = v' := by simpa using Option.some.inj hv'
              have e3 : ts.getD i .non = t' := by rw [List.getD_eq_getElem?_getD, ht']; rfl
              have e4 : us.getD i .non = g' := by rw [List.getD_eq_getElem?_getD, hg']; rfl
              rw [e1, e2, e3, e4]
              refine wpAny_mono (eqB_ab O d' A.in1 pins s' σ H' _ _ u' v' _ (sb.in1.mono (by omega)) I' ru rw' ⟨t', g', at_.n g, ag.n g, hpl g' (List.mem_of_getElem? hg'), rfl⟩) (fun r s2 ⟨e, H2, I2, g2⟩ => ⟨e, H2, I2, g.trans g2⟩) fun _ _ x => x
            · rw [l1, l2, eqT, eqTs_all]
end
end GA
/-! ## GQ1 -/
namespace GA
open PySem PySem.Spec PyProof.Rows L2
section
variable {X : Cx} {n : Nat} {CX : CXT} {C f hd : Addr} {fd : FuncData} {ps : List Str} {sp : Sp} {E : XK}
/-- any thing == a tuple of ints and tuples -/
def rEqAb (C hd : Addr) (d : Nat) : R2 := fun x y H Q => ∃ t us, Ab C hd H x t ∧ Ab C hd H y (.tup us) ∧ (∀ u ∈ us, Pl d u) ∧ ∀ H', G none H H' → Q (.bl (eqT t (.tup us))) H'
theorem op_eqAb (O : OwnEq X n CX C f fd ps sp E) (d : Nat) (hr : Room (n + d + 2) X.A) : OpR X (compareOp .Eq) (rEqAb C hd d) := by
  intro pins s σ H x y u v Q I rx ry h
  obtain ⟨t, us, hx, hy, hpl, q⟩ := h
  have sb : Sub X (n + d + 2) X.A := ⟨hr, rfl⟩
  have sbn : Sub X n X.A := sb.mono (by omega)
  have hu := sb.room.units0
  have pure_ : ∀ {r : Bool}, SeqAt.RcAt X.A s u v r → r = eqT t (.tup us) → wpAny (model X.prog X.w) X.A (richCompare .Eq u v) (EP X pins σ Q) X.xe s := fun k e => k X.prog X.w X.xe _ ⟨.bl _, H, I, rfl, e ▸ q H G.refl⟩
  show wpAny (model X.prog X.w) X.A (richCompare .Eq u v) (EP X pins σ Q) X.xe s
  cases hy with
  | @tup b ys _ r2 al2 =>
    cases (show v = Value.ref b from ry)
    obtain ⟨its2, rv2, p2, _⟩ := I.tuple (.inl r2)
    cases hx with
    | non => cases (show u = Value.none from rx); exact pure_ (SeqAt.RcAt.none_tuple p2 hu) rfl
    | bl c => cases (show u = Value.bool c from rx); exact pure_ (SeqAt.RcAt.bool_tuple c p2 hu) rfl
    | int i => obtain ⟨tk2, rfl⟩ := (show ∃ tk, u = Value.int i tk from rx); exact pure_ (SeqAt.RcAt.int_tuple i tk2 p2 hu) rfl
    | str x => obtain ⟨tk2, rfl⟩ := (show ∃ tk, u = Value.str x tk from rx); exact pure_ (SeqAt.RcAt.str_tuple x tk2 p2 hu) rfl
    | @oth a ne o =>
      cases (show u = Value.ref a from rx)
      rcases o with ⟨xs, o⟩ | ⟨kvs, o⟩ | o
      · obtain ⟨its, rv, p, _⟩ := I.list (.inl (.inl o))
        exact pure_ (SeqAt.RcAt.list_tuple p.isList p2 hu) rfl
      · obtain ⟨es, ep, dd, sl, e⟩ := dk_obj I.hok o
        exact pure_ (GQD.RcAt.dict_tuple e p2 hu) rfl
      · exact wpAny_mono (rc_own_ne O sbn I o ry (.inr ⟨b, ys, rfl, r2⟩)) (fun r s' ⟨H', e, I', g⟩ => ⟨.bl false, H', I', e, q H' g⟩) fun _ _ x => x
    | @tup a xs ts r al =>
      cases (show u = Value.ref a from rx)
      obtain ⟨its, rv, p, _⟩ := I.tuple (.inl r)
      have l1 : its.toArray.size = ts.length := by rw [List.size_toArray, ← rv.length, al.length]
      have l2 : its2.toArray.size = us.length := by rw [List.size_toArray, ← rv2.length, al2.length]
      refine GQB.rc_tupB hu (fun i => eqT (ts.getD i .non) (us.getD i .non)) (fun s' => ∃ H', Inv X pins σ H' s' ∧ G none H H') p p2 (fun i h1 h2 s' ⟨H', I', g⟩ => ?_) (fun s' ⟨H', I', g⟩ => ⟨.bl (eqT (.tup ts) (.tup us)), H', I', ?_, q H' g⟩) ⟨H, I, G.refl⟩
      · have h1' : i < its.length := by simpa using h1
        have h2' : i < its2.length := by simpa using h2
        have k1 : i < xs.length := by rw [rv.length]; exact h1'
        have k2 : i < ys.length := by rw [rv2.length]; exact h2'
        obtain ⟨u', hu', ru⟩ := rv.get (List.getElem?_eq_getElem k1)
        obtain ⟨v', hv', rw'⟩ := rv2.get (List.getElem?_eq_getElem k2)
        obtain ⟨t', ht', at_⟩ := al.get (List.getElem?_eq_getElem k1)
        obtain ⟨g', hg', ag⟩ := al2.get (List.getElem?_eq_getElem k2)
        rw [List.getElem?_eq_getElem h1'] at hu'
        rw [List.getElem?_eq_getElem h2'] at hv'
        have e1 : its.toArray[i] = u' := by simpa using Option.some.inj hu'
        have e2 : its2.toArray[i] = v' := by simpa using Option.some.inj hv'
        have e3 : ts.getD i .non = t' := by rw [List.getD_eq_getElem?_getD, ht']; rfl
        have e4 : us.getD i .non = g' := by rw [List.getD_eq_getElem?_getD, hg']; rfl
        rw [e1, e2, e3, e4]
        exact wpAny_mono (eqB_ab O d X.A.in1 pins s' σ H' _ _ u' v' _ (sb.in1.mono (by omega)) I' ru rw' ⟨t', g', at_.n g, ag.n g, hpl g' (List.mem_of_getElem? hg'), rfl⟩) (fun r s2 ⟨e, H2, I2, g2⟩ => ⟨e, H2, I2, g.trans g2⟩) fun _ _ x => x
      · show Value.bool _ = Value.bool _
        rw [l1, l2, eqT, eqTs_all]
end
/-! ### exceptions -/
theorem passE0 {P : Program} {w : World} {X : Cx} : Passes (L2.CX P w) X E0 := fun _ _ _ _ _ _ _ h => by
  obtain ⟨_, _, _, _, _, _, _, _, _, _, _, _, z⟩ := h
  exact z.elim
/-- isinstance(e, c), e the exception that the suite holds, its own names in the dict d -/
def rIsX (K : PySem.W.Frag) (D a : Addr) (d : Option Addr) : List V → Hp → VK → Prop := fun xs H Q => ∃ (c : V) (u : Value) (b : Bool) (dd : Addr) (fs : List (Str × V)), xs = [.ref a, c] ∧ ClsV c u ∧ d = some dd ∧ H dd = some (.xd fs) ∧ PySem.W.kitOne K (.ref D) u = some b ∧ Q (.bl b) H
theorem call_isX {X : Cx} {a D : Addr} {oe : Obj} {d : Option Addr} {cls : Value} {pn : List (Addr × Obj)} (C : ExcC X.K D) (hz : Zc cls d oe) (hc : cls = .ref D) (hf : ∃ vs, oe.data = .fields vs) : CallR (X.suite a ((a, oe) :: pn)) (.builtin "isinstance") (rIsX X.K D a d) := by
  intro pins s σ H xs us Q I r h
  obtain ⟨c, u, b, dd, fs, rfl, hcv, ed, ea, e, q⟩ := h
  obtain ⟨u1, u2, rfl, r1, r2⟩ := vals2 r
  cases (show u1 = Value.ref a from r1)
  have e2 := hcv.eq r2
  subst e2
  subst hc
  subst ed
  obtain ⟨hget, _⟩ := I.pin (a, oe) (List.mem_append.mpr (.inl List.mem_cons_self))
  obtain ⟨vs, hv⟩ := hf
  have hx : ObjOk X.prog X.w H s.heap dd (.xd fs) := I.hok dd _ ea
  obtain ⟨mA, hns, hr⟩ := hx
  obtain ⟨od, ho, hl⟩ := lookIn_ns hns
  have J : PySem.W.InstAt s.heap a oe D (some od) := ⟨hget, hz.1, by unfold PySem.W.notCls; rw [hv] <;> rfl, by rw [hz.2]; exact ho⟩
  have hcl : (PySem.W.clsIn X.K D).isSome = true := cls_some C.hm
  exact PySem.W.kia_one (PySem.W.kitx_exc hcl C.hg C.hk C.hs C.ha C.hn C.ht C.hm) I.kIn J e (fun z => nomatch z) fun tk => ⟨.bl b, H, I.kept (t' := tk) fun _ _ z => z, rfl, q⟩
end GA
/-! ## GR -/
namespace GA
open PySem PySem.Spec PyProof.Rows L2
/-! ### an instance whose own __init__ may raise, called where the slots are known -/
section
variable {X : Cx} {CX : CXT} {k : Nat} {f C : Addr} {fd : FuncData} {ps : List Str} {sp : Sp}
theorem run_makeS {E : XK} {pins : List (Addr × Obj)} {σ : L2.St} {H : Hp} {s : Shared} {Q : VK} {us : List Value} {vs : List V}
    (M : Mk X.K C f) (F : FnOk X.prog X.w X.K X.mg X.base CX k f fd ps sp) (hr : Room (k + 1) X.A) (hb : Binds X.K fd ps []) (hp : PassesAt CX X σ E) (I : Inv X pins σ H s) (r : Vals vs us)
    (h : ∀ x dx, H x = none → H dx = none → dx ≠ x → sp (.ref x :: (vs ++ [])) (upd (upd H dx (.own x)) x (.ins C dx [])) (fun v H2 => v = .non ∧ Q (.ref x) H2) E) :
    wpAny (model X.prog X.w) X.A (call (.ref C) us) (EP X pins σ Q) X.xe s := by
  have n0 : H s.heap.objs.size = none := I.hok.fresh (Nat.le_refl _)
  have n1 : H (s.heap.objs.size + 1) = none := I.hok.fresh (Nat.le_succ _)
  have hq := h _ _ n1 n0 (Nat.ne_of_lt (Nat.lt_succ_self _))
  have J := Inv.made (C := C) I
  have rr : Vals (V.ref (s.heap.objs.size + 1) :: (vs ++ [])) (Value.ref (s.heap.objs.size + 1) :: us) := .cons rfl (by rw [List.append_nil]; exact r)
  have len : (Value.ref (s.heap.objs.size + 1) :: us ++ []).length = ps.length := by
    rw [List.append_nil]
    exact rr.length.symm.trans (F.len _ _ _ _ hq)
  have bd := hb _ (Value.ref (s.heap.objs.size + 1) :: us) J.kIn len
  rw [List.append_nil] at bd
  refine wpAny_call (make_map (f := f) I.kIn M.makes M.init (beq_iff_eq.mp M.fn) (codeAny_mono (F.run _ X.stack _ _ ⟨Value.ref (s.heap.objs.size + 1) :: us, []⟩ (Value.ref (s.heap.objs.size + 1) :: us) _ _ E (hr.make C us []) (J.env0.make C us []) bd rr hq) fun b s' z => ?_))
  match b, z with
  | .error e, z => exact hp pins _ _ e s' J z
  | .ok (.ret u), z =>
    obtain ⟨v, H', J3, rv, ev, q3⟩ := J.after z
    subst ev
    exact ⟨rv, .ref (s.heap.objs.size + 1), H', J3, rfl, q3⟩
  | .ok .next, z => exact False.elim z
  | .ok .brk, z => exact False.elim z
  | .ok .cont, z => exact False.elim z
def tMakeS (C : Addr) (sp : Sp) (E : L2.St → XK) (t : TA) : TE := fun σ H Q => t σ H fun vs H1 => ∀ x dx, H1 x = none → H1 dx = none → dx ≠ x → sp (.ref x :: (vs ++ [])) (upd (upd H1 dx (.own x)) x (.ins C dx [])) (fun v H2 => v = .non ∧ Q (.ref x) H2) (E σ)
theorem w_makeS {E : L2.St → XK} {t : TA} {σ : L2.St} {H : Hp} {Q : VK} (q : t σ H fun vs H1 => ∀ x dx, H1 x = none → H1 dx = none → dx ≠ x → sp (.ref x :: (vs ++ [])) (upd (upd H1 dx (.own x)) x (.ins C dx [])) (fun v H2 => v = .non ∧ Q (.ref x) H2) (E σ)) : tMakeS C sp E t σ H Q := q
theorem pe_makeS {E : L2.St → XK} {x : Str} {p pos : Pos} {e : Expr} {es : List Expr} {t : TA} (M : Mk X.K C f) (F : FnOk X.prog X.w X.K X.mg X.base CX k f fd ps sp) (hr : Room (k + 1) X.A) (hg : Gl X x) (hm : X.mg x = some (.ref C)) (hb : Binds X.K fd ps []) (hp : ∀ σ, PassesAt CX X σ (E σ)) (ha : PA X (e :: es) t)
    (hd : (x == ("__debug__" : Str)) = false := by decide) (he : starEach (e :: es) X.env = (false, eval e X.env) :: starEach es X.env := by rfl) (hl : (backTo pos (starEach es X.env)).any (·.1) = false := by rfl) :
    PE X (.Call (.Name x p) (e :: es) [] pos) (tMakeS C sp E t) := by
  constructor
  intro pins s σ H Q I h
  refine wpAny_Call_Name_kw (ld_glob I hg hm ?_ hd)
  refine PySem.W.callWith_K (h₀ := X.base) I.ok.mod.kin M.kp (thn (ha.run pos pins s σ H _ I h) fun us s1 z => ?_) he hl
  obtain ⟨vs, H1, I1, r, q⟩ := z
  exact ⟨I1.kIn, run_makeS M F hr hb (hp σ) I1 r q⟩
end
/-! ### the caught error is asked of what class it is -/
def rIsX' (K : PySem.W.Frag) (D a : Addr) (cls : Value) (d : Option Addr) : List V → Hp → VK → Prop := fun xs H Q => cls = .ref D ∧ rIsX K D a d xs H Q
theorem call_isX' {X : Cx} {a D : Addr} {oe : Obj} {d : Option Addr} {cls : Value} {pn : List (Addr × Obj)} (C : ExcC X.K D) (hz : Zc cls d oe) (hf : ∃ vs, oe.data = .fields vs) : CallR (X.suite a ((a, oe) :: pn)) (.builtin "isinstance") (rIsX' X.K D a cls d) := by
  intro pins s σ H xs us Q I r h
  exact call_isX C hz h.1 hf pins s σ H xs us Q I r h.2
theorem w_xf {a C : Addr} {cls : Value} {d : Option Addr} {f : Str} {te : TE} {σ : L2.St} {H : Hp} {Q : VK} (q : te σ H fun x H1 => x = .ref a ∧ cls = .ref C ∧ ∃ (dd : Addr) (fs : List (Str × V)) (v : V), d = some dd ∧ H1 dd = some (.xd fs) ∧ fs.lookup f = some v ∧ Q v H1) : tXf a cls d C f te σ H Q := q
/-- any thing == a tuple of ints and tuples, whatever the hand -/
def rEqAb' (C : Addr) (d : Nat) : R2 := fun x y H Q => ∃ hd, rEqAb C hd d x y H Q
theorem op_eqAb' {X : Cx} {n : Nat} {CX : CXT} {C f : Addr} {fd : FuncData} {ps : List Str} {sp : Sp} {E : XK} (O : OwnEq X n CX C f fd ps sp E) (d : Nat) (hr : Room (n + d + 2) X.A) : OpR X (compareOp .Eq) (rEqAb' C d) := by
  intro pins s σ H x y u v Q I rx ry h
  obtain ⟨hd, h⟩ := h
  exact op_eqAb (hd := hd) O d hr pins s σ H x y u v Q I rx ry h
/-! ### any thing of ints and tuples is data -/
mutual
def tgD : Tg → PyData
  | .non => .none
  | .bl b => .bool b
  | .int i => .int i
  | .str x => .str x
  | .tup ts => .tuple (tgDs ts)
  | .oth => .none
def tgDs : List Tg → List PyData
  | [] => []
  | t :: ts => tgD t :: tgDs ts
end
mutual
theorem Ab.dp {K : PySem.W.Frag} {C hd : Addr} {H : Hp} : ∀ (d : Nat) (t : Tg) (v : V), Pl d t → Ab C hd H v t → Dp K H v (tgD t)
  | _, .int i, _, _, h => by cases h; exact .int i
  | _, .tup ts, _, .tup hp, h => by
    cases h with
    | tup r al => exact .tup (.inl r) (AbAll.dp _ ts _ hp al)
theorem AbAll.dp {K : PySem.W.Frag} {C hd : Addr} {H : Hp} : ∀ (d : Nat) (ts : List Tg) (vs : List V), (∀ u ∈ ts, Pl d u) → AbAll C hd H vs ts → DpAll K H vs (tgDs ts)
  | _, [], _, _, h => by cases h; exact .nil
  | d, t :: ts, _, hp, h => by
    cases h with
    | cons h1 h2 => exact .cons (Ab.dp d t _ (hp t List.mem_cons_self) h1) (AbAll.dp d ts _ (fun u hu => hp u (List.mem_cons_of_mem _ hu)) h2)
end
/-! ### pairs -/
theorem AbAll.two {C hd : Addr} {H : Hp} {xs : List V} {t1 t2 : Tg} (h : AbAll C hd H xs [t1, t2]) : ∃ v1 v2, xs = [v1, v2] ∧ Ab C hd H v1 t1 ∧ Ab C hd H v2 t2 := by
  cases h with
  | cons h1 h =>
    cases h with
    | cons h2 h => cases h; exact ⟨_, _, rfl, h1, h2⟩
theorem Ab.int_inv {C hd : Addr} {H : Hp} {v : V} {i : Int} (h : Ab C hd H v (.int i)) : v = .int i := by cases h; rfl
theorem Ab.pair {C hd : Addr} {H : Hp} {v : V} {x y : Int} (h : Ab C hd H v (.tup [.int x, .int y])) : ∃ p, v = .ref p ∧ Rd H p (.tup [.int x, .int y]) := by
  cases h with
  | tup r al =>
    obtain ⟨_, _, rfl, a1, a2⟩ := al.two
    obtain rfl := a1.int_inv
    obtain rfl := a2.int_inv
    exact ⟨_, rfl, r⟩
/-! ### the first of some numbers that is not right -/
def fw (f : Nat → Bool) (n : Nat) : Option Nat := (List.range n).find? fun i => !f i
theorem fw_none {f : Nat → Bool} {n : Nat} (h : ∀ j, j < n → f j = true) : fw f n = none := by
  unfold fw
  rw [List.find?_eq_none]
  intro j hj
  rw [h j (List.mem_range.mp hj)]
  decide
theorem fw_some {f : Nat → Bool} : ∀ {n i : Nat}, i < n → (∀ j, j < i → f j = true) → f i = false → fw f n = some i
  | 0, i, hi, _, _ => absurd hi (Nat.not_lt_zero _)
  | n + 1, i, hi, h, hf => by
    unfold fw
    rw [List.range_succ, List.find?_append]
    by_cases c : i < n
    · have e : (List.range n).find? (fun i => !f i) = some i := fw_some c h hf
      rw [e]; rfl
    · have ei : i = n := by omega
      subst ei
      have e : (List.range i).find? (fun i => !f i) = none := fw_none h
      rw [e]
      simp [hf]
/-! ### tuples of ints, by their order -/
theorem le_pair {a b c d : Int} : Ob.lexAt (fun j => decide (([a, b] : List Int).getD j 0 = ([c, d] : List Int).getD j 0)) (fun j => decide (([a, b] : List Int).getD j 0 ≤ ([c, d] : List Int).getD j 0)) (decide (([a, b] : List Int).length ≤ ([c, d] : List Int).length)) 0 (min ([a, b] : List Int).length ([c, d] : List Int).length) = !(decide (c < a) || (decide (c = a) && decide (d < b))) := by
  by_cases e : a = c
  · subst e
    by_cases e2 : b = d
    · subst e2; simp [Ob.lexAt]
    · simp [Ob.lexAt, e2]; by_cases e3 : b ≤ d <;> simp [e3] <;> omega
  · have e' : ¬ c = a := fun z => e z.symm
    simp [Ob.lexAt, e, e']; by_cases e3 : a ≤ c <;> simp [e3] <;> omega
theorem ge_pair {a b c d : Int} : Ob.lexAt (fun j => decide (([a, b] : List Int).getD j 0 = ([c, d] : List Int).getD j 0)) (fun j => decide (([c, d] : List Int).getD j 0 ≤ ([a, b] : List Int).getD j 0)) (decide (([a, b] : List Int).length ≥ ([c, d] : List Int).length)) 0 (min ([a, b] : List Int).length ([c, d] : List Int).length) = !(decide (a < c) || (decide (a = c) && decide (b < d))) := by
  by_cases e : a = c
  · subst e
    by_cases e2 : b = d
    · subst e2; simp [Ob.lexAt]
    · simp [Ob.lexAt, e2]; by_cases e3 : d ≤ b <;> simp [e3] <;> omega
  · simp [Ob.lexAt, e]; by_cases e3 : c ≤ a <;> simp [e3] <;> omega
end GA
/-! ## GS -/
namespace GA
open PySem PySem.Spec PyProof.Rows L2
/-! ### len(set(t)), t a tuple of ints -/
theorem not_nodup_less {α : Type} [DecidableEq α] : ∀ {l : List α}, ¬ l.Nodup → ∃ m : List α, m.length < l.length ∧ ∀ x ∈ l, x ∈ m
  | [], h => absurd List.nodup_nil h
  | x :: l, h => by
    by_cases c : x ∈ l
    · refine ⟨l, by simp, fun y hy => ?_⟩
      rcases List.mem_cons.mp hy with e | e
      · exact e ▸ c
      · exact e
    · obtain ⟨m, h1, h2⟩ := not_nodup_less (l := l) fun n => h (List.nodup_cons.mpr ⟨c, n⟩)
      refine ⟨x :: m, by simpa using h1, fun y hy => ?_⟩
      rcases List.mem_cons.mp hy with e | e
      · exact e ▸ List.mem_cons_self
      · exact List.mem_cons_of_mem _ (h2 y e)
theorem few_iff {ks ns : List Int} (nd : ks.Nodup) (mem : ∀ k, k ∈ ks ↔ k ∈ ns) : ks.length = ns.length ↔ ns.Nodup := by
  constructor
  · intro e
    by_cases c : ns.Nodup
    · exact c
    · obtain ⟨m, h1, h2⟩ := not_nodup_less c
      have := List.Nodup.length_le_of_subset (l₂ := m) nd fun x hx => h2 x ((mem x).mp hx)
      omega
  · intro h
    exact ((List.perm_ext_iff_of_nodup nd h).mpr mem).length_eq
section
variable {X : Cx}
def tLenSetTG (K : PySem.W.Frag) (ta : TE) : TE := fun σ H Q => ta σ H fun x H1 => ∃ (l : Addr) (ns : List Int), x = V.ref l ∧ SqT K H1 l (ns.map V.int) ∧ ns.length ≤ 1000 ∧ ∀ k : Nat, (k = ns.length ↔ ns.Nodup) → Q (.int k) H1
theorem w_lenSetTG {K : PySem.W.Frag} {ta : TE} {σ : L2.St} {H : Hp} {Q : VK} (q : ta σ H fun x H1 => ∃ (l : Addr) (ns : List Int), x = V.ref l ∧ SqT K H1 l (ns.map V.int) ∧ ns.length ≤ 1000 ∧ ∀ k : Nat, (k = ns.length ↔ ns.Nodup) → Q (.int k) H1) : tLenSetTG K ta σ H Q := q
theorem pe_lenSetTG {a : Expr} {ta : TE} {p p2 q pos : Pos} (hc : X.calm = true) (hg : Gl X "len") (hm : X.mg "len" = none) (hg2 : Gl X "set") (hm2 : X.mg "set" = none) (ha : PE X a ta)
    (na : starEach [a] X.env = (false, eval a X.env) :: starEach [] X.env := by rfl) : PE X (.Call (.Name "len" p) [.Call (.Name "set" p2) [a] [] q] [] pos) (tLenSetTG X.K ta) := by
  refine ⟨fun pins s σ H Q I h => Call_ (ld_blt I hg hm PySem.boot_len (PyProof.Rows.callWith_builtin1 (PyProof.Rows.args_cons ?_ rfl) rfl rfl))⟩
  refine Call_ (ld_blt I hg2 hm2 PyProof.Rows.boot_set (PyProof.Rows.callWith_type1 (PyProof.Rows.args_cons (thn (ha.run pins s σ H _ I h) fun v s1 ⟨x, H1, I1, r1, l, ns, ex, hq, h1, q1⟩ => PyProof.Rows.args_nil ?_) na) na rfl))
  subst ex
  cases r1
  obtain ⟨its, r, pt, _⟩ := I1.tuple hq
  refine call_set_tupI ns (I1.ok.hd hc) pt (ints_of_vals r) (by unfold scanBound; omega) fun h' tk c R _ keep => PyProof.Rows.args_nil ?_
  obtain ⟨o, es, ep, t, ho, hex, hd, _, nd, mem, hsz, hf, _⟩ := R
  have mem' : ∀ k, k ∈ es.toList.map keyOf ↔ k ∈ ns := fun k => by rw [← mem]; simp
  have e := few_iff nd mem'
  have le : es.size ≤ ns.length := by
    have := List.Nodup.length_le_of_subset (l₂ := ns) nd fun x hx => (mem' x).mp hx
    simpa using this
  have I2 : Inv X pins σ H1 { s1 with heap := h', toks := tk } := I1.kept keep
  exact call_len_set ho hex hd hf (by omega) ⟨.int es.size, H1, I2.tok _, ⟨_, rfl⟩, q1 es.size (by simpa using e)⟩
end
/-! ### tuples of ints, small ones -/
theorem AbAll.ints_inv {C hd : Addr} {H : Hp} : ∀ {d : List Int} {xs : List V}, AbAll C hd H xs (d.map Tg.int) → xs = d.map V.int
  | [], _, h => by cases h; rfl
  | i :: d, _, h => by
    cases h with
    | cons h1 h2 => rw [h1.int_inv, AbAll.ints_inv h2]; rfl
mutual
def smT : Tg → Bool
  | .tup ts => decide (ts.length ≤ 1000) && smTs ts
  | _ => true
def smTs : List Tg → Bool
  | [] => true
  | t :: ts => smT t && smTs ts
end
theorem smTs_all : ∀ {ts : List Tg}, smTs ts = true → ∀ t ∈ ts, smT t = true
  | [], _, _, h => nomatch h
  | t :: ts, h, u, hu => by
    rw [smTs, Bool.and_eq_true] at h
    rcases List.mem_cons.mp hu with e | e
    · rw [e]; exact h.1
    · exact smTs_all h.2 u e
theorem smTs_of : ∀ {ts : List Tg}, (∀ t ∈ ts, smT t = true) → smTs ts = true
  | [], _ => rfl
  | t :: ts, h => by
    rw [smTs, h t List.mem_cons_self, smTs_of fun u hu => h u (List.mem_cons_of_mem _ hu)]; rfl
theorem smT_tup {ts : List Tg} (h : smT (.tup ts) = true) : ts.length ≤ 1000 ∧ ∀ t ∈ ts, smT t = true := by
  rw [smT, Bool.and_eq_true, decide_eq_true_eq] at h
  exact ⟨h.1, smTs_all h.2⟩
theorem smT_of {ts : List Tg} (h : ts.length ≤ 1000) (k : ∀ t ∈ ts, smT t = true) : smT (.tup ts) = true := by
  rw [smT, smTs_of k, decide_eq_true h]; rfl
/-! ### t[::-1] of a tuple -/
theorem vals_pick {xs : List V} {its : List Value} (r : Vals xs its) (f : Nat → Nat) : ∀ l : List Nat, Vals (l.filterMap fun k => xs[f k]?) (l.filterMap fun k => its[f k]?)
  | [] => .nil
  | k :: l => by
    have ih := vals_pick r f l
    rw [List.filterMap_cons, List.filterMap_cons]
    by_cases c : f k < xs.length
    · obtain ⟨u, hu, ru⟩ := r.get (List.getElem?_eq_getElem c)
      rw [List.getElem?_eq_getElem c, hu]
      exact .cons ru ih
    · have c2 : ¬ f k < its.length := by rw [← r.length]; exact c
      rw [List.getElem?_eq_none (by omega), List.getElem?_eq_none (by omega)]
      exact ih
theorem pick_le {α : Type} (f : Nat → Option α) : ∀ l : List Nat, (l.filterMap f).length ≤ l.length := fun l => List.length_filterMap_le f l
theorem neg_adjust (n : Nat) : Builtin.Slice.sliceAdjust none none (-1) (n : Int) = ((n : Int) - 1, -1) := by
  unfold Builtin.Slice.sliceAdjust
  simp
theorem neg_places (n : Nat) : Builtin.Slice.slicePlaces ((n : Int) - 1) (-1) (-1) = n := by
  unfold Builtin.Slice.slicePlaces
  cases n with
  | zero => simp
  | succ n =>
    simp
    split <;> omega
section
variable {prog : Program} {w : World} {A : Around} {E : Value → Shared → Prop} {s : Shared}
theorem slice_back {sl : Addr} {vl vu vs : Value} {n : Nat} {Q : Int × Int × Nat → Shared → Prop} (hs : s.heap.IsSliceOf sl vl vu vs) (pl : IsPart vl none) (pu : IsPart vu none) (ps : IsPart vs (some (-1))) (h : Q ((n : Int) - 1, -1, n) s) :
    wpAny (model prog w) A (Builtin.Slice.sliceApplied (.ref sl) (pure (n : Int))) Q E s := by
  obtain ⟨os, hos, hcs, hds⟩ := id hs
  unfold Builtin.Slice.sliceApplied Builtin.Slice.sliceFields
  refine wpAny_bind (wpAny_bind (wpAny_field hos hds (x := vl) rfl (wpAny_bind (wpAny_field hos hds (x := vu) rfl (wpAny_bind (wpAny_field hos hds (x := vs) rfl (wpAny_pure ?_)))))))
  refine wpAny_bind (HT.slicePart_ ps ?_)
  show wpAny _ _ (if ((-1 : Int) == 0) = true then _ else _) _ _ s
  rw [if_neg (by decide)]
  refine wpAny_bind (HT.slicePart_ pl (wpAny_bind (HT.slicePart_ pu (wpAny_bind (wpAny_pure ?_)))))
  show wpAny _ _ (match Builtin.Slice.sliceAdjust none none (-1) (n : Int) with | (lo, hi) => pure (lo, (-1 : Int), Builtin.Slice.slicePlaces lo hi (-1))) _ _ s
  rw [neg_adjust]
  show wpAny _ _ (pure ((n : Int) - 1, (-1 : Int), Builtin.Slice.slicePlaces ((n : Int) - 1) (-1) (-1))) _ _ s
  rw [neg_places]
  exact wpAny_pure h
end
section
variable {X : Cx}
/-- t[::-1]: a new tuple of what t holds -/
def tRevT (K : PySem.W.Frag) (te : TE) : TE := fun σ H Q => te σ H fun x H1 => ∃ (a : Addr) (xs : List V), x = .ref a ∧ SqT K H1 a xs ∧ ∀ q H2, H1 q = none → (∀ o, G o H1 H2) → H2 q = some (.tup ((List.range xs.length).filterMap fun (k : Nat) => xs[(((xs.length : Int) - 1) + (k : Int) * (-1)).toNat]?)) → Q (.ref q) H2
theorem w_revT {K : PySem.W.Frag} {te : TE} {σ : L2.St} {H : Hp} {Q : VK} (q : te σ H fun x H1 => ∃ (a : Addr) (xs : List V), x = .ref a ∧ SqT K H1 a xs ∧ ∀ q H2, H1 q = none → (∀ o, G o H1 H2) → H2 q = some (.tup ((List.range xs.length).filterMap fun (k : Nat) => xs[(((xs.length : Int) - 1) + (k : Int) * (-1)).toNat]?)) → Q (.ref q) H2) : tRevT K te σ H Q := q
theorem pe_revT {e : Expr} {te : TE} {k : Nat} {p1 p2 p3 pos : Pos} (he : PE X e te) : PE X (.Subscript e (.Slice none none (some (.UnaryOp .USub (.Constant (.int 1) k p1) p2)) p3) pos) (tRevT X.K te) := by
  constructor
  intro pins s σ H Q I h
  refine Subscript_ (thn (he.run pins s σ H _ I h) fun v s1 z => ?_)
  obtain ⟨x, H1, I1, r1, a, xs, rfl, hx, q⟩ := z
  cases r1
  have hst : PO X (some (.UnaryOp .USub (.Constant (.int 1) k p1) p2)) (tPart (tUn (rU fun i => .int (-i)) (tC (.int 1)))) := po_some (pe_un un_neg pe_int)
  refine wpAny_Slice (thn (po_none.run pins s1 σ H1 (fun o H2 => o = none ∧ H2 = H1) I1 ⟨rfl, rfl⟩) fun vl s2 z2 => ?_)
  obtain ⟨_, H2, I2, pl, rfl, rfl⟩ := z2
  refine thn (po_none.run pins s2 σ H2 (fun o H3 => o = none ∧ H3 = H2) I2 ⟨rfl, rfl⟩) fun vu s3 z3 => ?_
  obtain ⟨_, H3, I3, pu, rfl, rfl⟩ := z3
  refine thn (hst.run pins s3 σ H3 (fun o H4 => o = some (-1) ∧ H4 = H3) I3 ⟨1, rfl, -1, rfl, rfl, rfl⟩) fun vs s4 z4 => ?_
  obtain ⟨_, H4, I4, ps, rfl, rfl⟩ := z4
  obtain ⟨S, eS⟩ : ∃ S : Shared, S = { s4 with heap := s4.heap.push { cls := .type "slice", data := .fields #[vl, vu, vs] } } := ⟨_, rfl⟩
  have I5 : Inv X pins σ H4 S := by rw [eS]; exact I4.kept (t' := s4.toks) fun b ob q => Heap.get?_push_of_some _ q
  obtain ⟨its, r, ht, hz⟩ := I5.tuple hx
  have hlen : its.toArray.size = xs.length := by rw [List.size_toArray]; exact r.length.symm
  have hsl : S.heap.IsSliceOf s4.heap.objs.size vl vu vs := by rw [eS]; exact Heap.IsSliceOf.new _ vl vu vs
  show wpAny (model X.prog X.w) X.A (subscriptTail e (.Slice none none (some (.UnaryOp .USub (.Constant (.int 1) k p1) p2)) p3) (.ref a) (.ref s4.heap.objs.size)) (EP X pins σ Q) X.xe { s4 with heap := s4.heap.push { cls := .type "slice", data := .fields #[vl, vu, vs] } }
  rw [← eS]
  refine tail_any (ops := [.ref a, .ref s4.heap.objs.size]) ht.typeIs PyProof.Rows.slot_tuple_getitem.lookup ?_ (by with_unfolding_all rfl)
  obtain ⟨os, hos, hcs, hds⟩ := id hsl
  have hTs : S.TypeIs (.ref s4.heap.objs.size) "slice" := ⟨os, hos, hcs⟩
  unfold getItem
  try with_reducible refine wpAny_holding ?_
  first | refine wpAny_bind (wpAny_pure ?_) | skip
  refine wpAny_bind (wpAny_sequenceKey ht.typeIs (by decide) ?_)
  refine wpAny_bind (wpAny_callSpecial?_slot (name := Str.ofString "__getitem__") ht.typeIs PyProof.Rows.slot_tuple_getitem (wpAny_call_entry PyProof.Rows.slot_tuple_getitem ht.typeIs PyProof.Rows.entry_tuple_getitem ?_ (PyProof.Rows.args_tuple_getitem _ _)))
  show wpAny _ _ (Builtin.Tuple.tupleItemsOf (.ref a) >>= _) _ _ S
  refine wpAny_bind (PyProof.Rows.tupleItemsOf_ ht ?_)
  refine wpAny_bind (wpAny_typeOf hTs ?_)
  rw [if_pos (by decide)]
  refine wpAny_bind (slice_back (n := its.toArray.size) hsl pl pu ps ?_)
  have hno : ¬ ((((its.toArray.size : Nat) : Int) - 1 == 0 && (-1 : Int) == 1 && its.toArray.size == its.toArray.size) = true) := by
    intro z
    rw [Bool.and_eq_true, Bool.and_eq_true] at z
    exact absurd z.1.2 (by decide)
  show wpAny _ _ (if (((its.toArray.size : Nat) : Int) - 1 == 0 && (-1 : Int) == 1 && its.toArray.size == its.toArray.size) = true then _ else _) _ _ S
  rw [if_neg hno]
  have rel := vals_pick r (fun (k : Nat) => (((xs.length : Int) - 1) + (k : Int) * (-1)).toNat) (List.range xs.length)
  have eit : ((List.range its.toArray.size).filterMap fun (k : Nat) => its.toArray[(((its.toArray.size : Nat) : Int) - 1 + (k : Int) * (-1)).toNat]?) = (List.range xs.length).filterMap fun (k : Nat) => its[(((xs.length : Int) - 1) + (k : Int) * (-1)).toNat]? := by
    rw [hlen]
    congr 1
    funext k
    simp
  have lz : ((List.range xs.length).filterMap fun (k : Nat) => its[(((xs.length : Int) - 1) + (k : Int) * (-1)).toNat]?).length ≤ sizeLine := by
    have := pick_le (fun (k : Nat) => its[(((xs.length : Int) - 1) + (k : Int) * (-1)).toNat]?) (List.range xs.length)
    rw [List.length_range] at this
    omega
  have new : H4 S.heap.objs.size = none := I5.hok.fresh (Nat.le_refl _)
  rw [eit]
  have fin : EP X pins σ Q (.ref S.heap.objs.size) { S with heap := S.heap.push { cls := .type "tuple", data := .seq ((List.range xs.length).filterMap fun (k : Nat) => its[(((xs.length : Int) - 1) + (k : Int) * (-1)).toNat]?).toArray } } := by
    refine ⟨.ref S.heap.objs.size, _, I5.laid (t' := S.toks) (o := .tup ((List.range xs.length).filterMap fun (k : Nat) => xs[(((xs.length : Int) - 1) + (k : Int) * (-1)).toNat]?)) (fun b ob q => Heap.get?_push_of_some _ q) (Nat.le_refl _) ?_, rfl, q _ _ new (fun _ => G.alloc new) upd_same⟩
    exact ⟨by rw [rel.length]; exact lz, _, rel, IsTup.new _ _⟩
  first
    | exact wpAny_bind (m := Builtin.Tuple.tupleExact _) (wpAny_newObj_type (wpAny_pure ⟨_, rfl, wpAny_pure fin⟩) (by show _ ≤ sizeLine; rw [List.size_toArray]; exact lz))
    | exact wpAny_bind (wpAny_bind (m := Builtin.Tuple.tupleExact _) (wpAny_newObj_type (wpAny_pure (wpAny_pure ⟨_, rfl, wpAny_pure fin⟩)) (by show _ ≤ sizeLine; rw [List.size_toArray]; exact lz)))
    | exact wpAny_bind (wpAny_bind (m := Builtin.Tuple.tupleExact _) (wpAny_newObj_type (wpAny_pure ⟨_, rfl, wpAny_pure fin⟩) (by show _ ≤ sizeLine; rw [List.size_toArray]; exact lz)))
end
end GA
/-! ## GZ -/
namespace GA
open PySem PySem.Spec PyProof.Rows L2 PySem.SeqAt
/-! ### sorted of ((int, int), int, int, int or None): the first three parts decide -/
def IsW (h : Heap) (v : Value) (a : Int × Int × Int × Int) (g : Option Int) : Prop := ∃ (l t1 : Addr) (a1 a2 a3 a4 : Tok) (gv : Value), v = .ref l ∧ h.IsTuple l #[.ref t1, .int a.2.2.1 a3, .int a.2.2.2 a4, gv] ∧ h.IsTuple t1 #[.int a.1 a1, .int a.2.1 a2] ∧ (g = none ∧ gv = .none ∨ ∃ i a5, g = some i ∧ gv = .int i a5)
def ltWr (a b : Int × Int × Int × Int) : Bool := decide (a.1 < b.1) || (decide (a.1 = b.1) && (decide (a.2.1 < b.2.1) || (decide (a.2.1 = b.2.1) && (decide (a.2.2.1 < b.2.2.1) || (decide (a.2.2.1 = b.2.2.1) && decide (a.2.2.2 < b.2.2.2))))))
section
variable {prog : Program} {w : World} {A : Around} {E : Value → Shared → Prop} {s : Shared}
theorem tup_get {h : Heap} {l : Addr} {its : Array Value} (t : h.IsTuple l its) : ∃ (o : Obj) (n : Nat), h.get? l = some o ∧ o.cls = .type "tuple" ∧ o.data = .seq its n := by
  obtain ⟨o, h1, h2, n, h3⟩ := t
  exact ⟨o, n, h1, h2, h3⟩
theorem bq (x y : Int) : (x == y) = decide (x = y) := by
  by_cases h : x = y
  · rw [decide_eq_true h]; exact beq_iff_eq.mpr h
  · rw [decide_eq_false h]; exact beq_eq_false_iff_ne.mpr h
/-- pairs of ints, equal or less -/
theorem pair_eq {t t' : Addr} {x y x' y' : Int} {a1 a2 b1 b2 : Tok} (h : s.heap.IsTuple t #[.int x a1, .int y a2]) (h' : s.heap.IsTuple t' #[.int x' b1, .int y' b2]) (hu : A.units < cLine) : EqAt A s (.ref t) (.ref t') (decide (x = x') && decide (y = y')) := by
  by_cases e : t = t'
  · subst e
    obtain ⟨o, n, g1, _, g2⟩ := tup_get h
    obtain ⟨o', n', g1', _, g2'⟩ := tup_get h'
    rw [g1] at g1'
    cases g1'
    rw [g2] at g2'
    injection g2' with g3 _
    have g3 := congrArg Array.toList g3
    injection g3 with g4 g5
    injection g5 with g5 _
    injection g4 with g4 _
    injection g5 with g5 _
    rw [decide_eq_true g4, decide_eq_true g5]
    exact EqAt.same _
  · refine EqAt.of_refs e ?_
    have R := RcAt.tuples (A := A) (s := s) (e := fun j => if j = 0 then decide (x = x') else decide (y = y')) h h' hu (fun j h1 h2 => by
      match j, h1, h2 with
      | 0, _, _ =>
        show EqAt _ _ (.int x a1) (.int x' b1) (decide (x = x'))
        rw [← bq]; exact EqAt.int_int _ _ _ _
      | 1, _, _ =>
        show EqAt _ _ (.int y a2) (.int y' b2) (decide (y = y'))
        rw [← bq]; exact EqAt.int_int _ _ _ _
      | n + 2, h1, _ => exact absurd h1 (by simp))
    have e2 : ((List.range (min (#[Value.int x a1, .int y a2] : Array Value).size (#[Value.int x' b1, .int y' b2] : Array Value).size)).all (fun j => if j = 0 then decide (x = x') else decide (y = y')) && (#[Value.int x a1, .int y a2] : Array Value).size == (#[Value.int x' b1, .int y' b2] : Array Value).size) = (decide (x = x') && decide (y = y')) := by
      show (((if (0 : Nat) = 0 then decide (x = x') else decide (y = y')) && ((if (1 : Nat) = 0 then decide (x = x') else decide (y = y')) && true)) && true) = _
      simp
    rw [e2] at R
    exact R
theorem pair_lt {t t' : Addr} {x y x' y' : Int} {a1 a2 b1 b2 : Tok} (h : s.heap.IsTuple t #[.int x a1, .int y a2]) (h' : s.heap.IsTuple t' #[.int x' b1, .int y' b2]) (hu : A.units < cLine) : Ob.RcOp .Lt A s (.ref t) (.ref t') (decide (x < x') || (decide (x = x') && decide (y < y'))) := by
  have R := Ob.RcOp.tuples_lt (A := A) (s := s) (e := fun j => if j = 0 then decide (x = x') else decide (y = y')) (r := fun j => if j = 0 then decide (x < x') else decide (y < y')) h h' hu (fun j h1 h2 => by
      match j, h1, h2 with
      | 0, _, _ =>
        show EqAt _ _ (.int x a1) (.int x' b1) (decide (x = x'))
        rw [← bq]; exact EqAt.int_int _ _ _ _
      | 1, _, _ =>
        show EqAt _ _ (.int y a2) (.int y' b2) (decide (y = y'))
        rw [← bq]; exact EqAt.int_int _ _ _ _
      | n + 2, h1, _ => exact absurd h1 (by simp)) (fun j h1 h2 _ => by
      match j, h1, h2 with
      | 0, _, _ =>
        show Ob.RcOp _ _ _ (.int x a1) (.int x' b1) (decide (x < x'))
        exact Ob.RcOp.lt_int _ _ _ _
      | 1, _, _ =>
        show Ob.RcOp _ _ _ (.int y a2) (.int y' b2) (decide (y < y'))
        exact Ob.RcOp.lt_int _ _ _ _
      | n + 2, h1, _ => exact absurd h1 (by simp))
  have e2 : Ob.lexAt (fun j => if j = 0 then decide (x = x') else decide (y = y')) (fun j => if j = 0 then decide (x < x') else decide (y < y')) (decide ((#[Value.int x a1, .int y a2] : Array Value).size < (#[Value.int x' b1, .int y' b2] : Array Value).size)) 0 (min (#[Value.int x a1, .int y a2] : Array Value).size (#[Value.int x' b1, .int y' b2] : Array Value).size) = (decide (x < x') || (decide (x = x') && decide (y < y'))) := by
    show Ob.lexAt _ _ (decide (2 < 2)) 0 2 = _
    rw [Ob.lexAt_succ, Ob.lexAt_succ, Ob.lexAt_zero]
    by_cases c1 : x = x' <;> by_cases c2 : y = y' <;> simp [c1, c2]
  rw [e2] at R
  exact R
theorem lt_w {v u : Value} {a b : Int × Int × Int × Int} {g g' : Option Int} {Q : Bool → Shared → Prop} (hv : IsW s.heap v a g) (hv' : IsW s.heap u b g') (same : a = b → g = g') (hu : A.units < cLine) (q : Q (ltWr a b) s) : wpAny (model prog w) A (keyLt' (tuples' false) v u) Q E s := by
  obtain ⟨l, t1, a1, a2, a3, a4, gv, rfl, h1, h2, hg⟩ := hv
  obtain ⟨l', t1', b1, b2, b3, b4, gv', rfl, h1', h2', hg'⟩ := hv'
  obtain ⟨o, n, e1, _, e2⟩ := tup_get h1
  obtain ⟨o', n', e1', _, e2'⟩ := tup_get h1'
  obtain ⟨k, f, p, m⟩ := a
  obtain ⟨k', f', p', m'⟩ := b
  refine PySem.W.kat_lt e1 e2 e1' e2' ?_
  show PySem.W.KatLex prog w A false false Q [(.ref t1, .ref t1'), (.int p a3, .int p' b3), (.int m a4, .int m' b4), (gv, gv')] 0 s
  refine PySem.W.kat_cons (pair_eq h2 h2' hu prog w _ _ (PySem.W.kat_go (fun e => PySem.W.kat_yes ?_) fun e => PySem.W.kat_no ?_))
  · rw [Bool.and_eq_true, decide_eq_true_iff, decide_eq_true_iff] at e
    obtain ⟨ek, ef⟩ := e
    have ek : k = k' := ek
    have ef : f = f' := ef
    subst ek ef
    refine PySem.W.kat_cons (EqAt.int_int p a3 p' b3 prog w _ _ (PySem.W.kat_go (fun e => PySem.W.kat_yes ?_) fun e => PySem.W.kat_no ?_))
    · have ep : p = p' := eq_of_beq e
      subst ep
      refine PySem.W.kat_cons (EqAt.int_int m a4 m' b4 prog w _ _ (PySem.W.kat_go (fun e => PySem.W.kat_yes ?_) fun e => PySem.W.kat_no ?_))
      · have em : m = m' := eq_of_beq e
        subst em
        have eg := same rfl
        have q0 : Q false s := by
          have : ltWr (k, f, p, m) (k, f, p, m) = false := by simp [ltWr]
          rw [this] at q
          exact q
        rcases hg with ⟨rfl, rfl⟩ | ⟨i, a5, rfl, rfl⟩ <;> rcases hg' with ⟨z, rfl⟩ | ⟨i', b5, z, rfl⟩
        · exact PySem.W.kat_cons (EqAt.same _ prog w _ _ (PySem.W.kat_yes (PySem.W.kat_nil q0)))
        · rw [z] at eg; cases eg
        · rw [z] at eg; cases eg
        · rw [z] at eg
          cases eg
          refine PySem.W.kat_cons (EqAt.int_int i a5 i b5 prog w _ _ (PySem.W.kat_go (fun e => PySem.W.kat_yes (PySem.W.kat_nil q0)) fun e => ?_))
          rw [bq, decide_eq_true rfl] at e
          cases e
      · have em : ¬ m = m' := by rw [bq] at e; exact of_decide_eq_false e
        refine TS.oneLt_ints _ ?_
        have : ltWr (k, f, p, m) (k, f, p, m') = decide (m < m') := by simp [ltWr]
        rw [this] at q
        exact q
    · have ep : ¬ p = p' := by rw [bq] at e; exact of_decide_eq_false e
      refine TS.oneLt_ints _ ?_
      have : ltWr (k, f, p, m) (k, f, p', m') = decide (p < p') := by simp [ltWr, ep]
      rw [this] at q
      exact q
  · refine PySem.W.kat_one _ _ (pair_lt h2 h2' hu prog w _ _ ?_)
    have : ltWr (k, f, p, m) (k', f', p', m') = (decide (k < k') || (decide (k = k') && decide (f < f'))) := by
      have e : (decide (k = k') && decide (f = f')) = false := e
      unfold ltWr
      show (decide (k < k') || (decide (k = k') && (decide (f < f') || (decide (f = f') && _)))) = _
      by_cases c1 : k = k'
      · by_cases c2 : f = f'
        · rw [decide_eq_true c1, decide_eq_true c2] at e; cases e
        · simp [c1, c2]
      · simp [c1]
    rw [this] at q
    exact q
end
def keyV (key : V → Int × Int × Int × Int) : Value → Int × Int × Int × Int
  | .ref t => key (.ref t)
  | _ => (0, 0, 0, 0)
def optV : Option Int → V
  | none => .non
  | some i => .int i
def rSortedW (K : PySem.W.Frag) : List V → Hp → VK → Prop := fun vs H Q => ∃ (a : Addr) (xs : List V) (key : V → Int × Int × Int × Int) (gk : V → Option Int), vs = [.ref a] ∧ SqL K H a xs ∧
  (∀ x ∈ xs, ∃ t t1, x = .ref t ∧ H t = some (.tup [.ref t1, .int (key x).2.2.1, .int (key x).2.2.2, optV (gk x)]) ∧ H t1 = some (.tup [.int (key x).1, .int (key x).2.1])) ∧ (∀ x ∈ xs, ∀ y ∈ xs, key x = key y → gk x = gk y) ∧
  ∀ (ys : List V) (p : Addr), ys.Perm xs → ys.Pairwise (fun x y => ltWr (key y) (key x) = false) → H p = none → Q (.ref p) (upd H p (.lst ys))
theorem swoW (key : Value → Int × Int × Int × Int) : SrtO.Swo fun v u => ltWr (key v) (key u) := by
  constructor
  · intro x y h
    generalize key x = a at *
    generalize key y = b at *
    obtain ⟨a1, a2, a3, a4⟩ := a
    obtain ⟨b1, b2, b3, b4⟩ := b
    simp only [ltWr, Bool.or_eq_true, Bool.and_eq_true, decide_eq_true_eq, Bool.or_eq_false_iff, Bool.and_eq_false_iff, decide_eq_false_iff_not] at *
    omega
  · intro x y z h1 h2
    generalize key x = a at *
    generalize key y = b at *
    generalize key z = c at *
    obtain ⟨a1, a2, a3, a4⟩ := a
    obtain ⟨b1, b2, b3, b4⟩ := b
    obtain ⟨c1, c2, c3, c4⟩ := c
    simp only [ltWr, Bool.or_eq_true, Bool.and_eq_true, decide_eq_true_eq, Bool.or_eq_false_iff, Bool.and_eq_false_iff, decide_eq_false_iff_not] at *
    omega
theorem relV_opt {g : Option Int} {u : Value} (r : RelV (optV g) u) : g = none ∧ u = .none ∨ ∃ i a5, g = some i ∧ u = .int i a5 := by
  cases g with
  | none => cases r; exact .inl ⟨rfl, rfl⟩
  | some i => obtain ⟨t, rfl⟩ := r; exact .inr ⟨i, t, rfl, rfl⟩
theorem isW_of {X : Cx} {pins : List (Addr × Obj)} {σ : L2.St} {H : Hp} {s : Shared} {t t1 : Addr} {k : Int × Int × Int × Int} {g : Option Int} (I : Inv X pins σ H s) (h : H t = some (.tup [.ref t1, .int k.2.2.1, .int k.2.2.2, optV g])) (h1 : H t1 = some (.tup [.int k.1, .int k.2.1])) : IsW s.heap (.ref t) k g := by
  obtain ⟨its, r, p, _⟩ := I.tuple (.inl (.inl h))
  obtain ⟨its2, r2, p2, _⟩ := I.tuple (.inl (.inl h1))
  cases r with
  | cons c1 r =>
  cases r with
  | cons c2 r =>
  cases r with
  | cons c3 r =>
  cases r with
  | cons c4 r =>
  cases r
  cases r2 with
  | cons d1 r2 =>
  cases r2 with
  | cons d2 r2 =>
  cases r2
  cases c1
  obtain ⟨_, rfl⟩ := c2
  obtain ⟨_, rfl⟩ := c3
  obtain ⟨_, rfl⟩ := d1
  obtain ⟨_, rfl⟩ := d2
  exact ⟨t, t1, _, _, _, _, _, rfl, p, p2, relV_opt c4⟩
theorem vals_mem {xs : List V} {us : List Value} (r : Vals xs us) {u : Value} (h : u ∈ us) : ∃ x ∈ xs, RelV x u := by
  induction r with
  | nil => cases h
  | cons c r ih =>
    rcases List.mem_cons.mp h with e | e
    · subst e
      exact ⟨_, List.mem_cons_self .., c⟩
    · obtain ⟨x, hx, q⟩ := ih e
      exact ⟨x, List.mem_cons_of_mem _ hx, q⟩
def backV : Value → V
  | .ref t => .ref t
  | _ => .non
theorem vals_back {us : List Value} (h : ∀ u ∈ us, ∃ t, u = Value.ref t) : Vals (us.map backV) us := by
  induction us with
  | nil => exact .nil
  | cons u us ih =>
    obtain ⟨t, rfl⟩ := h u (List.mem_cons_self ..)
    exact .cons rfl (ih fun v hv => h v (List.mem_cons_of_mem _ hv))
theorem back_vals {xs : List V} {us : List Value} (r : Vals xs us) (h : ∀ x ∈ xs, ∃ t, x = V.ref t) : us.map backV = xs := by
  induction r with
  | nil => rfl
  | cons c r ih =>
    obtain ⟨t, rfl⟩ := h _ (List.mem_cons_self ..)
    cases c
    rw [List.map_cons, ih fun x hx => h x (List.mem_cons_of_mem _ hx)]; rfl
theorem katW {h : Heap} : ∀ {vs : List Value}, (∀ v ∈ vs, ∃ k g, IsW h v k g) → ∃ fs, PySem.W.KatTups h vs fs ∧ fs.length = vs.length ∧ ∀ f ∈ fs, ∃ t1 its, f = Value.ref t1 ∧ h.IsTuple t1 its
  | [], _ => ⟨[], .nil, rfl, fun _ h => by cases h⟩
  | v :: vs, H => by
    obtain ⟨fs, a1, a2, a3⟩ := katW (vs := vs) fun v hv => H v (List.mem_cons_of_mem _ hv)
    obtain ⟨k, g, l, t1, x1, x2, x3, x4, gv, rfl, h1, h2, _⟩ := H v (List.mem_cons_self ..)
    obtain ⟨o, n, e1, e2, e3⟩ := tup_get h1
    refine ⟨.ref t1 :: fs, .cons e1 e2 e3 rfl a1, by rw [List.length_cons, List.length_cons, a2], fun f hf => ?_⟩
    rcases List.mem_cons.mp hf with e | e
    · exact ⟨t1, _, e, h2⟩
    · exact a3 f e
theorem IsW.keep {h h' : Heap} {v : Value} {k : Int × Int × Int × Int} {g : Option Int} {a : Addr} (w : IsW h v k g) (na : ∀ l its, h.IsTuple l its → l ≠ a) (kp : ∀ b o, b ≠ a → h.get? b = some o → h'.get? b = some o) : IsW h' v k g := by
  have up : ∀ {l its}, h.IsTuple l its → h'.IsTuple l its := fun {l its} t => by
    obtain ⟨o, h1, h2, n, h3⟩ := id t
    exact ⟨o, kp _ _ (na _ _ t) h1, h2, n, h3⟩
  obtain ⟨l, t1, x1, x2, x3, x4, gv, e, h1, h2, z⟩ := w
  exact ⟨l, t1, x1, x2, x3, x4, gv, e, up h1, up h2, z⟩
theorem cr_sortedW {X : Cx} (hu : X.A.in1.in1.units < cLine) : CallR X (.builtin "sorted") (rSortedW X.K) := by
  intro pins s σ H xs us Q I r h
  obtain ⟨a, xs, key, gk, rfl, hx, hk, inj, q⟩ := h
  cases r with
  | cons c r =>
  cases r
  cases c
  obtain ⟨its, rv, pl, hz⟩ := I.list hx
  have refs : ∀ x ∈ xs, ∃ t, x = V.ref t := fun x hx => let ⟨t, _, e, _⟩ := hk x hx; ⟨t, e⟩
  have all : ∀ v ∈ its, IsW s.heap v (keyV key v) (gk (backV v)) ∧ backV v ∈ xs := fun v hv => by
    obtain ⟨x, hx1, rx⟩ := vals_mem rv hv
    obtain ⟨t, t1, rfl, h1, h2⟩ := hk x hx1
    cases rx
    exact ⟨isW_of I h1 h2, hx1⟩
  have keyb : ∀ v ∈ its, keyV key v = key (backV v) := fun v hv => by
    obtain ⟨x, hx1, rx⟩ := vals_mem rv hv
    obtain ⟨t, rfl⟩ := refs x hx1
    cases rx
    rfl
  refine SrtO.sorted_ord (ltv := fun v u => ltWr (keyV key v) (keyV key u)) (swoW (keyV key)) pl.isList (by rw [← rv.length]; exact hz) (fun h2 h₁ a₁ g1 g2 => ?_) (fun out srt stb => ?_)
  · intro h' kp
    have W : ∀ v ∈ its, IsW h' v (keyV key v) (gk (backV v)) := fun v hv => by
      refine (all v hv).1.keep (a := a₁) (fun l its2 t => ?_) fun b o nb e => kp b o nb (g2 b o e).2
      obtain ⟨o, n, e1, _, _⟩ := tup_get t
      exact (g2 l o e1).1
    refine ⟨tuples' false, fun Q E q => ?_, fun p u hp hu' => ?_⟩
    · obtain ⟨fs, b1, b2, b3⟩ := katW (h := h') fun v hv => ⟨_, _, W v hv⟩
      refine PySem.W.kat_kind (T := .type "tuple") b1 (by rw [b2]; omega) (fun v hv => ?_) (by rfl) q
      obtain ⟨t1, it1, rfl, ht1⟩ := b3 v hv
      obtain ⟨o, n, e1, e2, _⟩ := tup_get ht1
      intro A Q E s kp2 q
      refine wpAny_typeOf ⟨o, kp2 _ _ e1, e2⟩ q
    · refine lt_w (s := ⟨h', s.gens, s.drawn, s.toks, s.os⟩) (W p.1 hp) (W u.1 hu') (fun e => ?_) hu ⟨rfl, rfl⟩
      refine inj _ (all p.1 hp).2 _ (all u.1 hu').2 ?_
      rw [← keyb _ hp, ← keyb _ hu']
      exact e
  · obtain ⟨e, he⟩ := sortedAll_at s.heap its out.toArray
    have pm := stb.perm
    have or_ : ∀ u ∈ out, ∃ t, u = Value.ref t := fun u hu => by
      obtain ⟨x, hx1, rx⟩ := vals_mem rv (pm.mem_iff.mp hu)
      obtain ⟨t, rfl⟩ := refs x hx1
      cases rx
      exact ⟨t, rfl⟩
    have ro := vals_back or_
    have py : (out.map backV).Perm xs := by
      have := pm.map backV
      rw [back_vals rv refs] at this
      exact this
    have new : H (s.heap.objs.size + 1) = none := I.hok.fresh (by omega)
    refine ⟨.ref (s.heap.objs.size + 1), _, I.laid (t' := s.toks) (o := .lst (out.map backV)) (fun b ob q => sortedAll_old q) (by omega) ?_, rfl, q (out.map backV) _ py ?_ new⟩
    · exact ⟨by rw [py.length_eq]; exact hz, out, _, ro, he⟩
    · refine List.pairwise_map.mpr (srt.imp_of_mem fun {x y} hx hy h => ?_)
      have mx := pm.mem_iff.mp hx
      have my := pm.mem_iff.mp hy
      rw [← keyb _ mx, ← keyb _ my]
      exact h
end GA
/-! ## GTL -/
namespace GA
open PySem PySem.Spec PyProof.Rows L2 PySem.SeqAt PySem.W
/-! ### t < u of tuples of ints, sorted of lists of such, of any lengths -/
def ltL : List Int → List Int → Bool
  | _, [] => false
  | [], _ :: _ => true
  | x :: xs, y :: ys => decide (x < y) || (decide (x = y) && ltL xs ys)
theorem lexAt_shift {e r : Nat → Bool} {fin : Bool} : ∀ n i, Ob.lexAt e r fin (i + 1) n = Ob.lexAt (fun j => e (j + 1)) (fun j => r (j + 1)) fin i n
  | 0, i => by rw [Ob.lexAt_zero, Ob.lexAt_zero]
  | n + 1, i => by rw [Ob.lexAt_succ, Ob.lexAt_succ, lexAt_shift n (i + 1)]
theorem lexAt_ltL : ∀ ns ms : List Int, Ob.lexAt (fun j => decide (ns.getD j 0 = ms.getD j 0)) (fun j => decide (ns.getD j 0 < ms.getD j 0)) (decide (ns.length < ms.length)) 0 (min ns.length ms.length) = ltL ns ms
  | [], [] => by simp [ltL, Ob.lexAt_zero]
  | [], m :: ms => by simp [ltL, Ob.lexAt_zero]
  | n :: ns, [] => by simp [ltL, Ob.lexAt_zero]
  | n :: ns, m :: ms => by
    have e0 : min (n :: ns).length (m :: ms).length = min ns.length ms.length + 1 := by simp only [List.length_cons]; omega
    rw [e0, Ob.lexAt_succ, lexAt_shift]
    have ih := lexAt_ltL ns ms
    have e1 : decide ((n :: ns).length < (m :: ms).length) = decide (ns.length < ms.length) := by simp
    rw [e1]
    show (if decide (n = m) = true then Ob.lexAt (fun j => decide (ns.getD j 0 = ms.getD j 0)) (fun j => decide (ns.getD j 0 < ms.getD j 0)) (decide (ns.length < ms.length)) 0 (min ns.length ms.length) else decide (n < m)) = _
    rw [ih]
    show _ = (decide (n < m) || (decide (n = m) && ltL ns ms))
    by_cases c : n = m
    · subst c; simp
    · simp [c]
def rLtT (K : PySem.W.Frag) : R2 := fun x y H Q => ∃ (a b : Addr) (ns ms : List Int), x = .ref a ∧ y = .ref b ∧ SqT K H a (ns.map V.int) ∧ SqT K H b (ms.map V.int) ∧ Q (.bl (ltL ns ms)) H
section
variable {prog : Program} {w : World} {A : Around} {E : Value → Shared → Prop} {s : Shared}
theorem ints_at {its : List Value} {ns : List Int} (i1 : IntsAre its ns) : ∀ j (h1 : j < its.toArray.size), ∃ t, its.toArray[j] = .int (ns.getD j 0) t := fun j h1 => PyProof.Rows.IntsAre.int_at i1 _ _ (by
  simp at h1
  simp [h1])
theorem rc_ltL {l b : Addr} {xs ys : List Value} {ns ms : List Int} (h : s.heap.IsTuple l xs.toArray) (h' : s.heap.IsTuple b ys.toArray) (i1 : IntsAre xs ns) (i2 : IntsAre ys ms) (hu : A.units < cLine) : Ob.RcOp .Lt A s (.ref l) (.ref b) (ltL ns ms) := by
  have e1 : xs.toArray.size = ns.length := by rw [List.size_toArray]; exact i1.length
  have e2 : ys.toArray.size = ms.length := by rw [List.size_toArray]; exact i2.length
  have at1 := ints_at i1
  have at2 := ints_at i2
  have R := Ob.RcOp.tuples_lt (A := A) (s := s) (e := fun j => decide (ns.getD j 0 = ms.getD j 0)) (r := fun j => decide (ns.getD j 0 < ms.getD j 0)) h h' hu (fun j h1 h2 => by
    obtain ⟨t, et⟩ := at1 j h1
    obtain ⟨t', et'⟩ := at2 j h2
    rw [et, et', ← bq]
    exact SeqAt.EqAt.int_int _ _ _ _) (fun j h1 h2 _ => by
    obtain ⟨t, et⟩ := at1 j h1
    obtain ⟨t', et'⟩ := at2 j h2
    rw [et, et']
    exact Ob.RcOp.lt_int _ _ _ _)
  rw [e1, e2, lexAt_ltL] at R
  exact R
theorem call_tuple_ltL {Q : Value → Shared → Prop} {l b : Addr} {xs ys : List Value} {ns ms : List Int} (h : s.heap.IsTuple l xs.toArray) (h' : s.heap.IsTuple b ys.toArray) (i1 : IntsAre xs ns) (i2 : IntsAre ys ms)
    (q : Q (.bool (ltL ns ms)) s) : wpAny (model prog w) A (call (.builtin "tuple.__lt__") [.ref l, .ref b]) Q E s := by
  have e1 : xs.toArray.size = ns.length := by rw [List.size_toArray]; exact i1.length
  have e2 : ys.toArray.size = ms.length := by rw [List.size_toArray]; exact i2.length
  have at1 := ints_at i1
  have at2 := ints_at i2
  obtain ⟨⟨cls, dd, data, sl⟩, ho, hc, n, hd⟩ := id h
  obtain ⟨⟨cls2, dd2, data2, sl2⟩, ho2, hc2, n2, hd2⟩ := id h'
  simp only at hc hd hc2 hd2
  subst hc hd hc2 hd2
  refine call_meets F.slot_tuple_lt ⟨_, ho, rfl⟩ F.entry_tuple_lt (F.args_tuple_lt_2 _ _) (Ob.tuple_ltAt l b xs.toArray ys.toArray n n2 dd dd2 sl sl2 (fun j => decide (ns.getD j 0 = ms.getD j 0)) (fun j => decide (ns.getD j 0 < ms.getD j 0))) ⟨ho, ho2, fun j h1 h2 => ?_, fun j h1 h2 _ => ?_, ?_⟩
  · obtain ⟨t, et⟩ := at1 j h1
    obtain ⟨t', et'⟩ := at2 j h2
    rw [et, et', ← bq]
    exact SeqAt.EqAt.int_int _ _ _ _
  · obtain ⟨t, et⟩ := at1 j h1
    obtain ⟨t', et'⟩ := at2 j h2
    rw [et, et']
    exact Ob.RcOp.lt_int _ _ _ _
  · rw [e1, e2, lexAt_ltL]
    exact q
theorem katL {b : Bool} {Q : Bool → Shared → Prop} {fin : Bool} : ∀ {xs ys : List Value} {ns ms : List Int} (i : Nat), IntsAre xs ns → IntsAre ys ms → fin = decide (ns.length < ms.length) → Q (ltL ns ms) s → PySem.W.KatLex prog w A b fin Q (xs.zip ys) i s := by
  intro xs ys ns ms i h1
  induction h1 generalizing ys ms i with
  | nil =>
    intro h2 ef q
    refine PySem.W.kat_nil ?_
    cases h2 with
    | nil => rw [ef]; exact q
    | cons _ _ _ => rw [ef]; exact q
  | @cons p t xs ns hx ih =>
    intro h2 ef q
    cases h2 with
    | nil => exact PySem.W.kat_nil (by rw [ef]; exact q)
    | @cons p2 t2 ys ms hy =>
      have q : Q (decide (p < p2) || (decide (p = p2) && ltL ns ms)) s := q
      refine PySem.W.kat_cons (EqAt.int_int p t p2 t2 prog w _ _ (PySem.W.kat_go (fun e => PySem.W.kat_yes ?_) fun e => PySem.W.kat_no ?_))
      · have e : p = p2 := eq_of_beq e
        subst e
        refine ih (i + 1) hy (by rw [ef]; simp) ?_
        simpa using q
      · have e : ¬ p = p2 := by rw [bq] at e; exact of_decide_eq_false e
        refine TS.oneLt_ints _ ?_
        simpa [e] using q
def IsTL (h : Heap) (v : Value) (ns : List Int) : Prop := ∃ (l : Addr) (its : List Value), v = .ref l ∧ h.IsTuple l its.toArray ∧ IntsAre its ns
theorem lt_l {κ : SortKind} {v u : Value} {ns ms : List Int} {Q : Bool → Shared → Prop} (hκ : κ = tuples' true ∨ κ = general' ∨ κ = oneType') (hv : IsTL s.heap v ns) (hv' : IsTL s.heap u ms) (hu : A.units < cLine) (q : Q (ltL ns ms) s) : wpAny (model prog w) A (keyLt' κ v u) Q E s := by
  obtain ⟨l, xs, rfl, h1, i1⟩ := hv
  obtain ⟨l', ys, rfl, h1', i1'⟩ := hv'
  rcases hκ with rfl | rfl | rfl
  · obtain ⟨o, n, e1, _, e2⟩ := tup_get h1
    obtain ⟨o', n', e1', _, e2'⟩ := tup_get h1'
    refine PySem.W.kat_lt e1 e2 e1' e2' ?_
    have ef : decide (xs.toArray.size < ys.toArray.size) = decide (ns.length < ms.length) := by rw [List.size_toArray, List.size_toArray, i1.length, i1'.length]
    exact katL 0 i1 i1' ef q
  · show wpAny _ _ (oneLt' false _ _) _ _ _
    exact PySem.W.kat_one _ _ (rc_ltL h1 h1' i1 i1' hu prog w _ _ q)
  · rw [keyLt'_oneType, oneLt'_eq]
    simp only [if_true]
    refine wpAny_bind (wpAny_cRoomFor hu ?_)
    refine wpAny_bind (wpAny_callSpecialIfBound?_slot (T := "tuple") (by obtain ⟨o, n, e1, e2, _⟩ := tup_get h1; exact ⟨o, e1, e2⟩) F.slot_tuple_lt (call_tuple_ltL h1 h1' i1 i1' ?_))
    exact wpAny_truthy_bool q
/-! ### the kind of keys -/
def KatO (h : Heap) : List Value → List (Option Value) → Prop
  | [], [] => True
  | v :: vs, f :: fs => (∃ a o xs n, v = .ref a ∧ h.get? a = some o ∧ o.cls = .type "tuple" ∧ o.data = .seq xs n ∧ xs[0]? = f) ∧ KatO h vs fs
  | _, _ => False
theorem kato_firsts {M : Model} : ∀ (vs : List Value) (fs : List (Option Value)) {Q : List (Option Value) → Shared → Prop}, KatO s.heap vs fs → Q fs s → wpAny M A (vs.mapM firstOfTuple') Q E s
  | [], [], _, _, h => by rw [List.mapM_nil]; exact wpAny_pure h
  | [], _ :: _, _, t, _ => t.elim
  | _ :: _, [], _, t, _ => t.elim
  | v :: vs, f :: fs, Q, t, h => by
    obtain ⟨⟨a, o, xs, n, rfl, ho, hc, hd, hf⟩, t⟩ := t
    rw [List.mapM_cons]
    refine wpAny_bind ?_
    rw [kas_first_eq]
    refine wpAny_bind (Looks.here (show Looks M s.heap (typeOf (.ref a)) o.cls from (Looks.ld ho).andThen .now) ?_)
    rw [hc, if_neg (by first | decide | simp)]
    refine wpAny_bind (listItems_at ho hd (wpAny_pure ?_))
    rw [hf]
    exact wpAny_bind (kato_firsts vs fs (Q := fun bs s' => wpAny M A (pure (f :: bs)) Q E s') t (wpAny_pure h))
theorem kind_l {vs : List Value} (h0 : 0 < vs.length) (hv : ∀ v ∈ vs, ∃ ns, IsTL s.heap v ns) : ∃ κ, (κ = tuples' true ∨ κ = general' ∨ κ = oneType') ∧ ∀ (Q : SortKind → Shared → Prop) (E : Value → Shared → Prop), Q κ s → wpAny (model prog w) A (keyKind' vs.toArray) Q E s := by
  by_cases all : ∀ v ∈ vs, ∃ n ns, IsTL s.heap v (n :: ns)
  · obtain ⟨fs, k1, k2, k3⟩ : ∃ fs, PySem.W.KatTups s.heap vs fs ∧ fs.length = vs.length ∧ ∀ f ∈ fs, ∃ n t, f = Value.int n t := by
      clear h0 hv
      induction vs with
      | nil => exact ⟨[], .nil, rfl, fun _ h => by cases h⟩
      | cons v vs ih =>
        obtain ⟨fs, k1, k2, k3⟩ := ih fun v hv => all v (List.mem_cons_of_mem _ hv)
        obtain ⟨n, ns, l, its, rfl, ht, hi⟩ := all v List.mem_cons_self
        obtain ⟨o, k, e1, e2, e3⟩ := tup_get ht
        cases hi with
        | @cons p t xs ns hx =>
          refine ⟨.int n t :: fs, .cons e1 e2 e3 rfl k1, by rw [List.length_cons, List.length_cons, k2], fun f hf => ?_⟩
          rcases List.mem_cons.mp hf with e | e
          · exact ⟨n, t, e⟩
          · exact k3 f e
    refine ⟨tuples' true, .inl rfl, fun Q E q => PySem.W.kat_kind (T := .type "int") k1 (by omega) (fun v hv => ?_) (by rfl) (by rw [show (Value.type "int" != Value.type "tuple") = true from by decide +kernel]; exact q)⟩
    obtain ⟨n, t, rfl⟩ := k3 v hv
    exact PySem.W.Looks.now
  · obtain ⟨fs, k1, k2, k3⟩ : ∃ fs, KatO s.heap vs fs ∧ fs.length = vs.length ∧ ¬ (fs.all (·.isSome)) = true := by
      clear h0
      induction vs with
      | nil => exact absurd (fun v hv => by cases hv) all
      | cons v vs ih =>
        obtain ⟨ns, l, its, rfl, ht, hi⟩ := hv v List.mem_cons_self
        obtain ⟨o, k, e1, e2, e3⟩ := tup_get ht
        have gen : ∀ vs : List Value, (∀ v ∈ vs, ∃ ns, IsTL s.heap v ns) → ∃ fs, KatO s.heap vs fs ∧ fs.length = vs.length := by
          intro vs hv
          induction vs with
          | nil => exact ⟨[], trivial, rfl⟩
          | cons v vs ih =>
            obtain ⟨fs, q1, q2⟩ := ih fun v h => hv v (List.mem_cons_of_mem _ h)
            obtain ⟨ns, l, its, rfl, ht, hi⟩ := hv v List.mem_cons_self
            obtain ⟨o, k, e1, e2, e3⟩ := tup_get ht
            exact ⟨_ :: fs, ⟨⟨l, o, _, k, rfl, e1, e2, e3, rfl⟩, q1⟩, by rw [List.length_cons, List.length_cons, q2]⟩
        cases hi with
        | nil =>
          obtain ⟨fs, q1, q2⟩ := gen vs fun v h => hv v (List.mem_cons_of_mem _ h)
          exact ⟨none :: fs, ⟨⟨l, o, _, k, rfl, e1, e2, e3, rfl⟩, q1⟩, by rw [List.length_cons, List.length_cons, q2], by simp⟩
        | @cons p t xs ns hx =>
          obtain ⟨fs, q1, q2, q3⟩ := ih (fun v h => hv v (List.mem_cons_of_mem _ h)) fun z => all fun v h => by
            rcases List.mem_cons.mp h with rfl | h
            · exact ⟨p, ns, l, _, rfl, ht, .cons p t hx⟩
            · exact z v h
          exact ⟨some (.int p t) :: fs, ⟨⟨l, o, _, k, rfl, e1, e2, e3, rfl⟩, q1⟩, by rw [List.length_cons, List.length_cons, q2], by simpa using q3⟩
    have go : ∃ κ : SortKind, (κ = general' ∨ κ = oneType') ∧ ∀ (Q : SortKind → Shared → Prop) (E : Value → Shared → Prop), Q κ s → wpAny (model prog w) A (keyKind' vs.toArray) Q E s := by
      by_cases c : ((fs.toArray)[0]?.bind id).isSome = true
      · refine ⟨general', .inl rfl, fun Q E q => ?_⟩
        rw [kat_kind_eq, List.mapM_toArray, map_eq_pure_bind]
        refine wpAny_bind (wpAny_bind (kato_firsts vs fs k1 (wpAny_pure ?_)))
        rw [if_neg (by simpa using k3), if_pos c]
        exact wpAny_pure q
      · refine ⟨oneType', .inr rfl, fun Q E q => ?_⟩
        rw [kat_kind_eq, List.mapM_toArray, map_eq_pure_bind]
        refine wpAny_bind (wpAny_bind (kato_firsts vs fs k1 (wpAny_pure ?_)))
        rw [if_neg (by simpa using k3), if_neg c]
        rw [oneTypeOnly'_eq, List.mapM_toArray, map_eq_pure_bind]
        have hT : ∀ v ∈ vs, Looks (model prog w) s.heap (typeOf v) (.type "tuple") := fun v h => by
          obtain ⟨ns, l, its, e, ht, hi⟩ := hv v h
          subst e
          obtain ⟨o, k, e1, e2, e3⟩ := tup_get ht
          intro A Q E s kp q
          exact wpAny_typeOf ⟨o, kp _ _ e1, e2⟩ q
        refine wpAny_bind (wpAny_bind (wpAny_bind (kas_mapM (r := .type "tuple") _ (fun v hv Q' hq => (hT v hv).here hq) (wpAny_pure ?_))))
        obtain ⟨v₁, vr, rfl⟩ : ∃ v₁ vr, vs = v₁ :: vr := by
          match vs, h0 with
          | v₁ :: vr, _ => exact ⟨v₁, vr, rfl⟩
        have hall2 : ((List.map (fun _ => Value.type "tuple") (v₁ :: vr)).toArray.all fun x => x == Value.type "tuple") = true := by
          simp only [List.all_toArray, List.all_map, List.all_eq_true]
          intro _ _
          rfl
        have h0 : (List.map (fun _ => Value.type "tuple") (v₁ :: vr)).toArray[0]? = some (Value.type "tuple") := by simp
        rw [h0]
        simp only [hall2, if_true]
        exact wpAny_pure (wpAny_pure q)
    obtain ⟨κ, a, b⟩ := go
    exact ⟨κ, .inr a, b⟩
end
theorem op_ltT {X : Cx} (hu : X.A.units < cLine) : OpR X (compareOp .Lt) (rLtT X.K) := by
  intro pins s σ H x y v u Q I rx ry h
  obtain ⟨a, b, ns, ms, rfl, rfl, ha, hb, q⟩ := h
  cases rx
  cases ry
  obtain ⟨its, r1, p1, _⟩ := I.tuple ha
  obtain ⟨its2, r2, p2, _⟩ := I.tuple hb
  have i1 : IntsAre its ns := Vals.ints r1
  have i2 : IntsAre its2 ms := Vals.ints r2
  exact rc_ltL p1 p2 i1 i2 hu X.prog X.w X.xe _ ⟨.bl _, H, I, rfl, q⟩
theorem k_op_ltT (K : PySem.W.Frag) {X : Cx} (hu : X.A.units < cLine) (hK : X.K = K := by rfl) : OpR X (compareOp .Lt) (rLtT K) := by subst hK; exact op_ltT hu
theorem ltL_pair {a b c d : Int} : ltL [a, b] [c, d] = (decide (a < c) || (decide (a = c) && decide (b < d))) := by simp [ltL]
def rSortedL (K : PySem.W.Frag) : List V → Hp → VK → Prop := fun vs H Q => ∃ (a : Addr) (xs : List V) (key : V → List Int), vs = [.ref a] ∧ SqL K H a xs ∧
  (∀ x ∈ xs, ∃ t, x = .ref t ∧ SqT K H t ((key x).map V.int)) ∧
  ∀ (ys : List V) (p : Addr), ys.Perm xs → ys.Pairwise (fun x y => ltL (key y) (key x) = false) → H p = none → Q (.ref p) (upd H p (.lst ys))
theorem ltL_irr : ∀ a : List Int, ltL a a = false
  | [] => rfl
  | x :: xs => by simp [ltL, ltL_irr xs]
theorem ltL_asym : ∀ a b : List Int, ltL a b = true → ltL b a = false
  | [], [], h => by simp [ltL] at h
  | x :: xs, [], h => by simp [ltL] at h
  | [], y :: ys, _ => rfl
  | x :: xs, y :: ys, h => by
    have ih := ltL_asym xs ys
    simp only [ltL, Bool.or_eq_true, Bool.and_eq_true, decide_eq_true_eq, Bool.or_eq_false_iff, Bool.and_eq_false_iff, decide_eq_false_iff_not] at h ⊢
    rcases h with h | ⟨h, h2⟩
    · exact ⟨by omega, .inl (by omega)⟩
    · exact ⟨by omega, .inr (ih h2)⟩
theorem ltL_tr : ∀ a b c : List Int, ltL b a = false → ltL c b = false → ltL c a = false
  | [], _, c, _, _ => by cases c <;> rfl
  | x :: xs, [], c, h, _ => by simp [ltL] at h
  | x :: xs, y :: ys, [], _, h2 => by simp [ltL] at h2
  | x :: xs, y :: ys, z :: zs, h, h2 => by
    have ih := ltL_tr xs ys zs
    simp only [ltL, Bool.or_eq_false_iff, Bool.and_eq_false_iff, decide_eq_false_iff_not] at h h2 ⊢
    refine ⟨by omega, ?_⟩
    by_cases e : z = x
    · have e1 : y = x := by omega
      subst e1 e
      exact .inr (ih (h.2.resolve_left (by simp)) (h2.2.resolve_left (by simp)))
    · exact .inl e
theorem ltL_tot : ∀ a b : List Int, ltL a b = false → ltL b a = false → a = b
  | [], [], _, _ => rfl
  | [], y :: ys, h, _ => by simp [ltL] at h
  | x :: xs, [], _, h => by simp [ltL] at h
  | x :: xs, y :: ys, h, h2 => by
    simp only [ltL, Bool.or_eq_false_iff, Bool.and_eq_false_iff, decide_eq_false_iff_not] at h h2
    have e : x = y := by omega
    subst e
    rw [ltL_tot xs ys (h.2.resolve_left (by simp)) (h2.2.resolve_left (by simp))]
theorem swoL (key : Value → List Int) : SrtO.Swo fun v u => ltL (key v) (key u) := ⟨fun x y h => ltL_asym _ _ h, fun x y z h1 h2 => ltL_tr _ _ _ h1 h2⟩
def keyVL (key : V → List Int) : Value → List Int
  | .ref t => key (.ref t)
  | _ => []
theorem IsTL.keep {h h' : Heap} {v : Value} {ns : List Int} {a : Addr} (w : IsTL h v ns) (na : ∀ l its, h.IsTuple l its → l ≠ a) (kp : ∀ b o, b ≠ a → h.get? b = some o → h'.get? b = some o) : IsTL h' v ns := by
  obtain ⟨l, its, e, t, i⟩ := w
  obtain ⟨o, h1, h2, n, h3⟩ := id t
  exact ⟨l, its, e, ⟨o, kp _ _ (na _ _ t) h1, h2, n, h3⟩, i⟩
theorem cr_sortedL {X : Cx} (hu : X.A.in1.in1.units < cLine) : CallR X (.builtin "sorted") (rSortedL X.K) := by
  intro pins s σ H xs us Q I r h
  obtain ⟨a, xs, key, rfl, hx, hk, q⟩ := h
  cases r with
  | cons c r =>
  cases r
  cases c
  obtain ⟨its, rv, pl, hz⟩ := I.list hx
  have refs : ∀ x ∈ xs, ∃ t, x = V.ref t := fun x hx => let ⟨t, e, _⟩ := hk x hx; ⟨t, e⟩
  have all : ∀ v ∈ its, IsTL s.heap v (keyVL key v) ∧ backV v ∈ xs := fun v hv => by
    obtain ⟨x, hx1, rx⟩ := vals_mem rv hv
    obtain ⟨t, rfl, h1⟩ := hk x hx1
    cases rx
    obtain ⟨its, r, p, _⟩ := I.tuple h1
    exact ⟨⟨t, its, rfl, p, Vals.ints r⟩, hx1⟩
  have keyb : ∀ v ∈ its, keyVL key v = key (backV v) := fun v hv => by
    obtain ⟨x, hx1, rx⟩ := vals_mem rv hv
    obtain ⟨t, rfl⟩ := refs x hx1
    cases rx
    rfl
  refine SrtO.sorted_ord (ltv := fun v u => ltL (keyVL key v) (keyVL key u)) (swoL (keyVL key)) pl.isList (by rw [← rv.length]; exact hz) (fun h2 h₁ a₁ g1 g2 => ?_) (fun out srt stb => ?_)
  · intro h' kp
    have W : ∀ v ∈ its, IsTL h' v (keyVL key v) := fun v hv => by
      refine (all v hv).1.keep (a := a₁) (fun l its2 t => ?_) fun b o nb e => kp b o nb (g2 b o e).2
      obtain ⟨o, n, e1, _, _⟩ := tup_get t
      exact (g2 l o e1).1
    obtain ⟨κ, hκ, kk⟩ := kind_l (prog := X.prog) (w := X.w) (A := X.A.in1.in1) (s := ⟨h', s.gens, s.drawn, s.toks, s.os⟩) (vs := its) (by omega) fun v hv => ⟨_, W v hv⟩
    refine ⟨κ, fun Q E q => kk Q E q, fun p u hp hu' => ?_⟩
    exact lt_l (s := ⟨h', s.gens, s.drawn, s.toks, s.os⟩) hκ (W p.1 hp) (W u.1 hu') hu ⟨rfl, rfl⟩
  · obtain ⟨e, he⟩ := sortedAll_at s.heap its out.toArray
    have pm := stb.perm
    have or_ : ∀ u ∈ out, ∃ t, u = Value.ref t := fun u hu => by
      obtain ⟨x, hx1, rx⟩ := vals_mem rv (pm.mem_iff.mp hu)
      obtain ⟨t, rfl⟩ := refs x hx1
      cases rx
      exact ⟨t, rfl⟩
    have ro := vals_back or_
    have py : (out.map backV).Perm xs := by
      have := pm.map backV
      rw [back_vals rv refs] at this
      exact this
    have new : H (s.heap.objs.size + 1) = none := I.hok.fresh (by omega)
    refine ⟨.ref (s.heap.objs.size + 1), _, I.laid (t' := s.toks) (o := .lst (out.map backV)) (fun b ob q => sortedAll_old q) (by omega) ?_, rfl, q (out.map backV) _ py ?_ new⟩
    · exact ⟨by rw [py.length_eq]; exact hz, out, _, ro, he⟩
    · refine List.pairwise_map.mpr (srt.imp_of_mem fun {x y} hx hy h => ?_)
      have mx := pm.mem_iff.mp hx
      have my := pm.mem_iff.mp hy
      rw [← keyb _ mx, ← keyb _ my]
      exact h
end GA
/-! ## GED -/
namespace PySem
open Sem (wp)
section
variable {prog : Program} {w : World} {A : Around} {E : Value → Shared → Prop} {s : Shared}
theorem ga_nextOf_key_item {it d : Addr} {i n ep : Nat} {od : Obj} {es : Array DictEntry} {en : DictEntry} {Q : Value → Shared → Prop} (hit : s.heap.IsKeyIter it d i n ep) (hod : s.heap.get? d = some od) (hdd : od.data = .dict es ep)
    (hsz : es.size = n) (hx : es[i]? = some en) (hQ : ∀ h', h'.IsKeyIter it d (i + 1) n ep → Heap.SameBut it s.heap h' → Q en.key { s with heap := h' }) : wpAny (model prog w) A (Builtin.SmallTypes.nextOf (.ref it)) Q E s := by
  obtain ⟨o, ho, hc, hd⟩ := id hit
  unfold Builtin.SmallTypes.nextOf
  refine wpAny_bind (wpAny_callSpecial?_slot (name := Str.ofString "__next__") hit.typeIs F.slot_dict_keyiterator_next
    (wpAny_call_entry F.slot_dict_keyiterator_next hit.typeIs F.entry_dict_keyiterator_next ?_ (F.args_dict_keyiterator_next_1 _)))
  refine wpAny_bind (wpAny_pure ?_)
  refine wpAny_bind ?_
  refine wpAny_bind ?_
  first | refine wpAny_bind (wpAny_typeNameOfWhole_keyiter hit.typeIs (wpAny_pure ?_)) | refine wpAny_bind (wpAny_typeNameOf_keyiter hit.typeIs (wpAny_pure ?_))
  refine wpAny_bind (wpAny_fieldsOf ho hd ?_)
  have hown : Builtin.Dict_items.ownsTuple "dict_keyiterator" = false := by decide
  simp only [hown, Bool.false_eq_true, if_false]
  show wpAny _ _ (if (Value.ref d == Value.none) = true then _ else _) _ _ s
  rw [if_neg (show ¬ ((Value.ref d == Value.none) = true) from Bool.false_ne_true)]
  refine wpAny_bind (wpAny_pure ?_)
  refine wpAny_bind (wpAny_dictEntries hod hdd ?_)
  rw [if_neg (by rw [hsz]; simp)]
  refine wpAny_bind (wpAny_pure ?_)
  refine wpAny_bind (wpAny_dictEpoch hod hdd ?_)
  rw [if_neg (by simp)]
  refine wpAny_pure ?_
  obtain ⟨hlt', hen⟩ := Array.getElem?_eq_some_iff.mp hx
  simp only [show ¬ ((i : Int) < 0) from by omega, if_false, Int.toNat_natCast, Array.getElem?_eq_getElem hlt']
  refine wpAny_bind ?_
  first | refine wpAny_bind (wpAny_typeNameOfWhole_keyiter hit.typeIs (wpAny_pure ?_)) | refine wpAny_bind (wpAny_typeNameOf_keyiter hit.typeIs (wpAny_pure ?_))
  refine wpAny_bind (wpAny_isOneOf_keyiter hit.typeIs ?_)
  show wpAny _ _ (setField (.ref it) 1 (rawInt ((i : Int) + 1)) >>= _) _ _ s
  refine wpAny_bind (wpAny_setField ho hd (by simp) ?_)
  have hit' : (s.heap.update it (Obj.mapFields (·.setIfInBounds 1 (rawInt ((i : Int) + 1))))).IsKeyIter it d (i + 1) n ep :=
    ⟨_, Heap.get?_update_self _ ho (Obj.isFreed_of_fields (Obj.data_mapFields hd _)), (Obj.cls_mapFields ..).trans hc, by rw [Obj.data_mapFields hd]; simp [rawInt]⟩
  refine wpAny_bind (wpAny_holding ?_)
  refine wpAny_bind (wpAny_isOneOf_keyiter (s := { s with heap := s.heap.update it (Obj.mapFields (·.setIfInBounds 1 (rawInt ((i : Int) + 1)))) }) hit'.typeIs ?_)
  show wpAny _ _ (pure es[i].key) _ _ _
  rw [hen]
  exact wpAny_pure (wpAny_pure ⟨_, rfl, wpAny_pure (hQ _ hit' (Heap.SameBut.update ..))⟩)
theorem ga_nextOf_key_end {it d : Addr} {i n ep : Nat} {od : Obj} {es : Array DictEntry} {Q : Value → Shared → Prop} (hh : A.handled = none) (hit : s.heap.IsKeyIter it d i n ep) (hod : s.heap.get? d = some od) (hdd : od.data = .dict es ep)
    (hsz : es.size = n) (hge : n ≤ i) (hE : ∀ h' e, Heap.ExtBut it s.heap h' → (∃ o, h'.get? e = some o ∧ o.cls = .type "StopIteration") → E (.ref e) { s with heap := h' }) : wpAny (model prog w) A (Builtin.SmallTypes.nextOf (.ref it)) Q E s := by
  obtain ⟨o, ho, hc, hd⟩ := id hit
  unfold Builtin.SmallTypes.nextOf
  refine wpAny_bind (wpAny_callSpecial?_slot (name := Str.ofString "__next__") hit.typeIs F.slot_dict_keyiterator_next
    (wpAny_call_entry F.slot_dict_keyiterator_next hit.typeIs F.entry_dict_keyiterator_next ?_ (F.args_dict_keyiterator_next_1 _)))
  refine wpAny_bind (wpAny_pure ?_)
  refine wpAny_bind ?_
  refine wpAny_bind ?_
  first | refine wpAny_bind (wpAny_typeNameOfWhole_keyiter hit.typeIs (wpAny_pure ?_)) | refine wpAny_bind (wpAny_typeNameOf_keyiter hit.typeIs (wpAny_pure ?_))
  refine wpAny_bind (wpAny_fieldsOf ho hd ?_)
  have hown : Builtin.Dict_items.ownsTuple "dict_keyiterator" = false := by decide
  simp only [hown, Bool.false_eq_true, if_false]
  show wpAny _ _ (if (Value.ref d == Value.none) = true then _ else _) _ _ s
  rw [if_neg (show ¬ ((Value.ref d == Value.none) = true) from Bool.false_ne_true)]
  refine wpAny_bind (wpAny_pure ?_)
  refine wpAny_bind (wpAny_dictEntries hod hdd ?_)
  rw [if_neg (by rw [hsz]; simp)]
  refine wpAny_bind (wpAny_pure ?_)
  refine wpAny_bind (wpAny_dictEpoch hod hdd ?_)
  rw [if_neg (by simp)]
  refine wpAny_pure ?_
  have hge' : es.size ≤ i := by rw [hsz]; exact hge
  simp only [show ¬ ((i : Int) < 0) from by omega, if_false, Int.toNat_natCast, Array.getElem?_eq_none hge']
  refine wpAny_bind ?_
  first | refine wpAny_bind (wpAny_typeNameOfWhole_keyiter hit.typeIs (wpAny_pure ?_)) | refine wpAny_bind (wpAny_typeNameOf_keyiter hit.typeIs (wpAny_pure ?_))
  show wpAny _ _ (setField (.ref it) 0 .none >>= _) _ _ s
  refine wpAny_bind (wpAny_setField ho hd (by simp) ?_)
  show wpAny _ _ (newExc (.type "StopIteration") [] >>= _) _ _ _
  refine wpAny_bind ?_
  simp only [newExc, newTuple]
  refine wpAny_bind (wpAny_newObj_type ?_ (by size_fits))
  refine wpAny_bind (m := firstArgMember _ _) (wpAny_of_eq (a := Value.none) (by first | rfl | (simp only [firstArgMember]; rfl)) ?_)
  refine wpAny_newObj_type ?_ (by size_fits)
  simp only [raiseNew]
  refine wpAny_bind (wpAny_handled ?_)
  first | rw [show A.in1.handled = none from hh] | rw [hh]
  refine wpAny_bind (wpAny_pure (wpAny_throw ?_))
  exact hE _ _ (((Heap.SameBut.update ..).extBut.push _).push _) ⟨_, Heap.get?_push_size _ rfl, rfl⟩
end
theorem ga_draws_keys {prog : Program} {w : World} {A : Around} (hh : A.handled = none) (it d : Addr) (hne : d ≠ it) (es : Array DictEntry) (ep : Nat) :
    Draws prog w A it [it, d] es.size (fun i v => ∃ en, es[i]? = some en ∧ v = en.key) (fun i h => h.IsKeyIter it d i es.size ep ∧ ∃ od, h.get? d = some od ∧ od.data = .dict es ep) where
  live := fun _ _ st => let ⟨o, ho, _⟩ := st.1; ⟨o, ho⟩
  frame := fun _ _ _ st hk => ⟨st.1.at fun o e => hk it (by simp) o e, let ⟨od, h1, h2⟩ := st.2; ⟨od, hk d (by simp) od h1, h2⟩⟩
  item := fun i s Q E hi st hQ => by
    obtain ⟨st1, od, h1, h2⟩ := st
    exact ga_nextOf_key_item st1 h1 h2 rfl (Array.getElem?_eq_getElem hi) fun h' hit' sb => hQ _ h' s.toks ⟨_, Array.getElem?_eq_getElem hi, rfl⟩ ⟨hit', od, (sb.2 d hne).trans h1, h2⟩ sb
  done := fun s Q E st hE => by
    obtain ⟨st1, od, h1, h2⟩ := st
    exact ga_nextOf_key_end hh st1 h1 h2 rfl (Nat.le_refl _) hE
theorem ga_enumerate_newD (d : Addr) (o : Obj) (es : Array DictEntry) (ep : Nat) (hs : (d == sysModules) = false) (hc : o.ExactDict) (hdat : o.data = .dict es ep) :
    Meets (Builtin.«enumerate.__new__» ⟨[.type "enumerate", .ref d], []⟩) (fun _ R s => s.heap.get? d = some o ∧
      R (.ok (.ret (.ref (s.heap.push { cls := .type "dict_keyiterator", data := .fields #[.ref d, .int 0 0, .int es.size 0, .int ep 0] }).objs.size)))
        { s with heap := (s.heap.push { cls := .type "dict_keyiterator", data := .fields #[.ref d, .int 0 0, .int es.size 0, .int ep 0] }).push { cls := .type "enumerate", data := .fields #[.none, .bool false, .ref s.heap.objs.size, rawInt 0, .none, .none] } }) :=
  .of_wp fun prog w A R s h => by
    obtain ⟨hp, g, dd, tk, os⟩ := s; obtain ⟨hl, h⟩ := h
    have hsub := sub_enumerate
    have hL : Heap.get? (Shared.heap ⟨hp, g, dd, tk, os⟩) d = some o := hl
    wp_walk using AutoSeq1.wpAny_loadPart' hl
    refine wpAny_stack_any fun st => wpAny_pure ?_
    split
    · rename_i c _ _ _ _ _
      cases (c == Value.type "enumerate")
      · wp_walk using AutoSeq1.wpAny_loadPart' hl, L2.iter_keys hs hL hc hdat
        exact ⟨_, rfl, h⟩
      · wp_walk using AutoSeq1.wpAny_loadPart' hl, L2.iter_keys hs hL hc hdat
        exact ⟨_, rfl, h⟩
    · wp_walk using AutoSeq1.wpAny_loadPart' hl, L2.iter_keys hs hL hc hdat
      exact ⟨_, rfl, h⟩
theorem ga_enumerate_dict {prog : Program} {w : World} {A : Around} {E : Value → Shared → Prop} {s : Shared} {d : Addr} {o : Obj} {es : Array DictEntry} {ep : Nat} {Q : Value → Shared → Prop} (hs : (d == sysModules) = false) (hL : s.heap.get? d = some o) (hc : o.ExactDict) (hdat : o.data = .dict es ep)
    (h : ∀ h', IsEnum h' (s.heap.objs.size + 1) s.heap.objs.size 0 .none → h'.IsKeyIter s.heap.objs.size d 0 es.size ep → h'.objs.size = s.heap.objs.size + 2 →
      (∀ b o, s.heap.get? b = some o → h'.get? b = some o) → Q (.ref (s.heap.objs.size + 1)) { s with heap := h' }) :
    wpAny (model prog w) A (call (.type "enumerate") [.ref d]) Q E s := by
  refine callType_new F.called_enumerate (by decide) (F.typeCall_enumerate_1 _) (F.newCall_enumerate_1 _) (fun obj => F.args_object_init_2 obj _) F.entry_enumerate_new
    (ga_enumerate_newD d o es ep hs hc hdat) ⟨hL, ?_⟩
  have hz : (s.heap.push { cls := .type "dict_keyiterator", data := .fields #[.ref d, .int 0 0, .int es.size 0, .int ep 0] }).objs.size = s.heap.objs.size + 1 := Heap.size_push ..
  show _ ∧ _
  rw [hz]
  have he : IsEnum ((s.heap.push { cls := .type "dict_keyiterator", data := .fields #[.ref d, .int 0 0, .int es.size 0, .int ep 0] }).push
      { cls := .type "enumerate", data := .fields #[.none, .bool false, .ref s.heap.objs.size, rawInt 0, .none, .none] }) (s.heap.objs.size + 1) s.heap.objs.size 0 .none := by
    have := Heap.get?_push_size (s.heap.push { cls := .type "dict_keyiterator", data := .fields #[.ref d, .int 0 0, .int es.size 0, .int ep 0] })
      (o := { cls := .type "enumerate", data := .fields #[.none, .bool false, .ref s.heap.objs.size, rawInt 0, .none, .none] }) rfl
    rw [hz] at this; exact this
  refine ⟨⟨_, he, rfl⟩, h _ he ⟨_, Heap.get?_push_of_some _ (Heap.get?_push_size _ rfl), rfl, rfl⟩ (by rw [Heap.size_push, hz]) fun b o x => Heap.get?_push_of_some _ (Heap.get?_push_of_some _ x)⟩
end PySem
namespace GA
open PySem PySem.Spec PyProof.Rows L2
/-- enumerate over a dict that is locked: its keys -/
def IteD (d : Addr) (o : Obj) (kvs : List (Key × V)) : It :=
  ⟨fun i H => H d = some (.frz o (.dK kvs)) ∧ i < kvs.length, fun i H v H' => ∃ T k x, kvs[i]? = some (k, x) ∧ v = .ref T ∧ H T = none ∧ H' = upd H T (.tup [.int (i : Nat), kV k]), fun i H => H d = some (.frz o (.dK kvs)) ∧ kvs.length ≤ i⟩
theorem turn_enumD {P : Program} {w : World} {K : PySem.W.Frag} {elts : List Expr} {kk : Nat} {tpos : Pos} {d e it : Addr} {o : Obj} {kvs : List (Key × V)} {es : Array DictEntry} {ep : Nat} (nai : d ≠ it) (nae : d ≠ e) (hod : o.data = .dict es ep) :
    Turn P w K (.Tuple elts kk tpos) (IteD d o kvs) [e, it] e (fun i h => (∃ old, IsEnum h e it ((i : Nat) : Int) old) ∧ h.IsKeyIter it d i kvs.length ep ∧ e ≠ it) where
  mem := by simp
  obj := fun i h st b hb => by
    obtain ⟨⟨old, he⟩, ⟨o, ho, hc, hd⟩, _⟩ := st
    have e' : b = e ∨ b = it := by simpa using hb
    rcases e' with z | z
    · rw [z]; exact ⟨_, he, fun v q => nomatch q⟩
    · rw [z]; exact ⟨o, ho, fun v q => by rw [hd] at q; cases q⟩
  keep := fun i h h' st k => let ⟨⟨old, he⟩, hi, hne⟩ := st; ⟨⟨old, k e (by simp) _ he⟩, hi.at fun o q => k it (by simp) o q, hne⟩
  item := by
    intro X hP hw hK hc i pins s σ H E I hf st hg
    subst hP hw hK
    obtain ⟨⟨old, he⟩, hit, hne⟩ := st
    obtain ⟨hd, hi⟩ := hg
    obtain ⟨hs, hgd, hx, es', ep', vs, hdt, hsz, kv, hm⟩ := I.frzK hd
    obtain ⟨rfl, rfl⟩ := dict_ep hod hdt
    obtain ⟨⟨k, v⟩, hkv⟩ : ∃ p, kvs[i]? = some p := ⟨kvs[i], List.getElem?_eq_getElem hi⟩
    obtain ⟨u, hu, ru⟩ := kv_get kv hkv
    have hel : e < s.heap.objs.size := Heap.lt_size he
    have hil : it < s.heap.objs.size := by obtain ⟨_, q, _⟩ := hit; exact Heap.lt_size q
    rw [← hsz] at hit
    refine wpAny_pyNext_enum_itemD (ga_draws_keys (prog := X.prog) (w := X.w) (A := X.A.in1) (I.ok.hd hc) it d nai es' ep') he ⟨hit, o, hgd, hdt⟩ (by omega) hne (by simp [hne, Ne.symm nae]) fun v' h' tk hv ho hst hT hsz' hk => ?_
    obtain ⟨en, hen, rfl⟩ := hv
    have key : keyIs k en.key = true := by
      obtain ⟨o2, es2, g1, g2, g3, g4, g5, g6⟩ := id hm
      rw [hgd] at g1
      cases g1
      obtain ⟨rfl, _⟩ := dict_ep hdt g3
      exact (g5.get? (e := en) (by simpa using hen) hu).1
    refine ⟨_, rfl, wpAny_letOwnedTupleGo_enum (s := { s with heap := h', toks := tk + 1 }) ho fun h'' he' sb => ?_⟩
    have hT2 : h''.get? s.heap.objs.size = some { cls := .type "tuple", data := .seq #[.int i tk, en.key] } := (sb.2 _ (Nat.ne_of_gt hel)).trans hT
    have new : ObjOk X.prog X.w (upd H s.heap.objs.size (.tup [.int (i : Nat), kV k])) h'' s.heap.objs.size (.tup [.int (i : Nat), kV k]) :=
      ⟨by show 2 ≤ sizeLine; decide, [.int i tk, en.key], .cons ⟨_, rfl⟩ (.cons (relV_key key) .nil), ⟨_, hT2, rfl, _, rfl⟩⟩
    have I1 : Inv X pins σ (upd H s.heap.objs.size (.tup [.int (i : Nat), kV k])) { s with heap := h'', toks := tk + 1 } :=
      I.turnedNew (ch := [e, it]) (fun b ob hb q => (sb.2 b (fun z => hb (by simp [z]))).trans (hk b ob (fun z => hb (by simp [z])) (fun z => hb (by simp [z])) q)) hf (Nat.le_refl _) new
    refine ⟨.ref s.heap.objs.size, _, I1, rfl, ⟨_, k, v, hkv, rfl, I.hok.fresh (Nat.le_refl _), rfl⟩, ⟨⟨en.key, ?_⟩, ?_, hne⟩, fun b hb => ?_⟩
    · have e1 : ((i + 1 : Nat) : Int) = (i : Int) + 1 := by omega
      rw [e1]; exact he'
    · rw [← hsz]
      exact hst.1.at fun o q => (sb.2 it (Ne.symm hne)).trans q
    · have hb' : b < s.heap.objs.size := by
        have e' : b = e ∨ b = it := by simpa using hb
        rcases e' with z | z
        · rw [z]; exact hel
        · rw [z]; exact hil
      rw [upd_ne (Nat.ne_of_lt hb')]
      exact (hf b hb).1
  done := by
    intro X hP hw hK hc i pins s σ H E I hf st hg
    subst hP hw hK
    obtain ⟨⟨old, he⟩, hit, hne⟩ := st
    obtain ⟨hd, hi⟩ := hg
    obtain ⟨hs, hgd, hx, es', ep', vs, hdt, hsz, kv, hm⟩ := I.frzK hd
    obtain ⟨rfl, rfl⟩ := dict_ep hod hdt
    obtain ⟨f0, f1, f2, f3, f4, f5⟩ := hf it (by simp)
    have hT : s.TypeIs (.ref e) "enumerate" := ⟨_, he, rfl⟩
    unfold pyNext
    refine wpAny_bind (wpAny_attempt (wpAny_callSpecial?_slot (name := Str.ofString "__next__") hT F.slot_enumerate_next
      (wpAny_call_entry F.slot_enumerate_next hT F.entry_enumerate_next ?_ (F.args_enumerate_next_1 _))))
    show wpAny _ _ (field (.ref e) 2 >>= _) _ _ _
    refine wpAny_bind (wpAny_field he rfl (x := .ref it) rfl ?_)
    refine wpAny_bind (ga_nextOf_key_end (I.ok.hd hc) hit hgd hdt hsz hi fun h' x' he' hx' => ?_)
    obtain ⟨o, ho, hc'⟩ := hx'
    refine wpAny_bind (wpAny_isInstance (T := "StopIteration") (b := true) ⟨o, ho, hc'⟩ isSubtype_stop ?_)
    exact wpAny_pure ⟨rfl, I.turned (t' := s.toks) (fun b o hb q => he' b o hb q) f0 f1 f3 f4 f5⟩
  self := by
    intro A i s Q E st h
    obtain ⟨⟨old, he⟩, _⟩ := st
    exact wpAny_pyIter_enum he h
def iEnumD (ta : TA) : TI := fun σ H R => ta σ H fun vs H1 => ∃ d o kvs, vs = [.ref d] ∧ H1 d = some (.frz o (.dK kvs)) ∧ R (IteD d o kvs) H1
theorem w_ienumD {ta : TA} {σ : L2.St} {H : Hp} {R : It → Hp → Prop} (q : ta σ H fun vs H1 => ∃ d o kvs, vs = [.ref d] ∧ H1 d = some (.frz o (.dK kvs)) ∧ R (IteD d o kvs) H1) : iEnumD ta σ H R := q
theorem pi_enumD {X : Cx} {e : Expr} {ta : TA} {p pos tpos : Pos} {elts : List Expr} {kk : Nat} (hg : Gl X "enumerate") (hm : X.mg "enumerate" = none) (ha : PA X [e] ta) (hs : starEach [e] X.env = [(false, eval e X.env)] := by rfl) :
    PI X (.Tuple elts kk tpos) (.Call (.Name "enumerate" p) [e] [] pos) (iEnumD ta) := by
  refine ⟨fun pins s σ H R I h => ?_⟩
  refine Call_ (ld_blt I hg hm boot_enumerate (PyProof.Rows.callWith_type1 (thn (ha.run pos pins s σ H _ I h) fun us s1 ⟨vs, H1, I1, r1, d, o, kvs, ex, hd, q⟩ => ?_) hs rfl))
  subst ex
  rw [Vals.ref1 r1]
  obtain ⟨hs', hgd, hx, es, ep, ws, hdt, hsz, kv, hm'⟩ := I1.frzK hd
  have hal : d < s1.heap.objs.size := Heap.lt_size hgd
  refine ga_enumerate_dict hs' hgd hx hdt fun h' he hit hsz2 hk => wpAny_pyIter_enum he ?_
  have I2 : Inv X pins σ H1 { s1 with heap := h' } := I1.kept (t' := s1.toks) hk
  rw [hsz] at hit
  refine ⟨s1.heap.objs.size + 1, [s1.heap.objs.size + 1, s1.heap.objs.size], _, _, H1, rfl, I2, turn_enumD (Nat.ne_of_lt hal) (Nat.ne_of_lt (Nat.lt_succ_of_lt hal)) hdt, ⟨⟨.none, he⟩, hit, Nat.succ_ne_self _⟩, fun b hb => ?_, q⟩
  have e' : b = s1.heap.objs.size + 1 ∨ b = s1.heap.objs.size := by simpa using hb
  have hle : s1.heap.objs.size ≤ b := by
    rcases e' with z | z
    · rw [z]; exact Nat.le_add_right _ _
    · rw [z]; exact Nat.le_refl _
  exact I1.fpOk hle (I1.hok.fresh hle)
theorem walk_enumD {d : Addr} {o : Obj} {kvs : List (Key × V)} : Walk (IteD d o kvs) kvs.length (fun H => H d = some (.frz o (.dK kvs))) (YPair (fun i => some (.int (i : Nat))) (fun i => (kvs[i]?).map fun kv => kV kv.1)) := by
  refine ⟨fun i _ hi q => ⟨q, hi⟩, fun _ q => ⟨q, Nat.le_refl _⟩, fun i H v H' _ q y => ?_⟩
  obtain ⟨T, k, x, h0, h1, h2, h3⟩ := y
  refine ⟨T, .int (i : Nat), kV k, h1, h2, h3, rfl, ?_⟩
  show (kvs[i]?).map (fun kv => kV kv.1) = some (kV k)
  rw [h0]; rfl
end GA
/-! ## GEK -/
namespace PySem
/-- the keys of a dict, whatever they are -/
theorem ga_walks_keys {prog : Program} {w : World} {A : Around} (hh : A.handled = none) (it d : Addr) (hne : d ≠ it) (od : Obj) (es : Array DictEntry) (ep : Nat) (hdt : od.data = .dict es ep) :
    Walks prog w A it [it, d] [it] es.size (fun i v => ∃ en, es[i]? = some en ∧ v = en.key) (fun i h => h.IsKeyIter it d i es.size ep ∧ h.get? d = some od) where
  sub := fun b hb => by rw [List.mem_singleton.mp hb]; simp
  frame := fun i h h' st hk => ⟨st.1.at fun o e => hk it (by simp) o e, hk d (by simp) od st.2⟩
  item := fun i s Q E hi st hQ => by
    obtain ⟨st1, h1⟩ := st
    exact L2.next_key_item st1 h1 hdt rfl (Array.getElem?_eq_getElem hi) fun h' hit' sb => hQ _ h' s.toks ⟨_, Array.getElem?_eq_getElem hi, rfl⟩ ⟨hit', (sb.2 d hne).trans h1⟩ fun b o hb e => (sb.2 b (by simpa using hb)).trans e
  done := fun s Q E st hQ => by
    obtain ⟨st1, h1⟩ := st
    exact L2.next_key_end hh st1 h1 hdt rfl (Nat.le_refl _) fun h' eb => hQ h' s.toks fun b o hb e => eb b o (by simpa using hb) e
  self := fun i s Q E st hQ => wpAny_pyIter_keyiter st.1 hQ
theorem ga_kdl {prog : Program} {w : World} {d : Addr} (lo : (d == sysModules) = false) (od : Obj) (es : Array DictEntry) (ep : Nat) (hx : od.ExactDict) (hdt : od.data = .dict es ep) :
    W.KdlSrc prog w "dict" d d es.size (fun i v => ∃ en, es[i]? = some en ∧ v = en.key) (fun h => h.get? d = some od) where
  type := fun _ hm => ⟨od, hm, hx.1⟩
  there := fun _ hm => ⟨Heap.lt_size hm, Heap.lt_size hm⟩
  keep := fun _ _ hm hk => hk d (.inl rfl) od hm
  notList := by decide
  notTuple := by decide
  hint := fun _ _ _ _ hm hq => W.kdl_hint_dict ⟨od, hm, hx.1⟩ hq
  iter := fun _ _ hh hm => ⟨_, _, (fun _ _ hq => L2.iter_keys lo hm hx hdt hq), ga_walks_keys hh _ d (Nat.ne_of_lt (Heap.lt_size hm)) od es ep hdt, ⟨⟨_, Heap.get?_push_size _ rfl, rfl, rfl⟩, Heap.get?_push_of_some _ hm⟩⟩
end PySem
namespace GA
open PySem PySem.Spec PyProof.Rows L2
/-! ### for k in f(..), a dict that nobody else has: it is locked from then on -/
def iKeysL (td : TE) : TI := fun σ H R => td σ H fun x H1 => ∃ d kvs, x = .ref d ∧ H1 d = some (.dK kvs) ∧ ∀ o, R (Itk d o kvs) (upd H1 d (.frz o (.dK kvs)))
theorem w_ikeysL {td : TE} {σ : L2.St} {H : Hp} {R : It → Hp → Prop} (q : td σ H fun x H1 => ∃ d kvs, x = .ref d ∧ H1 d = some (.dK kvs) ∧ ∀ o, R (Itk d o kvs) (upd H1 d (.frz o (.dK kvs)))) : iKeysL td σ H R := q
theorem pi_keysL {X : Cx} {tg e : Expr} {td : TE} (he : PE X e td) : PI X tg e (iKeysL td) := by
  refine ⟨fun pins s σ H R I h => ?_⟩
  refine thn (he.run pins s σ H _ I h) fun u s1 ⟨x, H1, I1, rx, d, kvs, ex, hd, q⟩ => ?_
  subst ex
  obtain rfl : u = Value.ref d := rx
  obtain ⟨od, I2⟩ := I1.lock hd True.intro
  obtain ⟨hs, hgd, hx, es, ep, vs, hdt, hsz, kv, hm⟩ := I2.frzK upd_same
  refine iter_keys hs hgd hx hdt (pi_one (tk := s1.toks) I2 _ (turn_keys _ hdt) ⟨_, Heap.get?_push_size _ rfl, rfl, ?_⟩ (q od))
  rw [hsz] <;> rfl
/-! ### sorted(d), d a dict whose keys are pairs of ints -/
abbrev kPr (u : Int × Int) : List L2.Key := [Sum.inl u.1, Sum.inl u.2]
def prOf (H : Hp) : V → Int × Int
  | .ref t => (match H t with
    | some (.tup [.int i, .int j]) => (i, j)
    | _ => (0, 0))
  | _ => (0, 0)
def rSortedDT : List V → Hp → VK → Prop := fun xs H Q => ∃ (a : Addr) (kvs : List (List L2.Key × V)) (ps : List (Int × Int)), xs = [.ref a] ∧ H a = some (.dT kvs) ∧ kvs.map (·.1) = ps.map kPr ∧
  ∀ (ys : List V) (p : Addr), (∀ y ∈ ys, ∃ t, y = .ref t ∧ H t = some (.tup [.int (prOf H y).1, .int (prOf H y).2])) → (ys.map (prOf H)).Perm ps → SrtO.Srtd (ltP (prOf H)) ys → H p = none → Q (.ref p) (upd H p (.lst ys))
theorem cr_sortedDT {X : Cx} (hcalm : X.calm = true) : CallR X (.builtin "sorted") rSortedDT := by
  intro pins s σ H xs us Q I r q
  obtain ⟨a, kvs, ps, ex, hd, hks, q⟩ := q
  subst ex
  rw [Vals.ref1 r]
  obtain ⟨od, I2⟩ := I.lock hd True.intro
  obtain ⟨hs, hgd, hx, es, ep, hdt, hsz, ent⟩ := I2.frzT upd_same
  have hl : kvs.length = ps.length := by
    have e := congrArg List.length hks
    rwa [List.length_map, List.length_map] at e
  have h16 : es.size ≤ sizeLine := by
    have z := (I.hok a _ hd)
    rw [hsz]
    exact z.1
  -- the keys' own tuples
  have key : ∀ (j : Nat) (u : Int × Int), ps[j]? = some u → ∃ (en : DictEntry) (t : Addr), es[j]? = some en ∧ en.key = .ref t ∧ H t = some (.tup [.int u.1, .int u.2]) := fun j u hu => by
    have e : (kvs.map (·.1))[j]? = some (kPr u) := by rw [hks, List.getElem?_map, hu]; rfl
    rw [List.getElem?_map] at e
    obtain ⟨⟨k, v⟩, hkv, ek⟩ := Option.map_eq_some_iff.mp e
    obtain ⟨en, t, h1, h2, h3⟩ := ent j k v hkv
    have ek : k = kPr u := ek
    subst ek
    refine ⟨en, t, h1, h2, ?_⟩
    by_cases c : t = a
    · rw [c, upd_same] at h3; cases h3
    · rw [upd_ne c] at h3; exact h3
  refine Calls.call_function_entry PyProof.Rows.kind_sorted PyProof.Rows.plain_sorted PyProof.Rows.entry_sorted (PyProof.Rows.args_sorted1 _) ?_
  unfold Builtin.«sorted»
  refine wpAny_bind (m := checkCount "sorted" 1 1 _) (wpAny_pure ?_)
  refine wpAny_bind (PySem.W.kdu_collect (A := X.A.in1) (ga_kdl hs od es ep hx hdt) (I.ok.hd hcalm) hgd h16 fun h' tk acc hk hacc => ?_)
  have hal : acc.toList.length = ps.length := by rw [Array.length_toList, hacc.1, hsz, hl]
  have atj : ∀ (j : Nat) (v : Value), acc.toList[j]? = some v → ∃ (u : Int × Int) (t : Addr), ps[j]? = some u ∧ v = .ref t ∧ H t = some (.tup [.int u.1, .int u.2]) := fun j v hv => by
    obtain ⟨en, h1, h2⟩ := hacc.2 j v (by rw [← Array.getElem?_toList]; exact hv)
    obtain ⟨u, hu⟩ : ∃ u, ps[j]? = some u := ⟨_, List.getElem?_eq_getElem (by have := (List.getElem?_eq_some_iff.mp hv).1; omega)⟩
    obtain ⟨en', t, h3, h4, h5⟩ := key j u hu
    rw [h1] at h3
    cases h3
    exact ⟨u, t, hu, by rw [h2, h4], h5⟩
  have I1 : Inv X pins σ H { s with heap := h', toks := tk } := I.kept hk
  have prV : ∀ {t : Addr} {u : Int × Int}, H t = some (.tup [.int u.1, .int u.2]) → prOf H (.ref t) = u := fun {t u} e => by
    show (match H t with | some (.tup [.int i, .int j]) => (i, j) | _ => (0, 0)) = u
    rw [e]
  have back : ∀ v ∈ acc.toList, ∃ t, v = Value.ref t := fun v hv => by
    obtain ⟨j, hj⟩ := List.getElem?_of_mem hv
    obtain ⟨u, t, _, e, _⟩ := atj j v hj
    exact ⟨t, e⟩
  have mapV : acc.toList.map (fun v => prOf H (backV v)) = ps := by
    refine List.ext_getElem? fun j => ?_
    rw [List.getElem?_map]
    cases e : acc.toList[j]? with
    | none => rw [List.getElem?_eq_none (by have := List.getElem?_eq_none_iff.mp e; omega)]; rfl
    | some v =>
      obtain ⟨u, t, h1, h2, h3⟩ := atj j v e
      rw [h1, h2]
      show some (prOf H (.ref t)) = some u
      rw [prV h3]
  refine wpAny_bind (wpAny_newList ?_ (by rw [hal, ← hl, ← hsz]; exact h16))
  have hoL : (h'.push (seqObj "list" acc.toList.toArray 0)).get? h'.objs.size = some (seqObj "list" acc.toList.toArray 0) := Heap.get?_push_size _ rfl
  show wpAny _ _ _ _ _ { s with heap := h'.push (seqObj "list" acc.toList.toArray 0), toks := tk }
  have hp : ∀ v ∈ acc.toList, Srt.IsPair (h'.push (seqObj "list" acc.toList.toArray 0)) v (prOf H (backV v)).1 (prOf H (backV v)).2 := fun v hv => by
    obtain ⟨j, hj⟩ := List.getElem?_of_mem hv
    obtain ⟨u, t, h1, rfl, h3⟩ := atj j v hj
    obtain ⟨_, its2, r2, o, ho, hc, n, hd⟩ := I1.hok _ _ h3
    obtain ⟨u1, u2, rfl, ri, rj⟩ := vals2 r2
    obtain ⟨t1, rfl⟩ := ri
    obtain ⟨t2, rfl⟩ := rj
    have e : prOf H (backV (Value.ref t)) = u := prV h3
    rw [e]
    exact ⟨t, o, t1, t2, n, rfl, Heap.get?_push_of_some _ ho, hc, hd⟩
  refine wpAny_bind (wpAny_holding (wpAny_call_entry PyProof.Rows.slot_list_sort ⟨_, hoL, rfl⟩ PyProof.Rows.entry_list_sort
    (SrtO.list_sort_ord (s := { s with heap := h'.push (seqObj "list" acc.toList.toArray 0), toks := tk }) (SrtO.swo_lex fun u => prOf H (backV u)) hoL (by rw [hal, ← hl, ← hsz]; exact h16) (fun h2 => SrtO.pairs_sortableO (by omega) hp fun o e => ?_) fun out h1 h2 => ⟨_, rfl, ?_⟩) (PyProof.Rows.args_list_sort _)))
  · have e' : some o = some (seqObj "list" acc.toList.toArray 0) := e.symm.trans hoL
    cases e'
    intro c
    exact absurd (Value.type.inj c) (by decide)
  · have h3 : ∀ u ∈ out, ∃ a, u = Value.ref a := fun u hu => back u (h2.perm.mem_iff.mp hu)
    obtain ⟨e', he'⟩ := PyProof.Rows.sortedHeap_at (vs := acc.toList) (out := out.toArray) hoL
    have hlen : (out.map backV).length ≤ sizeLine := by
      rw [List.length_map, h2.perm.length_eq, hal, ← hl, ← hsz]
      exact h16
    refine wpAny_pure ⟨_, rfl, .ref h'.objs.size, upd H h'.objs.size (.lst (out.map backV)), I1.laid (t' := tk) (fun b u e => ?_) (Nat.le_refl _)
      (show ObjOk X.prog X.w _ _ _ (.lst (out.map backV)) from ⟨hlen, out, e', vals_back h3, he'⟩), rfl, q (out.map backV) _ (fun y hy => ?_) ?_ (SrtO.srtd_map h1) (I1.hok.fresh (Nat.le_refl _))⟩
    · have hb : b < h'.objs.size := Heap.lt_size e
      rw [PyProof.Rows.sortedHeap_old (Nat.ne_of_lt hb) (by rw [size_push']; exact Nat.lt_succ_of_lt hb)]
      exact Heap.get?_push_of_some _ e
    · obtain ⟨v, hv, rfl⟩ := List.mem_map.mp hy
      obtain ⟨j, hj⟩ := List.getElem?_of_mem (h2.perm.mem_iff.mp hv)
      obtain ⟨u, t, _, rfl, h5⟩ := atj j v hj
      refine ⟨t, rfl, ?_⟩
      have e : prOf H (backV (Value.ref t)) = u := prV h5
      rw [e]
      exact h5
    · rw [List.map_map]
      have := h2.perm.map (fun v => prOf H (backV v))
      rw [mapV] at this
      exact this
end GA
/-! ## GCA -/
namespace GCb
open PySem PySem.Spec PyProof.Rows
/-! ### pairs of some things in order: what the type map says -/
abbrev tCb : String := "itertools.combinations"
abbrev vCb : Value := .type tCb
abbrev chCb : List Char := ['s', 'n', 'o', 'i', 't', 'a', 'n', 'i', 'b', 'm', 'o', 'c', '.', 's', 'l', 'o', 'o', 't', 'r', 'e', 't', 'i']
theorem mroCb : mroOf vCb = pure [vCb, .type "object"] := by rw [mroOf_type]; kernel_rfl
theorem newLookCb : typeLookup vCb "__new__" = pure (some (.builtin "itertools.combinations.__new__")) := by rw [typeLookup_type, builtinLookup_eq_fast]; kernel_rfl
theorem subCb : isSubtype vCb vCb = pure true := by rw [isSubtype_type]; kernel_rfl
theorem initCb : Slot tCb "__init__" "object.__init__" := .of (owner := "object") (n := "__init__") (by rw [typeLookup_type, builtinLookup_eq_fast]; kernel_rfl) (by decide +kernel) (by decide +kernel) (by decide +kernel) (by first | exact .inl (by decide +kernel) | exact .inr (by decide +kernel)) (by rw [isSubtype_type]; kernel_rfl)
theorem calledCb : TypeCalled tCb "itertools.combinations.__new__" "object.__init__" := ⟨by decide +kernel, by decide +kernel, ⟨_, _, mroCb⟩, madeBy_type mroCb newLookCb (by decide +kernel), by decide +kernel, subCb, initCb⟩
theorem tyCallCb (a b : Value) : checkTypeCall tCb ⟨[a, b], []⟩ = pure () := by kernel_rfl
theorem newCallCb (a b : Value) : checkBuiltinCall "itertools.combinations.__new__" ⟨[vCb, a, b], []⟩ = pure () := by kernel_rfl
theorem newEntryCb : entryFor table "itertools.combinations.__new__" = some Builtin.«itertools.combinations.__new__» := entryFor_of_tree (by kernel_rfl)
theorem iterSlotCb : Slot tCb "__iter__" "itertools.combinations.__iter__" := .of (owner := tCb) (n := "__iter__") (by rw [typeLookup_type, builtinLookup_eq_fast]; kernel_rfl) (by decide +kernel) (by decide +kernel) (by decide +kernel) (by first | exact .inl (by decide +kernel) | exact .inr (by decide +kernel)) subCb
theorem nextSlotCb : Slot tCb "__next__" "itertools.combinations.__next__" := .of (owner := tCb) (n := "__next__") (by rw [typeLookup_type, builtinLookup_eq_fast]; kernel_rfl) (by decide +kernel) (by decide +kernel) (by decide +kernel) (by first | exact .inl (by decide +kernel) | exact .inr (by decide +kernel)) subCb
theorem iterEntryCb : entryFor table "itertools.combinations.__iter__" = some Builtin.«dict_keyiterator.__iter__» := entryFor_alias (id' := "dict_keyiterator.__iter__") (by kernel_rfl) (by first | rfl | decide +kernel | (unfold String.splitOn; simp +decide [String.splitOnAux])) (by decide +kernel) (by kernel_rfl)
theorem nextEntryCb : entryFor table "itertools.combinations.__next__" = some Builtin.«itertools.combinations.__next__» := entryFor_of_tree (by kernel_rfl)
theorem ownerCb : Manifest.owners.lookup (String.ofList chCb.reverse) = some Manifest.sig_itertools_combinations := by kernel_rfl
theorem iterArgsCb (a : Value) : argsOk "itertools.combinations.__iter__" ⟨[a], []⟩ := by
  unfold argsOk
  rw [signature?_of (id := "itertools.combinations.__iter__") (n := ['_', '_', 'r', 'e', 't', 'i', '_', '_']) (o := chCb) (by kernel_rfl) ownerCb]
  kernel_rfl
theorem nextArgsCb (a : Value) : argsOk "itertools.combinations.__next__" ⟨[a], []⟩ := by
  unfold argsOk
  rw [signature?_of (id := "itertools.combinations.__next__") (n := ['_', '_', 't', 'x', 'e', 'n', '_', '_']) (o := chCb) (by kernel_rfl) ownerCb]
  kernel_rfl
theorem noDictCb : typeHasDict vCb = false := by decide +kernel
/-- the object: its pool, where it stands, what it told last, the two places -/
abbrev IsCb (h : Heap) (m T : Addr) (st : Int) (last : Value) (x y : Nat) : Prop := h.get? m = some { cls := vCb, dict := none, data := .fields #[.ref T, .int st 0, last, .int x 0, .int y 0], slots := #[] }
abbrev IsPool (h : Heap) (T : Addr) (its : Array Value) : Prop := h.get? T = some { cls := .type "tuple", data := .seq its }
theorem classCb (a b : Value) : Builtin.Itertools.itClassAndRest "combinations" ⟨[vCb, a, b], []⟩ = pure (vCb, [a, b]) := by
  unfold Builtin.Itertools.itClassAndRest
  have e : (isSubtype vCb (.type ("itertools." ++ "combinations")) : Sem Bool) = pure true := subCb
  simp only [isType, e, pure_bind, Bool.not_true, Bool.false_eq_true, if_false]
theorem bindCb (a b : Value) : Builtin.Itertools.itBindNamed "combinations" ["iterable", "r"] 2 2 [a, b] [] = pure [some a, some b] := by kernel_rfl
end GCb
/-! ## GCB -/
namespace GCb
open PySem PySem.Spec PyProof.Rows
section
variable {prog : Program} {w : World} {A : Around} {E : Value → Shared → Prop} {s : Shared}
abbrev poolO (its : List Value) : Obj := { cls := .type "tuple", data := .seq its.toArray }
abbrev cbO (T : Addr) (st : Int) (last : Value) (x y : Nat) : Obj := { cls := vCb, data := .fields #[.ref T, .int st 0, last, .int x 0, .int y 0] }
theorem new_cb (x : Value) (t : Tok) : MeetsIn prog w (Builtin.«itertools.combinations.__new__» ⟨[vCb, x, .int 2 t], []⟩)
    (fun A R s => wpAny (model prog w) A.in1 (collect x) (fun its s1 => its.length ≤ sizeLine ∧ R (.ok (.ret (.ref (s1.heap.push (poolO its)).objs.size)))
      { s1 with heap := (s1.heap.push (poolO its)).push (cbO s1.heap.objs.size (if 2 > its.length then 2 else 0) .none 0 1) }) (fun e s1 => R (.error e) s1) s) :=
  .of_wp fun A R s h => by
    have hd := noDictCb
    unfold Builtin.«itertools.combinations.__new__»
    refine wpAny_bind ?_
    refine wpAny_bind ?_
    refine wpAny_of_eq (classCb _ _) ?_
    dsimp only
    refine wpAny_bind ?_
    refine wpAny_of_eq (bindCb _ _) ?_
    dsimp only
    refine wpAny_bind ?_
    refine wpAny_of_eq (a := (2 : Int)) (by first | rfl | kernel_rfl) ?_
    refine wpAny_bind (wpAny_mono h (fun its s1 hR => ?_) fun _ _ z => z)
    obtain ⟨hz, hR⟩ := hR
    refine wpAny_bind (wpAny_newTuple ?_ hz)
    refine wpAny_pure ?_
    show wpAny _ _ (Builtin.Itertools.itNewRecord vCb _ >>= _) _ _ _
    refine wpAny_bind ?_
    unfold Builtin.Itertools.itNewRecord
    rw [hd]
    show wpAny _ _ (newObj vCb (.fields #[.ref s1.heap.objs.size, .int (if 2 > its.length then 2 else 0) 0, .none, .int 0 0, .int 1 0])) _ _ _
    refine wpAny_newObj_type ?_ (by show 5 ≤ _; decide)
    exact wpAny_pure ⟨_, rfl, hR⟩
theorem nums_cb {m T : Addr} {st : Int} {last : Value} {x y : Nat} {Q : List Nat → Shared → Prop} (hit : IsCb s.heap m T st last x y) (h : Q [x, y] s) : wpAny (model prog w) A (Builtin.Itertools.itNumbersFrom (.ref m) 3) Q E s := by
  unfold Builtin.Itertools.itNumbersFrom
  refine wpAny_bind (wpAny_load hit ?_)
  exact wpAny_pure h
theorem pool_cb {T : Addr} {its : Array Value} {Q : Array Value → Shared → Prop} (hp : IsPool s.heap T its) (h : Q its s) : wpAny (model prog w) A (Builtin.Itertools.itPoolItems (.ref T)) Q E s := by
  unfold Builtin.Itertools.itPoolItems
  refine wpAny_bind (wpAny_seqItems hp rfl ?_)
  exact wpAny_pure h
theorem state_cb {m T : Addr} {st : Int} {last : Value} {x y : Nat} {Q : Int → Shared → Prop} (hit : IsCb s.heap m T st last x y) (h : Q st s) : wpAny (model prog w) A (Builtin.Itertools.itIntField (.ref m) 1) Q E s := by
  unfold Builtin.Itertools.itIntField
  refine wpAny_bind (wpAny_field hit rfl (x := .int st 0) rfl ?_)
  exact wpAny_pure h
theorem set_cb {m T : Addr} {st : Int} {last : Value} {x y a b : Nat} {Q : Unit → Shared → Prop} (hit : IsCb s.heap m T st last x y) (h : ∀ h', IsCb h' m T st last a b → (∀ c o, c ≠ m → s.heap.get? c = some o → h'.get? c = some o) → h'.objs.size = s.heap.objs.size → Q () { s with heap := h' }) :
    wpAny (model prog w) A (Builtin.Itertools.itSetNumbersFrom (.ref m) 3 [a, b]) Q E s := by
  unfold Builtin.Itertools.itSetNumbersFrom
  refine wpAny_updateFields (hz := by show 5 ≤ sizeLine + 3; rw [sizeLine_eq]; omega) hit rfl (h _ ?_ (fun c o hc e => ?_) ?_)
  · exact Heap.get?_update_self _ hit rfl
  · exact (Heap.get?_update_other _ _ (Ne.symm hc)).trans e
  · exact Heap.size_update ..
theorem tell_cb {m T : Addr} {st : Int} {its : Array Value} {last : Value} {x y a b : Nat} {Q : Value → Shared → Prop} (hit : IsCb s.heap m T st last x y) (hp : IsPool s.heap T its) (hm : m ≠ T)
    (h : ∀ h', IsCb h' m T st (.ref s.heap.objs.size) x y → IsPool h' T its → h'.get? s.heap.objs.size = some { cls := .type "tuple", data := .seq #[its.getD a .none, its.getD b .none] } →
      (∀ b o, b ≠ m → s.heap.get? b = some o → h'.get? b = some o) → Q (.ref s.heap.objs.size) { s with heap := h' }) :
    wpAny (model prog w) A (do
      let t ← (Builtin.Itertools.itPoolItems (.ref T) >>= fun items => newTuple ([a, b].map fun i => items.getD i .none))
      let before ← field (.ref m) 2
      setField (.ref m) 2 t
      letGo [before] [t]
      ret t) (fun fin s' => ∃ v, fin = .done (.ret v) ∧ Q v s') E s := by
  have hml : m < s.heap.objs.size := Heap.lt_size hit
  refine wpAny_bind (wpAny_bind (pool_cb hp (wpAny_newTuple ?_)))
  have h1 : IsCb (s.heap.push { cls := .type "tuple", data := .seq ([a, b].map fun i => its.getD i .none).toArray }) m T st last x y := Heap.get?_push_of_some _ hit
  refine wpAny_bind (wpAny_field h1 rfl (x := last) rfl ?_)
  refine wpAny_bind (wpAny_setField h1 rfl (by simp) ?_)
  refine wpAny_bind (wpAny_letGo (wpAny_pure ⟨_, rfl, h _ (Heap.get?_update_self _ h1 rfl) ?_ ?_ fun b o hb e => ?_⟩))
  · exact (Heap.get?_update_other _ _ hm).trans (Heap.get?_push_of_some _ hp)
  · exact (Heap.get?_update_other _ _ (Nat.ne_of_lt hml)).trans (Heap.get?_push_size _ rfl)
  · exact (Heap.get?_update_other _ _ (Ne.symm hb)).trans (Heap.get?_push_of_some _ e)
theorem step_cb {n x y : Nat} {r : Option (List Nat)} (hxy : x < y) (hy : y < n)
    (h : (match ([1, 0] : List Nat).find? (fun i => [x, y].getD i 0 != i + n - 2) with | none => none | some i => some ([x, y].take i ++ (List.range (2 - i)).map ([x, y].getD i 0 + 1 + ·))) = r) :
    (y + 1 < n ∧ r = some [x, y + 1]) ∨ (y + 1 = n ∧ x + 2 < n ∧ r = some [x + 1, x + 2]) ∨ (y + 1 = n ∧ x + 2 = n ∧ r = none) := by
  subst h
  by_cases h1 : y + 1 = n
  · have e1 : (y != 1 + n - 2) = false := by rw [bne_eq_false_iff_eq]; omega
    by_cases h2 : x + 2 = n
    · have e2 : (x != n - 2) = false := by rw [bne_eq_false_iff_eq]; omega
      refine .inr (.inr ⟨h1, h2, ?_⟩)
      simp [List.find?, e1, e2]
    · have e2 : (x != n - 2) = true := by rw [bne_iff_ne]; omega
      refine .inr (.inl ⟨h1, by omega, ?_⟩)
      simp [List.find?, e1, e2, List.range_succ]
  · have e1 : (y != 1 + n - 2) = true := by rw [bne_iff_ne]; omega
    refine .inl ⟨by omega, ?_⟩
    simp [List.find?, e1, List.range_succ]
theorem cb_item0 {m T : Addr} {its : Array Value} {last : Value} {x y : Nat} {Q : Value → Shared → Prop} (hit : IsCb s.heap m T 0 last x y) (hp : IsPool s.heap T its) (hm : m ≠ T)
    (h : ∀ h', IsCb h' m T 1 (.ref s.heap.objs.size) x y → IsPool h' T its → h'.get? s.heap.objs.size = some { cls := .type "tuple", data := .seq #[its.getD x .none, its.getD y .none] } →
      (∀ b o, b ≠ m → s.heap.get? b = some o → h'.get? b = some o) → Q (.ref s.heap.objs.size) { s with heap := h' }) :
    wpAny (model prog w) A (Builtin.«itertools.combinations.__next__» ⟨[.ref m], []⟩) (fun fin s' => ∃ v, fin = .done (.ret v) ∧ Q v s') E s := by
  show wpAny _ _ (field (.ref m) 0 >>= _) _ _ _
  refine wpAny_bind (wpAny_field hit rfl (x := .ref T) rfl ?_)
  show wpAny _ _ (Builtin.Itertools.itNumbersFrom (.ref m) 3 >>= _) _ _ _
  refine wpAny_bind (nums_cb hit ?_)
  dsimp only
  refine wpAny_bind (state_cb hit ?_)
  refine wpAny_bind (wpAny_setField hit rfl (by simp) ?_)
  have h1 : IsCb (s.heap.update m (Obj.mapFields fun x => x.setIfInBounds 1 (rawInt 1))) m T 1 last x y := Heap.get?_update_self _ hit rfl
  have ez : (s.heap.update m (Obj.mapFields fun x => x.setIfInBounds 1 (rawInt 1))).objs.size = s.heap.objs.size := Heap.size_update ..
  refine tell_cb (a := x) (b := y) h1 ((Heap.get?_update_other _ _ hm).trans hp) hm fun h' a1 a2 a3 a4 => ?_
  dsimp only at a1 a3 ⊢
  rw [ez] at a1 a3 ⊢
  exact h h' a1 a2 a3 fun b o hb e => a4 b o hb ((Heap.get?_update_other _ _ (Ne.symm hb)).trans e)
theorem cb_item1 {m T : Addr} {its : Array Value} {last : Value} {x y a b : Nat} {Q : Value → Shared → Prop} (hit : IsCb s.heap m T 1 last x y) (hp : IsPool s.heap T its) (hm : m ≠ T) (hxy : x < y) (hy : y < its.size)
    (hab : (y + 1 < its.size ∧ a = x ∧ b = y + 1) ∨ (y + 1 = its.size ∧ x + 2 < its.size ∧ a = x + 1 ∧ b = x + 2))
    (h : ∀ h', IsCb h' m T 1 (.ref s.heap.objs.size) a b → IsPool h' T its → h'.get? s.heap.objs.size = some { cls := .type "tuple", data := .seq #[its.getD a .none, its.getD b .none] } →
      (∀ b o, b ≠ m → s.heap.get? b = some o → h'.get? b = some o) → Q (.ref s.heap.objs.size) { s with heap := h' }) :
    wpAny (model prog w) A (Builtin.«itertools.combinations.__next__» ⟨[.ref m], []⟩) (fun fin s' => ∃ v, fin = .done (.ret v) ∧ Q v s') E s := by
  show wpAny _ _ (field (.ref m) 0 >>= _) _ _ _
  refine wpAny_bind (wpAny_field hit rfl (x := .ref T) rfl ?_)
  show wpAny _ _ (Builtin.Itertools.itNumbersFrom (.ref m) 3 >>= _) _ _ _
  refine wpAny_bind (nums_cb hit ?_)
  dsimp only
  refine wpAny_bind (state_cb hit ?_)
  refine wpAny_bind (pool_cb hp ?_)
  split
  · rename_i next hn
    have e : next = [a, b] := by
      rcases step_cb hxy hy (show _ = some next from hn) with ⟨_, e⟩ | ⟨_, _, e⟩ | ⟨_, _, e⟩ <;> rcases hab with ⟨_, rfl, rfl⟩ | ⟨_, _, rfl, rfl⟩ <;> first | omega | exact Option.some.inj e | cases e
    subst e
    refine wpAny_bind (set_cb hit fun h1 q1 k1 z1 => ?_)
    refine tell_cb (a := a) (b := b) q1 (k1 _ _ (Ne.symm hm) hp) hm fun h' a1 a2 a3 a4 => ?_
    dsimp only at a1 a3 ⊢
    rw [z1] at a1 a3 ⊢
    exact h h' a1 a2 a3 fun c o hc e => a4 c o hc (k1 c o hc e)
  · rename_i hn
    rcases step_cb hxy hy (show _ = none from hn) with ⟨_, e⟩ | ⟨_, _, e⟩ | ⟨_, _, e⟩
    · cases e
    · cases e
    · omega
theorem stop_raise {Q : Fin → Shared → Prop} (hh : A.handled = none) (h : ∀ e h', CpRep.StopE e h' → (∀ b o, s.heap.get? b = some o → h'.get? b = some o) → E e { s with heap := h' }) :
    wpAny (model prog w) A (Builtin.Itertools.itStop) Q E s := by
  show wpAny _ _ (newExc (.type "StopIteration") [] >>= _) _ _ _
  refine wpAny_bind ?_
  simp only [newExc, newTuple]
  refine wpAny_bind (wpAny_newObj_type ?_ (by size_fits))
  refine wpAny_bind (m := firstArgMember _ _) (wpAny_of_eq (a := Value.none) (by first | rfl | (simp only [firstArgMember]; rfl)) ?_)
  refine wpAny_newObj_type ?_ (by size_fits)
  simp only [raiseNew]
  refine wpAny_bind (wpAny_handled ?_)
  first | rw [show A.in1.handled = none from hh] | rw [hh]
  refine wpAny_bind (wpAny_pure (wpAny_throw ?_))
  exact h _ _ ⟨_, _, _, rfl, Heap.get?_push_size _ rfl, rfl, rfl, rfl⟩ fun b o e => Heap.get?_push_of_some _ (Heap.get?_push_of_some _ e)
end
end GCb
/-! ## GCC -/
namespace GCb
open PySem PySem.Spec PyProof.Rows
/-! ### the pairs of a list, in order -/
def prs {α : Type} : List α → List (α × α)
  | [] => []
  | a :: l => l.map (fun b => (a, b)) ++ prs l
theorem prs_map {α β : Type} (f : α → β) : ∀ l : List α, prs (l.map f) = (prs l).map fun q => (f q.1, f q.2)
  | [] => rfl
  | a :: l => by
    rw [List.map_cons, prs, prs, prs_map f l, List.map_append, List.map_map, List.map_map]
    rfl
abbrev ixs (n : Nat) : List (Nat × Nat) := prs (List.range n)
theorem prs_run : ∀ (k lo : Nat), (∀ i x y, (prs (List.range' lo k))[i]? = some (x, y) → lo ≤ x ∧ x < y ∧ y < lo + k ∧
      ((y + 1 < lo + k ∧ (prs (List.range' lo k))[i + 1]? = some (x, y + 1)) ∨ (y + 1 = lo + k ∧ x + 2 < lo + k ∧ (prs (List.range' lo k))[i + 1]? = some (x + 1, x + 2)) ∨ (y + 1 = lo + k ∧ x + 2 = lo + k ∧ i + 1 = (prs (List.range' lo k)).length))) ∧
    (2 ≤ k → (prs (List.range' lo k))[0]? = some (lo, lo + 1)) ∧ (k < 2 → (prs (List.range' lo k)) = [])
  | 0, lo => ⟨fun i x y h => (by simp [prs] at h), fun h => absurd h (by omega), fun _ => rfl⟩
  | k + 1, lo => by
    obtain ⟨ih, h2, h0⟩ := prs_run k (lo + 1)
    have e : List.range' lo (k + 1) = lo :: List.range' (lo + 1) k := List.range'_succ ..
    rw [e, prs]
    generalize hB : prs (List.range' (lo + 1) k) = B at ih h2 h0
    generalize hF : (List.range' (lo + 1) k).map (fun b => (lo, b)) = F
    have lF : F.length = k := by rw [← hF, List.length_map, List.length_range']
    have atF : ∀ i, i < k → F[i]? = some (lo, lo + 1 + i) := fun i hi => by rw [← hF, List.getElem?_map, List.getElem?_range' hi]; simp
    refine ⟨fun i x y h => ?_, fun hk => ?_, fun hk => ?_⟩
    · by_cases c : i < k
      · rw [List.getElem?_append_left (by omega), atF i c] at h
        obtain ⟨rfl, rfl⟩ : lo = x ∧ lo + 1 + i = y := by simpa using h
        refine ⟨Nat.le_refl _, by omega, by omega, ?_⟩
        by_cases c1 : i + 1 < k
        · refine .inl ⟨by omega, ?_⟩
          rw [List.getElem?_append_left (by omega), atF _ c1]
          congr 2
        · by_cases c2 : 2 ≤ k
          · refine .inr (.inl ⟨by omega, by omega, ?_⟩)
            rw [List.getElem?_append_right (by omega), show i + 1 - F.length = 0 by omega]
            exact h2 c2
          · refine .inr (.inr ⟨by omega, by omega, ?_⟩)
            rw [List.length_append, h0 (by omega), List.length_nil]
            omega
      · rw [List.getElem?_append_right (by omega)] at h
        obtain ⟨a1, a2, a3, a4⟩ := ih _ x y h
        refine ⟨by omega, a2, by omega, ?_⟩
        have nx : (F ++ B)[i + 1]? = B[i - F.length + 1]? := by rw [List.getElem?_append_right (by omega), show i + 1 - F.length = i - F.length + 1 by omega]
        rcases a4 with ⟨b1, b2⟩ | ⟨b1, b2, b3⟩ | ⟨b1, b2, b3⟩
        · exact .inl ⟨by omega, nx.trans b2⟩
        · exact .inr (.inl ⟨by omega, by omega, nx.trans b3⟩)
        · exact .inr (.inr ⟨by omega, by omega, by rw [List.length_append]; omega⟩)
    · rw [List.getElem?_append_left (by omega), atF 0 (by omega)]
    · have : k = 0 := by omega
      subst this
      rw [← hF, h0 (by omega)]
      rfl
theorem ixs_next {n i x y : Nat} (h : (ixs n)[i]? = some (x, y)) : x < y ∧ y < n ∧ ((y + 1 < n ∧ (ixs n)[i + 1]? = some (x, y + 1)) ∨ (y + 1 = n ∧ x + 2 < n ∧ (ixs n)[i + 1]? = some (x + 1, x + 2)) ∨ (y + 1 = n ∧ x + 2 = n ∧ i + 1 = (ixs n).length)) := by
  unfold ixs at h ⊢
  rw [List.range_eq_range'] at h ⊢
  have r := (prs_run n 0).1 i x y h
  rw [Nat.zero_add] at r
  exact r.2
theorem ixs_first {n : Nat} : (2 ≤ n → (ixs n)[0]? = some (0, 1)) ∧ (n < 2 → (ixs n) = []) := by
  unfold ixs
  rw [List.range_eq_range']
  exact (prs_run n 0).2
theorem prs_ixs {α : Type} (l : List α) (d : α) : prs l = (ixs l.length).map fun q => (l.getD q.1 d, l.getD q.2 d) := by
  have e : l = (List.range l.length).map fun i => l.getD i d := by
    apply List.ext_getElem?
    intro i
    rw [List.getElem?_map]
    by_cases h : i < l.length
    · rw [List.getElem?_range h, List.getElem?_eq_getElem h]; simp [h]
    · rw [List.getElem?_eq_none (by omega), List.getElem?_eq_none (by rw [List.length_range]; omega)]; rfl
  have z := prs_map (fun i => l.getD i d) (List.range l.length)
  rw [← e] at z
  exact z
section
variable {prog : Program} {w : World} {A : Around} {E : Value → Shared → Prop} {s : Shared}
theorem call_cb {x : Value} {t : Tok} {Q : Value → Shared → Prop}
    (hx : wpAny (model prog w) A.in1.in1 (collect x) (fun its s1 => its.length ≤ sizeLine ∧ ∀ h', IsPool h' s1.heap.objs.size its.toArray → IsCb h' (s1.heap.objs.size + 1) s1.heap.objs.size (if 2 > its.length then 2 else 0) .none 0 1 → h'.objs.size = s1.heap.objs.size + 2 →
      (∀ c o, s1.heap.get? c = some o → h'.get? c = some o) → Q (.ref (s1.heap.objs.size + 1)) { s1 with heap := h' }) E s) : wpAny (model prog w) A (call vCb [x, .int 2 t]) Q E s := by
  refine callType_newIn calledCb (by decide) (tyCallCb _ _) (newCallCb _ _) (fun obj => F.args_object_init_3 obj _ _) newEntryCb (new_cb x t) ?_
  show wpAny (model prog w) A.in1.in1 (collect x) _ _ _
  refine wpAny_mono hx (fun its s1 h => ?_) fun _ _ z => z
  obtain ⟨hz, h⟩ := h
  refine ⟨hz, ?_⟩
  have z : (s1.heap.push (poolO its)).objs.size = s1.heap.objs.size + 1 := Heap.size_push ..
  generalize hO : cbO s1.heap.objs.size (if 2 > its.length then 2 else 0) .none 0 1 = O
  have z2 : ((s1.heap.push (poolO its)).push O).objs.size = s1.heap.objs.size + 2 := by rw [Heap.size_push, z]
  have gm : ((s1.heap.push (poolO its)).push O).get? (s1.heap.push (poolO its)).objs.size = some O := by subst hO; exact Heap.get?_push_size _ rfl
  have gT : ((s1.heap.push (poolO its)).push O).get? s1.heap.objs.size = some (poolO its) := Heap.get?_push_of_some _ (Heap.get?_push_size _ rfl)
  rw [z] at gm ⊢
  have hq := h _ gT (by subst hO; exact gm) z2 fun c o e => Heap.get?_push_of_some _ (Heap.get?_push_of_some _ e)
  show _ ∧ _
  refine ⟨⟨_, gm, by subst hO; rfl⟩, hq⟩
theorem iter_cb {m T : Addr} {st : Int} {last : Value} {x y : Nat} {Q : Value → Shared → Prop} (hit : IsCb s.heap m T st last x y) (h : Q (.ref m) s) : wpAny (model prog w) A (pyIter (.ref m)) Q E s := by
  have hT : s.TypeIs (.ref m) tCb := ⟨_, hit, rfl⟩
  refine wpAny_pyIter_slot hT iterSlotCb (wpAny_call_entry iterSlotCb hT iterEntryCb ?_ (iterArgsCb _))
  show wpAny _ _ (ret (.ref m)) _ _ s
  exact wpAny_pure ⟨_, rfl, tCb, _, hT, nextSlotCb.lookup, h⟩
theorem next_item {m : Addr} {Q : Option Value → Shared → Prop} {R : Value → Shared → Prop} (hT : s.TypeIs (.ref m) tCb)
    (h : ∀ (A' : Around) (E' : Value → Shared → Prop), wpAny (model prog w) A' (Builtin.«itertools.combinations.__next__» ⟨[.ref m], []⟩) (fun fin s' => ∃ v, fin = .done (.ret v) ∧ R v s') E' s)
    (hQ : ∀ v s', R v s' → Q (some v) s') : wpAny (model prog w) A (pyNext (.ref m)) Q E s := by
  unfold pyNext
  refine wpAny_bind (wpAny_attempt (wpAny_callSpecial?_slot (name := Str.ofString "__next__") hT nextSlotCb (wpAny_call_entry nextSlotCb hT nextEntryCb (wpAny_mono (h _ _) (fun fin s' z => ?_) fun _ _ z => z) (nextArgsCb _))))
  obtain ⟨v, e, r⟩ := z
  exact ⟨v, e, wpAny_pure (hQ v s' r)⟩
theorem next_end {m T : Addr} {its : Array Value} {st : Int} {last : Value} {x y : Nat} {Q : Option Value → Shared → Prop} (hh : A.handled = none) (hit : IsCb s.heap m T st last x y) (hp : IsPool s.heap T its) (hm : m ≠ T)
    (hs : st = 2 ∨ (st = 1 ∧ x < y ∧ y < its.size ∧ y + 1 = its.size ∧ x + 2 = its.size))
    (hQ : ∀ h', (∀ b o, b ≠ m → s.heap.get? b = some o → h'.get? b = some o) → Q none { s with heap := h' }) : wpAny (model prog w) A (pyNext (.ref m)) Q E s := by
  have hT : s.TypeIs (.ref m) tCb := ⟨_, hit, rfl⟩
  unfold pyNext
  refine wpAny_bind (wpAny_attempt (wpAny_callSpecial?_slot (name := Str.ofString "__next__") hT nextSlotCb (wpAny_call_entry nextSlotCb hT nextEntryCb ?_ (nextArgsCb _))))
  show wpAny _ _ (field (.ref m) 0 >>= _) _ _ _
  refine wpAny_bind (wpAny_field hit rfl (x := .ref T) rfl ?_)
  show wpAny _ _ (Builtin.Itertools.itNumbersFrom (.ref m) 3 >>= _) _ _ _
  refine wpAny_bind (nums_cb hit ?_)
  dsimp only
  refine wpAny_bind (state_cb hit ?_)
  have fin : ∀ {h0 : Heap} {e : Value} {h' : Heap}, (∀ b o, b ≠ m → s.heap.get? b = some o → h0.get? b = some o) → CpRep.StopE e h' → (∀ b o, h0.get? b = some o → h'.get? b = some o) →
      wpAny (model prog w) A (isInstance e (.type "StopIteration") >>= fun b => if b = true then pure none else throw e) Q E { s with heap := h' } := by
    rintro h0 e h' k0 ⟨c, o, vs, rfl, ho, hc, hd, _⟩ k1
    refine wpAny_bind (wpAny_isInstance (T := "StopIteration") (b := true) ⟨o, ho, hc⟩ isSubtype_stop ?_)
    exact wpAny_pure (hQ _ fun b ob hb q => k1 b ob (k0 b ob hb q))
  rcases hs with rfl | ⟨rfl, hxy, hy, e1, e2⟩
  · refine wpAny_bind (wpAny_rule ?_)
    exact stop_raise hh fun e h' se k => fin (h0 := s.heap) (fun _ _ _ q => q) se k
  · refine wpAny_bind (pool_cb hp ?_)
    split
    · rename_i next hn
      rcases step_cb hxy hy (show _ = some next from hn) with ⟨z, e⟩ | ⟨_, z, e⟩ | ⟨_, _, e⟩
      · omega
      · omega
      · cases e
    · refine wpAny_bind (wpAny_setField hit rfl (by simp) ?_)
      refine stop_raise hh fun e h' se k => fin (h0 := s.heap.update m (Obj.mapFields fun x => x.setIfInBounds 1 (rawInt 2))) (fun b o hb q => (Heap.get?_update_other _ _ (Ne.symm hb)).trans q) se k
end
end GCb
/-! ## GCD -/
namespace GA
open PySem PySem.Spec PyProof.Rows L2 GCb
/-- the pairs of xs, each a new tuple -/
def Itp (xs : List V) : It := ⟨fun i _ => i < (prs xs).length, fun i H v H' => ∃ T x y, v = .ref T ∧ H T = none ∧ H' = upd H T (.tup [x, y]) ∧ (prs xs)[i]? = some (x, y), fun i _ => (prs xs).length ≤ i⟩
theorem walk_prs {xs : List V} {n : Nat} (hn : n = (prs xs).length) : Walk (Itp xs) n (fun _ => True) (YPair (fun i => (prs xs)[i]?.map (·.1)) (fun i => (prs xs)[i]?.map (·.2))) := by
  subst hn
  refine ⟨fun i _ hi _ => hi, fun _ _ => Nat.le_refl _, fun i H v H' _ _ y => ?_⟩
  obtain ⟨T, x, z, h1, h2, h3, h4⟩ := y
  exact ⟨T, x, z, h1, h2, h3, by show Option.map _ (prs xs)[i]? = _; rw [h4]; rfl, by show Option.map _ (prs xs)[i]? = _; rw [h4]; rfl⟩
def CbAt (m T : Addr) (its : Array Value) (i : Nat) (h : Heap) : Prop :=
  m ≠ T ∧ IsPool h T its ∧ ∃ st last x y, IsCb h m T st last x y ∧ ((i = 0 ∧ x = 0 ∧ y = 1 ∧ st = (if 2 > its.size then 2 else 0)) ∨ (∃ j, i = j + 1 ∧ st = 1 ∧ (ixs its.size)[j]? = some (x, y)))
theorem rel_at {xs : List V} {its : Array Value} {i x y : Nat} (rv : Vals xs its.toList) (h : (ixs its.size)[i]? = some (x, y)) : ∃ u v, RelV u (its.getD x .none) ∧ RelV v (its.getD y .none) ∧ (prs xs)[i]? = some (u, v) := by
  have hl : xs.length = its.size := by rw [rv.length, Array.length_toList]
  obtain ⟨a1, a2, _⟩ := ixs_next h
  obtain ⟨w1, q1, r1⟩ := rv.get (List.getElem?_eq_getElem (show x < xs.length by omega))
  obtain ⟨w2, q2, r2⟩ := rv.get (List.getElem?_eq_getElem (show y < xs.length by omega))
  have g1 : its.getD x .none = w1 := by rw [Array.getElem?_toList] at q1; rw [Array.getD_eq_getD_getElem?, q1]; rfl
  have g2 : its.getD y .none = w2 := by rw [Array.getElem?_toList] at q2; rw [Array.getD_eq_getD_getElem?, q2]; rfl
  refine ⟨_, _, g1 ▸ r1, g2 ▸ r2, ?_⟩
  rw [prs_ixs xs V.non, List.getElem?_map, show (ixs xs.length)[i]? = some (x, y) by rw [hl]; exact h]
  simp [show x < xs.length by omega, show y < xs.length by omega]
theorem prs_len {xs : List V} {its : Array Value} (rv : Vals xs its.toList) : (prs xs).length = (ixs its.size).length := by
  have hl : xs.length = its.size := by rw [rv.length, Array.length_toList]
  rw [prs_ixs xs V.non, List.length_map, hl]
theorem turn_cb {P : Program} {w : World} {K : PySem.W.Frag} {tg : Expr} {m T : Addr} {its : Array Value} {xs : List V} (rv : Vals xs its.toList) : Turn P w K tg (Itp xs) [m, T] m (CbAt m T its) where
  mem := by simp
  obj := fun i h st b hb => by
    obtain ⟨_, hp, s0, last, x, y, hi, _⟩ := st
    rcases List.mem_cons.mp hb with z | z
    · rw [z]; exact ⟨_, hi, fun v q => nomatch q⟩
    · rw [List.mem_singleton.mp z]; exact ⟨_, hp, fun v q => nomatch q⟩
  keep := fun i h h' st k => by
    obtain ⟨hne, hp, s0, last, x, y, hi, r⟩ := st
    exact ⟨hne, k T (by simp) _ hp, s0, last, x, y, k m (by simp) _ hi, r⟩
  item := by
    intro X hP hw hK hc i pins s σ H E I hf st hg
    subst hP hw hK
    obtain ⟨hne, hp, s0, last, x, y, hit, r⟩ := st
    have hg : i < (prs xs).length := hg
    rw [prs_len rv] at hg
    have hml : m < s.heap.objs.size := Heap.lt_size hit
    have hTl : T < s.heap.objs.size := Heap.lt_size hp
    have rest : ∀ (a b : Nat), (ixs its.size)[i]? = some (a, b) → ∀ h', IsCb h' m T 1 (.ref s.heap.objs.size) a b → IsPool h' T its → h'.get? s.heap.objs.size = some { cls := .type "tuple", data := .seq #[its.getD a .none, its.getD b .none] } →
        (∀ b o, b ≠ m → s.heap.get? b = some o → h'.get? b = some o) → ∃ u : Value, some (Value.ref s.heap.objs.size) = some u ∧
          wpAny (model X.prog X.w) X.A (letOwnedTupleGo tg (.ref m) u) (fun _ s2 => ∃ x H', Inv X pins σ H' s2 ∧ RelV x u ∧ (Itp xs).yld i H x H' ∧ CbAt m T its (i + 1) s2.heap ∧ ∀ b ∈ [m, T], H' b = none) E { s with heap := h' } := by
      intro a b hab h' q1 q2 q3 k
      obtain ⟨u, v, ru, rv', hq⟩ := rel_at rv hab
      refine ⟨_, rfl, go_of q1 rfl rfl (by decide) ?_⟩
      have new : ObjOk X.prog X.w (upd H s.heap.objs.size (.tup [u, v])) h' s.heap.objs.size (.tup [u, v]) :=
        ⟨by show 2 ≤ sizeLine; decide, [_, _], .cons ru (.cons rv' .nil), ⟨_, q3, rfl, _, rfl⟩⟩
      have I1 : Inv X pins σ (upd H s.heap.objs.size (.tup [u, v])) { s with heap := h' } :=
        I.turnedNew (t' := s.toks) (ch := [m, T]) (fun c ob hb e => k c ob (fun z => hb (by simp [z])) e) hf (Nat.le_refl _) new
      refine ⟨.ref s.heap.objs.size, _, I1, rfl, ⟨_, u, v, rfl, I.hok.fresh (Nat.le_refl _), rfl, hq⟩, ⟨hne, q2, 1, _, a, b, q1, .inr ⟨i, rfl, rfl, hab⟩⟩, fun c hcm => ?_⟩
      have hlt : c < s.heap.objs.size := by
        rcases List.mem_cons.mp hcm with z | z
        · rw [z]; exact hml
        · rw [List.mem_singleton.mp z]; exact hTl
      rw [upd_ne (Nat.ne_of_lt hlt)]
      exact (hf c hcm).1
    rcases r with ⟨rfl, rfl, rfl, rfl⟩ | ⟨j, rfl, rfl, hj⟩
    · have h2 : 2 ≤ its.size := by
        apply Decidable.byContradiction
        intro z
        rw [ixs_first.2 (by omega)] at hg
        exact absurd hg (by simp)
      rw [if_neg (by omega)] at hit
      refine next_item (R := fun v s' => ∃ h', v = .ref s.heap.objs.size ∧ s' = { s with heap := h' } ∧ IsCb h' m T 1 (.ref s.heap.objs.size) 0 1 ∧ IsPool h' T its ∧ h'.get? s.heap.objs.size = some { cls := .type "tuple", data := .seq #[its.getD 0 .none, its.getD 1 .none] } ∧
        (∀ b o, b ≠ m → s.heap.get? b = some o → h'.get? b = some o)) ⟨_, hit, rfl⟩ (fun A' E' => cb_item0 hit hp hne fun h' a1 a2 a3 a4 => ⟨h', rfl, rfl, a1, a2, a3, a4⟩) ?_
      rintro v s' ⟨h', rfl, rfl, a1, a2, a3, a4⟩
      exact rest 0 1 (ixs_first.1 h2) h' a1 a2 a3 a4
    · obtain ⟨b1, b2, b3⟩ := ixs_next hj
      have go : ∀ a b, ((y + 1 < its.size ∧ a = x ∧ b = y + 1) ∨ (y + 1 = its.size ∧ x + 2 < its.size ∧ a = x + 1 ∧ b = x + 2)) → (ixs its.size)[j + 1]? = some (a, b) →
          wpAny (model X.prog X.w) X.A (pyNext (.ref m)) (fun r s1 => ∃ u, r = some u ∧ wpAny (model X.prog X.w) X.A (letOwnedTupleGo tg (.ref m) u) (fun _ s2 => ∃ x H', Inv X pins σ H' s2 ∧ RelV x u ∧ (Itp xs).yld (j + 1) H x H' ∧ CbAt m T its (j + 1 + 1) s2.heap ∧ ∀ b ∈ [m, T], H' b = none) E s1) E s := by
        intro a b hab hq
        refine next_item (R := fun v s' => ∃ h', v = .ref s.heap.objs.size ∧ s' = { s with heap := h' } ∧ IsCb h' m T 1 (.ref s.heap.objs.size) a b ∧ IsPool h' T its ∧ h'.get? s.heap.objs.size = some { cls := .type "tuple", data := .seq #[its.getD a .none, its.getD b .none] } ∧
          (∀ b o, b ≠ m → s.heap.get? b = some o → h'.get? b = some o)) ⟨_, hit, rfl⟩ (fun A' E' => cb_item1 hit hp hne b1 b2 hab fun h' a1 a2 a3 a4 => ⟨h', rfl, rfl, a1, a2, a3, a4⟩) ?_
        rintro v s' ⟨h', rfl, rfl, a1, a2, a3, a4⟩
        exact rest a b hq h' a1 a2 a3 a4
      rcases b3 with ⟨c1, c2⟩ | ⟨c1, c2, c3⟩ | ⟨c1, c2, c3⟩
      · exact go _ _ (.inl ⟨c1, rfl, rfl⟩) c2
      · exact go _ _ (.inr ⟨c1, c2, rfl, rfl⟩) c3
      · omega
  done := by
    intro X hP hw hK hc i pins s σ H E I hf st hg
    subst hP hw hK
    obtain ⟨hne, hp, s0, last, x, y, hit, r⟩ := st
    have hg : (prs xs).length ≤ i := hg
    rw [prs_len rv] at hg
    refine next_end (I.ok.hd hc) hit hp hne ?_ fun h' k => ⟨rfl, I.turnedL (t' := s.toks) (ch := [m, T]) (fun c o hb q => k c o (fun z => hb (by simp [z])) q) hf⟩
    rcases r with ⟨rfl, rfl, rfl, rfl⟩ | ⟨j, rfl, rfl, hj⟩
    · left
      by_cases h2 : 2 ≤ its.size
      · have := ixs_first.1 h2
        rw [List.getElem?_eq_none hg] at this
        cases this
      · rw [if_pos (by omega)]
    · obtain ⟨b1, b2, b3⟩ := ixs_next hj
      rcases b3 with ⟨c1, c2⟩ | ⟨c1, c2, c3⟩ | ⟨c1, c2, c3⟩
      · rw [List.getElem?_eq_none hg] at c2; cases c2
      · rw [List.getElem?_eq_none hg] at c3; cases c3
      · exact .inr ⟨rfl, b1, b2, c1, c2⟩
  self := fun A i s Q E st h => by
    obtain ⟨_, _, s0, last, x, y, hit, _⟩ := st
    exact iter_cb hit h
/-- an expression from which some things are collected -/
def PCol (X : Cx) (e : Expr) (tc : L2.St → Hp → (List V → Hp → Prop) → Prop) : Prop := ∀ (pins : List (Addr × Obj)) (s : Shared) (σ : L2.St) (H : Hp) (R : List V → Hp → Prop), Inv X pins σ H s → tc σ H R →
  wpAny (model X.prog X.w) X.A (eval e X.env) (fun x s1 => ∀ (t1 : Nat) (A' : Around) (E' : Value → Shared → Prop) (Q2 : List Value → Shared → Prop), A'.handled = none →
    (∀ its xs H' s2, Vals xs its → Inv X pins σ H' s2 → its.length ≤ sizeLine → R xs H' → Q2 its s2) → wpAny (model X.prog X.w) A' (collect x) Q2 E' { s1 with toks := t1 }) X.xe s
def tcRg (te : L2.St → Hp → (Int → Int → Hp → Prop) → Prop) : L2.St → Hp → (List V → Hp → Prop) → Prop := fun σ H R => te σ H fun a b H1 => RgOk a b ∧ R (rgV a b) H1
theorem pcol_range {X : Cx} {e : Expr} {te : L2.St → Hp → (Int → Int → Hp → Prop) → Prop} (he : PRg X e te) : PCol X e (tcRg te) := by
  intro pins s σ H R I h
  refine thn (he pins s σ H _ I h) fun x s1 ⟨r, a, b, t, u, v, H1, ex, hr, I1, ok, q⟩ => ?_
  subst ex
  intro t1 A' E' Q2 hA go
  obtain ⟨b1, b2, b3, b4, b5⟩ := ok
  refine collect_range (s := { s1 with toks := t1 }) (n := (b - a).toNat) hA hr (small_one b1 b2 b3 b4) (rangeSize_nat a b) b5 fun h' tk acc hk hi => ?_
  refine go _ _ H1 _ (vals_rg hi) (I1.kept hk) ?_ q
  rw [Array.length_toList, hi.1, sizeLine_eq]; omega
def iComb (tc : L2.St → Hp → (List V → Hp → Prop) → Prop) : TI := fun σ H R => tc σ H fun xs H1 => R (Itp xs) H1
theorem w_comb {tc : L2.St → Hp → (List V → Hp → Prop) → Prop} {σ : L2.St} {H : Hp} {R : It → Hp → Prop} (q : tc σ H fun xs H1 => R (Itp xs) H1) : iComb tc σ H R := q
theorem w_tcRg {te : L2.St → Hp → (Int → Int → Hp → Prop) → Prop} {σ : L2.St} {H : Hp} {R : List V → Hp → Prop} (q : te σ H fun a b H1 => RgOk a b ∧ R (rgV a b) H1) : tcRg te σ H R := q
theorem pi_comb {X : Cx} {e : Expr} {tc : L2.St → Hp → (List V → Hp → Prop) → Prop} {p p2 pos : Pos} {tg : Expr} {kk : Nat} (calm : X.calm = true) (hg : Gl X "combinations") (hm : X.mg "combinations" = some vCb) (he : PCol X e tc)
    (na : starEach [e, .Constant (.int 2) kk p2] X.env = (false, eval e X.env) :: starEach [.Constant (.int 2) kk p2] X.env := by rfl)
    (nb : starEach [.Constant (.int 2) kk p2] X.env = (false, eval (.Constant (.int 2) kk p2) X.env) :: starEach [] X.env := by rfl) (hp : (backTo pos (starEach [.Constant (.int 2) kk p2] X.env)).any (·.1) = false := by rfl) :
    PI X tg (.Call (.Name "combinations" p) [e, .Constant (.int 2) kk p2] [] pos) (iComb tc) := by
  refine ⟨fun pins s σ H R I h => ?_⟩
  refine Call_ (ld_glob I hg hm (PyProof.Rows.callWith_type1 (args_cons (thn (he pins s σ H _ I h) fun x s1 hx => args_cons (wpAny_Constant_int (args_nil ?_)) nb) na) na hp))
  have hh : X.A.in1.in1.handled = none := I.ok.hd calm
  refine call_cb (hx (s1.toks + 1) _ _ _ hh fun its xs H' s2 rv I2 hz q => ⟨hz, fun h' q1 q2 q3 k => ?_⟩)
  refine iter_cb q2 ⟨s2.heap.objs.size + 1, [s2.heap.objs.size + 1, s2.heap.objs.size], CbAt (s2.heap.objs.size + 1) s2.heap.objs.size its.toArray, Itp xs, H', rfl, I2.kept (t' := s2.toks) k, turn_cb (by rw [List.toList_toArray]; exact rv), ?_, fun b hb => ?_, q⟩
  · exact ⟨Nat.succ_ne_self _, q1, _, _, _, _, q2, .inl ⟨rfl, rfl, rfl, by rw [List.size_toArray]⟩⟩
  · have hle : s2.heap.objs.size ≤ b := by
      rcases List.mem_cons.mp hb with z | z
      · rw [z]; exact Nat.le_succ _
      · rw [List.mem_singleton.mp z]; exact Nat.le_refl _
    exact I2.fpOk hle (I2.hok.fresh hle)
end GA
/-! ## GU -/
namespace GA
open PySem PySem.Spec PyProof.Rows L2
/-! ### a dict by a comprehension, its keys tuples -/
section
variable {X : Cx}
/-- a pair is stored in a dict with tuple keys, from within a comprehension -/
theorem dset_T {pins : List (Addr × Obj)} {σ : L2.St} {H : Hp} {s : Shared} {E : Value → Shared → Prop} {D b : Addr} {kvs : List (List L2.Key × V)} {k : List L2.Key} {v : V} {u r : Value} {Q : Unit → Shared → Prop} (hu : X.A.units + 1 < cLine) (I : Inv X pins σ H s)
    (hD : H D = some (.dT kvs)) (hb : H b = some (.tup (k.map kV))) (hz : kvs.length < sizeLine) (ru : RelV (.ref b) u) (rv : RelV v r) (go : ∀ s', Inv X pins σ (upd H D (.dT (putK kvs k v))) s' → Q () s') :
    wpAny (model X.prog X.w) X.A (dictSet D u r) Q E s := by
  cases ru
  obtain ⟨z, nm, xs, kt, at_⟩ := dt_of I.hok hD
  have lx : xs.length ≤ sizeLine := Paired.length kt ▸ z
  have lp : (putK kvs k v).length ≤ sizeLine := Nat.le_trans (length_putK kvs k v) hz
  refine wpAny_dictSet_heap (hsz := lx) (show X.A.units < cLine by omega) (key_of I.hok hb) at_ ?_
  rintro h' ⟨ob, es, ep, q1, q2, q3, q4, _, q6⟩ same
  apply go
  have keeps : ∀ (c : Addr) ys, H c = some (.tup ys) → upd H D (.dT (putK kvs k v)) c = some (.tup ys) := fun c ys ec => (upd_ne (ne_of ec hD (by intro e; cases e))).trans ec
  exact d_write I (hD.symm ▸ True.intro) same ⟨ob, q1⟩ ⟨lp, nm, _, (KT.put kt k hb rv).keeps keeps, ob, es, ep, q1, q2, q3, q4, q6⟩
/-- {k: v for target in iter if ..}, the keys tuples of ints or texts: D the new dict -/
def tDcT (wi : TI) (g : TG) (tt : TT) (tk tv : TE) (vs : List Nat) : TE := fun σ H Q => wi σ H fun J H1 => ∀ D, H1 D = none → ∃ W : Nat → Nat → Hp → Prop, (∃ m, W 0 m (upd H1 D (.dT []))) ∧ ∀ i m H, W i m H →
  (J.stop i H ∧ Q (.ref D) H) ∨ (J.go i H ∧ ∃ Nx : Hp → Prop, (∀ H', Nx H' → ∃ m', m' < m ∧ W (i + 1) m' H') ∧ ∀ x H', J.yld i H x H' → g x (wipe σ vs) H' fun σ2 H2 => wipe σ2 vs = wipe σ vs ∧ tt σ2 H2 fun b H3 =>
    if b = true then tk σ2 H3 fun y H4 => tv σ2 H4 fun z H5 => ∃ kvs k b, y = .ref b ∧ H5 b = some (.tup (k.map kV)) ∧ H5 D = some (.dT kvs) ∧ kvs.length < sizeLine ∧ Nx (upd H5 D (.dT (putK kvs k z))) else Nx H3)
theorem pe_dcT {kx vx tg iter : Expr} {ifs : List Expr} {scope : Scope} {own : List (Str × Nat)} {pos : Pos} {wi : TI} {g : TG} {tt : TT} {tk tv : TE} (hu : X.A.units + 1 < cLine) (calm : X.calm = true) (nd : X.N.Nodup) (src : PI X tg iter wi) (blk : BlkOk X.N X.env.scope scope own)
    (pg : ∀ (s : Shared) (H : Hp) (C : Addr) (cl : List (Str × Addr)) (fp : List Addr), PG (X.blk s H scope (compEnvC scope cl C X.env) fp) tg g)
    (pt : ∀ (s : Shared) (H : Hp) (C : Addr) (cl : List (Str × Addr)) (fp : List Addr), PTs (X.blk s H scope (compEnvC scope cl C X.env) fp) ifs tt)
    (pk : ∀ (s : Shared) (H : Hp) (C : Addr) (cl : List (Str × Addr)) (fp : List Addr), PE (X.blk s H scope (compEnvC scope cl C X.env) fp) kx tk)
    (pv' : ∀ (s : Shared) (H : Hp) (C : Addr) (cl : List (Str × Addr)) (fp : List Addr), PE (X.blk s H scope (compEnvC scope cl C X.env) fp) vx tv) (fold : ∀ x, foldedSetIterable iter X.env x = pure x := by intro _; rfl) :
    PE X (.DictComp kx vx [⟨tg, iter, ifs, 0⟩] scope pos) (tDcT wi g tt tk tv (own.map (·.2))) := by
  constructor
  intro pins s σ H Q I want
  rw [arm_eval_DictComp]
  have cells : ∀ nm ∈ scope.names, nm.2 = .free → ∃ c, X.env.cells.lookup nm.1 = some c := fun nm hnm e => (blk.free nm hnm e).elim (fun a => I.ok.has _ (.inl a)) fun a => I.ok.has _ (.inr a)
  apply wpAny_comprehension_free (use := none) rfl fold (closure_ok cells) blk.kind (fun nm hnm e => by rw [blk.uniq nm hnm, e])
  refine thn (src.run pins s σ H _ I want) fun _ sa step1 => thn step1 fun _ sb step2 => ?_
  obtain ⟨it, fp, told, J, Hb, rfl, Ib, Tn, stb, fb, rest⟩ := step2
  refine wpAny_newObj_type (newEnv_comp ?_)
  -- the dict's own place
  obtain ⟨D, eD⟩ : ∃ D, sb.heap.objs.size = D := ⟨_, rfl⟩
  have freeD : Hb D = none := Ib.hok.fresh (eD ▸ Nat.le_refl _)
  obtain ⟨W, ⟨m0, start⟩, turn⟩ := rest D freeD
  obtain ⟨sc, eSc⟩ : ∃ sc : Shared, { sb with heap := sb.heap.push { cls := .type "dict", data := .dict #[] } } = sc := ⟨_, rfl⟩
  have hc : sc.heap = sb.heap.push { cls := .type "dict", data := .dict #[] } := eSc ▸ rfl
  have Ic : Inv X pins σ (upd Hb D (.dT [])) sc := by
    subst eSc eD
    exact Ib.laid (t' := sb.toks) (fun _ _ e => Heap.get?_push_of_some _ e) (Nat.le_refl _) (dt_empty sb.heap Ib.big)
  have low : ∀ b ∈ fp, b < sb.heap.objs.size := fun b hb => let ⟨_, e, _⟩ := Tn.obj _ _ stb b hb; Heap.lt_size e
  have fc : ∀ b ∈ fp, FpOk X pins (upd Hb D (.dT [])) b ∧ b < sc.heap.objs.size := by
    intro b hb
    have lt := low b hb
    have ne : b ≠ D := eD ▸ Nat.ne_of_lt lt
    exact ⟨⟨(upd_ne ne).trans (fb b hb).1, (fb b hb).2⟩, by rw [hc, Heap.size_push]; exact Nat.lt_succ_of_lt lt⟩
  have stc : told 0 sc.heap := Tn.keep _ _ _ stb fun b _ o e => hc ▸ Heap.get?_push_of_some _ e
  have Id := block_start Ic blk nd fc
  have rg := pg sc (upd Hb D (.dT [])) sc.heap.objs.size (cellsFrom (sc.heap.objs.size + 1) scope.names (cloFrom X.env.cells scope.names [])) fp
  have rt := pt sc (upd Hb D (.dT [])) sc.heap.objs.size (cellsFrom (sc.heap.objs.size + 1) scope.names (cloFrom X.env.cells scope.names [])) fp
  have rk := pk sc (upd Hb D (.dT [])) sc.heap.objs.size (cellsFrom (sc.heap.objs.size + 1) scope.names (cloFrom X.env.cells scope.names [])) fp
  have rv := pv' sc (upd Hb D (.dT [])) sc.heap.objs.size (cellsFrom (sc.heap.objs.size + 1) scope.names (cloFrom X.env.cells scope.names [])) fp
  have bare : ∀ b ∈ fp, upd Hb D (.dT []) b = none := fun b hb => (fc b hb).1.1
  show codeAny _ _ (.compStart (.DictComp kx vx [⟨tg, iter, ifs, 0⟩] scope pos) 0 (.ref it) (.ref sb.heap.objs.size) (compEnvC scope (cellsFrom (({ sb with heap := sb.heap.push { cls := .type "dict", data := .dict #[] } } : Shared).heap.objs.size + 1) scope.names (cloFrom X.env.cells scope.names [])) ({ sb with heap := sb.heap.push { cls := .type "dict", data := .dict #[] } } : Shared).heap.objs.size X.env)) (compPost (model X.prog X.w) X.A X.xe none _ (.ref sb.heap.objs.size) ({ sb with heap := sb.heap.push { cls := .type "dict", data := .dict #[] } } : Shared).heap.objs.size) { ({ sb with heap := sb.heap.push { cls := .type "dict", data := .dict #[] } } : Shared) with heap := pushCells (({ sb with heap := sb.heap.push { cls := .type "dict", data := .dict #[] } } : Shared).heap.push { cls := .type "dict", data := .dict #[] }) scope.names }
  rw [eSc, eD]
  obtain ⟨ce, eCe⟩ : ∃ ce, compEnvC scope (cellsFrom (sc.heap.objs.size + 1) scope.names (cloFrom X.env.cells scope.names [])) sc.heap.objs.size X.env = ce := ⟨_, rfl⟩
  have at_ce : ce.locals = sc.heap.objs.size := eCe ▸ rfl
  rw [eCe] at Id rg rt rk rv ⊢
  obtain ⟨Hc, eHc⟩ : ∃ Hc, upd Hb D (.dT []) = Hc := ⟨_, rfl⟩
  rw [eHc] at Ic Id rg rt rk rv start bare fc
  obtain ⟨sd, eSd⟩ : ∃ sd : Shared, { sc with heap := pushCells (sc.heap.push { cls := .type "dict", data := .dict #[] }) scope.names } = sd := ⟨_, rfl⟩
  rw [eSd] at Id ⊢
  have std : told 0 sd.heap := Tn.keep _ _ _ stc fun b _ o e => eSd ▸ pushCells_keeps _ _ _ _ (Heap.get?_push_of_some _ e)
  have pins_ : ∀ {τ : L2.St} {H' : Hp} {s' : Shared}, Inv (X.blk sc Hc scope ce fp) [] τ H' s' → (∀ b ∈ fp, H' b = none) → ∀ b ∈ fp, FpOk (X.blk sc Hc scope ce fp) [] H' b := fun I' no b hb =>
    ⟨no b hb, (I'.ok.exf b hb).1, I'.ok.exfs b hb, .inl hb, fun x c e => (I'.ok.exf b hb).2 x c e, fun p hp => nomatch (show p ∈ ([] : List (Addr × Obj)) from hp)⟩
  have loop : codeAny (model X.prog X.w) X.A (.compLoop (.DictComp kx vx [⟨tg, iter, ifs, 0⟩] scope pos) 0 (.ref it) (.ref D) ce) (compPost (model X.prog X.w) X.A X.xe none (fun v s' => ∃ x H', Inv X pins σ H' s' ∧ RelV x v ∧ Q x H') (.ref D) sc.heap.objs.size) sd := by
    refine compLoop_anyD (fun n s' => ∃ i H', Inv (X.blk sc Hc scope ce fp) [] (wipe σ (own.map (·.2))) H' s' ∧ told i s'.heap ∧ (∀ b ∈ fp, H' b = none) ∧ W i n H') ?_ m0 ⟨0, Hc, Id, std, bare, start⟩
    rintro n s1 ⟨i, H1, I1, st1, no1, w1⟩
    rcases turn i n H1 w1 with ⟨halt, ends⟩ | ⟨goes, Nx, next, step⟩
    · refine thnF (Tn.done (X.blk sc Hc scope ce fp) rfl rfl rfl calm i [] s1 _ H1 (fun _ _ => False) I1 (pins_ I1 no1) st1 halt) fun r s2 out => ?_
      obtain ⟨rfl, I2⟩ := out
      have I3 : Inv X pins σ H1 s2 := Ic.call' (ch := fp) I2.os I2.base I2.hok I2.bare fun b hb =>
        let q := (fc b hb).1.2
        ⟨q.2.2.1, q.1, q.2.2.2.1, q.2.2.2.2⟩
      have free1 : H1 sc.heap.objs.size = none := at_ce ▸ I2.free
      obtain ⟨ns, hns, _⟩ := I2.loc
      have hns : s2.heap.Ns sc.heap.objs.size ns := at_ce ▸ (show s2.heap.Ns ce.locals ns from hns)
      obtain ⟨q0, q1, q2, q3, q4, q5⟩ := Ic.fpOk (Nat.le_refl _) free1
      exact ⟨ns, hns, fun h2 same => ⟨.ref D, H1, I3.turned (t' := s2.toks) (fun b o hb e => (same.2 b hb).trans e) q0 q1 q3 q4 q5, rfl, ends⟩⟩
    · refine thnF (Tn.item (X.blk sc Hc scope ce fp) rfl rfl rfl calm i [] s1 _ H1 (fun _ _ => False) I1 (pins_ I1 no1) st1 goes) fun r s2 out => ?_
      obtain ⟨u, rfl, out⟩ := out
      refine thnF out fun _ s3 ⟨x, H3, I3, r3, y3, st3, no3⟩ => ?_
      have J3 := I3.pinned (pins_ I3 no3) (Tn.obj _ _ st3)
      refine thnF (rg.run _ s3 _ H3 x u _ J3 r3 (step x H3 y3)) fun _ s4 ⟨σ4, H4, I4, w4, q4⟩ => ?_
      refine thnF (rt.run _ s4 σ4 H4 _ I4 q4) fun ok s5 ⟨H5, I5, q5⟩ => ?_
      have back : ∀ {s' : Shared} {H' : Hp}, Inv (X.blk sc Hc scope ce fp) ([] ++ pinsAt fp s3.heap) σ4 H' s' → Nx H' → ∃ m, m < n ∧ ∃ i H', Inv (X.blk sc Hc scope ce fp) [] (wipe σ (own.map (·.2))) H' s' ∧ told i s'.heap ∧ (∀ b ∈ fp, H' b = none) ∧ W i m H' := by
        intro s' H' I' nx
        obtain ⟨m', less, w'⟩ := next H' nx
        have stays : ∀ b ∈ fp, ∀ o, s3.heap.get? b = some o → s'.heap.get? b = some o ∧ H' b = none := fun b hb o e =>
          have z := I'.pin (b, o) (List.mem_append_right _ (List.mem_append_right _ (mem_pinsAt hb e)))
          ⟨z.1, z.2.1⟩
        refine ⟨m', less, i + 1, H', I'.unpinned (pins := []) |>.weak (by rw [← w4, wipe_length]) (fun j v e => (wipe_some (w4.symm ▸ e)).1), Tn.keep _ _ _ st3 fun b hb o e => (stays b hb o e).1, fun b hb => ?_, w'⟩
        obtain ⟨o, e, _⟩ := Tn.obj _ _ st3 b hb
        exact (stays b hb o e).2
      cases ok with
      | false => exact back I5 (by simpa using q5)
      | true =>
        refine thnF (rk.run _ s5 σ4 H5 _ I5 (show tk σ4 H5 _ from q5)) fun _ s6 ⟨y6, H6, I6, r6, q6⟩ => ?_
        refine thnF (rv.run _ s6 σ4 H6 _ I6 q6) fun _ s7 ⟨y7, H7, I7, r7, kvs, key, b, e7, hb7, hD7, hz7, nx⟩ => ?_
        exact dset_T (X := X.blk sc Hc scope ce fp) hu I7 hD7 hb7 hz7 (e7 ▸ r6) r7 fun s8 I8 => back I8 nx
  exact codeAny_compStart_dict loop (Tn.self X.A 0 _ _ _ std loop)
end
section
variable {J : It} {n : Nat} {Gd : Hp → Prop} {Y : Nat → Hp → V → Hp → Prop} {g : TG} {tt : TT} {tk tv : TE} {wi : TI} {vs : List Nat} {σ : L2.St} {H1 : Hp} {D : Addr} {Qd : Hp → Prop}
theorem dcT_it (w : Walk J n Gd Y) (Pv : Nat → Hp → Prop) (h0 : Pv 0 (upd H1 D (.dT []))) (hG : ∀ i H, i ≤ n → Pv i H → Gd H)
    (hs : ∀ i x H H', i < n → Pv i H → Y i H x H' → g x (wipe σ vs) H' fun σ2 H2 => wipe σ2 vs = wipe σ vs ∧ tt σ2 H2 fun b H3 =>
      if b = true then tk σ2 H3 fun y H4 => tv σ2 H4 fun z H5 => ∃ kvs k b, y = .ref b ∧ H5 b = some (.tup (k.map kV)) ∧ H5 D = some (.dT kvs) ∧ kvs.length < sizeLine ∧ Pv (i + 1) (upd H5 D (.dT (putK kvs k z))) else Pv (i + 1) H3) (hd : ∀ H, Pv n H → Qd H) :
    ∃ W : Nat → Nat → Hp → Prop, (∃ m, W 0 m (upd H1 D (.dT []))) ∧ ∀ i m H, W i m H →
      (J.stop i H ∧ Qd H) ∨ (J.go i H ∧ ∃ Nx : Hp → Prop, (∀ H', Nx H' → ∃ m', m' < m ∧ W (i + 1) m' H') ∧ ∀ x H', J.yld i H x H' → g x (wipe σ vs) H' fun σ2 H2 => wipe σ2 vs = wipe σ vs ∧ tt σ2 H2 fun b H3 =>
        if b = true then tk σ2 H3 fun y H4 => tv σ2 H4 fun z H5 => ∃ kvs k b, y = .ref b ∧ H5 b = some (.tup (k.map kV)) ∧ H5 D = some (.dT kvs) ∧ kvs.length < sizeLine ∧ Nx (upd H5 D (.dT (putK kvs k z))) else Nx H3) := by
  refine ⟨fun i m H => m = n - i ∧ i ≤ n ∧ Pv i H, ⟨n, by simp, Nat.zero_le _, h0⟩, ?_⟩
  rintro i m H ⟨rfl, hi, p⟩
  have q := hG i H hi p
  by_cases c : i < n
  · exact .inr ⟨w.goes i H c q, Pv (i + 1), fun H' p' => ⟨n - (i + 1), by omega, rfl, c, p'⟩, fun x H' y => hs i x H H' c p (w.yields i H x H' c q y)⟩
  · obtain rfl : i = n := by omega
    exact .inl ⟨w.stops H q, hd H p⟩
theorem w_dcT {Q : VK} (q : wi σ H1 fun J H1 => ∀ D, H1 D = none → ∃ W : Nat → Nat → Hp → Prop, (∃ m, W 0 m (upd H1 D (.dT []))) ∧ ∀ i m H, W i m H →
  (J.stop i H ∧ Q (.ref D) H) ∨ (J.go i H ∧ ∃ Nx : Hp → Prop, (∀ H', Nx H' → ∃ m', m' < m ∧ W (i + 1) m' H') ∧ ∀ x H', J.yld i H x H' → g x (wipe σ vs) H' fun σ2 H2 => wipe σ2 vs = wipe σ vs ∧ tt σ2 H2 fun b H3 =>
    if b = true then tk σ2 H3 fun y H4 => tv σ2 H4 fun z H5 => ∃ kvs k b, y = .ref b ∧ H5 b = some (.tup (k.map kV)) ∧ H5 D = some (.dT kvs) ∧ kvs.length < sizeLine ∧ Nx (upd H5 D (.dT (putK kvs k z))) else Nx H3)) : tDcT wi g tt tk tv vs σ H1 Q := q
end
section
variable {X : Cx}
/-- set(t), t a tuple of ints -/
def rSetTI (K : PySem.W.Frag) (w : World) : List V → Hp → VK → Prop := fun xs H Q => ∃ (p : Addr) (ns : List Int), xs = [.ref p] ∧ SqT K H p (ns.map V.int) ∧ ns.length ≤ 1000 ∧
  ∀ (a : Addr) (c : Nat) H2, H a = none → c ≤ ns.length → (∀ o, G o H H2) → H2 a = some (SetO w a (fun j => decide (j ∈ ns)) c) → Q (.ref a) H2
theorem cr_setTI (hc : X.calm = true) : CallR X (.type "set") (rSetTI X.K X.w) := by
  intro pins s σ H vs us Q I r h
  obtain ⟨p, ns, rfl, hp, hz, q⟩ := h
  rw [Vals.ref1 r]
  obtain ⟨its, rv, pt, _⟩ := I.tuple hp
  have free : H s.heap.objs.size = none := I.hok.fresh (Nat.le_refl _)
  refine call_set_tupI ns (I.ok.hd hc) pt (ints_of_vals rv) (by unfold scanBound; omega) fun h' tk c R hc' keep => ?_
  exact ⟨.ref s.heap.objs.size, _, I.laid (t' := tk) keep (Nat.le_refl _) (setO_new R), rfl, q _ c _ free hc' (fun _ => G.alloc free) upd_same⟩
/-- sorted(a set of ints) -/
def rSortSI (w : World) : List V → Hp → VK → Prop := fun vs H Q => ∃ (a : Addr) (S : Int → Bool) (n : Nat), vs = [V.ref a] ∧ H a = some (SetO w a S n) ∧ n < 64 ∧
  ∀ (ns : List Int) (p : Addr) H2, ns.Pairwise (· < ·) → (∀ k : Int, k ∈ ns ↔ S k = true) → (∀ o, G o H H2) → H2 p = some (.lst (ns.map V.int)) → Q (.ref p) H2
theorem cr_sortSI (hc : X.calm = true) : CallR X (.builtin "sorted") (rSortSI X.w) := CallR.weak (cr_sortedSet hc) fun vs H Q h => by
  obtain ⟨a, S, n, e, ha, hn, q⟩ := h
  exact ⟨a, S, n, e, ha, hn, fun ns p h1 h2 _ hp => q ns p _ h1 h2 (fun _ => G.alloc hp) upd_same⟩
end
end GA
/-! ## GDN -/
namespace GA
open PySem L2
/-! ### dicts whose keys are tuples of tuples of ints -/
abbrev nkI (d : List Int) : NestedKey := .tup (d.map NestedKey.num)
abbrev nkDD (ds : List (List Int)) : NestedKey := .tup (ds.map nkI)
abbrev dII (ds : List (List Int)) : PyData := .tuple (ds.map dI)
theorem nkI_inj : ∀ {d e : List Int}, nkI d = nkI e → d = e := fun {d e} h => by
  have h := NestedKey.tup.inj h
  exact List.map_inj_right (fun a b h => NestedKey.num.inj h) |>.mp h
theorem nkDD_inj {d e : List (List Int)} (h : nkDD d = nkDD e) : d = e := by
  have h := NestedKey.tup.inj h
  exact List.map_inj_right (fun a b h => nkI_inj h) |>.mp h
theorem nk_ints {h : Heap} : ∀ {d : List Int} {vs : List Value} {as : List Addr}, ReadsAll h vs (d.map PyData.int) as → NestedAll h (d.map NestedKey.num) vs
  | [], _, _, r => by cases r; exact .nil
  | i :: d, _, _, r => by
    cases r with
    | cons r1 r2 =>
      cases r1
      exact .cons (.int _ _) (nk_ints r2)
theorem nk_I {h : Heap} {d : List Int} {v : Value} {as : List Addr} (r : Reads h v (dI d) as) : NestedIs h (nkI d) v := by
  cases r with
  | tuple e1 e2 e3 r => exact .tup e1 e2 e3 (nk_ints r)
theorem nk_all {h : Heap} : ∀ {ds : List (List Int)} {vs : List Value} {as : List Addr}, ReadsAll h vs (ds.map dI) as → NestedAll h (ds.map nkI) vs
  | [], _, _, r => by cases r; exact .nil
  | d :: ds, _, _, r => by
    cases r with
    | cons r1 r2 => exact .cons (nk_I r1) (nk_all r2)
theorem nk_II {h : Heap} {ds : List (List Int)} {v : Value} {as : List Addr} (r : Reads h v (dII ds) as) : NestedIs h (nkDD ds) v ∧ ∃ a, v = .ref a := by
  cases r with
  | tuple e1 e2 e3 r => exact ⟨.tup e1 e2 e3 (nk_all r), _, rfl⟩
theorem nk_depI : ∀ d : List Int, NestedKey.depthAll (d.map NestedKey.num) = 0
  | [] => rfl
  | _ :: d => by rw [List.map_cons, NestedKey.depthAll, nk_depI d]; rfl
theorem nk_depA : ∀ ds : List (List Int), NestedKey.depthAll (ds.map nkI) ≤ 1
  | [] => Nat.zero_le _
  | d :: ds => by
    rw [List.map_cons, NestedKey.depthAll, NestedKey.depth, nk_depI]
    have := nk_depA ds
    omega
theorem nk_dep (ds : List (List Int)) : (nkDD ds).depth ≤ 8 := by
  rw [NestedKey.depth]
  have := nk_depA ds
  omega
theorem nl_dII (ds : List (List Int)) : nl (dII ds) = true := by
  show nls _ = true
  exact nls_iff.mpr fun d hd => by
    obtain ⟨e, _, rfl⟩ := List.mem_map.mp hd
    exact nl_dI e
/-- the object of such a dict, with its keys and their places -/
def ND (P : Program) (w : World) (d : Addr) (kbs : List (NestedKey × Addr)) : Heap → Prop := fun h => (d == sysModules) = false ∧ ∃ xs : List (NestedKey × Addr × Value), xs.map (fun x => (x.1, x.2.1)) = kbs ∧ xs.length ≤ sizeLine ∧
  ∃ o es ep, h.get? d = some o ∧ o.ExactDict ∧ o.data = .dict es ep ∧ es.toList = xs.map (entryOfKey (nestedKind P w)) ∧ (xs.map (·.1)).Nodup
theorem ND.stay {P : Program} {w : World} {d : Addr} {kbs : List (NestedKey × Addr)} {h1 h2 : Heap} (x : ND P w d kbs h1) (k : ∀ o, h1.get? d = some o → h2.get? d = some o) : ND P w d kbs h2 := by
  obtain ⟨a, xs, b, c, o, es, ep, h, r⟩ := x
  exact ⟨a, xs, b, c, o, es, ep, k o h, r⟩
theorem ND.ok {P : Program} {w : World} {H : Hp} {d : Addr} {kbs : List (NestedKey × Addr)} {h : Heap} (x : ND P w d kbs h) : ObjOk P w H h d (.ext (ND P w d kbs)) :=
  ⟨x, let ⟨_, _, _, _, o, _, _, e, _⟩ := x; ⟨o, e⟩, fun _ _ y k => y.stay k⟩
/-- a dict with the keys kss, told by their data -/
def IsN (P : Program) (w : World) (K : PySem.W.Frag) (H : Hp) (d : Addr) (kss : List (List (List Int))) : Prop := ∃ kbs : List (NestedKey × Addr), H d = some (.ext (ND P w d kbs)) ∧ kbs.map (·.1) = kss.map nkDD ∧ ∀ kb ∈ kbs, ∃ ks, kb.1 = nkDD ks ∧ Dp K H (.ref kb.2) (dII ks)
section
variable {X : Cx} {pins : List (Addr × Obj)} {σ : St} {H : Hp} {s : Shared}
theorem nd_of (I : Inv X pins σ H s) {d : Addr} {kss : List (List (List Int))} (h : IsN X.prog X.w X.K H d kss) : (d == sysModules) = false ∧ ∃ xs : List (NestedKey × Addr × Value), xs.map (·.1) = kss.map nkDD ∧ xs.length ≤ sizeLine ∧ s.heap.DictOfH (nestedKind X.prog X.w) d xs := by
  obtain ⟨kbs, e, ek, all⟩ := h
  obtain ⟨x, _, _⟩ := (show ObjOk X.prog X.w H s.heap d (.ext (ND X.prog X.w d kbs)) from I.hok d _ e)
  obtain ⟨y, xs, exs, z, o, es, ep, h1, h2, h3, h4, h5⟩ := x
  refine ⟨y, xs, ?_, z, o, es, ep, h1, h2, h3, h4, fun q hq => ?_, h5⟩
  · rw [← ek, ← exs, List.map_map]; rfl
  · obtain ⟨ks, e1, e2⟩ := all (q.1, q.2.1) (by rw [← exs]; exact List.mem_map_of_mem hq)
    obtain ⟨as, r⟩ := Dp.reads I (dII ks) (.ref q.2.1) (.ref q.2.1) e2 rfl
    have e1 : q.1 = nkDD ks := e1
    rw [e1]
    exact ⟨(nk_II r).1, nk_dep ks⟩
theorem at_some {xs : List (NestedKey × Addr × Value)} {kss : List (List (List Int))} (e : xs.map (·.1) = kss.map nkDD) (ks : List (List Int)) : (atKey xs (nkDD ks)).isSome = decide (ks ∈ kss) := by
  have m : nkDD ks ∈ xs.map (·.1) ↔ ks ∈ kss := by
    rw [e, List.mem_map]
    exact ⟨fun ⟨y, hy, ey⟩ => by rw [← nkDD_inj ey]; exact hy, fun h => ⟨ks, h, rfl⟩⟩
  unfold atKey
  rw [Option.isSome_map, Bool.eq_iff_iff, List.find?_isSome, decide_eq_true_iff, ← m, List.mem_map]
  constructor
  · rintro ⟨x, hx, h⟩
    exact ⟨x, hx, of_decide_eq_true h⟩
  · rintro ⟨x, hx, h⟩
    exact ⟨x, hx, decide_eq_true h⟩
end
def rNotInN (P : Program) (w : World) (K : PySem.W.Frag) : R2 := fun x y H Q => ∃ d kss ks, y = .ref d ∧ IsN P w K H d kss ∧ Dp K H x (dII ks) ∧ Q (.bl (!decide (ks ∈ kss))) H
theorem op_notInN {X : Cx} (hu : X.A.units + 65 < cLine) : OpR X (compareOp .NotIn) (rNotInN X.prog X.w X.K) := by
  intro pins s σ H x y v u Q I rx ry h
  obtain ⟨d, kss, ks, ey, hN, hd, q⟩ := h
  subst ey
  cases (show u = Value.ref d from ry)
  obtain ⟨as, r⟩ := Dp.reads I (dII ks) x v hd rx
  obtain ⟨rn, b, eb⟩ := nk_II r
  subst eb
  obtain ⟨y, xs, e, z, D⟩ := nd_of I hN
  refine PyProof.Rows.wpAny_notIn_heap (knd := nestedKind X.prog X.w) (by show X.A.units + 1 + 8 < cLine; omega) ⟨rn, nk_dep ks⟩ y D ?_
  rw [at_some e]
  exact ⟨.bl _, H, I.tok _, rfl, q⟩
def rSetN (P : Program) (w : World) (K : PySem.W.Frag) : V → V → V → Hp → (Hp → Prop) → Prop := fun o i v H Q => ∃ d kss ks, o = .ref d ∧ IsN P w K H d kss ∧ Dp K H i (dII ks) ∧ ks ∉ kss ∧ kss.length < sizeLine ∧ ∀ u, IsN P w K (upd H d u) d (kss ++ [ks]) → Q (upd H d u)
theorem set_dictN {X : Cx} (hu : X.A.units + 65 < cLine) : PSet X (rSetN X.prog X.w X.K) := by
  intro pins s σ H o i v ov iv u Q I ro ri rv h
  obtain ⟨d, kss, ks, eo, hN, hd, nm, lt, q⟩ := h
  subst eo
  cases (show ov = Value.ref d from ro)
  obtain ⟨as, r⟩ := Dp.reads I (dII ks) i iv hd ri
  obtain ⟨rn, b, eb⟩ := nk_II r
  subst eb
  have hN' := hN
  obtain ⟨kbs, e0, ek, all⟩ := hN'
  obtain ⟨xok, _, _⟩ := (show ObjOk X.prog X.w H s.heap d (.ext (ND X.prog X.w d kbs)) from I.hok d _ e0)
  obtain ⟨ys, xs, exs, z, ob, es, ep, h1, h2, h3, h4, h5⟩ := xok
  have e : xs.map (·.1) = kss.map nkDD := by rw [← ek, ← exs, List.map_map]; rfl
  have D : s.heap.DictOfH (nestedKind X.prog X.w) d xs := ⟨ob, es, ep, h1, h2, h3, h4, fun q hq => by
    obtain ⟨ks', e1, e2⟩ := all (q.1, q.2.1) (by rw [← exs]; exact List.mem_map_of_mem hq)
    obtain ⟨as', r'⟩ := Dp.reads I (dII ks') (.ref q.2.1) (.ref q.2.1) e2 rfl
    have e1 : q.1 = nkDD ks' := e1
    rw [e1]
    exact ⟨(nk_II r').1, nk_dep ks'⟩, h5⟩
  have lx : xs.length = kss.length := by
    have := congrArg List.length e
    rwa [List.length_map, List.length_map] at this
  have none_ : atKey xs (nkDD ks) = none := by
    have := at_some e ks
    rw [decide_eq_false nm] at this
    cases c : atKey xs (nkDD ks) with
    | none => rfl
    | some p => rw [c] at this; cases this
  have ei : i = .ref b := by
    obtain ⟨c, vs, ec, _⟩ := dp_tup hd
    rw [ec] at ri
    cases (show Value.ref b = Value.ref c from ri)
    exact ec
  refine wpAny_setItem_heap (knd := nestedKind X.prog X.w) (hsz := z) (by show X.A.units + 1 + 8 < cLine; omega) ⟨rn, nk_dep ks⟩ D fun h' D' hs => ?_
  rw [storedH_new none_] at D'
  obtain ⟨o', es', ep', g1, g2, g3, g4, _, g5⟩ := D'
  have nd' : ND X.prog X.w d (kbs ++ [(nkDD ks, b)]) h' := ⟨ys, xs ++ [(nkDD ks, b, u)], by rw [List.map_append, exs]; rfl, by rw [List.length_append, List.length_singleton]; omega, o', es', ep', g1, g2, g3, g4, g5⟩
  refine ⟨upd H d (.ext (ND X.prog X.w d (kbs ++ [(nkDD ks, b)]))), d_write I (by rw [e0]; exact True.intro) hs ⟨o', g1⟩ nd'.ok, ?_⟩
  have ts : Ts H (upd H d (.ext (ND X.prog X.w d (kbs ++ [(nkDD ks, b)])))) := fun a' xs' hx => by
    rcases hx with hx | ⟨ob', hx⟩
    · exact .inl (by rw [upd_ne (ne_of hx e0 (fun z => nomatch z))]; exact hx)
    · exact .inr ⟨ob', by rw [upd_ne (ne_of hx e0 (fun z => nomatch z))]; exact hx⟩
  refine q _ ⟨_, upd_same, by rw [List.map_append, List.map_append, ek]; rfl, fun kb hkb => ?_⟩
  have nlI : ∀ ds : List (List Int), nl (dII ds) = true := fun ds => nl_dII ds
  rcases List.mem_append.mp hkb with hk | hk
  · obtain ⟨ks', e1, e2⟩ := all kb hk
    exact ⟨ks', e1, dp_t ts _ _ (nlI ks') e2⟩
  · have ekb : kb = (nkDD ks, b) := by simpa using hk
    rw [ekb]
    rw [ei] at hd
    exact ⟨ks, rfl, dp_t ts _ _ (nlI ks) hd⟩
/-- {k: v}, one pair; the new dict stands empty while the pair is made -/
def tDispN (P : Program) (w : World) (K : PySem.W.Frag) (trs : List (TE × TE)) : TE := fun σ H Q => ∀ p, H p = none → ∀ u0, IsN P w K (upd H p u0) p [] → tPairs trs σ (upd H p u0) fun ps H2 => IsN P w K H2 p [] ∧ ∃ (b : Addr) (ds : List (List Int)) (v : V), ps = [(.ref b, v)] ∧ Dp K H2 (.ref b) (dII ds) ∧
  ∀ u, IsN P w K (upd H2 p u) p [ds] → Q (.ref p) (upd H2 p u)
theorem pe_dispN {X : Cx} {pos : Pos} {keys : List (Option Expr)} {values : List Expr} {trs : List (TE × TE)} (hu : X.A.units + 65 < cLine) (h : PPs X pos keys values trs) (hall : keys.all (·.isSome) = true) (hl : keys.length = values.length) (h0 : keys ≠ [])
    (h15 : keys.length ≤ 15) : PE X (.Dict keys values pos) (tDispN X.prog X.w X.K trs) := by
  refine ⟨fun pins s σ H Q I q => ?_⟩
  have hn := I.hok.fresh (Nat.le_refl s.heap.objs.size)
  have nd0 : ND X.prog X.w s.heap.objs.size [] (s.heap.push { cls := .type "dict", data := .dict #[] }) := ⟨beq_eq_false_iff_ne.mpr (Ne.symm (Nat.ne_of_lt I.big)), [], rfl, Nat.zero_le _, _, #[], 0, Heap.get?_push_size _ rfl, ⟨rfl, rfl, rfl⟩, rfl, rfl, List.nodup_nil⟩
  have I1 := I.laid (a := s.heap.objs.size) (o := .ext (ND X.prog X.w s.heap.objs.size [])) (h' := s.heap.push { cls := .type "dict", data := .dict #[] }) (t' := s.toks) (fun _ _ q => Heap.get?_push_of_some _ q) (Nat.le_refl _) nd0.ok
  have hlen := pairTrees_length keys values X.env pos hall hl
  rw [arm_eval_Dict, zip_pairTrees keys values X.env pos hall hl, dictDisplay_pairs _ (fun e => h0 (List.length_eq_zero_iff.mp (by rw [← hlen, e]; rfl))) (by rw [hlen]; omega)]
  refine wpAny_bind (wpAny_standAt (wpAny_bind (wpAny_subDictH (knd := nestedKind X.prog X.w) (Q := fun d s' => wpAny (model X.prog X.w) X.A (pure (Value.ref d)) (fun v s' => ∃ x H', Inv X pins σ H' s' ∧ RelV x v ∧ Q x H') X.xe s') (by show X.A.units + 8 < cLine; omega) (by rw [hlen]; exact h15) ?_)))
  refine thn (h.run pins _ σ _ _ I1 (q _ hn _ ⟨[], upd_same, rfl, fun _ h => nomatch h⟩)) fun ws s2 ⟨ps, H2, I2, rel, hN, b, ds, v, ep, hd, q2⟩ => ?_
  subst ep
  cases rel with
  | @cons _ y _ _ r1 r2 =>
    cases r2
    obtain ⟨k1, v1⟩ := y
    obtain ⟨ra, rb⟩ := r1
    cases (show k1 = Value.ref b from ra)
    obtain ⟨as, r⟩ := Dp.reads I2 (dII ds) (.ref b) (.ref b) hd rfl
    obtain ⟨rn, _⟩ := nk_II r
    have hN' := hN
    obtain ⟨kbs, e0, ek, all⟩ := hN'
    obtain rfl : kbs = [] := by cases kbs with | nil => rfl | cons _ _ => cases ek
    obtain ⟨xok, _, _⟩ := (show ObjOk X.prog X.w H2 s2.heap s.heap.objs.size (.ext (ND X.prog X.w s.heap.objs.size [])) from I2.hok _ _ e0)
    obtain ⟨ys, xs, exs, z, ob, es, ep, h1, h2, h3, h4, h5⟩ := xok
    obtain rfl : xs = [] := by cases xs with | nil => rfl | cons _ _ => cases exs
    refine ⟨[(nkDD ds, b, v1)], ⟨rfl, rfl, ⟨rn, nk_dep ds⟩, trivial⟩, ⟨ob, es, ep, h1, h2, h3, h4, (fun _ h => nomatch h), h5⟩, fun h' tk D' hs => wpAny_pure ?_⟩
    have D' : h'.DictOfH (nestedKind X.prog X.w) s.heap.objs.size [(nkDD ds, b, v1)] := D'
    obtain ⟨o', es', ep', g1, g2, g3, g4, _, g5⟩ := D'
    have nd' : ND X.prog X.w s.heap.objs.size [(nkDD ds, b)] h' := ⟨ys, [(nkDD ds, b, v1)], rfl, by rw [sizeLine_eq, List.length_singleton]; decide, o', es', ep', g1, g2, g3, g4, g5⟩
    have ts : Ts H2 (upd H2 s.heap.objs.size (.ext (ND X.prog X.w s.heap.objs.size [(nkDD ds, b)]))) := fun a' xs' hx => by
      rcases hx with hx | ⟨ob', hx⟩
      · exact .inl (by rw [upd_ne (ne_of hx e0 (fun z => nomatch z))]; exact hx)
      · exact .inr ⟨ob', by rw [upd_ne (ne_of hx e0 (fun z => nomatch z))]; exact hx⟩
    refine ⟨.ref s.heap.objs.size, _, d_write I2 (by rw [e0]; exact True.intro) hs ⟨o', g1⟩ nd'.ok, rfl, q2 _ ⟨_, upd_same, rfl, fun kb hkb => ?_⟩⟩
    have ekb : kb = (nkDD ds, b) := by simpa using hkb
    rw [ekb]
    exact ⟨ds, rfl, dp_t ts _ _ (nl_dII ds) hd⟩
end GA
/-! ## KH -/
namespace Mine
open PySem L2 GA
def top (i : Nat) : Stmt := PySem.Challenge.pw_growalong_k19_whole_pictures.main.body.getD i (.Pass ⟨0, 0, 0, 0⟩)
abbrev s_BadRecord_init : Stmt := inClass (top 3) 0
abbrev N_BadRecord_init : List Str := ["self", "part", "at"]
abbrev P_BadRecord_init : List Str := ["self", "part", "at"]
theorem sc_BadRecord_init : FnScope N_BadRecord_init P_BadRecord_init (defScope s_BadRecord_init) := ⟨rfl, rfl, rfl, by decide +kernel, rfl, by decide +kernel, by decide +kernel⟩
abbrev s_NotWhole_init : Stmt := inClass (top 4) 0
abbrev N_NotWhole_init : List Str := ["self"]
abbrev P_NotWhole_init : List Str := ["self"]
theorem sc_NotWhole_init : FnScope N_NotWhole_init P_NotWhole_init (defScope s_NotWhole_init) := ⟨rfl, rfl, rfl, by decide +kernel, rfl, by decide +kernel, by decide +kernel⟩
abbrev s_is_integer : Stmt := top 6
abbrev N_is_integer : List Str := ["thing"]
abbrev P_is_integer : List Str := ["thing"]
theorem sc_is_integer : FnScope N_is_integer P_is_integer (defScope s_is_integer) := ⟨rfl, rfl, rfl, by decide +kernel, rfl, by decide +kernel, by decide +kernel⟩
abbrev s_is_between : Stmt := top 7
abbrev N_is_between : List Str := ["low", "high", "thing"]
abbrev P_is_between : List Str := ["low", "high", "thing"]
theorem sc_is_between : FnScope N_is_between P_is_between (defScope s_is_between) := ⟨rfl, rfl, rfl, by decide +kernel, rfl, by decide +kernel, by decide +kernel⟩
abbrev s_is_below : Stmt := top 8
abbrev N_is_below : List Str := ["bound", "thing"]
abbrev P_is_below : List Str := ["bound", "thing"]
theorem sc_is_below : FnScope N_is_below P_is_below (defScope s_is_below) := ⟨rfl, rfl, rfl, by decide +kernel, rfl, by decide +kernel, by decide +kernel⟩
abbrev s_is_tuple_of : Stmt := top 9
abbrev N_is_tuple_of : List Str := ["least", "most", "thing"]
abbrev P_is_tuple_of : List Str := ["least", "most", "thing"]
theorem sc_is_tuple_of : FnScope N_is_tuple_of P_is_tuple_of (defScope s_is_tuple_of) := ⟨rfl, rfl, rfl, by decide +kernel, rfl, by decide +kernel, by decide +kernel⟩
abbrev s_are_below : Stmt := top 10
abbrev N_are_below : List Str := ["bound", "things", "thing"]
abbrev P_are_below : List Str := ["bound", "things"]
theorem sc_are_below : FnScope N_are_below P_are_below (defScope s_are_below) := ⟨rfl, rfl, rfl, by decide +kernel, rfl, by decide +kernel, by decide +kernel⟩
abbrev s_Record_init : Stmt := inClass (top 14) 0
abbrev N_Record_init : List Str := ["self", "writers", "diaries"]
abbrev P_Record_init : List Str := ["self", "writers", "diaries"]
theorem sc_Record_init : FnScope N_Record_init P_Record_init (defScope s_Record_init) := ⟨rfl, rfl, rfl, by decide +kernel, rfl, by decide +kernel, by decide +kernel⟩
abbrev s_Record_eq : Stmt := inClass (top 14) 1
abbrev N_Record_eq : List Str := ["self", "other"]
abbrev P_Record_eq : List Str := ["self", "other"]
theorem sc_Record_eq : FnScope N_Record_eq P_Record_eq (defScope s_Record_eq) := ⟨rfl, rfl, rfl, by decide +kernel, rfl, by decide +kernel, by decide +kernel⟩
abbrev s_check_record : Stmt := top 15
abbrev N_check_record : List Str := ["writers", "diaries", "put", "writer", "machine", "diary"]
abbrev P_check_record : List Str := ["writers", "diaries"]
theorem sc_check_record : FnScope N_check_record P_check_record (defScope s_check_record) := ⟨rfl, rfl, rfl, by decide +kernel, rfl, by decide +kernel, by decide +kernel⟩
abbrev s_is_diary : Stmt := top 16
abbrev N_is_diary : List Str := ["puts", "thing"]
abbrev P_is_diary : List Str := ["puts", "thing"]
theorem sc_is_diary : FnScope N_is_diary P_is_diary (defScope s_is_diary) := ⟨rfl, rfl, rfl, by decide +kernel, rfl, by decide +kernel, by decide +kernel⟩
abbrev s_is_whole : Stmt := top 17
abbrev N_is_whole : List Str := ["record", "diary"]
abbrev P_is_whole : List Str := ["record"]
theorem sc_is_whole : FnScope N_is_whole P_is_whole (defScope s_is_whole) := ⟨rfl, rfl, rfl, by decide +kernel, rfl, by decide +kernel, by decide +kernel⟩
abbrev s_places_in : Stmt := top 19
abbrev N_places_in : List Str := ["diary", "at", "put"]
abbrev P_places_in : List Str := ["diary"]
theorem sc_places_in : FnScope N_places_in P_places_in (defScope s_places_in) := ⟨rfl, rfl, rfl, by decide +kernel, rfl, by decide +kernel, by decide +kernel⟩
abbrev s_seen_picture : Stmt := top 21
abbrev N_seen_picture : List Str := ["record", "places", "p", "writer", "q", "diary", "here"]
abbrev P_seen_picture : List Str := ["record"]
theorem sc_seen_picture : FnScope N_seen_picture P_seen_picture (defScope s_seen_picture) := ⟨rfl, rfl, rfl, by decide +kernel, rfl, by decide +kernel, by decide +kernel⟩
abbrev s_sides_by_pair : Stmt := top 22
abbrev N_sides_by_pair : List Str := ["record", "places", "puts", "diary", "p", "q", "here"]
abbrev P_sides_by_pair : List Str := ["record"]
theorem sc_sides_by_pair : FnScope N_sides_by_pair P_sides_by_pair (defScope s_sides_by_pair) := ⟨rfl, rfl, rfl, by decide +kernel, rfl, by decide +kernel, by decide +kernel⟩
abbrev s_mixed_picture : Stmt := top 23
abbrev N_mixed_picture : List Str := ["record", "sides", "firsts", "pair", "one", "other", "flag", "beside"]
abbrev P_mixed_picture : List Str := ["record"]
theorem sc_mixed_picture : FnScope N_mixed_picture P_mixed_picture (defScope s_mixed_picture) := ⟨rfl, rfl, rfl, by decide +kernel, rfl, by decide +kernel, by decide +kernel⟩
abbrev s_turned_picture : Stmt := top 24
abbrev N_turned_picture : List Str := ["record", "sides", "places", "parted", "p", "q", "r", "diary", "pair"]
abbrev P_turned_picture : List Str := ["record"]
theorem sc_turned_picture : FnScope N_turned_picture P_turned_picture (defScope s_turned_picture) := ⟨rfl, rfl, rfl, by decide +kernel, rfl, by decide +kernel, by decide +kernel⟩
abbrev s_are_turned : Stmt := top 25
abbrev N_are_turned : List Str := ["places", "p", "q", "r", "orders", "a", "b", "c", "here"]
abbrev P_are_turned : List Str := ["places", "p", "q", "r"]
theorem sc_are_turned : FnScope N_are_turned P_are_turned (defScope s_are_turned) := ⟨rfl, rfl, rfl, by decide +kernel, rfl, by decide +kernel, by decide +kernel⟩
abbrev s_check_whole : Stmt := top 27
abbrev N_check_whole : List Str := ["record"]
abbrev P_check_whole : List Str := ["record"]
theorem sc_check_whole : FnScope N_check_whole P_check_whole (defScope s_check_whole) := ⟨rfl, rfl, rfl, by decide +kernel, rfl, by decide +kernel, by decide +kernel⟩
abbrev s_picture : Stmt := top 28
abbrev N_picture : List Str := ["record", "found"]
abbrev P_picture : List Str := ["record"]
theorem sc_picture : FnScope N_picture P_picture (defScope s_picture) := ⟨rfl, rfl, rfl, by decide +kernel, rfl, by decide +kernel, by decide +kernel⟩
abbrev s__law_draw : Stmt := top 30
abbrev N__law_draw : List Str := ["_law_hand_here", "_law_many", "_law_cell", "_law_digit", "_law_number"]
abbrev P__law_draw : List Str := ["_law_hand_here", "_law_many"]
theorem sc__law_draw : FnScope N__law_draw P__law_draw (defScope s__law_draw) := ⟨rfl, rfl, rfl, by decide +kernel, rfl, by decide +kernel, by decide +kernel⟩
abbrev s__law_orders : Stmt := top 31
abbrev N__law_orders : List Str := ["_law_things", "_law_found", "_law_thing", "_law_later", "_law_order", "_law_at"]
abbrev P__law_orders : List Str := ["_law_things"]
theorem sc__law_orders : FnScope N__law_orders P__law_orders (defScope s__law_orders) := ⟨rfl, rfl, rfl, by decide +kernel, rfl, by decide +kernel, by decide +kernel⟩
abbrev s__law_hand : Stmt := top 32
abbrev N__law_hand : List Str := ["_law_script", "_law_cells", "_law_cell"]
abbrev P__law_hand : List Str := ["_law_script"]
theorem sc__law_hand : FnScope N__law_hand P__law_hand (defScope s__law_hand) := ⟨rfl, rfl, rfl, by decide +kernel, rfl, by decide +kernel, by decide +kernel⟩
abbrev s__law_shuffled : Stmt := top 33
abbrev N__law_shuffled : List Str := ["_law_hand_here", "_law_things", "_law_left", "_law_found"]
abbrev P__law_shuffled : List Str := ["_law_hand_here", "_law_things"]
theorem sc__law_shuffled : FnScope N__law_shuffled P__law_shuffled (defScope s__law_shuffled) := ⟨rfl, rfl, rfl, by decide +kernel, rfl, by decide +kernel, by decide +kernel⟩
abbrev s__law_floor : Stmt := top 34
abbrev N__law_floor : List Str := ["_law_machines", "_law_wires", "_law_machine", "_law_wire"]
abbrev P__law_floor : List Str := ["_law_machines", "_law_wires"]
theorem sc__law_floor : FnScope N__law_floor P__law_floor (defScope s__law_floor) := ⟨rfl, rfl, rfl, by decide +kernel, rfl, by decide +kernel, by decide +kernel⟩
abbrev s__law_write : Stmt := top 35
abbrev N__law_write : List Str := ["_law_floor_here", "_law_machine", "_law_put", "_law_y", "_law_x"]
abbrev P__law_write : List Str := ["_law_floor_here", "_law_machine", "_law_put"]
theorem sc__law_write : FnScope N__law_write P__law_write (defScope s__law_write) := ⟨rfl, rfl, rfl, by decide +kernel, rfl, by decide +kernel, by decide +kernel⟩
abbrev s__law_step : Stmt := top 36
abbrev N__law_step : List Str := ["_law_floor_here", "_law_writers", "_law_step_here", "_law_put", "_law_diary"]
abbrev P__law_step : List Str := ["_law_floor_here", "_law_writers", "_law_step_here"]
theorem sc__law_step : FnScope N__law_step P__law_step (defScope s__law_step) := ⟨rfl, rfl, rfl, by decide +kernel, rfl, by decide +kernel, by decide +kernel⟩
abbrev s__law_all_run : Stmt := top 37
abbrev N__law_all_run : List Str := ["_law_hand_here", "_law_machines", "_law_wires", "_law_writers", "_law_floor_here", "_law_left", "_law_wire", "_law_some", "_law_at", "_law_diary"]
abbrev P__law_all_run : List Str := ["_law_hand_here", "_law_machines", "_law_wires", "_law_writers"]
theorem sc__law_all_run : FnScope N__law_all_run P__law_all_run (defScope s__law_all_run) := ⟨rfl, rfl, rfl, by decide +kernel, rfl, by decide +kernel, by decide +kernel⟩
abbrev s__law_whole_record : Stmt := top 38
abbrev N__law_whole_record : List Str := ["_law_hand_here", "_law_machines", "_law_many", "_law_writers", "_law_wires", "_law_y", "_law_put", "_law_x"]
abbrev P__law_whole_record : List Str := ["_law_hand_here", "_law_machines", "_law_many"]
theorem sc__law_whole_record : FnScope N__law_whole_record P__law_whole_record (defScope s__law_whole_record) := ⟨rfl, rfl, rfl, by decide +kernel, rfl, by decide +kernel, by decide +kernel⟩
abbrev s__law_turned : Stmt := top 39
abbrev N__law_turned : List Str := ["_law_diaries", "_law_many", "_law_p", "_law_q", "_law_r", "_law_kinds", "_law_diary", "_law_put"]
abbrev P__law_turned : List Str := ["_law_diaries", "_law_many"]
theorem sc__law_turned : FnScope N__law_turned P__law_turned (defScope s__law_turned) := ⟨rfl, rfl, rfl, by decide +kernel, rfl, by decide +kernel, by decide +kernel⟩
abbrev s__law_picture : Stmt := top 40
abbrev N__law_picture : List Str := ["_law_writers", "_law_diaries", "_law_many", "_law_has", "_law_machines", "_law_pairs", "_law_p", "_law_q", "_law_r", "_law_s", "_law_kinds", "_law_x"]
abbrev P__law_picture : List Str := ["_law_writers", "_law_diaries"]
theorem sc__law_picture : FnScope N__law_picture P__law_picture (defScope s__law_picture) := ⟨rfl, rfl, rfl, by decide +kernel, rfl, by decide +kernel, by decide +kernel⟩
abbrev s__law_is : Stmt := top 41
abbrev N__law_is : List Str := ["_law_told", "_law_due", "_law_one", "_law_two"]
abbrev P__law_is : List Str := ["_law_told", "_law_due"]
theorem sc__law_is : FnScope N__law_is P__law_is (defScope s__law_is) := ⟨rfl, rfl, rfl, by decide +kernel, rfl, by decide +kernel, by decide +kernel⟩
abbrev s__law_few_orders : Stmt := top 42
abbrev N__law_few_orders : List Str := ["_law_hand_here", "_law_many", "_law_machines", "_law_some", "_law_diaries", "_law_writers", "_law_put", "_law_early", "_law_turn", "_law_machine", "_law_x"]
abbrev P__law_few_orders : List Str := ["_law_hand_here"]
theorem sc__law_few_orders : FnScope N__law_few_orders P__law_few_orders (defScope s__law_few_orders) := ⟨rfl, rfl, rfl, by decide +kernel, rfl, by decide +kernel, by decide +kernel⟩
abbrev s_law : Stmt := top 43
abbrev N_law : List Str := ["_law_script", "_law_hand_here", "_law_turn", "_law_writers", "_law_diaries", "_law_many", "_law_record", "_law_due"]
abbrev P_law : List Str := ["_law_script"]
theorem sc_law : FnScope N_law P_law (defScope s_law) := ⟨rfl, rfl, rfl, by decide +kernel, rfl, by decide +kernel, by decide +kernel⟩
structure Ads where
  f_is_integer : Addr
  d_is_integer : FuncData
  f_is_between : Addr
  d_is_between : FuncData
  f_is_below : Addr
  d_is_below : FuncData
  f_is_tuple_of : Addr
  d_is_tuple_of : FuncData
  f_are_below : Addr
  d_are_below : FuncData
  f_Record_init : Addr
  d_Record_init : FuncData
  f_Record_eq : Addr
  d_Record_eq : FuncData
  f_check_record : Addr
  d_check_record : FuncData
  f_is_diary : Addr
  d_is_diary : FuncData
  f_is_whole : Addr
  d_is_whole : FuncData
  f_places_in : Addr
  d_places_in : FuncData
  f_seen_picture : Addr
  d_seen_picture : FuncData
  f_sides_by_pair : Addr
  d_sides_by_pair : FuncData
  f_mixed_picture : Addr
  d_mixed_picture : FuncData
  f_turned_picture : Addr
  d_turned_picture : FuncData
  f_are_turned : Addr
  d_are_turned : FuncData
  f_check_whole : Addr
  d_check_whole : FuncData
  f_picture : Addr
  d_picture : FuncData
  f__law_draw : Addr
  d__law_draw : FuncData
  f__law_orders : Addr
  d__law_orders : FuncData
  f__law_hand : Addr
  d__law_hand : FuncData
  f__law_shuffled : Addr
  d__law_shuffled : FuncData
  f__law_floor : Addr
  d__law_floor : FuncData
  f__law_write : Addr
  d__law_write : FuncData
  f__law_step : Addr
  d__law_step : FuncData
  f__law_all_run : Addr
  d__law_all_run : FuncData
  f__law_whole_record : Addr
  d__law_whole_record : FuncData
  f__law_turned : Addr
  d__law_turned : FuncData
  f__law_picture : Addr
  d__law_picture : FuncData
  f__law_is : Addr
  d__law_is : FuncData
  f__law_few_orders : Addr
  d__law_few_orders : FuncData
  f_law : Addr
  d_law : FuncData
  c_Record : Addr
  t_MOST_MACHINES : Tok
  t_MOST_PUTS : Tok
structure Txt (K : PySem.W.Frag) (mg : Str → Option Value) (a : Ads) : Prop where
  F_is_integer : Fun K "is_integer" "is_integer" s_is_integer a.f_is_integer a.d_is_integer
  b_is_integer : Binds K a.d_is_integer P_is_integer []
  m_is_integer : mg "is_integer" = some (.ref a.f_is_integer)
  F_is_between : Fun K "is_between" "is_between" s_is_between a.f_is_between a.d_is_between
  b_is_between : Binds K a.d_is_between P_is_between []
  m_is_between : mg "is_between" = some (.ref a.f_is_between)
  F_is_below : Fun K "is_below" "is_below" s_is_below a.f_is_below a.d_is_below
  b_is_below : Binds K a.d_is_below P_is_below []
  m_is_below : mg "is_below" = some (.ref a.f_is_below)
  F_is_tuple_of : Fun K "is_tuple_of" "is_tuple_of" s_is_tuple_of a.f_is_tuple_of a.d_is_tuple_of
  b_is_tuple_of : Binds K a.d_is_tuple_of P_is_tuple_of []
  m_is_tuple_of : mg "is_tuple_of" = some (.ref a.f_is_tuple_of)
  F_are_below : Fun K "are_below" "are_below" s_are_below a.f_are_below a.d_are_below
  b_are_below : Binds K a.d_are_below P_are_below []
  m_are_below : mg "are_below" = some (.ref a.f_are_below)
  F_Record_init : Fun K "__init__" "Record.__init__" s_Record_init a.f_Record_init a.d_Record_init
  b_Record_init : Binds K a.d_Record_init P_Record_init []
  F_Record_eq : Fun K "__eq__" "Record.__eq__" s_Record_eq a.f_Record_eq a.d_Record_eq
  b_Record_eq : Binds K a.d_Record_eq P_Record_eq []
  F_check_record : Fun K "check_record" "check_record" s_check_record a.f_check_record a.d_check_record
  b_check_record : Binds K a.d_check_record P_check_record []
  m_check_record : mg "check_record" = some (.ref a.f_check_record)
  F_is_diary : Fun K "is_diary" "is_diary" s_is_diary a.f_is_diary a.d_is_diary
  b_is_diary : Binds K a.d_is_diary P_is_diary []
  m_is_diary : mg "is_diary" = some (.ref a.f_is_diary)
  F_is_whole : Fun K "is_whole" "is_whole" s_is_whole a.f_is_whole a.d_is_whole
  b_is_whole : Binds K a.d_is_whole P_is_whole []
  m_is_whole : mg "is_whole" = some (.ref a.f_is_whole)
  F_places_in : Fun K "places_in" "places_in" s_places_in a.f_places_in a.d_places_in
  b_places_in : Binds K a.d_places_in P_places_in []
  m_places_in : mg "places_in" = some (.ref a.f_places_in)
  F_seen_picture : Fun K "seen_picture" "seen_picture" s_seen_picture a.f_seen_picture a.d_seen_picture
  b_seen_picture : Binds K a.d_seen_picture P_seen_picture []
  m_seen_picture : mg "seen_picture" = some (.ref a.f_seen_picture)
  F_sides_by_pair : Fun K "sides_by_pair" "sides_by_pair" s_sides_by_pair a.f_sides_by_pair a.d_sides_by_pair
  b_sides_by_pair : Binds K a.d_sides_by_pair P_sides_by_pair []
  m_sides_by_pair : mg "sides_by_pair" = some (.ref a.f_sides_by_pair)
  F_mixed_picture : Fun K "mixed_picture" "mixed_picture" s_mixed_picture a.f_mixed_picture a.d_mixed_picture
  b_mixed_picture : Binds K a.d_mixed_picture P_mixed_picture []
  m_mixed_picture : mg "mixed_picture" = some (.ref a.f_mixed_picture)
  F_turned_picture : Fun K "turned_picture" "turned_picture" s_turned_picture a.f_turned_picture a.d_turned_picture
  b_turned_picture : Binds K a.d_turned_picture P_turned_picture []
  m_turned_picture : mg "turned_picture" = some (.ref a.f_turned_picture)
  F_are_turned : Fun K "are_turned" "are_turned" s_are_turned a.f_are_turned a.d_are_turned
  b_are_turned : Binds K a.d_are_turned P_are_turned []
  m_are_turned : mg "are_turned" = some (.ref a.f_are_turned)
  F_check_whole : Fun K "check_whole" "check_whole" s_check_whole a.f_check_whole a.d_check_whole
  b_check_whole : Binds K a.d_check_whole P_check_whole []
  m_check_whole : mg "check_whole" = some (.ref a.f_check_whole)
  F_picture : Fun K "picture" "picture" s_picture a.f_picture a.d_picture
  b_picture : Binds K a.d_picture P_picture []
  m_picture : mg "picture" = some (.ref a.f_picture)
  F__law_draw : Fun K "_law_draw" "_law_draw" s__law_draw a.f__law_draw a.d__law_draw
  b__law_draw : Binds K a.d__law_draw P__law_draw []
  m__law_draw : mg "_law_draw" = some (.ref a.f__law_draw)
  F__law_orders : Fun K "_law_orders" "_law_orders" s__law_orders a.f__law_orders a.d__law_orders
  b__law_orders : Binds K a.d__law_orders P__law_orders []
  m__law_orders : mg "_law_orders" = some (.ref a.f__law_orders)
  F__law_hand : Fun K "_law_hand" "_law_hand" s__law_hand a.f__law_hand a.d__law_hand
  b__law_hand : Binds K a.d__law_hand P__law_hand []
  m__law_hand : mg "_law_hand" = some (.ref a.f__law_hand)
  F__law_shuffled : Fun K "_law_shuffled" "_law_shuffled" s__law_shuffled a.f__law_shuffled a.d__law_shuffled
  b__law_shuffled : Binds K a.d__law_shuffled P__law_shuffled []
  m__law_shuffled : mg "_law_shuffled" = some (.ref a.f__law_shuffled)
  F__law_floor : Fun K "_law_floor" "_law_floor" s__law_floor a.f__law_floor a.d__law_floor
  b__law_floor : Binds K a.d__law_floor P__law_floor []
  m__law_floor : mg "_law_floor" = some (.ref a.f__law_floor)
  F__law_write : Fun K "_law_write" "_law_write" s__law_write a.f__law_write a.d__law_write
  b__law_write : Binds K a.d__law_write P__law_write []
  m__law_write : mg "_law_write" = some (.ref a.f__law_write)
  F__law_step : Fun K "_law_step" "_law_step" s__law_step a.f__law_step a.d__law_step
  b__law_step : Binds K a.d__law_step P__law_step []
  m__law_step : mg "_law_step" = some (.ref a.f__law_step)
  F__law_all_run : Fun K "_law_all_run" "_law_all_run" s__law_all_run a.f__law_all_run a.d__law_all_run
  b__law_all_run : Binds K a.d__law_all_run P__law_all_run []
  m__law_all_run : mg "_law_all_run" = some (.ref a.f__law_all_run)
  F__law_whole_record : Fun K "_law_whole_record" "_law_whole_record" s__law_whole_record a.f__law_whole_record a.d__law_whole_record
  b__law_whole_record : Binds K a.d__law_whole_record P__law_whole_record []
  m__law_whole_record : mg "_law_whole_record" = some (.ref a.f__law_whole_record)
  F__law_turned : Fun K "_law_turned" "_law_turned" s__law_turned a.f__law_turned a.d__law_turned
  b__law_turned : Binds K a.d__law_turned P__law_turned []
  m__law_turned : mg "_law_turned" = some (.ref a.f__law_turned)
  F__law_picture : Fun K "_law_picture" "_law_picture" s__law_picture a.f__law_picture a.d__law_picture
  b__law_picture : Binds K a.d__law_picture P__law_picture []
  m__law_picture : mg "_law_picture" = some (.ref a.f__law_picture)
  F__law_is : Fun K "_law_is" "_law_is" s__law_is a.f__law_is a.d__law_is
  b__law_is : Binds K a.d__law_is P__law_is []
  m__law_is : mg "_law_is" = some (.ref a.f__law_is)
  F__law_few_orders : Fun K "_law_few_orders" "_law_few_orders" s__law_few_orders a.f__law_few_orders a.d__law_few_orders
  b__law_few_orders : Binds K a.d__law_few_orders P__law_few_orders []
  m__law_few_orders : mg "_law_few_orders" = some (.ref a.f__law_few_orders)
  F_law : Fun K "law" "law" s_law a.f_law a.d_law
  b_law : Binds K a.d_law P_law []
  m_law : mg "law" = some (.ref a.f_law)
  m_Record : mg "Record" = some (.ref a.c_Record)
  cl_Record : Cls K a.c_Record
  K_Record : Mk K a.c_Record a.f_Record_init
  ic_Record : C8.InsC K a.c_Record
  eqf_Record : PySem.W.findIn K (.ref a.c_Record) "__eq__" = some (some (.ref a.f_Record_eq))
  eqi_Record : PySem.W.isFn K (.ref a.f_Record_eq) = true
  ne_Record : PySem.W.findIn K (.ref a.c_Record) "__ne__" = some (some (.builtin "object.__ne__"))
  na_Record_writers : NoAttr K a.c_Record "writers"
  na_Record_diaries : NoAttr K a.c_Record "diaries"
  m_MOST_MACHINES : mg "MOST_MACHINES" = some (.int 7 a.t_MOST_MACHINES)
  m_MOST_PUTS : mg "MOST_PUTS" = some (.int 30 a.t_MOST_PUTS)
  n_isinstance : mg "isinstance" = none
  n_int : mg "int" = none
  n_bool : mg "bool" = none
  n_tuple : mg "tuple" = none
  n_len : mg "len" = none
  n_all : mg "all" = none
  n_enumerate : mg "enumerate" = none
  n_set : mg "set" = none
  n_sorted : mg "sorted" = none
  n_any : mg "any" = none
  n_range : mg "range" = none
  n_zip : mg "zip" = none
  n_min : mg "min" = none
  n_max : mg "max" = none
  n_list : mg "list" = none
  n_dict : mg "dict" = none
  n_abs : mg "abs" = none
  w_comb : mg "combinations" = some GCb.vCb
end Mine
/-! ## K1 -/
section
open PySem L2 GA
local macro_rules
  | `(tactic| walk_at "w") => `(tactic| first
    | ((with_reducible refine' GA.w_var ?e ?_); (case e => exact rfl))
    | (with_reducible refine' GA.w_c ?_)
    | (with_reducible refine' GA.w_cons ?_)
    | (with_reducible refine' GA.w_nil ?_)
    | (with_reducible refine' GA.w_op ?_)
    | (with_reducible refine' GA.r_I0 ?_)
    | (with_reducible refine' GA.w_bl ?_)
    | (with_reducible refine' GA.w_seq ?_)
    | (with_reducible refine' GA.w_set ?_)
    | (with_reducible refine' GA.w_ret ?_)
    | (with_reducible refine' GA.w_ifS ?_)
    | (with_reducible refine' GA.w_test ?_)
    | (with_reducible refine' GA.w_tB ?_)
    | (with_reducible refine' GA.w_not ?_)
    | (with_reducible refine' GA.w_and ?_)
    | (with_reducible refine' GA.w_or ?_)
    | (with_reducible refine' GA.w_andV ?_)
    | (with_reducible refine' GA.w_orV ?_)
    | (with_reducible refine' GA.w_notV ?_)
    | (with_reducible refine' GA.w_blc ?_)
    | (with_reducible refine' GA.w_if ?_)
    | (with_reducible refine' GA.w_CB ?_)
    | (with_reducible refine' GA.w_call ?_)
    | (with_reducible refine' GA.w_tupN ?_)
    | (with_reducible refine' GA.w_lstN ?_)
    | (with_reducible refine' GA.w_chain ?_)
    | (with_reducible refine' GA.w_drop ?_)
    | (with_reducible refine' GA.w_next ?_)
    | (with_reducible refine' GA.w_break ?_)
    | (with_reducible refine' GA.w_un ?_)
    | (with_reducible refine' GA.r_U ?_)
    | (with_reducible refine' GA.r_eqI ?_)
    | (with_reducible refine' GA.r_neI ?_)
    | (with_reducible refine' GA.r_eqB ?_)
    | (with_reducible refine' GA.r_neB ?_)
    | (with_reducible refine' GA.w_fld ?_)
    | (with_reducible refine' GA.w_sfld ?_)
    | (with_reducible refine' GA.w_sl ?_)
    | (with_reducible refine' GA.w_part ?_)
    | (with_reducible refine' GA.w_noPart ?_)
    | (with_reducible refine' GA.w_inti ?_)
    | (with_reducible refine' GA.w_retN ?_)
    | (with_reducible refine' GA.w_gsub ?_)
    | (with_reducible refine' GA.w_gname ?_)
    | (with_reducible refine' L2.iteT ?_)
    | (with_reducible refine' L2.iteF ?_)
    | (with_reducible refine' GA.w_nt ?_)
    | (with_reducible refine' GA.w_nf ?_)
    | (with_reducible refine' GA.w_isN ?_)
    | (with_reducible refine' GA.w_notN ?_)
    | (with_reducible refine' GA.w_yes ?_)
    | (with_reducible refine' GA.w_lc ?_)
    | (with_reducible refine' GA.w_lc2 ?_)
    | (with_reducible refine' GA.w_iseq ?_)
    | (with_reducible refine' GA.w_make ?_)
    | (with_reducible refine' GA.w_for ?_)
    | (with_reducible refine' GA.w_rng1 ?_)
    | (with_reducible refine' GA.w_rng2 ?_)
    | (with_reducible refine' GA.w_itup ?_)
    | (with_reducible refine' GA.w_ilist ?_)
    | (with_reducible refine' GA.w_ienum ?_)
    | (with_reducible refine' GA.w_BM ?_)
    | (with_reducible refine' GA.w_BM0 ?_)
    | (with_reducible refine' GA.w_izip ?_)
    | (with_reducible refine' GA.w_asg ?_))
  | `(tactic| walk_at "wm") => `(tactic| first
    | ((with_reducible refine' GA.w_var ?e ?_); (case e => exact rfl))
    | (with_reducible refine' GA.w_c ?_)
    | (with_reducible refine' GA.w_cons ?_)
    | (with_reducible refine' GA.w_nil ?_)
    | (with_reducible refine' GA.w_op ?_)
    | (with_reducible refine' GA.r_I0 ?_)
    | (with_reducible refine' GA.w_bl ?_)
    | (with_reducible refine' GA.w_set ?_)
    | (with_reducible refine' GA.w_ret ?_)
    | (with_reducible refine' GA.w_ifS ?_)
    | (with_reducible refine' GA.w_test ?_)
    | (with_reducible refine' GA.w_tB ?_)
    | (with_reducible refine' GA.w_not ?_)
    | (with_reducible refine' GA.w_and ?_)
    | (with_reducible refine' GA.w_or ?_)
    | (with_reducible refine' GA.w_andV ?_)
    | (with_reducible refine' GA.w_orV ?_)
    | (with_reducible refine' GA.w_notV ?_)
    | (with_reducible refine' GA.w_blc ?_)
    | (with_reducible refine' GA.w_if ?_)
    | (with_reducible refine' GA.w_CB ?_)
    | (with_reducible refine' GA.w_call ?_)
    | (with_reducible refine' GA.w_tupN ?_)
    | (with_reducible refine' GA.w_lstN ?_)
    | (with_reducible refine' GA.w_chain ?_)
    | (with_reducible refine' GA.w_drop ?_)
    | (with_reducible refine' GA.w_next ?_)
    | (with_reducible refine' GA.w_break ?_)
    | (with_reducible refine' GA.w_un ?_)
    | (with_reducible refine' GA.r_U ?_)
    | (with_reducible refine' GA.r_eqI ?_)
    | (with_reducible refine' GA.r_neI ?_)
    | (with_reducible refine' GA.r_eqB ?_)
    | (with_reducible refine' GA.r_neB ?_)
    | (with_reducible refine' GA.w_fld ?_)
    | (with_reducible refine' GA.w_sfld ?_)
    | (with_reducible refine' GA.w_sl ?_)
    | (with_reducible refine' GA.w_part ?_)
    | (with_reducible refine' GA.w_noPart ?_)
    | (with_reducible refine' GA.w_inti ?_)
    | (with_reducible refine' GA.w_retN ?_)
    | (with_reducible refine' GA.w_gsub ?_)
    | (with_reducible refine' GA.w_gname ?_)
    | (with_reducible refine' L2.iteT ?_)
    | (with_reducible refine' L2.iteF ?_)
    | (with_reducible refine' GA.w_nt ?_)
    | (with_reducible refine' GA.w_nf ?_)
    | (with_reducible refine' GA.w_isN ?_)
    | (with_reducible refine' GA.w_notN ?_)
    | (with_reducible refine' GA.w_yes ?_)
    | (with_reducible refine' GA.w_lc ?_)
    | (with_reducible refine' GA.w_lc2 ?_)
    | (with_reducible refine' GA.w_iseq ?_)
    | (with_reducible refine' GA.w_make ?_)
    | (with_reducible refine' GA.w_for ?_)
    | (with_reducible refine' GA.w_rng1 ?_)
    | (with_reducible refine' GA.w_rng2 ?_)
    | (with_reducible refine' GA.w_itup ?_)
    | (with_reducible refine' GA.w_ilist ?_)
    | (with_reducible refine' GA.w_ienum ?_)
    | (with_reducible refine' GA.w_BM ?_)
    | (with_reducible refine' GA.w_BM0 ?_)
    | (with_reducible refine' GA.w_izip ?_)
    | (with_reducible refine' GA.w_asg ?_))
  | `(tactic| walk_at "ws") => `(tactic| repeat (walk_at "w"))
  | `(tactic| walk_at "wn") => `(tactic| repeat (walk_at "wm"))


namespace Mine
section
variable {P : Program} {w : World} {K : PySem.W.Frag} {mg : Str → Option Value} {base : Heap} {a : Ads}

theorem tyx_tup {H : Hp} {p : Addr} {xs : List V} (h : SqT K H p xs) : TyX K H (.ref p) (.type "tuple") := by
  rcases h with (h | ⟨o, h⟩) | ⟨o, its, n, h1, h2, _⟩
  · exact .base (.tup h)
  · exact .fTuple h
  · exact .kTuple h1 h2
theorem r_isi {x : V} {t : Value} {n : String} {b : Bool} {H : Hp} {Q : VK} (ty : TyX K H x t) (e : PySem.W.kitOne K t (.type n) = some b) (q : Q (.bl b) H) : rIsi K [x, .ty n] H Q := ⟨x, .ty n, t, .type n, b, rfl, .ty n, ty, e, q⟩
theorem ki_ii : PySem.W.kitOne K (.type "int") (.type "int") = some true := kit_ty (by decide +kernel)
theorem ki_ib : PySem.W.kitOne K (.type "int") (.type "bool") = some false := kit_ty (by decide +kernel)
theorem ki_bb : PySem.W.kitOne K (.type "bool") (.type "bool") = some true := kit_ty (by decide +kernel)
theorem ki_tt : PySem.W.kitOne K (.type "tuple") (.type "tuple") = some true := kit_ty (by decide +kernel)
theorem ki_tb : PySem.W.kitOne K (.type "tuple") (.type "bool") = some false := kit_ty (by decide +kernel)
theorem ki_it : PySem.W.kitOne K (.type "int") (.type "tuple") = some false := kit_ty (by decide +kernel)
theorem ty_int {H : Hp} {i : Int} : TyX K H (.int i) (.type "int") := .base (.int i)
theorem ty_bl {H : Hp} {i : Bool} : TyX K H (.bl i) (.type "bool") := .base (.bl i)
def sp_is_integer : Sp := fun vs H Q _ => ∃ i : Int, vs = [.int i] ∧ Q (.bl true) H
theorem ok_is_integer (T : Txt K mg a) : FnOk P w K mg base CX0 1 a.f_is_integer a.d_is_integer P_is_integer sp_is_integer := by
  refine T.F_is_integer.ok sc_is_integer (fun vs H Q E h => by obtain ⟨i, rfl, _⟩ := h; rfl) (fun cdv A outer s H vs Q E hr h => ?_)
  obtain ⟨i, rfl, k⟩ := h
  refine ⟨_, (pss_one (ps_ret (pe_and (pe_callB call_isi (by rfl) T.n_isinstance (by decide +kernel) (pa_cons (pv 0) (pa_cons (pe_bltn (v := .ty "int") (u := .type "int") rfl T.n_int (by decide +kernel) rfl) pa_nil))) (pe_one (pe_not (pe_callB call_isi (by rfl) T.n_isinstance (by decide +kernel) (pa_cons (pv 0) (pa_cons (pe_bltn (v := .ty "bool") (u := .type "bool") rfl T.n_bool (by decide +kernel) rfl) pa_nil)))))))), ?_⟩
  walk_at "ws"
  refine r_isi ty_int ki_ii ?_
  walk_at "ws"
  refine r_isi ty_int ki_ib ?_
  walk_at "ws"
  exact k

def sp_is_between : Sp := fun vs H Q _ => ∃ lo hi i : Int, vs = [.int lo, .int hi, .int i] ∧ Q (.bl (decide (lo ≤ i) && decide (i ≤ hi))) H
theorem ok_is_between (T : Txt K mg a) : FnOk P w K mg base CX0 2 a.f_is_between a.d_is_between P_is_between sp_is_between := by
  refine T.F_is_between.ok sc_is_between (fun vs H Q E h => by obtain ⟨lo, hi, i, rfl, _⟩ := h; rfl) (fun cdv A outer s H vs Q E hr h => ?_)
  obtain ⟨lo, hi, i, rfl, k⟩ := h
  have G_is_integer : FnOk P w K mg base CX0 1 a.f_is_integer a.d_is_integer P_is_integer sp_is_integer := ok_is_integer T
  refine ⟨_, (pss_one (ps_ret (pe_and (pe_call (G_is_integer) (hr.mono (by omega)) rfl T.m_is_integer T.F_is_integer.kp T.b_is_integer .nil pass0 (pa_cons (pv 2) pa_nil)) (pe_one (pe_chain op_le op_le (pv 0) (pv 2) (pv 1)))))), ?_⟩
  walk_at "ws"
  refine ⟨_, rfl, ?_⟩
  walk_at "ws"
  refine w_ite (fun e => ?_) (fun e => ?_)
  · walk_at "ws"
    rw [e] at k
    exact k
  · rw [e] at k
    exact k

def sp_is_below : Sp := fun vs H Q _ => ∃ b i : Int, vs = [.int b, .int i] ∧ Q (.bl (decide (0 ≤ i) && decide (i < b))) H
theorem ok_is_below (T : Txt K mg a) : FnOk P w K mg base CX0 3 a.f_is_below a.d_is_below P_is_below sp_is_below := by
  refine T.F_is_below.ok sc_is_below (fun vs H Q E h => by obtain ⟨b, i, rfl, _⟩ := h; rfl) (fun cdv A outer s H vs Q E hr h => ?_)
  obtain ⟨b, i, rfl, k⟩ := h
  have G_is_between : FnOk P w K mg base CX0 2 a.f_is_between a.d_is_between P_is_between sp_is_between := ok_is_between T
  refine ⟨_, (pss_one (ps_ret (pe_call (G_is_between) (hr.mono (by omega)) rfl T.m_is_between T.F_is_between.kp T.b_is_between .nil pass0 (pa_cons pe_int (pa_cons (pe_op op_sub (pv 0) pe_int) (pa_cons (pv 1) pa_nil)))))), ?_⟩
  walk_at "ws"
  refine ⟨_, _, _, rfl, ?_⟩
  have e : decide (i ≤ b - 1) = decide (i < b) := by simp only [decide_eq_decide]; omega
  rw [e]
  exact k

def sp_is_tuple_of (K : PySem.W.Frag) : Sp := fun vs H Q _ => ∃ (lo hi : Int) (p : Addr) (xs : List V), vs = [.int lo, .int hi, .ref p] ∧ SqT K H p xs ∧ Q (.bl (decide (lo ≤ xs.length) && decide ((xs.length : Int) ≤ hi))) H
theorem ok_is_tuple_of (T : Txt K mg a) : FnOk P w K mg base CX0 1 a.f_is_tuple_of a.d_is_tuple_of P_is_tuple_of (sp_is_tuple_of K) := by
  refine T.F_is_tuple_of.ok sc_is_tuple_of (fun vs H Q E h => by obtain ⟨lo, hi, p, xs, rfl, _⟩ := h; rfl) (fun cdv A outer s H vs Q E hr h => ?_)
  obtain ⟨lo, hi, p, xs, rfl, hx, k⟩ := h
  refine ⟨_, (pss_one (ps_ret (pe_and (pe_callB call_isi (by rfl) T.n_isinstance (by decide +kernel) (pa_cons (pv 2) (pa_cons (pe_bltn (v := .ty "tuple") (u := .type "tuple") rfl T.n_tuple (by decide +kernel) rfl) pa_nil))) (pe_one (pe_chain op_le op_le (pv 0) (pe_callB call_len_seq (by rfl) T.n_len (by decide +kernel) (pa_cons (pv 2) pa_nil)) (pv 1)))))), ?_⟩
  walk_at "ws"
  refine r_isi (tyx_tup hx) ki_tt ?_
  walk_at "ws"
  refine ⟨_, _, rfl, .inr hx, ?_⟩
  walk_at "ws"
  refine w_ite (fun e => ?_) (fun e => ?_)
  · walk_at "ws"
    rw [e] at k
    exact k
  · rw [e] at k
    exact k

end
end Mine
/-! ## K2 -/


namespace Mine
section
variable {P : Program} {w : World} {K : PySem.W.Frag} {mg : Str → Option Value} {base : Heap} {a : Ads}

/-! ### are_below, is_unlike_pair -/
def inB (b : Int) (n : Int) : Bool := decide (0 ≤ n) && decide (n < b)
def sp_are_below (K : PySem.W.Frag) : Sp := fun vs H Q _ => ∃ (b : Int) (p : Addr) (ns : List Int), vs = [.int b, .ref p] ∧ SqT K H p (ns.map V.int) ∧ ns.length ≤ 100000 ∧ ∀ H', G none H H' → Q (.bl (ns.all (inB b))) H'
theorem ok_are_below (T : Txt K mg a) : FnOk P w K mg base CX0 4 a.f_are_below a.d_are_below P_are_below (sp_are_below K) := by
  refine T.F_are_below.ok sc_are_below (fun vs H Q E h => by obtain ⟨b, p, ns, rfl, _⟩ := h; rfl) (fun cdv A outer s H vs Q E hr h => ?_)
  obtain ⟨b, p, ns, rfl, hx, hz, k⟩ := h
  have G_is_below : FnOk P w K mg base CX0 3 a.f_is_below a.d_is_below P_is_below sp_is_below := ok_is_below T
  refine ⟨_, (pss_one (ps_ret (pe_callB (cr_all rfl) (by rfl) T.n_all (by decide +kernel) (pa_cons (pe_lc (own := [("thing", 2)]) (g := (gName 2)) (tt := tYes) rfl sc_are_below.nd (pi_tup (pv 1)) (blkOk_by (N := N_are_below) (sc := defScope s_are_below) (by decide +kernel)) (fun _ _ _ _ _ => (pg_name (i := 2) sc_are_below.nd rfl (by first | exact Or.inl rfl | exact Or.inr rfl))) (fun _ _ _ _ _ => pts_nil) (fun _ _ _ _ _ => (pe_call (G_is_below) (hr.mono (by omega)) rfl T.m_is_below T.F_is_below.kp T.b_is_below .nil pass0 (pa_cons (pv 0) (pa_cons (pv 2) pa_nil))))) pa_nil)))), ?_⟩
  walk_at "ws"
  refine i_tup hx ?_
  intro D hD
  refine lc_pure (K := K) (o := none) walk_tup (by rw [List.length_map]; exact hz) hD (fun _ e => nomatch e) (fun i => ns[i]?.map fun n => .bool (inB b n)) (fun H' g => sqT_t g.tups hx) ?_ ?_
  · rintro i x H1 H2 hi g ⟨rfl, hx1⟩ Qy Qn ky kn
    obtain ⟨n, hn, rfl⟩ : ∃ n, ns[i]? = some n ∧ V.int n = x := by
      rw [List.getElem?_map] at hx1; exact Option.map_eq_some_iff.mp hx1
    walk_at "ws"
    refine ⟨rfl, ?_⟩
    walk_at "ws"
    refine ⟨_, _, rfl, ky _ _ _ G.refl (.bl _) rfl (by rw [hn]; rfl)⟩
  · intro xs H' g hD' hds _
    rw [List.length_map, filterMap_range_map] at hds
    have e : xs = (ns.map (inB b)).map V.bl := by
      clear hD' g
      generalize ns = l at hds
      induction l generalizing xs with
      | nil => cases hds; rfl
      | cons n l ih =>
        cases hds with
        | cons h t => cases h; rw [ih _ t]; rfl
    subst e
    walk_at "ws"
    refine ⟨D, ns.map (inB b), rfl, SqL.of hD', ?_⟩
    have e : (ns.map (inB b)).all id = ns.all (inB b) := by rw [List.all_map]; rfl
    rw [e]
    exact k _ g

end
end Mine
/-! ## K3 -/


namespace Mine
section
variable {P : Program} {w : World} {K : PySem.W.Frag} {mg : Str → Option Value} {base : Heap} {a : Ads}

/-! ### records -/
/-- a tuple of tuples of ints, each with its object known -/
def Dia (K : PySem.W.Frag) (H : Hp) (p : Addr) (ds : List (List Int)) : Prop := ∃ bs : List Addr, SqT K H p (bs.map V.ref) ∧ bs.length = ds.length ∧ ∀ (i : Nat) (b : Addr) (d : List Int), bs[i]? = some b → ds[i]? = some d → FrzT H b (d.map V.int)
theorem Dia.g {H H' : Hp} {p : Addr} {ds : List (List Int)} {o : Option (Addr × Addr)} (h : Dia K H p ds) (g : G o H H') (hh : ∀ q, o = some q → Hand H q.1 q.2) : Dia K H' p ds := by
  obtain ⟨bs, h1, h2, h3⟩ := h
  refine ⟨bs, sqT_t g.tups h1, h2, fun i b d e1 e2 => ?_⟩
  obtain ⟨ob, q1, q2⟩ := h3 i b d e1 e2
  refine ⟨ob, g.keep b _ (fun q e => ?_) q1, q2⟩
  obtain ⟨_, _, _, _, _, _, z, _⟩ := hh q e
  exact ne_of q1 z (by intro z; cases z)
theorem Dia.n {H H' : Hp} {p : Addr} {ds : List (List Int)} (h : Dia K H p ds) (g : G none H H') : Dia K H' p ds := h.g g fun _ e => nomatch e
theorem Dia.at_ {H : Hp} {p : Addr} {bs : List Addr} {ds : List (List Int)} (h2 : bs.length = ds.length) (h3 : ∀ (i : Nat) (b : Addr) (d : List Int), bs[i]? = some b → ds[i]? = some d → FrzT H b (d.map V.int)) {i : Nat} {x : V} (e : (bs.map V.ref)[i]? = some x) :
    ∃ b d, x = .ref b ∧ bs[i]? = some b ∧ ds[i]? = some d ∧ FrzT H b (d.map V.int) := by
  rw [List.getElem?_map] at e
  obtain ⟨b, hb, rfl⟩ := Option.map_eq_some_iff.mp e
  have hi := (List.getElem?_eq_some_iff.mp hb).1
  exact ⟨b, ds[i], rfl, hb, List.getElem?_eq_getElem (by omega), h3 i b _ hb (List.getElem?_eq_getElem (by omega))⟩
structure IsRec (ws : List Int) (ds : List (List Int)) : Prop where
  m1 : 1 ≤ ds.length
  m7 : ds.length ≤ 7
  p30 : ws.length ≤ 30
  wr : ∀ w ∈ ws, 0 ≤ w ∧ w < ds.length
  nd : ∀ d ∈ ds, d.Nodup
  rng : ∀ d ∈ ds, ∀ p ∈ d, 0 ≤ p ∧ p < ws.length
  own : ∀ (p : Nat) (w : Int) (d : List Int), ws[p]? = some w → ds[w.toNat]? = some d → (p : Int) ∈ d
theorem diary_len {n : Nat} {d : List Int} (nd : d.Nodup) (h : ∀ p ∈ d, 0 ≤ p ∧ p < (n : Int)) : d.length ≤ n := by
  have := List.Nodup.length_le_of_subset (l₂ := (List.range n).map fun (i : Nat) => (i : Int)) nd fun x hx => by
    have := h x hx
    exact List.mem_map.mpr ⟨x.toNat, List.mem_range.mpr (by omega), by omega⟩
  simpa using this
def sp_is_diary (K : PySem.W.Frag) : Sp := fun vs H Q _ => ∃ (n : Int) (p : Addr) (d : List Int), vs = [.int n, .ref p] ∧ SqT K H p (d.map V.int) ∧ (∀ x ∈ d, 0 ≤ x ∧ x < n) ∧ d.Nodup ∧ d.length ≤ 1000 ∧ ∀ H', G none H H' → Q (.bl true) H'
theorem ok_is_diary (T : Txt K mg a) : FnOk P w K mg base CX0 5 a.f_is_diary a.d_is_diary P_is_diary (sp_is_diary K) := by
  refine T.F_is_diary.ok sc_is_diary (fun vs H Q E h => by obtain ⟨n, p, d, rfl, _⟩ := h; rfl) (fun cdv A outer s H vs Q E hr h => ?_)
  obtain ⟨n, p, d, rfl, hp, hd, nd, hz, k⟩ := h
  have G_are_below : FnOk P w K mg base CX0 4 a.f_are_below a.d_are_below P_are_below (sp_are_below K) := ok_are_below T
  refine ⟨_, (pss_one (ps_ret (pe_and (pe_callB call_isi (by rfl) T.n_isinstance (by decide +kernel) (pa_cons (pv 1) (pa_cons (pe_bltn (v := .ty "tuple") (u := .type "tuple") rfl T.n_tuple (by decide +kernel) rfl) pa_nil))) (pe_and (pe_call (G_are_below) (hr.mono (by omega)) rfl T.m_are_below T.F_are_below.kp T.b_are_below .nil pass0 (pa_cons (pv 0) (pa_cons (pv 1) pa_nil))) (pe_one (pe_cmpR op_eq (pe_lenSetTI rfl (by rfl) T.n_len (by rfl) T.n_set (pv 1)) (pe_callB call_len_seq (by rfl) T.n_len (by decide +kernel) (pa_cons (pv 1) pa_nil)) (nomark _))))))), ?_⟩
  walk_at "ws"
  refine r_isi (tyx_tup hp) ki_tt ?_
  walk_at "ws"
  refine ⟨n, p, d, rfl, hp, by omega, fun H1 g1 => ?_⟩
  have e1 : d.all (inB n) = true := by
    rw [List.all_eq_true]
    intro x hx
    have := hd x hx
    simp only [inB, Bool.and_eq_true, decide_eq_true_eq]
    exact this
  rw [e1]
  walk_at "ws"
  refine ⟨.ref p, rfl, p, d, rfl, sqT_t g1.tups hp, hz, nd, ?_⟩
  walk_at "ws"
  refine ⟨p, _, rfl, .inr (sqT_t g1.tups hp), ?_⟩
  walk_at "ws"
  rw [List.length_map, decide_eq_true (rfl : (d.length : Int) = d.length)]
  exact k _ g1

def sp_check_record (K : PySem.W.Frag) : Sp := fun vs H Q _ => ∃ (wp dp : Addr) (ws : List Int) (ds : List (List Int)), vs = [.ref wp, .ref dp] ∧ SqT K H wp (ws.map V.int) ∧ Dia K H dp ds ∧ IsRec ws ds ∧ ∀ H', G none H H' → Q .non H'
theorem ok_check_record (T : Txt K mg a) : FnOk P w K mg base CX0 6 a.f_check_record a.d_check_record P_check_record (sp_check_record K) := by
  refine T.F_check_record.ok sc_check_record (fun vs H Q E h => by obtain ⟨wp, dp, ws, ds, rfl, _⟩ := h; rfl) (fun cdv A outer s H vs Q E hr h => ?_)
  obtain ⟨wp, dp, ws, ds, rfl, hw, hdia, rec, k⟩ := h
  have G_is_tuple_of : FnOk P w K mg base CX0 1 a.f_is_tuple_of a.d_is_tuple_of P_is_tuple_of (sp_is_tuple_of K) := ok_is_tuple_of T
  have G_is_below : FnOk P w K mg base CX0 3 a.f_is_below a.d_is_below P_is_below sp_is_below := ok_is_below T
  have G_is_diary : FnOk P w K mg base CX0 5 a.f_is_diary a.d_is_diary P_is_diary (sp_is_diary K) := ok_is_diary T
  obtain ⟨bs, hbs, lb, hb⟩ := hdia
  have m1 := rec.m1
  have m7 := rec.m7
  have p30 := rec.p30
  refine ⟨_, (pss_cons (ps_if (pt_not (pt_val (pe_call (G_is_tuple_of) (hr.mono (by omega)) rfl T.m_is_tuple_of T.F_is_tuple_of.kp T.b_is_tuple_of .nil pass0 (pa_cons pe_int (pa_cons (pe_glob (v := .int 7) rfl T.m_MOST_MACHINES ⟨_, rfl⟩) (pa_cons (pv 1) pa_nil))))))
    pss_never
    pss_nil)
  (pss_cons (ps_if (pt_not (pt_val (pe_call (G_is_tuple_of) (hr.mono (by omega)) rfl T.m_is_tuple_of T.F_is_tuple_of.kp T.b_is_tuple_of .nil pass0 (pa_cons pe_int (pa_cons (pe_glob (v := .int 30) rfl T.m_MOST_PUTS ⟨_, rfl⟩) (pa_cons (pv 0) pa_nil))))))
    pss_never
    pss_nil)
  (pss_cons (ps_for PassesOwn.never rfl (pi_enumT (by rfl) T.n_enumerate (pa_cons (pv 0) pa_nil)) (pg_tup rfl (pgs_cons (pg_name (i := 2) sc_check_record.nd rfl (Or.inl rfl)) (pgs_cons (pg_name (i := 3) sc_check_record.nd rfl (Or.inl rfl)) pgs_nil)))
    (pss_one (ps_if (pt_not (pt_val (pe_call (G_is_below) (hr.mono (by omega)) rfl T.m_is_below T.F_is_below.kp T.b_is_below .nil pass0 (pa_cons (pe_callB call_len_seq (by rfl) T.n_len (by decide +kernel) (pa_cons (pv 1) pa_nil)) (pa_cons (pv 3) pa_nil)))))
    pss_never
    pss_nil)))
  (pss_cons (ps_for PassesOwn.never rfl (pi_enumT (by rfl) T.n_enumerate (pa_cons (pv 1) pa_nil)) (pg_tup rfl (pgs_cons (pg_name (i := 4) sc_check_record.nd rfl (Or.inl rfl)) (pgs_cons (pg_name (i := 5) sc_check_record.nd rfl (Or.inl rfl)) pgs_nil)))
    (pss_one (ps_if (pt_not (pt_val (pe_call (G_is_diary) (hr.mono (by omega)) rfl T.m_is_diary T.F_is_diary.kp T.b_is_diary .nil pass0 (pa_cons (pe_callB call_len_seq (by rfl) T.n_len (by decide +kernel) (pa_cons (pv 0) pa_nil)) (pa_cons (pv 5) pa_nil)))))
    pss_never
    pss_nil)))
  (pss_one (ps_for PassesOwn.never rfl (pi_enumT (by rfl) T.n_enumerate (pa_cons (pv 0) pa_nil)) (pg_tup rfl (pgs_cons (pg_name (i := 2) sc_check_record.nd rfl (Or.inl rfl)) (pgs_cons (pg_name (i := 3) sc_check_record.nd rfl (Or.inl rfl)) pgs_nil)))
    (pss_one (ps_if (pt_cmpR op_notIn_seq (pv 2) (pe_ix ix_tup (pv 1) (pv 3) (fun _ _ => rfl)) (by rfl))
    pss_never
    pss_nil)))))))), ?_⟩
  walk_at "ws"
  refine ⟨1, 7, dp, _, rfl, hbs, ?_⟩
  have q1 : (1 : Int) ≤ (bs.length : Int) := by omega
  have q2 : (bs.length : Int) ≤ 7 := by omega
  rw [List.length_map, decide_eq_true q1, decide_eq_true q2, Bool.and_self]
  walk_at "ws"
  refine ⟨0, 30, wp, _, rfl, hw, ?_⟩
  have q3 : (0 : Int) ≤ (ws.length : Int) := by omega
  have q4 : (ws.length : Int) ≤ 30 := by omega
  rw [List.length_map, decide_eq_true q3, decide_eq_true q4, Bool.and_self]
  walk_at "ws"
  refine i_enum hw ?_
  refine for_it (walk_enumT (xs := ws.map V.int)) (fun i σ H1 => G none H H1 ∧ ∃ u2 u3 u4 u5, σ = [some (.ref wp), some (.ref dp), u2, u3, u4, u5]) ⟨G.refl, _, _, _, _, rfl⟩ (fun i σ H1 _ h => sqT_t h.1.tups hw) ?_ ?_
  · rintro i x σ H1 H2 hi ⟨g1, u2, u3, u4, u5, rfl⟩ ⟨t, y, z, rfl, ht, rfl, ey, ez⟩
    cases Option.some.inj ey
    have g2 : G none H1 (upd H1 t (.tup [.int (i : Nat), z])) := G.alloc ht
    refine ⟨t, _, rfl, SqT.of upd_same, rfl, ?_⟩
    refine ⟨_, _, rfl, ?_⟩
    walk_at "ws"
    refine ⟨_, _, rfl, ?_⟩
    walk_at "ws"
    refine ⟨rfl, ?_⟩
    generalize upd H1 t (.tup [.int (i : Nat), z]) = H2 at g2 ⊢
    have g02 := g1.trans g2
    have ez : (ws.map V.int)[i]? = some z := ez
    rw [List.getElem?_map] at ez
    obtain ⟨w0, hw0, rfl⟩ := Option.map_eq_some_iff.mp ez
    have wm := rec.wr w0 (List.mem_of_getElem? hw0)
    walk_at "ws"
    refine ⟨dp, _, rfl, .inr (sqT_t g02.tups hbs), ?_⟩
    walk_at "ws"
    rw [List.length_map]
    refine ⟨_, _, rfl, ?_⟩
    have q5 : w0 < (bs.length : Int) := by omega
    rw [decide_eq_true wm.1, decide_eq_true q5, Bool.and_self]
    walk_at "ws"
    exact ⟨g02, _, _, _, _, rfl⟩
  rintro σ H1 ⟨g1, u2, u3, u4, u5, rfl⟩
  walk_at "ws"
  refine i_enum (sqT_t g1.tups hbs) ?_
  refine for_it (walk_enumT (xs := bs.map V.ref)) (fun i σ H1 => G none H H1 ∧ ∃ u2 u3 u4 u5, σ = [some (.ref wp), some (.ref dp), u2, u3, u4, u5]) ⟨g1, _, _, _, _, rfl⟩ (fun i σ H1 _ h => sqT_t h.1.tups hbs) ?_ ?_
  · rintro i x σ H2 H3 hi ⟨g2, u2, u3, u4, u5, rfl⟩ ⟨t, y, z, rfl, ht, rfl, ey, ez⟩
    cases Option.some.inj ey
    have g3 : G none H2 (upd H2 t (.tup [.int (i : Nat), z])) := G.alloc ht
    refine ⟨t, _, rfl, SqT.of upd_same, rfl, ?_⟩
    refine ⟨_, _, rfl, ?_⟩
    walk_at "ws"
    refine ⟨_, _, rfl, ?_⟩
    walk_at "ws"
    refine ⟨rfl, ?_⟩
    generalize upd H2 t (.tup [.int (i : Nat), z]) = H3 at g3 ⊢
    have g03 := g2.trans g3
    obtain ⟨b, d, rfl, hbi, hdi, hf⟩ := Dia.at_ (p := dp) lb hb ez
    walk_at "ws"
    refine ⟨wp, _, rfl, .inr (sqT_t g03.tups hw), ?_⟩
    walk_at "ws"
    rw [List.length_map]
    have dm := List.mem_of_getElem? hdi
    refine ⟨_, b, d, rfl, (hf.n g03).sq, rec.rng d dm, rec.nd d dm, by have := diary_len (rec.nd d dm) (rec.rng d dm); omega, fun H4 g4 => ?_⟩
    walk_at "ws"
    exact ⟨g03.trans g4, _, _, _, _, rfl⟩
  rintro σ H2 ⟨g2, u2, u3, u4, u5, rfl⟩
  walk_at "ws"
  refine i_enum (sqT_t g2.tups hw) ?_
  refine for_it (walk_enumT (xs := ws.map V.int)) (fun i σ H1 => G none H H1 ∧ ∃ u2 u3 u4 u5, σ = [some (.ref wp), some (.ref dp), u2, u3, u4, u5]) ⟨g2, _, _, _, _, rfl⟩ (fun i σ H1 _ h => sqT_t h.1.tups hw) ?_ ?_
  · rintro i x σ H3 H4 hi ⟨g3, u2, u3, u4, u5, rfl⟩ ⟨t, y, z, rfl, ht, rfl, ey, ez⟩
    cases Option.some.inj ey
    have g4 : G none H3 (upd H3 t (.tup [.int (i : Nat), z])) := G.alloc ht
    refine ⟨t, _, rfl, SqT.of upd_same, rfl, ?_⟩
    refine ⟨_, _, rfl, ?_⟩
    walk_at "ws"
    refine ⟨_, _, rfl, ?_⟩
    walk_at "ws"
    refine ⟨rfl, ?_⟩
    generalize upd H3 t (.tup [.int (i : Nat), z]) = H4 at g4 ⊢
    have g04 := g3.trans g4
    have ez : (ws.map V.int)[i]? = some z := ez
    rw [List.getElem?_map] at ez
    obtain ⟨w0, hw0, rfl⟩ := Option.map_eq_some_iff.mp ez
    have wm := rec.wr w0 (List.mem_of_getElem? hw0)
    obtain ⟨b, hbw⟩ : ∃ b, bs[w0.toNat]? = some b := ⟨_, List.getElem?_eq_getElem (by omega)⟩
    obtain ⟨d, hdw⟩ : ∃ d, ds[w0.toNat]? = some d := ⟨_, List.getElem?_eq_getElem (by omega)⟩
    have hf := (hb _ _ _ hbw hdw).n g04
    walk_at "ws"
    refine r_ixT (sqT_t g04.tups hbs) (v := .ref b) (at_of (j := w0.toNat) (by omega) (by rw [List.getElem?_map, hbw]; rfl)) ?_
    walk_at "ws"
    refine ⟨b, _, rfl, .inr hf.sq, rfl, by rw [List.all_map, List.all_eq_true]; intro q _; rfl, ?_⟩
    have ein : inV (.int (i : Nat)) (d.map V.int) = true := by
      unfold inV
      rw [List.any_map, List.any_eq_true]
      exact ⟨_, rec.own i w0 d hw0 hdw, by simp [eqV]⟩
    rw [ein]
    walk_at "ws"
    exact ⟨g04, _, _, _, _, rfl⟩
  rintro σ H3 ⟨g3, u2, u3, u4, u5, rfl⟩
  exact k _ g3

end
end Mine
/-! ## K4 -/


namespace Mine
section
variable {P : Program} {w : World} {K : PySem.W.Frag} {mg : Str → Option Value} {base : Heap} {a : Ads}

/-! ### a record as an instance -/
theorem wd_ : ¬ (("writers" : Str) = "diaries") := by decide +kernel
theorem dw_ : ¬ (("diaries" : Str) = "writers") := by decide +kernel
def rf (w d : V) : List (Str × V) := [("writers", w), ("diaries", d)]
theorem rf_w (w d : V) : (rf w d).lookup ("writers" : Str) = some w := by simp [rf, List.lookup]
theorem rf_d (w d : V) : (rf w d).lookup ("diaries" : Str) = some d := by
  have e : (("diaries" : Str) == "writers") = false := by simpa using dw_
  simp [rf, List.lookup, e]
theorem rput0 (w : V) : putF "writers" w [] = [(("writers" : Str), w)] := rfl
theorem rput1 (w d : V) : putF "diaries" d [(("writers" : Str), w)] = rf w d := by
  show (if ("writers" : Str) = "diaries" then _ else (("writers" : Str), w) :: putF "diaries" d []) = _
  rw [if_neg wd_]; rfl
def RecAt (K : PySem.W.Frag) (C : Addr) (H : Hp) (x : Addr) (ws : List Int) (ds : List (List Int)) : Prop := ∃ (dx wp dp : Addr), H x = some (.ins C dx (rf (.ref wp) (.ref dp))) ∧ SqT K H wp (ws.map V.int) ∧ Dia K H dp ds
theorem RecAt.n {C x : Addr} {ws : List Int} {ds : List (List Int)} {H H' : Hp} (h : RecAt K C H x ws ds) (g : G none H H') : RecAt K C H' x ws ds := by
  obtain ⟨dx, wp, dp, h1, h2, h3⟩ := h
  exact ⟨dx, wp, dp, g.all x _ h1, sqT_t g.tups h2, h3.n g⟩
theorem r_fld {o : Addr} {C dx : Addr} {fs : List (Str × V)} {v : V} {f : Str} {H : Hp} {F : V → Prop} (e : H o = some (.ins C dx fs)) (c : Cls K C) (n : NoAttr K C f) (l : fs.lookup f = some v) (q : F v) :
    ∃ a C dx fs v, V.ref o = .ref a ∧ H a = some (.ins C dx fs) ∧ Cls K C ∧ NoAttr K C f ∧ fs.lookup f = some v ∧ F v := ⟨o, C, dx, fs, v, rfl, e, c, n, l, q⟩
theorem r_sfld {o : Addr} {C dx : Addr} {fs : List (Str × V)} {F : Hp → Prop} {f : Str} {y : V} {H : Hp} (e : H o = some (.ins C dx fs)) (c : Cls K C) (n : NoAttr K C f) (l : fs.length < 1000) (q : F (upd H o (.ins C dx (putF f y fs)))) :
    ∃ a C dx fs, V.ref o = .ref a ∧ H a = some (.ins C dx fs) ∧ Cls K C ∧ NoAttr K C f ∧ fs.length < 1000 ∧ F (upd H a (.ins C dx (putF f y fs))) := ⟨o, C, dx, fs, rfl, e, c, n, l, q⟩
theorem ts_updI {H : Hp} {x C dx : Addr} {fs : List (Str × V)} {u : HO} (h : H x = some (.ins C dx fs)) : Ts H (upd H x u) := fun a xs e => by
  rcases e with e | ⟨ob, e⟩
  · exact .inl (by rw [upd_ne (ne_of e h (by intro z; cases z))]; exact e)
  · exact .inr ⟨ob, by rw [upd_ne (ne_of e h (by intro z; cases z))]; exact e⟩
def sp_Record_init (K : PySem.W.Frag) (C : Addr) : Sp := fun vs H Q _ => ∃ (x dx wp dp : Addr) (ws : List Int) (ds : List (List Int)), vs = [.ref x, .ref wp, .ref dp] ∧ H x = some (.ins C dx []) ∧ SqT K H wp (ws.map V.int) ∧ Dia K H dp ds ∧ IsRec ws ds ∧
  ∀ H', (∀ b u, b ≠ x → H b = some u → H' b = some u) → H' x = some (.ins C dx (rf (.ref wp) (.ref dp))) → Q .non H'
theorem ok_Record_init (T : Txt K mg a) : FnOk P w K mg base CX0 7 a.f_Record_init a.d_Record_init P_Record_init (sp_Record_init K a.c_Record) := by
  refine T.F_Record_init.ok sc_Record_init (fun vs H Q E h => by obtain ⟨x, dx, wp, dp, ws, ds, rfl, _⟩ := h; rfl) (fun cdv A outer s H vs Q E hr h => ?_)
  obtain ⟨x, dx, wp, dp, ws, ds, rfl, hxi, hw, hd, rec, k⟩ := h
  have G_check_record : FnOk P w K mg base CX0 6 a.f_check_record a.d_check_record P_check_record (sp_check_record K) := ok_check_record T
  refine ⟨_, (pss_cons (ps_expr (pe_call (G_check_record) (hr.mono (by omega)) rfl T.m_check_record T.F_check_record.kp T.b_check_record .nil pass0 (pa_cons (pv 1) (pa_cons (pv 2) pa_nil))))
  (pss_cons (ps_fld (pv 0) (pv 1) rfl)
  (pss_one (ps_fld (pv 0) (pv 2) rfl)))), ?_⟩
  walk_at "ws"
  refine ⟨wp, dp, ws, ds, rfl, hw, hd, rec, fun H1 g1 => ?_⟩
  walk_at "ws"
  have h1 := g1.all _ _ hxi
  refine r_sfld h1 T.cl_Record T.na_Record_writers (by show 0 < 1000; decide) ?_
  walk_at "ws"
  refine r_sfld upd_same T.cl_Record T.na_Record_diaries (by rw [rput0]; show 1 < 1000; decide) ?_
  rw [rput0, rput1]
  refine k _ (fun b u n e => ?_) upd_same
  rw [upd_ne n, upd_ne n]; exact g1.all _ _ e

theorem rec_new {C : Addr} {H1 : Hp} {wp dp : Addr} {ws : List Int} {ds : List (List Int)} {F : Addr → Hp → Prop} {E : XK} (hw : SqT K H1 wp (ws.map V.int)) (hd : Dia K H1 dp ds) (rec : IsRec ws ds) (q : ∀ x H2, H1 x = none → (∀ o, G o H1 H2) → RecAt K C H2 x ws ds → F x H2) :
    ∀ x dx, H1 x = none → H1 dx = none → dx ≠ x → sp_Record_init K C (.ref x :: ([.ref wp, .ref dp] ++ [])) (upd (upd H1 dx (.own x)) x (.ins C dx [])) (fun v H2 => v = .non ∧ F x H2) E := by
  intro x dx hx hdx nex
  have hxi : (upd (upd H1 dx (.own x)) x (.ins C dx [])) x = some (.ins C dx []) := upd_same
  have k12 : ∀ a u, H1 a = some u → (upd (upd H1 dx (.own x)) x (.ins C dx [])) a = some u := fun a u e => by
    rw [upd_ne (ne_of_none e hx), upd_ne (ne_of_none e hdx)]; exact e
  have g12 : G none H1 (upd (upd H1 dx (.own x)) x (.ins C dx [])) := G.of_all k12
  refine ⟨x, dx, wp, dp, ws, ds, rfl, hxi, sqT_t g12.tups hw, hd.n g12, rec, fun H2 k2 h2 => ⟨rfl, ?_⟩⟩
  have g : ∀ o, G o H1 H2 := fun o => G.of_all fun a u e => k2 a u (ne_of_none e hx) (k12 a u e)
  exact q x H2 hx g ⟨dx, wp, dp, h2, sqT_t (g none).tups hw, hd.n (g none)⟩
theorem bools_told {H : Hp} {α : Type} {f : α → Bool} : ∀ {xs : List V} {l : List α}, DpAll K H xs (l.map fun z => PyData.bool (f z)) → xs = (l.map f).map V.bl
  | _, [], h => by cases h; rfl
  | _, z :: l, h => by
    cases h with
    | cons h t => cases h; rw [bools_told t]; rfl
def sp_is_whole (K : PySem.W.Frag) (C : Addr) : Sp := fun vs H Q _ => ∃ (x : Addr) (ws : List Int) (ds : List (List Int)), vs = [.ref x] ∧ RecAt K C H x ws ds ∧ ds.length ≤ 1000 ∧ ∀ H', G none H H' → Q (.bl (ds.all fun d => decide (d.length = ws.length))) H'
theorem ok_is_whole (T : Txt K mg a) : FnOk P w K mg base CX0 1 a.f_is_whole a.d_is_whole P_is_whole (sp_is_whole K a.c_Record) := by
  refine T.F_is_whole.ok sc_is_whole (fun vs H Q E h => by obtain ⟨x, ws, ds, rfl, _⟩ := h; rfl) (fun cdv A outer s H vs Q E hr h => ?_)
  obtain ⟨x, ws, ds, rfl, ⟨dx, wp, dp, hxi, hw, bs, hbs, lb, hb⟩, hz, k⟩ := h
  refine ⟨_, (pss_one (ps_ret (pe_callB (cr_all rfl) (by rfl) T.n_all (by decide +kernel) (pa_cons (pe_lc (own := [("diary", 1)]) (g := (gName 1)) (tt := tYes) rfl sc_is_whole.nd (pi_tup (pe_fld (pv 0) rfl)) (blkOk_by (N := N_is_whole) (sc := defScope s_is_whole) (by decide +kernel)) (fun _ _ _ _ _ => (pg_name (i := 1) sc_is_whole.nd rfl (by first | exact Or.inl rfl | exact Or.inr rfl))) (fun _ _ _ _ _ => pts_nil) (fun _ _ _ _ _ => (pe_cmpR op_eq (pe_callB (k_call_len_seq K) (by rfl) T.n_len (by decide +kernel) (pa_cons (pv 1) pa_nil)) (pe_callB (k_call_len_seq K) (by rfl) T.n_len (by decide +kernel) (pa_cons (k_fld K (pv 0) rfl) pa_nil)) (nomark _)))) pa_nil)))), ?_⟩
  walk_at "ws"
  refine r_fld hxi T.cl_Record T.na_Record_diaries (rf_d _ _) ?_
  refine i_tup hbs ?_
  intro D hD
  refine lc_pure (K := K) (o := none) (walk_tup (xs := bs.map V.ref)) (by rw [List.length_map]; omega) hD (fun _ e => nomatch e) (fun i => ds[i]?.map fun d => PyData.bool (decide (d.length = ws.length))) (fun H' g => sqT_t g.tups hbs) ?_ ?_
  · rintro i y _ H2 hi g ⟨rfl, hy⟩ Qy Qn ky kn
    obtain ⟨b, d, rfl, _, hd, hf⟩ := Dia.at_ (p := dp) lb hb hy
    walk_at "ws"
    refine ⟨rfl, ?_⟩
    walk_at "ws"
    refine ⟨b, _, rfl, .inr (hf.n g).sq, ?_⟩
    walk_at "ws"
    refine r_fld (g.all _ _ hxi) T.cl_Record T.na_Record_writers (rf_w _ _) ?_
    refine ⟨wp, _, rfl, .inr (sqT_t g.tups hw), ?_⟩
    walk_at "ws"
    refine ky _ _ _ G.refl (.bl _) rfl ?_
    rw [hd, List.length_map, List.length_map]
    simp
    omega
  · intro xs H2 g hD2 hds _
    rw [List.length_map, lb, filterMap_range_map] at hds
    obtain rfl := bools_told hds
    walk_at "ws"
    refine ⟨D, _, rfl, SqL.of hD2, ?_⟩
    have e : (ds.map fun d => decide (d.length = ws.length)).all id = ds.all fun d => decide (d.length = ws.length) := by rw [List.all_map]; rfl
    rw [e]
    exact k _ g

end
end Mine
/-! ## K6 -/


namespace Mine
section
variable {P : Program} {w : World} {K : PySem.W.Frag} {mg : Str → Option Value} {base : Heap} {a : Ads}

/-! ### the hand of draws -/
def sp__law_hand (K : PySem.W.Frag) : Sp := fun vs H Q _ => ∃ (s : Addr) (ns : List Int), vs = [.ref s] ∧ SqL K H s (ns.map V.int) ∧ ns.length ≤ 63 ∧ ∀ hd c H', G none H H' → Hand H' hd c → Q (.ref hd) H'
theorem ok__law_hand (T : Txt K mg a) : FnOk P w K mg base CX0 1 a.f__law_hand a.d__law_hand P__law_hand (sp__law_hand K) := by
  refine T.F__law_hand.ok sc__law_hand (fun vs H Q E h => by obtain ⟨s, ns, rfl, _⟩ := h; rfl) (fun cdv A outer s0 H vs Q E hr h => ?_)
  obtain ⟨s, ns, rfl, hs, hl, k⟩ := h
  refine ⟨_, (pss_cons (ps_setLc (i := 1) (own := [("_law_cell", 2)]) (g := (gName 2)) (tt := tYes)  rfl sc__law_hand.nd rfl rfl (sw_true rfl rfl rfl (by decide +kernel)) (pi_list (pe_slice sl_list (pv 0) po_none (po_some pe_int))) (blkOk_by (N := N__law_hand) (sc := defScope s__law_hand) (by decide +kernel)) (fun _ _ _ _ _ => (pg_name (i := 2) sc__law_hand.nd rfl (by first | exact Or.inl rfl | exact Or.inr rfl))) (fun _ _ _ _ _ => pts_nil) (fun _ _ _ _ _ => (pe_callB call_abs (by rfl) T.n_abs (by decide +kernel) (pa_cons (pe_callTy call_int1 (by rfl) T.n_int (by decide +kernel) (pa_cons (pv 2) pa_nil)) pa_nil))))
  (pss_one (ps_ret (pe_lstN (pa_cons (pv 1) (pa_cons pe_int (pa_cons pe_int (pa_cons (pe_op op_add pe_int (pe_callB call_len_seq (by rfl) T.n_len (by decide +kernel) (pa_cons (pv 1) pa_nil))) (pa_cons pe_int pa_nil))))))))), ?_⟩
  walk_at "ws"
  refine ⟨s, _, rfl, hs, fun p hp => ?_⟩
  obtain ⟨ms, hms⟩ : ∃ ms : List Int, cutV (ns.map V.int) none (some 63) = ms.map V.int := ints_of fun v hv => by
    obtain ⟨n, _, e⟩ := List.mem_map.mp (mem_cutV hv)
    exact ⟨n, e.symm⟩
  have hz : ms.length ≤ 63 := by
    have e := cutV_length (ns.map V.int) none (some 63)
    rw [hms, List.length_map, List.length_map] at e
    omega
  rw [hms]
  have g1 : G none H (upd H p (.lst (ms.map V.int))) := G.alloc hp
  have h1 : upd H p (.lst (ms.map V.int)) p = some (.lst (ms.map V.int)) := upd_same
  generalize upd H p (.lst (ms.map V.int)) = H1 at g1 h1 ⊢
  walk_at "ws"
  refine i_list (SqL.of h1) ?_
  intro D hD
  refine lc_pure (K := K) (o := none) walk_list (by rw [List.length_map]; omega) hD (fun _ e => nomatch e) (fun i => ms[i]?.map fun n => .int (if n < 0 then -n else n)) (fun H' g => SqL.of (g.all _ _ h1)) ?_ ?_
  · rintro i x H2 H3 hi g ⟨rfl, hx1⟩ Qy Qn ky kn
    obtain ⟨n, hn, rfl⟩ : ∃ n, ms[i]? = some n ∧ V.int n = x := by
      rw [List.getElem?_map] at hx1; exact Option.map_eq_some_iff.mp hx1
    walk_at "ws"
    refine ⟨rfl, ?_⟩
    walk_at "ws"
    refine .inl ⟨_, rfl, ?_⟩
    walk_at "ws"
    exact ⟨_, rfl, ky _ _ _ G.refl (.int _) rfl (by rw [hn]; rfl)⟩
  · intro xs H' g hD' hds _
    rw [List.length_map, filterMap_range_map] at hds
    obtain ⟨cs, rfl⟩ : ∃ cs : List Int, xs = cs.map V.int := ⟨_, DpAll.of_ints (ns := ms.map fun n => if n < 0 then -n else n) (by rw [List.map_map]; exact hds)⟩
    have g2 := g1.trans g
    walk_at "ws"
    refine ⟨D, _, rfl, .inl (SqL.of hD'), ?_⟩
    walk_at "ws"
    refine ⟨sz (by simp), fun q H3 hq g3 h3 => ?_⟩
    exact k q D _ (g2.trans (g3 none)) ⟨ne_of_none hD' hq, ⟨cs, (g3 none).all _ _ hD'⟩, _, _, _, _, h3, Int.le_refl _⟩

def sp__law_draw : Sp := fun vs H Q _ => ∃ (hd c : Addr) (n : Int), vs = [.ref hd, .int n] ∧ Hand H hd c ∧ 0 < n ∧ n ≤ 100000 ∧ ∀ r H', 0 ≤ r → r < n → G (some (hd, c)) H H' → Hand H' hd c → Q (.int r) H'
theorem st5 {x0 x1 x2 x3 x4 v : V} {j : Nat} {hd : Addr} {z : Int} {H : Hp} {F : Hp → Prop} (h : H hd = some (.lst [x0, x1, x2, x3, x4])) (e : ixN 5 z = some j) (q : F (upd H hd (.lst (([x0, x1, x2, x3, x4] : List V).set j v)))) : rSetL (.ref hd) (.int z) v H F := ⟨hd, _, z, j, rfl, rfl, h, e, q⟩
theorem ok__law_draw (T : Txt K mg a) : FnOk P w K mg base CX0 1 a.f__law_draw a.d__law_draw P__law_draw sp__law_draw := by
  refine T.F__law_draw.ok sc__law_draw (fun vs H Q E h => by obtain ⟨hd, c, n, rfl, _⟩ := h; rfl) (fun cdv A outer s0 H vs Q E hr h => ?_)
  obtain ⟨hd, c, n, rfl, hh, n0, n1, k⟩ := h
  have hh' := hh
  obtain ⟨nc, ⟨ns, hc⟩, i, b, m, z, h, hi⟩ := hh'
  refine ⟨_, (pss_cons (ps_if (L2.PW.pt (pw_and (pt_cmpR op_eq (pe_ix ix_list (pv 0) pe_int (fun _ _ => rfl)) pe_int (nomark _)) (pw_and1 (pt_cmpR op_lt (pe_ix ix_list (pv 0) pe_int (fun _ _ => rfl)) (pe_callB call_len_seq (by rfl) T.n_len (by decide +kernel) (pa_cons (pe_ix ix_list (pv 0) pe_int (fun _ _ => rfl)) pa_nil)) (nomark _)))))
    (pss_cons (ps_set (i := 2) sc__law_draw.nd rfl (Or.inl rfl) (pe_ix ix_list (pe_ix ix_list (pv 0) pe_int (fun _ _ => rfl)) (pe_ix ix_list (pv 0) pe_int (fun _ _ => rfl)) (fun _ _ => rfl)))
  (pss_cons (ps_asg (pe_op op_add (pe_ix ix_list (pv 0) pe_int (fun _ _ => rfl)) pe_int) (pg_sub (pv 0) pe_int set_list))
  (pss_cons (ps_asg (pe_op op_mod (pe_callTy call_int1 (by rfl) T.n_int (by decide +kernel) (pa_cons (pe_op op_add (pe_op op_add (pe_op op_mul (pe_ix ix_list (pv 0) pe_int (fun _ _ => rfl)) pe_int) (pv 2)) pe_int) pa_nil)) pe_int) (pg_sub (pv 0) pe_int set_list))
  (pss_one (ps_if (pt_cmpR op_ge (pv 2) (pe_op op_pow pe_int pe_int) (nomark _))
    (pss_one (ps_asg (pv 2) (pg_sub (pv 0) pe_int set_list)))
    pss_nil)))))
    pss_nil)
  (pss_cons (ps_if (pt_cmpR op_gt (pe_ix ix_list (pv 0) pe_int (fun _ _ => rfl)) pe_int (nomark _))
    (pss_cons (ps_set (i := 3) sc__law_draw.nd rfl (Or.inl rfl) (pe_op op_mod (pe_callTy call_int1 (by rfl) T.n_int (by decide +kernel) (pa_cons (pe_ix ix_list (pv 0) pe_int (fun _ _ => rfl)) pa_nil)) (pv 1)))
  (pss_cons (ps_asg (pe_op op_fdiv (pe_ix ix_list (pv 0) pe_int (fun _ _ => rfl)) (pv 1)) (pg_sub (pv 0) pe_int set_list))
  (pss_one (ps_ret (pv 3)))))
    pss_nil)
  (pss_cons (ps_asg (pe_op op_add (pe_ix ix_list (pv 0) pe_int (fun _ _ => rfl)) pe_int) (pg_sub (pv 0) pe_int set_list))
  (pss_cons (ps_set (i := 4) sc__law_draw.nd rfl (Or.inl rfl) (pe_op op_mod (pe_callTy call_int1 (by rfl) T.n_int (by decide +kernel) (pa_cons (pe_op op_mul (pe_callTy call_int1 (by rfl) T.n_int (by decide +kernel) (pa_cons (pe_op op_add (pe_ix ix_list (pv 0) pe_int (fun _ _ => rfl)) (pe_op op_mul pe_int (pe_ix ix_list (pv 0) pe_int (fun _ _ => rfl)))) pa_nil)) pe_int) pa_nil)) pe_int))
  (pss_cons (ps_set (i := 4) sc__law_draw.nd rfl (Or.inl rfl) (pe_op op_mod (pe_callTy call_int1 (by rfl) T.n_int (by decide +kernel) (pa_cons (pe_op op_mul (pv 4) (pe_op op_add (pe_op op_fdiv (pv 4) pe_int) pe_int)) pa_nil)) pe_int))
  (pss_cons (ps_set (i := 4) sc__law_draw.nd rfl (Or.inl rfl) (pe_op op_mod (pe_callTy call_int1 (by rfl) T.n_int (by decide +kernel) (pa_cons (pe_op op_mul (pv 4) (pe_op op_add (pe_op op_fdiv (pv 4) pe_int) pe_int)) pa_nil)) pe_int))
  (pss_one (ps_ret (pe_op op_mod (pe_callTy call_int1 (by rfl) T.n_int (by decide +kernel) (pa_cons (pe_op op_fdiv (pv 4) pe_int) pa_nil)) (pv 1)))))))))), ?_⟩
  refine w_seqM (fun σ H1 => ∃ (i b m z : Int) (x : Option V), σ = [some (.ref hd), some (.int n), x, none, none] ∧ (∀ a, a ≠ hd → H1 a = H a) ∧ H1 hd = some (.lst [.ref c, .int i, .int b, .int m, .int z]) ∧ 0 ≤ i) (fun N kN => ?_) ?_
  · walk_at "ws"
    refine r_ixL (SqL.of h) (v := .int b) rfl ?_
    walk_at "ws"
    refine w_ite (fun e => ?_) (fun e => ?_)
    · walk_at "ws"
      refine r_ixL (SqL.of h) (v := .int i) rfl ?_
      walk_at "ws"
      refine r_ixL (SqL.of h) (v := .ref c) rfl ?_
      walk_at "ws"
      refine ⟨c, _, rfl, .inl (SqL.of hc), ?_⟩
      walk_at "ws"
      refine w_ite (fun e => ?_) (fun e => ?_)
      · have hlt : i < ns.length := by
          have := of_decide_eq_true e
          rw [List.length_map] at this
          exact this
        obtain ⟨cell, hcell⟩ : ∃ cell, ns[i.toNat]? = some cell := ⟨_, List.getElem?_eq_getElem (by omega)⟩
        walk_at "ws"
        refine r_ixL (SqL.of h) (v := .ref c) rfl ?_
        walk_at "ws"
        refine r_ixL (SqL.of h) (v := .int i) rfl ?_
        refine r_ixL (SqL.of hc) (v := .int cell) (at_of (j := i.toNat) (by omega) (by rw [List.getElem?_map, hcell]; rfl)) ?_
        walk_at "ws"
        refine r_ixL (SqL.of h) (v := .int i) rfl ?_
        walk_at "ws"
        refine st5 (j := 1) h rfl ?_
        walk_at "ws"
        refine r_ixL (SqL.of upd_same) (v := .int m) rfl ?_
        walk_at "ws"
        refine r_I (.inr ⟨by decide, by decide⟩) ?_
        walk_at "ws"
        refine .inl ⟨_, rfl, ?_⟩
        walk_at "ws"
        refine r_I (by decide) ?_
        walk_at "ws"
        refine st5 (j := 3) upd_same rfl ?_
        walk_at "ws"
        refine r_I ⟨by decide, by decide, by decide⟩ ?_
        walk_at "ws"
        refine w_ite (fun e => ?_) (fun e => ?_)
        · walk_at "ws"
          refine st5 (j := 2) upd_same rfl ?_
          refine kN _ _ ⟨_, _, _, _, _, rfl, fun a na => ?_, upd_same, by omega⟩
          rw [upd_ne na, upd_ne na, upd_ne na]
        · walk_at "ws"
          refine kN _ _ ⟨_, _, _, _, _, rfl, fun a na => ?_, upd_same, by omega⟩
          rw [upd_ne na, upd_ne na]
      · walk_at "ws"
        exact kN _ _ ⟨i, b, m, z, none, rfl, fun _ _ => rfl, h, hi⟩
    · walk_at "ws"
      exact kN _ _ ⟨i, b, m, z, none, rfl, fun _ _ => rfl, h, hi⟩
  · clear h hi
    rintro σ H1 ⟨i, b, m, z, x, rfl, hE, h, hi⟩
    walk_at "ws"
    refine r_ixL (SqL.of h) (v := .int b) rfl ?_
    walk_at "ws"
    refine w_ite (fun e => ?_) (fun e => ?_)
    · walk_at "ws"
      refine r_ixL (SqL.of h) (v := .int b) rfl ?_
      walk_at "ws"
      refine .inl ⟨_, rfl, ?_⟩
      walk_at "ws"
      refine r_I n0 ?_
      walk_at "ws"
      refine r_ixL (SqL.of h) (v := .int b) rfl ?_
      walk_at "ws"
      refine r_I ⟨n0, by omega⟩ ?_
      walk_at "ws"
      refine st5 (j := 2) h rfl ?_
      walk_at "ws"
      obtain ⟨g, hh2⟩ := G.at_hd hh (H' := upd H1 hd (.lst (([.ref c, .int i, .int b, .int m, .int z] : List V).set 2 (.int (b / n))))) (fun a na => by rw [upd_ne na]; exact hE a na) upd_same hi
      exact k _ _ (Int.emod_nonneg _ (by omega)) (Int.emod_lt_of_pos _ n0) g hh2
    · walk_at "ws"
      refine r_ixL (SqL.of h) (v := .int z) rfl ?_
      walk_at "ws"
      refine st5 (j := 4) h rfl ?_
      walk_at "ws"
      refine r_ixL (SqL.of upd_same) (v := .int m) rfl ?_
      walk_at "ws"
      refine r_ixL (SqL.of upd_same) (v := .int (z + 1)) rfl ?_
      refine r_I (.inl ⟨by decide, by decide⟩) ?_
      walk_at "ws"
      refine .inl ⟨_, rfl, ?_⟩
      walk_at "ws"
      refine r_I (.inr ⟨by decide, by decide⟩) ?_
      walk_at "ws"
      refine .inl ⟨_, rfl, ?_⟩
      walk_at "ws"
      refine r_I (by decide) ?_
      generalize e1 : (_ : Int) % 2147483647 = u1
      have b1 : 0 ≤ u1 ∧ u1 < 2147483647 := by omega
      walk_at "ws"
      refine r_I ⟨by decide, by decide⟩ ?_
      walk_at "ws"
      refine r_I (.inl ⟨by omega, by omega⟩) ?_
      walk_at "ws"
      refine .inl ⟨_, rfl, ?_⟩
      walk_at "ws"
      refine r_I (by decide) ?_
      generalize e2 : (_ : Int) % 2147483647 = u2
      have b2 : 0 ≤ u2 ∧ u2 < 2147483647 := by omega
      walk_at "ws"
      refine r_I ⟨by decide, by decide⟩ ?_
      walk_at "ws"
      refine r_I (.inl ⟨by omega, by omega⟩) ?_
      walk_at "ws"
      refine .inl ⟨_, rfl, ?_⟩
      walk_at "ws"
      refine r_I (by decide) ?_
      walk_at "ws"
      refine r_I ⟨by decide, by decide⟩ ?_
      walk_at "ws"
      refine .inl ⟨_, rfl, ?_⟩
      walk_at "ws"
      refine r_I n0 ?_
      obtain ⟨g, hh2⟩ := G.at_hd hh (H' := upd H1 hd (.lst (([.ref c, .int i, .int b, .int m, .int z] : List V).set 4 (.int (z + 1))))) (fun a na => by rw [upd_ne na]; exact hE a na) upd_same hi
      exact k _ _ (Int.emod_nonneg _ (by omega)) (Int.emod_lt_of_pos _ n0) g hh2

end
end Mine
/-! ## K7 -/


namespace Mine
section
variable {P : Program} {w : World} {K : PySem.W.Frag} {mg : Str → Option Value} {base : Heap} {a : Ads}

/-! ### _law_is of two that are alike -/
theorem dp_n {H H' : Hp} (g : G none H H') : (∀ (d : PyData) (v : V), Dp K H v d → Dp K H' v d) ∧ (∀ (ds : List PyData) (vs : List V), DpAll K H vs ds → DpAll K H' vs ds) := by
  have rd : ∀ {a u}, Rd H a u → Rd H' a u := fun h => h.elim (fun h => .inl (g.all _ _ h)) fun ⟨ob, h⟩ => .inr ⟨ob, g.all _ _ h⟩
  have sl : ∀ {a xs}, SqL K H a xs → SqL K H' a xs := fun h => h.elim (fun h => .inl (rd h)) .inr
  constructor
  · intro d v h
    refine Dp.rec (motive_1 := fun v d _ => Dp K H' v d) (motive_2 := fun vs ds _ => DpAll K H' vs ds) .non .bl .int .str ?_ ?_ ?_ ?_ h
    · intro a xs ds h1 _ h2; exact .lst (sl h1) h2
    · intro a xs ds h1 _ h2; exact .tup (sqT_t g.tups h1) h2
    · exact .nil
    · intro v vs d ds _ _ h1 h2; exact .cons h1 h2
  · intro ds vs h
    refine DpAll.rec (motive_1 := fun v d _ => Dp K H' v d) (motive_2 := fun vs ds _ => DpAll K H' vs ds) .non .bl .int .str ?_ ?_ ?_ ?_ h
    · intro a xs ds h1 _ h2; exact .lst (sl h1) h2
    · intro a xs ds h1 _ h2; exact .tup (sqT_t g.tups h1) h2
    · exact .nil
    · intro v vs d ds _ _ h1 h2; exact .cons h1 h2
theorem sqL_n {H H' : Hp} (g : G none H H') {p : Addr} {xs : List V} (h : SqL K H p xs) : SqL K H' p xs := by
  rcases h with (h | ⟨o, h⟩) | h
  · exact .inl (.inl (g.all _ _ h))
  · exact .inl (.inr ⟨o, g.all _ _ h⟩)
  · exact .inr h
theorem tyx_lst {H : Hp} {p : Addr} {xs : List V} (h : SqL K H p xs) : TyX K H (.ref p) (.type "list") := by
  rcases h with (h | ⟨o, h⟩) | ⟨o, its, n, h1, h2, _⟩
  · exact .base (.lst h)
  · exact .base (.frz h)
  · exact .kList h1 h2
def tyN : PyData → String
  | .none => "NoneType"
  | .bool _ => "bool"
  | .int _ => "int"
  | .str _ => "str"
  | .list _ => "list"
  | .tuple _ => "tuple"
  | .dict _ => "dict"
theorem ty_of {H : Hp} {v : V} {d : PyData} (h : Dp K H v d) : TyX K H v (.type (tyN d)) := by
  cases h with
  | non => exact .base .non
  | bl b => exact .base (.bl b)
  | int i => exact .base (.int i)
  | str x => exact .base (.str x)
  | lst h _ => exact tyx_lst h
  | tup h _ => exact tyx_tup h
def isTup : PyData → Bool | .tuple _ => true | _ => false
def isLst : PyData → Bool | .list _ => true | _ => false
def isBool : PyData → Bool | .bool _ => true | _ => false
theorem ki_tup (d : PyData) : PySem.W.kitOne K (.type (tyN d)) (.type "tuple") = some (isTup d) := by
  cases d with
  | none => exact kit_ty (a := "NoneType") (b := "tuple") (r := false) (by decide +kernel)
  | bool _ => exact kit_ty (a := "bool") (b := "tuple") (r := false) (by decide +kernel)
  | int _ => exact kit_ty (a := "int") (b := "tuple") (r := false) (by decide +kernel)
  | str _ => exact kit_ty (a := "str") (b := "tuple") (r := false) (by decide +kernel)
  | list _ => exact kit_ty (a := "list") (b := "tuple") (r := false) (by decide +kernel)
  | tuple _ => exact kit_ty (a := "tuple") (b := "tuple") (r := true) (by decide +kernel)
  | dict _ => exact kit_ty (a := "dict") (b := "tuple") (r := false) (by decide +kernel)
theorem ki_lst (d : PyData) : PySem.W.kitOne K (.type (tyN d)) (.type "list") = some (isLst d) := by
  cases d with
  | none => exact kit_ty (a := "NoneType") (b := "list") (r := false) (by decide +kernel)
  | bool _ => exact kit_ty (a := "bool") (b := "list") (r := false) (by decide +kernel)
  | int _ => exact kit_ty (a := "int") (b := "list") (r := false) (by decide +kernel)
  | str _ => exact kit_ty (a := "str") (b := "list") (r := false) (by decide +kernel)
  | list _ => exact kit_ty (a := "list") (b := "list") (r := true) (by decide +kernel)
  | tuple _ => exact kit_ty (a := "tuple") (b := "list") (r := false) (by decide +kernel)
  | dict _ => exact kit_ty (a := "dict") (b := "list") (r := false) (by decide +kernel)
theorem ki_bool (d : PyData) : PySem.W.kitOne K (.type (tyN d)) (.type "bool") = some (isBool d) := by
  cases d with
  | none => exact kit_ty (a := "NoneType") (b := "bool") (r := false) (by decide +kernel)
  | bool _ => exact kit_ty (a := "bool") (b := "bool") (r := true) (by decide +kernel)
  | int _ => exact kit_ty (a := "int") (b := "bool") (r := false) (by decide +kernel)
  | str _ => exact kit_ty (a := "str") (b := "bool") (r := false) (by decide +kernel)
  | list _ => exact kit_ty (a := "list") (b := "bool") (r := false) (by decide +kernel)
  | tuple _ => exact kit_ty (a := "tuple") (b := "bool") (r := false) (by decide +kernel)
  | dict _ => exact kit_ty (a := "dict") (b := "bool") (r := false) (by decide +kernel)
theorem ki_tl (d : PyData) : PySem.W.kitAny K (.type (tyN d)) [.type "tuple", .type "list"] = some (isTup d || isLst d) := by
  refine kitAny_cons (ki_tup d) (fun e => ?_) fun e => by rw [e]; rfl
  refine kitAny_cons (ki_lst d) (fun e2 => ?_) fun e2 => by rw [e, e2]; rfl
  rw [e, e2]; rfl
theorem r_isiT {H : Hp} {v : V} {d : PyData} {tp : Addr} {Q : VK} (h : H tp = some (.tup [.ty "tuple", .ty "list"])) (hd : Dp K H v d) (q : Q (.bl (isTup d || isLst d)) H) : rIsiT K [v, .ref tp] H Q :=
  ⟨v, tp, [.ty "tuple", .ty "list"], _, [.type "tuple", .type "list"], _, rfl, h, .cons (.ty "tuple") (.cons (.ty "list") .nil), ty_of hd, ki_tl d, q⟩
def scal1 : PyData → Prop
  | .none => True
  | .bool _ => True
  | .int _ => True
  | .str x => PyData.strOk x = true
  | _ => False
def okd : Nat → PyData → Prop
  | 0, d => scal1 d
  | n + 1, d => scal1 d ∨ ∃ ds, (d = .tuple ds ∨ d = .list ds) ∧ ds.length ≤ 100000 ∧ ∀ e ∈ ds, okd n e
theorem scal1_tl {d : PyData} (h : scal1 d) : (isTup d || isLst d) = false := by cases d <;> first | rfl | exact h.elim
theorem scal1_eqv {d : PyData} (h : scal1 d) : PyData.eqv d d = true := by
  cases d with
  | none => rfl
  | bool b => cases b <;> rfl
  | int i => simp [PyData.eqv]
  | str x => simp [PyData.eqv]
  | list _ => exact h.elim
  | tuple _ => exact h.elim
  | dict _ => exact h.elim
theorem scal1_sh {d : PyData} (h : scal1 d) : SeqAt.shaped d = true := by
  cases d <;> first | exact h.elim | (simp [SeqAt.shaped, PyData.canLay0, PyData.depth]; done) | (simp [SeqAt.shaped, PyData.canLay0, PyData.depth]; exact h)
theorem walk_zipT {p q : Addr} {xs ys : List V} {n : Nat} (hn : n = min xs.length ys.length) : Walk (RZ.ItzT K p q) n (fun H => SqT K H p xs ∧ SqT K H q ys) (YPair (fun i => xs[i]?) (fun i => ys[i]?)) := by
  subst hn
  refine ⟨fun i _ hi h => ?_, fun _ h => ⟨xs, ys, h.1, h.2, by omega⟩, fun i H v H' _ h y => ?_⟩
  · have h1 : i < xs.length := by omega
    have h2 : i < ys.length := by omega
    exact ⟨xs, ys, xs[i], ys[i], h.1, h.2, by simp [h1], by simp [h2]⟩
  · obtain ⟨T, x, z, h1, h2, h3, h4, h5⟩ := y
    exact ⟨T, x, z, h1, h2, h3, h4 xs h.1, h5 ys h.2⟩
theorem bools_true {H : Hp} {xs : List V} {n : Nat} (h : DpAll K H xs ((List.range n).filterMap fun _ => some (PyData.bool true))) : ∃ bs : List Bool, xs = bs.map V.bl ∧ bs.all id = true := by
  generalize List.range n = l at h
  induction l generalizing xs with
  | nil => cases h; exact ⟨[], rfl, rfl⟩
  | cons z l ih =>
    cases h with
    | cons h t =>
      obtain ⟨bs, rfl, e⟩ := ih t
      cases h
      exact ⟨true :: bs, rfl, by simpa using e⟩
def sp__law_is (K : PySem.W.Frag) (n : Nat) : Sp := fun vs H Q _ => ∃ (v u : V) (d : PyData), vs = [v, u] ∧ okd n d ∧ Dp K H v d ∧ Dp K H u d ∧ ∀ H', G none H H' → Q (.bl true) H'
theorem ok__law_is (T : Txt K mg a) : ∀ n : Nat, FnOk P w K mg base CX0 (n + 1) a.f__law_is a.d__law_is P__law_is (sp__law_is K n)
  | 0 => by
    refine T.F__law_is.ok sc__law_is (fun vs H Q E h => by obtain ⟨v, u, d, rfl, _⟩ := h; rfl) (fun cdv A outer s H vs Q E hr h => ?_)
    obtain ⟨v, u, d, rfl, od, hv, hu, k⟩ := h
    have od : scal1 d := od
    refine ⟨_, (pss_cons (ps_if (pt_val (pe_callB call_isiT (by rfl) T.n_isinstance (by decide +kernel) (pa_cons (pv 1) (pa_cons (pe_tupN (pa_cons (pe_bltn (v := .ty "tuple") (u := .type "tuple") rfl T.n_tuple (by decide +kernel) rfl) (pa_cons (pe_bltn (v := .ty "list") (u := .type "list") rfl T.n_list (by decide +kernel) rfl) pa_nil))) pa_nil)))) pss_never pss_nil) (pss_one (ps_ret (pe_and (pe_cmpR op_eq (pe_callB call_isi (by rfl) T.n_isinstance (by decide +kernel) (pa_cons (pv 0) (pa_cons (pe_bltn (v := .ty "bool") (u := .type "bool") rfl T.n_bool (by decide +kernel) rfl) pa_nil))) (pe_callB call_isi (by rfl) T.n_isinstance (by decide +kernel) (pa_cons (pv 1) (pa_cons (pe_bltn (v := .ty "bool") (u := .type "bool") rfl T.n_bool (by decide +kernel) rfl) pa_nil))) (nomark _)) (pe_one (pe_cmpR (op_eqD hr.units) (pv 0) (pv 1) (nomark _))))))), ?_⟩
    walk_at "ws"
    refine ⟨sz (by simp), fun p H1 hp g1 h1 => ?_⟩
    have g1 := g1 none
    walk_at "ws"
    refine r_isiT h1 ((dp_n g1).1 _ _ hu) ?_
    rw [scal1_tl od]
    walk_at "ws"
    refine r_isi (ty_of ((dp_n g1).1 _ _ hv)) (ki_bool d) ?_
    walk_at "ws"
    refine r_isi (ty_of ((dp_n g1).1 _ _ hu)) (ki_bool d) ?_
    walk_at "ws"
    refine w_iteE (by simp) ?_
    walk_at "ws"
    refine ⟨d, d, (dp_n g1).1 _ _ hv, (dp_n g1).1 _ _ hu, scal1_sh od, scal1_sh od, ?_⟩
    rw [scal1_eqv od]
    exact k _ g1
  | n + 1 => by
    have ih : FnOk P w K mg base CX0 (n + 1) a.f__law_is a.d__law_is P__law_is (sp__law_is K n) := ok__law_is T n
    refine T.F__law_is.ok sc__law_is (fun vs H Q E h => by obtain ⟨v, u, d, rfl, _⟩ := h; rfl) (fun cdv A outer s H vs Q E hr h => ?_)
    obtain ⟨v, u, d, rfl, od, hv, hu, k⟩ := h
    refine ⟨_, (pss_cons (ps_if (pt_val (pe_callB call_isiT (by rfl) T.n_isinstance (by decide +kernel) (pa_cons (pv 1) (pa_cons (pe_tupN (pa_cons (pe_bltn (v := .ty "tuple") (u := .type "tuple") rfl T.n_tuple (by decide +kernel) rfl) (pa_cons (pe_bltn (v := .ty "list") (u := .type "list") rfl T.n_list (by decide +kernel) rfl) pa_nil))) pa_nil))))
    (pss_cons (ps_if (L2.PW.pt (pw_or (pt_cmpR op_ne (pe_callB call_isi (by rfl) T.n_isinstance (by decide +kernel) (pa_cons (pv 0) (pa_cons (pe_bltn (v := .ty "tuple") (u := .type "tuple") rfl T.n_tuple (by decide +kernel) rfl) pa_nil))) (pe_callB call_isi (by rfl) T.n_isinstance (by decide +kernel) (pa_cons (pv 1) (pa_cons (pe_bltn (v := .ty "tuple") (u := .type "tuple") rfl T.n_tuple (by decide +kernel) rfl) pa_nil))) (nomark _)) (pw_or1 (pt_not (pt_val (pe_callB call_isiT (by rfl) T.n_isinstance (by decide +kernel) (pa_cons (pv 0) (pa_cons (pe_tupN (pa_cons (pe_bltn (v := .ty "tuple") (u := .type "tuple") rfl T.n_tuple (by decide +kernel) rfl) (pa_cons (pe_bltn (v := .ty "list") (u := .type "list") rfl T.n_list (by decide +kernel) rfl) pa_nil))) pa_nil))))))))
    (pss_one (ps_ret pe_bl))
    pss_nil)
  (pss_one (ps_ret (pe_and (pe_cmpR op_eq (pe_callB call_len_seq (by rfl) T.n_len (by decide +kernel) (pa_cons (pv 0) pa_nil)) (pe_callB call_len_seq (by rfl) T.n_len (by decide +kernel) (pa_cons (pv 1) pa_nil)) (nomark _)) (pe_one (pe_callB (cr_all rfl) (by rfl) T.n_all (by decide +kernel) (pa_cons (pe_lc (own := [("_law_one", 2), ("_law_two", 3)]) (g := (gTup K 2 (gCons (gName 2) (gCons (gName 3) gNil)))) (tt := tYes) rfl sc__law_is.nd (RZ.pi_zipA (by rfl) T.n_zip (pa_cons (pv 0) (pa_cons (pv 1) pa_nil))) (blkOk_by (N := N__law_is) (sc := defScope s__law_is) (by decide +kernel)) (fun _ _ _ _ _ => (pg_tup rfl (pgs_cons (pg_name (i := 2) sc__law_is.nd rfl (by first | exact Or.inl rfl | exact Or.inr rfl)) (pgs_cons (pg_name (i := 3) sc__law_is.nd rfl (by first | exact Or.inl rfl | exact Or.inr rfl)) pgs_nil)))) (fun _ _ _ _ _ => pts_nil) (fun _ _ _ _ _ => (pe_call ih (hr.mono (by omega)) rfl T.m__law_is T.F__law_is.kp T.b__law_is .nil pass0 (pa_cons (pv 2) (pa_cons (pv 3) pa_nil))))) pa_nil)))))))
    pss_nil)
  (pss_one (ps_ret (pe_and (pe_cmpR op_eq (pe_callB call_isi (by rfl) T.n_isinstance (by decide +kernel) (pa_cons (pv 0) (pa_cons (pe_bltn (v := .ty "bool") (u := .type "bool") rfl T.n_bool (by decide +kernel) rfl) pa_nil))) (pe_callB call_isi (by rfl) T.n_isinstance (by decide +kernel) (pa_cons (pv 1) (pa_cons (pe_bltn (v := .ty "bool") (u := .type "bool") rfl T.n_bool (by decide +kernel) rfl) pa_nil))) (nomark _)) (pe_one (pe_cmpR (op_eqD hr.units) (pv 0) (pv 1) (nomark _))))))), ?_⟩
    walk_at "ws"
    refine ⟨sz (by simp), fun p H1 hp g1 h1 => ?_⟩
    have g1 := g1 none
    walk_at "ws"
    refine r_isiT h1 ((dp_n g1).1 _ _ hu) ?_
    rcases od with od | ⟨ds, od, hz, hds⟩
    · rw [scal1_tl od]
      walk_at "ws"
      refine r_isi (ty_of ((dp_n g1).1 _ _ hv)) (ki_bool d) ?_
      walk_at "ws"
      refine r_isi (ty_of ((dp_n g1).1 _ _ hu)) (ki_bool d) ?_
      walk_at "ws"
      refine w_iteE (by simp) ?_
      walk_at "ws"
      refine ⟨d, d, (dp_n g1).1 _ _ hv, (dp_n g1).1 _ _ hu, scal1_sh od, scal1_sh od, ?_⟩
      rw [scal1_eqv od]
      exact k _ g1
    · have e1 : (isTup d || isLst d) = true := by rcases od with rfl | rfl <;> rfl
      rw [e1]
      have hv1 := (dp_n g1).1 _ _ hv
      have hu1 := (dp_n g1).1 _ _ hu
      walk_at "ws"
      refine r_isi (ty_of hv1) (ki_tup d) ?_
      walk_at "ws"
      refine r_isi (ty_of hu1) (ki_tup d) ?_
      walk_at "ws"
      refine w_iteN (by simp) ?_
      walk_at "ws"
      refine ⟨sz (by simp), fun p2 H2 hp2 g2 h2 => ?_⟩
      have g2 := g2 none
      have hv2 := (dp_n g2).1 _ _ hv1
      have hu2 := (dp_n g2).1 _ _ hu1
      have g12 := g1.trans g2
      walk_at "ws"
      refine r_isiT h2 hv2 ?_
      rw [e1]
      walk_at "ws"
      -- the turn of one pair
      have turn : ∀ (i : Nat) (xs ys : List V) (H3 H4 : Hp) (x : V) (Qy : V → Hp → Prop) (Qn : Hp → Prop), DpAll K H2 xs ds → DpAll K H2 ys ds → G none H2 H3 → YPair (fun i => xs[i]?) (fun i => ys[i]?) i H3 x H4 →
          (∀ y H5 e, G none H3 H5 → Dp K H5 y e → nl e = true → some (PyData.bool true) = some e → Qy y H5) →
          ∃ (t : Addr) (y z : V) (e : PyData), x = .ref t ∧ H4 t = some (.tup [y, z]) ∧ e ∈ ds ∧ Dp K H4 y e ∧ Dp K H4 z e ∧ G none H3 H4 := by
        intro i xs ys H3 H4 x Qy Qn hx hy g3 hY ky
        obtain ⟨t, y, z, rfl, ht, rfl, ey, ez⟩ := hY
        obtain ⟨e, he, hye⟩ := DpAll.get hx ey
        obtain ⟨e', he', hze⟩ := DpAll.get hy ez
        rw [he] at he'; cases he'
        have g4 : G none H3 (upd H3 t (.tup [y, z])) := G.alloc ht
        exact ⟨t, y, z, e, rfl, upd_same, List.mem_of_getElem? he, (dp_n (g3.trans g4)).1 _ _ hye, (dp_n (g3.trans g4)).1 _ _ hze, g4⟩
      rcases od with rfl | rfl
      · obtain ⟨p3, xs, rfl, hxs, hxd⟩ := dp_tup hv2
        obtain ⟨p4, ys, rfl, hys, hyd⟩ := dp_tup hu2
        walk_at "ws"
        refine ⟨p3, xs, rfl, .inr hxs, ?_⟩
        walk_at "ws"
        refine ⟨p4, ys, rfl, .inr hys, ?_⟩
        walk_at "ws"
        have lx := DpAll.length hxd
        have ly := DpAll.length hyd
        refine w_iteE (by simp [lx, ly]) ?_
        walk_at "ws"
        refine ⟨p3, p4, xs, ys, rfl, .inr ⟨hxs, hys, ?_⟩⟩
        intro D hD
        refine lc_pure (K := K) (o := none) (walk_zipT (xs := xs) (ys := ys) rfl) (by omega) hD (fun _ e => nomatch e) (fun _ => some (PyData.bool true)) (fun H' g => ⟨sqT_t g.tups hxs, sqT_t g.tups hys⟩) ?_ ?_
        · intro i x H3 H4 hi g3 hY Qy Qn ky kn
          obtain ⟨t, y, z, e, rfl, h4, me, hy4, hz4, g4⟩ := turn i xs ys H3 H4 x Qy Qn hxd hyd g3 hY ky
          refine ⟨t, _, rfl, SqT.of h4, rfl, ?_⟩
          refine ⟨_, _, rfl, ?_⟩
          walk_at "ws"
          refine ⟨_, _, rfl, ?_⟩
          walk_at "ws"
          refine ⟨rfl, rfl, ?_⟩
          walk_at "ws"
          exact ⟨y, z, e, rfl, hds e me, hy4, hz4, fun H5 g5 => ky _ _ _ (g4.trans g5) (.bl true) rfl rfl⟩
        · intro xs' H' g hD' hds' _
          obtain ⟨bs, rfl, eb⟩ := bools_true hds'
          walk_at "ws"
          refine ⟨D, bs, rfl, SqL.of hD', ?_⟩
          rw [eb]
          exact k _ (g12.trans g)
      · cases hv2 with
        | lst hxs hxd =>
          cases hu2 with
          | lst hys hyd =>
            rename_i p3 xs p4 ys
            walk_at "ws"
            refine ⟨p3, xs, rfl, .inl hxs, ?_⟩
            walk_at "ws"
            refine ⟨p4, ys, rfl, .inl hys, ?_⟩
            walk_at "ws"
            have lx := DpAll.length hxd
            have ly := DpAll.length hyd
            refine w_iteE (by simp [lx, ly]) ?_
            walk_at "ws"
            refine ⟨p3, p4, xs, ys, rfl, .inl ⟨hxs, hys, ?_⟩⟩
            intro D hD
            refine lc_pure (K := K) (o := none) (walk_zip (xs := xs) (ys := ys) rfl) (by omega) hD (fun _ e => nomatch e) (fun _ => some (PyData.bool true)) (fun H' g => ⟨sqL_n g hxs, sqL_n g hys⟩) ?_ ?_
            · intro i x H3 H4 hi g3 hY Qy Qn ky kn
              obtain ⟨t, y, z, e, rfl, h4, me, hy4, hz4, g4⟩ := turn i xs ys H3 H4 x Qy Qn hxd hyd g3 hY ky
              refine ⟨t, _, rfl, SqT.of h4, rfl, ?_⟩
              refine ⟨_, _, rfl, ?_⟩
              walk_at "ws"
              refine ⟨_, _, rfl, ?_⟩
              walk_at "ws"
              refine ⟨rfl, rfl, ?_⟩
              walk_at "ws"
              exact ⟨y, z, e, rfl, hds e me, hy4, hz4, fun H5 g5 => ky _ _ _ (g4.trans g5) (.bl true) rfl rfl⟩
            · intro xs' H' g hD' hds' _
              obtain ⟨bs, rfl, eb⟩ := bools_true hds'
              walk_at "ws"
              refine ⟨D, bs, rfl, SqL.of hD', ?_⟩
              rw [eb]
              exact k _ (g12.trans g)

end
end Mine
/-! ## KP -/
end
namespace Mine
/-! ### ways of wires -/
inductive Reach (ws : List (Int × Int)) : Int → Int → Prop where
  | refl (y : Int) : Reach ws y y
  | step {y z x : Int} : Reach ws y z → (z, x) ∈ ws → Reach ws y x
theorem Reach.trans {ws : List (Int × Int)} {y z x : Int} (h : Reach ws y z) (h' : Reach ws z x) : Reach ws y x := by
  induction h' with
  | refl => exact h
  | step _ e ih => exact .step ih e
theorem Reach.one {ws : List (Int × Int)} {y x : Int} (h : (y, x) ∈ ws) : Reach ws y x := .step (.refl y) h
/-- by way of machines below k alone -/
inductive Via (ws : List (Int × Int)) (k : Int) : Int → Int → Prop where
  | refl (y : Int) : Via ws k y y
  | one {y x : Int} : (y, x) ∈ ws → Via ws k y x
  | mid {y z x : Int} : z < k → Via ws k y z → Via ws k z x → Via ws k y x
theorem Via.up {ws : List (Int × Int)} {k : Int} {y x : Int} (h : Via ws (k + 1) y x) : Via ws k y x ∨ (Via ws k y k ∧ Via ws k k x) := by
  induction h with
  | refl y => exact .inl (.refl y)
  | one e => exact .inl (.one e)
  | mid hz _ _ h1 h2 =>
    rename_i y z x _ _
    by_cases e : z = k
    · subst e
      have a : Via ws z y z := by rcases h1 with h | h; exact h; exact h.1
      have b : Via ws z z x := by rcases h2 with h | h; exact h; exact h.2
      exact .inr ⟨a, b⟩
    · have hz' : z < k := by omega
      rcases h1 with h1 | h1
      · rcases h2 with h2 | h2
        · exact .inl (.mid hz' h1 h2)
        · exact .inr ⟨.mid hz' h1 h2.1, h2.2⟩
      · rcases h2 with h2 | h2
        · exact .inr ⟨h1.1, .mid hz' h1.2 h2⟩
        · exact .inr ⟨h1.1, h2.2⟩
theorem Reach.via {ws : List (Int × Int)} {m : Int} (hm : ∀ u ∈ ws, u.1 < m ∧ u.2 < m) {y x : Int} (h : Reach ws y x) : Via ws m y x := by
  induction h with
  | refl => exact .refl _
  | step _ e ih => exact .mid (hm _ e).1 ih (.one e)

/-! ### what is found on the way -/
structure Fnd (m : Int) (ws : List (Int × Int)) (y : Int) (ks ls : List Int) : Prop where
  nd : ks.Nodup
  rng : ∀ k ∈ ks, 0 ≤ k ∧ k < m
  reach : ∀ k ∈ ks, Reach ws y k
  sub : ∀ k ∈ ls, k ∈ ks
  begin_ : y ∈ ks
theorem Fnd.len {m : Int} {ws : List (Int × Int)} {y : Int} {ks ls : List Int} (h : Fnd m ws y ks ls) (hm : m ≤ 7) : ks.length ≤ 7 := by
  have := List.Nodup.length_le_of_subset (l₂ := (List.range 7).map fun i => ((i : Nat) : Int)) h.nd fun k hk => by
    have := h.rng k hk
    exact List.mem_map.mpr ⟨k.toNat, List.mem_range.mpr (by omega), by omega⟩
  simpa using this
/-- all ways out of those that are done are taken -/
def Shut (ws : List (Int × Int)) (ks ls : List Int) : Prop := ∀ k ∈ ks, k ∈ ls ∨ ∀ z, (k, z) ∈ ws → z ∈ ks
theorem Fnd.all {m : Int} {ws : List (Int × Int)} {y : Int} {ks : List Int} (h : Fnd m ws y ks []) (c : Shut ws ks []) (z : Int) : z ∈ ks ↔ Reach ws y z := by
  refine ⟨h.reach z, fun r => ?_⟩
  induction r with
  | refl => exact h.begin_
  | step _ e ih =>
    rcases c _ ih with q | q
    · exact absurd q (by simp)
    · exact q _ e
/-- within the turn of one machine: the wires of the first i are looked at -/
structure Trn (m : Int) (ws : List (Int × Int)) (y : Int) (ks0 ls0 : List Int) (here : Int) (i : Nat) (ks ls : List Int) : Prop where
  f : Fnd m ws y ks ls
  shut : ∀ k ∈ ks, k ∈ ls ∨ k = here ∨ ∀ z, (k, z) ∈ ws → z ∈ ks
  seen : ∀ (j : Nat) (x : Int), j < i → ws[j]? = some (here, x) → x ∈ ks
  cnt : ls.length + ks0.length = ls0.length + ks.length
  more : ks0.length ≤ ks.length
  at_ : here ∈ ks
theorem Trn.skip {m : Int} {ws : List (Int × Int)} {y : Int} {ks0 ls0 : List Int} {here : Int} {i : Nat} {ks ls : List Int} (h : Trn m ws y ks0 ls0 here i ks ls) {u : Int × Int} (hu : ws[i]? = some u) (c : u.1 = here → u.2 ∈ ks) : Trn m ws y ks0 ls0 here (i + 1) ks ls :=
  ⟨h.f, h.shut, fun j x hj e => by
    by_cases c2 : j = i
    · subst c2
      rw [hu] at e
      cases e
      exact c rfl
    · exact h.seen j x (by omega) e, h.cnt, h.more, h.at_⟩
theorem Trn.add {m : Int} {ws : List (Int × Int)} {y : Int} {ks0 ls0 : List Int} {here : Int} {i : Nat} {ks ls : List Int} (h : Trn m ws y ks0 ls0 here i ks ls) {u : Int × Int} (hu : ws[i]? = some u) (c : u.1 = here) (n : u.2 ∉ ks) (hr : 0 ≤ u.2 ∧ u.2 < m) :
    Trn m ws y ks0 ls0 here (i + 1) (ks ++ [u.2]) (ls ++ [u.2]) := by
  have hm : u ∈ ws := List.mem_of_getElem? hu
  refine ⟨⟨?_, ?_, ?_, ?_, List.mem_append_left _ h.f.begin_⟩, ?_, ?_, ?_, ?_, List.mem_append_left _ h.at_⟩
  · rw [List.nodup_append]
    exact ⟨h.f.nd, by simp, fun a ha b hb => by
      have e : b = u.2 := by simpa using hb
      rw [e]; intro e2; exact n (e2 ▸ ha)⟩
  · intro k hk
    rcases List.mem_append.mp hk with z | z
    · exact h.f.rng k z
    · have e : k = u.2 := by simpa using z
      rw [e]; exact hr
  · intro k hk
    rcases List.mem_append.mp hk with z | z
    · exact h.f.reach k z
    · have e : k = u.2 := by simpa using z
      rw [e]
      refine .step (h.f.reach here h.at_) ?_
      rw [← c]; exact hm
  · intro k hk
    rcases List.mem_append.mp hk with z | z
    · exact List.mem_append_left _ (h.f.sub k z)
    · exact List.mem_append_right _ z
  · intro k hk
    rcases List.mem_append.mp hk with z | z
    · rcases h.shut k z with q | q | q
      · exact .inl (List.mem_append_left _ q)
      · exact .inr (.inl q)
      · exact .inr (.inr fun z hz => List.mem_append_left _ (q z hz))
    · exact .inl (List.mem_append_right _ z)
  · intro j x hj e
    by_cases c2 : j = i
    · subst c2
      rw [hu] at e
      cases e
      exact List.mem_append_right _ (by simp)
    · exact List.mem_append_left _ (h.seen j x (by omega) e)
  · have := h.cnt
    simp only [List.length_append, List.length_singleton]
    omega
  · have := h.more
    simp only [List.length_append]
    omega
theorem Trn.done {m : Int} {ws : List (Int × Int)} {y : Int} {ks0 ls0 : List Int} {here : Int} {ks ls : List Int} (h : Trn m ws y ks0 ls0 here ws.length ks ls) : Shut ws ks ls := fun k hk => by
  rcases h.shut k hk with q | q | q
  · exact .inl q
  · refine .inr fun z hz => ?_
    obtain ⟨j, hj⟩ := List.getElem?_of_mem hz
    rw [q] at hj
    exact h.seen j z (List.getElem?_eq_some_iff.mp hj).1 hj
  · exact .inr q
end Mine
/-! ## FF -/
namespace Mine
/-! ### what grows, and what the leading of letters comes to -/
abbrev dAt (ds : List (List Int)) (x : Nat) : List Int := ds.getD x []
abbrev aheadOf (d : List Int) (p : Int) : List Int := d.take (d.idxOf p)
def Grow (ds : List (List Int)) (y x : Nat) (p : Int) : Prop := p ∈ dAt ds y ∧ p ∈ dAt ds x ∧ ∀ q ∈ aheadOf (dAt ds y) p, q ∈ aheadOf (dAt ds x) p
instance (ds : List (List Int)) (y x : Nat) (p : Int) : Decidable (Grow ds y x p) := by unfold Grow; infer_instance
def growL (W : List (Int × Int)) (ds : List (List Int)) (p : Int) : List (Int × Int) := W.filter fun u => decide (Grow ds u.1.toNat u.2.toNat p)
structure Rec (ws : List Int) (ds : List (List Int)) : Prop where
  nd : ∀ d ∈ ds, d.Nodup
  rng : ∀ d ∈ ds, ∀ p ∈ d, 0 ≤ p ∧ p < ws.length
/-- x can write what is next in its diary -/
def Can (W : List (Int × Int)) (ws : List Int) (ds : List (List Int)) (n : Nat → Nat) (x : Nat) : Prop :=
  ∃ p, (dAt ds x)[n x]? = some p ∧ (ws[p.toNat]? = some (x : Int) ∨ ∃ y : Nat, ((y : Int), (x : Int)) ∈ W ∧ Grow ds y x p ∧ p ∈ (dAt ds y).take (n y))
def Full (W : List (Int × Int)) (ws : List Int) (ds : List (List Int)) : Prop := ∀ (p : Nat) (w : Int) (x : Nat), ws[p]? = some w → (p : Int) ∈ dAt ds x → Reach (growL W ds p) w x
theorem nd_at {l : List Int} (nd : l.Nodup) {i j : Nat} (hi : i < l.length) (hj : j < l.length) (e : l[i] = l[j]) : i = j := by
  rcases Nat.lt_trichotomy i j with h | h | h
  · exact absurd e (List.pairwise_iff_getElem.mp nd i j hi hj h)
  · exact h
  · exact absurd e.symm (List.pairwise_iff_getElem.mp nd j i hj hi h)
theorem mem_take_idx {d : List Int} {p : Int} {k : Nat} (nd : d.Nodup) (h : p ∈ d) : p ∈ d.take k ↔ d.idxOf p < k := by
  have hi := List.idxOf_lt_length_iff.mpr h
  have e : d[d.idxOf p] = p := List.getElem_idxOf hi
  constructor
  · intro m
    obtain ⟨j, hj, ej⟩ := List.getElem_of_mem m
    rw [List.length_take] at hj
    rw [List.getElem_take] at ej
    have : d.idxOf p = j := by
      rw [← ej]
      have z : d.idxOf d[j] < d.length := List.idxOf_lt_length_iff.mpr (List.getElem_mem _)
      exact nd_at nd z (by omega) (List.getElem_idxOf z)
    omega
  · intro hk
    rw [List.mem_take_iff_getElem]
    exact ⟨d.idxOf p, by omega, e⟩
theorem dAt_mem {ds : List (List Int)} {x : Nat} {p : Int} (h : p ∈ dAt ds x) : dAt ds x ∈ ds := by
  unfold dAt at h ⊢
  rw [List.getD_eq_getElem?_getD] at h ⊢
  cases e : ds[x]? with
  | none => rw [e] at h; nomatch h
  | some d => rw [Option.getD_some]; exact List.mem_of_getElem? e
theorem grow_pos {ws : List Int} {ds : List (List Int)} (r : Rec ws ds) {y x : Nat} {p : Int} (g : Grow ds y x p) : (dAt ds y).idxOf p ≤ (dAt ds x).idxOf p := by
  have hy := List.idxOf_lt_length_iff.mpr g.1
  have nd : (aheadOf (dAt ds y) p).Nodup := (r.nd _ (dAt_mem g.1)).sublist (List.take_sublist _ _)
  have := List.Nodup.length_le_of_subset nd fun q hq => g.2.2 q hq
  rw [List.length_take, List.length_take] at this
  omega
section
variable {W : List (Int × Int)} {ws : List Int} {ds : List (List Int)} {n : Nat → Nat}
theorem ff_stuck (r : Rec ws ds) (wn : ∀ w ∈ ws, 0 ≤ w) (wW : ∀ u ∈ W, 0 ≤ u.1 ∧ 0 ≤ u.2) (full : Full W ws ds) (st : ∀ x, ¬ Can W ws ds n x) : ∀ k (x : Nat) (p : Int), p ∈ dAt ds x → (dAt ds x).idxOf p = k → k < n x := by
  intro k
  induction k using Nat.strongRecOn with
  | ind k ih =>
  intro x p hp hk
  have rg := r.rng _ (dAt_mem hp) p hp
  -- all that stand ahead are written
  have low : ∀ (z : Nat) (q : Int), q ∈ dAt ds z → (dAt ds z).idxOf q ≤ k → (dAt ds z).idxOf q ≤ n z := fun z q hq hl => by
    cases c : (dAt ds z).idxOf q with
    | zero => exact Nat.zero_le _
    | succ j =>
      have hlt := List.idxOf_lt_length_iff.mpr hq
      have hj : j < (dAt ds z).length := by omega
      have e := ih j (by omega) z (dAt ds z)[j] (List.getElem_mem hj) (by
        have z1 : (dAt ds z).idxOf (dAt ds z)[j] < (dAt ds z).length := List.idxOf_lt_length_iff.mpr (List.getElem_mem hj)
        exact nd_at (r.nd _ (dAt_mem hq)) z1 hj (List.getElem_idxOf z1))
      omega
  have next : ∀ (z : Nat), p ∈ dAt ds z → (dAt ds z).idxOf p = n z → (dAt ds z)[n z]? = some p := fun z hz e => by
    have hlt := List.idxOf_lt_length_iff.mpr hz
    rw [← e, List.getElem?_eq_getElem hlt]
    exact congrArg some (List.getElem_idxOf hlt)
  obtain ⟨w, hw⟩ : ∃ w, ws[p.toNat]? = some w := ⟨_, List.getElem?_eq_getElem (by omega)⟩
  have ep : ((p.toNat : Nat) : Int) = p := by omega
  have way : ∀ z : Int, Reach (growL W ds p) w z → p ∈ dAt ds z.toNat → (dAt ds z.toNat).idxOf p ≤ k → (dAt ds z.toNat).idxOf p < n z.toNat := by
    intro z hz
    induction hz with
    | refl =>
      intro hm hl
      rcases Nat.lt_or_ge ((dAt ds w.toNat).idxOf p) k with c | c
      · exact ih _ c _ _ hm rfl
      · have h1 := low _ _ hm hl
        rcases Nat.lt_or_ge ((dAt ds w.toNat).idxOf p) (n w.toNat) with c2 | c2
        · exact c2
        · refine absurd ⟨p, next _ hm (by omega), .inl ?_⟩ (st w.toNat)
          have := wn w (List.mem_of_getElem? hw)
          rw [hw]; congr 1; omega
    | @step z' z _ e ih2 =>
      intro hm hl
      obtain ⟨eW, eg⟩ := List.mem_filter.mp e
      have eg : Grow ds z'.toNat z.toNat p := of_decide_eq_true eg
      have le := grow_pos r eg
      have h0 := ih2 eg.1 (by omega)
      rcases Nat.lt_or_ge ((dAt ds z.toNat).idxOf p) k with c | c
      · exact ih _ c _ _ hm rfl
      · have h1 := low _ _ hm hl
        rcases Nat.lt_or_ge ((dAt ds z.toNat).idxOf p) (n z.toNat) with c2 | c2
        · exact c2
        · refine absurd ⟨p, next _ hm (by omega), .inr ⟨z'.toNat, ?_, eg, ?_⟩⟩ (st z.toNat)
          · have := wW _ eW
            have e1 : ((z'.toNat : Nat) : Int) = z' := by simp only at this; omega
            have e2 : ((z.toNat : Nat) : Int) = z := by simp only at this; omega
            rw [e1, e2]; exact eW
          · exact (mem_take_idx (r.nd _ (dAt_mem eg.1)) eg.1).mpr h0
  have ex : ((x : Int)).toNat = x := Int.toNat_natCast x
  have fin := way x (by have := full p.toNat w x hw (by rw [ep]; exact hp); rw [ep] at this; exact this)
  rw [ex] at fin
  have := fin hp (by omega)
  omega
/-- all that is written so far came along wires that grow -/
def Came (W : List (Int × Int)) (ws : List Int) (ds : List (List Int)) (n : Nat → Nat) : Prop := ∀ (x : Nat) (p : Int) (w : Int), p ∈ (dAt ds x).take (n x) → ws[p.toNat]? = some w → Reach (growL W ds p) w x
theorem came_step (c : Came W ws ds n) {x : Nat} {p : Int} (hp : (dAt ds x)[n x]? = some p) (h : ws[p.toNat]? = some (x : Int) ∨ ∃ y : Nat, ((y : Int), (x : Int)) ∈ W ∧ Grow ds y x p ∧ p ∈ (dAt ds y).take (n y)) :
    Came W ws ds (fun z => if z = x then n x + 1 else n z) := by
  intro z q w hq hw
  have hq : q ∈ (dAt ds z).take (if z = x then n x + 1 else n z) := hq
  by_cases e : z = x
  · subst e
    rw [if_pos rfl, List.take_add_one, hp] at hq
    rcases List.mem_append.mp hq with hq | hq
    · exact c z q w hq hw
    · have eq : q = p := by simpa using hq
      subst eq
      rcases h with h | ⟨y, h1, h2, h3⟩
      · rw [hw] at h; cases h; exact .refl _
      · exact .step (c y q w h3 hw) (List.mem_filter.mpr ⟨h1, decide_eq_true (by simpa using h2)⟩)
  · rw [if_neg e] at hq
    exact c z q w hq hw
theorem ff (r : Rec ws ds) (wn : ∀ w ∈ ws, 0 ≤ w) (wW : ∀ u ∈ W, 0 ≤ u.1 ∧ 0 ≤ u.2) (came : Came W ws ds n) (st : ∀ x, ¬ Can W ws ds n x) (hn : ∀ x, n x ≤ (dAt ds x).length) : (∀ x, n x = (dAt ds x).length) ↔ Full W ws ds := by
  constructor
  · intro h p w x hw hp
    have := came x p w (by rw [h x, List.take_length]; exact hp) (by simpa using hw)
    exact this
  · intro full x
    have h1 := hn x
    rcases Nat.lt_or_ge (n x) (dAt ds x).length with c | c
    · have := ff_stuck r wn wW full st (n x) x (dAt ds x)[n x] (List.getElem_mem c) (by
        have z1 : (dAt ds x).idxOf (dAt ds x)[n x] < (dAt ds x).length := List.idxOf_lt_length_iff.mpr (List.getElem_mem c)
        exact nd_at (r.nd _ (dAt_mem (List.getElem_mem c))) z1 c (List.getElem_idxOf z1))
      omega
    · omega
end
/-! ### the letter that comes -/
def come (own : List Int) (p : Int) : List Int → Nat
  | [] => 0
  | l :: ls => if l = p then 1 else if l ∈ own then (if come own p ls = 0 then 0 else come own p ls + 1) else 0
theorem come_pos {own : List Int} {p : Int} : ∀ {ls : List Int}, come own p ls ≠ 0 → ∃ i, come own p ls = i + 1 ∧ ls[i]? = some p ∧ ∀ j, j < i → ∀ l, ls[j]? = some l → l ∈ own
  | [], h => absurd rfl h
  | l :: ls, h => by
    unfold come at h ⊢
    by_cases c : l = p
    · rw [if_pos c]
      exact ⟨0, rfl, by rw [c]; rfl, fun j hj => absurd hj (Nat.not_lt_zero _)⟩
    · rw [if_neg c] at h ⊢
      by_cases c2 : l ∈ own
      · rw [if_pos c2] at h ⊢
        by_cases c3 : come own p ls = 0
        · rw [if_pos c3] at h; exact absurd rfl h
        · rw [if_neg c3]
          obtain ⟨i, e, h1, h2⟩ := come_pos c3
          refine ⟨i + 1, by rw [e], h1, fun j hj l' hl' => ?_⟩
          cases j with
          | zero =>
            have e : l = l' := by simpa using hl'
            rw [← e]; exact c2
          | succ j => exact h2 j (by omega) l' (by simpa using hl')
      · rw [if_neg c2] at h; exact absurd rfl h
theorem come_of {own : List Int} {p : Int} : ∀ {ls : List Int} {i : Nat}, ls[i]? = some p → (∀ j, j < i → ∀ l, ls[j]? = some l → l ∈ own) → come own p ls ≠ 0
  | [], i, h, _ => by simp at h
  | l :: ls, i, h, k => by
    unfold come
    by_cases c : l = p
    · rw [if_pos c]; exact Nat.one_ne_zero
    · rw [if_neg c]
      cases i with
      | zero => exact absurd (by simpa using h) c
      | succ i =>
        rw [if_pos (k 0 (by omega) l rfl)]
        have := come_of (ls := ls) (i := i) (by simpa using h) fun j hj l' hl' => k (j + 1) (by omega) l' (by simpa using hl')
        rw [if_neg this]
        exact Nat.succ_ne_zero _
/-- the letters on a wire: what its begin has written, but the first c -/
theorem come_grow {ws : List Int} {ds : List (List Int)} (r : Rec ws ds) {y x : Nat} {n : Nat → Nat} {c : Nat} {p : Int} (hp : (dAt ds x)[n x]? = some p) (hc : ∀ q ∈ ((dAt ds y).take (n y)).take c, q ∈ (dAt ds x).take (n x)) :
    come ((dAt ds x).take (n x)) p (((dAt ds y).take (n y)).drop c) ≠ 0 ↔ (Grow ds y x p ∧ p ∈ (dAt ds y).take (n y)) := by
  have hx : p ∈ dAt ds x := List.mem_of_getElem? hp
  have ndx := r.nd _ (dAt_mem hx)
  have hlt := (List.getElem?_eq_some_iff.mp hp).1
  have ix : (dAt ds x).idxOf p = n x := by
    have z1 : (dAt ds x).idxOf p < (dAt ds x).length := List.idxOf_lt_length_iff.mpr hx
    have e : (dAt ds x)[n x] = p := by rw [List.getElem?_eq_getElem hlt] at hp; exact Option.some.inj hp
    exact nd_at ndx z1 hlt ((List.getElem_idxOf z1).trans e.symm)
  have nox : p ∉ (dAt ds x).take (n x) := fun h => by
    have := (mem_take_idx ndx hx).mp h
    omega
  constructor
  · intro h
    obtain ⟨i, _, hi, hj⟩ := come_pos h
    rw [List.getElem?_drop] at hi
    have hpy : p ∈ (dAt ds y).take (n y) := List.mem_of_getElem? hi
    have hy : p ∈ dAt ds y := List.mem_of_mem_take hpy
    have ndy := r.nd _ (dAt_mem hy)
    have hil := (List.getElem?_eq_some_iff.mp hi).1
    have iy : (dAt ds y).idxOf p = c + i := by
      have z1 : (dAt ds y).idxOf p < (dAt ds y).length := List.idxOf_lt_length_iff.mpr hy
      rw [List.length_take] at hil
      have e : (dAt ds y)[c + i]'(by omega) = p := by
        have := (List.getElem?_eq_some_iff.mp hi).2
        rw [List.getElem_take] at this
        exact this
      exact nd_at ndy z1 (by omega) ((List.getElem_idxOf z1).trans e.symm)
    refine ⟨⟨hy, hx, fun q hq => ?_⟩, hpy⟩
    have ax : aheadOf (dAt ds x) p = (dAt ds x).take (n x) := by unfold aheadOf; rw [ix]
    have ay : aheadOf (dAt ds y) p = (dAt ds y).take (c + i) := by unfold aheadOf; rw [iy]
    rw [ax]
    rw [ay] at hq
    obtain ⟨j, hj1, ej⟩ := List.getElem_of_mem hq
    rw [List.length_take] at hj1
    rw [List.getElem_take] at ej
    rw [List.length_take] at hil
    by_cases cj : j < c
    · refine hc q ?_
      rw [← ej, List.take_take, List.mem_take_iff_getElem]
      exact ⟨j, by omega, rfl⟩
    · refine hj (j - c) (by omega) q ?_
      rw [List.getElem?_drop, List.getElem?_take]
      have e2 : c + (j - c) = j := by omega
      rw [e2, if_pos (by omega), List.getElem?_eq_getElem (by omega), ej]
  · rintro ⟨g, hpy⟩
    have hy := g.1
    have ndy := r.nd _ (dAt_mem hy)
    have iy := (mem_take_idx ndy hy).mp hpy
    have z1 : (dAt ds y).idxOf p < (dAt ds y).length := List.idxOf_lt_length_iff.mpr hy
    have ge : c ≤ (dAt ds y).idxOf p := by
      rcases Nat.lt_or_ge ((dAt ds y).idxOf p) c with z | z
      · refine absurd (hc p ?_) nox
        rw [List.take_take]
        exact (mem_take_idx ndy hy).mpr (by omega)
      · exact z
    refine come_of (i := (dAt ds y).idxOf p - c) ?_ fun j hj l hl => ?_
    · rw [List.getElem?_drop, List.getElem?_take]
      have e2 : c + ((dAt ds y).idxOf p - c) = (dAt ds y).idxOf p := by omega
      rw [e2, if_pos iy, List.getElem?_eq_getElem z1]
      exact congrArg some (List.getElem_idxOf z1)
    · rw [List.getElem?_drop, List.getElem?_take, if_pos (by omega)] at hl
      have q := g.2.2 l (by
        rw [List.mem_take_iff_getElem]
        have hl2 := List.getElem?_eq_some_iff.mp hl
        exact ⟨c + j, by have := hl2.1; omega, hl2.2⟩)
      have ax : aheadOf (dAt ds x) p = (dAt ds x).take (n x) := by unfold aheadOf; rw [ix]
      rw [ax] at q
      exact q
end Mine
/-! ## PM -/
namespace Mine
open GCb
/-! ### first of some -/
section
variable {α β : Type} {f : α → Option β} {xs : List α} {i : Nat} {x : α} {r : β}
theorem fs_miss (h : (xs.take i).findSome? f = none) (hx : xs[i]? = some x) (e : f x = none) : (xs.take (i + 1)).findSome? f = none := by
  rw [List.take_add_one, hx, List.findSome?_append, h]
  simp [e]
theorem fs_hit (h : (xs.take i).findSome? f = none) (hx : xs[i]? = some x) (e : f x = some r) : xs.findSome? f = some r := by
  have hi := (List.getElem?_eq_some_iff.mp hx).1
  have z : xs = xs.take i ++ x :: xs.drop (i + 1) := by
    have := (List.getElem?_eq_some_iff.mp hx).2
    rw [← this, List.getElem_cons_drop, List.take_append_drop]
  rw [z, List.findSome?_append, h]
  simp [e]
theorem fs_end (h : (xs.take xs.length).findSome? f = none) : xs.findSome? f = none := by rwa [List.take_length] at h
theorem fs_filter (P : α → Bool) (f : α → Option β) : ∀ l : List α, (l.filter P).findSome? f = l.findSome? fun x => if P x then f x else none
  | [] => rfl
  | x :: l => by
    by_cases c : P x = true
    · rw [List.filter_cons_of_pos c]
      simp only [List.findSome?_cons, c, if_true]
      rw [fs_filter P f l]
    · rw [List.filter_cons_of_neg c, fs_filter P f l]
      simp [List.findSome?_cons, c]
theorem fs_congr {f g : α → Option β} : ∀ {l : List α}, (∀ x ∈ l, f x = g x) → l.findSome? f = l.findSome? g
  | [], _ => rfl
  | x :: l, h => by
    simp only [List.findSome?_cons]
    rw [h x (by simp), fs_congr fun y hy => h y (by simp [hy])]
end
/-! ### pictures -/
def bef (d : List Int) (p q : Int) : Bool := decide (d.idxOf p < d.idxOf q)
def saw (ws : List Int) (ds : List (List Int)) (p q : Nat) : Bool := bef (dAt ds (ws.getD p 0).toNat) q p && ds.any fun d => bef d p q
def seenF (ws : List Int) (ds : List (List Int)) : Option (Nat × Nat) := (List.range ws.length).findSome? fun p => (List.range ws.length).findSome? fun q => if saw ws ds p q then some (p, q) else none
def side (ds : List (List Int)) (u : Nat × Nat) : List Bool := ds.map fun d => bef d u.1 u.2
def four (a b : List Bool) : Bool := (a.zip b).contains (false, false) && (a.zip b).contains (false, true) && ((a.zip b).contains (true, false) && (a.zip b).contains (true, true))
abbrev pairsN (n : Nat) : List (Nat × Nat) := prs (List.range n)
def mixG {α : Type} (S : α → List Bool) (L : List α) : Option (α × α) := (prs L).findSome? fun u => if four (S u.1) (S u.2) then some u else none
def mixF (n : Nat) (ds : List (List Int)) : Option ((Nat × Nat) × (Nat × Nat)) := mixG (side ds) (pairsN n)
def turn3 (ds : List (List Int)) (p q r : Nat) : Bool := (ds.any fun d => bef d p q && bef d q r) && ((ds.any fun d => bef d q r && bef d r p) && ds.any fun d => bef d r p && bef d p q)
def turnF (n : Nat) (ds : List (List Int)) : Option (Nat × Nat × Nat) := (pairsN n).findSome? fun u => (List.range' (u.1 + 1) (n - (u.1 + 1))).findSome? fun r => if turn3 ds u.1 u.2 r then some (u.1, u.2, r) else none
/-! ### the first of each side are enough -/
theorem mem_zip_swap {a b : List Bool} {x y : Bool} (h : (x, y) ∈ a.zip b) : (y, x) ∈ b.zip a := by
  induction a generalizing b with
  | nil => simp at h
  | cons u a ih =>
    cases b with
    | nil => simp at h
    | cons v b =>
      simp only [List.zip_cons_cons, List.mem_cons, Prod.mk.injEq] at h ⊢
      rcases h with ⟨rfl, rfl⟩ | h
      · exact .inl ⟨rfl, rfl⟩
      · exact .inr (ih h)
theorem four_comm {a b : List Bool} (h : four a b = true) : four b a = true := by
  unfold four at h ⊢
  simp only [Bool.and_eq_true, List.contains_iff_mem] at h ⊢
  exact ⟨⟨mem_zip_swap h.1.1, mem_zip_swap h.2.1⟩, mem_zip_swap h.1.2, mem_zip_swap h.2.2⟩
theorem zip_self {a : List Bool} {x y : Bool} (h : (x, y) ∈ a.zip a) : x = y := by
  induction a with
  | nil => simp at h
  | cons u a ih =>
    simp only [List.zip_cons_cons, List.mem_cons, Prod.mk.injEq] at h
    rcases h with ⟨rfl, rfl⟩ | h
    · rfl
    · exact ih h
theorem four_self (a : List Bool) : four a a = false := by
  apply Bool.eq_false_iff.mpr
  intro h
  unfold four at h
  simp only [Bool.and_eq_true, List.contains_iff_mem] at h
  have := zip_self h.1.2
  cases this
section
variable {α : Type} (S : α → List Bool)
/-- one more, where its side is new -/
def nubS (acc : List α) (x : α) : List α := if acc.any (fun y => decide (S y = S x)) then acc else acc ++ [x]
def nub (l : List α) : List α := l.foldl (nubS S) []
theorem nub_snoc (l : List α) (x : α) : nub S (l ++ [x]) = nubS S (nub S l) x := by
  unfold nub
  rw [List.foldl_append]
  rfl
theorem nub_from : ∀ (l acc : List α), l.foldl (nubS S) acc = acc ++ nub S (l.filter fun x => !acc.any fun y => decide (S y = S x))
  | [], acc => by simp [nub]
  | x :: l, acc => by
    rw [List.foldl_cons, nub_from l]
    unfold nubS
    by_cases c : (acc.any fun y => decide (S y = S x)) = true
    · rw [if_pos c, List.filter_cons_of_neg (by simp [c])]
    · rw [if_neg c, List.filter_cons_of_pos (by simp at c ⊢; exact c), List.append_assoc]
      congr 1
      show _ = nub S (x :: _)
      unfold nub
      rw [List.foldl_cons]
      have e : nubS S [] x = [x] := by unfold nubS; simp
      rw [e, nub_from (l.filter fun x => !acc.any fun y => decide (S y = S x)) [x]]
      congr 1
      rw [List.filter_filter]
      congr 1
      apply List.filter_congr
      intro z _
      rw [List.any_append, Bool.not_or, Bool.and_comm]
termination_by l => l.length
decreasing_by
  · simp
  · have := List.length_filter_le (fun x => !acc.any fun y => decide (S y = S x)) l
    simp
    omega
theorem nub_cons (x : α) (l : List α) : nub S (x :: l) = x :: nub S (l.filter fun z => !decide (S x = S z)) := by
  have e : nubS S [] x = [x] := by unfold nubS; simp
  show (x :: l).foldl (nubS S) [] = _
  rw [List.foldl_cons, e, nub_from]
  simp
theorem nub_sub : ∀ (n : Nat) (l : List α), l.length ≤ n → ∀ z ∈ nub S l, z ∈ l
  | 0, l, h, z, hz => by
    have : l = [] := List.length_eq_zero_iff.mp (by omega)
    subst this
    simp [nub] at hz
  | n + 1, [], _, z, hz => by simp [nub] at hz
  | n + 1, x :: l, h, z, hz => by
    rw [nub_cons] at hz
    rcases List.mem_cons.mp hz with rfl | hz
    · simp
    · have hl := List.length_filter_le (fun z => !decide (S x = S z)) l
      have := nub_sub n _ (by simp at h; omega) z hz
      exact List.mem_cons_of_mem _ ((List.mem_filter.mp this).1)
theorem find_nub {β : Type} (f : α → Option β) (P : List Bool → Bool) (hf : ∀ x, (f x).isSome = P (S x)) : ∀ (n : Nat) (l : List α), l.length ≤ n → (nub S l).findSome? f = l.findSome? f
  | 0, l, h => by
    have : l = [] := List.length_eq_zero_iff.mp (by omega)
    subst this
    rfl
  | n + 1, [], _ => rfl
  | n + 1, x :: l, h => by
    rw [nub_cons, List.findSome?_cons, List.findSome?_cons]
    cases c : f x with
    | some r => rfl
    | none =>
      have hl := List.length_filter_le (fun z => !decide (S x = S z)) l
      show (nub S (l.filter fun z => !decide (S x = S z))).findSome? f = l.findSome? f
      rw [find_nub f P hf n _ (by simp at h; omega), fs_filter]
      apply fs_congr
      intro z _
      by_cases c2 : S x = S z
      · rw [if_neg (by simp [c2])]
        have h1 := hf x
        have h2 := hf z
        rw [c] at h1
        rw [← c2, ← h1] at h2
        exact (Option.isSome_eq_false_iff.mp h2 |> Option.isNone_iff_eq_none.mp).symm
      · rw [if_pos (by simp [c2])]
theorem prs_filter {R : α × α → Option (α × α)} (g : α → Bool) : ∀ (l : List α), (∀ a ∈ l, g a = false → ∀ b ∈ l, R (a, b) = none ∧ R (b, a) = none) → (prs (l.filter g)).findSome? R = (prs l).findSome? R
  | [], _ => rfl
  | x :: l, h => by
    have ih := prs_filter (R := R) g l fun a ha e b hb => h a (by simp [ha]) e b (by simp [hb])
    rw [show prs (x :: l) = l.map (fun b => (x, b)) ++ prs l from rfl, List.findSome?_append]
    by_cases c : g x = true
    · rw [List.filter_cons_of_pos c, show prs (x :: l.filter g) = (l.filter g).map (fun b => (x, b)) ++ prs (l.filter g) from rfl, List.findSome?_append, ih]
      congr 1
      rw [List.findSome?_map, List.findSome?_map, fs_filter]
      apply fs_congr
      intro z hz
      by_cases c2 : g z = true
      · rw [if_pos c2]
      · rw [if_neg c2]
        exact ((h z (by simp [hz]) (by simpa using c2) x (by simp)).2).symm
    · rw [List.filter_cons_of_neg c, ih]
      have e : (l.map fun b => (x, b)).findSome? R = none := by
        rw [List.findSome?_map, List.findSome?_eq_none_iff]
        intro z hz
        exact (h x (by simp) (by simpa using c) z (by simp [hz])).1
      rw [e]
      rfl
theorem mix_nub : ∀ (n : Nat) (l : List α), l.length ≤ n → mixG S (nub S l) = mixG S l
  | 0, l, h => by
    have : l = [] := List.length_eq_zero_iff.mp (by omega)
    subst this
    rfl
  | n + 1, [], _ => rfl
  | n + 1, x :: l, h => by
    have hl := List.length_filter_le (fun z => !decide (S x = S z)) l
    have ih := mix_nub n (l.filter fun z => !decide (S x = S z)) (by simp at h; omega)
    unfold mixG at ih ⊢
    rw [nub_cons]
    rw [show prs (x :: l) = l.map (fun b => (x, b)) ++ prs l from rfl, show prs (x :: nub S (l.filter fun z => !decide (S x = S z))) = (nub S (l.filter fun z => !decide (S x = S z))).map (fun b => (x, b)) ++ prs (nub S (l.filter fun z => !decide (S x = S z))) from rfl]
    rw [List.findSome?_append, List.findSome?_append, ih, List.findSome?_map, List.findSome?_map]
    have e1 : (nub S (l.filter fun z => !decide (S x = S z))).findSome? ((fun u => if four (S u.1) (S u.2) then some u else none) ∘ fun b => (x, b)) = l.findSome? ((fun u => if four (S u.1) (S u.2) then some u else none) ∘ fun b => (x, b)) := by
      rw [find_nub S _ (fun b => four (S x) b) (fun z => by simp only [Function.comp]; split <;> simp_all) n _ (by simp at h; omega), fs_filter]
      apply fs_congr
      intro z _
      by_cases c2 : S x = S z
      · rw [if_neg (by simp [c2])]
        simp only [Function.comp]
        rw [← c2, four_self]
        rfl
      · rw [if_pos (by simp [c2])]
    rw [e1]
    cases c : l.findSome? ((fun u => if four (S u.1) (S u.2) then some u else none) ∘ fun b => (x, b)) with
    | some r => rfl
    | none =>
      show (prs (l.filter fun z => !decide (S x = S z))).findSome? _ = (prs l).findSome? _
      rw [List.findSome?_eq_none_iff] at c
      refine prs_filter _ l fun a0 ha e b hb => ?_
      have e : S x = S a0 := by simpa using e
      have nf : four (S x) (S b) = false := by
        have := c b hb
        simp only [Function.comp] at this
        by_cases z : four (S x) (S b) = true
        · rw [if_pos z] at this; cases this
        · simpa using z
      constructor
      · dsimp only
        rw [← e, nf]
        rfl
      · dsimp only
        rw [if_neg]
        intro z
        rw [← e] at z
        rw [four_comm z] at nf
        cases nf
end
end Mine
/-! ## K8 -/
section
open PySem L2 GA
local macro_rules
  | `(tactic| walk_at "w") => `(tactic| first
    | ((with_reducible refine' GA.w_var ?e ?_); (case e => exact rfl))
    | (with_reducible refine' GA.w_c ?_)
    | (with_reducible refine' GA.w_cons ?_)
    | (with_reducible refine' GA.w_nil ?_)
    | (with_reducible refine' GA.w_op ?_)
    | (with_reducible refine' GA.r_I0 ?_)
    | (with_reducible refine' GA.w_bl ?_)
    | (with_reducible refine' GA.w_seq ?_)
    | (with_reducible refine' GA.w_set ?_)
    | (with_reducible refine' GA.w_ret ?_)
    | (with_reducible refine' GA.w_ifS ?_)
    | (with_reducible refine' GA.w_test ?_)
    | (with_reducible refine' GA.w_tB ?_)
    | (with_reducible refine' GA.w_not ?_)
    | (with_reducible refine' GA.w_and ?_)
    | (with_reducible refine' GA.w_or ?_)
    | (with_reducible refine' GA.w_andV ?_)
    | (with_reducible refine' GA.w_orV ?_)
    | (with_reducible refine' GA.w_notV ?_)
    | (with_reducible refine' GA.w_blc ?_)
    | (with_reducible refine' GA.w_if ?_)
    | (with_reducible refine' GA.w_CB ?_)
    | (with_reducible refine' GA.w_call ?_)
    | (with_reducible refine' GA.w_tupN ?_)
    | (with_reducible refine' GA.w_lstN ?_)
    | (with_reducible refine' GA.w_chain ?_)
    | (with_reducible refine' GA.w_drop ?_)
    | (with_reducible refine' GA.w_next ?_)
    | (with_reducible refine' GA.w_break ?_)
    | (with_reducible refine' GA.w_un ?_)
    | (with_reducible refine' GA.r_U ?_)
    | (with_reducible refine' GA.r_eqI ?_)
    | (with_reducible refine' GA.r_neI ?_)
    | (with_reducible refine' GA.r_eqB ?_)
    | (with_reducible refine' GA.r_neB ?_)
    | (with_reducible refine' GA.w_fld ?_)
    | (with_reducible refine' GA.w_sfld ?_)
    | (with_reducible refine' GA.w_sl ?_)
    | (with_reducible refine' GA.w_part ?_)
    | (with_reducible refine' GA.w_noPart ?_)
    | (with_reducible refine' GA.w_inti ?_)
    | (with_reducible refine' GA.w_retN ?_)
    | (with_reducible refine' GA.w_gsub ?_)
    | (with_reducible refine' GA.w_gname ?_)
    | (with_reducible refine' L2.iteT ?_)
    | (with_reducible refine' L2.iteF ?_)
    | (with_reducible refine' GA.w_nt ?_)
    | (with_reducible refine' GA.w_nf ?_)
    | (with_reducible refine' GA.w_isN ?_)
    | (with_reducible refine' GA.w_notN ?_)
    | (with_reducible refine' GA.w_yes ?_)
    | (with_reducible refine' GA.w_lc ?_)
    | (with_reducible refine' GA.w_lc2 ?_)
    | (with_reducible refine' GA.w_iseq ?_)
    | (with_reducible refine' GA.w_make ?_)
    | (with_reducible refine' GA.w_for ?_)
    | (with_reducible refine' GA.w_rng1 ?_)
    | (with_reducible refine' GA.w_rng2 ?_)
    | (with_reducible refine' GA.w_itup ?_)
    | (with_reducible refine' GA.w_ilist ?_)
    | (with_reducible refine' GA.w_ienum ?_)
    | (with_reducible refine' GA.w_BM ?_)
    | (with_reducible refine' GA.w_BM0 ?_)
    | (with_reducible refine' GA.w_izip ?_)
    | (with_reducible refine' GA.w_asg ?_))
  | `(tactic| walk_at "wm") => `(tactic| first
    | ((with_reducible refine' GA.w_var ?e ?_); (case e => exact rfl))
    | (with_reducible refine' GA.w_c ?_)
    | (with_reducible refine' GA.w_cons ?_)
    | (with_reducible refine' GA.w_nil ?_)
    | (with_reducible refine' GA.w_op ?_)
    | (with_reducible refine' GA.r_I0 ?_)
    | (with_reducible refine' GA.w_bl ?_)
    | (with_reducible refine' GA.w_set ?_)
    | (with_reducible refine' GA.w_ret ?_)
    | (with_reducible refine' GA.w_ifS ?_)
    | (with_reducible refine' GA.w_test ?_)
    | (with_reducible refine' GA.w_tB ?_)
    | (with_reducible refine' GA.w_not ?_)
    | (with_reducible refine' GA.w_and ?_)
    | (with_reducible refine' GA.w_or ?_)
    | (with_reducible refine' GA.w_andV ?_)
    | (with_reducible refine' GA.w_orV ?_)
    | (with_reducible refine' GA.w_notV ?_)
    | (with_reducible refine' GA.w_blc ?_)
    | (with_reducible refine' GA.w_if ?_)
    | (with_reducible refine' GA.w_CB ?_)
    | (with_reducible refine' GA.w_call ?_)
    | (with_reducible refine' GA.w_tupN ?_)
    | (with_reducible refine' GA.w_lstN ?_)
    | (with_reducible refine' GA.w_chain ?_)
    | (with_reducible refine' GA.w_drop ?_)
    | (with_reducible refine' GA.w_next ?_)
    | (with_reducible refine' GA.w_break ?_)
    | (with_reducible refine' GA.w_un ?_)
    | (with_reducible refine' GA.r_U ?_)
    | (with_reducible refine' GA.r_eqI ?_)
    | (with_reducible refine' GA.r_neI ?_)
    | (with_reducible refine' GA.r_eqB ?_)
    | (with_reducible refine' GA.r_neB ?_)
    | (with_reducible refine' GA.w_fld ?_)
    | (with_reducible refine' GA.w_sfld ?_)
    | (with_reducible refine' GA.w_sl ?_)
    | (with_reducible refine' GA.w_part ?_)
    | (with_reducible refine' GA.w_noPart ?_)
    | (with_reducible refine' GA.w_inti ?_)
    | (with_reducible refine' GA.w_retN ?_)
    | (with_reducible refine' GA.w_gsub ?_)
    | (with_reducible refine' GA.w_gname ?_)
    | (with_reducible refine' L2.iteT ?_)
    | (with_reducible refine' L2.iteF ?_)
    | (with_reducible refine' GA.w_nt ?_)
    | (with_reducible refine' GA.w_nf ?_)
    | (with_reducible refine' GA.w_isN ?_)
    | (with_reducible refine' GA.w_notN ?_)
    | (with_reducible refine' GA.w_yes ?_)
    | (with_reducible refine' GA.w_lc ?_)
    | (with_reducible refine' GA.w_lc2 ?_)
    | (with_reducible refine' GA.w_iseq ?_)
    | (with_reducible refine' GA.w_make ?_)
    | (with_reducible refine' GA.w_for ?_)
    | (with_reducible refine' GA.w_rng1 ?_)
    | (with_reducible refine' GA.w_rng2 ?_)
    | (with_reducible refine' GA.w_itup ?_)
    | (with_reducible refine' GA.w_ilist ?_)
    | (with_reducible refine' GA.w_ienum ?_)
    | (with_reducible refine' GA.w_BM ?_)
    | (with_reducible refine' GA.w_BM0 ?_)
    | (with_reducible refine' GA.w_izip ?_)
    | (with_reducible refine' GA.w_asg ?_))
  | `(tactic| walk_at "ws") => `(tactic| repeat (walk_at "w"))
  | `(tactic| walk_at "wn") => `(tactic| repeat (walk_at "wm"))


namespace Mine
section
variable {P : Program} {w : World} {K : PySem.W.Frag} {mg : Str → Option Value} {base : Heap} {a : Ads}

theorem w_dget {td ty : TE} {σ : L2.St} {H : Hp} {Q : VK} (q : td σ H fun x H1 => ty σ H1 fun y H2 => ∃ a v, x = .ref a ∧ DGet H2 a y (some v) ∧ Q v H2) : tDGet td ty σ H Q := q
/-- t[lo:hi] of a tuple -/
def rSlAN (K : PySem.W.Frag) : V → Option Int → Option Int → Hp → VK → Prop := fun x lo hi H Q => ∃ a xs, x = .ref a ∧ SqT K H a xs ∧ ∀ p H2, (∀ o, G o H H2) → SqT K H2 p (cutV xs lo hi) → Q (.ref p) H2
theorem sl_tupAN {X : Cx} : SlR X (rSlAN X.K) := SlR.weak sl_tupA fun x lo hi H Q ⟨a, xs, e, h, q⟩ => ⟨a, xs, e, h, fun w => q a H (fun _ => G.refl) (by
    have c : cutV xs lo hi = xs := by
      unfold cutV
      rw [w.1, w.2, List.drop_zero, Nat.sub_zero, List.take_length]
    rw [c]; exact h), fun _ p hp => q p _ (fun _ => G.alloc hp) (SqT.of upd_same)⟩
theorem cut_to (xs : List V) {k : Nat} (h : k ≤ xs.length) : cutV xs none (some (k : Int)) = xs.take k := by
  unfold cutV
  rw [HT.sIx_none, HT.sIx_nat, List.drop_zero, Nat.sub_zero, Nat.min_eq_left h]
theorem idx_lt {os : List Int} {z : Int} (h : z ∈ os) : os.idxOf z < os.length := List.idxOf_lt_length_iff.mpr h
theorem idx_at {os : List Int} {z : Int} (h : z ∈ os) : os[os.idxOf z]? = some z := by
  rw [List.getElem?_eq_getElem (idx_lt h)]
  exact congrArg some (List.getElem_idxOf (idx_lt h))
theorem idx_of {os : List Int} (nd : os.Nodup) {j : Nat} {z : Int} (h : os[j]? = some z) : os.idxOf z = j := nd_ix nd (idx_at (List.mem_of_getElem? h)) h
theorem kv_any {kvs : List (Key × V)} {ks : List Int} (h : kvs.map (·.1) = ks.map Sum.inl) (z : Int) : (kvs.any fun kv => decide (kv.1 = (Sum.inl z : Key))) = decide (z ∈ ks) := by
  have e : (kvs.any fun kv => decide (kv.1 = (Sum.inl z : Key))) = (kvs.map (·.1)).any fun k => decide (k = (Sum.inl z : Key)) := by rw [List.any_map]; rfl
  rw [e, h, List.any_map, Bool.eq_iff_iff, List.any_eq_true, decide_eq_true_iff]
  constructor
  · rintro ⟨k, hk, q⟩
    have q : (Sum.inl k : Key) = Sum.inl z := of_decide_eq_true q
    exact Sum.inl.inj q ▸ hk
  · intro hz
    exact ⟨z, hz, decide_eq_true rfl⟩
theorem kv_put {kvs : List (Key × V)} {ks : List Int} (h : kvs.map (·.1) = ks.map Sum.inl) {z : Int} (hz : z ∉ ks) (v : V) : putK kvs (Sum.inl z) v = kvs ++ [((Sum.inl z : Key), v)] := by
  unfold putK
  rw [kv_any h, if_neg (by simpa using hz)]
/-! ### where each put stands -/
section
variable {J : It} {n : Nat} {Gd : Hp → Prop} {Y : Nat → Hp → V → Hp → Prop} {g : TG} {tt : TT} {tk tv : TE} {vs : List Nat} {σ : L2.St} {H1 : Hp} {D : Addr} {Qd : Hp → Prop}
theorem dc_it (w : Walk J n Gd Y) (Pv : Nat → Hp → Prop) (h0 : Pv 0 (upd H1 D (.dK []))) (hG : ∀ i H, i ≤ n → Pv i H → Gd H)
    (hs : ∀ i x H H', i < n → Pv i H → Y i H x H' → g x (wipe σ vs) H' fun σ2 H2 => wipe σ2 vs = wipe σ vs ∧ tt σ2 H2 fun b H3 =>
      if b = true then tk σ2 H3 fun y H4 => tv σ2 H4 fun z H5 => ∃ kvs k, y = kV k ∧ H5 D = some (.dK kvs) ∧ kvs.length < sizeLine ∧ Pv (i + 1) (upd H5 D (.dK (putK kvs k z))) else Pv (i + 1) H3) (hd : ∀ H, Pv n H → Qd H) :
    ∃ W : Nat → Nat → Hp → Prop, (∃ m, W 0 m (upd H1 D (.dK []))) ∧ ∀ i m H, W i m H →
      (J.stop i H ∧ Qd H) ∨ (J.go i H ∧ ∃ Nx : Hp → Prop, (∀ H', Nx H' → ∃ m', m' < m ∧ W (i + 1) m' H') ∧ ∀ x H', J.yld i H x H' → g x (wipe σ vs) H' fun σ2 H2 => wipe σ2 vs = wipe σ vs ∧ tt σ2 H2 fun b H3 =>
        if b = true then tk σ2 H3 fun y H4 => tv σ2 H4 fun z H5 => ∃ kvs k, y = kV k ∧ H5 D = some (.dK kvs) ∧ kvs.length < sizeLine ∧ Nx (upd H5 D (.dK (putK kvs k z))) else Nx H3) := by
  refine ⟨fun i m H => m = n - i ∧ i ≤ n ∧ Pv i H, ⟨n, by simp, Nat.zero_le _, h0⟩, ?_⟩
  rintro i m H ⟨rfl, hi, p⟩
  have q := hG i H hi p
  by_cases c : i < n
  · exact .inr ⟨w.goes i H c q, Pv (i + 1), fun H' p' => ⟨n - (i + 1), by omega, rfl, c, p'⟩, fun x H' y => hs i x H H' c p (w.yields i H x H' c q y)⟩
  · obtain rfl : i = n := by omega
    exact .inl ⟨w.stops H q, hd H p⟩
theorem w_dc {wi : TI} {Q : VK} (q : wi σ H1 fun J H1 => ∀ D, H1 D = none → ∃ W : Nat → Nat → Hp → Prop, (∃ m, W 0 m (upd H1 D (.dK []))) ∧ ∀ i m H, W i m H →
  (J.stop i H ∧ Q (.ref D) H) ∨ (J.go i H ∧ ∃ Nx : Hp → Prop, (∀ H', Nx H' → ∃ m', m' < m ∧ W (i + 1) m' H') ∧ ∀ x H', J.yld i H x H' → g x (wipe σ vs) H' fun σ2 H2 => wipe σ2 vs = wipe σ vs ∧ tt σ2 H2 fun b H3 =>
    if b = true then tk σ2 H3 fun y H4 => tv σ2 H4 fun z H5 => ∃ kvs k, y = kV k ∧ H5 D = some (.dK kvs) ∧ kvs.length < sizeLine ∧ Nx (upd H5 D (.dK (putK kvs k z))) else Nx H3)) : tDc wi g tt tk tv vs σ H1 Q := q
end
/-- each put with its place -/
def kvPl : Nat → List Int → List (Key × V)
  | _, [] => []
  | i, z :: d => ((Sum.inl z : Key), V.int (i : Nat)) :: kvPl (i + 1) d
theorem kvPl_keys : ∀ (i : Nat) (d : List Int), (kvPl i d).map (·.1) = d.map Sum.inl
  | _, [] => rfl
  | i, z :: d => by show Sum.inl z :: (kvPl (i + 1) d).map (·.1) = _; rw [kvPl_keys (i + 1) d]; rfl
theorem kvPl_snoc : ∀ (i : Nat) (d : List Int) (z : Int), kvPl i (d ++ [z]) = kvPl i d ++ [((Sum.inl z : Key), V.int ((i + d.length : Nat)))]
  | i, [], z => rfl
  | i, y :: d, z => by
    show _ :: kvPl (i + 1) (d ++ [z]) = _
    rw [kvPl_snoc (i + 1) d z, List.length_cons]
    have e : i + 1 + d.length = i + (d.length + 1) := by omega
    rw [e]; rfl
theorem kvPl_val : ∀ (i : Nat) (d : List Int) (z : Int), z ∈ d → valV (kvPl i d) (Sum.inl z) = some (.int ((i + d.idxOf z : Nat)))
  | _, [], _, h => nomatch h
  | i, y :: d, z, h => by
    by_cases c : y = z
    · subst c
      rw [List.idxOf_cons_self]
      exact valV_pos rfl
    · refine (valV_neg fun e => c (Sum.inl.inj e)).trans ?_
      have hm : z ∈ d := (List.mem_cons.mp h).resolve_left fun e => c e.symm
      have ei : (y :: d).idxOf z = d.idxOf z + 1 := by
        have cb : (y == z) = false := by simpa using c
        rw [List.idxOf_cons, cb]; rfl
      rw [kvPl_val (i + 1) d z hm, ei]
      have e : i + 1 + d.idxOf z = i + (d.idxOf z + 1) := by omega
      rw [e]
theorem kvPl_some (d : List Int) (z : Int) : (valV (kvPl 0 d) (Sum.inl z)).isSome = decide (z ∈ d) := by rw [← valV_any, kv_any (kvPl_keys 0 d)]
def sp_places_in (K : PySem.W.Frag) : Sp := fun vs H Q _ => ∃ (p : Addr) (d : List Int), vs = [.ref p] ∧ SqT K H p (d.map V.int) ∧ d.Nodup ∧ d.length ≤ 1000 ∧ ∀ q H', H q = none → G none H H' → H' q = some (.dK (kvPl 0 d)) → Q (.ref q) H'
theorem ok_places_in (T : Txt K mg a) : FnOk P w K mg base CX0 1 a.f_places_in a.d_places_in P_places_in (sp_places_in K) := by
  refine T.F_places_in.ok sc_places_in (fun vs H Q E h => by obtain ⟨p, d, rfl, _⟩ := h; rfl) (fun cdv A outer s H vs Q E hr h => ?_)
  obtain ⟨p, d, rfl, hp, nd, hz, k⟩ := h
  refine ⟨_, (pss_one (ps_ret (pe_dc (own := [("at", 1), ("put", 2)]) (g := (gTup K 2 (gCons (gName 1) (gCons (gName 2) gNil)))) (tt := tYes) rfl sc_places_in.nd (pi_enumT (by rfl) T.n_enumerate (pa_cons (pv 0) pa_nil)) (blkOk_by (N := N_places_in) (sc := defScope s_places_in) (by decide +kernel)) (fun _ _ _ _ _ => (pg_tup rfl (pgs_cons (pg_name (i := 1) sc_places_in.nd rfl (by first | exact Or.inl rfl | exact Or.inr rfl)) (pgs_cons (pg_name (i := 2) sc_places_in.nd rfl (by first | exact Or.inl rfl | exact Or.inr rfl)) pgs_nil)))) (fun _ _ _ _ _ => pts_nil) (fun _ _ _ _ _ => (pv 2)) (fun _ _ _ _ _ => (pv 1))))), ?_⟩
  walk_at "ws"
  refine w_dc ?_
  walk_at "ws"
  refine i_enum hp ?_
  intro D hD
  refine dc_it (walk_enumT (xs := d.map V.int)) (fun i H' => G none H H' ∧ H' D = some (.dK (kvPl 0 (d.take i)))) ⟨(G.refl).mut hD (fun _ e => nomatch e), upd_same⟩ (fun i H' _ q => sqT_t q.1.tups hp) ?_ ?_
  · rintro i x H1 H2 hi ⟨g1, h1⟩ ⟨t, y, z, rfl, ht, rfl, ey, ez⟩
    cases Option.some.inj ey
    have g2 : G none H1 (upd H1 t (.tup [.int (i : Nat), z])) := G.alloc ht
    refine ⟨t, _, rfl, SqT.of upd_same, rfl, ?_⟩
    refine ⟨_, _, rfl, ?_⟩
    walk_at "ws"
    refine ⟨_, _, rfl, ?_⟩
    walk_at "ws"
    refine ⟨rfl, rfl, ?_⟩
    rw [List.length_map] at hi
    have ez : (d.map V.int)[i]? = some z := ez
    rw [List.getElem?_map] at ez
    obtain ⟨v, hv, rfl⟩ := Option.map_eq_some_iff.mp ez
    have h2 := g2.all _ _ h1
    generalize upd H1 t (.tup [.int (i : Nat), .int v]) = H2 at g2 h2 ⊢
    walk_at "ws"
    have tk : d.take (i + 1) = d.take i ++ [v] := by rw [List.take_add_one, hv]; rfl
    have no : v ∉ d.take i := fun m => by
      obtain ⟨j, hj, e⟩ := List.getElem_of_mem m
      rw [List.length_take] at hj
      rw [List.getElem_take] at e
      have e2 := (List.getElem?_eq_some_iff.mp hv)
      have := nd_at nd (by omega) e2.1 (e.trans e2.2.symm)
      omega
    have lk : (kvPl 0 (d.take i)).length = i := by
      have := congrArg List.length (kvPl_keys 0 (d.take i))
      rw [List.length_map, List.length_map, List.length_take] at this
      omega
    refine ⟨_, Sum.inl v, rfl, h2, Nat.lt_of_le_of_lt (by omega : (kvPl 0 (d.take i)).length ≤ 1000) (by decide), (g1.trans g2).mut hD (fun _ e => nomatch e), ?_⟩
    rw [upd_same, kv_put (kvPl_keys 0 (d.take i)) no, tk, kvPl_snoc]
    have e : 0 + (d.take i).length = i := by rw [List.length_take]; omega
    rw [e]
  · rintro H1 ⟨g1, h1⟩
    rw [List.length_map, List.take_length] at h1
    walk_at "ws"
    exact k D H1 hD g1 h1

/-- a record where each machine has all -/
structure IsWh (ws : List Int) (ds : List (List Int)) : Prop where
  rec_ : IsRec ws ds
  wh : ∀ d ∈ ds, d.length = ws.length
theorem IsWh.has {ws : List Int} {ds : List (List Int)} (h : IsWh ws ds) {d : List Int} (hd : d ∈ ds) {p : Nat} (hp : p < ws.length) : (p : Int) ∈ d := by
  apply Decidable.byContradiction
  intro no
  have := List.Nodup.length_le_of_subset (l₁ := (p : Int) :: d) (l₂ := (List.range ws.length).map fun (i : Nat) => (i : Int)) (List.nodup_cons.mpr ⟨no, h.rec_.nd d hd⟩) fun x hx => by
    rcases List.mem_cons.mp hx with rfl | hx
    · exact List.mem_map.mpr ⟨p, List.mem_range.mpr hp, rfl⟩
    · have := h.rec_.rng d hd x hx
      exact List.mem_map.mpr ⟨x.toNat, List.mem_range.mpr (by omega), by omega⟩
  simp [h.wh d hd] at this
  omega
theorem dAt_of {ds : List (List Int)} {x : Nat} {d : List Int} (h : ds[x]? = some d) : dAt ds x = d := by unfold dAt; rw [List.getD_eq_getElem?_getD, h]; rfl
/-- the dicts of places -/
def Dicts (H : Hp) (qs : List Addr) (ds : List (List Int)) : Prop := qs.length = ds.length ∧ ∀ (j : Nat) (q : Addr) (d : List Int), qs[j]? = some q → ds[j]? = some d → H q = some (.dK (kvPl 0 d))
theorem Dicts.n {H H' : Hp} {qs : List Addr} {ds : List (List Int)} (h : Dicts H qs ds) (g : G none H H') : Dicts H' qs ds := ⟨h.1, fun j q d e1 e2 => g.all q _ (h.2 j q d e1 e2)⟩
theorem Dicts.at_ {H : Hp} {qs : List Addr} {ds : List (List Int)} (h : Dicts H qs ds) {i : Nat} {y : V} (e : (qs.map V.ref)[i]? = some y) : ∃ q d, y = .ref q ∧ ds[i]? = some d ∧ d ∈ ds ∧ H q = some (.dK (kvPl 0 d)) := by
  rw [List.getElem?_map] at e
  obtain ⟨q, hq, rfl⟩ := Option.map_eq_some_iff.mp e
  have hi := (List.getElem?_eq_some_iff.mp hq).1
  have hd : ds[i]? = some (ds[i]'(h.1 ▸ hi)) := List.getElem?_eq_getElem _
  exact ⟨q, _, rfl, hd, List.mem_of_getElem? hd, h.2 i q _ hq hd⟩
theorem dget_pl {H : Hp} {q : Addr} {d : List Int} {z : Int} (h : H q = some (.dK (kvPl 0 d))) (m : z ∈ d) : DGet H q (.int z) (some (.int (d.idxOf z : Nat))) := by
  have := DGet.k (k := Sum.inl z) h
  rw [kvPl_val 0 d z m, Nat.zero_add] at this
  exact this
theorem dics_snoc {H H1 H2 : Hp} {PD q : Addr} {qs : List Addr} {ds : List (List Int)} {i : Nat} {d : List Int} (hPD : H PD = none) (hi : i ≤ 100000) (g1 : G none H H1) (h1 : H1 PD = some (.lst (qs.map V.ref))) (lq : qs.length = i)
    (hqs : ∀ (j : Nat) (q : Addr) (d : List Int), qs[j]? = some q → ds[j]? = some d → H1 q = some (.dK (kvPl 0 d))) (hq : H1 q = none) (g2 : G none H1 H2) (h2 : H2 q = some (.dK (kvPl 0 d))) (hdi : ds[i]? = some d) :
    ∃ acc, H2 PD = some (.lst acc) ∧ acc.length < sizeLine ∧ ∃ qs' : List Addr, G none H (upd H2 PD (.lst (acc ++ [V.ref q]))) ∧ (upd H2 PD (.lst (acc ++ [V.ref q]))) PD = some (.lst (qs'.map V.ref)) ∧ qs'.length = i + 1 ∧
      ∀ (j : Nat) (q' : Addr) (d : List Int), qs'[j]? = some q' → ds[j]? = some d → (upd H2 PD (.lst (acc ++ [V.ref q]))) q' = some (.dK (kvPl 0 d)) := by
  have h2P := g2.all _ _ h1
  have nqP : q ≠ PD := (ne_of_none h1 hq).symm
  refine ⟨qs.map V.ref, h2P, Nat.lt_of_le_of_lt (by rw [List.length_map]; omega : (qs.map V.ref).length ≤ 100000) (by decide), qs ++ [q], (g1.trans g2).mut hPD (fun _ e => nomatch e), by rw [upd_same, List.map_append]; rfl, by rw [List.length_append, lq]; rfl, fun j q' d' e1 e2 => ?_⟩
  by_cases cj : j < qs.length
  · rw [List.getElem?_append_left cj] at e1
    have h3 := g2.all _ _ (hqs j q' d' e1 e2)
    rw [upd_ne (ne_of h3 h2P (by intro z; cases z))]
    exact h3
  · have ej : j = i := by
      have := (List.getElem?_eq_some_iff.mp e1).1
      rw [List.length_append, List.length_singleton] at this
      omega
    subst ej
    rw [List.getElem?_append_right (by omega), lq, Nat.sub_self] at e1
    rw [hdi] at e2
    cases e1; cases e2
    rw [upd_ne nqP]; exact h2
def seenD : Option (Nat × Nat) → PyData
  | none => .none
  | some (p, q) => .tuple [.str "seen", .int (p : Nat), .int (q : Nat)]
theorem anyB (l : List Bool) : l.any id = l.any fun b => b := rfl
theorem so_strict {l : List Int} (nd : l.Nodup) (so : l.Pairwise (· ≤ ·)) : l.Pairwise (· < ·) := (nd.and so).imp fun h => by omega
theorem asc_eqI {l l' : List Int} (h : l.Pairwise (· < ·)) (h' : l'.Pairwise (· < ·)) (m : ∀ z, z ∈ l ↔ z ∈ l') : l = l' := (((List.perm_ext_iff_of_nodup (h.imp fun h => by omega) (h'.imp fun h => by omega)).mpr m).eq_of_pairwise (fun a b _ _ h1 h2 => by omega) h h')
def sp_seen_picture (K : PySem.W.Frag) (C : Addr) : Sp := fun vs H Q _ => ∃ (x : Addr) (ws : List Int) (ds : List (List Int)), vs = [.ref x] ∧ RecAt K C H x ws ds ∧ IsWh ws ds ∧ ∀ v H', G none H H' → Dp K H' v (seenD (seenF ws ds)) → Q v H'
theorem ok_seen_picture (T : Txt K mg a) : FnOk P w K mg base CX0 2 a.f_seen_picture a.d_seen_picture P_seen_picture (sp_seen_picture K a.c_Record) := by
  refine T.F_seen_picture.ok sc_seen_picture (fun vs H Q E h => by obtain ⟨x, ws, ds, rfl, _⟩ := h; rfl) (fun cdv A outer s H vs Q E hr h => ?_)
  obtain ⟨x, ws, ds, rfl, ⟨dx, wp, dp, hxi, hw, bs, hbs, lb, hb⟩, wh, k⟩ := h
  obtain ⟨rec, whl⟩ := id wh
  have m1 := rec.m1
  have m7 := rec.m7
  have p30 := rec.p30
  have G_places_in : FnOk P w K mg base CX0 1 a.f_places_in a.d_places_in P_places_in (sp_places_in K) := ok_places_in T
  refine ⟨_, (pss_cons (ps_setLc (i := 1) (own := [("diary", 5)]) (g := (gName 5)) (tt := tYes)  rfl sc_seen_picture.nd rfl rfl (sw_true rfl rfl rfl (by decide +kernel)) (pi_tup (pe_fld (pv 0) rfl)) (blkOk_by (N := N_seen_picture) (sc := defScope s_seen_picture) (by decide +kernel)) (fun _ _ _ _ _ => (pg_name (i := 5) sc_seen_picture.nd rfl (by first | exact Or.inl rfl | exact Or.inr rfl))) (fun _ _ _ _ _ => pts_nil) (fun _ _ _ _ _ => (pe_call (G_places_in) (hr.mono (by omega)) rfl T.m_places_in T.F_places_in.kp T.b_places_in .nil pass0 (pa_cons (pv 5) pa_nil))))
  (pss_cons (ps_for PassesOwn.never rfl (pi_enumT (by rfl) T.n_enumerate (pa_cons (pe_fld (pv 0) rfl) pa_nil)) (pg_tup rfl (pgs_cons (pg_name (i := 2) sc_seen_picture.nd rfl (Or.inr rfl)) (pgs_cons (pg_name (i := 3) sc_seen_picture.nd rfl (Or.inl rfl)) pgs_nil)))
    (pss_one (ps_for PassesOwn.never rfl (pi_list (pe_callB cr_sortedIT (by rfl) T.n_sorted (by decide +kernel) (pa_cons (pe_slice sl_tupAN (pe_ix ix_tup (pe_fld (pv 0) rfl) (pv 3) (fun _ _ => rfl)) po_none (po_some (pe_dget (hu_of hr) (pe_ix ix_list (pv 1) (pv 3) (fun _ _ => rfl)) (pv 2) (by first | exact fun _ _ => rfl | rfl | decide)))) pa_nil))) (pg_name (i := 4) sc_seen_picture.nd rfl (Or.inr rfl))
    (pss_one (ps_if (pt_val (pe_callB (cr_any rfl) (by rfl) T.n_any (by decide +kernel) (pa_cons (pe_lc (own := [("here", 6)]) (g := (gName 6)) (tt := tYes) rfl sc_seen_picture.nd (pi_list (pv 1)) (blkOk_by (N := N_seen_picture) (sc := defScope s_seen_picture) (by decide +kernel)) (fun _ _ _ _ _ => (pg_name (i := 6) sc_seen_picture.nd rfl (by first | exact Or.inl rfl | exact Or.inr rfl))) (fun _ _ _ _ _ => pts_nil) (fun _ _ _ _ _ => (pe_cmpR op_lt (pe_dget (hu_of hr) (pv 6) (pv 2) (by first | exact fun _ _ => rfl | rfl | decide)) (pe_dget (hu_of hr) (pv 6) (pv 4) (by first | exact fun _ _ => rfl | rfl | decide)) (nomark _)))) pa_nil)))
    (pss_one (ps_ret (pe_tupN (pa_cons pe_str (pa_cons (pv 2) (pa_cons (pv 4) pa_nil))))))
    pss_nil)))))
  (pss_one (ps_ret pe_non)))), ?_⟩
  walk_at "ws"
  refine r_fld hxi T.cl_Record T.na_Record_diaries (rf_d _ _) ?_
  refine i_tup hbs ?_
  intro PD hPD
  refine lc_it (walk_tup (xs := bs.map V.ref)) (fun i H' => ∃ qs : List Addr, G none H H' ∧ H' PD = some (.lst (qs.map V.ref)) ∧ qs.length = i ∧ ∀ (j : Nat) (q : Addr) (d : List Int), qs[j]? = some q → ds[j]? = some d → H' q = some (.dK (kvPl 0 d))) ⟨[], (G.refl).mut hPD (fun _ e => nomatch e), upd_same, rfl, (fun j q d e => by simp at e)⟩ (fun i H' _ ⟨_, q, _⟩ => sqT_t q.tups hbs) ?_ ?_
  · rintro i v _ H1 hi ⟨qs, g1, h1, lq, hqs⟩ ⟨rfl, hv⟩
    rw [List.length_map] at hi
    obtain ⟨b, d, rfl, hbi, hdi, hf⟩ := Dia.at_ (p := dp) lb hb hv
    have dm := List.mem_of_getElem? hdi
    have dl := diary_len (rec.nd d dm) (rec.rng d dm)
    walk_at "ws"
    refine ⟨rfl, ?_⟩
    walk_at "ws"
    refine ⟨b, d, rfl, (hf.n g1).sq, rec.nd d dm, by omega, fun q H2 hq g2 h2 => ?_⟩
    exact dics_snoc hPD (by omega) g1 h1 lq hqs hq g2 h2 hdi
  rintro H1 ⟨qs, g1, h1, lq, hqs⟩
  rw [List.length_map] at lq
  have dic : Dicts H1 qs ds := ⟨by omega, hqs⟩
  clear hqs
  walk_at "ws"
  refine r_fld (g1.all _ _ hxi) T.cl_Record T.na_Record_writers (rf_w _ _) ?_
  refine i_enum (sqT_t g1.tups hw) ?_
  refine for_it (walk_enumT (xs := ws.map V.int)) (fun i σ H' => ∃ u2 u3 u4 u5 u6, σ = [some (.ref x), some (.ref PD), u2, u3, u4, u5, u6] ∧ G none H1 H' ∧ ((List.range ws.length).take i).findSome? (fun p => (List.range ws.length).findSome? fun q => if saw ws ds p q then some (p, q) else none) = none) ⟨_, _, _, _, _, rfl, G.refl, rfl⟩ (fun i σ H' _ ⟨_, _, _, _, _, _, q, _⟩ => sqT_t (g1.trans q).tups hw) ?_ ?_
  · rintro i v σ H2 H3 hi ⟨u2, u3, u4, u5, u6, rfl, g2, none1⟩ ⟨t, y, z, rfl, ht, rfl, ey, ez⟩
    cases Option.some.inj ey
    have g3 : G none H2 (upd H2 t (.tup [.int (i : Nat), z])) := G.alloc ht
    refine ⟨t, _, rfl, SqT.of upd_same, rfl, ?_⟩
    refine ⟨_, _, rfl, ?_⟩
    walk_at "ws"
    refine ⟨_, _, rfl, ?_⟩
    walk_at "ws"
    refine ⟨rfl, ?_⟩
    generalize upd H2 t (.tup [.int (i : Nat), z]) = H3 at g3 ⊢
    have g13 := g2.trans g3
    have g03 := g1.trans g13
    have ez : (ws.map V.int)[i]? = some z := ez
    rw [List.length_map] at hi
    rw [List.getElem?_map] at ez
    obtain ⟨w0, hw0, rfl⟩ := Option.map_eq_some_iff.mp ez
    have wm := rec.wr w0 (List.mem_of_getElem? hw0)
    obtain ⟨b, hbw⟩ : ∃ b, bs[w0.toNat]? = some b := ⟨_, List.getElem?_eq_getElem (by omega)⟩
    obtain ⟨d, hdw⟩ : ∃ d, ds[w0.toNat]? = some d := ⟨_, List.getElem?_eq_getElem (by omega)⟩
    obtain ⟨q0, hq0⟩ : ∃ q, qs[w0.toNat]? = some q := ⟨_, List.getElem?_eq_getElem (by omega)⟩
    have dm := List.mem_of_getElem? hdw
    have dl := wh.wh d dm
    have hf := (hb _ _ _ hbw hdw).n g03
    have hdi := (dic.n g13).2 _ _ _ hq0 hdw
    have pd := wh.has dm hi
    walk_at "ws"
    refine r_fld (g03.all _ _ hxi) T.cl_Record T.na_Record_diaries (rf_d _ _) ?_
    walk_at "ws"
    refine r_ixT (sqT_t g03.tups hbs) (v := .ref b) (at_of (j := w0.toNat) (by omega) (by rw [List.getElem?_map, hbw]; rfl)) ?_
    walk_at "ws"
    refine w_dget ?_
    walk_at "ws"
    refine r_ixL (SqL.of (g13.all _ _ h1)) (v := .ref q0) (at_of (j := w0.toNat) (by omega) (by rw [List.getElem?_map, hq0]; rfl)) ?_
    walk_at "ws"
    refine ⟨q0, _, rfl, dget_pl hdi pd, ?_⟩
    walk_at "ws"
    refine ⟨b, _, rfl, hf.sq, fun t1 H4 g4 h4 => ?_⟩
    have dlt : d.idxOf (i : Int) ≤ (d.map V.int).length := by rw [List.length_map]; exact Nat.le_of_lt (idx_lt pd)
    rw [cut_to _ dlt, ← List.map_take] at h4
    walk_at "ws"
    refine ⟨t1, _, rfl, h4, fun ns pm so l H5 hl g5 h5 => ?_⟩
    have g45 := (g4 none).trans (g5 none)
    have g15 := g13.trans g45
    have memn : ∀ z, z ∈ ns ↔ z ∈ d ∧ d.idxOf z < d.idxOf (i : Int) := fun z => by
      rw [pm.mem_iff]
      constructor
      · intro hz
        have zd := List.mem_of_mem_take hz
        exact ⟨zd, (mem_take_idx (rec.nd d dm) zd).mp hz⟩
      · rintro ⟨zd, hz⟩
        exact (mem_take_idx (rec.nd d dm) zd).mpr hz
    have ndn : ns.Nodup := (pm.nodup_iff).mpr ((rec.nd d dm).sublist (List.take_sublist _ _))
    have eqF : ns.findSome? (fun z => if ds.any (fun d => bef d (i : Int) z) then some (i, z.toNat) else none) = (List.range ws.length).findSome? fun q => if saw ws ds i q then some (i, q) else none := by
      have en : ns = ((List.range ws.length).filter fun (j : Nat) => decide ((j : Int) ∈ ns)).map fun (j : Nat) => (j : Int) := by
        refine asc_eqI (so_strict ndn so) ?_ fun z => ?_
        · refine List.pairwise_map.mpr (((List.pairwise_lt_range).sublist List.filter_sublist).imp fun h => by omega)
        · rw [List.mem_map]
          constructor
          · intro hz
            have zr := rec.rng d dm z ((memn z).mp hz).1
            exact ⟨z.toNat, List.mem_filter.mpr ⟨List.mem_range.mpr (by omega), decide_eq_true (by rw [show ((z.toNat : Nat) : Int) = z by omega]; exact hz)⟩, by omega⟩
          · rintro ⟨j, hj, rfl⟩
            exact of_decide_eq_true (List.mem_filter.mp hj).2
      rw [en, List.findSome?_map, fs_filter]
      apply fs_congr
      intro j hj
      have hj := List.mem_range.mp hj
      have jd := wh.has dm hj
      have ew : (ws.getD i 0).toNat = w0.toNat := by rw [List.getD_eq_getElem?_getD, hw0]; rfl
      have e1 : saw ws ds i j = (decide ((j : Int) ∈ ns) && ds.any fun d => bef d (i : Int) (j : Int)) := by
        unfold saw
        rw [ew, dAt_of hdw]
        congr 1
        unfold bef
        rw [decide_eq_decide, memn]
        exact ⟨fun h => ⟨jd, h⟩, fun h => h.2⟩
      rw [e1]
      simp only [Function.comp, Int.toNat_natCast]
      by_cases c : (j : Int) ∈ ns <;> simp [c]
    refine i_list (SqL.of h5) ?_
    refine for_it (walk_list (xs := ns.map V.int)) (fun jj σ H' => ∃ u4 u5 u6, σ = [some (.ref x), some (.ref PD), some (.int (i : Nat)), some (.int w0), u4, u5, u6] ∧ G none H5 H' ∧ (ns.take jj).findSome? (fun z => if ds.any (fun d => bef d (i : Int) z) then some (i, z.toNat) else none) = none) ⟨_, _, _, rfl, G.refl, rfl⟩ (fun jj σ H' _ ⟨_, _, _, _, q, _⟩ => sqL_n q (SqL.of h5)) ?_ ?_
    · rintro jj v σ _ H6 hjj ⟨u4, u5, u6, rfl, g6, none2⟩ ⟨rfl, hv⟩
      rw [List.getElem?_map] at hv
      obtain ⟨q, hq, rfl⟩ := Option.map_eq_some_iff.mp hv
      have qm := (memn q).mp (List.mem_of_getElem? hq)
      have qr := rec.rng d dm q qm.1
      have g16 := g15.trans g6
      walk_at "ws"
      refine i_list (SqL.of (g16.all _ _ h1)) ?_
      intro D hD
      refine lc_pure (K := K) (o := none) (walk_list (xs := qs.map V.ref)) (by rw [List.length_map]; omega) hD (fun _ e => nomatch e) (fun i' => ds[i']?.map fun d => PyData.bool (bef d (i : Int) q)) (fun H' g => SqL.of ((g16.trans g).all _ _ h1)) ?_ ?_
      · rintro i' y _ H7 hi' g7 ⟨rfl, hy⟩ Qy Qn ky kn
        obtain ⟨q2, d2, rfl, hd2, dm2, hq2⟩ := (dic.n (g16.trans g7)).at_ hy
        have i2 : (i : Int) ∈ d2 := wh.has dm2 hi
        have q2m : q ∈ d2 := by
          have := wh.has dm2 (p := q.toNat) (by omega)
          rwa [show ((q.toNat : Nat) : Int) = q by omega] at this
        walk_at "ws"
        refine ⟨rfl, ?_⟩
        walk_at "ws"
        refine w_dget ?_
        walk_at "ws"
        refine ⟨q2, _, rfl, dget_pl hq2 i2, ?_⟩
        walk_at "ws"
        refine w_dget ?_
        walk_at "ws"
        refine ⟨q2, _, rfl, dget_pl hq2 q2m, ?_⟩
        walk_at "ws"
        refine ky _ _ _ G.refl (.bl _) rfl ?_
        rw [hd2]
        unfold bef
        simp
      · intro xs' H7 g7 hD7 hds _
        rw [List.length_map, dic.1, filterMap_range_map] at hds
        obtain rfl := bools_told hds
        walk_at "ws"
        refine ⟨D, _, rfl, SqL.of hD7, ?_⟩
        have e : (ds.map fun d => bef d (i : Int) q).any id = ds.any fun d => bef d (i : Int) q := by rw [List.any_map]; rfl
        rw [e]
        refine ⟨_, rfl, ?_⟩
        refine w_ite (fun c => ?_) (fun c => ?_)
        · walk_at "ws"
          refine ⟨sz (by simp), fun t2 H8 ht2 g8 h8 => ?_⟩
          have hit : (List.range ws.length).findSome? (fun q => if saw ws ds i q then some (i, q) else none) = some (i, q.toNat) := by
            rw [← eqF]
            exact fs_hit none2 hq (by simp [c])
          have fin : seenF ws ds = some (i, q.toNat) := fs_hit none1 (List.getElem?_range hi) hit
          refine k _ _ (((g1.trans g16).trans g7).trans (g8 none)) ?_
          rw [fin]
          refine .tup (SqT.of h8) (.cons (.str _) (.cons (.int _) (.cons ?_ .nil)))
          have : ((q.toNat : Nat) : Int) = q := by omega
          rw [this]
          exact .int q
        · walk_at "ws"
          exact ⟨_, _, _, rfl, g6.trans g7, fs_miss none2 hq (by simp [c])⟩
    · rintro σ H6 ⟨u4, u5, u6, rfl, g6, none2⟩
      rw [List.length_map] at none2
      walk_at "ws"
      exact ⟨_, _, _, _, _, rfl, g13.trans (g45.trans g6), fs_miss none1 (List.getElem?_range hi) (by rw [← eqF]; exact fs_end none2)⟩
  · rintro σ H2 ⟨u2, u3, u4, u5, u6, rfl, g2, none1⟩
    rw [List.length_map] at none1
    walk_at "ws"
    refine k _ _ (g1.trans g2) ?_
    have : seenF ws ds = none := by
      refine fs_end ?_
      rw [List.length_range]
      exact none1
    rw [this]
    exact .non

end
end Mine
/-! ## K9 -/


namespace Mine
section
variable {P : Program} {w : World} {K : PySem.W.Frag} {mg : Str → Option Value} {base : Heap} {a : Ads}

def sp_check_whole (K : PySem.W.Frag) (C : Addr) : Sp := fun vs H Q _ => ∃ (x : Addr) (ws : List Int) (ds : List (List Int)), vs = [.ref x] ∧ RecAt K C H x ws ds ∧ IsWh ws ds ∧ ∀ H', G none H H' → Q .non H'
theorem ok_check_whole (T : Txt K mg a) : FnOk P w K mg base CX0 2 a.f_check_whole a.d_check_whole P_check_whole (sp_check_whole K a.c_Record) := by
  refine T.F_check_whole.ok sc_check_whole (fun vs H Q E h => by obtain ⟨x, ws, ds, rfl, _⟩ := h; rfl) (fun cdv A outer s H vs Q E hr h => ?_)
  obtain ⟨x, ws, ds, rfl, hx, wh, k⟩ := h
  have G_is_whole : FnOk P w K mg base CX0 1 a.f_is_whole a.d_is_whole P_is_whole (sp_is_whole K a.c_Record) := ok_is_whole T
  have m7 := wh.rec_.m7
  refine ⟨_, (pss_one (ps_if (pt_not (pt_val (pe_call (G_is_whole) (hr.mono (by omega)) rfl T.m_is_whole T.F_is_whole.kp T.b_is_whole .nil pass0 (pa_cons (pv 0) pa_nil))))
    pss_never
    pss_nil)), ?_⟩
  walk_at "ws"
  refine ⟨x, ws, ds, rfl, hx, by omega, fun H1 g1 => ?_⟩
  have e : (ds.all fun d => decide (d.length = ws.length)) = true := by
    rw [List.all_eq_true]
    intro d hd
    exact decide_eq_true (wh.wh d hd)
  rw [e]
  walk_at "ws"
  exact k _ g1
/-! ### on which side of each other two puts stand -/
theorem mem_prs {α : Type} {u : α × α} : ∀ {l : List α}, u ∈ GCb.prs l → u.1 ∈ l ∧ u.2 ∈ l
  | [], h => by simp [GCb.prs] at h
  | a :: l, h => by
    rw [GCb.prs] at h
    rcases List.mem_append.mp h with h | h
    · obtain ⟨b, hb, rfl⟩ := List.mem_map.mp h
      exact ⟨by simp, by simp [hb]⟩
    · have := mem_prs h
      exact ⟨by simp [this.1], by simp [this.2]⟩
theorem prs_nodup {α : Type} : ∀ {l : List α}, l.Nodup → (GCb.prs l).Nodup
  | [], _ => by simp [GCb.prs]
  | a :: l, h => by
    rw [GCb.prs]
    obtain ⟨h1, h2⟩ := List.nodup_cons.mp h
    refine List.nodup_append.mpr ⟨List.pairwise_map.mpr (h2.imp fun hne e => hne (Prod.mk.inj e).2), prs_nodup h2, fun x hx y hy e => ?_⟩
    obtain ⟨b, _, rfl⟩ := List.mem_map.mp hx
    subst e
    exact h1 (mem_prs hy).1
theorem pairs_lt {n : Nat} {u : Nat × Nat} (h : u ∈ pairsN n) : u.1 < u.2 ∧ u.2 < n := by
  obtain ⟨i, hi, rfl⟩ := List.getElem_of_mem h
  have := GCb.ixs_next (n := n) (i := i) (x := (pairsN n)[i].1) (y := (pairsN n)[i].2) (List.getElem?_eq_getElem hi)
  exact ⟨this.1, this.2.1⟩
theorem prs_rg {n : Nat} {i : Nat} {x y : V} (h1 : (GCb.prs (rgV 0 (n : Nat)))[i]?.map (·.1) = some x) (h2 : (GCb.prs (rgV 0 (n : Nat)))[i]?.map (·.2) = some y) : ∃ u, (pairsN n)[i]? = some u ∧ x = .int (u.1 : Nat) ∧ y = .int (u.2 : Nat) := by
  have e : rgV 0 (n : Nat) = (List.range n).map fun (j : Nat) => V.int (j : Nat) := by
    unfold rgV
    rw [Int.sub_zero, Int.toNat_natCast]
    exact List.map_congr_left fun j _ => by rw [Int.zero_add]
  rw [e, GCb.prs_map, List.getElem?_map] at h1 h2
  cases h : (pairsN n)[i]? with
  | none => rw [show (GCb.prs (List.range n))[i]? = none from h] at h1; cases h1
  | some u =>
    rw [show (GCb.prs (List.range n))[i]? = some u from h] at h1 h2
    exact ⟨u, rfl, (Option.some.inj h1).symm, (Option.some.inj h2).symm⟩
theorem prs_rg_len {n : Nat} : (GCb.prs (rgV 0 (n : Nat))).length = (pairsN n).length := by
  have e : rgV 0 (n : Nat) = (List.range n).map fun (j : Nat) => V.int (j : Nat) := by
    unfold rgV
    rw [Int.sub_zero, Int.toNat_natCast]
    exact List.map_congr_left fun j _ => by rw [Int.zero_add]
  rw [e, GCb.prs_map, List.length_map]
theorem prs_len2 {α : Type} : ∀ l : List α, (GCb.prs l).length ≤ l.length * l.length
  | [] => by simp [GCb.prs]
  | a :: l => by
    have := prs_len2 l
    rw [GCb.prs, List.length_append, List.length_map, List.length_cons, Nat.add_mul, Nat.mul_add]
    omega
theorem pairs_len {n : Nat} (h : n ≤ 30) : (pairsN n).length ≤ 900 := by
  have := prs_len2 (List.range n)
  rw [List.length_range] at this
  exact Nat.le_trans this (Nat.mul_le_mul h h)
def kN (u : Nat × Nat) : List Key := [Sum.inl (u.1 : Int), Sum.inl (u.2 : Int)]
theorem kN_inj {u v : Nat × Nat} (h : kN u = kN v) : u = v := by
  unfold kN at h
  obtain ⟨h1, h2⟩ := List.cons.inj h
  have h1 := Sum.inl.inj h1
  have h2 := Sum.inl.inj (List.cons.inj h2).1
  exact Prod.ext (by omega) (by omega)
theorem kN_tup (u : Nat × Nat) : (kN u).map kV = [V.int (u.1 : Nat), V.int (u.2 : Nat)] := rfl
theorem nd_gen {α : Type} {l : List α} (nd : l.Nodup) {i j : Nat} (hi : i < l.length) (hj : j < l.length) (e : l[i] = l[j]) : i = j := by
  rcases Nat.lt_trichotomy i j with h | h | h
  · exact absurd e (List.pairwise_iff_getElem.mp nd i j hi hj h)
  · exact h
  · exact absurd e.symm (List.pairwise_iff_getElem.mp nd j i hj hi h)
theorem new_bk {H H' : Hp} {b : Addr} (g : G none H H') (h : H' b = none) : H b = none := by
  cases e : H b with
  | none => rfl
  | some u => rw [g.all _ _ e] at h; cases h
/-- the sides of these pairs, as values in a dict -/
def SdV (K : PySem.W.Frag) (H : Hp) (L : List (Nat × Nat)) (ds : List (List Int)) (kvs : List (List Key × V)) : Prop := kvs.length = L.length ∧ ∀ (i : Nat) (u : Nat × Nat) (kv : List Key × V), L[i]? = some u → kvs[i]? = some kv → kv.1 = kN u ∧ ∃ t, kv.2 = .ref t ∧ SqT K H t ((side ds u).map V.bl)
theorem SdV.t {H H' : Hp} {L : List (Nat × Nat)} {ds : List (List Int)} {kvs : List (List Key × V)} (h : SdV K H L ds kvs) (t : Ts H H') : SdV K H' L ds kvs := ⟨h.1, fun i u kv e1 e2 => by
  obtain ⟨a1, q, a2, a3⟩ := h.2 i u kv e1 e2
  exact ⟨a1, q, a2, sqT_t t a3⟩⟩
theorem SdV.keys {H : Hp} {L : List (Nat × Nat)} {ds : List (List Int)} {kvs : List (List Key × V)} (h : SdV K H L ds kvs) : kvs.map (·.1) = L.map kN := by
  have h0 := h.1
  apply List.ext_getElem?
  intro i
  rw [List.getElem?_map, List.getElem?_map]
  by_cases c : i < L.length
  · have hk : i < kvs.length := by rw [h.1]; exact c
    rw [List.getElem?_eq_getElem c, List.getElem?_eq_getElem hk]
    exact congrArg some (h.2 i _ _ (List.getElem?_eq_getElem c) (List.getElem?_eq_getElem hk)).1
  · rw [List.getElem?_eq_none (by omega), List.getElem?_eq_none (by have := h.1; omega)]
    rfl
theorem val_new {kvs : List (List Key × V)} {k : List Key} (h : k ∉ kvs.map (·.1)) : valV kvs k = none := by
  have e := valV_any (kvs := kvs) (k := k)
  have z : (kvs.any fun kv => decide (kv.1 = k)) = false := by
    rw [List.any_eq_false]
    intro kv hkv c
    exact h (List.mem_map.mpr ⟨kv, hkv, of_decide_eq_true c⟩)
  rw [z] at e
  cases hv : valV kvs k with
  | none => rfl
  | some v => rw [hv] at e; cases e
theorem SdV.put {H : Hp} {L : List (Nat × Nat)} {ds : List (List Int)} {kvs : List (List Key × V)} (h : SdV K H L ds kvs) {u : Nat × Nat} (hu : u ∉ L) {t : Addr} (ht : SqT K H t ((side ds u).map V.bl)) : putK kvs (kN u) (.ref t) = kvs ++ [(kN u, .ref t)] ∧ SdV K H (L ++ [u]) ds (kvs ++ [(kN u, .ref t)]) := by
  refine ⟨putK_new _ (val_new ?_), by simp [h.1], fun i v kv e1 e2 => ?_⟩
  · rw [h.keys]
    intro hm
    obtain ⟨v, hv, e⟩ := List.mem_map.mp hm
    exact hu (kN_inj e ▸ hv)
  · by_cases c : i < L.length
    · rw [List.getElem?_append_left c] at e1
      rw [List.getElem?_append_left (by have := h.1; omega)] at e2
      exact h.2 i v kv e1 e2
    · have ei : i = L.length := by
        have := (List.getElem?_eq_some_iff.mp e1).1
        simp at this
        omega
      subst ei
      rw [List.getElem?_append_right (by omega), Nat.sub_self] at e1
      rw [List.getElem?_append_right (by have := h.1; omega), h.1, Nat.sub_self] at e2
      cases e1; cases e2
      exact ⟨rfl, t, rfl, ht⟩
theorem ts_updD {H : Hp} {D : Addr} {kvs : List (List Key × V)} {u : HO} (h : H D = some (.dT kvs)) : Ts H (upd H D u) := fun a xs e => by
  rcases e with e | ⟨ob, e⟩
  · exact .inl (by rw [upd_ne (ne_of e h (by intro z; cases z))]; exact e)
  · exact .inr ⟨ob, by rw [upd_ne (ne_of e h (by intro z; cases z))]; exact e⟩
def sp_sides_by_pair (K : PySem.W.Frag) (C : Addr) : Sp := fun vs H Q _ => ∃ (x : Addr) (ws : List Int) (ds : List (List Int)), vs = [.ref x] ∧ RecAt K C H x ws ds ∧ IsWh ws ds ∧ ∀ q kvs H', H q = none → G none H H' → H' q = some (.dT kvs) → SdV K H' (pairsN ws.length) ds kvs → Q (.ref q) H'
theorem ok_sides_by_pair (T : Txt K mg a) : FnOk P w K mg base CX0 2 a.f_sides_by_pair a.d_sides_by_pair P_sides_by_pair (sp_sides_by_pair K a.c_Record) := by
  refine T.F_sides_by_pair.ok sc_sides_by_pair (fun vs H Q E h => by obtain ⟨x, ws, ds, rfl, _⟩ := h; rfl) (fun cdv A outer s H vs Q E hr h => ?_)
  obtain ⟨x, ws, ds, rfl, ⟨dx, wp, dp, hxi, hw, bs, hbs, lb, hb⟩, wh, k⟩ := h
  obtain ⟨rec, whl⟩ := id wh
  have m1 := rec.m1
  have m7 := rec.m7
  have p30 := rec.p30
  have pl9 := pairs_len p30
  have G_places_in : FnOk P w K mg base CX0 1 a.f_places_in a.d_places_in P_places_in (sp_places_in K) := ok_places_in T
  refine ⟨_, (pss_cons (ps_set (i := 1) sc_sides_by_pair.nd rfl (Or.inr rfl) (pe_lc (own := [("diary", 3)]) (g := (gName 3)) (tt := tYes) rfl sc_sides_by_pair.nd (pi_tup (pe_fld (pv 0) rfl)) (blkOk_by (N := N_sides_by_pair) (sc := defScope s_sides_by_pair) (by decide +kernel)) (fun _ _ _ _ _ => (pg_name (i := 3) sc_sides_by_pair.nd rfl (by first | exact Or.inl rfl | exact Or.inr rfl))) (fun _ _ _ _ _ => pts_nil) (fun _ _ _ _ _ => (pe_call (G_places_in) (hr.mono (by omega)) rfl T.m_places_in T.F_places_in.kp T.b_places_in .nil pass0 (pa_cons (pv 3) pa_nil)))))
  (pss_cons (ps_set (i := 2) sc_sides_by_pair.nd rfl (Or.inl rfl) (pe_callB call_len_seq (by rfl) T.n_len (by decide +kernel) (pa_cons (pe_fld (pv 0) rfl) pa_nil)))
  (pss_one (ps_ret (pe_dcT (hu_of hr) (own := [("p", 4), ("q", 5)]) (g := (gTup K 2 (gCons (gName 4) (gCons (gName 5) gNil)))) (tt := tYes) rfl sc_sides_by_pair.nd (pi_comb rfl rfl T.w_comb (pcol_range (prg_1 rfl T.n_range (pv 2)))) (blkOk_by (N := N_sides_by_pair) (sc := defScope s_sides_by_pair) (by decide +kernel)) (fun _ _ _ _ _ => (pg_tup rfl (pgs_cons (pg_name (i := 4) sc_sides_by_pair.nd rfl (by first | exact Or.inl rfl | exact Or.inr rfl)) (pgs_cons (pg_name (i := 5) sc_sides_by_pair.nd rfl (by first | exact Or.inl rfl | exact Or.inr rfl)) pgs_nil)))) (fun _ _ _ _ _ => pts_nil) (fun _ _ _ _ _ => (pe_tupN (pa_cons (pv 4) (pa_cons (pv 5) pa_nil)))) (fun _ _ _ _ _ => (pe_callTy (k_call_tupleN K) (by rfl) T.n_tuple (by decide +kernel) (pa_cons (pe_lc (own := [("here", 6)]) (g := (gName 6)) (tt := tYes) rfl sc_sides_by_pair.nd (k_pi_list K (pv 1)) (blkOk_by (N := N_sides_by_pair) (by kernel_rfl)) (fun _ _ _ _ _ => (pg_name (i := 6) sc_sides_by_pair.nd rfl (by first | exact Or.inl rfl | exact Or.inr rfl))) (fun _ _ _ _ _ => pts_nil) (fun _ _ _ _ _ => (pe_cmpR op_lt (pe_dget (hu_of hr) (pv 6) (pv 4) (by first | exact fun _ _ => rfl | rfl | decide)) (pe_dget (hu_of hr) (pv 6) (pv 5) (by first | exact fun _ _ => rfl | rfl | decide)) (nomark _)))) pa_nil)))))))), ?_⟩
  walk_at "ws"
  refine r_fld hxi T.cl_Record T.na_Record_diaries (rf_d _ _) ?_
  refine i_tup hbs ?_
  intro PD hPD
  refine lc_it (walk_tup (xs := bs.map V.ref)) (fun i H' => ∃ qs : List Addr, G none H H' ∧ H' PD = some (.lst (qs.map V.ref)) ∧ qs.length = i ∧ ∀ (j : Nat) (q : Addr) (d : List Int), qs[j]? = some q → ds[j]? = some d → H' q = some (.dK (kvPl 0 d))) ⟨[], (G.refl).mut hPD (fun _ e => nomatch e), upd_same, rfl, (fun j q d e => by simp at e)⟩ (fun i H' _ ⟨_, q, _⟩ => sqT_t q.tups hbs) ?_ ?_
  · rintro i v _ H1 hi ⟨qs, g1, h1, lq, hqs⟩ ⟨rfl, hv⟩
    rw [List.length_map] at hi
    obtain ⟨b, d, rfl, hbi, hdi, hf⟩ := Dia.at_ (p := dp) lb hb hv
    have dm := List.mem_of_getElem? hdi
    have dl := diary_len (rec.nd d dm) (rec.rng d dm)
    walk_at "ws"
    refine ⟨rfl, ?_⟩
    walk_at "ws"
    refine ⟨b, d, rfl, (hf.n g1).sq, rec.nd d dm, by omega, fun q H2 hq g2 h2 => ?_⟩
    exact dics_snoc hPD (by omega) g1 h1 lq hqs hq g2 h2 hdi
  rintro H1 ⟨qs, g1, h1, lq, hqs⟩
  rw [List.length_map] at lq
  have dic : Dicts H1 qs ds := ⟨by omega, hqs⟩
  clear hqs
  walk_at "ws"
  refine r_fld (g1.all _ _ hxi) T.cl_Record T.na_Record_writers (rf_w _ _) ?_
  refine ⟨wp, _, rfl, .inr (sqT_t g1.tups hw), ?_⟩
  rw [List.length_map]
  walk_at "ws"
  refine w_dcT ?_
  refine w_comb ?_
  refine w_tcRg ?_
  walk_at "ws"
  show tVar 2 _ _ _
  walk_at "ws"
  refine ⟨RgOk.of_le (by omega) (by omega) (by omega) (by omega), ?_⟩
  intro D hD
  refine dcT_it (walk_prs (xs := rgV 0 (ws.length : Nat)) (prs_rg_len (n := ws.length)).symm) (fun i H' => G none H1 H' ∧ ∃ kvs, H' D = some (.dT kvs) ∧ SdV K H' ((pairsN ws.length).take i) ds kvs) ⟨(G.refl).mut hD (fun _ e => nomatch e), [], upd_same, rfl, fun i u kv e => by simp at e⟩ (fun i H' _ _ => True.intro) ?_ ?_
  · rintro i v H2 H3 hi ⟨g2, kvs, h2, sd⟩ ⟨t, y, z, rfl, ht, rfl, ey, ez⟩
    obtain ⟨u, hu, rfl, rfl⟩ := prs_rg ey ez
    have ur := pairs_lt (List.mem_of_getElem? hu)
    have g3 : G none H2 (upd H2 t (.tup [.int (u.1 : Nat), .int (u.2 : Nat)])) := G.alloc ht
    refine ⟨t, _, rfl, SqT.of upd_same, rfl, ?_⟩
    refine ⟨_, _, rfl, ?_⟩
    walk_at "ws"
    refine ⟨_, _, rfl, ?_⟩
    walk_at "ws"
    refine ⟨rfl, ?_⟩
    have h3 := g3.all _ _ h2
    have sd3 := sd.t g3.tups
    generalize upd H2 t (.tup [.int (u.1 : Nat), .int (u.2 : Nat)]) = H3 at g3 h3 sd3 ⊢
    have g13 := g2.trans g3
    clear ey ez ht
    walk_at "ws"
    refine ⟨rfl, ?_⟩
    walk_at "ws"
    refine ⟨sz (by simp), fun t2 H4 ht2 g4 h4 => ?_⟩
    walk_at "ws"
    have g14 := g13.trans (g4 none)
    refine i_list (SqL.of (g14.all _ _ h1)) ?_
    intro D5 hD5
    refine lc_pure (K := K) (o := none) (walk_list (xs := qs.map V.ref)) (by rw [List.length_map]; omega) hD5 (fun _ e => nomatch e) (fun i' => ds[i']?.map fun d => PyData.bool (bef d (u.1 : Nat) (u.2 : Nat))) (fun H' g => SqL.of ((g14.trans g).all _ _ h1)) ?_ ?_
    · rintro i' y _ H7 hi' g7 ⟨rfl, hy⟩ Qy Qn ky kn
      obtain ⟨q2, d2, rfl, hd2, dm2, hq2⟩ := (dic.n (g14.trans g7)).at_ hy
      have i1 := wh.has dm2 (p := u.1) (by omega)
      have i2 := wh.has dm2 (p := u.2) (by omega)
      walk_at "ws"
      refine ⟨rfl, ?_⟩
      walk_at "ws"
      refine w_dget ?_
      walk_at "ws"
      refine ⟨q2, _, rfl, dget_pl hq2 i1, ?_⟩
      walk_at "ws"
      refine w_dget ?_
      walk_at "ws"
      refine ⟨q2, _, rfl, dget_pl hq2 i2, ?_⟩
      walk_at "ws"
      refine ky _ _ _ G.refl (.bl _) rfl ?_
      rw [hd2]
      unfold bef
      simp
    · intro xs' H7 g7 hD7 hds _
      rw [List.length_map, dic.1, filterMap_range_map] at hds
      obtain rfl := bools_told hds
      walk_at "ws"
      refine ⟨D5, _, rfl, .inl ⟨SqL.of hD7, fun t5 H8 ht5 g8 h8 => ?_⟩⟩
      have g48 := g7.trans (g8 none)
      have g18 := g14.trans g48
      have h8D := (g48.trans (G.refl)).all _ _ ((g4 none).all _ _ h3)
      have nin : u ∉ (pairsN ws.length).take i := fun hm => by
        obtain ⟨j, hj, e⟩ := List.getElem_of_mem hm
        rw [List.length_take] at hj
        rw [List.getElem_take] at e
        have e2 := List.getElem?_eq_some_iff.mp hu
        have := nd_gen (prs_nodup List.nodup_range) (show j < (pairsN ws.length).length by omega) e2.1 (e.trans e2.2.symm)
        omega
      have tk : (pairsN ws.length).take (i + 1) = (pairsN ws.length).take i ++ [u] := by rw [List.take_add_one, hu]; rfl
      have lk := sd.1
      rw [List.length_take] at lk
      obtain ⟨e1, e2⟩ := (sd3.t ((g4 none).tups.trans g48.tups)).put nin (SqT.of h8)
      have tu := ts_updD (u := .dT (kvs ++ [(kN u, .ref t5)])) h8D
      refine ⟨kvs, kN u, t2, rfl, g48.all _ _ h4, h8D, Nat.lt_of_le_of_lt (by omega : kvs.length ≤ 1000) (by decide), ?_⟩
      rw [e1, tk]
      exact ⟨g18.mut hD (fun _ e => nomatch e), _, upd_same, e2.t tu⟩
  · rintro H2 ⟨g2, kvs, h2, sd⟩
    rw [List.take_length] at sd
    walk_at "ws"
    exact k D kvs H2 (new_bk g1 hD) (g1.trans g2) h2 sd

end
end Mine
/-! ## K10 -/


namespace Mine
section
variable {P : Program} {w : World} {K : PySem.W.Frag} {mg : Str → Option Value} {base : Heap} {a : Ads}

/-! ### turned pictures -/
theorem k_cr_any {X : Cx} (K : PySem.W.Frag) (hc : X.calm = true) (hK : X.K = K := by rfl) : CallR X (.builtin "any") (rAny K) := by subst hK; exact cr_any hc
def lead (ds : List (List Int)) (u : Nat × Nat × Nat) : Bool := ds.any fun d => bef d u.1 u.2.1 && bef d u.2.1 u.2.2
def sp_are_turned (K : PySem.W.Frag) : Sp := fun vs H Q _ => ∃ (PD : Addr) (qs : List Addr) (ws : List Int) (ds : List (List Int)) (p q r : Nat), vs = [.ref PD, .int (p : Nat), .int (q : Nat), .int (r : Nat)] ∧ H PD = some (.lst (qs.map V.ref)) ∧ Dicts H qs ds ∧ IsWh ws ds ∧ p < ws.length ∧ q < ws.length ∧ r < ws.length ∧
  ∀ H', G none H H' → Q (.bl (turn3 ds p q r)) H'
theorem ok_are_turned (T : Txt K mg a) : FnOk P w K mg base CX0 1 a.f_are_turned a.d_are_turned P_are_turned (sp_are_turned K) := by
  refine T.F_are_turned.ok sc_are_turned (fun vs H Q E h => by obtain ⟨PD, qs, ws, ds, p, q, r, rfl, _⟩ := h; rfl) (fun cdv A outer s H vs Q E hr h => ?_)
  obtain ⟨PD, qs, ws, ds, p, q, r, rfl, hP, dic, wh, hp, hq, hrr, k⟩ := h
  have m7 := wh.rec_.m7
  have lq := dic.1
  refine ⟨_, (pss_cons (ps_set (i := 4) sc_are_turned.nd rfl (Or.inl rfl) (pe_tupN (pa_cons (pe_tupN (pa_cons (pv 1) (pa_cons (pv 2) (pa_cons (pv 3) pa_nil)))) (pa_cons (pe_tupN (pa_cons (pv 2) (pa_cons (pv 3) (pa_cons (pv 1) pa_nil)))) (pa_cons (pe_tupN (pa_cons (pv 3) (pa_cons (pv 1) (pa_cons (pv 2) pa_nil)))) pa_nil)))))
  (pss_one (ps_ret (pe_callB (cr_all rfl) (by rfl) T.n_all (by decide +kernel) (pa_cons (pe_lc (own := [("a", 5), ("b", 6), ("c", 7)]) (g := (gTup K 3 (gCons (gName 5) (gCons (gName 6) (gCons (gName 7) gNil))))) (tt := tYes) rfl sc_are_turned.nd (pi_tup (pv 4)) (blkOk_by (N := N_are_turned) (sc := defScope s_are_turned) (by decide +kernel)) (fun _ _ _ _ _ => (pg_tup rfl (pgs_cons (pg_name (i := 5) sc_are_turned.nd rfl (by first | exact Or.inl rfl | exact Or.inr rfl)) (pgs_cons (pg_name (i := 6) sc_are_turned.nd rfl (by first | exact Or.inl rfl | exact Or.inr rfl)) (pgs_cons (pg_name (i := 7) sc_are_turned.nd rfl (by first | exact Or.inl rfl | exact Or.inr rfl)) pgs_nil))))) (fun _ _ _ _ _ => pts_nil) (fun _ _ _ _ _ => (pe_callB (k_cr_any K rfl) (by rfl) T.n_any (by decide +kernel) (pa_cons (pe_lc (own := [("here", 8)]) (g := (gName 8)) (tt := tYes) rfl sc_are_turned.nd (k_pi_list K (pv 0)) (blkOk_by (N := N_are_turned) (by kernel_rfl)) (fun _ _ _ _ _ => (pg_name (i := 8) sc_are_turned.nd rfl (by first | exact Or.inl rfl | exact Or.inr rfl))) (fun _ _ _ _ _ => pts_nil) (fun _ _ _ _ _ => (pe_chain op_lt op_lt (pe_dget (hu_of hr) (pv 8) (pv 5) (by first | exact fun _ _ => rfl | rfl | decide)) (pe_dget (hu_of hr) (pv 8) (pv 6) (by first | exact fun _ _ => rfl | rfl | decide)) (pe_dget (hu_of hr) (pv 8) (pv 7) (by first | exact fun _ _ => rfl | rfl | decide))))) pa_nil)))) pa_nil))))), ?_⟩
  walk_at "ws"
  refine ⟨sz (by simp), fun t1 H1 ht1 g1 h1 => ?_⟩
  walk_at "ws"
  refine ⟨sz (by simp), fun t2 H2 ht2 g2 h2 => ?_⟩
  walk_at "ws"
  refine ⟨sz (by simp), fun t3 H3 ht3 g3 h3 => ?_⟩
  walk_at "ws"
  refine ⟨sz (by simp), fun t4 H4 ht4 g4 h4 => ?_⟩
  have g04 := (g1 none).trans ((g2 none).trans ((g3 none).trans (g4 none)))
  have k1 := ((g2 none).trans ((g3 none).trans (g4 none))).all _ _ h1
  have k2 := ((g3 none).trans (g4 none)).all _ _ h2
  have k3 := (g4 none).all _ _ h3
  have hP4 := g04.all _ _ hP
  have dic4 := dic.n g04
  clear g1 g2 g3 g4 h1 h2 h3 ht1 ht2 ht3 ht4
  walk_at "ws"
  refine i_tup (SqT.of h4) ?_
  intro D hD
  refine lc_pure (K := K) (o := none) (walk_tup (xs := [V.ref t1, .ref t2, .ref t3])) (by simp) hD (fun _ e => nomatch e) (fun i => ([(p, q, r), (q, r, p), (r, p, q)])[i]?.map fun u => PyData.bool (lead ds u)) (fun H' g => sqT_t g.tups (SqT.of h4)) ?_ ?_
  · rintro i x _ H5 hi g5 ⟨rfl, hx⟩ Qy Qn ky kn
    obtain ⟨t, a0, b0, c0, rfl, ht, ha, hb, hc, hf⟩ : ∃ (t : Addr) (a0 b0 c0 : Nat), x = .ref t ∧ H4 t = some (.tup [.int (a0 : Nat), .int (b0 : Nat), .int (c0 : Nat)]) ∧ a0 < ws.length ∧ b0 < ws.length ∧ c0 < ws.length ∧ ([(p, q, r), (q, r, p), (r, p, q)])[i]? = some (a0, b0, c0) := by
      match i, hi with
      | 0, _ => exact ⟨t1, p, q, r, (Option.some.inj hx).symm, k1, hp, hq, hrr, rfl⟩
      | 1, _ => exact ⟨t2, q, r, p, (Option.some.inj hx).symm, k2, hq, hrr, hp, rfl⟩
      | 2, _ => exact ⟨t3, r, p, q, (Option.some.inj hx).symm, k3, hrr, hp, hq, rfl⟩
    refine ⟨t, _, rfl, SqT.of (g5.all _ _ ht), rfl, ?_⟩
    refine ⟨_, _, rfl, ?_⟩
    walk_at "ws"
    refine ⟨_, _, rfl, ?_⟩
    walk_at "ws"
    refine ⟨_, _, rfl, ?_⟩
    walk_at "ws"
    refine ⟨rfl, rfl, ?_⟩
    walk_at "ws"
    refine i_list (SqL.of (g5.all _ _ hP4)) ?_
    intro D5 hD5
    refine lc_pure (K := K) (o := none) (walk_list (xs := qs.map V.ref)) (by rw [List.length_map]; omega) hD5 (fun _ e => nomatch e) (fun i' => ds[i']?.map fun d => PyData.bool (bef d (a0 : Nat) (b0 : Nat) && bef d (b0 : Nat) (c0 : Nat))) (fun H' g => SqL.of ((g5.trans g).all _ _ hP4)) ?_ ?_
    · rintro i' y _ H7 hi' g7 ⟨rfl, hy⟩ Qy2 Qn2 ky2 kn2
      obtain ⟨q2, d2, rfl, hd2, dm2, hq2⟩ := (dic4.n (g5.trans g7)).at_ hy
      have i1 := wh.has dm2 ha
      have i2 := wh.has dm2 hb
      have i3 := wh.has dm2 hc
      walk_at "ws"
      refine ⟨rfl, ?_⟩
      walk_at "ws"
      refine w_dget ?_
      walk_at "ws"
      refine ⟨q2, _, rfl, dget_pl hq2 i1, ?_⟩
      walk_at "ws"
      refine w_dget ?_
      walk_at "ws"
      refine ⟨q2, _, rfl, dget_pl hq2 i2, ?_⟩
      walk_at "ws"
      refine w_ite (fun e => ?_) (fun e => ?_)
      · refine w_dget ?_
        walk_at "ws"
        refine ⟨q2, _, rfl, dget_pl hq2 i3, ?_⟩
        walk_at "ws"
        refine ky2 _ _ _ G.refl (.bl _) rfl ?_
        rw [hd2]
        have e := of_decide_eq_true e
        unfold bef
        simp
        omega
      · refine ky2 _ _ _ G.refl (.bl _) rfl ?_
        rw [hd2]
        have e : ¬ ((d2.idxOf (a0 : Int) : Int) < (d2.idxOf (b0 : Int) : Int)) := by simpa using e
        unfold bef
        simp
        omega
    · intro xs' H7 g7 hD7 hds _
      rw [List.length_map, lq, filterMap_range_map] at hds
      obtain rfl := bools_told hds
      walk_at "ws"
      refine ⟨D5, _, rfl, SqL.of hD7, ky _ _ _ g7 (.bl _) rfl ?_⟩
      rw [hf, List.any_map]
      rfl
  · intro xs' H5 g5 hD5 hds _
    rw [show [V.ref t1, V.ref t2, V.ref t3].length = ([(p, q, r), (q, r, p), (r, p, q)] : List (Nat × Nat × Nat)).length from rfl, filterMap_range_map] at hds
    obtain rfl := bools_told hds
    walk_at "ws"
    refine ⟨D, _, rfl, SqL.of hD5, ?_⟩
    have e : ([(p, q, r), (q, r, p), (r, p, q)].map (lead ds)).all id = turn3 ds p q r := by
      simp [turn3, lead]
    rw [e]
    exact k _ (g04.trans g5)

end
end Mine
/-! ## GSA -/
end
namespace GSa
open PySem PySem.Spec PyProof.Rows L2
/-! ### few tuples of truth values in a set -/
abbrev BK (P : Program) (w : World) : KeyKind P w Bool := PpSet.boolK P w
abbrev IsB (P : Program) (w : World) (h : Heap) (k : List Bool) (a : Addr) : Prop := IsTupleKey (BK P w) h k a
abbrev hv (P : Program) (w : World) (k : List Bool) : Int := tupleKeyHash (BK P w) k
abbrev gait (t : SetTable) (z : Int) (c : Nat) : SetTable.Probe := nth t.mask (runAt t.mask (SetTable.bits z % (t.mask + 1)) (SetTable.bits z)) c
section
variable {P : Program} {w : World} {A : Around} {E : Value → Shared → Prop} {s : Shared}
theorem truths {k : List Bool} {us : List Value} (h : ItemsAre (BK P w) k us) : ∀ u ∈ us, ∃ b, u = Value.bool b := by
  induction h with
  | nil => exact fun u hu => absurd hu (by simp)
  | cons h1 _ ih => exact fun u hu => (List.mem_cons.mp hu).elim (fun e => ⟨_, e.trans (PpSet.isB_shape h1)⟩) (ih u)
theorem ask_class {k : List Bool} {b : Addr} {Q : Bool → Shared → Prop} (hk : IsB P w s.heap k b) (q : Q false s) : wpAny (model P w) A (ofAClassStatement 8 (.ref b)) Q E s := by
  have ty := hk.typeIs
  obtain ⟨ob, us, m, e1, _, e2, e3⟩ := hk
  have tr := truths e3
  unfold ofAClassStatement
  refine wpAny_bind (wpAny_typeOf ty ?_)
  dsimp only
  have tt : (("tuple" : String) == "tuple") = true := by decide
  simp only [tt, if_true, Bool.not_true, Bool.false_eq_true, if_false]
  try (refine wpAny_bind (wpAny_pure ?_); simp only [Bool.not_true, Bool.false_eq_true, if_false])
  show wpAny _ _ (seqItems? (.ref b) >>= _) _ _ _
  refine wpAny_bind (wpAny_seqItems e1 e2 (wpAny_bind ?_))
  show wpAny _ _ (forIn us _ _) _ _ _
  rw [← Array.forIn_toList]
  refine wpAny_forIn_list _ (fun left r s' => (∀ u ∈ left, ∃ b, u = Value.bool b) ∧ r.1 = none ∧ s' = s) _ (fun u left r s' hl => ?_) (fun r s' hl => ?_) _ _ ⟨tr, rfl, rfl⟩
  · obtain ⟨hl, hr, rfl⟩ := hl
    obtain ⟨z, rfl⟩ := hl u (by simp)
    have no : ofAClassStatement 7 (.bool z) = pure false := rfl
    first
    | (rw [no]; refine wpAny_bind (wpAny_pure ?_); simp only [Bool.false_eq_true, if_false]; exact wpAny_pure ⟨rfl, rfl, fun y hy => hl y (by simp [hy])⟩)
    | (rw [no]; refine wpAny_bind (wpAny_pure ?_); simp only [Bool.false_eq_true, if_false]; exact wpAny_pure ⟨fun y hy => hl y (by simp [hy]), rfl, rfl⟩)
  · obtain ⟨_, hr, rfl⟩ := hl
    obtain ⟨r1, r2⟩ := r
    cases (show r1 = none from hr)
    exact wpAny_pure q
theorem ask_hash {k : List Bool} {b : Addr} {Q : Bool → Shared → Prop} (hk : IsB P w s.heap k b) (q : Q true s) : wpAny (model P w) A (hashByValue 8 (.ref b)) Q E s := by
  have ty := hk.typeIs
  obtain ⟨ob, us, m, e1, _, e2, e3⟩ := hk
  have tr := truths e3
  unfold hashByValue
  refine wpAny_bind (wpAny_specialOf ty F.slot_tuple_hash.lookup ?_)
  show wpAny _ _ (seqItems? (.ref b) >>= _) _ _ _
  refine wpAny_bind (wpAny_seqItems e1 e2 (wpAny_bind ?_))
  show wpAny _ _ (forIn us _ _) _ _ _
  rw [← Array.forIn_toList]
  refine wpAny_forIn_list _ (fun left r s' => (∀ u ∈ left, ∃ b, u = Value.bool b) ∧ r.1 = none ∧ s' = s) _ (fun u left r s' hl => ?_) (fun r s' hl => ?_) _ _ ⟨tr, rfl, rfl⟩
  · obtain ⟨hl, hr, rfl⟩ := hl
    obtain ⟨z, rfl⟩ := hl u (by simp)
    have yes : hashByValue 7 (.bool z) = pure true := rfl
    rw [yes]
    refine wpAny_bind (wpAny_pure ?_)
    simp only [Bool.not_true, Bool.false_eq_true, if_false]
    exact wpAny_pure ⟨fun y hy => hl y (by simp [hy]), rfl, rfl⟩
  · obtain ⟨_, hr, rfl⟩ := hl
    obtain ⟨r1, r2⟩ := r
    cases (show r1 = none from hr)
    exact wpAny_pure q
theorem ask_seen {k : List Bool} {b : Addr} {us : List Value} {Q : Bool → Shared → Prop} (hk : IsB P w s.heap k b) (hu : ∀ u ∈ us, ∃ k' c, u = Value.ref c ∧ IsB P w s.heap k' c) (q : Q false s) : wpAny (model P w) A (searchCouldBeSeen (.ref b) us) Q E s := by
  unfold searchCouldBeSeen
  refine wpAny_bind (wpAny_forIn_list _ (fun left r s' => (∀ u ∈ left, ∃ k' c, u = Value.ref c ∧ IsB P w s.heap k' c) ∧ r.1 = none ∧ s' = s) _ (fun u left r s' hl => ?_) (fun r s' hl => ?_) _ _ ⟨hu, rfl, rfl⟩)
  · obtain ⟨hl, hr, rfl⟩ := hl
    obtain ⟨k', c, rfl, hc⟩ := hl u (by simp)
    have on : ∀ y ∈ left, ∃ k' c, y = Value.ref c ∧ IsB P w s'.heap k' c := fun y hy => hl y (by simp [hy])
    dsimp only
    by_cases same : (b == c || (carriedByValue (.ref b) && carriedByValue (.ref c))) = true
    · exact wp_if_pos same (wpAny_pure ⟨on, rfl, rfl⟩)
    · refine wp_if_neg same (wpAny_bind (wpAny_eqIsQuiet_tuple hk ?_))
      simp only [Bool.not_true, Bool.false_eq_true, if_false]
      refine wpAny_bind (wpAny_eqIsQuiet_tuple hc ?_)
      simp only [Bool.not_true, Bool.false_eq_true, if_false]
      refine wpAny_bind (ask_class hk ?_)
      simp only [Bool.false_eq_true, if_false]
      refine wpAny_bind (ask_class hc ?_)
      simp only [Bool.false_eq_true, if_false]
      exact wpAny_pure ⟨on, rfl, rfl⟩
  · obtain ⟨_, hr, rfl⟩ := hl
    obtain ⟨r1, r2⟩ := r
    cases (show r1 = none from hr)
    exact wpAny_pure q
/-- the set at a: its tuples and what they tell, in the order of its table -/
structure Bag (P : Program) (w : World) (h : Heap) (a : Addr) (L : List (Addr × List Bool)) (es : Array (Int × Value)) (ep : Nat) (t : SetTable) : Prop where
  obj : ∃ o, h.get? a = some o ∧ o.ExactSet ∧ o.data = .set es ep t
  laid : es.toList = L.map fun q => (hv P w q.2, Value.ref q.1)
  tab : TabOk t (L.map fun q => hv P w q.2)
  apart : (L.map (·.2)).Nodup
  told : ∀ q ∈ L, IsB P w h q.2 q.1
  plain : t.plain = true
  led : w.params.followText "set-order" = true ∨ t.led = true
  m7 : t.mask = 7
  few : L.length ≤ 4
variable {a : Addr} {L : List (Addr × List Bool)} {es : Array (Int × Value)} {ep : Nat} {t : SetTable}
theorem Bag.len (B : Bag P w s.heap a L es ep t) : es.size = L.length := by
  rw [← Array.length_toList, B.laid, List.length_map]
theorem Bag.pl (B : Bag P w s.heap a L es ep t) : t.place.toList.length = L.length := by
  rw [Array.length_toList, B.tab.sz, List.length_map]
theorem Bag.fits (B : Bag P w s.heap a L es ep t) : t.fits es.size = true := by
  have z1 := B.tab.sz
  have z2 := B.len
  have z3 := B.few
  have z4 := B.m7
  rw [List.length_map] at z1
  unfold SetTable.fits SetTable.fill
  rw [B.tab.dm, Bool.and_eq_true, beq_iff_eq, decide_eq_true_eq]
  exact ⟨by omega, by show t.place.size + 0 ≤ t.mask; omega⟩
theorem Bag.row (B : Bag P w s.heap a L es ep t) {i : Nat} {q : Addr × List Bool} (h : L[i]? = some q) : es[i]? = some (hv P w q.2, Value.ref q.1) := by
  rw [← Array.getElem?_toList, B.laid, List.getElem?_map, h]
  rfl
theorem Bag.firm (B : Bag P w s.heap a L es ep t) : ¬ t.gaveWay = true := by
  unfold SetTable.gaveWay
  rw [B.m7]
  decide
theorem no_dummy (m : Nat) : ∀ (n : Nat) (p : SetTable.Probe), p.dummy = none → (nth m p n).dummy = none
  | 0, _, h => h
  | n + 1, p, h => no_dummy m n (adv m p) (by unfold adv; split <;> exact h)
/-- from the c-th place on the way of k's hash: K is the first empty one -/
theorem seek (B : Bag P w s.heap a L es ep t) {x : Addr} {k : List Bool} (hx : IsB P w s.heap k x) (un : A.units < cLine) {K : Nat} (kf : K < 10 * SetTable.turns t.mask) (kn : way t.mask (hv P w k) K ∉ t.place.toList) (kb : ∀ c, c < K → way t.mask (hv P w k) c ∈ t.place.toList)
    {Q : SetFound → Shared → Prop} (old : k ∈ L.map (·.2) → Q (.there none) s) (new : k ∉ L.map (·.2) → Q (.free (way t.mask (hv P w k) K) false) s) : ∀ (f c : Nat) (stand : Option SetTable.Probe), c ≤ K → K - c < f → stand.getD (t.probeStart (hv P w k)) = gait t (hv P w k) c →
      (∀ (i : Nat) q, L[i]? = some q → q.2 = k → ∃ d, c ≤ d ∧ d < K ∧ t.place.toList[i]? = some (way t.mask (hv P w k) d)) → wpAny (model P w) A (setSearchFrom a (.ref x) (hv P w k) true f stand) Q E s := by
  obtain ⟨ob, e1, _, e2⟩ := B.obj
  intro f
  induction f with
  | zero => exact fun c _ _ z => absurd z (Nat.not_lt_zero _)
  | succ f ih =>
    intro c stand ck cf st ahead
    rw [setSearchFrom_succ]
    refine wpAny_bind (wpAny_setState_of e1 e2 B.fits ?_)
    dsimp only
    refine wp_if_neg B.firm ?_
    try refine wpAny_bind (wpAny_pure ?_)
    have on : ∀ d, nth t.mask (gait t (hv P w k) c) d = gait t (hv P w k) (c + d) := fun d => (nth_add t.mask c _ d).symm
    have onj : ∀ d, (nth t.mask (gait t (hv P w k) c) d).j = way t.mask (hv P w k) (c + d) := fun d => congrArg SetTable.Probe.j (on d)
    have back : c + (K - c) = K := by omega
    have hs : ∀ (i : Nat) q, L[i]? = some q → (es[i]?.map (·.1)).getD 0 = hv P w q.2 := fun i q h => by rw [B.row h]; rfl
    rcases go_spec t B.tab.ris B.tab.dm (fun i => (es[i]?.map (·.1)).getD 0) (hv P w k) (10 * SetTable.turns t.mask) (K - c) (gait t (hv P w k) c) (no_dummy _ c _ rfl) (by omega) (fun d hd => by rw [onj]; exact kb _ (by omega)) (by rw [onj, back]; exact kn) with
      ⟨d, i, hd, hi, hh, none1, pr⟩ | ⟨none1, pr⟩
    · rw [onj] at hi
      rw [onj, on] at pr
      have pr2 : t.probe (fun i => (es[i]?.map (·.1)).getD 0) (hv P w k) (stand.getD (t.probeStart (hv P w k))) = some (.candidate (way t.mask (hv P w k) (c + d)) i (gait t (hv P w k) (c + (d + 1)))) := by rw [st]; exact pr
      rw [pr2]
      dsimp only
      have il : i < L.length := by rw [← B.pl]; exact (List.getElem?_eq_some_iff.mp hi).1
      obtain ⟨q, hq⟩ : ∃ q, L[i]? = some q := ⟨_, List.getElem?_eq_getElem il⟩
      have qm := List.mem_of_getElem? hq
      have live : t.slot (way t.mask (hv P w k) (c + d)) = .live i := slot_live B.tab.ris hi
      have go : wpAny (model P w) A (searchRest a (.ref x) (hv P w k) true f es t (way t.mask (hv P w k) (c + d)) i (gait t (hv P w k) (c + (d + 1)))) Q E s := by
        unfold searchRest
        rw [B.row hq]
        refine wpAny_bind (wpAny_holding (wpAny_eqBool_tuple un (B.told q qm) hx ?_))
        refine wpAny_bind (wpAny_setState_of e1 e2 B.fits ?_)
        dsimp only
        by_cases eq : q.2 = k
        · exact wp_if_pos (by simp [eq]) (wpAny_pure (old (List.mem_map.mpr ⟨q, qm, eq⟩)))
        · refine wp_if_neg (by simp [eq]) ?_
          try refine wpAny_bind (wpAny_pure ?_)
          rw [sameMem]
          simp only [if_true, live, B.row hq]
          refine wpAny_bind (wpAny_isSame_ref_self (wpAny_bind (wpAny_pure ?_)))
          simp only [if_true]
          refine wp_if_neg (by simp [eq]) (ih (c + (d + 1)) _ (by omega) (by omega) rfl fun i2 q2 h2 k2 => ?_)
          obtain ⟨d2, a1, a2, a3⟩ := ahead i2 q2 h2 k2
          refine ⟨d2, ?_, a2, a3⟩
          apply Decidable.byContradiction
          intro far
          by_cases at_ : d2 = c + d
          · rw [at_] at a3
            have two := slot_live B.tab.ris a3
            rw [live] at two
            injection two with two
            rw [← two, hq] at h2
            cases h2
            exact eq k2
          · exact none1 (d2 - c) i2 (by omega) (by rw [onj, show c + (d2 - c) = d2 by omega]; exact a3) ((hs i2 q2 h2).trans (by rw [k2]))
      by_cases ld : t.led = true
      · refine wp_if_neg (by simp [ld]) ?_
        try refine wpAny_bind (wpAny_pure ?_)
        exact go
      · refine wp_if_pos (by simp [ld]) (wpAny_bind (ask_seen hx (fun u hu => ?_) ?_))
        · obtain ⟨r, hr, rfl⟩ := List.mem_map.mp hu
          have hr : r ∈ es.toList := by
            have : r ∈ es ∧ r.1 = hv P w k := by simpa using hr
            simpa using this.1
          rw [B.laid] at hr
          obtain ⟨q2, hq2, rfl⟩ := List.mem_map.mp hr
          exact ⟨q2.2, q2.1, rfl, B.told q2 hq2⟩
        · refine wp_if_neg (by decide) ?_
          try refine wpAny_bind (wpAny_pure ?_)
          exact go
    · rw [onj, back] at pr
      have pr2 : t.probe (fun i => (es[i]?.map (·.1)).getD 0) (hv P w k) (stand.getD (t.probeStart (hv P w k))) = some (.empty (way t.mask (hv P w k) K) none) := by rw [st]; exact pr
      rw [pr2]
      refine wpAny_pure (new fun hm => ?_)
      obtain ⟨q, hq, e⟩ := List.mem_map.mp hm
      obtain ⟨i, il, ei⟩ := List.getElem_of_mem hq
      have hq : L[i]? = some q := by rw [List.getElem?_eq_getElem il, ei]
      obtain ⟨d, a1, a2, a3⟩ := ahead i q hq e
      exact none1 (d - c) i (by omega) (by rw [onj, show c + (d - c) = d by omega]; exact a3) ((hs i q hq).trans (by rw [e]))
end
end GSa
/-! ## GSB -/
namespace GSa
open PySem PySem.Spec PyProof.Rows L2
section
variable {P : Program} {w : World} {A : Around} {E : Value → Shared → Prop} {s : Shared} {a : Addr} {L : List (Addr × List Bool)} {es : Array (Int × Value)} {ep : Nat} {t : SetTable}
theorem find (B : Bag P w s.heap a L es ep t) {x : Addr} {k : List Bool} (hx : IsB P w s.heap k x) (un : A.units < cLine) {Q : SetFound → Shared → Prop} (old : k ∈ L.map (·.2) → Q (.there none) s)
    (new : ∀ K, k ∉ L.map (·.2) → way t.mask (hv P w k) K ∉ t.place.toList → (∀ c, c < K → way t.mask (hv P w k) c ∈ t.place.toList) → Q (.free (way t.mask (hv P w k) K) false) s) : wpAny (model P w) A (setSearch a (.ref x) (hv P w k) true) Q E s := by
  have m7 := B.m7
  obtain ⟨K, kf, kn, kb⟩ := B.tab.first (by rw [List.length_map, m7]; have := B.few; omega) (hv P w k)
  have small : 10 * SetTable.turns t.mask ≤ 1420 := by
    rw [m7]
    decide
  unfold setSearch
  refine seek B hx un kf kn kb old (fun n => new K n kn kb) 100000 0 none (Nat.zero_le _) (by omega) rfl fun i q hq e => ?_
  have il : i < t.place.toList.length := by rw [B.pl]; exact (List.getElem?_eq_some_iff.mp hq).1
  have at_ := List.getElem?_eq_getElem il
  obtain ⟨c, hc, ec⟩ := B.tab.before kn (i := i) (by rw [List.getElem?_map, hq, ← e]; rfl) at_
  exact ⟨c, Nat.zero_le _, hc, by rw [at_, ec]⟩
theorem bool_same {h h' : Heap} {k : List Bool} {a b : Addr} {o : Obj} (hb : IsB P w h k b) (ho : h.get? a = some o) (hd : o.data = .set es ep t) (sb : Heap.SameBut a h h') : IsB P w h' k b := by
  obtain ⟨ob, us, m, e1, e2, e3, e4⟩ := hb
  refine ⟨ob, us, m, (sb.2 b fun z => ?_).trans e1, e2, e3, e4⟩
  subst z
  rw [ho] at e1
  cases e1
  rw [hd] at e3
  cases e3
theorem ins_perm {α : Type} (l : List α) (p : Nat) (x : α) : (l.take p ++ x :: l.drop p).Perm (x :: l) := by
  have := List.perm_middle (a := x) (l₁ := l.take p) (l₂ := l.drop p)
  rwa [List.take_append_drop] at this
theorem bag_add (B : Bag P w s.heap a L es ep t) {x : Addr} {k : List Bool} (hx : IsB P w s.heap k x) (un : A.units < cLine) (room : k ∉ L.map (·.2) → L.length + 1 ≤ 4) {Q : Bool → Shared → Prop}
    (q : ∀ b h' L' es' ep' t', Heap.SameBut a s.heap h' → Bag P w h' a L' es' ep' t' → (k ∈ L.map (·.2) → L' = L) → (k ∉ L.map (·.2) → L'.Perm ((x, k) :: L)) → Q b { s with heap := h' }) : wpAny (model P w) A (setAddHashed a (.ref x) (hv P w k)) Q E s := by
  obtain ⟨ob, e1, ex, e2⟩ := B.obj
  have ln := B.len
  unfold setAddHashed
  refine wpAny_holding ?_
  rw [show (100000 : Nat) = 99999 + 1 from rfl, setAddHashedIn_succ]
  refine wpAny_bind (wpAny_setState_of e1 e2 B.fits ?_)
  dsimp only
  refine wp_if_neg (by simp [byScan, Value.scannable]) ?_
  try refine wpAny_bind (wpAny_pure ?_)
  refine wpAny_bind (find B hx un (fun hm => ?_) fun K hm kn kb => ?_)
  · exact wpAny_pure (q false s.heap L es ep t (Heap.SameBut.refl a s.heap) B (fun _ => rfl) fun z => absurd hm z)
  · have r4 := room hm
    dsimp only
    refine wpAny_bind (wpAny_setState_of e1 e2 B.fits ?_)
    dsimp only
    obtain ⟨q1, q2, q3, q4, q5, q6, q7, q8, q9⟩ := B.tab.put kn kb
    have pln : (t.put (way t.mask (hv P w k) K)).1.plain = true := q6.trans B.plain
    have m7 : (t.put (way t.mask (hv P w k) K)).1.mask = 7 := q4.trans B.m7
    have ldd : w.params.followText "set-order" = true ∨ (t.put (way t.mask (hv P w k) K)).1.led = true := by rw [q5]; exact B.led
    revert q1 q3 q9 pln m7 ldd
    generalize t.put (way t.mask (hv P w k) K) = both
    obtain ⟨t2, p2⟩ := both
    intro q1 q3 q9 pln m7 ldd
    dsimp only at q1 q3 q9 pln m7 ldd ⊢
    subst q1
    first
      | (refine wpAny_bind ?_; refine wp_if_pos pln ?_; refine ask_hash hx ?_)
      | refine wp_if_pos pln (wpAny_bind (ask_hash hx ?_))
    simp only [if_true]
    revert q2 q3
    generalize SetTable.below t.place (way t.mask (hv P w k) K) = p
    intro q2 q3
    have pm := ins_perm L p (x, k)
    have rows : (SetTable.insertAt es p (hv P w k, Value.ref x)).toList = (L.take p ++ (x, k) :: L.drop p).map fun q => (hv P w q.2, Value.ref q.1) := by
      rw [SetTable.toList_insertAt, B.laid, List.map_append, List.map_cons, List.map_take, List.map_drop]
    have q3' : TabOk t2 ((L.take p ++ (x, k) :: L.drop p).map fun q => hv P w q.2) := by
      rw [List.map_append, List.map_cons, List.map_take, List.map_drop]
      exact q3
    revert pm rows q3'
    generalize L.take p ++ (x, k) :: L.drop p = L2'
    generalize SetTable.insertAt es p (hv P w k, Value.ref x) = es2
    intro pm rows q3'
    have l2 : L2'.length = L.length + 1 := pm.length_eq
    have z2 : es2.size = L.length + 1 := by rw [← Array.length_toList, rows, List.length_map, l2]
    refine wpAny_bind (wpAny_storeSet_of e1 e2 ?_ (by rw [z2, sizeLine_eq]; omega))
    have sb : Heap.SameBut a s.heap (s.heap.update a (Obj.putSet es2 t2)) := Heap.SameBut.update ..
    have at2 := store_at (es' := es2) (t' := t2) e1 e2
    revert sb at2
    generalize s.heap.update a (Obj.putSet es2 t2) = h2
    intro sb at2
    have full : ¬ (t2.tooFull = true) := by
      unfold SetTable.tooFull
      rw [decide_eq_true_eq, q9, List.length_map, m7]
      omega
    first
      | refine wp_if_neg (by simp [full]) ?_
      | (refine wpAny_bind ?_; refine wp_if_neg (by simp [full]) ?_; refine wpAny_pure ?_)
    refine wpAny_pure (q true h2 L2' es2 (ep + 1) t2 sb ⟨⟨_, at2, ⟨ex.1, ex.2.1, ex.2.2⟩, rfl⟩, rows, q3', ?_, fun u hu => ?_, pln, ldd, m7, by omega⟩ (fun z => absurd z hm) fun _ => pm)
    · refine (pm.map (·.2)).nodup_iff.mpr (List.nodup_cons.mpr ⟨hm, B.apart⟩)
    · rcases List.mem_cons.mp (pm.mem_iff.mp hu) with e | e
      · rw [e]; exact bool_same hx e1 e2 sb
      · exact bool_same (B.told u e) e1 e2 sb
theorem bag_new {h : Heap} (e : h.get? a = some { cls := .type "set", dict := none, data := .set #[] 0 (.fresh 0 0 (!w.params.followText "set-order")) }) : Bag P w h a [] #[] 0 (.fresh 0 0 (!w.params.followText "set-order")) where
  obj := ⟨_, e, ⟨rfl, rfl, rfl⟩, rfl⟩
  laid := rfl
  tab := ⟨List.Pairwise.nil, rfl, rfl, .inl rfl, fun x hx => (by cases hx), fun i h j hi => (by simp at hi)⟩
  apart := List.nodup_nil
  told := fun q hq => (by cases hq)
  plain := rfl
  led := by
    show _ ∨ (!w.params.followText "set-order") = true
    cases w.params.followText "set-order"
    · exact .inr rfl
    · exact .inl rfl
  m7 := rfl
  few := by simp
theorem bag_keep {h h' : Heap} (B : Bag P w h a L es ep t) (k : ∀ b o, h.get? b = some o → h'.get? b = some o) : Bag P w h' a L es ep t := by
  obtain ⟨o, e, r⟩ := B.obj
  refine ⟨⟨o, k _ _ e, r⟩, B.laid, B.tab, B.apart, fun q hq => ?_, B.plain, B.led, B.m7, B.few⟩
  obtain ⟨ob, us, m, e1, r⟩ := B.told q hq
  exact ⟨ob, us, m, k _ _ e1, r⟩
end
/-! ### over the layer: what the set holds, as a claim on its object -/
/-- the tuples of two truth values -/
def two : List (List Bool) := [[false, false], [false, true], [true, false], [true, true]]
theorem two_room {ks : List (List Bool)} {k : List Bool} (nd : ks.Nodup) (h : ∀ z ∈ ks, z ∈ two) (hk : k ∈ two) (no : k ∉ ks) : ks.length + 1 ≤ 4 :=
  List.Nodup.length_le_of_subset (l₁ := k :: ks) (l₂ := two) (List.nodup_cons.mpr ⟨no, nd⟩) fun x hx => (List.mem_cons.mp hx).elim (fun e => e ▸ hk) (h x)
end GSa
/-! ## GV -/
namespace GA
open PySem PySem.Spec PyProof.Rows L2
/-! ### a set of ints by a comprehension; len of it -/
section
variable {X : Cx}
/-- {e for target in iter if ..}, e an int: D the new set -/
def tScI (w : World) (wi : TI) (g : TG) (tt : TT) (te : TE) (vs : List Nat) : TE := fun σ H Q => wi σ H fun J H1 => ∀ D, H1 D = none → ∃ W : Nat → Nat → Hp → Prop, (∃ m, W 0 m (upd H1 D (SetO w D (fun _ => false) 0))) ∧ ∀ i m H, W i m H →
  (J.stop i H ∧ Q (.ref D) H) ∨ (J.go i H ∧ ∃ Nx : Hp → Prop, (∀ H', Nx H' → ∃ m', m' < m ∧ W (i + 1) m' H') ∧ ∀ x H', J.yld i H x H' → g x (wipe σ vs) H' fun σ2 H2 => wipe σ2 vs = wipe σ vs ∧ tt σ2 H2 fun b H3 =>
    if b = true then te σ2 H3 fun y H4 => ∃ (k : Int) (S : Int → Bool) (n : Nat), y = .int k ∧ H4 D = some (SetO w D S n) ∧ n + 1 < scanBound ∧ Nx (upd H4 D (SetO w D (fun j => S j || decide (j = k)) (if S k = true then n else n + 1))) else Nx H3)
theorem pe_scI {elt tg iter : Expr} {ifs : List Expr} {scope : Scope} {own : List (PySem.Str × Nat)} {pos : Pos} {wi : TI} {g : TG} {tt : TT} {te : TE} (calm : X.calm = true) (nd : X.N.Nodup) (src : PI X tg iter wi) (blk : BlkOk X.N X.env.scope scope own)
    (pg : ∀ (s : Shared) (H : Hp) (C : Addr) (cl : List (PySem.Str × Addr)) (fp : List Addr), PG (X.blk s H scope (compEnvC scope cl C X.env) fp) tg g)
    (pt : ∀ (s : Shared) (H : Hp) (C : Addr) (cl : List (PySem.Str × Addr)) (fp : List Addr), PTs (X.blk s H scope (compEnvC scope cl C X.env) fp) ifs tt)
    (pv' : ∀ (s : Shared) (H : Hp) (C : Addr) (cl : List (PySem.Str × Addr)) (fp : List Addr), PE (X.blk s H scope (compEnvC scope cl C X.env) fp) elt te) (fold : ∀ x, foldedSetIterable iter X.env x = pure x := by intro _; rfl) :
    PE X (.SetComp elt [⟨tg, iter, ifs, 0⟩] scope pos) (tScI X.w wi g tt te (own.map (·.2))) := by
  constructor
  intro pins s σ H Q I want
  rw [PpSet.eval_SetComp]
  have cells : ∀ nm ∈ scope.names, nm.2 = .free → ∃ c, X.env.cells.lookup nm.1 = some c := fun nm hnm e => (blk.free nm hnm e).elim (fun a => I.ok.has _ (.inl a)) fun a => I.ok.has _ (.inr a)
  apply wpAny_comprehension_free (use := none) rfl fold (closure_ok cells) blk.kind (fun nm hnm e => by rw [blk.uniq nm hnm, e])
  refine thn (src.run pins s σ H _ I want) fun _ sa step1 => thn step1 fun _ sb step2 => ?_
  obtain ⟨it, fp, told, J, Hb, rfl, Ib, Tn, stb, fb, rest⟩ := step2
  refine PpSet.newSet_ok (newEnv_comp ?_)
  obtain ⟨D, eD⟩ : ∃ D, sb.heap.objs.size = D := ⟨_, rfl⟩
  have freeD : Hb D = none := Ib.hok.fresh (eD ▸ Nat.le_refl _)
  obtain ⟨W, ⟨m0, start⟩, turn⟩ := rest D freeD
  obtain ⟨sc, eSc⟩ : ∃ sc : Shared, { sb with heap := sb.heap.push { cls := .type "set", dict := none, data := .set #[] 0 (.fresh 0 0 (!X.w.params.followText "set-order")) } } = sc := ⟨_, rfl⟩
  have hc : sc.heap = sb.heap.push { cls := .type "set", dict := none, data := .set #[] 0 (.fresh 0 0 (!X.w.params.followText "set-order")) } := eSc ▸ rfl
  have Ic : Inv X pins σ (upd Hb D (SetO X.w D (fun _ => false) 0)) sc := by
    subst eSc eD
    exact Ib.laid (t' := sb.toks) (fun _ _ e => Heap.get?_push_of_some _ e) (Nat.le_refl _) (setO_new (by
      have := setR_new_at (w := X.w) (h := sb.heap.push { cls := .type "set", dict := none, data := .set #[] 0 (.fresh 0 0 (!X.w.params.followText "set-order")) }) (a := sb.heap.objs.size) (ns := []) (Heap.get?_push_size _ rfl)
      simpa using this))
  have low : ∀ b ∈ fp, b < sb.heap.objs.size := fun b hb => let ⟨_, e, _⟩ := Tn.obj _ _ stb b hb; Heap.lt_size e
  have fc : ∀ b ∈ fp, FpOk X pins (upd Hb D (SetO X.w D (fun _ => false) 0)) b ∧ b < sc.heap.objs.size := by
    intro b hb
    have lt := low b hb
    have ne : b ≠ D := eD ▸ Nat.ne_of_lt lt
    exact ⟨⟨(upd_ne ne).trans (fb b hb).1, (fb b hb).2⟩, by rw [hc, Heap.size_push]; exact Nat.lt_succ_of_lt lt⟩
  have stc : told 0 sc.heap := Tn.keep _ _ _ stb fun b _ o e => hc ▸ Heap.get?_push_of_some _ e
  have Id := block_start Ic blk nd fc
  have rg := pg sc (upd Hb D (SetO X.w D (fun _ => false) 0)) sc.heap.objs.size (cellsFrom (sc.heap.objs.size + 1) scope.names (cloFrom X.env.cells scope.names [])) fp
  have rt := pt sc (upd Hb D (SetO X.w D (fun _ => false) 0)) sc.heap.objs.size (cellsFrom (sc.heap.objs.size + 1) scope.names (cloFrom X.env.cells scope.names [])) fp
  have rv := pv' sc (upd Hb D (SetO X.w D (fun _ => false) 0)) sc.heap.objs.size (cellsFrom (sc.heap.objs.size + 1) scope.names (cloFrom X.env.cells scope.names [])) fp
  have bare : ∀ b ∈ fp, upd Hb D (SetO X.w D (fun _ => false) 0) b = none := fun b hb => (fc b hb).1.1
  show codeAny _ _ (.compStart (.SetComp elt [⟨tg, iter, ifs, 0⟩] scope pos) 0 (.ref it) (.ref sb.heap.objs.size) (compEnvC scope (cellsFrom (({ sb with heap := sb.heap.push { cls := .type "set", dict := none, data := .set #[] 0 (.fresh 0 0 (!X.w.params.followText "set-order")) } } : Shared).heap.objs.size + 1) scope.names (cloFrom X.env.cells scope.names [])) ({ sb with heap := sb.heap.push { cls := .type "set", dict := none, data := .set #[] 0 (.fresh 0 0 (!X.w.params.followText "set-order")) } } : Shared).heap.objs.size X.env)) (compPost (model X.prog X.w) X.A X.xe none _ (.ref sb.heap.objs.size) ({ sb with heap := sb.heap.push { cls := .type "set", dict := none, data := .set #[] 0 (.fresh 0 0 (!X.w.params.followText "set-order")) } } : Shared).heap.objs.size) { ({ sb with heap := sb.heap.push { cls := .type "set", dict := none, data := .set #[] 0 (.fresh 0 0 (!X.w.params.followText "set-order")) } } : Shared) with heap := pushCells (({ sb with heap := sb.heap.push { cls := .type "set", dict := none, data := .set #[] 0 (.fresh 0 0 (!X.w.params.followText "set-order")) } } : Shared).heap.push { cls := .type "dict", data := .dict #[] }) scope.names }
  rw [eSc, eD]
  obtain ⟨ce, eCe⟩ : ∃ ce, compEnvC scope (cellsFrom (sc.heap.objs.size + 1) scope.names (cloFrom X.env.cells scope.names [])) sc.heap.objs.size X.env = ce := ⟨_, rfl⟩
  have at_ce : ce.locals = sc.heap.objs.size := eCe ▸ rfl
  rw [eCe] at Id rg rt rv ⊢
  obtain ⟨Hc, eHc⟩ : ∃ Hc, upd Hb D (SetO X.w D (fun _ => false) 0) = Hc := ⟨_, rfl⟩
  rw [eHc] at Ic Id rg rt rv start bare fc
  obtain ⟨sd, eSd⟩ : ∃ sd : Shared, { sc with heap := pushCells (sc.heap.push { cls := .type "dict", data := .dict #[] }) scope.names } = sd := ⟨_, rfl⟩
  rw [eSd] at Id ⊢
  have std : told 0 sd.heap := Tn.keep _ _ _ stc fun b _ o e => eSd ▸ pushCells_keeps _ _ _ _ (Heap.get?_push_of_some _ e)
  have pins_ : ∀ {τ : L2.St} {H' : Hp} {s' : Shared}, Inv (X.blk sc Hc scope ce fp) [] τ H' s' → (∀ b ∈ fp, H' b = none) → ∀ b ∈ fp, FpOk (X.blk sc Hc scope ce fp) [] H' b := fun I' no b hb =>
    ⟨no b hb, (I'.ok.exf b hb).1, I'.ok.exfs b hb, .inl hb, fun x c e => (I'.ok.exf b hb).2 x c e, fun p hp => nomatch (show p ∈ ([] : List (Addr × Obj)) from hp)⟩
  have loop : codeAny (model X.prog X.w) X.A (.compLoop (.SetComp elt [⟨tg, iter, ifs, 0⟩] scope pos) 0 (.ref it) (.ref D) ce) (compPost (model X.prog X.w) X.A X.xe none (fun v s' => ∃ x H', Inv X pins σ H' s' ∧ RelV x v ∧ Q x H') (.ref D) sc.heap.objs.size) sd := by
    refine PpSet.compLoopS_any (fun n s' => ∃ i H', Inv (X.blk sc Hc scope ce fp) [] (wipe σ (own.map (·.2))) H' s' ∧ told i s'.heap ∧ (∀ b ∈ fp, H' b = none) ∧ W i n H') ?_ m0 ⟨0, Hc, Id, std, bare, start⟩
    rintro n s1 ⟨i, H1, I1, st1, no1, w1⟩
    rcases turn i n H1 w1 with ⟨halt, ends⟩ | ⟨goes, Nx, next, step⟩
    · refine thnF (Tn.done (X.blk sc Hc scope ce fp) rfl rfl rfl calm i [] s1 _ H1 (fun _ _ => False) I1 (pins_ I1 no1) st1 halt) fun r s2 out => ?_
      obtain ⟨rfl, I2⟩ := out
      have I3 : Inv X pins σ H1 s2 := Ic.call' (ch := fp) I2.os I2.base I2.hok I2.bare fun b hb =>
        let q := (fc b hb).1.2
        ⟨q.2.2.1, q.1, q.2.2.2.1, q.2.2.2.2⟩
      have free1 : H1 sc.heap.objs.size = none := at_ce ▸ I2.free
      obtain ⟨ns, hns, _⟩ := I2.loc
      have hns : s2.heap.Ns sc.heap.objs.size ns := at_ce ▸ (show s2.heap.Ns ce.locals ns from hns)
      obtain ⟨q0, q1, q2, q3, q4, q5⟩ := Ic.fpOk (Nat.le_refl _) free1
      exact ⟨ns, hns, fun h2 same => ⟨.ref D, H1, I3.turned (t' := s2.toks) (fun b o hb e => (same.2 b hb).trans e) q0 q1 q3 q4 q5, rfl, ends⟩⟩
    · refine thnF (Tn.item (X.blk sc Hc scope ce fp) rfl rfl rfl calm i [] s1 _ H1 (fun _ _ => False) I1 (pins_ I1 no1) st1 goes) fun r s2 out => ?_
      obtain ⟨u, rfl, out⟩ := out
      refine thnF out fun _ s3 ⟨x, H3, I3, r3, y3, st3, no3⟩ => ?_
      have J3 := I3.pinned (pins_ I3 no3) (Tn.obj _ _ st3)
      refine thnF (rg.run _ s3 _ H3 x u _ J3 r3 (step x H3 y3)) fun _ s4 ⟨σ4, H4, I4, w4, q4⟩ => ?_
      refine thnF (rt.run _ s4 σ4 H4 _ I4 q4) fun ok s5 ⟨H5, I5, q5⟩ => ?_
      have back : ∀ {s' : Shared} {H' : Hp}, Inv (X.blk sc Hc scope ce fp) ([] ++ pinsAt fp s3.heap) σ4 H' s' → Nx H' → ∃ m, m < n ∧ ∃ i H', Inv (X.blk sc Hc scope ce fp) [] (wipe σ (own.map (·.2))) H' s' ∧ told i s'.heap ∧ (∀ b ∈ fp, H' b = none) ∧ W i m H' := by
        intro s' H' I' nx
        obtain ⟨m', less, w'⟩ := next H' nx
        have stays : ∀ b ∈ fp, ∀ o, s3.heap.get? b = some o → s'.heap.get? b = some o ∧ H' b = none := fun b hb o e =>
          have z := I'.pin (b, o) (List.mem_append_right _ (List.mem_append_right _ (mem_pinsAt hb e)))
          ⟨z.1, z.2.1⟩
        refine ⟨m', less, i + 1, H', I'.unpinned (pins := []) |>.weak (by rw [← w4, wipe_length]) (fun j v e => (wipe_some (w4.symm ▸ e)).1), Tn.keep _ _ _ st3 fun b hb o e => (stays b hb o e).1, fun b hb => ?_, w'⟩
        obtain ⟨o, e, _⟩ := Tn.obj _ _ st3 b hb
        exact (stays b hb o e).2
      cases ok with
      | false => exact back I5 (by simpa using q5)
      | true =>
        refine thnF (rv.run _ s5 σ4 H5 _ I5 (show te σ4 H5 _ from q5)) fun u6 s6 ⟨y6, H6, I6, r6, k, S, c, e6, hD6, room, nx⟩ => ?_
        subst e6
        exact thnF (mt_sadd (X := X.blk sc Hc scope ce fp) _ s6 σ4 H6 (.ref D) [.int k] (.ref D) [u6] (fun _ H' => Nx H') I6 rfl (.cons r6 .nil) ⟨D, k, S, c, rfl, rfl, hD6, room, nx⟩) fun _ s7 ⟨_, H7, I7, _, nx7⟩ => back I7 nx7
  exact PpSet.codeAny_compStart_set loop (Tn.self X.A 0 _ _ _ std loop)
end
section
variable {J : It} {n : Nat} {Gd : Hp → Prop} {Y : Nat → Hp → V → Hp → Prop} {g : TG} {tt : TT} {te : TE} {wi : TI} {vs : List Nat} {σ : L2.St} {H1 : Hp} {D : Addr} {Qd : Hp → Prop} {w : World}
theorem scI_it (wk : Walk J n Gd Y) (Pv : Nat → Hp → Prop) (h0 : Pv 0 (upd H1 D (SetO w D (fun _ => false) 0))) (hG : ∀ i H, i ≤ n → Pv i H → Gd H)
    (hs : ∀ i x H H', i < n → Pv i H → Y i H x H' → g x (wipe σ vs) H' fun σ2 H2 => wipe σ2 vs = wipe σ vs ∧ tt σ2 H2 fun b H3 =>
      if b = true then te σ2 H3 fun y H4 => ∃ (k : Int) (S : Int → Bool) (n : Nat), y = .int k ∧ H4 D = some (SetO w D S n) ∧ n + 1 < scanBound ∧ Pv (i + 1) (upd H4 D (SetO w D (fun j => S j || decide (j = k)) (if S k = true then n else n + 1))) else Pv (i + 1) H3) (hd : ∀ H, Pv n H → Qd H) :
    ∃ W : Nat → Nat → Hp → Prop, (∃ m, W 0 m (upd H1 D (SetO w D (fun _ => false) 0))) ∧ ∀ i m H, W i m H →
      (J.stop i H ∧ Qd H) ∨ (J.go i H ∧ ∃ Nx : Hp → Prop, (∀ H', Nx H' → ∃ m', m' < m ∧ W (i + 1) m' H') ∧ ∀ x H', J.yld i H x H' → g x (wipe σ vs) H' fun σ2 H2 => wipe σ2 vs = wipe σ vs ∧ tt σ2 H2 fun b H3 =>
        if b = true then te σ2 H3 fun y H4 => ∃ (k : Int) (S : Int → Bool) (n : Nat), y = .int k ∧ H4 D = some (SetO w D S n) ∧ n + 1 < scanBound ∧ Nx (upd H4 D (SetO w D (fun j => S j || decide (j = k)) (if S k = true then n else n + 1))) else Nx H3) := by
  refine ⟨fun i m H => m = n - i ∧ i ≤ n ∧ Pv i H, ⟨n, by simp, Nat.zero_le _, h0⟩, ?_⟩
  rintro i m H ⟨rfl, hi, p⟩
  have q := hG i H hi p
  by_cases c : i < n
  · exact .inr ⟨wk.goes i H c q, Pv (i + 1), fun H' p' => ⟨n - (i + 1), by omega, rfl, c, p'⟩, fun x H' y => hs i x H H' c p (wk.yields i H x H' c q y)⟩
  · obtain rfl : i = n := by omega
    exact .inl ⟨wk.stops H q, hd H p⟩
theorem w_scI {Q : VK} (q : wi σ H1 fun J H1 => ∀ D, H1 D = none → ∃ W : Nat → Nat → Hp → Prop, (∃ m, W 0 m (upd H1 D (SetO w D (fun _ => false) 0))) ∧ ∀ i m H, W i m H →
  (J.stop i H ∧ Q (.ref D) H) ∨ (J.go i H ∧ ∃ Nx : Hp → Prop, (∀ H', Nx H' → ∃ m', m' < m ∧ W (i + 1) m' H') ∧ ∀ x H', J.yld i H x H' → g x (wipe σ vs) H' fun σ2 H2 => wipe σ2 vs = wipe σ vs ∧ tt σ2 H2 fun b H3 =>
    if b = true then te σ2 H3 fun y H4 => ∃ (k : Int) (S : Int → Bool) (n : Nat), y = .int k ∧ H4 D = some (SetO w D S n) ∧ n + 1 < scanBound ∧ Nx (upd H4 D (SetO w D (fun j => S j || decide (j = k)) (if S k = true then n else n + 1))) else Nx H3)) : tScI w wi g tt te vs σ H1 Q := q
end
section
variable {X : Cx}
def rLenSI (w : World) : List V → Hp → VK → Prop := fun xs H Q => ∃ (a : Addr) (S : Int → Bool) (n : Nat), xs = [.ref a] ∧ H a = some (SetO w a S n) ∧ n ≤ 1000 ∧ Q (.int n) H
theorem call_lenSI : CallR X (.builtin "len") (rLenSI X.w) := by
  intro pins s σ H xs us Q I r h
  obtain ⟨a, S, n, rfl, ha, hn, q⟩ := h
  rw [Vals.ref1 r]
  obtain ⟨o, es, ep, t, ho, hex, hd, _, nd, mem, hsz, hf, en, _⟩ := setO_get I ha
  exact call_len_set ho hex hd hf (by omega) ⟨.int n, H, I.tok _, ⟨_, by rw [en]⟩, q⟩
/-- xs[::-1] of a list -/
def tRevL (K : PySem.W.Frag) (te : TE) : TE := fun σ H Q => te σ H fun x H1 => ∃ (a : Addr) (xs : List V), x = .ref a ∧ SqL K H1 a xs ∧ ∀ q H2, H1 q = none → (∀ o, G o H1 H2) → H2 q = some (.lst xs.reverse) → Q (.ref q) H2
theorem w_revL {K : PySem.W.Frag} {te : TE} {σ : L2.St} {H : Hp} {Q : VK} (q : te σ H fun x H1 => ∃ (a : Addr) (xs : List V), x = .ref a ∧ SqL K H1 a xs ∧ ∀ q H2, H1 q = none → (∀ o, G o H1 H2) → H2 q = some (.lst xs.reverse) → Q (.ref q) H2) : tRevL K te σ H Q := q
theorem fm_congr {α β : Type} {f g : α → Option β} : ∀ {l : List α}, (∀ x ∈ l, f x = g x) → l.filterMap f = l.filterMap g
  | [], _ => rfl
  | x :: l, h => by rw [List.filterMap_cons, List.filterMap_cons, h x List.mem_cons_self, fm_congr fun y hy => h y (List.mem_cons_of_mem _ hy)]
theorem vals_app : ∀ {xs ys : List V} {us vs : List Value}, Vals xs us → Vals ys vs → Vals (xs ++ ys) (us ++ vs)
  | _, _, _, _, .nil, h => h
  | _, _, _, _, .cons h t, h' => .cons h (vals_app t h')
theorem vals_rev : ∀ {xs : List V} {us : List Value}, Vals xs us → Vals xs.reverse us.reverse
  | _, _, .nil => .nil
  | _, _, .cons h t => by rw [List.reverse_cons, List.reverse_cons]; exact vals_app (vals_rev t) (.cons h .nil)
theorem rev_pick (its : List Value) : slicePick its.toArray none none (some (-1)) = its.reverse.toArray := by
  unfold slicePick
  congr 1
  have e : sliceBounds none none (some (-1)) its.toArray.size = ((its.length : Int) - 1, -1, -1) := by
    unfold sliceBounds
    simp
  rw [e]
  have e2 : sliceRange ((its.length : Int) - 1) (-1) (-1) = (List.range its.length).map fun (k : Nat) => (((its.length : Int) - 1) + (-1) * (k : Int)).toNat := by
    unfold sliceRange
    have c : (if (-1 : Int) > 0 then (if ((its.length : Int) - 1) < -1 then ((-1) - ((its.length : Int) - 1) + (-1) - 1) / (-1) else 0) else (if ((its.length : Int) - 1) > -1 then (((its.length : Int) - 1) - (-1) - (-1) - 1) / (-(-1)) else 0)).toNat = its.length := by
      rw [if_neg (by decide)]
      split
      · rw [show (-(-1) : Int) = 1 from rfl, Int.ediv_one]; omega
      · omega
    dsimp only
    rw [c]
  dsimp only
  rw [e2, List.filterMap_map]
  have := filterMap_range_map its.reverse id
  rw [List.map_id, List.length_reverse] at this
  conv => rhs; rw [← this]
  refine fm_congr fun k hk => ?_
  have hk := List.mem_range.mp hk
  rw [List.getElem?_reverse hk]
  simp
  congr 1
  omega
theorem pe_revL {e : Expr} {te : TE} {k : Nat} {p1 p2 p3 pos : Pos} (he : PE X e te) : PE X (.Subscript e (.Slice none none (some (.UnaryOp .USub (.Constant (.int 1) k p1) p2)) p3) pos) (tRevL X.K te) := by
  constructor
  intro pins s σ H Q I h
  refine Subscript_ (thn (he.run pins s σ H _ I h) fun v s1 z => ?_)
  obtain ⟨x, H1, I1, r1, a, xs, rfl, hx, q⟩ := z
  cases r1
  have hst : PO X (some (.UnaryOp .USub (.Constant (.int 1) k p1) p2)) (tPart (tUn (rU fun i => .int (-i)) (tC (.int 1)))) := po_some (pe_un un_neg pe_int)
  refine wpAny_Slice (thn (po_none.run pins s1 σ H1 (fun o H2 => o = none ∧ H2 = H1) I1 ⟨rfl, rfl⟩) fun vl s2 z2 => ?_)
  obtain ⟨_, H2, I2, pl, rfl, rfl⟩ := z2
  refine thn (po_none.run pins s2 σ H2 (fun o H3 => o = none ∧ H3 = H2) I2 ⟨rfl, rfl⟩) fun vu s3 z3 => ?_
  obtain ⟨_, H3, I3, pu, rfl, rfl⟩ := z3
  refine thn (hst.run pins s3 σ H3 (fun o H4 => o = some (-1) ∧ H4 = H3) I3 ⟨1, rfl, -1, rfl, rfl, rfl⟩) fun vs s4 z4 => ?_
  obtain ⟨_, H4, I4, ps, rfl, rfl⟩ := z4
  obtain ⟨S, eS⟩ : ∃ S : Shared, S = { s4 with heap := s4.heap.push { cls := .type "slice", data := .fields #[vl, vu, vs] } } := ⟨_, rfl⟩
  have I5 : Inv X pins σ H4 S := by rw [eS]; exact I4.kept (t' := s4.toks) fun b ob q => Heap.get?_push_of_some _ q
  obtain ⟨its, r, ht0, hz⟩ := I5.list hx
  have ht := ht0.isList
  have hlen : its.toArray.size = xs.length := by rw [List.size_toArray]; exact r.length.symm
  have hsl : S.heap.IsSliceOf s4.heap.objs.size vl vu vs := by rw [eS]; exact Heap.IsSliceOf.new _ vl vu vs
  show wpAny (model X.prog X.w) X.A (subscriptTail e (.Slice none none (some (.UnaryOp .USub (.Constant (.int 1) k p1) p2)) p3) (.ref a) (.ref s4.heap.objs.size)) (EP X pins σ Q) X.xe { s4 with heap := s4.heap.push { cls := .type "slice", data := .fields #[vl, vu, vs] } }
  rw [← eS]
  refine tail_any (ops := [.ref a, .ref s4.heap.objs.size]) ht.typeIs slot_list_getitem.lookup ?_ (by with_unfolding_all rfl)
  refine wpAny_getItem_list_slice ht hsl pl pu ps (by decide) ?_ (by rw [hlen, r.length, ← List.size_toArray]; omega)
  rw [rev_pick]
  have new : H4 S.heap.objs.size = none := I5.hok.fresh (Nat.le_refl _)
  have rr : Vals xs.reverse its.reverse := by
    have rel := vals_rev r
    exact rel
  refine ⟨.ref S.heap.objs.size, _, I5.laid (t' := S.toks) (o := .lst xs.reverse) (fun b ob q => Heap.get?_push_of_some _ q) (Nat.le_refl _) ?_, rfl, q _ _ new (fun _ => G.alloc new) upd_same⟩
  exact ⟨by rw [List.length_reverse]; exact hz, its.reverse, _, rr, Heap.get?_push_size _ rfl⟩
end
end GA
/-! ## GSC -/
namespace GSa
open PySem PySem.Spec PyProof.Rows L2 GA
/-- a Bag, but for what its tuples tell -/
def Bag0 (P : Program) (w : World) (h : Heap) (a : Addr) (L : List (Addr × List Bool)) : Prop := ∃ (es : Array (Int × Value)) (ep : Nat) (t : SetTable) (o : Obj), h.get? a = some o ∧ o.ExactSet ∧ o.data = .set es ep t ∧ es.toList = L.map (fun q => (hv P w q.2, Value.ref q.1)) ∧ TabOk t (L.map fun q => hv P w q.2) ∧
  (L.map (·.2)).Nodup ∧ t.plain = true ∧ (w.params.followText "set-order" = true ∨ t.led = true) ∧ t.mask = 7 ∧ L.length ≤ 4
def BagO (P : Program) (w : World) (a : Addr) (L : List (Addr × List Bool)) : HO := .ext fun h => Bag0 P w h a L
theorem Bag.b0 {P : Program} {w : World} {h : Heap} {a : Addr} {L : List (Addr × List Bool)} {es : Array (Int × Value)} {ep : Nat} {t : SetTable} (B : Bag P w h a L es ep t) : Bag0 P w h a L := by
  obtain ⟨o, e1, e2, e3⟩ := B.obj
  exact ⟨es, ep, t, o, e1, e2, e3, B.laid, B.tab, B.apart, B.plain, B.led, B.m7, B.few⟩
theorem Bag0.bag {P : Program} {w : World} {h : Heap} {a : Addr} {L : List (Addr × List Bool)} (B : Bag0 P w h a L) (tl : ∀ q ∈ L, IsB P w h q.2 q.1) : ∃ es ep t, Bag P w h a L es ep t := by
  obtain ⟨es, ep, t, o, e1, e2, e3, z1, z2, z3, z4, z5, z6, z7⟩ := B
  exact ⟨es, ep, t, ⟨o, e1, e2, e3⟩, z1, z2, z3, tl, z4, z5, z6, z7⟩
theorem bag0_fresh {P : Program} {w : World} {h : Heap} {a : Addr} (e : h.get? a = some { cls := .type "set", dict := none, data := .set #[] 0 (.fresh 0 0 (!w.params.followText "set-order")) }) : Bag0 P w h a [] := (bag_new e).b0
theorem bagO_new {P : Program} {w : World} {H : Hp} {h : Heap} {a : Addr} {L : List (Addr × List Bool)} (B : Bag0 P w h a L) : ObjOk P w H h a (BagO P w a L) := by
  have ⟨_, _, _, o, e, _⟩ := B
  refine ⟨B, ⟨o, e⟩, fun h1 h2 p k => ?_⟩
  obtain ⟨es, ep, t, o, e, r⟩ := p
  exact ⟨es, ep, t, o, k _ e, r⟩
/-- the set at a holds these tuples -/
def InBag (P : Program) (w : World) (H : Hp) (a : Addr) (L : List (Addr × List Bool)) : Prop := H a = some (BagO P w a L) ∧ ∀ q ∈ L, H q.1 = some (.tup (q.2.map V.bl)) ∧ q.2 ∈ two
theorem bools_items {P : Program} {w : World} : ∀ {k : List Bool} {us : List Value}, Vals (k.map V.bl) us → ItemsAre (BK P w) k us
  | [], _, .nil => .nil
  | b :: k, _, .cons r t => by
    cases r
    exact .cons (PpSet.boolK_is P w b) (bools_items t)
section
variable {X : Cx} {pins : List (Addr × Obj)} {σ : L2.St} {H : Hp} {s : Shared}
theorem tup_isB (I : Inv X pins σ H s) {b : Addr} {k : List Bool} (h : H b = some (.tup (k.map V.bl))) : IsB X.prog X.w s.heap k b := by
  obtain ⟨us, r, ⟨o, e1, e2, n, e3⟩, _⟩ := I.tuple (SqT.of h)
  exact ⟨o, us.toArray, n, e1, e2, e3, by simpa using bools_items r⟩
theorem bag_of (I : Inv X pins σ H s) {a : Addr} {L : List (Addr × List Bool)} (h : InBag X.prog X.w H a L) : ∃ es ep t, Bag X.prog X.w s.heap a L es ep t := by
  obtain ⟨x, _, _⟩ := (show ObjOk X.prog X.w H s.heap a (BagO X.prog X.w a L) from I.hok a _ h.1)
  exact Bag0.bag x fun q hq => tup_isB I (h.2 q hq).1
theorem bag_put (un : X.A.units + 1 < cLine) (I : Inv X pins σ H s) {D b : Addr} {L : List (Addr × List Bool)} {k : List Bool} (hD : InBag X.prog X.w H D L) (hb : H b = some (.tup (k.map V.bl))) (hk : k ∈ two) {E : Value → Shared → Prop} {Q : Value → Shared → Prop}
    (q : ∀ L' s', Inv X pins σ (upd H D (BagO X.prog X.w D L')) s' → (k ∈ L.map (·.2) → L' = L) → (k ∉ L.map (·.2) → L'.Perm ((b, k) :: L)) → InBag X.prog X.w (upd H D (BagO X.prog X.w D L')) D L' → Q .none s') :
    wpAny (model X.prog X.w) X.A (call (.builtin "set.add") [.ref D, .ref b]) Q E s := by
  obtain ⟨es, ep, t, B⟩ := bag_of I hD
  have hx := tup_isB I hb
  obtain ⟨o, e1, e2, _⟩ := B.obj
  refine wpAny_call_entry F.slot_set_add ⟨o, e1, e2.1⟩ F.entry_set_add ?_ (F.args_set_add_2 _ _)
  unfold Builtin.«set.add» Builtin.Frozenset.oneOther
  simp only [List.isEmpty_nil, bind_assoc]
  unfold Builtin.Frozenset.addrOf setAdd
  refine wpAny_bind (wpAny_pure ?_)
  try dsimp only
  refine wpAny_bind (wpAny_pure ?_)
  try dsimp only
  refine wpAny_bind (wpAny_holding (wpAny_bind (wpAny_pyHash_tuple (knd := BK X.prog X.w) (by show X.A.units + 1 < cLine; exact un) hx ?_)))
  refine bag_add (s := { s with toks := s.toks + (k.length + 1) }) B hx (by show X.A.units + 1 < cLine; exact un) (fun no => by have := two_room B.apart (fun z hz => by obtain ⟨q, hq, rfl⟩ := List.mem_map.mp hz; exact (hD.2 q hq).2) hk no; simpa using this) fun z h' L' es' ep' t' sb B' o1 o2 => ?_
  show wpAny _ _ (ret Value.none) _ _ _
  have nb : b ≠ D := ne_of hb hD.1 (by unfold BagO; intro z; cases z)
  have I' : Inv X pins σ (upd H D (BagO X.prog X.w D L')) { s with heap := h', toks := s.toks + (k.length + 1) } :=
    I.write (e := D) (t' := s.toks + (k.length + 1)) (by rw [hD.1]; trivial) (.inl rfl) (fun c u hc hu => (sb.2 c hc).trans hu) (let ⟨o, e, _⟩ := B'.obj; ⟨o, e⟩) (bagO_new B'.b0)
  refine wpAny_pure ⟨_, rfl, q L' _ I' o1 o2 ⟨upd_same, fun u hu => ?_⟩⟩
  have all : u = (b, k) ∨ u ∈ L := by
    by_cases c : k ∈ L.map (·.2)
    · rw [o1 c] at hu; exact .inr hu
    · exact List.mem_cons.mp ((o2 c).mem_iff.mp hu)
  rcases all with rfl | hu
  · exact ⟨(upd_ne nb).trans hb, hk⟩
  · have z := hD.2 u hu
    exact ⟨(upd_ne (ne_of z.1 hD.1 (by unfold BagO; intro z; cases z))).trans z.1, z.2⟩
end
/-- {e for target in iter if ..}, e a new tuple of two truth values -/
def tScT2 (P : Program) (w : World) (wi : TI) (g : TG) (tt : TT) (te : TE) (vs : List Nat) : TE := fun σ H Q => wi σ H fun J H1 => ∀ D, H1 D = none → ∃ W : Nat → Nat → Hp → Prop, (∃ m, W 0 m (upd H1 D (BagO P w D []))) ∧ ∀ i m H, W i m H →
  (J.stop i H ∧ Q (.ref D) H) ∨ (J.go i H ∧ ∃ Nx : Hp → Prop, (∀ H', Nx H' → ∃ m', m' < m ∧ W (i + 1) m' H') ∧ ∀ x H', J.yld i H x H' → g x (wipe σ vs) H' fun σ2 H2 => wipe σ2 vs = wipe σ vs ∧ tt σ2 H2 fun b H3 =>
    if b = true then te σ2 H3 fun y H4 => ∃ (b : Addr) (k : List Bool) (L : List (Addr × List Bool)), y = .ref b ∧ H4 b = some (.tup (k.map V.bl)) ∧ k ∈ two ∧ InBag P w H4 D L ∧ ∀ L', (k ∈ L.map (·.2) → L' = L) → (k ∉ L.map (·.2) → L'.Perm ((b, k) :: L)) → InBag P w (upd H4 D (BagO P w D L')) D L' → Nx (upd H4 D (BagO P w D L')) else Nx H3)
section
variable {X : Cx}
theorem pe_scT2 {elt tg iter : Expr} {ifs : List Expr} {scope : Scope} {own : List (PySem.Str × Nat)} {pos : Pos} {wi : TI} {g : TG} {tt : TT} {te : TE} (un : X.A.units + 1 < cLine) (calm : X.calm = true) (nd : X.N.Nodup) (src : PI X tg iter wi) (blk : BlkOk X.N X.env.scope scope own)
    (pg : ∀ (s : Shared) (H : Hp) (C : Addr) (cl : List (PySem.Str × Addr)) (fp : List Addr), PG (X.blk s H scope (compEnvC scope cl C X.env) fp) tg g)
    (pt : ∀ (s : Shared) (H : Hp) (C : Addr) (cl : List (PySem.Str × Addr)) (fp : List Addr), PTs (X.blk s H scope (compEnvC scope cl C X.env) fp) ifs tt)
    (pv' : ∀ (s : Shared) (H : Hp) (C : Addr) (cl : List (PySem.Str × Addr)) (fp : List Addr), PE (X.blk s H scope (compEnvC scope cl C X.env) fp) elt te) (fold : ∀ x, foldedSetIterable iter X.env x = pure x := by intro _; rfl) :
    PE X (.SetComp elt [⟨tg, iter, ifs, 0⟩] scope pos) (tScT2 X.prog X.w wi g tt te (own.map (·.2))) := by
  constructor
  intro pins s σ H Q I want
  rw [PpSet.eval_SetComp]
  have cells : ∀ nm ∈ scope.names, nm.2 = .free → ∃ c, X.env.cells.lookup nm.1 = some c := fun nm hnm e => (blk.free nm hnm e).elim (fun a => I.ok.has _ (.inl a)) fun a => I.ok.has _ (.inr a)
  apply wpAny_comprehension_free (use := none) rfl fold (closure_ok cells) blk.kind (fun nm hnm e => by rw [blk.uniq nm hnm, e])
  refine thn (src.run pins s σ H _ I want) fun _ sa step1 => thn step1 fun _ sb step2 => ?_
  obtain ⟨it, fp, told, J, Hb, rfl, Ib, Tn, stb, fb, rest⟩ := step2
  refine PpSet.newSet_ok (newEnv_comp ?_)
  obtain ⟨D, eD⟩ : ∃ D, sb.heap.objs.size = D := ⟨_, rfl⟩
  have freeD : Hb D = none := Ib.hok.fresh (eD ▸ Nat.le_refl _)
  obtain ⟨W, ⟨m0, start⟩, turn⟩ := rest D freeD
  obtain ⟨sc, eSc⟩ : ∃ sc : Shared, { sb with heap := sb.heap.push { cls := .type "set", dict := none, data := .set #[] 0 (.fresh 0 0 (!X.w.params.followText "set-order")) } } = sc := ⟨_, rfl⟩
  have hc : sc.heap = sb.heap.push { cls := .type "set", dict := none, data := .set #[] 0 (.fresh 0 0 (!X.w.params.followText "set-order")) } := eSc ▸ rfl
  have Ic : Inv X pins σ (upd Hb D (BagO X.prog X.w D [])) sc := by
    subst eSc eD
    exact Ib.laid (t' := sb.toks) (fun _ _ e => Heap.get?_push_of_some _ e) (Nat.le_refl _) (bagO_new (bag0_fresh (Heap.get?_push_size _ rfl)))
  have low : ∀ b ∈ fp, b < sb.heap.objs.size := fun b hb => let ⟨_, e, _⟩ := Tn.obj _ _ stb b hb; Heap.lt_size e
  have fc : ∀ b ∈ fp, FpOk X pins (upd Hb D (BagO X.prog X.w D [])) b ∧ b < sc.heap.objs.size := by
    intro b hb
    have lt := low b hb
    have ne : b ≠ D := eD ▸ Nat.ne_of_lt lt
    exact ⟨⟨(upd_ne ne).trans (fb b hb).1, (fb b hb).2⟩, by rw [hc, Heap.size_push]; exact Nat.lt_succ_of_lt lt⟩
  have stc : told 0 sc.heap := Tn.keep _ _ _ stb fun b _ o e => hc ▸ Heap.get?_push_of_some _ e
  have Id := block_start Ic blk nd fc
  have rg := pg sc (upd Hb D (BagO X.prog X.w D [])) sc.heap.objs.size (cellsFrom (sc.heap.objs.size + 1) scope.names (cloFrom X.env.cells scope.names [])) fp
  have rt := pt sc (upd Hb D (BagO X.prog X.w D [])) sc.heap.objs.size (cellsFrom (sc.heap.objs.size + 1) scope.names (cloFrom X.env.cells scope.names [])) fp
  have rv := pv' sc (upd Hb D (BagO X.prog X.w D [])) sc.heap.objs.size (cellsFrom (sc.heap.objs.size + 1) scope.names (cloFrom X.env.cells scope.names [])) fp
  have bare : ∀ b ∈ fp, upd Hb D (BagO X.prog X.w D []) b = none := fun b hb => (fc b hb).1.1
  show codeAny _ _ (.compStart (.SetComp elt [⟨tg, iter, ifs, 0⟩] scope pos) 0 (.ref it) (.ref sb.heap.objs.size) (compEnvC scope (cellsFrom (({ sb with heap := sb.heap.push { cls := .type "set", dict := none, data := .set #[] 0 (.fresh 0 0 (!X.w.params.followText "set-order")) } } : Shared).heap.objs.size + 1) scope.names (cloFrom X.env.cells scope.names [])) ({ sb with heap := sb.heap.push { cls := .type "set", dict := none, data := .set #[] 0 (.fresh 0 0 (!X.w.params.followText "set-order")) } } : Shared).heap.objs.size X.env)) (compPost (model X.prog X.w) X.A X.xe none _ (.ref sb.heap.objs.size) ({ sb with heap := sb.heap.push { cls := .type "set", dict := none, data := .set #[] 0 (.fresh 0 0 (!X.w.params.followText "set-order")) } } : Shared).heap.objs.size) { ({ sb with heap := sb.heap.push { cls := .type "set", dict := none, data := .set #[] 0 (.fresh 0 0 (!X.w.params.followText "set-order")) } } : Shared) with heap := pushCells (({ sb with heap := sb.heap.push { cls := .type "set", dict := none, data := .set #[] 0 (.fresh 0 0 (!X.w.params.followText "set-order")) } } : Shared).heap.push { cls := .type "dict", data := .dict #[] }) scope.names }
  rw [eSc, eD]
  obtain ⟨ce, eCe⟩ : ∃ ce, compEnvC scope (cellsFrom (sc.heap.objs.size + 1) scope.names (cloFrom X.env.cells scope.names [])) sc.heap.objs.size X.env = ce := ⟨_, rfl⟩
  have at_ce : ce.locals = sc.heap.objs.size := eCe ▸ rfl
  rw [eCe] at Id rg rt rv ⊢
  obtain ⟨Hc, eHc⟩ : ∃ Hc, upd Hb D (BagO X.prog X.w D []) = Hc := ⟨_, rfl⟩
  rw [eHc] at Ic Id rg rt rv start bare fc
  obtain ⟨sd, eSd⟩ : ∃ sd : Shared, { sc with heap := pushCells (sc.heap.push { cls := .type "dict", data := .dict #[] }) scope.names } = sd := ⟨_, rfl⟩
  rw [eSd] at Id ⊢
  have std : told 0 sd.heap := Tn.keep _ _ _ stc fun b _ o e => eSd ▸ pushCells_keeps _ _ _ _ (Heap.get?_push_of_some _ e)
  have pins_ : ∀ {τ : L2.St} {H' : Hp} {s' : Shared}, Inv (X.blk sc Hc scope ce fp) [] τ H' s' → (∀ b ∈ fp, H' b = none) → ∀ b ∈ fp, FpOk (X.blk sc Hc scope ce fp) [] H' b := fun I' no b hb =>
    ⟨no b hb, (I'.ok.exf b hb).1, I'.ok.exfs b hb, .inl hb, fun x c e => (I'.ok.exf b hb).2 x c e, fun p hp => nomatch (show p ∈ ([] : List (Addr × Obj)) from hp)⟩
  have loop : codeAny (model X.prog X.w) X.A (.compLoop (.SetComp elt [⟨tg, iter, ifs, 0⟩] scope pos) 0 (.ref it) (.ref D) ce) (compPost (model X.prog X.w) X.A X.xe none (fun v s' => ∃ x H', Inv X pins σ H' s' ∧ RelV x v ∧ Q x H') (.ref D) sc.heap.objs.size) sd := by
    refine PpSet.compLoopS_any (fun n s' => ∃ i H', Inv (X.blk sc Hc scope ce fp) [] (wipe σ (own.map (·.2))) H' s' ∧ told i s'.heap ∧ (∀ b ∈ fp, H' b = none) ∧ W i n H') ?_ m0 ⟨0, Hc, Id, std, bare, start⟩
    rintro n s1 ⟨i, H1, I1, st1, no1, w1⟩
    rcases turn i n H1 w1 with ⟨halt, ends⟩ | ⟨goes, Nx, next, step⟩
    · refine thnF (Tn.done (X.blk sc Hc scope ce fp) rfl rfl rfl calm i [] s1 _ H1 (fun _ _ => False) I1 (pins_ I1 no1) st1 halt) fun r s2 out => ?_
      obtain ⟨rfl, I2⟩ := out
      have I3 : Inv X pins σ H1 s2 := Ic.call' (ch := fp) I2.os I2.base I2.hok I2.bare fun b hb =>
        let q := (fc b hb).1.2
        ⟨q.2.2.1, q.1, q.2.2.2.1, q.2.2.2.2⟩
      have free1 : H1 sc.heap.objs.size = none := at_ce ▸ I2.free
      obtain ⟨ns, hns, _⟩ := I2.loc
      have hns : s2.heap.Ns sc.heap.objs.size ns := at_ce ▸ (show s2.heap.Ns ce.locals ns from hns)
      obtain ⟨q0, q1, q2, q3, q4, q5⟩ := Ic.fpOk (Nat.le_refl _) free1
      exact ⟨ns, hns, fun h2 same => ⟨.ref D, H1, I3.turned (t' := s2.toks) (fun b o hb e => (same.2 b hb).trans e) q0 q1 q3 q4 q5, rfl, ends⟩⟩
    · refine thnF (Tn.item (X.blk sc Hc scope ce fp) rfl rfl rfl calm i [] s1 _ H1 (fun _ _ => False) I1 (pins_ I1 no1) st1 goes) fun r s2 out => ?_
      obtain ⟨u, rfl, out⟩ := out
      refine thnF out fun _ s3 ⟨x, H3, I3, r3, y3, st3, no3⟩ => ?_
      have J3 := I3.pinned (pins_ I3 no3) (Tn.obj _ _ st3)
      refine thnF (rg.run _ s3 _ H3 x u _ J3 r3 (step x H3 y3)) fun _ s4 ⟨σ4, H4, I4, w4, q4⟩ => ?_
      refine thnF (rt.run _ s4 σ4 H4 _ I4 q4) fun ok s5 ⟨H5, I5, q5⟩ => ?_
      have back : ∀ {s' : Shared} {H' : Hp}, Inv (X.blk sc Hc scope ce fp) ([] ++ pinsAt fp s3.heap) σ4 H' s' → Nx H' → ∃ m, m < n ∧ ∃ i H', Inv (X.blk sc Hc scope ce fp) [] (wipe σ (own.map (·.2))) H' s' ∧ told i s'.heap ∧ (∀ b ∈ fp, H' b = none) ∧ W i m H' := by
        intro s' H' I' nx
        obtain ⟨m', less, w'⟩ := next H' nx
        have stays : ∀ b ∈ fp, ∀ o, s3.heap.get? b = some o → s'.heap.get? b = some o ∧ H' b = none := fun b hb o e =>
          have z := I'.pin (b, o) (List.mem_append_right _ (List.mem_append_right _ (mem_pinsAt hb e)))
          ⟨z.1, z.2.1⟩
        refine ⟨m', less, i + 1, H', I'.unpinned (pins := []) |>.weak (by rw [← w4, wipe_length]) (fun j v e => (wipe_some (w4.symm ▸ e)).1), Tn.keep _ _ _ st3 fun b hb o e => (stays b hb o e).1, fun b hb => ?_, w'⟩
        obtain ⟨o, e, _⟩ := Tn.obj _ _ st3 b hb
        exact (stays b hb o e).2
      cases ok with
      | false => exact back I5 (by simpa using q5)
      | true =>
        refine thnF (rv.run _ s5 σ4 H5 _ I5 (show te σ4 H5 _ from q5)) fun u6 s6 ⟨y6, H6, I6, r6, b, k, L, e6, hb6, hk6, hD6, nx⟩ => ?_
        subst e6
        cases r6
        exact thnF (bag_put (X := X.blk sc Hc scope ce fp) un I6 hD6 hb6 hk6 (Q := fun _ s' => ∃ H', Inv (X.blk sc Hc scope ce fp) ([] ++ pinsAt fp s3.heap) σ4 H' s' ∧ Nx H') fun L' s' I' o1 o2 hD' => ⟨_, I', nx L' o1 o2 hD'⟩) fun _ s7 ⟨H7, I7, nx7⟩ => back I7 nx7
  exact PpSet.codeAny_compStart_set loop (Tn.self X.A 0 _ _ _ std loop)
end

section
variable {P : Program} {J : It} {n : Nat} {Gd : Hp → Prop} {Y : Nat → Hp → V → Hp → Prop} {g : TG} {tt : TT} {te : TE} {wi : TI} {vs : List Nat} {σ : L2.St} {H1 : Hp} {D : Addr} {Qd : Hp → Prop} {w : World}
theorem scT2_it (wk : Walk J n Gd Y) (Pv : Nat → Hp → Prop) (h0 : Pv 0 (upd H1 D (BagO P w D []))) (hG : ∀ i H, i ≤ n → Pv i H → Gd H)
    (hs : ∀ i x H H', i < n → Pv i H → Y i H x H' → g x (wipe σ vs) H' fun σ2 H2 => wipe σ2 vs = wipe σ vs ∧ tt σ2 H2 fun b H3 =>
    if b = true then te σ2 H3 fun y H4 => ∃ (b : Addr) (k : List Bool) (L : List (Addr × List Bool)), y = .ref b ∧ H4 b = some (.tup (k.map V.bl)) ∧ k ∈ two ∧ InBag P w H4 D L ∧ ∀ L', (k ∈ L.map (·.2) → L' = L) → (k ∉ L.map (·.2) → L'.Perm ((b, k) :: L)) → InBag P w (upd H4 D (BagO P w D L')) D L' → Pv (i + 1) (upd H4 D (BagO P w D L')) else Pv (i + 1) H3) (hd : ∀ H, Pv n H → Qd H) :
    ∃ W : Nat → Nat → Hp → Prop, (∃ m, W 0 m (upd H1 D (BagO P w D []))) ∧ ∀ i m H, W i m H →
      (J.stop i H ∧ Qd H) ∨ (J.go i H ∧ ∃ Nx : Hp → Prop, (∀ H', Nx H' → ∃ m', m' < m ∧ W (i + 1) m' H') ∧ ∀ x H', J.yld i H x H' → g x (wipe σ vs) H' fun σ2 H2 => wipe σ2 vs = wipe σ vs ∧ tt σ2 H2 fun b H3 =>
    if b = true then te σ2 H3 fun y H4 => ∃ (b : Addr) (k : List Bool) (L : List (Addr × List Bool)), y = .ref b ∧ H4 b = some (.tup (k.map V.bl)) ∧ k ∈ two ∧ InBag P w H4 D L ∧ ∀ L', (k ∈ L.map (·.2) → L' = L) → (k ∉ L.map (·.2) → L'.Perm ((b, k) :: L)) → InBag P w (upd H4 D (BagO P w D L')) D L' → Nx (upd H4 D (BagO P w D L')) else Nx H3) := by
  refine ⟨fun i m H => m = n - i ∧ i ≤ n ∧ Pv i H, ⟨n, by simp, Nat.zero_le _, h0⟩, ?_⟩
  rintro i m H ⟨rfl, hi, p⟩
  have q := hG i H hi p
  by_cases c : i < n
  · exact .inr ⟨wk.goes i H c q, Pv (i + 1), fun H' p' => ⟨n - (i + 1), by omega, rfl, c, p'⟩, fun x H' y => hs i x H H' c p (wk.yields i H x H' c q y)⟩
  · obtain rfl : i = n := by omega
    exact .inl ⟨wk.stops H q, hd H p⟩
theorem w_scT2 {Q : VK} (q : wi σ H1 fun J H1 => ∀ D, H1 D = none → ∃ W : Nat → Nat → Hp → Prop, (∃ m, W 0 m (upd H1 D (BagO P w D []))) ∧ ∀ i m H, W i m H →
  (J.stop i H ∧ Q (.ref D) H) ∨ (J.go i H ∧ ∃ Nx : Hp → Prop, (∀ H', Nx H' → ∃ m', m' < m ∧ W (i + 1) m' H') ∧ ∀ x H', J.yld i H x H' → g x (wipe σ vs) H' fun σ2 H2 => wipe σ2 vs = wipe σ vs ∧ tt σ2 H2 fun b H3 =>
    if b = true then te σ2 H3 fun y H4 => ∃ (b : Addr) (k : List Bool) (L : List (Addr × List Bool)), y = .ref b ∧ H4 b = some (.tup (k.map V.bl)) ∧ k ∈ two ∧ InBag P w H4 D L ∧ ∀ L', (k ∈ L.map (·.2) → L' = L) → (k ∉ L.map (·.2) → L'.Perm ((b, k) :: L)) → InBag P w (upd H4 D (BagO P w D L')) D L' → Nx (upd H4 D (BagO P w D L')) else Nx H3)) : tScT2 P w wi g tt te vs σ H1 Q := q
end
/-- len(of such a set) -/
def rLenBag (P : Program) (w : World) : List V → Hp → VK → Prop := fun xs H Q => ∃ (a : Addr) (L : List (Addr × List Bool)), xs = [.ref a] ∧ InBag P w H a L ∧ Q (.int L.length) H
theorem call_lenBag {X : Cx} : CallR X (.builtin "len") (rLenBag X.prog X.w) := by
  intro pins s σ H xs us Q I r h
  obtain ⟨a, L, rfl, hI, q⟩ := h
  rw [Vals.ref1 r]
  obtain ⟨es, ep, t, B⟩ := bag_of I hI
  obtain ⟨o, e1, e2, e3⟩ := B.obj
  have e4 := B.len
  have e5 := B.few
  exact call_len_set e1 e2 e3 B.fits (by omega) ⟨.int L.length, H, I.tok _, ⟨_, by rw [e4]⟩, q⟩
end GSa
/-! ## GSL -/
namespace GA
open PySem PySem.Spec PyProof.Rows L2
section
variable {P : Program} {w : World} {A : Around} {E : Value → Shared → Prop} {s : Shared}
/-- set(a list of ints), told by its members; what stood stands -/
theorem set_of_listI {l : Addr} {items : Array Value} (ns : List Int) {Q : Value → Shared → Prop} (hh : A.handled = none) (hl : s.heap.IsList l items) (hit : IntsAre items.toList ns) (hb : ns.length + 1 < scanBound)
    (h : ∀ (h' : Heap) (tk c : Nat), SetR w h' s.heap.objs.size (fun j => decide (j ∈ ns)) c → c ≤ ns.length → (∀ b o, s.heap.get? b = some o → h'.get? b = some o) → Q (.ref s.heap.objs.size) { s with heap := h', toks := tk }) :
    wpAny (model P w) A (call (.type "set") [.ref l]) Q E s := by
  have sz : items.size = ns.length := by rw [← IntsAre.length hit, Array.length_toList]
  obtain ⟨ol, hol, hcl, nl, hdl⟩ := id hl
  have lS : l < s.heap.objs.size := Heap.lt_size hol
  obtain ⟨O, eO⟩ : ∃ O : Obj, O = { cls := .type "set", dict := none, data := .set #[] 0 (.fresh 0 0 (!w.params.followText "set-order")) } := ⟨_, rfl⟩
  obtain ⟨c, tl, hmro⟩ := F.called_set.mro
  have hmade := F.called_set.made
  have hsub := F.called_set.sub
  refine wpAny_call (codeAny_of_tree ?_)
  show wpAny _ _ (callAny (.type "set") _) _ _ _
  refine wpAny_pure ⟨Code.quiet_builtin _ (by decide +kernel), codeAny_builtin F.entry_type_call ?_⟩
  rw [Around.under_plain (weight_type_call_type "set" [.ref l] []) rfl]
  have h1 := F.called_set.notType
  have h2 := F.called_set.canCreate
  have hct := F.typeCall_set_1 (.ref l)
  repeat (any_goals (first | assumption | wp_step))
  refine codeAny_mono (code_set_led1 (.ref l) (E := E) (Q₁ := fun obj s₁ => obj = .ref s.heap.objs.size ∧ s₁ = { s with heap := s.heap.push O }) ⟨rfl, by rw [eO]⟩) fun r s₁ hr => ?_
  cases r with
  | error e => exact hr
  | ok fl =>
    cases fl with
    | ret obj =>
      obtain ⟨rfl, rfl⟩ := hr
      have hS : (s.heap.push O).get? s.heap.objs.size = some O := Heap.get?_push_size _ (by rw [eO]; rfl)
      have hT : Shared.TypeIs { s with heap := s.heap.push O } (.ref s.heap.objs.size) "set" := ⟨_, hS, by rw [eO]⟩
      have hli := F.called_set.init.lookup
      have hbi := F.called_set.init.bind (.ref s.heap.objs.size)
      repeat (any_goals (first | assumption | wp_step))
      refine codeAny_mono (codeAny_call_builtin (R := wants (fun r s₂ => r = .none ∧ ∃ h' tk c, s₂ = { s with heap := h', toks := tk } ∧ SetR w h' s.heap.objs.size (fun j => decide (j ∈ ns)) c ∧ c ≤ ns.length ∧
          (∀ b o, s.heap.get? b = some o → h'.get? b = some o)) E) F.called_set.init.plain F.entry_set_init (check_set_init_1 hT ?_)) fun r₂ s₂ hr₂ => ?_
      · obtain ⟨ocls, odict, odata, oslots⟩ := ol
        simp only at hcl hdl
        subst hcl; subst hdl
        have hol' : (s.heap.push O).get? l = some { cls := .type "list", dict := odict, data := .seq items nl, slots := oslots } := Heap.get?_push_of_some _ hol
        have hsls := F.sub_list_set
        have hslf := F.sub_list_frozenset
        have hne : (Value.type "list" == Value.type "dict") = false := by decide
        have hl1 : (s.heap.push O).IsList l items := ⟨_, hol', rfl, nl, rfl⟩
        have zp : (s.heap.push O).objs.size = s.heap.objs.size + 1 := Heap.size_push ..
        have apart : l ≠ (s.heap.push O).objs.size := by rw [zp]; exact Nat.ne_of_lt (Nat.lt_succ_of_lt lS)
        have hSf : s.heap.objs.size ∉ [(s.heap.push O).objs.size, l] := by
          rw [zp]
          simp only [List.mem_cons, List.not_mem_nil, or_false, not_or]
          exact ⟨Nat.ne_of_lt (Nat.lt_succ_self _), Nat.ne_of_gt lS⟩
        subst eO
        unfold Builtin.«set.__init__» noKeywords Builtin.Frozenset.updateFrom
        generalize hPI : pyIter = PI
        wp_walk
        subst hPI
        refine wpAny_pyIter_list hl1 ?_
        refine wpAny_bind (wpAny_runValue ?_)
        have hh3 : A.in1.in1.in1.handled = none := by simp [hh]
        have hval : ∀ (i : Nat) (v : Value), items[i]? = some v → ∃ k t, ns[i]? = some k ∧ v = .int k t := fun i v hv => by
          have hi : i < ns.length := by rw [← sz]; exact (Array.getElem?_eq_some_iff.mp hv).1
          obtain ⟨t, e⟩ := IntsAre.int_at hit i v (by rw [Array.getElem?_toList]; exact hv)
          refine ⟨ns[i], t, List.getElem?_eq_getElem hi, ?_⟩
          rw [e, List.getD_eq_getElem?_getD, List.getElem?_eq_getElem hi] <;> rfl
        refine set_update_ints ((Walks.list hh3 _ l apart items).toS) s.heap.objs.size hSf ns sz hb hval (items.size - 0) 0 _ (by omega) (Nat.zero_le _) ⟨⟨_, Heap.get?_push_size _ rfl, rfl, rfl⟩, (hl1.push _)⟩ ?hS0 ?hR
        case hS0 => exact ⟨0, Nat.le_refl 0, setR_new_at (Heap.get?_push_of_some _ hS)⟩
        case hR =>
          intro s' c' hm hc' hS'
          obtain ⟨h', g2, d', tk', os'⟩ := s'
          have eg : g2 = s.gens := hm.gens
          have ed : d' = s.drawn := hm.drawn
          have eo : os' = s.os := hm.os
          subst eg; subst ed; subst eo
          show wpAny _ _ _ _ _ _
          refine wpAny_pure ?_
          show wpAny _ _ (ret Value.none) _ _ _
          rw [sz] at hc'
          refine wpAny_pure ⟨rfl, h', tk', c', rfl, hS', hc', fun b o e => ?_⟩
          have hb0 : b < s.heap.objs.size := Heap.lt_size e
          refine hm.heap b o ?_ (Heap.get?_push_of_some _ (Heap.get?_push_of_some _ e))
          simp only [List.mem_cons, List.not_mem_nil, or_false, not_or]
          exact ⟨Nat.ne_of_lt hb0, by rw [zp]; exact Nat.ne_of_lt (Nat.lt_succ_of_lt hb0)⟩
      · cases r₂ with
        | error e => exact hr₂
        | ok fl₂ =>
          cases fl₂ with
          | ret r =>
            obtain ⟨rfl, h', tk, c', rfl, g1, g2, g3⟩ := hr₂
            repeat (any_goals (first | assumption | wp_step))
            exact h _ _ _ g1 g2 g3
          | _ => exact hr₂.elim
    | _ => exact hr.elim
end
section
variable {X : Cx}
/-- set(a list of ints) -/
def rSetLI (K : PySem.W.Frag) (w : World) : List V → Hp → VK → Prop := fun xs H Q => ∃ (p : Addr) (ns : List Int), xs = [.ref p] ∧ SqL K H p (ns.map V.int) ∧ ns.length ≤ 4000 ∧
  ∀ (a : Addr) (c : Nat) (us : List Int) H2, H a = none → us.Nodup → (∀ k, k ∈ us ↔ k ∈ ns) → us.length = c → (∀ o, G o H H2) → H2 a = some (SetO w a (fun j => decide (j ∈ ns)) c) → Q (.ref a) H2
theorem cr_setLI (hc : X.calm = true) : CallR X (.type "set") (rSetLI X.K X.w) := by
  intro pins s σ H vs us Q I r h
  obtain ⟨p, ns, rfl, hp, hz, q⟩ := h
  rw [Vals.ref1 r]
  obtain ⟨its, rv, pt, _⟩ := I.list hp
  have free : H s.heap.objs.size = none := I.hok.fresh (Nat.le_refl _)
  refine set_of_listI ns (I.ok.hd hc) pt.isList (ints_of_vals rv) (by unfold scanBound; omega) fun h' tk c R hc' keep => ?_
  obtain ⟨_, es, _, _, _, _, _, _, e5, e6, _, _, e9, _⟩ := id R
  exact ⟨.ref s.heap.objs.size, _, I.laid (t' := tk) keep (Nat.le_refl _) (setO_new R), rfl, q _ c (es.toList.map keyOf) _ free e5 (fun k => by rw [← e6 k, decide_eq_true_iff]) (by rw [List.length_map, Array.length_toList]; exact e9) (fun _ => G.alloc free) upd_same⟩
end
end GA
/-! ## GSD -/
namespace GSa
open PySem PySem.Spec PyProof.Rows L2 GA
/-- behind i of the items -/
structure GotB (ks : List (Addr × List Bool)) (i : Nat) (L : List (Addr × List Bool)) : Prop where
  sub : ∀ q ∈ L, q ∈ ks
  all : ∀ q ∈ ks.take i, q.2 ∈ L.map (·.2)
section
variable {P : Program} {w : World} {A : Around} {E : Value → Shared → Prop} {s : Shared}
theorem bool_keep {h h' : Heap} {k : List Bool} {b : Addr} (x : IsB P w h k b) (kp : ∀ c o, h.get? c = some o → h'.get? c = some o) : IsB P w h' k b := by
  obtain ⟨o, us, m, e, r⟩ := x
  exact ⟨o, us, m, kp b o e, r⟩
theorem Bag.moved {h h' : Heap} {a : Addr} {L : List (Addr × List Bool)} {es : Array (Int × Value)} {ep : Nat} {t : SetTable} (B : Bag P w h a L es ep t) (ka : ∀ o, h.get? a = some o → h'.get? a = some o) (kt : ∀ q ∈ L, IsB P w h' q.2 q.1) : Bag P w h' a L es ep t := by
  obtain ⟨o, e, r⟩ := B.obj
  exact ⟨⟨o, ka o e, r⟩, B.laid, B.tab, B.apart, kt, B.plain, B.led, B.m7, B.few⟩
theorem bag_update {I : Addr} {fp wr : List Addr} {G : Array GenState → Array GenState → Prop} {n : Nat} {Pv : Nat → Value → Prop} {St : Nat → Shared → Prop} {R : Result → Shared → Prop} (W : WalksS P w A.in1 I fp wr G n Pv St) (S : Addr) (hSf : S ∉ fp) (ks : List (Addr × List Bool)) (hn : n = ks.length)
    (hval : ∀ i v, Pv i v → ∃ q, ks[i]? = some q ∧ v = .ref q.1) (h0 : Heap) (hk : ∀ q ∈ ks, IsB P w h0 q.2 q.1 ∧ q.2 ∈ two) (hS0 : h0.get? S = none) (hw0 : ∀ b ∈ wr, h0.get? b = none) (un : A.in1.units < cLine) :
    ∀ (k i : Nat) (s : Shared), n - i = k → i ≤ n → St i s → (∀ b o, h0.get? b = some o → s.heap.get? b = some o) → (∃ L es ep t, Bag P w s.heap S L es ep t ∧ GotB ks i L) →
      (∀ s' L es ep t, Moved (S :: wr) G s s' → Bag P w s'.heap S L es ep t → GotB ks n L → (∀ b o, h0.get? b = some o → s'.heap.get? b = some o) → R (.ok (.ret .none)) s') → codeAny (model P w) A (.builtin "set.update.loop" ⟨[.ref S, .ref I], []⟩) R s := by
  have hSw : S ∉ wr := fun h => hSf (W.sub _ h)
  have more : ∀ b ∈ wr, b ∈ S :: wr := fun b hb => List.mem_cons_of_mem _ hb
  have kept : ∀ {s s' : Shared}, Moved wr G s s' → (∀ b o, h0.get? b = some o → s.heap.get? b = some o) → ∀ b o, h0.get? b = some o → s'.heap.get? b = some o := fun hm kp b o e => hm.heap b o (fun z => by rw [hw0 b z] at e; cases e) (kp b o e)
  intro k
  induction k with
  | zero =>
    intro i s hki hi hst kp ⟨L, es, ep, t, B, got⟩ hR
    obtain rfl : i = n := by omega
    refine codeAny_builtin PyProof.Rows.F.entry_set_update_loop ?_
    rw [Around.under_plainId PyProof.Rows.F.plain_set_update_loop _]
    show wpAny _ A.in1 (pyNext (.ref I) >>= _) _ _ s
    refine wpAny_bind (W.done s _ _ hst fun s' hm => ?_)
    show wpAny _ A.in1 (ret Value.none) _ _ s'
    exact wpAny_pure (hR s' L es ep t (hm.mono more) (B.moved (fun o e => hm.heap S o hSw e) fun q hq => bool_keep (hk q (got.sub q hq)).1 (kept hm kp)) got (kept hm kp))
  | succ k ih =>
    intro i s hki hi hst kp ⟨L, es, ep, t, B, got⟩ hR
    have lt : i < n := by omega
    refine codeAny_builtin PyProof.Rows.F.entry_set_update_loop ?_
    rw [Around.under_plainId PyProof.Rows.F.plain_set_update_loop _]
    show wpAny _ A.in1 (pyNext (.ref I) >>= _) _ _ s
    refine wpAny_bind (W.item i s _ _ lt hst fun v s' hP hst' hm => ?_)
    obtain ⟨q, hq, rfl⟩ := hval i v hP
    have qm := List.mem_of_getElem? hq
    have kp' := kept hm kp
    have B' := B.moved (fun o e => hm.heap S o hSw e) fun q hq => bool_keep (hk q (got.sub q hq)).1 kp'
    have hx := bool_keep (hk q qm).1 kp'
    show wpAny _ A.in1 (holding [Value.ref q.1] (setAdd S (.ref q.1)) >>= _) _ _ s'
    refine wpAny_bind (wpAny_holding ?_)
    unfold setAdd
    refine wpAny_holding (wpAny_bind (wpAny_pyHash_tuple (knd := BK P w) un hx ?_))
    refine bag_add (s := { s' with toks := s'.toks + (q.2.length + 1) }) B' hx un (fun no => by have := two_room B.apart (fun z hz => by obtain ⟨u, hu, rfl⟩ := List.mem_map.mp hz; exact (hk u (got.sub u hu)).2) (hk q qm).2 no; simpa using this) fun z h' L' es' ep' t' sb B2 o1 o2 => ?_
    have kp2 : ∀ b o, h0.get? b = some o → h'.get? b = some o := fun b o e => (sb.2 b fun z => by rw [z, hS0] at e; cases e).trans (kp' b o e)
    have tk : ks.take (i + 1) = ks.take i ++ [q] := by rw [List.take_add_one, hq]; rfl
    have got' : GotB ks (i + 1) L' := by
      by_cases c : q.2 ∈ L.map (·.2)
      · rw [o1 c]
        refine ⟨got.sub, fun u hu => ?_⟩
        rw [tk] at hu
        rcases List.mem_append.mp hu with hu | hu
        · exact got.all u hu
        · rw [List.mem_singleton.mp hu]; exact c
      · have pm := o2 c
        refine ⟨fun u hu => ?_, fun u hu => ?_⟩
        · rcases List.mem_cons.mp (pm.mem_iff.mp hu) with e | e
          · rw [e]; exact qm
          · exact got.sub u e
        · rw [tk] at hu
          refine ((pm.map (·.2)).mem_iff).mpr ?_
          rcases List.mem_append.mp hu with hu | hu
          · exact List.mem_cons_of_mem _ (got.all u hu)
          · rw [List.mem_singleton.mp hu]; exact List.mem_cons_self
    refine wpAny_pure ⟨plainId_quiet PyProof.Rows.F.plain_set_update_loop _, ih (i + 1) _ (by omega) lt (W.frame _ s' _ _ hst' (Nat.le_add_right _ _) fun b hb o e => ?_) kp2 ⟨L', es', ep', t', B2, got'⟩ fun s'' L2 es2 ep2 t2 hm2 B3 got2 kp3 => ?_⟩
    · exact (sb.2 b fun h => hSf (h ▸ hb)).trans e
    · refine hR s'' L2 es2 ep2 t2 (Moved.trans W.gtrans ((hm.mono more).then_heap (Nat.le_add_right _ _) fun b o hb e => ?_) hm2) B3 got2 kp3
      exact (sb.2 b fun h => hb (h ▸ List.mem_cons_self)).trans e
theorem set_of_listB {l : Addr} {items : Array Value} (ks : List (Addr × List Bool)) {Q : Value → Shared → Prop} (hh : A.handled = none) (hl : s.heap.IsList l items) (hit : items.toList = ks.map fun q => Value.ref q.1) (hk : ∀ q ∈ ks, IsB P w s.heap q.2 q.1 ∧ q.2 ∈ two) (un : A.units + 3 < cLine)
    (h : ∀ (h' : Heap) (tk : Nat) L es ep t, Bag P w h' s.heap.objs.size L es ep t → GotB ks ks.length L → (∀ b o, s.heap.get? b = some o → h'.get? b = some o) → Q (.ref s.heap.objs.size) { s with heap := h', toks := tk }) :
    wpAny (model P w) A (call (.type "set") [.ref l]) Q E s := by
  have sz : items.size = ks.length := by simpa using congrArg List.length hit
  obtain ⟨ol, hol, hcl, nl, hdl⟩ := id hl
  have lS : l < s.heap.objs.size := Heap.lt_size hol
  obtain ⟨O, eO⟩ : ∃ O : Obj, O = { cls := .type "set", dict := none, data := .set #[] 0 (.fresh 0 0 (!w.params.followText "set-order")) } := ⟨_, rfl⟩
  obtain ⟨c, tl, hmro⟩ := F.called_set.mro
  have hmade := F.called_set.made
  have hsub := F.called_set.sub
  refine wpAny_call (codeAny_of_tree ?_)
  show wpAny _ _ (callAny (.type "set") _) _ _ _
  refine wpAny_pure ⟨Code.quiet_builtin _ (by decide +kernel), codeAny_builtin F.entry_type_call ?_⟩
  rw [Around.under_plain (weight_type_call_type "set" [.ref l] []) rfl]
  have h1 := F.called_set.notType
  have h2 := F.called_set.canCreate
  have hct := F.typeCall_set_1 (.ref l)
  repeat (any_goals (first | assumption | wp_step))
  refine codeAny_mono (code_set_led1 (.ref l) (E := E) (Q₁ := fun obj s₁ => obj = .ref s.heap.objs.size ∧ s₁ = { s with heap := s.heap.push O }) ⟨rfl, by rw [eO]⟩) fun r s₁ hr => ?_
  cases r with
  | error e => exact hr
  | ok fl =>
    cases fl with
    | ret obj =>
      obtain ⟨rfl, rfl⟩ := hr
      have hS : (s.heap.push O).get? s.heap.objs.size = some O := Heap.get?_push_size _ (by rw [eO]; rfl)
      have hT : Shared.TypeIs { s with heap := s.heap.push O } (.ref s.heap.objs.size) "set" := ⟨_, hS, by rw [eO]⟩
      have hli := F.called_set.init.lookup
      have hbi := F.called_set.init.bind (.ref s.heap.objs.size)
      repeat (any_goals (first | assumption | wp_step))
      refine codeAny_mono (codeAny_call_builtin (R := wants (fun r s₂ => r = .none ∧ ∃ h' tk L es ep t, s₂ = { s with heap := h', toks := tk } ∧ Bag P w h' s.heap.objs.size L es ep t ∧ GotB ks ks.length L ∧
          (∀ b o, s.heap.get? b = some o → h'.get? b = some o)) E) F.called_set.init.plain F.entry_set_init (check_set_init_1 hT ?_)) fun r₂ s₂ hr₂ => ?_
      · obtain ⟨ocls, odict, odata, oslots⟩ := ol
        simp only at hcl hdl
        subst hcl; subst hdl
        have hol' : (s.heap.push O).get? l = some { cls := .type "list", dict := odict, data := .seq items nl, slots := oslots } := Heap.get?_push_of_some _ hol
        have hsls := F.sub_list_set
        have hslf := F.sub_list_frozenset
        have hne : (Value.type "list" == Value.type "dict") = false := by decide
        have hl1 : (s.heap.push O).IsList l items := ⟨_, hol', rfl, nl, rfl⟩
        have zp : (s.heap.push O).objs.size = s.heap.objs.size + 1 := Heap.size_push ..
        have apart : l ≠ (s.heap.push O).objs.size := by rw [zp]; exact Nat.ne_of_lt (Nat.lt_succ_of_lt lS)
        have hSf : s.heap.objs.size ∉ [(s.heap.push O).objs.size, l] := by
          rw [zp]
          simp only [List.mem_cons, List.not_mem_nil, or_false, not_or]
          exact ⟨Nat.ne_of_lt (Nat.lt_succ_self _), Nat.ne_of_gt lS⟩
        subst eO
        unfold Builtin.«set.__init__» noKeywords Builtin.Frozenset.updateFrom
        generalize hPI : pyIter = PI
        wp_walk
        subst hPI
        refine wpAny_pyIter_list hl1 ?_
        refine wpAny_bind (wpAny_runValue ?_)
        have hh3 : A.in1.in1.in1.handled = none := by simp [hh]
        have hval : ∀ (i : Nat) (v : Value), items[i]? = some v → ∃ q, ks[i]? = some q ∧ v = .ref q.1 := fun i v hv => by
          have z : (ks.map fun q => Value.ref q.1)[i]? = some v := by rw [← hit, Array.getElem?_toList]; exact hv
          rw [List.getElem?_map] at z
          obtain ⟨q, hq, e⟩ := Option.map_eq_some_iff.mp z
          exact ⟨q, hq, e.symm⟩
        have gone : ∀ b, s.heap.objs.size ≤ b → s.heap.get? b = none := fun b hb => by
          cases q : s.heap.get? b with
          | none => rfl
          | some o => exact absurd (Heap.lt_size q) (Nat.not_lt.mpr hb)
        refine bag_update ((Walks.list hh3 _ l apart items).toS) s.heap.objs.size hSf ks sz hval s.heap hk (gone _ (Nat.le_refl _)) (fun b hb => gone b (by rw [List.mem_singleton.mp hb, zp]; exact Nat.le_succ _)) (by simp; omega) (items.size - 0) 0 _ (by omega) (Nat.zero_le _)
          ⟨⟨_, Heap.get?_push_size _ rfl, rfl, rfl⟩, (hl1.push _)⟩ (fun b o e => Heap.get?_push_of_some _ (Heap.get?_push_of_some _ e)) ?hS0 ?hR
        case hS0 => exact ⟨[], #[], 0, _, bag_new (Heap.get?_push_of_some _ hS), ⟨fun q hq => (by cases hq), fun q hq => (by simp at hq)⟩⟩
        case hR =>
          intro s' L es ep t hm B got kp
          obtain ⟨h', g2, d', tk', os'⟩ := s'
          have eg : g2 = s.gens := hm.gens
          have ed : d' = s.drawn := hm.drawn
          have eo : os' = s.os := hm.os
          subst eg; subst ed; subst eo
          show wpAny _ _ _ _ _ _
          refine wpAny_pure ?_
          show wpAny _ _ (ret Value.none) _ _ _
          rw [sz] at got
          exact wpAny_pure ⟨rfl, h', tk', L, es, ep, t, rfl, B, got, kp⟩
      · cases r₂ with
        | error e => exact hr₂
        | ok fl₂ =>
          cases fl₂ with
          | ret r =>
            obtain ⟨rfl, h', tk, L, es, ep, t, rfl, g1, g2, g3⟩ := hr₂
            repeat (any_goals (first | assumption | wp_step))
            exact h _ _ _ _ _ _ g1 g2 g3
          | _ => exact hr₂.elim
    | _ => exact hr.elim
end
end GSa
/-! ## GSE -/
namespace GSa
open PySem PySem.Spec PyProof.Rows L2 GA
section
variable {P : Program} {w : World} {A : Around} {E : Value → Shared → Prop} {s : Shared}
theorem update_truths {I : Addr} {fp wr : List Addr} {G : Array GenState → Array GenState → Prop} {n : Nat} {Pv : Nat → Value → Prop} {St : Nat → Shared → Prop} {R : Result → Shared → Prop} (W : WalksS P w A.in1 I fp wr G n Pv St) (S : Addr) (hSf : S ∉ fp) (bs : List Bool) (hn : n = bs.length) (hb : bs.length + 1 < scanBound)
    (hval : ∀ i v, Pv i v → ∃ b, bs[i]? = some b ∧ v = .bool b) : ∀ (k i : Nat) (s : Shared), n - i = k → i ≤ n → St i s → (∃ c, c ≤ i ∧ PpSet.SetB w s.heap S (fun j => decide (j ∈ bs.take i)) c) →
      (∀ s' c, Moved (S :: wr) G s s' → PpSet.SetB w s'.heap S (fun j => decide (j ∈ bs)) c → R (.ok (.ret .none)) s') → codeAny (model P w) A (.builtin "set.update.loop" ⟨[.ref S, .ref I], []⟩) R s := by
  have hSw : S ∉ wr := fun h => hSf (W.sub _ h)
  have more : ∀ b ∈ wr, b ∈ S :: wr := fun b hb => List.mem_cons_of_mem _ hb
  intro k
  induction k with
  | zero =>
    intro i s hki hi hst ⟨c, hc, hS⟩ hR
    obtain rfl : i = n := by omega
    refine codeAny_builtin PyProof.Rows.F.entry_set_update_loop ?_
    rw [Around.under_plainId PyProof.Rows.F.plain_set_update_loop _]
    show wpAny _ A.in1 (pyNext (.ref I) >>= _) _ _ s
    refine wpAny_bind (W.done s _ _ hst fun s' hm => ?_)
    show wpAny _ A.in1 (ret Value.none) _ _ s'
    rw [List.take_of_length_le (by omega : bs.length ≤ i)] at hS
    exact wpAny_pure (hR s' c (hm.mono more) (hS.at fun o e => hm.heap S o hSw e))
  | succ k ih =>
    intro i s hki hi hst ⟨c, hc, hS⟩ hR
    have lt : i < n := by omega
    refine codeAny_builtin PyProof.Rows.F.entry_set_update_loop ?_
    rw [Around.under_plainId PyProof.Rows.F.plain_set_update_loop _]
    show wpAny _ A.in1 (pyNext (.ref I) >>= _) _ _ s
    refine wpAny_bind (W.item i s _ _ lt hst fun v s' hP hst' hm => ?_)
    obtain ⟨z, hz, rfl⟩ := hval i v hP
    have hS' := hS.at fun o e => hm.heap S o hSw e
    show wpAny _ A.in1 (holding [Value.bool z] (setAdd S (.bool z)) >>= _) _ _ s'
    refine wpAny_bind (wpAny_holding ?_)
    unfold setAdd
    refine wpAny_holding (wpAny_bind ((BK P w).pyHash (k := z) (PpSet.boolK_is P w z) ?_))
    refine PpSet.setB_add_hashed (P := P) (s := { s' with toks := s'.toks + 1 }) hS' (by omega) fun h' sb hS2 => ?_
    have hS3 : PpSet.SetB w h' S (fun j => decide (j ∈ bs.take (i + 1))) (if decide (z ∈ bs.take i) = true then c else c + 1) := hS2.congr fun j => by
      rw [List.take_add_one, hz]
      simp [List.mem_append]
    have hc3 : (if decide (z ∈ bs.take i) = true then c else c + 1) ≤ i + 1 := by split <;> omega
    refine wpAny_pure ⟨plainId_quiet PyProof.Rows.F.plain_set_update_loop _, ih (i + 1) _ (by omega) lt (W.frame _ s' _ _ hst' (Nat.le_succ _) fun b hb o e => ?_) ⟨_, hc3, hS3⟩ fun s'' c2 hm2 hS4 => ?_⟩
    · exact (sb.2 b fun h => hSf (h ▸ hb)).trans e
    · refine hR s'' c2 (Moved.trans W.gtrans ((hm.mono more).then_heap (Nat.le_succ _) fun b o hb e => ?_) hm2) hS4
      exact (sb.2 b fun h => hb (h ▸ List.mem_cons_self)).trans e
theorem set_of_tupTr {l : Addr} {items : Array Value} (bs : List Bool) {Q : Value → Shared → Prop} (hh : A.handled = none) (hl : s.heap.IsTuple l items) (hit : items.toList = bs.map Value.bool) (hb : bs.length + 1 < scanBound)
    (h : ∀ (h' : Heap) (tk c : Nat), PpSet.SetB w h' s.heap.objs.size (fun j => decide (j ∈ bs)) c → (∀ b o, s.heap.get? b = some o → h'.get? b = some o) → Q (.ref s.heap.objs.size) { s with heap := h', toks := tk }) :
    wpAny (model P w) A (call (.type "set") [.ref l]) Q E s := by
  have sz : items.size = bs.length := by simpa using congrArg List.length hit
  obtain ⟨ol, hol, hcl, nl, hdl⟩ := id hl
  have lS : l < s.heap.objs.size := Heap.lt_size hol
  obtain ⟨O, eO⟩ : ∃ O : Obj, O = { cls := .type "set", dict := none, data := .set #[] 0 (.fresh 0 0 (!w.params.followText "set-order")) } := ⟨_, rfl⟩
  obtain ⟨c, tl, hmro⟩ := F.called_set.mro
  have hmade := F.called_set.made
  have hsub := F.called_set.sub
  refine wpAny_call (codeAny_of_tree ?_)
  show wpAny _ _ (callAny (.type "set") _) _ _ _
  refine wpAny_pure ⟨Code.quiet_builtin _ (by decide +kernel), codeAny_builtin F.entry_type_call ?_⟩
  rw [Around.under_plain (weight_type_call_type "set" [.ref l] []) rfl]
  have h1 := F.called_set.notType
  have h2 := F.called_set.canCreate
  have hct := F.typeCall_set_1 (.ref l)
  repeat (any_goals (first | assumption | wp_step))
  refine codeAny_mono (code_set_led1 (.ref l) (E := E) (Q₁ := fun obj s₁ => obj = .ref s.heap.objs.size ∧ s₁ = { s with heap := s.heap.push O }) ⟨rfl, by rw [eO]⟩) fun r s₁ hr => ?_
  cases r with
  | error e => exact hr
  | ok fl =>
    cases fl with
    | ret obj =>
      obtain ⟨rfl, rfl⟩ := hr
      have hS : (s.heap.push O).get? s.heap.objs.size = some O := Heap.get?_push_size _ (by rw [eO]; rfl)
      have hT : Shared.TypeIs { s with heap := s.heap.push O } (.ref s.heap.objs.size) "set" := ⟨_, hS, by rw [eO]⟩
      have hli := F.called_set.init.lookup
      have hbi := F.called_set.init.bind (.ref s.heap.objs.size)
      repeat (any_goals (first | assumption | wp_step))
      refine codeAny_mono (codeAny_call_builtin (R := wants (fun r s₂ => r = .none ∧ ∃ h' tk c, s₂ = { s with heap := h', toks := tk } ∧ PpSet.SetB w h' s.heap.objs.size (fun j => decide (j ∈ bs)) c ∧
          (∀ b o, s.heap.get? b = some o → h'.get? b = some o)) E) F.called_set.init.plain F.entry_set_init (check_set_init_1 hT ?_)) fun r₂ s₂ hr₂ => ?_
      · obtain ⟨ocls, odict, odata, oslots⟩ := ol
        simp only at hcl hdl
        subst hcl; subst hdl
        have hol' : (s.heap.push O).get? l = some { cls := .type "tuple", dict := odict, data := .seq items nl, slots := oslots } := Heap.get?_push_of_some _ hol
        have hsls := F.sub_tuple_set
        have hslf := F.sub_tuple_frozenset
        have hne : (Value.type "tuple" == Value.type "dict") = false := by decide
        have hl1 : (s.heap.push O).IsTuple l items := ⟨_, hol', rfl, nl, rfl⟩
        have zp : (s.heap.push O).objs.size = s.heap.objs.size + 1 := Heap.size_push ..
        have apart : l ≠ (s.heap.push O).objs.size := by rw [zp]; exact Nat.ne_of_lt (Nat.lt_succ_of_lt lS)
        have hSf : s.heap.objs.size ∉ [(s.heap.push O).objs.size, l] := by
          rw [zp]
          simp only [List.mem_cons, List.not_mem_nil, or_false, not_or]
          exact ⟨Nat.ne_of_lt (Nat.lt_succ_self _), Nat.ne_of_gt lS⟩
        subst eO
        unfold Builtin.«set.__init__» noKeywords Builtin.Frozenset.updateFrom
        generalize hPI : pyIter = PI
        wp_walk
        subst hPI
        refine wpAny_pyIter_tuple hl1 ?_
        refine wpAny_bind (wpAny_runValue ?_)
        have hh3 : A.in1.in1.in1.handled = none := by simp [hh]
        have hval : ∀ (i : Nat) (v : Value), items[i]? = some v → ∃ b, bs[i]? = some b ∧ v = .bool b := fun i v hv => by
          have z : (bs.map Value.bool)[i]? = some v := by rw [← hit, Array.getElem?_toList]; exact hv
          rw [List.getElem?_map] at z
          obtain ⟨b, hb, e⟩ := Option.map_eq_some_iff.mp z
          exact ⟨b, hb, e.symm⟩
        refine update_truths ((Walks.tuple hh3 _ l apart items).toS) s.heap.objs.size hSf bs sz hb hval (items.size - 0) 0 _ (by omega) (Nat.zero_le _) ⟨⟨_, Heap.get?_push_size _ rfl, rfl, rfl⟩, (hl1.push _)⟩ ?hS0 ?hR
        case hS0 => exact ⟨0, Nat.le_refl 0, ((PpSet.setB_fresh (h := s.heap) w).at fun o e => Heap.get?_push_of_some _ e).congr fun k => by simp⟩
        case hR =>
          intro s' c' hm hS'
          obtain ⟨h', g2, d', tk', os'⟩ := s'
          have eg : g2 = s.gens := hm.gens
          have ed : d' = s.drawn := hm.drawn
          have eo : os' = s.os := hm.os
          subst eg; subst ed; subst eo
          show wpAny _ _ _ _ _ _
          refine wpAny_pure ?_
          show wpAny _ _ (ret Value.none) _ _ _
          refine wpAny_pure ⟨rfl, h', tk', c', rfl, hS', fun b o e => ?_⟩
          have hb0 : b < s.heap.objs.size := Heap.lt_size e
          refine hm.heap b o ?_ (Heap.get?_push_of_some _ (Heap.get?_push_of_some _ e))
          simp only [List.mem_cons, List.not_mem_nil, or_false, not_or]
          exact ⟨Nat.ne_of_lt hb0, by rw [zp]; exact Nat.ne_of_lt (Nat.lt_succ_of_lt hb0)⟩
      · cases r₂ with
        | error e => exact hr₂
        | ok fl₂ =>
          cases fl₂ with
          | ret r =>
            obtain ⟨rfl, h', tk, c', rfl, g1, g2⟩ := hr₂
            repeat (any_goals (first | assumption | wp_step))
            exact h _ _ _ g1 g2
          | _ => exact hr₂.elim
    | _ => exact hr.elim
end
end GSa
/-! ## GSF -/
namespace GSa
open PySem PySem.Spec PyProof.Rows L2 GA
/-- how many truth values stand in it -/
def nTr (bs : List Bool) : Nat := (if true ∈ bs then 1 else 0) + (if false ∈ bs then 1 else 0)
theorem count_tr {ks bs : List Bool} (nd : ks.Nodup) (m : ∀ k, k ∈ bs ↔ k ∈ ks) : ks.length = nTr bs := by
  unfold nTr
  simp only [m]
  match ks, nd with
  | [], _ => rfl
  | [true], _ => rfl
  | [false], _ => rfl
  | [true, false], _ => rfl
  | [false, true], _ => rfl
  | [true, true], nd => simp at nd
  | [false, false], nd => simp at nd
  | a :: b :: c :: r, nd => cases a <;> cases b <;> cases c <;> simp at nd
section
variable {X : Cx}
/-- len(set(t)), t a tuple of truth values -/
def tLenSetTr (K : PySem.W.Frag) (ta : TE) : TE := fun σ H Q => ta σ H fun x H1 => ∃ (l : Addr) (bs : List Bool), x = V.ref l ∧ SqT K H1 l (bs.map V.bl) ∧ bs.length ≤ 1000 ∧ Q (.int (nTr bs)) H1
theorem w_lenSetTr {K : PySem.W.Frag} {ta : TE} {σ : L2.St} {H : Hp} {Q : VK} (q : ta σ H fun x H1 => ∃ (l : Addr) (bs : List Bool), x = V.ref l ∧ SqT K H1 l (bs.map V.bl) ∧ bs.length ≤ 1000 ∧ Q (.int (nTr bs)) H1) : tLenSetTr K ta σ H Q := q
theorem truths_of : ∀ {bs : List Bool} {us : List Value}, Vals (bs.map V.bl) us → us = bs.map Value.bool
  | [], _, .nil => rfl
  | b :: bs, _, .cons r t => by cases r; rw [truths_of t]; rfl
theorem pe_lenSetTr {a : Expr} {ta : TE} {p p2 q pos : Pos} (hc : X.calm = true) (hg : Gl X "len") (hm : X.mg "len" = none) (hg2 : Gl X "set") (hm2 : X.mg "set" = none) (ha : PE X a ta)
    (na : starEach [a] X.env = (false, eval a X.env) :: starEach [] X.env := by rfl) : PE X (.Call (.Name "len" p) [.Call (.Name "set" p2) [a] [] q] [] pos) (tLenSetTr X.K ta) := by
  refine ⟨fun pins s σ H Q I h => Call_ (ld_blt I hg hm PySem.boot_len (PyProof.Rows.callWith_builtin1 (PyProof.Rows.args_cons ?_ rfl) rfl rfl))⟩
  refine Call_ (ld_blt I hg2 hm2 PyProof.Rows.boot_set (PyProof.Rows.callWith_type1 (PyProof.Rows.args_cons (thn (ha.run pins s σ H _ I h) fun v s1 ⟨x, H1, I1, r1, l, bs, ex, hq, h1, q1⟩ => PyProof.Rows.args_nil ?_) na) na rfl))
  subst ex
  cases r1
  obtain ⟨its, r, pt, _⟩ := I1.tuple hq
  refine set_of_tupTr bs (I1.ok.hd hc) pt (by simpa using truths_of r) (by unfold scanBound; omega) fun h' tk c R keep => PyProof.Rows.args_nil ?_
  obtain ⟨o, es, ep, t, ho, hex, hd, _, nd, mem, hsz, hf, _⟩ := R
  have e : es.size = nTr bs := by
    have := count_tr nd (bs := bs) fun k => by rw [← mem]; simp
    simpa using this
  have small : nTr bs ≤ 2 := by unfold nTr; split <;> split <;> omega
  have I2 : Inv X pins σ H1 { s1 with heap := h', toks := tk } := I1.kept keep
  exact call_len_set ho hex hd hf (by omega) ⟨.int (nTr bs), H1, I2.tok _, ⟨_, by rw [e]⟩, q1⟩
/-- set(xs), xs a list of tuples of two truth values -/
def rSetLB (K : PySem.W.Frag) (P : Program) (w : World) : List V → Hp → VK → Prop := fun xs H Q => ∃ (p : Addr) (ks : List (Addr × List Bool)), xs = [.ref p] ∧ SqL K H p (ks.map fun q => V.ref q.1) ∧ (∀ q ∈ ks, H q.1 = some (.tup (q.2.map V.bl)) ∧ q.2 ∈ two) ∧
  ∀ (a : Addr) (L : List (Addr × List Bool)) H2, H a = none → (∀ o, G o H H2) → InBag P w H2 a L → (L.map (·.2)).Nodup → (∀ k, k ∈ L.map (·.2) ↔ k ∈ ks.map (·.2)) → Q (.ref a) H2
theorem refs_two : ∀ {ks : List (Addr × List Bool)} {us : List Value}, Vals (ks.map fun q => V.ref q.1) us → us = ks.map fun q => Value.ref q.1
  | [], _, .nil => rfl
  | q :: ks, _, .cons r t => by cases r; rw [refs_two t]; rfl
theorem cr_setLB (hc : X.calm = true) (un : X.A.units + 3 < cLine) : CallR X (.type "set") (rSetLB X.K X.prog X.w) := by
  intro pins s σ H vs us Q I r h
  obtain ⟨p, ks, rfl, hp, hk, q⟩ := h
  rw [Vals.ref1 r]
  obtain ⟨its, rv, pt, _⟩ := I.list hp
  have free : H s.heap.objs.size = none := I.hok.fresh (Nat.le_refl _)
  refine set_of_listB ks (I.ok.hd hc) pt.isList (by simpa using refs_two rv) (fun q hq => ⟨tup_isB I (hk q hq).1, (hk q hq).2⟩) un fun h' tk L es ep t B got keep => ?_
  refine ⟨.ref s.heap.objs.size, _, I.laid (t' := tk) keep (Nat.le_refl _) (bagO_new B.b0), rfl, q _ L _ free (fun _ => G.alloc free) ⟨upd_same, fun u hu => ?_⟩ B.apart fun k => ⟨fun hm => ?_, fun hm => ?_⟩⟩
  · have z := hk u (got.sub u hu)
    exact ⟨(upd_ne (ne_of_none z.1 free)).trans z.1, z.2⟩
  · obtain ⟨u, hu, rfl⟩ := List.mem_map.mp hm
    exact List.mem_map.mpr ⟨u, got.sub u hu, rfl⟩
  · obtain ⟨u, hu, rfl⟩ := List.mem_map.mp hm
    exact got.all u (by rw [List.take_length]; exact hu)
/-- sorted(such a set): a list of as many -/
def rSortBag (P : Program) (w : World) : List V → Hp → VK → Prop := fun xs H Q => ∃ (a : Addr) (L : List (Addr × List Bool)), xs = [.ref a] ∧ InBag P w H a L ∧ ∀ (ys : List V) (p : Addr) H2, ys.length = L.length → H p = none → (∀ o, G o H H2) → H2 p = some (.lst ys) → Q (.ref p) H2
theorem alike_tr : ∀ xs ys : List Bool, PySem.W.alikeAll (xs.map PyData.bool) (ys.map PyData.bool) = true
  | [], _ => by simp [PySem.W.alikeAll]
  | _ :: _, [] => by simp [PySem.W.alikeAll]
  | x :: xs, y :: ys => by
    have := alike_tr xs ys
    simp [PySem.W.alikeAll, PySem.W.alike, this]
def encT (q : Addr × List Bool) : PyData := .tuple ((q.2.headD false :: q.2.tail).map PyData.bool)
theorem encT_two {q : Addr × List Bool} (h : q.2 ∈ two) : encT q = .tuple (q.2.map PyData.bool) ∧ (encT q).depth ≤ 1 := by
  obtain ⟨a, l⟩ := q
  have h : l = [false, false] ∨ l = [false, true] ∨ l = [true, false] ∨ l = [true, true] := by simpa [two] using h
  rcases h with rfl | rfl | rfl | rfl
  · exact ⟨rfl, by show PyData.depth (.tuple [.bool false, .bool false]) ≤ 1; decide⟩
  · exact ⟨rfl, by show PyData.depth (.tuple [.bool false, .bool true]) ≤ 1; decide⟩
  · exact ⟨rfl, by show PyData.depth (.tuple [.bool true, .bool false]) ≤ 1; decide⟩
  · exact ⟨rfl, by show PyData.depth (.tuple [.bool true, .bool true]) ≤ 1; decide⟩
theorem reads_two {h : Heap} : ∀ {bs : List Bool} {us : List Value}, us = bs.map Value.bool → ReadsAll h us (bs.map PyData.bool) []
  | [], _, e => by subst e; exact .nil
  | b :: bs, _, e => by subst e; exact .cons (as := []) (.bool b) (reads_two rfl)
end
section
variable {P : Program} {w : World} {A : Around} {E : Value → Shared → Prop} {s : Shared}
theorem each_mem {α β : Type} {R : α → β → Prop} {us : List α} {l : List β} (e : PySem.W.EachIs R us l) {v : α} (h : v ∈ us) : ∃ b, R v b := by
  induction e with
  | nil => cases h
  | cons r _ ih =>
    rcases List.mem_cons.mp h with rfl | h
    · exact ⟨_, r⟩
    · exact ih h
theorem sorted_bag {a : Addr} {L : List (Addr × List Bool)} {es : Array (Int × Value)} {ep : Nat} {t : SetTable} {Q : Value → Shared → Prop} (B : Bag P w s.heap a L es ep t) (tw : ∀ q ∈ L, q.2 ∈ two) (hh : A.handled = none) (un : A.units + 10 < cLine)
    (hQ : ∀ s' p (out : List Value) (c : Nat), (∀ b o, s.heap.get? b = some o → s'.heap.get? b = some o) → s'.gens = s.gens → s'.os = s.os → s.heap.objs.size ≤ p → s'.heap.get? p = some (seqObj "list" out.toArray c) → out.length = L.length → (∀ v ∈ out, ∃ q, v = Value.ref q) → Q (.ref p) s') :
    wpAny (model P w) A (call (.builtin "sorted") [.ref a]) Q E s := by
  obtain ⟨o, e1, e2, e3⟩ := B.obj
  have ln := B.len
  have few := B.few
  refine Calls.call_function_entry kind_sorted plain_sorted entry_sorted (args_sorted1 _) ?_
  unfold Builtin.«sorted»
  refine wpAny_bind (m := checkCount "sorted" 1 1 _) (wpAny_pure ?_)
  refine wpAny_bind (collect_set (A := A.in1) hh ⟨o, e1, e2.1, e3⟩ B.fits (by unfold scanBound; omega) B.tab.ris B.led fun s1 vs k1 hz g1 o1 pm => ?_)
  have pm2 : vs.Perm (L.map fun q => Value.ref q.1) := by
    have z : es.toList.map (·.2) = L.map fun q => Value.ref q.1 := by rw [B.laid, List.map_map]; rfl
    rwa [z] at pm
  obtain ⟨L1, rfl, sub⟩ : ∃ L1 : List (Addr × List Bool), vs = L1.map (fun q => Value.ref q.1) ∧ ∀ q ∈ L1, q ∈ L := by
    have gen : ∀ us : List Value, (∀ v ∈ us, v ∈ L.map fun q => Value.ref q.1) → ∃ L1 : List (Addr × List Bool), us = L1.map (fun q => Value.ref q.1) ∧ ∀ q ∈ L1, q ∈ L := by
      intro us
      induction us with
      | nil => exact fun _ => ⟨[], rfl, fun q h => by cases h⟩
      | cons v us ih =>
        intro h
        obtain ⟨q, hq, e⟩ := List.mem_map.mp (h v (by simp))
        obtain ⟨L1, e1, s1⟩ := ih fun u hu => h u (by simp [hu])
        exact ⟨q :: L1, by rw [List.map_cons, e, e1], fun r hr => (List.mem_cons.mp hr).elim (fun z => z ▸ hq) (s1 r)⟩
    exact gen vs fun v hv => pm2.mem_iff.mp hv
  have l1 : L1.length = L.length := by simpa using pm2.length_eq
  refine wpAny_bind (wpAny_newList ?_ (by rw [List.length_map, sizeLine_eq]; omega))
  have at_ : (s1.heap.push (seqObj "list" (L1.map fun q => Value.ref q.1).toArray 0)).get? s1.heap.objs.size = some (seqObj "list" (L1.map fun q => Value.ref q.1).toArray 0) := Heap.get?_push_size _ rfl
  have each : ∀ (l : List (Addr × List Bool)) (R : Value → Addr × List Bool → Prop), (∀ q ∈ l, R (.ref q.1) q) → PySem.W.EachIs R (l.map fun q => Value.ref q.1) l := by
    intro l R h
    induction l with
    | nil => exact .nil
    | cons q l ih => exact .cons (h q (by simp)) (ih fun u hu => h u (by simp [hu]))
  have sortd : wpAny (model P w) A.in1 (call (.builtin "list.sort") [.ref s1.heap.objs.size]) (fun v s' => v = .none ∧ ∃ out : List Value, out.length = L1.length ∧ (∀ v ∈ out, ∃ q, v = Value.ref q) ∧ s' = { s1 with heap := sortedHeap (s1.heap.push (seqObj "list" (L1.map fun q => Value.ref q.1).toArray 0)) s1.heap.objs.size (L1.map fun q => Value.ref q.1) out.toArray }) E { s1 with heap := s1.heap.push (seqObj "list" (L1.map fun q => Value.ref q.1).toArray 0) } := by
    refine PySem.W.list_sort_data (R := fun v q => v = Value.ref q.1) (enc := encT) (bs := L1) at_ (each _ _ fun q _ => rfl) (each _ _ fun q hq => ⟨[], ?_, by simp⟩) (PySem.W.AllAlike.of fun b b' => alike_tr _ _) (PySem.W.Sortable.tuples fun b => ⟨_, _, rfl⟩) (by rw [sizeLine_eq]; omega) (fun b hb => ?_) fun out lo eo => ⟨rfl, out, lo, fun v hv => ?_, rfl⟩
    · have tq := tw q (sub q hq)
      rw [(encT_two tq).1]
      obtain ⟨ob, us, m, f1, f2, f3, f4⟩ := bool_keep (B.told q (sub q hq)) fun c o e => Heap.get?_push_of_some (seqObj "list" (L1.map fun q => Value.ref q.1).toArray 0) (k1 c o e)
      refine .tuple f1 f2 f3 (reads_two ?_)
      revert f4
      generalize us.toList = ul
      generalize q.2 = kl
      intro f4
      induction f4 with
      | nil => rfl
      | cons h1 _ ih => rw [PpSet.isB_shape h1, List.map_cons, ih]
    · have := (encT_two (tw b (sub b hb))).2
      show A.units + 1 + 1 + (encT b).depth < cLine
      omega
    · obtain ⟨q, e⟩ := each_mem eo hv
      exact ⟨q.1, e⟩
  refine wpAny_bind (wpAny_holding (wpAny_mono sortd (fun v s' hs => ?_) fun _ _ z => z))
  obtain ⟨rfl, out, lo, ro, rfl⟩ := hs
  obtain ⟨c, hc⟩ := sortedHeap_at (vs := L1.map fun q => Value.ref q.1) (out := out.toArray) at_
  refine wpAny_pure ⟨_, rfl, hQ _ s1.heap.objs.size out c (fun b u e => ?_) g1 o1 hz hc (lo.trans l1) ro⟩
  have q := k1 b u e
  have lt := Heap.lt_size q
  show (sortedHeap (s1.heap.push (seqObj "list" (L1.map fun q => Value.ref q.1).toArray 0)) s1.heap.objs.size (L1.map fun q => Value.ref q.1) out.toArray).get? b = some u
  rw [sortedHeap_old (Nat.ne_of_lt lt) (by rw [size_push']; exact Nat.lt_succ_of_lt lt)]
  exact Heap.get?_push_of_some _ q
end
theorem cr_sortBag {X : Cx} (hc : X.calm = true) (un : X.A.units + 10 < cLine) : CallR X (.builtin "sorted") (rSortBag X.prog X.w) := by
  intro pins s σ H xs us Q I r h
  obtain ⟨a, L, rfl, hI, q⟩ := h
  rw [Vals.ref1 r]
  obtain ⟨es, ep, t, B⟩ := bag_of I hI
  have few := B.few
  refine sorted_bag B (fun q hq => (hI.2 q hq).2) (I.ok.hd hc) un fun s' p out c kp g1 o1 hp hl lo ro => ?_
  have free : H p = none := I.hok.fresh hp
  have new : ObjOk X.prog X.w (upd H p (.lst (out.map GA.backV))) s'.heap p (.lst (out.map GA.backV)) := ⟨by rw [List.length_map, sizeLine_eq]; omega, out, c, GA.vals_back ro, hl⟩
  have I1 : Inv X pins σ (upd H p (.lst (out.map GA.backV))) s' := I.call' (ch := []) o1 (Un.laid kp hp free) (I.hok.laid kp hp new) (by rw [g1]; exact I.bare) (fun _ z => nomatch z)
  exact ⟨.ref p, _, I1, rfl, q _ p _ (by rw [List.length_map, lo]) free (fun _ => G.alloc free) upd_same⟩
end GSa
/-! ## GDB -/
namespace GSa
open PySem PySem.Spec PyProof.Rows L2 GA GCb
/-! ### dicts whose keys are tuples of truth values, whose values are objects -/
abbrev Row2 : Type := List Bool × Addr × Addr
abbrev r2v (r : Row2) : List Bool × Addr × Value := (r.1, r.2.1, .ref r.2.2)
abbrev TB (P : Program) (w : World) : HeapKind P w (List Bool) := tupleKind (BK P w)
def BD0 (P : Program) (w : World) (h : Heap) (d : Addr) (rs : List Row2) : Prop := (d == sysModules) = false ∧ rs.length ≤ sizeLine ∧ (rs.map (·.1)).Nodup ∧ ∃ o es ep, h.get? d = some o ∧ o.ExactDict ∧ o.data = .dict es ep ∧ es.toList = (rs.map r2v).map (entryOfKey (TB P w))
def BDO (P : Program) (w : World) (d : Addr) (rs : List Row2) : HO := .ext fun h => BD0 P w h d rs
theorem bdO_new {P : Program} {w : World} {H : Hp} {h : Heap} {d : Addr} {rs : List Row2} (B : BD0 P w h d rs) : ObjOk P w H h d (BDO P w d rs) := by
  have ⟨_, _, _, o, _, _, e, _⟩ := B
  refine ⟨B, ⟨o, e⟩, fun h1 h2 p k => ?_⟩
  obtain ⟨z1, z2, z3, o, es, ep, e, r⟩ := p
  exact ⟨z1, z2, z3, o, es, ep, k _ e, r⟩
/-- such a dict, its key tuples known -/
def IsBD (P : Program) (w : World) (K : PySem.W.Frag) (H : Hp) (d : Addr) (rs : List Row2) : Prop := H d = some (BDO P w d rs) ∧ ∀ r ∈ rs, SqT K H r.2.1 (r.1.map V.bl)
def atB (rs : List Row2) (k : List Bool) : Option Row2 := rs.find? fun r => decide (r.1 = k)
theorem atKey_B (rs : List Row2) (k : List Bool) : atKey (rs.map r2v) k = (atB rs k).map fun r => (r.2.1, Value.ref r.2.2) := by
  unfold atKey atB
  rw [List.find?_map, Option.map_map]
  rfl
section
variable {X : Cx} {pins : List (Addr × Obj)} {σ : L2.St} {H : Hp} {s : Shared}
theorem sq_isB (I : Inv X pins σ H s) {b : Addr} {k : List Bool} (h : SqT X.K H b (k.map V.bl)) : IsB X.prog X.w s.heap k b := by
  obtain ⟨us, r, ⟨o, e1, e2, n, e3⟩, _⟩ := I.tuple h
  exact ⟨o, us.toArray, n, e1, e2, e3, by simpa using bools_items r⟩
theorem bd_of (I : Inv X pins σ H s) {d : Addr} {rs : List Row2} (h : IsBD X.prog X.w X.K H d rs) : (d == sysModules) = false ∧ (rs.map r2v).length ≤ sizeLine ∧ s.heap.DictOfH (TB X.prog X.w) d (rs.map r2v) := by
  obtain ⟨⟨z1, z2, z3, o, es, ep, e1, e2, e3, e4⟩, _, _⟩ := (show ObjOk X.prog X.w H s.heap d (BDO X.prog X.w d rs) from I.hok d _ h.1)
  refine ⟨z1, by rw [List.length_map]; exact z2, o, es, ep, e1, e2, e3, e4, fun x hx => ?_, by rw [List.map_map]; exact z3⟩
  obtain ⟨r, hr, rfl⟩ := List.mem_map.mp hx
  exact sq_isB I (h.2 r hr)
/-- {} -/
def tDNewB (P : Program) (w : World) : TE := fun _ H Q => ∀ p, H p = none → Q (.ref p) (upd H p (BDO P w p []))
theorem w_dnewB {P : Program} {w : World} {σ : L2.St} {H : Hp} {Q : VK} (q : ∀ p, H p = none → Q (.ref p) (upd H p (BDO P w p []))) : tDNewB P w σ H Q := q
theorem pe_dnewB {pos : Pos} : PE X (.Dict [] [] pos) (tDNewB X.prog X.w) := ⟨fun pins s σ H Q I h =>
  wpAny_Dict_empty ⟨.ref s.heap.objs.size, _, I.laid (a := s.heap.objs.size) (o := BDO X.prog X.w s.heap.objs.size []) (t' := s.toks) (fun _ _ q => Heap.get?_push_of_some _ q) (Nat.le_refl _)
    (bdO_new ⟨beq_eq_false_iff_ne.mpr (Ne.symm (Nat.ne_of_lt I.big)), Nat.zero_le _, List.nodup_nil, _, #[], 0, Heap.get?_push_size _ rfl, ⟨rfl, rfl, rfl⟩, rfl, rfl⟩), rfl, h _ (I.hok.fresh (Nat.le_refl _))⟩⟩
/-- d.setdefault(y, z), y a tuple of truth values, z an object -/
def tDSetdB (P : Program) (w : World) (K : PySem.W.Frag) (td ty tx : TE) : TE := fun σ H Q => td σ H fun x H1 => ∃ d rs0, x = .ref d ∧ H1 d = some (BDO P w d rs0) ∧ ty σ H1 fun y H2 => tx σ H2 fun z H3 => ∃ (rs : List Row2) (k : List Bool) (b c : Addr), y = .ref b ∧ z = .ref c ∧ IsBD P w K H3 d rs ∧ SqT K H3 b (k.map V.bl) ∧ rs.length < sizeLine ∧
  (∀ r, atB rs k = some r → Q (.ref r.2.2) H3) ∧ (atB rs k = none → IsBD P w K (upd H3 d (BDO P w d (rs ++ [(k, b, c)]))) d (rs ++ [(k, b, c)]) → Q (.ref c) (upd H3 d (BDO P w d (rs ++ [(k, b, c)]))))
theorem w_dsetdB {P : Program} {w : World} {K : PySem.W.Frag} {td ty tx : TE} {σ : L2.St} {H : Hp} {Q : VK} (q : td σ H fun x H1 => ∃ d rs0, x = .ref d ∧ H1 d = some (BDO P w d rs0) ∧ ty σ H1 fun y H2 => tx σ H2 fun z H3 => ∃ (rs : List Row2) (k : List Bool) (b c : Addr), y = .ref b ∧ z = .ref c ∧ IsBD P w K H3 d rs ∧ SqT K H3 b (k.map V.bl) ∧ rs.length < sizeLine ∧
  (∀ r, atB rs k = some r → Q (.ref r.2.2) H3) ∧ (atB rs k = none → IsBD P w K (upd H3 d (BDO P w d (rs ++ [(k, b, c)]))) d (rs ++ [(k, b, c)]) → Q (.ref c) (upd H3 d (BDO P w d (rs ++ [(k, b, c)]))))) : tDSetdB P w K td ty tx σ H Q := q
theorem atB_none {rs : List Row2} {k : List Bool} (h : atB rs k = none) : k ∉ rs.map (·.1) := fun hm => by
  obtain ⟨r, hr, e⟩ := List.mem_map.mp hm
  have := List.find?_eq_none.mp h r hr
  simp [e] at this
theorem pe_dsetdB {o e f : Expr} {td ty tx : TE} {apos cpos : Pos} (un : X.A.units + 1 < cLine) (ho : PE X o td) (he : PE X e ty) (hf : PE X f tx) (m : M2 X o "setdefault" apos e f cpos) : PE X (.Call (.Attribute o "setdefault" apos) [e, f] [] cpos) (tDSetdB X.prog X.w X.K td ty tx) := by
  refine ⟨fun pins s σ H Q I h => ?_⟩
  refine wpAny_Call_method m.base m.few m.line PySem.F.plainAttrs_dict PySem.F.slot_dict_setdefault PySem.F.type_dict_setdefault (thn (ho.run pins s σ H _ I h) fun u s1 ⟨x, H1, I1, rx, d, rs0, ex, h0, q1⟩ => ?_)
  subst ex
  cases rx
  obtain ⟨⟨_, _, _, ob, es, ep, f1, f2, f3, _⟩, _, _⟩ := (show ObjOk X.prog X.w H1 s1.heap d (BDO X.prog X.w d rs0) from I1.hok d _ h0)
  refine ⟨⟨ob, f1, f2.1⟩, ?nd, ?_⟩
  case nd => exact fun o' e' => by cases e'; exact ⟨ob, f1, f2.2.1⟩
  rw [m.trees]
  refine Calls.callWith_builtin rfl (Calls.evalArgs_plain (Calls.spliced_cons (thn (he.run pins s1 σ H1 _ I1 q1) fun iv s2 ⟨y, H2, I2, ry, q2⟩ =>
    Calls.spliced_cons (thn (hf.run pins s2 σ H2 _ I2 q2) fun fv s3 ⟨z, H3, I3, rz, rs, k, b, c, ey, ez, hD, hb, lt, q3, q4⟩ => Calls.spliced_nil ?_))))
  subst ey ez
  cases ry
  cases rz
  obtain ⟨z1, z2, D⟩ := bd_of I3 hD
  refine call_setdefault_heap (knd := TB X.prog X.w) (hsz := z2) (by show X.A.units + 1 < cLine; exact un) (sq_isB I3 hb) z1 D (fun p hp => ?_) fun hn h' D' hs => ?_
  · rw [atKey_B] at hp
    obtain ⟨r, hr, rfl⟩ := Option.map_eq_some_iff.mp hp
    exact ⟨.ref r.2.2, H3, I3.tok _, rfl, q3 r hr⟩
  · have hn2 : atB rs k = none := by rw [atKey_B] at hn; exact Option.map_eq_none_iff.mp hn
    rw [storedH_new hn] at D'
    obtain ⟨o', es', ep', g1, g2, g3, g4, _, g5⟩ := D'
    have nd' : BD0 X.prog X.w h' d (rs ++ [(k, b, c)]) := ⟨z1, by rw [List.length_append, List.length_singleton]; omega, by rw [List.map_append, List.map_map] at g5; rw [List.map_append]; exact g5, o', es', ep', g1, g2, g3, by rw [List.map_append]; exact g4⟩
    have ts : Ts H3 (upd H3 d (BDO X.prog X.w d (rs ++ [(k, b, c)]))) := fun a' xs' hx => by
      rcases hx with hx | ⟨ob', hx⟩
      · exact .inl (by rw [upd_ne (ne_of hx hD.1 (fun z => by unfold BDO at z; cases z))]; exact hx)
      · exact .inr ⟨ob', by rw [upd_ne (ne_of hx hD.1 (fun z => by unfold BDO at z; cases z))]; exact hx⟩
    refine ⟨.ref c, _, d_write I3 (by rw [hD.1]; exact True.intro) hs ⟨o', g1⟩ (bdO_new nd'), rfl, q4 hn2 ⟨upd_same, fun r hr => ?_⟩⟩
    rcases List.mem_append.mp hr with hr | hr
    · exact sqT_t ts (hD.2 r hr)
    · rw [List.mem_singleton.mp hr]
      exact sqT_t ts hb
/-- d[y] -/
def tDGetB (P : Program) (w : World) (K : PySem.W.Frag) (td ty : TE) : TE := fun σ H Q => td σ H fun x H1 => ty σ H1 fun y H2 => ∃ (d : Addr) (rs : List Row2) (k : List Bool) (b : Addr) (r : Row2), x = .ref d ∧ y = .ref b ∧ IsBD P w K H2 d rs ∧ SqT K H2 b (k.map V.bl) ∧ atB rs k = some r ∧ Q (.ref r.2.2) H2
theorem w_dgetB {P : Program} {w : World} {K : PySem.W.Frag} {td ty : TE} {σ : L2.St} {H : Hp} {Q : VK} (q : td σ H fun x H1 => ty σ H1 fun y H2 => ∃ (d : Addr) (rs : List Row2) (k : List Bool) (b : Addr) (r : Row2), x = .ref d ∧ y = .ref b ∧ IsBD P w K H2 d rs ∧ SqT K H2 b (k.map V.bl) ∧ atB rs k = some r ∧ Q (.ref r.2.2) H2) : tDGetB P w K td ty σ H Q := q
theorem pe_dgetB {o i : Expr} {td ty : TE} {pos : Pos} (un : X.A.units + 1 < cLine) (ho : PE X o td) (hi : PE X i ty) (hs : NoSl i) : PE X (.Subscript o i pos) (tDGetB X.prog X.w X.K td ty) := by
  refine ⟨fun pins s σ H Q I h => ?_⟩
  refine subD_of PySem.F.slot_dict_getitem.lookup hs (thn (ho.run pins s σ H _ I h) fun u s1 ⟨x, H1, I1, rx, q1⟩ => thn (hi.run pins s1 σ H1 _ I1 q1) fun iv s2 ⟨y, H2, I2, ry, d, rs, k, b, r, ex, ey, hD, hb, hr, q2⟩ => ?_)
  subst ex ey
  cases rx
  cases ry
  obtain ⟨z1, z2, D⟩ := bd_of I2 hD
  refine ⟨D.typeIs, wpAny_getItem_heap (knd := TB X.prog X.w) (p := (r.2.1, .ref r.2.2)) (by show X.A.units + 1 < cLine; exact un) (sq_isB I2 hb) D (by rw [atKey_B, hr]; rfl) ⟨.ref r.2.2, H2, I2.tok _, rfl, q2⟩⟩
/-- what a loop over it collects: its key tuples -/
def tcBD (P : Program) (w : World) (K : PySem.W.Frag) (td : TE) : L2.St → Hp → (List V → Hp → Prop) → Prop := fun σ H R => td σ H fun x H1 => ∃ d rs, x = .ref d ∧ IsBD P w K H1 d rs ∧ R (rs.map fun r => V.ref r.2.1) H1
theorem w_tcBD {P : Program} {w : World} {K : PySem.W.Frag} {td : TE} {σ : L2.St} {H : Hp} {R : List V → Hp → Prop} (q : td σ H fun x H1 => ∃ d rs, x = .ref d ∧ IsBD P w K H1 d rs ∧ R (rs.map fun r => V.ref r.2.1) H1) : tcBD P w K td σ H R := q
theorem vals_keys : ∀ rs : List Row2, Vals (rs.map fun r => V.ref r.2.1) (rs.map fun r => Value.ref r.2.1)
  | [] => .nil
  | _ :: rs => .cons rfl (vals_keys rs)
theorem pcol_BD {e : Expr} {td : TE} (he : PE X e td) : PCol X e (tcBD X.prog X.w X.K td) := by
  intro pins s σ H R I h
  refine thn (he.run pins s σ H _ I h) fun u s1 ⟨x, H1, I1, rx, d, rs, ex, hD, q⟩ => ?_
  subst ex
  cases rx
  intro t1 A' E' Q2 hA go
  obtain ⟨⟨z1, z2, z3, ob, es, ep, e1, e2, e3, e4⟩, _, _⟩ := (show ObjOk X.prog X.w H1 s1.heap d (BDO X.prog X.w d rs) from I1.hok d _ hD.1)
  have sz : es.size = rs.length := by rw [← Array.length_toList, e4, List.length_map, List.length_map]
  refine PySem.W.kdu_collect (s := { s1 with toks := t1 }) (ga_kdl z1 ob es ep e2 e3) hA e1 (by omega) fun h' tk acc kp it => ?_
  have ea : acc.toList = rs.map fun r => Value.ref r.2.1 := by
    apply List.ext_getElem?
    intro j
    rw [List.getElem?_map, Array.getElem?_toList]
    cases hj : acc[j]? with
    | none =>
      have : acc.size ≤ j := Array.getElem?_eq_none_iff.mp hj
      rw [List.getElem?_eq_none (by rw [← sz, ← it.1]; exact this)]
      rfl
    | some v =>
      obtain ⟨en, hen, rfl⟩ := it.2 j v hj
      rw [← Array.getElem?_toList, e4, List.getElem?_map, List.getElem?_map] at hen
      cases hr : rs[j]? with
      | none => rw [hr] at hen; cases hen
      | some r => rw [hr] at hen; cases hen; rfl
  refine go _ (rs.map fun r => V.ref r.2.1) H1 _ (by rw [ea]; exact vals_keys rs) (I1.kept kp) (by rw [ea, List.length_map]; exact z2) q
end
/-! ### for k in d, d a dict with tuple keys that nobody writes from then on -/
def iKeysLT (td : TE) : TI := fun σ H R => td σ H fun x H1 => ∃ d kvs, x = .ref d ∧ H1 d = some (.dT kvs) ∧ ∀ o, R (Itkt d o kvs) (upd H1 d (.frz o (.dT kvs)))
theorem w_ikeysLT {td : TE} {σ : L2.St} {H : Hp} {R : It → Hp → Prop} (q : td σ H fun x H1 => ∃ d kvs, x = .ref d ∧ H1 d = some (.dT kvs) ∧ ∀ o, R (Itkt d o kvs) (upd H1 d (.frz o (.dT kvs)))) : iKeysLT td σ H R := q
theorem pi_keysLT {X : Cx} {tg e : Expr} {td : TE} (he : PE X e td) : PI X tg e (iKeysLT td) := by
  refine ⟨fun pins s σ H R I h => ?_⟩
  refine thn (he.run pins s σ H _ I h) fun u s1 ⟨x, H1, I1, rx, d, kvs, ex, hd, q⟩ => ?_
  subst ex
  cases rx
  obtain ⟨od, I2⟩ := I1.lock hd True.intro
  obtain ⟨hs, hgd, hx, es, ep, hdt, hsz, _⟩ := I2.frzT upd_same
  refine iter_keys hs hgd hx hdt (pi_one (tk := s1.toks) I2 _ (turn_keysT _ hdt) ⟨_, Heap.get?_push_size _ rfl, rfl, ?_⟩ (q od))
  rw [hsz] <;> rfl
end GSa
/-! ## K11 -/
section
open PySem L2 GA
local macro_rules
  | `(tactic| walk_at "w") => `(tactic| first
    | ((with_reducible refine' GA.w_var ?e ?_); (case e => exact rfl))
    | (with_reducible refine' GA.w_c ?_)
    | (with_reducible refine' GA.w_cons ?_)
    | (with_reducible refine' GA.w_nil ?_)
    | (with_reducible refine' GA.w_op ?_)
    | (with_reducible refine' GA.r_I0 ?_)
    | (with_reducible refine' GA.w_bl ?_)
    | (with_reducible refine' GA.w_seq ?_)
    | (with_reducible refine' GA.w_set ?_)
    | (with_reducible refine' GA.w_ret ?_)
    | (with_reducible refine' GA.w_ifS ?_)
    | (with_reducible refine' GA.w_test ?_)
    | (with_reducible refine' GA.w_tB ?_)
    | (with_reducible refine' GA.w_not ?_)
    | (with_reducible refine' GA.w_and ?_)
    | (with_reducible refine' GA.w_or ?_)
    | (with_reducible refine' GA.w_andV ?_)
    | (with_reducible refine' GA.w_orV ?_)
    | (with_reducible refine' GA.w_notV ?_)
    | (with_reducible refine' GA.w_blc ?_)
    | (with_reducible refine' GA.w_if ?_)
    | (with_reducible refine' GA.w_CB ?_)
    | (with_reducible refine' GA.w_call ?_)
    | (with_reducible refine' GA.w_tupN ?_)
    | (with_reducible refine' GA.w_lstN ?_)
    | (with_reducible refine' GA.w_chain ?_)
    | (with_reducible refine' GA.w_drop ?_)
    | (with_reducible refine' GA.w_next ?_)
    | (with_reducible refine' GA.w_break ?_)
    | (with_reducible refine' GA.w_un ?_)
    | (with_reducible refine' GA.r_U ?_)
    | (with_reducible refine' GA.r_eqI ?_)
    | (with_reducible refine' GA.r_neI ?_)
    | (with_reducible refine' GA.r_eqB ?_)
    | (with_reducible refine' GA.r_neB ?_)
    | (with_reducible refine' GA.w_fld ?_)
    | (with_reducible refine' GA.w_sfld ?_)
    | (with_reducible refine' GA.w_sl ?_)
    | (with_reducible refine' GA.w_part ?_)
    | (with_reducible refine' GA.w_noPart ?_)
    | (with_reducible refine' GA.w_inti ?_)
    | (with_reducible refine' GA.w_retN ?_)
    | (with_reducible refine' GA.w_gsub ?_)
    | (with_reducible refine' GA.w_gname ?_)
    | (with_reducible refine' L2.iteT ?_)
    | (with_reducible refine' L2.iteF ?_)
    | (with_reducible refine' GA.w_nt ?_)
    | (with_reducible refine' GA.w_nf ?_)
    | (with_reducible refine' GA.w_isN ?_)
    | (with_reducible refine' GA.w_notN ?_)
    | (with_reducible refine' GA.w_yes ?_)
    | (with_reducible refine' GA.w_lc ?_)
    | (with_reducible refine' GA.w_lc2 ?_)
    | (with_reducible refine' GA.w_iseq ?_)
    | (with_reducible refine' GA.w_make ?_)
    | (with_reducible refine' GA.w_for ?_)
    | (with_reducible refine' GA.w_rng1 ?_)
    | (with_reducible refine' GA.w_rng2 ?_)
    | (with_reducible refine' GA.w_itup ?_)
    | (with_reducible refine' GA.w_ilist ?_)
    | (with_reducible refine' GA.w_ienum ?_)
    | (with_reducible refine' GA.w_BM ?_)
    | (with_reducible refine' GA.w_BM0 ?_)
    | (with_reducible refine' GA.w_izip ?_)
    | (with_reducible refine' GA.w_asg ?_))
  | `(tactic| walk_at "wm") => `(tactic| first
    | ((with_reducible refine' GA.w_var ?e ?_); (case e => exact rfl))
    | (with_reducible refine' GA.w_c ?_)
    | (with_reducible refine' GA.w_cons ?_)
    | (with_reducible refine' GA.w_nil ?_)
    | (with_reducible refine' GA.w_op ?_)
    | (with_reducible refine' GA.r_I0 ?_)
    | (with_reducible refine' GA.w_bl ?_)
    | (with_reducible refine' GA.w_set ?_)
    | (with_reducible refine' GA.w_ret ?_)
    | (with_reducible refine' GA.w_ifS ?_)
    | (with_reducible refine' GA.w_test ?_)
    | (with_reducible refine' GA.w_tB ?_)
    | (with_reducible refine' GA.w_not ?_)
    | (with_reducible refine' GA.w_and ?_)
    | (with_reducible refine' GA.w_or ?_)
    | (with_reducible refine' GA.w_andV ?_)
    | (with_reducible refine' GA.w_orV ?_)
    | (with_reducible refine' GA.w_notV ?_)
    | (with_reducible refine' GA.w_blc ?_)
    | (with_reducible refine' GA.w_if ?_)
    | (with_reducible refine' GA.w_CB ?_)
    | (with_reducible refine' GA.w_call ?_)
    | (with_reducible refine' GA.w_tupN ?_)
    | (with_reducible refine' GA.w_lstN ?_)
    | (with_reducible refine' GA.w_chain ?_)
    | (with_reducible refine' GA.w_drop ?_)
    | (with_reducible refine' GA.w_next ?_)
    | (with_reducible refine' GA.w_break ?_)
    | (with_reducible refine' GA.w_un ?_)
    | (with_reducible refine' GA.r_U ?_)
    | (with_reducible refine' GA.r_eqI ?_)
    | (with_reducible refine' GA.r_neI ?_)
    | (with_reducible refine' GA.r_eqB ?_)
    | (with_reducible refine' GA.r_neB ?_)
    | (with_reducible refine' GA.w_fld ?_)
    | (with_reducible refine' GA.w_sfld ?_)
    | (with_reducible refine' GA.w_sl ?_)
    | (with_reducible refine' GA.w_part ?_)
    | (with_reducible refine' GA.w_noPart ?_)
    | (with_reducible refine' GA.w_inti ?_)
    | (with_reducible refine' GA.w_retN ?_)
    | (with_reducible refine' GA.w_gsub ?_)
    | (with_reducible refine' GA.w_gname ?_)
    | (with_reducible refine' L2.iteT ?_)
    | (with_reducible refine' L2.iteF ?_)
    | (with_reducible refine' GA.w_nt ?_)
    | (with_reducible refine' GA.w_nf ?_)
    | (with_reducible refine' GA.w_isN ?_)
    | (with_reducible refine' GA.w_notN ?_)
    | (with_reducible refine' GA.w_yes ?_)
    | (with_reducible refine' GA.w_lc ?_)
    | (with_reducible refine' GA.w_lc2 ?_)
    | (with_reducible refine' GA.w_iseq ?_)
    | (with_reducible refine' GA.w_make ?_)
    | (with_reducible refine' GA.w_for ?_)
    | (with_reducible refine' GA.w_rng1 ?_)
    | (with_reducible refine' GA.w_rng2 ?_)
    | (with_reducible refine' GA.w_itup ?_)
    | (with_reducible refine' GA.w_ilist ?_)
    | (with_reducible refine' GA.w_ienum ?_)
    | (with_reducible refine' GA.w_BM ?_)
    | (with_reducible refine' GA.w_BM0 ?_)
    | (with_reducible refine' GA.w_izip ?_)
    | (with_reducible refine' GA.w_asg ?_))
  | `(tactic| walk_at "ws") => `(tactic| repeat (walk_at "w"))
  | `(tactic| walk_at "wn") => `(tactic| repeat (walk_at "wm"))


namespace Mine
section
variable {P : Program} {w : World} {K : PySem.W.Frag} {mg : Str → Option Value} {base : Heap} {a : Ads}

/-! ### mixed pictures -/
theorem nub_len {α : Type} (S : α → List Bool) : ∀ (n : Nat) (l : List α), l.length ≤ n → (nub S l).length ≤ l.length
  | 0, l, h => by
    have : l = [] := List.length_eq_zero_iff.mp (by omega)
    subst this
    simp [nub]
  | n + 1, [], _ => by simp [nub]
  | n + 1, x :: l, h => by
    have hl := List.length_filter_le (fun z => !decide (S x = S z)) l
    have := nub_len S n (l.filter fun z => !decide (S x = S z)) (by simp at h; omega)
    rw [nub_cons, List.length_cons, List.length_cons]
    omega
theorem w_star {te : TE} {t : TA} {σ : L2.St} {H : Hp} {Q : List V → Hp → Prop} (q : te σ H fun x H1 => ∃ p xs, x = V.ref p ∧ (SqT K H1 p xs ∨ SqL K H1 p xs) ∧ t σ H1 fun ys H2 => Q (xs ++ ys) H2) : StX.tStar K te t σ H Q := q
theorem DGet.fz {H : Hp} {a b : Addr} {o : Obj} {kvs : List (List Key × V)} {k : List Key} (e : H a = some (.frz o (.dT kvs))) (eb : H b = some (.tup (k.map kV))) : DGet H a (.ref b) (valV kvs k) := .inr ⟨kvs, k, b, .inr ⟨o, e⟩, rfl, eb, rfl⟩
theorem sdv_val {H : Hp} {L : List (Nat × Nat)} {ds : List (List Int)} {kvs : List (List Key × V)} (sd : SdV K H L ds kvs) (nd : L.Nodup) {i : Nat} {u : Nat × Nat} (hu : L[i]? = some u) : ∃ t, valV kvs (kN u) = some (.ref t) ∧ SqT K H t ((side ds u).map V.bl) := by
  have hi := (List.getElem?_eq_some_iff.mp hu).1
  have hk : i < kvs.length := by rw [sd.1]; exact hi
  obtain ⟨a1, t, a2, a3⟩ := sd.2 i u _ hu (List.getElem?_eq_getElem hk)
  refine ⟨t, ?_, a3⟩
  have hkeys := sd.keys
  have km : kvs[i] ∈ kvs := List.getElem_mem hk
  have ndk : (kvs.map (·.1)).Nodup := by
    rw [hkeys]
    exact List.pairwise_map.mpr (nd.imp fun h e => h (kN_inj e))
  have gen : ∀ (l : List (List Key × V)) (kv : List Key × V), kv ∈ l → (l.map (·.1)).Nodup → valV l kv.1 = some kv.2 := by
    intro l kv
    induction l with
    | nil => exact fun h => nomatch h
    | cons p l ih =>
      intro h n
      obtain ⟨n1, n2⟩ := List.nodup_cons.mp n
      rcases List.mem_cons.mp h with rfl | h
      · exact valV_pos rfl
      · exact (valV_neg fun e => n1 (by show p.1 ∈ _; rw [e]; exact List.mem_map.mpr ⟨kv, h, rfl⟩)).trans (ih h n2)
  have := gen kvs kvs[i] km ndk
  rw [a1] at this
  rw [this, a2]
def mixD : Option ((Nat × Nat) × (Nat × Nat)) → PyData
  | none => .none
  | some (u, v) => .tuple [.str "mixed", .int (u.1 : Nat), .int (u.2 : Nat), .int (v.1 : Nat), .int (v.2 : Nat)]
/-- the first of each side, in the dict and as pairs -/
structure FstZ (K : PySem.W.Frag) (P : Program) (w : World) (H : Hp) (fd : Addr) (ds : List (List Int)) (l : List (Nat × Nat)) (Z : List (GSa.Row2 × (Nat × Nat))) : Prop where
  dic : GSa.IsBD P w K H fd (Z.map (·.1))
  nub_ : Z.map (·.2) = nub (side ds) l
  key : ∀ z ∈ Z, z.1.1 = side ds z.2
  obj : ∀ z ∈ Z, H z.1.2.2 = some (.tup [.int (z.2.1 : Nat), .int (z.2.2 : Nat)])
  nd : (Z.map (·.1.1)).Nodup
theorem FstZ.n {P : Program} {w : World} {H H' : Hp} {fd : Addr} {ds : List (List Int)} {l : List (Nat × Nat)} {Z : List (GSa.Row2 × (Nat × Nat))} (f : FstZ K P w H fd ds l Z) (g : G none H H') : FstZ K P w H' fd ds l Z :=
  ⟨⟨g.all _ _ f.dic.1, fun r hr => sqT_t g.tups (f.dic.2 r hr)⟩, f.nub_, f.key, fun z hz => g.all _ _ (f.obj z hz), f.nd⟩
theorem atB_of {rs : List GSa.Row2} (nd : (rs.map (·.1)).Nodup) {r : GSa.Row2} (h : r ∈ rs) : GSa.atB rs r.1 = some r := by
  induction rs with
  | nil => cases h
  | cons p rs ih =>
    obtain ⟨n1, n2⟩ := List.nodup_cons.mp nd
    unfold GSa.atB
    rcases List.mem_cons.mp h with rfl | h
    · simp
    · have ne : ¬ (decide (p.1 = r.1) = true) := fun e => by
        have e : p.1 = r.1 := of_decide_eq_true e
        exact n1 (by show p.1 ∈ _; rw [e]; exact List.mem_map.mpr ⟨r, h, rfl⟩)
      have ne2 : decide (p.1 = r.1) = false := by simpa using ne
      simp only [List.find?_cons, ne2]
      exact ih n2 h
theorem FstZ.old {P : Program} {w : World} {H : Hp} {fd : Addr} {ds : List (List Int)} {l : List (Nat × Nat)} {Z : List (GSa.Row2 × (Nat × Nat))} (f : FstZ K P w H fd ds l Z) {u : Nat × Nat} {r : GSa.Row2} (h : GSa.atB (Z.map (·.1)) (side ds u) = some r) : FstZ K P w H fd ds (l ++ [u]) Z := by
  refine ⟨f.dic, ?_, f.key, f.obj, f.nd⟩
  rw [nub_snoc, ← f.nub_]
  unfold nubS
  rw [if_pos]
  have m := List.mem_of_find?_eq_some h
  have e := List.find?_some h
  obtain ⟨z, hz, rfl⟩ := List.mem_map.mp m
  rw [List.any_eq_true]
  exact ⟨z.2, List.mem_map.mpr ⟨z, hz, rfl⟩, by rw [← f.key z hz]; exact e⟩
theorem FstZ.new {P : Program} {w : World} {H H' : Hp} {fd : Addr} {ds : List (List Int)} {l : List (Nat × Nat)} {Z : List (GSa.Row2 × (Nat × Nat))} (f : FstZ K P w H fd ds l Z) {u : Nat × Nat} {b c : Addr} (h : GSa.atB (Z.map (·.1)) (side ds u) = none)
    (hd : GSa.IsBD P w K H' fd (Z.map (·.1) ++ [(side ds u, b, c)])) (ho : ∀ a xs, H a = some (.tup xs) → H' a = some (.tup xs)) (hc : H c = some (.tup [.int (u.1 : Nat), .int (u.2 : Nat)])) : FstZ K P w H' fd ds (l ++ [u]) (Z ++ [((side ds u, b, c), u)]) := by
  have no := GSa.atB_none h
  rw [List.map_map] at no
  refine ⟨by rw [List.map_append]; exact hd, ?_, fun z hz => ?_, fun z hz => ?_, ?_⟩
  · rw [nub_snoc, List.map_append, f.nub_]
    unfold nubS
    rw [if_neg]
    · rfl
    · intro a
      obtain ⟨y, hy, e⟩ := List.any_eq_true.mp a
      rw [← f.nub_] at hy
      obtain ⟨z, hz, rfl⟩ := List.mem_map.mp hy
      exact no (List.mem_map.mpr ⟨z, hz, (f.key z hz).trans (of_decide_eq_true e)⟩)
  · rcases List.mem_append.mp hz with hz | hz
    · exact f.key z hz
    · rw [List.mem_singleton.mp hz]
  · rcases List.mem_append.mp hz with hz | hz
    · exact ho _ _ (f.obj z hz)
    · rw [List.mem_singleton.mp hz]; exact ho _ _ hc
  · rw [List.map_append]
    refine List.nodup_append.mpr ⟨f.nd, by simp, fun x hx y hy e => ?_⟩
    have hy : y = side ds u := by simpa using hy
    rw [hy] at e
    exact no (e ▸ hx)
theorem InBag_n {P : Program} {w : World} {H H' : Hp} {D : Addr} {L : List (Addr × List Bool)} (h : GSa.InBag P w H D L) (g : G none H H') : GSa.InBag P w H' D L := ⟨g.all _ _ h.1, fun q hq => ⟨g.all _ _ (h.2 q hq).1, (h.2 q hq).2⟩⟩
theorem four_count {ks : List (List Bool)} {a b : List Bool} (nd : ks.Nodup) (m : ∀ k, k ∈ ks ↔ k ∈ (a.zip b).map fun q => [q.1, q.2]) : decide ((ks.length : Int) = 4) = four a b := by
  have tw : ∀ k ∈ ks, k ∈ GSa.two := fun k hk => by
    obtain ⟨q, _, rfl⟩ := List.mem_map.mp ((m k).mp hk)
    obtain ⟨x, y⟩ := q
    cases x <;> cases y <;> simp [GSa.two]
  have le := List.Nodup.length_le_of_subset nd tw
  have inz : ∀ x y : Bool, [x, y] ∈ ks ↔ (x, y) ∈ a.zip b := fun x y => by
    rw [m, List.mem_map]
    constructor
    · rintro ⟨⟨p, q⟩, h, e⟩
      simp only [List.cons.injEq, and_true] at e
      obtain ⟨rfl, rfl⟩ := e
      exact h
    · exact fun h => ⟨(x, y), h, rfl⟩
  rw [Bool.eq_iff_iff, decide_eq_true_iff]
  unfold four
  simp only [Bool.and_eq_true, List.contains_iff_mem, ← inz]
  constructor
  · intro e
    have all : ∀ k ∈ GSa.two, k ∈ ks := fun k hk => by
      apply Decidable.byContradiction
      intro no
      have := GSa.two_room nd tw hk no
      omega
    exact ⟨⟨all _ (by simp [GSa.two]), all _ (by simp [GSa.two])⟩, all _ (by simp [GSa.two]), all _ (by simp [GSa.two])⟩
  · rintro ⟨⟨h1, h2⟩, h3, h4⟩
    have nt : GSa.two.Nodup := by decide
    have ge := List.Nodup.length_le_of_subset nt (l₂ := ks) fun k hk => by
      have hk : k = [false, false] ∨ k = [false, true] ∨ k = [true, false] ∨ k = [true, true] := by simpa [GSa.two] using hk
      rcases hk with rfl | rfl | rfl | rfl <;> assumption
    have le : ks.length ≤ 4 := le
    have ge : 4 ≤ ks.length := ge
    omega
theorem mix_Z {P : Program} {w : World} {H : Hp} {fd : Addr} {ds : List (List Int)} {n : Nat} {Z : List (GSa.Row2 × (Nat × Nat))} (f : FstZ K P w H fd ds (pairsN n) Z) : (GCb.prs Z).findSome? (fun y => if four y.1.1.1 y.2.1.1 then some (y.1.2, y.2.2) else none) = mixF n ds := by
  unfold mixF
  rw [← mix_nub (side ds) _ (pairsN n) (Nat.le_refl _), ← f.nub_]
  unfold mixG
  rw [GCb.prs_map, List.findSome?_map]
  apply fs_congr
  rintro ⟨z1, z2⟩ hz
  have m := mem_prs hz
  have k1 := f.key z1 m.1
  have k2 := f.key z2 m.2
  simp only [Function.comp, k1, k2]
def sp_mixed_picture (K : PySem.W.Frag) (C : Addr) : Sp := fun vs H Q _ => ∃ (x : Addr) (ws : List Int) (ds : List (List Int)), vs = [.ref x] ∧ RecAt K C H x ws ds ∧ IsWh ws ds ∧ ∀ v H', G none H H' → Dp K H' v (mixD (mixF ws.length ds)) → Q v H'
theorem ok_mixed_picture (T : Txt K mg a) : FnOk P w K mg base CX0 3 a.f_mixed_picture a.d_mixed_picture P_mixed_picture (sp_mixed_picture K a.c_Record) := by
  refine T.F_mixed_picture.ok sc_mixed_picture (fun vs H Q E h => by obtain ⟨x, ws, ds, rfl, _⟩ := h; rfl) (fun cdv A outer s H vs Q E hr h => ?_)
  obtain ⟨x, ws, ds, rfl, hrec, wh, k⟩ := h
  have p30 := wh.rec_.p30
  have pl9 := pairs_len p30
  have ndP := prs_nodup (List.nodup_range (n := ws.length))
  have G_sides_by_pair : FnOk P w K mg base CX0 2 a.f_sides_by_pair a.d_sides_by_pair P_sides_by_pair (sp_sides_by_pair K a.c_Record) := ok_sides_by_pair T
  refine ⟨_, (pss_cons (ps_set (i := 1) sc_mixed_picture.nd rfl (Or.inl rfl) (pe_call (G_sides_by_pair) (hr.mono (by omega)) rfl T.m_sides_by_pair T.F_sides_by_pair.kp T.b_sides_by_pair .nil pass0 (pa_cons (pv 0) pa_nil)))
  (pss_cons (ps_set (i := 2) sc_mixed_picture.nd rfl (Or.inl rfl) GSa.pe_dnewB)
  (pss_cons (ps_for PassesOwn.never rfl (GSa.pi_keysLT (pv 1)) (pg_name (i := 3) sc_mixed_picture.nd rfl (Or.inl rfl))
    (pss_one (ps_expr (GSa.pe_dsetdB (hu_of hr) (pv 2) (pe_dget (hu_of hr) (pv 1) (pv 3) (by first | exact fun _ _ => rfl | rfl | decide)) (pv 3) ⟨rfl, rfl, rfl, rfl⟩))))
  (pss_cons (ps_for PassesOwn.never rfl (pi_comb rfl rfl T.w_comb (GSa.pcol_BD (pv 2))) (pg_tup rfl (pgs_cons (pg_name (i := 4) sc_mixed_picture.nd rfl (Or.inl rfl)) (pgs_cons (pg_name (i := 5) sc_mixed_picture.nd rfl (Or.inl rfl)) pgs_nil)))
    (pss_one (ps_if (pt_cmpR op_eq (pe_callB GSa.call_lenBag (by rfl) T.n_len (by decide +kernel) (pa_cons (GSa.pe_scT2 (hu_of hr) (own := [("flag", 6), ("beside", 7)]) (g := (gTup K 2 (gCons (gName 6) (gCons (gName 7) gNil)))) (tt := tYes) rfl sc_mixed_picture.nd (RZ.pi_zipA (by rfl) T.n_zip (pa_cons (pv 4) (pa_cons (pv 5) pa_nil))) (blkOk_by (N := N_mixed_picture) (sc := defScope s_mixed_picture) (by decide +kernel)) (fun _ _ _ _ _ => (pg_tup rfl (pgs_cons (pg_name (i := 6) sc_mixed_picture.nd rfl (by first | exact Or.inl rfl | exact Or.inr rfl)) (pgs_cons (pg_name (i := 7) sc_mixed_picture.nd rfl (by first | exact Or.inl rfl | exact Or.inr rfl)) pgs_nil)))) (fun _ _ _ _ _ => pts_nil) (fun _ _ _ _ _ => (pe_tupN (pa_cons (pv 6) (pa_cons (pv 7) pa_nil))))) pa_nil)) pe_int (nomark _))
    (pss_one (ps_ret (pe_tupN (pa_cons pe_str (StX.pa_star (GSa.pe_dgetB (hu_of hr) (pv 2) (pv 4) (by first | exact fun _ _ => rfl | rfl | decide)) (StX.pa_star (GSa.pe_dgetB (hu_of hr) (pv 2) (pv 5) (by first | exact fun _ _ => rfl | rfl | decide)) pa_nil))))))
    pss_nil)))
  (pss_one (ps_ret pe_non)))))), ?_⟩
  walk_at "ws"
  refine ⟨x, ws, ds, rfl, hrec, wh, fun q kvs H1 hq g1 h1 sd => ?_⟩
  walk_at "ws"
  refine GSa.w_dnewB (P := P) (w := w) fun fd hfd => ?_
  have nqf : q ≠ fd := ne_of_none h1 hfd
  have g2 : G none H (upd H1 fd (GSa.BDO P w fd [])) := g1.mut (new_bk g1 hfd) (fun _ e => nomatch e)
  have h2 : (upd H1 fd (GSa.BDO P w fd [])) q = some (.dT kvs) := by rw [upd_ne nqf]; exact h1
  have t2 : Ts H1 (upd H1 fd (GSa.BDO P w fd [])) := (G.alloc hfd (o := none)).tups
  have sd2 := sd.t t2
  have f2 : FstZ K P w (upd H1 fd (GSa.BDO P w fd [])) fd ds [] [] := ⟨⟨upd_same, fun r hr => by cases hr⟩, rfl, (fun z hz => by cases hz), (fun z hz => by cases hz), List.nodup_nil⟩
  have hfH := new_bk g1 hfd
  generalize upd H1 fd (GSa.BDO P w fd []) = H2 at g2 h2 t2 sd2 f2 ⊢
  walk_at "ws"
  refine GSa.w_ikeysLT ?_
  walk_at "ws"
  refine ⟨q, kvs, rfl, h2, fun o => ?_⟩
  have lk := sd2.1
  have g3 : G none H (upd H2 q (.frz o (.dT kvs))) := g2.mut hq (fun _ e => nomatch e)
  have h3 : (upd H2 q (.frz o (.dT kvs))) q = some (.frz o (.dT kvs)) := upd_same
  have t3 : Ts H2 (upd H2 q (.frz o (.dT kvs))) := ts_updD h2
  have sd3 := sd2.t t3
  have f3 : FstZ K P w (upd H2 q (.frz o (.dT kvs))) fd ds [] [] := ⟨⟨by rw [upd_ne (Ne.symm nqf)]; exact f2.dic.1, fun r hr => by cases hr⟩, rfl, (fun z hz => by cases hz), (fun z hz => by cases hz), List.nodup_nil⟩
  clear f2
  generalize upd H2 q (.frz o (.dT kvs)) = H3 at g3 h3 t3 sd3 f3 ⊢
  refine for_it (walk_keysT (d := q) (o := o) (kvs := kvs)) (fun i σ H' => ∃ u3 u4 u5 u6 u7 Z, σ = [some (.ref x), some (.ref q), some (.ref fd), u3, u4, u5, u6, u7] ∧ G none H H' ∧ H' q = some (.frz o (.dT kvs)) ∧ SdV K H' (pairsN ws.length) ds kvs ∧ FstZ K P w H' fd ds ((pairsN ws.length).take i) Z)
    ⟨_, _, _, _, _, [], rfl, g3, h3, sd3, f3⟩ (fun i σ H' _ ⟨_, _, _, _, _, _, _, _, z, _⟩ => z) ?_ ?_
  · rintro i v σ H4 H5 hi ⟨u3, u4, u5, u6, u7, Z, rfl, g4, h4, sd4, f4⟩ ⟨rfl, kk, vv, qa, hkv, rfl, hqa⟩
    rw [lk] at hi
    obtain ⟨u, hu⟩ : ∃ u, (pairsN ws.length)[i]? = some u := ⟨_, List.getElem?_eq_getElem hi⟩
    obtain ⟨ek, _⟩ := sd4.2 i u _ hu hkv
    have ek : kk = kN u := ek
    subst ek
    obtain ⟨ts, hval, hts⟩ := sdv_val sd4 ndP hu
    have tk : (pairsN ws.length).take (i + 1) = (pairsN ws.length).take i ++ [u] := by rw [List.take_add_one, hu]; rfl
    walk_at "ws"
    refine GSa.w_dsetdB (P := P) (w := w) (K := K) ?_
    walk_at "ws"
    refine ⟨fd, _, rfl, f4.dic.1, ?_⟩
    walk_at "ws"
    refine w_dget ?_
    walk_at "ws"
    refine ⟨q, _, rfl, by have := DGet.fz h4 hqa; rw [hval] at this; exact this, ?_⟩
    walk_at "ws"
    have lz : (Z.map (·.1)).length < sizeLine := by
      have ln : Z.length ≤ i := by
        have e := congrArg List.length f4.nub_
        rw [List.length_map] at e
        have z := nub_len (side ds) _ ((pairsN ws.length).take i) (Nat.le_refl _)
        rw [List.length_take] at z
        omega
      rw [List.length_map]
      exact Nat.lt_of_le_of_lt (by omega : Z.length ≤ 1000) (by decide)
    refine ⟨Z.map (·.1), side ds u, ts, qa, rfl, rfl, f4.dic, hts, lz, fun r hr => ?_, fun hn hd => ?_⟩
    · walk_at "ws"
      exact ⟨_, _, _, _, _, Z, rfl, g4, h4, sd4, by rw [tk]; exact f4.old hr⟩
    · have tsu : Ts H5 (upd H5 fd (GSa.BDO P w fd (Z.map (·.1) ++ [(side ds u, ts, qa)]))) := fun a' xs' hx => by
        rcases hx with hx | ⟨ob', hx⟩
        · exact .inl (by rw [upd_ne (ne_of hx f4.dic.1 (fun z => by unfold GSa.BDO at z; cases z))]; exact hx)
        · exact .inr ⟨ob', by rw [upd_ne (ne_of hx f4.dic.1 (fun z => by unfold GSa.BDO at z; cases z))]; exact hx⟩
      walk_at "ws"
      refine ⟨_, _, _, _, _, Z ++ [((side ds u, ts, qa), u)], rfl, g4.mut hfH (fun _ e => nomatch e), by rw [upd_ne nqf]; exact h4, sd4.t tsu, ?_⟩
      rw [tk]
      refine f4.new hn hd (fun a xs e => ?_) hqa
      rw [upd_ne (ne_of e f4.dic.1 (fun z => by unfold GSa.BDO at z; cases z))]
      exact e
  rintro σ H4 ⟨u3, u4, u5, u6, u7, Z, rfl, g4, h4, sd4, f4⟩
  rw [lk, List.take_length] at f4
  walk_at "ws"
  refine w_comb ?_
  refine GSa.w_tcBD (P := P) (w := w) (K := K) ?_
  walk_at "ws"
  refine ⟨fd, Z.map (·.1), rfl, f4.dic, ?_⟩
  have rowk : ((Z.map (·.1)).map fun r => V.ref r.2.1) = Z.map fun z => V.ref z.1.2.1 := by rw [List.map_map]; rfl
  rw [rowk]
  have lp : (GCb.prs (Z.map fun z => V.ref z.1.2.1)).length = (GCb.prs Z).length := by rw [GCb.prs_map, List.length_map]
  refine for_it (walk_prs (xs := Z.map fun z => V.ref z.1.2.1) lp.symm) (fun i σ H' => ∃ u3 u4 u5 u6 u7, σ = [some (.ref x), some (.ref q), some (.ref fd), u3, u4, u5, u6, u7] ∧ G none H4 H' ∧ ((GCb.prs Z).take i).findSome? (fun y => if four y.1.1.1 y.2.1.1 then some (y.1.2, y.2.2) else none) = none)
    ⟨_, _, _, _, _, rfl, G.refl, rfl⟩ (fun i σ H' _ _ => True.intro) ?_ ?_
  · rintro i v σ H5 H6 hi ⟨w3, w4, w5, w6, w7, rfl, g5, none1⟩ ⟨t, y, z, rfl, ht, rfl, ey, ez⟩
    have g6 : G none H5 (upd H5 t (.tup [y, z])) := G.alloc ht
    have hT6 : (upd H5 t (.tup [y, z])) t = some (.tup [y, z]) := upd_same
    generalize upd H5 t (.tup [y, z]) = H6 at g6 hT6 ⊢
    have ey : (GCb.prs (Z.map fun z => V.ref z.1.2.1))[i]?.map (·.1) = some y := ey
    have ez : (GCb.prs (Z.map fun z => V.ref z.1.2.1))[i]?.map (·.2) = some z := ez
    rw [GCb.prs_map, List.getElem?_map] at ey ez
    obtain ⟨⟨z1, z2⟩, hz⟩ : ∃ p, (GCb.prs Z)[i]? = some p := ⟨_, List.getElem?_eq_getElem hi⟩
    rw [hz] at ey ez
    cases (show V.ref z1.1.2.1 = y from Option.some.inj ey)
    cases (show V.ref z2.1.2.1 = z from Option.some.inj ez)
    have zm := mem_prs (List.mem_of_getElem? hz)
    have m1 : z1 ∈ Z := zm.1
    have m2 : z2 ∈ Z := zm.2
    have f6 := f4.n (g5.trans g6)
    have g46 := g5.trans g6
    have s1 := f6.dic.2 z1.1 (List.mem_map.mpr ⟨z1, m1, rfl⟩)
    have s2 := f6.dic.2 z2.1 (List.mem_map.mpr ⟨z2, m2, rfl⟩)
    have l1 : z1.1.1.length = ds.length := by rw [f6.key z1 m1]; unfold side; rw [List.length_map]
    have l2 : z2.1.1.length = ds.length := by rw [f6.key z2 m2]; unfold side; rw [List.length_map]
    refine ⟨t, _, rfl, SqT.of hT6, rfl, ?_⟩
    refine ⟨_, _, rfl, ?_⟩
    walk_at "ws"
    refine ⟨_, _, rfl, ?_⟩
    walk_at "ws"
    refine ⟨rfl, ?_⟩
    walk_at "ws"
    refine GSa.w_scT2 (P := P) (w := w) ?_
    walk_at "ws"
    refine ⟨_, _, _, _, rfl, .inr ⟨s1, s2, ?_⟩⟩
    intro D hD
    have m7 := wh.rec_.m7
    refine GSa.scT2_it (P := P) (w := w) (walk_zipT (xs := z1.1.1.map V.bl) (ys := z2.1.1.map V.bl) rfl) (fun j H' => G none H6 H' ∧ ∃ L, GSa.InBag P w H' D L ∧ (L.map (·.2)).Nodup ∧ ∀ kk, kk ∈ L.map (·.2) ↔ kk ∈ ((z1.1.1.zip z2.1.1).take j).map fun q => [q.1, q.2]) ⟨(G.refl).mut hD (fun _ e => nomatch e), [], ⟨upd_same, fun q hq => by cases hq⟩, List.nodup_nil, (fun kk => by simp)⟩ (fun j H' _ h => ⟨sqT_t h.1.tups s1, sqT_t h.1.tups s2⟩) ?_ ?_
    · rintro j v H7 H8 hj ⟨g7, L, bag, ndL, mem⟩ ⟨t2, y2, z2', rfl, ht2, rfl, ey2, ez2⟩
      rw [List.length_map, List.length_map] at hj
      have ey2 : (z1.1.1.map V.bl)[j]? = some y2 := ey2
      have ez2 : (z2.1.1.map V.bl)[j]? = some z2' := ez2
      rw [List.getElem?_map] at ey2 ez2
      obtain ⟨b1, hb1, rfl⟩ := Option.map_eq_some_iff.mp ey2
      obtain ⟨b2, hb2, rfl⟩ := Option.map_eq_some_iff.mp ez2
      have g8 : G none H7 (upd H7 t2 (.tup [.bl b1, .bl b2])) := G.alloc ht2
      have hT8 : (upd H7 t2 (.tup [.bl b1, .bl b2])) t2 = some (.tup [.bl b1, .bl b2]) := upd_same
      generalize upd H7 t2 (.tup [.bl b1, .bl b2]) = H8 at g8 hT8 ⊢
      refine ⟨t2, _, rfl, SqT.of hT8, rfl, ?_⟩
      refine ⟨_, _, rfl, ?_⟩
      walk_at "ws"
      refine ⟨_, _, rfl, ?_⟩
      walk_at "ws"
      refine ⟨rfl, rfl, ?_⟩
      walk_at "ws"
      refine ⟨sz (by simp), fun t3 H9 ht3 g9 h9 => ?_⟩
      have bag9 := InBag_n bag (g8.trans (g9 none))
      have tw : [b1, b2] ∈ GSa.two := by cases b1 <;> cases b2 <;> simp [GSa.two]
      have zj : (z1.1.1.zip z2.1.1)[j]? = some (b1, b2) := by rw [List.getElem?_zip_eq_some]; exact ⟨hb1, hb2⟩
      have tk : (z1.1.1.zip z2.1.1).take (j + 1) = (z1.1.1.zip z2.1.1).take j ++ [(b1, b2)] := by rw [List.take_add_one, zj]; rfl
      refine ⟨t3, [b1, b2], L, rfl, h9, tw, bag9, fun L' o1 o2 bag' => ⟨(g7.trans (g8.trans (g9 none))).mut hD (fun _ e => nomatch e), L', bag', ?_, fun kk => ?_⟩⟩
      · by_cases c : [b1, b2] ∈ L.map (·.2)
        · rw [o1 c]; exact ndL
        · exact ((o2 c).map (·.2)).nodup_iff.mpr (List.nodup_cons.mpr ⟨c, ndL⟩)
      · rw [tk, List.map_append, List.mem_append, ← mem]
        by_cases c : [b1, b2] ∈ L.map (·.2)
        · rw [o1 c]
          constructor
          · exact .inl
          · rintro (h | h)
            · exact h
            · rw [show kk = [b1, b2] by simpa using h]; exact c
        · rw [((o2 c).map (·.2)).mem_iff, List.map_cons, List.mem_cons]
          constructor
          · rintro (h | h)
            · exact .inr (by simpa using h)
            · exact .inl h
          · rintro (h | h)
            · exact .inr h
            · exact .inl (by simpa using h)
    · rintro H7 ⟨g7, L, bag, ndL, mem⟩
      have full : (z1.1.1.zip z2.1.1).take (min (z1.1.1.map V.bl).length (z2.1.1.map V.bl).length) = z1.1.1.zip z2.1.1 := List.take_of_length_le (by rw [List.length_zip, List.length_map, List.length_map]; exact Nat.le_refl _)
      rw [full] at mem
      walk_at "ws"
      refine ⟨D, L, rfl, bag, ?_⟩
      walk_at "ws"
      have cnt := four_count ndL mem
      rw [List.length_map] at cnt
      cases c : four z1.1.1 z2.1.1 with
      | true =>
        rw [c] at cnt
        rw [cnt]
        have f7 := f6.n g7
        have nd7 : ((Z.map (·.1)).map (·.1)).Nodup := by rw [List.map_map]; exact f7.nd
        have r1 : z1.1 ∈ Z.map (·.1) := List.mem_map.mpr ⟨z1, m1, rfl⟩
        have r2 : z2.1 ∈ Z.map (·.1) := List.mem_map.mpr ⟨z2, m2, rfl⟩
        walk_at "ws"
        refine w_star (K := K) ?_
        refine GSa.w_dgetB (P := P) (w := w) (K := K) ?_
        walk_at "ws"
        refine ⟨fd, Z.map (·.1), z1.1.1, z1.1.2.1, z1.1, rfl, rfl, f7.dic, f7.dic.2 _ r1, atB_of nd7 r1, ?_⟩
        refine ⟨z1.1.2.2, _, rfl, .inl (SqT.of (f7.obj z1 m1)), ?_⟩
        refine w_star (K := K) ?_
        refine GSa.w_dgetB (P := P) (w := w) (K := K) ?_
        walk_at "ws"
        refine ⟨fd, Z.map (·.1), z2.1.1, z2.1.2.1, z2.1, rfl, rfl, f7.dic, f7.dic.2 _ r2, atB_of nd7 r2, ?_⟩
        refine ⟨z2.1.2.2, _, rfl, .inl (SqT.of (f7.obj z2 m2)), ?_⟩
        walk_at "ws"
        refine ⟨sz (by simp), fun t8 H8 ht8 g8 h8 => ?_⟩
        refine k _ _ (g4.trans (g46.trans (g7.trans (g8 none)))) ?_
        have fin := fs_hit none1 hz (show (if four z1.1.1 z2.1.1 then some (z1.2, z2.2) else none) = some (z1.2, z2.2) by rw [c]; rfl)
        rw [mix_Z f4] at fin
        rw [fin]
        exact .tup (SqT.of h8) (.cons (.str _) (.cons (.int _) (.cons (.int _) (.cons (.int _) (.cons (.int _) .nil)))))
      | false =>
        rw [c] at cnt
        rw [cnt]
        walk_at "ws"
        exact ⟨_, _, _, _, _, rfl, g46.trans g7, fs_miss none1 hz (by simp [c])⟩
  · rintro σ H5 ⟨w3, w4, w5, w6, w7, rfl, g5, none1⟩
    walk_at "ws"
    refine k _ _ (g4.trans g5) ?_
    have none2 := fs_end none1
    rw [mix_Z f4] at none2
    rw [none2]
    exact .non

end
end Mine
/-! ## GDC -/
end
namespace GSa
open PySem PySem.Spec PyProof.Rows L2 GA
section
variable {X : Cx}
theorem sw_dict {kx vx : Expr} {gs : List Comprehension} {scope : Scope} {pos py : Pos} {y : Str} {l : Nat} {env : Env} (hk : env.scope.kind = .function) (hy : env.scope.names.lookup y = some .local) (hl : (py.line == pos.line) = true)
    (ha : (scope.names.any fun (n, k) => n == y && (k == .local || k == .cell)) = false) : swapsWith (.DictComp kx vx gs scope pos) (some (.Name y py)) l env = pure true := by
  have k1 : env.kindOf y = some .local := hy
  have k2 : env.blockKind = .function := by
    unfold Env.blockKind
    rw [hk]
    rfl
  unfold swapsWith
  simp only [k2, k1, ha, Expr.pos, hl]
  rfl
theorem ps_setDcT {i0 : Nat} {y : Str} {py spos : Pos} {kx vx tg iter : Expr} {ifs : List Expr} {scope : Scope} {own : List (Str × Nat)} {pos : Pos} {wi : TI} {g : TG} {tt : TT} {tk tv : TE} (hu : X.A.units + 1 < cLine) (calm : X.calm = true) (nd : X.N.Nodup) (hy : X.N[i0]? = some y) (hyl : X.env.scope.names.lookup y = some .local) (hsw : swapsWith (.DictComp kx vx [⟨tg, iter, ifs, 0⟩] scope pos) (some (.Name y py)) spos.line X.env = pure true) (src : PI X tg iter wi) (blk : BlkOk X.N X.env.scope scope own)
    (pg : ∀ (s : Shared) (H : Hp) (C : Addr) (cl : List (Str × Addr)) (fp : List Addr), PG (X.blk s H scope (compEnvC scope cl C X.env) fp) tg g)
    (pt : ∀ (s : Shared) (H : Hp) (C : Addr) (cl : List (Str × Addr)) (fp : List Addr), PTs (X.blk s H scope (compEnvC scope cl C X.env) fp) ifs tt)
    (pk : ∀ (s : Shared) (H : Hp) (C : Addr) (cl : List (Str × Addr)) (fp : List Addr), PE (X.blk s H scope (compEnvC scope cl C X.env) fp) kx tk)
    (pv' : ∀ (s : Shared) (H : Hp) (C : Addr) (cl : List (Str × Addr)) (fp : List Addr), PE (X.blk s H scope (compEnvC scope cl C X.env) fp) vx tv) (fold : ∀ x, foldedSetIterable iter X.env x = pure x := by intro _; rfl) :
    PS X (.Assign [.Name y py] (.DictComp kx vx [⟨tg, iter, ifs, 0⟩] scope pos) spos) (tAsg (tDcT wi g tt tk tv (own.map (·.2))) (gName i0)) := by
  refine ⟨fun pins s σ H D0 I want => ?_⟩
  rw [exec_Assign_Name_used _ _ _ _ hsw]
  refine wpAny_bind (wpAny_standAt (wpAny_bind ?_))
  show wpAny _ X.A (do let _ ← comprehension (.DictComp kx vx [⟨tg, iter, ifs, 0⟩] scope pos) scope X.env (firstIterPos [⟨tg, iter, ifs, 0⟩] pos) newDict false (eval iter X.env) (some (assign (.Name y py) X.env))) _ _ s
  have want : tDcT wi g tt tk tv (own.map (·.2)) σ H (fun x H1 => gName i0 x σ H1 D0.nx) := want
  refine wpAny_bind (thn (Q := fun _ s' => SP X pins D0 .next s') ?core fun _ s' hq => wpAny_pure (wpAny_pure hq))
  have cells : ∀ nm ∈ scope.names, nm.2 = .free → ∃ c, X.env.cells.lookup nm.1 = some c := fun nm hnm e => (blk.free nm hnm e).elim (fun a => I.ok.has _ (.inl a)) fun a => I.ok.has _ (.inr a)
  apply wpAny_comprehension_free (use := some (assign (.Name y py) X.env)) rfl fold (closure_ok cells) blk.kind (fun nm hnm e => by rw [blk.uniq nm hnm, e])
  refine thn (src.run pins s σ H _ I want) fun _ sa step1 => thn step1 fun _ sb step2 => ?_
  obtain ⟨it, fp, told, J, Hb, rfl, Ib, Tn, stb, fb, rest⟩ := step2
  refine wpAny_newObj_type (newEnv_comp ?_)
  -- the dict's own place
  obtain ⟨D, eD⟩ : ∃ D, sb.heap.objs.size = D := ⟨_, rfl⟩
  have freeD : Hb D = none := Ib.hok.fresh (eD ▸ Nat.le_refl _)
  obtain ⟨W, ⟨m0, start⟩, turn⟩ := rest D freeD
  obtain ⟨sc, eSc⟩ : ∃ sc : Shared, { sb with heap := sb.heap.push { cls := .type "dict", data := .dict #[] } } = sc := ⟨_, rfl⟩
  have hc : sc.heap = sb.heap.push { cls := .type "dict", data := .dict #[] } := eSc ▸ rfl
  have Ic : Inv X pins σ (upd Hb D (.dT [])) sc := by
    subst eSc eD
    exact Ib.laid (t' := sb.toks) (fun _ _ e => Heap.get?_push_of_some _ e) (Nat.le_refl _) (dt_empty sb.heap Ib.big)
  have low : ∀ b ∈ fp, b < sb.heap.objs.size := fun b hb => let ⟨_, e, _⟩ := Tn.obj _ _ stb b hb; Heap.lt_size e
  have fc : ∀ b ∈ fp, FpOk X pins (upd Hb D (.dT [])) b ∧ b < sc.heap.objs.size := by
    intro b hb
    have lt := low b hb
    have ne : b ≠ D := eD ▸ Nat.ne_of_lt lt
    exact ⟨⟨(upd_ne ne).trans (fb b hb).1, (fb b hb).2⟩, by rw [hc, Heap.size_push]; exact Nat.lt_succ_of_lt lt⟩
  have stc : told 0 sc.heap := Tn.keep _ _ _ stb fun b _ o e => hc ▸ Heap.get?_push_of_some _ e
  have Id := block_start Ic blk nd fc
  have rg := pg sc (upd Hb D (.dT [])) sc.heap.objs.size (cellsFrom (sc.heap.objs.size + 1) scope.names (cloFrom X.env.cells scope.names [])) fp
  have rt := pt sc (upd Hb D (.dT [])) sc.heap.objs.size (cellsFrom (sc.heap.objs.size + 1) scope.names (cloFrom X.env.cells scope.names [])) fp
  have rk := pk sc (upd Hb D (.dT [])) sc.heap.objs.size (cellsFrom (sc.heap.objs.size + 1) scope.names (cloFrom X.env.cells scope.names [])) fp
  have rv := pv' sc (upd Hb D (.dT [])) sc.heap.objs.size (cellsFrom (sc.heap.objs.size + 1) scope.names (cloFrom X.env.cells scope.names [])) fp
  have bare : ∀ b ∈ fp, upd Hb D (.dT []) b = none := fun b hb => (fc b hb).1.1
  show codeAny _ _ (.compStart (.DictComp kx vx [⟨tg, iter, ifs, 0⟩] scope pos) 0 (.ref it) (.ref sb.heap.objs.size) (compEnvC scope (cellsFrom (({ sb with heap := sb.heap.push { cls := .type "dict", data := .dict #[] } } : Shared).heap.objs.size + 1) scope.names (cloFrom X.env.cells scope.names [])) ({ sb with heap := sb.heap.push { cls := .type "dict", data := .dict #[] } } : Shared).heap.objs.size X.env)) (compPost (model X.prog X.w) X.A X.xe (some (assign (.Name y py) X.env)) _ (.ref sb.heap.objs.size) ({ sb with heap := sb.heap.push { cls := .type "dict", data := .dict #[] } } : Shared).heap.objs.size) { ({ sb with heap := sb.heap.push { cls := .type "dict", data := .dict #[] } } : Shared) with heap := pushCells (({ sb with heap := sb.heap.push { cls := .type "dict", data := .dict #[] } } : Shared).heap.push { cls := .type "dict", data := .dict #[] }) scope.names }
  rw [eSc, eD]
  obtain ⟨ce, eCe⟩ : ∃ ce, compEnvC scope (cellsFrom (sc.heap.objs.size + 1) scope.names (cloFrom X.env.cells scope.names [])) sc.heap.objs.size X.env = ce := ⟨_, rfl⟩
  have at_ce : ce.locals = sc.heap.objs.size := eCe ▸ rfl
  rw [eCe] at Id rg rt rk rv ⊢
  obtain ⟨Hc, eHc⟩ : ∃ Hc, upd Hb D (.dT []) = Hc := ⟨_, rfl⟩
  rw [eHc] at Ic Id rg rt rk rv start bare fc
  obtain ⟨sd, eSd⟩ : ∃ sd : Shared, { sc with heap := pushCells (sc.heap.push { cls := .type "dict", data := .dict #[] }) scope.names } = sd := ⟨_, rfl⟩
  rw [eSd] at Id ⊢
  have std : told 0 sd.heap := Tn.keep _ _ _ stc fun b _ o e => eSd ▸ pushCells_keeps _ _ _ _ (Heap.get?_push_of_some _ e)
  have pins_ : ∀ {τ : L2.St} {H' : Hp} {s' : Shared}, Inv (X.blk sc Hc scope ce fp) [] τ H' s' → (∀ b ∈ fp, H' b = none) → ∀ b ∈ fp, FpOk (X.blk sc Hc scope ce fp) [] H' b := fun I' no b hb =>
    ⟨no b hb, (I'.ok.exf b hb).1, I'.ok.exfs b hb, .inl hb, fun x c e => (I'.ok.exf b hb).2 x c e, fun p hp => nomatch (show p ∈ ([] : List (Addr × Obj)) from hp)⟩
  have loop : codeAny (model X.prog X.w) X.A (.compLoop (.DictComp kx vx [⟨tg, iter, ifs, 0⟩] scope pos) 0 (.ref it) (.ref D) ce) (compPost (model X.prog X.w) X.A X.xe (some (assign (.Name y py) X.env)) (fun _ s' => SP X pins D0 .next s') (.ref D) sc.heap.objs.size) sd := by
    refine compLoop_anyD (fun n s' => ∃ i H', Inv (X.blk sc Hc scope ce fp) [] (wipe σ (own.map (·.2))) H' s' ∧ told i s'.heap ∧ (∀ b ∈ fp, H' b = none) ∧ W i n H') ?_ m0 ⟨0, Hc, Id, std, bare, start⟩
    rintro n s1 ⟨i, H1, I1, st1, no1, w1⟩
    rcases turn i n H1 w1 with ⟨halt, ends⟩ | ⟨goes, Nx, next, step⟩
    · refine thnF (Tn.done (X.blk sc Hc scope ce fp) rfl rfl rfl calm i [] s1 _ H1 (fun _ _ => False) I1 (pins_ I1 no1) st1 halt) fun r s2 out => ?_
      obtain ⟨rfl, I2⟩ := out
      have I3 : Inv X pins σ H1 s2 := Ic.call' (ch := fp) I2.os I2.base I2.hok I2.bare fun b hb =>
        let q := (fc b hb).1.2
        ⟨q.2.2.1, q.1, q.2.2.2.1, q.2.2.2.2⟩
      have free1 : H1 sc.heap.objs.size = none := at_ce ▸ I2.free
      obtain ⟨ns, hns, _⟩ := I2.loc
      have hns : s2.heap.Ns sc.heap.objs.size ns := at_ce ▸ (show s2.heap.Ns ce.locals ns from hns)
      obtain ⟨q0, q1, q2, q3, q4, q5⟩ := Ic.fpOk (Nat.le_refl _) free1
      show wpAny _ _ (assign (.Name y py) X.env (.ref D)) _ _ _
      refine wpAny_assign_Name (store_ok2 (v := V.ref D) I3 nd hy (.inl hyl) rfl (fun s3 I4 ⟨c0, sb3, hc0⟩ => ?_) (.inr hyl))
      have far : sc.heap.objs.size ≠ c0 := by
        rcases hc0 with z | z
        · rw [z]; exact q1
        · exact fun e => q4 y c0 z e.symm
      exact ⟨ns, hns.sameBut sb3 far, fun h4 same => ⟨_, H1, I4.turned (t' := s3.toks) (fun b o hb e => (same.2 b hb).trans e) q0 q1 q3 q4 q5, ends⟩⟩
    · refine thnF (Tn.item (X.blk sc Hc scope ce fp) rfl rfl rfl calm i [] s1 _ H1 (fun _ _ => False) I1 (pins_ I1 no1) st1 goes) fun r s2 out => ?_
      obtain ⟨u, rfl, out⟩ := out
      refine thnF out fun _ s3 ⟨x, H3, I3, r3, y3, st3, no3⟩ => ?_
      have J3 := I3.pinned (pins_ I3 no3) (Tn.obj _ _ st3)
      refine thnF (rg.run _ s3 _ H3 x u _ J3 r3 (step x H3 y3)) fun _ s4 ⟨σ4, H4, I4, w4, q4⟩ => ?_
      refine thnF (rt.run _ s4 σ4 H4 _ I4 q4) fun ok s5 ⟨H5, I5, q5⟩ => ?_
      have back : ∀ {s' : Shared} {H' : Hp}, Inv (X.blk sc Hc scope ce fp) ([] ++ pinsAt fp s3.heap) σ4 H' s' → Nx H' → ∃ m, m < n ∧ ∃ i H', Inv (X.blk sc Hc scope ce fp) [] (wipe σ (own.map (·.2))) H' s' ∧ told i s'.heap ∧ (∀ b ∈ fp, H' b = none) ∧ W i m H' := by
        intro s' H' I' nx
        obtain ⟨m', less, w'⟩ := next H' nx
        have stays : ∀ b ∈ fp, ∀ o, s3.heap.get? b = some o → s'.heap.get? b = some o ∧ H' b = none := fun b hb o e =>
          have z := I'.pin (b, o) (List.mem_append_right _ (List.mem_append_right _ (mem_pinsAt hb e)))
          ⟨z.1, z.2.1⟩
        refine ⟨m', less, i + 1, H', I'.unpinned (pins := []) |>.weak (by rw [← w4, wipe_length]) (fun j v e => (wipe_some (w4.symm ▸ e)).1), Tn.keep _ _ _ st3 fun b hb o e => (stays b hb o e).1, fun b hb => ?_, w'⟩
        obtain ⟨o, e, _⟩ := Tn.obj _ _ st3 b hb
        exact (stays b hb o e).2
      cases ok with
      | false => exact back I5 (by simpa using q5)
      | true =>
        refine thnF (rk.run _ s5 σ4 H5 _ I5 (show tk σ4 H5 _ from q5)) fun _ s6 ⟨y6, H6, I6, r6, q6⟩ => ?_
        refine thnF (rv.run _ s6 σ4 H6 _ I6 q6) fun _ s7 ⟨y7, H7, I7, r7, kvs, key, b, e7, hb7, hD7, hz7, nx⟩ => ?_
        exact dset_T (X := X.blk sc Hc scope ce fp) hu I7 hD7 hb7 hz7 (e7 ▸ r6) r7 fun s8 I8 => back I8 nx
  exact codeAny_compStart_dict loop (Tn.self X.A 0 _ _ _ std loop)
end

end GSa
/-! ## K12 -/
section
open PySem L2 GA
local macro_rules
  | `(tactic| walk_at "w") => `(tactic| first
    | ((with_reducible refine' GA.w_var ?e ?_); (case e => exact rfl))
    | (with_reducible refine' GA.w_c ?_)
    | (with_reducible refine' GA.w_cons ?_)
    | (with_reducible refine' GA.w_nil ?_)
    | (with_reducible refine' GA.w_op ?_)
    | (with_reducible refine' GA.r_I0 ?_)
    | (with_reducible refine' GA.w_bl ?_)
    | (with_reducible refine' GA.w_seq ?_)
    | (with_reducible refine' GA.w_set ?_)
    | (with_reducible refine' GA.w_ret ?_)
    | (with_reducible refine' GA.w_ifS ?_)
    | (with_reducible refine' GA.w_test ?_)
    | (with_reducible refine' GA.w_tB ?_)
    | (with_reducible refine' GA.w_not ?_)
    | (with_reducible refine' GA.w_and ?_)
    | (with_reducible refine' GA.w_or ?_)
    | (with_reducible refine' GA.w_andV ?_)
    | (with_reducible refine' GA.w_orV ?_)
    | (with_reducible refine' GA.w_notV ?_)
    | (with_reducible refine' GA.w_blc ?_)
    | (with_reducible refine' GA.w_if ?_)
    | (with_reducible refine' GA.w_CB ?_)
    | (with_reducible refine' GA.w_call ?_)
    | (with_reducible refine' GA.w_tupN ?_)
    | (with_reducible refine' GA.w_lstN ?_)
    | (with_reducible refine' GA.w_chain ?_)
    | (with_reducible refine' GA.w_drop ?_)
    | (with_reducible refine' GA.w_next ?_)
    | (with_reducible refine' GA.w_break ?_)
    | (with_reducible refine' GA.w_un ?_)
    | (with_reducible refine' GA.r_U ?_)
    | (with_reducible refine' GA.r_eqI ?_)
    | (with_reducible refine' GA.r_neI ?_)
    | (with_reducible refine' GA.r_eqB ?_)
    | (with_reducible refine' GA.r_neB ?_)
    | (with_reducible refine' GA.w_fld ?_)
    | (with_reducible refine' GA.w_sfld ?_)
    | (with_reducible refine' GA.w_sl ?_)
    | (with_reducible refine' GA.w_part ?_)
    | (with_reducible refine' GA.w_noPart ?_)
    | (with_reducible refine' GA.w_inti ?_)
    | (with_reducible refine' GA.w_retN ?_)
    | (with_reducible refine' GA.w_gsub ?_)
    | (with_reducible refine' GA.w_gname ?_)
    | (with_reducible refine' L2.iteT ?_)
    | (with_reducible refine' L2.iteF ?_)
    | (with_reducible refine' GA.w_nt ?_)
    | (with_reducible refine' GA.w_nf ?_)
    | (with_reducible refine' GA.w_isN ?_)
    | (with_reducible refine' GA.w_notN ?_)
    | (with_reducible refine' GA.w_yes ?_)
    | (with_reducible refine' GA.w_lc ?_)
    | (with_reducible refine' GA.w_lc2 ?_)
    | (with_reducible refine' GA.w_iseq ?_)
    | (with_reducible refine' GA.w_make ?_)
    | (with_reducible refine' GA.w_for ?_)
    | (with_reducible refine' GA.w_rng1 ?_)
    | (with_reducible refine' GA.w_rng2 ?_)
    | (with_reducible refine' GA.w_itup ?_)
    | (with_reducible refine' GA.w_ilist ?_)
    | (with_reducible refine' GA.w_ienum ?_)
    | (with_reducible refine' GA.w_BM ?_)
    | (with_reducible refine' GA.w_BM0 ?_)
    | (with_reducible refine' GA.w_izip ?_)
    | (with_reducible refine' GA.w_asg ?_))
  | `(tactic| walk_at "wm") => `(tactic| first
    | ((with_reducible refine' GA.w_var ?e ?_); (case e => exact rfl))
    | (with_reducible refine' GA.w_c ?_)
    | (with_reducible refine' GA.w_cons ?_)
    | (with_reducible refine' GA.w_nil ?_)
    | (with_reducible refine' GA.w_op ?_)
    | (with_reducible refine' GA.r_I0 ?_)
    | (with_reducible refine' GA.w_bl ?_)
    | (with_reducible refine' GA.w_set ?_)
    | (with_reducible refine' GA.w_ret ?_)
    | (with_reducible refine' GA.w_ifS ?_)
    | (with_reducible refine' GA.w_test ?_)
    | (with_reducible refine' GA.w_tB ?_)
    | (with_reducible refine' GA.w_not ?_)
    | (with_reducible refine' GA.w_and ?_)
    | (with_reducible refine' GA.w_or ?_)
    | (with_reducible refine' GA.w_andV ?_)
    | (with_reducible refine' GA.w_orV ?_)
    | (with_reducible refine' GA.w_notV ?_)
    | (with_reducible refine' GA.w_blc ?_)
    | (with_reducible refine' GA.w_if ?_)
    | (with_reducible refine' GA.w_CB ?_)
    | (with_reducible refine' GA.w_call ?_)
    | (with_reducible refine' GA.w_tupN ?_)
    | (with_reducible refine' GA.w_lstN ?_)
    | (with_reducible refine' GA.w_chain ?_)
    | (with_reducible refine' GA.w_drop ?_)
    | (with_reducible refine' GA.w_next ?_)
    | (with_reducible refine' GA.w_break ?_)
    | (with_reducible refine' GA.w_un ?_)
    | (with_reducible refine' GA.r_U ?_)
    | (with_reducible refine' GA.r_eqI ?_)
    | (with_reducible refine' GA.r_neI ?_)
    | (with_reducible refine' GA.r_eqB ?_)
    | (with_reducible refine' GA.r_neB ?_)
    | (with_reducible refine' GA.w_fld ?_)
    | (with_reducible refine' GA.w_sfld ?_)
    | (with_reducible refine' GA.w_sl ?_)
    | (with_reducible refine' GA.w_part ?_)
    | (with_reducible refine' GA.w_noPart ?_)
    | (with_reducible refine' GA.w_inti ?_)
    | (with_reducible refine' GA.w_retN ?_)
    | (with_reducible refine' GA.w_gsub ?_)
    | (with_reducible refine' GA.w_gname ?_)
    | (with_reducible refine' L2.iteT ?_)
    | (with_reducible refine' L2.iteF ?_)
    | (with_reducible refine' GA.w_nt ?_)
    | (with_reducible refine' GA.w_nf ?_)
    | (with_reducible refine' GA.w_isN ?_)
    | (with_reducible refine' GA.w_notN ?_)
    | (with_reducible refine' GA.w_yes ?_)
    | (with_reducible refine' GA.w_lc ?_)
    | (with_reducible refine' GA.w_lc2 ?_)
    | (with_reducible refine' GA.w_iseq ?_)
    | (with_reducible refine' GA.w_make ?_)
    | (with_reducible refine' GA.w_for ?_)
    | (with_reducible refine' GA.w_rng1 ?_)
    | (with_reducible refine' GA.w_rng2 ?_)
    | (with_reducible refine' GA.w_itup ?_)
    | (with_reducible refine' GA.w_ilist ?_)
    | (with_reducible refine' GA.w_ienum ?_)
    | (with_reducible refine' GA.w_BM ?_)
    | (with_reducible refine' GA.w_BM0 ?_)
    | (with_reducible refine' GA.w_izip ?_)
    | (with_reducible refine' GA.w_asg ?_))
  | `(tactic| walk_at "ws") => `(tactic| repeat (walk_at "w"))
  | `(tactic| walk_at "wn") => `(tactic| repeat (walk_at "wm"))


namespace Mine
section
variable {P : Program} {w : World} {K : PySem.W.Frag} {mg : Str → Option Value} {base : Heap} {a : Ads}

theorem w_ifM {t : TT} {ts tu : TS} {D : Ends} {σ : L2.St} {H : Hp} (M : Bool → Hp → Prop) (h1 : ∀ N : Bool → Hp → Prop, (∀ b H', M b H' → N b H') → t σ H N) (h2 : ∀ b H', M b H' → if b = true then ts D σ H' else tu D σ H') : tIfS t ts tu D σ H := h1 _ h2
def turnD : Option (Nat × Nat × Nat) → PyData
  | none => .none
  | some (p, q, r) => .tuple [.str "turned", .int (p : Nat), .int (q : Nat), .int (r : Nat)]
/-- both sides stand -/
def pb (ds : List (List Int)) (u : Nat × Nat) : Bool := decide (GSa.nTr (side ds u) = 2)
theorem pb_iff {ds : List (List Int)} {u : Nat × Nat} (h1 : ∃ d ∈ ds, d.idxOf (u.1 : Int) < d.idxOf (u.2 : Int)) (h2 : ∃ d ∈ ds, ¬ d.idxOf (u.1 : Int) < d.idxOf (u.2 : Int)) : pb ds u = true := by
  obtain ⟨d1, m1, e1⟩ := h1
  obtain ⟨d2, m2, e2⟩ := h2
  have t : true ∈ side ds u := List.mem_map.mpr ⟨d1, m1, by unfold bef; exact decide_eq_true e1⟩
  have f : false ∈ side ds u := List.mem_map.mpr ⟨d2, m2, by unfold bef; exact decide_eq_false e2⟩
  unfold pb GSa.nTr
  rw [if_pos t, if_pos f]
  rfl
theorem turn_pb {ds : List (List Int)} {p q r : Nat} (h : turn3 ds p q r = true) : pb ds (p, q) = true ∧ pb ds (p, r) = true ∧ q ≠ r ∧ pb ds (min q r, max q r) = true := by
  unfold turn3 bef at h
  simp only [Bool.and_eq_true, List.any_eq_true, decide_eq_true_eq] at h
  obtain ⟨⟨d1, m1, a1, a2⟩, ⟨d2, m2, b1, b2⟩, d3, m3, c1, c2⟩ := h
  refine ⟨pb_iff ⟨d1, m1, a1⟩ ⟨d2, m2, by show ¬ d2.idxOf (p : Int) < d2.idxOf (q : Int); omega⟩, pb_iff ⟨d1, m1, by show d1.idxOf (p : Int) < d1.idxOf (r : Int); omega⟩ ⟨d2, m2, by show ¬ d2.idxOf (p : Int) < d2.idxOf (r : Int); omega⟩, fun e => by subst e; omega, ?_⟩
  by_cases c : q ≤ r
  · rw [Nat.min_eq_left c, Nat.max_eq_right c]
    exact pb_iff ⟨d1, m1, a2⟩ ⟨d3, m3, by show ¬ d3.idxOf (q : Int) < d3.idxOf (r : Int); omega⟩
  · rw [Nat.min_eq_right (by omega), Nat.max_eq_left (by omega)]
    exact pb_iff ⟨d3, m3, by show d3.idxOf (r : Int) < d3.idxOf (q : Int); omega⟩ ⟨d1, m1, by show ¬ d1.idxOf (r : Int) < d1.idxOf (q : Int); omega⟩
theorem mem_pairs : ∀ {n : Nat} {p q : Nat}, p < q → q < n → (p, q) ∈ pairsN n := by
  intro n p q h1 h2
  have gen : ∀ (l : List Nat), l.Pairwise (· < ·) → ∀ a b, a ∈ l → b ∈ l → a < b → (a, b) ∈ GCb.prs l := by
    intro l
    induction l with
    | nil => exact fun _ a b h => nomatch h
    | cons x l ih =>
      intro so a b ha hb ab
      obtain ⟨s1, s2⟩ := List.pairwise_cons.mp so
      rw [GCb.prs]
      rcases List.mem_cons.mp ha with ea | ha2
      · rcases List.mem_cons.mp hb with eb | hb2
        · omega
        · rw [ea]
          exact List.mem_append_left _ (List.mem_map.mpr ⟨b, hb2, rfl⟩)
      · rcases List.mem_cons.mp hb with eb | hb2
        · have := s1 a ha2
          omega
        · exact List.mem_append_right _ (ih s2 a b ha2 hb2 ab)
  exact gen _ List.pairwise_lt_range p q (List.mem_range.mpr (by omega)) (List.mem_range.mpr h2) h1
def turnR (n : Nat) (ds : List (List Int)) (u : Nat × Nat) : Option (Nat × Nat × Nat) := (List.range' (u.1 + 1) (n - (u.1 + 1))).findSome? fun r => if turn3 ds u.1 u.2 r then some (u.1, u.2, r) else none
theorem turn_few (n : Nat) (ds : List (List Int)) : ((pairsN n).filter (pb ds)).findSome? (turnR n ds) = turnF n ds := by
  unfold turnF
  rw [fs_filter]
  apply fs_congr
  intro u _
  by_cases c : pb ds u = true
  · rw [if_pos c]
    rfl
  · rw [if_neg c]
    refine (List.findSome?_eq_none_iff.mpr fun r _ => ?_).symm
    rw [if_neg]
    exact fun h => c (turn_pb h).1
theorem val_some {kvs : List (List Key × V)} {k : List Key} : (valV kvs k).isSome = true ↔ k ∈ kvs.map (·.1) := by
  rw [← valV_any, List.any_eq_true, List.mem_map]
  constructor
  · rintro ⟨kv, h, e⟩
    exact ⟨kv, h, of_decide_eq_true e⟩
  · rintro ⟨kv, h, e⟩
    exact ⟨kv, h, decide_eq_true e⟩
theorem k_lenSetTr {X : Cx} (K : PySem.W.Frag) {a : Expr} {ta : TE} {p p2 q pos : Pos} (hc : X.calm = true) (hg : Gl X "len") (hm : X.mg "len" = none) (hg2 : Gl X "set") (hm2 : X.mg "set" = none) (ha : PE X a ta)
    (na : starEach [a] X.env = (false, eval a X.env) :: starEach [] X.env := by rfl) (hK : X.K = K := by rfl) : PE X (.Call (.Name "len" p) [.Call (.Name "set" p2) [a] [] q] [] pos) (GSa.tLenSetTr K ta) := by subst hK; exact GSa.pe_lenSetTr hc hg hm hg2 hm2 ha na
theorem kN_mem {L : List (Nat × Nat)} {u : Nat × Nat} : kN u ∈ L.map kN ↔ u ∈ L := by
  rw [List.mem_map]
  exact ⟨fun ⟨v, h, e⟩ => kN_inj e ▸ h, fun h => ⟨u, h, rfl⟩⟩
def sp_turned_picture (K : PySem.W.Frag) (C : Addr) : Sp := fun vs H Q _ => ∃ (x : Addr) (ws : List Int) (ds : List (List Int)), vs = [.ref x] ∧ RecAt K C H x ws ds ∧ IsWh ws ds ∧ ∀ v H', G none H H' → Dp K H' v (turnD (turnF ws.length ds)) → Q v H'
theorem ok_turned_picture (T : Txt K mg a) : FnOk P w K mg base CX0 3 a.f_turned_picture a.d_turned_picture P_turned_picture (sp_turned_picture K a.c_Record) := by
  refine T.F_turned_picture.ok sc_turned_picture (fun vs H Q E h => by obtain ⟨x, ws, ds, rfl, _⟩ := h; rfl) (fun cdv A outer s H vs Q E hr h => ?_)
  obtain ⟨x, ws, ds, rfl, hrec, wh, k⟩ := h
  have p30 := wh.rec_.p30
  have pl9 := pairs_len p30
  have ndP := prs_nodup (List.nodup_range (n := ws.length))
  have G_sides_by_pair : FnOk P w K mg base CX0 2 a.f_sides_by_pair a.d_sides_by_pair P_sides_by_pair (sp_sides_by_pair K a.c_Record) := ok_sides_by_pair T
  have G_places_in : FnOk P w K mg base CX0 1 a.f_places_in a.d_places_in P_places_in (sp_places_in K) := ok_places_in T
  have G_are_turned : FnOk P w K mg base CX0 1 a.f_are_turned a.d_are_turned P_are_turned (sp_are_turned K) := ok_are_turned T
  refine ⟨_, (pss_cons (ps_set (i := 1) sc_turned_picture.nd rfl (Or.inr rfl) (pe_call (G_sides_by_pair) (hr.mono (by omega)) rfl T.m_sides_by_pair T.F_sides_by_pair.kp T.b_sides_by_pair .nil pass0 (pa_cons (pv 0) pa_nil)))
  (pss_cons (ps_setLc (i := 2) (own := [("diary", 7)]) (g := (gName 7)) (tt := tYes)  rfl sc_turned_picture.nd rfl rfl (sw_true rfl rfl rfl (by decide +kernel)) (pi_tup (pe_fld (pv 0) rfl)) (blkOk_by (N := N_turned_picture) (sc := defScope s_turned_picture) (by decide +kernel)) (fun _ _ _ _ _ => (pg_name (i := 7) sc_turned_picture.nd rfl (by first | exact Or.inl rfl | exact Or.inr rfl))) (fun _ _ _ _ _ => pts_nil) (fun _ _ _ _ _ => (pe_call (G_places_in) (hr.mono (by omega)) rfl T.m_places_in T.F_places_in.kp T.b_places_in .nil pass0 (pa_cons (pv 7) pa_nil))))
  (pss_cons (GSa.ps_setDcT (i0 := 3) (own := [("pair", 8)]) (g := (gName 8)) (hu_of hr) rfl sc_turned_picture.nd rfl rfl (GSa.sw_dict rfl rfl rfl (by decide +kernel)) (GSa.pi_keysLT (pv 1)) (blkOk_by (N := N_turned_picture) (sc := defScope s_turned_picture) (by decide +kernel)) (fun _ _ _ _ _ => (pg_name (i := 8) sc_turned_picture.nd rfl (by first | exact Or.inl rfl | exact Or.inr rfl))) (fun _ _ _ _ _ => (pts_one (pt_cmpR op_eq (k_lenSetTr K rfl (by rfl) T.n_len (by rfl) T.n_set (pe_dget (hu_of hr) (pv 1) (pv 8) (by first | exact fun _ _ => rfl | rfl | decide))) pe_int (nomark _)))) (fun _ _ _ _ _ => (pv 8)) (fun _ _ _ _ _ => pe_bl))
  (pss_cons (ps_for PassesOwn.never rfl (GSa.pi_keysLT (pv 3)) (pg_tup rfl (pgs_cons (pg_name (i := 4) sc_turned_picture.nd rfl (Or.inl rfl)) (pgs_cons (pg_name (i := 5) sc_turned_picture.nd rfl (Or.inl rfl)) pgs_nil)))
    (pss_one (ps_for PassesOwn.never rfl (pi_range2 rfl T.n_range (pa_cons (pe_op op_add (pv 4) pe_int) (pa_cons (pe_callB call_len_seq (by rfl) T.n_len (by decide +kernel) (pa_cons (pe_fld (pv 0) rfl) pa_nil)) pa_nil))) (pg_name (i := 6) sc_turned_picture.nd rfl (Or.inl rfl))
    (pss_one (ps_if (L2.PW.pt (pw_and (pt_cmp (pc_din (hu_of hr) (pe_tupN (pa_cons (pv 4) (pa_cons (pv 6) pa_nil))) (pv 3))) (pw_and (pt_cmp (pc_din (hu_of hr) (pe_tupN (pa_cons (pe_callB (call_min2 rfl) (by rfl) T.n_min (by decide +kernel) (pa_cons (pv 5) (pa_cons (pv 6) pa_nil))) (pa_cons (pe_callB (call_max2 rfl) (by rfl) T.n_max (by decide +kernel) (pa_cons (pv 5) (pa_cons (pv 6) pa_nil))) pa_nil))) (pv 3))) (pw_and1 (pt_val (pe_call (G_are_turned) (hr.mono (by omega)) rfl T.m_are_turned T.F_are_turned.kp T.b_are_turned .nil pass0 (pa_cons (pv 2) (pa_cons (pv 4) (pa_cons (pv 5) (pa_cons (pv 6) pa_nil))))))))))
    (pss_one (ps_ret (pe_tupN (pa_cons pe_str (pa_cons (pv 4) (pa_cons (pv 5) (pa_cons (pv 6) pa_nil)))))))
    pss_nil)))))
  (pss_one (ps_ret pe_non)))))), ?_⟩
  walk_at "ws"
  refine ⟨x, ws, ds, rfl, hrec, wh, fun sq kvs H0 hsq g0 h0 sd0 => ?_⟩
  obtain ⟨dx, wp, dp, hxi, hw, bs, hbs, lb, hb⟩ := hrec.n g0
  obtain ⟨rec, whl⟩ := id wh
  have m1 := rec.m1
  have m7 := rec.m7
  walk_at "ws"
  refine r_fld hxi T.cl_Record T.na_Record_diaries (rf_d _ _) ?_
  refine i_tup hbs ?_
  intro PD hPD
  refine lc_it (walk_tup (xs := bs.map V.ref)) (fun i H' => ∃ qs : List Addr, G none H0 H' ∧ H' PD = some (.lst (qs.map V.ref)) ∧ qs.length = i ∧ ∀ (j : Nat) (q : Addr) (d : List Int), qs[j]? = some q → ds[j]? = some d → H' q = some (.dK (kvPl 0 d))) ⟨[], (G.refl).mut hPD (fun _ e => nomatch e), upd_same, rfl, (fun j q d e => by simp at e)⟩ (fun i H' _ ⟨_, q, _⟩ => sqT_t q.tups hbs) ?_ ?_
  · rintro i v _ H1 hi ⟨qs, g1, h1, lq, hqs⟩ ⟨rfl, hv⟩
    rw [List.length_map] at hi
    obtain ⟨b, d, rfl, hbi, hdi, hf⟩ := Dia.at_ (p := dp) lb hb hv
    have dm := List.mem_of_getElem? hdi
    have dl := diary_len (rec.nd d dm) (rec.rng d dm)
    walk_at "ws"
    refine ⟨rfl, ?_⟩
    walk_at "ws"
    refine ⟨b, d, rfl, (hf.n g1).sq, rec.nd d dm, by omega, fun q H2 hq g2 h2 => ?_⟩
    exact dics_snoc hPD (by omega) g1 h1 lq hqs hq g2 h2 hdi
  rintro H1 ⟨qs, g1, h1, lq, hqs⟩
  rw [List.length_map] at lq
  have dic : Dicts H1 qs ds := ⟨by omega, hqs⟩
  clear hqs
  walk_at "ws"
  refine w_dcT ?_
  refine GSa.w_ikeysLT ?_
  walk_at "ws"
  have h1s := g1.all _ _ h0
  refine ⟨sq, kvs, rfl, h1s, fun o => ?_⟩
  have nPs : PD ≠ sq := (ne_of_none h0 hPD).symm
  have g2 : G none H (upd H1 sq (.frz o (.dT kvs))) := (g0.trans g1).mut hsq (fun _ e => nomatch e)
  have h2s : (upd H1 sq (.frz o (.dT kvs))) sq = some (.frz o (.dT kvs)) := upd_same
  have t2 : Ts H1 (upd H1 sq (.frz o (.dT kvs))) := ts_updD h1s
  have sd2 := (sd0.t g1.tups).t t2
  have h2P : (upd H1 sq (.frz o (.dT kvs))) PD = some (.lst (qs.map V.ref)) := by rw [upd_ne nPs]; exact h1
  have dic2 : Dicts (upd H1 sq (.frz o (.dT kvs))) qs ds := ⟨dic.1, fun j q' d' e1 e2 => by
    have z := dic.2 j q' d' e1 e2
    rw [upd_ne (ne_of z h1s (by intro z; cases z))]; exact z⟩
  have h2x : (upd H1 sq (.frz o (.dT kvs))) x = some (.ins a.c_Record dx (rf (.ref wp) (.ref dp))) := by
    have z := g1.all _ _ hxi
    rw [upd_ne (ne_of z h1s (by intro z; cases z))]; exact z
  have h2w := sqT_t t2 (sqT_t g1.tups hw)
  clear dic h1 hxi hw hbs hb
  generalize upd H1 sq (.frz o (.dT kvs)) = H2 at g2 h2s t2 sd2 h2P dic2 h2x h2w ⊢
  have lk := sd2.1
  intro D hD
  refine dcT_it (walk_keysT (d := sq) (o := o) (kvs := kvs)) (fun i H' => G none H2 H' ∧ ∃ kv2, H' D = some (.dT kv2) ∧ kv2.map (·.1) = (((pairsN ws.length).take i).filter (pb ds)).map kN) ⟨(G.refl).mut hD (fun _ e => nomatch e), [], upd_same, rfl⟩ (fun i H' _ h => h.1.all _ _ h2s) ?_ ?_
  · rintro i v H3 _ hi ⟨g3, kv2, h3, ek2⟩ ⟨rfl, kk, vv, qa, hkv, rfl, hqa⟩
    rw [lk] at hi
    obtain ⟨u, hu⟩ : ∃ u, (pairsN ws.length)[i]? = some u := ⟨_, List.getElem?_eq_getElem hi⟩
    have sd3 := sd2.t g3.tups
    obtain ⟨ek, _⟩ := sd3.2 i u _ hu hkv
    have ek : kk = kN u := ek
    subst ek
    obtain ⟨ts, hval, hts⟩ := sdv_val sd3 ndP hu
    have tk : (pairsN ws.length).take (i + 1) = (pairsN ws.length).take i ++ [u] := by rw [List.take_add_one, hu]; rfl
    walk_at "ws"
    refine ⟨rfl, ?_⟩
    walk_at "ws"
    refine GSa.w_lenSetTr (K := K) ?_
    refine w_dget ?_
    walk_at "ws"
    refine ⟨sq, _, rfl, by have := DGet.fz (g3.all _ _ h2s) hqa; rw [hval] at this; exact this, ?_⟩
    refine ⟨ts, side ds u, rfl, hts, by unfold side; rw [List.length_map]; omega, ?_⟩
    walk_at "ws"
    have ec : decide (((GSa.nTr (side ds u) : Nat) : Int) = 2) = pb ds u := by unfold pb; rw [decide_eq_decide]; omega
    rw [ec]
    cases c : pb ds u with
    | false =>
      walk_at "ws"
      refine ⟨g3, kv2, h3, ?_⟩
      rw [ek2, tk, List.filter_append]
      simp [c]
    | true =>
      walk_at "ws"
      have nin : kN u ∉ kv2.map (·.1) := fun hm => by
        rw [ek2, kN_mem, List.mem_filter] at hm
        obtain ⟨j, hj, e⟩ := List.getElem_of_mem hm.1
        rw [List.length_take] at hj
        rw [List.getElem_take] at e
        have e2 := List.getElem?_eq_some_iff.mp hu
        have := nd_gen ndP (show j < (pairsN ws.length).length by omega) e2.1 (e.trans e2.2.symm)
        omega
      have lv : kv2.length ≤ 1000 := by
        have e := congrArg List.length ek2
        have z := List.length_filter_le (pb ds) ((pairsN ws.length).take i)
        rw [List.length_map, List.length_map] at e
        rw [List.length_take] at z
        omega
      refine ⟨kv2, kN u, qa, rfl, hqa, h3, Nat.lt_of_le_of_lt lv (by decide), g3.mut hD (fun _ e => nomatch e), _, upd_same, ?_⟩
      rw [putK_new _ (val_new nin), List.map_append, ek2, tk, List.filter_append]
      simp [c]
  rintro H3 ⟨g3, kv2, h3, ek2⟩
  rw [lk, List.take_length] at ek2
  walk_at "ws"
  refine GSa.w_ikeysLT ?_
  walk_at "ws"
  refine ⟨D, kv2, rfl, h3, fun o2 => ?_⟩
  have hDH := new_bk g2 hD
  have g4 : G none H2 (upd H3 D (.frz o2 (.dT kv2))) := g3.mut hD (fun _ e => nomatch e)
  have h4 : (upd H3 D (.frz o2 (.dT kv2))) D = some (.frz o2 (.dT kv2)) := upd_same
  generalize upd H3 D (.frz o2 (.dT kv2)) = H4 at g4 h4 ⊢
  have lk2 : kv2.length = ((pairsN ws.length).filter (pb ds)).length := by
    have e := congrArg List.length ek2
    rwa [List.length_map, List.length_map] at e
  refine for_it (walk_keysT (d := D) (o := o2) (kvs := kv2)) (fun i σ H' => ∃ u4 u5 u6, σ = [some (.ref x), some (.ref sq), some (.ref PD), some (.ref D), u4, u5, u6, none, none] ∧ G none H4 H' ∧ (((pairsN ws.length).filter (pb ds)).take i).findSome? (turnR ws.length ds) = none) ⟨_, _, _, rfl, G.refl, rfl⟩ (fun i σ H' _ ⟨_, _, _, _, q, _⟩ => q.all _ _ h4) ?_ ?_
  · rintro i v σ _ H5 hi ⟨u4, u5, u6, rfl, g5, none1⟩ ⟨rfl, kk, vv, qa, hkv, rfl, hqa⟩
    rw [lk2] at hi
    obtain ⟨u, hu⟩ : ∃ u, ((pairsN ws.length).filter (pb ds))[i]? = some u := ⟨_, List.getElem?_eq_getElem hi⟩
    have ek : kk = kN u := by
      have z : (kv2.map (·.1))[i]? = some kk := by rw [List.getElem?_map, hkv]; rfl
      rw [ek2, List.getElem?_map, hu] at z
      exact (Option.some.inj z).symm
    subst ek
    have um := pairs_lt (List.mem_filter.mp (List.mem_of_getElem? hu)).1
    refine ⟨qa, _, rfl, SqT.of hqa, rfl, ?_⟩
    refine ⟨_, _, rfl, ?_⟩
    walk_at "ws"
    refine ⟨_, _, rfl, ?_⟩
    walk_at "ws"
    refine ⟨rfl, ?_⟩
    have g25 := g4.trans g5
    walk_at "ws"
    refine ⟨_, _, rfl, rfl, ?_⟩
    walk_at "ws"
    refine r_fld (g25.all _ _ h2x) T.cl_Record T.na_Record_writers (rf_w _ _) ?_
    refine ⟨wp, _, rfl, .inr (sqT_t g25.tups h2w), ?_⟩
    rw [List.length_map]
    walk_at "ws"
    refine ⟨_, _, rfl, ⟨by omega, by omega, by omega, by omega⟩, ?_⟩
    refine for_it (walk_range (lo := ((u.1 : Nat) : Int) + 1) (n := (((ws.length : Nat) : Int) - (((u.1 : Nat) : Int) + 1)).toNat)) (fun jj σ H' => ∃ u6, σ = [some (.ref x), some (.ref sq), some (.ref PD), some (.ref D), some (.int (u.1 : Nat)), some (.int (u.2 : Nat)), u6, none, none] ∧ G none H5 H' ∧ ((List.range' (u.1 + 1) (ws.length - (u.1 + 1))).take jj).findSome? (fun r => if turn3 ds u.1 u.2 r then some (u.1, u.2, r) else none) = none) ⟨_, rfl, G.refl, rfl⟩ (fun jj σ H' _ _ => True.intro) ?_ ?_
    · rintro jj v σ _ H6 hjj ⟨w6, rfl, g6, none2⟩ ⟨rfl, rfl⟩
      obtain ⟨r, er, rn⟩ : ∃ r : Nat, (((u.1 : Nat) : Int) + 1 + (jj : Nat)) = ((r : Nat) : Int) ∧ r = u.1 + 1 + jj := ⟨u.1 + 1 + jj, by omega, rfl⟩
      rw [show (fun i : Nat => V.int (((u.1 : Nat) : Int) + 1 + (i : Nat))) jj = V.int ((r : Nat) : Int) from congrArg V.int er]
      have rl : r < ws.length := by omega
      have hr2 : (List.range' (u.1 + 1) (ws.length - (u.1 + 1)))[jj]? = some r := by rw [List.getElem?_range' (by omega), rn]; simp
      have g26 := g25.trans g6
      have h6D := (g5.trans g6).all _ _ h4
      show tIfS _ _ _ _ _ _
      refine w_ifM (fun b H' => G none H6 H' ∧ (b = true ↔ turn3 ds u.1 u.2 r = true)) (fun N kN' => ?_) ?_
      · walk_at "ws"
        show tTupN _ _ _ _
        walk_at "ws"
        refine ⟨sz (by simp), fun t1 H7 ht1 g7 h7 => ?_⟩
        show tVar 3 _ _ _
        walk_at "ws"
        refine ⟨D, _, rfl, DGet.fz (k := kN (u.1, r)) ((g7 none).all _ _ h6D) h7, ?_⟩
        refine ⟨_, rfl, ?_⟩
        refine w_ite (fun c1 => ?_) (fun c1 => ?_)
        · walk_at "ws"
          show tTupN _ _ _ _
          walk_at "ws"
          refine ⟨_, _, rfl, ?_⟩
          walk_at "ws"
          refine ⟨_, _, rfl, ?_⟩
          walk_at "ws"
          refine ⟨sz (by simp), fun t2 H8 ht2 g8 h8 => ?_⟩
          have g78 := (g7 none).trans (g8 none)
          have emin : (if ((r : Nat) : Int) < ((u.2 : Nat) : Int) then ((r : Nat) : Int) else ((u.2 : Nat) : Int)) = ((min u.2 r : Nat) : Int) := by split <;> omega
          have emax : (if ((r : Nat) : Int) > ((u.2 : Nat) : Int) then ((r : Nat) : Int) else ((u.2 : Nat) : Int)) = ((max u.2 r : Nat) : Int) := by split <;> omega
          have h8 : H8 t2 = some (.tup ((kN (min u.2 r, max u.2 r)).map kV)) := by
            rw [h8, emin, emax]
            rfl
          show tVar 3 _ _ _
          walk_at "ws"
          refine ⟨D, _, rfl, DGet.fz (g78.all _ _ h6D) h8, ?_⟩
          refine ⟨_, rfl, ?_⟩
          refine w_ite (fun c2 => ?_) (fun c2 => ?_)
          · walk_at "ws"
            refine ⟨PD, qs, ws, ds, u.1, u.2, r, rfl, (g26.trans g78).all _ _ h2P, dic2.n (g26.trans g78), wh, by omega, by omega, rl, fun H9 g9 => ?_⟩
            walk_at "ws"
            exact kN' _ _ ⟨g78.trans g9, Iff.rfl⟩
          · refine kN' _ _ ⟨g78, ⟨fun h => (by cases h), fun tr => absurd ?_ (show ¬ (valV kv2 (kN (min u.2 r, max u.2 r))).isSome = true by rw [c2]; exact Bool.false_ne_true)⟩⟩
            obtain ⟨_, _, ne, z⟩ := turn_pb tr
            exact val_some.mpr (by rw [ek2, kN_mem]; exact List.mem_filter.mpr ⟨mem_pairs (by omega) (by omega), z⟩)
        · refine kN' _ _ ⟨g7 none, ⟨fun h => (by cases h), fun tr => absurd ?_ (show ¬ (valV kv2 (kN (u.1, r))).isSome = true by rw [c1]; exact Bool.false_ne_true)⟩⟩
          obtain ⟨_, z, _, _⟩ := turn_pb tr
          exact val_some.mpr (by rw [ek2, kN_mem]; exact List.mem_filter.mpr ⟨mem_pairs (by omega) rl, z⟩)
      · rintro b H7 ⟨g7, eb⟩
        cases b with
        | true =>
          have tr := eb.mp rfl
          walk_at "ws"
          refine ⟨sz (by simp), fun t8 H8 ht8 g8 h8 => ?_⟩
          refine k _ _ (g2.trans (g4.trans (g5.trans (g6.trans (g7.trans (g8 none)))))) ?_
          have fin := fs_hit none1 hu (r := (u.1, u.2, r)) (fs_hit none2 hr2 (by rw [if_pos tr]))
          rw [turn_few] at fin
          rw [fin]
          exact .tup (SqT.of h8) (.cons (.str _) (.cons (.int _) (.cons (.int _) (.cons (.int _) .nil))))
        | false =>
          have tr : ¬ turn3 ds u.1 u.2 r = true := fun h => by cases eb.mpr h
          walk_at "ws"
          exact ⟨_, rfl, g6.trans g7, fs_miss none2 hr2 (by rw [if_neg tr])⟩
    · rintro σ H6 ⟨w6, rfl, g6, none2⟩
      walk_at "ws"
      refine ⟨_, _, _, rfl, g5.trans g6, fs_miss none1 hu ?_⟩
      refine fs_end ?_
      rw [List.length_range']
      have e : (((ws.length : Nat) : Int) - (((u.1 : Nat) : Int) + 1)).toNat = ws.length - (u.1 + 1) := by omega
      rw [e] at none2
      exact none2
  · rintro σ H5 ⟨u4, u5, u6, rfl, g5, none1⟩
    rw [lk2] at none1
    walk_at "ws"
    refine k _ _ (g2.trans (g4.trans g5)) ?_
    have none2 := fs_end none1
    rw [turn_few] at none2
    rw [none2]
    exact .non

end
end Mine
/-! ## K13 -/


namespace Mine
section
variable {P : Program} {w : World} {K : PySem.W.Frag} {mg : Str → Option Value} {base : Heap} {a : Ads}

/-! ### picture -/
def picD (ws : List Int) (ds : List (List Int)) : PyData := match seenF ws ds with
  | some u => seenD (some u)
  | none => match mixF ws.length ds with
    | some u => mixD (some u)
    | none => turnD (turnF ws.length ds)
def sp_picture (K : PySem.W.Frag) (C : Addr) : Sp := fun vs H Q _ => ∃ (x : Addr) (ws : List Int) (ds : List (List Int)), vs = [.ref x] ∧ RecAt K C H x ws ds ∧ IsWh ws ds ∧ ∀ v H', G none H H' → Dp K H' v (picD ws ds) → Q v H'
theorem ok_picture (T : Txt K mg a) : FnOk P w K mg base CX0 4 a.f_picture a.d_picture P_picture (sp_picture K a.c_Record) := by
  refine T.F_picture.ok sc_picture (fun vs H Q E h => by obtain ⟨x, ws, ds, rfl, _⟩ := h; rfl) (fun cdv A outer s H vs Q E hr h => ?_)
  obtain ⟨x, ws, ds, rfl, hrec, wh, k⟩ := h
  have G_check_whole : FnOk P w K mg base CX0 2 a.f_check_whole a.d_check_whole P_check_whole (sp_check_whole K a.c_Record) := ok_check_whole T
  have G_seen_picture : FnOk P w K mg base CX0 2 a.f_seen_picture a.d_seen_picture P_seen_picture (sp_seen_picture K a.c_Record) := ok_seen_picture T
  have G_mixed_picture : FnOk P w K mg base CX0 3 a.f_mixed_picture a.d_mixed_picture P_mixed_picture (sp_mixed_picture K a.c_Record) := ok_mixed_picture T
  have G_turned_picture : FnOk P w K mg base CX0 3 a.f_turned_picture a.d_turned_picture P_turned_picture (sp_turned_picture K a.c_Record) := ok_turned_picture T
  refine ⟨_, (pss_cons (ps_expr (pe_call (G_check_whole) (hr.mono (by omega)) rfl T.m_check_whole T.F_check_whole.kp T.b_check_whole .nil pass0 (pa_cons (pv 0) pa_nil)))
  (pss_cons (ps_set (i := 1) sc_picture.nd rfl (Or.inl rfl) (pe_call (G_seen_picture) (hr.mono (by omega)) rfl T.m_seen_picture T.F_seen_picture.kp T.b_seen_picture .nil pass0 (pa_cons (pv 0) pa_nil)))
  (pss_cons (ps_if (pt_cmp (pc_isN (pv 1)))
    (pss_one (ps_set (i := 1) sc_picture.nd rfl (Or.inl rfl) (pe_call (G_mixed_picture) (hr.mono (by omega)) rfl T.m_mixed_picture T.F_mixed_picture.kp T.b_mixed_picture .nil pass0 (pa_cons (pv 0) pa_nil))))
    pss_nil)
  (pss_cons (ps_if (pt_cmp (pc_isN (pv 1)))
    (pss_one (ps_set (i := 1) sc_picture.nd rfl (Or.inl rfl) (pe_call (G_turned_picture) (hr.mono (by omega)) rfl T.m_turned_picture T.F_turned_picture.kp T.b_turned_picture .nil pass0 (pa_cons (pv 0) pa_nil))))
    pss_nil)
  (pss_one (ps_ret (pv 1))))))), ?_⟩
  walk_at "ws"
  refine ⟨x, ws, ds, rfl, hrec, wh, fun H1 g1 => ?_⟩
  walk_at "ws"
  refine ⟨x, ws, ds, rfl, hrec.n g1, wh, fun v2 H2 g2 d2 => ?_⟩
  have g12 := g1.trans g2
  unfold picD at k
  cases e2 : seenF ws ds with
  | some u =>
    rw [e2] at d2 k
    obtain ⟨t, xs, ev, _⟩ := dp_tup (show Dp K H2 v2 (.tuple _) from d2)
    subst ev
    walk_at "ws"
    rw [show decide (V.ref t = V.non) = false from decide_eq_false (by intro z; cases z)]
    walk_at "ws"
    rw [show decide (V.ref t = V.non) = false from decide_eq_false (by intro z; cases z)]
    walk_at "ws"
    exact k _ _ g12 d2
  | none =>
    rw [e2] at d2 k
    cases d2
    walk_at "ws"
    rw [show decide (V.non = V.non) = true from decide_eq_true rfl]
    walk_at "ws"
    refine ⟨x, ws, ds, rfl, hrec.n g12, wh, fun v3 H3 g3 d3 => ?_⟩
    have g13 := g12.trans g3
    cases e3 : mixF ws.length ds with
    | some u =>
      rw [e3] at d3 k
      obtain ⟨t, xs, ev, _⟩ := dp_tup (show Dp K H3 v3 (.tuple _) from d3)
      subst ev
      walk_at "ws"
      rw [show decide (V.ref t = V.non) = false from decide_eq_false (by intro z; cases z)]
      walk_at "ws"
      exact k _ _ g13 d3
    | none =>
      rw [e3] at d3 k
      cases d3
      walk_at "ws"
      rw [show decide (V.non = V.non) = true from decide_eq_true rfl]
      walk_at "ws"
      refine ⟨x, ws, ds, rfl, hrec.n g13, wh, fun v4 H4 g4 d4 => ?_⟩
      walk_at "ws"
      exact k _ _ (g13.trans g4) d4

end
end Mine
/-! ## K14 -/


namespace Mine
section
variable {P : Program} {w : World} {K : PySem.W.Frag} {mg : Str → Option Value} {base : Heap} {a : Ads}

/-! ### lists shuffled -/
theorem perm_pop {os ls : List Int} {r : Nat} (h : r < ls.length) {l : List Int} (p : (os ++ ls).Perm l) : ((os ++ [ls[r]]) ++ ls.eraseIdx r).Perm l := by
  refine List.Perm.trans ?_ p
  rw [List.append_assoc]
  refine List.Perm.append_left os ?_
  have e := List.take_append_drop r ls
  have e2 : ls.drop r = ls[r] :: ls.drop (r + 1) := List.drop_eq_getElem_cons h
  rw [List.eraseIdx_eq_take_drop_succ]
  have : ls = ls.take r ++ ls[r] :: ls.drop (r + 1) := by rw [← e2, e]
  conv => rhs; rw [this]
  show (ls[r] :: (ls.take r ++ ls.drop (r + 1))).Perm _
  exact List.perm_middle.symm
theorem erase_mp (ls : List Int) (r : Nat) : (ls.map V.int).eraseIdx r = (ls.eraseIdx r).map V.int := by
  induction ls generalizing r with
  | nil => rfl
  | cons l ls ih =>
    cases r with
    | zero => rfl
    | succ r => show V.int l :: (ls.map V.int).eraseIdx r = V.int l :: (ls.eraseIdx r).map V.int; rw [ih]
theorem back0 {H H' : Hp} {D : Addr} (g : G none H H') (h : H' D = none) : H D = none := by
  cases e : H D with
  | none => rfl
  | some u => rw [g.all _ _ e] at h; cases h
def sp__law_shuffled (K : PySem.W.Frag) : Sp := fun vs H Q _ => ∃ (hd c p : Addr) (ns : List Int), vs = [.ref hd, .ref p] ∧ Hand H hd c ∧ H p = some (.lst (ns.map V.int)) ∧ ns.length ≤ 1000 ∧
  ∀ (l : Addr) (ms : List Int) H', H l = none → G (some (hd, c)) H H' → Hand H' hd c → H' l = some (.lst (ms.map V.int)) → ms.Perm ns → Q (.ref l) H'
theorem ok__law_shuffled (T : Txt K mg a) : FnOk P w K mg base CX0 2 a.f__law_shuffled a.d__law_shuffled P__law_shuffled (sp__law_shuffled K) := by
  refine T.F__law_shuffled.ok sc__law_shuffled (fun vs H Q E h => by obtain ⟨hd, c, p, ns, rfl, _⟩ := h; rfl) (fun cdv A outer s H vs Q E hr h => ?_)
  obtain ⟨hd, c, p, ns, rfl, hh, hp, hz, k⟩ := h
  have G__law_draw : FnOk P w K mg base CX0 1 a.f__law_draw a.d__law_draw P__law_draw sp__law_draw := ok__law_draw T
  refine ⟨_, (pss_cons (ps_set (i := 2) sc__law_shuffled.nd rfl (Or.inl rfl) (pe_callTy call_listN (by rfl) T.n_list (by decide +kernel) (pa_cons (pv 1) pa_nil)))
  (pss_cons (ps_set (i := 3) sc__law_shuffled.nd rfl (Or.inl rfl) (pe_lstN pa_nil))
  (pss_cons (ps_while PassesOwn.never (pt_cmpR op_gt (pe_callB call_len_seq (by rfl) T.n_len (by decide +kernel) (pa_cons (pv 2) pa_nil)) pe_int (nomark _))
    (pss_one (ps_expr (pe_bm PySem.F.plainAttrs_list PySem.F.slot_list_append PySem.F.type_list_append mt_append (pv 3) (pa_cons (pe_bm PySem.F.plainAttrs_list PySem.F.slot_list_pop PySem.F.type_list_pop mt_popAt (pv 2) (pa_cons (pe_call (G__law_draw) (hr.mono (by omega)) rfl T.m__law_draw T.F__law_draw.kp T.b__law_draw .nil pass0 (pa_cons (pv 0) (pa_cons (pe_callB call_len_seq (by rfl) T.n_len (by decide +kernel) (pa_cons (pv 2) pa_nil)) pa_nil))) pa_nil)) pa_nil)))))
  (pss_one (ps_ret (pv 3)))))), ?_⟩
  walk_at "ws"
  refine ⟨p, _, rfl, .inl (SqL.of hp), fun L H1 hL g1 h1 => ?_⟩
  walk_at "ws"
  refine ⟨sz (by simp), fun D H2 hD g2 h2 => ?_⟩
  have g02 := (g1 none).trans (g2 none)
  have hD0 : H D = none := back0 (g1 none) hD
  have h2L := (g2 none).all _ _ h1
  have nLD : L ≠ D := ne_of_none h1 hD
  have offL : ∀ p, some (hd, c) = some p → L ≠ p.1 := fun p e => by cases e; exact hh.ne hL
  have offD : ∀ p, some (hd, c) = some p → D ≠ p.1 := fun p e => by cases e; exact hh.ne hD0
  walk_at "ws"
  refine ⟨fun μ σ H' => ∃ os ls : List Int, σ = [some (.ref hd), some (.ref p), some (.ref L), some (.ref D)] ∧ G (some (hd, c)) H H' ∧ H' L = some (.lst (ls.map V.int)) ∧ H' D = some (.lst (os.map V.int)) ∧ (os ++ ls).Perm ns ∧ μ = ls.length, ⟨_, [], ns, rfl, g02.up, h2L, h2, List.Perm.refl _, rfl⟩, ?_⟩
  rintro μ σ H3 ⟨os, ls, rfl, g3, h3L, h3D, pm, rfl⟩
  have pl := pm.length_eq
  rw [List.length_append] at pl
  walk_at "ws"
  refine ⟨L, _, rfl, .inl (SqL.of h3L), ?_⟩
  rw [List.length_map]
  walk_at "ws"
  refine w_ite (fun e => ?_) (fun e => ?_)
  · have e : (0 : Int) < (ls.length : Int) := of_decide_eq_true e
    refine ⟨fun σ H' => ∃ os' ls' : List Int, σ = [some (.ref hd), some (.ref p), some (.ref L), some (.ref D)] ∧ G (some (hd, c)) H H' ∧ H' L = some (.lst (ls'.map V.int)) ∧ H' D = some (.lst (os'.map V.int)) ∧ (os' ++ ls').Perm ns ∧ ls'.length < ls.length, ?_, ?_⟩
    · rintro σ' H' ⟨os', ls', rfl, q1, q2, q3, q4, q5⟩
      exact ⟨ls'.length, q5, os', ls', rfl, q1, q2, q3, q4, rfl⟩
    · walk_at "ws"
      refine i_BM h3D ?_
      walk_at "ws"
      refine i_BM h3L ?_
      walk_at "ws"
      refine ⟨L, _, rfl, .inl (SqL.of h3L), ?_⟩
      rw [List.length_map]
      walk_at "ws"
      refine ⟨hd, c, (ls.length : Int), rfl, g3.hand _ rfl hh, by omega, by omega, fun r H4 r0 r1 g4 hh4 => ?_⟩
      walk_at "ws"
      have h4L := g4.keep L _ offL h3L
      have h4D := g4.keep D _ offD h3D
      have rl : r.toNat < ls.length := by omega
      refine ⟨L, ls.map V.int, r, r.toNat, .int ls[r.toNat], rfl, rfl, h4L, by omega, by omega, ?_, by rw [List.getElem?_map, List.getElem?_eq_getElem rl]; rfl, ?_⟩
      · unfold PySem.seqIndex?
        rw [List.length_map]
        have n0 : ¬ r < 0 := by omega
        simp [n0]
        omega
      · have h5D : (upd H4 L (.lst ((ls.map V.int).eraseIdx r.toNat))) D = some (.lst (os.map V.int)) := by rw [upd_ne nLD.symm]; exact h4D
        walk_at "ws"
        refine r_app h5D (by rw [List.length_map]; omega) ?_
        walk_at "ws"
        refine ⟨os ++ [ls[r.toNat]], ls.eraseIdx r.toNat, rfl, ?_, ?_, ?_, perm_pop rl pm, ?_⟩
        · exact ((g3.trans g4).mut hL (fun p e => by cases e; exact hh)).mut hD0 (fun p e => by cases e; exact hh)
        · rw [upd_ne nLD, upd_same, erase_mp]
        · rw [upd_same, List.map_append]; rfl
        · rw [List.length_eraseIdx, if_pos rl]; omega
  · have e : ¬ (0 : Int) < (ls.length : Int) := of_decide_eq_false e
    have e0 : ls = [] := List.length_eq_zero_iff.mp (by omega)
    subst e0
    rw [List.append_nil] at pm
    walk_at "ws"
    exact k D os H3 hD0 g3 (g3.hand _ rfl hh) h3D pm

end
end Mine
/-! ## K15 -/


namespace Mine
section
variable {P : Program} {w : World} {K : PySem.W.Frag} {mg : Str → Option Value} {base : Heap} {a : Ads}

/-! ### the law's turned pictures -/
theorem sh_dL (ds : List (List Int)) : SeqAt.shaped (.list (ds.map dI)) = true := sh_of (by
    rw [PyData.canLay0]
    exact canAll fun d h => by
      obtain ⟨n, _, rfl⟩ := List.mem_map.mp h
      exact can_dI n) (by
    rw [PyData.depth]
    have := depAll (n := 1) (ds := ds.map dI) fun d h => by
      obtain ⟨n, _, rfl⟩ := List.mem_map.mp h
      exact dep_dI n
    omega)
theorem idx_pw {d : List Int} (nd : d.Nodup) : d.Pairwise fun a b => d.idxOf a < d.idxOf b := by
  rw [List.pairwise_iff_getElem]
  intro i j hi hj h
  rw [idx_of nd (List.getElem?_eq_getElem hi), idx_of nd (List.getElem?_eq_getElem hj)]
  exact h
def kd (p q r : Int) (d : List Int) : List Int := d.filter fun z => inV (.int z) [.int p, .int q, .int r]
theorem kd_mem {p q r z : Int} {d : List Int} : z ∈ kd p q r d ↔ z ∈ d ∧ (z = p ∨ z = q ∨ z = r) := by
  unfold kd
  rw [List.mem_filter]
  simp [inV, eqV]
  intro _
  constructor <;> (rintro (h | h | h) <;> simp [h])
theorem kd_eq {p q r x y z : Int} {d : List Int} (nd : d.Nodup) (hp : p ∈ d) (hq : q ∈ d) (hr : r ∈ d) (pm : ∀ a, (a = x ∨ a = y ∨ a = z) ↔ (a = p ∨ a = q ∨ a = r)) (hx : x ∈ d) (hy : y ∈ d) (hz : z ∈ d) : (kd p q r d = [x, y, z]) ↔ (bef d x y && bef d y z) = true := by
  have pw : (kd p q r d).Pairwise fun a b => d.idxOf a < d.idxOf b := (idx_pw nd).sublist List.filter_sublist
  unfold bef
  rw [Bool.and_eq_true, decide_eq_true_iff, decide_eq_true_iff]
  constructor
  · intro e
    rw [e] at pw
    simp at pw
    exact ⟨pw.1.1, pw.2⟩
  · rintro ⟨h1, h2⟩
    have pw2 : [x, y, z].Pairwise fun a b => d.idxOf a < d.idxOf b := by
      simp
      omega
    have n1 : (kd p q r d).Nodup := nd.sublist List.filter_sublist
    have n2 : [x, y, z].Nodup := pw2.imp fun h e => by rw [e] at h; omega
    refine ((List.perm_ext_iff_of_nodup n1 n2).mpr fun a => ?_).eq_of_pairwise (fun a b _ _ h1 h2 => by omega) pw pw2
    rw [kd_mem]
    simp only [List.mem_cons, List.not_mem_nil, or_false]
    rw [pm]
    constructor
    · exact fun h => h.2
    · rintro (h | h | h) <;> subst h
      · exact ⟨hp, .inl rfl⟩
      · exact ⟨hq, .inr (.inl rfl)⟩
      · exact ⟨hr, .inr (.inr rfl)⟩
theorem fm_range {α β : Type} (l : List α) (f : α → Option β) : (List.range l.length).filterMap (fun i => l[i]?.bind f) = l.filterMap f := by
  have gen : ∀ n, n ≤ l.length → (List.range n).filterMap (fun i => l[i]?.bind f) = (l.take n).filterMap f := by
    intro n
    induction n with
    | zero => intro _; rfl
    | succ n ih =>
      intro h
      rw [List.range_succ, List.filterMap_append, ih (by omega), List.take_add_one, List.filterMap_append, List.getElem?_eq_getElem (by omega)]
      simp [List.getElem?_eq_getElem (show n < l.length by omega), List.filterMap_cons]
  have := gen l.length (Nat.le_refl _)
  rwa [List.take_length] at this
theorem prs_rows {β : Type} (f : Nat × Nat → Option β) : ∀ (k lo : Nat), (GCb.prs (List.range' lo k)).findSome? f = (List.range' lo k).findSome? fun p => (List.range' (p + 1) (lo + k - (p + 1))).findSome? fun q => f (p, q)
  | 0, _ => rfl
  | k + 1, lo => by
    have e : List.range' lo (k + 1) = lo :: List.range' (lo + 1) k := List.range'_succ ..
    rw [e, GCb.prs, List.findSome?_append, List.findSome?_cons, prs_rows f k (lo + 1), List.findSome?_map]
    have e1 : lo + (k + 1) - (lo + 1) = k := by omega
    have e2 : lo + (k + 1) = lo + 1 + k := by omega
    rw [e1, e2]
    show ((List.range' (lo + 1) k).findSome? fun q => f (lo, q)).or _ = _
    cases (List.range' (lo + 1) k).findSome? fun q => f (lo, q) <;> rfl
theorem turn_rows (n : Nat) (ds : List (List Int)) : turnF n ds = (List.range n).findSome? fun p => (List.range' (p + 1) (n - (p + 1))).findSome? fun q => turnR n ds (p, q) := by
  unfold turnF
  show (GCb.prs (List.range n)).findSome? (turnR n ds) = _
  rw [List.range_eq_range', prs_rows]
  simp only [Nat.zero_add]
theorem turn_ne {ds : List (List Int)} {p q r : Nat} (h : q = r ∨ p = q ∨ p = r) : turn3 ds p q r = false := by
  apply Bool.eq_false_iff.mpr
  intro t
  unfold turn3 bef at t
  simp only [Bool.and_eq_true, List.any_eq_true, decide_eq_true_eq] at t
  obtain ⟨⟨d1, _, a1, a2⟩, _⟩ := t
  rcases h with rfl | rfl | rfl <;> omega
def sp__law_turned (K : PySem.W.Frag) : Sp := fun vs H Q _ => ∃ (dp : Addr) (ws : List Int) (ds : List (List Int)), vs = [.ref dp, .int (ws.length : Nat)] ∧ Dia K H dp ds ∧ IsWh ws ds ∧ ∀ v H', G none H H' → Dp K H' v (turnD (turnF ws.length ds)) → Q v H'
theorem ok__law_turned (T : Txt K mg a) : FnOk P w K mg base CX0 1 a.f__law_turned a.d__law_turned P__law_turned (sp__law_turned K) := by
  refine T.F__law_turned.ok sc__law_turned (fun vs H Q E h => by obtain ⟨dp, ws, ds, rfl, _⟩ := h; rfl) (fun cdv A outer s H vs Q E hr h => ?_)
  obtain ⟨dp, ws, ds, rfl, ⟨bs, hbs, lb, hb⟩, wh, k⟩ := h
  have p30 := wh.rec_.p30
  have m7 := wh.rec_.m7
  refine ⟨_, (pss_cons (ps_for PassesOwn.never rfl (pi_range1 rfl T.n_range (pa_cons (pv 1) pa_nil)) (pg_name (i := 2) sc__law_turned.nd rfl (Or.inr rfl))
    (pss_one (ps_for PassesOwn.never rfl (pi_range2 rfl T.n_range (pa_cons (pe_op op_add (pv 2) pe_int) (pa_cons (pv 1) pa_nil))) (pg_name (i := 3) sc__law_turned.nd rfl (Or.inr rfl))
    (pss_one (ps_for PassesOwn.never rfl (pi_range2 rfl T.n_range (pa_cons (pe_op op_add (pv 2) pe_int) (pa_cons (pv 1) pa_nil))) (pg_name (i := 4) sc__law_turned.nd rfl (Or.inr rfl))
    (pss_one (ps_if (pt_cmpR op_ne (pv 4) (pv 3) (nomark _))
    (pss_cons (ps_setLc (i := 5) (own := [("_law_diary", 6)]) (g := (gName 6)) (tt := tYes)  rfl sc__law_turned.nd rfl rfl (sw_true rfl rfl rfl (by decide +kernel)) (pi_tup (pv 0)) (blkOk_by (N := N__law_turned) (sc := defScope s__law_turned) (by decide +kernel)) (fun _ _ _ _ _ => (pg_name (i := 6) sc__law_turned.nd rfl (by first | exact Or.inl rfl | exact Or.inr rfl))) (fun _ _ _ _ _ => pts_nil) (fun _ _ _ _ _ => (pe_callTy (k_call_tupleN K) (by rfl) T.n_tuple (by decide +kernel) (pa_cons (pe_lc (own := [("_law_put", 7)]) (g := (gName 7)) rfl sc__law_turned.nd (k_pi_tup K (pv 6)) (blkOk_by (N := N__law_turned) (by kernel_rfl)) (fun _ _ _ _ _ => (pg_name (i := 7) sc__law_turned.nd rfl (by first | exact Or.inl rfl | exact Or.inr rfl))) (fun _ _ _ _ _ => (pts_one (pt_cmpR (k_op_in_seq K) (pv 7) (pe_tupN (pa_cons (pv 2) (pa_cons (pv 3) (pa_cons (pv 4) pa_nil)))) (by rfl)))) (fun _ _ _ _ _ => (pv 7))) pa_nil))))
  (pss_one (ps_if (L2.PW.pt (pw_and (pt_cmpR (op_inD (u65 hr)) (pe_tupN (pa_cons (pv 2) (pa_cons (pv 3) (pa_cons (pv 4) pa_nil)))) (pv 5) (by rfl)) (pw_and (pt_cmpR (op_inD (u65 hr)) (pe_tupN (pa_cons (pv 3) (pa_cons (pv 4) (pa_cons (pv 2) pa_nil)))) (pv 5) (by rfl)) (pw_and1 (pt_cmpR (op_inD (u65 hr)) (pe_tupN (pa_cons (pv 4) (pa_cons (pv 2) (pa_cons (pv 3) pa_nil)))) (pv 5) (by rfl))))))
    (pss_one (ps_ret (pe_tupN (pa_cons pe_str (pa_cons (pv 2) (pa_cons (pv 3) (pa_cons (pv 4) pa_nil)))))))
    pss_nil)))
    pss_nil)))))))
  (pss_one (ps_ret pe_non))), ?_⟩
  walk_at "ws"
  refine i_rng1 (by omega) (by omega) ?_
  rw [Int.toNat_natCast]
  refine for_it walk_range (fun i σ H' => ∃ u2 u3 u4 u5, σ = [some (.ref dp), some (.int (ws.length : Nat)), u2, u3, u4, u5, none, none] ∧ G none H H' ∧ ((List.range ws.length).take i).findSome? (fun p => (List.range' (p + 1) (ws.length - (p + 1))).findSome? fun q => turnR ws.length ds (p, q)) = none) ⟨_, _, _, _, rfl, G.refl, rfl⟩ (fun i σ H' _ _ => True.intro) ?_ ?_
  · rintro p v σ _ H1 hp ⟨u2, u3, u4, u5, rfl, g1, none1⟩ ⟨rfl, rfl⟩
    rw [show (fun i : Nat => V.int (0 + (i : Nat))) p = V.int ((p : Nat) : Int) from congrArg V.int (Int.zero_add _)]
    walk_at "ws"
    refine ⟨_, _, rfl, ⟨by omega, by omega, by omega, by omega⟩, ?_⟩
    have en : ((((ws.length : Nat) : Int) - (((p : Nat) : Int) + 1))).toNat = ws.length - (p + 1) := by omega
    refine for_it (walk_range (lo := ((p : Nat) : Int) + 1) (n := (((ws.length : Nat) : Int) - (((p : Nat) : Int) + 1)).toNat)) (fun j σ H' => ∃ u3 u4 u5, σ = [some (.ref dp), some (.int (ws.length : Nat)), some (.int (p : Nat)), u3, u4, u5, none, none] ∧ G none H H' ∧ ((List.range' (p + 1) (ws.length - (p + 1))).take j).findSome? (fun q => turnR ws.length ds (p, q)) = none) ⟨_, _, _, rfl, g1, rfl⟩ (fun i σ H' _ _ => True.intro) ?_ ?_
    · rintro j v σ _ H2 hj ⟨w3, w4, w5, rfl, g2, none2⟩ ⟨rfl, rfl⟩
      obtain ⟨q, eq, qn⟩ : ∃ q : Nat, (((p : Nat) : Int) + 1 + (j : Nat)) = ((q : Nat) : Int) ∧ q = p + 1 + j := ⟨p + 1 + j, by omega, rfl⟩
      rw [show (fun i : Nat => V.int (((p : Nat) : Int) + 1 + (i : Nat))) j = V.int ((q : Nat) : Int) from congrArg V.int eq]
      have hq2 : (List.range' (p + 1) (ws.length - (p + 1)))[j]? = some q := by rw [List.getElem?_range' (by omega), qn]; simp
      have ql : q < ws.length := by omega
      walk_at "ws"
      refine ⟨_, _, rfl, ⟨by omega, by omega, by omega, by omega⟩, ?_⟩
      refine for_it (walk_range (lo := ((p : Nat) : Int) + 1) (n := (((ws.length : Nat) : Int) - (((p : Nat) : Int) + 1)).toNat)) (fun jj σ H' => ∃ u4 u5, σ = [some (.ref dp), some (.int (ws.length : Nat)), some (.int (p : Nat)), some (.int (q : Nat)), u4, u5, none, none] ∧ G none H H' ∧ ((List.range' (p + 1) (ws.length - (p + 1))).take jj).findSome? (fun r => if turn3 ds p q r then some (p, q, r) else none) = none) ⟨_, _, rfl, g2, rfl⟩ (fun i σ H' _ _ => True.intro) ?_ ?_
      · rintro jj v σ _ H3 hjj ⟨y4, y5, rfl, g3, none3⟩ ⟨rfl, rfl⟩
        obtain ⟨r, er, rn⟩ : ∃ r : Nat, (((p : Nat) : Int) + 1 + (jj : Nat)) = ((r : Nat) : Int) ∧ r = p + 1 + jj := ⟨p + 1 + jj, by omega, rfl⟩
        rw [show (fun i : Nat => V.int (((p : Nat) : Int) + 1 + (i : Nat))) jj = V.int ((r : Nat) : Int) from congrArg V.int er]
        have hr2 : (List.range' (p + 1) (ws.length - (p + 1)))[jj]? = some r := by rw [List.getElem?_range' (by omega), rn]; simp
        have rl : r < ws.length := by omega
        walk_at "ws"
        by_cases same : r = q
        · rw [show (!decide (((r : Nat) : Int) = ((q : Nat) : Int))) = false by subst same; simp]
          walk_at "ws"
          exact ⟨_, _, rfl, g3, fs_miss none3 hr2 (by rw [if_neg]; rw [turn_ne (.inl same.symm)]; exact Bool.false_ne_true)⟩
        rw [show (!decide (((r : Nat) : Int) = ((q : Nat) : Int))) = true by simp; omega]
        walk_at "ws"
        refine i_tup (sqT_t g3.tups hbs) ?_
        intro D hD
        refine lc_pure (K := K) (o := none) (walk_tup (xs := bs.map V.ref)) (by rw [List.length_map]; omega) hD (fun _ e => nomatch e) (fun i' => ds[i']?.map fun d => dI (kd (p : Nat) (q : Nat) (r : Nat) d)) (fun H' g => sqT_t (g3.trans g).tups hbs) ?_ ?_
        · rintro i' y _ H4 hi' g4 ⟨rfl, hy⟩ Qy Qn ky kn
          obtain ⟨b, d, rfl, hbi, hdi, hf⟩ := Dia.at_ (p := dp) lb hb hy
          have dm := List.mem_of_getElem? hdi
          have dl := wh.wh d dm
          walk_at "ws"
          refine ⟨rfl, ?_⟩
          walk_at "ws"
          refine i_tup (hf.n (g3.trans g4)).sq ?_
          intro D5 hD5
          refine lc_pure (K := K) (o := none) (walk_tup (xs := d.map V.int)) (by rw [List.length_map]; omega) hD5 (fun _ e => nomatch e) (fun i2 => d[i2]?.bind fun z => if inV (.int z) [.int ((p : Nat) : Int), .int ((q : Nat) : Int), .int ((r : Nat) : Int)] = true then some (PyData.int z) else none) (fun H' g => (hf.n ((g3.trans g4).trans g)).sq) ?_ ?_
          · rintro i2 y2 _ H6 hi2 g6 ⟨rfl, hy2⟩ Qy2 Qn2 ky2 kn2
            rw [List.getElem?_map] at hy2
            obtain ⟨z, hz, rfl⟩ := Option.map_eq_some_iff.mp hy2
            walk_at "ws"
            refine ⟨rfl, ?_⟩
            walk_at "ws"
            refine ⟨sz (by simp), fun t H7 ht g7 h7 => ?_⟩
            refine ⟨t, _, rfl, .inr (SqT.of h7), rfl, rfl, ?_⟩
            refine ⟨_, rfl, ?_⟩
            refine w_ite (fun c => ?_) (fun c => ?_)
            · have c : inV (.int z) [.int ((p : Nat) : Int), .int ((q : Nat) : Int), .int ((r : Nat) : Int)] = true := c
              walk_at "ws"
              exact ky2 _ _ _ (g7 none) (.int z) rfl (by rw [hz]; show (if _ then _ else _) = _; rw [if_pos c])
            · exact kn2 _ (g7 none) (by rw [hz]; show (if _ then _ else _) = _; rw [if_neg (by rw [show inV (.int z) [.int ((p : Nat) : Int), .int ((q : Nat) : Int), .int ((r : Nat) : Int)] = false from c]; exact Bool.false_ne_true)])
          · intro xs' H6 g6 hD6 hds _
            rw [List.length_map, fm_range] at hds
            have ek : d.filterMap (fun z => if inV (.int z) [.int ((p : Nat) : Int), .int ((q : Nat) : Int), .int ((r : Nat) : Int)] = true then some (PyData.int z) else none) = (kd (p : Nat) (q : Nat) (r : Nat) d).map PyData.int := by
              unfold kd
              rw [← List.filterMap_eq_map, List.filterMap_filter]
              rfl
            rw [ek] at hds
            walk_at "ws"
            refine ⟨D5, _, rfl, .inl ⟨SqL.of hD6, fun t H7 ht g7 h7 => ?_⟩⟩
            exact ky _ _ _ (g6.trans (g7 none)) (.tup (SqT.of h7) ((dp_n (g7 none)).2 _ _ hds)) (nl_dI _) (by rw [hdi]; rfl)
        · intro xs' H4 g4 hD4 hds _
          rw [List.length_map, lb, filterMap_range_map] at hds
          have g14 := g3.trans g4
          have dl : Dp K H4 (.ref D) (.list (ds.map fun d => dI (kd (p : Nat) (q : Nat) (r : Nat) d))) := .lst (SqL.of hD4) hds
          have anyk : ∀ (x y z : Nat), x < ws.length → y < ws.length → z < ws.length → (∀ a : Int, (a = (x : Nat) ∨ a = (y : Nat) ∨ a = (z : Nat)) ↔ (a = (p : Nat) ∨ a = (q : Nat) ∨ a = (r : Nat))) →
              ((ds.map fun d => dI (kd (p : Nat) (q : Nat) (r : Nat) d)).any fun e => PyData.eqv e (dI [((x : Nat) : Int), ((y : Nat) : Int), ((z : Nat) : Int)])) = ds.any fun d => bef d (x : Nat) (y : Nat) && bef d (y : Nat) (z : Nat) := by
            intro x y z hx hy hz pm
            rw [List.any_map]
            rw [Bool.eq_iff_iff, List.any_eq_true, List.any_eq_true]
            have each : ∀ d ∈ ds, PyData.eqv (dI (kd (p : Nat) (q : Nat) (r : Nat) d)) (dI [((x : Nat) : Int), ((y : Nat) : Int), ((z : Nat) : Int)]) = (bef d (x : Nat) (y : Nat) && bef d (y : Nat) (z : Nat)) := fun d dm => by
              rw [eqv_dI, Bool.eq_iff_iff, decide_eq_true_iff]
              exact kd_eq (wh.rec_.nd d dm) (wh.has dm (by omega)) (wh.has dm ql) (wh.has dm rl) pm (wh.has dm hx) (wh.has dm hy) (wh.has dm hz)
            exact ⟨fun ⟨d, dm, h⟩ => ⟨d, dm, by rw [← each d dm]; exact h⟩, fun ⟨d, dm, h⟩ => ⟨d, dm, by show PyData.eqv _ _ = true; rw [each d dm]; exact h⟩⟩
          have shl : SeqAt.shaped (.list (ds.map fun d => dI (kd (p : Nat) (q : Nat) (r : Nat) d))) = true := by
            have := sh_dL (ds.map fun d => kd (p : Nat) (q : Nat) (r : Nat) d)
            rw [List.map_map] at this
            exact this
          have perm3 : ∀ a : Int, (a = (p : Nat) ∨ a = (q : Nat) ∨ a = (r : Nat)) ↔ (a = (p : Nat) ∨ a = (q : Nat) ∨ a = (r : Nat)) := fun a => Iff.rfl
          have pA := anyk p q r (by omega) ql rl perm3
          have pB := anyk q r p ql rl (by omega) (fun a => by omega)
          have pC := anyk r p q rl (by omega) ql (fun a => by omega)
          dsimp only
          refine w_ifM (fun b H' => G none H4 H' ∧ (b = true ↔ turn3 ds p q r = true)) (fun N kN => ?_) ?_
          · walk_at "ws"
            refine ⟨sz (by simp), fun t1 H5 ht1 g5 h5 => ?_⟩
            walk_at "ws"
            refine ⟨dI [((p : Nat) : Int), ((q : Nat) : Int), ((r : Nat) : Int)], _, .tup (SqT.of h5) (.cons (.int _) (.cons (.int _) (.cons (.int _) .nil))), (dp_n (g5 none)).1 _ _ dl, sh_dI _, shl, ?_⟩
            rw [pA]
            refine ⟨_, rfl, ?_⟩
            refine w_ite (fun c1 => ?_) (fun c1 => ?_)
            · walk_at "ws"
              refine ⟨sz (by simp), fun t2 H6 ht2 g6 h6 => ?_⟩
              walk_at "ws"
              refine ⟨dI [((q : Nat) : Int), ((r : Nat) : Int), ((p : Nat) : Int)], _, .tup (SqT.of h6) (.cons (.int _) (.cons (.int _) (.cons (.int _) .nil))), (dp_n ((g5 none).trans (g6 none))).1 _ _ dl, sh_dI _, shl, ?_⟩
              rw [pB]
              refine ⟨_, rfl, ?_⟩
              refine w_ite (fun c2 => ?_) (fun c2 => ?_)
              · walk_at "ws"
                refine ⟨sz (by simp), fun t3 H7 ht3 g7 h7 => ?_⟩
                walk_at "ws"
                refine ⟨dI [((r : Nat) : Int), ((p : Nat) : Int), ((q : Nat) : Int)], _, .tup (SqT.of h7) (.cons (.int _) (.cons (.int _) (.cons (.int _) .nil))), (dp_n ((g5 none).trans ((g6 none).trans (g7 none)))).1 _ _ dl, sh_dI _, shl, ?_⟩
                rw [pC]
                refine ⟨_, rfl, kN _ _ ⟨(g5 none).trans ((g6 none).trans (g7 none)), ?_⟩⟩
                unfold turn3
                rw [c1, c2, Bool.true_and, Bool.true_and]
              · refine kN _ _ ⟨(g5 none).trans (g6 none), ?_⟩
                unfold turn3
                rw [c2, Bool.false_and, Bool.and_false]
            · refine kN _ _ ⟨g5 none, ?_⟩
              unfold turn3
              rw [c1, Bool.false_and]
          · rintro b H5 ⟨g5, eb⟩
            cases b with
            | true =>
              have tr := eb.mp rfl
              walk_at "ws"
              refine ⟨sz (by simp), fun t8 H8 ht8 g8 h8 => ?_⟩
              refine k _ _ (g14.trans (g5.trans (g8 none))) ?_
              have inner : turnR ws.length ds (p, q) = some (p, q, r) := fs_hit none3 hr2 (by rw [if_pos tr])
              have fin := fs_hit none1 (List.getElem?_range (show p < ws.length by omega)) (fs_hit none2 hq2 inner)
              rw [← turn_rows] at fin
              rw [fin]
              exact .tup (SqT.of h8) (.cons (.str _) (.cons (.int _) (.cons (.int _) (.cons (.int _) .nil))))
            | false =>
              have tr : ¬ turn3 ds p q r = true := fun h => by cases eb.mpr h
              walk_at "ws"
              exact ⟨_, _, rfl, g14.trans g5, fs_miss none3 hr2 (by rw [if_neg tr])⟩
      · rintro σ H3 ⟨y4, y5, rfl, g3, none3⟩
        rw [en] at none3
        walk_at "ws"
        refine ⟨_, _, _, rfl, g3, fs_miss none2 hq2 ?_⟩
        refine fs_end ?_
        rw [List.length_range']
        exact none3
    · rintro σ H2 ⟨w3, w4, w5, rfl, g2, none2⟩
      rw [en] at none2
      walk_at "ws"
      refine ⟨_, _, _, _, rfl, g2, fs_miss none1 (List.getElem?_range (by omega)) ?_⟩
      refine fs_end ?_
      rw [List.length_range']
      exact none2
  · rintro σ H1 ⟨u2, u3, u4, u5, rfl, g1, none1⟩
    walk_at "ws"
    refine k _ _ g1 ?_
    have none2 := fs_end (xs := List.range ws.length) (by rw [List.length_range]; exact none1)
    rw [← turn_rows] at none2
    rw [none2]
    exact .non

end
end Mine
/-! ## GTF -/
end
namespace GA
open PySem L2 PyProof.Rows
/-! ### new tuples whose object is told -/
def tTupF (t : TA) : TE := fun σ H Q => t σ H fun xs H1 => xs.length ≤ sizeLine ∧ ∀ p H2, H1 p = none → (∀ o, G o H1 H2) → FrzT H2 p xs → Q (.ref p) H2
theorem w_tupF {t : TA} {σ : L2.St} {H : Hp} {Q : VK} (q : t σ H fun xs H1 => xs.length ≤ sizeLine ∧ ∀ p H2, H1 p = none → (∀ o, G o H1 H2) → FrzT H2 p xs → Q (.ref p) H2) : tTupF t σ H Q := q
theorem pe_tupF {X : Cx} {es : List Expr} {t : TA} {pos : Pos} {x1} (h : PA X es t) : PE X (.Tuple es x1 pos) (tTupF t) := by
  refine ⟨fun pins s σ H Q I hq => ?_⟩
  refine wpAny_Tuple_spliced (thn (h.run pos pins s σ H _ I hq) fun us s1 ⟨xs, H1, I1, r, z, q⟩ => ⟨by rw [← r.length]; exact z, ?_⟩)
  have hf : H1 s1.heap.objs.size = none := I1.hok.fresh (Nat.le_refl _)
  refine ⟨.ref s1.heap.objs.size, _, I1.laid (o := .frz { cls := .type "tuple", data := .seq us.toArray } (.tup xs)) (t' := s1.toks) (fun b u e => Heap.get?_push_of_some _ e) (Nat.le_refl _) ?_, rfl, q _ _ hf (fun _ => G.alloc hf) ⟨_, upd_same, rfl⟩⟩
  exact ⟨Heap.get?_push_size _ rfl, z, us, r, IsTup.new _ _⟩
/-- t + u: one of the two where the other is empty, else a new one, told -/
def rCatF (K : PySem.W.Frag) : R2 := fun x y H Q => ∃ a b xs ys, x = .ref a ∧ y = .ref b ∧ SqT K H a xs ∧ SqT K H b ys ∧ xs.length + ys.length ≤ sizeLine ∧
  (xs = [] → Q (.ref b) H) ∧ (xs ≠ [] → ys = [] → Q (.ref a) H) ∧ (xs ≠ [] → ys ≠ [] → ∀ p H2, H p = none → (∀ o, G o H H2) → FrzT H2 p (xs ++ ys) → Q (.ref p) H2)
theorem op_catF {X : Cx} : OpR X (binaryOp .Add) (rCatF X.K) := by
  intro pins s σ H x y v u Q I rx ry h
  obtain ⟨a, b, xs, ys, rfl, rfl, ha, hb, hz, q0, q1, q2⟩ := h
  by_cases hx : xs = []
  · subst hx
    exact op_catA pins s σ H _ _ v u Q I rx ry ⟨a, b, [], ys, rfl, rfl, ha, hb, hz, fun _ => q0 rfl, fun n => absurd rfl n, fun n => absurd rfl n⟩
  by_cases hy : ys = []
  · subst hy
    exact op_catA pins s σ H _ _ v u Q I rx ry ⟨a, b, xs, [], rfl, rfl, ha, hb, hz, fun e => absurd e hx, fun _ _ => q1 hx rfl, fun _ n => absurd rfl n⟩
  cases rx
  cases ry
  obtain ⟨its, r1, p1, _⟩ := I.tuple ha
  obtain ⟨its2, r2, p2, _⟩ := I.tuple hb
  have hf : H s.heap.objs.size = none := I.hok.fresh (Nat.le_refl _)
  refine HT.cat_tup p1 p2 (fun z => hx (r1.nil_iff.mp z)) (fun z => absurd (r2.nil_iff.mp z) hy) (fun z => ?_) (by rw [← r1.length, ← r2.length]; exact hz)
  refine ⟨.ref s.heap.objs.size, _, I.laid (t' := s.toks) (o := .frz { cls := .type "tuple", data := .seq (its ++ its2).toArray } (.tup (xs ++ ys))) (fun b ob q => Heap.get?_push_of_some _ q) (Nat.le_refl _) ?_, rfl, q2 hx hy _ _ hf (fun _ => G.alloc hf) ⟨_, upd_same, rfl⟩⟩
  exact ⟨Heap.get?_push_size _ rfl, by rw [List.length_append]; exact hz, _, r1.append r2, IsTup.new _ _⟩
/-- t[lo:hi], what it holds -/
def rSlQ (K : PySem.W.Frag) : V → Option Int → Option Int → Hp → VK → Prop := fun x lo hi H Q => ∃ a xs, x = .ref a ∧ SqT K H a xs ∧ ∀ p H2, (∀ o, G o H H2) → SqT K H2 p (cutV xs lo hi) → Q (.ref p) H2
theorem sl_tupQ {X : Cx} : SlR X (rSlQ X.K) := SlR.weak sl_tupA fun x lo hi H Q ⟨a, xs, e, h, q⟩ => ⟨a, xs, e, h, fun w => q a H (fun _ => G.refl) (by
    have c : cutV xs lo hi = xs := by
      unfold cutV
      rw [w.1, w.2, List.drop_zero, Nat.sub_zero, List.take_length]
    rw [c]; exact h), fun _ p hp => q p _ (fun _ => G.alloc hp) (.inl (.inl upd_same))⟩
def rCatFr (K : PySem.W.Frag) : R2 := fun x y H Q => ∃ a b xs ys, x = .ref a ∧ y = .ref b ∧ SqT K H a xs ∧ FrzT H b ys ∧ ys ≠ [] ∧ xs.length + ys.length ≤ 100000 ∧ ∀ p H2, (∀ o, G o H H2) → FrzT H2 p (xs ++ ys) → Q (.ref p) H2
theorem op_catFr {X : Cx} : OpR X (binaryOp .Add) (rCatFr X.K) := OpR.weak op_catF fun x y H Q ⟨a, b, xs, ys, e1, e2, h1, h2, ny, hz, q⟩ => ⟨a, b, xs, ys, e1, e2, h1, h2.sq, sz hz, fun e => by subst e; exact q b H (fun _ => G.refl) h2, fun _ e => absurd e ny, fun _ _ p H2 _ g f => q p H2 g f⟩
def rCatFl (K : PySem.W.Frag) : R2 := fun x y H Q => ∃ a b xs ys, x = .ref a ∧ y = .ref b ∧ FrzT H a xs ∧ SqT K H b ys ∧ xs ≠ [] ∧ xs.length + ys.length ≤ 100000 ∧ ∀ p H2, (∀ o, G o H H2) → FrzT H2 p (xs ++ ys) → Q (.ref p) H2
theorem op_catFl {X : Cx} : OpR X (binaryOp .Add) (rCatFl X.K) := OpR.weak op_catF fun x y H Q ⟨a, b, xs, ys, e1, e2, h1, h2, nx, hz, q⟩ => ⟨a, b, xs, ys, e1, e2, h1.sq, h2, sz hz, fun e => absurd e nx, fun _ e => by subst e; exact q a H (fun _ => G.refl) (by rw [List.append_nil]; exact h1), fun _ _ p H2 _ g f => q p H2 g f⟩
theorem k_catFr (K : PySem.W.Frag) {X : Cx} (hK : X.K = K := by rfl) : OpR X (binaryOp .Add) (rCatFr K) := by
  subst hK
  exact op_catFr
theorem k_catFl (K : PySem.W.Frag) {X : Cx} (hK : X.K = K := by rfl) : OpR X (binaryOp .Add) (rCatFl K) := by
  subst hK
  exact op_catFl
theorem FrzT.upd {H : Hp} {D a : Addr} {ys xs : List V} {u : HO} (hD : H D = some (.lst ys)) (h : FrzT H a xs) : FrzT (upd H D u) a xs := by
  obtain ⟨ob, h, d⟩ := h
  refine ⟨ob, ?_, d⟩
  rw [upd_ne]
  · exact h
  · intro e
    rw [e, hD] at h
    cases h
/-- tuples of ints, each told -/
def Ords (H : Hp) (ps : List Addr) (os : List (List Int)) : Prop := ps.length = os.length ∧ ∀ (i : Nat) (p : Addr) (o : List Int), ps[i]? = some p → os[i]? = some o → FrzT H p (o.map V.int)
theorem Ords.nil {H : Hp} : Ords H [] [] := ⟨rfl, fun i p o e => by simp at e⟩
theorem Ords.n {H H' : Hp} {ps : List Addr} {os : List (List Int)} (h : Ords H ps os) (g : G none H H') : Ords H' ps os := ⟨h.1, fun i p o e1 e2 => (h.2 i p o e1 e2).n g⟩
theorem Ords.upd {H : Hp} {D : Addr} {ys : List V} {u : HO} {ps : List Addr} {os : List (List Int)} (h : Ords H ps os) (hD : H D = some (.lst ys)) : Ords (upd H D u) ps os := ⟨h.1, fun i p o e1 e2 => (h.2 i p o e1 e2).upd hD⟩
theorem Ords.app {H : Hp} {ps qs : List Addr} {os us : List (List Int)} (h : Ords H ps os) (h2 : Ords H qs us) : Ords H (ps ++ qs) (os ++ us) := by
  refine ⟨by rw [List.length_append, List.length_append, h.1, h2.1], fun i p o e1 e2 => ?_⟩
  have e := h.1
  by_cases c : i < ps.length
  · rw [List.getElem?_append_left c] at e1
    rw [List.getElem?_append_left (by omega)] at e2
    exact h.2 i p o e1 e2
  · rw [List.getElem?_append_right (by omega)] at e1 e2
    rw [← e] at e2
    exact h2.2 _ p o e1 e2
theorem Ords.one {H : Hp} {p : Addr} {o : List Int} (h : FrzT H p (o.map V.int)) : Ords H [p] [o] := ⟨rfl, fun i q u e1 e2 => by
  match i with
  | 0 => cases e1; cases e2; exact h
  | i + 1 => simp at e1⟩
/-! the orders of some things -/
def insA (x : Int) (o : List Int) : List (List Int) := (List.range (o.length + 1)).map fun k => o.take k ++ x :: o.drop k
def ordN (xs : List Int) (i : Nat) : List (List Int) := (xs.take i).foldl (fun fs x => fs.flatMap (insA x)) [[]]
def ords (xs : List Int) : List (List Int) := ordN xs xs.length
def fac : Nat → Nat
  | 0 => 1
  | n + 1 => fac n * (n + 1)
theorem ordN_succ {xs : List Int} {i : Nat} {x : Int} (h : xs[i]? = some x) : ordN xs (i + 1) = (ordN xs i).flatMap (insA x) := by
  unfold ordN
  rw [List.take_add_one, h, List.foldl_append]
  rfl
theorem insA_perm {x : Int} {o u : List Int} (h : u ∈ insA x o) : u.Perm (x :: o) := by
  unfold insA at h
  obtain ⟨k, _, rfl⟩ := List.mem_map.mp h
  have := List.perm_middle (a := x) (l₁ := o.take k) (l₂ := o.drop k)
  rwa [List.take_append_drop] at this
theorem insA_len {x : Int} {o : List Int} : (insA x o).length = o.length + 1 := by unfold insA; simp
theorem ordN_perm {xs : List Int} : ∀ (i : Nat), i ≤ xs.length → ∀ o ∈ ordN xs i, o.Perm (xs.take i)
  | 0, _, o, h => by
    unfold ordN at h
    simp at h
    subst h
    simp
  | i + 1, hi, o, h => by
    rw [ordN_succ (List.getElem?_eq_getElem (by omega : i < xs.length))] at h
    obtain ⟨u, hu, ho⟩ := List.mem_flatMap.mp h
    have p := ordN_perm i (by omega) u hu
    rw [List.take_add_one, List.getElem?_eq_getElem (by omega : i < xs.length)]
    exact (insA_perm ho).trans ((p.cons _).trans (List.perm_append_singleton _ _).symm)
theorem flat_len {x : Int} {n : Nat} : ∀ (fs : List (List Int)), (∀ o ∈ fs, o.length = n) → (fs.flatMap (insA x)).length = fs.length * (n + 1)
  | [], _ => by simp
  | o :: fs, h => by
    rw [List.flatMap_cons, List.length_append, insA_len, flat_len fs (fun u hu => h u (List.mem_cons_of_mem _ hu)), h o (List.mem_cons_self ..), List.length_cons, Nat.succ_mul]
    omega
theorem ordN_len {xs : List Int} : ∀ (i : Nat), i ≤ xs.length → (ordN xs i).length = fac i
  | 0, _ => rfl
  | i + 1, hi => by
    rw [ordN_succ (List.getElem?_eq_getElem (by omega : i < xs.length)), flat_len (n := i) _ (fun o ho => by
      have := (ordN_perm i (by omega) o ho).length_eq
      rw [this, List.length_take]
      omega), ordN_len i (by omega)]
    rfl
theorem ords_perm {xs o : List Int} (h : o ∈ ords xs) : o.Perm xs := by
  have := ordN_perm xs.length (Nat.le_refl _) o h
  rwa [List.take_length] at this
theorem fac_le : ∀ {i : Nat}, i ≤ 6 → fac i ≤ 720 := by decide
theorem fac_pos : ∀ (i : Nat), 0 < fac i
  | 0 => by decide
  | i + 1 => Nat.mul_pos (fac_pos i) (by omega)
theorem k_slQ (K : PySem.W.Frag) {X : Cx} (hK : X.K = K := by rfl) : SlR X (rSlQ K) := by
  subst hK
  exact sl_tupQ
theorem cut_to (xs : List V) (k : Nat) : cutV xs none (some (k : Int)) = xs.take k := by
  unfold cutV
  rw [HT.sIx_none, HT.sIx_nat, List.drop_zero, Nat.sub_zero]
  by_cases h : k ≤ xs.length
  · rw [Nat.min_eq_left h]
  · rw [Nat.min_eq_right (by omega), List.take_length, List.take_of_length_le (by omega)]
theorem cut_from (xs : List V) (k : Nat) : cutV xs (some (k : Int)) none = xs.drop k := by
  unfold cutV
  rw [HT.sIx_none, HT.sIx_nat]
  by_cases h : k ≤ xs.length
  · rw [Nat.min_eq_left h, List.take_of_length_le (by rw [List.length_drop]; omega)]
  · rw [Nat.min_eq_right (by omega), List.drop_of_length_le (i := xs.length) (by omega), List.drop_of_length_le (by omega), List.take_nil]
end GA
/-! ## K16 -/
section
open PySem L2 GA
local macro_rules
  | `(tactic| walk_at "w") => `(tactic| first
    | ((with_reducible refine' GA.w_var ?e ?_); (case e => exact rfl))
    | (with_reducible refine' GA.w_c ?_)
    | (with_reducible refine' GA.w_cons ?_)
    | (with_reducible refine' GA.w_nil ?_)
    | (with_reducible refine' GA.w_op ?_)
    | (with_reducible refine' GA.r_I0 ?_)
    | (with_reducible refine' GA.w_bl ?_)
    | (with_reducible refine' GA.w_seq ?_)
    | (with_reducible refine' GA.w_set ?_)
    | (with_reducible refine' GA.w_ret ?_)
    | (with_reducible refine' GA.w_ifS ?_)
    | (with_reducible refine' GA.w_test ?_)
    | (with_reducible refine' GA.w_tB ?_)
    | (with_reducible refine' GA.w_not ?_)
    | (with_reducible refine' GA.w_and ?_)
    | (with_reducible refine' GA.w_or ?_)
    | (with_reducible refine' GA.w_andV ?_)
    | (with_reducible refine' GA.w_orV ?_)
    | (with_reducible refine' GA.w_notV ?_)
    | (with_reducible refine' GA.w_blc ?_)
    | (with_reducible refine' GA.w_if ?_)
    | (with_reducible refine' GA.w_CB ?_)
    | (with_reducible refine' GA.w_call ?_)
    | (with_reducible refine' GA.w_tupN ?_)
    | (with_reducible refine' GA.w_lstN ?_)
    | (with_reducible refine' GA.w_chain ?_)
    | (with_reducible refine' GA.w_drop ?_)
    | (with_reducible refine' GA.w_next ?_)
    | (with_reducible refine' GA.w_break ?_)
    | (with_reducible refine' GA.w_un ?_)
    | (with_reducible refine' GA.r_U ?_)
    | (with_reducible refine' GA.r_eqI ?_)
    | (with_reducible refine' GA.r_neI ?_)
    | (with_reducible refine' GA.r_eqB ?_)
    | (with_reducible refine' GA.r_neB ?_)
    | (with_reducible refine' GA.w_fld ?_)
    | (with_reducible refine' GA.w_sfld ?_)
    | (with_reducible refine' GA.w_sl ?_)
    | (with_reducible refine' GA.w_part ?_)
    | (with_reducible refine' GA.w_noPart ?_)
    | (with_reducible refine' GA.w_inti ?_)
    | (with_reducible refine' GA.w_retN ?_)
    | (with_reducible refine' GA.w_gsub ?_)
    | (with_reducible refine' GA.w_gname ?_)
    | (with_reducible refine' L2.iteT ?_)
    | (with_reducible refine' L2.iteF ?_)
    | (with_reducible refine' GA.w_nt ?_)
    | (with_reducible refine' GA.w_nf ?_)
    | (with_reducible refine' GA.w_isN ?_)
    | (with_reducible refine' GA.w_notN ?_)
    | (with_reducible refine' GA.w_yes ?_)
    | (with_reducible refine' GA.w_lc ?_)
    | (with_reducible refine' GA.w_lc2 ?_)
    | (with_reducible refine' GA.w_iseq ?_)
    | (with_reducible refine' GA.w_make ?_)
    | (with_reducible refine' GA.w_for ?_)
    | (with_reducible refine' GA.w_rng1 ?_)
    | (with_reducible refine' GA.w_rng2 ?_)
    | (with_reducible refine' GA.w_itup ?_)
    | (with_reducible refine' GA.w_ilist ?_)
    | (with_reducible refine' GA.w_ienum ?_)
    | (with_reducible refine' GA.w_BM ?_)
    | (with_reducible refine' GA.w_BM0 ?_)
    | (with_reducible refine' GA.w_izip ?_)
    | (with_reducible refine' GA.w_asg ?_))
  | `(tactic| walk_at "wm") => `(tactic| first
    | ((with_reducible refine' GA.w_var ?e ?_); (case e => exact rfl))
    | (with_reducible refine' GA.w_c ?_)
    | (with_reducible refine' GA.w_cons ?_)
    | (with_reducible refine' GA.w_nil ?_)
    | (with_reducible refine' GA.w_op ?_)
    | (with_reducible refine' GA.r_I0 ?_)
    | (with_reducible refine' GA.w_bl ?_)
    | (with_reducible refine' GA.w_set ?_)
    | (with_reducible refine' GA.w_ret ?_)
    | (with_reducible refine' GA.w_ifS ?_)
    | (with_reducible refine' GA.w_test ?_)
    | (with_reducible refine' GA.w_tB ?_)
    | (with_reducible refine' GA.w_not ?_)
    | (with_reducible refine' GA.w_and ?_)
    | (with_reducible refine' GA.w_or ?_)
    | (with_reducible refine' GA.w_andV ?_)
    | (with_reducible refine' GA.w_orV ?_)
    | (with_reducible refine' GA.w_notV ?_)
    | (with_reducible refine' GA.w_blc ?_)
    | (with_reducible refine' GA.w_if ?_)
    | (with_reducible refine' GA.w_CB ?_)
    | (with_reducible refine' GA.w_call ?_)
    | (with_reducible refine' GA.w_tupN ?_)
    | (with_reducible refine' GA.w_lstN ?_)
    | (with_reducible refine' GA.w_chain ?_)
    | (with_reducible refine' GA.w_drop ?_)
    | (with_reducible refine' GA.w_next ?_)
    | (with_reducible refine' GA.w_break ?_)
    | (with_reducible refine' GA.w_un ?_)
    | (with_reducible refine' GA.r_U ?_)
    | (with_reducible refine' GA.r_eqI ?_)
    | (with_reducible refine' GA.r_neI ?_)
    | (with_reducible refine' GA.r_eqB ?_)
    | (with_reducible refine' GA.r_neB ?_)
    | (with_reducible refine' GA.w_fld ?_)
    | (with_reducible refine' GA.w_sfld ?_)
    | (with_reducible refine' GA.w_sl ?_)
    | (with_reducible refine' GA.w_part ?_)
    | (with_reducible refine' GA.w_noPart ?_)
    | (with_reducible refine' GA.w_inti ?_)
    | (with_reducible refine' GA.w_retN ?_)
    | (with_reducible refine' GA.w_gsub ?_)
    | (with_reducible refine' GA.w_gname ?_)
    | (with_reducible refine' L2.iteT ?_)
    | (with_reducible refine' L2.iteF ?_)
    | (with_reducible refine' GA.w_nt ?_)
    | (with_reducible refine' GA.w_nf ?_)
    | (with_reducible refine' GA.w_isN ?_)
    | (with_reducible refine' GA.w_notN ?_)
    | (with_reducible refine' GA.w_yes ?_)
    | (with_reducible refine' GA.w_lc ?_)
    | (with_reducible refine' GA.w_lc2 ?_)
    | (with_reducible refine' GA.w_iseq ?_)
    | (with_reducible refine' GA.w_make ?_)
    | (with_reducible refine' GA.w_for ?_)
    | (with_reducible refine' GA.w_rng1 ?_)
    | (with_reducible refine' GA.w_rng2 ?_)
    | (with_reducible refine' GA.w_itup ?_)
    | (with_reducible refine' GA.w_ilist ?_)
    | (with_reducible refine' GA.w_ienum ?_)
    | (with_reducible refine' GA.w_BM ?_)
    | (with_reducible refine' GA.w_BM0 ?_)
    | (with_reducible refine' GA.w_izip ?_)
    | (with_reducible refine' GA.w_asg ?_))
  | `(tactic| walk_at "ws") => `(tactic| repeat (walk_at "w"))
  | `(tactic| walk_at "wn") => `(tactic| repeat (walk_at "wm"))


namespace Mine
section
variable {P : Program} {w : World} {K : PySem.W.Frag} {mg : Str → Option Value} {base : Heap} {a : Ads}

/-! ### the law's orders -/
def sp__law_orders (K : PySem.W.Frag) : Sp := fun vs H Q _ => ∃ (l : Addr) (xs : List Int), vs = [.ref l] ∧ SqL K H l (xs.map V.int) ∧ xs.length ≤ 6 ∧
  ∀ q ps H', G none H H' → H' q = some (.lst (ps.map V.ref)) → Ords H' ps (ords xs) → Q (.ref q) H'
theorem ok__law_orders (T : Txt K mg a) : FnOk P w K mg base CX0 1 a.f__law_orders a.d__law_orders P__law_orders (sp__law_orders K) := by
  refine T.F__law_orders.ok sc__law_orders (fun vs H Q E h => by obtain ⟨l, xs, rfl, _⟩ := h; rfl) (fun cdv A outer s H vs Q E hr h => ?_)
  obtain ⟨l, xs, rfl, hl, l6, k⟩ := h
  refine ⟨_, (pss_cons (ps_set (i := 1) sc__law_orders.nd rfl (Or.inl rfl) (pe_lstN (pa_cons (pe_tupF pa_nil) pa_nil)))
  (pss_cons (ps_for PassesOwn.never rfl (pi_list (pv 0)) (pg_name (i := 2) sc__law_orders.nd rfl (Or.inr rfl))
    (pss_cons (ps_set (i := 3) sc__law_orders.nd rfl (Or.inl rfl) (pe_lstN pa_nil))
  (pss_cons (ps_for PassesOwn.never rfl (pi_list (pv 1)) (pg_name (i := 4) sc__law_orders.nd rfl (Or.inr rfl))
    (pss_one (ps_expr (pe_bm PySem.F.plainAttrs_list PySem.F.slot_list_extend PySem.F.type_list_extend mt_extend (pv 3) (pa_cons (pe_lc (own := [("_law_at", 5)]) (g := (gName 5)) (tt := tYes) rfl sc__law_orders.nd (pi_range1 rfl T.n_range (pa_cons (pe_op op_add (pe_callB call_len_seq (by rfl) T.n_len (by decide +kernel) (pa_cons (pv 4) pa_nil)) pe_int) pa_nil)) (blkOk_by (N := N__law_orders) (sc := defScope s__law_orders) (by decide +kernel)) (fun _ _ _ _ _ => (pg_name (i := 5) sc__law_orders.nd rfl (by first | exact Or.inl rfl | exact Or.inr rfl))) (fun _ _ _ _ _ => pts_nil) (fun _ _ _ _ _ => (pe_op (k_catFl K) (pe_op (k_catFr K) (pe_slice (k_slQ K) (pv 4) po_none (po_some (pv 5))) (pe_tupF (pa_cons (pv 2) pa_nil))) (pe_slice (k_slQ K) (pv 4) (po_some (pv 5)) po_none)))) pa_nil)))))
  (pss_one (ps_set (i := 1) sc__law_orders.nd rfl (Or.inl rfl) (pv 3))))))
  (pss_one (ps_ret (pv 1))))), ?_⟩
  walk_at "ws"
  refine w_tupF ?_
  walk_at "ws"
  refine ⟨sz (by simp), fun p0 H1 hp0 g1 f1 => ?_⟩
  walk_at "ws"
  refine ⟨sz (by simp), fun q0 H2 hq0 g2 h2 => ?_⟩
  have g02 : G none H H2 := (g1 none).trans (g2 none)
  walk_at "ws"
  refine i_list (sqL_n g02 hl) ?_
  refine for_it (walk_list (xs := xs.map V.int)) (fun i σ H' => ∃ u2 u3 u4 q ps, σ = [some (.ref l), some (.ref q), u2, u3, u4, none] ∧ G none H H' ∧ H' q = some (.lst (ps.map V.ref)) ∧ Ords H' ps (ordN xs i)) ⟨_, _, _, q0, [p0], rfl, g02, h2, Ords.one (o := []) (f1.n (g2 none))⟩ (fun i σ H' _ ⟨_, _, _, _, _, _, g, _⟩ => sqL_n g hl) ?_ ?_
  · rintro i v σ _ H3 hi ⟨u2, u3, u4, q, ps, rfl, g3, h3, O3⟩ ⟨rfl, hv⟩
    rw [List.length_map] at hi
    rw [List.getElem?_map] at hv
    obtain ⟨x, hx, rfl⟩ := Option.map_eq_some_iff.mp hv
    have ol : ps.length = fac i := by rw [O3.1, ordN_len i (by omega)]
    have f7 := fac_le (show i ≤ 6 by omega)
    walk_at "ws"
    refine ⟨sz (by simp), fun lt H4 hlt g4 h4 => ?_⟩
    walk_at "ws"
    refine i_list (SqL.of ((g4 none).all _ _ h3)) ?_
    refine for_it (walk_list (xs := ps.map V.ref)) (fun j σ H' => ∃ u4 rs, σ = [some (.ref l), some (.ref q), some (.int x), some (.ref lt), u4, none] ∧ G none H3 H' ∧ H' lt = some (.lst (rs.map V.ref)) ∧ Ords H' rs (((ordN xs i).take j).flatMap (insA x))) ⟨_, [], rfl, g4 none, h4, Ords.nil⟩ (fun j σ H' _ ⟨_, _, _, g, _⟩ => SqL.of (g.all _ _ h3)) ?_ ?_
    · rintro j v σ _ H5 hj ⟨w4, rs, rfl, g5, h5, O5⟩ ⟨rfl, hv⟩
      rw [List.length_map] at hj
      rw [List.getElem?_map] at hv
      obtain ⟨p, hp, rfl⟩ := Option.map_eq_some_iff.mp hv
      obtain ⟨o, ho⟩ : ∃ o, (ordN xs i)[j]? = some o := ⟨_, List.getElem?_eq_getElem (by have := O3.1; omega)⟩
      have fo := (O3.2 j p o hp ho).n g5
      have oi : o.length = i := by
        have := (ordN_perm i (by omega) o (List.mem_of_getElem? ho)).length_eq
        rw [this, List.length_take]
        omega
      have rl : rs.length = j * (i + 1) := by
        rw [O5.1, flat_len (n := i) _ (fun u hu => by
          have := (ordN_perm i (by omega) u (List.mem_of_mem_take hu)).length_eq
          rw [this, List.length_take]
          omega), List.length_take, Nat.min_eq_left (by have := O3.1; omega)]
      have rl2 : rs.length ≤ 720 * 7 := by rw [rl]; exact Nat.mul_le_mul (by omega) (by omega)
      walk_at "ws"
      refine i_BM h5 ?_
      walk_at "ws"
      refine ⟨p, _, rfl, .inr fo.sq, ?_⟩
      walk_at "ws"
      rw [List.length_map]
      refine i_rng1 (by omega) (by omega) ?_
      intro D hD
      have en : ((((o.length : Nat) : Int) + 1)).toNat = o.length + 1 := by omega
      refine lc_it walk_range (fun k H' => ∃ ts : List Addr, G none H5 H' ∧ H' D = some (.lst (ts.map V.ref)) ∧ Ords H' ts ((List.range k).map fun k => o.take k ++ x :: o.drop k)) ⟨[], (G.refl).mut hD (fun _ e => nomatch e), upd_same, Ords.nil⟩ (fun _ _ _ _ => trivial) ?_ ?_
      · rintro k _ _ H6 hk ⟨ts, g6, h6, O6⟩ ⟨rfl, rfl⟩
        rw [en] at hk
        rw [show (fun i : Nat => V.int (0 + (i : Nat))) k = V.int ((k : Nat) : Int) from congrArg V.int (Int.zero_add _)]
        walk_at "ws"
        refine ⟨rfl, ?_⟩
        walk_at "ws"
        refine ⟨p, _, rfl, (fo.n g6).sq, fun a H7 g7 s7 => ?_⟩
        rw [cut_to] at s7
        walk_at "ws"
        refine w_tupF ?_
        walk_at "ws"
        refine ⟨sz (by simp), fun b H8 hb g8 f8 => ?_⟩
        walk_at "ws"
        refine ⟨a, b, _, _, rfl, rfl, sqT_t (g8 none).tups s7, f8, by simp, by simp; omega, fun m H9 g9 f9 => ?_⟩
        walk_at "ws"
        have g69 := (g7 none).trans ((g8 none).trans (g9 none))
        refine ⟨p, _, rfl, (fo.n (g6.trans g69)).sq, fun c HA gA sA => ?_⟩
        rw [cut_from] at sA
        walk_at "ws"
        refine ⟨m, c, _, _, rfl, rfl, f9.n (gA none), sA, by simp, by simp; omega, fun d HB gB fB => ?_⟩
        have g6B := g69.trans ((gA none).trans (gB none))
        have hB := g6B.all _ _ h6
        have tl : ts.length = k := by rw [O6.1]; simp
        refine ⟨ts.map V.ref, hB, Nat.lt_of_le_of_lt (by rw [List.length_map]; omega : (ts.map V.ref).length ≤ 100000) (by decide), ts ++ [d], (g6.trans g6B).mut hD (fun _ e => nomatch e), by rw [upd_same, List.map_append]; rfl, ?_⟩
        rw [List.range_succ, List.map_append]
        refine ((O6.n g6B).app (Ords.one ?_)).upd hB
        have e : (o.take k ++ x :: o.drop k).map V.int = (o.map V.int).take k ++ [V.int x] ++ (o.map V.int).drop k := by
          rw [List.map_append, List.map_cons, List.map_take, List.map_drop]
          simp
        rw [e]
        exact fB
        rw [List.length_map]
        omega
      · rintro H6 ⟨ts, g6, h6, O6⟩
        rw [en] at O6
        walk_at "ws"
        have h6l := g6.all _ _ h5
        have tl : ts.length = o.length + 1 := by rw [O6.1]; simp
        refine ⟨lt, D, _, _, rfl, rfl, h6l, h6, sz (by rw [List.length_map, List.length_map]; omega), ?_⟩
        walk_at "ws"
        refine ⟨_, rs ++ ts, rfl, (g5.trans g6).mut hlt (fun _ e => nomatch e), by rw [upd_same, List.map_append], ?_⟩
        rw [List.take_add_one, ho, List.flatMap_append]
        have := ((O5.n g6).app (us := insA x o) O6).upd h6l (u := .lst (rs.map V.ref ++ ts.map V.ref))
        simpa using this
    · rintro σ H5 ⟨w4, rs, rfl, g5, h5, O5⟩
      walk_at "ws"
      refine ⟨_, _, _, lt, rs, rfl, g3.trans g5, h5, ?_⟩
      rw [ordN_succ hx]
      rw [List.length_map, List.take_of_length_le (by have := O3.1; omega)] at O5
      exact O5
  · rintro σ H3 ⟨u2, u3, u4, q, ps, rfl, g3, h3, O3⟩
    rw [List.length_map] at O3
    walk_at "ws"
    exact k q ps _ g3 h3 O3

end
end Mine
/-! ## K17 -/


namespace Mine
section
variable {P : Program} {w : World} {K : PySem.W.Frag} {mg : Str → Option Value} {base : Heap} {a : Ads}

/-! ### few orders -/
def upto (n : Nat) : List Int := (List.range n).map fun (i : Nat) => (i : Int)
theorem rg_upto (n : Nat) : rgV 0 (n : Int) = (upto n).map V.int := by
  unfold rgV upto
  rw [List.map_map, Int.sub_zero, Int.toNat_natCast]
  refine List.map_congr_left fun i _ => ?_
  show V.int (0 + ((i : Nat) : Int)) = V.int ((i : Nat) : Int)
  rw [Int.zero_add]
theorem len_upto (n : Nat) : (upto n).length = n := by unfold upto; simp
theorem mem_upto {n : Nat} {x : Int} : x ∈ upto n ↔ 0 ≤ x ∧ x < (n : Int) := by
  unfold upto
  rw [List.mem_map]
  constructor
  · rintro ⟨i, hi, rfl⟩
    have := List.mem_range.mp hi
    omega
  · intro h
    exact ⟨x.toNat, List.mem_range.mpr (by omega), by omega⟩
theorem nd_upto (n : Nat) : (upto n).Nodup := by
  unfold upto
  exact List.pairwise_map.mpr ((List.pairwise_lt_range (n := n)).imp fun h e => by omega)
theorem ords_h {H H' : Hp} {ps : List Addr} {os : List (List Int)} {hd c : Addr} (h : Ords H ps os) (g : G (some (hd, c)) H H') (hh : Hand H hd c) : Ords H' ps os := ⟨h.1, fun i p o e1 e2 => by
  obtain ⟨ob, q1, q2⟩ := h.2 i p o e1 e2
  refine ⟨ob, g.keep p _ (fun q e => ?_) q1, q2⟩
  cases e
  obtain ⟨_, _, _, _, _, _, z, _⟩ := hh
  exact ne_of q1 z (by intro z; cases z)⟩
theorem hand_neR {H : Hp} {hd c q : Addr} {ps : List Addr} (hh : Hand H hd c) (h : H q = some (.lst (ps.map V.ref))) : q ≠ hd := fun e => by
  obtain ⟨_, _, i, b, m, k, z, _⟩ := hh
  rw [← e, h] at z
  match ps with
  | [] => simp at z
  | [x] => simp at z
  | x :: y :: r => simp at z
/-- whole diaries picked: each is an order of all puts -/
theorem few_wh {n : Nat} {ws : List Int} {ds : List (List Int)} (n4 : n ≤ 4) (hw : ws.length = n) (m1 : 1 ≤ ds.length) (m7 : ds.length ≤ 7) (wr : ∀ w ∈ ws, 0 ≤ w ∧ w < ds.length) (hd : ∀ d ∈ ds, d ∈ ords (upto n)) : IsWh ws ds := by
  have pm : ∀ d ∈ ds, d.Perm (upto n) := fun d h => ords_perm (hd d h)
  refine ⟨⟨m1, m7, by omega, wr, fun d h => (pm d h).nodup_iff.mpr (nd_upto n), fun d h p hp => ?_, fun p w d e1 e2 => ?_⟩, fun d h => ?_⟩
  · rw [hw]
    exact mem_upto.mp ((pm d h).mem_iff.mp hp)
  · have := (List.getElem?_eq_some_iff.mp e1).1
    exact (pm d (List.mem_of_getElem? e2)).mem_iff.mpr (mem_upto.mpr (by omega))
  · rw [(pm d h).length_eq, len_upto, hw]
def sp__law_few_orders (K : PySem.W.Frag) : Sp := fun vs H Q _ => ∃ (hd c : Addr), vs = [.ref hd] ∧ Hand H hd c ∧
  ∀ (p vp dp : Addr) (ws : List Int) (ds : List (List Int)) H', G (some (hd, c)) H H' → Hand H' hd c → H' p = some (.tup [.ref vp, .ref dp]) → SqT K H' vp (ws.map V.int) → Dia K H' dp ds → IsWh ws ds → Q (.ref p) H'
theorem ok__law_few_orders (T : Txt K mg a) : FnOk P w K mg base CX0 2 a.f__law_few_orders a.d__law_few_orders P__law_few_orders (sp__law_few_orders K) := by
  refine T.F__law_few_orders.ok sc__law_few_orders (fun vs H Q E h => by obtain ⟨hd, c, rfl, _⟩ := h; rfl) (fun cdv A outer s H vs Q E hr h => ?_)
  obtain ⟨hd, c, rfl, hh, k⟩ := h
  have G__law_draw : FnOk P w K mg base CX0 1 a.f__law_draw a.d__law_draw P__law_draw sp__law_draw := ok__law_draw T
  have G__law_orders : FnOk P w K mg base CX0 1 a.f__law_orders a.d__law_orders P__law_orders (sp__law_orders K) := ok__law_orders T
  refine ⟨_, (pss_cons (ps_set (i := 1) sc__law_few_orders.nd rfl (Or.inl rfl) (pe_op op_add pe_int (pe_call (G__law_draw) (hr.mono (by omega)) rfl T.m__law_draw T.F__law_draw.kp T.b__law_draw .nil pass0 (pa_cons (pv 0) (pa_cons pe_int pa_nil)))))
  (pss_cons (ps_set (i := 2) sc__law_few_orders.nd rfl (Or.inl rfl) (pe_op op_add pe_int (pe_call (G__law_draw) (hr.mono (by omega)) rfl T.m__law_draw T.F__law_draw.kp T.b__law_draw .nil pass0 (pa_cons (pv 0) (pa_cons pe_int pa_nil)))))
  (pss_cons (ps_set (i := 3) sc__law_few_orders.nd rfl (Or.inr rfl) (pe_call (G__law_orders) (hr.mono (by omega)) rfl T.m__law_orders T.F__law_orders.kp T.b__law_orders .nil pass0 (pa_cons (pe_listRgN rfl (by rfl) T.n_list (prg_1 (by rfl) T.n_range (pv 1)) (mo_rg1 mo_var)) pa_nil)))
  (pss_cons (ps_set (i := 3) sc__law_few_orders.nd rfl (Or.inr rfl) (pe_lc (own := [("_law_turn", 8)]) (g := (gName 8)) (tt := tYes) rfl sc__law_few_orders.nd (pi_range1 rfl T.n_range (pa_cons (pe_op op_add pe_int (pe_call (G__law_draw) (hr.mono (by omega)) rfl T.m__law_draw T.F__law_draw.kp T.b__law_draw .nil pass0 (pa_cons (pv 0) (pa_cons pe_int pa_nil)))) pa_nil)) (blkOk_by (N := N__law_few_orders) (sc := defScope s__law_few_orders) (by decide +kernel)) (fun _ _ _ _ _ => (pg_name (i := 8) sc__law_few_orders.nd rfl (by first | exact Or.inl rfl | exact Or.inr rfl))) (fun _ _ _ _ _ => pts_nil) (fun _ _ _ _ _ => (pe_ix (k_ix_list K) (pv 3) (pe_call (G__law_draw) (hr.mono (by omega)) rfl T.m__law_draw T.F__law_draw.kp T.b__law_draw .nil pass0 (pa_cons (pv 0) (pa_cons (pe_callB (k_call_len_seq K) (by rfl) T.n_len (by decide +kernel) (pa_cons (pv 3) pa_nil)) pa_nil))) (fun _ _ => rfl)))))
  (pss_cons (ps_set (i := 4) sc__law_few_orders.nd rfl (Or.inr rfl) (pe_callTy call_tupleN (by rfl) T.n_tuple (by decide +kernel) (pa_cons (pe_lc (own := [("_law_machine", 9)]) (g := (gName 9)) (tt := tYes) rfl sc__law_few_orders.nd (pi_range1 rfl T.n_range (pa_cons (pv 2) pa_nil)) (blkOk_by (N := N__law_few_orders) (sc := defScope s__law_few_orders) (by decide +kernel)) (fun _ _ _ _ _ => (pg_name (i := 9) sc__law_few_orders.nd rfl (by first | exact Or.inl rfl | exact Or.inr rfl))) (fun _ _ _ _ _ => pts_nil) (fun _ _ _ _ _ => (pe_ix (k_ix_list K) (pv 3) (pe_call (G__law_draw) (hr.mono (by omega)) rfl T.m__law_draw T.F__law_draw.kp T.b__law_draw .nil pass0 (pa_cons (pv 0) (pa_cons (pe_callB (k_call_len_seq K) (by rfl) T.n_len (by decide +kernel) (pa_cons (pv 3) pa_nil)) pa_nil))) (fun _ _ => rfl)))) pa_nil)))
  (pss_cons (ps_set (i := 5) sc__law_few_orders.nd rfl (Or.inl rfl) (pe_lstN pa_nil))
  (pss_cons (ps_for PassesOwn.never rfl (pi_range1 rfl T.n_range (pa_cons (pv 1) pa_nil)) (pg_name (i := 6) sc__law_few_orders.nd rfl (Or.inr rfl))
    (pss_cons (ps_set (i := 7) sc__law_few_orders.nd rfl (Or.inl rfl) (pe_callB cr_sortPN (by rfl) T.n_sorted (by decide +kernel) (pa_cons (pe_lc (own := [("_law_x", 10)]) (g := (gName 10)) (tt := tYes) rfl sc__law_few_orders.nd (pi_range1 rfl T.n_range (pa_cons (pv 2) pa_nil)) (blkOk_by (N := N__law_few_orders) (sc := defScope s__law_few_orders) (by decide +kernel)) (fun _ _ _ _ _ => (pg_name (i := 10) sc__law_few_orders.nd rfl (by first | exact Or.inl rfl | exact Or.inr rfl))) (fun _ _ _ _ _ => pts_nil) (fun _ _ _ _ _ => (pe_tupN (pa_cons (pe_bmT PySem.F.plainAttrs_tuple PySem.F.slot_tuple_index PySem.F.type_tuple_index (k_mt_indexTI K) (pe_ix (k_ix_tup K) (pv 4) (pv 10) (fun _ _ => rfl)) (pa_cons (pv 6) pa_nil)) (pa_cons (pv 10) pa_nil))))) pa_nil)))
  (pss_one (ps_expr (pe_bm PySem.F.plainAttrs_list PySem.F.slot_list_append PySem.F.type_list_append mt_append (pv 5) (pa_cons (pe_ix ix_tup (pe_ix ix_list (pv 7) pe_int (fun _ _ => rfl)) pe_int (fun _ _ => rfl)) pa_nil))))))
  (pss_one (ps_ret (pe_tupN (pa_cons (pe_callTy call_tupleN (by rfl) T.n_tuple (by decide +kernel) (pa_cons (pv 5) pa_nil)) (pa_cons (pv 4) pa_nil)))))))))))), ?_⟩
  walk_at "ws"
  refine ⟨hd, c, 3, rfl, hh, by omega, by omega, fun a1 H1 a10 a11 g1 hh1 => ?_⟩
  walk_at "ws"
  refine ⟨hd, c, 5, rfl, hh1, by omega, by omega, fun a2 H2 a20 a21 g2 hh2 => ?_⟩
  walk_at "ws"
  obtain ⟨n, en⟩ : ∃ n : Nat, (2 + a1) = ((n : Nat) : Int) := ⟨(2 + a1).toNat, by omega⟩
  obtain ⟨M, eM⟩ : ∃ n : Nat, (3 + a2) = ((n : Nat) : Int) := ⟨(3 + a2).toNat, by omega⟩
  rw [en, eM]
  refine w_lstRg (w_rg1 ?_)
  walk_at "ws"
  refine ⟨RgOk.of_le (by decide) (by omega) (by decide) (by omega), fun L H3 hL g3 h3 => ?_⟩
  rw [rg_upto] at h3
  walk_at "ws"
  refine ⟨L, upto n, rfl, SqL.of h3, by rw [len_upto]; omega, fun q ps H4 g4 h4 O4 => ?_⟩
  have g04 : G (some (hd, c)) H H4 := g1.trans (g2.trans ((g3 _).trans g4.up))
  have hh4 := g04.hand _ rfl hh
  have pl : ps.length = fac n := by
    have := O4.1
    rw [this]
    unfold ords
    rw [ordN_len _ (Nat.le_refl _), len_upto]
  have p0 := fac_pos n
  have p7 := fac_le (show n ≤ 6 by omega)
  walk_at "ws"
  refine ⟨hd, c, 3, rfl, hh4, by omega, by omega, fun a3 H5 a30 a31 g5 hh5 => ?_⟩
  walk_at "ws"
  obtain ⟨m, em⟩ : ∃ n : Nat, (2 + a3) = ((n : Nat) : Int) := ⟨(2 + a3).toNat, by omega⟩
  rw [em]
  refine i_rng1 (by omega) (by omega) ?_
  rw [Int.toNat_natCast]
  intro D hD
  have h5 := g5.keep q _ (fun p e => by cases e; exact hand_neR hh4 h4) h4
  have O5 := ords_h O4 g5 hh4
  have hD5 : ∀ p, some (hd, c) = some p → D ≠ p.1 := fun p e => by cases e; exact hh5.ne hD
  have hq5 : ∀ p, some (hd, c) = some p → q ≠ p.1 := fun p e => by cases e; exact hand_neR hh5 h5
  refine lc_it walk_range (fun i H' => ∃ (ts : List Addr) (us : List (List Int)), G (some (hd, c)) H5 H' ∧ H' D = some (.lst (ts.map V.ref)) ∧ Ords H' ts us ∧ ts.length = i ∧ ∀ u ∈ us, u ∈ ords (upto n)) ⟨[], [], (G.refl).mut hD (fun p e => by cases e; exact hh5), upd_same, Ords.nil, rfl, fun _ h => nomatch h⟩ (fun _ _ _ _ => trivial) ?_ ?_
  · rintro i _ _ H6 hi ⟨ts, us, g6, h6, O6, tl, ou⟩ ⟨rfl, rfl⟩
    have hh6 := g6.hand _ rfl hh5
    have h6q := g6.keep q _ hq5 h5
    walk_at "ws"
    refine ⟨rfl, ?_⟩
    walk_at "ws"
    refine ⟨q, _, rfl, .inl (SqL.of h6q), ?_⟩
    walk_at "ws"
    rw [List.length_map]
    refine ⟨hd, c, (ps.length : Int), rfl, hh6, by omega, by omega, fun r H7 r0 r1 g7 hh7 => ?_⟩
    walk_at "ws"
    have rl : r.toNat < ps.length := by omega
    have h7q := g7.keep q _ hq5 h6q
    have h7D := g7.keep D _ hD5 h6
    refine ⟨q, _, r, .ref ps[r.toNat], rfl, rfl, SqL.of h7q, at_of (j := r.toNat) (by omega) (by rw [List.getElem?_map, List.getElem?_eq_getElem rl]; rfl), ?_⟩
    have ol := O4.1
    obtain ⟨o, ho⟩ : ∃ o, (ords (upto n))[r.toNat]? = some o := ⟨_, List.getElem?_eq_getElem (by omega)⟩
    refine ⟨ts.map V.ref, h7D, Nat.lt_of_le_of_lt (by rw [List.length_map]; omega : (ts.map V.ref).length ≤ 100000) (by decide), ts ++ [ps[r.toNat]], us ++ [o], (g6.trans g7).mut hD (fun p e => by cases e; exact hh5), by rw [upd_same, List.map_append]; rfl, ?_, by rw [List.length_append, tl]; rfl, fun u hu => ?_⟩
    · refine ((ords_h O6 g7 hh6).app (Ords.one ?_)).upd h7D
      exact (ords_h (ords_h O5 g6 hh5) g7 hh6).2 _ _ _ (List.getElem?_eq_getElem rl) ho
    · rcases List.mem_append.mp hu with z | z
      · exact ou u z
      · have e : u = o := by simpa using z
        rw [e]
        exact List.mem_of_getElem? ho
  rintro H6 ⟨ts, us, g6, h6, O6, tl, ou⟩
  have hh6 := g6.hand _ rfl hh5
  walk_at "ws"
  refine i_rng1 (by omega) (by omega) ?_
  rw [Int.toNat_natCast]
  intro D2 hD2
  have hD6 : ∀ p, some (hd, c) = some p → D ≠ p.1 := fun p e => by cases e; exact hand_neR hh6 h6
  have hE6 : ∀ p, some (hd, c) = some p → D2 ≠ p.1 := fun p e => by cases e; exact hh6.ne hD2
  refine lc_it walk_range (fun i H' => ∃ (bs : List Addr) (ds : List (List Int)), G (some (hd, c)) H6 H' ∧ H' D2 = some (.lst (bs.map V.ref)) ∧ Ords H' bs ds ∧ bs.length = i ∧ ∀ u ∈ ds, u ∈ ords (upto n)) ⟨[], [], (G.refl).mut hD2 (fun p e => by cases e; exact hh6), upd_same, Ords.nil, rfl, fun _ h => nomatch h⟩ (fun _ _ _ _ => trivial) ?_ ?_
  · rintro i _ _ H7 hi ⟨bs, ds, g7, h7, O7, bl, od⟩ ⟨rfl, rfl⟩
    have hh7 := g7.hand _ rfl hh6
    have h7q := g7.keep D _ hD6 h6
    walk_at "ws"
    refine ⟨rfl, ?_⟩
    walk_at "ws"
    refine ⟨D, _, rfl, .inl (SqL.of h7q), ?_⟩
    walk_at "ws"
    rw [List.length_map]
    refine ⟨hd, c, (ts.length : Int), rfl, hh7, by omega, by omega, fun r H8 r0 r1 g8 hh8 => ?_⟩
    walk_at "ws"
    have rl : r.toNat < ts.length := by omega
    have h8q := g8.keep D _ hD6 h7q
    have h8D := g8.keep D2 _ hE6 h7
    refine ⟨D, _, r, .ref ts[r.toNat], rfl, rfl, SqL.of h8q, at_of (j := r.toNat) (by omega) (by rw [List.getElem?_map, List.getElem?_eq_getElem rl]; rfl), ?_⟩
    have ol := O6.1
    obtain ⟨o, ho⟩ : ∃ o, us[r.toNat]? = some o := ⟨_, List.getElem?_eq_getElem (by omega)⟩
    refine ⟨bs.map V.ref, h8D, Nat.lt_of_le_of_lt (by rw [List.length_map]; omega : (bs.map V.ref).length ≤ 100000) (by decide), bs ++ [ts[r.toNat]], ds ++ [o], (g7.trans g8).mut hD2 (fun p e => by cases e; exact hh6), by rw [upd_same, List.map_append]; rfl, ?_, by rw [List.length_append, bl]; rfl, fun u hu => ?_⟩
    · refine ((ords_h O7 g8 hh7).app (Ords.one ?_)).upd h8D
      exact (ords_h (ords_h O6 g7 hh6) g8 hh7).2 _ _ _ (List.getElem?_eq_getElem rl) ho
    · rcases List.mem_append.mp hu with z | z
      · exact od u z
      · have e : u = o := by simpa using z
        rw [e]
        exact ou o (List.mem_of_getElem? ho)
  rintro H7 ⟨bs, ds, g7, h7, O7, bl, od⟩
  have dl : ds.length = M := by have := O7.1; omega
  walk_at "ws"
  refine ⟨D2, _, rfl, .inl ⟨SqL.of h7, fun t H8 ht g8 h8 => ?_⟩⟩
  have dia8 : Dia K H8 t ds := ⟨bs, SqT.of h8, O7.1, (O7.n (g8 none)).2⟩
  have g08 : G (some (hd, c)) H H8 := g04.trans (g5.trans (g6.trans (g7.trans (g8 _))))
  have hh8 := g08.hand _ rfl hh
  have pmd : ∀ d ∈ ds, d.Perm (upto n) := fun d h => ords_perm (od d h)
  clear g7 g6 O7 O6 O5 O4 h7 h6 h5 h4 g8 h8 hD6 hE6 hD5 hq5
  walk_at "ws"
  refine ⟨sz (by simp), fun W H9 hW g9 h9 => ?_⟩
  walk_at "ws"
  refine i_rng1 (by omega) (by omega) ?_
  rw [Int.toNat_natCast]
  refine for_it walk_range (fun i σ H' => ∃ u6 u7 ws, σ = [some (.ref hd), some (.int (n : Nat)), some (.int (M : Nat)), some (.ref D), some (.ref t), some (.ref W), u6, u7, none, none, none] ∧ G none H8 H' ∧ H' W = some (.lst ((ws : List Int).map V.int)) ∧ ws.length = i ∧ ∀ w ∈ ws, 0 ≤ w ∧ w < (M : Int)) ⟨_, _, [], rfl, g9 none, h9, rfl, fun _ h => nomatch h⟩ (fun _ _ _ _ _ => trivial) ?_ ?_
  · rintro i v σ _ HA hi ⟨u6, u7, ws, rfl, gA, hA, wl, wr⟩ ⟨rfl, rfl⟩
    rw [show (fun i : Nat => V.int (0 + (i : Nat))) i = V.int ((i : Nat) : Int) from congrArg V.int (Int.zero_add _)]
    obtain ⟨bs', hbs, lb, hb⟩ := dia8.n gA
    walk_at "ws"
    refine i_rng1 (by omega) (by omega) ?_
    rw [Int.toNat_natCast]
    intro R hR
    refine lc_pure (K := K) (o := none) walk_range (by omega) hR (fun _ e => nomatch e) (fun i' => ds[i']?.map fun d => dP (((d.idxOf ((i : Nat) : Int) : Nat) : Int), ((i' : Nat) : Int))) (fun H' g => trivial) ?_ ?_
    · rintro i' y _ HB hi' gB ⟨rfl, rfl⟩ Qy Qn ky kn
      rw [show (fun i : Nat => V.int (0 + (i : Nat))) i' = V.int ((i' : Nat) : Int) from congrArg V.int (Int.zero_add _)]
      obtain ⟨b, hb1⟩ : ∃ b, bs'[i']? = some b := ⟨_, List.getElem?_eq_getElem (by omega)⟩
      obtain ⟨d, hd1⟩ : ∃ d, ds[i']? = some d := ⟨_, List.getElem?_eq_getElem (by omega)⟩
      have dm := List.mem_of_getElem? hd1
      have mi : ((i : Nat) : Int) ∈ d := (pmd d dm).mem_iff.mpr (mem_upto.mpr (by omega))
      have hf := (hb i' b d hb1 hd1).n gB
      walk_at "ws"
      refine ⟨rfl, ?_⟩
      walk_at "ws"
      refine w_bmt ?_
      walk_at "ws"
      refine ⟨t, _, _, .ref b, rfl, rfl, sqT_t gB.tups hbs, at_of (j := i') (by omega) (by rw [List.getElem?_map, hb1]; rfl), ?_⟩
      refine ⟨⟨b, _, rfl, hf⟩, ?_⟩
      walk_at "ws"
      refine ⟨b, d, ((i : Nat) : Int), d.idxOf ((i : Nat) : Int), rfl, rfl, hf.sq, idx_at mi, fun j hj e => ?_, ?_⟩
      · have := idx_of ((pmd d dm).nodup_iff.mpr (nd_upto n)) e
        omega
      walk_at "ws"
      refine ⟨sz (by simp), fun u HC hu gC hC => ?_⟩
      exact ky _ _ _ (gC none) (.tup (SqT.of hC) (.cons (.int _) (.cons (.int _) .nil))) rfl (by rw [hd1]; rfl)
    · intro xs' HB gB hDB hds _
      have e1 : (List.range M).filterMap (fun i' => ds[i']?.map fun d => dP (((d.idxOf ((i : Nat) : Int) : Nat) : Int), ((i' : Nat) : Int))) = ((List.range M).filterMap fun i' => ds[i']?.map fun d => ((((d.idxOf ((i : Nat) : Int) : Nat) : Int), ((i' : Nat) : Int)) : Int × Int)).map dP := by
        rw [List.map_filterMap]
        congr 1
        funext i'
        rw [Option.map_map]
        rfl
      rw [e1] at hds
      have um : ∀ u : Int × Int, (u ∈ (List.range M).filterMap fun i' => ds[i']?.map fun d => ((((d.idxOf ((i : Nat) : Int) : Nat) : Int), ((i' : Nat) : Int)) : Int × Int)) → in64 u ∧ u.2 < (M : Int) := fun u hu => by
        obtain ⟨x, hx, e⟩ := List.mem_filterMap.mp hu
        obtain ⟨d, hd1, rfl⟩ := Option.map_eq_some_iff.mp e
        have xl := List.mem_range.mp hx
        have dm := List.mem_of_getElem? hd1
        have mi : ((i : Nat) : Int) ∈ d := (pmd d dm).mem_iff.mpr (mem_upto.mpr (by omega))
        have dlen := (pmd d dm).length_eq
        rw [len_upto] at dlen
        have := List.idxOf_lt_length_iff.mpr mi
        refine ⟨⟨⟨?_, ?_⟩, ?_, ?_⟩, ?_⟩ <;> simp only <;> omega
      generalize eus : ((List.range M).filterMap fun i' => ds[i']?.map fun d => ((((d.idxOf ((i : Nat) : Int) : Nat) : Int), ((i' : Nat) : Int)) : Int × Int)) = us at hds um
      have ul : us.length ≤ M := by
        rw [← eus]
        exact Nat.le_trans (List.length_filterMap_le _ _) (by rw [List.length_range]; exact Nat.le_refl _)
      have u0 : us ≠ [] := fun e => by
        have hx : ((((ds[0]'(by omega)).idxOf ((i : Nat) : Int) : Nat) : Int), ((0 : Nat) : Int)) ∈ us := by
          rw [← eus]
          refine List.mem_filterMap.mpr ⟨0, List.mem_range.mpr (by omega), ?_⟩
          rw [List.getElem?_eq_getElem (by omega)]
          rfl
        rw [e] at hx
        cases hx
      walk_at "ws"
      refine ⟨R, xs', us, rfl, SqL.of hDB, hds, by omega, fun u hu => (um u hu).1, fun us' pm pw p HC ys hp gC hC dC => ?_⟩
      match us', pm, dC with
      | [], pm, _ => exact absurd pm.symm.eq_nil u0
      | v0 :: us', pm, dC =>
        match ys, hC, dC with
        | y :: ys, hC, .cons dy dr =>
          obtain ⟨b0, rfl, hb0⟩ := dp_dP dy
          have v0u := (um v0 (pm.mem_iff.mp (List.mem_cons_self ..)))
          have hCW := (gB.trans (gC none)).all _ _ hA
          walk_at "ws"
          refine i_BM hCW ?_
          walk_at "ws"
          refine ⟨p, _, 0, .ref b0, rfl, rfl, SqL.of hC, at_of (j := 0) (by omega) rfl, ?_⟩
          walk_at "ws"
          refine ⟨b0, _, 1, .int v0.2, rfl, rfl, hb0, at_of (j := 1) (by omega) rfl, ?_⟩
          walk_at "ws"
          refine r_app hCW (by rw [List.length_map]; omega) ?_
          walk_at "ws"
          refine ⟨_, _, ws ++ [v0.2], rfl, (gA.trans (gB.trans (gC none))).mut hW (fun _ e => nomatch e), by rw [upd_same, List.map_append]; rfl, by rw [List.length_append, wl]; rfl, fun w hw => ?_⟩
          rcases List.mem_append.mp hw with z | z
          · exact wr w z
          · have e : w = v0.2 := by simpa using z
            rw [e]
            exact ⟨v0u.1.2.1, v0u.2⟩
  · rintro σ HA ⟨u6, u7, ws, rfl, gA, hA, wl, wr⟩
    walk_at "ws"
    refine ⟨W, _, rfl, .inl ⟨SqL.of hA, fun vp HB hvp gB hB => ?_⟩⟩
    walk_at "ws"
    refine ⟨sz (by simp), fun p HC hp gC hC => ?_⟩
    have g8C : G none H8 HC := gA.trans ((gB none).trans (gC none))
    exact k p vp t ws ds _ (g08.trans g8C.up) (g8C.up.hand _ rfl hh8) hC (SqT.of ((gC none).all _ _ hB)) (dia8.n g8C) (few_wh (n := n) (by omega) wl (by omega) (by omega) (fun w hw => by rw [dl]; exact wr w hw) od)

end
end Mine
/-! ## K18 -/


namespace Mine
section
variable {P : Program} {w : World} {K : PySem.W.Frag} {mg : Str → Option Value} {base : Heap} {a : Ads}

/-! ### floors -/
def TupAll (H : Hp) (bs : List Addr) (ws : List (Int × Int)) : Prop := bs.length = ws.length ∧ ∀ (i : Nat) (b : Addr) (u : Int × Int), bs[i]? = some b → ws[i]? = some u → H b = some (.tup [.int u.1, .int u.2])
theorem TupAll.g {H H' : Hp} {bs : List Addr} {ws : List (Int × Int)} {o : Option (Addr × Addr)} (h : TupAll H bs ws) (g : G o H H') (hh : ∀ q, o = some q → Hand H q.1 q.2) : TupAll H' bs ws := ⟨h.1, fun i b u e1 e2 => by
  have q1 := h.2 i b u e1 e2
  refine g.keep b _ (fun q e => ?_) q1
  obtain ⟨_, _, _, _, _, _, z, _⟩ := hh q e
  exact ne_of q1 z (by intro z; cases z)⟩
theorem k_tupleF {X : Cx} (K : PySem.W.Frag) (hK : X.K = K := by rfl) : CallR X (.type "tuple") (rTupleF K) := by subst hK; exact call_tupleF
/-- the dict of letters: from a wire to the list of the letters on it -/
def keyOfP (u : Int × Int) : List L2.Key := [.inl u.1, .inl u.2]
def dtOf : List (Int × Int) → List Addr → List (List L2.Key × V)
  | u :: W, l :: ls => (keyOfP u, V.ref l) :: dtOf W ls
  | _, _ => []
theorem keyOfP_inj {u v : Int × Int} (e : keyOfP u = keyOfP v) : u = v := by
  unfold keyOfP at e
  simp only [List.cons.injEq, Sum.inl.injEq, and_true] at e
  exact Prod.ext e.1 e.2
theorem valT : ∀ {W : List (Int × Int)} {ls : List Addr} {i : Nat} {u : Int × Int} {l : Addr}, W.Nodup → W[i]? = some u → ls[i]? = some l → valV (dtOf W ls) (keyOfP u) = some (.ref l)
  | [], _, _, _, _, _, e, _ => by simp at e
  | _ :: _, [], _, _, _, _, _, e => by simp at e
  | v :: W, m :: ls, 0, u, l, _, e1, e2 => by
    simp only [List.getElem?_cons_zero, Option.some.injEq] at e1 e2
    subst e1 e2
    exact valV_pos rfl
  | v :: W, m :: ls, i + 1, u, l, nd, e1, e2 => by
    simp only [List.getElem?_cons_succ] at e1 e2
    have n := List.nodup_cons.mp nd
    refine (valV_neg (p := (keyOfP v, V.ref m)) fun z => ?_).trans (valT n.2 e1 e2)
    exact n.1 (keyOfP_inj z ▸ List.mem_of_getElem? e1)
/-- the pairs of which the dict is made -/
def mkL : List (Int × Int) → List Addr → List Addr → List Addr → List DPair
  | u :: W, b :: bs, t :: ts, l :: ls => ⟨t, keyOfP u, b, .ref l⟩ :: mkL W bs ts ls
  | _, _, _, _ => []
theorem mkL_at : ∀ {W : List (Int × Int)} {bs ts ls : List Addr}, bs.length = W.length → ts.length = W.length → ls.length = W.length → (mkL W bs ts ls).map (fun q => V.ref q.at_) = ts.map V.ref
  | [], [], [], [], _, _, _ => rfl
  | u :: W, b :: bs, t :: ts, l :: ls, h1, h2, h3 => by
    simp only [mkL, List.map_cons]
    rw [mkL_at (by simpa using h1) (by simpa using h2) (by simpa using h3)]
theorem mkL_dt : ∀ {W : List (Int × Int)} {bs ts ls : List Addr}, bs.length = W.length → ts.length = W.length → ls.length = W.length → (mkL W bs ts ls).map (fun q => (q.key, q.val)) = dtOf W ls
  | [], [], [], [], _, _, _ => rfl
  | u :: W, b :: bs, t :: ts, l :: ls, h1, h2, h3 => by
    simp only [mkL, dtOf, List.map_cons]
    rw [mkL_dt (by simpa using h1) (by simpa using h2) (by simpa using h3)]
theorem mkL_key : ∀ {W : List (Int × Int)} {bs ts ls : List Addr}, bs.length = W.length → ts.length = W.length → ls.length = W.length → (mkL W bs ts ls).map (fun q => q.key) = W.map keyOfP
  | [], [], [], [], _, _, _ => rfl
  | u :: W, b :: bs, t :: ts, l :: ls, h1, h2, h3 => by
    simp only [mkL, List.map_cons]
    rw [mkL_key (by simpa using h1) (by simpa using h2) (by simpa using h3)]
theorem mkL_mem : ∀ {W : List (Int × Int)} {bs ts ls : List Addr} {q : DPair}, q ∈ mkL W bs ts ls → ∃ (j : Nat) (u : Int × Int) (b t l : Addr), W[j]? = some u ∧ bs[j]? = some b ∧ ts[j]? = some t ∧ ls[j]? = some l ∧ q = ⟨t, keyOfP u, b, .ref l⟩
  | u :: W, b :: bs, t :: ts, l :: ls, q, h => by
    simp only [mkL, List.mem_cons] at h
    rcases h with rfl | h
    · exact ⟨0, u, b, t, l, rfl, rfl, rfl, rfl, rfl⟩
    · obtain ⟨j, u', b', t', l', h1, h2, h3, h4, h5⟩ := mkL_mem h
      exact ⟨j + 1, u', b', t', l', h1, h2, h3, h4, h5⟩
  | [], _, _, _, _, h => by simp [mkL] at h
  | _ :: _, [], _, _, _, h => by simp [mkL] at h
  | _ :: _, _ :: _, [], _, _, h => by simp [mkL] at h
  | _ :: _, _ :: _, _ :: _, [], _, h => by simp [mkL] at h
/-- lists of ints at these places -/
def Lists (H : Hp) (as : List Addr) (ns : List (List Int)) : Prop := as.length = ns.length ∧ ∀ (i : Nat) (a : Addr) (l : List Int), as[i]? = some a → ns[i]? = some l → H a = some (.lst (l.map V.int))
theorem Lists.mono {H H' : Hp} {as : List Addr} {ns : List (List Int)} (h : Lists H as ns) (k : ∀ a ∈ as, ∀ u, H a = some u → H' a = some u) : Lists H' as ns := ⟨h.1, fun i a l e1 e2 => k a (List.mem_of_getElem? e1) _ (h.2 i a l e1 e2)⟩
theorem Lists.set {H : Hp} {as : List Addr} {ns : List (List Int)} (h : Lists H as ns) (nd : as.Nodup) {x : Nat} {a : Addr} (ha : as[x]? = some a) (m : List Int) : Lists (upd H a (.lst (m.map V.int))) as (ns.set x m) := by
  refine ⟨by rw [List.length_set]; exact h.1, fun i b l e1 e2 => ?_⟩
  by_cases c : i = x
  · subst c
    rw [ha] at e1
    cases e1
    rw [List.getElem?_set_self (by rw [← h.1]; exact (List.getElem?_eq_some_iff.mp ha).1)] at e2
    cases e2
    exact upd_same
  · rw [List.getElem?_set_ne (fun z => c z.symm)] at e2
    have ne : b ≠ a := fun z => by
      subst z
      exact c (nd_ix nd e1 ha)
    rw [upd_ne ne]
    exact h.2 i b l e1 e2
theorem ne_mem {a b : Addr} {l : List Addr} (h : a ∉ l) (m : b ∈ l) : b ≠ a := fun e => h (e ▸ m)
theorem not_in {H : Hp} {l : Addr} {as : List Addr} {u : HO} (h : H l = none) (k : ∀ x ∈ as, H x = some u) : l ∉ as := fun m => by rw [k l m] at h; cases h
theorem nodup_snoc {α : Type} {l : List α} {a : α} (h : l.Nodup) (n : a ∉ l) : (l ++ [a]).Nodup := List.nodup_append.mpr ⟨h, by simp, fun x hx y hy e => by
  have ey : y = a := by simpa using hy
  subst ey; subst e
  exact n hx⟩
/-- where the lists of a floor are -/
structure FlA where
  fl : Addr
  dl : Addr
  ld : Addr
  rs : List Addr
  ls : List Addr
structure FlN (H : Hp) (A : FlA) : Prop where
  fl : H A.fl = none
  dl : H A.dl = none
  ld : H A.ld = none
  rs : ∀ l ∈ A.rs, H l = none
  ls : ∀ l ∈ A.ls, H l = none
  n1 : A.fl ≠ A.dl
  n2 : A.fl ≠ A.ld
  n3 : A.fl ∉ A.rs
  n4 : A.fl ∉ A.ls
  n5 : A.dl ≠ A.ld
  n6 : A.dl ∉ A.rs
  n7 : A.dl ∉ A.ls
  n8 : A.ld ∉ A.rs
  n9 : A.ld ∉ A.ls
  n10 : A.rs.Nodup
  n11 : A.ls.Nodup
  n12 : ∀ l ∈ A.rs, l ∉ A.ls
/-- a dict, perhaps locked -/
def LdAt (H : Hp) (d : Addr) (kvs : List (List L2.Key × V)) : Prop := H d = some (.dT kvs) ∨ ∃ o, H d = some (.frz o (.dT kvs))
theorem LdAt.mono {H H' : Hp} {d : Addr} {kvs : List (List L2.Key × V)} (h : LdAt H d kvs) (k : ∀ u, H d = some u → H' d = some u) : LdAt H' d kvs := by
  rcases h with h | ⟨o, h⟩
  · exact .inl (k _ h)
  · exact .inr ⟨o, k _ h⟩
structure FlS (W : List (Int × Int)) (A : FlA) (H : Hp) (ds lt : List (List Int)) : Prop where
  fl : H A.fl = some (.lst [.ref A.dl, .ref A.ld])
  dl : H A.dl = some (.lst (A.rs.map V.ref))
  ld : LdAt H A.ld (dtOf W A.ls)
  rs : Lists H A.rs ds
  ls : Lists H A.ls lt
section
variable {W : List (Int × Int)} {A : FlA} {H H1 H2 : Hp} {ds lt : List (List Int)} {hd c : Addr}
theorem FlS.g (r : FlS W A H1 ds lt) (N : FlN H A) (hh : Hand H hd c) (g : G (some (hd, c)) H1 H2) : FlS W A H2 ds lt := by
  have off : ∀ a, H a = none → ∀ u, H1 a = some u → H2 a = some u := fun a n u e => g.keep a u (off_new hh n) e
  exact ⟨off _ N.fl _ r.fl, off _ N.dl _ r.dl, r.ld.mono (off _ N.ld), r.rs.mono fun a m => off a (N.rs a m), r.ls.mono fun a m => off a (N.ls a m)⟩
theorem FlS.n (r : FlS W A H1 ds lt) (g : G none H1 H2) : FlS W A H2 ds lt :=
  ⟨g.all _ _ r.fl, g.all _ _ r.dl, r.ld.mono fun u => g.all _ u, r.rs.mono fun a _ u => g.all a u, r.ls.mono fun a _ u => g.all a u⟩
theorem FlS.dia' (r : FlS W A H1 ds lt) (N : FlN H A) {x : Nat} {l : Addr} (hl : A.rs[x]? = some l) (d : List Int) : FlS W A (upd H1 l (.lst (d.map V.int))) (ds.set x d) lt := by
  have m := List.mem_of_getElem? hl
  exact ⟨by rw [upd_ne (ne_mem N.n3 m).symm]; exact r.fl, by rw [upd_ne (ne_mem N.n6 m).symm]; exact r.dl, r.ld.mono fun u e => by rw [upd_ne (ne_mem N.n8 m).symm]; exact e, r.rs.set N.n10 hl d, r.ls.mono fun a ma u e => by rw [upd_ne (fun (z : a = l) => N.n12 l m (z ▸ ma))]; exact e⟩
theorem FlS.let' (r : FlS W A H1 ds lt) (N : FlN H A) {j : Nat} {l : Addr} (hl : A.ls[j]? = some l) (d : List Int) : FlS W A (upd H1 l (.lst (d.map V.int))) ds (lt.set j d) := by
  have m := List.mem_of_getElem? hl
  exact ⟨by rw [upd_ne (ne_mem N.n4 m).symm]; exact r.fl, by rw [upd_ne (ne_mem N.n7 m).symm]; exact r.dl, r.ld.mono fun u e => by rw [upd_ne (ne_mem N.n9 m).symm]; exact e, r.rs.mono fun a ma u e => by rw [upd_ne (fun (z : a = l) => N.n12 a ma (z ▸ m))]; exact e, r.ls.set N.n11 hl d⟩
end
def sp__law_floor (K : PySem.W.Frag) : Sp := fun vs H Q _ => ∃ (n : Nat) (wl : Addr) (bs : List Addr) (W : List (Int × Int)), vs = [.int (n : Nat), .ref wl] ∧ n ≤ 100 ∧ SqL K H wl (bs.map V.ref) ∧ TupAll H bs W ∧ W.Nodup ∧ W.length ≤ 49 ∧
  ∀ (A : FlA) H', G none H H' → FlN H A → FlS W A H' (List.replicate n []) (List.replicate W.length []) → A.rs.length = n → A.ls.length = W.length → Q (.ref A.fl) H'
theorem ok__law_floor (T : Txt K mg a) : FnOk P w K mg base CX0 1 a.f__law_floor a.d__law_floor P__law_floor (sp__law_floor K) := by
  refine T.F__law_floor.ok sc__law_floor (fun vs H Q E h => by obtain ⟨n, wl, bs, W, rfl, _⟩ := h; rfl) (fun cdv A outer s H vs Q E hr h => ?_)
  obtain ⟨n, wl, bs, W, rfl, n100, hwa, tup, ndW, l49, k⟩ := h
  have lb := tup.1
  refine ⟨_, (pss_one (ps_ret (pe_lstN (pa_cons (pe_lc (own := [("_law_machine", 2)]) (g := (gName 2)) (tt := tYes) rfl sc__law_floor.nd (pi_range1 rfl T.n_range (pa_cons (pv 0) pa_nil)) (blkOk_by (N := N__law_floor) (sc := defScope s__law_floor) (by decide +kernel)) (fun _ _ _ _ _ => (pg_name (i := 2) sc__law_floor.nd rfl (by first | exact Or.inl rfl | exact Or.inr rfl))) (fun _ _ _ _ _ => pts_nil) (fun _ _ _ _ _ => (pe_lstN pa_nil))) (pa_cons (pe_callTy (call_dictPT rfl hr.units) (by rfl) T.n_dict (by decide +kernel) (pa_cons (pe_lc (own := [("_law_wire", 3)]) (g := (gName 3)) (tt := tYes) rfl sc__law_floor.nd (pi_list (pv 1)) (blkOk_by (N := N__law_floor) (sc := defScope s__law_floor) (by decide +kernel)) (fun _ _ _ _ _ => (pg_name (i := 3) sc__law_floor.nd rfl (by first | exact Or.inl rfl | exact Or.inr rfl))) (fun _ _ _ _ _ => pts_nil) (fun _ _ _ _ _ => (pe_tupN (pa_cons (pv 3) (pa_cons (pe_lstN pa_nil) pa_nil))))) pa_nil)) pa_nil))))), ?_⟩
  walk_at "ws"
  refine i_rng1 (by omega) (by omega) ?_
  rw [Int.toNat_natCast]
  intro dl hdl
  refine lc_it walk_range (fun i H' => ∃ rs : List Addr, G none H H' ∧ H' dl = some (.lst (rs.map V.ref)) ∧ rs.length = i ∧ rs.Nodup ∧ dl ∉ rs ∧ ∀ l ∈ rs, H l = none ∧ H' l = some (.lst [])) ⟨[], (G.refl).mut hdl (fun _ e => nomatch e), upd_same, rfl, List.nodup_nil, (fun h => nomatch h), (fun _ h => nomatch h)⟩ (fun _ _ _ _ => trivial) ?_ ?_
  · rintro i _ _ H1 hi ⟨rs, g1, h1, lr, nd, ndl, hrs⟩ ⟨rfl, rfl⟩
    walk_at "ws"
    refine ⟨rfl, ?_⟩
    walk_at "ws"
    refine ⟨sz (by simp), fun l H2 hl g2 h2 => ?_⟩
    have nl : l ≠ dl := (ne_of_none h1 hl).symm
    refine ⟨rs.map V.ref, (g2 none).all _ _ h1, Nat.lt_of_le_of_lt (by rw [List.length_map]; omega : (rs.map V.ref).length ≤ 100000) (by decide), rs ++ [l], (g1.trans (g2 none)).mut hdl (fun _ e => nomatch e), by rw [upd_same, List.map_append]; rfl, by rw [List.length_append, lr]; rfl, ?_, ?_, ?_⟩
    · exact nodup_snoc nd fun ha => by
        have := (hrs _ ha).2
        rw [hl] at this; cases this
    · intro h
      rcases List.mem_append.mp h with z | z
      · exact ndl z
      · exact nl (by simpa using z : dl = l).symm
    · intro x hx
      rcases List.mem_append.mp hx with z | z
      · have q := hrs x z
        exact ⟨q.1, by rw [upd_ne (ne_mem ndl z)]; exact (g2 none).all _ _ q.2⟩
      · have e : x = l := by simpa using z
        subst e
        exact ⟨back_none g1 hl, by rw [upd_ne nl]; exact h2⟩
  rintro H1 ⟨rs, g1, h1, lr, nd, ndl, hrs⟩
  have hwa1 := sqL_n g1 hwa
  have tup1 := tup.g g1 (fun _ e => nomatch e)
  walk_at "ws"
  refine i_list hwa1 ?_
  intro D hD
  refine lc_it (walk_list (xs := bs.map V.ref)) (fun i H' => ∃ ts ls : List Addr, G none H1 H' ∧ H' D = some (.lst (ts.map V.ref)) ∧ ts.length = i ∧ ls.length = i ∧ ls.Nodup ∧ (∀ l ∈ ls, H1 l = none ∧ l ≠ D ∧ H' l = some (.lst [])) ∧ ∀ (j : Nat) (t b l : Addr), ts[j]? = some t → bs[j]? = some b → ls[j]? = some l → H' t = some (.tup [.ref b, .ref l])) ⟨[], [], (G.refl).mut hD (fun _ e => nomatch e), upd_same, rfl, rfl, List.nodup_nil, (fun _ h => nomatch h), (fun j t b l e => by simp at e)⟩ (fun i H' _ ⟨ts, ls, q, _⟩ => sqL_n q hwa1) ?_ ?_
  · rintro i v _ H2 hi ⟨ts, ls, g2, h2, lt_, ll, ndls, hls, hts⟩ ⟨rfl, hv'⟩
    rw [List.length_map] at hi
    rw [List.getElem?_map] at hv'
    obtain ⟨b, hb, rfl⟩ := Option.map_eq_some_iff.mp hv'
    walk_at "ws"
    refine ⟨rfl, ?_⟩
    walk_at "ws"
    refine ⟨sz (by simp), fun l H3 hl g3 h3 => ?_⟩
    walk_at "ws"
    refine ⟨sz (by simp), fun t H4 ht g4 h4 => ?_⟩
    have g24 : G none H2 H4 := (g3 none).trans (g4 none)
    have h4D := g24.all _ _ h2
    have h4l := (g4 none).all _ _ h3
    have nl : l ≠ D := (ne_of_none h2 hl).symm
    have tD : t ≠ D := (ne_of_none ((g3 none).all _ _ h2) ht).symm
    refine ⟨ts.map V.ref, h4D, Nat.lt_of_le_of_lt (by rw [List.length_map]; omega : (ts.map V.ref).length ≤ 100000) (by decide), ts ++ [t], ls ++ [l], (g2.trans g24).mut hD (fun _ e => nomatch e), by rw [upd_same, List.map_append]; rfl, by rw [List.length_append, lt_]; rfl, by rw [List.length_append, ll]; rfl, ?_, ?_, ?_⟩
    · exact nodup_snoc ndls fun ha => by
        have := (hls _ ha).2.2
        rw [hl] at this; cases this
    · intro x hx
      rcases List.mem_append.mp hx with z | z
      · have q := hls x z
        exact ⟨q.1, q.2.1, by rw [upd_ne q.2.1]; exact g24.all _ _ q.2.2⟩
      · have e : x = l := by simpa using z
        subst e
        exact ⟨back_none g2 hl, nl, by rw [upd_ne nl]; exact h4l⟩
    · intro j t' b' l' e1 e2 e3
      by_cases cj : j < i
      · rw [List.getElem?_append_left (by omega)] at e1 e3
        have q := hts j t' b' l' e1 e2 e3
        rw [upd_ne (ne_of q h2 (by intro z; cases z))]
        exact g24.all _ _ q
      · have ej : j = i := by
          have := (List.getElem?_eq_some_iff.mp e1).1
          rw [List.length_append, lt_, List.length_singleton] at this
          omega
        subst ej
        rw [List.getElem?_append_right (by omega), lt_, Nat.sub_self] at e1
        rw [List.getElem?_append_right (by omega), ll, Nat.sub_self] at e3
        rw [hb] at e2
        cases e1; cases e2; cases e3
        rw [upd_ne tD]
        exact h4
  rintro H2 ⟨ts, ls, g2, h2, lt_, ll, ndls, hls, hts⟩
  rw [List.length_map] at lt_ ll
  have tup2 := tup1.g g2 (fun _ e => nomatch e)
  walk_at "ws"
  refine ⟨D, mkL W bs ts ls, rfl, by rw [mkL_at lb (by omega) (by omega)]; exact h2, fun q hq => ?_, ?_, fun ld H3 hld g3 h3 => ?_⟩
  · obtain ⟨j, u, b, t, l, e1, e2, e3, e4, rfl⟩ := mkL_mem hq
    exact ⟨hts j t b l e3 e2 e4, tup2.2 j b u e2 e1⟩
  · rw [mkL_key lb (by omega) (by omega)]
    exact List.pairwise_map.mpr (ndW.imp fun h e => h (keyOfP_inj e))
  rw [mkL_dt lb (by omega) (by omega)] at h3
  walk_at "ws"
  refine ⟨sz (by simp), fun fl H4 hfl g4 h4 => ?_⟩
  have g13 : G none H1 H3 := g2.trans (g3 none)
  have g04 := g1.trans (g13.trans (g4 none))
  have h2dl := g2.all _ _ h1
  have h2rs : ∀ l ∈ rs, H2 l = some (.lst []) := fun l hl => g2.all _ _ (hrs l hl).2
  have h3dl := (g3 none).all _ _ h2dl
  have h3rs : ∀ l ∈ rs, H3 l = some (.lst []) := fun l hl => (g3 none).all _ _ (h2rs l hl)
  have h3ls : ∀ l ∈ ls, H3 l = some (.lst []) := fun l hl => (g3 none).all _ _ (hls l hl).2.2
  have nil_at : ∀ (m : Nat) (as : List Addr), as.length = m → (∀ l ∈ as, H4 l = some (.lst [])) → Lists H4 as (List.replicate m []) := fun m as e h => ⟨by rw [List.length_replicate, e], fun i a l e1 e2 => by
    have e3 := List.eq_of_mem_replicate (List.mem_of_getElem? e2)
    subst e3
    exact h a (List.mem_of_getElem? e1)⟩
  refine k ⟨fl, dl, ld, rs, ls⟩ H4 g04 ⟨back_none (g1.trans g13) hfl, hdl, back_none (g1.trans g2) hld, fun l hl => (hrs l hl).1, fun l hl => back_none g1 (hls l hl).1, (ne_of_none h3dl hfl).symm, (ne_of_none h3 hfl).symm, not_in hfl h3rs, not_in hfl h3ls, ne_of_none h2dl hld, ndl, (fun hl => ne_of_none h1 (hls _ hl).1 rfl), not_in hld h2rs, not_in hld (fun l hl => (hls l hl).2.2), nd, ndls, (fun l hl hl2 => ne_of_none (hrs l hl).2 (hls l hl2).1 rfl)⟩ ⟨h4, (g4 none).all _ _ h3dl, .inl ((g4 none).all _ _ h3), nil_at n rs lr fun l hl => (g4 none).all _ _ (h3rs l hl), nil_at W.length ls (by omega) fun l hl => (g4 none).all _ _ (h3ls l hl)⟩ lr (show ls.length = W.length by omega)

end
end Mine
/-! ## GKE -/
end
namespace GSa
open PySem L2 GA PyProof.Rows
/-! ### for k in d, d a dict with tuple keys, locked or not: it is locked from then on -/
def iKeysE (td : TE) : TI := fun σ H R => td σ H fun x H1 => ∃ d kvs, x = .ref d ∧ (H1 d = some (.dT kvs) ∨ ∃ o, H1 d = some (.frz o (.dT kvs))) ∧ ∀ o H2, (H2 = H1 ∨ (H1 d = some (.dT kvs) ∧ H2 = upd H1 d (.frz o (.dT kvs)))) → H2 d = some (.frz o (.dT kvs)) → R (Itkt d o kvs) H2
theorem w_ikeysE {td : TE} {σ : L2.St} {H : Hp} {R : It → Hp → Prop} (q : td σ H fun x H1 => ∃ d kvs, x = .ref d ∧ (H1 d = some (.dT kvs) ∨ ∃ o, H1 d = some (.frz o (.dT kvs))) ∧ ∀ o H2, (H2 = H1 ∨ (H1 d = some (.dT kvs) ∧ H2 = upd H1 d (.frz o (.dT kvs)))) → H2 d = some (.frz o (.dT kvs)) → R (Itkt d o kvs) H2) : iKeysE td σ H R := q
theorem pi_keysE {X : Cx} {tg e : Expr} {td : TE} (he : PE X e td) : PI X tg e (iKeysE td) := by
  refine ⟨fun pins s σ H R I h => ?_⟩
  refine thn (he.run pins s σ H _ I h) fun u s1 ⟨x, H1, I1, rx, d, kvs, ex, hd, q⟩ => ?_
  subst ex
  cases rx
  rcases hd with hd | ⟨o, hd⟩
  · obtain ⟨od, I2⟩ := I1.lock hd True.intro
    obtain ⟨hs, hgd, hx, es, ep, hdt, hsz, _⟩ := I2.frzT upd_same
    refine iter_keys hs hgd hx hdt (pi_one (tk := s1.toks) I2 _ (turn_keysT _ hdt) ⟨_, Heap.get?_push_size _ rfl, rfl, ?_⟩ (q od _ (.inr ⟨hd, rfl⟩) upd_same))
    rw [hsz] <;> rfl
  · obtain ⟨hs, hgd, hx, es, ep, hdt, hsz, _⟩ := I1.frzT hd
    refine iter_keys hs hgd hx hdt (pi_one (tk := s1.toks) I1 _ (turn_keysT _ hdt) ⟨_, Heap.get?_push_size _ rfl, rfl, ?_⟩ (q o _ (.inl rfl) hd))
    rw [hsz] <;> rfl
end GSa
/-! ## K20 -/
section
open PySem L2 GA
local macro_rules
  | `(tactic| walk_at "w") => `(tactic| first
    | ((with_reducible refine' GA.w_var ?e ?_); (case e => exact rfl))
    | (with_reducible refine' GA.w_c ?_)
    | (with_reducible refine' GA.w_cons ?_)
    | (with_reducible refine' GA.w_nil ?_)
    | (with_reducible refine' GA.w_op ?_)
    | (with_reducible refine' GA.r_I0 ?_)
    | (with_reducible refine' GA.w_bl ?_)
    | (with_reducible refine' GA.w_seq ?_)
    | (with_reducible refine' GA.w_set ?_)
    | (with_reducible refine' GA.w_ret ?_)
    | (with_reducible refine' GA.w_ifS ?_)
    | (with_reducible refine' GA.w_test ?_)
    | (with_reducible refine' GA.w_tB ?_)
    | (with_reducible refine' GA.w_not ?_)
    | (with_reducible refine' GA.w_and ?_)
    | (with_reducible refine' GA.w_or ?_)
    | (with_reducible refine' GA.w_andV ?_)
    | (with_reducible refine' GA.w_orV ?_)
    | (with_reducible refine' GA.w_notV ?_)
    | (with_reducible refine' GA.w_blc ?_)
    | (with_reducible refine' GA.w_if ?_)
    | (with_reducible refine' GA.w_CB ?_)
    | (with_reducible refine' GA.w_call ?_)
    | (with_reducible refine' GA.w_tupN ?_)
    | (with_reducible refine' GA.w_lstN ?_)
    | (with_reducible refine' GA.w_chain ?_)
    | (with_reducible refine' GA.w_drop ?_)
    | (with_reducible refine' GA.w_next ?_)
    | (with_reducible refine' GA.w_break ?_)
    | (with_reducible refine' GA.w_un ?_)
    | (with_reducible refine' GA.r_U ?_)
    | (with_reducible refine' GA.r_eqI ?_)
    | (with_reducible refine' GA.r_neI ?_)
    | (with_reducible refine' GA.r_eqB ?_)
    | (with_reducible refine' GA.r_neB ?_)
    | (with_reducible refine' GA.w_fld ?_)
    | (with_reducible refine' GA.w_sfld ?_)
    | (with_reducible refine' GA.w_sl ?_)
    | (with_reducible refine' GA.w_part ?_)
    | (with_reducible refine' GA.w_noPart ?_)
    | (with_reducible refine' GA.w_inti ?_)
    | (with_reducible refine' GA.w_retN ?_)
    | (with_reducible refine' GA.w_gsub ?_)
    | (with_reducible refine' GA.w_gname ?_)
    | (with_reducible refine' L2.iteT ?_)
    | (with_reducible refine' L2.iteF ?_)
    | (with_reducible refine' GA.w_nt ?_)
    | (with_reducible refine' GA.w_nf ?_)
    | (with_reducible refine' GA.w_isN ?_)
    | (with_reducible refine' GA.w_notN ?_)
    | (with_reducible refine' GA.w_yes ?_)
    | (with_reducible refine' GA.w_lc ?_)
    | (with_reducible refine' GA.w_lc2 ?_)
    | (with_reducible refine' GA.w_iseq ?_)
    | (with_reducible refine' GA.w_make ?_)
    | (with_reducible refine' GA.w_for ?_)
    | (with_reducible refine' GA.w_rng1 ?_)
    | (with_reducible refine' GA.w_rng2 ?_)
    | (with_reducible refine' GA.w_itup ?_)
    | (with_reducible refine' GA.w_ilist ?_)
    | (with_reducible refine' GA.w_ienum ?_)
    | (with_reducible refine' GA.w_BM ?_)
    | (with_reducible refine' GA.w_BM0 ?_)
    | (with_reducible refine' GA.w_izip ?_)
    | (with_reducible refine' GA.w_asg ?_))
  | `(tactic| walk_at "wm") => `(tactic| first
    | ((with_reducible refine' GA.w_var ?e ?_); (case e => exact rfl))
    | (with_reducible refine' GA.w_c ?_)
    | (with_reducible refine' GA.w_cons ?_)
    | (with_reducible refine' GA.w_nil ?_)
    | (with_reducible refine' GA.w_op ?_)
    | (with_reducible refine' GA.r_I0 ?_)
    | (with_reducible refine' GA.w_bl ?_)
    | (with_reducible refine' GA.w_set ?_)
    | (with_reducible refine' GA.w_ret ?_)
    | (with_reducible refine' GA.w_ifS ?_)
    | (with_reducible refine' GA.w_test ?_)
    | (with_reducible refine' GA.w_tB ?_)
    | (with_reducible refine' GA.w_not ?_)
    | (with_reducible refine' GA.w_and ?_)
    | (with_reducible refine' GA.w_or ?_)
    | (with_reducible refine' GA.w_andV ?_)
    | (with_reducible refine' GA.w_orV ?_)
    | (with_reducible refine' GA.w_notV ?_)
    | (with_reducible refine' GA.w_blc ?_)
    | (with_reducible refine' GA.w_if ?_)
    | (with_reducible refine' GA.w_CB ?_)
    | (with_reducible refine' GA.w_call ?_)
    | (with_reducible refine' GA.w_tupN ?_)
    | (with_reducible refine' GA.w_lstN ?_)
    | (with_reducible refine' GA.w_chain ?_)
    | (with_reducible refine' GA.w_drop ?_)
    | (with_reducible refine' GA.w_next ?_)
    | (with_reducible refine' GA.w_break ?_)
    | (with_reducible refine' GA.w_un ?_)
    | (with_reducible refine' GA.r_U ?_)
    | (with_reducible refine' GA.r_eqI ?_)
    | (with_reducible refine' GA.r_neI ?_)
    | (with_reducible refine' GA.r_eqB ?_)
    | (with_reducible refine' GA.r_neB ?_)
    | (with_reducible refine' GA.w_fld ?_)
    | (with_reducible refine' GA.w_sfld ?_)
    | (with_reducible refine' GA.w_sl ?_)
    | (with_reducible refine' GA.w_part ?_)
    | (with_reducible refine' GA.w_noPart ?_)
    | (with_reducible refine' GA.w_inti ?_)
    | (with_reducible refine' GA.w_retN ?_)
    | (with_reducible refine' GA.w_gsub ?_)
    | (with_reducible refine' GA.w_gname ?_)
    | (with_reducible refine' L2.iteT ?_)
    | (with_reducible refine' L2.iteF ?_)
    | (with_reducible refine' GA.w_nt ?_)
    | (with_reducible refine' GA.w_nf ?_)
    | (with_reducible refine' GA.w_isN ?_)
    | (with_reducible refine' GA.w_notN ?_)
    | (with_reducible refine' GA.w_yes ?_)
    | (with_reducible refine' GA.w_lc ?_)
    | (with_reducible refine' GA.w_lc2 ?_)
    | (with_reducible refine' GA.w_iseq ?_)
    | (with_reducible refine' GA.w_make ?_)
    | (with_reducible refine' GA.w_for ?_)
    | (with_reducible refine' GA.w_rng1 ?_)
    | (with_reducible refine' GA.w_rng2 ?_)
    | (with_reducible refine' GA.w_itup ?_)
    | (with_reducible refine' GA.w_ilist ?_)
    | (with_reducible refine' GA.w_ienum ?_)
    | (with_reducible refine' GA.w_BM ?_)
    | (with_reducible refine' GA.w_BM0 ?_)
    | (with_reducible refine' GA.w_izip ?_)
    | (with_reducible refine' GA.w_asg ?_))
  | `(tactic| walk_at "ws") => `(tactic| repeat (walk_at "w"))
  | `(tactic| walk_at "wn") => `(tactic| repeat (walk_at "wm"))


namespace Mine
section
variable {P : Program} {w : World} {K : PySem.W.Frag} {mg : Str → Option Value} {base : Heap} {a : Ads}

/-! ### a put is written, and sent on -/
theorem dt_len : ∀ (W : List (Int × Int)) (ls : List Addr), (dtOf W ls).length ≤ W.length
  | [], _ => Nat.le_refl _
  | _ :: _, [] => Nat.zero_le _
  | _ :: W, _ :: ls => Nat.succ_le_succ (dt_len W ls)
theorem dt_at : ∀ {W : List (Int × Int)} {ls : List Addr} {i : Nat} {k : List L2.Key} {v : V}, (dtOf W ls)[i]? = some (k, v) → ∃ u l, W[i]? = some u ∧ ls[i]? = some l ∧ k = keyOfP u ∧ v = .ref l
  | [], _, _, _, _, e => by simp [dtOf] at e
  | _ :: _, [], _, _, _, e => by simp [dtOf] at e
  | u :: W, l :: ls, 0, k, v, e => by
    simp only [dtOf, List.getElem?_cons_zero, Option.some.injEq] at e
    cases e
    exact ⟨u, l, rfl, rfl, rfl, rfl⟩
  | u :: W, l :: ls, i + 1, k, v, e => by
    simp only [dtOf, List.getElem?_cons_succ] at e
    obtain ⟨u', l', h1, h2, h3⟩ := dt_at e
    exact ⟨u', l', h1, h2, h3⟩
theorem dt_lenE : ∀ (W : List (Int × Int)) (ls : List Addr), ls.length = W.length → (dtOf W ls).length = W.length
  | [], _, _ => rfl
  | _ :: _, [], e => by simp at e
  | u :: W, l :: ls, e => by
    simp only [dtOf, List.length_cons]
    rw [dt_lenE W ls (by simpa using e)]
/-- all stands but the floor's own lists -/
structure Fw (A : FlA) (H H' : Hp) : Prop where
  keep : ∀ a u, H a = some u → a ∉ A.rs → a ∉ A.ls → a ≠ A.ld → H' a = some u
theorem Fw.refl {A : FlA} {H : Hp} : Fw A H H := ⟨fun _ _ h _ _ _ => h⟩
theorem Fw.trans {A : FlA} {H H1 H2 : Hp} (f : Fw A H H1) (g : Fw A H1 H2) : Fw A H H2 := ⟨fun a u h n1 n2 n3 => g.keep a u (f.keep a u h n1 n2 n3) n1 n2 n3⟩
theorem Fw.of {A : FlA} {H H1 : Hp} (g : G none H H1) : Fw A H H1 := ⟨fun a u h _ _ _ => g.all a u h⟩
theorem Fw.r {A : FlA} {H H1 : Hp} {l : Addr} {u : HO} (f : Fw A H H1) (m : l ∈ A.rs) : Fw A H (upd H1 l u) := ⟨fun a w h n1 n2 n3 => by rw [upd_ne (fun (z : a = l) => n1 (z ▸ m))]; exact f.keep a w h n1 n2 n3⟩
theorem Fw.l {A : FlA} {H H1 : Hp} {l : Addr} {u : HO} (f : Fw A H H1) (m : l ∈ A.ls) : Fw A H (upd H1 l u) := ⟨fun a w h n1 n2 n3 => by rw [upd_ne (fun (z : a = l) => n2 (z ▸ m))]; exact f.keep a w h n1 n2 n3⟩
theorem Fw.d {A : FlA} {H H1 : Hp} {u : HO} (f : Fw A H H1) : Fw A H (upd H1 A.ld u) := ⟨fun a w h n1 n2 n3 => by rw [upd_ne n3]; exact f.keep a w h n1 n2 n3⟩
theorem Fw.g {A : FlA} {Hb H H' : Hp} {o : Option (Addr × Addr)} (g : G o Hb H) (N : FlN Hb A) (hh : ∀ p, o = some p → Hand Hb p.1 p.2) (f : Fw A H H') : G o Hb H' := by
  have ok : ∀ a w, Hb a = some w → a ∉ A.rs ∧ a ∉ A.ls ∧ a ≠ A.ld := fun a w e => ⟨(fun m => by rw [N.rs a m] at e; cases e), (fun m => by rw [N.ls a m] at e; cases e), (fun z => by rw [z, N.ld] at e; cases e)⟩
  refine ⟨fun a u n e => ?_, fun a xs e => ?_, fun p e x => ?_⟩
  · obtain ⟨n1, n2, n3⟩ := ok a u e
    exact f.keep a u (g.keep a u n e) n1 n2 n3
  · obtain ⟨w, hw⟩ : ∃ w, Hb a = some w := by rcases e with e | ⟨ob, e⟩ <;> exact ⟨_, e⟩
    obtain ⟨n1, n2, n3⟩ := ok a w hw
    rcases g.tups a xs e with q | ⟨ob, q⟩
    · exact .inl (f.keep a _ q n1 n2 n3)
    · exact .inr ⟨ob, f.keep a _ q n1 n2 n3⟩
  · obtain ⟨_, ⟨ns0, h0⟩, i0, b0, m0, k0, h1, _⟩ := hh p e
    obtain ⟨n, ⟨ns, h2⟩, i, b, m, k, h3, h4⟩ := g.hand p e x
    obtain ⟨c1, c2, c3⟩ := ok _ _ h0
    obtain ⟨d1, d2, d3⟩ := ok _ _ h1
    exact ⟨n, ⟨ns, f.keep _ _ h2 c1 c2 c3⟩, i, b, m, k, f.keep _ _ h3 d1 d2 d3, h4⟩
/-- the floor's dict is locked -/
theorem FlS.lock {W : List (Int × Int)} {A : FlA} {Hb H : Hp} {ds lt : List (List Int)} (S : FlS W A H ds lt) (N : FlN Hb A) {o : PySem.Obj} : FlS W A (upd H A.ld (.frz o (.dT (dtOf W A.ls)))) ds lt :=
  ⟨by rw [upd_ne N.n2]; exact S.fl, by rw [upd_ne N.n5]; exact S.dl, .inr ⟨o, upd_same⟩, S.rs.mono fun a m u e => by rw [upd_ne (fun (z : a = A.ld) => N.n8 (z ▸ m))]; exact e, S.ls.mono fun a m u e => by rw [upd_ne (fun (z : a = A.ld) => N.n9 (z ▸ m))]; exact e⟩
/-- the letters behind a put, for the first i wires -/
def wrN (W : List (Int × Int)) (m p : Int) (i : Nat) (lt : List (List Int)) : List (List Int) := lt.mapIdx fun j l => if j < i ∧ (W[j]?.map (·.1)) = some m then l ++ [p] else l
theorem wrN_zero {W : List (Int × Int)} {m p : Int} {lt : List (List Int)} : wrN W m p 0 lt = lt := by
  unfold wrN
  apply List.ext_getElem?
  intro j
  rw [List.getElem?_mapIdx]
  cases lt[j]? <;> simp
theorem wrN_at {W : List (Int × Int)} {m p : Int} {lt : List (List Int)} {i j : Nat} : (wrN W m p i lt)[j]? = lt[j]?.map fun l => if j < i ∧ (W[j]?.map (·.1)) = some m then l ++ [p] else l := by
  unfold wrN
  rw [List.getElem?_mapIdx]
theorem wrN_len {W : List (Int × Int)} {m p : Int} {lt : List (List Int)} {i : Nat} : (wrN W m p i lt).length = lt.length := by unfold wrN; simp
theorem wrN_skip {W : List (Int × Int)} {m p : Int} {lt : List (List Int)} {i : Nat} {u : Int × Int} (hu : W[i]? = some u) (n : ¬ u.1 = m) : wrN W m p (i + 1) lt = wrN W m p i lt := by
  apply List.ext_getElem?
  intro j
  rw [wrN_at, wrN_at]
  congr 1
  funext l
  by_cases c : j = i
  · subst c
    rw [hu]
    simp [n]
  · have e : (j < i + 1) ↔ (j < i) := by omega
    simp only [e]
theorem wrN_put {W : List (Int × Int)} {m p : Int} {lt : List (List Int)} {i : Nat} {u : Int × Int} {l : List Int} (hu : W[i]? = some u) (e : u.1 = m) (hl : lt[i]? = some l) : wrN W m p (i + 1) lt = (wrN W m p i lt).set i (l ++ [p]) := by
  apply List.ext_getElem?
  intro j
  rw [wrN_at]
  by_cases c : j = i
  · subst c
    rw [List.getElem?_set_self (by rw [wrN_len]; exact (List.getElem?_eq_some_iff.mp hl).1), hl, hu]
    simp [e]
  · rw [List.getElem?_set_ne (fun z => c z.symm), wrN_at]
    congr 1
    funext l
    have e : (j < i + 1) ↔ (j < i) := by omega
    simp only [e]
def sp__law_write (K : PySem.W.Frag) : Sp := fun vs H Q _ => ∃ (A : FlA) (W : List (Int × Int)) (ds lt : List (List Int)) (m : Nat) (p : Int) (d : List Int) (Hb : Hp), vs = [.ref A.fl, .int (m : Nat), .int p] ∧ FlN Hb A ∧ FlS W A H ds lt ∧ W.Nodup ∧ A.ls.length = W.length ∧ W.length ≤ 49 ∧ ds[m]? = some d ∧ d.length ≤ 90000 ∧ (∀ l ∈ lt, l.length ≤ 90000) ∧
  ∀ H', Fw A H H' → FlS W A H' (ds.set m (d ++ [p])) (wrN W (m : Nat) p W.length lt) → Q .non H'
theorem ok__law_write (T : Txt K mg a) : FnOk P w K mg base CX0 1 a.f__law_write a.d__law_write P__law_write (sp__law_write K) := by
  refine T.F__law_write.ok sc__law_write (fun vs H Q E h => by obtain ⟨A, W, ds, lt, m, p, d, Hb, rfl, _⟩ := h; rfl) (fun cdv A0 outer s H vs Q E hr h => ?_)
  obtain ⟨A, W, ds, lt, m, p, d, Hb, rfl, N, S, ndW, lsW, l49, hd, dz, lz, k⟩ := h
  obtain ⟨r, hrr⟩ : ∃ r, A.rs[m]? = some r := ⟨_, List.getElem?_eq_getElem (by have := S.rs.1; have := (List.getElem?_eq_some_iff.mp hd).1; omega)⟩
  have rm := List.mem_of_getElem? hrr
  refine ⟨_, (pss_cons (ps_expr (pe_bm PySem.F.plainAttrs_list PySem.F.slot_list_append PySem.F.type_list_append mt_append (pe_ix ix_list (pe_ix ix_list (pv 0) pe_int (fun _ _ => rfl)) (pv 1) (fun _ _ => rfl)) (pa_cons (pv 2) pa_nil)))
  (pss_one (ps_for PassesOwn.never rfl (GSa.pi_keysE (pe_ix ix_list (pv 0) pe_int (fun _ _ => rfl))) (pg_tup rfl (pgs_cons (pg_name (i := 3) sc__law_write.nd rfl (Or.inl rfl)) (pgs_cons (pg_name (i := 4) sc__law_write.nd rfl (Or.inl rfl)) pgs_nil)))
    (pss_one (ps_if (pt_cmpR op_eq (pv 3) (pv 1) (nomark _))
    (pss_one (ps_expr (pe_bm PySem.F.plainAttrs_list PySem.F.slot_list_append PySem.F.type_list_append mt_append (pe_dget (hu_of hr) (pe_ix ix_list (pv 0) pe_int (fun _ _ => rfl)) (pe_tupN (pa_cons (pv 3) (pa_cons (pv 4) pa_nil))) (by first | exact fun _ _ => rfl | rfl | decide)) (pa_cons (pv 2) pa_nil))))
    pss_nil))))), ?_⟩
  walk_at "ws"
  refine ⟨A.fl, _, 0, .ref A.dl, rfl, rfl, SqL.of S.fl, at_of (j := 0) rfl rfl, ?_⟩
  walk_at "ws"
  refine ⟨A.dl, _, (m : Nat), .ref r, rfl, rfl, SqL.of S.dl, at_of (j := m) rfl (by rw [List.getElem?_map, hrr]; rfl), ?_⟩
  have hrd := S.rs.2 m r d hrr hd
  refine i_BM hrd ?_
  walk_at "ws"
  refine r_app hrd (by rw [List.length_map]; exact dz) ?_
  have S1 := S.dia' N hrr (d ++ [p])
  rw [List.map_append] at S1
  have f1 : Fw A H (upd H r (.lst (d.map V.int ++ [V.int p]))) := Fw.refl.r rm
  have S1 : FlS W A (upd H r (.lst (d.map V.int ++ [V.int p]))) (ds.set m (d ++ [p])) lt := S1
  generalize upd H r (.lst (d.map V.int ++ [V.int p])) = H1 at S1 f1 ⊢
  walk_at "ws"
  refine GSa.w_ikeysE ?_
  walk_at "ws"
  refine ⟨A.fl, _, 1, .ref A.ld, rfl, rfl, SqL.of S1.fl, at_of (j := 1) rfl rfl, ?_⟩
  refine ⟨A.ld, dtOf W A.ls, rfl, S1.ld, fun o H2 e2 h2 => ?_⟩
  have fS : Fw A H H2 ∧ FlS W A H2 (ds.set m (d ++ [p])) lt := by
    rcases e2 with rfl | ⟨_, rfl⟩
    · exact ⟨f1, S1⟩
    · exact ⟨f1.d, S1.lock N⟩
  obtain ⟨f2, S2⟩ := fS
  clear e2 f1 S1
  have dl := dt_len W A.ls
  refine for_it (walk_keysT (d := A.ld) (o := o) (kvs := dtOf W A.ls)) (fun i σ H' => ∃ u3 u4, σ = [some (.ref A.fl), some (.int (m : Nat)), some (.int p), u3, u4] ∧ Fw A H H' ∧ H' A.ld = some (.frz o (.dT (dtOf W A.ls))) ∧ FlS W A H' (ds.set m (d ++ [p])) (wrN W (m : Nat) p i lt)) ⟨_, _, rfl, f2, h2, by rw [wrN_zero]; exact S2⟩ (fun i σ H' _ ⟨_, _, _, _, z, _⟩ => z) ?_ ?_
  · rintro i v σ H3 H4 hi ⟨u3, u4, rfl, f3, h3, S3⟩ ⟨rfl, kk, vv, qa, hkv, rfl, hqa⟩
    obtain ⟨u, l, hu, hl, rfl, rfl⟩ := dt_at hkv
    have hqa : H4 qa = some (.tup [.int u.1, .int u.2]) := hqa
    walk_at "ws"
    refine ⟨qa, _, rfl, SqT.of hqa, rfl, ?_⟩
    refine ⟨_, _, rfl, ?_⟩
    walk_at "ws"
    refine ⟨_, _, rfl, ?_⟩
    walk_at "ws"
    refine ⟨rfl, ?_⟩
    walk_at "ws"
    refine w_ite (fun e => ?_) (fun e => ?_)
    · have e := of_decide_eq_true e
      obtain ⟨lv, hlv⟩ : ∃ lv, lt[i]? = some lv := ⟨_, List.getElem?_eq_getElem (by
        have := S3.ls.1
        rw [wrN_len] at this
        have := (List.getElem?_eq_some_iff.mp hl).1
        omega)⟩
      have hlw : (wrN W (m : Nat) p i lt)[i]? = some lv := by rw [wrN_at, hlv]; simp
      walk_at "ws"
      refine w_dget ?_
      walk_at "ws"
      refine ⟨A.fl, _, 1, .ref A.ld, rfl, rfl, SqL.of S3.fl, at_of (j := 1) rfl rfl, ?_⟩
      walk_at "ws"
      refine ⟨sz (by simp), fun t H5 ht g5 h5 => ?_⟩
      have S5 := S3.n (g5 none)
      have h5d := (g5 none).all _ _ h3
      refine ⟨A.ld, .ref l, rfl, by rw [← valT ndW hu hl]; exact DGet.fz h5d h5, ?_⟩
      have h5l := S5.ls.2 i l lv hl hlw
      refine i_BM h5l ?_
      walk_at "ws"
      refine r_app h5l (by rw [List.length_map]; exact lz lv (List.mem_of_getElem? hlv)) ?_
      have S6 := S5.let' N hl (lv ++ [p])
      rw [List.map_append, ← wrN_put hu e hlv] at S6
      walk_at "ws"
      exact ⟨_, _, rfl, (f3.trans (Fw.of (g5 none))).l (List.mem_of_getElem? hl), by rw [upd_ne (fun (z : A.ld = l) => N.n9 (by rw [z]; exact List.mem_of_getElem? hl))]; exact h5d, S6⟩
    · have e := of_decide_eq_false e
      walk_at "ws"
      exact ⟨_, _, rfl, f3, h3, by rw [wrN_skip hu e]; exact S3⟩
  · rintro σ H3 ⟨u3, u4, rfl, f3, h3, S3⟩
    walk_at "ws"
    refine k _ f3 ?_
    have e : (dtOf W A.ls).length = W.length := dt_lenE W A.ls lsW
    rw [e] at S3
    exact S3

end
end Mine
/-! ## K22 -/


namespace Mine
section
variable {P : Program} {w : World} {K : PySem.W.Frag} {mg : Str → Option Value} {base : Heap} {a : Ads}

/-! ### a step -/
theorem pop_ix {ls : List Int} {r : Int} (r0 : 0 ≤ r) (rl : r.toNat < ls.length) : PySem.seqIndex? r (ls.map V.int).length = some r.toNat := by
  unfold PySem.seqIndex?
  rw [List.length_map]
  have n0 : ¬ r < 0 := by omega
  simp [n0]
  omega
theorem erase_intsL (ls : List Int) (r : Nat) : (ls.map V.int).eraseIdx r = (ls.eraseIdx r).map V.int := by
  induction ls generalizing r with
  | nil => simp
  | cons a l ih => cases r <;> simp [ih]
theorem inV_mem {p : Int} {d : List Int} : inV (.int p) (d.map V.int) = decide (p ∈ d) := by
  rw [Bool.eq_iff_iff, decide_eq_true_iff]
  unfold inV
  rw [List.any_map, List.any_eq_true]
  constructor
  · rintro ⟨x, hx, e⟩
    simp [eqV] at e
    subst e
    exact hx
  · exact fun h => ⟨p, h, by simp [eqV]⟩
theorem LdAt.get {H : Hp} {d b l : Addr} {W : List (Int × Int)} {ls : List Addr} {j : Nat} {u : Int × Int} (h : LdAt H d (dtOf W ls)) (nd : W.Nodup) (hu : W[j]? = some u) (hl : ls[j]? = some l) (hb : H b = some (.tup [.int u.1, .int u.2])) : DGet H d (.ref b) (some (.ref l)) := by
  rw [← valT nd hu hl]
  rcases h with h | ⟨o, h⟩
  · exact DGet.t h hb
  · exact DGet.fz h hb
def sp__law_step (K : PySem.W.Frag) : Sp := fun vs H Q _ => ∃ (A : FlA) (W : List (Int × Int)) (ds lt : List (List Int)) (vp st : Addr) (ws : List Int) (Hb : Hp), vs = [.ref A.fl, .ref vp, .ref st] ∧ FlN Hb A ∧ FlS W A H ds lt ∧ W.Nodup ∧ A.ls.length = W.length ∧ W.length ≤ 49 ∧ (∀ d ∈ ds, d.length ≤ 80000) ∧ (∀ l ∈ lt, l.length ≤ 80000) ∧ ds.length ≤ 100 ∧
  ((∃ (p m : Nat) (d : List Int), H st = some (.tup [.str "put", .int (p : Nat)]) ∧ SqT K H vp (ws.map V.int) ∧ ws[p]? = some ((m : Nat) : Int) ∧ ds[m]? = some d ∧ (∀ d ∈ ds, ((p : Nat) : Int) ∉ d) ∧
      ∀ H', Fw A H H' → FlS W A H' (ds.set m (d ++ [((p : Nat) : Int)])) (wrN W (m : Nat) (p : Nat) W.length lt) → Q (.bl true) H') ∨
   (∃ (j m : Nat) (y p : Int) (d r : List Int), H st = some (.tup [.str "come", .int y, .int (m : Nat)]) ∧ W[j]? = some (y, ((m : Nat) : Int)) ∧ lt[j]? = some (p :: r) ∧ ds[m]? = some d ∧
      ∀ H', Fw A H H' → (p ∈ d → FlS W A H' ds (lt.set j r)) → (p ∉ d → FlS W A H' (ds.set m (d ++ [p])) (wrN W (m : Nat) p W.length (lt.set j r))) → Q (.bl true) H'))
theorem ok__law_step (T : Txt K mg a) : FnOk P w K mg base CX0 2 a.f__law_step a.d__law_step P__law_step (sp__law_step K) := by
  refine T.F__law_step.ok sc__law_step (fun vs H Q E h => by obtain ⟨A, W, ds, lt, vp, st, ws, Hb, rfl, _⟩ := h; rfl) (fun cdv A0 outer s H vs Q E hr h => ?_)
  obtain ⟨A, W, ds, lt, vp, st, ws, Hb, rfl, N, S, ndW, lsW, l49, dz, lz, d100, h⟩ := h
  have G__law_write : FnOk P w K mg base CX0 1 a.f__law_write a.d__law_write P__law_write (sp__law_write K) := ok__law_write T
  refine ⟨_, (pss_cons (ps_if (pt_cmpR op_eq (pe_ix ix_tup (pv 2) pe_int (fun _ _ => rfl)) pe_str (nomark _))
    (pss_cons (ps_if (pt_val (pe_callB (cr_any rfl) (by rfl) T.n_any (by decide +kernel) (pa_cons (pe_lc (own := [("_law_diary", 4)]) (g := (gName 4)) (tt := tYes) rfl sc__law_step.nd (pi_list (pe_ix ix_list (pv 0) pe_int (fun _ _ => rfl))) (blkOk_by (N := N__law_step) (sc := defScope s__law_step) (by decide +kernel)) (fun _ _ _ _ _ => (pg_name (i := 4) sc__law_step.nd rfl (by first | exact Or.inl rfl | exact Or.inr rfl))) (fun _ _ _ _ _ => pts_nil) (fun _ _ _ _ _ => (pe_cmpR (k_op_in_seq K) (pe_ix (k_ix_tup K) (pv 2) pe_int (fun _ _ => rfl)) (pv 4) (by rfl)))) pa_nil)))
    (pss_one (ps_ret pe_bl))
    pss_nil)
  (pss_cons (ps_expr (pe_call (G__law_write) (hr.mono (by omega)) rfl T.m__law_write T.F__law_write.kp T.b__law_write .nil pass0 (pa_cons (pv 0) (pa_cons (pe_ix ix_tup (pv 1) (pe_ix ix_tup (pv 2) pe_int (fun _ _ => rfl)) (fun _ _ => rfl)) (pa_cons (pe_ix ix_tup (pv 2) pe_int (fun _ _ => rfl)) pa_nil)))))
  (pss_one (ps_ret pe_bl))))
    pss_nil)
  (pss_cons (ps_if (L2.PW.pt (pw_or (pt_cmp (pc_dnotin (hu_of hr) (pe_slice sl_tup (pv 2) (po_some pe_int) po_none) (pe_ix ix_list (pv 0) pe_int (fun _ _ => rfl)))) (pw_or1 (pt_cmpR op_eq (pe_callB call_len_seq (by rfl) T.n_len (by decide +kernel) (pa_cons (pe_dget (hu_of hr) (pe_ix ix_list (pv 0) pe_int (fun _ _ => rfl)) (pe_slice sl_tup (pv 2) (po_some pe_int) po_none) (by first | exact fun _ _ => rfl | rfl | decide)) pa_nil)) pe_int (nomark _)))))
    (pss_one (ps_ret pe_bl))
    pss_nil)
  (pss_cons (ps_set (i := 3) sc__law_step.nd rfl (Or.inl rfl) (pe_bm PySem.F.plainAttrs_list PySem.F.slot_list_pop PySem.F.type_list_pop mt_popAt (pe_dget (hu_of hr) (pe_ix ix_list (pv 0) pe_int (fun _ _ => rfl)) (pe_slice sl_tup (pv 2) (po_some pe_int) po_none) (by first | exact fun _ _ => rfl | rfl | decide)) (pa_cons pe_int pa_nil)))
  (pss_cons (ps_if (pt_cmpR op_notIn_seq (pv 3) (pe_ix ix_list (pe_ix ix_list (pv 0) pe_int (fun _ _ => rfl)) (pe_ix ix_tup (pv 2) pe_int (fun _ _ => rfl)) (fun _ _ => rfl)) (by rfl))
    (pss_one (ps_expr (pe_call (G__law_write) (hr.mono (by omega)) rfl T.m__law_write T.F__law_write.kp T.b__law_write .nil pass0 (pa_cons (pv 0) (pa_cons (pe_ix ix_tup (pv 2) pe_int (fun _ _ => rfl)) (pa_cons (pv 3) pa_nil))))))
    pss_nil)
  (pss_one (ps_ret pe_bl)))))), ?_⟩
  rcases h with ⟨p, m, d, hst, hvp, hw, hd, no, k⟩ | ⟨j, m, y, p, d, r, hst, hu, hq, hd, k⟩
  · walk_at "ws"
    refine r_ixT (SqT.of hst) (v := .str "put") (at_of (j := 0) rfl rfl) ?_
    refine ⟨rfl, ?_⟩
    walk_at "ws"
    refine w_iteE (by simp) ?_
    walk_at "ws"
    refine ⟨A.fl, _, 0, .ref A.dl, rfl, rfl, SqL.of S.fl, at_of (j := 0) rfl rfl, ?_⟩
    refine i_list (SqL.of S.dl) ?_
    intro D hD
    have rl := S.rs.1
    refine lc_pure (K := K) (o := none) (walk_list (xs := A.rs.map V.ref)) (by rw [List.length_map]; omega) hD (fun _ e => nomatch e) (fun i => ds[i]?.map fun d => PyData.bool (decide (((p : Nat) : Int) ∈ d))) (fun H' g => SqL.of (g.all _ _ S.dl)) ?_ ?_
    · rintro i v _ H2 hi g2 ⟨rfl, hv⟩ Qy Qn ky kn
      rw [List.getElem?_map] at hv
      obtain ⟨l, hl, rfl⟩ := Option.map_eq_some_iff.mp hv
      obtain ⟨d2, hd2⟩ : ∃ d2, ds[i]? = some d2 := ⟨_, List.getElem?_eq_getElem (by have := (List.getElem?_eq_some_iff.mp hl).1; omega)⟩
      have hl2 := g2.all _ _ (S.rs.2 i l d2 hl hd2)
      walk_at "ws"
      refine ⟨rfl, ?_⟩
      walk_at "ws"
      refine r_ixT (SqT.of (g2.all _ _ hst)) (v := .int ((p : Nat) : Int)) (at_of (j := 1) rfl rfl) ?_
      walk_at "ws"
      refine ⟨l, _, rfl, .inl (SqL.of hl2), rfl, by rw [List.all_map, List.all_eq_true]; intro q _; rfl, ?_⟩
      rw [inV_mem]
      exact ky _ _ _ G.refl (.bl _) rfl (by rw [hd2]; rfl)
    · intro xs' H2 g2 hD2 hds _
      rw [List.length_map, rl, filterMap_range_map] at hds
      obtain rfl := bools_told hds
      walk_at "ws"
      refine ⟨D, _, rfl, SqL.of hD2, ?_⟩
      have e : (ds.map fun d => decide (((p : Nat) : Int) ∈ d)).any id = false := by
        rw [List.any_eq_false]
        intro b hb
        obtain ⟨d2, hd2, rfl⟩ := List.mem_map.mp hb
        simp [no d2 hd2]
      rw [e]
      refine ⟨_, rfl, ?_⟩
      refine w_iteN rfl ?_
      walk_at "ws"
      refine r_ixT (SqT.of (g2.all _ _ hst)) (v := .int ((p : Nat) : Int)) (at_of (j := 1) rfl rfl) ?_
      walk_at "ws"
      refine r_ixT (sqT_t g2.tups hvp) (v := .int ((m : Nat) : Int)) (at_of (j := p) rfl (by rw [List.getElem?_map, hw]; rfl)) ?_
      walk_at "ws"
      refine r_ixT (SqT.of (g2.all _ _ hst)) (v := .int ((p : Nat) : Int)) (at_of (j := 1) rfl rfl) ?_
      walk_at "ws"
      refine ⟨A, W, ds, lt, m, ((p : Nat) : Int), d, Hb, rfl, N, S.n g2, ndW, lsW, l49, hd, by have := dz d (List.mem_of_getElem? hd); omega, fun l hl => by have := lz l hl; omega, fun H3 f3 S3 => ?_⟩
      walk_at "ws"
      exact k _ ((Fw.of g2).trans f3) S3
  · obtain ⟨l, hl⟩ : ∃ l, A.ls[j]? = some l := ⟨_, List.getElem?_eq_getElem (by have := (List.getElem?_eq_some_iff.mp hu).1; omega)⟩
    walk_at "ws"
    refine r_ixT (SqT.of hst) (v := .str "come") (at_of (j := 0) rfl rfl) ?_
    refine ⟨rfl, ?_⟩
    walk_at "ws"
    refine w_iteN (decide_eq_false (fun h => by injection h with h; revert h; decide +kernel)) ?_
    walk_at "ws"
    show tSl _ _ _ _ _ _ _
    walk_at "ws"
    refine ⟨st, _, rfl, SqT.of hst, (fun h => absurd h.1 (by show ¬ HT.sIx 3 0 (some 1) = 0; decide)), fun t3 ht3 => ?_⟩
    have g1 : G none H (upd H t3 (.tup (cutV [.str "come", .int y, .int ((m : Nat) : Int)] (some 1) none))) := G.alloc ht3
    have h1 : (upd H t3 (.tup (cutV [.str "come", .int y, .int ((m : Nat) : Int)] (some 1) none))) t3 = some (.tup [.int y, .int ((m : Nat) : Int)]) := by rw [upd_same]; rfl
    generalize upd H t3 (.tup (cutV [.str "come", .int y, .int ((m : Nat) : Int)] (some 1) none)) = H1 at g1 h1 ⊢
    have S1 := S.n g1
    have st1 := g1.all _ _ hst
    show tOp _ _ _ _ _ _
    walk_at "ws"
    refine ⟨A.fl, _, 1, .ref A.ld, rfl, rfl, SqL.of S1.fl, at_of (j := 1) rfl rfl, ?_⟩
    refine ⟨A.ld, _, rfl, S1.ld.get ndW hu hl h1, ?_⟩
    refine ⟨_, rfl, ?_⟩
    refine w_iteN rfl ?_
    walk_at "ws"
    refine w_dget ?_
    walk_at "ws"
    refine ⟨A.fl, _, 1, .ref A.ld, rfl, rfl, SqL.of S1.fl, at_of (j := 1) rfl rfl, ?_⟩
    walk_at "ws"
    refine ⟨st, _, rfl, SqT.of st1, (fun h => absurd h.1 (by show ¬ HT.sIx 3 0 (some 1) = 0; decide)), fun t4 ht4 => ?_⟩
    have g2 : G none H1 (upd H1 t4 (.tup (cutV [.str "come", .int y, .int ((m : Nat) : Int)] (some 1) none))) := G.alloc ht4
    have h2 : (upd H1 t4 (.tup (cutV [.str "come", .int y, .int ((m : Nat) : Int)] (some 1) none))) t4 = some (.tup [.int y, .int ((m : Nat) : Int)]) := by rw [upd_same]; rfl
    generalize upd H1 t4 (.tup (cutV [.str "come", .int y, .int ((m : Nat) : Int)] (some 1) none)) = H2 at g2 h2 ⊢
    have S2 := S1.n g2
    have st2 := g2.all _ _ st1
    have hl2 := S2.ls.2 j l _ hl hq
    refine ⟨A.ld, _, rfl, S2.ld.get ndW hu hl h2, ?_⟩
    walk_at "ws"
    refine ⟨l, _, rfl, .inl (SqL.of hl2), ?_⟩
    walk_at "ws"
    refine w_iteN (by simp; omega) ?_
    walk_at "ws"
    refine w_dget ?_
    walk_at "ws"
    refine ⟨A.fl, _, 1, .ref A.ld, rfl, rfl, SqL.of S2.fl, at_of (j := 1) rfl rfl, ?_⟩
    walk_at "ws"
    refine ⟨st, _, rfl, SqT.of st2, (fun h => absurd h.1 (by show ¬ HT.sIx 3 0 (some 1) = 0; decide)), fun t5 ht5 => ?_⟩
    have g3 : G none H2 (upd H2 t5 (.tup (cutV [.str "come", .int y, .int ((m : Nat) : Int)] (some 1) none))) := G.alloc ht5
    have h3 : (upd H2 t5 (.tup (cutV [.str "come", .int y, .int ((m : Nat) : Int)] (some 1) none))) t5 = some (.tup [.int y, .int ((m : Nat) : Int)]) := by rw [upd_same]; rfl
    generalize upd H2 t5 (.tup (cutV [.str "come", .int y, .int ((m : Nat) : Int)] (some 1) none)) = H3 at g3 h3 ⊢
    have S3 := S2.n g3
    have st3 := g3.all _ _ st2
    have hl3 := S3.ls.2 j l _ hl hq
    refine ⟨A.ld, _, rfl, S3.ld.get ndW hu hl h3, ?_⟩
    refine i_BM hl3 ?_
    walk_at "ws"
    refine ⟨l, (p :: r).map V.int, 0, 0, .int p, rfl, rfl, hl3, by decide, by decide, pop_ix (r := 0) (by decide) (by simp), rfl, ?_⟩
    rw [erase_intsL]
    have S4 := S3.let' N hl r
    have f4 : Fw A H (upd H3 l (.lst (((p :: r).eraseIdx 0).map V.int))) := (Fw.of (g1.trans (g2.trans g3))).l (List.mem_of_getElem? hl)
    have st4 : (upd H3 l (.lst (((p :: r).eraseIdx 0).map V.int))) st = some (.tup [.str "come", .int y, .int ((m : Nat) : Int)]) := by rw [upd_ne (ne_of st3 hl3 (by intro z; cases z))]; exact st3
    have S4 : FlS W A (upd H3 l (.lst (((p :: r).eraseIdx 0).map V.int))) ds (lt.set j r) := S4
    generalize upd H3 l (.lst (((p :: r).eraseIdx 0).map V.int)) = H4 at S4 f4 st4 ⊢
    obtain ⟨b, hb⟩ : ∃ b, A.rs[m]? = some b := ⟨_, List.getElem?_eq_getElem (by have := S.rs.1; have := (List.getElem?_eq_some_iff.mp hd).1; omega)⟩
    have hb4 := S4.rs.2 m b d hb hd
    walk_at "ws"
    refine ⟨A.fl, _, 0, .ref A.dl, rfl, rfl, SqL.of S4.fl, at_of (j := 0) rfl rfl, ?_⟩
    walk_at "ws"
    refine r_ixT (SqT.of st4) (v := .int ((m : Nat) : Int)) (at_of (j := 2) rfl rfl) ?_
    refine ⟨A.dl, _, (m : Nat), .ref b, rfl, rfl, SqL.of S4.dl, at_of (j := m) rfl (by rw [List.getElem?_map, hb]; rfl), ?_⟩
    refine ⟨b, _, rfl, .inl (SqL.of hb4), rfl, by rw [List.all_map, List.all_eq_true]; intro q _; rfl, ?_⟩
    rw [inV_mem]
    refine ⟨_, rfl, ?_⟩
    by_cases c : p ∈ d
    · rw [decide_eq_true c]
      refine w_iteN rfl ?_
      walk_at "ws"
      exact k _ f4 (fun _ => S4) (fun n => absurd c n)
    · rw [decide_eq_false c]
      refine w_iteE rfl ?_
      walk_at "ws"
      refine r_ixT (SqT.of st4) (v := .int ((m : Nat) : Int)) (at_of (j := 2) rfl rfl) ?_
      walk_at "ws"
      refine ⟨A, W, ds, lt.set j r, m, p, d, Hb, rfl, N, S4, ndW, lsW, l49, hd, by have := dz d (List.mem_of_getElem? hd); omega, fun l' hl' => ?_, fun H5 f5 S5 => ?_⟩
      · rcases List.mem_or_eq_of_mem_set hl' with z | z
        · have := lz l' z; omega
        · have := lz _ (List.mem_of_getElem? hq)
          rw [List.length_cons] at this
          rw [z]
          omega
      · walk_at "ws"
        exact k _ (f4.trans f5) (fun n => absurd n c) (fun _ => S5)

end
end Mine
/-! ## K23 -/


namespace Mine
section
variable {P : Program} {w : World} {K : PySem.W.Frag} {mg : Str → Option Value} {base : Heap} {a : Ads}

/-! ### runs in which all is put and all comes: what holds behind each step -/
structure RunI (n P : Nat) (W : List (Int × Int)) (ds : List (List Int)) (left : List Int) (lt : List (List Int)) : Prop where
  ld : ds.length = n
  ll : lt.length = W.length
  nd : ∀ d ∈ ds, d.Nodup
  rng : ∀ d ∈ ds, ∀ p ∈ d, 0 ≤ p ∧ p < (P : Int)
  lr : ∀ p ∈ left, 0 ≤ p ∧ p < (P : Int)
  nl : left.Nodup
  new : ∀ p ∈ left, ∀ d ∈ ds, p ∉ d
  tr : ∀ q ∈ lt, ∀ p ∈ q, (0 ≤ p ∧ p < (P : Int)) ∧ p ∉ left
  went : ∀ (p : Int) (y x j : Nat) (d q e : List Int), ds[y]? = some d → p ∈ d → W[j]? = some ((y : Int), (x : Int)) → lt[j]? = some q → ds[x]? = some e → p ∈ e ∨ p ∈ q
def OwnW (ws : List Int) (ds : List (List Int)) (left : List Int) : Prop := ∀ (p : Nat) (w : Int) (d : List Int), ws[p]? = some w → ds[w.toNat]? = some d → (p : Int) ∈ left ∨ (p : Int) ∈ d
def tot : List (List Int) → Nat
  | [] => 0
  | d :: ds => d.length + tot ds
theorem tot_set : ∀ {ds : List (List Int)} {m : Nat} {d : List Int} (d' : List Int), ds[m]? = some d → tot (ds.set m d') + d.length = tot ds + d'.length
  | [], _, _, _, h => by simp at h
  | a :: ds, 0, d, d', h => by
    simp only [List.getElem?_cons_zero, Option.some.injEq] at h
    subst h
    simp only [List.set_cons_zero, tot]
    omega
  | a :: ds, m + 1, d, d', h => by
    simp only [List.getElem?_cons_succ] at h
    have := tot_set d' h
    simp only [List.set_cons_succ, tot]
    omega
theorem tot_le {ds : List (List Int)} {b : Nat} : (∀ d ∈ ds, d.length ≤ b) → tot ds ≤ ds.length * b := by
  induction ds with
  | nil => intro _; simp [tot]
  | cons a ds ih =>
    intro h
    have h1 := h a (List.mem_cons_self ..)
    have h2 := ih fun d hd => h d (List.mem_cons_of_mem _ hd)
    simp only [tot, List.length_cons, Nat.succ_mul]
    omega
theorem tot_map_le {f : Nat → List Int → List Int} (hf : ∀ j l, (f j l).length ≤ l.length + 1) : ∀ (lt : List (List Int)) (k : Nat), tot (lt.mapIdx fun j l => f (j + k) l) ≤ tot lt + lt.length
  | [], _ => by simp [tot]
  | l :: lt, k => by
    rw [List.mapIdx_cons]
    have h1 := hf (0 + k) l
    have h2 := tot_map_le hf lt (k + 1)
    have e : (fun (i : Nat) (l : List Int) => f (i + 1 + k) l) = fun i l => f (i + (k + 1)) l := by
      funext i l
      rw [Nat.add_assoc, Nat.add_comm 1 k]
    rw [e]
    simp only [tot, List.length_cons]
    omega
theorem tot_wr {W : List (Int × Int)} {m p : Int} {i : Nat} {lt : List (List Int)} : tot (wrN W m p i lt) ≤ tot lt + lt.length := by
  have := tot_map_le (f := fun j l => if j < i ∧ (W[j]?.map (·.1)) = some m then l ++ [p] else l) (fun j l => by
    by_cases c : j < i ∧ (W[j]?.map (·.1)) = some m
    · rw [if_pos c]; simp
    · rw [if_neg c]; omega) lt 0
  exact this
theorem set_sup {ds : List (List Int)} {m x : Nat} {d e : List Int} {p : Int} (hd : ds[m]? = some d) (h : (ds.set m (d ++ [p]))[x]? = some e) : ∃ e0, ds[x]? = some e0 ∧ (∀ z ∈ e0, z ∈ e) ∧ ∀ z ∈ e, z ∈ e0 ∨ (x = m ∧ z = p) := by
  by_cases c : m = x
  · subst c
    rw [List.getElem?_set_self (List.getElem?_eq_some_iff.mp hd).1] at h
    cases h
    exact ⟨d, hd, fun z hz => List.mem_append_left _ hz, fun z hz => by
      rcases List.mem_append.mp hz with q | q
      · exact .inl q
      · exact .inr ⟨rfl, by simpa using q⟩⟩
  · rw [List.getElem?_set_ne c] at h
    exact ⟨e, h, fun z hz => hz, fun z hz => .inl hz⟩
theorem wr_sup {W : List (Int × Int)} {m p : Int} {lt : List (List Int)} {j : Nat} {q : List Int} (hl : lt.length = W.length) (h : (wrN W m p W.length lt)[j]? = some q) : ∃ q0 u, lt[j]? = some q0 ∧ W[j]? = some u ∧ (∀ z ∈ q0, z ∈ q) ∧ (u.1 = m → p ∈ q) ∧ (∀ z ∈ q, z ∈ q0 ∨ z = p) ∧ (¬ u.1 = m → q = q0) := by
  rw [wrN_at] at h
  obtain ⟨q0, h0, e⟩ := Option.map_eq_some_iff.mp h
  have jl := (List.getElem?_eq_some_iff.mp h0).1
  have hu : W[j]? = some W[j] := List.getElem?_eq_getElem (by omega)
  rw [hu] at e
  refine ⟨q0, W[j], h0, hu, ?_⟩
  by_cases c : W[j].1 = m
  · rw [if_pos ⟨by omega, by rw [Option.map_some, c]⟩] at e
    subst e
    refine ⟨fun z hz => List.mem_append_left _ hz, fun _ => by simp, fun z hz => ?_, fun n => absurd c n⟩
    rcases List.mem_append.mp hz with q | q
    · exact .inl q
    · exact .inr (by simpa using q)
  · rw [if_neg (fun z => c (by simpa using z.2))] at e
    subst e
    exact ⟨fun z hz => hz, fun z => absurd z c, fun z hz => .inl hz, fun _ => rfl⟩
section
variable {n P : Nat} {W : List (Int × Int)} {ds lt : List (List Int)} {left : List Int}
theorem RunI.write (R : RunI n P W ds left lt) {m : Nat} {p : Int} {d : List Int} (hd : ds[m]? = some d) (pd : p ∉ d) (pr : 0 ≤ p ∧ p < (P : Int)) (pl : p ∉ left) : RunI n P W (ds.set m (d ++ [p])) left (wrN W (m : Nat) p W.length lt) := by
  have dm := List.mem_of_getElem? hd
  refine ⟨by rw [List.length_set]; exact R.ld, by rw [wrN_len]; exact R.ll, fun e he => ?_, fun e he z hz => ?_, R.lr, R.nl, fun z hz e he ze => ?_, fun q hq z hz => ?_, fun z y x j e q e2 h1 hz hW hq h2 => ?_⟩
  · rcases List.mem_or_eq_of_mem_set he with q | q
    · exact R.nd e q
    · subst q
      exact List.nodup_append.mpr ⟨R.nd d dm, by simp, fun a ha b hb e => by
        have : b = p := by simpa using hb
        subst this; subst e
        exact pd ha⟩
  · rcases List.mem_or_eq_of_mem_set he with q | q
    · exact R.rng e q z hz
    · subst q
      rcases List.mem_append.mp hz with q | q
      · exact R.rng d dm z q
      · have : z = p := by simpa using q
        rw [this]; exact pr
  · rcases List.mem_or_eq_of_mem_set he with q | q
    · exact R.new z hz e q ze
    · subst q
      rcases List.mem_append.mp ze with q | q
      · exact R.new z hz d dm q
      · have : z = p := by simpa using q
        rw [this] at hz
        exact pl hz
  · obtain ⟨j, hj⟩ := List.getElem?_of_mem hq
    obtain ⟨q0, u, h0, _, _, _, h3, _⟩ := wr_sup R.ll hj
    rcases h3 z hz with c | c
    · exact R.tr q0 (List.mem_of_getElem? h0) z c
    · rw [c]; exact ⟨pr, pl⟩
  · obtain ⟨e0, he0, _, up⟩ := set_sup hd h1
    obtain ⟨e20, he20, sub2, _⟩ := set_sup hd h2
    obtain ⟨q0, u, h0, hu, subq, inq, _, _⟩ := wr_sup R.ll hq
    rw [hu] at hW
    cases hW
    rcases up z hz with c | ⟨c1, c2⟩
    · rcases R.went z y x j e0 q0 e20 he0 c hu h0 he20 with c | c
      · exact .inl (sub2 z c)
      · exact .inr (subq z c)
    · refine .inr ?_
      rw [c2]
      exact inq (by rw [c1])
theorem RunI.take (R : RunI n P W ds left lt) {j m : Nat} {y : Int} {p : Int} {r d : List Int} (hW : W[j]? = some (y, (m : Int))) (hq : lt[j]? = some (p :: r)) (hd : ds[m]? = some d) (pd : p ∈ d) : RunI n P W ds left (lt.set j r) := by
  refine ⟨R.ld, by rw [List.length_set]; exact R.ll, R.nd, R.rng, R.lr, R.nl, R.new, fun q hq' z hz => ?_, fun z y' x' j' e q e2 h1 hz hW' hq' h2 => ?_⟩
  · rcases List.mem_or_eq_of_mem_set hq' with c | c
    · exact R.tr q c z hz
    · subst c
      exact R.tr _ (List.mem_of_getElem? hq) z (List.mem_cons_of_mem _ hz)
  · by_cases c : j = j'
    · subst c
      rw [List.getElem?_set_self (List.getElem?_eq_some_iff.mp hq).1] at hq'
      cases hq'
      rw [hW] at hW'
      have e1 : (m : Int) = (x' : Int) := congrArg Prod.snd (Option.some.inj hW')
      have e3 : m = x' := by omega
      subst e3
      rw [hd] at h2
      cases h2
      rw [show y = (y' : Int) from congrArg Prod.fst (Option.some.inj hW')] at hW
      rcases R.went z y' m j e (p :: r) d h1 hz hW hq hd with c | c
      · exact .inl c
      · rcases List.mem_cons.mp c with c | c
        · rw [c]; exact .inl pd
        · exact .inr c
    · rw [List.getElem?_set_ne c] at hq'
      exact R.went z y' x' j' e q e2 h1 hz hW' hq' h2
theorem RunI.less (R : RunI n P W ds left lt) {left' : List Int} (s : left'.Sublist left) : RunI n P W ds left' lt :=
  ⟨R.ld, R.ll, R.nd, R.rng, fun p h => R.lr p (s.subset h), R.nl.sublist s, fun p h => R.new p (s.subset h), fun q hq p hp => ⟨(R.tr q hq p hp).1, fun h => (R.tr q hq p hp).2 (s.subset h)⟩, R.went⟩
theorem wr_set {m y p : Int} {j i : Nat} {x : Int} {r : List Int} (hW : W[j]? = some (y, x)) (n : ¬ y = m) (jl : j < lt.length) : wrN W m p i (lt.set j r) = (wrN W m p i lt).set j r := by
  apply List.ext_getElem?
  intro k
  rw [wrN_at]
  by_cases c : j = k
  · subst c
    rw [List.getElem?_set_self jl, List.getElem?_set_self (by rw [wrN_len]; exact jl), hW]
    simp [n]
  · rw [List.getElem?_set_ne c, List.getElem?_set_ne c, wrN_at]
/-- a letter comes whose put is new there -/
theorem RunI.come (R : RunI n P W ds left lt) {j m : Nat} {y : Int} {p : Int} {r d : List Int} (hW : W[j]? = some (y, (m : Int))) (ny : ¬ y = (m : Int)) (hq : lt[j]? = some (p :: r)) (hd : ds[m]? = some d) (pd : p ∉ d) : RunI n P W (ds.set m (d ++ [p])) left (wrN W (m : Nat) p W.length (lt.set j r)) := by
  have jl := (List.getElem?_eq_some_iff.mp hq).1
  have t := R.tr _ (List.mem_of_getElem? hq) p (List.mem_cons_self ..)
  have R1 := R.write hd pd t.1 t.2
  rw [wr_set hW ny jl]
  refine R1.take (p := p) (d := d ++ [p]) hW ?_ (by rw [List.getElem?_set_self (List.getElem?_eq_some_iff.mp hd).1]) (by simp)
  rw [wrN_at, hq, hW]
  simp [ny]
/-- how far the run is from its end -/
def far (n P : Nat) (ds : List (List Int)) (left : List Int) (lt : List (List Int)) : Nat := 50 * (n * P - tot ds) + tot lt + left.length
theorem RunI.tot_le (R : RunI n P W ds left lt) : tot ds ≤ n * P := by
  have := Mine.tot_le (ds := ds) (b := P) fun d hd => diary_len (R.nd d hd) (R.rng d hd)
  rwa [R.ld] at this
end

end
end Mine
/-! ## K24 -/


namespace Mine
section
variable {P : Program} {w : World} {K : PySem.W.Frag} {mg : Str → Option Value} {base : Heap} {a : Ads}

/-! ### runs end, and all machines have all -/
section
variable {n P : Nat} {W : List (Int × Int)} {ds lt : List (List Int)} {left : List Int}
theorem tot_snoc {m : Nat} {d : List Int} {p : Int} (hd : ds[m]? = some d) : tot (ds.set m (d ++ [p])) = tot ds + 1 := by
  have := tot_set (d ++ [p]) hd
  rw [List.length_append, List.length_singleton] at this
  omega
theorem far_put (R : RunI n P W ds left lt) {m : Nat} {d : List Int} {p q : Int} {left' : List Int} {lt' : List (List Int)} (l49 : W.length ≤ 49) (hd : ds[m]? = some d) (R' : RunI n P W (ds.set m (d ++ [p])) left' lt') (hl : left'.length + 1 = left.length) (e : lt' = wrN W q p W.length lt) : far n P (ds.set m (d ++ [p])) left' lt' < far n P ds left lt := by
  have h1 := tot_snoc (p := p) hd
  have h2 := R'.tot_le
  have h3 := tot_wr (W := W) (m := q) (p := p) (i := W.length) (lt := lt)
  have h4 := R.ll
  unfold far
  rw [h1] at h2 ⊢
  rw [e]
  omega
theorem far_had {j : Nat} {p : Int} {r : List Int} (hq : lt[j]? = some (p :: r)) : far n P ds left (lt.set j r) < far n P ds left lt := by
  have := tot_set r hq
  rw [List.length_cons] at this
  unfold far
  omega
theorem far_come (R : RunI n P W ds left lt) {j m : Nat} {d r : List Int} {p q : Int} (l49 : W.length ≤ 49) (hq : lt[j]? = some (p :: r)) (hd : ds[m]? = some d) (R' : RunI n P W (ds.set m (d ++ [p])) left (wrN W q p W.length (lt.set j r))) : far n P (ds.set m (d ++ [p])) left (wrN W q p W.length (lt.set j r)) < far n P ds left lt := by
  have h1 := tot_snoc (p := p) hd
  have h2 := R'.tot_le
  have h3 := tot_wr (W := W) (m := q) (p := p) (i := W.length) (lt := lt.set j r)
  have h4 := R.ll
  have h5 := tot_set r hq
  rw [List.length_cons] at h5
  rw [List.length_set] at h3
  unfold far
  rw [h1] at h2 ⊢
  omega
theorem OwnW.sup {ws : List Int} {m : Nat} {d : List Int} {p : Int} (h : OwnW ws ds left) (hd : ds[m]? = some d) : OwnW ws (ds.set m (d ++ [p])) left := fun q w e h1 h2 => by
  obtain ⟨e0, he, sub, _⟩ := set_sup hd h2
  rcases h q w e0 h1 he with c | c
  · exact .inl c
  · exact .inr (sub _ c)
theorem OwnW.put {ws : List Int} {m p r : Nat} {d : List Int} (h : OwnW ws ds left) (hr : left[r]? = some ((p : Nat) : Int)) (hw : ws[p]? = some ((m : Nat) : Int)) (hd : ds[m]? = some d) : OwnW ws (ds.set m (d ++ [((p : Nat) : Int)])) (left.eraseIdx r) := fun q w e h1 h2 => by
  obtain ⟨e0, he, sub, _⟩ := set_sup hd h2
  rcases h q w e0 h1 he with c | c
  · by_cases eq : q = p
    · subst eq
      rw [hw] at h1
      cases h1
      rw [Int.toNat_natCast, List.getElem?_set_self (List.getElem?_eq_some_iff.mp hd).1] at h2
      cases h2
      exact .inr (by simp)
    · refine .inl ?_
      obtain ⟨i, hi⟩ := List.getElem?_of_mem c
      refine List.mem_eraseIdx_iff_getElem?.mpr ⟨i, fun z => ?_, hi⟩
      rw [z, hr] at hi
      have := Option.some.inj hi
      omega
  · exact .inr (sub _ c)
theorem run_end {ws : List Int} (R : RunI n ws.length W ds [] lt) (ow : OwnW ws ds []) (em : ∀ q ∈ lt, q = []) (n1 : 1 ≤ n) (n7 : n ≤ 7) (p30 : ws.length ≤ 30) (wr : ∀ w ∈ ws, 0 ≤ w ∧ w < (n : Int)) (all_ : ∀ y x : Nat, y < n → x < n → y ≠ x → (((y : Nat) : Int), ((x : Nat) : Int)) ∈ W) : IsWh ws ds := by
  have ld := R.ld
  have has : ∀ d ∈ ds, ∀ p : Nat, p < ws.length → (p : Int) ∈ d := fun d hd p hp => by
    obtain ⟨x, hx⟩ := List.getElem?_of_mem hd
    have xl := (List.getElem?_eq_some_iff.mp hx).1
    have hw : ws[p]? = some ws[p] := List.getElem?_eq_getElem hp
    have wr := wr _ (List.getElem_mem hp)
    have hy : ds[ws[p].toNat]? = some (ds[ws[p].toNat]'(by omega)) := List.getElem?_eq_getElem (by omega)
    have own : (p : Int) ∈ ds[ws[p].toNat]'(by omega) := by
      rcases ow p _ _ hw hy with c | c
      · cases c
      · exact c
    by_cases c : ws[p].toNat = x
    · have e := hy.symm.trans ((congrArg (fun i => ds[i]?) c).trans hx)
      rw [← Option.some.inj e]
      exact own
    · obtain ⟨j, hj⟩ := List.getElem?_of_mem (all_ ws[p].toNat x (by omega) (by omega) c)
      have jl := (List.getElem?_eq_some_iff.mp hj).1
      have hq : lt[j]? = some (lt[j]'(by have := R.ll; omega)) := List.getElem?_eq_getElem (by have := R.ll; omega)
      rcases R.went (p : Int) _ x j _ _ d hy own hj hq hx with c | c
      · exact c
      · rw [em _ (List.mem_of_getElem? hq)] at c
        cases c
  refine ⟨⟨by omega, by omega, p30, fun w hw => by rw [ld]; exact wr w hw, R.nd, R.rng, fun p w d h1 h2 => has d (List.mem_of_getElem? h2) p (List.getElem?_eq_some_iff.mp h1).1⟩, fun d hd => ?_⟩
  have up := diary_len (R.nd d hd) (R.rng d hd)
  have lo := List.Nodup.length_le_of_subset (nd_upto ws.length) (l₂ := d) fun x hx => by
    have := mem_upto.mp hx
    have h := has d hd x.toNat (by omega)
    rwa [Int.toNat_of_nonneg this.1] at h
  rw [len_upto] at lo
  omega
end

end
end Mine
/-! ## K25 -/


namespace Mine
section
variable {P : Program} {w : World} {K : PySem.W.Frag} {mg : Str → Option Value} {base : Heap} {a : Ads}

/-! ### the law's own run in which all comes -/
theorem mo_len {K : PySem.W.Frag} {i : Nat} : MoE (tCB (rLenK K) (tCons (tVar i) tNil)) := fun σ H Q Q' k ⟨v, e, p, ys, e1, e2, q⟩ => ⟨v, e, p, ys, e1, e2, k _ _ q⟩
theorem FlS.off {W : List (Int × Int)} {A : FlA} {H : Hp} {ds lt : List (List Int)} {L : Addr} (S : FlS W A H ds lt) (h : H L = none) : (L ∉ A.rs ∧ L ∉ A.ls) ∧ L ≠ A.ld ∧ L ≠ A.fl ∧ L ≠ A.dl := by
  have li : ∀ {as : List Addr} {ns : List (List Int)}, Lists H as ns → L ∉ as := fun {as ns} k m => by
    obtain ⟨i, hi⟩ := List.getElem?_of_mem m
    have il := (List.getElem?_eq_some_iff.mp hi).1
    have := k.2 i L _ hi (List.getElem?_eq_getElem (by rw [← k.1]; exact il))
    rw [h] at this
    cases this
  refine ⟨⟨li S.rs, li S.ls⟩, fun z => ?_, fun z => ?_, fun z => ?_⟩
  · rcases S.ld with q | ⟨o, q⟩ <;> (rw [← z, h] at q; cases q)
  · have q := S.fl
    rw [← z, h] at q; cases q
  · have q := S.dl
    rw [← z, h] at q; cases q
theorem FlS.other {W : List (Int × Int)} {A : FlA} {H : Hp} {ds lt : List (List Int)} {L : Addr} {u : HO} (S : FlS W A H ds lt) (n : (L ∉ A.rs ∧ L ∉ A.ls) ∧ L ≠ A.ld ∧ L ≠ A.fl ∧ L ≠ A.dl) : FlS W A (upd H L u) ds lt :=
  ⟨by rw [upd_ne n.2.2.1.symm]; exact S.fl, by rw [upd_ne n.2.2.2.symm]; exact S.dl, S.ld.mono fun w e => by rw [upd_ne n.2.1.symm]; exact e, S.rs.mono fun a m w e => by rw [upd_ne (fun (z : a = L) => n.1.1 (z ▸ m))]; exact e, S.ls.mono fun a m w e => by rw [upd_ne (fun (z : a = L) => n.1.2 (z ▸ m))]; exact e⟩
def sp__law_all_run (K : PySem.W.Frag) : Sp := fun vs H Q _ => ∃ (hd c : Addr) (n : Nat) (wl : Addr) (bs : List Addr) (W : List (Int × Int)) (vp : Addr) (ws : List Int), vs = [.ref hd, .int (n : Nat), .ref wl, .ref vp] ∧ Hand H hd c ∧ 1 ≤ n ∧ n ≤ 7 ∧ H wl = some (.lst (bs.map V.ref)) ∧ TupAll H bs W ∧ W.Nodup ∧ W.length ≤ 49 ∧ (∀ u ∈ W, (0 ≤ u.1 ∧ u.1 < (n : Int)) ∧ (0 ≤ u.2 ∧ u.2 < (n : Int)) ∧ u.1 ≠ u.2) ∧ (∀ y x : Nat, y < n → x < n → y ≠ x → (((y : Nat) : Int), ((x : Nat) : Int)) ∈ W) ∧ SqT K H vp (ws.map V.int) ∧ ws.length ≤ 30 ∧ (∀ w ∈ ws, 0 ≤ w ∧ w < (n : Int)) ∧
  ∀ (dt : Addr) (ds : List (List Int)) H', G (some (hd, c)) H H' → Hand H' hd c → Dia K H' dt ds → IsWh ws ds → Q (.ref dt) H'
theorem ok__law_all_run (T : Txt K mg a) : FnOk P w K mg base CX0 3 a.f__law_all_run a.d__law_all_run P__law_all_run (sp__law_all_run K) := by
  refine T.F__law_all_run.ok sc__law_all_run (fun vs H Q E h => by obtain ⟨hd, c, n, wl, bs, W, vp, ws, rfl, _⟩ := h; rfl) (fun cdv A0 outer s H vs Q E hr h => ?_)
  obtain ⟨hd, c, n, wl, bs, W, vp, ws, rfl, hh, n1, n7, hwl, tup, ndW, l49, Wr, Wa, hv, p30, wr, k⟩ := h
  have G__law_draw : FnOk P w K mg base CX0 1 a.f__law_draw a.d__law_draw P__law_draw sp__law_draw := ok__law_draw T
  have G__law_floor : FnOk P w K mg base CX0 1 a.f__law_floor a.d__law_floor P__law_floor (sp__law_floor K) := ok__law_floor T
  have G__law_shuffled : FnOk P w K mg base CX0 2 a.f__law_shuffled a.d__law_shuffled P__law_shuffled (sp__law_shuffled K) := ok__law_shuffled T
  have G__law_step : FnOk P w K mg base CX0 2 a.f__law_step a.d__law_step P__law_step (sp__law_step K) := ok__law_step T
  have hhp : ∀ p, some (hd, c) = some p → Hand H p.1 p.2 := fun p e => by cases e; exact hh
  have offwl : ∀ p, some (hd, c) = some p → wl ≠ p.1 := fun p e => by cases e; exact hand_neR hh hwl
  have lb := tup.1
  refine ⟨_, (pss_cons (ps_set (i := 4) sc__law_all_run.nd rfl (Or.inr rfl) (pe_call (G__law_floor) (hr.mono (by omega)) rfl T.m__law_floor T.F__law_floor.kp T.b__law_floor .nil pass0 (pa_cons (pv 1) (pa_cons (pv 2) pa_nil))))
  (pss_cons (ps_set (i := 5) sc__law_all_run.nd rfl (Or.inl rfl) (pe_call (G__law_shuffled) (hr.mono (by omega)) rfl T.m__law_shuffled T.F__law_shuffled.kp T.b__law_shuffled .nil pass0 (pa_cons (pv 0) (pa_cons (pe_listRgN rfl (by rfl) T.n_list (prg_1 (by rfl) T.n_range (pe_callB call_len_seq (by rfl) T.n_len (by decide +kernel) (pa_cons (pv 3) pa_nil))) (mo_rg1 mo_len)) pa_nil))))
  (pss_cons (ps_setLc (i := 7) (own := [("_law_wire", 6)]) (g := (gName 6))  rfl sc__law_all_run.nd rfl rfl (sw_true rfl rfl rfl (by decide +kernel)) (pi_list (pv 2)) (blkOk_by (N := N__law_all_run) (sc := defScope s__law_all_run) (by decide +kernel)) (fun _ _ _ _ _ => (pg_name (i := 6) sc__law_all_run.nd rfl (by first | exact Or.inl rfl | exact Or.inr rfl))) (fun _ _ _ _ _ => (pts_one (pt_cmpR op_gt (pe_callB (k_call_len_seq K) (by rfl) T.n_len (by decide +kernel) (pa_cons (pe_dget (hu_of hr) (pe_ix (k_ix_list K) (pv 4) pe_int (fun _ _ => rfl)) (pv 6) (by first | exact fun _ _ => rfl | rfl | decide)) pa_nil)) pe_int (nomark _)))) (fun _ _ _ _ _ => (pv 6)))
  (pss_cons (ps_while PassesOwn.never (pt_cmpR op_gt (pe_op op_add (pe_callB call_len_seq (by rfl) T.n_len (by decide +kernel) (pa_cons (pv 5) pa_nil)) (pe_callB call_len_seq (by rfl) T.n_len (by decide +kernel) (pa_cons (pv 7) pa_nil))) pe_int (nomark _))
    (pss_cons (ps_set (i := 8) sc__law_all_run.nd rfl (Or.inl rfl) (pe_call (G__law_draw) (hr.mono (by omega)) rfl T.m__law_draw T.F__law_draw.kp T.b__law_draw .nil pass0 (pa_cons (pv 0) (pa_cons (pe_op op_add (pe_callB call_len_seq (by rfl) T.n_len (by decide +kernel) (pa_cons (pv 5) pa_nil)) (pe_callB call_len_seq (by rfl) T.n_len (by decide +kernel) (pa_cons (pv 7) pa_nil))) pa_nil))))
  (pss_cons (ps_if (pt_cmpR op_lt (pv 8) (pe_callB call_len_seq (by rfl) T.n_len (by decide +kernel) (pa_cons (pv 5) pa_nil)) (nomark _))
    (pss_one (ps_expr (pe_call (G__law_step) (hr.mono (by omega)) rfl T.m__law_step T.F__law_step.kp T.b__law_step .nil pass0 (pa_cons (pv 4) (pa_cons (pv 3) (pa_cons (pe_tupN (pa_cons pe_str (pa_cons (pe_bm PySem.F.plainAttrs_list PySem.F.slot_list_pop PySem.F.type_list_pop mt_popAt (pv 5) (pa_cons (pv 8) pa_nil)) pa_nil))) pa_nil))))))
    (pss_cons (ps_set (i := 6) sc__law_all_run.nd rfl (Or.inl rfl) (pe_ix ix_list (pv 7) (pe_op op_sub (pv 8) (pe_callB call_len_seq (by rfl) T.n_len (by decide +kernel) (pa_cons (pv 5) pa_nil))) (fun _ _ => rfl)))
  (pss_one (ps_expr (pe_call (G__law_step) (hr.mono (by omega)) rfl T.m__law_step T.F__law_step.kp T.b__law_step .nil pass0 (pa_cons (pv 4) (pa_cons (pv 3) (pa_cons (pe_tupN (pa_cons pe_str (pa_cons (pe_ix ix_tup (pv 6) pe_int (fun _ _ => rfl)) (pa_cons (pe_ix ix_tup (pv 6) pe_int (fun _ _ => rfl)) pa_nil)))) pa_nil))))))))
  (pss_one (ps_setLc (i := 7) (own := [("_law_wire", 6)]) (g := (gName 6))  rfl sc__law_all_run.nd rfl rfl (sw_true rfl rfl rfl (by decide +kernel)) (pi_list (pv 2)) (blkOk_by (N := N__law_all_run) (sc := defScope s__law_all_run) (by decide +kernel)) (fun _ _ _ _ _ => (pg_name (i := 6) sc__law_all_run.nd rfl (by first | exact Or.inl rfl | exact Or.inr rfl))) (fun _ _ _ _ _ => (pts_one (pt_cmpR op_gt (pe_callB (k_call_len_seq K) (by rfl) T.n_len (by decide +kernel) (pa_cons (pe_dget (hu_of hr) (pe_ix (k_ix_list K) (pv 4) pe_int (fun _ _ => rfl)) (pv 6) (by first | exact fun _ _ => rfl | rfl | decide)) pa_nil)) pe_int (nomark _)))) (fun _ _ _ _ _ => (pv 6)))))))
  (pss_one (ps_ret (pe_callTy call_tupleN (by rfl) T.n_tuple (by decide +kernel) (pa_cons (pe_lc (own := [("_law_diary", 9)]) (g := (gName 9)) (tt := tYes) rfl sc__law_all_run.nd (pi_list (pe_ix ix_list (pv 4) pe_int (fun _ _ => rfl))) (blkOk_by (N := N__law_all_run) (sc := defScope s__law_all_run) (by decide +kernel)) (fun _ _ _ _ _ => (pg_name (i := 9) sc__law_all_run.nd rfl (by first | exact Or.inl rfl | exact Or.inr rfl))) (fun _ _ _ _ _ => pts_nil) (fun _ _ _ _ _ => (pe_callTy (k_tupleF K) (by rfl) T.n_tuple (by decide +kernel) (pa_cons (pv 9) pa_nil)))) pa_nil)))))))), ?_⟩
  walk_at "ws"
  refine ⟨n, wl, bs, W, rfl, by omega, SqL.of hwl, tup, ndW, l49, fun A H1 g1 N S1 lr ll => ?_⟩
  walk_at "ws"
  refine w_lstRg (w_rg1 ?_)
  walk_at "ws"
  refine ⟨vp, _, rfl, .inr (sqT_t g1.tups hv), _, rfl, ?_⟩
  rw [List.length_map]
  refine ⟨RgOk.of_le (by decide) (by omega) (by decide) (by omega), fun L0 H2 hL0 g2 h2 => ?_⟩
  rw [rg_upto] at h2
  walk_at "ws"
  have g02 : G (some (hd, c)) H H2 := g1.up.trans (g2 _)
  refine ⟨hd, c, L0, upto ws.length, rfl, g02.hand _ rfl hh, h2, by rw [len_upto]; omega, fun L ms H3 hL g3 hh3 h3 pm => ?_⟩
  have S2 := S1.n (g2 none)
  have g03 := g02.trans g3
  have S3 := S2.g N hh g3
  have offL := S2.off hL
  have hL0' : H L = none := back_none g1 (back_none (g2 none) hL)
  have R3 : RunI n ws.length W (List.replicate n []) ms (List.replicate W.length []) := by
    refine ⟨by rw [List.length_replicate], by rw [List.length_replicate], fun d h => ?_, fun d h p hp => ?_, fun p hp => mem_upto.mp (pm.mem_iff.mp hp), pm.nodup_iff.mpr (nd_upto _), fun p _ d h hp => ?_, fun q h p hp => ?_, fun p y x j d q e h1 hp => ?_⟩
    · rw [List.eq_of_mem_replicate h]; exact List.nodup_nil
    · rw [List.eq_of_mem_replicate h] at hp; cases hp
    · rw [List.eq_of_mem_replicate h] at hp; cases hp
    · rw [List.eq_of_mem_replicate h] at hp; cases hp
    · rw [List.eq_of_mem_replicate (List.mem_of_getElem? h1)] at hp; cases hp
  have O3 : OwnW ws (List.replicate n []) ms := fun p w d e1 _ => .inl (pm.mem_iff.mpr (mem_upto.mpr (by have := (List.getElem?_eq_some_iff.mp e1).1; omega)))
  have F3 : far n ws.length (List.replicate n []) ms (List.replicate W.length []) ≤ 20000 := by
    have h1 := tot_le (ds := List.replicate W.length ([] : List Int)) (b := 0) fun d h => by rw [List.eq_of_mem_replicate h]; exact Nat.le_refl _
    have h2 : n * ws.length ≤ 7 * 30 := Nat.mul_le_mul n7 p30
    have h3 := pm.length_eq
    rw [len_upto] at h3
    unfold far
    omega
  clear S2 S1
  generalize List.replicate n ([] : List Int) = ds at S3 R3 O3 F3
  generalize List.replicate W.length ([] : List Int) = lt at S3 R3 F3
  walk_at "ws"
  refine i_list (SqL.of (g03.keep wl _ offwl hwl)) ?_
  intro R hR
  refine lc_it (walk_list (xs := bs.map V.ref)) (fun i H' => ∃ xs : List V, G none H3 H' ∧ H' R = some (.lst xs) ∧ xs.length ≤ i ∧ (∀ v ∈ xs, ∃ (j : Nat) (b : Addr) (q : List Int), v = .ref b ∧ bs[j]? = some b ∧ lt[j]? = some q ∧ q ≠ []) ∧ ∀ (j : Nat) (q : List Int), j < i → lt[j]? = some q → q ≠ [] → xs ≠ []) ⟨[], (G.refl).mut hR (fun _ e => nomatch e), upd_same, Nat.le_refl _, (fun _ h => nomatch h), fun j q h => absurd h (Nat.not_lt_zero _)⟩ (fun i H' _ ⟨_, q, _⟩ => SqL.of (q.all _ _ (g03.keep wl _ offwl hwl))) ?_ ?_
  · rintro j v _ H7 hj ⟨xs, g7, h7, lx, hxs, cv⟩ ⟨rfl, hv'⟩
    rw [List.length_map] at hj
    rw [List.getElem?_map] at hv'
    obtain ⟨b, hb, rfl⟩ := Option.map_eq_some_iff.mp hv'
    have S7 := FlS.n S3 g7
    have lls := S7.ls.1
    obtain ⟨l, hl⟩ : ∃ l, A.ls[j]? = some l := ⟨_, List.getElem?_eq_getElem (by omega)⟩
    obtain ⟨q, hq⟩ : ∃ q, lt[j]? = some q := ⟨_, List.getElem?_eq_getElem (by omega)⟩
    obtain ⟨u, hu⟩ : ∃ u, W[j]? = some u := ⟨_, List.getElem?_eq_getElem (by omega)⟩
    have hlq := S7.ls.2 j l q hl hq
    have hb7 := ((tup.g g03 hhp).g g7 (fun _ e => nomatch e)).2 j b u hb hu
    walk_at "ws"
    refine ⟨rfl, ?_⟩
    walk_at "ws"
    refine w_dget ?_
    walk_at "ws"
    refine ⟨A.fl, _, 1, .ref A.ld, rfl, rfl, SqL.of S7.fl, at_of (j := 1) rfl rfl, ?_⟩
    walk_at "ws"
    refine ⟨A.ld, _, rfl, S7.ld.get ndW hu hl hb7, ?_⟩
    refine ⟨l, _, rfl, .inl (SqL.of hlq), ?_⟩
    walk_at "ws"
    rw [List.length_map]
    refine w_ite (fun e => ?_) (fun e => ?_)
    · walk_at "ws"
      have e' := of_decide_eq_true e
      refine ⟨xs, h7, Nat.lt_of_le_of_lt (by omega : xs.length ≤ 100000) (by decide), xs ++ [.ref b], g7.mut hR (fun _ e => nomatch e), upd_same, by rw [List.length_append, List.length_singleton]; omega, fun v hv => ?_, fun _ _ _ _ _ => by simp⟩
      rcases List.mem_append.mp hv with z | z
      · exact hxs v z
      · exact ⟨j, b, q, by simpa using z, hb, hq, fun z => by rw [z] at e'; simp at e'⟩
    · have e' := of_decide_eq_false e
      refine ⟨xs, g7, h7, by omega, hxs, fun j' q' hj' hq' nq => ?_⟩
      by_cases c : j' = j
      · subst c
        rw [hq] at hq'
        cases hq'
        exact absurd (List.eq_nil_of_length_eq_zero (by omega)) nq
      · exact cv j' q' (by omega) hq' nq
  rintro H7 ⟨xs, g7, h7, lx, hxs, cv⟩
  rw [List.length_map] at lx cv
  have g07 := g03.trans g7.up
  have S7 := S3.n g7
  have h7L := g7.all _ _ h3
  walk_at "ws"
  refine ⟨fun μ σ H' => ∃ (u6 u8 : Option V) (R : Addr) (ds lt : List (List Int)) (ms : List Int) (xs : List V), σ = [some (.ref hd), some (.int (n : Nat)), some (.ref wl), some (.ref vp), some (.ref A.fl), some (.ref L), u6, some (.ref R), u8, none] ∧ G (some (hd, c)) H H' ∧ FlS W A H' ds lt ∧ H' L = some (.lst (ms.map V.int)) ∧ H' R = some (.lst xs) ∧ RunI n ws.length W ds ms lt ∧ OwnW ws ds ms ∧ xs.length ≤ bs.length ∧ (∀ v ∈ xs, ∃ (j : Nat) (b : Addr) (q : List Int), v = .ref b ∧ bs[j]? = some b ∧ lt[j]? = some q ∧ q ≠ []) ∧ (∀ (j : Nat) (q : List Int), j < bs.length → lt[j]? = some q → q ≠ [] → xs ≠ []) ∧ far n ws.length ds ms lt ≤ 20000 ∧ μ = far n ws.length ds ms lt, ⟨_, _, _, R, ds, lt, ms, xs, rfl, g07, S7, h7L, h7, R3, O3, lx, hxs, cv, F3, rfl⟩, ?_⟩
  clear cv hxs lx h7 h7L S7 g07 R3 O3 F3 S3 h3
  clear g7
  rintro μ σ HA ⟨u6, u8, R, ds, lt, ms, xs, rfl, gA, SA, hLA, hRA, RA, OA, lx, hxs, cv, FA, rfl⟩
  have hhA := gA.hand _ rfl hh
  walk_at "ws"
  refine ⟨L, _, rfl, .inl (SqL.of hLA), ?_⟩
  walk_at "ws"
  refine ⟨R, _, rfl, .inl (SqL.of hRA), ?_⟩
  walk_at "ws"
  rw [List.length_map]
  refine w_ite (fun e => ?_) (fun e => ?_)
  · have e := of_decide_eq_true e
    refine ⟨fun σ H' => ∃ (u6 u8 : Option V) (R : Addr) (ds' lt' : List (List Int)) (ms' : List Int) (xs : List V), σ = [some (.ref hd), some (.int (n : Nat)), some (.ref wl), some (.ref vp), some (.ref A.fl), some (.ref L), u6, some (.ref R), u8, none] ∧ G (some (hd, c)) H H' ∧ FlS W A H' ds' lt' ∧ H' L = some (.lst (ms'.map V.int)) ∧ H' R = some (.lst xs) ∧ RunI n ws.length W ds' ms' lt' ∧ OwnW ws ds' ms' ∧ xs.length ≤ bs.length ∧ (∀ v ∈ xs, ∃ (j : Nat) (b : Addr) (q : List Int), v = .ref b ∧ bs[j]? = some b ∧ lt'[j]? = some q ∧ q ≠ []) ∧ (∀ (j : Nat) (q : List Int), j < bs.length → lt'[j]? = some q → q ≠ [] → xs ≠ []) ∧ far n ws.length ds' ms' lt' ≤ 20000 ∧ far n ws.length ds' ms' lt' < far n ws.length ds ms lt, ?_, ?_⟩
    · rintro σ' H' ⟨u6', u8', R', ds', lt', ms', xs', rfl, q1, q2, q3, q4, q5, q6, q7, q8, q9, q10, q11⟩
      exact ⟨_, q11, u6', u8', R', ds', lt', ms', xs', rfl, q1, q2, q3, q4, q5, q6, q7, q8, q9, q10, rfl⟩
    · have tup1 := tup.1
      have msl : ms.length ≤ 20000 := by unfold far at FA; omega
      have ltl : ∀ l ∈ lt, l.length ≤ 80000 := fun l hl => by
        have : l.length ≤ tot lt := by
          obtain ⟨j, hj⟩ := List.getElem?_of_mem hl
          have := tot_set [] hj
          rw [List.length_nil] at this
          omega
        unfold far at FA
        omega
      have dsl : ∀ d ∈ ds, d.length ≤ 80000 := fun d hd => by
        have := diary_len (RA.nd d hd) (RA.rng d hd)
        omega
      have nL : ∀ p, some (hd, c) = some p → L ≠ p.1 := fun p e => by cases e; exact hh.ne hL0'
      walk_at "wn"
      dsimp only
      refine w_seq ?_
      walk_at "ws"
      refine ⟨L, _, rfl, .inl (SqL.of hLA), ?_⟩
      walk_at "ws"
      refine ⟨R, _, rfl, .inl (SqL.of hRA), ?_⟩
      walk_at "ws"
      rw [List.length_map]
      refine ⟨hd, c, (ms.length : Int) + (xs.length : Int), rfl, hhA, by omega, by omega, fun r HB r0 r1 gB hhB => ?_⟩
      have gHB := gA.trans gB
      have SB := SA.g N hh gB
      have hLB := gB.keep L _ nL hLA
      dsimp only
      refine w_seqM (fun σ H' => ∃ (u6 u8 : Option V) (ds' lt' : List (List Int)) (ms' : List Int), σ = [some (.ref hd), some (.int (n : Nat)), some (.ref wl), some (.ref vp), some (.ref A.fl), some (.ref L), u6, some (.ref R), u8, none] ∧ G (some (hd, c)) H H' ∧ FlS W A H' ds' lt' ∧ H' L = some (.lst (ms'.map V.int)) ∧ RunI n ws.length W ds' ms' lt' ∧ OwnW ws ds' ms' ∧ far n ws.length ds' ms' lt' < far n ws.length ds ms lt) (fun N2 kN => ?_) ?_
      · walk_at "ws"
        refine ⟨L, _, rfl, .inl (SqL.of hLB), ?_⟩
        walk_at "ws"
        rw [List.length_map]
        refine w_ite (fun e2 => ?_) (fun e2 => ?_)
        · have e2 := of_decide_eq_true e2
          have rl : r.toNat < ms.length := by omega
          have pr := RA.lr _ (List.getElem_mem rl)
          obtain ⟨p, hp⟩ : ∃ p : Nat, ms[r.toNat] = (p : Int) := ⟨ms[r.toNat].toNat, by omega⟩
          have hms : ms[r.toNat]? = some ((p : Nat) : Int) := by rw [List.getElem?_eq_getElem rl, hp]
          have hw : ws[p]? = some (ws[p]'(by omega)) := List.getElem?_eq_getElem (by omega)
          have wrp := wr _ (List.getElem_mem (show p < ws.length by omega))
          obtain ⟨m, hm⟩ : ∃ m : Nat, ws[p]'(by omega) = (m : Int) := ⟨(ws[p]'(by omega)).toNat, by omega⟩
          rw [hm] at hw wrp
          obtain ⟨d, hd'⟩ : ∃ d, ds[m]? = some d := ⟨_, List.getElem?_eq_getElem (by have := RA.ld; omega)⟩
          have pin : ((p : Nat) : Int) ∈ ms := List.mem_of_getElem? hms
          have nin := RA.new _ pin d (List.mem_of_getElem? hd')
          have nout : ((p : Nat) : Int) ∉ ms.eraseIdx r.toNat := fun z => by
            obtain ⟨i, ni, hi⟩ := List.mem_eraseIdx_iff_getElem?.mp z
            exact ni (nd_ix RA.nl hi hms)
          walk_at "ws"
          refine i_BM hLB ?_
          walk_at "ws"
          refine ⟨L, ms.map V.int, r, r.toNat, .int ((p : Nat) : Int), rfl, rfl, hLB, by omega, by omega, pop_ix r0 rl, by rw [List.getElem?_map, hms]; rfl, ?_⟩
          rw [erase_intsL]
          have SC := SB.other (u := .lst ((ms.eraseIdx r.toNat).map V.int)) offL
          have hLC : (upd HB L (.lst ((ms.eraseIdx r.toNat).map V.int))) L = some (.lst ((ms.eraseIdx r.toNat).map V.int)) := upd_same
          have gC := gHB.mut hL0' hhp (u := .lst ((ms.eraseIdx r.toNat).map V.int))
          generalize upd HB L (.lst ((ms.eraseIdx r.toNat).map V.int)) = HC at SC hLC gC ⊢
          walk_at "ws"
          refine ⟨sz (by simp), fun st HD hst gD hD => ?_⟩
          walk_at "ws"
          refine ⟨A, W, ds, lt, vp, st, ws, H, rfl, N, SC.n (gD none), ndW, ll, l49, dsl, ltl, by have := RA.ld; omega, .inl ⟨p, m, d, hD, sqT_t (gC.trans (gD _)).tups hv, hw, hd', fun d2 h2 => RA.new _ pin d2 h2, fun HE fE SE => ?_⟩⟩
          walk_at "ws"
          have R' := (RA.less (List.eraseIdx_sublist ms r.toNat)).write hd' nin (by omega) nout
          refine kN _ _ ⟨_, _, _, _, _, rfl, Fw.g (gC.trans (gD _)) N hhp fE, SE, fE.keep L _ ((gD none).all _ _ hLC) offL.1.1 offL.1.2 offL.2.1, R', OA.put hms hw hd', far_put RA l49 hd' R' (by rw [List.length_eraseIdx_of_lt rl]; omega) rfl⟩
        · have e2 := of_decide_eq_false e2
          obtain ⟨k0, hk0, kx⟩ : ∃ k0 : Nat, r = (ms.length : Int) + (k0 : Nat) ∧ k0 < xs.length := ⟨(r - ms.length).toNat, by omega, by omega⟩
          have offR : ∀ p, some (hd, c) = some p → R ≠ p.1 := fun p e => by
            cases e
            intro z
            obtain ⟨_, _, i, b0, m0, k1, z2, _⟩ := hhA
            have z3 : HA R = some (.lst [.ref c, .int i, .int b0, .int m0, .int k1]) := by rw [z]; exact z2
            rw [hRA] at z3
            have z4 : xs = [.ref c, .int i, .int b0, .int m0, .int k1] := by injection z3 with z3; injection z3
            obtain ⟨_, _, _, z5, _⟩ := hxs (.int i) (by rw [z4]; simp)
            cases z5
          have hRB := gB.keep R _ offR hRA
          obtain ⟨j, b, q, ev, hb, hq, nq⟩ := hxs xs[k0] (List.getElem_mem kx)
          obtain ⟨u, hu⟩ : ∃ u, W[j]? = some u := ⟨_, List.getElem?_eq_getElem (by have := (List.getElem?_eq_some_iff.mp hb).1; omega)⟩
          have hur := Wr u (List.mem_of_getElem? hu)
          obtain ⟨m, hm⟩ : ∃ m : Nat, u.2 = (m : Int) := ⟨u.2.toNat, by omega⟩
          obtain ⟨y, x⟩ := u
          have hm : x = (m : Int) := hm
          subst hm
          obtain ⟨d, hd'⟩ : ∃ d, ds[m]? = some d := ⟨_, List.getElem?_eq_getElem (by have := RA.ld; omega)⟩
          have hbB := (tup.g gHB hhp).2 j b _ hb hu
          match q, nq, hq with
          | [], nq, _ => exact absurd rfl nq
          | p :: rest, _, hq =>
            walk_at "ws"
            refine ⟨L, _, rfl, .inl (SqL.of hLB), ?_⟩
            walk_at "ws"
            rw [List.length_map]
            refine ⟨R, xs, r - (ms.length : Int), .ref b, rfl, rfl, SqL.of hRB, at_of (j := k0) (by omega) (by rw [List.getElem?_eq_getElem kx, ev]), ?_⟩
            walk_at "ws"
            refine r_ixT (SqT.of hbB) (v := .int y) (at_of (j := 0) rfl rfl) ?_
            walk_at "ws"
            refine r_ixT (SqT.of hbB) (v := .int ((m : Nat) : Int)) (at_of (j := 1) rfl rfl) ?_
            walk_at "ws"
            refine ⟨sz (by simp), fun st HD hst gD hD => ?_⟩
            walk_at "ws"
            refine ⟨A, W, ds, lt, vp, st, ws, H, rfl, N, SB.n (gD none), ndW, ll, l49, dsl, ltl, by have := RA.ld; omega, .inr ⟨j, m, y, p, d, rest, hD, hu, hq, hd', fun HE fE had nw => ?_⟩⟩
            walk_at "ws"
            have hLE := fE.keep L _ ((gD none).all _ _ hLB) offL.1.1 offL.1.2 offL.2.1
            have gE := Fw.g (gHB.trans (gD _)) N hhp fE
            by_cases c1 : p ∈ d
            · exact kN _ _ ⟨_, _, _, _, _, rfl, gE, had c1, hLE, RA.take hu hq hd' c1, OA, far_had hq⟩
            · have R' := RA.come hu hur.2.2 hq hd' c1
              exact kN _ _ ⟨_, _, _, _, _, rfl, gE, nw c1, hLE, R', OA.sup hd', far_come RA l49 hq hd' R'⟩
      · clear SA SB gB hLB hLA hRA hxs cv lx gHB hhB
        rintro σ' H9 ⟨w6, w8, ds2, lt2, ms2, rfl, g9, S9, h9L, R9, O9, f9⟩
        walk_at "ws"
        refine i_list (SqL.of (g9.keep wl _ offwl hwl)) ?_
        intro R hR
        refine lc_it (walk_list (xs := bs.map V.ref)) (fun i H' => ∃ xs : List V, G none H9 H' ∧ H' R = some (.lst xs) ∧ xs.length ≤ i ∧ (∀ v ∈ xs, ∃ (j : Nat) (b : Addr) (q : List Int), v = .ref b ∧ bs[j]? = some b ∧ lt2[j]? = some q ∧ q ≠ []) ∧ ∀ (j : Nat) (q : List Int), j < i → lt2[j]? = some q → q ≠ [] → xs ≠ []) ⟨[], (G.refl).mut hR (fun _ e => nomatch e), upd_same, Nat.le_refl _, (fun _ h => nomatch h), fun j q h => absurd h (Nat.not_lt_zero _)⟩ (fun i H' _ ⟨_, q, _⟩ => SqL.of (q.all _ _ (g9.keep wl _ offwl hwl))) ?_ ?_
        · rintro j v _ H7 hj ⟨xs, g7, h7, lx, hxs, cv⟩ ⟨rfl, hv'⟩
          rw [List.length_map] at hj
          rw [List.getElem?_map] at hv'
          obtain ⟨b, hb, rfl⟩ := Option.map_eq_some_iff.mp hv'
          have S7 := FlS.n S9 g7
          have lls := S7.ls.1
          obtain ⟨l, hl⟩ : ∃ l, A.ls[j]? = some l := ⟨_, List.getElem?_eq_getElem (by omega)⟩
          obtain ⟨q, hq⟩ : ∃ q, lt2[j]? = some q := ⟨_, List.getElem?_eq_getElem (by omega)⟩
          obtain ⟨u, hu⟩ : ∃ u, W[j]? = some u := ⟨_, List.getElem?_eq_getElem (by omega)⟩
          have hlq := S7.ls.2 j l q hl hq
          have hb7 := ((tup.g g9 hhp).g g7 (fun _ e => nomatch e)).2 j b u hb hu
          walk_at "ws"
          refine ⟨rfl, ?_⟩
          walk_at "ws"
          refine w_dget ?_
          walk_at "ws"
          refine ⟨A.fl, _, 1, .ref A.ld, rfl, rfl, SqL.of S7.fl, at_of (j := 1) rfl rfl, ?_⟩
          walk_at "ws"
          refine ⟨A.ld, _, rfl, S7.ld.get ndW hu hl hb7, ?_⟩
          refine ⟨l, _, rfl, .inl (SqL.of hlq), ?_⟩
          walk_at "ws"
          rw [List.length_map]
          refine w_ite (fun e => ?_) (fun e => ?_)
          · walk_at "ws"
            have e' := of_decide_eq_true e
            refine ⟨xs, h7, Nat.lt_of_le_of_lt (by omega : xs.length ≤ 100000) (by decide), xs ++ [.ref b], g7.mut hR (fun _ e => nomatch e), upd_same, by rw [List.length_append, List.length_singleton]; omega, fun v hv => ?_, fun _ _ _ _ _ => by simp⟩
            rcases List.mem_append.mp hv with z | z
            · exact hxs v z
            · exact ⟨j, b, q, by simpa using z, hb, hq, fun z => by rw [z] at e'; simp at e'⟩
          · have e' := of_decide_eq_false e
            refine ⟨xs, g7, h7, by omega, hxs, fun j' q' hj' hq' nq => ?_⟩
            by_cases c : j' = j
            · subst c
              rw [hq] at hq'
              cases hq'
              exact absurd (List.eq_nil_of_length_eq_zero (by omega)) nq
            · exact cv j' q' (by omega) hq' nq
        rintro H7 ⟨xs, g7, h7, lx, hxs, cv⟩
        rw [List.length_map] at lx cv
        walk_at "ws"
        exact ⟨_, _, _, ds2, lt2, ms2, xs, rfl, g9.trans g7.up, S9.n g7, g7.all _ _ h9L, h7, R9, O9, lx, hxs, cv, by omega, f9⟩
  · have e := of_decide_eq_false e
    have m0 : ms = [] := List.eq_nil_of_length_eq_zero (by omega)
    have x0 : xs = [] := List.eq_nil_of_length_eq_zero (by omega)
    subst m0 x0
    have em : ∀ q ∈ lt, q = [] := fun q hq => by
      obtain ⟨j, hj⟩ := List.getElem?_of_mem hq
      have := (List.getElem?_eq_some_iff.mp hj).1
      have := RA.ll
      exact Decidable.byContradiction fun nq => cv j q (by omega) hj nq rfl
    walk_at "ws"
    refine ⟨A.fl, _, 0, .ref A.dl, rfl, rfl, SqL.of SA.fl, at_of (j := 0) rfl rfl, ?_⟩
    refine i_list (SqL.of SA.dl) ?_
    intro D hD
    refine lc_it (walk_list (xs := A.rs.map V.ref)) (fun i H' => ∃ ts : List Addr, G none HA H' ∧ H' D = some (.lst (ts.map V.ref)) ∧ Ords H' ts (ds.take i)) ⟨[], (G.refl).mut hD (fun _ e => nomatch e), upd_same, Ords.nil⟩ (fun i H' _ ⟨_, q, _⟩ => SqL.of (q.all _ _ SA.dl)) ?_ ?_
    · rintro i v _ HB hi ⟨ts, gB, hB, OB⟩ ⟨rfl, hv'⟩
      rw [List.length_map] at hi
      rw [List.getElem?_map] at hv'
      obtain ⟨b, hb, rfl⟩ := Option.map_eq_some_iff.mp hv'
      have rl := SA.rs.1
      obtain ⟨d, hd'⟩ : ∃ d, ds[i]? = some d := ⟨_, List.getElem?_eq_getElem (by omega)⟩
      have hbd := gB.all _ _ (SA.rs.2 i b d hb hd')
      have tl : ts.length ≤ 7 := by
        have h1 := OB.1
        have h2 := RA.ld
        rw [List.length_take] at h1
        omega
      walk_at "ws"
      refine ⟨rfl, ?_⟩
      walk_at "ws"
      refine ⟨b, d.map V.int, rfl, SqL.of hbd, fun p HC hp gC fC => ?_⟩
      have hC := (gC none).all _ _ hB
      refine ⟨ts.map V.ref, hC, Nat.lt_of_le_of_lt (by rw [List.length_map]; omega : (ts.map V.ref).length ≤ 100000) (by decide), ts ++ [p], (gB.trans (gC none)).mut hD (fun _ e => nomatch e), by rw [upd_same, List.map_append]; rfl, ?_⟩
      rw [List.take_add_one, hd']
      exact ((OB.n (gC none)).app (Ords.one fC)).upd hC
    · rintro HB ⟨ts, gB, hB, OB⟩
      rw [List.length_map, SA.rs.1, List.take_length] at OB
      walk_at "ws"
      refine ⟨D, _, rfl, .inl ⟨SqL.of hB, fun t HC ht gC hC => ?_⟩⟩
      have gAC : G (some (hd, c)) HA HC := (gB.trans (gC none)).up
      exact k t ds HC (gA.trans gAC) (gAC.hand _ rfl hhA) ⟨ts, SqT.of hC, OB.1, (OB.n (gC none)).2⟩ (run_end RA OA em n1 n7 p30 wr Wa)

end
end Mine
/-! ## K26 -/


namespace Mine
section
variable {P : Program} {w : World} {K : PySem.W.Frag} {mg : Str → Option Value} {base : Heap} {a : Ads}

/-! ### whole records -/
def okP (n : Nat) (u : Int × Int) : Prop := (0 ≤ u.1 ∧ u.1 < (n : Int)) ∧ (0 ≤ u.2 ∧ u.2 < (n : Int)) ∧ u.1 ≠ u.2
def rowW (n y : Nat) : List (Int × Int) := (List.range n).filterMap fun (x : Nat) => if x = y then none else some ((y : Int), (x : Int))
def allW (n i : Nat) : List (Int × Int) := (List.range i).flatMap (rowW n)
theorem rowW_mem (n y : Nat) (u : Int × Int) : u ∈ rowW n y ↔ u.1 = (y : Int) ∧ (0 ≤ u.2 ∧ u.2 < n) ∧ u.1 ≠ u.2 := by
  unfold rowW
  rw [List.mem_filterMap]
  constructor
  · rintro ⟨x, hx, e⟩
    have := List.mem_range.mp hx
    by_cases c : x = y
    · rw [if_pos c] at e; cases e
    · rw [if_neg c] at e
      cases e
      exact ⟨rfl, ⟨Int.natCast_nonneg x, by show (x : Int) < n; omega⟩, by show ¬ (y : Int) = x; omega⟩
  · rintro ⟨h1, ⟨h2, h3⟩, h4⟩
    refine ⟨u.2.toNat, List.mem_range.mpr (by omega), ?_⟩
    rw [if_neg (by omega)]
    exact congrArg some (Prod.ext h1.symm (by show ((u.2.toNat : Nat) : Int) = u.2; omega))
theorem allW_mem (n : Nat) (u : Int × Int) : u ∈ allW n n ↔ okP n u := by
  unfold allW okP
  rw [List.mem_flatMap]
  constructor
  · rintro ⟨y, hy, hu⟩
    have := (rowW_mem n y u).mp hu
    have := List.mem_range.mp hy
    omega
  · intro h
    exact ⟨u.1.toNat, List.mem_range.mpr (by omega), (rowW_mem n _ u).mpr (by omega)⟩
theorem allW_succ (n i : Nat) : allW n (i + 1) = allW n i ++ rowW n i := by
  unfold allW
  rw [List.range_succ, List.flatMap_append]
  simp
theorem rowW_len (n y : Nat) : (rowW n y).length ≤ n := by
  unfold rowW
  refine Nat.le_trans (List.length_filterMap_le _ _) ?_
  rw [List.length_range]; exact Nat.le_refl _
theorem allW_len : ∀ n, n ≤ 7 → ∀ i, i ≤ n → (allW n i).length ≤ 42 := by decide +kernel
theorem allW_asc : ∀ n, n ≤ 7 → (allW n n).Nodup := by decide +kernel
theorem allW_l : ∀ n, n ≤ 7 → (allW n n).length ≤ 49 := by decide +kernel
theorem TupAll.put {H : Hp} {bs : List Addr} {ws : List (Int × Int)} {l : Addr} {xs : List V} {u : HO} (h : TupAll H bs ws) (hl : H l = some (.lst xs)) : TupAll (upd H l u) bs ws := ⟨h.1, fun i b w e1 e2 => by
  have q1 := h.2 i b w e1 e2
  rw [upd_ne (ne_of q1 hl (by intro z; cases z))]
  exact q1⟩
theorem TupAll.app {H : Hp} {bs : List Addr} {ws : List (Int × Int)} {t : Addr} {u : Int × Int} (h : TupAll H bs ws) (ht : H t = some (.tup [.int u.1, .int u.2])) : TupAll H (bs ++ [t]) (ws ++ [u]) := ⟨by simp [h.1], fun i b w e1 e2 => by
  by_cases c : i < bs.length
  · rw [List.getElem?_append_left c] at e1
    rw [List.getElem?_append_left (by rw [← h.1]; exact c)] at e2
    exact h.2 i b w e1 e2
  · rw [List.getElem?_append_right (by omega)] at e1
    rw [List.getElem?_append_right (by rw [← h.1]; omega), ← h.1] at e2
    cases q : i - bs.length with
    | zero =>
      rw [q] at e1 e2
      simp at e1 e2
      subst e1 e2
      exact ht
    | succ j =>
      rw [q] at e1
      simp at e1⟩

theorem shuffled_wh {n m : Nat} {ws : List Int} {ds : List (List Int)} (n1 : 1 ≤ n) (n7 : n ≤ 7) (m30 : m ≤ 30) (hw : ws.length = m) (hd : ds.length = n) (wr : ∀ w ∈ ws, 0 ≤ w ∧ w < (n : Int)) (pm : ∀ d ∈ ds, d.Perm (upto m)) : IsWh ws ds := by
  refine ⟨⟨by omega, by omega, by omega, fun w h => by rw [hd]; exact wr w h, fun d h => (pm d h).nodup_iff.mpr (nd_upto m), fun d h p hp => ?_, fun p w d e1 e2 => ?_⟩, fun d h => ?_⟩
  · rw [hw]
    exact mem_upto.mp ((pm d h).mem_iff.mp hp)
  · have := (List.getElem?_eq_some_iff.mp e1).1
    exact (pm d (List.mem_of_getElem? e2)).mem_iff.mpr (mem_upto.mpr (by omega))
  · rw [(pm d h).length_eq, len_upto, hw]
def sp__law_whole_record (K : PySem.W.Frag) : Sp := fun vs H Q _ => ∃ (hd c : Addr) (n m : Nat), vs = [.ref hd, .int (n : Nat), .int (m : Nat)] ∧ Hand H hd c ∧ 1 ≤ n ∧ n ≤ 7 ∧ m ≤ 30 ∧
  ∀ (p vp dp : Addr) (ws : List Int) (ds : List (List Int)) H', G (some (hd, c)) H H' → Hand H' hd c → H' p = some (.tup [.ref vp, .ref dp]) → SqT K H' vp (ws.map V.int) → Dia K H' dp ds → IsWh ws ds → Q (.ref p) H'
theorem ok__law_whole_record (T : Txt K mg a) : FnOk P w K mg base CX0 4 a.f__law_whole_record a.d__law_whole_record P__law_whole_record (sp__law_whole_record K) := by
  refine T.F__law_whole_record.ok sc__law_whole_record (fun vs H Q E h => by obtain ⟨hd, c, n, m, rfl, _⟩ := h; rfl) (fun cdv A outer s H vs Q E hr h => ?_)
  obtain ⟨hd, c, n, m, rfl, hh, n1, n7, m30, k⟩ := h
  have G__law_draw : FnOk P w K mg base CX0 1 a.f__law_draw a.d__law_draw P__law_draw sp__law_draw := ok__law_draw T
  have G__law_shuffled : FnOk P w K mg base CX0 2 a.f__law_shuffled a.d__law_shuffled P__law_shuffled (sp__law_shuffled K) := ok__law_shuffled T
  have G__law_all_run : FnOk P w K mg base CX0 3 a.f__law_all_run a.d__law_all_run P__law_all_run (sp__law_all_run K) := ok__law_all_run T
  refine ⟨_, (pss_cons (ps_set (i := 3) sc__law_whole_record.nd rfl (Or.inl rfl) (pe_callTy call_tupleN (by rfl) T.n_tuple (by decide +kernel) (pa_cons (pe_lc (own := [("_law_put", 6)]) (g := (gName 6)) (tt := tYes) rfl sc__law_whole_record.nd (pi_range1 rfl T.n_range (pa_cons (pv 2) pa_nil)) (blkOk_by (N := N__law_whole_record) (sc := defScope s__law_whole_record) (by decide +kernel)) (fun _ _ _ _ _ => (pg_name (i := 6) sc__law_whole_record.nd rfl (by first | exact Or.inl rfl | exact Or.inr rfl))) (fun _ _ _ _ _ => pts_nil) (fun _ _ _ _ _ => (pe_call (G__law_draw) (hr.mono (by omega)) rfl T.m__law_draw T.F__law_draw.kp T.b__law_draw .nil pass0 (pa_cons (pv 0) (pa_cons (pv 1) pa_nil))))) pa_nil)))
  (pss_cons (ps_if (pt_cmpR op_eq (pe_call (G__law_draw) (hr.mono (by omega)) rfl T.m__law_draw T.F__law_draw.kp T.b__law_draw .nil pass0 (pa_cons (pv 0) (pa_cons pe_int pa_nil))) pe_int (nomark _))
    (pss_one (ps_ret (pe_tupN (pa_cons (pv 3) (pa_cons (pe_callTy call_tupleN (by rfl) T.n_tuple (by decide +kernel) (pa_cons (pe_lc (own := [("_law_x", 7)]) (g := (gName 7)) (tt := tYes) rfl sc__law_whole_record.nd (pi_range1 rfl T.n_range (pa_cons (pv 1) pa_nil)) (blkOk_by (N := N__law_whole_record) (sc := defScope s__law_whole_record) (by decide +kernel)) (fun _ _ _ _ _ => (pg_name (i := 7) sc__law_whole_record.nd rfl (by first | exact Or.inl rfl | exact Or.inr rfl))) (fun _ _ _ _ _ => pts_nil) (fun _ _ _ _ _ => (pe_callTy (k_tupleF K) (by rfl) T.n_tuple (by decide +kernel) (pa_cons (pe_call (G__law_shuffled) (hr.mono (by omega)) rfl T.m__law_shuffled T.F__law_shuffled.kp T.b__law_shuffled .nil pass0 (pa_cons (pv 0) (pa_cons (pe_listRgN rfl (by rfl) T.n_list (prg_1 (by rfl) T.n_range (pv 2)) (mo_rg1 mo_var)) pa_nil))) pa_nil)))) pa_nil)) pa_nil)))))
    pss_nil)
  (pss_cons (ps_set (i := 4) sc__law_whole_record.nd rfl (Or.inl rfl) (pe_lstN pa_nil))
  (pss_cons (ps_for PassesOwn.never rfl (pi_range1 rfl T.n_range (pa_cons (pv 1) pa_nil)) (pg_name (i := 5) sc__law_whole_record.nd rfl (Or.inr rfl))
    (pss_one (ps_expr (pe_bm PySem.F.plainAttrs_list PySem.F.slot_list_extend PySem.F.type_list_extend mt_extend (pv 4) (pa_cons (pe_lc (own := [("_law_x", 7)]) (g := (gName 7)) rfl sc__law_whole_record.nd (pi_range1 rfl T.n_range (pa_cons (pv 1) pa_nil)) (blkOk_by (N := N__law_whole_record) (sc := defScope s__law_whole_record) (by decide +kernel)) (fun _ _ _ _ _ => (pg_name (i := 7) sc__law_whole_record.nd rfl (by first | exact Or.inl rfl | exact Or.inr rfl))) (fun _ _ _ _ _ => (pts_one (pt_cmpR op_ne (pv 7) (pv 5) (nomark _)))) (fun _ _ _ _ _ => (pe_tupN (pa_cons (pv 5) (pa_cons (pv 7) pa_nil))))) pa_nil)))))
  (pss_one (ps_ret (pe_tupN (pa_cons (pv 3) (pa_cons (pe_call (G__law_all_run) (hr.mono (by omega)) rfl T.m__law_all_run T.F__law_all_run.kp T.b__law_all_run .nil pass0 (pa_cons (pv 0) (pa_cons (pv 1) (pa_cons (pv 4) (pa_cons (pv 3) pa_nil))))) pa_nil))))))))), ?_⟩
  walk_at "ws"
  refine i_rng1 (by omega) (by omega) ?_
  rw [Int.toNat_natCast]
  intro D hD
  have hD0 : ∀ p, some (hd, c) = some p → D ≠ p.1 := fun p e => by cases e; exact hh.ne hD
  refine lc_it walk_range (fun i H' => ∃ ws : List Int, G (some (hd, c)) H H' ∧ H' D = some (.lst (ws.map V.int)) ∧ ws.length = i ∧ ∀ w ∈ ws, 0 ≤ w ∧ w < (n : Int)) ⟨[], (G.refl).mut hD (fun p e => by cases e; exact hh), upd_same, rfl, fun _ h => nomatch h⟩ (fun _ _ _ _ => trivial) ?_ ?_
  · rintro i _ _ H1 hi ⟨ws, g1, h1, wl, wr⟩ ⟨rfl, rfl⟩
    have hh1 := g1.hand _ rfl hh
    walk_at "ws"
    refine ⟨rfl, ?_⟩
    walk_at "ws"
    refine ⟨hd, c, (n : Int), rfl, hh1, by omega, by omega, fun r H2 r0 r1 g2 hh2 => ?_⟩
    have h2 := g2.keep D _ hD0 h1
    refine ⟨ws.map V.int, h2, Nat.lt_of_le_of_lt (by rw [List.length_map]; omega : (ws.map V.int).length ≤ 100000) (by decide), ws ++ [r], (g1.trans g2).mut hD (fun p e => by cases e; exact hh), by rw [upd_same, List.map_append]; rfl, by rw [List.length_append, wl]; rfl, fun w hw => ?_⟩
    rcases List.mem_append.mp hw with z | z
    · exact wr w z
    · have e : w = r := by simpa using z
      rw [e]
      exact ⟨r0, r1⟩
  rintro H1 ⟨ws, g1, h1, wl, wr⟩
  walk_at "ws"
  refine ⟨D, _, rfl, .inl ⟨SqL.of h1, fun vp H2 hvp g2 h2 => ?_⟩⟩
  have hh1 := g1.hand _ rfl hh
  have hh2 := (g2 _).hand _ rfl hh1
  have g02 : G (some (hd, c)) H H2 := g1.trans (g2 _)
  walk_at "ws"
  refine ⟨hd, c, 4, rfl, hh2, by omega, by omega, fun r H3 r0 r1 g3 hh3 => ?_⟩
  have g03 := g02.trans g3
  have v3 : SqT K H3 vp (ws.map V.int) := sqT_t g3.tups (SqT.of h2)
  clear h1 h2 hD0 g1 g2 hh1 hh2 g02 g3
  walk_at "ws"
  refine w_ite (fun c0 => ?_) (fun c0 => ?_)
  · walk_at "ws"
    refine i_rng1 (by omega) (by omega) ?_
    rw [Int.toNat_natCast]
    intro D2 hD2
    have hD3 : ∀ p, some (hd, c) = some p → D2 ≠ p.1 := fun p e => by cases e; exact hh3.ne hD2
    refine lc_it walk_range (fun i H' => ∃ (ts : List Addr) (ds : List (List Int)), G (some (hd, c)) H3 H' ∧ H' D2 = some (.lst (ts.map V.ref)) ∧ Ords H' ts ds ∧ ts.length = i ∧ ∀ d ∈ ds, d.Perm (upto m)) ⟨[], [], (G.refl).mut hD2 (fun p e => by cases e; exact hh3), upd_same, Ords.nil, rfl, fun _ h => nomatch h⟩ (fun _ _ _ _ => trivial) ?_ ?_
    · rintro i _ _ H4 hi ⟨ts, ds, g4, h4, O4, tl, pm⟩ ⟨rfl, rfl⟩
      have hh4 := g4.hand _ rfl hh3
      walk_at "ws"
      refine ⟨rfl, ?_⟩
      walk_at "ws"
      refine w_lstRg (w_rg1 ?_)
      walk_at "ws"
      refine ⟨RgOk.of_le (by decide) (by omega) (by decide) (by omega), fun L H5 hL g5 h5 => ?_⟩
      rw [rg_upto] at h5
      walk_at "ws"
      refine ⟨hd, c, L, upto m, rfl, (g5 _).hand _ rfl hh4, h5, by rw [len_upto]; omega, fun l ms H6 hl g6 hh6 h6 p6 => ?_⟩
      walk_at "ws"
      refine ⟨l, ms.map V.int, rfl, SqL.of h6, fun p H7 hp g7 f7 => ?_⟩
      have g46 : G (some (hd, c)) H4 H6 := (g5 _).trans g6
      have h7 := (g7 none).all _ _ (g46.keep D2 _ hD3 h4)
      refine ⟨ts.map V.ref, h7, Nat.lt_of_le_of_lt (by rw [List.length_map]; omega : (ts.map V.ref).length ≤ 100000) (by decide), ts ++ [p], ds ++ [ms], (g4.trans (g46.trans (g7 _))).mut hD2 (fun p e => by cases e; exact hh3), by rw [upd_same, List.map_append]; rfl, ?_, by rw [List.length_append, tl]; rfl, fun d hd => ?_⟩
      · exact (((ords_h O4 g46 hh4).n (g7 none)).app (Ords.one f7)).upd h7
      · rcases List.mem_append.mp hd with z | z
        · exact pm d z
        · have e : d = ms := by simpa using z
          rw [e]
          exact p6
    · rintro H4 ⟨ts, ds, g4, h4, O4, tl, pm⟩
      have dl : ds.length = n := by have := O4.1; omega
      walk_at "ws"
      refine ⟨D2, _, rfl, .inl ⟨SqL.of h4, fun dp H5 hdp g5 h5 => ?_⟩⟩
      walk_at "ws"
      refine ⟨sz (by simp), fun p H6 hp g6 h6 => ?_⟩
      have g36 : G (some (hd, c)) H3 H6 := g4.trans ((g5 _).trans (g6 _))
      refine k p vp dp ws ds H6 (g03.trans g36) (g36.hand _ rfl hh3) h6 (sqT_t g36.tups v3) ⟨ts, sqT_t (g6 none).tups (SqT.of h5), O4.1, ((O4.n (g5 none)).n (g6 none)).2⟩ (shuffled_wh n1 n7 m30 wl dl wr pm)
  · walk_at "ws"
    refine ⟨sz (by simp), fun D H1 hD g1 h1 => ?_⟩
    walk_at "ws"
    refine i_rng1 (by omega) (by omega) ?_
    rw [Int.toNat_natCast]
    refine for_it walk_range (fun i σ H' => (G none H3 H' ∧ ∃ bs : List Addr, H' D = some (.lst (bs.map V.ref)) ∧ TupAll H' bs (allW n i)) ∧ ∃ u v, σ = [some (.ref hd), some (.int (n : Nat)), some (.int (m : Nat)), some (.ref vp), some (.ref D), u, none, v]) ⟨⟨g1 none, [], h1, rfl, fun _ _ _ z => by simp at z⟩, _, _, rfl⟩ (fun _ _ _ _ _ => trivial) ?_ ?_
    · rintro y _ σ _ H2 hy ⟨⟨g2, bs, h2, tup⟩, u, v, rfl⟩ ⟨rfl, rfl⟩
      have ey : (0 : Int) + (y : Int) = (y : Int) := Int.zero_add _
      walk_at "ws"
      refine i_BM h2 ?_
      walk_at "ws"
      refine i_rng1 (by omega) (by omega) ?_
      rw [Int.toNat_natCast]
      intro D2 hD2
      refine lc_it walk_range (fun x H' => G none H2 H' ∧ ∃ ts : List Addr, H' D2 = some (.lst (ts.map V.ref)) ∧ ts.length ≤ x ∧ TupAll H' ts ((List.range x).filterMap fun (x : Nat) => if x = y then none else some ((y : Int), (x : Int)))) ⟨(G.refl).mut hD2 (fun _ e => nomatch e), [], upd_same, Nat.le_refl _, rfl, fun _ _ _ z => by simp at z⟩ (fun _ _ _ _ => trivial) ?_ ?_
      · rintro x _ _ H3 hx ⟨g3, ts, h3, lt, tt⟩ ⟨rfl, rfl⟩
        show gName 7 (.int (0 + (x : Int))) _ _ _
        rw [Int.zero_add]
        walk_at "ws"
        refine ⟨rfl, ?_⟩
        walk_at "ws"
        rw [List.range_succ, List.filterMap_append]
        refine w_ite (fun e => ?_) (fun e => ?_)
        · have e' : ¬ x = y := by
            have : ¬ ((x : Int) = 0 + (y : Int)) := by simpa using e
            omega
          walk_at "ws"
          refine ⟨sz (by simp), fun t H4 ht g4 h4 => ?_⟩
          have h4D := (g4 none).all _ _ h3
          refine ⟨ts.map V.ref, h4D, Nat.lt_of_le_of_lt (by rw [List.length_map]; omega : (ts.map V.ref).length ≤ 100000) (by decide), (g3.trans (g4 none)).mut hD2 (fun _ e => nomatch e), ts ++ [t], by rw [upd_same, List.map_append]; rfl, by rw [List.length_append, List.length_singleton]; omega, ?_⟩
          rw [show List.filterMap (fun (x : Nat) => if x = y then none else some ((y : Int), (x : Int))) [x] = [((y : Int), (x : Int))] from by simp [e']]
          refine ((tt.g (g4 none) (fun _ e => nomatch e)).put h4D).app ?_
          rw [upd_ne (ne_of h4 h4D (by intro z; cases z))]
          have h4' : H4 t = some (.tup [.int (0 + (y : Int)), .int (x : Nat)]) := h4
          rw [ey] at h4'
          exact h4'
        · have e' : x = y := by
            have : ((x : Int) = 0 + (y : Int)) := by simpa using e
            omega
          refine ⟨g3, ts, h3, by omega, ?_⟩
          rw [show List.filterMap (fun (x : Nat) => if x = y then none else some ((y : Int), (x : Int))) [x] = [] from by simp [e'], List.append_nil]
          exact tt
      rintro H3 ⟨g3, ts, h3, lt, tt⟩
      have tt : TupAll H3 ts (rowW n y) := tt
      walk_at "ws"
      have h3D := g3.all _ _ h2
      have l1 := tt.1
      have l2 := tup.1
      have l3 := rowW_len n y
      have l4 := allW_len n (by omega) y (by omega)
      refine ⟨D, D2, bs.map V.ref, ts.map V.ref, rfl, rfl, h3D, h3, sz (by rw [List.length_map, List.length_map]; omega), ?_⟩
      walk_at "ws"
      refine ⟨⟨(g2.trans g3).mut hD (fun _ e => nomatch e), bs ++ ts, by rw [upd_same, List.map_append], ?_⟩, _, _, rfl⟩
      rw [allW_succ]
      have a1 := (tup.g g3 (fun _ e => nomatch e)).put (u := .lst (bs.map V.ref ++ ts.map V.ref)) h3D
      have a2 := tt.put (u := .lst (bs.map V.ref ++ ts.map V.ref)) h3D
      refine ⟨by rw [List.length_append, List.length_append, a1.1, a2.1], fun i b u e1 e2 => ?_⟩
      by_cases c : i < bs.length
      · rw [List.getElem?_append_left c] at e1
        rw [List.getElem?_append_left (by omega)] at e2
        exact a1.2 i b u e1 e2
      · rw [List.getElem?_append_right (by omega)] at e1
        rw [List.getElem?_append_right (by omega), ← l2] at e2
        exact a2.2 _ b u e1 e2
    · rintro σ H2 ⟨⟨g2, bs, h2, tup⟩, u, v, rfl⟩
      have hh2 := (g2.up (o := some (hd, c))).hand _ rfl hh3
      walk_at "ws"
      refine ⟨hd, c, n, D, bs, allW n n, vp, ws, rfl, hh2, n1, n7, h2, tup, allW_asc n n7, allW_l n n7, fun u hu => (allW_mem n u).mp hu, fun y x hy hx ne => (allW_mem n _).mpr ⟨⟨by omega, by omega⟩, ⟨by omega, by omega⟩, by omega⟩, sqT_t g2.tups v3, by omega, wr, fun dt ds H4 g4 hh4 dia wh => ?_⟩
      walk_at "ws"
      refine ⟨sz (by simp), fun p H5 hp g5 h5 => ?_⟩
      have g35 : G (some (hd, c)) H3 H5 := g2.up.trans (g4.trans (g5 _))
      exact k p vp dt ws ds H5 (g03.trans g35) (g35.hand _ rfl hh3) h5 (sqT_t g35.tups v3) (dia.n (g5 none)) wh

end
end Mine
/-! ## GNL -/
end
namespace GA
open PySem PySem.Spec PyProof.Rows L2 NdefX
/-! ### a def within a def, called in a comprehension's block that does not name what the def captured -/
structure Got (X : Cx) (cl : List (PySem.Str × Addr)) (fr : List PySem.Str) (ws : List (Option V)) : Prop where
  at_ : CellsAt cl fr ws X.s_0.heap X.H_0
  nf : ∀ y c, cl.lookup y = some c → c ∉ X.fs
  nx : ∀ y c, cl.lookup y = some c → c ∉ X.ex
section
variable {X : Cx}
/-- the block's reading may speak of what the captured cells hold -/
def tLcN (wi : TI) (g : TG) (tt : TT) (te : List (Option V) → TE) (vs js : List Nat) : TE := fun σ H Q => tLc wi g tt (te (js.map (slotAt σ))) vs σ H Q
theorem w_lcN {wi : TI} {g : TG} {tt : TT} {te : List (Option V) → TE} {vs js : List Nat} {σ : L2.St} {H : Hp} {Q : VK} (q : tLc wi g tt (te (js.map (slotAt σ))) vs σ H Q) : tLcN wi g tt te vs js σ H Q := q
theorem pe_lcN {elt tg iter : Expr} {ifs : List Expr} {scope : Scope} {own : List (PySem.Str × Nat)} {pos : Pos} {wi : TI} {g : TG} {tt : TT} {te : List (Option V) → TE} {cl : List (PySem.Str × Addr)} {fr : List PySem.Str} {js : List Nat} (cp : X.Ok → Caps X cl fr js) (hfn : ∀ y, X.fn y = true) (calm : X.calm = true) (nd : X.N.Nodup) (src : PI X tg iter wi) (blk : BlkOk X.N X.env.scope scope own)
    (pg : ∀ (s : Shared) (H : Hp) (C : Addr) (cl : List (PySem.Str × Addr)) (fp : List Addr), PG (X.blk s H scope (compEnvC scope cl C X.env) fp) tg g)
    (pt : ∀ (s : Shared) (H : Hp) (C : Addr) (cl : List (PySem.Str × Addr)) (fp : List Addr), PTs (X.blk s H scope (compEnvC scope cl C X.env) fp) ifs tt)
    (pv' : ∀ (W : List (Option V)) (s : Shared) (H : Hp) (C : Addr) (cl' : List (PySem.Str × Addr)) (fp : List Addr), Got (X.blk s H scope (compEnvC scope cl' C X.env) fp) cl fr W → PE (X.blk s H scope (compEnvC scope cl' C X.env) fp) elt (te W)) (fold : ∀ x, foldedSetIterable iter X.env x = pure x := by intro _; rfl) :
    PE X (.ListComp elt [⟨tg, iter, ifs, 0⟩] scope pos) (tLcN wi g tt te (own.map (·.2)) js) := by
  constructor
  intro pins s σ H Q I want
  rw [eval_ListComp]
  have cells : ∀ nm ∈ scope.names, nm.2 = .free → ∃ c, X.env.cells.lookup nm.1 = some c := fun nm hnm e => (blk.free nm hnm e).elim (fun a => I.ok.has _ (.inl a)) fun a => I.ok.has _ (.inr a)
  apply wpAny_comprehension_free (use := none) rfl fold (closure_ok cells) blk.kind (fun nm hnm e => by rw [blk.uniq nm hnm, e])
  refine thn (src.run pins s σ H _ I want) fun _ sa step1 => thn step1 fun _ sb step2 => ?_
  obtain ⟨it, fp, told, J, Hb, rfl, Ib, Tn, stb, fb, rest⟩ := step2
  refine wpAny_newObj_type (newEnv_comp ?_) (Nat.zero_le _)
  obtain ⟨D, eD⟩ : ∃ D, sb.heap.objs.size = D := ⟨_, rfl⟩
  have freeD : Hb D = none := Ib.hok.fresh (eD ▸ Nat.le_refl _)
  obtain ⟨W, ⟨m0, start⟩, turn⟩ := rest D freeD
  obtain ⟨sc, eSc⟩ : ∃ sc : Shared, { sb with heap := sb.heap.push { cls := .type "list", data := .seq ([] : List Value).toArray } } = sc := ⟨_, rfl⟩
  have hc : sc.heap = sb.heap.push { cls := .type "list", data := .seq ([] : List Value).toArray } := eSc ▸ rfl
  have Ic : Inv X pins σ (upd Hb D (.lst [])) sc := by
    subst eSc eD
    exact Ib.laid (t' := sb.toks) (fun _ _ e => Heap.get?_push_of_some _ e) (Nat.le_refl _) ⟨Nat.zero_le _, [], 0, .nil, Heap.get?_push_size _ rfl⟩
  have low : ∀ b ∈ fp, b < sb.heap.objs.size := fun b hb => let ⟨_, e, _⟩ := Tn.obj _ _ stb b hb; Heap.lt_size e
  have fc : ∀ b ∈ fp, FpOk X pins (upd Hb D (.lst [])) b ∧ b < sc.heap.objs.size := by
    intro b hb
    have lt := low b hb
    have ne : b ≠ D := eD ▸ Nat.ne_of_lt lt
    exact ⟨⟨(upd_ne ne).trans (fb b hb).1, (fb b hb).2⟩, by rw [hc, Heap.size_push]; exact Nat.lt_succ_of_lt lt⟩
  have stc : told 0 sc.heap := Tn.keep _ _ _ stb fun b _ o e => hc ▸ Heap.get?_push_of_some _ e
  have Id := block_start Ic blk nd fc
  have got : Got (X.blk sc (upd Hb D (.lst [])) scope (compEnvC scope (cellsFrom (sc.heap.objs.size + 1) scope.names (cloFrom X.env.cells scope.names [])) sc.heap.objs.size X.env) fp) cl fr (js.map (slotAt σ)) := by
    have cps := cp Ic.ok
    refine ⟨cells_of Ic cps, fun y c e mem => ?_, fun y c e mem => (fc c mem).1.2.2.2.2.1 y c (cps.sub y c e) rfl⟩
    have ec := cps.sub y c e
    rcases List.mem_cons.mp (Ic.stkSub c mem) with z | z
    · exact Ic.cne y c ec z
    · obtain ⟨_, o, ho, _⟩ := Ic.ok.funs.mem z
      have := Ic.ok.cab y c (hfn y) ec
      exact absurd (Heap.lt_size ho) (Nat.not_lt.mpr this)
  have rg := pg sc (upd Hb D (.lst [])) sc.heap.objs.size (cellsFrom (sc.heap.objs.size + 1) scope.names (cloFrom X.env.cells scope.names [])) fp
  have rt := pt sc (upd Hb D (.lst [])) sc.heap.objs.size (cellsFrom (sc.heap.objs.size + 1) scope.names (cloFrom X.env.cells scope.names [])) fp
  have rv := pv' (js.map (slotAt σ)) sc (upd Hb D (.lst [])) sc.heap.objs.size (cellsFrom (sc.heap.objs.size + 1) scope.names (cloFrom X.env.cells scope.names [])) fp got
  have bare : ∀ b ∈ fp, upd Hb D (.lst []) b = none := fun b hb => (fc b hb).1.1
  show codeAny _ _ (.compStart (.ListComp elt [⟨tg, iter, ifs, 0⟩] scope pos) 0 (.ref it) (.ref sb.heap.objs.size) (compEnvC scope (cellsFrom (({ sb with heap := sb.heap.push { cls := .type "list", data := .seq ([] : List Value).toArray } } : Shared).heap.objs.size + 1) scope.names (cloFrom X.env.cells scope.names [])) ({ sb with heap := sb.heap.push { cls := .type "list", data := .seq ([] : List Value).toArray } } : Shared).heap.objs.size X.env)) (compPost (model X.prog X.w) X.A X.xe none _ (.ref sb.heap.objs.size) ({ sb with heap := sb.heap.push { cls := .type "list", data := .seq ([] : List Value).toArray } } : Shared).heap.objs.size) { ({ sb with heap := sb.heap.push { cls := .type "list", data := .seq ([] : List Value).toArray } } : Shared) with heap := pushCells (({ sb with heap := sb.heap.push { cls := .type "list", data := .seq ([] : List Value).toArray } } : Shared).heap.push { cls := .type "dict", data := .dict #[] }) scope.names }
  rw [eSc, eD]
  obtain ⟨ce, eCe⟩ : ∃ ce, compEnvC scope (cellsFrom (sc.heap.objs.size + 1) scope.names (cloFrom X.env.cells scope.names [])) sc.heap.objs.size X.env = ce := ⟨_, rfl⟩
  have at_ce : ce.locals = sc.heap.objs.size := eCe ▸ rfl
  rw [eCe] at Id rg rt rv ⊢
  obtain ⟨Hc, eHc⟩ : ∃ Hc, upd Hb D (.lst []) = Hc := ⟨_, rfl⟩
  rw [eHc] at Ic Id rg rt rv start bare fc
  obtain ⟨sd, eSd⟩ : ∃ sd : Shared, { sc with heap := pushCells (sc.heap.push { cls := .type "dict", data := .dict #[] }) scope.names } = sd := ⟨_, rfl⟩
  rw [eSd] at Id ⊢
  have std : told 0 sd.heap := Tn.keep _ _ _ stc fun b _ o e => eSd ▸ pushCells_keeps _ _ _ _ (Heap.get?_push_of_some _ e)
  have pins_ : ∀ {τ : L2.St} {H' : Hp} {s' : Shared}, Inv (X.blk sc Hc scope ce fp) [] τ H' s' → (∀ b ∈ fp, H' b = none) → ∀ b ∈ fp, FpOk (X.blk sc Hc scope ce fp) [] H' b := fun I' no b hb =>
    ⟨no b hb, (I'.ok.exf b hb).1, I'.ok.exfs b hb, .inl hb, fun x c e => (I'.ok.exf b hb).2 x c e, fun p hp => nomatch (show p ∈ ([] : List (Addr × Obj)) from hp)⟩
  have loop : codeAny (model X.prog X.w) X.A (.compLoop (.ListComp elt [⟨tg, iter, ifs, 0⟩] scope pos) 0 (.ref it) (.ref D) ce) (compPost (model X.prog X.w) X.A X.xe none (fun v s' => ∃ x H', Inv X pins σ H' s' ∧ RelV x v ∧ Q x H') (.ref D) sc.heap.objs.size) sd := by
    refine compLoop_any (fun n s' => ∃ i H', Inv (X.blk sc Hc scope ce fp) [] (wipe σ (own.map (·.2))) H' s' ∧ told i s'.heap ∧ (∀ b ∈ fp, H' b = none) ∧ W i n H') ?_ m0 ⟨0, Hc, Id, std, bare, start⟩
    rintro n s1 ⟨i, H1, I1, st1, no1, w1⟩
    rcases turn i n H1 w1 with ⟨halt, ends⟩ | ⟨goes, Nx, next, step⟩
    · refine thnF (Tn.done (X.blk sc Hc scope ce fp) rfl rfl rfl calm i [] s1 _ H1 (fun _ _ => False) I1 (pins_ I1 no1) st1 halt) fun r s2 out => ?_
      obtain ⟨rfl, I2⟩ := out
      have I3 : Inv X pins σ H1 s2 := Ic.call' (ch := fp) I2.os I2.base I2.hok I2.bare fun b hb =>
        let q := (fc b hb).1.2
        ⟨q.2.2.1, q.1, q.2.2.2.1, q.2.2.2.2⟩
      have free1 : H1 sc.heap.objs.size = none := at_ce ▸ I2.free
      obtain ⟨ns, hns, _⟩ := I2.loc
      have hns : s2.heap.Ns sc.heap.objs.size ns := at_ce ▸ (show s2.heap.Ns ce.locals ns from hns)
      obtain ⟨q0, q1, q2, q3, q4, q5⟩ := Ic.fpOk (Nat.le_refl _) free1
      exact ⟨ns, hns, fun h2 same => ⟨.ref D, H1, I3.turned (t' := s2.toks) (fun b o hb e => (same.2 b hb).trans e) q0 q1 q3 q4 q5, rfl, ends⟩⟩
    · refine thnF (Tn.item (X.blk sc Hc scope ce fp) rfl rfl rfl calm i [] s1 _ H1 (fun _ _ => False) I1 (pins_ I1 no1) st1 goes) fun r s2 out => ?_
      obtain ⟨u, rfl, out⟩ := out
      refine thnF out fun _ s3 ⟨x, H3, I3, r3, y3, st3, no3⟩ => ?_
      have J3 := I3.pinned (pins_ I3 no3) (Tn.obj _ _ st3)
      refine thnF (rg.run _ s3 _ H3 x u _ J3 r3 (step x H3 y3)) fun _ s4 ⟨σ4, H4, I4, w4, q4⟩ => ?_
      refine thnF (rt.run _ s4 σ4 H4 _ I4 q4) fun ok s5 ⟨H5, I5, q5⟩ => ?_
      have back : ∀ {s' : Shared} {H' : Hp}, Inv (X.blk sc Hc scope ce fp) ([] ++ pinsAt fp s3.heap) σ4 H' s' → Nx H' → ∃ m, m < n ∧ ∃ i H', Inv (X.blk sc Hc scope ce fp) [] (wipe σ (own.map (·.2))) H' s' ∧ told i s'.heap ∧ (∀ b ∈ fp, H' b = none) ∧ W i m H' := by
        intro s' H' I' nx
        obtain ⟨m', less, w'⟩ := next H' nx
        have stays : ∀ b ∈ fp, ∀ o, s3.heap.get? b = some o → s'.heap.get? b = some o ∧ H' b = none := fun b hb o e =>
          have z := I'.pin (b, o) (List.mem_append_right _ (List.mem_append_right _ (mem_pinsAt hb e)))
          ⟨z.1, z.2.1⟩
        refine ⟨m', less, i + 1, H', I'.unpinned (pins := []) |>.weak (by rw [← w4, wipe_length]) (fun j v e => (wipe_some (w4.symm ▸ e)).1), Tn.keep _ _ _ st3 fun b hb o e => (stays b hb o e).1, fun b hb => ?_, w'⟩
        obtain ⟨o, e, _⟩ := Tn.obj _ _ st3 b hb
        exact (stays b hb o e).2
      cases ok with
      | false => exact back I5 (by simpa using q5)
      | true =>
        refine thnF (rv.run _ s5 σ4 H5 _ I5 (show te _ σ4 H5 _ from q5)) fun u6 s6 ⟨y6, H6, I6, r6, acc, hD6, room, nx⟩ => ?_
        exact app_ok (X := X.blk sc Hc scope ce fp) I6 hD6 room r6 fun s7 I7 => back I7 nx
  exact codeAny_compStart_list loop (Tn.self X.A 0 _ _ _ std loop)

/-- f(..) there: the cells hold W -/
def tCallW (mk : Addr → NF) (i : Nat) (W : List (Option V)) (sp : Addr → Addr → List (Option V) → Sp) (E : XK) (t : TA) : TE := fun σ H Q => ∃ f c', σ[i]? = some (some (.ref f)) ∧ H f = some (FnO f (mk c')) ∧
  t σ H fun vs H1 => H1 f = some (FnO f (mk c')) ∧ H1 (mk c').c = some (LamX.CodeO (mk c').c (mk c').qual) ∧ sp f c' W vs H1 Q E
theorem pe_callW {CX : CXT} {mk : Addr → NF} {cl : List (PySem.Str × Addr)} {ps fr : List PySem.Str} {W : List (Option V)} {i j k : Nat} {x : PySem.Str} {sp : Addr → Addr → List (Option V) → Sp} {E : XK} {t : TA} {e : Expr} {es : List Expr} {p pos : Pos}
    (got : Got X cl fr W) (Fn : ∀ f c', NOk X.prog X.w X.K X.mg X.base CX k f (mk c') ps fr (sp f c')) (hcl : ∀ c', (mk c').cl = cl) (hr : Room j X.A) (hk : k ≤ j) (hx : Passes CX X E) (hN : X.N[i]? = some x) (hv : Vis X.env.scope x) (ha : PA X (e :: es) t)
    (hd : (x == ("__debug__" : PySem.Str)) = false := by decide) (hcd : (x == ("__classdict__" : PySem.Str)) = false := by decide)
    (he : starEach (e :: es) X.env = (false, eval e X.env) :: starEach es X.env := by rfl) (hpl : (backTo pos (starEach es X.env)).any (·.1) = false := by rfl) :
    PE X (.Call (.Name x p) (e :: es) [] pos) (tCallW mk i W sp E t) := by
  constructor
  intro pins s σ H Q I want
  obtain ⟨f, c', sf, hf, rest⟩ := want
  apply wpAny_Call_Name_kw
  refine thn ((pe_var (pos := p) hN hv hd hcd).run pins s σ H (fun v H1 => v = .ref f ∧ H1 = H) I ⟨_, sf, rfl, rfl⟩) fun u s1 got1 => ?_
  obtain ⟨_, _, I1, r1, rfl, rfl⟩ := got1
  have eu : u = Value.ref f := r1
  subst eu
  refine PySem.W.callWith_F (first := []) (fnAt_of I1 hf) (thn (ha.run pos pins s1 σ _ _ I1 rest) fun us s2 got2 => ?_) he hpl
  obtain ⟨vs, H2, I2, r2, hf2, hc2, q⟩ := got2
  refine ⟨fnAt_of I2 hf2, ?_⟩
  have C2 := CellsAt.later got.at_ got.nf got.nx I2
  refine wpAny_call (codeAny_mono ((Fn f c').run X.A X.stack s2 H2 us vs W Q E (hr.mono hk) I2.env0 hf2 hc2 (hcl c' ▸ C2) r2 q) fun r s3 hq => ?_)
  match r, hq with
  | .error e, hq => exact hx pins σ H2 s2 e s3 I2 hq
  | .ok (.ret u), hq => exact I2.after hq
end
/-- a def whose code object is told -/
structure FunC (K : PySem.W.Frag) (x qual : PySem.Str) (st : Stmt) (f : Addr) (fd : FuncData) (c : Addr) : Prop where
  ex : ∃ (oc : Value) (od : Option Addr) (kV doc pm : Value) (an : Option Addr) (ct : Value) (osl : Array (Option Value)),
    fd = PySem.W.fnOf x qual (defArgs st) (defBody st) (defScope st) .none kV doc pm an (.ref c) ct ∧ K.lookup f = some ⟨oc, od, .func fd, osl⟩ ∧ PySem.W.codeIn K (.ref c) qual = true
section
variable {P : Program} {w : World} {K : PySem.W.Frag} {mg : PySem.Str → Option Value} {base : Heap}
theorem FunC.ok {x qual : PySem.Str} {st : Stmt} {f c : Addr} {fd : FuncData} {N ps : List PySem.Str} {k : Nat} {sp : Sp} (F : FunC K x qual st f fd c) (S : FnScope N ps (defScope st)) (len : ∀ vs H Q E, sp vs H Q E → vs.length = ps.length)
    (hbody : ∀ (A : Around) (outer : List Env) (s : Shared) (H : Hp) (vs : List V) (Q : VK) (E : XK), Room k (A.deeper (envOfC qual (defScope st) s.heap.objs.size f (.ref c))) → sp vs H Q E →
      ∃ t, PSs (cxOf CX0 P w K mg base N qual (defScope st) f (.ref c) A outer s H E).nox (defBody st) t ∧ t { nx := fun _ H' => Q .non H', rt := Q } (start N vs) H) : FnOk P w K mg base CX0 (k + 1) f fd ps sp := by
  obtain ⟨oc, od, kV, doc, pm, an, ct, osl, e, lk, hcd⟩ := F.ex
  subst e
  exact fn_of lk hcd S len fun A outer s H vs Q E room hsp => (hbody A outer s H vs Q E room hsp).imp fun t z => ⟨z.1.nox, z.2⟩
end
/-! ### what stands but for the tables -/
theorem ExtN.ts {H H' : Hp} (e : LamX.ExtN H H') : Ts H H' := fun a xs h => h.elim (fun h => .inl (e _ _ h fun _ z => by cases z)) fun ⟨ob, h⟩ => .inr ⟨ob, e _ _ h fun _ z => by cases z⟩
theorem G.extN {H H' : Hp} (g : G none H H') : LamX.ExtN H H' := LamX.ExtN.of g.all
theorem Hand.ext {H H' : Hp} {hd c : Addr} (h : Hand H hd c) (e : LamX.ExtN H H') : Hand H' hd c := by
  obtain ⟨n, ⟨ns, h1⟩, i, b, m, k, h2, h3⟩ := h
  exact ⟨n, ⟨ns, e _ _ h1 fun _ z => by cases z⟩, i, b, m, k, e _ _ h2 fun _ z => (by cases z), h3⟩
theorem tabsN_g {T : List NTab} {H H' : Hp} {hd c : Addr} (t : TabsN T H) (hh : Hand H hd c) (g : G (some (hd, c)) H H') : TabsN T H' := fun p hp => by
  obtain ⟨ps, h1, h2, h3⟩ := t p hp
  have nl : ∀ a u, H a = some u → (∀ xs, u ≠ .lst xs) → H' a = some u := fun a u e n => g.keep a u (fun q eq => by
    cases eq
    intro z
    obtain ⟨_, _, i, b, m, k, z2, _⟩ := hh
    have z : a = hd := z
    rw [← z, e] at z2
    exact n _ (Option.some.inj z2)) e
  refine ⟨ps, nl _ _ h1 (fun _ z => by cases z), h2, fun pos cv hc => ?_⟩
  obtain ⟨c0, e1, e2⟩ := h3 pos cv hc
  exact ⟨c0, e1, nl _ _ e2 fun _ z => by unfold LamX.CodeO at z; cases z⟩
theorem tabsN_n {T : List NTab} {H H' : Hp} (t : TabsN T H) (g : G none H H') : TabsN T H' := t.ext g.all
end GA
/-! ## K27 -/
section
open PySem L2 GA
local macro_rules
  | `(tactic| walk_at "w") => `(tactic| first
    | ((with_reducible refine' GA.w_var ?e ?_); (case e => exact rfl))
    | (with_reducible refine' GA.w_c ?_)
    | (with_reducible refine' GA.w_cons ?_)
    | (with_reducible refine' GA.w_nil ?_)
    | (with_reducible refine' GA.w_op ?_)
    | (with_reducible refine' GA.r_I0 ?_)
    | (with_reducible refine' GA.w_bl ?_)
    | (with_reducible refine' GA.w_seq ?_)
    | (with_reducible refine' GA.w_set ?_)
    | (with_reducible refine' GA.w_ret ?_)
    | (with_reducible refine' GA.w_ifS ?_)
    | (with_reducible refine' GA.w_test ?_)
    | (with_reducible refine' GA.w_tB ?_)
    | (with_reducible refine' GA.w_not ?_)
    | (with_reducible refine' GA.w_and ?_)
    | (with_reducible refine' GA.w_or ?_)
    | (with_reducible refine' GA.w_andV ?_)
    | (with_reducible refine' GA.w_orV ?_)
    | (with_reducible refine' GA.w_notV ?_)
    | (with_reducible refine' GA.w_blc ?_)
    | (with_reducible refine' GA.w_if ?_)
    | (with_reducible refine' GA.w_CB ?_)
    | (with_reducible refine' GA.w_call ?_)
    | (with_reducible refine' GA.w_tupN ?_)
    | (with_reducible refine' GA.w_lstN ?_)
    | (with_reducible refine' GA.w_chain ?_)
    | (with_reducible refine' GA.w_drop ?_)
    | (with_reducible refine' GA.w_next ?_)
    | (with_reducible refine' GA.w_break ?_)
    | (with_reducible refine' GA.w_un ?_)
    | (with_reducible refine' GA.r_U ?_)
    | (with_reducible refine' GA.r_eqI ?_)
    | (with_reducible refine' GA.r_neI ?_)
    | (with_reducible refine' GA.r_eqB ?_)
    | (with_reducible refine' GA.r_neB ?_)
    | (with_reducible refine' GA.w_fld ?_)
    | (with_reducible refine' GA.w_sfld ?_)
    | (with_reducible refine' GA.w_sl ?_)
    | (with_reducible refine' GA.w_part ?_)
    | (with_reducible refine' GA.w_noPart ?_)
    | (with_reducible refine' GA.w_inti ?_)
    | (with_reducible refine' GA.w_retN ?_)
    | (with_reducible refine' GA.w_gsub ?_)
    | (with_reducible refine' GA.w_gname ?_)
    | (with_reducible refine' L2.iteT ?_)
    | (with_reducible refine' L2.iteF ?_)
    | (with_reducible refine' GA.w_nt ?_)
    | (with_reducible refine' GA.w_nf ?_)
    | (with_reducible refine' GA.w_isN ?_)
    | (with_reducible refine' GA.w_notN ?_)
    | (with_reducible refine' GA.w_yes ?_)
    | (with_reducible refine' GA.w_lc ?_)
    | (with_reducible refine' GA.w_lc2 ?_)
    | (with_reducible refine' GA.w_iseq ?_)
    | (with_reducible refine' GA.w_make ?_)
    | (with_reducible refine' GA.w_for ?_)
    | (with_reducible refine' GA.w_rng1 ?_)
    | (with_reducible refine' GA.w_rng2 ?_)
    | (with_reducible refine' GA.w_itup ?_)
    | (with_reducible refine' GA.w_ilist ?_)
    | (with_reducible refine' GA.w_ienum ?_)
    | (with_reducible refine' GA.w_BM ?_)
    | (with_reducible refine' GA.w_BM0 ?_)
    | (with_reducible refine' GA.w_izip ?_)
    | (with_reducible refine' GA.w_asg ?_))
  | `(tactic| walk_at "wm") => `(tactic| first
    | ((with_reducible refine' GA.w_var ?e ?_); (case e => exact rfl))
    | (with_reducible refine' GA.w_c ?_)
    | (with_reducible refine' GA.w_cons ?_)
    | (with_reducible refine' GA.w_nil ?_)
    | (with_reducible refine' GA.w_op ?_)
    | (with_reducible refine' GA.r_I0 ?_)
    | (with_reducible refine' GA.w_bl ?_)
    | (with_reducible refine' GA.w_set ?_)
    | (with_reducible refine' GA.w_ret ?_)
    | (with_reducible refine' GA.w_ifS ?_)
    | (with_reducible refine' GA.w_test ?_)
    | (with_reducible refine' GA.w_tB ?_)
    | (with_reducible refine' GA.w_not ?_)
    | (with_reducible refine' GA.w_and ?_)
    | (with_reducible refine' GA.w_or ?_)
    | (with_reducible refine' GA.w_andV ?_)
    | (with_reducible refine' GA.w_orV ?_)
    | (with_reducible refine' GA.w_notV ?_)
    | (with_reducible refine' GA.w_blc ?_)
    | (with_reducible refine' GA.w_if ?_)
    | (with_reducible refine' GA.w_CB ?_)
    | (with_reducible refine' GA.w_call ?_)
    | (with_reducible refine' GA.w_tupN ?_)
    | (with_reducible refine' GA.w_lstN ?_)
    | (with_reducible refine' GA.w_chain ?_)
    | (with_reducible refine' GA.w_drop ?_)
    | (with_reducible refine' GA.w_next ?_)
    | (with_reducible refine' GA.w_break ?_)
    | (with_reducible refine' GA.w_un ?_)
    | (with_reducible refine' GA.r_U ?_)
    | (with_reducible refine' GA.r_eqI ?_)
    | (with_reducible refine' GA.r_neI ?_)
    | (with_reducible refine' GA.r_eqB ?_)
    | (with_reducible refine' GA.r_neB ?_)
    | (with_reducible refine' GA.w_fld ?_)
    | (with_reducible refine' GA.w_sfld ?_)
    | (with_reducible refine' GA.w_sl ?_)
    | (with_reducible refine' GA.w_part ?_)
    | (with_reducible refine' GA.w_noPart ?_)
    | (with_reducible refine' GA.w_inti ?_)
    | (with_reducible refine' GA.w_retN ?_)
    | (with_reducible refine' GA.w_gsub ?_)
    | (with_reducible refine' GA.w_gname ?_)
    | (with_reducible refine' L2.iteT ?_)
    | (with_reducible refine' L2.iteF ?_)
    | (with_reducible refine' GA.w_nt ?_)
    | (with_reducible refine' GA.w_nf ?_)
    | (with_reducible refine' GA.w_isN ?_)
    | (with_reducible refine' GA.w_notN ?_)
    | (with_reducible refine' GA.w_yes ?_)
    | (with_reducible refine' GA.w_lc ?_)
    | (with_reducible refine' GA.w_lc2 ?_)
    | (with_reducible refine' GA.w_iseq ?_)
    | (with_reducible refine' GA.w_make ?_)
    | (with_reducible refine' GA.w_for ?_)
    | (with_reducible refine' GA.w_rng1 ?_)
    | (with_reducible refine' GA.w_rng2 ?_)
    | (with_reducible refine' GA.w_itup ?_)
    | (with_reducible refine' GA.w_ilist ?_)
    | (with_reducible refine' GA.w_ienum ?_)
    | (with_reducible refine' GA.w_BM ?_)
    | (with_reducible refine' GA.w_BM0 ?_)
    | (with_reducible refine' GA.w_izip ?_)
    | (with_reducible refine' GA.w_asg ?_))
  | `(tactic| walk_at "ws") => `(tactic| repeat (walk_at "w"))
  | `(tactic| walk_at "wn") => `(tactic| repeat (walk_at "wm"))


namespace Mine
section
variable {P : Program} {w : World} {K : PySem.W.Frag} {mg : Str → Option Value} {base : Heap} {a : Ads}

/-! ### the def within the law's picture -/
def st_has : Stmt := (defBody s__law_picture).getD 1 (.Pass ⟨0, 0, 0, 0⟩)
abbrev clHas (cells : List (PySem.Str × Addr)) : List (PySem.Str × Addr) := cloFrom cells (C8.fnScope st_has).names []
abbrev mkHas (q : PySem.Str) (cells : List (PySem.Str × Addr)) : Addr → NdefX.NF := NdefX.NF.of st_has "_law_has" q (clHas cells)
abbrev N_has : List PySem.Str := ["_law_x", "_law_one", "_law_other", "_law_diaries"]
theorem sc_has : NdefX.NScope N_has ["_law_x", "_law_one", "_law_other"] ["_law_diaries"] (C8.fnScope st_has) := NdefX.nscope_by (by decide +kernel)
def sp_has (K : PySem.W.Frag) : List (Option V) → Sp := fun ws vs H Q _ => ∃ (dp : Addr) (ds : List (List Int)) (x : Nat) (d : List Int) (p q : Int), ws = [some (.ref dp)] ∧ vs = [.int (x : Nat), .int p, .int q] ∧ Dia K H dp ds ∧ ds[x]? = some d ∧ d.Nodup ∧ p ∈ d ∧ q ∈ d ∧ Q (.bl (bef d p q)) H
theorem ok_has (q : PySem.Str) (cells : List (PySem.Str × Addr)) (f c' : Addr) : NdefX.NOk P w K mg base CX0 1 f (mkHas q cells c') ["_law_x", "_law_one", "_law_other"] ["_law_diaries"] (sp_has K) := by
  refine NdefX.nok_of (N := N_has) sc_has (fun _ _ _ us hl => match us, hl with | [_, _, _], _ => rfl) (fun ws vs H Q E h => by obtain ⟨dp, ds, x, d, p, q, _, rfl, _⟩ := h; rfl) (fun A outer s H vs ws Q E hr _ _ _ h => ?_)
  obtain ⟨dp, ds, x, d, p, q, rfl, rfl, ⟨bs, hbs, lb, hb⟩, hd, nd, hp, hq, k⟩ := h
  have hx := (List.getElem?_eq_some_iff.mp hd).1
  obtain ⟨b, hb1⟩ : ∃ b, bs[x]? = some b := ⟨_, List.getElem?_eq_getElem (by omega)⟩
  have hf := hb x b d hb1 hd
  refine ⟨_, (pss_one (ps_ret (pe_cmpR op_lt
    (pe_bmT PySem.F.plainAttrs_tuple PySem.F.slot_tuple_index PySem.F.type_tuple_index (k_mt_indexTI K) (pe_ix ix_tup (pv 3) (pv 0) (fun _ _ => rfl)) (pa_cons (pv 1) pa_nil))
    (pe_bmT PySem.F.plainAttrs_tuple PySem.F.slot_tuple_index PySem.F.type_tuple_index (k_mt_indexTI K) (pe_ix ix_tup (pv 3) (pv 0) (fun _ _ => rfl)) (pa_cons (pv 2) pa_nil)) (nomark _)))), ?_⟩
  have e : NdefX.startF N_has [V.int (x : Nat), .int p, .int q] [some (.ref dp)] = [some (.int (x : Nat)), some (.int p), some (.int q), some (.ref dp)] := rfl
  rw [e]
  walk_at "ws"
  refine w_bmt ?_
  walk_at "ws"
  refine ⟨dp, _, _, .ref b, rfl, rfl, hbs, at_of (j := x) (by omega) (by rw [List.getElem?_map, hb1]; rfl), ?_⟩
  refine ⟨⟨b, _, rfl, hf⟩, ?_⟩
  walk_at "ws"
  refine ⟨b, d, p, d.idxOf p, rfl, rfl, hf.sq, idx_at hp, fun j hj e => ?_, ?_⟩
  · have := idx_of nd e
    omega
  walk_at "ws"
  refine w_bmt ?_
  walk_at "ws"
  refine ⟨dp, _, _, .ref b, rfl, rfl, hbs, at_of (j := x) (by omega) (by rw [List.getElem?_map, hb1]; rfl), ?_⟩
  refine ⟨⟨b, _, rfl, hf⟩, ?_⟩
  walk_at "ws"
  refine ⟨b, d, q, d.idxOf q, rfl, rfl, hf.sq, idx_at hq, fun j hj e => ?_, ?_⟩
  · have := idx_of nd e
    omega
  walk_at "ws"
  have e2 : decide (((d.idxOf p : Nat) : Int) < ((d.idxOf q : Nat) : Int)) = bef d p q := by unfold bef; simp
  rw [e2]
  exact k
/-! ### pairs in their order -/
def wN (u : Nat × Nat) : Int × Int := (((u.1 : Nat) : Int), ((u.2 : Nat) : Int))
def rowA (p j : Nat) : List (Nat × Nat) := ((List.range j).filter fun q => decide (p < q)).map fun q => (p, q)
def prsA (m i : Nat) : List (Nat × Nat) := (List.range i).flatMap fun p => rowA p m
theorem rowA_succ (p j : Nat) : rowA p (j + 1) = rowA p j ++ if p < j then [(p, j)] else [] := by
  unfold rowA
  rw [List.range_succ, List.filter_append, List.map_append]
  congr 1
  by_cases c : p < j <;> simp [c]
theorem prsA_succ (m i : Nat) : prsA m (i + 1) = prsA m i ++ rowA i m := by
  unfold prsA
  rw [List.range_succ, List.flatMap_append]
  simp
theorem fm_cg {α β : Type} {f g : α → List β} : ∀ {l : List α}, (∀ x ∈ l, f x = g x) → l.flatMap f = l.flatMap g
  | [], _ => rfl
  | x :: l, h => by rw [List.flatMap_cons, List.flatMap_cons, h x List.mem_cons_self, fm_cg fun y hy => h y (List.mem_cons_of_mem _ hy)]
theorem prs_flat : ∀ (L : List Nat), L.Pairwise (· < ·) → GCb.prs L = L.flatMap fun p => (L.filter fun q => decide (p < q)).map fun q => (p, q)
  | [], _ => rfl
  | x :: l, h => by
    obtain ⟨h1, h2⟩ := List.pairwise_cons.mp h
    rw [show GCb.prs (x :: l) = l.map (fun b => (x, b)) ++ GCb.prs l from rfl, prs_flat l h2, List.flatMap_cons]
    congr 1
    · congr 1
      rw [List.filter_cons_of_neg (by simp)]
      exact (List.filter_eq_self.mpr fun y hy => decide_eq_true (h1 y hy)).symm
    · apply fm_cg
      intro p hp
      congr 1
      rw [List.filter_cons_of_neg]
      have := h1 p hp
      simp
      omega
theorem prsA_end (m : Nat) : prsA m m = pairsN m := by
  unfold pairsN
  rw [prs_flat _ List.pairwise_lt_range]
  rfl
theorem rowA_len (p j : Nat) : (rowA p j).length ≤ j := by
  unfold rowA
  rw [List.length_map]
  exact Nat.le_trans (List.length_filter_le _ _) (by rw [List.length_range]; exact Nat.le_refl _)
theorem prsA_len (m : Nat) : ∀ i, (prsA m i).length ≤ i * m
  | 0 => by simp [prsA]
  | i + 1 => by
    have := prsA_len m i
    have := rowA_len i m
    rw [prsA_succ, List.length_append, Nat.succ_mul]
    omega
theorem prsA_mem {m : Nat} {u : Nat × Nat} (h : u ∈ pairsN m) : u.1 < m ∧ u.2 < m := by
  rw [← prsA_end] at h
  unfold prsA rowA at h
  obtain ⟨p, hp, h⟩ := List.mem_flatMap.mp h
  obtain ⟨q, hq, rfl⟩ := List.mem_map.mp h
  exact ⟨List.mem_range.mp hp, List.mem_range.mp (List.mem_filter.mp hq).1⟩
def ltN (u v : Nat × Nat) : Bool := decide (u.1 < v.1) || (decide (u.1 = v.1) && decide (u.2 < v.2))
theorem ltN_irr (u : Nat × Nat) : ltN u u = false := by simp [ltN]
theorem ltN_asym {u v : Nat × Nat} (h : ltN u v = true) : ltN v u = false := by
  simp only [ltN, Bool.or_eq_true, Bool.and_eq_true, decide_eq_true_eq] at h
  simp only [ltN, Bool.or_eq_false_iff, Bool.and_eq_false_iff, decide_eq_false_iff_not]
  omega
theorem prs_asc : ∀ (L : List Nat), L.Pairwise (· < ·) → (GCb.prs L).Pairwise fun u v => ltN u v = true
  | [], _ => .nil
  | x :: l, h => by
    obtain ⟨h1, h2⟩ := List.pairwise_cons.mp h
    rw [show GCb.prs (x :: l) = l.map (fun b => (x, b)) ++ GCb.prs l from rfl]
    refine List.pairwise_append.mpr ⟨List.pairwise_map.mpr (h2.imp fun h => by simp [ltN, h]), prs_asc l h2, fun u hu v hv => ?_⟩
    obtain ⟨b, hb, rfl⟩ := List.mem_map.mp hu
    have := h1 v.1 (mem_prs hv).1
    simp [ltN, this]
theorem prs_lt {α β : Type} (lt : α → α → Bool) (irr : ∀ a, lt a a = false) (asym : ∀ a b, lt a b = true → lt b a = false) (R : α × α → Option β) : ∀ (L : List α), L.Pairwise (fun a b => lt a b = true) → (GCb.prs L).findSome? R = L.findSome? fun u => L.findSome? fun v => if lt u v then R (u, v) else none
  | [], _ => rfl
  | x :: l, h => by
    obtain ⟨h1, h2⟩ := List.pairwise_cons.mp h
    rw [show GCb.prs (x :: l) = l.map (fun b => (x, b)) ++ GCb.prs l from rfl, List.findSome?_append, prs_lt lt irr asym R l h2, List.findSome?_map]
    have a : ((x :: l).findSome? fun v => if lt x v then R (x, v) else none) = l.findSome? (R ∘ fun b => (x, b)) := by
      rw [List.findSome?_cons, irr]
      exact fs_congr fun v hv => by rw [if_pos (h1 v hv)]; rfl
    have b : (l.findSome? fun u => (x :: l).findSome? fun v => if lt u v then R (u, v) else none) = l.findSome? fun u => l.findSome? fun v => if lt u v then R (u, v) else none := by
      refine fs_congr fun u hu => ?_
      rw [List.findSome?_cons, asym x u (h1 u hu)]
      rfl
    rw [List.findSome?_cons, a, b]
    cases l.findSome? (R ∘ fun b => (x, b)) <;> rfl
def mixL (ds : List (List Int)) (L : List (Nat × Nat)) (u : Nat × Nat) : Option ((Nat × Nat) × (Nat × Nat)) := L.findSome? fun v => if ltN u v && four (side ds u) (side ds v) then some (u, v) else none
theorem mix_law (n : Nat) (ds : List (List Int)) : (pairsN n).findSome? (mixL ds (pairsN n)) = mixF n ds := by
  unfold mixF mixG
  rw [prs_lt ltN ltN_irr (fun a b => ltN_asym) _ _ (prs_asc _ List.pairwise_lt_range)]
  refine fs_congr fun u _ => fs_congr fun v _ => ?_
  cases ltN u v <;> rfl
theorem saw_self (ws : List Int) (ds : List (List Int)) (p : Nat) : saw ws ds p p = false := by simp [saw, bef]

end
end Mine
/-! ## K28 -/


namespace Mine
section
variable {P : Program} {w : World} {K : PySem.W.Frag} {mg : Str → Option Value} {base : Heap} {a : Ads}

/-! ### the law's picture -/
theorem Dia.x {H H' : Hp} {p : Addr} {ds : List (List Int)} (h : Dia K H p ds) (e : LamX.ExtN H H') : Dia K H' p ds := by
  obtain ⟨bs, h1, h2, h3⟩ := h
  refine ⟨bs, sqT_t (ExtN.ts e) h1, h2, fun i b d e1 e2 => ?_⟩
  obtain ⟨ob, q1, q2⟩ := h3 i b d e1 e2
  exact ⟨ob, e _ _ q1 (fun _ z => by cases z), q2⟩
theorem w_ndef {TT : List NdefX.NTab} {i : Nat} {mk : Addr → NdefX.NF} {D : Ends} {σ : L2.St} {H : Hp} (t : NdefX.TabsN TT H) (q : ∀ (f c' : Addr) (H1 : Hp), LamX.ExtN H H1 → (∀ b, H1 b = Option.none → H b = Option.none) → NdefX.TabsN TT H1 → H f = none → H1 f = some (NdefX.FnO f (mk c')) → H1 c' = some (LamX.CodeO c' (mk c').qual) → D.nx (σ.set i (some (.ref f))) H1) : NdefX.tNdefM TT i mk D σ H := ⟨t, q⟩
theorem w_calln {mk : Addr → NdefX.NF} {i : Nat} {js : List Nat} {sp : Addr → Addr → List (Option V) → Sp} {E : XK} {t : TA} {σ : L2.St} {H : Hp} {Q : VK} (q : ∃ f c', σ[i]? = some (some (.ref f)) ∧ H f = some (NdefX.FnO f (mk c')) ∧
  t σ H fun vs H1 => H1 f = some (NdefX.FnO f (mk c')) ∧ H1 (mk c').c = some (LamX.CodeO (mk c').c (mk c').qual) ∧ sp f c' (js.map (NdefX.slotAt σ)) vs H1 Q E) : NdefX.tCallN mk i js sp E t σ H Q := q
theorem w_callW {mk : Addr → NdefX.NF} {i : Nat} {W : List (Option V)} {sp : Addr → Addr → List (Option V) → Sp} {E : XK} {t : TA} {σ : L2.St} {H : Hp} {Q : VK} (q : ∃ f c', σ[i]? = some (some (.ref f)) ∧ H f = some (NdefX.FnO f (mk c')) ∧
  t σ H fun vs H1 => H1 f = some (NdefX.FnO f (mk c')) ∧ H1 (mk c').c = some (LamX.CodeO (mk c').c (mk c').qual) ∧ sp f c' W vs H1 Q E) : tCallW mk i W sp E t σ H Q := q
def nmP : Nat → Nat → PySem.Str := fun _ _ => (("_law_picture" : PySem.Str) ++ ".<locals>.") ++ "_law_has"
abbrev tabsP (pt : Addr) : List NdefX.NTab := [(pt, nmP)]
def sp__law_picture (K : PySem.W.Frag) (pt : Addr) : Sp := fun vs H Q _ => ∃ (vp dp : Addr) (ws : List Int) (ds : List (List Int)), vs = [.ref vp, .ref dp] ∧ SqT K H vp (ws.map V.int) ∧ Dia K H dp ds ∧ IsWh ws ds ∧ NdefX.TabsN (tabsP pt) H ∧
  ∀ v H', LamX.ExtN H H' → NdefX.TabsN (tabsP pt) H' → Dp K H' v (picD ws ds) → Q v H'
/-- the def made stands at f, its code object at c' -/
structure HasAt (H : Hp) (f c' : Addr) (L : Nat) : Prop where
  fn : H f = some (NdefX.FnO f (mkHas ((("_law_picture" : PySem.Str) ++ ".<locals>.") ++ "_law_has") (cellsFrom (L + 1) (defScope s__law_picture).names []) c'))
  cd : H c' = some (LamX.CodeO c' ((("_law_picture" : PySem.Str) ++ ".<locals>.") ++ "_law_has"))
theorem HasAt.n {H H' : Hp} {f c' : Addr} {L : Nat} (h : HasAt H f c' L) (g : G none H H') : HasAt H' f c' L := ⟨g.all _ _ h.fn, g.all _ _ h.cd⟩
theorem at_upto {n i : Nat} {y : V} (h : i < n) (e : ((upto n).map V.int)[i]? = some y) : y = .int ((i : Nat) : Int) := by
  unfold upto at e
  rw [List.map_map, List.getElem?_map, List.getElem?_range h] at e
  exact (Option.some.inj e).symm
theorem ltL_N (u v : Nat × Nat) : ltL [((u.1 : Nat) : Int), ((u.2 : Nat) : Int)] [((v.1 : Nat) : Int), ((v.2 : Nat) : Int)] = ltN u v := by
  have e : decide ((u.1 : Int) = v.1) = decide (u.1 = v.1) := by rw [decide_eq_decide]; omega
  rw [ltL_pair, e]
  simp [ltN]
def fst1 (ws : List Int) (ds : List (List Int)) (p : Nat) : Option (Nat × Nat) := (List.range ws.length).findSome? fun q => if saw ws ds p q then some (p, q) else none
theorem ok__law_picture {pc pt : Addr} (T : Txt K mg a) (FC : FunC K "_law_picture" "_law_picture" s__law_picture a.f__law_picture a.d__law_picture pc) (TB : LamX.TabB base mg pc pt) : FnOk P w K mg base CX0 2 a.f__law_picture a.d__law_picture P__law_picture (sp__law_picture K pt) := by
  refine FC.ok sc__law_picture (fun vs H Q E h => by obtain ⟨vp, dp, ws, ds, rfl, _⟩ := h; rfl) (fun A outer s H vs Q E hr h => ?_)
  obtain ⟨vp, dp, ws, ds, rfl, hv, dia, wh, tabs, k⟩ := h
  have p30 := wh.rec_.p30
  have m7 := wh.rec_.m7
  have pl9 := pairs_len p30
  have G__law_turned : FnOk P w K mg base CX0 1 a.f__law_turned a.d__law_turned P__law_turned (sp__law_turned K) := ok__law_turned T
  have ND : NdefX.ndefB (defScope s__law_picture) (C8.fnScope st_has) ["_law_diaries"] = true := by decide +kernel
  have HN := fun f' c' => ok_has (P := P) (w := w) (K := K) (mg := mg) (base := base) ((("_law_picture" : PySem.Str) ++ ".<locals>.") ++ "_law_has") (cellsFrom (s.heap.objs.size + 1) (defScope s__law_picture).names []) f' c'
  refine ⟨_, (pss_cons (ps_set (i := 2) sc__law_picture.nd rfl (Or.inl rfl) (pe_callB call_len_seq (by rfl) T.n_len (by decide +kernel) (pa_cons (pv 0) pa_nil)))
  (pss_cons (NdefX.ps_ndefMS (st := st_has) (T := tabsP pt) (nm := nmP) (c := pc) (P := pt) (name := "_law_has") (i := 3) rfl TB rfl (List.mem_singleton.mpr rfl) rfl (fun p hp _ => by rw [List.mem_singleton.mp hp]) (NdefX.ndef_free ND) rfl rfl (by rfl) sc__law_picture.nd rfl (Or.inr rfl) (Or.inl rfl))
  (pss_cons (ps_set (i := 4) sc__law_picture.nd rfl (Or.inl rfl) (pe_listRgN rfl (by rfl) T.n_list (prg_1 (by rfl) T.n_range (pe_callB call_len_seq (by rfl) T.n_len (by decide +kernel) (pa_cons (pv 1) pa_nil))) (mo_rg1 mo_len)))
  (pss_cons (ps_set (i := 5) sc__law_picture.nd rfl (Or.inl rfl) (pe_lstN pa_nil))
  (pss_cons (ps_for PassesOwn.never rfl (pi_range1 rfl T.n_range (pa_cons (pv 2) pa_nil)) (pg_name (i := 6) sc__law_picture.nd rfl (Or.inr rfl))
    (pss_one (ps_for PassesOwn.never rfl (pi_range1 rfl T.n_range (pa_cons (pv 2) pa_nil)) (pg_name (i := 7) sc__law_picture.nd rfl (Or.inr rfl))
    (pss_cons (ps_if (L2.PW.pt (pw_and (pt_cmpR op_ne (pv 6) (pv 7) (nomark _)) (pw_and (pt_val (NdefX.pe_calln (i := 3) (js := [1]) HN (fun _ => rfl) (fun ok => NdefX.Caps.made (scope := C8.fnScope st_has) ok (NdefX.ndef_free ND) (NdefX.ndef_fr ND) rfl) hr (by omega) pass0 rfl (by first | exact Or.inl rfl | exact Or.inr (Or.inl rfl) | exact Or.inr (Or.inr rfl)) (pa_cons (pe_ix ix_tup (pv 0) (pv 6) (fun _ _ => rfl)) (pa_cons (pv 7) (pa_cons (pv 6) pa_nil))))) (pw_and1 (pt_val (pe_callB (cr_any rfl) (by rfl) T.n_any (by decide +kernel) (pa_cons (pe_lcN (js := [1]) (own := [("_law_x", 11)]) (g := (gName 11)) (tt := tYes) (fun ok => NdefX.Caps.made (scope := C8.fnScope st_has) ok (NdefX.ndef_free ND) (NdefX.ndef_fr ND) rfl) (fun _ => rfl) rfl sc__law_picture.nd (pi_list (pv 4)) (blkOk_by (N := N__law_picture) (sc := defScope s__law_picture) (by decide +kernel)) (fun _ _ _ _ _ => (pg_name (i := 11) sc__law_picture.nd rfl (by first | exact Or.inl rfl | exact Or.inr rfl))) (fun _ _ _ _ _ => pts_nil) (fun _ _ _ _ _ _ got => (pe_callW (i := 3) got HN (fun _ => rfl) hr (by omega) pass0 rfl (by first | exact Or.inl rfl | exact Or.inr (Or.inl rfl) | exact Or.inr (Or.inr rfl)) (pa_cons (pv 11) (pa_cons (pv 6) (pa_cons (pv 7) pa_nil)))))) pa_nil)))))))
    (pss_one (ps_ret (pe_tupN (pa_cons pe_str (pa_cons (pv 6) (pa_cons (pv 7) pa_nil))))))
    pss_nil)
  (pss_one (ps_if (pt_cmpR op_lt (pv 6) (pv 7) (nomark _))
    (pss_one (ps_expr (pe_bm PySem.F.plainAttrs_list PySem.F.slot_list_append PySem.F.type_list_append mt_append (pv 5) (pa_cons (pe_tupN (pa_cons (pv 6) (pa_cons (pv 7) pa_nil))) pa_nil))))
    pss_nil))))))
  (pss_cons (ps_for PassesOwn.never rfl (pi_list (pv 5)) (pg_tup rfl (pgs_cons (pg_name (i := 6) sc__law_picture.nd rfl (Or.inr rfl)) (pgs_cons (pg_name (i := 7) sc__law_picture.nd rfl (Or.inr rfl)) pgs_nil)))
    (pss_one (ps_for PassesOwn.never rfl (pi_list (pv 5)) (pg_tup rfl (pgs_cons (pg_name (i := 8) sc__law_picture.nd rfl (Or.inr rfl)) (pgs_cons (pg_name (i := 9) sc__law_picture.nd rfl (Or.inr rfl)) pgs_nil)))
    (pss_cons (ps_set (i := 10) sc__law_picture.nd rfl (Or.inl rfl) (pe_callB (GSa.cr_sortBag rfl (Nat.lt_of_le_of_lt (Nat.add_le_add_left (by decide : 10 ≤ 65) _) (u65 hr))) (by rfl) T.n_sorted (by decide +kernel) (pa_cons (pe_callTy (GSa.cr_setLB rfl (Nat.lt_of_le_of_lt (Nat.add_le_add_left (by decide : 3 ≤ 65) _) (u65 hr))) (by rfl) T.n_set (by decide +kernel) (pa_cons (pe_lcN (js := [1]) (own := [("_law_x", 11)]) (g := (gName 11)) (tt := tYes) (fun ok => NdefX.Caps.made (scope := C8.fnScope st_has) ok (NdefX.ndef_free ND) (NdefX.ndef_fr ND) rfl) (fun _ => rfl) rfl sc__law_picture.nd (pi_list (pv 4)) (blkOk_by (N := N__law_picture) (sc := defScope s__law_picture) (by decide +kernel)) (fun _ _ _ _ _ => (pg_name (i := 11) sc__law_picture.nd rfl (by first | exact Or.inl rfl | exact Or.inr rfl))) (fun _ _ _ _ _ => pts_nil) (fun _ _ _ _ _ _ got => (pe_tupN (pa_cons (pe_callW (i := 3) got HN (fun _ => rfl) hr (by omega) pass0 rfl (by first | exact Or.inl rfl | exact Or.inr (Or.inl rfl) | exact Or.inr (Or.inr rfl)) (pa_cons (pv 11) (pa_cons (pv 6) (pa_cons (pv 7) pa_nil)))) (pa_cons (pe_callW (i := 3) got HN (fun _ => rfl) hr (by omega) pass0 rfl (by first | exact Or.inl rfl | exact Or.inr (Or.inl rfl) | exact Or.inr (Or.inr rfl)) (pa_cons (pv 11) (pa_cons (pv 8) (pa_cons (pv 9) pa_nil)))) pa_nil))))) pa_nil)) pa_nil)))
  (pss_one (ps_if (L2.PW.pt (pw_and (pt_cmpR (GA.op_ltT (Nat.lt_of_le_of_lt (Nat.le_add_right _ _) (u65 hr))) (pe_tupN (pa_cons (pv 6) (pa_cons (pv 7) pa_nil))) (pe_tupN (pa_cons (pv 8) (pa_cons (pv 9) pa_nil))) (nomark _)) (pw_and1 (pt_cmpR op_eq (pe_callB call_len_seq (by rfl) T.n_len (by decide +kernel) (pa_cons (pv 10) pa_nil)) pe_int (nomark _)))))
    (pss_one (ps_ret (pe_tupN (pa_cons pe_str (pa_cons (pv 6) (pa_cons (pv 7) (pa_cons (pv 8) (pa_cons (pv 9) pa_nil))))))))
    pss_nil))))))
  (pss_one (ps_ret (pe_call (G__law_turned) (hr.mono (by omega)) rfl T.m__law_turned T.F__law_turned.kp T.b__law_turned .nil pass0 (pa_cons (pv 1) (pa_cons (pv 2) pa_nil))))))))))), ?_⟩
  walk_at "ws"
  refine ⟨vp, _, rfl, .inr hv, ?_⟩
  walk_at "ws"
  rw [List.length_map]
  refine w_ndef tabs fun f c' H1 e1 nn t1 f0 f1 c1 => ?_
  walk_at "ws"
  refine w_lstRg (w_rg1 ?_)
  walk_at "ws"
  have dia1 := (dia.x e1)
  obtain ⟨bs, hbs1, lb, hb1⟩ := dia1
  have dia1 : SqT K H1 dp (bs.map V.ref) ∧ True := ⟨hbs1, trivial⟩
  have diaD : Dia K H1 dp ds := ⟨bs, hbs1, lb, hb1⟩
  have hv1 := sqT_t (ExtN.ts e1) hv
  refine ⟨dp, _, rfl, .inr (dia1.1), ?_⟩
  walk_at "ws"
  rw [List.length_map, lb]
  refine ⟨RgOk.of_le (by decide) (by omega) (by decide) (by omega), fun ML H2 hML g2 h2 => ?_⟩
  rw [rg_upto] at h2
  walk_at "ws"
  refine ⟨sz (by simp), fun pl H3 hpl g3 h3 => ?_⟩
  walk_at "ws"
  refine i_rng1 (by omega) (by omega) ?_
  rw [Int.toNat_natCast]
  have dia2 := diaD.n (g2 none)
  have g3x : G none H2 H2 := G.refl
  have fn2 : HasAt H2 f c' s.heap.objs.size := ⟨(g2 none).all _ _ f1, (g2 none).all _ _ c1⟩
  refine for_it walk_range (fun i σ H' => ∃ u6 u7 u8 u9 u10 u11 ts, σ = [some (.ref vp), some (.ref dp), some (.int (ws.length : Nat)), some (.ref f), some (.ref ML), some (.ref pl), u6, u7, u8, u9, u10, u11] ∧ G none H2 H' ∧ H' pl = some (.lst (ts.map V.ref)) ∧ TupAll H' ts ((prsA ws.length i).map wN) ∧ ((List.range ws.length).take i).findSome? (fst1 ws ds) = none)
    ⟨_, _, _, _, _, _, [], rfl, g3 none, h3, ⟨rfl, fun i p e1 e2 => by simp at e2⟩, rfl⟩ (fun _ _ _ _ _ => trivial) ?_ ?_
  · rintro i v σ _ H4 hi ⟨u6, u7, u8, u9, u10, u11, ts, rfl, g4, h4, tup, none1⟩ ⟨rfl, rfl⟩
    rw [show (fun i : Nat => V.int (0 + (i : Nat))) i = V.int ((i : Nat) : Int) from congrArg V.int (Int.zero_add _)]
    walk_at "ws"
    refine i_rng1 (by omega) (by omega) ?_
    rw [Int.toNat_natCast]
    refine for_it walk_range (fun j σ H' => ∃ u7 u11 ts, σ = [some (.ref vp), some (.ref dp), some (.int (ws.length : Nat)), some (.ref f), some (.ref ML), some (.ref pl), some (.int (i : Nat)), u7, u8, u9, u10, u11] ∧ G none H2 H' ∧ H' pl = some (.lst (ts.map V.ref)) ∧ TupAll H' ts ((prsA ws.length i ++ rowA i j).map wN) ∧ ((List.range ws.length).take j).findSome? (fun q => if saw ws ds i q then some (i, q) else none) = none)
      ⟨_, _, ts, rfl, g4, h4, by simpa [rowA] using tup, rfl⟩ (fun _ _ _ _ _ => trivial) ?_ ?_
    · rintro j v σ _ H5 hj ⟨u7, u11, ts, rfl, g5, h5, tup, none2⟩ ⟨rfl, rfl⟩
      rw [show (fun i : Nat => V.int (0 + (i : Nat))) j = V.int ((j : Nat) : Int) from congrArg V.int (Int.zero_add _)]
      obtain ⟨w0, hw0⟩ : ∃ x, ws[i]? = some x := ⟨_, List.getElem?_eq_getElem hi⟩
      have wr0 := wh.rec_.wr w0 (List.mem_of_getElem? hw0)
      obtain ⟨x0, rfl⟩ : ∃ x : Nat, w0 = ((x : Nat) : Int) := ⟨w0.toNat, by omega⟩
      obtain ⟨d0, hd0⟩ : ∃ d, ds[x0]? = some d := ⟨_, List.getElem?_eq_getElem (by omega)⟩
      have dm0 := List.mem_of_getElem? hd0
      have ew : (ws.getD i 0).toNat = x0 := by rw [List.getD_eq_getElem?_getD, hw0]; simp
      walk_at "wn"
      refine GA.w_seq ?_
      dsimp only
      refine w_ifM (fun b H' => G none H5 H' ∧ (b = true ↔ saw ws ds i j = true)) (fun N kN => ?_) ?_
      · walk_at "ws"
        refine w_ite (fun c0 => ?_) (fun c0 => ?_)
        · walk_at "ws"
          refine w_calln ⟨f, c', rfl, (fn2.n g5).fn, ?_⟩
          walk_at "ws"
          have hv5 := sqT_t g5.tups (sqT_t (g2 none).tups hv1)
          refine ⟨vp, _, _, .int (x0 : Nat), rfl, rfl, hv5, at_of (j := i) (by omega) (by rw [List.getElem?_map, hw0]; rfl), ?_⟩
          walk_at "ws"
          refine ⟨(fn2.n g5).fn, (fn2.n g5).cd, dp, ds, x0, d0, _, _, rfl, rfl, dia2.n g5, hd0, wh.rec_.nd d0 dm0, wh.has dm0 hj, wh.has dm0 hi, ?_⟩
          refine ⟨_, rfl, ?_⟩
          refine w_ite (fun c1 => ?_) (fun c1 => ?_)
          · walk_at "ws"
            refine w_lcN ?_
            walk_at "ws"
            refine i_list (SqL.of (g5.all _ _ ((g3x.all _ _ h2)))) ?_
            intro D hD
            refine lc_pure (K := K) (o := none) (walk_list (xs := (upto ds.length).map V.int)) (by rw [List.length_map, len_upto]; omega) hD (fun _ e => nomatch e) (fun i' => ds[i']?.map fun d => PyData.bool (bef d (i : Nat) (j : Nat))) (fun H' g => SqL.of ((g5.trans g).all _ _ (g3x.all _ _ h2))) ?_ ?_
            · rintro i' y _ H7 hi' g7 ⟨rfl, hy⟩ Qy Qn ky kn
              rw [List.length_map, len_upto] at hi'
              obtain ⟨d, hd⟩ : ∃ d, ds[i']? = some d := ⟨_, List.getElem?_eq_getElem hi'⟩
              have dm := List.mem_of_getElem? hd
              have ey := at_upto hi' hy
              subst ey
              walk_at "ws"
              refine ⟨rfl, ?_⟩
              walk_at "ws"
              refine w_callW ⟨f, c', rfl, (fn2.n (g5.trans g7)).fn, ?_⟩
              walk_at "ws"
              refine ⟨(fn2.n (g5.trans g7)).fn, (fn2.n (g5.trans g7)).cd, dp, ds, i', d, _, _, rfl, rfl, dia2.n (g5.trans g7), hd, wh.rec_.nd d dm, wh.has dm hi, wh.has dm hj, ?_⟩
              exact ky _ _ _ G.refl (.bl _) rfl (by rw [hd]; rfl)
            · intro xs' H7 g7 hD7 hds _
              rw [List.length_map, len_upto, filterMap_range_map] at hds
              obtain rfl := bools_told hds
              walk_at "ws"
              refine ⟨D, _, rfl, SqL.of hD7, ?_⟩
              have e : (ds.map fun d => bef d (i : Nat) (j : Nat)).any id = ds.any fun d => bef d (i : Nat) (j : Nat) := by rw [List.any_map]; rfl
              rw [e]
              refine ⟨_, rfl, kN _ _ ⟨g7, ?_⟩⟩
              unfold saw
              rw [ew, dAt_of hd0, c1, Bool.true_and]
          · refine kN _ _ ⟨G.refl, ?_⟩
            unfold saw
            rw [ew, dAt_of hd0, c1, Bool.false_and]
        · refine kN _ _ ⟨G.refl, ?_⟩
          have c0 : (i : Int) = j := by simpa using c0
          have c0 : i = j := by omega
          subst c0
          rw [saw_self]
      · rintro b H6 ⟨g6, eb⟩
        have g26 := g5.trans g6
        cases b with
        | true =>
          have tr := eb.mp rfl
          walk_at "ws"
          refine ⟨sz (by simp), fun t2 H8 ht2 g8 h8 => ?_⟩
          have g18 : G none H1 H8 := (g2 none).trans (g26.trans (g8 none))
          refine k _ _ (e1.trans g18.extN) (tabsN_n t1 g18) ?_
          have inner : fst1 ws ds i = some (i, j) := fs_hit none2 (List.getElem?_range hj) (by rw [if_pos tr])
          have fin : seenF ws ds = some (i, j) := fs_hit none1 (List.getElem?_range hi) inner
          unfold picD
          rw [fin]
          exact .tup (SqT.of h8) (.cons (.str _) (.cons (.int _) (.cons (.int _) .nil)))
        | false =>
          have tr : ¬ saw ws ds i j = true := fun h => by cases eb.mpr h
          have h6 := g6.all _ _ h5
          have tup6 := tup.g g6 (fun _ e => nomatch e)
          have none3 := fs_miss none2 (List.getElem?_range hj) (by rw [if_neg tr])
          have tl : ts.length ≤ 30 * 30 + 30 := by
            have e1 := tup.1
            rw [List.length_map, List.length_append] at e1
            have e2 := prsA_len ws.length i
            have e3 := rowA_len i j
            have e4 : i * ws.length ≤ 30 * 30 := Nat.mul_le_mul (by omega) p30
            omega
          walk_at "ws"
          refine w_ite (fun c => ?_) (fun c => ?_)
          · have c' : i < j := by simpa using c
            walk_at "ws"
            refine i_BM h6 ?_
            walk_at "ws"
            refine ⟨sz (by simp), fun t7 H7 ht7 g7 h7 => ?_⟩
            have h7p := (g7 none).all _ _ h6
            walk_at "ws"
            refine r_app h7p (by rw [List.length_map]; omega) ?_
            walk_at "ws"
            refine ⟨_, _, ts ++ [t7], rfl, (g26.trans (g7 none)).mut hpl (fun _ e => nomatch e), by rw [upd_same, List.map_append]; rfl, ?_, none3⟩
            rw [rowA_succ, if_pos c', ← List.append_assoc, List.map_append]
            refine ((tup6.g (g7 none) (fun _ e => nomatch e)).put h7p).app ?_
            rw [upd_ne (ne_of h7 h7p (by intro z; cases z))]
            exact h7
          · have c' : ¬ i < j := by simpa using c
            walk_at "ws"
            refine ⟨_, _, ts, rfl, g26, h6, ?_, none3⟩
            rw [rowA_succ, if_neg c', List.append_nil]
            exact tup6
    · rintro σ H5 ⟨u7, u11, ts, rfl, g5, h5, tup, none2⟩
      walk_at "ws"
      refine ⟨_, _, _, _, _, _, ts, rfl, g5, h5, ?_, fs_miss none1 (List.getElem?_range hi) (fs_end (by rw [List.length_range]; exact none2))⟩
      rw [prsA_succ]
      exact tup
  · rintro σ H4 ⟨u6, u7, u8, u9, u10, u11, ts, rfl, g4, h4, tup, none1⟩
    rw [prsA_end] at tup
    have sn : seenF ws ds = none := fs_end (by rw [List.length_range]; exact none1)
    have tl : ts.length = (pairsN ws.length).length := by rw [tup.1, List.length_map]
    have mix := mix_law ws.length ds
    have lw := fun (u : Nat × Nat) (hu : u ∈ pairsN ws.length) => prsA_mem hu
    generalize pairsN ws.length = PN at tup tl mix lw pl9
    have fn4 := fn2.n g4
    have dia4 := dia2.n g4
    have hML4 := g4.all _ _ h2
    walk_at "ws"
    refine i_list (SqL.of h4) ?_
    refine for_it (walk_list (xs := ts.map V.ref)) (fun i σ H' => ∃ u6 u7 u8 u9 u10 u11, σ = [some (.ref vp), some (.ref dp), some (.int (ws.length : Nat)), some (.ref f), some (.ref ML), some (.ref pl), u6, u7, u8, u9, u10, u11] ∧ G none H4 H' ∧ (PN.take i).findSome? (mixL ds PN) = none)
      ⟨_, _, _, _, _, _, rfl, G.refl, rfl⟩ (fun i σ H' _ ⟨_, _, _, _, _, _, _, g, _⟩ => SqL.of (g.all _ _ h4)) ?_ ?_
    · rintro i v σ _ H5 hi ⟨u6, u7, u8, u9, u10, u11, rfl, g5, none1⟩ ⟨rfl, hv'⟩
      rw [List.length_map] at hi
      rw [List.getElem?_map] at hv'
      obtain ⟨b, hb, rfl⟩ := Option.map_eq_some_iff.mp hv'
      obtain ⟨u, hu⟩ : ∃ u, PN[i]? = some u := ⟨_, List.getElem?_eq_getElem (by omega)⟩
      have hbt : H5 b = some (.tup [.int (u.1 : Nat), .int (u.2 : Nat)]) := (tup.g g5 (fun _ e => nomatch e)).2 i b (wN u) hb (by rw [List.getElem?_map, hu]; rfl)
      have um := lw u (List.mem_of_getElem? hu)
      walk_at "ws"
      refine ⟨b, _, rfl, SqT.of hbt, rfl, ?_⟩
      refine ⟨_, _, rfl, ?_⟩
      walk_at "ws"
      refine ⟨_, _, rfl, ?_⟩
      walk_at "ws"
      refine ⟨rfl, ?_⟩
      walk_at "ws"
      refine i_list (SqL.of (g5.all _ _ h4)) ?_
      refine for_it (walk_list (xs := ts.map V.ref)) (fun j σ H' => ∃ u8 u9 u10 u11, σ = [some (.ref vp), some (.ref dp), some (.int (ws.length : Nat)), some (.ref f), some (.ref ML), some (.ref pl), some (.int (u.1 : Nat)), some (.int (u.2 : Nat)), u8, u9, u10, u11] ∧ G none H4 H' ∧ (PN.take j).findSome? (fun v => if ltN u v && four (side ds u) (side ds v) then some (u, v) else none) = none)
        ⟨_, _, _, _, rfl, g5, rfl⟩ (fun j σ H' _ ⟨_, _, _, _, _, g, _⟩ => SqL.of (g.all _ _ h4)) ?_ ?_
      · rintro j v σ _ H6 hj ⟨u8, u9, u10, u11, rfl, g6, none2⟩ ⟨rfl, hv'⟩
        rw [List.length_map] at hj
        rw [List.getElem?_map] at hv'
        obtain ⟨c, hc, rfl⟩ := Option.map_eq_some_iff.mp hv'
        obtain ⟨v, hv6⟩ : ∃ u, PN[j]? = some u := ⟨_, List.getElem?_eq_getElem (by omega)⟩
        have hct : H6 c = some (.tup [.int (v.1 : Nat), .int (v.2 : Nat)]) := (tup.g g6 (fun _ e => nomatch e)).2 j c (wN v) hc (by rw [List.getElem?_map, hv6]; rfl)
        have vm := lw v (List.mem_of_getElem? hv6)
        walk_at "ws"
        refine ⟨c, _, rfl, SqT.of hct, rfl, ?_⟩
        refine ⟨_, _, rfl, ?_⟩
        walk_at "ws"
        refine ⟨_, _, rfl, ?_⟩
        walk_at "ws"
        refine ⟨rfl, ?_⟩
        refine GA.w_seq ?_
        walk_at "wn"
        refine w_lcN ?_
        walk_at "wn"
        refine i_list (SqL.of (g6.all _ _ hML4)) ?_
        intro D hD
        refine lc_it (walk_list (xs := (upto ds.length).map V.int)) (fun n H' => ∃ ks : List (Addr × List Bool), G none H6 H' ∧ H' D = some (.lst (ks.map fun q => V.ref q.1)) ∧ (∀ q ∈ ks, H' q.1 = some (.tup (q.2.map V.bl))) ∧ ks.map (·.2) = (ds.take n).map fun d => [bef d (u.1 : Nat) (u.2 : Nat), bef d (v.1 : Nat) (v.2 : Nat)]) ⟨[], (G.refl).mut hD (fun _ e => nomatch e), upd_same, (fun _ h => nomatch h), rfl⟩ (fun n H' _ ⟨_, g, _⟩ => SqL.of (g.all _ _ (g6.all _ _ hML4))) ?_ ?_
        · rintro n y _ H7 hn ⟨ks, g7, hD7, hks, eks⟩ ⟨rfl, hy⟩
          rw [List.length_map, len_upto] at hn
          obtain ⟨d, hd⟩ : ∃ d, ds[n]? = some d := ⟨_, List.getElem?_eq_getElem hn⟩
          have dm := List.mem_of_getElem? hd
          have ey := at_upto hn hy
          subst ey
          have fn7 := fn4.n (g6.trans g7)
          have dia7 := dia4.n (g6.trans g7)
          walk_at "ws"
          refine ⟨rfl, ?_⟩
          walk_at "ws"
          refine w_callW ⟨f, c', rfl, fn7.fn, ?_⟩
          walk_at "ws"
          refine ⟨fn7.fn, fn7.cd, dp, ds, n, d, _, _, rfl, rfl, dia7, hd, wh.rec_.nd d dm, wh.has dm um.1, wh.has dm um.2, ?_⟩
          walk_at "ws"
          refine w_callW ⟨f, c', rfl, fn7.fn, ?_⟩
          walk_at "ws"
          refine ⟨fn7.fn, fn7.cd, dp, ds, n, d, _, _, rfl, rfl, dia7, hd, wh.rec_.nd d dm, wh.has dm vm.1, wh.has dm vm.2, ?_⟩
          walk_at "ws"
          refine ⟨sz (by simp), fun t H8 ht g8 h8 => ?_⟩
          have hD8 := (g8 none).all _ _ hD7
          have kl : ks.length ≤ 7 := by
            have := congrArg List.length eks
            rw [List.length_map, List.length_map, List.length_take] at this
            omega
          refine ⟨ks.map fun q => V.ref q.1, hD8, Nat.lt_of_le_of_lt (by rw [List.length_map]; omega : (ks.map fun q => V.ref q.1).length ≤ 100000) (by decide), ks ++ [(t, [bef d (u.1 : Nat) (u.2 : Nat), bef d (v.1 : Nat) (v.2 : Nat)])], (g7.trans (g8 none)).mut hD (fun _ e => nomatch e), by rw [upd_same, List.map_append]; rfl, fun q hq => ?_, ?_⟩
          · have h8q : H8 q.1 = some (.tup (q.2.map V.bl)) := by
              rcases List.mem_append.mp hq with z | z
              · exact (g8 none).all _ _ (hks q z)
              · rw [List.mem_singleton.mp z]; exact h8
            rw [upd_ne (ne_of h8q hD8 (by intro z; cases z))]
            exact h8q
          · rw [List.map_append, eks, List.take_add_one, hd, List.map_append]
            rfl
        · rintro H7 ⟨ks, g7, hD7, hks, eks⟩
          rw [List.length_map, len_upto, List.take_length] at eks
          walk_at "wn"
          refine ⟨D, ks, rfl, SqL.of hD7, fun q hq => ⟨hks q hq, ?_⟩, fun a L H8 ha g8 bag ndL mem => ?_⟩
          · have : q.2 ∈ ks.map (·.2) := List.mem_map.mpr ⟨q, hq, rfl⟩
            rw [eks] at this
            obtain ⟨d, _, e⟩ := List.mem_map.mp this
            rw [← e]
            cases bef d (u.1 : Nat) (u.2 : Nat) <;> cases bef d (v.1 : Nat) (v.2 : Nat) <;> simp [GSa.two]
          walk_at "wn"
          refine ⟨a, L, rfl, bag, fun ys p H9 yl hp g9 h9 => ?_⟩
          have g69 : G none H6 H9 := g7.trans ((g8 none).trans (g9 none))
          have zs : ((side ds u).zip (side ds v)).map (fun q => [q.1, q.2]) = ds.map fun d => [bef d (u.1 : Nat) (u.2 : Nat), bef d (v.1 : Nat) (v.2 : Nat)] := by
            unfold side
            rw [List.zip_map', List.map_map]
            rfl
          have cnt := four_count (a := side ds u) (b := side ds v) ndL (fun k => by rw [mem, eks, zs])
          rw [List.length_map, ← yl] at cnt
          clear hks eks mem ndL bag
          dsimp only
          refine w_ifM (fun b H' => G none H9 H' ∧ (b = true ↔ (ltN u v && four (side ds u) (side ds v)) = true)) (fun N kN => ?_) ?_
          · walk_at "ws"
            refine ⟨sz (by simp), fun t1 HA ht1 gA hA => ?_⟩
            walk_at "ws"
            refine ⟨sz (by simp), fun t2 HB ht2 gB hB => ?_⟩
            walk_at "ws"
            refine ⟨t1, t2, [((u.1 : Nat) : Int), ((u.2 : Nat) : Int)], [((v.1 : Nat) : Int), ((v.2 : Nat) : Int)], rfl, rfl, SqT.of ((gB none).all _ _ hA), SqT.of hB, ?_⟩
            rw [ltL_N]
            refine ⟨_, rfl, ?_⟩
            refine w_ite (fun c1 => ?_) (fun c1 => ?_)
            · walk_at "ws"
              refine ⟨p, _, rfl, .inl (SqL.of ((gB none).all _ _ ((gA none).all _ _ h9))), ?_⟩
              walk_at "ws"
              refine kN _ _ ⟨(gA none).trans (gB none), ?_⟩
              rw [c1, Bool.true_and, ← cnt]
            · refine kN _ _ ⟨(gA none).trans (gB none), ?_⟩
              rw [c1, Bool.false_and]
          · rintro b HC ⟨gC, eb⟩
            cases b with
            | true =>
              have tr := eb.mp rfl
              walk_at "ws"
              refine ⟨sz (by simp), fun t3 HE ht3 gE hE => ?_⟩
              have g1E : G none H1 HE := (g2 none).trans (g4.trans (g6.trans (g69.trans (gC.trans (gE none)))))
              refine k _ _ (e1.trans g1E.extN) (tabsN_n t1 g1E) ?_
              have inner : mixL ds PN u = some (u, v) := fs_hit none2 hv6 (by rw [if_pos tr])
              have fin := fs_hit none1 hu inner
              rw [mix] at fin
              unfold picD
              rw [sn]
              show Dp K HE _ (match mixF ws.length ds with | some u => mixD (some u) | none => turnD (turnF ws.length ds))
              rw [fin]
              exact .tup (SqT.of hE) (.cons (.str _) (.cons (.int _) (.cons (.int _) (.cons (.int _) (.cons (.int _) .nil)))))
            | false =>
              have tr : ¬ (ltN u v && four (side ds u) (side ds v)) = true := fun h => by cases eb.mpr h
              walk_at "ws"
              exact ⟨_, _, _, _, rfl, g6.trans (g69.trans gC), fs_miss none2 hv6 (by rw [if_neg tr])⟩
      · rintro σ H6 ⟨u8, u9, u10, u11, rfl, g6, none2⟩
        walk_at "ws"
        refine ⟨_, _, _, _, _, _, rfl, g6, fs_miss none1 hu (fs_end ?_)⟩
        rw [List.length_map, tl] at none2
        exact none2
    · rintro σ H5 ⟨u6, u7, u8, u9, u10, u11, rfl, g5, none1⟩
      rw [List.length_map, tl] at none1
      have mn := fs_end none1
      rw [mix] at mn
      walk_at "ws"
      refine ⟨dp, ws, ds, rfl, dia4.n g5, wh, fun v H6 g6 d6 => ?_⟩
      walk_at "ws"
      have g16 : G none H1 H6 := (g2 none).trans (g4.trans (g5.trans g6))
      refine k _ _ (e1.trans g16.extN) (tabsN_n t1 g16) ?_
      unfold picD
      rw [sn]
      show Dp K H6 _ (match mixF ws.length ds with | some u => mixD (some u) | none => turnD (turnF ws.length ds))
      rw [mn]
      exact d6


end
end Mine
/-! ## K29 -/


namespace Mine
section
variable {P : Program} {w : World} {K : PySem.W.Frag} {mg : Str → Option Value} {base : Heap} {a : Ads}

/-! ### the law -/
theorem sh_dD (ds : List (List Int)) : SeqAt.shaped (.tuple (ds.map dI)) = true := sh_of (can_tup fun d h => by
  obtain ⟨n, _, rfl⟩ := List.mem_map.mp h
  exact can_dI n) (Nat.le_trans (dep_tup (n := 1) fun d h => by
  obtain ⟨n, _, rfl⟩ := List.mem_map.mp h
  exact dep_dI n) (by decide))
theorem eqv_dD (ds : List (List Int)) : PyData.eqv (.tuple (ds.map dI)) (.tuple (ds.map dI)) = true := by
  rw [PyData.eqv, eqvAll_map eqv_dI]; simp
theorem Dia.dp {H : Hp} {p : Addr} {ds : List (List Int)} (h : Dia K H p ds) : Dp K H (.ref p) (.tuple (ds.map dI)) := by
  obtain ⟨bs, h1, h2, h3⟩ := h
  refine .tup h1 ?_
  clear h1
  induction ds generalizing bs with
  | nil =>
    have : bs = [] := List.eq_nil_of_length_eq_zero (by simpa using h2)
    subst this
    exact .nil
  | cons d ds ih =>
    match bs, h2, h3 with
    | b :: bs, h2, h3 =>
      exact .cons (dp_ofI (h3 0 b d rfl rfl).sq) (ih bs (by simpa using h2) fun i b' d' e1 e2 => h3 (i + 1) b' d' (by simpa using e1) (by simpa using e2))

theorem RecAt.x {C x : Addr} {ws : List Int} {ds : List (List Int)} {H H' : Hp} (h : RecAt K C H x ws ds) (e : LamX.ExtN H H') : RecAt K C H' x ws ds := by
  obtain ⟨dx, wp, dp, h1, h2, h3⟩ := h
  exact ⟨dx, wp, dp, e _ _ h1 (fun _ z => by cases z), sqT_t (ExtN.ts e) h2, h3.x e⟩
/-- a picture as data: None, or a tuple of a word and ints -/
theorem picD_is (ws : List Int) (ds : List (List Int)) : picD ws ds = .none ∨ ∃ (s : PySem.Str) (ns : List Int), PyData.strOk s = true ∧ ns.length ≤ 4 ∧ picD ws ds = .tuple (.str s :: ns.map PyData.int) := by
  unfold picD
  cases seenF ws ds with
  | some u => exact .inr ⟨"seen", [(u.1 : Nat), (u.2 : Nat)], by decide +kernel, by simp, rfl⟩
  | none =>
    show (match mixF ws.length ds with | some u => mixD (some u) | none => turnD (turnF ws.length ds)) = _ ∨ _
    cases mixF ws.length ds with
    | some u => exact .inr ⟨"mixed", [(u.1.1 : Nat), (u.1.2 : Nat), (u.2.1 : Nat), (u.2.2 : Nat)], by decide +kernel, by simp, rfl⟩
    | none =>
      show turnD (turnF ws.length ds) = _ ∨ _
      cases turnF ws.length ds with
      | none => exact .inl rfl
      | some u => exact .inr ⟨"turned", [(u.1 : Nat), (u.2.1 : Nat), (u.2.2 : Nat)], by decide +kernel, by simp, rfl⟩
theorem okd_pic (ws : List Int) (ds : List (List Int)) : okd 2 (.list [picD ws ds]) := by
  refine .inr ⟨_, .inr rfl, by simp, fun e he => ?_⟩
  have e' : e = picD ws ds := by simpa using he
  subst e'
  rcases picD_is ws ds with h | ⟨s, ns, hs, hl, h⟩
  · rw [h]; exact .inl trivial
  · rw [h]
    refine .inr ⟨_, .inl rfl, by rw [List.length_cons, List.length_map]; omega, fun e he => ?_⟩
    rcases List.mem_cons.mp he with rfl | he
    · exact hs
    · obtain ⟨n, _, rfl⟩ := List.mem_map.mp he
      trivial
theorem sh_pic (ws : List Int) (ds : List (List Int)) : SeqAt.shaped (picD ws ds) = true := by
  rcases picD_is ws ds with h | ⟨s, ns, hs, hl, h⟩
  · rw [h]; exact scal1_sh trivial
  · rw [h]
    refine sh_of (can_tup fun d hd => ?_) (Nat.le_trans (dep_tup (n := 0) fun d hd => ?_) (by decide))
    · rcases List.mem_cons.mp hd with rfl | hd
      · simp [PyData.canLay0]; exact hs
      · obtain ⟨n, _, rfl⟩ := List.mem_map.mp hd
        exact can_int
    · rcases List.mem_cons.mp hd with rfl | hd
      · simp [PyData.depth]
      · obtain ⟨n, _, rfl⟩ := List.mem_map.mp hd
        rw [dep_int]; exact Nat.le_refl _
theorem eqv_pic (ws : List Int) (ds : List (List Int)) : PyData.eqv (picD ws ds) (picD ws ds) = true := by
  rcases picD_is ws ds with h | ⟨s, ns, hs, hl, h⟩
  · rw [h]; rfl
  · rw [h, PyData.eqv]
    have z : PyData.eqvAll (ns.map PyData.int) (ns.map PyData.int) = true := by
      rw [eqvAll_map (fun _ _ => eqv_int) ns ns]
      simp
    simp [PyData.eqvAll, z, PyData.eqv]
theorem w_ifE {b : Bool} {t u : TE} {σ : L2.St} {H : Hp} {Q : VK} (M : V → Hp → Prop) (h1 : ∀ N : VK, (∀ v H', M v H' → N v H') → if b = true then t σ H N else u σ H N) (h2 : ∀ v H', M v H' → Q v H') : if b = true then t σ H Q else u σ H Q := h1 Q h2
def spLaw (K : PySem.W.Frag) (pt : Addr) : Sp := fun vs H Q _ => ∃ (s : Addr) (ns : List Int), vs = [.ref s] ∧ SqL K H s (ns.map V.int) ∧ ns.length ≤ 63 ∧ NdefX.TabsN (tabsP pt) H ∧ ∀ H', Q (.bl true) H'
theorem ok_law {pc pt : Addr} (T : Txt K mg a) (FC : FunC K "_law_picture" "_law_picture" s__law_picture a.f__law_picture a.d__law_picture pc) (TB : LamX.TabB base mg pc pt) : FnOk P w K mg base CX0 9 a.f_law a.d_law P_law (spLaw K pt) := by
  refine T.F_law.ok sc_law (fun vs H Q E h => by obtain ⟨s, ns, rfl, _⟩ := h; rfl) (fun cdv A outer s0 H vs Q E hr h => ?_)
  obtain ⟨s, ns, rfl, hs, hl, tabs, k⟩ := h
  have G__law_hand : FnOk P w K mg base CX0 1 a.f__law_hand a.d__law_hand P__law_hand (sp__law_hand K) := ok__law_hand T
  have G__law_draw : FnOk P w K mg base CX0 1 a.f__law_draw a.d__law_draw P__law_draw sp__law_draw := ok__law_draw T
  have G__law_few_orders : FnOk P w K mg base CX0 2 a.f__law_few_orders a.d__law_few_orders P__law_few_orders (sp__law_few_orders K) := ok__law_few_orders T
  have G__law_whole_record : FnOk P w K mg base CX0 4 a.f__law_whole_record a.d__law_whole_record P__law_whole_record (sp__law_whole_record K) := ok__law_whole_record T
  have G_Record_init : FnOk P w K mg base CX0 7 a.f_Record_init a.d_Record_init P_Record_init (sp_Record_init K a.c_Record) := ok_Record_init T
  have G_picture : FnOk P w K mg base CX0 4 a.f_picture a.d_picture P_picture (sp_picture K a.c_Record) := ok_picture T
  have G__law_is : FnOk P w K mg base CX0 3 a.f__law_is a.d__law_is P__law_is (sp__law_is K 2) := ok__law_is T 2
  have G__law_picture : FnOk P w K mg base CX0 2 a.f__law_picture a.d__law_picture P__law_picture (sp__law_picture K pt) := ok__law_picture T FC TB
  refine ⟨_, (pss_cons (ps_set (i := 1) sc_law.nd rfl (Or.inl rfl) (pe_call (G__law_hand) (hr.mono (by omega)) rfl T.m__law_hand T.F__law_hand.kp T.b__law_hand .nil pass0 (pa_cons (pv 0) pa_nil)))
  (pss_cons (ps_for PassesOwn.never rfl (pi_range1 rfl T.n_range (pa_cons pe_int pa_nil)) (pg_name (i := 2) sc_law.nd rfl (Or.inl rfl))
    (pss_cons (ps_asg (pe_call (G__law_few_orders) (hr.mono (by omega)) rfl T.m__law_few_orders T.F__law_few_orders.kp T.b__law_few_orders .nil pass0 (pa_cons (pv 1) pa_nil)) (pg_tup rfl (pgs_cons (pg_name (i := 3) sc_law.nd rfl (Or.inl rfl)) (pgs_cons (pg_name (i := 4) sc_law.nd rfl (Or.inl rfl)) pgs_nil))))
  (pss_cons (ps_if (pt_cmpR op_lt (pv 2) pe_int (nomark _))
    (pss_cons (ps_set (i := 5) sc_law.nd rfl (Or.inl rfl) (pe_ifExp (pt_cmpR op_gt (pe_call (G__law_draw) (hr.mono (by omega)) rfl T.m__law_draw T.F__law_draw.kp T.b__law_draw .nil pass0 (pa_cons (pv 1) (pa_cons pe_int pa_nil))) pe_int (nomark _)) (pe_call (G__law_draw) (hr.mono (by omega)) rfl T.m__law_draw T.F__law_draw.kp T.b__law_draw .nil pass0 (pa_cons (pv 1) (pa_cons pe_int pa_nil))) (pe_op op_add pe_int (pe_call (G__law_draw) (hr.mono (by omega)) rfl T.m__law_draw T.F__law_draw.kp T.b__law_draw .nil pass0 (pa_cons (pv 1) (pa_cons pe_int pa_nil))))))
  (pss_one (ps_asg (pe_call (G__law_whole_record) (hr.mono (by omega)) rfl T.m__law_whole_record T.F__law_whole_record.kp T.b__law_whole_record .nil pass0 (pa_cons (pv 1) (pa_cons (pe_op op_add pe_int (pe_call (G__law_draw) (hr.mono (by omega)) rfl T.m__law_draw T.F__law_draw.kp T.b__law_draw .nil pass0 (pa_cons (pv 1) (pa_cons pe_int pa_nil)))) (pa_cons (pv 5) pa_nil)))) (pg_tup rfl (pgs_cons (pg_name (i := 3) sc_law.nd rfl (Or.inl rfl)) (pgs_cons (pg_name (i := 4) sc_law.nd rfl (Or.inl rfl)) pgs_nil))))))
    pss_nil)
  (pss_cons (ps_set (i := 6) sc_law.nd rfl (Or.inl rfl) (pe_make T.K_Record (G_Record_init) (hr.mono (by omega)) rfl T.m_Record T.b_Record_init .nil pass0 (pa_cons (pv 3) (pa_cons (pv 4) pa_nil))))
  (pss_cons (ps_set (i := 7) sc_law.nd rfl (Or.inl rfl) (pe_call (G__law_picture) (hr.mono (by omega)) rfl T.m__law_picture T.F__law_picture.kp T.b__law_picture .nil pass0 (pa_cons (pv 3) (pa_cons (pv 4) pa_nil))))
  (pss_cons (ps_if (L2.PW.pt (pw_or (pt_not (pt_val (pe_call (G__law_is) (hr.mono (by omega)) rfl T.m__law_is T.F__law_is.kp T.b__law_is .nil pass0 (pa_cons (pe_lstN (pa_cons (pe_call (G_picture) (hr.mono (by omega)) rfl T.m_picture T.F_picture.kp T.b_picture .nil pass0 (pa_cons (pv 6) pa_nil)) pa_nil)) (pa_cons (pe_lstN (pa_cons (pv 7) pa_nil)) pa_nil))))) (pw_or1 (pt_cmpR (op_neD hr.units) (pe_call (G_picture) (hr.mono (by omega)) rfl T.m_picture T.F_picture.kp T.b_picture .nil pass0 (pa_cons (pe_make T.K_Record (G_Record_init) (hr.mono (by omega)) rfl T.m_Record T.b_Record_init .nil pass0 (pa_cons (pv 3) (pa_cons (pv 4) pa_nil))) pa_nil)) (pv 7) (nomark _)))))
    (pss_one (ps_ret pe_bl))
    pss_nil)
  (pss_one (ps_if (L2.PW.pt (pw_or (pt_cmpR (op_neD hr.units) (pe_fld (pv 6) rfl) (pv 3) (nomark _)) (pw_or1 (pt_cmpR (op_neD hr.units) (pe_fld (pv 6) rfl) (pv 4) (nomark _)))))
    (pss_one (ps_ret pe_bl))
    pss_nil))))))))
  (pss_one (ps_ret pe_bl)))), ?_⟩
  walk_at "ws"
  refine ⟨s, ns, rfl, hs, hl, fun hd c H1 g1 hh1 => ?_⟩
  have t1 := tabsN_n tabs g1
  clear hs tabs g1
  walk_at "ws"
  refine i_rng1 (by decide) (by decide) ?_
  refine for_it walk_range (fun i σ H' => Hand H' hd c ∧ NdefX.TabsN (tabsP pt) H' ∧ ∃ u2 u3 u4 u5 u6 u7, σ = [some (.ref s), some (.ref hd), u2, u3, u4, u5, u6, u7]) ⟨hh1, t1, _, _, _, _, _, _, rfl⟩ (fun _ _ _ _ _ => trivial) ?_ ?_
  · rintro turn _ σ _ H2 ht ⟨hh2, t2, u2, u3, u4, u5, u6, u7, rfl⟩ ⟨rfl, rfl⟩
    clear hh1 t1
    walk_at "ws"
    refine ⟨hd, c, rfl, hh2, fun p vp dp ws ds H3 g3 hh3 hp hv dia wh => ?_⟩
    have t3 := tabsN_g t2 hh2 g3
    clear t2 g3 hh2
    refine ⟨p, _, rfl, SqT.of hp, rfl, ?_⟩
    refine ⟨_, _, rfl, ?_⟩
    walk_at "ws"
    refine ⟨_, _, rfl, ?_⟩
    walk_at "ws"
    refine ⟨rfl, ?_⟩
    clear hp
    dsimp only
    refine w_seqM (fun σ' H' => ∃ u5 vp dp ws ds, σ' = [some (.ref s), some (.ref hd), some (.int (0 + (turn : Nat))), some (.ref vp), some (.ref dp), u5, u6, u7] ∧ Hand H' hd c ∧ NdefX.TabsN (tabsP pt) H' ∧ SqT K H' vp (ws.map V.int) ∧ Dia K H' dp ds ∧ IsWh ws ds) (fun N kN => ?_) ?_
    · walk_at "ws"
      refine w_ite (fun c0 => ?_) (fun c0 => ?_)
      · walk_at "ws"
        refine ⟨hd, c, 20, rfl, hh3, by decide, by decide, fun r H4 r0 r1 g4 hh4 => ?_⟩
        have t4 := tabsN_g t3 hh3 g4
        clear t3 g4 hh3 dia hv
        walk_at "ws"
        refine w_ifE (fun v H' => ∃ m : Nat, v = .int (m : Nat) ∧ m ≤ 30 ∧ G (some (hd, c)) H4 H') (fun N kN => ?_) ?_
        · refine w_ite (fun c1 => ?_) (fun c1 => ?_)
          · walk_at "ws"
            refine ⟨hd, c, 7, rfl, hh4, by decide, by decide, fun r H5 r0 r1 g5 hh5 => ?_⟩
            obtain ⟨m, rfl⟩ : ∃ m : Nat, r = ((m : Nat) : Int) := ⟨r.toNat, by omega⟩
            exact kN _ _ ⟨m, rfl, by omega, g5⟩
          · walk_at "ws"
            refine ⟨hd, c, 8, rfl, hh4, by decide, by decide, fun r H5 r0 r1 g5 hh5 => ?_⟩
            walk_at "ws"
            obtain ⟨m, em⟩ : ∃ m : Nat, 7 + r = ((m : Nat) : Int) := ⟨(7 + r).toNat, by omega⟩
            rw [em]
            exact kN _ _ ⟨m, rfl, by omega, g5⟩
        · rintro _ H5 ⟨m, rfl, m30, g5⟩
          have hh5 := g5.hand _ rfl hh4
          have t5 := tabsN_g t4 hh4 g5
          clear t4 g5 hh4
          walk_at "ws"
          refine ⟨hd, c, 7, rfl, hh5, by decide, by decide, fun r H6 r0 r1 g6 hh6 => ?_⟩
          have t6 := tabsN_g t5 hh5 g6
          clear t5 g6 hh5
          walk_at "ws"
          obtain ⟨n, en⟩ : ∃ n : Nat, 1 + r = ((n : Nat) : Int) := ⟨(1 + r).toNat, by omega⟩
          rw [en]
          refine ⟨hd, c, n, m, rfl, hh6, by omega, by omega, m30, fun p vp dp ws ds H7 g7 hh7 hp hv dia wh => ?_⟩
          have t7 := tabsN_g t6 hh6 g7
          clear t6 g7 hh6
          refine ⟨p, _, rfl, SqT.of hp, rfl, ?_⟩
          refine ⟨_, _, rfl, ?_⟩
          walk_at "ws"
          refine ⟨_, _, rfl, ?_⟩
          walk_at "ws"
          refine ⟨rfl, ?_⟩
          exact kN _ _ ⟨_, vp, dp, ws, ds, rfl, hh7, t7, hv, dia, wh⟩
      · walk_at "ws"
        exact kN _ _ ⟨_, vp, dp, ws, ds, rfl, hh3, t3, hv, dia, wh⟩
    clear t3 hh3 dia hv wh
    rintro σ H3 ⟨u5, vp, dp, ws, ds, rfl, hh3, t3, hv, dia, wh⟩
    walk_at "ws"
    refine rec_new hv dia wh.rec_ fun x H4 hx g4 hxr => ?_
    have hh4 := (g4 _).hand (hd, c) rfl hh3
    have t4 := tabsN_n t3 (g4 none)
    have hv4 := sqT_t (g4 none).tups hv
    have dia4 := dia.n (g4 none)
    clear hx g4 hv dia hh3 t3
    walk_at "ws"
    refine ⟨vp, dp, ws, ds, rfl, hv4, dia4, wh, t4, fun due H5 e5 t5 d5 => ?_⟩
    have hh5 := hh4.ext e5
    have hv5 := sqT_t (ExtN.ts e5) hv4
    have dia5 := dia4.x e5
    have hxr5 := hxr.x e5
    clear hxr dia4 hv4 t4 hh4 e5
    walk_at "ws"
    refine ⟨x, ws, ds, rfl, hxr5, wh, fun v H6 g6 d6 => ?_⟩
    walk_at "ws"
    refine ⟨sz (by simp), fun l1 H7 hl1 g7 h7 => ?_⟩
    walk_at "ws"
    refine ⟨sz (by simp), fun l2 H8 hl2 g8 h8 => ?_⟩
    have d58 := (dp_n (g6.trans ((g7 none).trans (g8 none)))).1 _ _ d5
    refine ⟨.ref l1, .ref l2, .list [picD ws ds], rfl, okd_pic ws ds, .lst (SqL.of ((g8 none).all _ _ h7)) (.cons ((dp_n ((g7 none).trans (g8 none))).1 _ _ d6) .nil), .lst (SqL.of h8) (.cons d58 .nil), fun H9 g9 => ?_⟩
    have g59 := (g6.trans ((g7 none).trans (g8 none))).trans g9
    walk_at "ws"
    refine rec_new (sqT_t g59.tups hv5) (dia5.n g59) wh.rec_ fun x2 HA hx2 gA hxr2 => ?_
    walk_at "ws"
    refine ⟨x2, ws, ds, rfl, hxr2, wh, fun v2 HB gB dB => ?_⟩
    walk_at "ws"
    have g5B := g59.trans ((gA none).trans gB)
    refine ⟨picD ws ds, picD ws ds, dB, (dp_n g5B).1 _ _ d5, sh_pic ws ds, sh_pic ws ds, ?_⟩
    rw [eqv_pic]
    have hhB := (g5B.up (o := some (hd, c))).hand _ rfl hh5
    have tB := tabsN_n t5 g5B
    have hvB := sqT_t g5B.tups hv5
    have diaB := dia5.n g5B
    obtain ⟨dx, wq, dq, hi7, hw7, hd7⟩ := hxr5.n g5B
    walk_at "ws"
    refine r_fld hi7 T.cl_Record T.na_Record_writers (rf_w _ _) ?_
    walk_at "ws"
    refine ⟨dI ws, dI ws, dp_ofI hw7, dp_ofI hvB, sh_dI _, sh_dI _, ?_⟩
    rw [eqv_dI, decide_eq_true (rfl : ws = ws)]
    walk_at "ws"
    refine r_fld hi7 T.cl_Record T.na_Record_diaries (rf_d _ _) ?_
    walk_at "ws"
    refine ⟨.tuple (ds.map dI), .tuple (ds.map dI), hd7.dp, diaB.dp, sh_dD _, sh_dD _, ?_⟩
    rw [eqv_dD]
    walk_at "ws"
    exact ⟨hhB, tB, _, _, _, _, _, _, rfl⟩
  · rintro σ H2 ⟨_, _, u2, u3, u4, u5, u6, u7, rfl⟩
    walk_at "ws"
    exact k _

end
end Mine
/-! ## KN -/
end
namespace Mine
open PySem L2 GA
/-- what the head finds on the heap is what the proofs lean on -/
theorem all_mk {l : PySem.W.OpenLaw} {w : World} {K : PySem.W.Frag} {h : Heap} {mg : Str → Option Value} {fa : Addr} (X : K.In h) (G : h.Ns mainGlobals mg) (hfa : mg "law" = some (.ref fa))
    {ff_is_integer : Addr} {od_is_integer an_is_integer : Option Addr} {sl_is_integer : Array (Option Value)} {oc_is_integer kV_is_integer dc_is_integer pm_is_integer cd_is_integer ct_is_integer : Value}
    {ff_is_between : Addr} {od_is_between an_is_between : Option Addr} {sl_is_between : Array (Option Value)} {oc_is_between kV_is_between dc_is_between pm_is_between cd_is_between ct_is_between : Value}
    {ff_is_below : Addr} {od_is_below an_is_below : Option Addr} {sl_is_below : Array (Option Value)} {oc_is_below kV_is_below dc_is_below pm_is_below cd_is_below ct_is_below : Value}
    {ff_is_tuple_of : Addr} {od_is_tuple_of an_is_tuple_of : Option Addr} {sl_is_tuple_of : Array (Option Value)} {oc_is_tuple_of kV_is_tuple_of dc_is_tuple_of pm_is_tuple_of cd_is_tuple_of ct_is_tuple_of : Value}
    {ff_are_below : Addr} {od_are_below an_are_below : Option Addr} {sl_are_below : Array (Option Value)} {oc_are_below kV_are_below dc_are_below pm_are_below cd_are_below ct_are_below : Value}
    {ff_Record_init : Addr} {od_Record_init an_Record_init : Option Addr} {sl_Record_init : Array (Option Value)} {oc_Record_init kV_Record_init dc_Record_init pm_Record_init cd_Record_init ct_Record_init : Value}
    {ff_Record_eq : Addr} {od_Record_eq an_Record_eq : Option Addr} {sl_Record_eq : Array (Option Value)} {oc_Record_eq kV_Record_eq dc_Record_eq pm_Record_eq cd_Record_eq ct_Record_eq : Value}
    {ff_check_record : Addr} {od_check_record an_check_record : Option Addr} {sl_check_record : Array (Option Value)} {oc_check_record kV_check_record dc_check_record pm_check_record cd_check_record ct_check_record : Value}
    {ff_is_diary : Addr} {od_is_diary an_is_diary : Option Addr} {sl_is_diary : Array (Option Value)} {oc_is_diary kV_is_diary dc_is_diary pm_is_diary cd_is_diary ct_is_diary : Value}
    {ff_is_whole : Addr} {od_is_whole an_is_whole : Option Addr} {sl_is_whole : Array (Option Value)} {oc_is_whole kV_is_whole dc_is_whole pm_is_whole cd_is_whole ct_is_whole : Value}
    {ff_places_in : Addr} {od_places_in an_places_in : Option Addr} {sl_places_in : Array (Option Value)} {oc_places_in kV_places_in dc_places_in pm_places_in cd_places_in ct_places_in : Value}
    {ff_seen_picture : Addr} {od_seen_picture an_seen_picture : Option Addr} {sl_seen_picture : Array (Option Value)} {oc_seen_picture kV_seen_picture dc_seen_picture pm_seen_picture cd_seen_picture ct_seen_picture : Value}
    {ff_sides_by_pair : Addr} {od_sides_by_pair an_sides_by_pair : Option Addr} {sl_sides_by_pair : Array (Option Value)} {oc_sides_by_pair kV_sides_by_pair dc_sides_by_pair pm_sides_by_pair cd_sides_by_pair ct_sides_by_pair : Value}
    {ff_mixed_picture : Addr} {od_mixed_picture an_mixed_picture : Option Addr} {sl_mixed_picture : Array (Option Value)} {oc_mixed_picture kV_mixed_picture dc_mixed_picture pm_mixed_picture cd_mixed_picture ct_mixed_picture : Value}
    {ff_turned_picture : Addr} {od_turned_picture an_turned_picture : Option Addr} {sl_turned_picture : Array (Option Value)} {oc_turned_picture kV_turned_picture dc_turned_picture pm_turned_picture cd_turned_picture ct_turned_picture : Value}
    {ff_are_turned : Addr} {od_are_turned an_are_turned : Option Addr} {sl_are_turned : Array (Option Value)} {oc_are_turned kV_are_turned dc_are_turned pm_are_turned cd_are_turned ct_are_turned : Value}
    {ff_check_whole : Addr} {od_check_whole an_check_whole : Option Addr} {sl_check_whole : Array (Option Value)} {oc_check_whole kV_check_whole dc_check_whole pm_check_whole cd_check_whole ct_check_whole : Value}
    {ff_picture : Addr} {od_picture an_picture : Option Addr} {sl_picture : Array (Option Value)} {oc_picture kV_picture dc_picture pm_picture cd_picture ct_picture : Value}
    {ff__law_draw : Addr} {od__law_draw an__law_draw : Option Addr} {sl__law_draw : Array (Option Value)} {oc__law_draw kV__law_draw dc__law_draw pm__law_draw cd__law_draw ct__law_draw : Value}
    {ff__law_orders : Addr} {od__law_orders an__law_orders : Option Addr} {sl__law_orders : Array (Option Value)} {oc__law_orders kV__law_orders dc__law_orders pm__law_orders cd__law_orders ct__law_orders : Value}
    {ff__law_hand : Addr} {od__law_hand an__law_hand : Option Addr} {sl__law_hand : Array (Option Value)} {oc__law_hand kV__law_hand dc__law_hand pm__law_hand cd__law_hand ct__law_hand : Value}
    {ff__law_shuffled : Addr} {od__law_shuffled an__law_shuffled : Option Addr} {sl__law_shuffled : Array (Option Value)} {oc__law_shuffled kV__law_shuffled dc__law_shuffled pm__law_shuffled cd__law_shuffled ct__law_shuffled : Value}
    {ff__law_floor : Addr} {od__law_floor an__law_floor : Option Addr} {sl__law_floor : Array (Option Value)} {oc__law_floor kV__law_floor dc__law_floor pm__law_floor cd__law_floor ct__law_floor : Value}
    {ff__law_write : Addr} {od__law_write an__law_write : Option Addr} {sl__law_write : Array (Option Value)} {oc__law_write kV__law_write dc__law_write pm__law_write cd__law_write ct__law_write : Value}
    {ff__law_step : Addr} {od__law_step an__law_step : Option Addr} {sl__law_step : Array (Option Value)} {oc__law_step kV__law_step dc__law_step pm__law_step cd__law_step ct__law_step : Value}
    {ff__law_all_run : Addr} {od__law_all_run an__law_all_run : Option Addr} {sl__law_all_run : Array (Option Value)} {oc__law_all_run kV__law_all_run dc__law_all_run pm__law_all_run cd__law_all_run ct__law_all_run : Value}
    {ff__law_whole_record : Addr} {od__law_whole_record an__law_whole_record : Option Addr} {sl__law_whole_record : Array (Option Value)} {oc__law_whole_record kV__law_whole_record dc__law_whole_record pm__law_whole_record cd__law_whole_record ct__law_whole_record : Value}
    {ff__law_turned : Addr} {od__law_turned an__law_turned : Option Addr} {sl__law_turned : Array (Option Value)} {oc__law_turned kV__law_turned dc__law_turned pm__law_turned cd__law_turned ct__law_turned : Value}
    {ff__law_picture : Addr} {od__law_picture an__law_picture : Option Addr} {sl__law_picture : Array (Option Value)} {oc__law_picture kV__law_picture dc__law_picture pm__law_picture ct__law_picture : Value}
    {ff__law_is : Addr} {od__law_is an__law_is : Option Addr} {sl__law_is : Array (Option Value)} {oc__law_is kV__law_is dc__law_is pm__law_is cd__law_is ct__law_is : Value}
    {ff__law_few_orders : Addr} {od__law_few_orders an__law_few_orders : Option Addr} {sl__law_few_orders : Array (Option Value)} {oc__law_few_orders kV__law_few_orders dc__law_few_orders pm__law_few_orders cd__law_few_orders ct__law_few_orders : Value}
    {ff_law : Addr} {od_law an_law : Option Addr} {sl_law : Array (Option Value)} {oc_law kV_law dc_law pm_law cd_law ct_law : Value}
    {C_Record : Addr}
    {tk_MOST_MACHINES : Tok}
    {tk_MOST_PUTS : Tok}
    {pc__law_picture pt__law_picture : Addr} {ccl__law_picture : Value} {cdd__law_picture : Option Addr} {cvs__law_picture : Array Value} {csl__law_picture : Array (Option Value)}
    (aC_Record : PySem.W.nsIn K mainGlobals "Record" = some (some (.ref C_Record)))
    (a_is_integer : PySem.W.nsIn K mainGlobals "is_integer" = some (some (.ref ff_is_integer)))
    (l_is_integer : K.lookup ff_is_integer = some ⟨oc_is_integer, od_is_integer, .func (PySem.W.fnOf "is_integer" "is_integer" (defArgs s_is_integer) (defBody s_is_integer) (defScope s_is_integer) .none kV_is_integer dc_is_integer pm_is_integer an_is_integer cd_is_integer ct_is_integer), sl_is_integer⟩)
    (c_is_integer : PySem.W.codeIn K cd_is_integer "is_integer" = true)
    (k_is_integer : PySem.W.keepIn K (.ref ff_is_integer) = true)
    (a_is_between : PySem.W.nsIn K mainGlobals "is_between" = some (some (.ref ff_is_between)))
    (l_is_between : K.lookup ff_is_between = some ⟨oc_is_between, od_is_between, .func (PySem.W.fnOf "is_between" "is_between" (defArgs s_is_between) (defBody s_is_between) (defScope s_is_between) .none kV_is_between dc_is_between pm_is_between an_is_between cd_is_between ct_is_between), sl_is_between⟩)
    (c_is_between : PySem.W.codeIn K cd_is_between "is_between" = true)
    (k_is_between : PySem.W.keepIn K (.ref ff_is_between) = true)
    (a_is_below : PySem.W.nsIn K mainGlobals "is_below" = some (some (.ref ff_is_below)))
    (l_is_below : K.lookup ff_is_below = some ⟨oc_is_below, od_is_below, .func (PySem.W.fnOf "is_below" "is_below" (defArgs s_is_below) (defBody s_is_below) (defScope s_is_below) .none kV_is_below dc_is_below pm_is_below an_is_below cd_is_below ct_is_below), sl_is_below⟩)
    (c_is_below : PySem.W.codeIn K cd_is_below "is_below" = true)
    (k_is_below : PySem.W.keepIn K (.ref ff_is_below) = true)
    (a_is_tuple_of : PySem.W.nsIn K mainGlobals "is_tuple_of" = some (some (.ref ff_is_tuple_of)))
    (l_is_tuple_of : K.lookup ff_is_tuple_of = some ⟨oc_is_tuple_of, od_is_tuple_of, .func (PySem.W.fnOf "is_tuple_of" "is_tuple_of" (defArgs s_is_tuple_of) (defBody s_is_tuple_of) (defScope s_is_tuple_of) .none kV_is_tuple_of dc_is_tuple_of pm_is_tuple_of an_is_tuple_of cd_is_tuple_of ct_is_tuple_of), sl_is_tuple_of⟩)
    (c_is_tuple_of : PySem.W.codeIn K cd_is_tuple_of "is_tuple_of" = true)
    (k_is_tuple_of : PySem.W.keepIn K (.ref ff_is_tuple_of) = true)
    (a_are_below : PySem.W.nsIn K mainGlobals "are_below" = some (some (.ref ff_are_below)))
    (l_are_below : K.lookup ff_are_below = some ⟨oc_are_below, od_are_below, .func (PySem.W.fnOf "are_below" "are_below" (defArgs s_are_below) (defBody s_are_below) (defScope s_are_below) .none kV_are_below dc_are_below pm_are_below an_are_below cd_are_below ct_are_below), sl_are_below⟩)
    (c_are_below : PySem.W.codeIn K cd_are_below "are_below" = true)
    (k_are_below : PySem.W.keepIn K (.ref ff_are_below) = true)
    (a_Record_init : PySem.W.findIn K (.ref C_Record) "__init__" = some (some (.ref ff_Record_init)))
    (i_Record_init : PySem.W.isFn K (.ref ff_Record_init) = true)
    (l_Record_init : K.lookup ff_Record_init = some ⟨oc_Record_init, od_Record_init, .func (PySem.W.fnOf "__init__" "Record.__init__" (defArgs s_Record_init) (defBody s_Record_init) (defScope s_Record_init) .none kV_Record_init dc_Record_init pm_Record_init an_Record_init cd_Record_init ct_Record_init), sl_Record_init⟩)
    (c_Record_init : PySem.W.codeIn K cd_Record_init "Record.__init__" = true)
    (k_Record_init : PySem.W.keepIn K (.ref ff_Record_init) = true)
    (a_Record_eq : PySem.W.findIn K (.ref C_Record) "__eq__" = some (some (.ref ff_Record_eq)))
    (i_Record_eq : PySem.W.isFn K (.ref ff_Record_eq) = true)
    (l_Record_eq : K.lookup ff_Record_eq = some ⟨oc_Record_eq, od_Record_eq, .func (PySem.W.fnOf "__eq__" "Record.__eq__" (defArgs s_Record_eq) (defBody s_Record_eq) (defScope s_Record_eq) .none kV_Record_eq dc_Record_eq pm_Record_eq an_Record_eq cd_Record_eq ct_Record_eq), sl_Record_eq⟩)
    (c_Record_eq : PySem.W.codeIn K cd_Record_eq "Record.__eq__" = true)
    (k_Record_eq : PySem.W.keepIn K (.ref ff_Record_eq) = true)
    (a_check_record : PySem.W.nsIn K mainGlobals "check_record" = some (some (.ref ff_check_record)))
    (l_check_record : K.lookup ff_check_record = some ⟨oc_check_record, od_check_record, .func (PySem.W.fnOf "check_record" "check_record" (defArgs s_check_record) (defBody s_check_record) (defScope s_check_record) .none kV_check_record dc_check_record pm_check_record an_check_record cd_check_record ct_check_record), sl_check_record⟩)
    (c_check_record : PySem.W.codeIn K cd_check_record "check_record" = true)
    (k_check_record : PySem.W.keepIn K (.ref ff_check_record) = true)
    (a_is_diary : PySem.W.nsIn K mainGlobals "is_diary" = some (some (.ref ff_is_diary)))
    (l_is_diary : K.lookup ff_is_diary = some ⟨oc_is_diary, od_is_diary, .func (PySem.W.fnOf "is_diary" "is_diary" (defArgs s_is_diary) (defBody s_is_diary) (defScope s_is_diary) .none kV_is_diary dc_is_diary pm_is_diary an_is_diary cd_is_diary ct_is_diary), sl_is_diary⟩)
    (c_is_diary : PySem.W.codeIn K cd_is_diary "is_diary" = true)
    (k_is_diary : PySem.W.keepIn K (.ref ff_is_diary) = true)
    (a_is_whole : PySem.W.nsIn K mainGlobals "is_whole" = some (some (.ref ff_is_whole)))
    (l_is_whole : K.lookup ff_is_whole = some ⟨oc_is_whole, od_is_whole, .func (PySem.W.fnOf "is_whole" "is_whole" (defArgs s_is_whole) (defBody s_is_whole) (defScope s_is_whole) .none kV_is_whole dc_is_whole pm_is_whole an_is_whole cd_is_whole ct_is_whole), sl_is_whole⟩)
    (c_is_whole : PySem.W.codeIn K cd_is_whole "is_whole" = true)
    (k_is_whole : PySem.W.keepIn K (.ref ff_is_whole) = true)
    (a_places_in : PySem.W.nsIn K mainGlobals "places_in" = some (some (.ref ff_places_in)))
    (l_places_in : K.lookup ff_places_in = some ⟨oc_places_in, od_places_in, .func (PySem.W.fnOf "places_in" "places_in" (defArgs s_places_in) (defBody s_places_in) (defScope s_places_in) .none kV_places_in dc_places_in pm_places_in an_places_in cd_places_in ct_places_in), sl_places_in⟩)
    (c_places_in : PySem.W.codeIn K cd_places_in "places_in" = true)
    (k_places_in : PySem.W.keepIn K (.ref ff_places_in) = true)
    (a_seen_picture : PySem.W.nsIn K mainGlobals "seen_picture" = some (some (.ref ff_seen_picture)))
    (l_seen_picture : K.lookup ff_seen_picture = some ⟨oc_seen_picture, od_seen_picture, .func (PySem.W.fnOf "seen_picture" "seen_picture" (defArgs s_seen_picture) (defBody s_seen_picture) (defScope s_seen_picture) .none kV_seen_picture dc_seen_picture pm_seen_picture an_seen_picture cd_seen_picture ct_seen_picture), sl_seen_picture⟩)
    (c_seen_picture : PySem.W.codeIn K cd_seen_picture "seen_picture" = true)
    (k_seen_picture : PySem.W.keepIn K (.ref ff_seen_picture) = true)
    (a_sides_by_pair : PySem.W.nsIn K mainGlobals "sides_by_pair" = some (some (.ref ff_sides_by_pair)))
    (l_sides_by_pair : K.lookup ff_sides_by_pair = some ⟨oc_sides_by_pair, od_sides_by_pair, .func (PySem.W.fnOf "sides_by_pair" "sides_by_pair" (defArgs s_sides_by_pair) (defBody s_sides_by_pair) (defScope s_sides_by_pair) .none kV_sides_by_pair dc_sides_by_pair pm_sides_by_pair an_sides_by_pair cd_sides_by_pair ct_sides_by_pair), sl_sides_by_pair⟩)
    (c_sides_by_pair : PySem.W.codeIn K cd_sides_by_pair "sides_by_pair" = true)
    (k_sides_by_pair : PySem.W.keepIn K (.ref ff_sides_by_pair) = true)
    (a_mixed_picture : PySem.W.nsIn K mainGlobals "mixed_picture" = some (some (.ref ff_mixed_picture)))
    (l_mixed_picture : K.lookup ff_mixed_picture = some ⟨oc_mixed_picture, od_mixed_picture, .func (PySem.W.fnOf "mixed_picture" "mixed_picture" (defArgs s_mixed_picture) (defBody s_mixed_picture) (defScope s_mixed_picture) .none kV_mixed_picture dc_mixed_picture pm_mixed_picture an_mixed_picture cd_mixed_picture ct_mixed_picture), sl_mixed_picture⟩)
    (c_mixed_picture : PySem.W.codeIn K cd_mixed_picture "mixed_picture" = true)
    (k_mixed_picture : PySem.W.keepIn K (.ref ff_mixed_picture) = true)
    (a_turned_picture : PySem.W.nsIn K mainGlobals "turned_picture" = some (some (.ref ff_turned_picture)))
    (l_turned_picture : K.lookup ff_turned_picture = some ⟨oc_turned_picture, od_turned_picture, .func (PySem.W.fnOf "turned_picture" "turned_picture" (defArgs s_turned_picture) (defBody s_turned_picture) (defScope s_turned_picture) .none kV_turned_picture dc_turned_picture pm_turned_picture an_turned_picture cd_turned_picture ct_turned_picture), sl_turned_picture⟩)
    (c_turned_picture : PySem.W.codeIn K cd_turned_picture "turned_picture" = true)
    (k_turned_picture : PySem.W.keepIn K (.ref ff_turned_picture) = true)
    (a_are_turned : PySem.W.nsIn K mainGlobals "are_turned" = some (some (.ref ff_are_turned)))
    (l_are_turned : K.lookup ff_are_turned = some ⟨oc_are_turned, od_are_turned, .func (PySem.W.fnOf "are_turned" "are_turned" (defArgs s_are_turned) (defBody s_are_turned) (defScope s_are_turned) .none kV_are_turned dc_are_turned pm_are_turned an_are_turned cd_are_turned ct_are_turned), sl_are_turned⟩)
    (c_are_turned : PySem.W.codeIn K cd_are_turned "are_turned" = true)
    (k_are_turned : PySem.W.keepIn K (.ref ff_are_turned) = true)
    (a_check_whole : PySem.W.nsIn K mainGlobals "check_whole" = some (some (.ref ff_check_whole)))
    (l_check_whole : K.lookup ff_check_whole = some ⟨oc_check_whole, od_check_whole, .func (PySem.W.fnOf "check_whole" "check_whole" (defArgs s_check_whole) (defBody s_check_whole) (defScope s_check_whole) .none kV_check_whole dc_check_whole pm_check_whole an_check_whole cd_check_whole ct_check_whole), sl_check_whole⟩)
    (c_check_whole : PySem.W.codeIn K cd_check_whole "check_whole" = true)
    (k_check_whole : PySem.W.keepIn K (.ref ff_check_whole) = true)
    (a_picture : PySem.W.nsIn K mainGlobals "picture" = some (some (.ref ff_picture)))
    (l_picture : K.lookup ff_picture = some ⟨oc_picture, od_picture, .func (PySem.W.fnOf "picture" "picture" (defArgs s_picture) (defBody s_picture) (defScope s_picture) .none kV_picture dc_picture pm_picture an_picture cd_picture ct_picture), sl_picture⟩)
    (c_picture : PySem.W.codeIn K cd_picture "picture" = true)
    (k_picture : PySem.W.keepIn K (.ref ff_picture) = true)
    (a__law_draw : PySem.W.nsIn K mainGlobals "_law_draw" = some (some (.ref ff__law_draw)))
    (l__law_draw : K.lookup ff__law_draw = some ⟨oc__law_draw, od__law_draw, .func (PySem.W.fnOf "_law_draw" "_law_draw" (defArgs s__law_draw) (defBody s__law_draw) (defScope s__law_draw) .none kV__law_draw dc__law_draw pm__law_draw an__law_draw cd__law_draw ct__law_draw), sl__law_draw⟩)
    (c__law_draw : PySem.W.codeIn K cd__law_draw "_law_draw" = true)
    (k__law_draw : PySem.W.keepIn K (.ref ff__law_draw) = true)
    (a__law_orders : PySem.W.nsIn K mainGlobals "_law_orders" = some (some (.ref ff__law_orders)))
    (l__law_orders : K.lookup ff__law_orders = some ⟨oc__law_orders, od__law_orders, .func (PySem.W.fnOf "_law_orders" "_law_orders" (defArgs s__law_orders) (defBody s__law_orders) (defScope s__law_orders) .none kV__law_orders dc__law_orders pm__law_orders an__law_orders cd__law_orders ct__law_orders), sl__law_orders⟩)
    (c__law_orders : PySem.W.codeIn K cd__law_orders "_law_orders" = true)
    (k__law_orders : PySem.W.keepIn K (.ref ff__law_orders) = true)
    (a__law_hand : PySem.W.nsIn K mainGlobals "_law_hand" = some (some (.ref ff__law_hand)))
    (l__law_hand : K.lookup ff__law_hand = some ⟨oc__law_hand, od__law_hand, .func (PySem.W.fnOf "_law_hand" "_law_hand" (defArgs s__law_hand) (defBody s__law_hand) (defScope s__law_hand) .none kV__law_hand dc__law_hand pm__law_hand an__law_hand cd__law_hand ct__law_hand), sl__law_hand⟩)
    (c__law_hand : PySem.W.codeIn K cd__law_hand "_law_hand" = true)
    (k__law_hand : PySem.W.keepIn K (.ref ff__law_hand) = true)
    (a__law_shuffled : PySem.W.nsIn K mainGlobals "_law_shuffled" = some (some (.ref ff__law_shuffled)))
    (l__law_shuffled : K.lookup ff__law_shuffled = some ⟨oc__law_shuffled, od__law_shuffled, .func (PySem.W.fnOf "_law_shuffled" "_law_shuffled" (defArgs s__law_shuffled) (defBody s__law_shuffled) (defScope s__law_shuffled) .none kV__law_shuffled dc__law_shuffled pm__law_shuffled an__law_shuffled cd__law_shuffled ct__law_shuffled), sl__law_shuffled⟩)
    (c__law_shuffled : PySem.W.codeIn K cd__law_shuffled "_law_shuffled" = true)
    (k__law_shuffled : PySem.W.keepIn K (.ref ff__law_shuffled) = true)
    (a__law_floor : PySem.W.nsIn K mainGlobals "_law_floor" = some (some (.ref ff__law_floor)))
    (l__law_floor : K.lookup ff__law_floor = some ⟨oc__law_floor, od__law_floor, .func (PySem.W.fnOf "_law_floor" "_law_floor" (defArgs s__law_floor) (defBody s__law_floor) (defScope s__law_floor) .none kV__law_floor dc__law_floor pm__law_floor an__law_floor cd__law_floor ct__law_floor), sl__law_floor⟩)
    (c__law_floor : PySem.W.codeIn K cd__law_floor "_law_floor" = true)
    (k__law_floor : PySem.W.keepIn K (.ref ff__law_floor) = true)
    (a__law_write : PySem.W.nsIn K mainGlobals "_law_write" = some (some (.ref ff__law_write)))
    (l__law_write : K.lookup ff__law_write = some ⟨oc__law_write, od__law_write, .func (PySem.W.fnOf "_law_write" "_law_write" (defArgs s__law_write) (defBody s__law_write) (defScope s__law_write) .none kV__law_write dc__law_write pm__law_write an__law_write cd__law_write ct__law_write), sl__law_write⟩)
    (c__law_write : PySem.W.codeIn K cd__law_write "_law_write" = true)
    (k__law_write : PySem.W.keepIn K (.ref ff__law_write) = true)
    (a__law_step : PySem.W.nsIn K mainGlobals "_law_step" = some (some (.ref ff__law_step)))
    (l__law_step : K.lookup ff__law_step = some ⟨oc__law_step, od__law_step, .func (PySem.W.fnOf "_law_step" "_law_step" (defArgs s__law_step) (defBody s__law_step) (defScope s__law_step) .none kV__law_step dc__law_step pm__law_step an__law_step cd__law_step ct__law_step), sl__law_step⟩)
    (c__law_step : PySem.W.codeIn K cd__law_step "_law_step" = true)
    (k__law_step : PySem.W.keepIn K (.ref ff__law_step) = true)
    (a__law_all_run : PySem.W.nsIn K mainGlobals "_law_all_run" = some (some (.ref ff__law_all_run)))
    (l__law_all_run : K.lookup ff__law_all_run = some ⟨oc__law_all_run, od__law_all_run, .func (PySem.W.fnOf "_law_all_run" "_law_all_run" (defArgs s__law_all_run) (defBody s__law_all_run) (defScope s__law_all_run) .none kV__law_all_run dc__law_all_run pm__law_all_run an__law_all_run cd__law_all_run ct__law_all_run), sl__law_all_run⟩)
    (c__law_all_run : PySem.W.codeIn K cd__law_all_run "_law_all_run" = true)
    (k__law_all_run : PySem.W.keepIn K (.ref ff__law_all_run) = true)
    (a__law_whole_record : PySem.W.nsIn K mainGlobals "_law_whole_record" = some (some (.ref ff__law_whole_record)))
    (l__law_whole_record : K.lookup ff__law_whole_record = some ⟨oc__law_whole_record, od__law_whole_record, .func (PySem.W.fnOf "_law_whole_record" "_law_whole_record" (defArgs s__law_whole_record) (defBody s__law_whole_record) (defScope s__law_whole_record) .none kV__law_whole_record dc__law_whole_record pm__law_whole_record an__law_whole_record cd__law_whole_record ct__law_whole_record), sl__law_whole_record⟩)
    (c__law_whole_record : PySem.W.codeIn K cd__law_whole_record "_law_whole_record" = true)
    (k__law_whole_record : PySem.W.keepIn K (.ref ff__law_whole_record) = true)
    (a__law_turned : PySem.W.nsIn K mainGlobals "_law_turned" = some (some (.ref ff__law_turned)))
    (l__law_turned : K.lookup ff__law_turned = some ⟨oc__law_turned, od__law_turned, .func (PySem.W.fnOf "_law_turned" "_law_turned" (defArgs s__law_turned) (defBody s__law_turned) (defScope s__law_turned) .none kV__law_turned dc__law_turned pm__law_turned an__law_turned cd__law_turned ct__law_turned), sl__law_turned⟩)
    (c__law_turned : PySem.W.codeIn K cd__law_turned "_law_turned" = true)
    (k__law_turned : PySem.W.keepIn K (.ref ff__law_turned) = true)
    (a__law_picture : PySem.W.nsIn K mainGlobals "_law_picture" = some (some (.ref ff__law_picture)))
    (l__law_picture : K.lookup ff__law_picture = some ⟨oc__law_picture, od__law_picture, .func (PySem.W.fnOf "_law_picture" "_law_picture" (defArgs s__law_picture) (defBody s__law_picture) (defScope s__law_picture) .none kV__law_picture dc__law_picture pm__law_picture an__law_picture (.ref pc__law_picture) ct__law_picture), sl__law_picture⟩)
    (c__law_picture : PySem.W.codeIn K (.ref pc__law_picture) "_law_picture" = true)
    (k__law_picture : PySem.W.keepIn K (.ref ff__law_picture) = true)
    (a__law_is : PySem.W.nsIn K mainGlobals "_law_is" = some (some (.ref ff__law_is)))
    (l__law_is : K.lookup ff__law_is = some ⟨oc__law_is, od__law_is, .func (PySem.W.fnOf "_law_is" "_law_is" (defArgs s__law_is) (defBody s__law_is) (defScope s__law_is) .none kV__law_is dc__law_is pm__law_is an__law_is cd__law_is ct__law_is), sl__law_is⟩)
    (c__law_is : PySem.W.codeIn K cd__law_is "_law_is" = true)
    (k__law_is : PySem.W.keepIn K (.ref ff__law_is) = true)
    (a__law_few_orders : PySem.W.nsIn K mainGlobals "_law_few_orders" = some (some (.ref ff__law_few_orders)))
    (l__law_few_orders : K.lookup ff__law_few_orders = some ⟨oc__law_few_orders, od__law_few_orders, .func (PySem.W.fnOf "_law_few_orders" "_law_few_orders" (defArgs s__law_few_orders) (defBody s__law_few_orders) (defScope s__law_few_orders) .none kV__law_few_orders dc__law_few_orders pm__law_few_orders an__law_few_orders cd__law_few_orders ct__law_few_orders), sl__law_few_orders⟩)
    (c__law_few_orders : PySem.W.codeIn K cd__law_few_orders "_law_few_orders" = true)
    (k__law_few_orders : PySem.W.keepIn K (.ref ff__law_few_orders) = true)
    (a_law : PySem.W.nsIn K mainGlobals "law" = some (some (.ref ff_law)))
    (l_law : K.lookup ff_law = some ⟨oc_law, od_law, .func (PySem.W.fnOf "law" "law" (defArgs s_law) (defBody s_law) (defScope s_law) .none kV_law dc_law pm_law an_law cd_law ct_law), sl_law⟩)
    (c_law : PySem.W.codeIn K cd_law "law" = true)
    (k_law : PySem.W.keepIn K (.ref ff_law) = true)
    (pg_Record : PySem.W.plainGet K C_Record Str.empty = true)
    (hd_Record : PySem.W.hasDictIn K C_Record = true)
    (po_Record : PySem.W.plainOver K C_Record = true)
    (sa_Record : PySem.W.findIn K (.ref C_Record) "__setattr__" = some (some (.builtin "object.__setattr__")))
    (mk_Record : PySem.W.makesIn K C_Record = true)
    (kc_Record : PySem.W.keepIn K (.ref C_Record) = true)
    (ha_Record : PySem.W.findIn K (.ref C_Record) "__class__" = some (some (.builtin "object.__class__")))
    (hn_Record : PySem.W.specialIn K (.builtin "object.__class__") "__get__" = some (some (.builtin "getset_descriptor.__get__")))
    (ht_Record : PySem.W.takesIn K (.builtin "object.__class__") = some true)
    (hm_Record : PySem.W.mroIn K C_Record (.type "object") = some true)
    (hne_Record : PySem.W.findIn K (.ref C_Record) "__ne__" = some (some (.builtin "object.__ne__")))
    (na_Record_writers : PySem.W.findIn K (.ref C_Record) "writers" = some none)
    (na_Record_diaries : PySem.W.findIn K (.ref C_Record) "diaries" = some none)
    (co_MOST_MACHINES : PySem.W.nsIn K mainGlobals "MOST_MACHINES" = some (some (.int 7 tk_MOST_MACHINES)))
    (co_MOST_PUTS : PySem.W.nsIn K mainGlobals "MOST_PUTS" = some (some (.int 30 tk_MOST_PUTS)))
    (z_isinstance : PySem.W.nsIn K mainGlobals "isinstance" = some none)
    (z_int : PySem.W.nsIn K mainGlobals "int" = some none)
    (z_bool : PySem.W.nsIn K mainGlobals "bool" = some none)
    (z_tuple : PySem.W.nsIn K mainGlobals "tuple" = some none)
    (z_len : PySem.W.nsIn K mainGlobals "len" = some none)
    (z_all : PySem.W.nsIn K mainGlobals "all" = some none)
    (z_enumerate : PySem.W.nsIn K mainGlobals "enumerate" = some none)
    (z_set : PySem.W.nsIn K mainGlobals "set" = some none)
    (z_sorted : PySem.W.nsIn K mainGlobals "sorted" = some none)
    (z_any : PySem.W.nsIn K mainGlobals "any" = some none)
    (z_range : PySem.W.nsIn K mainGlobals "range" = some none)
    (z_zip : PySem.W.nsIn K mainGlobals "zip" = some none)
    (z_min : PySem.W.nsIn K mainGlobals "min" = some none)
    (z_max : PySem.W.nsIn K mainGlobals "max" = some none)
    (z_list : PySem.W.nsIn K mainGlobals "list" = some none)
    (z_dict : PySem.W.nsIn K mainGlobals "dict" = some none)
    (z_abs : PySem.W.nsIn K mainGlobals "abs" = some none)
    (wcomb : PySem.W.nsIn K mainGlobals "combinations" = some (some GCb.vCb))
    (lc__law_picture : K.lookup pc__law_picture = some ⟨ccl__law_picture, cdd__law_picture, .fields cvs__law_picture, csl__law_picture⟩)
    (h11__law_picture : cvs__law_picture[11]? = some (.ref pt__law_picture))
    (hh__law_picture : PySem.W.codeHdIn K pc__law_picture pt__law_picture = true)
    (hn__law_picture : K.lookup pt__law_picture = none)
    (hp__law_picture : h.get? pt__law_picture = some { cls := .none, data := .fields #[] })
    : LamX.LawAtS l w K CX0 9 63 "_law_script" mg fa h := by
  have e := hfa.symm.trans (PySem.W.mg_of X G a_law)
  cases e
  have F_is_integer := fun_mk (st := s_is_integer) l_is_integer c_is_integer k_is_integer
  have b_is_integer := F_is_integer.binds (ps := P_is_integer) fun _ _ _ _ _ _ us hl => match us, hl with | [_], _ => rfl
  have F_is_between := fun_mk (st := s_is_between) l_is_between c_is_between k_is_between
  have b_is_between := F_is_between.binds (ps := P_is_between) fun _ _ _ _ _ _ us hl => match us, hl with | [_, _, _], _ => rfl
  have F_is_below := fun_mk (st := s_is_below) l_is_below c_is_below k_is_below
  have b_is_below := F_is_below.binds (ps := P_is_below) fun _ _ _ _ _ _ us hl => match us, hl with | [_, _], _ => rfl
  have F_is_tuple_of := fun_mk (st := s_is_tuple_of) l_is_tuple_of c_is_tuple_of k_is_tuple_of
  have b_is_tuple_of := F_is_tuple_of.binds (ps := P_is_tuple_of) fun _ _ _ _ _ _ us hl => match us, hl with | [_, _, _], _ => rfl
  have F_are_below := fun_mk (st := s_are_below) l_are_below c_are_below k_are_below
  have b_are_below := F_are_below.binds (ps := P_are_below) fun _ _ _ _ _ _ us hl => match us, hl with | [_, _], _ => rfl
  have F_Record_init := fun_mk (st := s_Record_init) l_Record_init c_Record_init k_Record_init
  have b_Record_init := F_Record_init.binds (ps := P_Record_init) fun _ _ _ _ _ _ us hl => match us, hl with | [_, _, _], _ => rfl
  have F_Record_eq := fun_mk (st := s_Record_eq) l_Record_eq c_Record_eq k_Record_eq
  have b_Record_eq := F_Record_eq.binds (ps := P_Record_eq) fun _ _ _ _ _ _ us hl => match us, hl with | [_, _], _ => rfl
  have F_check_record := fun_mk (st := s_check_record) l_check_record c_check_record k_check_record
  have b_check_record := F_check_record.binds (ps := P_check_record) fun _ _ _ _ _ _ us hl => match us, hl with | [_, _], _ => rfl
  have F_is_diary := fun_mk (st := s_is_diary) l_is_diary c_is_diary k_is_diary
  have b_is_diary := F_is_diary.binds (ps := P_is_diary) fun _ _ _ _ _ _ us hl => match us, hl with | [_, _], _ => rfl
  have F_is_whole := fun_mk (st := s_is_whole) l_is_whole c_is_whole k_is_whole
  have b_is_whole := F_is_whole.binds (ps := P_is_whole) fun _ _ _ _ _ _ us hl => match us, hl with | [_], _ => rfl
  have F_places_in := fun_mk (st := s_places_in) l_places_in c_places_in k_places_in
  have b_places_in := F_places_in.binds (ps := P_places_in) fun _ _ _ _ _ _ us hl => match us, hl with | [_], _ => rfl
  have F_seen_picture := fun_mk (st := s_seen_picture) l_seen_picture c_seen_picture k_seen_picture
  have b_seen_picture := F_seen_picture.binds (ps := P_seen_picture) fun _ _ _ _ _ _ us hl => match us, hl with | [_], _ => rfl
  have F_sides_by_pair := fun_mk (st := s_sides_by_pair) l_sides_by_pair c_sides_by_pair k_sides_by_pair
  have b_sides_by_pair := F_sides_by_pair.binds (ps := P_sides_by_pair) fun _ _ _ _ _ _ us hl => match us, hl with | [_], _ => rfl
  have F_mixed_picture := fun_mk (st := s_mixed_picture) l_mixed_picture c_mixed_picture k_mixed_picture
  have b_mixed_picture := F_mixed_picture.binds (ps := P_mixed_picture) fun _ _ _ _ _ _ us hl => match us, hl with | [_], _ => rfl
  have F_turned_picture := fun_mk (st := s_turned_picture) l_turned_picture c_turned_picture k_turned_picture
  have b_turned_picture := F_turned_picture.binds (ps := P_turned_picture) fun _ _ _ _ _ _ us hl => match us, hl with | [_], _ => rfl
  have F_are_turned := fun_mk (st := s_are_turned) l_are_turned c_are_turned k_are_turned
  have b_are_turned := F_are_turned.binds (ps := P_are_turned) fun _ _ _ _ _ _ us hl => match us, hl with | [_, _, _, _], _ => rfl
  have F_check_whole := fun_mk (st := s_check_whole) l_check_whole c_check_whole k_check_whole
  have b_check_whole := F_check_whole.binds (ps := P_check_whole) fun _ _ _ _ _ _ us hl => match us, hl with | [_], _ => rfl
  have F_picture := fun_mk (st := s_picture) l_picture c_picture k_picture
  have b_picture := F_picture.binds (ps := P_picture) fun _ _ _ _ _ _ us hl => match us, hl with | [_], _ => rfl
  have F__law_draw := fun_mk (st := s__law_draw) l__law_draw c__law_draw k__law_draw
  have b__law_draw := F__law_draw.binds (ps := P__law_draw) fun _ _ _ _ _ _ us hl => match us, hl with | [_, _], _ => rfl
  have F__law_orders := fun_mk (st := s__law_orders) l__law_orders c__law_orders k__law_orders
  have b__law_orders := F__law_orders.binds (ps := P__law_orders) fun _ _ _ _ _ _ us hl => match us, hl with | [_], _ => rfl
  have F__law_hand := fun_mk (st := s__law_hand) l__law_hand c__law_hand k__law_hand
  have b__law_hand := F__law_hand.binds (ps := P__law_hand) fun _ _ _ _ _ _ us hl => match us, hl with | [_], _ => rfl
  have F__law_shuffled := fun_mk (st := s__law_shuffled) l__law_shuffled c__law_shuffled k__law_shuffled
  have b__law_shuffled := F__law_shuffled.binds (ps := P__law_shuffled) fun _ _ _ _ _ _ us hl => match us, hl with | [_, _], _ => rfl
  have F__law_floor := fun_mk (st := s__law_floor) l__law_floor c__law_floor k__law_floor
  have b__law_floor := F__law_floor.binds (ps := P__law_floor) fun _ _ _ _ _ _ us hl => match us, hl with | [_, _], _ => rfl
  have F__law_write := fun_mk (st := s__law_write) l__law_write c__law_write k__law_write
  have b__law_write := F__law_write.binds (ps := P__law_write) fun _ _ _ _ _ _ us hl => match us, hl with | [_, _, _], _ => rfl
  have F__law_step := fun_mk (st := s__law_step) l__law_step c__law_step k__law_step
  have b__law_step := F__law_step.binds (ps := P__law_step) fun _ _ _ _ _ _ us hl => match us, hl with | [_, _, _], _ => rfl
  have F__law_all_run := fun_mk (st := s__law_all_run) l__law_all_run c__law_all_run k__law_all_run
  have b__law_all_run := F__law_all_run.binds (ps := P__law_all_run) fun _ _ _ _ _ _ us hl => match us, hl with | [_, _, _, _], _ => rfl
  have F__law_whole_record := fun_mk (st := s__law_whole_record) l__law_whole_record c__law_whole_record k__law_whole_record
  have b__law_whole_record := F__law_whole_record.binds (ps := P__law_whole_record) fun _ _ _ _ _ _ us hl => match us, hl with | [_, _, _], _ => rfl
  have F__law_turned := fun_mk (st := s__law_turned) l__law_turned c__law_turned k__law_turned
  have b__law_turned := F__law_turned.binds (ps := P__law_turned) fun _ _ _ _ _ _ us hl => match us, hl with | [_, _], _ => rfl
  have F__law_picture := fun_mk (st := s__law_picture) l__law_picture c__law_picture k__law_picture
  have b__law_picture := F__law_picture.binds (ps := P__law_picture) fun _ _ _ _ _ _ us hl => match us, hl with | [_, _], _ => rfl
  have F__law_is := fun_mk (st := s__law_is) l__law_is c__law_is k__law_is
  have b__law_is := F__law_is.binds (ps := P__law_is) fun _ _ _ _ _ _ us hl => match us, hl with | [_, _], _ => rfl
  have F__law_few_orders := fun_mk (st := s__law_few_orders) l__law_few_orders c__law_few_orders k__law_few_orders
  have b__law_few_orders := F__law_few_orders.binds (ps := P__law_few_orders) fun _ _ _ _ _ _ us hl => match us, hl with | [_], _ => rfl
  have F_law := fun_mk (st := s_law) l_law c_law k_law
  have b_law := F_law.binds (ps := P_law) fun _ _ _ _ _ _ us hl => match us, hl with | [_], _ => rfl
  have T : Txt K mg ⟨ff_is_integer, _, ff_is_between, _, ff_is_below, _, ff_is_tuple_of, _, ff_are_below, _, ff_Record_init, _, ff_Record_eq, _, ff_check_record, _, ff_is_diary, _, ff_is_whole, _, ff_places_in, _, ff_seen_picture, _, ff_sides_by_pair, _, ff_mixed_picture, _, ff_turned_picture, _, ff_are_turned, _, ff_check_whole, _, ff_picture, _, ff__law_draw, _, ff__law_orders, _, ff__law_hand, _, ff__law_shuffled, _, ff__law_floor, _, ff__law_write, _, ff__law_step, _, ff__law_all_run, _, ff__law_whole_record, _, ff__law_turned, _, ff__law_picture, _, ff__law_is, _, ff__law_few_orders, _, fa, _, C_Record, tk_MOST_MACHINES, tk_MOST_PUTS⟩ := ⟨F_is_integer,
    b_is_integer,
    PySem.W.mg_of X G a_is_integer,
    F_is_between,
    b_is_between,
    PySem.W.mg_of X G a_is_between,
    F_is_below,
    b_is_below,
    PySem.W.mg_of X G a_is_below,
    F_is_tuple_of,
    b_is_tuple_of,
    PySem.W.mg_of X G a_is_tuple_of,
    F_are_below,
    b_are_below,
    PySem.W.mg_of X G a_are_below,
    F_Record_init,
    b_Record_init,
    F_Record_eq,
    b_Record_eq,
    F_check_record,
    b_check_record,
    PySem.W.mg_of X G a_check_record,
    F_is_diary,
    b_is_diary,
    PySem.W.mg_of X G a_is_diary,
    F_is_whole,
    b_is_whole,
    PySem.W.mg_of X G a_is_whole,
    F_places_in,
    b_places_in,
    PySem.W.mg_of X G a_places_in,
    F_seen_picture,
    b_seen_picture,
    PySem.W.mg_of X G a_seen_picture,
    F_sides_by_pair,
    b_sides_by_pair,
    PySem.W.mg_of X G a_sides_by_pair,
    F_mixed_picture,
    b_mixed_picture,
    PySem.W.mg_of X G a_mixed_picture,
    F_turned_picture,
    b_turned_picture,
    PySem.W.mg_of X G a_turned_picture,
    F_are_turned,
    b_are_turned,
    PySem.W.mg_of X G a_are_turned,
    F_check_whole,
    b_check_whole,
    PySem.W.mg_of X G a_check_whole,
    F_picture,
    b_picture,
    PySem.W.mg_of X G a_picture,
    F__law_draw,
    b__law_draw,
    PySem.W.mg_of X G a__law_draw,
    F__law_orders,
    b__law_orders,
    PySem.W.mg_of X G a__law_orders,
    F__law_hand,
    b__law_hand,
    PySem.W.mg_of X G a__law_hand,
    F__law_shuffled,
    b__law_shuffled,
    PySem.W.mg_of X G a__law_shuffled,
    F__law_floor,
    b__law_floor,
    PySem.W.mg_of X G a__law_floor,
    F__law_write,
    b__law_write,
    PySem.W.mg_of X G a__law_write,
    F__law_step,
    b__law_step,
    PySem.W.mg_of X G a__law_step,
    F__law_all_run,
    b__law_all_run,
    PySem.W.mg_of X G a__law_all_run,
    F__law_whole_record,
    b__law_whole_record,
    PySem.W.mg_of X G a__law_whole_record,
    F__law_turned,
    b__law_turned,
    PySem.W.mg_of X G a__law_turned,
    F__law_picture,
    b__law_picture,
    PySem.W.mg_of X G a__law_picture,
    F__law_is,
    b__law_is,
    PySem.W.mg_of X G a__law_is,
    F__law_few_orders,
    b__law_few_orders,
    PySem.W.mg_of X G a__law_few_orders,
    F_law,
    b_law,
    PySem.W.mg_of X G a_law,
    PySem.W.mg_of X G aC_Record,
    ⟨pg_Record, hd_Record, po_Record, sa_Record⟩,
    ⟨mk_Record, a_Record_init, i_Record_init, kc_Record⟩,
    ⟨⟨pg_Record, hd_Record, po_Record, sa_Record⟩, ha_Record, hn_Record, ht_Record, hm_Record, (by unfold PySem.W.kitOne; simp)⟩,
    a_Record_eq,
    i_Record_eq,
    hne_Record,
    na_Record_writers,
    na_Record_diaries,
    PySem.W.mg_of X G co_MOST_MACHINES,
    PySem.W.mg_of X G co_MOST_PUTS,
    PySem.W.mg_none_of X G z_isinstance,
    PySem.W.mg_none_of X G z_int,
    PySem.W.mg_none_of X G z_bool,
    PySem.W.mg_none_of X G z_tuple,
    PySem.W.mg_none_of X G z_len,
    PySem.W.mg_none_of X G z_all,
    PySem.W.mg_none_of X G z_enumerate,
    PySem.W.mg_none_of X G z_set,
    PySem.W.mg_none_of X G z_sorted,
    PySem.W.mg_none_of X G z_any,
    PySem.W.mg_none_of X G z_range,
    PySem.W.mg_none_of X G z_zip,
    PySem.W.mg_none_of X G z_min,
    PySem.W.mg_none_of X G z_max,
    PySem.W.mg_none_of X G z_list,
    PySem.W.mg_none_of X G z_dict,
    PySem.W.mg_none_of X G z_abs,
    PySem.W.mg_of X G wcomb⟩
  have FC : FunC K "_law_picture" "_law_picture" s__law_picture ff__law_picture _ pc__law_picture := ⟨⟨_, _, _, _, _, _, _, _, rfl, l__law_picture, c__law_picture⟩⟩
  have one : ∀ p ∈ [(pc__law_picture, pt__law_picture)], p = (pc__law_picture, pt__law_picture) := fun p hp => List.mem_singleton.mp hp
  refine ⟨PySem.W.fnOf "law" "law" (defArgs s_law) (defBody s_law) (defScope s_law) .none kV_law dc_law pm_law an_law cd_law ct_law, [(pc__law_picture, pt__law_picture)], spLaw K pt__law_picture, fun p hp => ?_, fun p hp => ?_, fun p hp => ?_, fun s v => .of_eq rfl, fun H a ns hl _ hH hS => ⟨a, ns, rfl, hS, hl, fun p hp => ?_, fun _ => rfl⟩, fun base _ _ TB => ok_law T FC (TB _ (List.mem_singleton.mpr rfl))⟩
  · rw [one p hp]; exact hp__law_picture
  · rw [one p hp]; exact hn__law_picture
  · rw [one p hp]; exact PySem.W.codeHd_of_K X hh__law_picture
  · rw [List.mem_singleton.mp hp]; exact NdefX.TabN.nil (hH _ (List.mem_singleton.mpr rfl))
theorem walk {l : PySem.W.OpenLaw} {q : Program} {loose : List Str} {XP : (Str → Option Value) → Heap → Prop} {YP : World → Heap → Prop} {d : DefRec} {K : Params → PySem.W.Frag} (hn : l.most = some 63) (hdf : d.params.defaults = [])
    (hY : ∀ (w : World) (h : Heap), YP w h → (K w.params).In h)
    (F : ∀ (w : World) (mg : Str → Option Value) (fa : Addr) (h : Heap), YP w h → (K w.params).In h → h.Ns mainGlobals mg → mg d.name = some (.ref fa) → LamX.LawAtS l w (K w.params) CX0 9 63 "_law_script" mg fa h) :
    PySem.W.WalkO q loose XP YP l.row.toRowW d [] (fun f vs => PySem.call f vs) :=
  LamX.walk_ofTs (n := 63) (k := 9) (x := "_law_script") (CX := fun _ => CX0) hn (by decide) hdf ⟨rfl, by decide, by decide⟩ hY F fun _ _ _ _ _ z => z
end Mine
/-! ## KZ -/
open PySem PySem.W PyProof.Rows in
set_option maxRecDepth 100000 in
set_option maxHeartbeats 0 in
theorem PySem.Challenge.cw_growalong_k19_whole_pictures_holds : PySem.Challenge.rw_growalong_k19_whole_pictures.Holds := by
  w_on; o_law; k_head; (case hw => w_witness2)
  k_fill
  refine Mine.walk (l := PySem.Challenge.rw_growalong_k19_whole_pictures) rfl rfl (fun w h Y => PySem.W.km_in_of Y) ?F
  case F =>
    intro w mg fa h Y KX G hmg
    refine' Mine.all_mk KX G hmg ?aC_Record ?a_is_integer ?l_is_integer ?c_is_integer ?k_is_integer ?a_is_between ?l_is_between ?c_is_between ?k_is_between ?a_is_below ?l_is_below ?c_is_below ?k_is_below ?a_is_tuple_of ?l_is_tuple_of ?c_is_tuple_of ?k_is_tuple_of ?a_are_below ?l_are_below ?c_are_below ?k_are_below ?a_Record_init ?i_Record_init ?l_Record_init ?c_Record_init ?k_Record_init ?a_Record_eq ?i_Record_eq ?l_Record_eq ?c_Record_eq ?k_Record_eq ?a_check_record ?l_check_record ?c_check_record ?k_check_record ?a_is_diary ?l_is_diary ?c_is_diary ?k_is_diary ?a_is_whole ?l_is_whole ?c_is_whole ?k_is_whole ?a_places_in ?l_places_in ?c_places_in ?k_places_in ?a_seen_picture ?l_seen_picture ?c_seen_picture ?k_seen_picture ?a_sides_by_pair ?l_sides_by_pair ?c_sides_by_pair ?k_sides_by_pair ?a_mixed_picture ?l_mixed_picture ?c_mixed_picture ?k_mixed_picture ?a_turned_picture ?l_turned_picture ?c_turned_picture ?k_turned_picture ?a_are_turned ?l_are_turned ?c_are_turned ?k_are_turned ?a_check_whole ?l_check_whole ?c_check_whole ?k_check_whole ?a_picture ?l_picture ?c_picture ?k_picture ?a__law_draw ?l__law_draw ?c__law_draw ?k__law_draw ?a__law_orders ?l__law_orders ?c__law_orders ?k__law_orders ?a__law_hand ?l__law_hand ?c__law_hand ?k__law_hand ?a__law_shuffled ?l__law_shuffled ?c__law_shuffled ?k__law_shuffled ?a__law_floor ?l__law_floor ?c__law_floor ?k__law_floor ?a__law_write ?l__law_write ?c__law_write ?k__law_write ?a__law_step ?l__law_step ?c__law_step ?k__law_step ?a__law_all_run ?l__law_all_run ?c__law_all_run ?k__law_all_run ?a__law_whole_record ?l__law_whole_record ?c__law_whole_record ?k__law_whole_record ?a__law_turned ?l__law_turned ?c__law_turned ?k__law_turned ?a__law_picture ?l__law_picture ?c__law_picture ?k__law_picture ?a__law_is ?l__law_is ?c__law_is ?k__law_is ?a__law_few_orders ?l__law_few_orders ?c__law_few_orders ?k__law_few_orders ?a_law ?l_law ?c_law ?k_law ?pg_Record ?hd_Record ?po_Record ?sa_Record ?mk_Record ?kc_Record ?ha_Record ?hn_Record ?ht_Record ?hm_Record ?hne_Record ?na_Record_writers ?na_Record_diaries ?co_MOST_MACHINES ?co_MOST_PUTS ?z_isinstance ?z_int ?z_bool ?z_tuple ?z_len ?z_all ?z_enumerate ?z_set ?z_sorted ?z_any ?z_range ?z_zip ?z_min ?z_max ?z_list ?z_dict ?z_abs ?wcomb ?lc__law_picture ?h11__law_picture ?hh__law_picture ?hn__law_picture ?hp__law_picture
    (case aC_Record => k_is)
    (case a_is_integer => k_is)
    (case l_is_integer => k_is)
    (case c_is_integer => k_is)
    (case k_is_integer => k_is)
    (case a_is_between => k_is)
    (case l_is_between => k_is)
    (case c_is_between => k_is)
    (case k_is_between => k_is)
    (case a_is_below => k_is)
    (case l_is_below => k_is)
    (case c_is_below => k_is)
    (case k_is_below => k_is)
    (case a_is_tuple_of => k_is)
    (case l_is_tuple_of => k_is)
    (case c_is_tuple_of => k_is)
    (case k_is_tuple_of => k_is)
    (case a_are_below => k_is)
    (case l_are_below => k_is)
    (case c_are_below => k_is)
    (case k_are_below => k_is)
    (case a_Record_init => k_is)
    (case i_Record_init => k_is)
    (case l_Record_init => k_is)
    (case c_Record_init => k_is)
    (case k_Record_init => k_is)
    (case a_Record_eq => k_is)
    (case i_Record_eq => k_is)
    (case l_Record_eq => k_is)
    (case c_Record_eq => k_is)
    (case k_Record_eq => k_is)
    (case a_check_record => k_is)
    (case l_check_record => k_is)
    (case c_check_record => k_is)
    (case k_check_record => k_is)
    (case a_is_diary => k_is)
    (case l_is_diary => k_is)
    (case c_is_diary => k_is)
    (case k_is_diary => k_is)
    (case a_is_whole => k_is)
    (case l_is_whole => k_is)
    (case c_is_whole => k_is)
    (case k_is_whole => k_is)
    (case a_places_in => k_is)
    (case l_places_in => k_is)
    (case c_places_in => k_is)
    (case k_places_in => k_is)
    (case a_seen_picture => k_is)
    (case l_seen_picture => k_is)
    (case c_seen_picture => k_is)
    (case k_seen_picture => k_is)
    (case a_sides_by_pair => k_is)
    (case l_sides_by_pair => k_is)
    (case c_sides_by_pair => k_is)
    (case k_sides_by_pair => k_is)
    (case a_mixed_picture => k_is)
    (case l_mixed_picture => k_is)
    (case c_mixed_picture => k_is)
    (case k_mixed_picture => k_is)
    (case a_turned_picture => k_is)
    (case l_turned_picture => k_is)
    (case c_turned_picture => k_is)
    (case k_turned_picture => k_is)
    (case a_are_turned => k_is)
    (case l_are_turned => k_is)
    (case c_are_turned => k_is)
    (case k_are_turned => k_is)
    (case a_check_whole => k_is)
    (case l_check_whole => k_is)
    (case c_check_whole => k_is)
    (case k_check_whole => k_is)
    (case a_picture => k_is)
    (case l_picture => k_is)
    (case c_picture => k_is)
    (case k_picture => k_is)
    (case a__law_draw => k_is)
    (case l__law_draw => k_is)
    (case c__law_draw => k_is)
    (case k__law_draw => k_is)
    (case a__law_orders => k_is)
    (case l__law_orders => k_is)
    (case c__law_orders => k_is)
    (case k__law_orders => k_is)
    (case a__law_hand => k_is)
    (case l__law_hand => k_is)
    (case c__law_hand => k_is)
    (case k__law_hand => k_is)
    (case a__law_shuffled => k_is)
    (case l__law_shuffled => k_is)
    (case c__law_shuffled => k_is)
    (case k__law_shuffled => k_is)
    (case a__law_floor => k_is)
    (case l__law_floor => k_is)
    (case c__law_floor => k_is)
    (case k__law_floor => k_is)
    (case a__law_write => k_is)
    (case l__law_write => k_is)
    (case c__law_write => k_is)
    (case k__law_write => k_is)
    (case a__law_step => k_is)
    (case l__law_step => k_is)
    (case c__law_step => k_is)
    (case k__law_step => k_is)
    (case a__law_all_run => k_is)
    (case l__law_all_run => k_is)
    (case c__law_all_run => k_is)
    (case k__law_all_run => k_is)
    (case a__law_whole_record => k_is)
    (case l__law_whole_record => k_is)
    (case c__law_whole_record => k_is)
    (case k__law_whole_record => k_is)
    (case a__law_turned => k_is)
    (case l__law_turned => k_is)
    (case c__law_turned => k_is)
    (case k__law_turned => k_is)
    (case a__law_picture => k_is)
    (case l__law_picture => k_is)
    (case c__law_picture => k_is)
    (case k__law_picture => k_is)
    (case a__law_is => k_is)
    (case l__law_is => k_is)
    (case c__law_is => k_is)
    (case k__law_is => k_is)
    (case a__law_few_orders => k_is)
    (case l__law_few_orders => k_is)
    (case c__law_few_orders => k_is)
    (case k__law_few_orders => k_is)
    (case a_law => k_is)
    (case l_law => k_is)
    (case c_law => k_is)
    (case k_law => k_is)
    (case pg_Record => k_is)
    (case hd_Record => k_is)
    (case po_Record => k_is)
    (case sa_Record => k_is)
    (case mk_Record => k_is)
    (case kc_Record => k_is)
    (case ha_Record => k_is)
    (case hn_Record => k_is)
    (case ht_Record => k_is)
    (case hm_Record => k_is)
    (case hne_Record => k_is)
    (case na_Record_writers => k_is)
    (case na_Record_diaries => k_is)
    (case co_MOST_MACHINES => k_is)
    (case co_MOST_PUTS => k_is)
    (case z_isinstance => k_is)
    (case z_int => k_is)
    (case z_bool => k_is)
    (case z_tuple => k_is)
    (case z_len => k_is)
    (case z_all => k_is)
    (case z_enumerate => k_is)
    (case z_set => k_is)
    (case z_sorted => k_is)
    (case z_any => k_is)
    (case z_range => k_is)
    (case z_zip => k_is)
    (case z_min => k_is)
    (case z_max => k_is)
    (case z_list => k_is)
    (case z_dict => k_is)
    (case z_abs => k_is)
    (case wcomb => k_is)
    (case lc__law_picture => k_is)
    (case h11__law_picture => exact rfl)
    (case hh__law_picture => kernel_rfl)
    (case hn__law_picture => kernel_rfl)
    (case hp__law_picture => exact PySem.W.km_tabs_of Y _ (by k_mem))

import PyProof.Rows.All
import Wide.All
import OpenK.AllK
import Wide.FinOn
import HandS.ForMost
import HandS.Deep
import HandS.IsInst
import HandS.TupLe
import HandS.TupAny
import HandS.TupSets
import HandS.Style
import HandS.Zip
import HandS.More
import HandS.SortInts
import HandS.Codes
import HandS.Walk
import HandS.Iter
import KE.GoesEnum
import PyProof.Rows.SortShell
import HandS.Conv
import HandS.OwnEq
import PyProof.InstNe
import HandS.Strs
import PyProof.WalksMore
import KE.KDictPairs
import KE.KDictCopyH
import KE.KDictKeyed
import HandS.SetFor
import HandS.Exc
import HandS.ExcInit
import HandS.ExcIs
import HandS.ExcField
import HandS.WordsExc
import HandS.CallSlots
import KE.KExcIs
import PyProof.FactsAll.dict
import HandS.TupMul
import HandS.SortRule
import HandS.Words
import HandS.DictComp
import HandS.SetBool
import PyProof.SliceList
import HandS.Small
import KE.KEqNest
import KE.KDictDisplayH
import PyProof.DictTable
import PySem.Challenge.RW_growalong_k06_whole_runs_led_and_judged
set_option Elab.async false
set_option linter.all false
set_option maxRecDepth 100000
set_option maxHeartbeats 4000000
/-! ## GA -/
namespace GA
open PySem L2

/-! ### heaps: what stays -/
/-- tuples stay -/
def Ts (H H' : Hp) : Prop := ∀ a xs, Rd H a (.tup xs) → Rd H' a (.tup xs)
/-- the hand of draws: a list at hd whose first item is the list of ints at c -/
def Hand (H : Hp) (hd c : Addr) : Prop := c ≠ hd ∧ (∃ ns : List Int, H c = some (.lst (ns.map V.int))) ∧ ∃ (i b m k : Int), H hd = some (.lst [.ref c, .int i, .int b, .int m, .int k]) ∧ 0 ≤ i
/-- all that stood stands, but for the hand's own list -/
structure G (o : Option (Addr × Addr)) (H H' : Hp) : Prop where
  keep : ∀ a u, (∀ p, o = some p → a ≠ p.1) → H a = some u → H' a = some u
  tups : Ts H H'
  hand : ∀ p, o = some p → Hand H p.1 p.2 → Hand H' p.1 p.2
theorem G.refl {o : Option (Addr × Addr)} {H : Hp} : G o H H := ⟨fun _ _ _ h => h, fun _ _ h => h, fun _ _ h => h⟩
theorem G.trans {o : Option (Addr × Addr)} {H H1 H2 : Hp} (a : G o H H1) (b : G o H1 H2) : G o H H2 :=
  ⟨fun x u n h => b.keep x u n (a.keep x u n h), fun x xs h => b.tups x xs (a.tups x xs h), fun p e h => b.hand p e (a.hand p e h)⟩
theorem G.all {H H' : Hp} (g : G none H H') (a : Addr) (u : HO) (h : H a = some u) : H' a = some u := g.keep a u (fun p e => nomatch e) h
theorem G.of_all {o : Option (Addr × Addr)} {H H' : Hp} (k : ∀ a u, H a = some u → H' a = some u) : G o H H' :=
  ⟨fun a u _ h => k a u h, fun a xs h => h.elim (fun h => .inl (k _ _ h)) fun ⟨ob, h⟩ => .inr ⟨ob, k _ _ h⟩,
    fun p _ ⟨n, ⟨ns, h1⟩, i, b, m, z, h2, h3⟩ => ⟨n, ⟨ns, k _ _ h1⟩, i, b, m, z, k _ _ h2, h3⟩⟩
theorem G.up {o : Option (Addr × Addr)} {H H' : Hp} (g : G none H H') : G o H H' := G.of_all g.all
theorem G.alloc {o : Option (Addr × Addr)} {H : Hp} {p : Addr} {u : HO} (h : H p = none) : G o H (upd H p u) := G.of_all fun a w e => by
  rw [upd_ne (ne_of_none e h)]; exact e
/-- a thing that H does not know is changed -/
theorem G.mut {o : Option (Addr × Addr)} {H H' : Hp} {l : Addr} {u : HO} (g : G o H H') (h : H l = none) (hh : ∀ p, o = some p → Hand H p.1 p.2) : G o H (upd H' l u) := by
  refine ⟨fun a w n e => ?_, fun a xs e => ?_, fun p e x => ?_⟩
  · rw [upd_ne (ne_of_none e h)]; exact g.keep a w n e
  · have ne : a ≠ l := by
      rcases e with e | ⟨ob, e⟩ <;> exact ne_of_none e h
    rcases g.tups a xs e with q | ⟨ob, q⟩
    · exact .inl (by rw [upd_ne ne]; exact q)
    · exact .inr ⟨ob, by rw [upd_ne ne]; exact q⟩
  · obtain ⟨n0, ⟨ns0, h0⟩, i0, b0, m0, k0, h1, _⟩ := hh p e
    obtain ⟨n, ⟨ns, h2⟩, i, b, m, k, h3, h4⟩ := g.hand p e x
    exact ⟨n, ⟨ns, by rw [upd_ne (ne_of_none h0 h)]; exact h2⟩, i, b, m, k, by rw [upd_ne (ne_of_none h1 h)]; exact h3, h4⟩
theorem Hand.ne {H : Hp} {hd c l : Addr} (x : Hand H hd c) (h : H l = none) : l ≠ hd := fun e => by
  obtain ⟨_, _, _, _, _, _, h1, _⟩ := x
  rw [← e, h] at h1; cases h1
/-- an address that is not the hand's -/
def Off (o : Option (Addr × Addr)) (a : Addr) : Prop := ∀ p, o = some p → a ≠ p.1
theorem off_none {a : Addr} : Off none a := fun _ e => nomatch e
theorem off_new {hd c l : Addr} {H : Hp} (x : Hand H hd c) (h : H l = none) : Off (some (hd, c)) l := fun p e => by cases e; exact x.ne h
theorem off_ins {hd c a C dx : Addr} {fs : List (Str × V)} {H : Hp} (x : Hand H hd c) (h : H a = some (.ins C dx fs)) : Off (some (hd, c)) a := fun p e => by
  cases e
  obtain ⟨_, _, _, _, _, _, h1, _⟩ := x
  exact ne_of h h1 (by intro z; cases z)
theorem off_dK {hd c a : Addr} {kvs : List (Key × V)} {H : Hp} (x : Hand H hd c) (h : H a = some (.dK kvs)) : Off (some (hd, c)) a := fun p e => by
  cases e
  obtain ⟨_, _, _, _, _, _, h1, _⟩ := x
  exact ne_of h h1 (by intro z; cases z)

/-! ### data without lists -/
mutual
def nl : PyData → Bool
  | .list _ => false
  | .dict _ => false
  | .tuple ds => nls ds
  | .none => true
  | .bool _ => true
  | .int _ => true
  | .str _ => true
def nls : List PyData → Bool
  | [] => true
  | d :: ds => nl d && nls ds
end
theorem nls_iff : ∀ {ds : List PyData}, nls ds = true ↔ ∀ d ∈ ds, nl d = true
  | [] => by simp [nls]
  | d :: ds => by simp [nls, nls_iff (ds := ds)]
section
variable {K : PySem.W.Frag} {H H' : Hp}
theorem sqT_t (t : Ts H H') {a : Addr} {xs : List V} (h : SqT K H a xs) : SqT K H' a xs := h.elim (fun h => .inl (t _ _ h)) .inr
mutual
theorem dp_t (t : Ts H H') : ∀ (d : PyData) (v : V), nl d = true → Dp K H v d → Dp K H' v d
  | .none, _, _, h => by cases h; exact .non
  | .bool b, _, _, h => by cases h; exact .bl b
  | .int i, _, _, h => by cases h; exact .int i
  | .str x, _, _, h => by cases h; exact .str x
  | .list ds, _, n, _ => by simp [nl] at n
  | .dict ds, _, n, _ => by simp [nl] at n
  | .tuple ds, _, n, h => by
    cases h with
    | tup hs ha => exact .tup (sqT_t t hs) (dpAll_t t ds _ (by simpa [nl] using n) ha)
theorem dpAll_t (t : Ts H H') : ∀ (ds : List PyData) (vs : List V), nls ds = true → DpAll K H vs ds → DpAll K H' vs ds
  | [], _, _, h => by cases h; exact .nil
  | d :: ds, _, n, h => by
    cases h with
    | cons h1 h2 =>
      have n' : nl d = true ∧ nls ds = true := by simpa [nls] using n
      exact .cons (dp_t t d _ n'.1 h1) (dpAll_t t ds _ n'.2 h2)
end
theorem DpAll.length : ∀ {vs : List V} {ds : List PyData}, DpAll K H vs ds → vs.length = ds.length
  | _, _, .nil => rfl
  | _, _, .cons _ t => by simp [DpAll.length t]
theorem DpAll.get : ∀ {vs : List V} {ds : List PyData} {i : Nat} {v : V}, DpAll K H vs ds → vs[i]? = some v → ∃ d, ds[i]? = some d ∧ Dp K H v d
  | _, _, _, _, .nil, e => by simp at e
  | _, _, 0, _, .cons h _, e => by simp at e; subst e; exact ⟨_, rfl, h⟩
  | _, _, i + 1, v, .cons _ t, e => by
    obtain ⟨d, h1, h2⟩ := DpAll.get (i := i) (v := v) t (by simpa using e)
    exact ⟨d, by simpa using h1, h2⟩
theorem DpAll.get' : ∀ {vs : List V} {ds : List PyData} {i : Nat} {d : PyData}, DpAll K H vs ds → ds[i]? = some d → ∃ v, vs[i]? = some v ∧ Dp K H v d
  | _, _, _, _, .nil, e => by simp at e
  | _, _, 0, _, .cons h _, e => by simp at e; subst e; exact ⟨_, rfl, h⟩
  | _, _, i + 1, d, .cons _ t, e => by
    obtain ⟨v, h1, h2⟩ := DpAll.get' (i := i) (d := d) t (by simpa using e)
    exact ⟨v, by simpa using h1, h2⟩
theorem DpAll.app : ∀ {vs ws : List V} {ds es : List PyData}, DpAll K H vs ds → DpAll K H ws es → DpAll K H (vs ++ ws) (ds ++ es)
  | _, _, _, _, .nil, h => h
  | _, _, _, _, .cons h t, h' => .cons h (DpAll.app t h')
theorem DpAll.one {v : V} {d : PyData} (h : Dp K H v d) : DpAll K H [v] [d] := .cons h .nil
theorem DpAll.ints : ∀ (ns : List Int), DpAll K H (ns.map V.int) (ns.map PyData.int)
  | [] => .nil
  | n :: ns => .cons (.int n) (DpAll.ints ns)
theorem DpAll.of_ints : ∀ {ns : List Int} {vs : List V}, DpAll K H vs (ns.map PyData.int) → vs = ns.map V.int
  | [], _, .nil => rfl
  | n :: ns, _, .cons h t => by cases h; rw [DpAll.of_ints t]; rfl
end
/-- a tuple of ints, a pair, a tuple of pairs -/
abbrev dI (ns : List Int) : PyData := .tuple (ns.map PyData.int)
abbrev dP (w : Int × Int) : PyData := .tuple [.int w.1, .int w.2]
abbrev dW (ws : List (Int × Int)) : PyData := .tuple (ws.map dP)
theorem nls_ints (ns : List Int) : nls (ns.map PyData.int) = true := by rw [nls_iff]; intro d h; simp only [List.mem_map] at h; obtain ⟨n, _, rfl⟩ := h; rfl
theorem nls_pairs (ws : List (Int × Int)) : nls (ws.map dP) = true := by rw [nls_iff]; intro d h; simp only [List.mem_map] at h; obtain ⟨n, _, rfl⟩ := h; rfl
theorem nl_dI (ns : List Int) : nl (dI ns) = true := by show nls _ = true; exact nls_ints ns
theorem nl_dP (w : Int × Int) : nl (dP w) = true := rfl
theorem nl_dW (ws : List (Int × Int)) : nl (dW ws) = true := by show nls _ = true; exact nls_pairs ws
section
variable {K : PySem.W.Frag} {H H' : Hp}
theorem dp_dI {v : V} {ns : List Int} (h : Dp K H v (dI ns)) : ∃ a, v = .ref a ∧ SqT K H a (ns.map V.int) := by
  cases h with
  | tup hs ha => exact ⟨_, rfl, by rw [← DpAll.of_ints ha]; exact hs⟩
theorem dp_dP {v : V} {w : Int × Int} (h : Dp K H v (dP w)) : ∃ a, v = .ref a ∧ SqT K H a [.int w.1, .int w.2] := by
  cases h with
  | tup hs ha =>
    cases ha with
    | cons h1 t =>
      cases t with
      | cons h2 t =>
        cases t; cases h1; cases h2
        exact ⟨_, rfl, hs⟩
theorem dp_tup {v : V} {ds : List PyData} (h : Dp K H v (.tuple ds)) : ∃ a vs, v = .ref a ∧ SqT K H a vs ∧ DpAll K H vs ds := by
  cases h with
  | tup hs ha => exact ⟨_, _, rfl, hs, ha⟩
theorem dp_ofI {a : Addr} {ns : List Int} (h : SqT K H a (ns.map V.int)) : Dp K H (.ref a) (dI ns) := .tup h (DpAll.ints ns)
theorem dp_ofP {a : Addr} {i j : Int} (h : SqT K H a [.int i, .int j]) : Dp K H (.ref a) (dP (i, j)) := .tup h (.cons (.int i) (.cons (.int j) .nil))
end

/-! ### steps: a reading by its first part -/
section
variable {K : PySem.W.Frag} {σ : L2.St} {H : Hp} {Q : VK} {QB : Bool → Hp → Prop} {D : Ends} {ta tb tc te : TE} {t u : TT} {ts tu : TS} {r r' : R2} {v x y : V} {i j : Int} {n : Nat} {b : Bool} {A B : Prop}
theorem w_var {i : Nat} (h : σ[i]? = some (some v)) (q : Q v H) : tVar i σ H Q := ⟨v, h, q⟩
theorem w_c (q : Q v H) : tC v σ H Q := q
theorem w_op (q : ta σ H fun x H1 => tb σ H1 fun y H2 => r x y H2 Q) : tOp r ta tb σ H Q := q
theorem w_un {f : V → Hp → VK → Prop} (q : ta σ H fun x H1 => f x H1 Q) : tUn f ta σ H Q := q
theorem w_seq (q : ts { D with nx := tu D } σ H) : tSeq ts tu D σ H := q
theorem w_next (q : D.nx σ H) : tNext D σ H := q
theorem w_break (q : D.bk σ H) : tBreak D σ H := q
theorem w_set {i : Nat} (q : te σ H fun x H1 => D.nx (σ.set i (some x)) H1) : tAsg te (gName i) D σ H := q
theorem w_asg {g : TG} (q : te σ H fun x H1 => g x σ H1 D.nx) : tAsg te g D σ H := q
theorem w_drop (q : te σ H fun _ H1 => D.nx σ H1) : tDrop te D σ H := q
theorem w_ret (q : te σ H D.rt) : tRet te D σ H := q
theorem w_retN (q : D.rt .non H) : tRetN D σ H := q
theorem w_ifS (q : t σ H fun b H1 => if b = true then ts D σ H1 else tu D σ H1) : tIfS t ts tu D σ H := q
theorem w_test (q : te σ H fun x H' => ∃ k, x = .bl k ∧ QB k H') : tTest te σ H QB := q
theorem w_tB (q : te σ H fun x H' => ∃ k, x = .bl k ∧ QB k H') : tB te σ H QB := q
theorem w_bl (q : QB b H) : ∃ k, V.bl b = .bl k ∧ QB k H := ⟨b, rfl, q⟩
theorem w_not (q : t σ H fun c H1 => QB (!c) H1) : tNot t σ H QB := q
theorem w_and (q : t σ H fun c H1 => if c = true then u σ H1 QB else QB false H1) : tAnd t u σ H QB := q
theorem w_or (q : t σ H fun c H1 => if c = true then QB true H1 else u σ H1 QB) : tOr t u σ H QB := q
theorem w_andV (q : ta σ H fun x H1 => ∃ c, x = .bl c ∧ if c = true then tb σ H1 Q else Q (.bl false) H1) : tAndV ta tb σ H Q := q
theorem w_orV (q : ta σ H fun x H1 => ∃ c, x = .bl c ∧ if c = true then Q (.bl true) H1 else tb σ H1 Q) : tOrV ta tb σ H Q := q
theorem w_notV (q : ta σ H fun x H1 => ∃ c, x = .bl c ∧ Q (.bl (!c)) H1) : tNotV ta σ H Q := q
theorem w_if (q : t σ H fun c H1 => if c = true then ta σ H1 Q else tb σ H1 Q) : tIf t ta tb σ H Q := q
theorem w_blc {F : Bool → Prop} (q : F b) : ∃ c, V.bl b = .bl c ∧ F c := ⟨b, rfl, q⟩
theorem w_nil {QA : List V → Hp → Prop} (q : QA [] H) : tNil σ H QA := q
theorem w_cons {tr : TA} {QA : List V → Hp → Prop} (q : te σ H fun x H1 => tr σ H1 fun xs H2 => QA (x :: xs) H2) : tCons te tr σ H QA := q
theorem w_CB {f : List V → Hp → VK → Prop} {tr : TA} (q : tr σ H fun vs H1 => f vs H1 Q) : tCB f tr σ H Q := q
theorem w_call {sp : Sp} {E : XK} {tr : TA} (q : tr σ H fun vs H1 => sp (vs ++ []) H1 Q E) : tCall sp [] E tr σ H Q := q
theorem w_tup {tr : TA} (q : tr σ H fun xs H1 => xs.length ≤ sizeLine ∧ ∀ p, H1 p = none → Q (.ref p) (upd H1 p (.tup xs))) : tTup tr σ H Q := q
theorem w_lst {tr : TA} (q : tr σ H fun xs H1 => xs.length ≤ sizeLine ∧ ∀ p, H1 p = none → Q (.ref p) (upd H1 p (.lst xs))) : tLst tr σ H Q := q
theorem w_chain (q : ta σ H fun x H1 => tb σ H1 fun y H2 => r x y H2 fun z H3 => ∃ k, z = .bl k ∧ (if k = true then tc σ H3 fun w' H4 => r' y w' H4 Q else Q (.bl false) H3)) : tChain r r' ta tb tc σ H Q := q
theorem w_sl {f : V → Option Int → Option Int → Hp → VK → Prop} {tl th : TO} (q : te σ H fun x H1 => tl σ H1 fun l H2 => th σ H2 fun u H3 => f x l u H3 Q) : tSl f te tl th σ H Q := q
theorem w_part {QO : Option Int → Hp → Prop} (q : te σ H fun x H1 => ∃ i, x = .int i ∧ QO (some i) H1) : tPart te σ H QO := q
theorem w_noPart {QO : Option Int → Hp → Prop} (q : QO none H) : tNoPart σ H QO := q
theorem w_inti {F : Int → Prop} (q : F i) : ∃ k, V.int i = .int k ∧ F k := ⟨i, rfl, q⟩
theorem w_fld {f : Str} (q : te σ H fun x H1 => ∃ a C dx fs v, x = .ref a ∧ H1 a = some (.ins C dx fs) ∧ Cls K C ∧ NoAttr K C f ∧ fs.lookup f = some v ∧ Q v H1) : tFld K te f σ H Q := q
theorem w_sfld {f : Str} (q : tb σ H fun y H1 => ta σ H1 fun x H2 => ∃ a C dx fs, x = .ref a ∧ H2 a = some (.ins C dx fs) ∧ Cls K C ∧ NoAttr K C f ∧ fs.length < 1000 ∧ D.nx σ (upd H2 a (.ins C dx (putF f y fs)))) : sFld K ta tb f D σ H := q
theorem w_gsub {to ti : TE} {s : TSet} {QS : L2.St → Hp → Prop} (q : to σ H fun o H1 => ti σ H1 fun i H2 => s o i v H2 fun H3 => QS σ H3) : gSub to ti s v σ H QS := q
theorem w_gname {i : Nat} {QS : L2.St → Hp → Prop} (q : QS (σ.set i (some v)) H) : gName i v σ H QS := q
/-! by values -/
theorem r_I0 {g : Int → Int → V} (q : Q (g i j) H) : rI0 g (.int i) (.int j) H Q := ⟨i, j, rfl, rfl, q⟩
theorem r_I {C : Int → Int → Prop} {g : Int → Int → V} (c : C i j) (q : Q (g i j) H) : rI C g (.int i) (.int j) H Q := ⟨i, j, rfl, rfl, c, q⟩
theorem r_U {g : Int → V} (q : Q (g i) H) : rU g (.int i) H Q := ⟨i, rfl, q⟩
theorem r_eqI (q : Q (.bl (decide (i = j))) H) : rEq (.int i) (.int j) H Q := ⟨rfl, by
  have e : decide (V.int i = V.int j) = decide (i = j) := by simp
  rw [e]; exact q⟩
theorem r_neI (q : Q (.bl (!decide (i = j))) H) : rNe (.int i) (.int j) H Q := ⟨rfl, by
  have e : decide (V.int i = V.int j) = decide (i = j) := by simp
  rw [e]; exact q⟩
theorem r_eqB {a b : Bool} (q : Q (.bl (decide (a = b))) H) : rEq (.bl a) (.bl b) H Q := ⟨rfl, by
  have e : decide (V.bl a = V.bl b) = decide (a = b) := by simp
  rw [e]; exact q⟩
theorem r_neB {a b : Bool} (q : Q (.bl (!decide (a = b))) H) : rNe (.bl a) (.bl b) H Q := ⟨rfl, by
  have e : decide (V.bl a = V.bl b) = decide (a = b) := by simp
  rw [e]; exact q⟩
theorem r_ixT {p : Addr} {xs : List V} (h : SqT K H p xs) (e : atI xs i = some v) (q : Q v H) : rIxT K (.ref p) (.int i) H Q := ⟨p, xs, i, v, rfl, rfl, h, e, q⟩
theorem r_ixL {p : Addr} {xs : List V} (h : SqL K H p xs) (e : atI xs i = some v) (q : Q v H) : rIxL K (.ref p) (.int i) H Q := ⟨p, xs, i, v, rfl, rfl, h, e, q⟩
theorem w_ite (h1 : b = true → A) (h2 : b = false → B) : if b = true then A else B := by
  cases b with
  | true => exact h1 rfl
  | false => exact h2 rfl
theorem w_newT {o : Option (Addr × Addr)} {xs : List V} (q : ∀ p H1, H p = none → G o H H1 → H1 p = some (.tup xs) → Q (.ref p) H1) (hz : xs.length ≤ 100000 := by simp) : xs.length ≤ sizeLine ∧ ∀ p, H p = none → Q (.ref p) (upd H p (.tup xs)) :=
  ⟨Nat.le_trans hz (by decide), fun p hp => q p _ hp (G.alloc hp) upd_same⟩
theorem w_newL {o : Option (Addr × Addr)} {xs : List V} (q : ∀ p H1, H p = none → G o H H1 → H1 p = some (.lst xs) → Q (.ref p) H1) (hz : xs.length ≤ 100000 := by simp) : xs.length ≤ sizeLine ∧ ∀ p, H p = none → Q (.ref p) (upd H p (.lst xs)) :=
  ⟨Nat.le_trans hz (by decide), fun p hp => q p _ hp (G.alloc hp) upd_same⟩
end
end GA
/-! ## GB -/
namespace PySem
open Sem (wp)
open AutoSeq1 (wpAny_loadPart')
theorem ga_enumerate_newT (l : Addr) (items : Array Value) :
    Meets (Builtin.«enumerate.__new__» ⟨[.type "enumerate", .ref l], []⟩) (fun _ R s => s.heap.IsTuple l items ∧
      R (.ok (.ret (.ref (s.heap.push { cls := .type "tuple_iterator", data := .fields #[.ref l, .int 0 0] }).objs.size)))
        { s with heap := (s.heap.push { cls := .type "tuple_iterator", data := .fields #[.ref l, .int 0 0] }).push { cls := .type "enumerate", data := .fields #[.none, .bool false, .ref s.heap.objs.size, rawInt 0, .none, .none] } }) :=
  .of_wp fun prog w A R s h => by
    obtain ⟨hp, g, d, tk, os⟩ := s; obtain ⟨hl, h⟩ := h
    have hsub := sub_enumerate
    have hL : Heap.IsTuple (Shared.heap ⟨hp, g, d, tk, os⟩) l items := hl
    obtain ⟨ob, hob, _⟩ := id hl
    wp_walk using wpAny_loadPart' hob
    refine wpAny_stack_any fun st => wpAny_pure ?_
    split
    · rename_i c _ _ _ _ _
      cases (c == Value.type "enumerate")
      · wp_walk using wpAny_loadPart' hob, wpAny_pyIter_tuple hL
        exact ⟨_, rfl, h⟩
      · wp_walk using wpAny_loadPart' hob, wpAny_pyIter_tuple hL
        exact ⟨_, rfl, h⟩
    · wp_walk using wpAny_loadPart' hob, wpAny_pyIter_tuple hL
      exact ⟨_, rfl, h⟩
theorem ga_enumerate_tuple {prog : Program} {w : World} {A : Around} {E : Value → Shared → Prop} {s : Shared} {l : Addr} {items : Array Value} {Q : Value → Shared → Prop} (hL : s.heap.IsTuple l items)
    (h : ∀ h', IsEnum h' (s.heap.objs.size + 1) s.heap.objs.size 0 .none → h'.IsTupleIter s.heap.objs.size l 0 → h'.objs.size = s.heap.objs.size + 2 →
      (∀ b o, s.heap.get? b = some o → h'.get? b = some o) → Q (.ref (s.heap.objs.size + 1)) { s with heap := h' }) :
    wpAny (model prog w) A (call (.type "enumerate") [.ref l]) Q E s := by
  refine callType_new F.called_enumerate (by decide) (F.typeCall_enumerate_1 _) (F.newCall_enumerate_1 _) (fun obj => F.args_object_init_2 obj _) F.entry_enumerate_new
    (ga_enumerate_newT l items) ⟨hL, ?_⟩
  have hz : (s.heap.push { cls := .type "tuple_iterator", data := .fields #[.ref l, .int 0 0] }).objs.size = s.heap.objs.size + 1 := Heap.size_push ..
  show _ ∧ _
  rw [hz]
  have he : IsEnum ((s.heap.push { cls := .type "tuple_iterator", data := .fields #[.ref l, .int 0 0] }).push
      { cls := .type "enumerate", data := .fields #[.none, .bool false, .ref s.heap.objs.size, rawInt 0, .none, .none] }) (s.heap.objs.size + 1) s.heap.objs.size 0 .none := by
    have := Heap.get?_push_size (s.heap.push { cls := .type "tuple_iterator", data := .fields #[.ref l, .int 0 0] })
      (o := { cls := .type "enumerate", data := .fields #[.none, .bool false, .ref s.heap.objs.size, rawInt 0, .none, .none] }) rfl
    rw [hz] at this; exact this
  refine ⟨⟨_, he, rfl⟩, h _ he ⟨_, Heap.get?_push_of_some _ (Heap.get?_push_size _ rfl), rfl, rfl⟩ (by rw [Heap.size_push, hz]) fun b o x => Heap.get?_push_of_some _ (Heap.get?_push_of_some _ x)⟩
end PySem
namespace GA
open PySem PySem.Spec PyProof.Rows L2
/-- enumerate over a tuple -/
def IteT (K : PySem.W.Frag) (a : Addr) : It :=
  ⟨fun i H => ∃ (xs : List V) (x : V), SqT K H a xs ∧ xs[i]? = some x, fun i H v H' => ∃ T x, v = .ref T ∧ H T = none ∧ H' = upd H T (.tup [.int (i : Nat), x]) ∧ ∀ xs, SqT K H a xs → xs[i]? = some x, fun i H => ∃ xs : List V, SqT K H a xs ∧ xs.length ≤ i⟩
theorem turn_enumT {P : Program} {w : World} {K : PySem.W.Frag} {elts : List Expr} {kk : Nat} {tpos : Pos} (a e it : Addr) (nai : a ≠ it) (nae : a ≠ e) :
    Turn P w K (.Tuple elts kk tpos) (IteT K a) [e, it] e (fun i h => (∃ old, IsEnum h e it ((i : Nat) : Int) old) ∧ h.IsTupleIter it a i ∧ e ≠ it) where
  mem := by simp
  obj := fun i h st b hb => by
    obtain ⟨⟨old, he⟩, ⟨o, ho, hc, hd⟩, _⟩ := st
    have e' : b = e ∨ b = it := by simpa using hb
    rcases e' with z | z
    · rw [z]; exact ⟨_, he, fun v q => nomatch q⟩
    · rw [z]; exact ⟨o, ho, fun v q => by rw [hd] at q; cases q⟩
  keep := fun i h h' st k => let ⟨⟨old, he⟩, hi, hne⟩ := st; ⟨⟨old, k e (by simp) _ he⟩, hi.at fun o q => k it (by simp) o q, hne⟩
  item := by
    intro X hP hw hK hc i pins s σ H E I hf st hg
    subst hP hw hK
    obtain ⟨⟨old, he⟩, hit, hne⟩ := st
    obtain ⟨xs, x, hq, hx⟩ := hg
    obtain ⟨its, rv, p, hz⟩ := I.tuple hq
    obtain ⟨u, hu, ru⟩ := rv.get hx
    have hel : e < s.heap.objs.size := Heap.lt_size he
    have hil : it < s.heap.objs.size := by obtain ⟨_, q, _⟩ := hit; exact Heap.lt_size q
    have hi : i < its.toArray.size := by
      have := (List.getElem?_eq_some_iff.mp hu).1
      simpa using this
    refine wpAny_pyNext_enum_itemD (Draws.tuple (prog := X.prog) (w := X.w) (A := X.A.in1) (I.ok.hd hc) it a nai its.toArray) he ⟨hit, p⟩ hi hne (by simp [hne, Ne.symm nae]) fun v h' tk hv ho hst hT hsz hk => ?_
    have ev : v = u := by
      have z : its.toArray[i]? = some u := by simpa using hu
      rw [z] at hv; exact (Option.some.inj hv).symm
    subst ev
    refine ⟨_, rfl, wpAny_letOwnedTupleGo_enum (s := { s with heap := h', toks := tk + 1 }) ho fun h'' he' sb => ?_⟩
    have hT2 : h''.get? s.heap.objs.size = some { cls := .type "tuple", data := .seq #[.int i tk, v] } := (sb.2 _ (Nat.ne_of_gt hel)).trans hT
    have new : ObjOk X.prog X.w (upd H s.heap.objs.size (.tup [.int (i : Nat), x])) h'' s.heap.objs.size (.tup [.int (i : Nat), x]) :=
      ⟨by show 2 ≤ sizeLine; decide, [.int i tk, v], .cons ⟨_, rfl⟩ (.cons ru .nil), ⟨_, hT2, rfl, _, rfl⟩⟩
    have I1 : Inv X pins σ (upd H s.heap.objs.size (.tup [.int (i : Nat), x])) { s with heap := h'', toks := tk + 1 } :=
      I.turnedNew (ch := [e, it]) (fun b ob hb q => (sb.2 b (fun z => hb (by simp [z]))).trans (hk b ob (fun z => hb (by simp [z])) (fun z => hb (by simp [z])) q)) hf (Nat.le_refl _) new
    refine ⟨.ref s.heap.objs.size, _, I1, rfl, ⟨_, x, rfl, I.hok.fresh (Nat.le_refl _), rfl, fun ys hy => by rw [I.tuple_inj hy hq]; exact hx⟩, ⟨⟨v, ?_⟩, hst.1.at fun o q => (sb.2 it (Ne.symm hne)).trans q, hne⟩, fun b hb => ?_⟩
    · have e1 : ((i + 1 : Nat) : Int) = (i : Int) + 1 := by omega
      rw [e1]; exact he'
    · have hb' : b < s.heap.objs.size := by
        have e' : b = e ∨ b = it := by simpa using hb
        rcases e' with z | z
        · rw [z]; exact hel
        · rw [z]; exact hil
      rw [upd_ne (Nat.ne_of_lt hb')]
      exact (hf b hb).1
  done := by
    intro X hP hw hK hc i pins s σ H E I hf st hg
    subst hP hw hK
    obtain ⟨⟨old, he⟩, hit, hne⟩ := st
    obtain ⟨xs, hq, hx⟩ := hg
    obtain ⟨its, rv, p, hz⟩ := I.tuple hq
    obtain ⟨f0, f1, f2, f3, f4, f5⟩ := hf it (by simp)
    have hl := rv.length
    have hT : s.TypeIs (.ref e) "enumerate" := ⟨_, he, rfl⟩
    unfold pyNext
    refine wpAny_bind (wpAny_attempt (wpAny_callSpecial?_slot (name := Str.ofString "__next__") hT F.slot_enumerate_next
      (wpAny_call_entry F.slot_enumerate_next hT F.entry_enumerate_next ?_ (F.args_enumerate_next_1 _))))
    show wpAny _ _ (field (.ref e) 2 >>= _) _ _ _
    refine wpAny_bind (wpAny_field he rfl (x := .ref it) rfl ?_)
    refine wpAny_bind (wpAny_nextOf_tuple_end (I.ok.hd hc) hit p (by simp; omega) fun h' x' he' hx' => ?_)
    obtain ⟨o, ho, hc'⟩ := hx'
    refine wpAny_bind (wpAny_isInstance (T := "StopIteration") (b := true) ⟨o, ho, hc'⟩ isSubtype_stop ?_)
    exact wpAny_pure ⟨rfl, I.turned (t' := s.toks) (fun b o hb q => he' b o hb q) f0 f1 f3 f4 f5⟩
  self := by
    intro A i s Q E st h
    obtain ⟨⟨old, he⟩, _⟩ := st
    exact wpAny_pyIter_enum he h
def iEnumT (K : PySem.W.Frag) (ta : TA) : TI := fun σ H R => ta σ H fun vs H1 => ∃ a xs, vs = [.ref a] ∧ SqT K H1 a xs ∧ R (IteT K a) H1
theorem pi_enumT {X : Cx} {e : Expr} {ta : TA} {p pos tpos : Pos} {elts : List Expr} {kk : Nat} (hg : Gl X "enumerate") (hm : X.mg "enumerate" = none) (ha : PA X [e] ta) (hs : starEach [e] X.env = [(false, eval e X.env)] := by rfl) :
    PI X (.Tuple elts kk tpos) (.Call (.Name "enumerate" p) [e] [] pos) (iEnumT X.K ta) := by
  refine ⟨fun pins s σ H R I h => ?_⟩
  refine Call_ (ld_blt I hg hm boot_enumerate (PyProof.Rows.callWith_type1 (thn (ha.run pos pins s σ H _ I h) fun us s1 ⟨vs, H1, I1, r1, q1⟩ => ?_) hs rfl))
  obtain ⟨a, xs, ex, hq, q⟩ := q1
  subst ex
  cases r1 with
  | cons r rr =>
    cases rr
    cases r
    obtain ⟨its, rv, p', hz⟩ := I1.tuple hq
    have hal : a < s1.heap.objs.size := p'.lt
    refine ga_enumerate_tuple p' fun h' he hit hsz hk => wpAny_pyIter_enum he ?_
    have I2 : Inv X pins σ H1 { s1 with heap := h' } := I1.kept (t' := s1.toks) hk
    refine ⟨s1.heap.objs.size + 1, [s1.heap.objs.size + 1, s1.heap.objs.size], _, _, H1, rfl, I2, turn_enumT a (s1.heap.objs.size + 1) s1.heap.objs.size (Nat.ne_of_lt hal) (Nat.ne_of_lt (Nat.lt_succ_of_lt hal)), ⟨⟨.none, he⟩, hit, Nat.succ_ne_self _⟩, fun b hb => ?_, q⟩
    have e' : b = s1.heap.objs.size + 1 ∨ b = s1.heap.objs.size := by simpa using hb
    have hle : s1.heap.objs.size ≤ b := by
      rcases e' with z | z
      · rw [z]; exact Nat.le_add_right _ _
      · rw [z]; exact Nat.le_refl _
    exact I1.fpOk hle (I1.hok.fresh hle)
theorem walk_enumT {K : PySem.W.Frag} {a : Addr} {xs : List V} : Walk (IteT K a) xs.length (fun H => SqT K H a xs) (YPair (fun i => some (.int (i : Nat))) (fun i => xs[i]?)) := by
  refine ⟨fun i _ hi q => ⟨xs, xs[i], q, by simp [hi]⟩, fun _ q => ⟨xs, q, Nat.le_refl _⟩, fun i H v H' _ q y => ?_⟩
  obtain ⟨T, x, h1, h2, h3, h4⟩ := y
  exact ⟨T, .int (i : Nat), x, h1, h2, h3, rfl, h4 xs q⟩
end GA
/-! ## GC -/
namespace GA
open PySem L2
theorem Ts.of {H H' : Hp} (k : ∀ a u, H a = some u → (∀ xs, u ≠ .lst xs) → H' a = some u) : Ts H H' := fun a xs h => h.elim (fun h => .inl (k a _ h fun _ z => nomatch z)) fun ⟨ob, h⟩ => .inr ⟨ob, k a _ h fun _ z => nomatch z⟩
theorem Ts.updl {H : Hp} {D : Addr} {xs : List V} {u : HO} (h : H D = some (.lst xs)) : Ts H (upd H D u) := Ts.of fun a w e n => by
  rw [upd_ne (ne_of e h (n xs))]; exact e
theorem Ts.trans {H H1 H2 : Hp} (a : Ts H H1) (b : Ts H1 H2) : Ts H H2 := fun x xs h => b x xs (a x xs h)
section
variable {K : PySem.W.Frag} {J : It} {n : Nat} {Gd : Hp → Prop} {Y : Nat → Hp → V → Hp → Prop} {o : Option (Addr × Addr)} {H1 : Hp} {D : Addr} {g : TG} {tt : TT} {te : TE} {vs : List Nat} {σ : L2.St} {Qd : Hp → Prop}
/-- a comprehension: what it has made as data; Pv by the turn, the data, the heap -/
theorem lc_data (wk : Walk J n Gd Y) (hn : n ≤ 100000) (hD : H1 D = none) (hh : ∀ p, o = some p → Hand H1 p.1 p.2) (Pv : Nat → List PyData → Hp → Prop)
    (stab : ∀ i acc H xs l, Pv i acc H → H D = some (.lst xs) → Pv i acc (upd H D (.lst l)))
    (h0 : Pv 0 [] (upd H1 D (.lst [])))
    (hG : ∀ i acc H, G o H1 H → Pv i acc H → Gd H)
    (hs : ∀ i x acc H H', i < n → G o H1 H → Pv i acc H → Y i H x H' → ∀ (Qy : V → Hp → Prop) (Qn : Hp → Prop), (∀ y H4 e, G o H H4 → Dp K H4 y e → nl e = true → Pv (i + 1) (acc ++ [e]) H4 → Qy y H4) → (∀ H3, G o H H3 → Pv (i + 1) acc H3 → Qn H3) →
      g x (wipe σ vs) H' fun σ2 H2 => wipe σ2 vs = wipe σ vs ∧ tt σ2 H2 fun b H3 => if b = true then te σ2 H3 Qy else Qn H3)
    (hd : ∀ ds xs H', Pv n ds H' → G o H1 H' → H' D = some (.lst xs) → DpAll K H' xs ds → nls ds = true → Qd H') :
    ∃ W : Nat → Nat → Hp → Prop, (∃ m, W 0 m (upd H1 D (.lst []))) ∧ ∀ i m H, W i m H →
      (J.stop i H ∧ Qd H) ∨ (J.go i H ∧ ∃ Nx : Hp → Prop, (∀ H', Nx H' → ∃ m', m' < m ∧ W (i + 1) m' H') ∧ ∀ x H', J.yld i H x H' → g x (wipe σ vs) H' fun σ2 H2 => wipe σ2 vs = wipe σ vs ∧ tt σ2 H2 fun b H3 =>
        if b = true then te σ2 H3 fun y H4 => ∃ acc, H4 D = some (.lst acc) ∧ acc.length < sizeLine ∧ Nx (upd H4 D (.lst (acc ++ [y]))) else Nx H3) := by
  have offD : ∀ p, o = some p → D ≠ p.1 := fun p e => (hh p e).ne hD
  refine lc_it wk (fun i H => ∃ ds xs, G o H1 H ∧ Pv i ds H ∧ H D = some (.lst xs) ∧ DpAll K H xs ds ∧ nls ds = true ∧ xs.length ≤ i) ?_ ?_ ?_ ?_
  · exact ⟨[], [], (G.refl).mut hD hh, h0, upd_same, .nil, rfl, Nat.le_refl _⟩
  · rintro i H _ ⟨ds, xs, q1, q2, _⟩
    exact hG i ds H q1 q2
  · rintro i x H H' hi ⟨ds, xs, q1, q2, q3, q4, q5, q6⟩ y
    have keepD : ∀ {H4 : Hp}, G o H H4 → H4 D = some (.lst xs) := fun g4 => g4.keep D _ offD q3
    refine hs i x ds H H' hi q1 q2 y _ _ (fun v H4 e g4 he ne hp => ?_) fun H3 g3 hp => ⟨ds, xs, q1.trans g3, hp, keepD g3, dpAll_t g3.tups _ _ q5 q4, q5, by omega⟩
    have hD4 := keepD g4
    have t4 : Ts H4 (upd H4 D (.lst (xs ++ [v]))) := Ts.updl hD4
    refine ⟨xs, hD4, Nat.lt_of_le_of_lt (by omega : xs.length ≤ 100000) (by decide), ds ++ [e], xs ++ [v], (q1.trans g4).mut hD hh, stab _ _ _ _ _ hp hD4, upd_same, ?_, ?_, ?_⟩
    · exact DpAll.app (dpAll_t (g4.tups.trans t4) _ _ q5 q4) (DpAll.one (dp_t t4 e v ne he))
    · rw [nls_iff] at q5 ⊢
      intro d hd
      rcases List.mem_append.mp hd with z | z
      · exact q5 d z
      · have : d = e := by simpa using z
        rw [this]; exact ne
    · rw [List.length_append, List.length_singleton]; omega
  · rintro H ⟨ds, xs, q1, q2, q3, q4, q5, _⟩
    exact hd ds xs H q2 q1 q3 q4 q5
/-- one whose items are told by their places -/
theorem lc_pure (wk : Walk J n Gd Y) (hn : n ≤ 100000) (hD : H1 D = none) (hh : ∀ p, o = some p → Hand H1 p.1 p.2) (f : Nat → Option PyData)
    (hG : ∀ H, G o H1 H → Gd H)
    (hs : ∀ i x H H', i < n → G o H1 H → Y i H x H' → ∀ (Qy : V → Hp → Prop) (Qn : Hp → Prop), (∀ y H4 e, G o H H4 → Dp K H4 y e → nl e = true → f i = some e → Qy y H4) → (∀ H3, G o H H3 → f i = none → Qn H3) →
      g x (wipe σ vs) H' fun σ2 H2 => wipe σ2 vs = wipe σ vs ∧ tt σ2 H2 fun b H3 => if b = true then te σ2 H3 Qy else Qn H3)
    (hd : ∀ xs H', G o H1 H' → H' D = some (.lst xs) → DpAll K H' xs ((List.range n).filterMap f) → nls ((List.range n).filterMap f) = true → Qd H') :
    ∃ W : Nat → Nat → Hp → Prop, (∃ m, W 0 m (upd H1 D (.lst []))) ∧ ∀ i m H, W i m H →
      (J.stop i H ∧ Qd H) ∨ (J.go i H ∧ ∃ Nx : Hp → Prop, (∀ H', Nx H' → ∃ m', m' < m ∧ W (i + 1) m' H') ∧ ∀ x H', J.yld i H x H' → g x (wipe σ vs) H' fun σ2 H2 => wipe σ2 vs = wipe σ vs ∧ tt σ2 H2 fun b H3 =>
        if b = true then te σ2 H3 fun y H4 => ∃ acc, H4 D = some (.lst acc) ∧ acc.length < sizeLine ∧ Nx (upd H4 D (.lst (acc ++ [y]))) else Nx H3) := by
  refine lc_data (K := K) wk hn hD hh (fun i acc _ => acc = (List.range i).filterMap f) (fun _ _ _ _ _ h _ => h) rfl (fun _ _ H q _ => hG H q) ?_ ?_
  · rintro i x acc H H' hi q1 rfl y Qy Qn ky kn
    refine hs i x H H' hi q1 y Qy Qn (fun y H4 e g4 he ne hf => ky y H4 e g4 he ne ?_) fun H3 g3 hf => kn H3 g3 ?_
    · rw [List.range_succ, List.filterMap_append]; simp [hf]
    · rw [List.range_succ, List.filterMap_append]; simp [hf]
  · rintro ds xs H' rfl q1 q2 q3 q4
    exact hd xs H' q1 q2 q3 q4
end
theorem G.at_hd {H0 H' : Hp} {hd c : Addr} (x : Hand H0 hd c) (E : ∀ a, a ≠ hd → H' a = H0 a) {i b m k : Int} (h : H' hd = some (.lst [.ref c, .int i, .int b, .int m, .int k])) (hi : 0 ≤ i) : G (some (hd, c)) H0 H' ∧ Hand H' hd c := by
  obtain ⟨n, ⟨ns, h1⟩, i0, b0, m0, k0, h2, h3⟩ := x
  have hh : Hand H' hd c := ⟨n, ⟨ns, by rw [E c n]; exact h1⟩, i, b, m, k, h, hi⟩
  refine ⟨⟨fun a u z e => ?_, fun a xs e => ?_, fun p e _ => ?_⟩, hh⟩
  · rw [E a (z _ rfl)]; exact e
  · have na : a ≠ hd := by
      rcases e with e | ⟨ob, e⟩
      · exact ne_of e h2 (by intro z; cases z)
      · exact ne_of e h2 (by intro z; cases z)
    rcases e with e | ⟨ob, e⟩
    · exact .inl (by rw [E a na]; exact e)
    · exact .inr ⟨ob, by rw [E a na]; exact e⟩
  · cases e; exact hh
theorem mem_cutV {xs : List V} {lo hi : Option Int} {v : V} (h : v ∈ cutV xs lo hi) : v ∈ xs := by
  unfold cutV at h
  exact List.mem_of_mem_drop (List.mem_of_mem_take h)
theorem ints_of {xs : List V} (h : ∀ v ∈ xs, ∃ n : Int, v = .int n) : ∃ ns : List Int, xs = ns.map V.int := by
  induction xs with
  | nil => exact ⟨[], rfl⟩
  | cons x xs ih =>
    obtain ⟨n, rfl⟩ := h x List.mem_cons_self
    obtain ⟨ns, rfl⟩ := ih fun v hv => h v (List.mem_cons_of_mem _ hv)
    exact ⟨n :: ns, rfl⟩
/-! new objects, told by what they leave -/
theorem PE.weak {X : Cx} {e : Expr} {t t' : TE} (h : PE X e t) (w : ∀ σ H Q, t' σ H Q → t σ H Q) : PE X e t' := ⟨fun pins s σ H Q I q => h.run pins s σ H Q I (w σ H Q q)⟩
theorem CallR.weak {X : Cx} {f : Value} {r r' : List V → Hp → VK → Prop} (h : CallR X f r) (w : ∀ xs H Q, r' xs H Q → r xs H Q) : CallR X f r' := fun pins s σ H xs us Q I rv q => h pins s σ H xs us Q I rv (w xs H Q q)
theorem OpR.weak {X : Cx} {f : Value → Value → Sem Value} {r r' : R2} (h : OpR X f r) (w : ∀ x y H Q, r' x y H Q → r x y H Q) : OpR X f r' := fun pins s σ H x y v u Q I r1 r2 q => h pins s σ H x y v u Q I r1 r2 (w x y H Q q)
theorem SlR.weak {X : Cx} {r r' : V → Option Int → Option Int → Hp → VK → Prop} (h : SlR X r) (w : ∀ x l u H Q, r' x l u H Q → r x l u H Q) : SlR X r' := fun pins s σ H x v vl vu lo hi sl Q I r1 hs pl pu q => h pins s σ H x v vl vu lo hi sl Q I r1 hs pl pu (w x lo hi H Q q)
/-- for each new object u at p: F p H2 -/
def New (H : Hp) (u : HO) (F : Addr → Hp → Prop) : Prop := ∀ p H2, H p = none → (∀ o, G o H H2) → H2 p = some u → F p H2
theorem New.go {H : Hp} {u : HO} {F : Addr → Hp → Prop} (h : New H u F) {p : Addr} (hp : H p = none) : F p (upd H p u) := h p _ hp (fun _ => G.alloc hp) upd_same
def tTupN (t : TA) : TE := fun σ H Q => t σ H fun xs H1 => xs.length ≤ sizeLine ∧ New H1 (.tup xs) fun p H2 => Q (.ref p) H2
def tLstN (t : TA) : TE := fun σ H Q => t σ H fun xs H1 => xs.length ≤ sizeLine ∧ New H1 (.lst xs) fun p H2 => Q (.ref p) H2
section
variable {X : Cx} {es : List Expr} {t : TA} {pos : Pos}
theorem pe_tupN {x1} (h : PA X es t) : PE X (.Tuple es x1 pos) (tTupN t) := by
  have h' : PA X es (fun σ H QA => t σ H QA) := h
  refine ⟨fun pins s σ H Q I q => ?_⟩
  have hm : PA X es (fun σ H QA => t σ H (fun xs H1 => xs.length ≤ sizeLine ∧ New H1 (.tup xs) fun p H2 => Q (.ref p) H2) ∧ ∀ xs H1, (xs.length ≤ sizeLine ∧ New H1 (.tup xs) fun p H2 => Q (.ref p) H2) → QA xs H1) :=
    ⟨fun pos pins s σ H QA I q => wpAny_mono (h.run pos pins s σ H _ I q.1) (fun us s1 ⟨vs, H1, I1, r, z⟩ => ⟨vs, H1, I1, r, q.2 vs H1 z⟩) fun _ _ z => z⟩
  exact (pe_tup hm).run pins s σ H Q I ⟨q, fun xs H1 z => ⟨z.1, fun p hp => z.2.go hp⟩⟩
theorem pe_lstN (h : PA X es t) : PE X (.List es pos) (tLstN t) := by
  refine ⟨fun pins s σ H Q I q => ?_⟩
  have hm : PA X es (fun σ H QA => t σ H (fun xs H1 => xs.length ≤ sizeLine ∧ New H1 (.lst xs) fun p H2 => Q (.ref p) H2) ∧ ∀ xs H1, (xs.length ≤ sizeLine ∧ New H1 (.lst xs) fun p H2 => Q (.ref p) H2) → QA xs H1) :=
    ⟨fun pos pins s σ H QA I q => wpAny_mono (h.run pos pins s σ H _ I q.1) (fun us s1 ⟨vs, H1, I1, r, z⟩ => ⟨vs, H1, I1, r, q.2 vs H1 z⟩) fun _ _ z => z⟩
  exact (pe_lst hm).run pins s σ H Q I ⟨q, fun xs H1 z => ⟨z.1, fun p hp => z.2.go hp⟩⟩
end
/-- tuple(a list): a new tuple; tuple(a tuple): itself -/
def rTupleN (K : PySem.W.Frag) : List V → Hp → VK → Prop := fun xs H Q => ∃ p ys, xs = [.ref p] ∧ ((SqL K H p ys ∧ New H (.tup ys) fun l H2 => Q (.ref l) H2) ∨ (SqT K H p ys ∧ Q (.ref p) H))
theorem call_tupleN {X : Cx} : CallR X (.type "tuple") (rTupleN X.K) := CallR.weak call_tuple_of fun xs H Q h => by
  obtain ⟨p, ys, e, h | h⟩ := h
  · exact ⟨p, ys, e, .inl ⟨h.1, fun l hl => h.2.go hl⟩⟩
  · exact ⟨p, ys, e, .inr h⟩
def rListN (K : PySem.W.Frag) : List V → Hp → VK → Prop := fun xs H Q => ∃ p ys, xs = [.ref p] ∧ (SqL K H p ys ∨ SqT K H p ys) ∧ New H (.lst ys) fun l H2 => Q (.ref l) H2
theorem call_listN {X : Cx} : CallR X (.type "list") (rListN X.K) := CallR.weak call_list_of fun xs H Q h => by
  obtain ⟨p, ys, e, h, q⟩ := h
  exact ⟨p, ys, e, h, fun l hl => q.go hl⟩
theorem w_tupN {σ : L2.St} {H : Hp} {Q : VK} {tr : TA} (q : tr σ H fun xs H1 => xs.length ≤ sizeLine ∧ New H1 (.tup xs) fun p H2 => Q (.ref p) H2) : tTupN tr σ H Q := q
theorem w_lstN {σ : L2.St} {H : Hp} {Q : VK} {tr : TA} (q : tr σ H fun xs H1 => xs.length ≤ sizeLine ∧ New H1 (.lst xs) fun p H2 => Q (.ref p) H2) : tLstN tr σ H Q := q
/-- for up to so many items -/
theorem sz {n : Nat} (h : n ≤ 100000) : n ≤ sizeLine := Nat.le_trans h (by decide)
theorem filterMap_range_map {α β : Type} (l : List α) (f : α → β) : (List.range l.length).filterMap (fun i => (l[i]?).map f) = l.map f := by
  induction l with
  | nil => rfl
  | cons a l ih =>
    rw [List.length_cons, List.range_succ_eq_map, List.filterMap_cons, List.filterMap_map]
    simp only [List.getElem?_cons_zero, Option.map_some, List.map_cons]
    congr 1
theorem filterMap_range_fm {α β : Type} (l : List α) (f : α → Option β) : (List.range l.length).filterMap (fun i => (l[i]?).bind f) = l.filterMap f := by
  induction l with
  | nil => rfl
  | cons a l ih =>
    rw [List.length_cons, List.range_succ_eq_map, List.filterMap_cons, List.filterMap_map, List.filterMap_cons]
    simp only [List.getElem?_cons_zero, Option.bind_some]
    cases f a with
    | none => exact ih
    | some b => simp only []; congr 1
section
variable {K : PySem.W.Frag} {σ : L2.St} {H : Hp} {Q : VK} {D : Ends}
theorem w_lc {wi : TI} {g : TG} {tt : TT} {te : TE} {vs : List Nat} (q : wi σ H fun J H1 => ∀ D, H1 D = none → ∃ W : Nat → Nat → Hp → Prop, (∃ m, W 0 m (upd H1 D (.lst []))) ∧ ∀ i m H, W i m H →
  (J.stop i H ∧ Q (.ref D) H) ∨ (J.go i H ∧ ∃ Nx : Hp → Prop, (∀ H', Nx H' → ∃ m', m' < m ∧ W (i + 1) m' H') ∧ ∀ x H', J.yld i H x H' → g x (wipe σ vs) H' fun σ2 H2 => wipe σ2 vs = wipe σ vs ∧ tt σ2 H2 fun b H3 =>
    if b = true then te σ2 H3 fun y H4 => ∃ acc, H4 D = some (.lst acc) ∧ acc.length < sizeLine ∧ Nx (upd H4 D (.lst (acc ++ [y]))) else Nx H3)) : tLc wi g tt te vs σ H Q := q
theorem w_nt {A B : Prop} (q : B) : if (!true) = true then A else B := q
theorem w_nf {A B : Prop} (q : A) : if (!false) = true then A else B := q
theorem w_iteE {b : Bool} {A B : Prop} (e : b = true) (q : A) : if b = true then A else B := by rw [if_pos e]; exact q
theorem w_iteN {b : Bool} {A B : Prop} (e : b = false) (q : B) : if b = true then A else B := by rw [e]; exact q
theorem w_isN {te : TE} (q : te σ H fun x H1 => Q (.bl (decide (x = .non))) H1) : tIsN te σ H Q := q
theorem w_notN {te : TE} (q : te σ H fun x H1 => Q (.bl (!decide (x = .non))) H1) : tNotN te σ H Q := q
theorem w_seqM {ts tu : TS} (M : L2.St → Hp → Prop) (h1 : ∀ N : L2.St → Hp → Prop, (∀ σ' H', M σ' H' → N σ' H') → ts { D with nx := N } σ H) (h2 : ∀ σ' H', M σ' H' → tu D σ' H') : tSeq ts tu D σ H := h1 _ h2
theorem w_make {C : Addr} {sp : Sp} {E : XK} {tr : TA} (q : tr σ H fun vs H1 => ∀ x dx, H1 x = none → H1 dx = none → dx ≠ x → sp (.ref x :: (vs ++ [])) (upd (upd H1 dx (.own x)) x (.ins C dx [])) (fun v H2 => v = .non ∧ Q (.ref x) H2) E) : tMake C sp [] E tr σ H Q := q
theorem w_yes {QB : Bool → Hp → Prop} (q : QB true H) : tYes σ H QB := q
theorem w_for {wi : TI} {g : TG} {tb : TS} (q : wi σ H fun J H1 => ∃ W : Nat → Nat → L2.St → Hp → Prop, (∃ m, W 0 m σ H1) ∧ ∀ i m σ H, W i m σ H →
  (J.stop i H ∧ D.nx σ H) ∨ (J.go i H ∧ ∃ N : L2.St → Hp → Prop, (∀ σ' H', N σ' H' → ∃ m', m' < m ∧ W (i + 1) m' σ' H') ∧ ∀ x H', J.yld i H x H' → g x σ H' fun σ2 H2 => tb { D with nx := N, ct := N, bk := D.nx } σ2 H2)) : tFor wi g tb D σ H := q
variable {R : It → Hp → Prop} {ta : TA} {te : TE}
theorem w_rng1 (q : ta σ H fun vs H1 => ∃ j : Int, vs = [.int j] ∧ -(2 ^ 62) ≤ j ∧ j < 2 ^ 62 ∧ R (Itr 0 j.toNat) H1) : iRng1 ta σ H R := q
theorem w_rng2 (q : ta σ H fun vs H1 => ∃ i j : Int, vs = [.int i, .int j] ∧ (-(2 ^ 62) ≤ i ∧ i < 2 ^ 62 ∧ -(2 ^ 62) ≤ j ∧ j < 2 ^ 62) ∧ R (Itr i (j - i).toNat) H1) : iRng2 ta σ H R := q
theorem w_itup (q : te σ H fun x H1 => ∃ a, x = .ref a ∧ (∃ xs, SqT K H1 a xs) ∧ R (Itt K a) H1) : iTup K te σ H R := q
theorem w_ilist (q : te σ H fun x H1 => ∃ a, x = .ref a ∧ (∃ xs, SqL K H1 a xs) ∧ R (Itl K a) H1) : iList K te σ H R := q
theorem w_ienum (q : ta σ H fun vs H1 => ∃ a xs, vs = [.ref a] ∧ SqT K H1 a xs ∧ R (IteT K a) H1) : iEnumT K ta σ H R := q
theorem w_izip (q : ta σ H fun vs H1 => ∃ a b xs ys, vs = [.ref a, .ref b] ∧ ((SqL K H1 a xs ∧ SqL K H1 b ys ∧ R (Itz K a b) H1) ∨ (SqT K H1 a xs ∧ SqT K H1 b ys ∧ R (RZ.ItzT K a b) H1))) : RZ.iZipA K ta σ H R := q
theorem w_BM {T : String} {r : V → List V → Hp → VK → Prop} {to : TE} (q : to σ H fun x H1 => tyV K T x H1 ∧ ta σ H1 fun xs H2 => r x xs H2 Q) : tBM K T r to ta σ H Q := q
theorem w_BM0 {T : String} {r : V → List V → Hp → VK → Prop} {to : TE} (q : to σ H fun x H1 => tyV K T x H1 ∧ r x [] H1 Q) : tBM0 K T r to σ H Q := q
theorem i_BM {l : Addr} {xs : List V} {F : Prop} (h : H l = some (.lst xs)) (q : F) : tyV K "list" (.ref l) H ∧ F := ⟨.inl ⟨rfl, _, SqL.of h⟩, q⟩
theorem r_app {l : Addr} {xs : List V} {y : V} (h : H l = some (.lst xs)) (hz : xs.length ≤ 90000) (q : Q .non (upd H l (.lst (xs ++ [y])))) : rAppend (.ref l) [y] H Q := ⟨l, xs, y, rfl, rfl, h, Nat.lt_of_le_of_lt hz (by decide), q⟩
theorem i_rng1 {F : Int → Prop} {j : Int} (h1 : 0 ≤ j) (h2 : j ≤ 100000) (q : F j) : ∃ k : Int, [V.int j] = [.int k] ∧ -(2 ^ 62) ≤ k ∧ k < 2 ^ 62 ∧ F k := ⟨j, rfl, by omega, by omega, q⟩
theorem i_rng2 {F : Int → Int → Prop} {i j : Int} (h : -100000 ≤ i ∧ i ≤ 100000 ∧ -100000 ≤ j ∧ j ≤ 100000) (q : F i j) : ∃ k l : Int, [V.int i, V.int j] = [.int k, .int l] ∧ (-(2 ^ 62) ≤ k ∧ k < 2 ^ 62 ∧ -(2 ^ 62) ≤ l ∧ l < 2 ^ 62) ∧ F k l := ⟨i, j, rfl, by omega, q⟩
theorem i_tup {F : Addr → Prop} {a : Addr} {xs : List V} (h : SqT K H a xs) (q : F a) : ∃ b, V.ref a = .ref b ∧ (∃ xs, SqT K H b xs) ∧ F b := ⟨a, rfl, ⟨xs, h⟩, q⟩
theorem i_list {F : Addr → Prop} {a : Addr} {xs : List V} (h : SqL K H a xs) (q : F a) : ∃ b, V.ref a = .ref b ∧ (∃ xs, SqL K H b xs) ∧ F b := ⟨a, rfl, ⟨xs, h⟩, q⟩
theorem i_enum {F : Addr → Prop} {a : Addr} {xs : List V} (h : SqT K H a xs) (q : F a) : ∃ (b : Addr) (ys : List V), [V.ref a] = [.ref b] ∧ SqT K H b ys ∧ F b := ⟨a, xs, rfl, h, q⟩
end
end GA
/-! ## GD -/
namespace GA
open PySem L2
/-! ### data within data -/
def rInDT (K : PySem.W.Frag) : R2 := fun x y H Q => ∃ d ds, Dp K H x d ∧ Dp K H y (.tuple ds) ∧ SeqAt.shaped d = true ∧ SeqAt.shaped (.tuple ds) = true ∧ Q (.bl (ds.any fun z => PyData.eqv z d)) H
theorem op_inDT {X : Cx} (hu : X.A.units + 65 < cLine) : OpR X (compareOp .In) (rInDT X.K) := by
  intro pins s σ H x y v u Q I rx ry h
  obtain ⟨d, ds, hd, he, sd, se, q⟩ := h
  obtain ⟨as, r1⟩ := Dp.reads I d x v hd rx
  obtain ⟨bs, r2⟩ := Dp.reads I (.tuple ds) y u he ry
  exact SeqAt.in_tuple_reads r2 r1 (SeqAt.canLay_of_shaped se) (SeqAt.canLay_of_shaped sd) (PyProof.Rows.room_in_shaped sd hu) ⟨.bl _, H, I, rfl, q⟩
theorem u65 {k : Nat} {A : Around} (hr : Room k A) : A.units + 65 < cLine := by
  have := hr.un
  omega
theorem canAll {ds : List PyData} (h : ∀ d ∈ ds, d.canLay0 = true) : PyData.canLayAll0 ds = true := by
  induction ds with
  | nil => rfl
  | cons d ds ih => rw [PyData.canLayAll0, h d List.mem_cons_self, ih fun e he => h e (List.mem_cons_of_mem _ he)]; rfl
theorem depAll {n : Nat} {ds : List PyData} (h : ∀ d ∈ ds, d.depth ≤ n) : PyData.depthAll ds ≤ n := by
  induction ds with
  | nil => rw [PyData.depthAll]; exact Nat.zero_le _
  | cons d ds ih =>
    rw [PyData.depthAll]
    have h1 := h d List.mem_cons_self
    have h2 := ih fun e he => h e (List.mem_cons_of_mem _ he)
    omega
theorem sh_of {d : PyData} (h1 : d.canLay0 = true) (h2 : d.depth ≤ 64) : SeqAt.shaped d = true := by
  unfold SeqAt.shaped
  rw [h1, decide_eq_true h2]; rfl
theorem dep_tup {n : Nat} {ds : List PyData} (h : ∀ d ∈ ds, d.depth ≤ n) : (PyData.tuple ds).depth ≤ n + 1 := by
  rw [PyData.depth]
  have := depAll h
  omega
theorem can_tup {ds : List PyData} (h : ∀ d ∈ ds, d.canLay0 = true) : (PyData.tuple ds).canLay0 = true := by
  rw [PyData.canLay0]; exact canAll h
theorem can_int {n : Int} : (PyData.int n).canLay0 = true := by simp [PyData.canLay0]
theorem dep_int {n : Int} : (PyData.int n).depth = 0 := by simp [PyData.depth]
theorem can_dI (ns : List Int) : (dI ns).canLay0 = true := can_tup fun d h => by
  obtain ⟨n, _, rfl⟩ := List.mem_map.mp h
  exact can_int
theorem dep_dI (ns : List Int) : (dI ns).depth ≤ 1 := dep_tup (n := 0) fun d h => by
  obtain ⟨n, _, rfl⟩ := List.mem_map.mp h
  rw [dep_int]; exact Nat.le_refl _
theorem can_dP (w : Int × Int) : (dP w).canLay0 = true := can_dI [w.1, w.2]
theorem dep_dP (w : Int × Int) : (dP w).depth ≤ 1 := dep_dI [w.1, w.2]
theorem can_dW (ws : List (Int × Int)) : (dW ws).canLay0 = true := can_tup fun d h => by
  obtain ⟨n, _, rfl⟩ := List.mem_map.mp h
  exact can_dP n
theorem dep_dW (ws : List (Int × Int)) : (dW ws).depth ≤ 2 := dep_tup (n := 1) fun d h => by
  obtain ⟨n, _, rfl⟩ := List.mem_map.mp h
  exact dep_dP n
theorem sh_dI (ns : List Int) : SeqAt.shaped (dI ns) = true := sh_of (can_dI ns) (Nat.le_trans (dep_dI ns) (by decide))
theorem sh_dP (w : Int × Int) : SeqAt.shaped (dP w) = true := sh_of (can_dP w) (Nat.le_trans (dep_dP w) (by decide))
theorem sh_dW (ws : List (Int × Int)) : SeqAt.shaped (dW ws) = true := sh_of (can_dW ws) (Nat.le_trans (dep_dW ws) (by decide))
theorem eqv_int {i j : Int} : PyData.eqv (.int i) (.int j) = decide (i = j) := by
  rw [PyData.eqv]; exact Bool.beq_eq_decide_eq i j
theorem eqvAll_map {α : Type} [DecidableEq α] {f : α → PyData} (h : ∀ x y, PyData.eqv (f x) (f y) = decide (x = y)) : ∀ (xs ys : List α), PyData.eqvAll (xs.map f) (ys.map f) = decide (xs = ys)
  | [], [] => by simp [PyData.eqvAll]
  | [], y :: ys => by simp [PyData.eqvAll]
  | x :: xs, [] => by simp [PyData.eqvAll]
  | x :: xs, y :: ys => by
    rw [List.map_cons, List.map_cons, PyData.eqvAll, h, eqvAll_map h xs ys]
    simp only [List.cons.injEq]
    by_cases h1 : x = y <;> by_cases h2 : xs = ys <;> simp [h1, h2]
theorem eqv_dI (ns ms : List Int) : PyData.eqv (dI ns) (dI ms) = decide (ns = ms) := by
  rw [PyData.eqv]; exact eqvAll_map (fun _ _ => eqv_int) ns ms
theorem eqv_dP (u v : Int × Int) : PyData.eqv (dP u) (dP v) = decide (u = v) := by
  have := eqv_dI [u.1, u.2] [v.1, v.2]
  have e : decide (([u.1, u.2] : List Int) = [v.1, v.2]) = decide (u = v) := by
    rw [decide_eq_decide]
    constructor
    · intro h
      injection h with h1 h2
      injection h2 with h2 _
      exact Prod.ext h1 h2
    · intro h; rw [h]
  rw [← e]; exact this
theorem eqv_dW (us ws : List (Int × Int)) : PyData.eqv (dW us) (dW ws) = decide (us = ws) := by
  rw [PyData.eqv]; exact eqvAll_map eqv_dP us ws
theorem any_dP (ws : List (Int × Int)) (u : Int × Int) : ((ws.map dP).any fun z => PyData.eqv z (dP u)) = decide (u ∈ ws) := by
  rw [List.any_map]
  have : (fun z => PyData.eqv z (dP u)) ∘ dP = fun z => decide (z = u) := by
    funext z; exact eqv_dP z u
  rw [this]
  induction ws with
  | nil => simp
  | cons w ws ih =>
    rw [List.any_cons, ih]
    by_cases h : w = u
    · simp [h]
    · have h' : ¬ u = w := fun e => h e.symm
      simp [h, h']
/-! the rules with the written part told: for a comprehension's block -/
section
variable {X : Cx}
theorem k_ix_tup (K : PySem.W.Frag) (hK : X.K = K := by rfl) : IxR X (rIxT K) := by subst hK; exact ix_tup
theorem k_ix_list (K : PySem.W.Frag) (hK : X.K = K := by rfl) : IxR X (rIxL K) := by subst hK; exact ix_list
theorem k_op_in_seq (K : PySem.W.Frag) (hK : X.K = K := by rfl) : OpR X (compareOp .In) (rIn K false) := by subst hK; exact op_in_seq
theorem k_op_notIn_seq (K : PySem.W.Frag) (hK : X.K = K := by rfl) : OpR X (compareOp .NotIn) (rIn K true) := by subst hK; exact op_notIn_seq
theorem k_call_isi (K : PySem.W.Frag) (hK : X.K = K := by rfl) : CallR X (.builtin "isinstance") (rIsi K) := by subst hK; exact call_isi
theorem k_call_isiT (K : PySem.W.Frag) (hK : X.K = K := by rfl) : CallR X (.builtin "isinstance") (rIsiT K) := by subst hK; exact call_isiT
theorem k_call_tupleN (K : PySem.W.Frag) (hK : X.K = K := by rfl) : CallR X (.type "tuple") (rTupleN K) := by subst hK; exact call_tupleN
theorem k_call_listN (K : PySem.W.Frag) (hK : X.K = K := by rfl) : CallR X (.type "list") (rListN K) := by subst hK; exact call_listN
theorem k_op_inDT (K : PySem.W.Frag) (hu : X.A.units + 65 < cLine) (hK : X.K = K := by rfl) : OpR X (compareOp .In) (rInDT K) := by subst hK; exact op_inDT hu
theorem k_op_eqD (K : PySem.W.Frag) (hu : X.A.units + 64 < cLine) (hK : X.K = K := by rfl) : OpR X (compareOp .Eq) (rEqD K) := by subst hK; exact op_eqD hu
theorem k_op_neD (K : PySem.W.Frag) (hu : X.A.units + 64 < cLine) (hK : X.K = K := by rfl) : OpR X (compareOp .NotEq) (rNeD K) := by subst hK; exact op_neD hu
theorem k_cr_all (K : PySem.W.Frag) (hc : X.calm = true) (hK : X.K = K := by rfl) : CallR X (.builtin "all") (rAll K) := by subst hK; exact cr_all hc
/-- len of a list or tuple -/
def rLenK (K : PySem.W.Frag) : List V → Hp → VK → Prop := fun xs H Q => ∃ p ys, xs = [.ref p] ∧ (SqL K H p ys ∨ SqT K H p ys) ∧ Q (.int ys.length) H
theorem k_call_len_seq (K : PySem.W.Frag) (hK : X.K = K := by rfl) : CallR X (.builtin "len") (rLenK K) := by subst hK; exact call_len_seq
theorem k_fld (K : PySem.W.Frag) {e : Expr} {f : Str} {pos : Pos} {ta : TE} (he : PE X e ta) (hb : attributeBase e f X.env (eval e X.env) = eval e X.env) (hK : X.K = K := by rfl) : PE X (.Attribute e f pos) (tFld K ta f) := by subst hK; exact pe_fld he hb
theorem k_pi_list (K : PySem.W.Frag) {tg l : Expr} {tl : TE} (hl : PE X l tl) (hK : X.K = K := by rfl) : PI X tg l (iList K tl) := by subst hK; exact pi_list hl
theorem k_pi_tup (K : PySem.W.Frag) {tg l : Expr} {tl : TE} (hl : PE X l tl) (hK : X.K = K := by rfl) : PI X tg l (iTup K tl) := by subst hK; exact pi_tup hl
end
end GA
/-! ## GE -/
namespace PyProof.Rows
open PySem
section
variable {prog : Program} {w : World} {A : Around} {E : Value → Shared → Prop} {s : Shared}
theorem ga_collect_tuple {l : Addr} {vs : List Value} {Q : List Value → Shared → Prop} (hl : s.heap.IsTuple l vs.toArray)
    (h : Q vs { s with heap := (s.heap.push (seqObj "list" #[] 0)).update s.heap.objs.size (Obj.mapSeq (· ++ vs.toArray)) }) (hsz : vs.length ≤ sizeLine := by size_fits) :
    wpAny (model prog w) A (collect (.ref l)) Q E s := by
  obtain ⟨o, ho, hc, n, hd⟩ := id hl
  unfold collect
  refine wpAny_bind (wpAny_runValue (codeAny_builtin entry_proto_collect' ?_))
  show wpAny _ _ (do again (.builtin "list.__iadd__" ⟨[← newList [], .ref l], []⟩)) _ _ s
  refine wpAny_bind (wpAny_newList (wpAny_pure ⟨Code.quiet_builtin _ (by decide +kernel), codeAny_builtin entry_list_iadd' ?_⟩))
  show wpAny _ _ (Builtin.List.listExtendWith (.ref s.heap.objs.size) (.ref l) (.ref s.heap.objs.size)) _ _ { s with heap := s.heap.push (seqObj "list" #[] 0) }
  unfold Builtin.List.listExtendWith
  have ho' : (s.heap.push (seqObj "list" #[] 0)).get? l = some o := Heap.get?_push_of_some _ ho
  refine wpAny_bind (wpAny_typeOf (T := "tuple") ⟨o, ho', hc⟩ ?_)
  have ht : (Value.type "tuple" == Value.type "tuple") = true := by rfl
  rw [if_pos (by rw [ht]; simp)]
  refine wpAny_bind (listItems_at ho' hd ?_)
  refine wpAny_bind (listItems_at (xs := #[]) (n := 0) (Heap.get?_push_size _ rfl) rfl ?_)
  rw [if_neg (by simp)]
  refine wpAny_bind (listUpdate_at (xs := #[]) (n := 0) (Heap.get?_push_size _ rfl) rfl ?_ (Nat.zero_le _) (by show (#[] ++ vs.toArray).size ≤ sizeLine + 1; simp only [Array.size_append, List.size_toArray, List.length_nil]; omega))
  refine wpAny_pure ?_
  show wpAny (model prog w) A (do
      let o ← load s.heap.objs.size
      match o.data with
      | .seq xs _ => pure xs.toList
      | _ => unsupported "internal:collect") Q E { s with heap := (s.heap.push (seqObj "list" #[] 0)).update s.heap.objs.size (Obj.mapSeq (· ++ vs.toArray)) }
  refine wpAny_bind (wpAny_load (get?_update_seq (Heap.get?_push_size _ rfl) _) ?_)
  show wpAny _ _ (pure ((#[] : Array Value) ++ vs.toArray).toList) Q E _
  rw [show ((#[] : Array Value) ++ vs.toArray).toList = vs by simp]
  exact wpAny_pure h
end
end PyProof.Rows
namespace SrtO
open PySem PyProof.Rows Srt
section
variable {prog : Program} {w : World} {A : Around} {E : Value → Shared → Prop} {s : Shared}
theorem ga_sorted_ordT {l : Addr} {vs : List Value} {ltv : Value → Value → Bool} {Q : Value → Shared → Prop} (O : Swo ltv) (hl : s.heap.IsTuple l vs.toArray) (hz : vs.length ≤ sizeLine)
    (hS : 2 ≤ vs.length → ∀ (h₁ : Heap) (a : Addr), h₁.get? a = some (seqObj "list" vs.toArray 0) → (∀ b o, s.heap.get? b = some o → b ≠ a ∧ h₁.get? b = some o) → SortableO prog w A.in1.in1 { s with heap := h₁ } a vs ltv)
    (h : ∀ out : List Value, Srtd ltv out → Stb ltv out vs → Q (.ref (s.heap.objs.size + 1)) { s with heap := sortedAll s.heap vs out.toArray }) :
    wpAny (model prog w) A (call (.builtin "sorted") [.ref l]) Q E s := by
  refine Calls.call_function_entry kind_sorted plain_sorted entry_sorted (args_sorted1 _) ?_
  unfold Builtin.«sorted»
  refine wpAny_bind (m := checkCount "sorted" 1 1 _) (wpAny_pure ?_)
  refine wpAny_bind (ga_collect_tuple hl ?_ hz)
  refine wpAny_bind (wpAny_newList ?_ hz)
  have hsz : ((s.heap.push (seqObj "list" #[] 0)).update s.heap.objs.size (Obj.mapSeq (· ++ vs.toArray))).objs.size = s.heap.objs.size + 1 := by
    rw [Heap.size_update, size_push']
  have hoL : (((s.heap.push (seqObj "list" #[] 0)).update s.heap.objs.size (Obj.mapSeq (· ++ vs.toArray))).push (seqObj "list" vs.toArray 0)).get? (s.heap.objs.size + 1) = some (seqObj "list" vs.toArray 0) := by
    rw [← hsz]; exact Heap.get?_push_size _ rfl
  have keep : ∀ b o, s.heap.get? b = some o → b ≠ s.heap.objs.size + 1 ∧ (((s.heap.push (seqObj "list" #[] 0)).update s.heap.objs.size (Obj.mapSeq (· ++ vs.toArray))).push (seqObj "list" vs.toArray 0)).get? b = some o := fun b o q => by
    have hlt : b < s.heap.objs.size := Heap.lt_size q
    refine ⟨Nat.ne_of_lt (Nat.lt_succ_of_lt hlt), Heap.get?_push_of_some _ ?_⟩
    rw [Heap.get?_update_ne _ _ _ _ (Nat.ne_of_lt hlt)]
    exact Heap.get?_push_of_some _ q
  show wpAny _ _ _ _ _ { s with heap := ((s.heap.push (seqObj "list" #[] 0)).update s.heap.objs.size (Obj.mapSeq (· ++ vs.toArray))).push (seqObj "list" vs.toArray 0) }
  rw [hsz]
  refine wpAny_bind (wpAny_holding (wpAny_call_entry slot_list_sort ⟨_, hoL, rfl⟩ entry_list_sort (list_sort_ord O hoL hz (fun h2 => hS h2 _ _ hoL keep) fun out hs hb => ⟨_, rfl, ?_⟩) (args_list_sort _)))
  exact wpAny_pure ⟨_, rfl, h out hs hb⟩
end
end SrtO
namespace GA
open PySem PySem.Spec PyProof.Rows L2
/-- sorted(t), t a tuple of ints -/
def rSortedIT (K : PySem.W.Frag) : List V → Hp → VK → Prop := fun vs H Q => ∃ (a : Addr) (ns : List Int), vs = [V.ref a] ∧ SqT K H a (ns.map V.int) ∧
  ∀ (ns' : List Int), ns'.Perm ns → ns'.Pairwise (· ≤ ·) → New H (.lst (ns'.map V.int)) fun p H2 => Q (.ref p) H2
theorem cr_sortedIT {X : Cx} : CallR X (.builtin "sorted") (rSortedIT X.K) := by
  intro pins s σ H vs us Q I r h
  obtain ⟨a, ns, rfl, hs, q⟩ := h
  obtain ⟨its, rv, hl, hz⟩ := I.tuple hs
  rw [Vals.ref1 r]
  have hi := rv.ints
  refine SrtO.ga_sorted_ordT SrtO.swo_int hl (by rw [← rv.length]; exact hz) (fun h2 h₁ a' _ _ => SrtO.ints_sortable hi h2) fun out h1 h2 => ?_
  obtain ⟨k1, k2, k3⟩ := SrtO.ints_out hi h1 h2
  obtain ⟨ep, he'⟩ := PyProof.Rows.sortedAll_at s.heap its out.toArray
  have hlen : ((out.map SrtO.iv).map V.int).length ≤ sizeLine := by
    rw [List.length_map, k2.length_eq]
    rw [List.length_map] at hz
    exact hz
  exact ⟨.ref _, upd H (s.heap.objs.size + 1) (.lst ((out.map SrtO.iv).map V.int)), I.laid (t' := s.toks) (fun _ _ => PyProof.Rows.sortedAll_old) (Nat.le_succ _) ⟨hlen, out, ep, vals_of_ints k1, he'⟩, rfl, (q _ k2 k3).go (I.hok.fresh (Nat.le_succ _))⟩
def rSortedIL (K : PySem.W.Frag) : List V → Hp → VK → Prop := fun vs H Q => ∃ (a : Addr) (ns : List Int), vs = [V.ref a] ∧ SqL K H a (ns.map V.int) ∧
  ∀ (ns' : List Int), ns'.Perm ns → ns'.Pairwise (· ≤ ·) → New H (.lst (ns'.map V.int)) fun p H2 => Q (.ref p) H2
theorem cr_sortedIL {X : Cx} : CallR X (.builtin "sorted") (rSortedIL X.K) := CallR.weak cr_sortedI fun xs H Q h => by
  obtain ⟨a, ns, e, h1, q⟩ := h
  exact ⟨a, ns, e, h1, fun ns' p k1 k2 hp => (q ns' k1 k2).go hp⟩
/-- sorted(d), d a dict with int keys -/
def rSortedDN : List V → Hp → VK → Prop := fun xs H Q => ∃ (a : Addr) (kvs : List (Key × V)) (ks : List Int), xs = [.ref a] ∧ H a = some (.dK kvs) ∧ kvs.map (·.1) = ks.map Sum.inl ∧ ks.length < 64 ∧
  ∀ (ns' : List Int), ns'.Perm ks → ns'.Pairwise (· ≤ ·) → New H (.lst (ns'.map V.int)) fun p H2 => Q (.ref p) H2
theorem cr_sortedDN {X : Cx} (hc : X.calm = true) : CallR X (.builtin "sorted") rSortedDN := CallR.weak (call_sortedDI hc) fun xs H Q h => by
  obtain ⟨a, kvs, ks, e, h1, h2, h3, q⟩ := h
  exact ⟨a, kvs, ks, e, .inl h1, h2, h3, fun ys p k1 k2 hp => (q ys k1 k2).go hp⟩
/-- list(range(..)) -/
def tLstRgN (te : L2.St → Hp → (Int → Int → Hp → Prop) → Prop) : TE := fun σ H Q => te σ H fun a b H1 => RgOk a b ∧ New H1 (.lst (rgV a b)) fun q H2 => Q (.ref q) H2
/-- a range's ends, told: whatever is wanted is wanted of less -/
def MoR (te : L2.St → Hp → (Int → Int → Hp → Prop) → Prop) : Prop := ∀ σ H F F', (∀ a b H1, F a b H1 → F' a b H1) → te σ H F → te σ H F'
theorem pe_listRgN {X : Cx} {e : Expr} {te : L2.St → Hp → (Int → Int → Hp → Prop) → Prop} {p pos : Pos} (hc : X.calm = true) (hg : Gl X "list") (hm : X.mg "list" = none) (he : PRg X e te) (mo : MoR te) (na : starEach [e] X.env = (false, eval e X.env) :: starEach [] X.env := by rfl) : PE X (.Call (.Name "list" p) [e] [] pos) (tLstRgN te) :=
  PE.weak (pe_listRg hc hg hm he na) fun σ H Q q => mo σ H _ _ (fun a b H1 h => ⟨h.1, fun q hq => h.2.go hq⟩) q
def MoE (te : TE) : Prop := ∀ σ H Q Q', (∀ v H1, Q v H1 → Q' v H1) → te σ H Q → te σ H Q'
theorem mo_var {i : Nat} : MoE (tVar i) := fun _ _ _ _ h ⟨v, e, q⟩ => ⟨v, e, h _ _ q⟩
theorem mo_rg1 {te : TE} (h : MoE te) : MoR (tRg1 te) := fun σ H F F' k q => h σ H _ _ (fun v H1 ⟨n, e, z⟩ => ⟨n, e, k _ _ _ z⟩) q
theorem mo_op {te tb : TE} {r : R2} (h : MoE te) (hb : MoE tb) (hr : ∀ x y H Q Q', (∀ v H1, Q v H1 → Q' v H1) → r x y H Q → r x y H Q') : MoE (tOp r te tb) := fun σ H Q Q' k q => h σ H _ _ (fun v H1 z => hb σ H1 _ _ (fun u H2 z => hr _ _ _ _ _ k z) z) q
theorem mo_fld {K : PySem.W.Frag} {te : TE} {f : Str} (h : MoE te) : MoE (tFld K te f) := fun σ H Q Q' k q => h σ H _ _ (fun v H1 ⟨a, C, dx, fs, v', e1, e2, e3, e4, e5, z⟩ => ⟨a, C, dx, fs, v', e1, e2, e3, e4, e5, k _ _ z⟩) q
section
variable {K : PySem.W.Frag} {σ : L2.St} {H : Hp} {Q : VK}
theorem w_lstRg {te : L2.St → Hp → (Int → Int → Hp → Prop) → Prop} (q : te σ H fun a b H1 => RgOk a b ∧ New H1 (.lst (rgV a b)) fun q H2 => Q (.ref q) H2) : tLstRgN te σ H Q := q
theorem w_rg1 {te : TE} {F : Int → Int → Hp → Prop} (q : te σ H fun x H1 => ∃ n, x = .int n ∧ F 0 n H1) : tRg1 te σ H F := q
end
end GA
/-! ## GF -/
namespace GA
open PySem PySem.Spec PyProof.Rows L2
def ltW (u v : Int × Int) : Prop := u.1 < v.1 ∨ (u.1 = v.1 ∧ u.2 < v.2)
def in64 (u : Int × Int) : Prop := (0 ≤ u.1 ∧ u.1 < 64) ∧ (0 ≤ u.2 ∧ u.2 < 64)
section
variable {K : PySem.W.Frag} {H : Hp}
theorem ks_of : ∀ {xs : List V} {us : List (Int × Int)}, DpAll K H xs (us.map dP) → ∃ ks : List (Addr × List Int), xs = (ks.map fun p => V.ref p.1) ∧ (∀ p ∈ ks, SqT K H p.1 (p.2.map V.int)) ∧ ks.map (·.2) = us.map fun u => [u.1, u.2]
  | _, [], .nil => ⟨[], rfl, (fun _ h => nomatch h), rfl⟩
  | _, u :: us, .cons h t => by
    obtain ⟨ks, rfl, h1, h2⟩ := ks_of t
    obtain ⟨a, rfl, ha⟩ := dp_dP h
    refine ⟨(a, [u.1, u.2]) :: ks, rfl, fun p hp => ?_, by rw [List.map_cons, h2]; rfl⟩
    rcases List.mem_cons.mp hp with e | hp
    · rw [e]; exact ha
    · exact h1 p hp
end
theorem dp_ks {K : PySem.W.Frag} {H : Hp} : ∀ (M : List (Addr × List Int)) (ws : List (Int × Int)), (∀ q ∈ M, SqT K H q.1 (q.2.map V.int)) → M.map (·.2) = (ws.map fun u => [u.1, u.2]) → DpAll K H (M.map fun q => V.ref q.1) (ws.map dP)
  | [], [], _, _ => .nil
  | [], _ :: _, _, e => by simp at e
  | _ :: _, [], _, e => by simp at e
  | q :: M, w :: ws, h, e => by
    rw [List.map_cons, List.map_cons] at e
    injection e with e1 e2
    refine .cons ?_ (dp_ks M ws (fun p hp => h p (List.mem_cons_of_mem _ hp)) e2)
    have z := h q List.mem_cons_self
    rw [e1] at z
    exact dp_ofP z
section
variable {X : Cx}
/-- set(l), l a list of pairs of ints -/
def rSetPN (K : PySem.W.Frag) (P : Program) (w : World) : List V → Hp → VK → Prop := fun vs H Q => ∃ (l : Addr) (xs : List V) (us : List (Int × Int)), vs = [V.ref l] ∧ SqL K H l xs ∧ DpAll K H xs (us.map dP) ∧ us.length < 64 ∧
  ∀ a L H2, H a = none → (∀ o, G o H H2) → H2 a = some (SetTO P w a L) → (∀ p ∈ L, SqT K H2 p.1 (p.2.map V.int)) → (∀ ns, ns ∈ L.map (·.2) ↔ ∃ u ∈ us, ns = [u.1, u.2]) → Q (.ref a) H2
theorem cr_setPN (hc : X.calm = true) (hu : X.A.units + 64 < cLine) : CallR X (.type "set") (rSetPN X.K X.prog X.w) := CallR.weak (cr_setOfT hc hu) fun vs H Q h => by
  obtain ⟨l, xs, us, e, hl, hd, hz, q⟩ := h
  obtain ⟨ks, rfl, h1, h2⟩ := ks_of hd
  have hz' : ks.length = us.length := by
    have := congrArg List.length h2
    simpa using this
  refine ⟨l, ks, e, hl, h1, by omega, fun a L ha s1 s2 => ?_⟩
  refine q a L _ ha (fun _ => G.alloc ha) upd_same (fun p hp => sqT_t ((G.alloc (o := none) ha).tups) (h1 p (s1 p hp))) fun ns => ?_
  have mem : ∀ ns, ns ∈ ks.map (·.2) ↔ ∃ u ∈ us, ns = [u.1, u.2] := fun ns => by
    rw [h2, List.mem_map]
    exact ⟨fun ⟨u, a, b⟩ => ⟨u, a, b.symm⟩, fun ⟨u, a, b⟩ => ⟨u, a, b.symm⟩⟩
  rw [← mem]
  constructor
  · intro h
    obtain ⟨p, hp, rfl⟩ := List.mem_map.mp h
    exact List.mem_map.mpr ⟨p, s1 p hp, rfl⟩
  · intro h
    obtain ⟨p, hp, rfl⟩ := List.mem_map.mp h
    exact s2 p hp
theorem code_lt {u v : Int × Int} (hu : in64 u) (hv : in64 v) (h : TS.code 64 [u.1, u.2] ≤ TS.code 64 [v.1, v.2]) : ltW u v ∨ u = v := by
  unfold in64 at hu hv
  rw [code_pair, code_pair] at h
  unfold ltW
  by_cases e : u.1 = v.1
  · by_cases e2 : u.2 = v.2
    · exact .inr (Prod.ext e e2)
    · exact .inl (.inr ⟨e, by omega⟩)
  · exact .inl (.inl (by omega))
/-- sorted(s), s a set of pairs of small ints -/
def rSortSN (K : PySem.W.Frag) (P : Program) (w : World) : List V → Hp → VK → Prop := fun vs H Q => ∃ (a : Addr) (L : List (Addr × List Int)) (us : List (Int × Int)), vs = [V.ref a] ∧ H a = some (SetTO P w a L) ∧ (∀ p ∈ L, SqT K H p.1 (p.2.map V.int)) ∧ (∀ ns, ns ∈ L.map (·.2) ↔ ∃ u ∈ us, ns = [u.1, u.2]) ∧ (∀ u ∈ us, in64 u) ∧
  ∀ ws : List (Int × Int), ws.Pairwise ltW → (∀ u, u ∈ ws ↔ u ∈ us) → ws.length < 64 → ∀ p H2 ys, H p = none → (∀ o, G o H H2) → H2 p = some (.lst ys) → DpAll K H2 ys (ws.map dP) → Q (.ref p) H2
theorem cr_sortSN (hc : X.calm = true) : CallR X (.builtin "sorted") (rSortSN X.K X.prog X.w) := CallR.weak (cr_sortedT hc) fun vs H Q h => by
  obtain ⟨a, L, us, e, ha, hk, hm, hb, q⟩ := h
  have get : ∀ p ∈ L, ∃ u ∈ us, p.2 = [u.1, u.2] := fun p hp => (hm p.2).mp (List.mem_map.mpr ⟨p, hp, rfl⟩)
  refine ⟨a, L, 2, 64, e, ha, hk, by decide, fun p hp => ?_, fun L' p pm nd few pw hp => ?_⟩
  · obtain ⟨u, hu, e⟩ := get p hp
    have b := hb u hu
    unfold in64 at b
    rw [e]
    refine ⟨rfl, ?_⟩
    intro n hn
    rcases List.mem_cons.mp hn with e | hn
    · subst e; exact ⟨b.1.1, b.1.2⟩
    · have : n = u.2 := by simpa using hn
      subst this; exact ⟨b.2.1, b.2.2⟩
  · have get' : ∀ p ∈ L', ∃ u ∈ us, p.2 = [u.1, u.2] := fun p hp => get p (pm.mem_iff.mp hp)
    -- the pairs in their order
    have ws_of : ∀ M : List (Addr × List Int), (∀ p ∈ M, p ∈ L') → ∃ ws : List (Int × Int), M.map (·.2) = (ws.map fun u => [u.1, u.2]) ∧ (∀ u ∈ ws, u ∈ us) := by
      intro M
      induction M with
      | nil => exact fun _ => ⟨[], rfl, (fun _ h => nomatch h)⟩
      | cons p M ih =>
        intro hM
        obtain ⟨ws, h1, h2⟩ := ih fun p hp => hM p (List.mem_cons_of_mem _ hp)
        obtain ⟨u, hu, e⟩ := get' p (hM p List.mem_cons_self)
        refine ⟨u :: ws, by rw [List.map_cons, List.map_cons, h1, e], fun v hv => ?_⟩
        rcases List.mem_cons.mp hv with z | z
        · rw [z]; exact hu
        · exact h2 v z
    obtain ⟨ws, e1, e2⟩ := ws_of L' fun _ h => h
    have len : L'.length = ws.length := by
      have := congrArg List.length e1
      simpa using this
    have inj : ∀ u v : Int × Int, ([u.1, u.2] : List Int) = [v.1, v.2] → u = v := fun u v h => by
      injection h with h1 h2
      injection h2 with h2 _
      exact Prod.ext h1 h2
    have pw2 : (L'.map (·.2)).Pairwise (fun x y => TS.code 64 x ≤ TS.code 64 y) := List.pairwise_map.mpr pw
    rw [e1] at pw2 nd
    have asc : ws.Pairwise ltW := by
      rw [List.pairwise_map] at pw2
      have nd' : ws.Nodup := (List.pairwise_map.mp nd).imp fun h e => h (by rw [e])
      exact (List.pairwise_iff_getElem.mpr fun i j hi hj hij => by
        have h1 := List.pairwise_iff_getElem.mp pw2 i j hi hj hij
        have h2 := List.pairwise_iff_getElem.mp nd' i j hi hj hij
        rcases code_lt (hb _ (e2 _ (List.getElem_mem hi))) (hb _ (e2 _ (List.getElem_mem hj))) h1 with z | z
        · exact z
        · exact absurd z h2)
    refine q ws asc (fun u => ⟨e2 u, fun hu => ?_⟩) (by omega) p _ _ hp (fun _ => G.alloc hp) upd_same ?_
    · have h1 : ([u.1, u.2] : List Int) ∈ L.map (·.2) := (hm _).mpr ⟨u, hu, rfl⟩
      have h2 : ([u.1, u.2] : List Int) ∈ L'.map (·.2) := (pm.map (·.2)).mem_iff.mpr h1
      rw [e1, List.mem_map] at h2
      obtain ⟨v, hv, e⟩ := h2
      rw [← inj _ _ e]; exact hv
    · have t : Ts H (upd H p (.lst (L'.map fun q => V.ref q.1))) := (G.alloc (o := none) hp).tups
      have hk' : ∀ q ∈ L', SqT X.K _ q.1 (q.2.map V.int) := fun q hq => sqT_t t (hk q (pm.mem_iff.mp hq))
      exact dp_ks L' ws hk' e1
/-- sorted(l), l a list of pairs of small ints -/
def rSortPN (K : PySem.W.Frag) : List V → Hp → VK → Prop := fun vs H Q => ∃ (a : Addr) (xs : List V) (us : List (Int × Int)), vs = [V.ref a] ∧ SqL K H a xs ∧ DpAll K H xs (us.map dP) ∧ us.length < 64 ∧ (∀ u ∈ us, in64 u) ∧
  ∀ us' : List (Int × Int), us'.Perm us → us'.Pairwise (fun u v => ltW u v ∨ u = v) → ∀ p H2 ys, H p = none → (∀ o, G o H H2) → H2 p = some (.lst ys) → DpAll K H2 ys (us'.map dP) → Q (.ref p) H2
theorem cr_sortPN : CallR X (.builtin "sorted") (rSortPN X.K) := by
  classical
  intro pins s σ H vs us0 Q I r h
  obtain ⟨a, xs, us, rfl, hs, hd, hz, hb, q⟩ := h
  have uniq : ∀ {v : V} {u u' : Int × Int}, Dp X.K H v (dP u) → Dp X.K H v (dP u') → u = u' := fun {v u u'} h h' => by
    obtain ⟨a, rfl, ha⟩ := dp_dP h
    obtain ⟨a', e, ha'⟩ := dp_dP h'
    cases e
    have z := I.tuple_inj ha ha'
    injection z with z1 z2
    injection z2 with z2 _
    exact Prod.ext (V.int.inj z1) (V.int.inj z2)
  let f : V → Int × Int := fun v => if h : ∃ u, Dp X.K H v (dP u) then h.choose else (0, 0)
  have fv : ∀ {v : V} {u : Int × Int}, Dp X.K H v (dP u) → f v = u := fun {v u} h => by
    have hx : ∃ u, Dp X.K H v (dP u) := ⟨u, h⟩
    have : f v = hx.choose := dif_pos hx
    rw [this]
    exact uniq hx.choose_spec h
  have all : ∀ {ys : List V} {ws : List (Int × Int)}, DpAll X.K H ys (ws.map dP) → ws = ys.map f := by
    intro ys ws h
    induction ws generalizing ys with
    | nil => cases h; rfl
    | cons w ws ih =>
      cases h with
      | cons h t => rw [List.map_cons, fv h, ← ih t]
  have e0 := all hd
  have at_ : ∀ y ∈ xs, ∃ u ∈ us, Dp X.K H y (dP u) := fun y hy => by
    obtain ⟨i, hi⟩ := List.getElem?_of_mem hy
    obtain ⟨d, hd1, hd2⟩ := DpAll.get hd hi
    rw [List.getElem?_map] at hd1
    obtain ⟨u, hu, rfl⟩ := Option.map_eq_some_iff.mp hd1
    exact ⟨u, List.mem_of_getElem? hu, hd2⟩
  refine cr_sortT (d := 2) (B := 64) (by decide) pins s σ H _ us0 Q I r ⟨a, xs, rfl, hs, by rw [DpAll.length hd, List.length_map]; exact hz, fun x hx => ?_, fun ys p pm pw hp => ?_⟩
  · obtain ⟨u, hu, hx⟩ := at_ x hx
    obtain ⟨t, rfl, ht⟩ := dp_dP hx
    have b := hb u hu
    unfold in64 at b
    refine ⟨[u.1, u.2], ⟨t, rfl, ht⟩, rfl, ?_⟩
    intro n hn
    rcases List.mem_cons.mp hn with e | hn
    · subst e; exact ⟨b.1.1, b.1.2⟩
    · have : n = u.2 := by simpa using hn
      subst this; exact ⟨b.2.1, b.2.2⟩
  · have aty : ∀ y ∈ ys, ∃ u ∈ us, Dp X.K H y (dP u) := fun y hy => at_ y (pm.mem_iff.mp hy)
    have t : Ts H (upd H p (.lst ys)) := (G.alloc (o := none) hp).tups
    refine q (ys.map f) (by rw [e0]; exact pm.map f) ?_ p _ ys hp (fun _ => G.alloc hp) upd_same ?_
    · rw [List.pairwise_map]
      refine pw.imp_of_mem fun {y z} hy hz2 h => ?_
      obtain ⟨u, hu, h1⟩ := aty y hy
      obtain ⟨v, hv, h2⟩ := aty z hz2
      rw [fv h1, fv h2]
      obtain ⟨t1, rfl, k1⟩ := dp_dP h1
      obtain ⟨t2, rfl, k2⟩ := dp_dP h2
      exact code_lt (hb u hu) (hb v hv) (h _ _ ⟨t1, rfl, k1⟩ ⟨t2, rfl, k2⟩)
    · refine dpAll_t t _ _ (nls_pairs _) ?_
      clear pm pw hp t
      induction ys with
      | nil => exact .nil
      | cons y ys ih =>
        obtain ⟨u, hu, h1⟩ := aty y List.mem_cons_self
        refine .cons ?_ (ih fun y hy => aty y (List.mem_cons_of_mem _ hy))
        rw [fv h1]; exact h1
/-- t + u, tuples -/
def rCatN (K : PySem.W.Frag) : R2 := fun x y H Q => ∃ a b xs ys, x = .ref a ∧ y = .ref b ∧ SqT K H a xs ∧ SqT K H b ys ∧ xs.length + ys.length ≤ 100000 ∧ ∀ p H2, (∀ o, G o H H2) → SqT K H2 p (xs ++ ys) → Q (.ref p) H2
theorem op_catN : OpR X (binaryOp .Add) (rCatN X.K) := OpR.weak op_catA fun x y H Q h => by
  obtain ⟨a, b, xs, ys, e1, e2, h1, h2, hz, q⟩ := h
  refine ⟨a, b, xs, ys, e1, e2, h1, h2, sz hz, fun e => ?_, fun _ e => ?_, fun _ _ p hp => ?_⟩
  · subst e; exact q b H (fun _ => G.refl) h2
  · subst e; exact q a H (fun _ => G.refl) (by rw [List.append_nil]; exact h1)
  · exact q p _ (fun _ => G.alloc hp) (SqT.of upd_same)
end
end GA
/-! ## GG -/
namespace PySem.W
open PySem PySem.Spec PySem.Calls PyProof.Rows
open Builtin
section
variable {prog : Program} {w : World} {A : Around} {E : Value → Shared → Prop} {K : Frag} {x C L f : Addr} {h₀ hh : Heap} {g : Array GenState} {d : Drawn} {t : Nat} {os : OsState} {m : Str → Option Value} {ox : Obj} {od : Option Obj} {b tb : Value}
theorem ga_ifBound_ne {M : Model} {args : List Value} {Q : Option Value → Shared → Prop} (X : K.In hh) (I : InstAt hh x ox C od) (hs : findIn K (.ref C) "__ne__" = some (some (.builtin "object.__ne__")))
    (h : wpAny M A (call (.builtin "object.__ne__") (.ref x :: args)) (fun v => Q (some v)) E ⟨hh, g, d, t, os⟩) : wpAny M A (callSpecialIfBound? (.ref x) "__ne__" args) Q E ⟨hh, g, d, t, os⟩ := by
  simp only [callSpecialIfBound?, bindSpecialIfBound?]
  refine wpAny_holding (wpAny_bind (wpAny_bind (wpAny_bind (I.type.here ((looks_findIn X hs).here ?_)))))
  simp only [F.cmp_object.ne.bind]
  refine wpAny_bind (wpAny_askSetting (wpAny_ite ?_))
  have fin : wpAny M A (call (.builtin "object.__ne__") ([.ref x] ++ args) >>= fun v => pure (some v)) Q E ⟨hh, g, d, t, os⟩ :=
    wpAny_bind (wpAny_mono h (fun v s' h' => wpAny_pure h') fun _ _ h' => h')
  split
  · first
      | exact wpAny_bind (wpAny_pure (wpAny_pure fin))
      | exact wpAny_pure (wpAny_pure fin)
      | exact wpAny_pure fin
      | exact wpAny_bind (wpAny_pure fin)
  · first
      | exact wpAny_tryCatch (wpAny_bind (wpAny_pure (wpAny_pure fin)))
      | exact wpAny_tryCatch (wpAny_pure (wpAny_pure fin))
      | exact wpAny_tryCatch (wpAny_pure fin)
      | exact wpAny_tryCatch (wpAny_bind (wpAny_pure fin))
theorem ga_check_ne {M : Model} {rest : List Value} {Q : Unit → Shared → Prop} (X : K.In hh) (I : InstAt hh x ox C od) (hm : mroIn K C (.type "object") = some true) (ha : argsOk "object.__ne__" ⟨.ref x :: rest, []⟩) (hq : Q () ⟨hh, g, d, t, os⟩) :
    wpAny M A (checkBuiltinCall "object.__ne__" ⟨.ref x :: rest, []⟩) Q E ⟨hh, g, d, t, os⟩ := by
  simp only [checkBuiltinCall, F.cmpKind_ne, F.cmpSplit_ne]
  refine wpAny_bind ?_
  unfold isInstance
  refine wpAny_bind (I.type.here ((looks_mroIn X hm).here ?_))
  simp only [Bool.not_true, Bool.false_eq_true, if_false]
  cases hsig : Manifest.signature? "object.__ne__" with
  | none => exact wpAny_pure hq
  | some sig =>
    simp only [argsOk, hsig] at ha
    have h2 : Bind.checkArgs "object.__ne__" sig ⟨.ref x :: rest, []⟩ = pure () := ha
    show wpAny M A (Bind.checkArgs "object.__ne__" sig ⟨.ref x :: rest, []⟩) Q E _
    rw [h2]; exact wpAny_pure hq
theorem ga_ne_body (X : K.In hh) (I : InstAt hh x ox C od) (hs : findIn K (.ref C) "__eq__" = some (some (.ref f))) (hf : isFn K (.ref f) = true) (hu : A.units < cLine) {Q : Fin → Shared → Prop}
    (h : wpAny (model prog w) A (call (.ref f) [.ref x, b]) (fun v s' => ∃ r, v = .bool r ∧ Q (.done (.ret (.bool (!r)))) s') E ⟨hh, g, d, t, os⟩) :
    wpAny (model prog w) A (Builtin.«object.__ne__» ⟨[.ref x, b], []⟩) Q E ⟨hh, g, d, t, os⟩ := by
  unfold Builtin.«object.__ne__»
  repeat (first
    | with_reducible refine wpAny_cRoomFor hu ?_
    | (refine wpAny_bind (m := callSpecialIfBound? (.ref x) (Str.ofString "__eq__") [b])
        (ifBound_K X I hs hf (wpAny_mono h (fun r s' hr => by
          obtain ⟨q, rfl, hq⟩ := hr
          repeat (first | exact hq | exact wpAny_pure hq | exact wpAny_truthy_bool hq | (refine wpAny_bind (m := truthy (.bool _)) (wpAny_truthy_bool ?_)) | wp_step)) fun _ _ e => e)))
    | wp_step)
theorem ga_ne_K {Q : Value → Shared → Prop} (hu : A.units + 1 < cLine) (F : Fr h₀ L hh m) (X₀ : K.In h₀) (I : InstAt hh x ox C od) (hb : Looks (model prog w) hh (typeOf b) tb) (hn : notFirst K C tb = true)
    (hs : findIn K (.ref C) "__eq__" = some (some (.ref f))) (hf : isFn K (.ref f) = true) (hne : findIn K (.ref C) "__ne__" = some (some (.builtin "object.__ne__"))) (hm : mroIn K C (.type "object") = some true)
    (h : wpAny (model prog w) A.in1 (call (.ref f) [.ref x, b]) (fun v s' => ∃ r, v = .bool r ∧ Q (.bool (!r)) s') E ⟨hh, g, d, t, os⟩) : wpAny (model prog w) A (richCompare .NotEq (.ref x) b) Q E ⟨hh, g, d, t, os⟩ := by
  have X := X₀.keeps F.keep
  have one : wpAny (model prog w) A (tryCompare (.ref x) (cmpInfo .NotEq).2.1 b) (fun r s' => ∃ v, r = some v ∧ Q v s') E ⟨hh, g, d, t, os⟩ := by
    rw [cmpInfo_NotEq]
    unfold tryCompare
    refine wpAny_bind (ga_ifBound_ne X I hne (wpAny_call (codeAny_call_builtin PySem.F.cmp_object.ne.plain PySem.F.cmpEntry_ne
      (ga_check_ne X I hm (PySem.F.cmpArgs_ne _ _) (ga_ne_body (A := A.in1) X I hs hf hu (wpAny_mono h (fun v s' hv => ?_) fun _ _ e => e))))))
    obtain ⟨r, rfl, hq⟩ := hv
    first | exact ⟨r, rfl, wpAny_pure ⟨_, rfl, hq⟩⟩ | exact ⟨r, rfl, wpAny_pure (wpAny_pure ⟨_, rfl, hq⟩)⟩
  unfold richCompare
  simp only [oneThing_ref]
  refine wpAny_holding (wpAny_bind (wpAny_cRoomFor (Nat.lt_of_succ_lt hu) ?_))
  refine wpAny_bind (I.type.here (wpAny_bind (hb.here ?_)))
  split
  · rename_i q
    have e : subIn K tb (.ref C) = some false := by
      rcases Bool.or_eq_true_iff.mp hn with e | e
      · rw [beq_iff_eq.mp e] at q; simp at q
      · exact beq_iff_eq.mp e
    refine wpAny_bind ((looks_subIn X e).here ?_)
    simp only [Bool.false_eq_true, if_false]
    refine wpAny_bind (wpAny_mono one (fun r s' z => ?_) fun _ _ e => e)
    obtain ⟨v, rfl, hq⟩ := z
    exact wpAny_pure hq
  · refine wpAny_bind (wpAny_pure ?_)
    simp only [Bool.false_eq_true, if_false]
    refine wpAny_bind (wpAny_mono one (fun r s' z => ?_) fun _ _ e => e)
    obtain ⟨v, rfl, hq⟩ := z
    exact wpAny_pure hq
end
end PySem.W
namespace GA
open PySem PySem.Spec PyProof.Rows L2
section
variable {X : Cx} {n : Nat}
/-- x != y of two instances whose own == says True -/
def rNeG (D : Eqv) : R2 := fun x y H Q => D x y H ∧ ∀ H', Ext H H' → Q (.bl false) H'
theorem op_neG {CX : CXT} {C f : Addr} {fd : FuncData} {ps : List Str} {R : Addr → Addr → Hp → Prop} {E : XK} (F : FnOk X.prog X.w X.K X.mg X.base CX n f fd ps (spEq R))
    (hs : PySem.W.findIn X.K (.ref C) "__eq__" = some (some (.ref f))) (hf : PySem.W.isFn X.K (.ref f) = true) (hb : Binds X.K fd ps []) (hx : Passes CX X E)
    (hne : PySem.W.findIn X.K (.ref C) "__ne__" = some (some (.builtin "object.__ne__"))) (hm : PySem.W.mroIn X.K C (.type "object") = some true) (rm : Room (n + 1) X.A) : OpR X (compareOp .NotEq) (rNeG (DIns C R)) := by
  intro pins s σ H x y u v Q I rx ry hq
  obtain ⟨⟨a, b, dx, dy, fs, gs, rfl, rfl, ha, hb', hr⟩, q⟩ := hq
  cases rx
  cases ry
  obtain ⟨mA, J, _⟩ := ins_get I.hok ha
  obtain ⟨mB, J', _⟩ := ins_get I.hok hb'
  obtain ⟨od, J, _⟩ := J.look
  obtain ⟨od', J', _⟩ := J'.look
  obtain ⟨m, hF⟩ := I.fr
  have rm1 : Room n X.A.in1 := rm.in1
  show wpAny (model X.prog X.w) X.A (richCompare .NotEq (.ref a) (.ref b)) (EP X pins σ Q) X.xe s
  refine PySem.W.ga_ne_K (tb := .ref C) rm1.units0 hF I.ok.mod.kin J J'.type (by simp [PySem.W.notFirst]) hs hf hne hm ?_
  have hsp : spEq R [.ref a, .ref b] H (fun v H' => v = .bl true ∧ Ext H H') E := ⟨a, b, rfl, hr, fun H' e => ⟨rfl, e⟩⟩
  have e0 : Env0 X.prog X.w X.K X.mg X.base X.A.in1 X.stack s H := ⟨I.env0.frames, I.env0.mod, I.env0.bs, I.env0.bsz, I.env0.funs, I.env0.frf, I.env0.hok, I.env0.bare⟩
  have hl := F.len _ _ _ _ hsp
  have r2 : Vals [V.ref a, V.ref b] [Value.ref a, Value.ref b] := .cons rfl (.cons rfl .nil)
  refine wpAny_call (codeAny_mono (F.run X.A.in1 X.stack s H ⟨[.ref a, .ref b], []⟩ [.ref a, .ref b] [.ref a, .ref b] _ E rm1 e0 (by
    have := hb s [.ref a, .ref b] I.kIn (by simpa using hl)
    simpa using this) r2 hsp) fun r s' hq => ?_)
  cases r with
  | error e => exact hx pins σ H s e s' I hq
  | ok fl =>
    cases fl with
    | ret w =>
      obtain ⟨z, H', I', rz, ez, ex⟩ := I.after hq
      subst ez
      cases rz
      exact ⟨true, rfl, .bl false, H', I', rfl, q H' ex⟩
    | next => exact False.elim hq
    | brk => exact False.elim hq
    | cont => exact False.elim hq
end
end GA
/-! ## GH -/
namespace L2
open PySem PySem.Spec PyProof.Rows
/-- the set as it is laid, and the heap with it -/
abbrev eset (w : World) : Obj := { cls := .type "set", dict := none, data := .set #[] 0 (.fresh 0 0 (!w.params.followText "set-order")) }
abbrev eheap (w : World) (h : Heap) : Heap := h.push (eset w)
section
variable {P : Program} {w : World} {A : Around} {E : Value → Shared → Prop} {s : Shared}
theorem gone_above {h : Heap} {b : Addr} (hb : h.objs.size ≤ b) : h.get? b = none := by
  cases q : h.get? b with
  | none => rfl
  | some o => exact absurd (Heap.lt_size q) (Nat.not_lt.mpr hb)
/-- set(t), t a tuple whose items are tuples of ints -/
theorem ga_set_of_tuple {l : Addr} {its : Array Value} (ks : List (Addr × List Int)) {Q : Value → Shared → Prop} (quiet : A.handled = none) (hl : s.heap.IsTuple l its) (hit : its.toList = ks.map fun p => Value.ref p.1)
    (hk : ∀ p ∈ ks, IsT P w s.heap p.2 p.1) (few : ks.length < 64) (un : A.units + 3 < cLine)
    (q : ∀ (h' : Heap) (tk : Nat) L es ep t, SetTR P w h' s.heap.objs.size L es ep t → Got ks ks.length L → (∀ b o, s.heap.get? b = some o → h'.get? b = some o) → Q (.ref s.heap.objs.size) { s with heap := h', toks := tk }) :
    wpAny (model P w) A (call (.type "set") [.ref l]) Q E s := by
  have isz : its.size = ks.length := by simpa using congrArg List.length hit
  have C := F.called_set
  obtain ⟨c, tl, m1⟩ := C.mro
  have m2 := C.made
  have m3 := C.sub
  have m4 := C.notType
  have m5 := C.canCreate
  have m6 := F.typeCall_set_1 (.ref l)
  refine wpAny_call (codeAny_of_tree (?_ : wpAny _ _ (callAny (.type "set") _) _ _ _))
  refine wpAny_pure ⟨Code.quiet_builtin _ (by decide +kernel), codeAny_builtin F.entry_type_call ?_⟩
  rw [Around.under_plain (weight_type_call_type "set" [.ref l] []) rfl]
  repeat (any_goals (first | assumption | wp_step))
  refine codeAny_mono (code_set_led1 (.ref l) (E := E) (Q₁ := fun ob s1 => ob = .ref s.heap.objs.size ∧ s1 = { s with heap := eheap w s.heap }) ⟨rfl, rfl⟩) fun r s1 hr => ?_
  match r, hr with
  | .error e, hr => exact hr
  | .ok .next, hr => exact hr.elim
  | .ok .brk, hr => exact hr.elim
  | .ok .cont, hr => exact hr.elim
  | .ok (.ret ob), hr =>
    obtain ⟨e1, e2⟩ := hr
    subst e1 e2
    have at0 : (eheap w s.heap).get? s.heap.objs.size = some (eset w) := Heap.get?_push_size _ rfl
    have ty0 : Shared.TypeIs { s with heap := eheap w s.heap } (.ref s.heap.objs.size) "set" := ⟨_, at0, rfl⟩
    have m7 := C.init.lookup
    have m8 := C.init.bind (.ref s.heap.objs.size)
    repeat (any_goals (first | assumption | wp_step))
    refine codeAny_mono (codeAny_call_builtin (R := wants (fun r s2 => r = .none ∧ ∃ h' tk L es ep t, s2 = { s with heap := h', toks := tk } ∧ SetTR P w h' s.heap.objs.size L es ep t ∧ Got ks ks.length L ∧
      (∀ b o, s.heap.get? b = some o → h'.get? b = some o)) E) C.init.plain F.entry_set_init (check_set_init_1 ty0 ?_)) fun r2 s2 hr2 => ?_
    · have hl1 : (eheap w s.heap).IsTuple l its := hl.push _
      obtain ⟨⟨oc, od, odt, osl⟩, ho, e1, nl, e2⟩ := id hl1
      simp only at e1 e2
      subst e1 e2
      have lS : l < s.heap.objs.size := by
        obtain ⟨o, h, _⟩ := hl
        exact Heap.lt_size h
      have n1 := F.sub_tuple_set
      have n2 := F.sub_tuple_frozenset
      have n3 : (Value.type "tuple" == Value.type "dict") = false := by decide
      have z1 : (eheap w s.heap).objs.size = s.heap.objs.size + 1 := Heap.size_push ..
      have nI : l ≠ (eheap w s.heap).objs.size := by
        rw [z1]; exact Nat.ne_of_lt (Nat.lt_succ_of_lt lS)
      unfold Builtin.«set.__init__» noKeywords Builtin.Frozenset.updateFrom
      generalize hpi : pyIter = PI
      wp_walk
      subst hpi
      refine wpAny_pyIter_tuple hl1 (wpAny_bind (wpAny_runValue ?_))
      have val : ∀ (i : Nat) (v : Value), its[i]? = some v → ∃ p, ks[i]? = some p ∧ v = .ref p.1 := fun i v hv => by
        have z : (ks.map fun p => Value.ref p.1)[i]? = some v := by rw [← hit, Array.getElem?_toList]; exact hv
        rw [List.getElem?_map] at z
        obtain ⟨p, hp, e⟩ := Option.map_eq_some_iff.mp z
        exact ⟨p, hp, e.symm⟩
      refine set_update_tups ((Walks.tuple (by simp [quiet]) _ l nI its).toS) s.heap.objs.size ?f1 ks isz few val s.heap hk (gone_above (Nat.le_refl _)) ?f2 (by simp; omega) (its.size - 0) 0 _ (by omega) (Nat.zero_le _)
        ⟨⟨_, Heap.get?_push_size _ rfl, rfl, rfl⟩, hl1.push _⟩ (fun b o e => Heap.get?_push_of_some _ (Heap.get?_push_of_some _ e)) ?f3 ?f4
      case f1 =>
        rw [z1]
        simp only [List.mem_cons, List.not_mem_nil, or_false, not_or]
        exact ⟨Nat.ne_of_lt (Nat.lt_succ_self _), Nat.ne_of_gt lS⟩
      case f2 =>
        intro b hb
        refine gone_above ?_
        rw [List.mem_singleton.mp hb, z1]
        exact Nat.le_succ _
      case f3 => exact ⟨[], #[], 0, _, setTR_fresh (Heap.get?_push_of_some _ at0), Got.zero ks⟩
      case f4 =>
        rintro ⟨h', g2, d', tk', os'⟩ L es ep t mv R got kp
        obtain rfl : g2 = s.gens := mv.gens
        obtain rfl : d' = s.drawn := mv.drawn
        obtain rfl : os' = s.os := mv.os
        rw [isz] at got
        exact wpAny_pure (wpAny_pure ⟨rfl, h', tk', L, es, ep, t, rfl, R, got, kp⟩)
    · match r2, hr2 with
      | .error e, hr2 => exact hr2
      | .ok .next, hr2 => exact hr2.elim
      | .ok .brk, hr2 => exact hr2.elim
      | .ok .cont, hr2 => exact hr2.elim
      | .ok (.ret z), hr2 =>
        obtain ⟨e3, h', tk, L, es, ep, t, e4, R, got, kp⟩ := hr2
        subst e3 e4
        repeat (any_goals (first | assumption | wp_step))
        exact q _ _ _ _ _ _ R got kp
end
end L2
/-! ## GI -/
namespace GA
open PySem PySem.Spec PyProof.Rows L2
/-! ### a list of pairs being filled -/
def Fil (K : PySem.W.Frag) (o : Option (Addr × Addr)) (H0 H : Hp) (D : Addr) (us : List (Int × Int)) : Prop := G o H0 H ∧ ∃ xs, H D = some (.lst xs) ∧ DpAll K H xs (us.map dP)
section
variable {K : PySem.W.Frag} {o : Option (Addr × Addr)} {H0 H H1 H' : Hp} {D : Addr} {us : List (Int × Int)}
theorem back_none (g : G none H0 H1) (h : H1 D = none) : H0 D = none := by
  cases c : H0 D with
  | none => rfl
  | some u => rw [g.all _ _ c] at h; cases h
theorem Fil.nil (g : G o H0 H1) (h0 : H0 D = none) (hh : ∀ p, o = some p → Hand H0 p.1 p.2) : Fil K o H0 (upd H1 D (.lst [])) D [] := ⟨g.mut h0 hh, [], upd_same, .nil⟩
theorem Fil.g (f : Fil K o H0 H D us) (g : G o H H') (off : Off o D) : Fil K o H0 H' D us := by
  obtain ⟨g0, xs, h1, h2⟩ := f
  exact ⟨g0.trans g, xs, g.keep _ _ off h1, dpAll_t g.tups _ _ (nls_pairs us) h2⟩
theorem Fil.app (f : Fil K o H0 H D us) (h0 : H0 D = none) (hh : ∀ p, o = some p → Hand H0 p.1 p.2) {v : V} {u : Int × Int} (hv : Dp K H v (dP u)) (hz : us.length ≤ 90000) :
    ∃ acc, H D = some (.lst acc) ∧ acc.length < sizeLine ∧ Fil K o H0 (upd H D (.lst (acc ++ [v]))) D (us ++ [u]) := by
  obtain ⟨g0, xs, h1, h2⟩ := f
  have t : Ts H (upd H D (.lst (xs ++ [v]))) := Ts.updl h1
  have l2 := DpAll.length h2
  rw [List.length_map] at l2
  refine ⟨xs, h1, Nat.lt_of_le_of_lt (by omega : xs.length ≤ 90000) (by decide), g0.mut h0 hh, _, upd_same, ?_⟩
  rw [List.map_append]
  exact DpAll.app (dpAll_t t _ _ (nls_pairs us) h2) (DpAll.one (dp_t t _ _ (nl_dP u) hv))
end
/-! ### two for -/
section
variable {J J1 : It} {n n1 : Nat} {Gd G1 : Hp → Prop} {Y Y1 : Nat → Hp → V → Hp → Prop} {g g1 : TG} {tt tt1 : TT} {te : TE} {wi1 : TI} {vs vs1 : List Nat} {σ σ2 : L2.St} {H1 H4 : Hp} {D : Addr} {Qd Nx : Hp → Prop}
theorem lc2_it (w : Walk J n Gd Y) (Pv : Nat → Hp → Prop) (h0 : Pv 0 (upd H1 D (.lst []))) (hG : ∀ i H, i ≤ n → Pv i H → Gd H)
    (hs : ∀ i x H H', i < n → Pv i H → Y i H x H' → g x (wipe σ vs) H' fun σ2 H2 => wipe σ2 vs = wipe σ vs ∧ tt σ2 H2 fun b H3 =>
      if b = true then wi1 σ2 H3 fun J1 H4 => ∃ W1 : Nat → Nat → Hp → Prop, (∃ m, W1 0 m H4) ∧ ∀ j k H, W1 j k H →
        (J1.stop j H ∧ Pv (i + 1) H) ∨ (J1.go j H ∧ ∃ Nx1 : Hp → Prop, (∀ H', Nx1 H' → ∃ k', k' < k ∧ W1 (j + 1) k' H') ∧ ∀ x H', J1.yld j H x H' → g1 x (wipe σ2 vs1) H' fun σ3 H5 => wipe σ3 vs1 = wipe σ2 vs1 ∧ tt1 σ3 H5 fun b H6 =>
          if b = true then te σ3 H6 fun y H7 => ∃ acc, H7 D = some (.lst acc) ∧ acc.length < sizeLine ∧ Nx1 (upd H7 D (.lst (acc ++ [y]))) else Nx1 H6)
      else Pv (i + 1) H3) (hd : ∀ H, Pv n H → Qd H) :
    ∃ W : Nat → Nat → Hp → Prop, (∃ m, W 0 m (upd H1 D (.lst []))) ∧ ∀ i m H, W i m H →
      (J.stop i H ∧ Qd H) ∨ (J.go i H ∧ ∃ Nx : Hp → Prop, (∀ H', Nx H' → ∃ m', m' < m ∧ W (i + 1) m' H') ∧ ∀ x H', J.yld i H x H' → g x (wipe σ vs) H' fun σ2 H2 => wipe σ2 vs = wipe σ vs ∧ tt σ2 H2 fun b H3 =>
        if b = true then wi1 σ2 H3 fun J1 H4 => ∃ W1 : Nat → Nat → Hp → Prop, (∃ m, W1 0 m H4) ∧ ∀ j k H, W1 j k H →
          (J1.stop j H ∧ Nx H) ∨ (J1.go j H ∧ ∃ Nx1 : Hp → Prop, (∀ H', Nx1 H' → ∃ k', k' < k ∧ W1 (j + 1) k' H') ∧ ∀ x H', J1.yld j H x H' → g1 x (wipe σ2 vs1) H' fun σ3 H5 => wipe σ3 vs1 = wipe σ2 vs1 ∧ tt1 σ3 H5 fun b H6 =>
            if b = true then te σ3 H6 fun y H7 => ∃ acc, H7 D = some (.lst acc) ∧ acc.length < sizeLine ∧ Nx1 (upd H7 D (.lst (acc ++ [y]))) else Nx1 H6)
        else Nx H3) := by
  refine ⟨fun i m H => m = n - i ∧ i ≤ n ∧ Pv i H, ⟨n, by simp, Nat.zero_le _, h0⟩, ?_⟩
  rintro i m H ⟨rfl, hi, p⟩
  have q := hG i H hi p
  by_cases c : i < n
  · exact .inr ⟨w.goes i H c q, Pv (i + 1), fun H' p' => ⟨n - (i + 1), by omega, rfl, c, p'⟩, fun x H' y => hs i x H H' c p (w.yields i H x H' c q y)⟩
  · obtain rfl : i = n := by omega
    exact .inl ⟨w.stops H q, hd H p⟩
theorem in_it (w : Walk J1 n1 G1 Y1) (P1 : Nat → Hp → Prop) (h0 : P1 0 H4) (hG : ∀ j H, j ≤ n1 → P1 j H → G1 H)
    (hs : ∀ j x H H', j < n1 → P1 j H → Y1 j H x H' → g1 x (wipe σ2 vs1) H' fun σ3 H5 => wipe σ3 vs1 = wipe σ2 vs1 ∧ tt1 σ3 H5 fun b H6 =>
      if b = true then te σ3 H6 fun y H7 => ∃ acc, H7 D = some (.lst acc) ∧ acc.length < sizeLine ∧ P1 (j + 1) (upd H7 D (.lst (acc ++ [y]))) else P1 (j + 1) H6) (hd : ∀ H, P1 n1 H → Nx H) :
    ∃ W1 : Nat → Nat → Hp → Prop, (∃ m, W1 0 m H4) ∧ ∀ j k H, W1 j k H →
      (J1.stop j H ∧ Nx H) ∨ (J1.go j H ∧ ∃ Nx1 : Hp → Prop, (∀ H', Nx1 H' → ∃ k', k' < k ∧ W1 (j + 1) k' H') ∧ ∀ x H', J1.yld j H x H' → g1 x (wipe σ2 vs1) H' fun σ3 H5 => wipe σ3 vs1 = wipe σ2 vs1 ∧ tt1 σ3 H5 fun b H6 =>
        if b = true then te σ3 H6 fun y H7 => ∃ acc, H7 D = some (.lst acc) ∧ acc.length < sizeLine ∧ Nx1 (upd H7 D (.lst (acc ++ [y]))) else Nx1 H6) := by
  refine ⟨fun i m H => m = n1 - i ∧ i ≤ n1 ∧ P1 i H, ⟨n1, by simp, Nat.zero_le _, h0⟩, ?_⟩
  rintro i m H ⟨rfl, hi, p⟩
  have q := hG i H hi p
  by_cases c : i < n1
  · exact .inr ⟨w.goes i H c q, P1 (i + 1), fun H' p' => ⟨n1 - (i + 1), by omega, rfl, c, p'⟩, fun x H' y => hs i x H H' c p (w.yields i H x H' c q y)⟩
  · obtain rfl : i = n1 := by omega
    exact .inl ⟨w.stops H q, hd H p⟩
theorem w_lc2 {wi : TI} {Q : VK} (q : wi σ H1 fun J H1 => ∀ D, H1 D = none → ∃ W : Nat → Nat → Hp → Prop, (∃ m, W 0 m (upd H1 D (.lst []))) ∧ ∀ i m H, W i m H →
  (J.stop i H ∧ Q (.ref D) H) ∨ (J.go i H ∧ ∃ Nx : Hp → Prop, (∀ H', Nx H' → ∃ m', m' < m ∧ W (i + 1) m' H') ∧ ∀ x H', J.yld i H x H' → g x (wipe σ vs) H' fun σ2 H2 => wipe σ2 vs = wipe σ vs ∧ tt σ2 H2 fun b H3 =>
    if b = true then wi1 σ2 H3 fun J1 H4 => ∃ W1 : Nat → Nat → Hp → Prop, (∃ m, W1 0 m H4) ∧ ∀ j k H, W1 j k H →
      (J1.stop j H ∧ Nx H) ∨ (J1.go j H ∧ ∃ Nx1 : Hp → Prop, (∀ H', Nx1 H' → ∃ k', k' < k ∧ W1 (j + 1) k' H') ∧ ∀ x H', J1.yld j H x H' → g1 x (wipe σ2 vs1) H' fun σ3 H5 => wipe σ3 vs1 = wipe σ2 vs1 ∧ tt1 σ3 H5 fun b H6 =>
        if b = true then te σ3 H6 fun y H7 => ∃ acc, H7 D = some (.lst acc) ∧ acc.length < sizeLine ∧ Nx1 (upd H7 D (.lst (acc ++ [y]))) else Nx1 H6)
    else Nx H3)) : tLc2 wi g tt wi1 g1 tt1 te vs vs1 σ H1 Q := q
end
/-! ### a list or a tuple -/
def iSeq (K : PySem.W.Frag) (te : TE) : TI := fun σ H R => te σ H fun x H1 => ∃ a, x = .ref a ∧ (((∃ xs, SqL K H1 a xs) ∧ R (Itl K a) H1) ∨ ((∃ xs, SqT K H1 a xs) ∧ R (Itt K a) H1))
section
variable {X : Cx}
theorem pi_seq {tg l : Expr} {tl : TE} (hl : PE X l tl) : PI X tg l (iSeq X.K tl) := by
  refine ⟨fun pins s σ H R I h => ?_⟩
  refine thn (hl.run pins s σ H _ I h) fun v s1 ⟨x, H1, I1, r1, a, e, q1⟩ => ?_
  subst e
  cases r1
  rcases q1 with ⟨⟨xs, hq⟩, q⟩ | ⟨⟨xs, hq⟩, q⟩
  · obtain ⟨its, rv, p, _⟩ := I1.list hq
    refine wpAny_pyIter_list p.isList ⟨s1.heap.objs.size, [s1.heap.objs.size], _, _, H1, rfl, I1.kept (t' := s1.toks) fun b o e => Heap.get?_push_of_some _ e, turn_list a _, ⟨_, Heap.get?_push_size _ rfl, rfl, rfl⟩, fun b hb => ?_, q⟩
    obtain rfl : b = s1.heap.objs.size := by simpa using hb
    exact I1.fpOk (Nat.le_refl _) (I1.hok.fresh (Nat.le_refl _))
  · obtain ⟨its, rv, p, _⟩ := I1.tuple hq
    refine wpAny_pyIter_tuple p ⟨s1.heap.objs.size, [s1.heap.objs.size], _, _, H1, rfl, I1.kept (t' := s1.toks) fun b o e => Heap.get?_push_of_some _ e, turn_tuple a _, ⟨_, Heap.get?_push_size _ rfl, rfl, rfl⟩, fun b hb => ?_, q⟩
    obtain rfl : b = s1.heap.objs.size := by simpa using hb
    exact I1.fpOk (Nat.le_refl _) (I1.hok.fresh (Nat.le_refl _))
theorem k_pi_seq (K : PySem.W.Frag) {tg l : Expr} {tl : TE} (hl : PE X l tl) (hK : X.K = K := by rfl) : PI X tg l (iSeq K tl) := by subst hK; exact pi_seq hl
theorem w_iseq {K : PySem.W.Frag} {te : TE} {σ : L2.St} {H : Hp} {R : It → Hp → Prop} (q : te σ H fun x H1 => ∃ a, x = .ref a ∧ (((∃ xs, SqL K H1 a xs) ∧ R (Itl K a) H1) ∨ ((∃ xs, SqT K H1 a xs) ∧ R (Itt K a) H1))) : iSeq K te σ H R := q
/-- set(xs), a list or a tuple of pairs of ints -/
def rSetPA (K : PySem.W.Frag) (P : Program) (w : World) : List V → Hp → VK → Prop := fun vs H Q => ∃ (l : Addr) (xs : List V) (us : List (Int × Int)), vs = [V.ref l] ∧ (SqL K H l xs ∨ SqT K H l xs) ∧ DpAll K H xs (us.map dP) ∧ us.length < 64 ∧
  ∀ a L H2, H a = none → (∀ o, G o H H2) → H2 a = some (SetTO P w a L) → (∀ p ∈ L, SqT K H2 p.1 (p.2.map V.int)) → (∀ ns, ns ∈ L.map (·.2) ↔ ∃ u ∈ us, ns = [u.1, u.2]) → Q (.ref a) H2
theorem cr_setPA (hc : X.calm = true) (hu : X.A.units + 64 < cLine) : CallR X (.type "set") (rSetPA X.K X.prog X.w) := by
  intro pins s σ H vs us0 Q I r h
  obtain ⟨l, xs, us, rfl, hl, hd, hz, q⟩ := h
  rcases hl with hl | hl
  · exact cr_setPN hc hu pins s σ H _ us0 Q I r ⟨l, xs, us, rfl, hl, hd, hz, q⟩
  · obtain ⟨ks, rfl, h1, h2⟩ := ks_of hd
    have hz' : ks.length = us.length := by simpa using congrArg List.length h2
    rw [Vals.ref1 r]
    obtain ⟨its, rv, pl, _⟩ := I.tuple hl
    have hn : H s.heap.objs.size = none := I.hok.fresh (Nat.le_refl _)
    refine ga_set_of_tuple (P := X.prog) (w := X.w) ks (I.ok.hd hc) pl (by simpa using refs_of_vals rv) (fun p hp => I.isT (h1 p hp)) (by omega) (by omega) fun h' tk L es ep t R g k => ?_
    refine ⟨.ref s.heap.objs.size, upd H s.heap.objs.size (SetTO X.prog X.w s.heap.objs.size L), I.laid (t' := tk) k (Nat.le_refl _) (setTO_new R.t0), rfl, q _ L _ hn (fun _ => G.alloc hn) upd_same (fun p hp => sqT_t ((G.alloc (o := none) hn).tups) (h1 p (List.mem_of_mem_take (g.sub p hp)))) fun ns => ?_⟩
    have mem : ns ∈ ks.map (·.2) ↔ ∃ u ∈ us, ns = [u.1, u.2] := by
      rw [h2, List.mem_map]
      exact ⟨fun ⟨u, a, b⟩ => ⟨u, a, b.symm⟩, fun ⟨u, a, b⟩ => ⟨u, a, b.symm⟩⟩
    rw [← mem]
    constructor
    · intro h
      obtain ⟨p, hp, rfl⟩ := List.mem_map.mp h
      exact List.mem_map.mpr ⟨p, List.mem_of_mem_take (g.sub p hp), rfl⟩
    · intro h
      obtain ⟨p, hp, rfl⟩ := List.mem_map.mp h
      exact g.all p (by rw [List.take_length]; exact hp)
/-- t.index(z), t a tuple of ints -/
def rIndexTI (K : PySem.W.Frag) : V → List V → Hp → VK → Prop := fun x xs H Q => ∃ (p : Addr) (ns : List Int) (z : Int) (j : Nat), x = .ref p ∧ xs = [.int z] ∧ SqT K H p (ns.map V.int) ∧ ns[j]? = some z ∧ (∀ m, m < j → ns[m]? ≠ some z) ∧ Q (.int (j : Nat)) H
theorem mt_indexTI : MtR X "tuple.index" (rIndexTI X.K) := by
  intro pins s σ H x xs v us Q I rx rs h
  obtain ⟨p, ns, z, j, rfl, rfl, hq, hy, hno, q⟩ := h
  cases rx
  obtain ⟨u, rfl, t, rfl⟩ := vals1 rs
  obtain ⟨its, r, ⟨⟨cls, dd, dt, sl⟩, ho, hc, n, hd⟩, hz⟩ := I.tuple hq
  simp only at hc hd
  subst hc hd
  have hl : its.toArray.size = ns.length := by rw [List.size_toArray, ← r.length, List.length_map]
  have it : ∀ (m : Nat) (hm : m < its.toArray.size), ∃ y t', ns[m]? = some y ∧ its.toArray[m] = Value.int y t' := fun m hm => by
    have hm' : m < ns.length := by rw [← hl]; exact hm
    obtain ⟨w, hw, t', hw'⟩ := r.get (i := m) (x := .int ns[m]) (by simp [hm'])
    refine ⟨ns[m], t', List.getElem?_eq_getElem hm', ?_⟩
    have e := (List.getElem?_eq_some_iff.mp hw).2
    rw [← hw', ← e]
    simp
  have flat : (ns.map V.int).all flatV = true := by rw [List.all_map, List.all_eq_true]; exact fun _ _ => rfl
  have jl : j < its.toArray.size := by rw [hl]; exact (List.getElem?_eq_some_iff.mp hy).1
  refine call_meets PySem.F.slot_tuple_index ⟨_, ho, rfl⟩ PySem.F.entry_tuple_index (PySem.F.args_tuple_index_2 _ _) (TI.tuple_indexAt p its.toArray n dd sl (.int z t) (eqU (.int z)) j jl ?_ ?_)
    ⟨ho, fun w hw => mem_eqAt (x := .int z) ⟨t, rfl⟩ rfl r flat w (by simpa using hw), ⟨.int (j : Nat), H, I.tok _, ⟨_, rfl⟩, q⟩⟩
  · obtain ⟨y, t', h1, h2⟩ := it j jl
    rw [hy] at h1
    cases h1
    rw [h2]
    exact beq_self_eq_true z
  · intro m hm hmj
    obtain ⟨y, t', h1, h2⟩ := it m hm
    rw [h2]
    have ne : y ≠ z := fun e => hno m hmj (by rw [h1, e])
    exact beq_eq_false_iff_ne.mpr ne
theorem k_mt_indexTI (K : PySem.W.Frag) (hK : X.K = K := by rfl) : MtR X "tuple.index" (rIndexTI K) := by subst hK; exact mt_indexTI
/-- xs + ys, lists -/
def rCatLN : R2 := fun x y H Q => ∃ l b xs zs, x = .ref l ∧ y = .ref b ∧ H l = some (.lst xs) ∧ H b = some (.lst zs) ∧ xs.length + zs.length ≤ 100000 ∧ New H (.lst (xs ++ zs)) fun p H2 => Q (.ref p) H2
theorem op_catLN : OpR X (binaryOp .Add) rCatLN := OpR.weak op_cat fun x y H Q h => by
  obtain ⟨l, b, xs, zs, e1, e2, h1, h2, hz, q⟩ := h
  exact ⟨l, b, xs, zs, e1, e2, h1, h2, sz hz, fun p hp => q.go hp⟩
end
end GA
/-! ## GJ -/
namespace GA
open PySem PySem.Spec PyProof.Rows L2
/-! ### dict(pairs) whose keys are tuples -/
/-- one pair (key, value): where the pair's tuple stands, the key, where the key stands, the value -/
structure DPair where
  at_ : Addr
  key : List L2.Key
  kat : Addr
  val : V
def rDictPT : List V → Hp → VK → Prop := fun xs H Q => ∃ (a : Addr) (L : List DPair), xs = [.ref a] ∧ H a = some (.lst (L.map fun q => V.ref q.at_)) ∧ (∀ q ∈ L, H q.at_ = some (.tup [.ref q.kat, q.val]) ∧ H q.kat = some (.tup (q.key.map kV))) ∧ (L.map fun q => q.key).Nodup ∧ New H (.dT (L.map fun q => (q.key, q.val))) fun p H2 => Q (.ref p) H2
section
variable {X : Cx}
theorem pairs_told {pins : List (Addr × Obj)} {σ : L2.St} {H : Hp} {s : Shared} (I : Inv X pins σ H s) : ∀ (L : List DPair), (∀ q ∈ L, H q.at_ = some (.tup [.ref q.kat, q.val]) ∧ H q.kat = some (.tup (q.key.map kV))) →
    ∃ prs : List (List L2.Key × Addr × Value), Paired (fun (q : DPair) (p : List L2.Key × Addr × Value) => p.1 = q.key ∧ p.2.1 = q.kat ∧ RelV q.val p.2.2 ∧ s.heap.IsTuple q.at_ #[.ref q.kat, p.2.2]) L prs
  | [], _ => ⟨[], .nil⟩
  | q :: L, h => by
    obtain ⟨prs, r⟩ := pairs_told I L fun q' hq => h q' (List.mem_cons_of_mem _ hq)
    obtain ⟨h1, _⟩ := h q List.mem_cons_self
    obtain ⟨_, its, rv, pl⟩ := I.hok q.at_ _ h1
    cases rv with
    | cons r1 r2 =>
      cases r2 with
      | cons r2 r3 =>
        cases r3
        cases r1
        exact ⟨(q.key, q.kat, _) :: prs, .cons ⟨rfl, rfl, r2, pl⟩ r⟩
theorem paired_len {α β : Type} {F : α → β → Prop} : ∀ {l : List α} {m : List β}, Paired F l m → l.length = m.length
  | _, _, .nil => rfl
  | _, _, .cons _ t => by rw [List.length_cons, List.length_cons, paired_len t]
theorem paired_at {α β : Type} {F : α → β → Prop} : ∀ {l : List α} {m : List β} {i : Nat} {y : β}, Paired F l m → m[i]? = some y → ∃ x, l[i]? = some x ∧ F x y
  | _, _, _, _, .nil, e => by simp at e
  | _, _, 0, _, .cons h _, e => by simp at e; subst e; exact ⟨_, rfl, h⟩
  | _, _, i + 1, y, .cons _ t, e => by
    obtain ⟨x, h1, h2⟩ := paired_at (i := i) (y := y) t (by simpa using e)
    exact ⟨x, by simpa using h1, h2⟩
theorem paired_keys {s : Shared} {L : List DPair} {prs : List (List L2.Key × Addr × Value)} (r : Paired (fun (q : DPair) (p : List L2.Key × Addr × Value) => p.1 = q.key ∧ p.2.1 = q.kat ∧ RelV q.val p.2.2 ∧ s.heap.IsTuple q.at_ #[.ref q.kat, p.2.2]) L prs) : prs.map (·.1) = L.map fun q => q.key := by
  induction r with
  | nil => rfl
  | cons h _ ih => rw [List.map_cons, List.map_cons, ih, h.1]
theorem paired_kt {s : Shared} {H : Hp} {L : List DPair} {prs : List (List L2.Key × Addr × Value)} (r : Paired (fun (q : DPair) (p : List L2.Key × Addr × Value) => p.1 = q.key ∧ p.2.1 = q.kat ∧ RelV q.val p.2.2 ∧ s.heap.IsTuple q.at_ #[.ref q.kat, p.2.2]) L prs)
    (h : ∀ q ∈ L, H q.kat = some (.tup (q.key.map kV))) : KT H (L.map fun q => (q.key, q.val)) prs := by
  induction r with
  | nil => exact .nil
  | @cons q p L prs e _ ih =>
    refine .cons ⟨e.1.symm, ?_, e.2.2.1⟩ (ih fun q' hq => h q' (List.mem_cons_of_mem _ hq))
    rw [e.2.1]
    exact h q List.mem_cons_self
theorem call_dictPT (hc : X.calm = true) (hu : X.A.units + 64 < cLine) : CallR X (.type "dict") rDictPT := by
  intro pins s σ H xs us Q I r h
  obtain ⟨a, L, rfl, ha, hL, nd, q⟩ := h
  obtain ⟨u, rfl, rx⟩ := vals1 r
  cases rx
  obtain ⟨hz, its, n, rv, ea⟩ := I.hok a _ ha
  have eits : its = L.map fun q => Value.ref q.at_ := by
    have e : (L.map fun q => V.ref q.at_) = (L.map fun q => q.at_).map V.ref := by rw [List.map_map]; rfl
    rw [e] at rv
    have := L2.refs_at rv
    rw [this, List.map_map]; rfl
  obtain ⟨prs, pr⟩ := pairs_told I L hL
  have len := paired_len pr
  have keys := paired_keys pr
  have P := PairArg.list (prog := X.prog) (w := X.w) a its.toArray (fun j => (L[j]?.map fun q => q.at_).getD 0) (prs.map fun p => (Value.ref p.2.1, p.2.2))
  have Lsz : L.length ≤ sizeLine := by
    rw [List.length_map] at hz
    exact hz
  have key_in : ∀ p ∈ prs, ∃ q ∈ L, p.1 = q.key ∧ p.2.1 = q.kat := fun p hp => by
    obtain ⟨i, hi⟩ := List.getElem?_of_mem hp
    obtain ⟨q, hq, e⟩ := paired_at pr hi
    exact ⟨q, List.mem_of_getElem? hq, e.1, e.2.1⟩
  have newA : H s.heap.objs.size = none := I.hok.fresh (Nat.le_refl _)
  refine call_dict_pairsH (knd := tupleKind (mixKind X.prog X.w)) (ps := prs) P (I.ok.hd hc) (by show _ < cLine; simp; omega) ⟨⟨_, n, ea, rfl, rfl, rfl⟩, ?_, fun j k v e => ?_⟩ ⟨by rw [List.length_map], fun i key v e => ?_⟩ (fun h' keep p hp => ?_) (by rw [List.length_map]; omega) fun h' tk D keep => ?_
  · rw [List.size_toArray, eits, List.length_map, List.length_map, len]
  · rw [List.getElem?_map] at e
    obtain ⟨p, hp, e⟩ := Option.map_eq_some_iff.mp e
    cases e
    obtain ⟨q, hq, e1, e2, e3, e4⟩ := paired_at pr hp
    have eq1 : (L[j]?.map fun q => q.at_).getD 0 = q.at_ := by rw [hq]; rfl
    refine ⟨?_, .inl ?_⟩
    · show its.toArray[j]? = some (.ref ((L[j]?.map fun q => q.at_).getD 0))
      rw [eq1, eits]
      simp [hq]
    · show s.heap.IsTuple ((L[j]?.map fun q => q.at_).getD 0) _
      rw [eq1]
      show s.heap.IsTuple q.at_ #[.ref p.2.1, p.2.2]
      rw [e2]
      exact e4
  · have e : (prs.map fun p => (Value.ref p.2.1, p.2.2))[i]? = some (key, v) := e
    rw [List.getElem?_map] at e
    obtain ⟨p, hp, e⟩ := Option.map_eq_some_iff.mp e
    cases e
    exact ⟨p.1, p.2.1, hp, rfl⟩
  · obtain ⟨q, hq, e1, e2⟩ := key_in p hp
    have k0 := key_of I.hok (hL q hq).2
    rw [e1, e2]
    obtain ⟨o, items, m, ho, rest⟩ := k0
    exact ⟨o, items, m, keep _ _ (Nat.ne_of_lt (Heap.lt_size ho)) (by simp) ho, rest⟩
  · have e0 : storedAllH [] prs = prs := storedAllH_nil_of_nodup prs (by rw [keys]; exact nd)
    rw [e0] at D
    obtain ⟨o, es, ep, d1, d2, d3, d4, _, d6⟩ := D
    have hm : (s.heap.objs.size == sysModules) = false := beq_eq_false_iff_ne.mpr (Nat.ne_of_gt I.big)
    have kt : KT (upd H s.heap.objs.size (.dT (L.map fun q => (q.key, q.val)))) (L.map fun q => (q.key, q.val)) prs := paired_kt pr fun q hq => by
      rw [upd_ne (ne_of_none (hL q hq).2 newA)]
      exact (hL q hq).2
    exact ⟨.ref s.heap.objs.size, _, I.laid (o := .dT (L.map fun q => (q.key, q.val))) (t' := tk) (fun b o e => keep b o (by simp) e) (Nat.le_refl _) ⟨by rw [List.length_map]; exact Lsz, hm, prs, kt, o, es, ep, d1, d2, d3, d4, d6⟩, rfl, q.go newA⟩
end
end GA
/-! ## GK -/
namespace GA
open PySem PySem.Spec PyProof.Rows L2
section
variable {X : Cx}
/-- len(set(t)), t a tuple of unlike ints -/
def tLenSetTI (K : PySem.W.Frag) (ta : TE) : TE := fun σ H Q => ta σ H fun x H1 => ∃ (l : Addr) (ns : List Int), x = V.ref l ∧ SqT K H1 l (ns.map V.int) ∧ ns.length ≤ 1000 ∧ ns.Nodup ∧ Q (.int ns.length) H1
theorem pe_lenSetTI {a : Expr} {ta : TE} {p p2 q pos : Pos} (hc : X.calm = true) (hg : Gl X "len") (hm : X.mg "len" = none) (hg2 : Gl X "set") (hm2 : X.mg "set" = none) (ha : PE X a ta)
    (na : starEach [a] X.env = (false, eval a X.env) :: starEach [] X.env := by rfl) : PE X (.Call (.Name "len" p) [.Call (.Name "set" p2) [a] [] q] [] pos) (tLenSetTI X.K ta) := by
  refine ⟨fun pins s σ H Q I h => Call_ (ld_blt I hg hm PySem.boot_len (PyProof.Rows.callWith_builtin1 (PyProof.Rows.args_cons ?_ rfl) rfl rfl))⟩
  refine Call_ (ld_blt I hg2 hm2 PyProof.Rows.boot_set (PyProof.Rows.callWith_type1 (PyProof.Rows.args_cons (thn (ha.run pins s σ H _ I h) fun v s1 ⟨x, H1, I1, r1, l, ns, ex, hq, h1, hnd, q1⟩ => PyProof.Rows.args_nil ?_) na) na rfl))
  subst ex
  cases r1
  obtain ⟨its, r, pt, _⟩ := I1.tuple hq
  refine call_set_tupI ns (I1.ok.hd hc) pt (ints_of_vals r) (by unfold scanBound; omega) fun h' tk c R _ keep => PyProof.Rows.args_nil ?_
  obtain ⟨o, es, ep, t, ho, hex, hd, _, nd, mem, hsz, hf, _⟩ := R
  have e : es.size = ns.length := by
    have pm : (es.toList.map keyOf).Perm ns := (List.perm_ext_iff_of_nodup nd hnd).mpr fun k => by rw [← mem]; simp
    have := pm.length_eq
    simpa using this
  have I2 : Inv X pins σ H1 { s1 with heap := h', toks := tk } := I1.kept keep
  exact call_len_set ho hex hd hf (by rw [e]; omega) ⟨.int ns.length, H1, I2.tok _, ⟨_, by rw [e]⟩, q1⟩
end
end GA
/-! ## GL -/
namespace GA
open PySem L2
/-! ### methods of tuples; tuples whose object is known -/
section
variable {X : Cx} {T : String} {name : Str} {id : String} {r : V → List V → Hp → VK → Prop} {o e : Expr} {es : List Expr} {apos cpos : Pos} {to : TE} {t : TA}
theorem k_bm (K : PySem.W.Frag) (pa : PlainAttrs T) (slot : Slot T name id) (hty : typeOf (.builtin id) = pure (.type "method_descriptor")) (hm : MtR X id r) (ho : PE X o to) (ha : PA X (e :: es) t) (hK : X.K = K := by rfl)
    (h1 : attributeBase o name X.env (eval o X.env) = eval o X.env := by rfl)
    (h2 : ((backTo cpos (starEach (e :: es) X.env)).all (fun x => !x.1) && (backToKw cpos (keywordEach [] X.env)).all (fun x => x.1.isSome) && decide ((e :: es).length + ([] : List Keyword).length + (if ([] : List Keyword).isEmpty then 0 else 1) < 30)) = true := by rfl)
    (h3 : (apos.endLine == cpos.line) = true := by rfl) (h4 : starEach (e :: es) X.env = (false, eval e X.env) :: starEach es X.env := by rfl) (h5 : (backTo cpos (starEach es X.env)).any (·.1) = false := by rfl) :
    PE X (.Call (.Attribute o name apos) (e :: es) [] cpos) (tBM K T r to t) := by
  subst hK
  exact pe_bm pa slot hty hm ho ha h1 h2 h3 h4 h5
/-- a tuple whose object is known: it has no names of its own -/
def FrzT (H : Hp) (p : Addr) (xs : List V) : Prop := ∃ ob : Obj, H p = some (.frz ob (.tup xs)) ∧ ob.dict = none
theorem FrzT.sq {K : PySem.W.Frag} {H : Hp} {p : Addr} {xs : List V} (h : FrzT H p xs) : SqT K H p xs := by
  obtain ⟨ob, h, _⟩ := h
  exact .inl (.inr ⟨ob, h⟩)
theorem FrzT.n {H H' : Hp} {p : Addr} {xs : List V} (h : FrzT H p xs) (g : G none H H') : FrzT H' p xs := by
  obtain ⟨ob, h, d⟩ := h
  exact ⟨ob, g.all _ _ h, d⟩
def tBMT (r : V → List V → Hp → VK → Prop) (to : TE) (t : TA) : TE := fun σ H Q => to σ H fun x H1 => (∃ p xs, x = .ref p ∧ FrzT H1 p xs) ∧ t σ H1 fun vs H2 => r x vs H2 Q
theorem w_bmt {r : V → List V → Hp → VK → Prop} {σ : L2.St} {H : Hp} {Q : VK} (q : to σ H fun x H1 => (∃ p xs, x = .ref p ∧ FrzT H1 p xs) ∧ t σ H1 fun vs H2 => r x vs H2 Q) : tBMT r to t σ H Q := q
theorem pe_bmT (pa : PlainAttrs "tuple") (slot : Slot "tuple" name id) (hty : typeOf (.builtin id) = pure (.type "method_descriptor")) (hm : MtR X id r) (ho : PE X o to) (ha : PA X (e :: es) t)
    (h1 : attributeBase o name X.env (eval o X.env) = eval o X.env := by rfl)
    (h2 : ((backTo cpos (starEach (e :: es) X.env)).all (fun x => !x.1) && (backToKw cpos (keywordEach [] X.env)).all (fun x => x.1.isSome) && decide ((e :: es).length + ([] : List Keyword).length + (if ([] : List Keyword).isEmpty then 0 else 1) < 30)) = true := by rfl)
    (h3 : (apos.endLine == cpos.line) = true := by rfl) (h4 : starEach (e :: es) X.env = (false, eval e X.env) :: starEach es X.env := by rfl) (h5 : (backTo cpos (starEach es X.env)).any (·.1) = false := by rfl) :
    PE X (.Call (.Attribute o name apos) (e :: es) [] cpos) (tBMT r to t) := by
  refine ⟨fun pins s σ H Q I h => ?_⟩
  refine wpAny_Call_method_late h1 h2 h3 rfl (thn (ho.run pins s σ H _ I h) fun v s1 ⟨x, H1, I1, r1, ⟨p, xs, ex, ob, hp, dn⟩, q1⟩ => ?_)
  subst ex
  cases r1
  obtain ⟨a1, _, its, _, o', a2, a3, _⟩ := I1.hok p _ hp
  obtain rfl : o' = ob := by
    rw [a1] at a2
    exact (Option.some.inj a2).symm
  refine ⟨"tuple", id, pa, slot, hty, ⟨o', a1, a3⟩, fun a e => by cases e; exact ⟨o', a1, dn⟩, ?_⟩
  have hA := ha.run cpos pins s1 σ H1 _ I1 q1
  rw [h4] at hA ⊢
  refine Calls.callWith_builtin (by show (false || (backTo cpos (starEach es X.env)).any (·.1)) = false; rw [h5] <;> rfl) (Calls.evalArgs_plain ?_)
  exact thn hA fun us s2 ⟨vs, H2, I2, r2, q2⟩ => hm pins s2 σ H2 (.ref p) vs (.ref p) us Q I2 rfl r2 q2
/-- tuple(a list): the new tuple's object is told -/
def rTupleF (K : PySem.W.Frag) : List V → Hp → VK → Prop := fun xs H Q => ∃ p ys, xs = [.ref p] ∧ SqL K H p ys ∧ ∀ l H2, H l = none → (∀ o, G o H H2) → FrzT H2 l ys → Q (.ref l) H2
theorem call_tupleF : CallR X (.type "tuple") (rTupleF X.K) := by
  intro pins s σ H xs us Q I r h
  obtain ⟨p, ys, rfl, hq, q⟩ := h
  obtain ⟨u, rfl, rx⟩ := vals1 r
  cases rx
  obtain ⟨its, r', pl, hz⟩ := I.list hq
  have hlen := r'.length
  refine call_tuple_list pl.isList (fun h' kp => ?_) (by simp only [List.size_toArray] <;> omega)
  have I1 : Inv X pins σ H { s with heap := h' } := I.kept (t' := s.toks) kp
  have new : H h'.objs.size = none := I1.hok.fresh (Nat.le_refl _)
  refine ⟨.ref h'.objs.size, _, I1.laid (o := .frz { cls := .type "tuple", data := .seq its.toArray } (.tup ys)) (t' := s.toks) (fun b o e => Heap.get?_push_of_some _ e) (Nat.le_refl _) ⟨Heap.get?_push_size _ rfl, hz, its, r', PyProof.Rows.IsTup.new _ _⟩, rfl, q _ _ new (fun _ => G.alloc new) ⟨_, upd_same, rfl⟩⟩
end
end GA
/-! ## GM -/
/-! tuples compared item by item, where an item's own == may run -/
namespace GQB
open PySem PySem.SeqAt GQ
open AutoSeq1 (wpAny_loadPart')
open MeetsSeq MeetsSeq2 MeetsSeq3 SeqRoads2
section
variable {prog : Program} {w : World} {A : Around} {R : Result → Shared → Prop}
theorem tuple_eqB (l b : Addr) (items items2 : Array Value) (n n2 : Nat) (dd dd2 : Option Addr) (sl sl2 : Array (Option Value)) (e : Nat → Bool) (I : Shared → Prop)
    (turn : ∀ i (h1 : i < items.size) (h2 : i < items2.size) s, I s → wpAny (model prog w) A.in1 (eqBool items[i] items2[i]) (fun r s' => r = e i ∧ I s') (fun e s' => R (.error e) s') s)
    (fin : ∀ s, I s → R (.ok (.ret (.bool ((List.range (min items.size items2.size)).all e && items.size == items2.size)))) s) {s : Shared} (hl1 : s.heap.get? l = some { cls := .type "tuple", dict := dd, data := .seq items n, slots := sl }) (hb1 : s.heap.get? b = some { cls := .type "tuple", dict := dd2, data := .seq items2 n2, slots := sl2 }) (h : I s) :
    wpAny (model prog w) A.in1 (Builtin.«tuple.__eq__» ⟨[.ref l, .ref b], []⟩) (FinOf prog w A R) (fun e s' => R (.error e) s') s := by
  have f2 := AutoSeq1.sub_tuple_tuple
  have hZ : (items.toList.zip items2.toList).length = min items.size items2.size := by simp
  have h0 := h
  obtain ⟨hp, g, d, tk, os⟩ := s
  wp_walk using wpAny_loadPart' hl1, wpAny_loadPart' hb1, wpAny_forIn_list _ (fun rest b s' => b.1 = none ∧ ∃ i, rest = (items.toList.zip items2.toList).drop i ∧ (∀ j, j < i → e j = true) ∧ I s') _
  case turn =>
    rintro ⟨y, x⟩ rest b s' ⟨hb', i, hz, hi, hI⟩
    have hlt : i < (items.toList.zip items2.toList).length := by
      rcases Nat.lt_or_ge i (items.toList.zip items2.toList).length with h' | h'
      · exact h'
      · rw [List.drop_of_length_le h'] at hz; cases hz
    have hm : i < min items.size items2.size := hZ ▸ hlt
    have h1 : i < items.size := Nat.lt_of_lt_of_le hm (Nat.min_le_left _ _)
    have h2 : i < items2.size := Nat.lt_of_lt_of_le hm (Nat.min_le_right _ _)
    rw [List.drop_eq_getElem_cons hlt] at hz
    injection hz with hyx hrest
    have hy : y = items[i] := by have := congrArg Prod.fst hyx; simpa using this
    have hx : x = items2[i] := by have := congrArg Prod.snd hyx; simpa using this
    subst hy hx
    refine wpAny_bind (wpAny_mono (turn i h1 h2 s' hI) (fun r s2 q2 => ?_) fun _ _ x => x)
    obtain ⟨hr, q2⟩ := q2
    subst hr
    cases hei : e i with
    | true =>
      wp_walk
      refine ⟨rfl, i + 1, hrest, fun j hj => ?_, q2⟩
      rcases Nat.lt_succ_iff_lt_or_eq.mp hj with z | z
      · exact hi j z
      · rw [z]; exact hei
    | false =>
      have al : (List.range (min items.size items2.size)).all e = false := by
        rw [Bool.eq_false_iff]
        intro z
        have := List.all_eq_true.mp z i (List.mem_range.mpr hm)
        rw [hei] at this; cases this
      have hR := fin s2 q2
      rw [al, Bool.false_and] at hR
      wp_walk
      simpa using hR
  case fin =>
    rintro ⟨b1, b2⟩ s' ⟨hb', i, hz, hi, hI⟩
    simp only at hb'
    subst hb'
    have hge : min items.size items2.size ≤ i := by
      rcases Nat.lt_or_ge i (items.toList.zip items2.toList).length with h' | h'
      · rw [List.drop_eq_getElem_cons h'] at hz; cases hz
      · exact hZ ▸ h'
    have al : (List.range (min items.size items2.size)).all e = true := List.all_eq_true.mpr fun j hj => hi j (Nat.lt_of_lt_of_le (List.mem_range.mp hj) hge)
    have hR := fin s' hI
    rw [al, Bool.true_and] at hR
    wp_walk
    simpa [Builtin.Tuple.tupleCompareSizes] using hR
  case h =>
    exact ⟨rfl, 0, rfl, (fun _ h => absurd h (Nat.not_lt_zero _)), h0⟩
end
section
variable {prog : Program} {w : World} {A : Around} {E : Value → Shared → Prop} {s : Shared}
theorem rc_tupB {l b : Addr} {items items2 : Array Value} {Q : Value → Shared → Prop} (hu : A.units < cLine) (e : Nat → Bool) (I : Shared → Prop)
    (hl : s.heap.IsTuple l items) (hb : s.heap.IsTuple b items2)
    (turn : ∀ i (h1 : i < items.size) (h2 : i < items2.size) s, I s → wpAny (model prog w) A.in1 (eqBool items[i] items2[i]) (fun r s' => r = e i ∧ I s') E s)
    (fin : ∀ s, I s → Q (.bool ((List.range (min items.size items2.size)).all e && items.size == items2.size)) s) (h : I s) : wpAny (model prog w) A (richCompare .Eq (.ref l) (.ref b)) Q E s := by
  obtain ⟨⟨cls, dd, data, sl⟩, ho, hc, n, hd⟩ := id hl
  obtain ⟨⟨cls2, dd2, data2, sl2⟩, ho2, hc2, n2, hd2⟩ := id hb
  simp only at hc hd hc2 hd2
  subst hc hd hc2 hd2
  refine wpAny_richCompare_same_room (op := .Eq) ⟨_, ho, rfl⟩ ⟨_, ho2, rfl⟩ F.slot_tuple_eq (call_here F.slot_tuple_eq ⟨_, ho, rfl⟩ F.entry_tuple_eq (F.args_tuple_eq_2 _ _) ?_) hu
  exact tuple_eqB (R := wants (fun v s' => v ≠ .notImplemented ∧ Q v s') E) l b items items2 n n2 dd dd2 sl sl2 e I turn (fun s' q => ⟨(fun x => nomatch x), fin s' q⟩) ho ho2 h
end
end GQB
/-! ## GN -/
namespace GA
open PySem PySem.Spec PyProof.Rows L2
/-! ### any thing, as far as it is looked at -/
inductive Tg where
  | non
  | bl (b : Bool)
  | int (i : Int)
  | str (s : Str)
  | tup (ts : List Tg)
  | oth
/-- an object that is neither a tuple nor flat: a list, a dict, an instance of the class at C -/
def Oth (C : Addr) (H : Hp) (a : Addr) : Prop := (∃ xs, H a = some (.lst xs)) ∨ (∃ kvs, H a = some (.dK kvs)) ∨ ∃ dx fs, H a = some (.ins C dx fs)
mutual
inductive Ab (C hd : Addr) (H : Hp) : V → Tg → Prop
  | non : Ab C hd H .non .non
  | bl (b : Bool) : Ab C hd H (.bl b) (.bl b)
  | int (i : Int) : Ab C hd H (.int i) (.int i)
  | str (x : Str) : Ab C hd H (.str x) (.str x)
  | tup {a : Addr} {xs : List V} {ts : List Tg} : Rd H a (.tup xs) → AbAll C hd H xs ts → Ab C hd H (.ref a) (.tup ts)
  | oth {a : Addr} : a ≠ hd → Oth C H a → Ab C hd H (.ref a) .oth
inductive AbAll (C hd : Addr) (H : Hp) : List V → List Tg → Prop
  | nil : AbAll C hd H [] []
  | cons {v : V} {vs : List V} {t : Tg} {ts : List Tg} : Ab C hd H v t → AbAll C hd H vs ts → AbAll C hd H (v :: vs) (t :: ts)
end
theorem Oth.k {C : Addr} {H H' : Hp} {a : Addr} (h : Oth C H a) (k : ∀ u, H a = some u → H' a = some u) : Oth C H' a := by
  rcases h with ⟨xs, h⟩ | ⟨kvs, h⟩ | ⟨dx, fs, h⟩
  · exact .inl ⟨xs, k _ h⟩
  · exact .inr (.inl ⟨kvs, k _ h⟩)
  · exact .inr (.inr ⟨dx, fs, k _ h⟩)
mutual
theorem Ab.k {C hd : Addr} {H H' : Hp} (t : Ts H H') (k : ∀ a u, a ≠ hd → H a = some u → H' a = some u) : ∀ (g : Tg) (v : V), Ab C hd H v g → Ab C hd H' v g
  | .non, _, h => by cases h; exact .non
  | .bl b, _, h => by cases h; exact .bl b
  | .int b, _, h => by cases h; exact .int b
  | .str b, _, h => by cases h; exact .str b
  | .oth, _, h => by
    cases h with
    | oth n o => exact .oth n (o.k fun u e => k _ u n e)
  | .tup ts, _, h => by
    cases h with
    | tup r a => exact .tup (t _ _ r) (AbAll.k t k ts _ a)
theorem AbAll.k {C hd : Addr} {H H' : Hp} (t : Ts H H') (k : ∀ a u, a ≠ hd → H a = some u → H' a = some u) : ∀ (gs : List Tg) (vs : List V), AbAll C hd H vs gs → AbAll C hd H' vs gs
  | [], _, h => by cases h; exact .nil
  | g :: gs, _, h => by
    cases h with
    | cons h1 h2 => exact .cons (Ab.k t k g _ h1) (AbAll.k t k gs _ h2)
end
/-- whatever may change is the hand alone -/
def OH (o : Option (Addr × Addr)) (hd : Addr) : Prop := ∀ p, o = some p → p.1 = hd
theorem OH.n {hd : Addr} : OH none hd := fun _ e => nomatch e
theorem OH.s {hd c : Addr} : OH (some (hd, c)) hd := fun _ e => by cases e; rfl
section
variable {C hd : Addr} {H H' : Hp} {o : Option (Addr × Addr)}
theorem Ab.g {v : V} {t : Tg} (h : Ab C hd H v t) (g : G o H H') (oh : OH o hd) : Ab C hd H' v t := h.k g.tups (fun a u n e => g.keep a u (fun p ep z => n (z.trans (oh p ep))) e) t v
theorem AbAll.g {vs : List V} {ts : List Tg} (h : AbAll C hd H vs ts) (g : G o H H') (oh : OH o hd) : AbAll C hd H' vs ts := h.k g.tups (fun a u n e => g.keep a u (fun p ep z => n (z.trans (oh p ep))) e) ts vs
theorem Ab.n {v : V} {t : Tg} (h : Ab C hd H v t) (g : G none H H') : Ab C hd H' v t := h.g g OH.n
theorem AbAll.n {vs : List V} {ts : List Tg} (h : AbAll C hd H vs ts) (g : G none H H') : AbAll C hd H' vs ts := h.g g OH.n
theorem AbAll.length : ∀ {vs : List V} {ts : List Tg}, AbAll C hd H vs ts → vs.length = ts.length
  | _, _, .nil => rfl
  | _, _, .cons _ t => by simp [AbAll.length t]
theorem AbAll.get : ∀ {vs : List V} {ts : List Tg} {i : Nat} {v : V}, AbAll C hd H vs ts → vs[i]? = some v → ∃ t, ts[i]? = some t ∧ Ab C hd H v t
  | _, _, _, _, .nil, e => by simp at e
  | _, _, 0, _, .cons h _, e => by simp at e; subst e; exact ⟨_, rfl, h⟩
  | _, _, i + 1, v, .cons _ t, e => by
    obtain ⟨d, h1, h2⟩ := AbAll.get (i := i) (v := v) t (by simpa using e)
    exact ⟨d, by simpa using h1, h2⟩
theorem AbAll.get' : ∀ {vs : List V} {ts : List Tg} {i : Nat} {t : Tg}, AbAll C hd H vs ts → ts[i]? = some t → ∃ v, vs[i]? = some v ∧ Ab C hd H v t
  | _, _, _, _, .nil, e => by simp at e
  | _, _, 0, _, .cons h _, e => by simp at e; subst e; exact ⟨_, rfl, h⟩
  | _, _, i + 1, v, .cons _ t, e => by
    obtain ⟨d, h1, h2⟩ := AbAll.get' (i := i) (t := v) t (by simpa using e)
    exact ⟨d, by simpa using h1, h2⟩
theorem AbAll.app : ∀ {vs ws : List V} {ts us : List Tg}, AbAll C hd H vs ts → AbAll C hd H ws us → AbAll C hd H (vs ++ ws) (ts ++ us)
  | _, _, _, _, .nil, h => h
  | _, _, _, _, .cons h t, h' => .cons h (AbAll.app t h')
theorem AbAll.take : ∀ {vs : List V} {ts : List Tg} (n : Nat), AbAll C hd H vs ts → AbAll C hd H (vs.take n) (ts.take n)
  | _, _, 0, _ => by simp; exact .nil
  | _, _, n + 1, .nil => by simp; exact .nil
  | _, _, n + 1, .cons h t => by simp; exact .cons h (AbAll.take n t)
theorem AbAll.drop : ∀ {vs : List V} {ts : List Tg} (n : Nat), AbAll C hd H vs ts → AbAll C hd H (vs.drop n) (ts.drop n)
  | _, _, 0, h => h
  | _, _, n + 1, .nil => by simp; exact .nil
  | _, _, n + 1, .cons h t => by simp; exact AbAll.drop n t
theorem rd_one {a : Addr} {xs ys : List V} (h : Rd H a (.tup xs)) (h' : Rd H a (.tup ys)) : xs = ys := by
  rcases h with h | ⟨o, h⟩ <;> rcases h' with h' | ⟨o', h'⟩ <;> rw [h] at h' <;> cases h' <;> rfl
theorem rd_oth {a : Addr} {xs : List V} (h : Rd H a (.tup xs)) (h' : Oth C H a) : False := by
  rcases h with h | ⟨o, h⟩ <;> rcases h' with ⟨_, h'⟩ | ⟨_, h'⟩ | ⟨_, _, h'⟩ <;> rw [h] at h' <;> cases h'
mutual
theorem Ab.one : ∀ (g : Tg) (v : V) (g' : Tg), Ab C hd H v g → Ab C hd H v g' → g = g'
  | .non, _, _, h, h' => by cases h; cases h'; rfl
  | .bl b, _, _, h, h' => by cases h; cases h'; rfl
  | .int b, _, _, h, h' => by cases h; cases h'; rfl
  | .str b, _, _, h, h' => by cases h; cases h'; rfl
  | .oth, _, _, h, h' => by
    cases h with
    | oth n o =>
      cases h' with
      | oth _ _ => rfl
      | tup r _ => exact (rd_oth r o).elim
  | .tup ts, _, _, h, h' => by
    cases h with
    | tup r a =>
      cases h' with
      | oth _ o => exact (rd_oth r o).elim
      | tup r' a' =>
        obtain rfl := rd_one r r'
        rw [AbAll.one ts _ _ a a']
theorem AbAll.one : ∀ (gs : List Tg) (vs : List V) (gs' : List Tg), AbAll C hd H vs gs → AbAll C hd H vs gs' → gs = gs'
  | [], _, _, h, h' => by cases h; cases h'; rfl
  | g :: gs, _, _, h, h' => by
    cases h with
    | cons h1 h2 =>
      cases h' with
      | cons h1' h2' => rw [Ab.one g _ _ h1 h1', AbAll.one gs _ _ h2 h2']
end
end
/-! ### isinstance of them -/
structure InsK (K : PySem.W.Frag) (C : Addr) : Prop where
  ic : C8.InsC K C
  int : PySem.W.kitOne K (.ref C) (.type "int") = some false
  bool : PySem.W.kitOne K (.ref C) (.type "bool") = some false
  tuple : PySem.W.kitOne K (.ref C) (.type "tuple") = some false
  str : PySem.W.kitOne K (.ref C) (.type "str") = some false
def isT : String → Tg → Bool
  | "int", .int _ => true
  | "int", .bl _ => true
  | "bool", .bl _ => true
  | "str", .str _ => true
  | "tuple", .tup _ => true
  | _, _ => false
theorem ab_isi {K : PySem.W.Frag} {C hd : Addr} {H : Hp} {v : V} {t : Tg} {n : String} {Q : VK} (I : InsK K C) (h : Ab C hd H v t) (hn : n = "int" ∨ n = "bool" ∨ n = "str" ∨ n = "tuple") (q : Q (.bl (isT n t)) H) : rIsi K [v, .ty n] H Q := by
  have mk : ∀ (ty : Value) (b : Bool), TyX K H v ty → PySem.W.kitOne K ty (.type n) = some b → isT n t = b → rIsi K [v, .ty n] H Q := fun ty b h1 h2 h3 => ⟨v, .ty n, ty, .type n, b, rfl, .ty n, h1, h2, h3 ▸ q⟩
  cases h with
  | non => exact mk _ (isT n .non) (.base .non) (by rcases hn with rfl | rfl | rfl | rfl <;> exact kit_ty (by decide +kernel)) rfl
  | bl b => exact mk _ (isT n (.bl b)) (.base (.bl b)) (by rcases hn with rfl | rfl | rfl | rfl <;> exact kit_ty (by cases b <;> decide +kernel)) rfl
  | int i => exact mk _ (isT n (.int 0)) (.base (.int i)) (by rcases hn with rfl | rfl | rfl | rfl <;> exact kit_ty (by decide +kernel)) (by rcases hn with rfl | rfl | rfl | rfl <;> rfl)
  | str x => exact mk _ (isT n (.str "")) (.base (.str x)) (by rcases hn with rfl | rfl | rfl | rfl <;> exact kit_ty (by decide +kernel)) (by rcases hn with rfl | rfl | rfl | rfl <;> rfl)
  | @tup a xs ts r al =>
    have ty : TyX K H (.ref a) (.type "tuple") := by
      rcases r with r | ⟨o, r⟩
      · exact .base (.tup r)
      · exact .fTuple r
    exact mk _ (isT n (.tup [])) ty (by rcases hn with rfl | rfl | rfl | rfl <;> exact kit_ty (by decide +kernel)) (by rcases hn with rfl | rfl | rfl | rfl <;> rfl)
  | @oth a ne o =>
    rcases o with ⟨xs, o⟩ | ⟨kvs, o⟩ | ⟨dx, fs, o⟩
    · exact mk _ (isT n .oth) (.base (.lst o)) (by rcases hn with rfl | rfl | rfl | rfl <;> exact kit_ty (by decide +kernel)) rfl
    · exact mk _ (isT n .oth) (.base (.dK o)) (by rcases hn with rfl | rfl | rfl | rfl <;> exact kit_ty (by decide +kernel)) rfl
    · refine mk _ (isT n .oth) (.base (.ins o I.ic.cl I.ic.ha I.ic.hn I.ic.htk I.ic.hm)) ?_ rfl
      rcases hn with rfl | rfl | rfl | rfl
      · exact I.int
      · exact I.bool
      · exact I.str
      · exact I.tuple
/-! ### t >= u, tuples of ints -/
def rGeT (K : PySem.W.Frag) : R2 := fun x y H Q => ∃ (a b : Addr) (ns ms : List Int), x = .ref a ∧ y = .ref b ∧ SqT K H a (ns.map V.int) ∧ SqT K H b (ms.map V.int) ∧
  Q (.bl (Ob.lexAt (fun j => decide (ns.getD j 0 = ms.getD j 0)) (fun j => decide (ms.getD j 0 ≤ ns.getD j 0)) (decide (ns.length ≥ ms.length)) 0 (min ns.length ms.length))) H
theorem op_geT {X : Cx} (hu : X.A.units < cLine) : OpR X (compareOp .GtE) (rGeT X.K) := by
  intro pins s σ H x y v u Q I rx ry h
  obtain ⟨a, b, ns, ms, rfl, rfl, ha, hb, q⟩ := h
  cases rx
  cases ry
  obtain ⟨its, r1, p1, _⟩ := I.tuple ha
  obtain ⟨its2, r2, p2, _⟩ := I.tuple hb
  have i1 : IntsAre its ns := Vals.ints r1
  have i2 : IntsAre its2 ms := Vals.ints r2
  have e1 : its.toArray.size = ns.length := by rw [List.size_toArray]; exact i1.length
  have e2 : its2.toArray.size = ms.length := by rw [List.size_toArray]; exact i2.length
  have at1 : ∀ j (h1 : j < its.toArray.size), ∃ t, its.toArray[j] = .int (ns.getD j 0) t := fun j h1 => PyProof.Rows.IntsAre.int_at i1 _ _ (by simp at h1; simp [h1])
  have at2 : ∀ j (h1 : j < its2.toArray.size), ∃ t, its2.toArray[j] = .int (ms.getD j 0) t := fun j h1 => PyProof.Rows.IntsAre.int_at i2 _ _ (by simp at h1; simp [h1])
  have R := Ob.RcOp.tuples_ge (A := X.A) (s := s) (e := fun j => decide (ns.getD j 0 = ms.getD j 0)) (r := fun j => decide (ms.getD j 0 ≤ ns.getD j 0)) p1 p2 hu (fun j h1 h2 => by
    obtain ⟨t, et⟩ := at1 j h1
    obtain ⟨t', et'⟩ := at2 j h2
    rw [et, et']
    have z : (ns.getD j 0 == ms.getD j 0) = decide (ns.getD j 0 = ms.getD j 0) := by
      by_cases q : ns.getD j 0 = ms.getD j 0
      · rw [decide_eq_true q]; exact beq_iff_eq.mpr q
      · rw [decide_eq_false q]; exact beq_eq_false_iff_ne.mpr q
    rw [← z]
    exact SeqAt.EqAt.int_int _ _ _ _) (fun j h1 h2 _ => by
    obtain ⟨t, et⟩ := at1 j h1
    obtain ⟨t', et'⟩ := at2 j h2
    rw [et, et']
    exact Ob.RcOp.ge_int _ _ _ _)
  rw [e1, e2] at R
  exact R X.prog X.w X.xe _ ⟨.bl _, H, I, rfl, q⟩
/-! ### tuples told by what they hold -/
def rCatR : R2 := fun x y H Q => ∃ a b xs ys, x = .ref a ∧ y = .ref b ∧ Rd H a (.tup xs) ∧ Rd H b (.tup ys) ∧ xs.length + ys.length ≤ 100000 ∧ ∀ p H2, (∀ o, G o H H2) → Rd H2 p (.tup (xs ++ ys)) → Q (.ref p) H2
theorem op_catR {X : Cx} : OpR X (binaryOp .Add) rCatR := OpR.weak op_catA fun x y H Q h => by
  obtain ⟨a, b, xs, ys, e1, e2, h1, h2, hz, q⟩ := h
  refine ⟨a, b, xs, ys, e1, e2, .inl h1, .inl h2, sz hz, fun e => ?_, fun _ e => ?_, fun _ _ p hp => ?_⟩
  · subst e; exact q b H (fun _ => G.refl) h2
  · subst e; exact q a H (fun _ => G.refl) (by rw [List.append_nil]; exact h1)
  · exact q p _ (fun _ => G.alloc hp) (.inl upd_same)
def rSlR : V → Option Int → Option Int → Hp → VK → Prop := fun x lo hi H Q => ∃ a xs, x = .ref a ∧ Rd H a (.tup xs) ∧ ∀ p H2, (∀ o, G o H H2) → Rd H2 p (.tup (cutV xs lo hi)) → Q (.ref p) H2
theorem sl_tupR {X : Cx} : SlR X rSlR := SlR.weak sl_tupA fun x lo hi H Q ⟨a, xs, e, h, q⟩ => ⟨a, xs, e, .inl h, fun w => q a H (fun _ => G.refl) (by
    have c : cutV xs lo hi = xs := by
      unfold cutV
      rw [w.1, w.2, List.drop_zero, Nat.sub_zero, List.take_length]
    rw [c]; exact h), fun _ p hp => q p _ (fun _ => G.alloc hp) (.inl upd_same)⟩
end GA
/-! ## GO -/
namespace GA
open PySem PySem.Spec PyProof.Rows L2
/-! ### what the head tells of a class -/
theorem kit_mro {K : PySem.W.Frag} {C : Addr} {n : String} {b : Bool} (h : PySem.W.mroIn K C (.type n) = some b) (hm : PySem.W.kitMeta n = true) : PySem.W.kitOne K (.ref C) (.type n) = some b := by
  unfold PySem.W.kitOne
  have e : ((Value.ref C : Value) == .type n) = false := rfl
  rw [e, if_neg Bool.false_ne_true]
  show (if PySem.W.kitMeta n = true then PySem.W.subIn K (.ref C) (.type n) else none) = some b
  rw [if_pos hm]
  exact h
theorem InsK.of {K : PySem.W.Frag} {C : Addr} (ic : C8.InsC K C) (hi : PySem.W.mroIn K C (.type "int") = some false) (hb : PySem.W.mroIn K C (.type "bool") = some false) (ht : PySem.W.mroIn K C (.type "tuple") = some false) (hs : PySem.W.mroIn K C (.type "str") = some false) : InsK K C :=
  ⟨ic, kit_mro hi (by decide +kernel), kit_mro hb (by decide +kernel), kit_mro ht (by decide +kernel), kit_mro hs (by decide +kernel)⟩
theorem cls_some {K : PySem.W.Frag} {C : Addr} {b : Value} {r : Bool} (h : PySem.W.mroIn K C b = some r) : (PySem.W.clsIn K C).isSome = true := by
  unfold PySem.W.mroIn at h
  cases e : PySem.W.clsIn K C with
  | none => rw [e] at h; cases h
  | some _ => rfl
theorem kit_own {K : PySem.W.Frag} {C : Addr} {T : String} {l : List Value} (hc : (PySem.W.clsIn K C).isSome = true) (hty : PySem.W.typeIn K (.ref C) = some (.type "type")) (hf : fastBuiltinMro T = some l) (hl : l.contains (.ref C) = false) : PySem.W.kitOne K (.type T) (.ref C) = some false := by
  unfold PySem.W.kitOne
  have e : ((Value.type T : Value) == .ref C) = false := rfl
  rw [e, if_neg Bool.false_ne_true]
  show (if ((PySem.W.clsIn K C).isSome && PySem.W.typeIn K (.ref C) == some (.type "type")) = true then PySem.W.subIn K (.type T) (.ref C) else none) = some false
  have z : (PySem.W.typeIn K (.ref C) == some (.type "type")) = true := by rw [hty]; exact beq_self_eq_true _
  rw [hc, z, Bool.and_self, if_pos rfl]
  show (fastBuiltinMro T).map (·.contains (.ref C)) = some false
  rw [hf, Option.map_some, hl]
theorem not_first {K : PySem.W.Frag} {C : Addr} {T : String} {l : List Value} (hf : fastBuiltinMro T = some l) (hl : l.contains (.ref C) = false) : PySem.W.notFirst K C (.type T) = true := by
  unfold PySem.W.notFirst
  have e : PySem.W.subIn K (.type T) (.ref C) = some false := by
    show (fastBuiltinMro T).map (·.contains (.ref C)) = some false
    rw [hf, Option.map_some, hl]
  rw [e]; exact Bool.or_true _
theorem fb_tuple : fastBuiltinMro "tuple" = some [.type "tuple", .type "object"] := by decide +kernel
theorem fb_int : fastBuiltinMro "int" = some [.type "int", .type "object"] := by decide +kernel
/-! ### x == y by x's own == -/
section
variable {X : Cx} {n : Nat} {CX : CXT} {C f : Addr} {fd : FuncData} {ps : List Str} {sp : Sp} {E : XK}
theorem rc_own (F : FnOk X.prog X.w X.K X.mg X.base CX n f fd ps sp) (hs : PySem.W.findIn X.K (.ref C) "__eq__" = some (some (.ref f))) (hf : PySem.W.isFn X.K (.ref f) = true) (hb : Binds X.K fd ps []) (hx : Passes CX X E)
    {A : Around} {pins : List (Addr × Obj)} {s : Shared} {σ : L2.St} {H : Hp} {a dx : Addr} {fs : List (Str × V)} {y : V} {v t : Value} {Q : Bool → Hp → Prop}
    (sb : Sub X n A) (I : Inv X pins σ H s) (ha : H a = some (.ins C dx fs)) (ry : RelV y v) (ty : TyX X.K H y t) (nf : PySem.W.notFirst X.K C t = true) (hsp : sp [.ref a, y] H (fun z H' => ∃ b, z = .bl b ∧ Q b H') E) :
    wpAny (model X.prog X.w) A (richCompare .Eq (.ref a) v) (fun r s' => ∃ b H', r = .bool b ∧ Inv X pins σ H' s' ∧ Q b H') X.xe s := by
  obtain ⟨mA, J, _⟩ := ins_get I.hok ha
  obtain ⟨od, J, _⟩ := J.look
  obtain ⟨P, Z, p, _⟩ := kit_of I ry ty
  obtain ⟨m, hF⟩ := I.fr
  refine PySem.W.cmp_K (op := .Eq) (tb := t) sb.room.units0 hF I.ok.mod.kin J (Z.ty _ _ I.kIn p) nf hs hf ?_
  have e0 : Env0 X.prog X.w X.K X.mg X.base A X.stack s H := by
    have e := I.env0
    exact ⟨by rw [sb.fr]; exact e.frames, e.mod, e.bs, e.bsz, e.funs, e.frf, e.hok, e.bare⟩
  have hl := F.len _ _ _ _ hsp
  have r2 : Vals [V.ref a, y] [Value.ref a, v] := .cons rfl (.cons ry .nil)
  refine wpAny_call (codeAny_mono (F.run A X.stack s H ⟨[.ref a, v], []⟩ [.ref a, v] [.ref a, y] _ E sb.room e0 (by
    have := hb s [.ref a, v] I.kIn (by simpa using hl)
    simpa using this) r2 hsp) fun r s' hq => ?_)
  cases r with
  | error e => exact hx pins σ H s e s' I hq
  | ok fl =>
    cases fl with
    | ret w =>
      obtain ⟨z, H', I', rz, b, ez, q⟩ := I.after hq
      subst ez
      cases rz
      exact ⟨b, H', rfl, I', q⟩
    | next => exact False.elim hq
    | brk => exact False.elim hq
    | cont => exact False.elim hq
/-- x == y, x an instance of the class at C -/
def rEqI (K : PySem.W.Frag) (C : Addr) (sp : Sp) (E : XK) : R2 := fun x y H Q => ∃ a dx fs t, x = .ref a ∧ H a = some (.ins C dx fs) ∧ TyX K H y t ∧ PySem.W.notFirst K C t = true ∧ sp [.ref a, y] H (fun z H' => ∃ b, z = .bl b ∧ Q (.bl b) H') E
theorem op_eqI (F : FnOk X.prog X.w X.K X.mg X.base CX n f fd ps sp) (hs : PySem.W.findIn X.K (.ref C) "__eq__" = some (some (.ref f))) (hf : PySem.W.isFn X.K (.ref f) = true) (hb : Binds X.K fd ps []) (hx : Passes CX X E) (hr : Room n X.A) : OpR X (compareOp .Eq) (rEqI X.K C sp E) := by
  intro pins s σ H x y u v Q I rx ry h
  obtain ⟨a, dx, fs, t, rfl, ha, ty, nf, hsp⟩ := h
  cases rx
  show wpAny (model X.prog X.w) X.A (richCompare .Eq (.ref a) v) (EP X pins σ Q) X.xe s
  refine wpAny_mono (rc_own F hs hf hb hx (Q := fun b H' => Q (.bl b) H') ⟨hr, rfl⟩ I ha ry ty nf hsp) (fun r s' z => ?_) fun _ _ x => x
  obtain ⟨b, H', rfl, I', q⟩ := z
  exact ⟨.bl b, H', I', rfl, q⟩
/-! ### any thing == data of ints and tuples -/
mutual
def eqT : Tg → Tg → Bool
  | .tup ts, .tup us => eqTs ts us
  | .int i, .int j => decide (i = j)
  | .bl b, .int j => decide ((if b then 1 else 0) = j)
  | _, _ => false
def eqTs : List Tg → List Tg → Bool
  | [], [] => true
  | t :: ts, u :: us => eqT t u && eqTs ts us
  | _, _ => false
end
/-- what only ints and tuples make up -/
inductive Pl : Nat → Tg → Prop
  | int {d : Nat} (i : Int) : Pl d (.int i)
  | tup {d : Nat} {us : List Tg} : (∀ u ∈ us, Pl d u) → Pl (d + 1) (.tup us)
mutual
theorem eqT_self : ∀ (d : Nat) (t : Tg), Pl d t → eqT t t = true
  | _, .int i, _ => by simp [eqT]
  | _, .tup ts, .tup h => by rw [eqT]; exact eqTs_self _ ts h
theorem eqTs_self : ∀ (d : Nat) (ts : List Tg), (∀ u ∈ ts, Pl d u) → eqTs ts ts = true
  | _, [], _ => rfl
  | d, t :: ts, h => by rw [eqTs, eqT_self d t (h t List.mem_cons_self), eqTs_self d ts fun u hu => h u (List.mem_cons_of_mem _ hu)]; rfl
end
theorem eqTs_all : ∀ (ts us : List Tg), eqTs ts us = ((List.range (min ts.length us.length)).all (fun i => eqT (ts.getD i .non) (us.getD i .non)) && ts.length == us.length)
  | [], [] => rfl
  | [], _ :: _ => by simp [eqTs]
  | _ :: _, [] => by simp [eqTs]
  | t :: ts, u :: us => by
    rw [eqTs, eqTs_all ts us]
    simp only [List.length_cons, Nat.succ_min_succ, List.range_succ_eq_map, List.all_cons, List.getD_cons_zero, List.all_map]
    have e : (ts.length + 1 == us.length + 1) = (ts.length == us.length) := by
      by_cases h : ts.length = us.length
      · rw [h]; simp
      · have h' : ¬ ts.length + 1 = us.length + 1 := by omega
        rw [beq_eq_false_iff_ne.mpr h, beq_eq_false_iff_ne.mpr h']
    rw [e, Bool.and_assoc]
    congr 2
/-- what an instance's own == says of what is none of its class -/
def spNe (C : Addr) : Sp := fun vs H Q _ => ∃ a y, vs = [.ref a, y] ∧ (∃ dx fs, H a = some (.ins C dx fs)) ∧ ((∃ j, y = .int j) ∨ ∃ b ys, y = .ref b ∧ Rd H b (.tup ys)) ∧ ∀ H', G none H H' → Q (.bl false) H'
def EqB (X : Cx) (n : Nat) (D : V → V → Bool → Hp → Prop) : Prop :=
  ∀ (A : Around) (pins : List (Addr × Obj)) (s : Shared) (σ : L2.St) (H : Hp) (x y : V) (u v : Value) (b : Bool), Sub X n A → Inv X pins σ H s → RelV x u → RelV y v → D x y b H →
    wpAny (model X.prog X.w) A (eqBool u v) (fun r s' => r = b ∧ ∃ H', Inv X pins σ H' s' ∧ G none H H') X.xe s
def DAb (C hd : Addr) (d : Nat) : V → V → Bool → Hp → Prop := fun x y b H => ∃ t u, Ab C hd H x t ∧ Ab C hd H y u ∧ Pl d u ∧ b = eqT t u
theorem rd_ty {K : PySem.W.Frag} {H : Hp} {b : Addr} {ys : List V} (r : Rd H b (.tup ys)) : TyX K H (.ref b) (.type "tuple") := by
  rcases r with r | ⟨o, r⟩
  · exact .base (.tup r)
  · exact .fTuple r
end
end GA
/-! ## GP -/
/-! a dict == an int, a tuple -/
namespace GQD
open PySem PySem.SeqAt
open AutoSeq1 (wpAny_loadPart')
open MeetsSeq
theorem dict_eq_declines_int (l : Addr) (es : Array DictEntry) (ep : Nat) (dd : Option Addr) (sl : Array (Option Value)) (b : Int) (u : Tok) :
    Meets (Builtin.«dict.__eq__» ⟨[.ref l, .int b u], []⟩) (fun _ R s => s.heap.get? l = some { cls := .type "dict", dict := dd, data := .dict es ep, slots := sl } ∧ R (.ok (.ret .notImplemented)) s) :=
  .of_wp fun prog w A R s h => by obtain ⟨hp, g, d, tk, os⟩ := s; obtain ⟨hl, h⟩ := h; have f1 := F.sub_int_dict; wp_walk using wpAny_loadPart' hl; exact ⟨_, rfl, h⟩
theorem int_eq_declines_dict (b : Int) (u : Tok) (l : Addr) (es : Array DictEntry) (ep : Nat) (dd : Option Addr) (sl : Array (Option Value)) :
    Meets (Builtin.«int.__eq__» ⟨[.int b u, .ref l], []⟩) (fun _ R s => s.heap.get? l = some { cls := .type "dict", dict := dd, data := .dict es ep, slots := sl } ∧ R (.ok (.ret .notImplemented)) s) :=
  .of_wp fun prog w A R s h => by obtain ⟨hp, g, d, tk, os⟩ := s; obtain ⟨hl, h⟩ := h; wp_walk using wpAny_loadPart' hl, wpAny_load hl; exact ⟨_, rfl, h⟩
theorem dict_eq_declines_tuple (l b : Addr) (es : Array DictEntry) (ep : Nat) (items2 : Array Value) (n2 : Nat) (dd dd2 : Option Addr) (sl sl2 : Array (Option Value)) :
    Meets (Builtin.«dict.__eq__» ⟨[.ref l, .ref b], []⟩) (fun _ R s => s.heap.get? l = some { cls := .type "dict", dict := dd, data := .dict es ep, slots := sl } ∧ s.heap.get? b = some { cls := .type "tuple", dict := dd2, data := .seq items2 n2, slots := sl2 } ∧ R (.ok (.ret .notImplemented)) s) :=
  .of_wp fun prog w A R s h => by obtain ⟨hp, g, d, tk, os⟩ := s; obtain ⟨hl, hb, h⟩ := h; have f1 := F.sub_tuple_dict; wp_walk using wpAny_loadPart' hl, wpAny_loadPart' hb; exact ⟨_, rfl, h⟩
theorem tuple_eq_declines_dict (l b : Addr) (es : Array DictEntry) (ep : Nat) (items : Array Value) (n : Nat) (dd dd2 : Option Addr) (sl sl2 : Array (Option Value)) :
    Meets (Builtin.«tuple.__eq__» ⟨[.ref l, .ref b], []⟩) (fun _ R s => s.heap.get? l = some { cls := .type "tuple", dict := dd, data := .seq items n, slots := sl } ∧ s.heap.get? b = some { cls := .type "dict", dict := dd2, data := .dict es ep, slots := sl2 } ∧ R (.ok (.ret .notImplemented)) s) :=
  .of_wp fun prog w A R s h => by obtain ⟨hp, g, d, tk, os⟩ := s; obtain ⟨hl, hb, h⟩ := h; have f1 := F.sub_dict_tuple; wp_walk using wpAny_loadPart' hl, wpAny_loadPart' hb; exact ⟨_, rfl, h⟩
section
variable {A : Around} {s : Shared} {l b : Addr} {es : Array DictEntry} {ep : Nat} {dd : Option Addr} {sl : Array (Option Value)} {items2 : Array Value}
theorem RcAt.dict_int (i : Int) (u : Tok) (ho : s.heap.get? l = some { cls := .type "dict", dict := dd, data := .dict es ep, slots := sl }) (hu : A.units < cLine) : RcAt A s (.ref l) (.int i u) false := fun prog w E Q h =>
  rc_eq_decline_or (k := false) ⟨_, ho, rfl⟩ (typeIs_int s i u) (by decide) F.sub_int_dict F.slot_dict_eq F.slot_int_eq_refl
    (fun _ hq => call_meets F.slot_dict_eq ⟨_, ho, rfl⟩ F.entry_dict_eq (F.args_dict_eq_2 _ _) (dict_eq_declines_int l es ep dd sl i u) ⟨ho, hq⟩)
    (fun _ hq => call_meets F.slot_int_eq_refl (typeIs_int s i u) F.entry_int_eq (F.args_int_eq_2 _ _) (int_eq_declines_dict i u l es ep dd sl) ⟨ho, hq⟩)
    (fun _ hq => wpAny_of_eq (rfl : isSame (.ref l) (.int i u) = pure false) hq) (.inr hu) h
theorem EqAt.dict_int (i : Int) (u : Tok) (ho : s.heap.get? l = some { cls := .type "dict", dict := dd, data := .dict es ep, slots := sl }) (hu : A.units < cLine) : EqAt A s (.ref l) (.int i u) false := fun prog w E Q h => by
  unfold eqBool
  refine wpAny_holding ?_
  refine wpAny_ite_split (fun hab => absurd (eq_of_beq hab) nofun) (fun _ => ?_)
  exact wpAny_bind (RcAt.dict_int i u ho hu prog w E _ (wpAny_truthy_bool h))
theorem RcAt.dict_tuple (ho : s.heap.get? l = some { cls := .type "dict", dict := dd, data := .dict es ep, slots := sl }) (hb : s.heap.IsTuple b items2) (hu : A.units < cLine) : RcAt A s (.ref l) (.ref b) false := fun prog w E Q h => by
  have hne : l ≠ b := fun e => by
    obtain ⟨o, h1, h2, _⟩ := hb
    rw [← e, ho] at h1
    cases h1
    exact absurd h2 (by simp)
  obtain ⟨⟨cls2, dd2, data2, sl2⟩, ho2, hc2, n2, hd2⟩ := id hb
  simp only at hc2 hd2
  subst hc2 hd2
  exact (rc_eq_decline_or (k := false) ⟨_, ho, rfl⟩ ⟨_, ho2, rfl⟩ (by decide) F.sub_tuple_dict F.slot_dict_eq F.slot_tuple_eq_refl
    (fun _ hq => call_meets F.slot_dict_eq ⟨_, ho, rfl⟩ F.entry_dict_eq (F.args_dict_eq_2 _ _) (dict_eq_declines_tuple l b es ep items2 n2 dd dd2 sl sl2) ⟨ho, ho2, hq⟩)
    (fun _ hq => call_meets F.slot_tuple_eq_refl ⟨_, ho2, rfl⟩ F.entry_tuple_eq (F.args_tuple_eq_2 _ _) (tuple_eq_declines_dict b l es ep items2 n2 dd2 dd sl2 sl) ⟨ho2, ho, hq⟩)
    (fun _ hq => wpAny_isSame_ref_other hne ho ho2 (by simp) hq) (.inr hu) h)
end
end GQD
namespace GA
open PySem PySem.Spec PyProof.Rows L2
section
variable {X : Cx} {n : Nat} {CX : CXT} {C f hd : Addr} {fd : FuncData} {ps : List Str} {sp : Sp} {E : XK}
theorem eqBool_int {prog : Program} {w : World} {A : Around} {a : Addr} {j : Int} {t : Tok} {Q : Bool → Shared → Prop} {E : Value → Shared → Prop} {s : Shared} (h : wpAny (model prog w) A (richCompare .Eq (.ref a) (.int j t)) (fun v s' => ∃ r, v = .bool r ∧ Q r s') E s) : wpAny (model prog w) A (eqBool (.ref a) (.int j t)) Q E s := by
  unfold eqBool
  refine wpAny_holding ?_
  refine wpAny_ite_split (fun hab => absurd (eq_of_beq hab) nofun) (fun _ => ?_)
  refine wpAny_bind (wpAny_mono h (fun v s' hv => ?_) fun _ _ x => x)
  obtain ⟨r, rfl, q⟩ := hv
  exact wpAny_truthy_bool q
theorem dk_obj {P : Program} {w : World} {H : Hp} {h : Heap} {a : Addr} {kvs : List (L2.Key × V)} (hok : HOk P w H h) (e : H a = some (.dK kvs)) : ∃ es ep dd sl, h.get? a = some { cls := .type "dict", dict := dd, data := .dict es ep, slots := sl } := by
  obtain ⟨_, _, vs, _, o, es, ep, h1, h2, h3, _⟩ := (show ObjOk P w H h a (.dK kvs) from hok a _ e)
  obtain ⟨c, d, dt, s⟩ := o
  have hc := h2.1
  simp only at hc h3
  subst hc h3
  exact ⟨es, ep, d, s, h1⟩
/-- what must be known of the own == -/
structure OwnEq (X : Cx) (n : Nat) (CX : CXT) (C f : Addr) (fd : FuncData) (ps : List Str) (sp : Sp) (E : XK) : Prop where
  F : FnOk X.prog X.w X.K X.mg X.base CX n f fd ps sp
  hs : PySem.W.findIn X.K (.ref C) "__eq__" = some (some (.ref f))
  hf : PySem.W.isFn X.K (.ref f) = true
  hb : Binds X.K fd ps []
  hx : Passes CX X E
  ne : ∀ vs H Q E', spNe C vs H Q E' → sp vs H Q E'
theorem nf_int {K : PySem.W.Frag} {C : Addr} : PySem.W.notFirst K C (.type "int") = true := not_first fb_int rfl
theorem nf_tuple {K : PySem.W.Frag} {C : Addr} : PySem.W.notFirst K C (.type "tuple") = true := not_first fb_tuple rfl
theorem rc_own_ne (O : OwnEq X n CX C f fd ps sp E) {A : Around} {pins : List (Addr × Obj)} {s : Shared} {σ : L2.St} {H : Hp} {a : Addr} {y : V} {v : Value} (sb : Sub X n A) (I : Inv X pins σ H s) (ha : ∃ dx fs, H a = some (.ins C dx fs)) (ry : RelV y v)
    (hy : (∃ j, y = .int j) ∨ ∃ b ys, y = .ref b ∧ Rd H b (.tup ys)) : wpAny (model X.prog X.w) A (richCompare .Eq (.ref a) v) (fun r s' => ∃ H', r = .bool false ∧ Inv X pins σ H' s' ∧ G none H H') X.xe s := by
  obtain ⟨dx, fs, ha⟩ := ha
  have hsp : sp [.ref a, y] H (fun z H' => ∃ b, z = .bl b ∧ (b = false ∧ G none H H')) E := O.ne _ _ _ _ ⟨a, y, rfl, ⟨dx, fs, ha⟩, hy, fun H' g => ⟨false, rfl, rfl, g⟩⟩
  have go : ∀ t, TyX X.K H y t → PySem.W.notFirst X.K C t = true → wpAny (model X.prog X.w) A (richCompare .Eq (.ref a) v) (fun r s' => ∃ H', r = .bool false ∧ Inv X pins σ H' s' ∧ G none H H') X.xe s := fun t ty nf =>
    wpAny_mono (rc_own O.F O.hs O.hf O.hb O.hx (Q := fun b H' => b = false ∧ G none H H') sb I ha ry ty nf hsp) (fun r s' ⟨b, H', e, I', eb, g⟩ => ⟨H', by rw [e, eb], I', g⟩) fun _ _ x => x
  rcases hy with ⟨j, rfl⟩ | ⟨b, ys, rfl, r⟩
  · exact go _ (.base (.int j)) nf_int
  · exact go _ (rd_ty r) nf_tuple
theorem eqB_ab (O : OwnEq X n CX C f fd ps sp E) : ∀ d, EqB X (n + d + 1) (DAb C hd d)
  | d => by
    intro A pins s σ H x y u v b sb I rx ry h
    obtain ⟨t, g, hx, hy, pl, rfl⟩ := h
    have pure_ : ∀ {r : Bool}, SeqAt.EqAt A s u v r → wpAny (model X.prog X.w) A (eqBool u v) (fun r' s' => r' = r ∧ ∃ H', Inv X pins σ H' s' ∧ G none H H') X.xe s := fun q => q X.prog X.w X.xe _ ⟨rfl, H, I, G.refl⟩
    have hu := sb.room.units0
    have sbn : Sub X n A := sb.mono (by omega)
    cases pl with
    | int j =>
      cases hy
      obtain ⟨tk, rfl⟩ := (show ∃ tk, v = Value.int j tk from ry)
      cases hx with
      | non => cases (show u = Value.none from rx); exact pure_ (SeqAt.EqAt.none_int j tk)
      | bl c =>
        cases (show u = Value.bool c from rx)
        have e : eqT (.bl c) (.int j) = ((if c then 1 else 0) == j) := by cases c <;> simp [eqT, Bool.beq_eq_decide_eq] <;> rfl
        rw [e]
        exact pure_ (SeqAt.EqAt.bool_int c j tk)
      | int i =>
        obtain ⟨tk2, rfl⟩ := (show ∃ tk, u = Value.int i tk from rx)
        have e : eqT (.int i) (.int j) = (i == j) := by
          rw [eqT]
          by_cases q : i = j
          · rw [decide_eq_true q]; exact (beq_iff_eq.mpr q).symm
          · rw [decide_eq_false q]; exact (beq_eq_false_iff_ne.mpr q).symm
        rw [e]
        exact pure_ (SeqAt.EqAt.int_int i tk2 j tk)
      | str x => obtain ⟨tk2, rfl⟩ := (show ∃ tk, u = Value.str x tk from rx); exact pure_ (SeqAt.EqAt.str_int x tk2 j tk)
      | @tup a xs ts r al =>
        cases (show u = Value.ref a from rx)
        obtain ⟨its, rv, p, _⟩ := I.tuple (.inl r)
        exact pure_ (SeqAt.EqAt.tuple_int j tk p hu)
      | @oth a ne o =>
        cases (show u = Value.ref a from rx)
        rcases o with ⟨xs, o⟩ | ⟨kvs, o⟩ | o
        · obtain ⟨its, rv, p, _⟩ := I.list (.inl (.inl o))
          exact pure_ (SeqAt.EqAt.list_int j tk p.isList hu)
        · obtain ⟨es, ep, dd, sl, e⟩ := dk_obj I.hok o
          exact pure_ (GQD.EqAt.dict_int j tk e hu)
        · refine eqBool_int (wpAny_mono (rc_own_ne O sbn I o ry (.inl ⟨j, rfl⟩)) (fun r s' ⟨H', e, I', g⟩ => ⟨false, e, rfl, H', I', g⟩) fun _ _ x => x)
    | @tup d' us hpl =>
      cases hy with
      | @tup b ys _ r2 al2 =>
        cases (show v = Value.ref b from ry)
        obtain ⟨its2, rv2, p2, _⟩ := I.tuple (.inl r2)
        cases hx with
        | non => cases (show u = Value.none from rx); exact pure_ (SeqAt.EqAt.none_tuple p2 hu)
        | bl c => cases (show u = Value.bool c from rx); exact pure_ (SeqAt.EqAt.bool_tuple c p2 hu)
        | int i => obtain ⟨tk2, rfl⟩ := (show ∃ tk, u = Value.int i tk from rx); exact pure_ (SeqAt.EqAt.int_tuple i tk2 p2 hu)
        | str x => obtain ⟨tk2, rfl⟩ := (show ∃ tk, u = Value.str x tk from rx); exact pure_ (SeqAt.EqAt.str_tuple x tk2 p2 hu)
        | @oth a ne o =>
          cases (show u = Value.ref a from rx)
          have hne : a ≠ b := fun e => rd_oth r2 (e ▸ o)
          rcases o with ⟨xs, o⟩ | ⟨kvs, o⟩ | o
          · obtain ⟨its, rv, p, _⟩ := I.list (.inl (.inl o))
            exact pure_ (SeqAt.EqAt.list_tuple p.isList p2 hu)
          · obtain ⟨es, ep, dd, sl, e⟩ := dk_obj I.hok o
            exact pure_ (SeqAt.EqAt.of_refs hne (GQD.RcAt.dict_tuple e p2 hu))
          · exact GQ.eqBool_refG hne (wpAny_mono (rc_own_ne O sbn I o ry (.inr ⟨b, ys, rfl, r2⟩)) (fun r s' ⟨H', e, I', g⟩ => ⟨false, e, rfl, H', I', g⟩) fun _ _ x => x)
        | @tup a xs ts r al =>
          cases (show u = Value.ref a from rx)
          obtain ⟨its, rv, p, _⟩ := I.tuple (.inl r)
          by_cases hab : a = b
          · subst hab
            obtain rfl := rd_one r r2
            obtain rfl := AbAll.one _ _ _ al al2
            rw [eqT_self (d' + 1) (.tup ts) (.tup hpl)]
            exact pure_ (SeqAt.EqAt.same _)
          · have l1 : its.toArray.size = ts.length := by rw [List.size_toArray, ← rv.length, al.length]
            have l2 : its2.toArray.size = us.length := by rw [List.size_toArray, ← rv2.length, al2.length]
            refine GQ.eqBool_refG hab (GQB.rc_tupB hu (fun i => eqT (ts.getD i .non) (us.getD i .non)) (fun s' => ∃ H', Inv X pins σ H' s' ∧ G none H H') p p2 (fun i h1 h2 s' ⟨H', I', g⟩ => ?_) (fun s' ⟨H', I', g⟩ => ⟨_, rfl, ?_, H', I', g⟩) ⟨H, I, G.refl⟩)
            · have h1' : i < its.length := by simpa using h1
              have h2' : i < its2.length := by simpa using h2
              have k1 : i < xs.length := by rw [rv.length]; exact h1'
              have k2 : i < ys.length := by rw [rv2.length]; exact h2'
              obtain ⟨u', hu', ru⟩ := rv.get (List.getElem?_eq_getElem k1)
              obtain ⟨v', hv', rw'⟩ := rv2.get (List.getElem?_eq_getElem k2)
              obtain ⟨t', ht', at_⟩ := al.get (List.getElem?_eq_getElem k1)
              obtain ⟨g', hg', ag⟩ := al2.get (List.getElem?_eq_getElem k2)
              rw [List.getElem?_eq_getElem h1'] at hu'
              rw [List.getElem?_eq_getElem h2'] at hv'
              have e1 : its.toArray[i] = u' := by simpa using Option.some.inj hu'
              have e2 : its2.toArray[i] = v' := by simpa using Option.some.inj hv'
              have e3 : ts.getD i .non = t' := by rw [List.getD_eq_getElem?_getD, ht']; rfl
              have e4 : us.getD i .non = g' := by rw [List.getD_eq_getElem?_getD, hg']; rfl
              rw [e1, e2, e3, e4]
              refine wpAny_mono (eqB_ab O d' A.in1 pins s' σ H' _ _ u' v' _ (sb.in1.mono (by omega)) I' ru rw' ⟨t', g', at_.n g, ag.n g, hpl g' (List.mem_of_getElem? hg'), rfl⟩) (fun r s2 ⟨e, H2, I2, g2⟩ => ⟨e, H2, I2, g.trans g2⟩) fun _ _ x => x
            · rw [l1, l2, eqT, eqTs_all]
end
end GA
/-! ## GQ1 -/
namespace GA
open PySem PySem.Spec PyProof.Rows L2
section
variable {X : Cx} {n : Nat} {CX : CXT} {C f hd : Addr} {fd : FuncData} {ps : List Str} {sp : Sp} {E : XK}
/-- any thing == a tuple of ints and tuples -/
def rEqAb (C hd : Addr) (d : Nat) : R2 := fun x y H Q => ∃ t us, Ab C hd H x t ∧ Ab C hd H y (.tup us) ∧ (∀ u ∈ us, Pl d u) ∧ ∀ H', G none H H' → Q (.bl (eqT t (.tup us))) H'
theorem op_eqAb (O : OwnEq X n CX C f fd ps sp E) (d : Nat) (hr : Room (n + d + 2) X.A) : OpR X (compareOp .Eq) (rEqAb C hd d) := by
  intro pins s σ H x y u v Q I rx ry h
  obtain ⟨t, us, hx, hy, hpl, q⟩ := h
  have sb : Sub X (n + d + 2) X.A := ⟨hr, rfl⟩
  have sbn : Sub X n X.A := sb.mono (by omega)
  have hu := sb.room.units0
  have pure_ : ∀ {r : Bool}, SeqAt.RcAt X.A s u v r → r = eqT t (.tup us) → wpAny (model X.prog X.w) X.A (richCompare .Eq u v) (EP X pins σ Q) X.xe s := fun k e => k X.prog X.w X.xe _ ⟨.bl _, H, I, rfl, e ▸ q H G.refl⟩
  show wpAny (model X.prog X.w) X.A (richCompare .Eq u v) (EP X pins σ Q) X.xe s
  cases hy with
  | @tup b ys _ r2 al2 =>
    cases (show v = Value.ref b from ry)
    obtain ⟨its2, rv2, p2, _⟩ := I.tuple (.inl r2)
    cases hx with
    | non => cases (show u = Value.none from rx); exact pure_ (SeqAt.RcAt.none_tuple p2 hu) rfl
    | bl c => cases (show u = Value.bool c from rx); exact pure_ (SeqAt.RcAt.bool_tuple c p2 hu) rfl
    | int i => obtain ⟨tk2, rfl⟩ := (show ∃ tk, u = Value.int i tk from rx); exact pure_ (SeqAt.RcAt.int_tuple i tk2 p2 hu) rfl
    | str x => obtain ⟨tk2, rfl⟩ := (show ∃ tk, u = Value.str x tk from rx); exact pure_ (SeqAt.RcAt.str_tuple x tk2 p2 hu) rfl
    | @oth a ne o =>
      cases (show u = Value.ref a from rx)
      rcases o with ⟨xs, o⟩ | ⟨kvs, o⟩ | o
      · obtain ⟨its, rv, p, _⟩ := I.list (.inl (.inl o))
        exact pure_ (SeqAt.RcAt.list_tuple p.isList p2 hu) rfl
      · obtain ⟨es, ep, dd, sl, e⟩ := dk_obj I.hok o
        exact pure_ (GQD.RcAt.dict_tuple e p2 hu) rfl
      · exact wpAny_mono (rc_own_ne O sbn I o ry (.inr ⟨b, ys, rfl, r2⟩)) (fun r s' ⟨H', e, I', g⟩ => ⟨.bl false, H', I', e, q H' g⟩) fun _ _ x => x
    | @tup a xs ts r al =>
      cases (show u = Value.ref a from rx)
      obtain ⟨its, rv, p, _⟩ := I.tuple (.inl r)
      have l1 : its.toArray.size = ts.length := by rw [List.size_toArray, ← rv.length, al.length]
      have l2 : its2.toArray.size = us.length := by rw [List.size_toArray, ← rv2.length, al2.length]
      refine GQB.rc_tupB hu (fun i => eqT (ts.getD i .non) (us.getD i .non)) (fun s' => ∃ H', Inv X pins σ H' s' ∧ G none H H') p p2 (fun i h1 h2 s' ⟨H', I', g⟩ => ?_) (fun s' ⟨H', I', g⟩ => ⟨.bl (eqT (.tup ts) (.tup us)), H', I', ?_, q H' g⟩) ⟨H, I, G.refl⟩
      · have h1' : i < its.length := by simpa using h1
        have h2' : i < its2.length := by simpa using h2
        have k1 : i < xs.length := by rw [rv.length]; exact h1'
        have k2 : i < ys.length := by rw [rv2.length]; exact h2'
        obtain ⟨u', hu', ru⟩ := rv.get (List.getElem?_eq_getElem k1)
        obtain ⟨v', hv', rw'⟩ := rv2.get (List.getElem?_eq_getElem k2)
        obtain ⟨t', ht', at_⟩ := al.get (List.getElem?_eq_getElem k1)
        obtain ⟨g', hg', ag⟩ := al2.get (List.getElem?_eq_getElem k2)
        rw [List.getElem?_eq_getElem h1'] at hu'
        rw [List.getElem?_eq_getElem h2'] at hv'
        have e1 : its.toArray[i] = u' := by simpa using Option.some.inj hu'
        have e2 : its2.toArray[i] = v' := by simpa using Option.some.inj hv'
        have e3 : ts.getD i .non = t' := by rw [List.getD_eq_getElem?_getD, ht']; rfl
        have e4 : us.getD i .non = g' := by rw [List.getD_eq_getElem?_getD, hg']; rfl
        rw [e1, e2, e3, e4]
        exact wpAny_mono (eqB_ab O d X.A.in1 pins s' σ H' _ _ u' v' _ (sb.in1.mono (by omega)) I' ru rw' ⟨t', g', at_.n g, ag.n g, hpl g' (List.mem_of_getElem? hg'), rfl⟩) (fun r s2 ⟨e, H2, I2, g2⟩ => ⟨e, H2, I2, g.trans g2⟩) fun _ _ x => x
      · show Value.bool _ = Value.bool _
        rw [l1, l2, eqT, eqTs_all]
end
/-! ### exceptions -/
theorem passE0 {P : Program} {w : World} {X : Cx} : Passes (L2.CX P w) X E0 := fun _ _ _ _ _ _ _ h => by
  obtain ⟨_, _, _, _, _, _, _, _, _, _, _, _, z⟩ := h
  exact z.elim
/-- isinstance(e, c), e the exception that the suite holds, its own names in the dict d -/
def rIsX (K : PySem.W.Frag) (D a : Addr) (d : Option Addr) : List V → Hp → VK → Prop := fun xs H Q => ∃ (c : V) (u : Value) (b : Bool) (dd : Addr) (fs : List (Str × V)), xs = [.ref a, c] ∧ ClsV c u ∧ d = some dd ∧ H dd = some (.xd fs) ∧ PySem.W.kitOne K (.ref D) u = some b ∧ Q (.bl b) H
theorem call_isX {X : Cx} {a D : Addr} {oe : Obj} {d : Option Addr} {cls : Value} {pn : List (Addr × Obj)} (C : ExcC X.K D) (hz : Zc cls d oe) (hc : cls = .ref D) (hf : ∃ vs, oe.data = .fields vs) : CallR (X.suite a ((a, oe) :: pn)) (.builtin "isinstance") (rIsX X.K D a d) := by
  intro pins s σ H xs us Q I r h
  obtain ⟨c, u, b, dd, fs, rfl, hcv, ed, ea, e, q⟩ := h
  obtain ⟨u1, u2, rfl, r1, r2⟩ := vals2 r
  cases (show u1 = Value.ref a from r1)
  have e2 := hcv.eq r2
  subst e2
  subst hc
  subst ed
  obtain ⟨hget, _⟩ := I.pin (a, oe) (List.mem_append.mpr (.inl List.mem_cons_self))
  obtain ⟨vs, hv⟩ := hf
  have hx : ObjOk X.prog X.w H s.heap dd (.xd fs) := I.hok dd _ ea
  obtain ⟨mA, hns, hr⟩ := hx
  obtain ⟨od, ho, hl⟩ := lookIn_ns hns
  have J : PySem.W.InstAt s.heap a oe D (some od) := ⟨hget, hz.1, by unfold PySem.W.notCls; rw [hv] <;> rfl, by rw [hz.2]; exact ho⟩
  have hcl : (PySem.W.clsIn X.K D).isSome = true := cls_some C.hm
  exact PySem.W.kia_one (PySem.W.kitx_exc hcl C.hg C.hk C.hs C.ha C.hn C.ht C.hm) I.kIn J e (fun z => nomatch z) fun tk => ⟨.bl b, H, I.kept (t' := tk) fun _ _ z => z, rfl, q⟩
end GA
/-! ## GR -/
namespace GA
open PySem PySem.Spec PyProof.Rows L2
/-! ### an instance whose own __init__ may raise, called where the slots are known -/
section
variable {X : Cx} {CX : CXT} {k : Nat} {f C : Addr} {fd : FuncData} {ps : List Str} {sp : Sp}
theorem run_makeS {E : XK} {pins : List (Addr × Obj)} {σ : L2.St} {H : Hp} {s : Shared} {Q : VK} {us : List Value} {vs : List V}
    (M : Mk X.K C f) (F : FnOk X.prog X.w X.K X.mg X.base CX k f fd ps sp) (hr : Room (k + 1) X.A) (hb : Binds X.K fd ps []) (hp : PassesAt CX X σ E) (I : Inv X pins σ H s) (r : Vals vs us)
    (h : ∀ x dx, H x = none → H dx = none → dx ≠ x → sp (.ref x :: (vs ++ [])) (upd (upd H dx (.own x)) x (.ins C dx [])) (fun v H2 => v = .non ∧ Q (.ref x) H2) E) :
    wpAny (model X.prog X.w) X.A (call (.ref C) us) (EP X pins σ Q) X.xe s := by
  have n0 : H s.heap.objs.size = none := I.hok.fresh (Nat.le_refl _)
  have n1 : H (s.heap.objs.size + 1) = none := I.hok.fresh (Nat.le_succ _)
  have hq := h _ _ n1 n0 (Nat.ne_of_lt (Nat.lt_succ_self _))
  have J := Inv.made (C := C) I
  have rr : Vals (V.ref (s.heap.objs.size + 1) :: (vs ++ [])) (Value.ref (s.heap.objs.size + 1) :: us) := .cons rfl (by rw [List.append_nil]; exact r)
  have len : (Value.ref (s.heap.objs.size + 1) :: us ++ []).length = ps.length := by
    rw [List.append_nil]
    exact rr.length.symm.trans (F.len _ _ _ _ hq)
  have bd := hb _ (Value.ref (s.heap.objs.size + 1) :: us) J.kIn len
  rw [List.append_nil] at bd
  refine wpAny_call (make_map (f := f) I.kIn M.makes M.init (beq_iff_eq.mp M.fn) (codeAny_mono (F.run _ X.stack _ _ ⟨Value.ref (s.heap.objs.size + 1) :: us, []⟩ (Value.ref (s.heap.objs.size + 1) :: us) _ _ E (hr.make C us []) (J.env0.make C us []) bd rr hq) fun b s' z => ?_))
  match b, z with
  | .error e, z => exact hp pins _ _ e s' J z
  | .ok (.ret u), z =>
    obtain ⟨v, H', J3, rv, ev, q3⟩ := J.after z
    subst ev
    exact ⟨rv, .ref (s.heap.objs.size + 1), H', J3, rfl, q3⟩
  | .ok .next, z => exact False.elim z
  | .ok .brk, z => exact False.elim z
  | .ok .cont, z => exact False.elim z
def tMakeS (C : Addr) (sp : Sp) (E : L2.St → XK) (t : TA) : TE := fun σ H Q => t σ H fun vs H1 => ∀ x dx, H1 x = none → H1 dx = none → dx ≠ x → sp (.ref x :: (vs ++ [])) (upd (upd H1 dx (.own x)) x (.ins C dx [])) (fun v H2 => v = .non ∧ Q (.ref x) H2) (E σ)
theorem w_makeS {E : L2.St → XK} {t : TA} {σ : L2.St} {H : Hp} {Q : VK} (q : t σ H fun vs H1 => ∀ x dx, H1 x = none → H1 dx = none → dx ≠ x → sp (.ref x :: (vs ++ [])) (upd (upd H1 dx (.own x)) x (.ins C dx [])) (fun v H2 => v = .non ∧ Q (.ref x) H2) (E σ)) : tMakeS C sp E t σ H Q := q
theorem pe_makeS {E : L2.St → XK} {x : Str} {p pos : Pos} {e : Expr} {es : List Expr} {t : TA} (M : Mk X.K C f) (F : FnOk X.prog X.w X.K X.mg X.base CX k f fd ps sp) (hr : Room (k + 1) X.A) (hg : Gl X x) (hm : X.mg x = some (.ref C)) (hb : Binds X.K fd ps []) (hp : ∀ σ, PassesAt CX X σ (E σ)) (ha : PA X (e :: es) t)
    (hd : (x == ("__debug__" : Str)) = false := by decide) (he : starEach (e :: es) X.env = (false, eval e X.env) :: starEach es X.env := by rfl) (hl : (backTo pos (starEach es X.env)).any (·.1) = false := by rfl) :
    PE X (.Call (.Name x p) (e :: es) [] pos) (tMakeS C sp E t) := by
  constructor
  intro pins s σ H Q I h
  refine wpAny_Call_Name_kw (ld_glob I hg hm ?_ hd)
  refine PySem.W.callWith_K (h₀ := X.base) I.ok.mod.kin M.kp (thn (ha.run pos pins s σ H _ I h) fun us s1 z => ?_) he hl
  obtain ⟨vs, H1, I1, r, q⟩ := z
  exact ⟨I1.kIn, run_makeS M F hr hb (hp σ) I1 r q⟩
end
/-! ### the caught error is asked of what class it is -/
def rIsX' (K : PySem.W.Frag) (D a : Addr) (cls : Value) (d : Option Addr) : List V → Hp → VK → Prop := fun xs H Q => cls = .ref D ∧ rIsX K D a d xs H Q
theorem call_isX' {X : Cx} {a D : Addr} {oe : Obj} {d : Option Addr} {cls : Value} {pn : List (Addr × Obj)} (C : ExcC X.K D) (hz : Zc cls d oe) (hf : ∃ vs, oe.data = .fields vs) : CallR (X.suite a ((a, oe) :: pn)) (.builtin "isinstance") (rIsX' X.K D a cls d) := by
  intro pins s σ H xs us Q I r h
  exact call_isX C hz h.1 hf pins s σ H xs us Q I r h.2
theorem w_xf {a C : Addr} {cls : Value} {d : Option Addr} {f : Str} {te : TE} {σ : L2.St} {H : Hp} {Q : VK} (q : te σ H fun x H1 => x = .ref a ∧ cls = .ref C ∧ ∃ (dd : Addr) (fs : List (Str × V)) (v : V), d = some dd ∧ H1 dd = some (.xd fs) ∧ fs.lookup f = some v ∧ Q v H1) : tXf a cls d C f te σ H Q := q
/-- any thing == a tuple of ints and tuples, whatever the hand -/
def rEqAb' (C : Addr) (d : Nat) : R2 := fun x y H Q => ∃ hd, rEqAb C hd d x y H Q
theorem op_eqAb' {X : Cx} {n : Nat} {CX : CXT} {C f : Addr} {fd : FuncData} {ps : List Str} {sp : Sp} {E : XK} (O : OwnEq X n CX C f fd ps sp E) (d : Nat) (hr : Room (n + d + 2) X.A) : OpR X (compareOp .Eq) (rEqAb' C d) := by
  intro pins s σ H x y u v Q I rx ry h
  obtain ⟨hd, h⟩ := h
  exact op_eqAb (hd := hd) O d hr pins s σ H x y u v Q I rx ry h
/-! ### any thing of ints and tuples is data -/
mutual
def tgD : Tg → PyData
  | .non => .none
  | .bl b => .bool b
  | .int i => .int i
  | .str x => .str x
  | .tup ts => .tuple (tgDs ts)
  | .oth => .none
def tgDs : List Tg → List PyData
  | [] => []
  | t :: ts => tgD t :: tgDs ts
end
mutual
theorem Ab.dp {K : PySem.W.Frag} {C hd : Addr} {H : Hp} : ∀ (d : Nat) (t : Tg) (v : V), Pl d t → Ab C hd H v t → Dp K H v (tgD t)
  | _, .int i, _, _, h => by cases h; exact .int i
  | _, .tup ts, _, .tup hp, h => by
    cases h with
    | tup r al => exact .tup (.inl r) (AbAll.dp _ ts _ hp al)
theorem AbAll.dp {K : PySem.W.Frag} {C hd : Addr} {H : Hp} : ∀ (d : Nat) (ts : List Tg) (vs : List V), (∀ u ∈ ts, Pl d u) → AbAll C hd H vs ts → DpAll K H vs (tgDs ts)
  | _, [], _, _, h => by cases h; exact .nil
  | d, t :: ts, _, hp, h => by
    cases h with
    | cons h1 h2 => exact .cons (Ab.dp d t _ (hp t List.mem_cons_self) h1) (AbAll.dp d ts _ (fun u hu => hp u (List.mem_cons_of_mem _ hu)) h2)
end
/-! ### pairs -/
theorem AbAll.two {C hd : Addr} {H : Hp} {xs : List V} {t1 t2 : Tg} (h : AbAll C hd H xs [t1, t2]) : ∃ v1 v2, xs = [v1, v2] ∧ Ab C hd H v1 t1 ∧ Ab C hd H v2 t2 := by
  cases h with
  | cons h1 h =>
    cases h with
    | cons h2 h => cases h; exact ⟨_, _, rfl, h1, h2⟩
theorem Ab.int_inv {C hd : Addr} {H : Hp} {v : V} {i : Int} (h : Ab C hd H v (.int i)) : v = .int i := by cases h; rfl
theorem Ab.pair {C hd : Addr} {H : Hp} {v : V} {x y : Int} (h : Ab C hd H v (.tup [.int x, .int y])) : ∃ p, v = .ref p ∧ Rd H p (.tup [.int x, .int y]) := by
  cases h with
  | tup r al =>
    obtain ⟨_, _, rfl, a1, a2⟩ := al.two
    obtain rfl := a1.int_inv
    obtain rfl := a2.int_inv
    exact ⟨_, rfl, r⟩
/-! ### the first of some numbers that is not right -/
def fw (f : Nat → Bool) (n : Nat) : Option Nat := (List.range n).find? fun i => !f i
theorem fw_none {f : Nat → Bool} {n : Nat} (h : ∀ j, j < n → f j = true) : fw f n = none := by
  unfold fw
  rw [List.find?_eq_none]
  intro j hj
  rw [h j (List.mem_range.mp hj)]
  decide
theorem fw_some {f : Nat → Bool} : ∀ {n i : Nat}, i < n → (∀ j, j < i → f j = true) → f i = false → fw f n = some i
  | 0, i, hi, _, _ => absurd hi (Nat.not_lt_zero _)
  | n + 1, i, hi, h, hf => by
    unfold fw
    rw [List.range_succ, List.find?_append]
    by_cases c : i < n
    · have e : (List.range n).find? (fun i => !f i) = some i := fw_some c h hf
      rw [e]; rfl
    · have ei : i = n := by omega
      subst ei
      have e : (List.range i).find? (fun i => !f i) = none := fw_none h
      rw [e]
      simp [hf]
/-! ### tuples of ints, by their order -/
theorem le_pair {a b c d : Int} : Ob.lexAt (fun j => decide (([a, b] : List Int).getD j 0 = ([c, d] : List Int).getD j 0)) (fun j => decide (([a, b] : List Int).getD j 0 ≤ ([c, d] : List Int).getD j 0)) (decide (([a, b] : List Int).length ≤ ([c, d] : List Int).length)) 0 (min ([a, b] : List Int).length ([c, d] : List Int).length) = !(decide (c < a) || (decide (c = a) && decide (d < b))) := by
  by_cases e : a = c
  · subst e
    by_cases e2 : b = d
    · subst e2; simp [Ob.lexAt]
    · simp [Ob.lexAt, e2]; by_cases e3 : b ≤ d <;> simp [e3] <;> omega
  · have e' : ¬ c = a := fun z => e z.symm
    simp [Ob.lexAt, e, e']; by_cases e3 : a ≤ c <;> simp [e3] <;> omega
theorem ge_pair {a b c d : Int} : Ob.lexAt (fun j => decide (([a, b] : List Int).getD j 0 = ([c, d] : List Int).getD j 0)) (fun j => decide (([c, d] : List Int).getD j 0 ≤ ([a, b] : List Int).getD j 0)) (decide (([a, b] : List Int).length ≥ ([c, d] : List Int).length)) 0 (min ([a, b] : List Int).length ([c, d] : List Int).length) = !(decide (a < c) || (decide (a = c) && decide (b < d))) := by
  by_cases e : a = c
  · subst e
    by_cases e2 : b = d
    · subst e2; simp [Ob.lexAt]
    · simp [Ob.lexAt, e2]; by_cases e3 : d ≤ b <;> simp [e3] <;> omega
  · simp [Ob.lexAt, e]; by_cases e3 : c ≤ a <;> simp [e3] <;> omega
end GA
/-! ## GS -/
namespace GA
open PySem PySem.Spec PyProof.Rows L2
/-! ### len(set(t)), t a tuple of ints -/
theorem not_nodup_less {α : Type} [DecidableEq α] : ∀ {l : List α}, ¬ l.Nodup → ∃ m : List α, m.length < l.length ∧ ∀ x ∈ l, x ∈ m
  | [], h => absurd List.nodup_nil h
  | x :: l, h => by
    by_cases c : x ∈ l
    · refine ⟨l, by simp, fun y hy => ?_⟩
      rcases List.mem_cons.mp hy with e | e
      · exact e ▸ c
      · exact e
    · obtain ⟨m, h1, h2⟩ := not_nodup_less (l := l) fun n => h (List.nodup_cons.mpr ⟨c, n⟩)
      refine ⟨x :: m, by simpa using h1, fun y hy => ?_⟩
      rcases List.mem_cons.mp hy with e | e
      · exact e ▸ List.mem_cons_self
      · exact List.mem_cons_of_mem _ (h2 y e)
theorem few_iff {ks ns : List Int} (nd : ks.Nodup) (mem : ∀ k, k ∈ ks ↔ k ∈ ns) : ks.length = ns.length ↔ ns.Nodup := by
  constructor
  · intro e
    by_cases c : ns.Nodup
    · exact c
    · obtain ⟨m, h1, h2⟩ := not_nodup_less c
      have := List.Nodup.length_le_of_subset (l₂ := m) nd fun x hx => h2 x ((mem x).mp hx)
      omega
  · intro h
    exact ((List.perm_ext_iff_of_nodup nd h).mpr mem).length_eq
section
variable {X : Cx}
def tLenSetTG (K : PySem.W.Frag) (ta : TE) : TE := fun σ H Q => ta σ H fun x H1 => ∃ (l : Addr) (ns : List Int), x = V.ref l ∧ SqT K H1 l (ns.map V.int) ∧ ns.length ≤ 1000 ∧ ∀ k : Nat, (k = ns.length ↔ ns.Nodup) → Q (.int k) H1
theorem w_lenSetTG {K : PySem.W.Frag} {ta : TE} {σ : L2.St} {H : Hp} {Q : VK} (q : ta σ H fun x H1 => ∃ (l : Addr) (ns : List Int), x = V.ref l ∧ SqT K H1 l (ns.map V.int) ∧ ns.length ≤ 1000 ∧ ∀ k : Nat, (k = ns.length ↔ ns.Nodup) → Q (.int k) H1) : tLenSetTG K ta σ H Q := q
theorem pe_lenSetTG {a : Expr} {ta : TE} {p p2 q pos : Pos} (hc : X.calm = true) (hg : Gl X "len") (hm : X.mg "len" = none) (hg2 : Gl X "set") (hm2 : X.mg "set" = none) (ha : PE X a ta)
    (na : starEach [a] X.env = (false, eval a X.env) :: starEach [] X.env := by rfl) : PE X (.Call (.Name "len" p) [.Call (.Name "set" p2) [a] [] q] [] pos) (tLenSetTG X.K ta) := by
  refine ⟨fun pins s σ H Q I h => Call_ (ld_blt I hg hm PySem.boot_len (PyProof.Rows.callWith_builtin1 (PyProof.Rows.args_cons ?_ rfl) rfl rfl))⟩
  refine Call_ (ld_blt I hg2 hm2 PyProof.Rows.boot_set (PyProof.Rows.callWith_type1 (PyProof.Rows.args_cons (thn (ha.run pins s σ H _ I h) fun v s1 ⟨x, H1, I1, r1, l, ns, ex, hq, h1, q1⟩ => PyProof.Rows.args_nil ?_) na) na rfl))
  subst ex
  cases r1
  obtain ⟨its, r, pt, _⟩ := I1.tuple hq
  refine call_set_tupI ns (I1.ok.hd hc) pt (ints_of_vals r) (by unfold scanBound; omega) fun h' tk c R _ keep => PyProof.Rows.args_nil ?_
  obtain ⟨o, es, ep, t, ho, hex, hd, _, nd, mem, hsz, hf, _⟩ := R
  have mem' : ∀ k, k ∈ es.toList.map keyOf ↔ k ∈ ns := fun k => by rw [← mem]; simp
  have e := few_iff nd mem'
  have le : es.size ≤ ns.length := by
    have := List.Nodup.length_le_of_subset (l₂ := ns) nd fun x hx => (mem' x).mp hx
    simpa using this
  have I2 : Inv X pins σ H1 { s1 with heap := h', toks := tk } := I1.kept keep
  exact call_len_set ho hex hd hf (by omega) ⟨.int es.size, H1, I2.tok _, ⟨_, rfl⟩, q1 es.size (by simpa using e)⟩
end
/-! ### tuples of ints, small ones -/
theorem AbAll.ints_inv {C hd : Addr} {H : Hp} : ∀ {d : List Int} {xs : List V}, AbAll C hd H xs (d.map Tg.int) → xs = d.map V.int
  | [], _, h => by cases h; rfl
  | i :: d, _, h => by
    cases h with
    | cons h1 h2 => rw [h1.int_inv, AbAll.ints_inv h2]; rfl
mutual
def smT : Tg → Bool
  | .tup ts => decide (ts.length ≤ 1000) && smTs ts
  | _ => true
def smTs : List Tg → Bool
  | [] => true
  | t :: ts => smT t && smTs ts
end
theorem smTs_all : ∀ {ts : List Tg}, smTs ts = true → ∀ t ∈ ts, smT t = true
  | [], _, _, h => nomatch h
  | t :: ts, h, u, hu => by
    rw [smTs, Bool.and_eq_true] at h
    rcases List.mem_cons.mp hu with e | e
    · rw [e]; exact h.1
    · exact smTs_all h.2 u e
theorem smTs_of : ∀ {ts : List Tg}, (∀ t ∈ ts, smT t = true) → smTs ts = true
  | [], _ => rfl
  | t :: ts, h => by
    rw [smTs, h t List.mem_cons_self, smTs_of fun u hu => h u (List.mem_cons_of_mem _ hu)]; rfl
theorem smT_tup {ts : List Tg} (h : smT (.tup ts) = true) : ts.length ≤ 1000 ∧ ∀ t ∈ ts, smT t = true := by
  rw [smT, Bool.and_eq_true, decide_eq_true_eq] at h
  exact ⟨h.1, smTs_all h.2⟩
theorem smT_of {ts : List Tg} (h : ts.length ≤ 1000) (k : ∀ t ∈ ts, smT t = true) : smT (.tup ts) = true := by
  rw [smT, smTs_of k, decide_eq_true h]; rfl
/-! ### t[::-1] of a tuple -/
theorem vals_pick {xs : List V} {its : List Value} (r : Vals xs its) (f : Nat → Nat) : ∀ l : List Nat, Vals (l.filterMap fun k => xs[f k]?) (l.filterMap fun k => its[f k]?)
  | [] => .nil
  | k :: l => by
    have ih := vals_pick r f l
    rw [List.filterMap_cons, List.filterMap_cons]
    by_cases c : f k < xs.length
    · obtain ⟨u, hu, ru⟩ := r.get (List.getElem?_eq_getElem c)
      rw [List.getElem?_eq_getElem c, hu]
      exact .cons ru ih
    · have c2 : ¬ f k < its.length := by rw [← r.length]; exact c
      rw [List.getElem?_eq_none (by omega), List.getElem?_eq_none (by omega)]
      exact ih
theorem pick_le {α : Type} (f : Nat → Option α) : ∀ l : List Nat, (l.filterMap f).length ≤ l.length := fun l => List.length_filterMap_le f l
theorem neg_adjust (n : Nat) : Builtin.Slice.sliceAdjust none none (-1) (n : Int) = ((n : Int) - 1, -1) := by
  unfold Builtin.Slice.sliceAdjust
  simp
theorem neg_places (n : Nat) : Builtin.Slice.slicePlaces ((n : Int) - 1) (-1) (-1) = n := by
  unfold Builtin.Slice.slicePlaces
  cases n with
  | zero => simp
  | succ n =>
    simp
    split <;> omega
section
variable {prog : Program} {w : World} {A : Around} {E : Value → Shared → Prop} {s : Shared}
theorem slice_back {sl : Addr} {vl vu vs : Value} {n : Nat} {Q : Int × Int × Nat → Shared → Prop} (hs : s.heap.IsSliceOf sl vl vu vs) (pl : IsPart vl none) (pu : IsPart vu none) (ps : IsPart vs (some (-1))) (h : Q ((n : Int) - 1, -1, n) s) :
    wpAny (model prog w) A (Builtin.Slice.sliceApplied (.ref sl) (pure (n : Int))) Q E s := by
  obtain ⟨os, hos, hcs, hds⟩ := id hs
  unfold Builtin.Slice.sliceApplied Builtin.Slice.sliceFields
  refine wpAny_bind (wpAny_bind (wpAny_field hos hds (x := vl) rfl (wpAny_bind (wpAny_field hos hds (x := vu) rfl (wpAny_bind (wpAny_field hos hds (x := vs) rfl (wpAny_pure ?_)))))))
  refine wpAny_bind (HT.slicePart_ ps ?_)
  show wpAny _ _ (if ((-1 : Int) == 0) = true then _ else _) _ _ s
  rw [if_neg (by decide)]
  refine wpAny_bind (HT.slicePart_ pl (wpAny_bind (HT.slicePart_ pu (wpAny_bind (wpAny_pure ?_)))))
  show wpAny _ _ (match Builtin.Slice.sliceAdjust none none (-1) (n : Int) with | (lo, hi) => pure (lo, (-1 : Int), Builtin.Slice.slicePlaces lo hi (-1))) _ _ s
  rw [neg_adjust]
  show wpAny _ _ (pure ((n : Int) - 1, (-1 : Int), Builtin.Slice.slicePlaces ((n : Int) - 1) (-1) (-1))) _ _ s
  rw [neg_places]
  exact wpAny_pure h
end
section
variable {X : Cx}
/-- t[::-1]: a new tuple of what t holds -/
def tRevT (K : PySem.W.Frag) (te : TE) : TE := fun σ H Q => te σ H fun x H1 => ∃ (a : Addr) (xs : List V), x = .ref a ∧ SqT K H1 a xs ∧ ∀ q H2, H1 q = none → (∀ o, G o H1 H2) → H2 q = some (.tup ((List.range xs.length).filterMap fun (k : Nat) => xs[(((xs.length : Int) - 1) + (k : Int) * (-1)).toNat]?)) → Q (.ref q) H2
theorem w_revT {K : PySem.W.Frag} {te : TE} {σ : L2.St} {H : Hp} {Q : VK} (q : te σ H fun x H1 => ∃ (a : Addr) (xs : List V), x = .ref a ∧ SqT K H1 a xs ∧ ∀ q H2, H1 q = none → (∀ o, G o H1 H2) → H2 q = some (.tup ((List.range xs.length).filterMap fun (k : Nat) => xs[(((xs.length : Int) - 1) + (k : Int) * (-1)).toNat]?)) → Q (.ref q) H2) : tRevT K te σ H Q := q
theorem pe_revT {e : Expr} {te : TE} {k : Nat} {p1 p2 p3 pos : Pos} (he : PE X e te) : PE X (.Subscript e (.Slice none none (some (.UnaryOp .USub (.Constant (.int 1) k p1) p2)) p3) pos) (tRevT X.K te) := by
  constructor
  intro pins s σ H Q I h
  refine Subscript_ (thn (he.run pins s σ H _ I h) fun v s1 z => ?_)
  obtain ⟨x, H1, I1, r1, a, xs, rfl, hx, q⟩ := z
  cases r1
  have hst : PO X (some (.UnaryOp .USub (.Constant (.int 1) k p1) p2)) (tPart (tUn (rU fun i => .int (-i)) (tC (.int 1)))) := po_some (pe_un un_neg pe_int)
  refine wpAny_Slice (thn (po_none.run pins s1 σ H1 (fun o H2 => o = none ∧ H2 = H1) I1 ⟨rfl, rfl⟩) fun vl s2 z2 => ?_)
  obtain ⟨_, H2, I2, pl, rfl, rfl⟩ := z2
  refine thn (po_none.run pins s2 σ H2 (fun o H3 => o = none ∧ H3 = H2) I2 ⟨rfl, rfl⟩) fun vu s3 z3 => ?_
  obtain ⟨_, H3, I3, pu, rfl, rfl⟩ := z3
  refine thn (hst.run pins s3 σ H3 (fun o H4 => o = some (-1) ∧ H4 = H3) I3 ⟨1, rfl, -1, rfl, rfl, rfl⟩) fun vs s4 z4 => ?_
  obtain ⟨_, H4, I4, ps, rfl, rfl⟩ := z4
  obtain ⟨S, eS⟩ : ∃ S : Shared, S = { s4 with heap := s4.heap.push { cls := .type "slice", data := .fields #[vl, vu, vs] } } := ⟨_, rfl⟩
  have I5 : Inv X pins σ H4 S := by rw [eS]; exact I4.kept (t' := s4.toks) fun b ob q => Heap.get?_push_of_some _ q
  obtain ⟨its, r, ht, hz⟩ := I5.tuple hx
  have hlen : its.toArray.size = xs.length := by rw [List.size_toArray]; exact r.length.symm
  have hsl : S.heap.IsSliceOf s4.heap.objs.size vl vu vs := by rw [eS]; exact Heap.IsSliceOf.new _ vl vu vs
  show wpAny (model X.prog X.w) X.A (subscriptTail e (.Slice none none (some (.UnaryOp .USub (.Constant (.int 1) k p1) p2)) p3) (.ref a) (.ref s4.heap.objs.size)) (EP X pins σ Q) X.xe { s4 with heap := s4.heap.push { cls := .type "slice", data := .fields #[vl, vu, vs] } }
  rw [← eS]
  refine tail_any (ops := [.ref a, .ref s4.heap.objs.size]) ht.typeIs PyProof.Rows.slot_tuple_getitem.lookup ?_ (by with_unfolding_all rfl)
  obtain ⟨os, hos, hcs, hds⟩ := id hsl
  have hTs : S.TypeIs (.ref s4.heap.objs.size) "slice" := ⟨os, hos, hcs⟩
  unfold getItem
  try with_reducible refine wpAny_holding ?_
  first | refine wpAny_bind (wpAny_pure ?_) | skip
  refine wpAny_bind (wpAny_sequenceKey ht.typeIs (by decide) ?_)
  refine wpAny_bind (wpAny_callSpecial?_slot (name := Str.ofString "__getitem__") ht.typeIs PyProof.Rows.slot_tuple_getitem (wpAny_call_entry PyProof.Rows.slot_tuple_getitem ht.typeIs PyProof.Rows.entry_tuple_getitem ?_ (PyProof.Rows.args_tuple_getitem _ _)))
  show wpAny _ _ (Builtin.Tuple.tupleItemsOf (.ref a) >>= _) _ _ S
  refine wpAny_bind (PyProof.Rows.tupleItemsOf_ ht ?_)
  refine wpAny_bind (wpAny_typeOf hTs ?_)
  rw [if_pos (by decide)]
  refine wpAny_bind (slice_back (n := its.toArray.size) hsl pl pu ps ?_)
  have hno : ¬ ((((its.toArray.size : Nat) : Int) - 1 == 0 && (-1 : Int) == 1 && its.toArray.size == its.toArray.size) = true) := by
    intro z
    rw [Bool.and_eq_true, Bool.and_eq_true] at z
    exact absurd z.1.2 (by decide)
  show wpAny _ _ (if (((its.toArray.size : Nat) : Int) - 1 == 0 && (-1 : Int) == 1 && its.toArray.size == its.toArray.size) = true then _ else _) _ _ S
  rw [if_neg hno]
  have rel := vals_pick r (fun (k : Nat) => (((xs.length : Int) - 1) + (k : Int) * (-1)).toNat) (List.range xs.length)
  have eit : ((List.range its.toArray.size).filterMap fun (k : Nat) => its.toArray[(((its.toArray.size : Nat) : Int) - 1 + (k : Int) * (-1)).toNat]?) = (List.range xs.length).filterMap fun (k : Nat) => its[(((xs.length : Int) - 1) + (k : Int) * (-1)).toNat]? := by
    rw [hlen]
    congr 1
    funext k
    simp
  have lz : ((List.range xs.length).filterMap fun (k : Nat) => its[(((xs.length : Int) - 1) + (k : Int) * (-1)).toNat]?).length ≤ sizeLine := by
    have := pick_le (fun (k : Nat) => its[(((xs.length : Int) - 1) + (k : Int) * (-1)).toNat]?) (List.range xs.length)
    rw [List.length_range] at this
    omega
  have new : H4 S.heap.objs.size = none := I5.hok.fresh (Nat.le_refl _)
  rw [eit]
  have fin : EP X pins σ Q (.ref S.heap.objs.size) { S with heap := S.heap.push { cls := .type "tuple", data := .seq ((List.range xs.length).filterMap fun (k : Nat) => its[(((xs.length : Int) - 1) + (k : Int) * (-1)).toNat]?).toArray } } := by
    refine ⟨.ref S.heap.objs.size, _, I5.laid (t' := S.toks) (o := .tup ((List.range xs.length).filterMap fun (k : Nat) => xs[(((xs.length : Int) - 1) + (k : Int) * (-1)).toNat]?)) (fun b ob q => Heap.get?_push_of_some _ q) (Nat.le_refl _) ?_, rfl, q _ _ new (fun _ => G.alloc new) upd_same⟩
    exact ⟨by rw [rel.length]; exact lz, _, rel, IsTup.new _ _⟩
  first
    | exact wpAny_bind (m := Builtin.Tuple.tupleExact _) (wpAny_newObj_type (wpAny_pure ⟨_, rfl, wpAny_pure fin⟩) (by show _ ≤ sizeLine; rw [List.size_toArray]; exact lz))
    | exact wpAny_bind (wpAny_bind (m := Builtin.Tuple.tupleExact _) (wpAny_newObj_type (wpAny_pure (wpAny_pure ⟨_, rfl, wpAny_pure fin⟩)) (by show _ ≤ sizeLine; rw [List.size_toArray]; exact lz)))
    | exact wpAny_bind (wpAny_bind (m := Builtin.Tuple.tupleExact _) (wpAny_newObj_type (wpAny_pure ⟨_, rfl, wpAny_pure fin⟩) (by show _ ≤ sizeLine; rw [List.size_toArray]; exact lz)))
end
end GA
/-! ## GZ -/
namespace GA
open PySem PySem.Spec PyProof.Rows L2 PySem.SeqAt
/-! ### sorted of ((int, int), int, int, int or None): the first three parts decide -/
def IsW (h : Heap) (v : Value) (a : Int × Int × Int × Int) (g : Option Int) : Prop := ∃ (l t1 : Addr) (a1 a2 a3 a4 : Tok) (gv : Value), v = .ref l ∧ h.IsTuple l #[.ref t1, .int a.2.2.1 a3, .int a.2.2.2 a4, gv] ∧ h.IsTuple t1 #[.int a.1 a1, .int a.2.1 a2] ∧ (g = none ∧ gv = .none ∨ ∃ i a5, g = some i ∧ gv = .int i a5)
def ltWr (a b : Int × Int × Int × Int) : Bool := decide (a.1 < b.1) || (decide (a.1 = b.1) && (decide (a.2.1 < b.2.1) || (decide (a.2.1 = b.2.1) && (decide (a.2.2.1 < b.2.2.1) || (decide (a.2.2.1 = b.2.2.1) && decide (a.2.2.2 < b.2.2.2))))))
section
variable {prog : Program} {w : World} {A : Around} {E : Value → Shared → Prop} {s : Shared}
theorem tup_get {h : Heap} {l : Addr} {its : Array Value} (t : h.IsTuple l its) : ∃ (o : Obj) (n : Nat), h.get? l = some o ∧ o.cls = .type "tuple" ∧ o.data = .seq its n := by
  obtain ⟨o, h1, h2, n, h3⟩ := t
  exact ⟨o, n, h1, h2, h3⟩
theorem bq (x y : Int) : (x == y) = decide (x = y) := by
  by_cases h : x = y
  · rw [decide_eq_true h]; exact beq_iff_eq.mpr h
  · rw [decide_eq_false h]; exact beq_eq_false_iff_ne.mpr h
/-- pairs of ints, equal or less -/
theorem pair_eq {t t' : Addr} {x y x' y' : Int} {a1 a2 b1 b2 : Tok} (h : s.heap.IsTuple t #[.int x a1, .int y a2]) (h' : s.heap.IsTuple t' #[.int x' b1, .int y' b2]) (hu : A.units < cLine) : EqAt A s (.ref t) (.ref t') (decide (x = x') && decide (y = y')) := by
  by_cases e : t = t'
  · subst e
    obtain ⟨o, n, g1, _, g2⟩ := tup_get h
    obtain ⟨o', n', g1', _, g2'⟩ := tup_get h'
    rw [g1] at g1'
    cases g1'
    rw [g2] at g2'
    injection g2' with g3 _
    have g3 := congrArg Array.toList g3
    injection g3 with g4 g5
    injection g5 with g5 _
    injection g4 with g4 _
    injection g5 with g5 _
    rw [decide_eq_true g4, decide_eq_true g5]
    exact EqAt.same _
  · refine EqAt.of_refs e ?_
    have R := RcAt.tuples (A := A) (s := s) (e := fun j => if j = 0 then decide (x = x') else decide (y = y')) h h' hu (fun j h1 h2 => by
      match j, h1, h2 with
      | 0, _, _ =>
        show EqAt _ _ (.int x a1) (.int x' b1) (decide (x = x'))
        rw [← bq]; exact EqAt.int_int _ _ _ _
      | 1, _, _ =>
        show EqAt _ _ (.int y a2) (.int y' b2) (decide (y = y'))
        rw [← bq]; exact EqAt.int_int _ _ _ _
      | n + 2, h1, _ => exact absurd h1 (by simp))
    have e2 : ((List.range (min (#[Value.int x a1, .int y a2] : Array Value).size (#[Value.int x' b1, .int y' b2] : Array Value).size)).all (fun j => if j = 0 then decide (x = x') else decide (y = y')) && (#[Value.int x a1, .int y a2] : Array Value).size == (#[Value.int x' b1, .int y' b2] : Array Value).size) = (decide (x = x') && decide (y = y')) := by
      show (((if (0 : Nat) = 0 then decide (x = x') else decide (y = y')) && ((if (1 : Nat) = 0 then decide (x = x') else decide (y = y')) && true)) && true) = _
      simp
    rw [e2] at R
    exact R
theorem pair_lt {t t' : Addr} {x y x' y' : Int} {a1 a2 b1 b2 : Tok} (h : s.heap.IsTuple t #[.int x a1, .int y a2]) (h' : s.heap.IsTuple t' #[.int x' b1, .int y' b2]) (hu : A.units < cLine) : Ob.RcOp .Lt A s (.ref t) (.ref t') (decide (x < x') || (decide (x = x') && decide (y < y'))) := by
  have R := Ob.RcOp.tuples_lt (A := A) (s := s) (e := fun j => if j = 0 then decide (x = x') else decide (y = y')) (r := fun j => if j = 0 then decide (x < x') else decide (y < y')) h h' hu (fun j h1 h2 => by
      match j, h1, h2 with
      | 0, _, _ =>
        show EqAt _ _ (.int x a1) (.int x' b1) (decide (x = x'))
        rw [← bq]; exact EqAt.int_int _ _ _ _
      | 1, _, _ =>
        show EqAt _ _ (.int y a2) (.int y' b2) (decide (y = y'))
        rw [← bq]; exact EqAt.int_int _ _ _ _
      | n + 2, h1, _ => exact absurd h1 (by simp)) (fun j h1 h2 _ => by
      match j, h1, h2 with
      | 0, _, _ =>
        show Ob.RcOp _ _ _ (.int x a1) (.int x' b1) (decide (x < x'))
        exact Ob.RcOp.lt_int _ _ _ _
      | 1, _, _ =>
        show Ob.RcOp _ _ _ (.int y a2) (.int y' b2) (decide (y < y'))
        exact Ob.RcOp.lt_int _ _ _ _
      | n + 2, h1, _ => exact absurd h1 (by simp))
  have e2 : Ob.lexAt (fun j => if j = 0 then decide (x = x') else decide (y = y')) (fun j => if j = 0 then decide (x < x') else decide (y < y')) (decide ((#[Value.int x a1, .int y a2] : Array Value).size < (#[Value.int x' b1, .int y' b2] : Array Value).size)) 0 (min (#[Value.int x a1, .int y a2] : Array Value).size (#[Value.int x' b1, .int y' b2] : Array Value).size) = (decide (x < x') || (decide (x = x') && decide (y < y'))) := by
    show Ob.lexAt _ _ (decide (2 < 2)) 0 2 = _
    rw [Ob.lexAt_succ, Ob.lexAt_succ, Ob.lexAt_zero]
    by_cases c1 : x = x' <;> by_cases c2 : y = y' <;> simp [c1, c2]
  rw [e2] at R
  exact R
theorem lt_w {v u : Value} {a b : Int × Int × Int × Int} {g g' : Option Int} {Q : Bool → Shared → Prop} (hv : IsW s.heap v a g) (hv' : IsW s.heap u b g') (same : a = b → g = g') (hu : A.units < cLine) (q : Q (ltWr a b) s) : wpAny (model prog w) A (keyLt' (tuples' false) v u) Q E s := by
  obtain ⟨l, t1, a1, a2, a3, a4, gv, rfl, h1, h2, hg⟩ := hv
  obtain ⟨l', t1', b1, b2, b3, b4, gv', rfl, h1', h2', hg'⟩ := hv'
  obtain ⟨o, n, e1, _, e2⟩ := tup_get h1
  obtain ⟨o', n', e1', _, e2'⟩ := tup_get h1'
  obtain ⟨k, f, p, m⟩ := a
  obtain ⟨k', f', p', m'⟩ := b
  refine PySem.W.kat_lt e1 e2 e1' e2' ?_
  show PySem.W.KatLex prog w A false false Q [(.ref t1, .ref t1'), (.int p a3, .int p' b3), (.int m a4, .int m' b4), (gv, gv')] 0 s
  refine PySem.W.kat_cons (pair_eq h2 h2' hu prog w _ _ (PySem.W.kat_go (fun e => PySem.W.kat_yes ?_) fun e => PySem.W.kat_no ?_))
  · rw [Bool.and_eq_true, decide_eq_true_iff, decide_eq_true_iff] at e
    obtain ⟨ek, ef⟩ := e
    have ek : k = k' := ek
    have ef : f = f' := ef
    subst ek ef
    refine PySem.W.kat_cons (EqAt.int_int p a3 p' b3 prog w _ _ (PySem.W.kat_go (fun e => PySem.W.kat_yes ?_) fun e => PySem.W.kat_no ?_))
    · have ep : p = p' := eq_of_beq e
      subst ep
      refine PySem.W.kat_cons (EqAt.int_int m a4 m' b4 prog w _ _ (PySem.W.kat_go (fun e => PySem.W.kat_yes ?_) fun e => PySem.W.kat_no ?_))
      · have em : m = m' := eq_of_beq e
        subst em
        have eg := same rfl
        have q0 : Q false s := by
          have : ltWr (k, f, p, m) (k, f, p, m) = false := by simp [ltWr]
          rw [this] at q
          exact q
        rcases hg with ⟨rfl, rfl⟩ | ⟨i, a5, rfl, rfl⟩ <;> rcases hg' with ⟨z, rfl⟩ | ⟨i', b5, z, rfl⟩
        · exact PySem.W.kat_cons (EqAt.same _ prog w _ _ (PySem.W.kat_yes (PySem.W.kat_nil q0)))
        · rw [z] at eg; cases eg
        · rw [z] at eg; cases eg
        · rw [z] at eg
          cases eg
          refine PySem.W.kat_cons (EqAt.int_int i a5 i b5 prog w _ _ (PySem.W.kat_go (fun e => PySem.W.kat_yes (PySem.W.kat_nil q0)) fun e => ?_))
          rw [bq, decide_eq_true rfl] at e
          cases e
      · have em : ¬ m = m' := by rw [bq] at e; exact of_decide_eq_false e
        refine TS.oneLt_ints _ ?_
        have : ltWr (k, f, p, m) (k, f, p, m') = decide (m < m') := by simp [ltWr]
        rw [this] at q
        exact q
    · have ep : ¬ p = p' := by rw [bq] at e; exact of_decide_eq_false e
      refine TS.oneLt_ints _ ?_
      have : ltWr (k, f, p, m) (k, f, p', m') = decide (p < p') := by simp [ltWr, ep]
      rw [this] at q
      exact q
  · refine PySem.W.kat_one _ _ (pair_lt h2 h2' hu prog w _ _ ?_)
    have : ltWr (k, f, p, m) (k', f', p', m') = (decide (k < k') || (decide (k = k') && decide (f < f'))) := by
      have e : (decide (k = k') && decide (f = f')) = false := e
      unfold ltWr
      show (decide (k < k') || (decide (k = k') && (decide (f < f') || (decide (f = f') && _)))) = _
      by_cases c1 : k = k'
      · by_cases c2 : f = f'
        · rw [decide_eq_true c1, decide_eq_true c2] at e; cases e
        · simp [c1, c2]
      · simp [c1]
    rw [this] at q
    exact q
end
def keyV (key : V → Int × Int × Int × Int) : Value → Int × Int × Int × Int
  | .ref t => key (.ref t)
  | _ => (0, 0, 0, 0)
def optV : Option Int → V
  | none => .non
  | some i => .int i
def rSortedW (K : PySem.W.Frag) : List V → Hp → VK → Prop := fun vs H Q => ∃ (a : Addr) (xs : List V) (key : V → Int × Int × Int × Int) (gk : V → Option Int), vs = [.ref a] ∧ SqL K H a xs ∧
  (∀ x ∈ xs, ∃ t t1, x = .ref t ∧ H t = some (.tup [.ref t1, .int (key x).2.2.1, .int (key x).2.2.2, optV (gk x)]) ∧ H t1 = some (.tup [.int (key x).1, .int (key x).2.1])) ∧ (∀ x ∈ xs, ∀ y ∈ xs, key x = key y → gk x = gk y) ∧
  ∀ (ys : List V) (p : Addr), ys.Perm xs → ys.Pairwise (fun x y => ltWr (key y) (key x) = false) → H p = none → Q (.ref p) (upd H p (.lst ys))
theorem swoW (key : Value → Int × Int × Int × Int) : SrtO.Swo fun v u => ltWr (key v) (key u) := by
  constructor
  · intro x y h
    generalize key x = a at *
    generalize key y = b at *
    obtain ⟨a1, a2, a3, a4⟩ := a
    obtain ⟨b1, b2, b3, b4⟩ := b
    simp only [ltWr, Bool.or_eq_true, Bool.and_eq_true, decide_eq_true_eq, Bool.or_eq_false_iff, Bool.and_eq_false_iff, decide_eq_false_iff_not] at *
    omega
  · intro x y z h1 h2
    generalize key x = a at *
    generalize key y = b at *
    generalize key z = c at *
    obtain ⟨a1, a2, a3, a4⟩ := a
    obtain ⟨b1, b2, b3, b4⟩ := b
    obtain ⟨c1, c2, c3, c4⟩ := c
    simp only [ltWr, Bool.or_eq_true, Bool.and_eq_true, decide_eq_true_eq, Bool.or_eq_false_iff, Bool.and_eq_false_iff, decide_eq_false_iff_not] at *
    omega
theorem relV_opt {g : Option Int} {u : Value} (r : RelV (optV g) u) : g = none ∧ u = .none ∨ ∃ i a5, g = some i ∧ u = .int i a5 := by
  cases g with
  | none => cases r; exact .inl ⟨rfl, rfl⟩
  | some i => obtain ⟨t, rfl⟩ := r; exact .inr ⟨i, t, rfl, rfl⟩
theorem isW_of {X : Cx} {pins : List (Addr × Obj)} {σ : L2.St} {H : Hp} {s : Shared} {t t1 : Addr} {k : Int × Int × Int × Int} {g : Option Int} (I : Inv X pins σ H s) (h : H t = some (.tup [.ref t1, .int k.2.2.1, .int k.2.2.2, optV g])) (h1 : H t1 = some (.tup [.int k.1, .int k.2.1])) : IsW s.heap (.ref t) k g := by
  obtain ⟨its, r, p, _⟩ := I.tuple (.inl (.inl h))
  obtain ⟨its2, r2, p2, _⟩ := I.tuple (.inl (.inl h1))
  cases r with
  | cons c1 r =>
  cases r with
  | cons c2 r =>
  cases r with
  | cons c3 r =>
  cases r with
  | cons c4 r =>
  cases r
  cases r2 with
  | cons d1 r2 =>
  cases r2 with
  | cons d2 r2 =>
  cases r2
  cases c1
  obtain ⟨_, rfl⟩ := c2
  obtain ⟨_, rfl⟩ := c3
  obtain ⟨_, rfl⟩ := d1
  obtain ⟨_, rfl⟩ := d2
  exact ⟨t, t1, _, _, _, _, _, rfl, p, p2, relV_opt c4⟩
theorem vals_mem {xs : List V} {us : List Value} (r : Vals xs us) {u : Value} (h : u ∈ us) : ∃ x ∈ xs, RelV x u := by
  induction r with
  | nil => cases h
  | cons c r ih =>
    rcases List.mem_cons.mp h with e | e
    · subst e
      exact ⟨_, List.mem_cons_self .., c⟩
    · obtain ⟨x, hx, q⟩ := ih e
      exact ⟨x, List.mem_cons_of_mem _ hx, q⟩
def backV : Value → V
  | .ref t => .ref t
  | _ => .non
theorem vals_back {us : List Value} (h : ∀ u ∈ us, ∃ t, u = Value.ref t) : Vals (us.map backV) us := by
  induction us with
  | nil => exact .nil
  | cons u us ih =>
    obtain ⟨t, rfl⟩ := h u (List.mem_cons_self ..)
    exact .cons rfl (ih fun v hv => h v (List.mem_cons_of_mem _ hv))
theorem back_vals {xs : List V} {us : List Value} (r : Vals xs us) (h : ∀ x ∈ xs, ∃ t, x = V.ref t) : us.map backV = xs := by
  induction r with
  | nil => rfl
  | cons c r ih =>
    obtain ⟨t, rfl⟩ := h _ (List.mem_cons_self ..)
    cases c
    rw [List.map_cons, ih fun x hx => h x (List.mem_cons_of_mem _ hx)]; rfl
theorem katW {h : Heap} : ∀ {vs : List Value}, (∀ v ∈ vs, ∃ k g, IsW h v k g) → ∃ fs, PySem.W.KatTups h vs fs ∧ fs.length = vs.length ∧ ∀ f ∈ fs, ∃ t1 its, f = Value.ref t1 ∧ h.IsTuple t1 its
  | [], _ => ⟨[], .nil, rfl, fun _ h => by cases h⟩
  | v :: vs, H => by
    obtain ⟨fs, a1, a2, a3⟩ := katW (vs := vs) fun v hv => H v (List.mem_cons_of_mem _ hv)
    obtain ⟨k, g, l, t1, x1, x2, x3, x4, gv, rfl, h1, h2, _⟩ := H v (List.mem_cons_self ..)
    obtain ⟨o, n, e1, e2, e3⟩ := tup_get h1
    refine ⟨.ref t1 :: fs, .cons e1 e2 e3 rfl a1, by rw [List.length_cons, List.length_cons, a2], fun f hf => ?_⟩
    rcases List.mem_cons.mp hf with e | e
    · exact ⟨t1, _, e, h2⟩
    · exact a3 f e
theorem IsW.keep {h h' : Heap} {v : Value} {k : Int × Int × Int × Int} {g : Option Int} {a : Addr} (w : IsW h v k g) (na : ∀ l its, h.IsTuple l its → l ≠ a) (kp : ∀ b o, b ≠ a → h.get? b = some o → h'.get? b = some o) : IsW h' v k g := by
  have up : ∀ {l its}, h.IsTuple l its → h'.IsTuple l its := fun {l its} t => by
    obtain ⟨o, h1, h2, n, h3⟩ := id t
    exact ⟨o, kp _ _ (na _ _ t) h1, h2, n, h3⟩
  obtain ⟨l, t1, x1, x2, x3, x4, gv, e, h1, h2, z⟩ := w
  exact ⟨l, t1, x1, x2, x3, x4, gv, e, up h1, up h2, z⟩
theorem cr_sortedW {X : Cx} (hu : X.A.in1.in1.units < cLine) : CallR X (.builtin "sorted") (rSortedW X.K) := by
  intro pins s σ H xs us Q I r h
  obtain ⟨a, xs, key, gk, rfl, hx, hk, inj, q⟩ := h
  cases r with
  | cons c r =>
  cases r
  cases c
  obtain ⟨its, rv, pl, hz⟩ := I.list hx
  have refs : ∀ x ∈ xs, ∃ t, x = V.ref t := fun x hx => let ⟨t, _, e, _⟩ := hk x hx; ⟨t, e⟩
  have all : ∀ v ∈ its, IsW s.heap v (keyV key v) (gk (backV v)) ∧ backV v ∈ xs := fun v hv => by
    obtain ⟨x, hx1, rx⟩ := vals_mem rv hv
    obtain ⟨t, t1, rfl, h1, h2⟩ := hk x hx1
    cases rx
    exact ⟨isW_of I h1 h2, hx1⟩
  have keyb : ∀ v ∈ its, keyV key v = key (backV v) := fun v hv => by
    obtain ⟨x, hx1, rx⟩ := vals_mem rv hv
    obtain ⟨t, rfl⟩ := refs x hx1
    cases rx
    rfl
  refine SrtO.sorted_ord (ltv := fun v u => ltWr (keyV key v) (keyV key u)) (swoW (keyV key)) pl.isList (by rw [← rv.length]; exact hz) (fun h2 h₁ a₁ g1 g2 => ?_) (fun out srt stb => ?_)
  · intro h' kp
    have W : ∀ v ∈ its, IsW h' v (keyV key v) (gk (backV v)) := fun v hv => by
      refine (all v hv).1.keep (a := a₁) (fun l its2 t => ?_) fun b o nb e => kp b o nb (g2 b o e).2
      obtain ⟨o, n, e1, _, _⟩ := tup_get t
      exact (g2 l o e1).1
    refine ⟨tuples' false, fun Q E q => ?_, fun p u hp hu' => ?_⟩
    · obtain ⟨fs, b1, b2, b3⟩ := katW (h := h') fun v hv => ⟨_, _, W v hv⟩
      refine PySem.W.kat_kind (T := .type "tuple") b1 (by rw [b2]; omega) (fun v hv => ?_) (by rfl) q
      obtain ⟨t1, it1, rfl, ht1⟩ := b3 v hv
      obtain ⟨o, n, e1, e2, _⟩ := tup_get ht1
      intro A Q E s kp2 q
      refine wpAny_typeOf ⟨o, kp2 _ _ e1, e2⟩ q
    · refine lt_w (s := ⟨h', s.gens, s.drawn, s.toks, s.os⟩) (W p.1 hp) (W u.1 hu') (fun e => ?_) hu ⟨rfl, rfl⟩
      refine inj _ (all p.1 hp).2 _ (all u.1 hu').2 ?_
      rw [← keyb _ hp, ← keyb _ hu']
      exact e
  · obtain ⟨e, he⟩ := sortedAll_at s.heap its out.toArray
    have pm := stb.perm
    have or_ : ∀ u ∈ out, ∃ t, u = Value.ref t := fun u hu => by
      obtain ⟨x, hx1, rx⟩ := vals_mem rv (pm.mem_iff.mp hu)
      obtain ⟨t, rfl⟩ := refs x hx1
      cases rx
      exact ⟨t, rfl⟩
    have ro := vals_back or_
    have py : (out.map backV).Perm xs := by
      have := pm.map backV
      rw [back_vals rv refs] at this
      exact this
    have new : H (s.heap.objs.size + 1) = none := I.hok.fresh (by omega)
    refine ⟨.ref (s.heap.objs.size + 1), _, I.laid (t' := s.toks) (o := .lst (out.map backV)) (fun b ob q => sortedAll_old q) (by omega) ?_, rfl, q (out.map backV) _ py ?_ new⟩
    · exact ⟨by rw [py.length_eq]; exact hz, out, _, ro, he⟩
    · refine List.pairwise_map.mpr (srt.imp_of_mem fun {x y} hx hy h => ?_)
      have mx := pm.mem_iff.mp hx
      have my := pm.mem_iff.mp hy
      rw [← keyb _ mx, ← keyb _ my]
      exact h
end GA
/-! ## GTL -/
namespace GA
open PySem PySem.Spec PyProof.Rows L2 PySem.SeqAt PySem.W
/-! ### t < u of tuples of ints, sorted of lists of such, of any lengths -/
def ltL : List Int → List Int → Bool
  | _, [] => false
  | [], _ :: _ => true
  | x :: xs, y :: ys => decide (x < y) || (decide (x = y) && ltL xs ys)
theorem lexAt_shift {e r : Nat → Bool} {fin : Bool} : ∀ n i, Ob.lexAt e r fin (i + 1) n = Ob.lexAt (fun j => e (j + 1)) (fun j => r (j + 1)) fin i n
  | 0, i => by rw [Ob.lexAt_zero, Ob.lexAt_zero]
  | n + 1, i => by rw [Ob.lexAt_succ, Ob.lexAt_succ, lexAt_shift n (i + 1)]
theorem lexAt_ltL : ∀ ns ms : List Int, Ob.lexAt (fun j => decide (ns.getD j 0 = ms.getD j 0)) (fun j => decide (ns.getD j 0 < ms.getD j 0)) (decide (ns.length < ms.length)) 0 (min ns.length ms.length) = ltL ns ms
  | [], [] => by simp [ltL, Ob.lexAt_zero]
  | [], m :: ms => by simp [ltL, Ob.lexAt_zero]
  | n :: ns, [] => by simp [ltL, Ob.lexAt_zero]
  | n :: ns, m :: ms => by
    have e0 : min (n :: ns).length (m :: ms).length = min ns.length ms.length + 1 := by simp only [List.length_cons]; omega
    rw [e0, Ob.lexAt_succ, lexAt_shift]
    have ih := lexAt_ltL ns ms
    have e1 : decide ((n :: ns).length < (m :: ms).length) = decide (ns.length < ms.length) := by simp
    rw [e1]
    show (if decide (n = m) = true then Ob.lexAt (fun j => decide (ns.getD j 0 = ms.getD j 0)) (fun j => decide (ns.getD j 0 < ms.getD j 0)) (decide (ns.length < ms.length)) 0 (min ns.length ms.length) else decide (n < m)) = _
    rw [ih]
    show _ = (decide (n < m) || (decide (n = m) && ltL ns ms))
    by_cases c : n = m
    · subst c; simp
    · simp [c]
def rLtT (K : PySem.W.Frag) : R2 := fun x y H Q => ∃ (a b : Addr) (ns ms : List Int), x = .ref a ∧ y = .ref b ∧ SqT K H a (ns.map V.int) ∧ SqT K H b (ms.map V.int) ∧ Q (.bl (ltL ns ms)) H
section
variable {prog : Program} {w : World} {A : Around} {E : Value → Shared → Prop} {s : Shared}
theorem ints_at {its : List Value} {ns : List Int} (i1 : IntsAre its ns) : ∀ j (h1 : j < its.toArray.size), ∃ t, its.toArray[j] = .int (ns.getD j 0) t := fun j h1 => PyProof.Rows.IntsAre.int_at i1 _ _ (by
  simp at h1
  simp [h1])
theorem rc_ltL {l b : Addr} {xs ys : List Value} {ns ms : List Int} (h : s.heap.IsTuple l xs.toArray) (h' : s.heap.IsTuple b ys.toArray) (i1 : IntsAre xs ns) (i2 : IntsAre ys ms) (hu : A.units < cLine) : Ob.RcOp .Lt A s (.ref l) (.ref b) (ltL ns ms) := by
  have e1 : xs.toArray.size = ns.length := by rw [List.size_toArray]; exact i1.length
  have e2 : ys.toArray.size = ms.length := by rw [List.size_toArray]; exact i2.length
  have at1 := ints_at i1
  have at2 := ints_at i2
  have R := Ob.RcOp.tuples_lt (A := A) (s := s) (e := fun j => decide (ns.getD j 0 = ms.getD j 0)) (r := fun j => decide (ns.getD j 0 < ms.getD j 0)) h h' hu (fun j h1 h2 => by
    obtain ⟨t, et⟩ := at1 j h1
    obtain ⟨t', et'⟩ := at2 j h2
    rw [et, et', ← bq]
    exact SeqAt.EqAt.int_int _ _ _ _) (fun j h1 h2 _ => by
    obtain ⟨t, et⟩ := at1 j h1
    obtain ⟨t', et'⟩ := at2 j h2
    rw [et, et']
    exact Ob.RcOp.lt_int _ _ _ _)
  rw [e1, e2, lexAt_ltL] at R
  exact R
theorem call_tuple_ltL {Q : Value → Shared → Prop} {l b : Addr} {xs ys : List Value} {ns ms : List Int} (h : s.heap.IsTuple l xs.toArray) (h' : s.heap.IsTuple b ys.toArray) (i1 : IntsAre xs ns) (i2 : IntsAre ys ms)
    (q : Q (.bool (ltL ns ms)) s) : wpAny (model prog w) A (call (.builtin "tuple.__lt__") [.ref l, .ref b]) Q E s := by
  have e1 : xs.toArray.size = ns.length := by rw [List.size_toArray]; exact i1.length
  have e2 : ys.toArray.size = ms.length := by rw [List.size_toArray]; exact i2.length
  have at1 := ints_at i1
  have at2 := ints_at i2
  obtain ⟨⟨cls, dd, data, sl⟩, ho, hc, n, hd⟩ := id h
  obtain ⟨⟨cls2, dd2, data2, sl2⟩, ho2, hc2, n2, hd2⟩ := id h'
  simp only at hc hd hc2 hd2
  subst hc hd hc2 hd2
  refine call_meets F.slot_tuple_lt ⟨_, ho, rfl⟩ F.entry_tuple_lt (F.args_tuple_lt_2 _ _) (Ob.tuple_ltAt l b xs.toArray ys.toArray n n2 dd dd2 sl sl2 (fun j => decide (ns.getD j 0 = ms.getD j 0)) (fun j => decide (ns.getD j 0 < ms.getD j 0))) ⟨ho, ho2, fun j h1 h2 => ?_, fun j h1 h2 _ => ?_, ?_⟩
  · obtain ⟨t, et⟩ := at1 j h1
    obtain ⟨t', et'⟩ := at2 j h2
    rw [et, et', ← bq]
    exact SeqAt.EqAt.int_int _ _ _ _
  · obtain ⟨t, et⟩ := at1 j h1
    obtain ⟨t', et'⟩ := at2 j h2
    rw [et, et']
    exact Ob.RcOp.lt_int _ _ _ _
  · rw [e1, e2, lexAt_ltL]
    exact q
theorem katL {b : Bool} {Q : Bool → Shared → Prop} {fin : Bool} : ∀ {xs ys : List Value} {ns ms : List Int} (i : Nat), IntsAre xs ns → IntsAre ys ms → fin = decide (ns.length < ms.length) → Q (ltL ns ms) s → PySem.W.KatLex prog w A b fin Q (xs.zip ys) i s := by
  intro xs ys ns ms i h1
  induction h1 generalizing ys ms i with
  | nil =>
    intro h2 ef q
    refine PySem.W.kat_nil ?_
    cases h2 with
    | nil => rw [ef]; exact q
    | cons _ _ _ => rw [ef]; exact q
  | @cons p t xs ns hx ih =>
    intro h2 ef q
    cases h2 with
    | nil => exact PySem.W.kat_nil (by rw [ef]; exact q)
    | @cons p2 t2 ys ms hy =>
      have q : Q (decide (p < p2) || (decide (p = p2) && ltL ns ms)) s := q
      refine PySem.W.kat_cons (EqAt.int_int p t p2 t2 prog w _ _ (PySem.W.kat_go (fun e => PySem.W.kat_yes ?_) fun e => PySem.W.kat_no ?_))
      · have e : p = p2 := eq_of_beq e
        subst e
        refine ih (i + 1) hy (by rw [ef]; simp) ?_
        simpa using q
      · have e : ¬ p = p2 := by rw [bq] at e; exact of_decide_eq_false e
        refine TS.oneLt_ints _ ?_
        simpa [e] using q
def IsTL (h : Heap) (v : Value) (ns : List Int) : Prop := ∃ (l : Addr) (its : List Value), v = .ref l ∧ h.IsTuple l its.toArray ∧ IntsAre its ns
theorem lt_l {κ : SortKind} {v u : Value} {ns ms : List Int} {Q : Bool → Shared → Prop} (hκ : κ = tuples' true ∨ κ = general' ∨ κ = oneType') (hv : IsTL s.heap v ns) (hv' : IsTL s.heap u ms) (hu : A.units < cLine) (q : Q (ltL ns ms) s) : wpAny (model prog w) A (keyLt' κ v u) Q E s := by
  obtain ⟨l, xs, rfl, h1, i1⟩ := hv
  obtain ⟨l', ys, rfl, h1', i1'⟩ := hv'
  rcases hκ with rfl | rfl | rfl
  · obtain ⟨o, n, e1, _, e2⟩ := tup_get h1
    obtain ⟨o', n', e1', _, e2'⟩ := tup_get h1'
    refine PySem.W.kat_lt e1 e2 e1' e2' ?_
    have ef : decide (xs.toArray.size < ys.toArray.size) = decide (ns.length < ms.length) := by rw [List.size_toArray, List.size_toArray, i1.length, i1'.length]
    exact katL 0 i1 i1' ef q
  · show wpAny _ _ (oneLt' false _ _) _ _ _
    exact PySem.W.kat_one _ _ (rc_ltL h1 h1' i1 i1' hu prog w _ _ q)
  · rw [keyLt'_oneType, oneLt'_eq]
    simp only [if_true]
    refine wpAny_bind (wpAny_cRoomFor hu ?_)
    refine wpAny_bind (wpAny_callSpecialIfBound?_slot (T := "tuple") (by obtain ⟨o, n, e1, e2, _⟩ := tup_get h1; exact ⟨o, e1, e2⟩) F.slot_tuple_lt (call_tuple_ltL h1 h1' i1 i1' ?_))
    exact wpAny_truthy_bool q
/-! ### the kind of keys -/
def KatO (h : Heap) : List Value → List (Option Value) → Prop
  | [], [] => True
  | v :: vs, f :: fs => (∃ a o xs n, v = .ref a ∧ h.get? a = some o ∧ o.cls = .type "tuple" ∧ o.data = .seq xs n ∧ xs[0]? = f) ∧ KatO h vs fs
  | _, _ => False
theorem kato_firsts {M : Model} : ∀ (vs : List Value) (fs : List (Option Value)) {Q : List (Option Value) → Shared → Prop}, KatO s.heap vs fs → Q fs s → wpAny M A (vs.mapM firstOfTuple') Q E s
  | [], [], _, _, h => by rw [List.mapM_nil]; exact wpAny_pure h
  | [], _ :: _, _, t, _ => t.elim
  | _ :: _, [], _, t, _ => t.elim
  | v :: vs, f :: fs, Q, t, h => by
    obtain ⟨⟨a, o, xs, n, rfl, ho, hc, hd, hf⟩, t⟩ := t
    rw [List.mapM_cons]
    refine wpAny_bind ?_
    rw [kas_first_eq]
    refine wpAny_bind (Looks.here (show Looks M s.heap (typeOf (.ref a)) o.cls from (Looks.ld ho).andThen .now) ?_)
    rw [hc, if_neg (by first | decide | simp)]
    refine wpAny_bind (listItems_at ho hd (wpAny_pure ?_))
    rw [hf]
    exact wpAny_bind (kato_firsts vs fs (Q := fun bs s' => wpAny M A (pure (f :: bs)) Q E s') t (wpAny_pure h))
theorem kind_l {vs : List Value} (h0 : 0 < vs.length) (hv : ∀ v ∈ vs, ∃ ns, IsTL s.heap v ns) : ∃ κ, (κ = tuples' true ∨ κ = general' ∨ κ = oneType') ∧ ∀ (Q : SortKind → Shared → Prop) (E : Value → Shared → Prop), Q κ s → wpAny (model prog w) A (keyKind' vs.toArray) Q E s := by
  by_cases all : ∀ v ∈ vs, ∃ n ns, IsTL s.heap v (n :: ns)
  · obtain ⟨fs, k1, k2, k3⟩ : ∃ fs, PySem.W.KatTups s.heap vs fs ∧ fs.length = vs.length ∧ ∀ f ∈ fs, ∃ n t, f = Value.int n t := by
      clear h0 hv
      induction vs with
      | nil => exact ⟨[], .nil, rfl, fun _ h => by cases h⟩
      | cons v vs ih =>
        obtain ⟨fs, k1, k2, k3⟩ := ih fun v hv => all v (List.mem_cons_of_mem _ hv)
        obtain ⟨n, ns, l, its, rfl, ht, hi⟩ := all v List.mem_cons_self
        obtain ⟨o, k, e1, e2, e3⟩ := tup_get ht
        cases hi with
        | @cons p t xs ns hx =>
          refine ⟨.int n t :: fs, .cons e1 e2 e3 rfl k1, by rw [List.length_cons, List.length_cons, k2], fun f hf => ?_⟩
          rcases List.mem_cons.mp hf with e | e
          · exact ⟨n, t, e⟩
          · exact k3 f e
    refine ⟨tuples' true, .inl rfl, fun Q E q => PySem.W.kat_kind (T := .type "int") k1 (by omega) (fun v hv => ?_) (by rfl) (by rw [show (Value.type "int" != Value.type "tuple") = true from by decide +kernel]; exact q)⟩
    obtain ⟨n, t, rfl⟩ := k3 v hv
    exact PySem.W.Looks.now
  · obtain ⟨fs, k1, k2, k3⟩ : ∃ fs, KatO s.heap vs fs ∧ fs.length = vs.length ∧ ¬ (fs.all (·.isSome)) = true := by
      clear h0
      induction vs with
      | nil => exact absurd (fun v hv => by cases hv) all
      | cons v vs ih =>
        obtain ⟨ns, l, its, rfl, ht, hi⟩ := hv v List.mem_cons_self
        obtain ⟨o, k, e1, e2, e3⟩ := tup_get ht
        have gen : ∀ vs : List Value, (∀ v ∈ vs, ∃ ns, IsTL s.heap v ns) → ∃ fs, KatO s.heap vs fs ∧ fs.length = vs.length := by
          intro vs hv
          induction vs with
          | nil => exact ⟨[], trivial, rfl⟩
          | cons v vs ih =>
            obtain ⟨fs, q1, q2⟩ := ih fun v h => hv v (List.mem_cons_of_mem _ h)
            obtain ⟨ns, l, its, rfl, ht, hi⟩ := hv v List.mem_cons_self
            obtain ⟨o, k, e1, e2, e3⟩ := tup_get ht
            exact ⟨_ :: fs, ⟨⟨l, o, _, k, rfl, e1, e2, e3, rfl⟩, q1⟩, by rw [List.length_cons, List.length_cons, q2]⟩
        cases hi with
        | nil =>
          obtain ⟨fs, q1, q2⟩ := gen vs fun v h => hv v (List.mem_cons_of_mem _ h)
          exact ⟨none :: fs, ⟨⟨l, o, _, k, rfl, e1, e2, e3, rfl⟩, q1⟩, by rw [List.length_cons, List.length_cons, q2], by simp⟩
        | @cons p t xs ns hx =>
          obtain ⟨fs, q1, q2, q3⟩ := ih (fun v h => hv v (List.mem_cons_of_mem _ h)) fun z => all fun v h => by
            rcases List.mem_cons.mp h with rfl | h
            · exact ⟨p, ns, l, _, rfl, ht, .cons p t hx⟩
            · exact z v h
          exact ⟨some (.int p t) :: fs, ⟨⟨l, o, _, k, rfl, e1, e2, e3, rfl⟩, q1⟩, by rw [List.length_cons, List.length_cons, q2], by simpa using q3⟩
    have go : ∃ κ : SortKind, (κ = general' ∨ κ = oneType') ∧ ∀ (Q : SortKind → Shared → Prop) (E : Value → Shared → Prop), Q κ s → wpAny (model prog w) A (keyKind' vs.toArray) Q E s := by
      by_cases c : ((fs.toArray)[0]?.bind id).isSome = true
      · refine ⟨general', .inl rfl, fun Q E q => ?_⟩
        rw [kat_kind_eq, List.mapM_toArray, map_eq_pure_bind]
        refine wpAny_bind (wpAny_bind (kato_firsts vs fs k1 (wpAny_pure ?_)))
        rw [if_neg (by simpa using k3), if_pos c]
        exact wpAny_pure q
      · refine ⟨oneType', .inr rfl, fun Q E q => ?_⟩
        rw [kat_kind_eq, List.mapM_toArray, map_eq_pure_bind]
        refine wpAny_bind (wpAny_bind (kato_firsts vs fs k1 (wpAny_pure ?_)))
        rw [if_neg (by simpa using k3), if_neg c]
        rw [oneTypeOnly'_eq, List.mapM_toArray, map_eq_pure_bind]
        have hT : ∀ v ∈ vs, Looks (model prog w) s.heap (typeOf v) (.type "tuple") := fun v h => by
          obtain ⟨ns, l, its, e, ht, hi⟩ := hv v h
          subst e
          obtain ⟨o, k, e1, e2, e3⟩ := tup_get ht
          intro A Q E s kp q
          exact wpAny_typeOf ⟨o, kp _ _ e1, e2⟩ q
        refine wpAny_bind (wpAny_bind (wpAny_bind (kas_mapM (r := .type "tuple") _ (fun v hv Q' hq => (hT v hv).here hq) (wpAny_pure ?_))))
        obtain ⟨v₁, vr, rfl⟩ : ∃ v₁ vr, vs = v₁ :: vr := by
          match vs, h0 with
          | v₁ :: vr, _ => exact ⟨v₁, vr, rfl⟩
        have hall2 : ((List.map (fun _ => Value.type "tuple") (v₁ :: vr)).toArray.all fun x => x == Value.type "tuple") = true := by
          simp only [List.all_toArray, List.all_map, List.all_eq_true]
          intro _ _
          rfl
        have h0 : (List.map (fun _ => Value.type "tuple") (v₁ :: vr)).toArray[0]? = some (Value.type "tuple") := by simp
        rw [h0]
        simp only [hall2, if_true]
        exact wpAny_pure (wpAny_pure q)
    obtain ⟨κ, a, b⟩ := go
    exact ⟨κ, .inr a, b⟩
end
theorem op_ltT {X : Cx} (hu : X.A.units < cLine) : OpR X (compareOp .Lt) (rLtT X.K) := by
  intro pins s σ H x y v u Q I rx ry h
  obtain ⟨a, b, ns, ms, rfl, rfl, ha, hb, q⟩ := h
  cases rx
  cases ry
  obtain ⟨its, r1, p1, _⟩ := I.tuple ha
  obtain ⟨its2, r2, p2, _⟩ := I.tuple hb
  have i1 : IntsAre its ns := Vals.ints r1
  have i2 : IntsAre its2 ms := Vals.ints r2
  exact rc_ltL p1 p2 i1 i2 hu X.prog X.w X.xe _ ⟨.bl _, H, I, rfl, q⟩
theorem k_op_ltT (K : PySem.W.Frag) {X : Cx} (hu : X.A.units < cLine) (hK : X.K = K := by rfl) : OpR X (compareOp .Lt) (rLtT K) := by subst hK; exact op_ltT hu
theorem ltL_pair {a b c d : Int} : ltL [a, b] [c, d] = (decide (a < c) || (decide (a = c) && decide (b < d))) := by simp [ltL]
def rSortedL (K : PySem.W.Frag) : List V → Hp → VK → Prop := fun vs H Q => ∃ (a : Addr) (xs : List V) (key : V → List Int), vs = [.ref a] ∧ SqL K H a xs ∧
  (∀ x ∈ xs, ∃ t, x = .ref t ∧ SqT K H t ((key x).map V.int)) ∧
  ∀ (ys : List V) (p : Addr), ys.Perm xs → ys.Pairwise (fun x y => ltL (key y) (key x) = false) → H p = none → Q (.ref p) (upd H p (.lst ys))
theorem ltL_irr : ∀ a : List Int, ltL a a = false
  | [] => rfl
  | x :: xs => by simp [ltL, ltL_irr xs]
theorem ltL_asym : ∀ a b : List Int, ltL a b = true → ltL b a = false
  | [], [], h => by simp [ltL] at h
  | x :: xs, [], h => by simp [ltL] at h
  | [], y :: ys, _ => rfl
  | x :: xs, y :: ys, h => by
    have ih := ltL_asym xs ys
    simp only [ltL, Bool.or_eq_true, Bool.and_eq_true, decide_eq_true_eq, Bool.or_eq_false_iff, Bool.and_eq_false_iff, decide_eq_false_iff_not] at h ⊢
    rcases h with h | ⟨h, h2⟩
    · exact ⟨by omega, .inl (by omega)⟩
    · exact ⟨by omega, .inr (ih h2)⟩
theorem ltL_tr : ∀ a b c : List Int, ltL b a = false → ltL c b = false → ltL c a = false
  | [], _, c, _, _ => by cases c <;> rfl
  | x :: xs, [], c, h, _ => by simp [ltL] at h
  | x :: xs, y :: ys, [], _, h2 => by simp [ltL] at h2
  | x :: xs, y :: ys, z :: zs, h, h2 => by
    have ih := ltL_tr xs ys zs
    simp only [ltL, Bool.or_eq_false_iff, Bool.and_eq_false_iff, decide_eq_false_iff_not] at h h2 ⊢
    refine ⟨by omega, ?_⟩
    by_cases e : z = x
    · have e1 : y = x := by omega
      subst e1 e
      exact .inr (ih (h.2.resolve_left (by simp)) (h2.2.resolve_left (by simp)))
    · exact .inl e
theorem ltL_tot : ∀ a b : List Int, ltL a b = false → ltL b a = false → a = b
  | [], [], _, _ => rfl
  | [], y :: ys, h, _ => by simp [ltL] at h
  | x :: xs, [], _, h => by simp [ltL] at h
  | x :: xs, y :: ys, h, h2 => by
    simp only [ltL, Bool.or_eq_false_iff, Bool.and_eq_false_iff, decide_eq_false_iff_not] at h h2
    have e : x = y := by omega
    subst e
    rw [ltL_tot xs ys (h.2.resolve_left (by simp)) (h2.2.resolve_left (by simp))]
theorem swoL (key : Value → List Int) : SrtO.Swo fun v u => ltL (key v) (key u) := ⟨fun x y h => ltL_asym _ _ h, fun x y z h1 h2 => ltL_tr _ _ _ h1 h2⟩
def keyVL (key : V → List Int) : Value → List Int
  | .ref t => key (.ref t)
  | _ => []
theorem IsTL.keep {h h' : Heap} {v : Value} {ns : List Int} {a : Addr} (w : IsTL h v ns) (na : ∀ l its, h.IsTuple l its → l ≠ a) (kp : ∀ b o, b ≠ a → h.get? b = some o → h'.get? b = some o) : IsTL h' v ns := by
  obtain ⟨l, its, e, t, i⟩ := w
  obtain ⟨o, h1, h2, n, h3⟩ := id t
  exact ⟨l, its, e, ⟨o, kp _ _ (na _ _ t) h1, h2, n, h3⟩, i⟩
theorem cr_sortedL {X : Cx} (hu : X.A.in1.in1.units < cLine) : CallR X (.builtin "sorted") (rSortedL X.K) := by
  intro pins s σ H xs us Q I r h
  obtain ⟨a, xs, key, rfl, hx, hk, q⟩ := h
  cases r with
  | cons c r =>
  cases r
  cases c
  obtain ⟨its, rv, pl, hz⟩ := I.list hx
  have refs : ∀ x ∈ xs, ∃ t, x = V.ref t := fun x hx => let ⟨t, e, _⟩ := hk x hx; ⟨t, e⟩
  have all : ∀ v ∈ its, IsTL s.heap v (keyVL key v) ∧ backV v ∈ xs := fun v hv => by
    obtain ⟨x, hx1, rx⟩ := vals_mem rv hv
    obtain ⟨t, rfl, h1⟩ := hk x hx1
    cases rx
    obtain ⟨its, r, p, _⟩ := I.tuple h1
    exact ⟨⟨t, its, rfl, p, Vals.ints r⟩, hx1⟩
  have keyb : ∀ v ∈ its, keyVL key v = key (backV v) := fun v hv => by
    obtain ⟨x, hx1, rx⟩ := vals_mem rv hv
    obtain ⟨t, rfl⟩ := refs x hx1
    cases rx
    rfl
  refine SrtO.sorted_ord (ltv := fun v u => ltL (keyVL key v) (keyVL key u)) (swoL (keyVL key)) pl.isList (by rw [← rv.length]; exact hz) (fun h2 h₁ a₁ g1 g2 => ?_) (fun out srt stb => ?_)
  · intro h' kp
    have W : ∀ v ∈ its, IsTL h' v (keyVL key v) := fun v hv => by
      refine (all v hv).1.keep (a := a₁) (fun l its2 t => ?_) fun b o nb e => kp b o nb (g2 b o e).2
      obtain ⟨o, n, e1, _, _⟩ := tup_get t
      exact (g2 l o e1).1
    obtain ⟨κ, hκ, kk⟩ := kind_l (prog := X.prog) (w := X.w) (A := X.A.in1.in1) (s := ⟨h', s.gens, s.drawn, s.toks, s.os⟩) (vs := its) (by omega) fun v hv => ⟨_, W v hv⟩
    refine ⟨κ, fun Q E q => kk Q E q, fun p u hp hu' => ?_⟩
    exact lt_l (s := ⟨h', s.gens, s.drawn, s.toks, s.os⟩) hκ (W p.1 hp) (W u.1 hu') hu ⟨rfl, rfl⟩
  · obtain ⟨e, he⟩ := sortedAll_at s.heap its out.toArray
    have pm := stb.perm
    have or_ : ∀ u ∈ out, ∃ t, u = Value.ref t := fun u hu => by
      obtain ⟨x, hx1, rx⟩ := vals_mem rv (pm.mem_iff.mp hu)
      obtain ⟨t, rfl⟩ := refs x hx1
      cases rx
      exact ⟨t, rfl⟩
    have ro := vals_back or_
    have py : (out.map backV).Perm xs := by
      have := pm.map backV
      rw [back_vals rv refs] at this
      exact this
    have new : H (s.heap.objs.size + 1) = none := I.hok.fresh (by omega)
    refine ⟨.ref (s.heap.objs.size + 1), _, I.laid (t' := s.toks) (o := .lst (out.map backV)) (fun b ob q => sortedAll_old q) (by omega) ?_, rfl, q (out.map backV) _ py ?_ new⟩
    · exact ⟨by rw [py.length_eq]; exact hz, out, _, ro, he⟩
    · refine List.pairwise_map.mpr (srt.imp_of_mem fun {x y} hx hy h => ?_)
      have mx := pm.mem_iff.mp hx
      have my := pm.mem_iff.mp hy
      rw [← keyb _ mx, ← keyb _ my]
      exact h
end GA
/-! ## KH -/
namespace Mine
open PySem L2 GA
def top (i : Nat) : Stmt := PySem.Challenge.pw_growalong_k06_whole_runs_led_and_judged.main.body.getD i (.Pass ⟨0, 0, 0, 0⟩)
abbrev s_BadWeb_init : Stmt := inClass (top 2) 0
abbrev N_BadWeb_init : List Str := ["self", "part"]
abbrev P_BadWeb_init : List Str := ["self", "part"]
theorem sc_BadWeb_init : FnScope N_BadWeb_init P_BadWeb_init (defScope s_BadWeb_init) := ⟨rfl, rfl, rfl, by decide +kernel, rfl, by decide +kernel, by decide +kernel⟩
abbrev s_BadRecord_init : Stmt := inClass (top 3) 0
abbrev N_BadRecord_init : List Str := ["self", "part", "at"]
abbrev P_BadRecord_init : List Str := ["self", "part", "at"]
theorem sc_BadRecord_init : FnScope N_BadRecord_init P_BadRecord_init (defScope s_BadRecord_init) := ⟨rfl, rfl, rfl, by decide +kernel, rfl, by decide +kernel, by decide +kernel⟩
abbrev s_BadStep_init : Stmt := inClass (top 4) 0
abbrev N_BadStep_init : List Str := ["self", "index"]
abbrev P_BadStep_init : List Str := ["self", "index"]
theorem sc_BadStep_init : FnScope N_BadStep_init P_BadStep_init (defScope s_BadStep_init) := ⟨rfl, rfl, rfl, by decide +kernel, rfl, by decide +kernel, by decide +kernel⟩
abbrev s_NoWriters_init : Stmt := inClass (top 5) 0
abbrev N_NoWriters_init : List Str := ["self"]
abbrev P_NoWriters_init : List Str := ["self"]
theorem sc_NoWriters_init : FnScope N_NoWriters_init P_NoWriters_init (defScope s_NoWriters_init) := ⟨rfl, rfl, rfl, by decide +kernel, rfl, by decide +kernel, by decide +kernel⟩
abbrev s_OtherMachines_init : Stmt := inClass (top 6) 0
abbrev N_OtherMachines_init : List Str := ["self"]
abbrev P_OtherMachines_init : List Str := ["self"]
theorem sc_OtherMachines_init : FnScope N_OtherMachines_init P_OtherMachines_init (defScope s_OtherMachines_init) := ⟨rfl, rfl, rfl, by decide +kernel, rfl, by decide +kernel, by decide +kernel⟩
abbrev s_is_integer : Stmt := top 8
abbrev N_is_integer : List Str := ["thing"]
abbrev P_is_integer : List Str := ["thing"]
theorem sc_is_integer : FnScope N_is_integer P_is_integer (defScope s_is_integer) := ⟨rfl, rfl, rfl, by decide +kernel, rfl, by decide +kernel, by decide +kernel⟩
abbrev s_is_between : Stmt := top 9
abbrev N_is_between : List Str := ["low", "high", "thing"]
abbrev P_is_between : List Str := ["low", "high", "thing"]
theorem sc_is_between : FnScope N_is_between P_is_between (defScope s_is_between) := ⟨rfl, rfl, rfl, by decide +kernel, rfl, by decide +kernel, by decide +kernel⟩
abbrev s_is_below : Stmt := top 10
abbrev N_is_below : List Str := ["bound", "thing"]
abbrev P_is_below : List Str := ["bound", "thing"]
theorem sc_is_below : FnScope N_is_below P_is_below (defScope s_is_below) := ⟨rfl, rfl, rfl, by decide +kernel, rfl, by decide +kernel, by decide +kernel⟩
abbrev s_is_list_or_tuple : Stmt := top 11
abbrev N_is_list_or_tuple : List Str := ["thing"]
abbrev P_is_list_or_tuple : List Str := ["thing"]
theorem sc_is_list_or_tuple : FnScope N_is_list_or_tuple P_is_list_or_tuple (defScope s_is_list_or_tuple) := ⟨rfl, rfl, rfl, by decide +kernel, rfl, by decide +kernel, by decide +kernel⟩
abbrev s_is_tuple_of : Stmt := top 12
abbrev N_is_tuple_of : List Str := ["least", "most", "thing"]
abbrev P_is_tuple_of : List Str := ["least", "most", "thing"]
theorem sc_is_tuple_of : FnScope N_is_tuple_of P_is_tuple_of (defScope s_is_tuple_of) := ⟨rfl, rfl, rfl, by decide +kernel, rfl, by decide +kernel, by decide +kernel⟩
abbrev s_are_below : Stmt := top 13
abbrev N_are_below : List Str := ["bound", "things", "thing"]
abbrev P_are_below : List Str := ["bound", "things"]
theorem sc_are_below : FnScope N_are_below P_are_below (defScope s_are_below) := ⟨rfl, rfl, rfl, by decide +kernel, rfl, by decide +kernel, by decide +kernel⟩
abbrev s_is_unlike_pair : Stmt := top 14
abbrev N_is_unlike_pair : List Str := ["bound", "thing"]
abbrev P_is_unlike_pair : List Str := ["bound", "thing"]
theorem sc_is_unlike_pair : FnScope N_is_unlike_pair P_is_unlike_pair (defScope s_is_unlike_pair) := ⟨rfl, rfl, rfl, by decide +kernel, rfl, by decide +kernel, by decide +kernel⟩
abbrev s_is_worded : Stmt := top 15
abbrev N_is_worded : List Str := ["word", "length", "thing"]
abbrev P_is_worded : List Str := ["word", "length", "thing"]
theorem sc_is_worded : FnScope N_is_worded P_is_worded (defScope s_is_worded) := ⟨rfl, rfl, rfl, by decide +kernel, rfl, by decide +kernel, by decide +kernel⟩
abbrev s_Web_init : Stmt := inClass (top 18) 0
abbrev N_Web_init : List Str := ["self", "machines", "wires", "at"]
abbrev P_Web_init : List Str := ["self", "machines", "wires"]
theorem sc_Web_init : FnScope N_Web_init P_Web_init (defScope s_Web_init) := ⟨rfl, rfl, rfl, by decide +kernel, rfl, by decide +kernel, by decide +kernel⟩
abbrev s_Web_eq : Stmt := inClass (top 18) 1
abbrev N_Web_eq : List Str := ["self", "other"]
abbrev P_Web_eq : List Str := ["self", "other"]
theorem sc_Web_eq : FnScope N_Web_eq P_Web_eq (defScope s_Web_eq) := ⟨rfl, rfl, rfl, by decide +kernel, rfl, by decide +kernel, by decide +kernel⟩
abbrev s_first_wrong_wire : Stmt := top 19
abbrev N_first_wrong_wire : List Str := ["machines", "wires", "at", "wire"]
abbrev P_first_wrong_wire : List Str := ["machines", "wires"]
theorem sc_first_wrong_wire : FnScope N_first_wrong_wire P_first_wrong_wire (defScope s_first_wrong_wire) := ⟨rfl, rfl, rfl, by decide +kernel, rfl, by decide +kernel, by decide +kernel⟩
abbrev s_Record_init : Stmt := inClass (top 22) 0
abbrev N_Record_init : List Str := ["self", "writers", "diaries"]
abbrev P_Record_init : List Str := ["self", "writers", "diaries"]
theorem sc_Record_init : FnScope N_Record_init P_Record_init (defScope s_Record_init) := ⟨rfl, rfl, rfl, by decide +kernel, rfl, by decide +kernel, by decide +kernel⟩
abbrev s_Record_eq : Stmt := inClass (top 22) 1
abbrev N_Record_eq : List Str := ["self", "other"]
abbrev P_Record_eq : List Str := ["self", "other"]
theorem sc_Record_eq : FnScope N_Record_eq P_Record_eq (defScope s_Record_eq) := ⟨rfl, rfl, rfl, by decide +kernel, rfl, by decide +kernel, by decide +kernel⟩
abbrev s_check_record : Stmt := top 23
abbrev N_check_record : List Str := ["writers", "diaries", "put", "writer", "machine", "diary"]
abbrev P_check_record : List Str := ["writers", "diaries"]
theorem sc_check_record : FnScope N_check_record P_check_record (defScope s_check_record) := ⟨rfl, rfl, rfl, by decide +kernel, rfl, by decide +kernel, by decide +kernel⟩
abbrev s_is_diary : Stmt := top 24
abbrev N_is_diary : List Str := ["puts", "thing"]
abbrev P_is_diary : List Str := ["puts", "thing"]
theorem sc_is_diary : FnScope N_is_diary P_is_diary (defScope s_is_diary) := ⟨rfl, rfl, rfl, by decide +kernel, rfl, by decide +kernel, by decide +kernel⟩
abbrev s_check_machines : Stmt := top 25
abbrev N_check_machines : List Str := ["machines", "record"]
abbrev P_check_machines : List Str := ["machines", "record"]
theorem sc_check_machines : FnScope N_check_machines P_check_machines (defScope s_check_machines) := ⟨rfl, rfl, rfl, by decide +kernel, rfl, by decide +kernel, by decide +kernel⟩
abbrev s_Post_init : Stmt := inClass (top 28) 0
abbrev N_Post_init : List Str := ["self", "web", "writers", "_", "wire"]
abbrev P_Post_init : List Str := ["self", "web", "writers"]
theorem sc_Post_init : FnScope N_Post_init P_Post_init (defScope s_Post_init) := ⟨rfl, rfl, rfl, by decide +kernel, rfl, by decide +kernel, by decide +kernel⟩
abbrev s_Post_do : Stmt := inClass (top 28) 1
abbrev N_Post_do : List Str := ["self", "step"]
abbrev P_Post_do : List Str := ["self", "step"]
theorem sc_Post_do : FnScope N_Post_do P_Post_do (defScope s_Post_do) := ⟨rfl, rfl, rfl, by decide +kernel, rfl, by decide +kernel, by decide +kernel⟩
abbrev s_Post_put : Stmt := inClass (top 28) 2
abbrev N_Post_put : List Str := ["self", "put", "writer"]
abbrev P_Post_put : List Str := ["self", "put"]
theorem sc_Post_put : FnScope N_Post_put P_Post_put (defScope s_Post_put) := ⟨rfl, rfl, rfl, by decide +kernel, rfl, by decide +kernel, by decide +kernel⟩
abbrev s_Post_come : Stmt := inClass (top 28) 3
abbrev N_Post_come : List Str := ["self", "wire", "put"]
abbrev P_Post_come : List Str := ["self", "wire"]
theorem sc_Post_come : FnScope N_Post_come P_Post_come (defScope s_Post_come) := ⟨rfl, rfl, rfl, by decide +kernel, rfl, by decide +kernel, by decide +kernel⟩
abbrev s_Post_write : Stmt := inClass (top 28) 4
abbrev N_Post_write : List Str := ["self", "machine", "put", "wire"]
abbrev P_Post_write : List Str := ["self", "machine", "put"]
theorem sc_Post_write : FnScope N_Post_write P_Post_write (defScope s_Post_write) := ⟨rfl, rfl, rfl, by decide +kernel, rfl, by decide +kernel, by decide +kernel⟩
abbrev s_Post_diaries_told : Stmt := inClass (top 28) 5
abbrev N_Post_diaries_told : List Str := ["self", "diary"]
abbrev P_Post_diaries_told : List Str := ["self"]
theorem sc_Post_diaries_told : FnScope N_Post_diaries_told P_Post_diaries_told (defScope s_Post_diaries_told) := ⟨rfl, rfl, rfl, by decide +kernel, rfl, by decide +kernel, by decide +kernel⟩
abbrev s_Post_letters_told : Stmt := inClass (top 28) 6
abbrev N_Post_letters_told : List Str := ["self", "wire"]
abbrev P_Post_letters_told : List Str := ["self"]
theorem sc_Post_letters_told : FnScope N_Post_letters_told P_Post_letters_told (defScope s_Post_letters_told) := ⟨rfl, rfl, rfl, by decide +kernel, rfl, by decide +kernel, by decide +kernel⟩
abbrev s_first_undone : Stmt := top 29
abbrev N_first_undone : List Str := ["post", "steps", "at", "step"]
abbrev P_first_undone : List Str := ["post", "steps"]
theorem sc_first_undone : FnScope N_first_undone P_first_undone (defScope s_first_undone) := ⟨rfl, rfl, rfl, by decide +kernel, rfl, by decide +kernel, by decide +kernel⟩
abbrev s_are_steps : Stmt := top 30
abbrev N_are_steps : List Str := ["thing"]
abbrev P_are_steps : List Str := ["thing"]
theorem sc_are_steps : FnScope N_are_steps P_are_steps (defScope s_are_steps) := ⟨rfl, rfl, rfl, by decide +kernel, rfl, by decide +kernel, by decide +kernel⟩
abbrev s_check_writers : Stmt := top 31
abbrev N_check_writers : List Str := ["web", "writers"]
abbrev P_check_writers : List Str := ["web", "writers"]
theorem sc_check_writers : FnScope N_check_writers P_check_writers (defScope s_check_writers) := ⟨rfl, rfl, rfl, by decide +kernel, rfl, by decide +kernel, by decide +kernel⟩
abbrev s_led : Stmt := top 32
abbrev N_led : List Str := ["web", "writers", "steps", "post", "at"]
abbrev P_led : List Str := ["web", "writers", "steps"]
theorem sc_led : FnScope N_led P_led (defScope s_led) := ⟨rfl, rfl, rfl, by decide +kernel, rfl, by decide +kernel, by decide +kernel⟩
abbrev s_is_run : Stmt := top 33
abbrev N_is_run : List Str := ["web", "record", "thing", "post"]
abbrev P_is_run : List Str := ["web", "record", "thing"]
theorem sc_is_run : FnScope N_is_run P_is_run (defScope s_is_run) := ⟨rfl, rfl, rfl, by decide +kernel, rfl, by decide +kernel, by decide +kernel⟩
abbrev s__law_hand : Stmt := top 35
abbrev N__law_hand : List Str := ["_law_script", "_law_cells", "_law_cell"]
abbrev P__law_hand : List Str := ["_law_script"]
theorem sc__law_hand : FnScope N__law_hand P__law_hand (defScope s__law_hand) := ⟨rfl, rfl, rfl, by decide +kernel, rfl, by decide +kernel, by decide +kernel⟩
abbrev s__law_draw : Stmt := top 36
abbrev N__law_draw : List Str := ["_law_hand_here", "_law_many", "_law_cell", "_law_digit", "_law_number"]
abbrev P__law_draw : List Str := ["_law_hand_here", "_law_many"]
theorem sc__law_draw : FnScope N__law_draw P__law_draw (defScope s__law_draw) := ⟨rfl, rfl, rfl, by decide +kernel, rfl, by decide +kernel, by decide +kernel⟩
abbrev s__law_is : Stmt := top 37
abbrev N__law_is : List Str := ["_law_told_here", "_law_due", "_law_one", "_law_two"]
abbrev P__law_is : List Str := ["_law_told_here", "_law_due"]
theorem sc__law_is : FnScope N__law_is P__law_is (defScope s__law_is) := ⟨rfl, rfl, rfl, by decide +kernel, rfl, by decide +kernel, by decide +kernel⟩
abbrev s__law_flag : Stmt := top 38
abbrev N__law_flag : List Str := ["_law_told_here", "_law_due"]
abbrev P__law_flag : List Str := ["_law_told_here", "_law_due"]
theorem sc__law_flag : FnScope N__law_flag P__law_flag (defScope s__law_flag) := ⟨rfl, rfl, rfl, by decide +kernel, rfl, by decide +kernel, by decide +kernel⟩
abbrev s__law_deep : Stmt := top 39
abbrev N__law_deep : List Str := ["_law_hand_here", "_law_found", "_law_turn"]
abbrev P__law_deep : List Str := ["_law_hand_here"]
theorem sc__law_deep : FnScope N__law_deep P__law_deep (defScope s__law_deep) := ⟨rfl, rfl, rfl, by decide +kernel, rfl, by decide +kernel, by decide +kernel⟩
abbrev s__law_web : Stmt := top 40
abbrev N__law_web : List Str := ["_law_hand_here", "_law_machines", "_law_kind", "_law_found", "_law_y", "_law_x", "_law_near"]
abbrev P__law_web : List Str := ["_law_hand_here", "_law_machines"]
theorem sc__law_web : FnScope N__law_web P__law_web (defScope s__law_web) := ⟨rfl, rfl, rfl, by decide +kernel, rfl, by decide +kernel, by decide +kernel⟩
abbrev s__law_ran : Stmt := top 41
abbrev N__law_ran : List Str := ["_law_hand_here", "_law_machines", "_law_wires", "_law_writers", "_law_most", "_law_diaries", "_law_wire", "_law_letters", "_law_left", "_law_steps", "_law_more", "_law_turn", "_law_ready", "_law_put", "_law_x", "_law_y", "_law_machine", "_law_diary"]
abbrev P__law_ran : List Str := ["_law_hand_here", "_law_machines", "_law_wires", "_law_writers", "_law_most"]
theorem sc__law_ran : FnScope N__law_ran P__law_ran (defScope s__law_ran) := ⟨rfl, rfl, rfl, by decide +kernel, rfl, by decide +kernel, by decide +kernel⟩
abbrev s__law_is_whole : Stmt := top 42
abbrev N__law_is_whole : List Str := ["_law_thing", "_law_many"]
abbrev P__law_is_whole : List Str := ["_law_thing", "_law_many"]
theorem sc__law_is_whole : FnScope N__law_is_whole P__law_is_whole (defScope s__law_is_whole) := ⟨rfl, rfl, rfl, by decide +kernel, rfl, by decide +kernel, by decide +kernel⟩
abbrev s__law_bent_record : Stmt := top 43
abbrev N__law_bent_record : List Str := ["_law_hand_here", "_law_writers", "_law_diaries", "_law_x", "_law_own", "_law_kind", "_law_at", "_law_others", "_law_lacking", "_law_put"]
abbrev P__law_bent_record : List Str := ["_law_hand_here", "_law_writers", "_law_diaries"]
theorem sc__law_bent_record : FnScope N__law_bent_record P__law_bent_record (defScope s__law_bent_record) := ⟨rfl, rfl, rfl, by decide +kernel, rfl, by decide +kernel, by decide +kernel⟩
abbrev s__law_is_step : Stmt := top 44
abbrev N__law_is_step : List Str := ["_law_step", "_law_machines", "_law_many", "_law_x"]
abbrev P__law_is_step : List Str := ["_law_step", "_law_machines", "_law_many"]
theorem sc__law_is_step : FnScope N__law_is_step P__law_is_step (defScope s__law_is_step) := ⟨rfl, rfl, rfl, by decide +kernel, rfl, by decide +kernel, by decide +kernel⟩
abbrev s__law_behind : Stmt := top 45
abbrev N__law_behind : List Str := ["_law_machines", "_law_wires", "_law_writers", "_law_steps", "_law_diaries", "_law_wire", "_law_letters", "_law_done", "_law_index", "_law_step", "_law_put", "_law_x", "_law_machine", "_law_diary"]
abbrev P__law_behind : List Str := ["_law_machines", "_law_wires", "_law_writers", "_law_steps"]
theorem sc__law_behind : FnScope N__law_behind P__law_behind (defScope s__law_behind) := ⟨rfl, rfl, rfl, by decide +kernel, rfl, by decide +kernel, by decide +kernel⟩
abbrev s__law_told : Stmt := top 46
abbrev N__law_told : List Str := ["_law_web_here", "_law_writers", "_law_steps", "_law_found", "e"]
abbrev P__law_told : List Str := ["_law_web_here", "_law_writers", "_law_steps"]
theorem sc__law_told : FnScope N__law_told P__law_told (defScope s__law_told) := ⟨rfl, rfl, rfl, by decide +kernel, rfl, by decide +kernel, by decide +kernel⟩
abbrev s__law_spoiled : Stmt := top 47
abbrev N__law_spoiled : List Str := ["_law_hand_here", "_law_steps", "_law_machines", "_law_kind", "_law_odds", "_law_at", "_law_step", "_law_things"]
abbrev P__law_spoiled : List Str := ["_law_hand_here", "_law_steps", "_law_machines"]
theorem sc__law_spoiled : FnScope N__law_spoiled P__law_spoiled (defScope s__law_spoiled) := ⟨rfl, rfl, rfl, by decide +kernel, rfl, by decide +kernel, by decide +kernel⟩
abbrev s_law : Stmt := top 48
abbrev N_law : List Str := ["_law_script", "_law_hand_here", "_law_turn", "_law_machines", "_law_wires", "_law_is_great", "_law_many", "_law_writers", "_law_diaries", "_law_steps", "_law_web_here", "_law_kept", "_law_thing", "_law_due", "_law_told_here", "_law_record", "_law_is_there", "_law_put"]
abbrev P_law : List Str := ["_law_script"]
theorem sc_law : FnScope N_law P_law (defScope s_law) := ⟨rfl, rfl, rfl, by decide +kernel, rfl, by decide +kernel, by decide +kernel⟩
structure Ads where
  f_BadWeb_init : Addr
  d_BadWeb_init : FuncData
  f_BadRecord_init : Addr
  d_BadRecord_init : FuncData
  f_BadStep_init : Addr
  d_BadStep_init : FuncData
  f_NoWriters_init : Addr
  d_NoWriters_init : FuncData
  f_OtherMachines_init : Addr
  d_OtherMachines_init : FuncData
  f_is_integer : Addr
  d_is_integer : FuncData
  f_is_between : Addr
  d_is_between : FuncData
  f_is_below : Addr
  d_is_below : FuncData
  f_is_list_or_tuple : Addr
  d_is_list_or_tuple : FuncData
  f_is_tuple_of : Addr
  d_is_tuple_of : FuncData
  f_are_below : Addr
  d_are_below : FuncData
  f_is_unlike_pair : Addr
  d_is_unlike_pair : FuncData
  f_is_worded : Addr
  d_is_worded : FuncData
  f_Web_init : Addr
  d_Web_init : FuncData
  f_Web_eq : Addr
  d_Web_eq : FuncData
  f_first_wrong_wire : Addr
  d_first_wrong_wire : FuncData
  f_Record_init : Addr
  d_Record_init : FuncData
  f_Record_eq : Addr
  d_Record_eq : FuncData
  f_check_record : Addr
  d_check_record : FuncData
  f_is_diary : Addr
  d_is_diary : FuncData
  f_check_machines : Addr
  d_check_machines : FuncData
  f_Post_init : Addr
  d_Post_init : FuncData
  f_Post_do : Addr
  d_Post_do : FuncData
  f_Post_put : Addr
  d_Post_put : FuncData
  f_Post_come : Addr
  d_Post_come : FuncData
  f_Post_write : Addr
  d_Post_write : FuncData
  f_Post_diaries_told : Addr
  d_Post_diaries_told : FuncData
  f_Post_letters_told : Addr
  d_Post_letters_told : FuncData
  f_first_undone : Addr
  d_first_undone : FuncData
  f_are_steps : Addr
  d_are_steps : FuncData
  f_check_writers : Addr
  d_check_writers : FuncData
  f_led : Addr
  d_led : FuncData
  f_is_run : Addr
  d_is_run : FuncData
  f__law_hand : Addr
  d__law_hand : FuncData
  f__law_draw : Addr
  d__law_draw : FuncData
  f__law_is : Addr
  d__law_is : FuncData
  f__law_flag : Addr
  d__law_flag : FuncData
  f__law_deep : Addr
  d__law_deep : FuncData
  f__law_web : Addr
  d__law_web : FuncData
  f__law_ran : Addr
  d__law_ran : FuncData
  f__law_is_whole : Addr
  d__law_is_whole : FuncData
  f__law_bent_record : Addr
  d__law_bent_record : FuncData
  f__law_is_step : Addr
  d__law_is_step : FuncData
  f__law_behind : Addr
  d__law_behind : FuncData
  f__law_told : Addr
  d__law_told : FuncData
  f__law_spoiled : Addr
  d__law_spoiled : FuncData
  f_law : Addr
  d_law : FuncData
  c_GrowError : Addr
  c_BadWeb : Addr
  c_BadRecord : Addr
  c_BadStep : Addr
  c_NoWriters : Addr
  c_OtherMachines : Addr
  c_Web : Addr
  c_Record : Addr
  c_Post : Addr
  t_MOST_MACHINES : Tok
  t_MOST_PUTS : Tok
  t_MOST_STEPS : Tok
structure Txt (K : PySem.W.Frag) (mg : Str → Option Value) (a : Ads) : Prop where
  F_BadWeb_init : Fun K "__init__" "BadWeb.__init__" s_BadWeb_init a.f_BadWeb_init a.d_BadWeb_init
  b_BadWeb_init : Binds K a.d_BadWeb_init P_BadWeb_init []
  F_BadRecord_init : Fun K "__init__" "BadRecord.__init__" s_BadRecord_init a.f_BadRecord_init a.d_BadRecord_init
  b_BadRecord_init : Binds K a.d_BadRecord_init P_BadRecord_init []
  F_BadStep_init : Fun K "__init__" "BadStep.__init__" s_BadStep_init a.f_BadStep_init a.d_BadStep_init
  b_BadStep_init : Binds K a.d_BadStep_init P_BadStep_init []
  F_NoWriters_init : Fun K "__init__" "NoWriters.__init__" s_NoWriters_init a.f_NoWriters_init a.d_NoWriters_init
  b_NoWriters_init : Binds K a.d_NoWriters_init P_NoWriters_init []
  F_OtherMachines_init : Fun K "__init__" "OtherMachines.__init__" s_OtherMachines_init a.f_OtherMachines_init a.d_OtherMachines_init
  b_OtherMachines_init : Binds K a.d_OtherMachines_init P_OtherMachines_init []
  F_is_integer : Fun K "is_integer" "is_integer" s_is_integer a.f_is_integer a.d_is_integer
  b_is_integer : Binds K a.d_is_integer P_is_integer []
  m_is_integer : mg "is_integer" = some (.ref a.f_is_integer)
  F_is_between : Fun K "is_between" "is_between" s_is_between a.f_is_between a.d_is_between
  b_is_between : Binds K a.d_is_between P_is_between []
  m_is_between : mg "is_between" = some (.ref a.f_is_between)
  F_is_below : Fun K "is_below" "is_below" s_is_below a.f_is_below a.d_is_below
  b_is_below : Binds K a.d_is_below P_is_below []
  m_is_below : mg "is_below" = some (.ref a.f_is_below)
  F_is_list_or_tuple : Fun K "is_list_or_tuple" "is_list_or_tuple" s_is_list_or_tuple a.f_is_list_or_tuple a.d_is_list_or_tuple
  b_is_list_or_tuple : Binds K a.d_is_list_or_tuple P_is_list_or_tuple []
  m_is_list_or_tuple : mg "is_list_or_tuple" = some (.ref a.f_is_list_or_tuple)
  F_is_tuple_of : Fun K "is_tuple_of" "is_tuple_of" s_is_tuple_of a.f_is_tuple_of a.d_is_tuple_of
  b_is_tuple_of : Binds K a.d_is_tuple_of P_is_tuple_of []
  m_is_tuple_of : mg "is_tuple_of" = some (.ref a.f_is_tuple_of)
  F_are_below : Fun K "are_below" "are_below" s_are_below a.f_are_below a.d_are_below
  b_are_below : Binds K a.d_are_below P_are_below []
  m_are_below : mg "are_below" = some (.ref a.f_are_below)
  F_is_unlike_pair : Fun K "is_unlike_pair" "is_unlike_pair" s_is_unlike_pair a.f_is_unlike_pair a.d_is_unlike_pair
  b_is_unlike_pair : Binds K a.d_is_unlike_pair P_is_unlike_pair []
  m_is_unlike_pair : mg "is_unlike_pair" = some (.ref a.f_is_unlike_pair)
  F_is_worded : Fun K "is_worded" "is_worded" s_is_worded a.f_is_worded a.d_is_worded
  b_is_worded : Binds K a.d_is_worded P_is_worded []
  m_is_worded : mg "is_worded" = some (.ref a.f_is_worded)
  F_Web_init : Fun K "__init__" "Web.__init__" s_Web_init a.f_Web_init a.d_Web_init
  b_Web_init : Binds K a.d_Web_init P_Web_init []
  F_Web_eq : Fun K "__eq__" "Web.__eq__" s_Web_eq a.f_Web_eq a.d_Web_eq
  b_Web_eq : Binds K a.d_Web_eq P_Web_eq []
  F_first_wrong_wire : Fun K "first_wrong_wire" "first_wrong_wire" s_first_wrong_wire a.f_first_wrong_wire a.d_first_wrong_wire
  b_first_wrong_wire : Binds K a.d_first_wrong_wire P_first_wrong_wire []
  m_first_wrong_wire : mg "first_wrong_wire" = some (.ref a.f_first_wrong_wire)
  F_Record_init : Fun K "__init__" "Record.__init__" s_Record_init a.f_Record_init a.d_Record_init
  b_Record_init : Binds K a.d_Record_init P_Record_init []
  F_Record_eq : Fun K "__eq__" "Record.__eq__" s_Record_eq a.f_Record_eq a.d_Record_eq
  b_Record_eq : Binds K a.d_Record_eq P_Record_eq []
  F_check_record : Fun K "check_record" "check_record" s_check_record a.f_check_record a.d_check_record
  b_check_record : Binds K a.d_check_record P_check_record []
  m_check_record : mg "check_record" = some (.ref a.f_check_record)
  F_is_diary : Fun K "is_diary" "is_diary" s_is_diary a.f_is_diary a.d_is_diary
  b_is_diary : Binds K a.d_is_diary P_is_diary []
  m_is_diary : mg "is_diary" = some (.ref a.f_is_diary)
  F_check_machines : Fun K "check_machines" "check_machines" s_check_machines a.f_check_machines a.d_check_machines
  b_check_machines : Binds K a.d_check_machines P_check_machines []
  m_check_machines : mg "check_machines" = some (.ref a.f_check_machines)
  F_Post_init : Fun K "__init__" "Post.__init__" s_Post_init a.f_Post_init a.d_Post_init
  b_Post_init : Binds K a.d_Post_init P_Post_init []
  F_Post_do : Fun K "do" "Post.do" s_Post_do a.f_Post_do a.d_Post_do
  b_Post_do : Binds K a.d_Post_do P_Post_do []
  mt_Post_do : Meth K a.c_Post "do" a.f_Post_do
  F_Post_put : Fun K "put" "Post.put" s_Post_put a.f_Post_put a.d_Post_put
  b_Post_put : Binds K a.d_Post_put P_Post_put []
  mt_Post_put : Meth K a.c_Post "put" a.f_Post_put
  F_Post_come : Fun K "come" "Post.come" s_Post_come a.f_Post_come a.d_Post_come
  b_Post_come : Binds K a.d_Post_come P_Post_come []
  mt_Post_come : Meth K a.c_Post "come" a.f_Post_come
  F_Post_write : Fun K "write" "Post.write" s_Post_write a.f_Post_write a.d_Post_write
  b_Post_write : Binds K a.d_Post_write P_Post_write []
  mt_Post_write : Meth K a.c_Post "write" a.f_Post_write
  F_Post_diaries_told : Fun K "diaries_told" "Post.diaries_told" s_Post_diaries_told a.f_Post_diaries_told a.d_Post_diaries_told
  b_Post_diaries_told : Binds K a.d_Post_diaries_told P_Post_diaries_told []
  mt_Post_diaries_told : Meth K a.c_Post "diaries_told" a.f_Post_diaries_told
  F_Post_letters_told : Fun K "letters_told" "Post.letters_told" s_Post_letters_told a.f_Post_letters_told a.d_Post_letters_told
  b_Post_letters_told : Binds K a.d_Post_letters_told P_Post_letters_told []
  mt_Post_letters_told : Meth K a.c_Post "letters_told" a.f_Post_letters_told
  F_first_undone : Fun K "first_undone" "first_undone" s_first_undone a.f_first_undone a.d_first_undone
  b_first_undone : Binds K a.d_first_undone P_first_undone []
  m_first_undone : mg "first_undone" = some (.ref a.f_first_undone)
  F_are_steps : Fun K "are_steps" "are_steps" s_are_steps a.f_are_steps a.d_are_steps
  b_are_steps : Binds K a.d_are_steps P_are_steps []
  m_are_steps : mg "are_steps" = some (.ref a.f_are_steps)
  F_check_writers : Fun K "check_writers" "check_writers" s_check_writers a.f_check_writers a.d_check_writers
  b_check_writers : Binds K a.d_check_writers P_check_writers []
  m_check_writers : mg "check_writers" = some (.ref a.f_check_writers)
  F_led : Fun K "led" "led" s_led a.f_led a.d_led
  b_led : Binds K a.d_led P_led []
  m_led : mg "led" = some (.ref a.f_led)
  F_is_run : Fun K "is_run" "is_run" s_is_run a.f_is_run a.d_is_run
  b_is_run : Binds K a.d_is_run P_is_run []
  m_is_run : mg "is_run" = some (.ref a.f_is_run)
  F__law_hand : Fun K "_law_hand" "_law_hand" s__law_hand a.f__law_hand a.d__law_hand
  b__law_hand : Binds K a.d__law_hand P__law_hand []
  m__law_hand : mg "_law_hand" = some (.ref a.f__law_hand)
  F__law_draw : Fun K "_law_draw" "_law_draw" s__law_draw a.f__law_draw a.d__law_draw
  b__law_draw : Binds K a.d__law_draw P__law_draw []
  m__law_draw : mg "_law_draw" = some (.ref a.f__law_draw)
  F__law_is : Fun K "_law_is" "_law_is" s__law_is a.f__law_is a.d__law_is
  b__law_is : Binds K a.d__law_is P__law_is []
  m__law_is : mg "_law_is" = some (.ref a.f__law_is)
  F__law_flag : Fun K "_law_flag" "_law_flag" s__law_flag a.f__law_flag a.d__law_flag
  b__law_flag : Binds K a.d__law_flag P__law_flag []
  m__law_flag : mg "_law_flag" = some (.ref a.f__law_flag)
  F__law_deep : Fun K "_law_deep" "_law_deep" s__law_deep a.f__law_deep a.d__law_deep
  b__law_deep : Binds K a.d__law_deep P__law_deep []
  m__law_deep : mg "_law_deep" = some (.ref a.f__law_deep)
  F__law_web : Fun K "_law_web" "_law_web" s__law_web a.f__law_web a.d__law_web
  b__law_web : Binds K a.d__law_web P__law_web []
  m__law_web : mg "_law_web" = some (.ref a.f__law_web)
  F__law_ran : Fun K "_law_ran" "_law_ran" s__law_ran a.f__law_ran a.d__law_ran
  b__law_ran : Binds K a.d__law_ran P__law_ran []
  m__law_ran : mg "_law_ran" = some (.ref a.f__law_ran)
  F__law_is_whole : Fun K "_law_is_whole" "_law_is_whole" s__law_is_whole a.f__law_is_whole a.d__law_is_whole
  b__law_is_whole : Binds K a.d__law_is_whole P__law_is_whole []
  m__law_is_whole : mg "_law_is_whole" = some (.ref a.f__law_is_whole)
  F__law_bent_record : Fun K "_law_bent_record" "_law_bent_record" s__law_bent_record a.f__law_bent_record a.d__law_bent_record
  b__law_bent_record : Binds K a.d__law_bent_record P__law_bent_record []
  m__law_bent_record : mg "_law_bent_record" = some (.ref a.f__law_bent_record)
  F__law_is_step : Fun K "_law_is_step" "_law_is_step" s__law_is_step a.f__law_is_step a.d__law_is_step
  b__law_is_step : Binds K a.d__law_is_step P__law_is_step []
  m__law_is_step : mg "_law_is_step" = some (.ref a.f__law_is_step)
  F__law_behind : Fun K "_law_behind" "_law_behind" s__law_behind a.f__law_behind a.d__law_behind
  b__law_behind : Binds K a.d__law_behind P__law_behind []
  m__law_behind : mg "_law_behind" = some (.ref a.f__law_behind)
  F__law_told : Fun K "_law_told" "_law_told" s__law_told a.f__law_told a.d__law_told
  b__law_told : Binds K a.d__law_told P__law_told []
  m__law_told : mg "_law_told" = some (.ref a.f__law_told)
  F__law_spoiled : Fun K "_law_spoiled" "_law_spoiled" s__law_spoiled a.f__law_spoiled a.d__law_spoiled
  b__law_spoiled : Binds K a.d__law_spoiled P__law_spoiled []
  m__law_spoiled : mg "_law_spoiled" = some (.ref a.f__law_spoiled)
  F_law : Fun K "law" "law" s_law a.f_law a.d_law
  b_law : Binds K a.d_law P_law []
  m_law : mg "law" = some (.ref a.f_law)
  m_GrowError : mg "GrowError" = some (.ref a.c_GrowError)
  m_BadWeb : mg "BadWeb" = some (.ref a.c_BadWeb)
  m_BadRecord : mg "BadRecord" = some (.ref a.c_BadRecord)
  m_BadStep : mg "BadStep" = some (.ref a.c_BadStep)
  m_NoWriters : mg "NoWriters" = some (.ref a.c_NoWriters)
  m_OtherMachines : mg "OtherMachines" = some (.ref a.c_OtherMachines)
  m_Web : mg "Web" = some (.ref a.c_Web)
  m_Record : mg "Record" = some (.ref a.c_Record)
  m_Post : mg "Post" = some (.ref a.c_Post)
  cl_Web : Cls K a.c_Web
  K_Web : Mk K a.c_Web a.f_Web_init
  ic_Web : C8.InsC K a.c_Web
  eqf_Web : PySem.W.findIn K (.ref a.c_Web) "__eq__" = some (some (.ref a.f_Web_eq))
  eqi_Web : PySem.W.isFn K (.ref a.f_Web_eq) = true
  ne_Web : PySem.W.findIn K (.ref a.c_Web) "__ne__" = some (some (.builtin "object.__ne__"))
  na_Web_machines : NoAttr K a.c_Web "machines"
  na_Web_wires : NoAttr K a.c_Web "wires"
  cl_Record : Cls K a.c_Record
  K_Record : Mk K a.c_Record a.f_Record_init
  ic_Record : C8.InsC K a.c_Record
  eqf_Record : PySem.W.findIn K (.ref a.c_Record) "__eq__" = some (some (.ref a.f_Record_eq))
  eqi_Record : PySem.W.isFn K (.ref a.f_Record_eq) = true
  ne_Record : PySem.W.findIn K (.ref a.c_Record) "__ne__" = some (some (.builtin "object.__ne__"))
  na_Record_writers : NoAttr K a.c_Record "writers"
  na_Record_diaries : NoAttr K a.c_Record "diaries"
  cl_Post : Cls K a.c_Post
  K_Post : Mk K a.c_Post a.f_Post_init
  na_Post_machines : NoAttr K a.c_Post "machines"
  na_Post_wires : NoAttr K a.c_Post "wires"
  na_Post_writers : NoAttr K a.c_Post "writers"
  na_Post_written : NoAttr K a.c_Post "written"
  na_Post_under_way : NoAttr K a.c_Post "under_way"
  ox : OexC K a.c_BadStep
  xi : PySem.W.findIn K (.ref a.c_BadStep) "__init__" = some (some (.ref a.f_BadStep_init))
  xt : PySem.W.typeIn K (.ref a.f_BadStep_init) = some (.type "function")
  xf : XfC K a.c_BadStep
  xp : PySem.W.findIn K (.ref a.c_BadStep) "index" = some none
  xc : ExcC K a.c_BadStep
  xm : PySem.W.exmOne K (.ref a.c_BadStep) (.ref a.c_GrowError) = some true
  xs : PySem.W.kitOne K (.ref a.c_BadStep) (.ref a.c_BadStep) = some true
  xv : PySem.W.kitOne K (.ref a.c_BadStep) (.type "ValueError") = some true
  ik : InsK K a.c_Web
  wt : PySem.W.typeIn K (.ref a.c_Web) = some (.type "type")
  m_MOST_MACHINES : mg "MOST_MACHINES" = some (.int 7 a.t_MOST_MACHINES)
  m_MOST_PUTS : mg "MOST_PUTS" = some (.int 30 a.t_MOST_PUTS)
  m_MOST_STEPS : mg "MOST_STEPS" = some (.int 4000 a.t_MOST_STEPS)
  n_isinstance : mg "isinstance" = none
  n_int : mg "int" = none
  n_bool : mg "bool" = none
  n_list : mg "list" = none
  n_tuple : mg "tuple" = none
  n_len : mg "len" = none
  n_all : mg "all" = none
  n_str : mg "str" = none
  n_enumerate : mg "enumerate" = none
  n_set : mg "set" = none
  n_range : mg "range" = none
  n_zip : mg "zip" = none
  n_abs : mg "abs" = none
  n_min : mg "min" = none
  n_dict : mg "dict" = none
  n_ValueError : mg "ValueError" = none
end Mine
/-! ## D1 -/
section
open PySem L2 GA
local macro_rules
  | `(tactic| walk_at "w") => `(tactic| first
    | ((with_reducible refine' GA.w_var ?e ?_); (case e => exact rfl))
    | (with_reducible refine' GA.w_c ?_)
    | (with_reducible refine' GA.w_cons ?_)
    | (with_reducible refine' GA.w_nil ?_)
    | (with_reducible refine' GA.w_op ?_)
    | (with_reducible refine' GA.r_I0 ?_)
    | (with_reducible refine' GA.w_bl ?_)
    | (with_reducible refine' GA.w_seq ?_)
    | (with_reducible refine' GA.w_set ?_)
    | (with_reducible refine' GA.w_ret ?_)
    | (with_reducible refine' GA.w_ifS ?_)
    | (with_reducible refine' GA.w_test ?_)
    | (with_reducible refine' GA.w_tB ?_)
    | (with_reducible refine' GA.w_not ?_)
    | (with_reducible refine' GA.w_and ?_)
    | (with_reducible refine' GA.w_or ?_)
    | (with_reducible refine' GA.w_andV ?_)
    | (with_reducible refine' GA.w_orV ?_)
    | (with_reducible refine' GA.w_notV ?_)
    | (with_reducible refine' GA.w_blc ?_)
    | (with_reducible refine' GA.w_if ?_)
    | (with_reducible refine' GA.w_CB ?_)
    | (with_reducible refine' GA.w_call ?_)
    | (with_reducible refine' GA.w_tupN ?_)
    | (with_reducible refine' GA.w_lstN ?_)
    | (with_reducible refine' GA.w_chain ?_)
    | (with_reducible refine' GA.w_drop ?_)
    | (with_reducible refine' GA.w_next ?_)
    | (with_reducible refine' GA.w_break ?_)
    | (with_reducible refine' GA.w_un ?_)
    | (with_reducible refine' GA.r_U ?_)
    | (with_reducible refine' GA.r_eqI ?_)
    | (with_reducible refine' GA.r_neI ?_)
    | (with_reducible refine' GA.r_eqB ?_)
    | (with_reducible refine' GA.r_neB ?_)
    | (with_reducible refine' GA.w_fld ?_)
    | (with_reducible refine' GA.w_sfld ?_)
    | (with_reducible refine' GA.w_sl ?_)
    | (with_reducible refine' GA.w_part ?_)
    | (with_reducible refine' GA.w_noPart ?_)
    | (with_reducible refine' GA.w_inti ?_)
    | (with_reducible refine' GA.w_retN ?_)
    | (with_reducible refine' GA.w_gsub ?_)
    | (with_reducible refine' GA.w_gname ?_)
    | (with_reducible refine' L2.iteT ?_)
    | (with_reducible refine' L2.iteF ?_)
    | (with_reducible refine' GA.w_nt ?_)
    | (with_reducible refine' GA.w_nf ?_)
    | (with_reducible refine' GA.w_isN ?_)
    | (with_reducible refine' GA.w_notN ?_)
    | (with_reducible refine' GA.w_yes ?_)
    | (with_reducible refine' GA.w_lc ?_)
    | (with_reducible refine' GA.w_lc2 ?_)
    | (with_reducible refine' GA.w_iseq ?_)
    | (with_reducible refine' GA.w_make ?_)
    | (with_reducible refine' GA.w_for ?_)
    | (with_reducible refine' GA.w_rng1 ?_)
    | (with_reducible refine' GA.w_rng2 ?_)
    | (with_reducible refine' GA.w_itup ?_)
    | (with_reducible refine' GA.w_ilist ?_)
    | (with_reducible refine' GA.w_ienum ?_)
    | (with_reducible refine' GA.w_BM ?_)
    | (with_reducible refine' GA.w_BM0 ?_)
    | (with_reducible refine' GA.w_izip ?_)
    | (with_reducible refine' GA.w_asg ?_))
  | `(tactic| walk_at "wm") => `(tactic| first
    | ((with_reducible refine' GA.w_var ?e ?_); (case e => exact rfl))
    | (with_reducible refine' GA.w_c ?_)
    | (with_reducible refine' GA.w_cons ?_)
    | (with_reducible refine' GA.w_nil ?_)
    | (with_reducible refine' GA.w_op ?_)
    | (with_reducible refine' GA.r_I0 ?_)
    | (with_reducible refine' GA.w_bl ?_)
    | (with_reducible refine' GA.w_set ?_)
    | (with_reducible refine' GA.w_ret ?_)
    | (with_reducible refine' GA.w_ifS ?_)
    | (with_reducible refine' GA.w_test ?_)
    | (with_reducible refine' GA.w_tB ?_)
    | (with_reducible refine' GA.w_not ?_)
    | (with_reducible refine' GA.w_and ?_)
    | (with_reducible refine' GA.w_or ?_)
    | (with_reducible refine' GA.w_andV ?_)
    | (with_reducible refine' GA.w_orV ?_)
    | (with_reducible refine' GA.w_notV ?_)
    | (with_reducible refine' GA.w_blc ?_)
    | (with_reducible refine' GA.w_if ?_)
    | (with_reducible refine' GA.w_CB ?_)
    | (with_reducible refine' GA.w_call ?_)
    | (with_reducible refine' GA.w_tupN ?_)
    | (with_reducible refine' GA.w_lstN ?_)
    | (with_reducible refine' GA.w_chain ?_)
    | (with_reducible refine' GA.w_drop ?_)
    | (with_reducible refine' GA.w_next ?_)
    | (with_reducible refine' GA.w_break ?_)
    | (with_reducible refine' GA.w_un ?_)
    | (with_reducible refine' GA.r_U ?_)
    | (with_reducible refine' GA.r_eqI ?_)
    | (with_reducible refine' GA.r_neI ?_)
    | (with_reducible refine' GA.r_eqB ?_)
    | (with_reducible refine' GA.r_neB ?_)
    | (with_reducible refine' GA.w_fld ?_)
    | (with_reducible refine' GA.w_sfld ?_)
    | (with_reducible refine' GA.w_sl ?_)
    | (with_reducible refine' GA.w_part ?_)
    | (with_reducible refine' GA.w_noPart ?_)
    | (with_reducible refine' GA.w_inti ?_)
    | (with_reducible refine' GA.w_retN ?_)
    | (with_reducible refine' GA.w_gsub ?_)
    | (with_reducible refine' GA.w_gname ?_)
    | (with_reducible refine' L2.iteT ?_)
    | (with_reducible refine' L2.iteF ?_)
    | (with_reducible refine' GA.w_nt ?_)
    | (with_reducible refine' GA.w_nf ?_)
    | (with_reducible refine' GA.w_isN ?_)
    | (with_reducible refine' GA.w_notN ?_)
    | (with_reducible refine' GA.w_yes ?_)
    | (with_reducible refine' GA.w_lc ?_)
    | (with_reducible refine' GA.w_lc2 ?_)
    | (with_reducible refine' GA.w_iseq ?_)
    | (with_reducible refine' GA.w_make ?_)
    | (with_reducible refine' GA.w_for ?_)
    | (with_reducible refine' GA.w_rng1 ?_)
    | (with_reducible refine' GA.w_rng2 ?_)
    | (with_reducible refine' GA.w_itup ?_)
    | (with_reducible refine' GA.w_ilist ?_)
    | (with_reducible refine' GA.w_ienum ?_)
    | (with_reducible refine' GA.w_BM ?_)
    | (with_reducible refine' GA.w_BM0 ?_)
    | (with_reducible refine' GA.w_izip ?_)
    | (with_reducible refine' GA.w_asg ?_))
  | `(tactic| walk_at "ws") => `(tactic| repeat (walk_at "w"))
  | `(tactic| walk_at "wn") => `(tactic| repeat (walk_at "wm"))


namespace Mine.Da
section
variable {P : Program} {w : World} {K : PySem.W.Frag} {mg : Str → Option Value} {base : Heap} {a : Ads}

theorem tyx_tup {H : Hp} {p : Addr} {xs : List V} (h : SqT K H p xs) : TyX K H (.ref p) (.type "tuple") := by
  rcases h with (h | ⟨o, h⟩) | ⟨o, its, n, h1, h2, _⟩
  · exact .base (.tup h)
  · exact .fTuple h
  · exact .kTuple h1 h2
theorem r_isi {x : V} {t : Value} {n : String} {b : Bool} {H : Hp} {Q : VK} (ty : TyX K H x t) (e : PySem.W.kitOne K t (.type n) = some b) (q : Q (.bl b) H) : rIsi K [x, .ty n] H Q := ⟨x, .ty n, t, .type n, b, rfl, .ty n, ty, e, q⟩
theorem ki_ii : PySem.W.kitOne K (.type "int") (.type "int") = some true := kit_ty (by decide +kernel)
theorem ki_ib : PySem.W.kitOne K (.type "int") (.type "bool") = some false := kit_ty (by decide +kernel)
theorem ki_bb : PySem.W.kitOne K (.type "bool") (.type "bool") = some true := kit_ty (by decide +kernel)
theorem ki_tt : PySem.W.kitOne K (.type "tuple") (.type "tuple") = some true := kit_ty (by decide +kernel)
theorem ki_tb : PySem.W.kitOne K (.type "tuple") (.type "bool") = some false := kit_ty (by decide +kernel)
theorem ki_it : PySem.W.kitOne K (.type "int") (.type "tuple") = some false := kit_ty (by decide +kernel)
theorem ty_int {H : Hp} {i : Int} : TyX K H (.int i) (.type "int") := .base (.int i)
theorem ty_bl {H : Hp} {i : Bool} : TyX K H (.bl i) (.type "bool") := .base (.bl i)
def sp_is_integer : Sp := fun vs H Q _ => ∃ i : Int, vs = [.int i] ∧ Q (.bl true) H
theorem ok_is_integer (T : Txt K mg a) : FnOk P w K mg base CX0 1 a.f_is_integer a.d_is_integer P_is_integer sp_is_integer := by
  refine T.F_is_integer.ok sc_is_integer (fun vs H Q E h => by obtain ⟨i, rfl, _⟩ := h; rfl) (fun cdv A outer s H vs Q E hr h => ?_)
  obtain ⟨i, rfl, k⟩ := h
  refine ⟨_, (pss_one (ps_ret (pe_and (pe_callB call_isi (by rfl) T.n_isinstance (by decide +kernel) (pa_cons (pv 0) (pa_cons (pe_bltn (v := .ty "int") (u := .type "int") rfl T.n_int (by decide +kernel) rfl) pa_nil))) (pe_one (pe_not (pe_callB call_isi (by rfl) T.n_isinstance (by decide +kernel) (pa_cons (pv 0) (pa_cons (pe_bltn (v := .ty "bool") (u := .type "bool") rfl T.n_bool (by decide +kernel) rfl) pa_nil)))))))), ?_⟩
  walk_at "ws"
  refine r_isi ty_int ki_ii ?_
  walk_at "ws"
  refine r_isi ty_int ki_ib ?_
  walk_at "ws"
  exact k

def sp_is_between : Sp := fun vs H Q _ => ∃ lo hi i : Int, vs = [.int lo, .int hi, .int i] ∧ Q (.bl (decide (lo ≤ i) && decide (i ≤ hi))) H
theorem ok_is_between (T : Txt K mg a) : FnOk P w K mg base CX0 2 a.f_is_between a.d_is_between P_is_between sp_is_between := by
  refine T.F_is_between.ok sc_is_between (fun vs H Q E h => by obtain ⟨lo, hi, i, rfl, _⟩ := h; rfl) (fun cdv A outer s H vs Q E hr h => ?_)
  obtain ⟨lo, hi, i, rfl, k⟩ := h
  have G_is_integer : FnOk P w K mg base CX0 1 a.f_is_integer a.d_is_integer P_is_integer sp_is_integer := ok_is_integer T
  refine ⟨_, (pss_one (ps_ret (pe_and (pe_call (G_is_integer) (hr.mono (by omega)) rfl T.m_is_integer T.F_is_integer.kp T.b_is_integer .nil pass0 (pa_cons (pv 2) pa_nil)) (pe_one (pe_chain op_le op_le (pv 0) (pv 2) (pv 1)))))), ?_⟩
  walk_at "ws"
  refine ⟨_, rfl, ?_⟩
  walk_at "ws"
  refine w_ite (fun e => ?_) (fun e => ?_)
  · walk_at "ws"
    rw [e] at k
    exact k
  · rw [e] at k
    exact k

def sp_is_below : Sp := fun vs H Q _ => ∃ b i : Int, vs = [.int b, .int i] ∧ Q (.bl (decide (0 ≤ i) && decide (i < b))) H
theorem ok_is_below (T : Txt K mg a) : FnOk P w K mg base CX0 3 a.f_is_below a.d_is_below P_is_below sp_is_below := by
  refine T.F_is_below.ok sc_is_below (fun vs H Q E h => by obtain ⟨b, i, rfl, _⟩ := h; rfl) (fun cdv A outer s H vs Q E hr h => ?_)
  obtain ⟨b, i, rfl, k⟩ := h
  have G_is_between : FnOk P w K mg base CX0 2 a.f_is_between a.d_is_between P_is_between sp_is_between := ok_is_between T
  refine ⟨_, (pss_one (ps_ret (pe_call (G_is_between) (hr.mono (by omega)) rfl T.m_is_between T.F_is_between.kp T.b_is_between .nil pass0 (pa_cons pe_int (pa_cons (pe_op op_sub (pv 0) pe_int) (pa_cons (pv 1) pa_nil)))))), ?_⟩
  walk_at "ws"
  refine ⟨_, _, _, rfl, ?_⟩
  have e : decide (i ≤ b - 1) = decide (i < b) := by simp only [decide_eq_decide]; omega
  rw [e]
  exact k

def sp_is_tuple_of (K : PySem.W.Frag) : Sp := fun vs H Q _ => ∃ (lo hi : Int) (p : Addr) (xs : List V), vs = [.int lo, .int hi, .ref p] ∧ SqT K H p xs ∧ Q (.bl (decide (lo ≤ xs.length) && decide ((xs.length : Int) ≤ hi))) H
theorem ok_is_tuple_of (T : Txt K mg a) : FnOk P w K mg base CX0 1 a.f_is_tuple_of a.d_is_tuple_of P_is_tuple_of (sp_is_tuple_of K) := by
  refine T.F_is_tuple_of.ok sc_is_tuple_of (fun vs H Q E h => by obtain ⟨lo, hi, p, xs, rfl, _⟩ := h; rfl) (fun cdv A outer s H vs Q E hr h => ?_)
  obtain ⟨lo, hi, p, xs, rfl, hx, k⟩ := h
  refine ⟨_, (pss_one (ps_ret (pe_and (pe_callB call_isi (by rfl) T.n_isinstance (by decide +kernel) (pa_cons (pv 2) (pa_cons (pe_bltn (v := .ty "tuple") (u := .type "tuple") rfl T.n_tuple (by decide +kernel) rfl) pa_nil))) (pe_one (pe_chain op_le op_le (pv 0) (pe_callB call_len_seq (by rfl) T.n_len (by decide +kernel) (pa_cons (pv 2) pa_nil)) (pv 1)))))), ?_⟩
  walk_at "ws"
  refine r_isi (tyx_tup hx) ki_tt ?_
  walk_at "ws"
  refine ⟨_, _, rfl, .inr hx, ?_⟩
  walk_at "ws"
  refine w_ite (fun e => ?_) (fun e => ?_)
  · walk_at "ws"
    rw [e] at k
    exact k
  · rw [e] at k
    exact k

end
end Mine.Da
/-! ## D2 -/


namespace Mine.Da
section
variable {P : Program} {w : World} {K : PySem.W.Frag} {mg : Str → Option Value} {base : Heap} {a : Ads}

/-! ### are_below, is_unlike_pair -/
def inB (b : Int) (n : Int) : Bool := decide (0 ≤ n) && decide (n < b)
def sp_are_below (K : PySem.W.Frag) : Sp := fun vs H Q _ => ∃ (b : Int) (p : Addr) (ns : List Int), vs = [.int b, .ref p] ∧ SqT K H p (ns.map V.int) ∧ ns.length ≤ 100000 ∧ ∀ H', G none H H' → Q (.bl (ns.all (inB b))) H'
theorem ok_are_below (T : Txt K mg a) : FnOk P w K mg base CX0 4 a.f_are_below a.d_are_below P_are_below (sp_are_below K) := by
  refine T.F_are_below.ok sc_are_below (fun vs H Q E h => by obtain ⟨b, p, ns, rfl, _⟩ := h; rfl) (fun cdv A outer s H vs Q E hr h => ?_)
  obtain ⟨b, p, ns, rfl, hx, hz, k⟩ := h
  have G_is_below : FnOk P w K mg base CX0 3 a.f_is_below a.d_is_below P_is_below sp_is_below := ok_is_below T
  refine ⟨_, (pss_one (ps_ret (pe_callB (cr_all rfl) (by rfl) T.n_all (by decide +kernel) (pa_cons (pe_lc (own := [("thing", 2)]) (g := (gName 2)) (tt := tYes) rfl sc_are_below.nd (pi_tup (pv 1)) (blkOk_by (N := N_are_below) (sc := defScope s_are_below) (by decide +kernel)) (fun _ _ _ _ _ => (pg_name (i := 2) sc_are_below.nd rfl (by first | exact Or.inl rfl | exact Or.inr rfl))) (fun _ _ _ _ _ => pts_nil) (fun _ _ _ _ _ => (pe_call (G_is_below) (hr.mono (by omega)) rfl T.m_is_below T.F_is_below.kp T.b_is_below .nil pass0 (pa_cons (pv 0) (pa_cons (pv 2) pa_nil))))) pa_nil)))), ?_⟩
  walk_at "ws"
  refine i_tup hx ?_
  intro D hD
  refine lc_pure (K := K) (o := none) walk_tup (by rw [List.length_map]; exact hz) hD (fun _ e => nomatch e) (fun i => ns[i]?.map fun n => .bool (inB b n)) (fun H' g => sqT_t g.tups hx) ?_ ?_
  · rintro i x H1 H2 hi g ⟨rfl, hx1⟩ Qy Qn ky kn
    obtain ⟨n, hn, rfl⟩ : ∃ n, ns[i]? = some n ∧ V.int n = x := by
      rw [List.getElem?_map] at hx1; exact Option.map_eq_some_iff.mp hx1
    walk_at "ws"
    refine ⟨rfl, ?_⟩
    walk_at "ws"
    refine ⟨_, _, rfl, ky _ _ _ G.refl (.bl _) rfl (by rw [hn]; rfl)⟩
  · intro xs H' g hD' hds _
    rw [List.length_map, filterMap_range_map] at hds
    have e : xs = (ns.map (inB b)).map V.bl := by
      clear hD' g
      generalize ns = l at hds
      induction l generalizing xs with
      | nil => cases hds; rfl
      | cons n l ih =>
        cases hds with
        | cons h t => cases h; rw [ih _ t]; rfl
    subst e
    walk_at "ws"
    refine ⟨D, ns.map (inB b), rfl, SqL.of hD', ?_⟩
    have e : (ns.map (inB b)).all id = ns.all (inB b) := by rw [List.all_map]; rfl
    rw [e]
    exact k _ g

end
end Mine.Da
/-! ## D3 -/


namespace Mine.Da
section
variable {P : Program} {w : World} {K : PySem.W.Frag} {mg : Str → Option Value} {base : Heap} {a : Ads}

/-! ### records -/
/-- a tuple of tuples of ints, each with its object known -/
def Dia (K : PySem.W.Frag) (H : Hp) (p : Addr) (ds : List (List Int)) : Prop := ∃ bs : List Addr, SqT K H p (bs.map V.ref) ∧ bs.length = ds.length ∧ ∀ (i : Nat) (b : Addr) (d : List Int), bs[i]? = some b → ds[i]? = some d → FrzT H b (d.map V.int)
theorem Dia.g {H H' : Hp} {p : Addr} {ds : List (List Int)} {o : Option (Addr × Addr)} (h : Dia K H p ds) (g : G o H H') (hh : ∀ q, o = some q → Hand H q.1 q.2) : Dia K H' p ds := by
  obtain ⟨bs, h1, h2, h3⟩ := h
  refine ⟨bs, sqT_t g.tups h1, h2, fun i b d e1 e2 => ?_⟩
  obtain ⟨ob, q1, q2⟩ := h3 i b d e1 e2
  refine ⟨ob, g.keep b _ (fun q e => ?_) q1, q2⟩
  obtain ⟨_, _, _, _, _, _, z, _⟩ := hh q e
  exact ne_of q1 z (by intro z; cases z)
theorem Dia.n {H H' : Hp} {p : Addr} {ds : List (List Int)} (h : Dia K H p ds) (g : G none H H') : Dia K H' p ds := h.g g fun _ e => nomatch e
theorem Dia.at_ {H : Hp} {p : Addr} {bs : List Addr} {ds : List (List Int)} (h2 : bs.length = ds.length) (h3 : ∀ (i : Nat) (b : Addr) (d : List Int), bs[i]? = some b → ds[i]? = some d → FrzT H b (d.map V.int)) {i : Nat} {x : V} (e : (bs.map V.ref)[i]? = some x) :
    ∃ b d, x = .ref b ∧ bs[i]? = some b ∧ ds[i]? = some d ∧ FrzT H b (d.map V.int) := by
  rw [List.getElem?_map] at e
  obtain ⟨b, hb, rfl⟩ := Option.map_eq_some_iff.mp e
  have hi := (List.getElem?_eq_some_iff.mp hb).1
  exact ⟨b, ds[i], rfl, hb, List.getElem?_eq_getElem (by omega), h3 i b _ hb (List.getElem?_eq_getElem (by omega))⟩
structure IsRec (ws : List Int) (ds : List (List Int)) : Prop where
  m1 : 1 ≤ ds.length
  m7 : ds.length ≤ 7
  p30 : ws.length ≤ 30
  wr : ∀ w ∈ ws, 0 ≤ w ∧ w < ds.length
  nd : ∀ d ∈ ds, d.Nodup
  rng : ∀ d ∈ ds, ∀ p ∈ d, 0 ≤ p ∧ p < ws.length
  own : ∀ (p : Nat) (w : Int) (d : List Int), ws[p]? = some w → ds[w.toNat]? = some d → (p : Int) ∈ d
theorem diary_len {n : Nat} {d : List Int} (nd : d.Nodup) (h : ∀ p ∈ d, 0 ≤ p ∧ p < (n : Int)) : d.length ≤ n := by
  have := List.Nodup.length_le_of_subset (l₂ := (List.range n).map fun (i : Nat) => (i : Int)) nd fun x hx => by
    have := h x hx
    exact List.mem_map.mpr ⟨x.toNat, List.mem_range.mpr (by omega), by omega⟩
  simpa using this
def sp_is_diary (K : PySem.W.Frag) : Sp := fun vs H Q _ => ∃ (n : Int) (p : Addr) (d : List Int), vs = [.int n, .ref p] ∧ SqT K H p (d.map V.int) ∧ (∀ x ∈ d, 0 ≤ x ∧ x < n) ∧ d.Nodup ∧ d.length ≤ 1000 ∧ ∀ H', G none H H' → Q (.bl true) H'
theorem ok_is_diary (T : Txt K mg a) : FnOk P w K mg base CX0 5 a.f_is_diary a.d_is_diary P_is_diary (sp_is_diary K) := by
  refine T.F_is_diary.ok sc_is_diary (fun vs H Q E h => by obtain ⟨n, p, d, rfl, _⟩ := h; rfl) (fun cdv A outer s H vs Q E hr h => ?_)
  obtain ⟨n, p, d, rfl, hp, hd, nd, hz, k⟩ := h
  have G_are_below : FnOk P w K mg base CX0 4 a.f_are_below a.d_are_below P_are_below (sp_are_below K) := ok_are_below T
  refine ⟨_, (pss_one (ps_ret (pe_and (pe_callB call_isi (by rfl) T.n_isinstance (by decide +kernel) (pa_cons (pv 1) (pa_cons (pe_bltn (v := .ty "tuple") (u := .type "tuple") rfl T.n_tuple (by decide +kernel) rfl) pa_nil))) (pe_and (pe_call (G_are_below) (hr.mono (by omega)) rfl T.m_are_below T.F_are_below.kp T.b_are_below .nil pass0 (pa_cons (pv 0) (pa_cons (pv 1) pa_nil))) (pe_one (pe_cmpR op_eq (pe_lenSetTI rfl (by rfl) T.n_len (by rfl) T.n_set (pv 1)) (pe_callB call_len_seq (by rfl) T.n_len (by decide +kernel) (pa_cons (pv 1) pa_nil)) (nomark _))))))), ?_⟩
  walk_at "ws"
  refine r_isi (tyx_tup hp) ki_tt ?_
  walk_at "ws"
  refine ⟨n, p, d, rfl, hp, by omega, fun H1 g1 => ?_⟩
  have e1 : d.all (inB n) = true := by
    rw [List.all_eq_true]
    intro x hx
    have := hd x hx
    simp only [inB, Bool.and_eq_true, decide_eq_true_eq]
    exact this
  rw [e1]
  walk_at "ws"
  refine ⟨.ref p, rfl, p, d, rfl, sqT_t g1.tups hp, hz, nd, ?_⟩
  walk_at "ws"
  refine ⟨p, _, rfl, .inr (sqT_t g1.tups hp), ?_⟩
  walk_at "ws"
  rw [List.length_map, decide_eq_true (rfl : (d.length : Int) = d.length)]
  exact k _ g1

def sp_check_record (K : PySem.W.Frag) : Sp := fun vs H Q _ => ∃ (wp dp : Addr) (ws : List Int) (ds : List (List Int)), vs = [.ref wp, .ref dp] ∧ SqT K H wp (ws.map V.int) ∧ Dia K H dp ds ∧ IsRec ws ds ∧ ∀ H', G none H H' → Q .non H'
theorem ok_check_record (T : Txt K mg a) : FnOk P w K mg base CX0 6 a.f_check_record a.d_check_record P_check_record (sp_check_record K) := by
  refine T.F_check_record.ok sc_check_record (fun vs H Q E h => by obtain ⟨wp, dp, ws, ds, rfl, _⟩ := h; rfl) (fun cdv A outer s H vs Q E hr h => ?_)
  obtain ⟨wp, dp, ws, ds, rfl, hw, hdia, rec, k⟩ := h
  have G_is_tuple_of : FnOk P w K mg base CX0 1 a.f_is_tuple_of a.d_is_tuple_of P_is_tuple_of (sp_is_tuple_of K) := ok_is_tuple_of T
  have G_is_below : FnOk P w K mg base CX0 3 a.f_is_below a.d_is_below P_is_below sp_is_below := ok_is_below T
  have G_is_diary : FnOk P w K mg base CX0 5 a.f_is_diary a.d_is_diary P_is_diary (sp_is_diary K) := ok_is_diary T
  obtain ⟨bs, hbs, lb, hb⟩ := hdia
  have m1 := rec.m1
  have m7 := rec.m7
  have p30 := rec.p30
  refine ⟨_, (pss_cons (ps_if (pt_not (pt_val (pe_call (G_is_tuple_of) (hr.mono (by omega)) rfl T.m_is_tuple_of T.F_is_tuple_of.kp T.b_is_tuple_of .nil pass0 (pa_cons pe_int (pa_cons (pe_glob (v := .int 7) rfl T.m_MOST_MACHINES ⟨_, rfl⟩) (pa_cons (pv 1) pa_nil))))))
    pss_never
    pss_nil)
  (pss_cons (ps_if (pt_not (pt_val (pe_call (G_is_tuple_of) (hr.mono (by omega)) rfl T.m_is_tuple_of T.F_is_tuple_of.kp T.b_is_tuple_of .nil pass0 (pa_cons pe_int (pa_cons (pe_glob (v := .int 30) rfl T.m_MOST_PUTS ⟨_, rfl⟩) (pa_cons (pv 0) pa_nil))))))
    pss_never
    pss_nil)
  (pss_cons (ps_for PassesOwn.never rfl (pi_enumT (by rfl) T.n_enumerate (pa_cons (pv 0) pa_nil)) (pg_tup rfl (pgs_cons (pg_name (i := 2) sc_check_record.nd rfl (Or.inl rfl)) (pgs_cons (pg_name (i := 3) sc_check_record.nd rfl (Or.inl rfl)) pgs_nil)))
    (pss_one (ps_if (pt_not (pt_val (pe_call (G_is_below) (hr.mono (by omega)) rfl T.m_is_below T.F_is_below.kp T.b_is_below .nil pass0 (pa_cons (pe_callB call_len_seq (by rfl) T.n_len (by decide +kernel) (pa_cons (pv 1) pa_nil)) (pa_cons (pv 3) pa_nil)))))
    pss_never
    pss_nil)))
  (pss_cons (ps_for PassesOwn.never rfl (pi_enumT (by rfl) T.n_enumerate (pa_cons (pv 1) pa_nil)) (pg_tup rfl (pgs_cons (pg_name (i := 4) sc_check_record.nd rfl (Or.inl rfl)) (pgs_cons (pg_name (i := 5) sc_check_record.nd rfl (Or.inl rfl)) pgs_nil)))
    (pss_one (ps_if (pt_not (pt_val (pe_call (G_is_diary) (hr.mono (by omega)) rfl T.m_is_diary T.F_is_diary.kp T.b_is_diary .nil pass0 (pa_cons (pe_callB call_len_seq (by rfl) T.n_len (by decide +kernel) (pa_cons (pv 0) pa_nil)) (pa_cons (pv 5) pa_nil)))))
    pss_never
    pss_nil)))
  (pss_one (ps_for PassesOwn.never rfl (pi_enumT (by rfl) T.n_enumerate (pa_cons (pv 0) pa_nil)) (pg_tup rfl (pgs_cons (pg_name (i := 2) sc_check_record.nd rfl (Or.inl rfl)) (pgs_cons (pg_name (i := 3) sc_check_record.nd rfl (Or.inl rfl)) pgs_nil)))
    (pss_one (ps_if (pt_cmpR op_notIn_seq (pv 2) (pe_ix ix_tup (pv 1) (pv 3) (fun _ _ => rfl)) (by rfl))
    pss_never
    pss_nil)))))))), ?_⟩
  walk_at "ws"
  refine ⟨1, 7, dp, _, rfl, hbs, ?_⟩
  have q1 : (1 : Int) ≤ (bs.length : Int) := by omega
  have q2 : (bs.length : Int) ≤ 7 := by omega
  rw [List.length_map, decide_eq_true q1, decide_eq_true q2, Bool.and_self]
  walk_at "ws"
  refine ⟨0, 30, wp, _, rfl, hw, ?_⟩
  have q3 : (0 : Int) ≤ (ws.length : Int) := by omega
  have q4 : (ws.length : Int) ≤ 30 := by omega
  rw [List.length_map, decide_eq_true q3, decide_eq_true q4, Bool.and_self]
  walk_at "ws"
  refine i_enum hw ?_
  refine for_it (walk_enumT (xs := ws.map V.int)) (fun i σ H1 => G none H H1 ∧ ∃ u2 u3 u4 u5, σ = [some (.ref wp), some (.ref dp), u2, u3, u4, u5]) ⟨G.refl, _, _, _, _, rfl⟩ (fun i σ H1 _ h => sqT_t h.1.tups hw) ?_ ?_
  · rintro i x σ H1 H2 hi ⟨g1, u2, u3, u4, u5, rfl⟩ ⟨t, y, z, rfl, ht, rfl, ey, ez⟩
    cases Option.some.inj ey
    have g2 : G none H1 (upd H1 t (.tup [.int (i : Nat), z])) := G.alloc ht
    refine ⟨t, _, rfl, SqT.of upd_same, rfl, ?_⟩
    refine ⟨_, _, rfl, ?_⟩
    walk_at "ws"
    refine ⟨_, _, rfl, ?_⟩
    walk_at "ws"
    refine ⟨rfl, ?_⟩
    generalize upd H1 t (.tup [.int (i : Nat), z]) = H2 at g2 ⊢
    have g02 := g1.trans g2
    have ez : (ws.map V.int)[i]? = some z := ez
    rw [List.getElem?_map] at ez
    obtain ⟨w0, hw0, rfl⟩ := Option.map_eq_some_iff.mp ez
    have wm := rec.wr w0 (List.mem_of_getElem? hw0)
    walk_at "ws"
    refine ⟨dp, _, rfl, .inr (sqT_t g02.tups hbs), ?_⟩
    walk_at "ws"
    rw [List.length_map]
    refine ⟨_, _, rfl, ?_⟩
    have q5 : w0 < (bs.length : Int) := by omega
    rw [decide_eq_true wm.1, decide_eq_true q5, Bool.and_self]
    walk_at "ws"
    exact ⟨g02, _, _, _, _, rfl⟩
  rintro σ H1 ⟨g1, u2, u3, u4, u5, rfl⟩
  walk_at "ws"
  refine i_enum (sqT_t g1.tups hbs) ?_
  refine for_it (walk_enumT (xs := bs.map V.ref)) (fun i σ H1 => G none H H1 ∧ ∃ u2 u3 u4 u5, σ = [some (.ref wp), some (.ref dp), u2, u3, u4, u5]) ⟨g1, _, _, _, _, rfl⟩ (fun i σ H1 _ h => sqT_t h.1.tups hbs) ?_ ?_
  · rintro i x σ H2 H3 hi ⟨g2, u2, u3, u4, u5, rfl⟩ ⟨t, y, z, rfl, ht, rfl, ey, ez⟩
    cases Option.some.inj ey
    have g3 : G none H2 (upd H2 t (.tup [.int (i : Nat), z])) := G.alloc ht
    refine ⟨t, _, rfl, SqT.of upd_same, rfl, ?_⟩
    refine ⟨_, _, rfl, ?_⟩
    walk_at "ws"
    refine ⟨_, _, rfl, ?_⟩
    walk_at "ws"
    refine ⟨rfl, ?_⟩
    generalize upd H2 t (.tup [.int (i : Nat), z]) = H3 at g3 ⊢
    have g03 := g2.trans g3
    obtain ⟨b, d, rfl, hbi, hdi, hf⟩ := Dia.at_ (p := dp) lb hb ez
    walk_at "ws"
    refine ⟨wp, _, rfl, .inr (sqT_t g03.tups hw), ?_⟩
    walk_at "ws"
    rw [List.length_map]
    have dm := List.mem_of_getElem? hdi
    refine ⟨_, b, d, rfl, (hf.n g03).sq, rec.rng d dm, rec.nd d dm, by have := diary_len (rec.nd d dm) (rec.rng d dm); omega, fun H4 g4 => ?_⟩
    walk_at "ws"
    exact ⟨g03.trans g4, _, _, _, _, rfl⟩
  rintro σ H2 ⟨g2, u2, u3, u4, u5, rfl⟩
  walk_at "ws"
  refine i_enum (sqT_t g2.tups hw) ?_
  refine for_it (walk_enumT (xs := ws.map V.int)) (fun i σ H1 => G none H H1 ∧ ∃ u2 u3 u4 u5, σ = [some (.ref wp), some (.ref dp), u2, u3, u4, u5]) ⟨g2, _, _, _, _, rfl⟩ (fun i σ H1 _ h => sqT_t h.1.tups hw) ?_ ?_
  · rintro i x σ H3 H4 hi ⟨g3, u2, u3, u4, u5, rfl⟩ ⟨t, y, z, rfl, ht, rfl, ey, ez⟩
    cases Option.some.inj ey
    have g4 : G none H3 (upd H3 t (.tup [.int (i : Nat), z])) := G.alloc ht
    refine ⟨t, _, rfl, SqT.of upd_same, rfl, ?_⟩
    refine ⟨_, _, rfl, ?_⟩
    walk_at "ws"
    refine ⟨_, _, rfl, ?_⟩
    walk_at "ws"
    refine ⟨rfl, ?_⟩
    generalize upd H3 t (.tup [.int (i : Nat), z]) = H4 at g4 ⊢
    have g04 := g3.trans g4
    have ez : (ws.map V.int)[i]? = some z := ez
    rw [List.getElem?_map] at ez
    obtain ⟨w0, hw0, rfl⟩ := Option.map_eq_some_iff.mp ez
    have wm := rec.wr w0 (List.mem_of_getElem? hw0)
    obtain ⟨b, hbw⟩ : ∃ b, bs[w0.toNat]? = some b := ⟨_, List.getElem?_eq_getElem (by omega)⟩
    obtain ⟨d, hdw⟩ : ∃ d, ds[w0.toNat]? = some d := ⟨_, List.getElem?_eq_getElem (by omega)⟩
    have hf := (hb _ _ _ hbw hdw).n g04
    walk_at "ws"
    refine r_ixT (sqT_t g04.tups hbs) (v := .ref b) (at_of (j := w0.toNat) (by omega) (by rw [List.getElem?_map, hbw]; rfl)) ?_
    walk_at "ws"
    refine ⟨b, _, rfl, .inr hf.sq, rfl, by rw [List.all_map, List.all_eq_true]; intro q _; rfl, ?_⟩
    have ein : inV (.int (i : Nat)) (d.map V.int) = true := by
      unfold inV
      rw [List.any_map, List.any_eq_true]
      exact ⟨_, rec.own i w0 d hw0 hdw, by simp [eqV]⟩
    rw [ein]
    walk_at "ws"
    exact ⟨g04, _, _, _, _, rfl⟩
  rintro σ H3 ⟨g3, u2, u3, u4, u5, rfl⟩
  exact k _ g3

end
end Mine.Da
/-! ## D4 -/


namespace Mine.Da
section
variable {P : Program} {w : World} {K : PySem.W.Frag} {mg : Str → Option Value} {base : Heap} {a : Ads}

/-! ### a record as an instance -/
theorem wd_ : ¬ (("writers" : Str) = "diaries") := by decide +kernel
theorem dw_ : ¬ (("diaries" : Str) = "writers") := by decide +kernel
def rf (w d : V) : List (Str × V) := [("writers", w), ("diaries", d)]
theorem rf_w (w d : V) : (rf w d).lookup ("writers" : Str) = some w := by simp [rf, List.lookup]
theorem rf_d (w d : V) : (rf w d).lookup ("diaries" : Str) = some d := by
  have e : (("diaries" : Str) == "writers") = false := by simpa using dw_
  simp [rf, List.lookup, e]
theorem rput0 (w : V) : putF "writers" w [] = [(("writers" : Str), w)] := rfl
theorem rput1 (w d : V) : putF "diaries" d [(("writers" : Str), w)] = rf w d := by
  show (if ("writers" : Str) = "diaries" then _ else (("writers" : Str), w) :: putF "diaries" d []) = _
  rw [if_neg wd_]; rfl
def RecAt (K : PySem.W.Frag) (C : Addr) (H : Hp) (x : Addr) (ws : List Int) (ds : List (List Int)) : Prop := ∃ (dx wp dp : Addr), H x = some (.ins C dx (rf (.ref wp) (.ref dp))) ∧ SqT K H wp (ws.map V.int) ∧ Dia K H dp ds
theorem RecAt.n {C x : Addr} {ws : List Int} {ds : List (List Int)} {H H' : Hp} (h : RecAt K C H x ws ds) (g : G none H H') : RecAt K C H' x ws ds := by
  obtain ⟨dx, wp, dp, h1, h2, h3⟩ := h
  exact ⟨dx, wp, dp, g.all x _ h1, sqT_t g.tups h2, h3.n g⟩
theorem r_fld {o : Addr} {C dx : Addr} {fs : List (Str × V)} {v : V} {f : Str} {H : Hp} {F : V → Prop} (e : H o = some (.ins C dx fs)) (c : Cls K C) (n : NoAttr K C f) (l : fs.lookup f = some v) (q : F v) :
    ∃ a C dx fs v, V.ref o = .ref a ∧ H a = some (.ins C dx fs) ∧ Cls K C ∧ NoAttr K C f ∧ fs.lookup f = some v ∧ F v := ⟨o, C, dx, fs, v, rfl, e, c, n, l, q⟩
theorem r_sfld {o : Addr} {C dx : Addr} {fs : List (Str × V)} {F : Hp → Prop} {f : Str} {y : V} {H : Hp} (e : H o = some (.ins C dx fs)) (c : Cls K C) (n : NoAttr K C f) (l : fs.length < 1000) (q : F (upd H o (.ins C dx (putF f y fs)))) :
    ∃ a C dx fs, V.ref o = .ref a ∧ H a = some (.ins C dx fs) ∧ Cls K C ∧ NoAttr K C f ∧ fs.length < 1000 ∧ F (upd H a (.ins C dx (putF f y fs))) := ⟨o, C, dx, fs, rfl, e, c, n, l, q⟩
theorem ts_updI {H : Hp} {x C dx : Addr} {fs : List (Str × V)} {u : HO} (h : H x = some (.ins C dx fs)) : Ts H (upd H x u) := fun a xs e => by
  rcases e with e | ⟨ob, e⟩
  · exact .inl (by rw [upd_ne (ne_of e h (by intro z; cases z))]; exact e)
  · exact .inr ⟨ob, by rw [upd_ne (ne_of e h (by intro z; cases z))]; exact e⟩
def sp_Record_init (K : PySem.W.Frag) (C : Addr) : Sp := fun vs H Q _ => ∃ (x dx wp dp : Addr) (ws : List Int) (ds : List (List Int)), vs = [.ref x, .ref wp, .ref dp] ∧ H x = some (.ins C dx []) ∧ SqT K H wp (ws.map V.int) ∧ Dia K H dp ds ∧ IsRec ws ds ∧
  ∀ H', (∀ b u, b ≠ x → H b = some u → H' b = some u) → H' x = some (.ins C dx (rf (.ref wp) (.ref dp))) → Q .non H'
theorem ok_Record_init (T : Txt K mg a) : FnOk P w K mg base CX0 7 a.f_Record_init a.d_Record_init P_Record_init (sp_Record_init K a.c_Record) := by
  refine T.F_Record_init.ok sc_Record_init (fun vs H Q E h => by obtain ⟨x, dx, wp, dp, ws, ds, rfl, _⟩ := h; rfl) (fun cdv A outer s H vs Q E hr h => ?_)
  obtain ⟨x, dx, wp, dp, ws, ds, rfl, hxi, hw, hd, rec, k⟩ := h
  have G_check_record : FnOk P w K mg base CX0 6 a.f_check_record a.d_check_record P_check_record (sp_check_record K) := ok_check_record T
  refine ⟨_, (pss_cons (ps_expr (pe_call (G_check_record) (hr.mono (by omega)) rfl T.m_check_record T.F_check_record.kp T.b_check_record .nil pass0 (pa_cons (pv 1) (pa_cons (pv 2) pa_nil))))
  (pss_cons (ps_fld (pv 0) (pv 1) rfl)
  (pss_one (ps_fld (pv 0) (pv 2) rfl)))), ?_⟩
  walk_at "ws"
  refine ⟨wp, dp, ws, ds, rfl, hw, hd, rec, fun H1 g1 => ?_⟩
  walk_at "ws"
  have h1 := g1.all _ _ hxi
  refine r_sfld h1 T.cl_Record T.na_Record_writers (by show 0 < 1000; decide) ?_
  walk_at "ws"
  refine r_sfld upd_same T.cl_Record T.na_Record_diaries (by rw [rput0]; show 1 < 1000; decide) ?_
  rw [rput0, rput1]
  refine k _ (fun b u n e => ?_) upd_same
  rw [upd_ne n, upd_ne n]; exact g1.all _ _ e

theorem rec_new {C : Addr} {H1 : Hp} {wp dp : Addr} {ws : List Int} {ds : List (List Int)} {F : Addr → Hp → Prop} {E : XK} (hw : SqT K H1 wp (ws.map V.int)) (hd : Dia K H1 dp ds) (rec : IsRec ws ds) (q : ∀ x H2, H1 x = none → (∀ o, G o H1 H2) → RecAt K C H2 x ws ds → F x H2) :
    ∀ x dx, H1 x = none → H1 dx = none → dx ≠ x → sp_Record_init K C (.ref x :: ([.ref wp, .ref dp] ++ [])) (upd (upd H1 dx (.own x)) x (.ins C dx [])) (fun v H2 => v = .non ∧ F x H2) E := by
  intro x dx hx hdx nex
  have hxi : (upd (upd H1 dx (.own x)) x (.ins C dx [])) x = some (.ins C dx []) := upd_same
  have k12 : ∀ a u, H1 a = some u → (upd (upd H1 dx (.own x)) x (.ins C dx [])) a = some u := fun a u e => by
    rw [upd_ne (ne_of_none e hx), upd_ne (ne_of_none e hdx)]; exact e
  have g12 : G none H1 (upd (upd H1 dx (.own x)) x (.ins C dx [])) := G.of_all k12
  refine ⟨x, dx, wp, dp, ws, ds, rfl, hxi, sqT_t g12.tups hw, hd.n g12, rec, fun H2 k2 h2 => ⟨rfl, ?_⟩⟩
  have g : ∀ o, G o H1 H2 := fun o => G.of_all fun a u e => k2 a u (ne_of_none e hx) (k12 a u e)
  exact q x H2 hx g ⟨dx, wp, dp, h2, sqT_t (g none).tups hw, hd.n (g none)⟩
theorem bools_told {H : Hp} {α : Type} {f : α → Bool} : ∀ {xs : List V} {l : List α}, DpAll K H xs (l.map fun z => PyData.bool (f z)) → xs = (l.map f).map V.bl
  | _, [], h => by cases h; rfl
  | _, z :: l, h => by
    cases h with
    | cons h t => cases h; rw [bools_told t]; rfl
def sp_is_whole (K : PySem.W.Frag) (C : Addr) : Sp := fun vs H Q _ => ∃ (x : Addr) (ws : List Int) (ds : List (List Int)), vs = [.ref x] ∧ RecAt K C H x ws ds ∧ ds.length ≤ 1000 ∧ ∀ H', G none H H' → Q (.bl (ds.all fun d => decide (d.length = ws.length))) H'

end
end Mine.Da
/-! ## D8 -/


namespace Mine.Da
section
variable {P : Program} {w : World} {K : PySem.W.Frag} {mg : Str → Option Value} {base : Heap} {a : Ads}

/-! ### webs, right ones -/
def okP (m : Int) (u : Int × Int) : Prop := (0 ≤ u.1 ∧ u.1 < m) ∧ (0 ≤ u.2 ∧ u.2 < m) ∧ u.1 ≠ u.2
def ltP (u v : Int × Int) : Prop := u.1 < v.1 ∨ (u.1 = v.1 ∧ u.2 < v.2)
structure IsWeb (m : Int) (ws : List (Int × Int)) : Prop where
  lo : 1 ≤ m
  hi : m ≤ 7
  mem : ∀ u ∈ ws, (0 ≤ u.1 ∧ u.1 < m) ∧ (0 ≤ u.2 ∧ u.2 < m) ∧ u.1 ≠ u.2
  asc : ws.Pairwise ltP
/-- pairs whose tuples are known -/
def TupAll (H : Hp) (bs : List Addr) (ws : List (Int × Int)) : Prop := bs.length = ws.length ∧ ∀ (i : Nat) (b : Addr) (u : Int × Int), bs[i]? = some b → ws[i]? = some u → H b = some (.tup [.int u.1, .int u.2])
theorem TupAll.g {H H' : Hp} {bs : List Addr} {ws : List (Int × Int)} {o : Option (Addr × Addr)} (h : TupAll H bs ws) (g : G o H H') (hh : ∀ q, o = some q → Hand H q.1 q.2) : TupAll H' bs ws := ⟨h.1, fun i b u e1 e2 => by
  have q1 := h.2 i b u e1 e2
  refine g.keep b _ (fun q e => ?_) q1
  obtain ⟨_, _, _, _, _, _, z, _⟩ := hh q e
  exact ne_of q1 z (by intro z; cases z)⟩
theorem TupAll.put {H : Hp} {bs : List Addr} {ws : List (Int × Int)} {l : Addr} {xs : List V} {u : HO} (h : TupAll H bs ws) (hl : H l = some (.lst xs)) : TupAll (upd H l u) bs ws := ⟨h.1, fun i b w e1 e2 => by
  have q1 := h.2 i b w e1 e2
  rw [upd_ne (ne_of q1 hl (by intro z; cases z))]
  exact q1⟩
theorem TupAll.app {H : Hp} {bs : List Addr} {ws : List (Int × Int)} {t : Addr} {u : Int × Int} (h : TupAll H bs ws) (ht : H t = some (.tup [.int u.1, .int u.2])) : TupAll H (bs ++ [t]) (ws ++ [u]) := ⟨by simp [h.1], fun i b w e1 e2 => by
  by_cases c : i < bs.length
  · rw [List.getElem?_append_left c] at e1
    rw [List.getElem?_append_left (by rw [← h.1]; exact c)] at e2
    exact h.2 i b w e1 e2
  · rw [List.getElem?_append_right (by omega)] at e1
    rw [List.getElem?_append_right (by rw [← h.1]; omega), ← h.1] at e2
    cases q : i - bs.length with
    | zero =>
      rw [q] at e1 e2
      simp at e1 e2
      subst e1 e2
      exact ht
    | succ j =>
      rw [q] at e1
      simp at e1⟩
theorem new_back {H0 H1 : Hp} {hd c l : Addr} (g : G (some (hd, c)) H0 H1) (x : Hand H1 hd c) (h : H1 l = none) : H0 l = none := by
  cases e : H0 l with
  | none => rfl
  | some u =>
    have n : l ≠ hd := x.ne h
    rw [g.keep l u (fun p e => by cases e; exact n) e] at h
    cases h
/-- some wires, all ahead of (y, x) -/
structure Part (m : Int) (ws : List (Int × Int)) (y x : Int) : Prop where
  mem : ∀ u ∈ ws, (0 ≤ u.1 ∧ u.1 < m) ∧ (0 ≤ u.2 ∧ u.2 < m) ∧ u.1 ≠ u.2
  asc : ws.Pairwise ltP
  lt : ∀ u ∈ ws, ltP u (y, x)
theorem Part.up {m y x y' x' : Int} {ws : List (Int × Int)} (h : Part m ws y x) (e : y < y' ∨ (y = y' ∧ x ≤ x')) : Part m ws y' x' := ⟨h.mem, h.asc, fun u hu => by
  have q := h.lt u hu
  simp only [ltP] at q ⊢
  omega⟩
theorem Part.app {m y x : Int} {ws : List (Int × Int)} (h : Part m ws y x) (h1 : 0 ≤ y ∧ y < m) (h2 : 0 ≤ x ∧ x < m) (h3 : y ≠ x) : Part m (ws ++ [(y, x)]) y (x + 1) := by
  refine ⟨fun u hu => ?_, ?_, fun u hu => ?_⟩
  · rcases List.mem_append.mp hu with z | z
    · exact h.mem u z
    · have : u = (y, x) := by simpa using z
      subst this; exact ⟨h1, h2, h3⟩
  · rw [List.pairwise_append]
    refine ⟨h.asc, List.pairwise_singleton _ _, fun u hu v hv => ?_⟩
    have : v = (y, x) := by simpa using hv
    subst this; exact h.lt u hu
  · rcases List.mem_append.mp hu with z | z
    · have q := h.lt u z
      simp only [ltP] at q ⊢
      omega
    · have e : u = (y, x) := by simpa using z
      rw [e]
      exact .inr ⟨rfl, by show x < x + 1; omega⟩
def sp_is_unlike_pair (K : PySem.W.Frag) : Sp := fun vs H Q _ => ∃ (b : Int) (p : Addr) (i j : Int), vs = [.int b, .ref p] ∧ SqT K H p [.int i, .int j] ∧ ∀ H', G none H H' → Q (.bl (inB b i && inB b j && !decide (i = j))) H'
theorem ok_is_unlike_pair (T : Txt K mg a) : FnOk P w K mg base CX0 5 a.f_is_unlike_pair a.d_is_unlike_pair P_is_unlike_pair (sp_is_unlike_pair K) := by
  refine T.F_is_unlike_pair.ok sc_is_unlike_pair (fun vs H Q E h => by obtain ⟨b, p, i, j, rfl, _⟩ := h; rfl) (fun cdv A outer s H vs Q E hr h => ?_)
  obtain ⟨b, p, i, j, rfl, hx, k⟩ := h
  have G_is_tuple_of : FnOk P w K mg base CX0 1 a.f_is_tuple_of a.d_is_tuple_of P_is_tuple_of (sp_is_tuple_of K) := ok_is_tuple_of T
  have G_are_below : FnOk P w K mg base CX0 4 a.f_are_below a.d_are_below P_are_below (sp_are_below K) := ok_are_below T
  refine ⟨_, (pss_one (ps_ret (pe_and (pe_call (G_is_tuple_of) (hr.mono (by omega)) rfl T.m_is_tuple_of T.F_is_tuple_of.kp T.b_is_tuple_of .nil pass0 (pa_cons pe_int (pa_cons pe_int (pa_cons (pv 1) pa_nil)))) (pe_and (pe_call (G_are_below) (hr.mono (by omega)) rfl T.m_are_below T.F_are_below.kp T.b_are_below .nil pass0 (pa_cons (pv 0) (pa_cons (pv 1) pa_nil))) (pe_one (pe_cmpR op_ne (pe_ix ix_tup (pv 1) pe_int (fun _ _ => rfl)) (pe_ix ix_tup (pv 1) pe_int (fun _ _ => rfl)) (nomark _))))))), ?_⟩
  walk_at "ws"
  refine ⟨_, _, _, _, rfl, hx, ?_⟩
  walk_at "ws"
  refine w_iteE rfl ?_
  walk_at "ws"
  refine ⟨b, p, [i, j], rfl, hx, (by show 2 ≤ 100000; decide), fun H1 g1 => ?_⟩
  have e1 : ([i, j] : List Int).all (inB b) = (inB b i && inB b j) := by simp
  rw [e1]
  walk_at "ws"
  refine w_ite (fun e => ?_) (fun e => ?_)
  · walk_at "ws"
    have hx1 := sqT_t g1.tups hx
    refine r_ixT hx1 (v := .int i) rfl ?_
    walk_at "ws"
    refine r_ixT hx1 (v := .int j) rfl ?_
    walk_at "ws"
    have k := k H1 g1
    rw [e] at k
    exact k
  · have k := k H1 g1
    rw [e] at k
    exact k

def sp_first_wrong_wire (K : PySem.W.Frag) : Sp := fun vs H Q _ => ∃ (m : Int) (p : Addr) (ws : List (Int × Int)), vs = [.int m, .ref p] ∧ Dp K H (.ref p) (dW ws) ∧ IsWeb m ws ∧ ∀ H', G none H H' → Q .non H'
theorem le_pair {i j k l : Int} : Ob.lexAt (fun n => decide (([i, j] : List Int).getD n 0 = ([k, l] : List Int).getD n 0)) (fun n => decide (([i, j] : List Int).getD n 0 ≤ ([k, l] : List Int).getD n 0)) (decide (([i, j] : List Int).length ≤ ([k, l] : List Int).length)) 0 (min ([i, j] : List Int).length ([k, l] : List Int).length) = decide (i < k ∨ (i = k ∧ j ≤ l)) := by
  show (if decide (i = k) = true then (if decide (j = l) = true then true else decide (j ≤ l)) else decide (i ≤ k)) = _
  by_cases h1 : i = k
  · subst h1
    by_cases h2 : j = l
    · subst h2; simp
    · simp [h2]
  · have e : decide (i ≤ k) = decide (i < k) := by simp only [decide_eq_decide]; omega
    simp [h1, e]
theorem ok_first_wrong_wire (T : Txt K mg a) : FnOk P w K mg base CX0 6 a.f_first_wrong_wire a.d_first_wrong_wire P_first_wrong_wire (sp_first_wrong_wire K) := by
  refine T.F_first_wrong_wire.ok sc_first_wrong_wire (fun vs H Q E h => by obtain ⟨m, p, ws, rfl, _⟩ := h; rfl) (fun cdv A outer s H vs Q E hr h => ?_)
  obtain ⟨m, p, ws, rfl, hx, hw, k⟩ := h
  have G_is_unlike_pair : FnOk P w K mg base CX0 5 a.f_is_unlike_pair a.d_is_unlike_pair P_is_unlike_pair (sp_is_unlike_pair K) := ok_is_unlike_pair T
  obtain ⟨p', xs, ep, hxs, hds⟩ := dp_tup hx
  cases ep
  refine ⟨_, (pss_cons (ps_for PassesOwn.never rfl (pi_enumT (by rfl) T.n_enumerate (pa_cons (pv 1) pa_nil)) (pg_tup rfl (pgs_cons (pg_name (i := 2) sc_first_wrong_wire.nd rfl (Or.inl rfl)) (pgs_cons (pg_name (i := 3) sc_first_wrong_wire.nd rfl (Or.inl rfl)) pgs_nil)))
    (pss_cons (ps_if (pt_not (pt_val (pe_call (G_is_unlike_pair) (hr.mono (by omega)) rfl T.m_is_unlike_pair T.F_is_unlike_pair.kp T.b_is_unlike_pair .nil pass0 (pa_cons (pv 0) (pa_cons (pv 3) pa_nil)))))
    (pss_one (ps_ret (pv 2)))
    pss_nil)
  (pss_one (ps_if (L2.PW.pt (pw_and (pt_cmpR op_gt (pv 2) pe_int (nomark _)) (pw_and1 (pt_cmpR (op_leT hr.units0) (pv 3) (pe_ix ix_tup (pv 1) (pe_op op_sub (pv 2) pe_int) (fun _ _ => rfl)) (nomark _)))))
    (pss_one (ps_ret (pv 2)))
    pss_nil))))
  (pss_one (ps_ret pe_non))), ?_⟩
  walk_at "ws"
  refine i_enum hxs ?_
  refine for_it (walk_enumT (xs := xs)) (fun i σ H1 => G none H H1 ∧ ∃ u v, σ = [some (.int m), some (.ref p), u, v]) ⟨G.refl, _, _, rfl⟩ (fun i σ H1 _ h => sqT_t h.1.tups hxs) ?_ ?_
  · rintro i x σ H1 H2 hi ⟨g1, u, v, rfl⟩ ⟨t, y, z, rfl, ht, rfl, ey, ez⟩
    cases Option.some.inj ey
    have g2 : G none H1 (upd H1 t (.tup [.int (i : Nat), z])) := G.alloc ht
    refine ⟨t, _, rfl, SqT.of upd_same, rfl, ?_⟩
    refine ⟨_, _, rfl, ?_⟩
    walk_at "ws"
    refine ⟨_, _, rfl, ?_⟩
    walk_at "ws"
    refine ⟨rfl, ?_⟩
    generalize upd H1 t (.tup [.int (i : Nat), z]) = H2 at g2 ⊢
    have g02 := g1.trans g2
    obtain ⟨d, hd, hz⟩ := DpAll.get hds ez
    rw [List.getElem?_map] at hd
    obtain ⟨w0, hw0, rfl⟩ := Option.map_eq_some_iff.mp hd
    obtain ⟨q, rfl, hq⟩ := dp_dP hz
    have hm := hw.mem w0 (List.mem_of_getElem? hw0)
    walk_at "ws"
    refine ⟨m, q, w0.1, w0.2, rfl, sqT_t g02.tups hq, fun H3 g3 => ?_⟩
    have g03 := g02.trans g3
    have e1 : (inB m w0.1 && inB m w0.2 && !decide (w0.1 = w0.2)) = true := by
      simp only [inB, Bool.and_eq_true, decide_eq_true_eq, Bool.not_eq_true', decide_eq_false_iff_not]
      omega
    rw [e1]
    walk_at "ws"
    refine w_ite (fun e => ?_) (fun e => ?_)
    · walk_at "ws"
      have hi0 : 0 < i := by simpa using e
      obtain ⟨v1, hv1⟩ : ∃ v1, xs[i - 1]? = some v1 := ⟨_, List.getElem?_eq_getElem (show i - 1 < xs.length by omega)⟩
      obtain ⟨d1, hd1, hz1⟩ := DpAll.get hds hv1
      rw [List.getElem?_map] at hd1
      obtain ⟨w1, hw1, rfl⟩ := Option.map_eq_some_iff.mp hd1
      obtain ⟨q1, rfl, hq1⟩ := dp_dP hz1
      have ei : ((i : Nat) : Int) - 1 = ((i - 1 : Nat) : Int) := by omega
      rw [ei]
      refine r_ixT (sqT_t g03.tups hxs) (atI_nat hv1) ?_
      refine ⟨q, q1, [w0.1, w0.2], [w1.1, w1.2], rfl, rfl, sqT_t g03.tups hq, sqT_t g03.tups hq1, ?_⟩
      rw [le_pair]
      walk_at "ws"
      have hlt : ltP w1 w0 := by
        obtain ⟨l1, e1⟩ := List.getElem?_eq_some_iff.mp hw1
        obtain ⟨l0, e0⟩ := List.getElem?_eq_some_iff.mp hw0
        have := List.pairwise_iff_getElem.mp hw.asc (i - 1) i l1 l0 (by omega)
        rw [e1, e0] at this
        exact this
      have e2 : decide (w0.1 < w1.1 ∨ w0.1 = w1.1 ∧ w0.2 ≤ w1.2) = false := by
        rw [decide_eq_false_iff_not]
        unfold ltP at hlt
        omega
      rw [e2]
      walk_at "ws"
      exact ⟨g03, _, _, rfl⟩
    · walk_at "ws"
      exact ⟨g03, _, _, rfl⟩
  · rintro σ H1 ⟨g1, u, v, rfl⟩
    walk_at "ws"
    exact k _ g1

/-! ### a web as an instance -/
theorem mw_ : ¬ (("machines" : Str) = "wires") := by decide +kernel
theorem wm_ : ¬ (("wires" : Str) = "machines") := by decide +kernel
def wf (m wa : V) : List (Str × V) := [("machines", m), ("wires", wa)]
theorem wf_m (m wa : V) : (wf m wa).lookup ("machines" : Str) = some m := by simp [wf, List.lookup]
theorem wf_w (m wa : V) : (wf m wa).lookup ("wires" : Str) = some wa := by
  have e : (("wires" : Str) == "machines") = false := by simpa using wm_
  simp [wf, List.lookup, e]
theorem put0 (m : V) : putF "machines" m [] = [(("machines" : Str), m)] := rfl
theorem put1 (m wa : V) : putF "wires" wa [(("machines" : Str), m)] = wf m wa := by
  show (if ("machines" : Str) = "wires" then _ else (("machines" : Str), m) :: putF "wires" wa []) = _
  rw [if_neg mw_]; rfl
theorem put_m (m n wa : V) : putF "machines" n (wf m wa) = wf n wa := by
  show (if ("machines" : Str) = "machines" then (("machines" : Str), n) :: [(("wires" : Str), wa)] else _) = _
  rw [if_pos rfl]; rfl
theorem put_w (m wa wb : V) : putF "wires" wb (wf m wa) = wf m wb := by
  show (if ("machines" : Str) = "wires" then _ else (("machines" : Str), m) :: (if ("wires" : Str) = "wires" then (("wires" : Str), wb) :: [] else _)) = _
  rw [if_neg mw_, if_pos rfl]; rfl
/-- a web stands at x -/
def WebAt (K : PySem.W.Frag) (C : Addr) (H : Hp) (x : Addr) (m : Int) (ws : List (Int × Int)) : Prop := ∃ (dx wa : Addr), H x = some (.ins C dx (wf (.int m) (.ref wa))) ∧ Dp K H (.ref wa) (dW ws)
theorem WebAt.g {C x hd c : Addr} {m : Int} {ws : List (Int × Int)} {H H' : Hp} (h : WebAt K C H x m ws) (g : G (some (hd, c)) H H') (hh : Hand H hd c) : WebAt K C H' x m ws := by
  obtain ⟨dx, wa, h1, h2⟩ := h
  exact ⟨dx, wa, g.keep x _ (off_ins hh h1) h1, dp_t g.tups _ _ (nl_dW ws) h2⟩
theorem WebAt.n {C x : Addr} {m : Int} {ws : List (Int × Int)} {H H' : Hp} (h : WebAt K C H x m ws) (g : G none H H') : WebAt K C H' x m ws := by
  obtain ⟨dx, wa, h1, h2⟩ := h
  exact ⟨dx, wa, g.all x _ h1, dp_t g.tups _ _ (nl_dW ws) h2⟩
def sp_Web_init (K : PySem.W.Frag) (C : Addr) : Sp := fun vs H Q _ => ∃ (x dx : Addr) (m : Int) (p : Addr) (ws : List (Int × Int)), vs = [.ref x, .int m, .ref p] ∧ H x = some (.ins C dx []) ∧ Dp K H (.ref p) (dW ws) ∧ IsWeb m ws ∧
  ∀ H', (∀ b u, b ≠ x → H b = some u → H' b = some u) → Ts H H' → H' x = some (.ins C dx (wf (.int m) (.ref p))) → Q .non H'
theorem ok_Web_init (T : Txt K mg a) : FnOk P w K mg base CX0 7 a.f_Web_init a.d_Web_init P_Web_init (sp_Web_init K a.c_Web) := by
  refine T.F_Web_init.ok sc_Web_init (fun vs H Q E h => by obtain ⟨x, dx, m, p, ws, rfl, _⟩ := h; rfl) (fun cdv A outer s H vs Q E hr h => ?_)
  obtain ⟨x, dx, m, p, ws, rfl, hxi, hx, hw, k⟩ := h
  have G_is_between : FnOk P w K mg base CX0 2 a.f_is_between a.d_is_between P_is_between sp_is_between := ok_is_between T
  have G_first_wrong_wire : FnOk P w K mg base CX0 6 a.f_first_wrong_wire a.d_first_wrong_wire P_first_wrong_wire (sp_first_wrong_wire K) := ok_first_wrong_wire T
  obtain ⟨p', xs, ep, hxs, hds⟩ := dp_tup hx
  cases ep
  refine ⟨_, (pss_cons (ps_if (pt_not (pt_val (pe_call (G_is_between) (hr.mono (by omega)) rfl T.m_is_between T.F_is_between.kp T.b_is_between .nil pass0 (pa_cons pe_int (pa_cons (pe_glob (v := .int 7) rfl T.m_MOST_MACHINES ⟨_, rfl⟩) (pa_cons (pv 1) pa_nil))))))
    pss_never
    pss_nil)
  (pss_cons (ps_if (pt_not (pt_val (pe_callB call_isi (by rfl) T.n_isinstance (by decide +kernel) (pa_cons (pv 2) (pa_cons (pe_bltn (v := .ty "tuple") (u := .type "tuple") rfl T.n_tuple (by decide +kernel) rfl) pa_nil)))))
    pss_never
    pss_nil)
  (pss_cons (ps_set (i := 3) sc_Web_init.nd rfl (Or.inl rfl) (pe_call (G_first_wrong_wire) (hr.mono (by omega)) rfl T.m_first_wrong_wire T.F_first_wrong_wire.kp T.b_first_wrong_wire .nil pass0 (pa_cons (pv 1) (pa_cons (pv 2) pa_nil))))
  (pss_cons (ps_if (pt_cmp (pc_notN (pv 3)))
    pss_never
    pss_nil)
  (pss_cons (ps_fld (pv 0) (pv 1) rfl)
  (pss_one (ps_fld (pv 0) (pv 2) rfl))))))), ?_⟩
  walk_at "ws"
  refine ⟨_, _, _, rfl, ?_⟩
  have e1 : (decide ((1 : Int) ≤ m) && decide (m ≤ 7)) = true := by
    have := hw.lo
    have := hw.hi
    simp; omega
  rw [e1]
  walk_at "ws"
  refine r_isi (tyx_tup hxs) ki_tt ?_
  walk_at "ws"
  refine ⟨m, p, ws, rfl, hx, hw, fun H1 g1 => ?_⟩
  walk_at "ws"
  refine w_iteN (by decide) ?_
  walk_at "ws"
  have h1 := g1.all _ _ hxi
  refine r_sfld h1 T.cl_Web T.na_Web_machines (by show 0 < 1000; decide) ?_
  walk_at "ws"
  refine r_sfld upd_same T.cl_Web T.na_Web_wires (by rw [put0]; show 1 < 1000; decide) ?_
  rw [put0, put1]
  refine k _ (fun b u n e => ?_) ?_ upd_same
  · rw [upd_ne n, upd_ne n]; exact g1.all _ _ e
  · exact (g1.tups.trans (ts_updI h1)).trans (ts_updI upd_same)

theorem web_new {C : Addr} {H1 : Hp} {m : Int} {p : Addr} {ws : List (Int × Int)} {F : Addr → Hp → Prop} {E : XK} (hd : Dp K H1 (.ref p) (dW ws)) (hw : IsWeb m ws) (q : ∀ x H2, H1 x = none → (∀ o, G o H1 H2) → WebAt K C H2 x m ws → F x H2) :
    ∀ x dx, H1 x = none → H1 dx = none → dx ≠ x → sp_Web_init K C (.ref x :: ([.int m, .ref p] ++ [])) (upd (upd H1 dx (.own x)) x (.ins C dx [])) (fun v H2 => v = .non ∧ F x H2) E := by
  intro x dx hx hdx nex
  have hxi : (upd (upd H1 dx (.own x)) x (.ins C dx [])) x = some (.ins C dx []) := upd_same
  have k12 : ∀ a u, H1 a = some u → (upd (upd H1 dx (.own x)) x (.ins C dx [])) a = some u := fun a u e => by
    rw [upd_ne (ne_of_none e hx), upd_ne (ne_of_none e hdx)]; exact e
  have t12 : Ts H1 (upd (upd H1 dx (.own x)) x (.ins C dx [])) := (G.of_all (o := none) k12).tups
  refine ⟨x, dx, m, p, ws, rfl, hxi, dp_t t12 _ _ (nl_dW ws) hd, hw, fun H2 k2 t2 h2 => ⟨rfl, ?_⟩⟩
  exact q x H2 hx (fun _ => G.of_all fun a u e => k2 a u (ne_of_none e hx) (k12 a u e)) ⟨dx, p, h2, dp_t (t12.trans t2) _ _ (nl_dW ws) hd⟩


theorem tupAll_dp {H : Hp} {p : Addr} : ∀ {bs : List Addr} {ws : List (Int × Int)}, TupAll H bs ws → DpAll K H (bs.map V.ref) (ws.map dP)
  | [], [], _ => .nil
  | b :: bs, u :: ws, h => .cons (dp_ofP (SqT.of (h.2 0 b u rfl rfl))) (tupAll_dp (p := p) ⟨by simpa using h.1, fun i b u e1 e2 => h.2 (i + 1) b u (by simpa using e1) (by simpa using e2)⟩)
  | [], _ :: _, h => by simp [TupAll] at h
  | _ :: _, [], h => by simp [TupAll] at h

end
end Mine.Da
/-! ## D9 -/


namespace Mine.Da
section
variable {P : Program} {w : World} {K : PySem.W.Frag} {mg : Str → Option Value} {base : Heap} {a : Ads}

/-! ### diaries, lists -/
def upto (n : Nat) : List Int := (List.range n).map fun (i : Nat) => (i : Int)
theorem perm_pop {os ls : List Int} {r : Nat} (h : r < ls.length) {l : List Int} (p : (os ++ ls).Perm l) : ((os ++ [ls[r]]) ++ ls.eraseIdx r).Perm l := by
  refine List.Perm.trans ?_ p
  rw [List.append_assoc]
  refine List.Perm.append_left os ?_
  have e := List.take_append_drop r ls
  have e2 : ls.drop r = ls[r] :: ls.drop (r + 1) := List.drop_eq_getElem_cons h
  rw [List.eraseIdx_eq_take_drop_succ]
  have : ls = ls.take r ++ ls[r] :: ls.drop (r + 1) := by rw [← e2, e]
  conv => rhs; rw [this]
  show (ls[r] :: (ls.take r ++ ls.drop (r + 1))).Perm _
  exact List.perm_middle.symm
theorem erase_ints (ls : List Int) (r : Nat) : (ls.map V.int).eraseIdx r = (ls.eraseIdx r).map V.int := erase_mapI ls r

theorem dia_app {H : Hp} {bs : List Addr} {ds : List (List Int)} {b : Addr} {d : List Int} (h2 : bs.length = ds.length) (h3 : ∀ (i : Nat) (b : Addr) (d : List Int), bs[i]? = some b → ds[i]? = some d → FrzT H b (d.map V.int)) (hb : FrzT H b (d.map V.int)) :
    ∀ (i : Nat) (b' : Addr) (d' : List Int), (bs ++ [b])[i]? = some b' → (ds ++ [d])[i]? = some d' → FrzT H b' (d'.map V.int) := fun i b' d' e1 e2 => by
  by_cases c : i < bs.length
  · rw [List.getElem?_append_left c] at e1
    rw [List.getElem?_append_left (by omega)] at e2
    exact h3 i b' d' e1 e2
  · rw [List.getElem?_append_right (by omega)] at e1
    rw [List.getElem?_append_right (by omega), ← h2] at e2
    cases q : i - bs.length with
    | zero =>
      rw [q] at e1 e2
      simp at e1 e2
      subst e1 e2
      exact hb
    | succ j =>
      rw [q] at e1
      simp at e1
theorem FrzT.g {H H' : Hp} {p : Addr} {xs : List V} {o : Option (Addr × Addr)} (h : FrzT H p xs) (g : G o H H') (hh : ∀ q, o = some q → Hand H q.1 q.2) : FrzT H' p xs := by
  obtain ⟨ob, h, d⟩ := h
  refine ⟨ob, g.keep p _ (fun q e => ?_) h, d⟩
  obtain ⟨_, _, _, _, _, _, z, _⟩ := hh q e
  exact ne_of h z (by intro z; cases z)
theorem FrzT.put {H : Hp} {p l : Addr} {xs ys : List V} {u : HO} (h : FrzT H p xs) (hl : H l = some (.lst ys)) : FrzT (upd H l u) p xs := by
  obtain ⟨ob, h, d⟩ := h
  exact ⟨ob, by rw [upd_ne (ne_of h hl (by intro z; cases z))]; exact h, d⟩
theorem mo_len {K : PySem.W.Frag} {i : Nat} : MoE (tCB (rLenK K) (tCons (tVar i) tNil)) := fun σ H Q Q' k ⟨v, e, p, ys, e1, e2, q⟩ => ⟨v, e, p, ys, e1, e2, k _ _ q⟩
theorem nd_ix {α : Type} {l : List α} (nd : l.Nodup) {i j : Nat} {a : α} (h1 : l[i]? = some a) (h2 : l[j]? = some a) : i = j := by
  obtain ⟨a1, b1⟩ := List.getElem?_eq_some_iff.mp h1
  obtain ⟨a2, b2⟩ := List.getElem?_eq_some_iff.mp h2
  rcases Nat.lt_trichotomy i j with h | h | h
  · exact absurd (b1.trans b2.symm) (List.pairwise_iff_getElem.mp nd i j a1 a2 h)
  · exact h
  · exact absurd (b2.trans b1.symm) (List.pairwise_iff_getElem.mp nd j i a2 a1 h)
def rSlAN (K : PySem.W.Frag) : V → Option Int → Option Int → Hp → VK → Prop := fun x lo hi H Q => ∃ a xs, x = .ref a ∧ SqT K H a xs ∧ ∀ p H2, (∀ o, G o H H2) → SqT K H2 p (cutV xs lo hi) → Q (.ref p) H2
theorem sl_tupAN {X : Cx} : SlR X (rSlAN X.K) := SlR.weak sl_tupA fun x lo hi H Q ⟨a, xs, e, h, q⟩ => ⟨a, xs, e, h, fun w => q a H (fun _ => G.refl) (by
    have c : cutV xs lo hi = xs := by
      unfold cutV
      rw [w.1, w.2, List.drop_zero, Nat.sub_zero, List.take_length]
    rw [c]; exact h), fun _ p hp => q p _ (fun _ => G.alloc hp) (SqT.of upd_same)⟩
theorem cut_to (xs : List V) {k : Nat} (h : k ≤ xs.length) : cutV xs none (some (k : Int)) = xs.take k := by
  unfold cutV
  rw [HT.sIx_none, HT.sIx_nat, List.drop_zero, Nat.sub_zero, Nat.min_eq_left h]
theorem idx_lt {os : List Int} {z : Int} (h : z ∈ os) : os.idxOf z < os.length := List.idxOf_lt_length_iff.mpr h
theorem idx_at {os : List Int} {z : Int} (h : z ∈ os) : os[os.idxOf z]? = some z := by
  rw [List.getElem?_eq_getElem (idx_lt h)]
  exact congrArg some (List.getElem_idxOf (idx_lt h))
theorem idx_of {os : List Int} (nd : os.Nodup) {j : Nat} {z : Int} (h : os[j]? = some z) : os.idxOf z = j := nd_ix nd (idx_at (List.mem_of_getElem? h)) h


end
end Mine.Da
/-! ## K1 -/


namespace Mine
section
variable {P : Program} {w : World} {K : PySem.W.Frag} {mg : Str → Option Value} {base : Heap} {a : Ads}

theorem tyx_tup {H : Hp} {p : Addr} {xs : List V} (h : SqT K H p xs) : TyX K H (.ref p) (.type "tuple") := by
  rcases h with (h | ⟨o, h⟩) | ⟨o, its, n, h1, h2, _⟩
  · exact .base (.tup h)
  · exact .fTuple h
  · exact .kTuple h1 h2
theorem r_isi {x : V} {t : Value} {n : String} {b : Bool} {H : Hp} {Q : VK} (ty : TyX K H x t) (e : PySem.W.kitOne K t (.type n) = some b) (q : Q (.bl b) H) : rIsi K [x, .ty n] H Q := ⟨x, .ty n, t, .type n, b, rfl, .ty n, ty, e, q⟩
/-! ### any thing, judged -/
def isI : Tg → Bool
  | .int _ => true
  | _ => false
def btw (lo hi : Int) : Tg → Bool
  | .int i => decide (lo ≤ i) && decide (i ≤ hi)
  | _ => false
def blw (b : Int) : Tg → Bool
  | .int i => decide (0 ≤ i) && decide (i < b)
  | _ => false
def tsz (lo hi : Int) : Tg → Bool
  | .tup ts => decide (lo ≤ ts.length) && decide ((ts.length : Int) ≤ hi)
  | _ => false
def pr (b : Int) : Tg → Bool
  | .tup [.int x, .int y] => (blw b (.int x) && blw b (.int y)) && !decide (x = y)
  | _ => false
theorem isI_t {t : Tg} (e : isT "int" t = true) : isI t = !isT "bool" t := by
  cases t <;> first | rfl | exact Bool.noConfusion (show false = true from e)
theorem isI_f {t : Tg} (e : isT "int" t = false) : isI t = false := by
  cases t <;> first | rfl | exact Bool.noConfusion (show true = false from e)
theorem isI_int {C hd : Addr} {H : Hp} {v : V} {t : Tg} (h : Ab C hd H v t) (e : isI t = true) : ∃ i, t = .int i ∧ v = .int i := by
  cases h <;> first | exact ⟨_, rfl, rfl⟩ | exact Bool.noConfusion (show false = true from e)
theorem btw_f {lo hi : Int} {t : Tg} (e : isI t = false) : btw lo hi t = false := by
  cases t <;> first | rfl | exact Bool.noConfusion (show true = false from e)
def sp_is_integer (C : Addr) : Sp := fun vs H Q _ => ∃ (hd : Addr) (v : V) (t : Tg), vs = [v] ∧ Ab C hd H v t ∧ Q (.bl (isI t)) H
theorem ok_is_integer (T : Txt K mg a) : FnOk P w K mg base CX0 1 a.f_is_integer a.d_is_integer P_is_integer (sp_is_integer a.c_Web) := by
  refine T.F_is_integer.ok sc_is_integer (fun vs H Q E h => by obtain ⟨hd, v, t, rfl, _⟩ := h; rfl) (fun cdv A outer s H vs Q E hr h => ?_)
  obtain ⟨hd, v, t, rfl, ha, k⟩ := h
  refine ⟨_, (pss_one (ps_ret (pe_and (pe_callB call_isi (by rfl) T.n_isinstance (by decide +kernel) (pa_cons (pv 0) (pa_cons (pe_bltn (v := .ty "int") (u := .type "int") rfl T.n_int (by decide +kernel) rfl) pa_nil))) (pe_one (pe_not (pe_callB call_isi (by rfl) T.n_isinstance (by decide +kernel) (pa_cons (pv 0) (pa_cons (pe_bltn (v := .ty "bool") (u := .type "bool") rfl T.n_bool (by decide +kernel) rfl) pa_nil)))))))), ?_⟩
  walk_at "ws"
  refine ab_isi T.ik ha (.inl rfl) ?_
  walk_at "ws"
  refine w_ite (fun e => ?_) (fun e => ?_)
  · walk_at "ws"
    refine ab_isi T.ik ha (.inr (.inl rfl)) ?_
    walk_at "ws"
    rw [isI_t e] at k
    exact k
  · rw [isI_f e] at k
    exact k

def sp_is_between (C : Addr) : Sp := fun vs H Q _ => ∃ (lo hi : Int) (hd : Addr) (v : V) (t : Tg), vs = [.int lo, .int hi, v] ∧ Ab C hd H v t ∧ Q (.bl (btw lo hi t)) H
theorem ok_is_between (T : Txt K mg a) : FnOk P w K mg base CX0 2 a.f_is_between a.d_is_between P_is_between (sp_is_between a.c_Web) := by
  refine T.F_is_between.ok sc_is_between (fun vs H Q E h => by obtain ⟨lo, hi, hd, v, t, rfl, _⟩ := h; rfl) (fun cdv A outer s H vs Q E hr h => ?_)
  obtain ⟨lo, hi, hd, v, t, rfl, ha, k⟩ := h
  have G_is_integer : FnOk P w K mg base CX0 1 a.f_is_integer a.d_is_integer P_is_integer (sp_is_integer a.c_Web) := ok_is_integer T
  refine ⟨_, (pss_one (ps_ret (pe_and (pe_call (G_is_integer) (hr.mono (by omega)) rfl T.m_is_integer T.F_is_integer.kp T.b_is_integer .nil pass0 (pa_cons (pv 2) pa_nil)) (pe_one (pe_chain op_le op_le (pv 0) (pv 2) (pv 1)))))), ?_⟩
  walk_at "ws"
  refine ⟨hd, v, t, rfl, ha, ?_⟩
  walk_at "ws"
  refine w_ite (fun e => ?_) (fun e => ?_)
  · obtain ⟨i, rfl, rfl⟩ := isI_int ha e
    have k : Q (.bl (decide (lo ≤ i) && decide (i ≤ hi))) H := k
    walk_at "ws"
    refine w_ite (fun e => ?_) (fun e => ?_)
    · walk_at "ws"
      rw [e] at k
      exact k
    · rw [e] at k
      exact k
  · rw [btw_f e] at k
    exact k

def sp_is_below (C : Addr) : Sp := fun vs H Q _ => ∃ (b : Int) (hd : Addr) (v : V) (t : Tg), vs = [.int b, v] ∧ Ab C hd H v t ∧ Q (.bl (blw b t)) H
theorem ok_is_below (T : Txt K mg a) : FnOk P w K mg base CX0 3 a.f_is_below a.d_is_below P_is_below (sp_is_below a.c_Web) := by
  refine T.F_is_below.ok sc_is_below (fun vs H Q E h => by obtain ⟨b, hd, v, t, rfl, _⟩ := h; rfl) (fun cdv A outer s H vs Q E hr h => ?_)
  obtain ⟨b, hd, v, t, rfl, ha, k⟩ := h
  have G_is_between : FnOk P w K mg base CX0 2 a.f_is_between a.d_is_between P_is_between (sp_is_between a.c_Web) := ok_is_between T
  refine ⟨_, (pss_one (ps_ret (pe_call (G_is_between) (hr.mono (by omega)) rfl T.m_is_between T.F_is_between.kp T.b_is_between .nil pass0 (pa_cons pe_int (pa_cons (pe_op op_sub (pv 0) pe_int) (pa_cons (pv 1) pa_nil)))))), ?_⟩
  walk_at "ws"
  refine ⟨_, _, hd, v, t, rfl, ha, ?_⟩
  have e : btw 0 (b - 1) t = blw b t := by
    cases t <;> first | rfl | (simp only [btw, blw]; congr 1; rw [decide_eq_decide]; omega)
  rw [e]
  exact k

theorem tup_of {C hd : Addr} {H : Hp} {v : V} {t : Tg} (h : Ab C hd H v t) (e : isT "tuple" t = true) : ∃ p xs ts, v = .ref p ∧ t = .tup ts ∧ Rd H p (.tup xs) ∧ AbAll C hd H xs ts := by
  cases h with
  | tup r al => exact ⟨_, _, _, rfl, rfl, r, al⟩
  | non => exact Bool.noConfusion (show false = true from e)
  | bl _ => exact Bool.noConfusion (show false = true from e)
  | int _ => exact Bool.noConfusion (show false = true from e)
  | str _ => exact Bool.noConfusion (show false = true from e)
  | oth _ _ => exact Bool.noConfusion (show false = true from e)
theorem tsz_f {lo hi : Int} {t : Tg} (e : isT "tuple" t = false) : tsz lo hi t = false := by
  cases t <;> first | rfl | exact Bool.noConfusion (show true = false from e)
def sp_is_tuple_of (C : Addr) : Sp := fun vs H Q _ => ∃ (lo hi : Int) (hd : Addr) (v : V) (t : Tg), vs = [.int lo, .int hi, v] ∧ Ab C hd H v t ∧ Q (.bl (tsz lo hi t)) H
theorem ok_is_tuple_of (T : Txt K mg a) : FnOk P w K mg base CX0 1 a.f_is_tuple_of a.d_is_tuple_of P_is_tuple_of (sp_is_tuple_of a.c_Web) := by
  refine T.F_is_tuple_of.ok sc_is_tuple_of (fun vs H Q E h => by obtain ⟨lo, hi, hd, v, t, rfl, _⟩ := h; rfl) (fun cdv A outer s H vs Q E hr h => ?_)
  obtain ⟨lo, hi, hd, v, t, rfl, ha, k⟩ := h
  refine ⟨_, (pss_one (ps_ret (pe_and (pe_callB call_isi (by rfl) T.n_isinstance (by decide +kernel) (pa_cons (pv 2) (pa_cons (pe_bltn (v := .ty "tuple") (u := .type "tuple") rfl T.n_tuple (by decide +kernel) rfl) pa_nil))) (pe_one (pe_chain op_le op_le (pv 0) (pe_callB call_len_seq (by rfl) T.n_len (by decide +kernel) (pa_cons (pv 2) pa_nil)) (pv 1)))))), ?_⟩
  walk_at "ws"
  refine ab_isi T.ik ha (.inr (.inr (.inr rfl))) ?_
  walk_at "ws"
  refine w_ite (fun e => ?_) (fun e => ?_)
  · obtain ⟨p, xs, ts, rfl, rfl, r, al⟩ := tup_of ha e
    have k : Q (.bl (decide (lo ≤ ts.length) && decide ((ts.length : Int) ≤ hi))) H := k
    walk_at "ws"
    refine ⟨p, xs, rfl, .inr (.inl r), ?_⟩
    rw [al.length]
    walk_at "ws"
    refine w_ite (fun e => ?_) (fun e => ?_)
    · walk_at "ws"
      rw [e] at k
      exact k
    · rw [e] at k
      exact k
  · rw [tsz_f e] at k
    exact k

end
end Mine
/-! ## K2 -/


namespace Mine
section
variable {P : Program} {w : World} {K : PySem.W.Frag} {mg : Str → Option Value} {base : Heap} {a : Ads}

/-! ### are_below, is_unlike_pair -/
theorem bools_tg {H : Hp} {f : Tg → Bool} : ∀ {ts : List Tg} {xs : List V}, DpAll K H xs (ts.map fun t => PyData.bool (f t)) → xs = (ts.map f).map V.bl
  | [], _, h => by cases h; rfl
  | t :: ts, _, h => by
    cases h with
    | cons h1 h2 => cases h1; rw [bools_tg h2]; rfl
def sp_are_below (C : Addr) : Sp := fun vs H Q _ => ∃ (b : Int) (p hd : Addr) (xs : List V) (ts : List Tg), vs = [.int b, .ref p] ∧ Rd H p (.tup xs) ∧ AbAll C hd H xs ts ∧ ts.length ≤ 100000 ∧ ∀ H', G none H H' → Q (.bl (ts.all (blw b))) H'
theorem ok_are_below (T : Txt K mg a) : FnOk P w K mg base CX0 4 a.f_are_below a.d_are_below P_are_below (sp_are_below a.c_Web) := by
  refine T.F_are_below.ok sc_are_below (fun vs H Q E h => by obtain ⟨b, p, hd, xs, ts, rfl, _⟩ := h; rfl) (fun cdv A outer s H vs Q E hr h => ?_)
  obtain ⟨b, p, hd, xs, ts, rfl, hx, al, hz, k⟩ := h
  have G_is_below : FnOk P w K mg base CX0 3 a.f_is_below a.d_is_below P_is_below (sp_is_below a.c_Web) := ok_is_below T
  have hl := al.length
  refine ⟨_, (pss_one (ps_ret (pe_callB (cr_all rfl) (by rfl) T.n_all (by decide +kernel) (pa_cons (pe_lc (own := [("thing", 2)]) (g := (gName 2)) (tt := tYes) rfl sc_are_below.nd (pi_tup (pv 1)) (blkOk_by (N := N_are_below) (sc := defScope s_are_below) (by decide +kernel)) (fun _ _ _ _ _ => (pg_name (i := 2) sc_are_below.nd rfl (by first | exact Or.inl rfl | exact Or.inr rfl))) (fun _ _ _ _ _ => pts_nil) (fun _ _ _ _ _ => (pe_call (G_is_below) (hr.mono (by omega)) rfl T.m_is_below T.F_is_below.kp T.b_is_below .nil pass0 (pa_cons (pv 0) (pa_cons (pv 2) pa_nil))))) pa_nil)))), ?_⟩
  walk_at "ws"
  refine i_tup (.inl hx) ?_
  intro D hD
  refine lc_pure (K := K) (o := none) (walk_tup (xs := xs)) (by omega) hD (fun _ e => nomatch e) (fun i => ts[i]?.map fun t => .bool (blw b t)) (fun H' g => .inl (g.tups _ _ hx)) ?_ ?_
  · rintro i x H1 H2 hi g ⟨rfl, hx1⟩ Qy Qn ky kn
    obtain ⟨t, ht, ha⟩ := al.get hx1
    walk_at "ws"
    refine ⟨rfl, ?_⟩
    walk_at "ws"
    refine ⟨_, hd, x, t, rfl, ha.n g, ky _ _ _ G.refl (.bl _) rfl (by rw [ht]; rfl)⟩
  · intro ys H' g hD' hds _
    rw [hl, filterMap_range_map] at hds
    obtain rfl := bools_tg hds
    walk_at "ws"
    refine ⟨D, ts.map (blw b), rfl, SqL.of hD', ?_⟩
    have e : (ts.map (blw b)).all id = ts.all (blw b) := by rw [List.all_map]; rfl
    rw [e]
    exact k _ g

theorem pr_tsz {b : Int} {t : Tg} (e : tsz 2 2 t = false) : pr b t = false := by
  cases t with
  | tup ts =>
    match ts, e with
    | [], _ => rfl
    | [_], _ => unfold pr; split <;> first | rfl | (rename_i z; cases z)
    | [_, _], e => exact Bool.noConfusion (show true = false from e)
    | _ :: _ :: _ :: _, _ => unfold pr; split <;> first | rfl | (rename_i z; cases z)
  | non => rfl
  | bl _ => rfl
  | int _ => rfl
  | str _ => rfl
  | oth => rfl
theorem tsz_two {t : Tg} (e : tsz 2 2 t = true) : ∃ t1 t2, t = .tup [t1, t2] := by
  cases t with
  | tup ts =>
    match ts, e with
    | [], e => exact Bool.noConfusion (show false = true from e)
    | [_], e => exact Bool.noConfusion (show false = true from e)
    | [_, _], _ => exact ⟨_, _, rfl⟩
    | _ :: _ :: _ :: l, e =>
      have e : (decide ((2 : Int) ≤ ((l.length + 3 : Nat) : Int)) && decide (((l.length + 3 : Nat) : Int) ≤ 2)) = true := e
      simp only [Bool.and_eq_true, decide_eq_true_eq] at e
      omega
  | non => exact Bool.noConfusion (show false = true from e)
  | bl _ => exact Bool.noConfusion (show false = true from e)
  | int _ => exact Bool.noConfusion (show false = true from e)
  | str _ => exact Bool.noConfusion (show false = true from e)
  | oth => exact Bool.noConfusion (show false = true from e)
theorem blw_int {b : Int} {t : Tg} (e : blw b t = true) : ∃ i, t = .int i := by
  cases t with
  | int i => exact ⟨i, rfl⟩
  | tup _ => exact Bool.noConfusion (show false = true from e)
  | non => exact Bool.noConfusion (show false = true from e)
  | bl _ => exact Bool.noConfusion (show false = true from e)
  | str _ => exact Bool.noConfusion (show false = true from e)
  | oth => exact Bool.noConfusion (show false = true from e)
theorem pr_f {b : Int} {t1 t2 : Tg} (e : (([t1, t2] : List Tg).all (blw b)) = false) : pr b (.tup [t1, t2]) = false := by
  by_cases c1 : blw b t1 = true
  · by_cases c2 : blw b t2 = true
    · simp [c1, c2] at e
    · cases t1 <;> cases t2 <;> first | rfl | (simp only [pr]; rw [Bool.eq_false_iff.mpr c2]; simp)
  · cases t1 <;> cases t2 <;> first | rfl | (simp only [pr]; rw [Bool.eq_false_iff.mpr c1]; simp)
def sp_is_unlike_pair (C : Addr) : Sp := fun vs H Q _ => ∃ (b : Int) (hd : Addr) (v : V) (t : Tg), vs = [.int b, v] ∧ Ab C hd H v t ∧ ∀ H', G none H H' → Q (.bl (pr b t)) H'
theorem ok_is_unlike_pair (T : Txt K mg a) : FnOk P w K mg base CX0 5 a.f_is_unlike_pair a.d_is_unlike_pair P_is_unlike_pair (sp_is_unlike_pair a.c_Web) := by
  refine T.F_is_unlike_pair.ok sc_is_unlike_pair (fun vs H Q E h => by obtain ⟨b, hd, v, t, rfl, _⟩ := h; rfl) (fun cdv A outer s H vs Q E hr h => ?_)
  obtain ⟨b, hd, v, t, rfl, ha, k⟩ := h
  have G_is_tuple_of : FnOk P w K mg base CX0 1 a.f_is_tuple_of a.d_is_tuple_of P_is_tuple_of (sp_is_tuple_of a.c_Web) := ok_is_tuple_of T
  have G_are_below : FnOk P w K mg base CX0 4 a.f_are_below a.d_are_below P_are_below (sp_are_below a.c_Web) := ok_are_below T
  refine ⟨_, (pss_one (ps_ret (pe_and (pe_call (G_is_tuple_of) (hr.mono (by omega)) rfl T.m_is_tuple_of T.F_is_tuple_of.kp T.b_is_tuple_of .nil pass0 (pa_cons pe_int (pa_cons pe_int (pa_cons (pv 1) pa_nil)))) (pe_and (pe_call (G_are_below) (hr.mono (by omega)) rfl T.m_are_below T.F_are_below.kp T.b_are_below .nil pass0 (pa_cons (pv 0) (pa_cons (pv 1) pa_nil))) (pe_one (pe_cmpR op_ne (pe_ix ix_tup (pv 1) pe_int (fun _ _ => rfl)) (pe_ix ix_tup (pv 1) pe_int (fun _ _ => rfl)) (nomark _))))))), ?_⟩
  walk_at "ws"
  refine ⟨_, _, hd, v, t, rfl, ha, ?_⟩
  walk_at "ws"
  refine w_ite (fun e => ?_) (fun e => ?_)
  · obtain ⟨t1, t2, rfl⟩ := tsz_two e
    cases ha with
    | @tup p xs _ r al =>
    obtain ⟨v1, v2, rfl, a1, a2⟩ := al.two
    walk_at "ws"
    refine ⟨b, p, hd, _, _, rfl, r, al, by simp, fun H1 g1 => ?_⟩
    walk_at "ws"
    refine w_ite (fun e => ?_) (fun e => ?_)
    · have ee : blw b t1 = true ∧ blw b t2 = true := by simpa using e
      obtain ⟨x, rfl⟩ := blw_int ee.1
      obtain ⟨y, rfl⟩ := blw_int ee.2
      obtain rfl := a1.int_inv
      obtain rfl := a2.int_inv
      have r1 : SqT K H1 p [.int x, .int y] := .inl (g1.tups _ _ r)
      walk_at "ws"
      refine r_ixT r1 (v := .int x) rfl ?_
      walk_at "ws"
      refine r_ixT r1 (v := .int y) rfl ?_
      walk_at "ws"
      have z : pr b (.tup [.int x, .int y]) = !decide (x = y) := by
        show ((blw b (.int x) && blw b (.int y)) && !decide (x = y)) = _
        rw [ee.1, ee.2, Bool.and_self, Bool.true_and]
      have k := k H1 g1
      rw [z] at k
      exact k
    · have k := k H1 g1
      rw [pr_f e] at k
      exact k
  · have k := k H G.refl
    rw [pr_tsz e] at k
    exact k

end
end Mine
/-! ## K6 -/


namespace Mine
section
variable {P : Program} {w : World} {K : PySem.W.Frag} {mg : Str → Option Value} {base : Heap} {a : Ads}

/-! ### the hand of draws -/
def sp__law_hand (K : PySem.W.Frag) : Sp := fun vs H Q _ => ∃ (s : Addr) (ns : List Int), vs = [.ref s] ∧ SqL K H s (ns.map V.int) ∧ ns.length ≤ 63 ∧ ∀ hd c H', G none H H' → Hand H' hd c → Q (.ref hd) H'
theorem ok__law_hand (T : Txt K mg a) : FnOk P w K mg base CX0 1 a.f__law_hand a.d__law_hand P__law_hand (sp__law_hand K) := by
  refine T.F__law_hand.ok sc__law_hand (fun vs H Q E h => by obtain ⟨s, ns, rfl, _⟩ := h; rfl) (fun cdv A outer s0 H vs Q E hr h => ?_)
  obtain ⟨s, ns, rfl, hs, hl, k⟩ := h
  refine ⟨_, (pss_cons (ps_setLc (i := 1) (own := [("_law_cell", 2)]) (g := (gName 2)) (tt := tYes)  rfl sc__law_hand.nd rfl rfl (sw_true rfl rfl rfl (by decide +kernel)) (pi_list (pe_slice sl_list (pv 0) po_none (po_some pe_int))) (blkOk_by (N := N__law_hand) (sc := defScope s__law_hand) (by decide +kernel)) (fun _ _ _ _ _ => (pg_name (i := 2) sc__law_hand.nd rfl (by first | exact Or.inl rfl | exact Or.inr rfl))) (fun _ _ _ _ _ => pts_nil) (fun _ _ _ _ _ => (pe_callB call_abs (by rfl) T.n_abs (by decide +kernel) (pa_cons (pe_callTy call_int1 (by rfl) T.n_int (by decide +kernel) (pa_cons (pv 2) pa_nil)) pa_nil))))
  (pss_one (ps_ret (pe_lstN (pa_cons (pv 1) (pa_cons pe_int (pa_cons pe_int (pa_cons (pe_op op_add pe_int (pe_callB call_len_seq (by rfl) T.n_len (by decide +kernel) (pa_cons (pv 1) pa_nil))) (pa_cons pe_int pa_nil))))))))), ?_⟩
  walk_at "ws"
  refine ⟨s, _, rfl, hs, fun p hp => ?_⟩
  obtain ⟨ms, hms⟩ : ∃ ms : List Int, cutV (ns.map V.int) none (some 63) = ms.map V.int := ints_of fun v hv => by
    obtain ⟨n, _, e⟩ := List.mem_map.mp (mem_cutV hv)
    exact ⟨n, e.symm⟩
  have hz : ms.length ≤ 63 := by
    have e := cutV_length (ns.map V.int) none (some 63)
    rw [hms, List.length_map, List.length_map] at e
    omega
  rw [hms]
  have g1 : G none H (upd H p (.lst (ms.map V.int))) := G.alloc hp
  have h1 : upd H p (.lst (ms.map V.int)) p = some (.lst (ms.map V.int)) := upd_same
  generalize upd H p (.lst (ms.map V.int)) = H1 at g1 h1 ⊢
  walk_at "ws"
  refine i_list (SqL.of h1) ?_
  intro D hD
  refine lc_pure (K := K) (o := none) walk_list (by rw [List.length_map]; omega) hD (fun _ e => nomatch e) (fun i => ms[i]?.map fun n => .int (if n < 0 then -n else n)) (fun H' g => SqL.of (g.all _ _ h1)) ?_ ?_
  · rintro i x H2 H3 hi g ⟨rfl, hx1⟩ Qy Qn ky kn
    obtain ⟨n, hn, rfl⟩ : ∃ n, ms[i]? = some n ∧ V.int n = x := by
      rw [List.getElem?_map] at hx1; exact Option.map_eq_some_iff.mp hx1
    walk_at "ws"
    refine ⟨rfl, ?_⟩
    walk_at "ws"
    refine .inl ⟨_, rfl, ?_⟩
    walk_at "ws"
    exact ⟨_, rfl, ky _ _ _ G.refl (.int _) rfl (by rw [hn]; rfl)⟩
  · intro xs H' g hD' hds _
    rw [List.length_map, filterMap_range_map] at hds
    obtain ⟨cs, rfl⟩ : ∃ cs : List Int, xs = cs.map V.int := ⟨_, DpAll.of_ints (ns := ms.map fun n => if n < 0 then -n else n) (by rw [List.map_map]; exact hds)⟩
    have g2 := g1.trans g
    walk_at "ws"
    refine ⟨D, _, rfl, .inl (SqL.of hD'), ?_⟩
    walk_at "ws"
    refine ⟨sz (by simp), fun q H3 hq g3 h3 => ?_⟩
    exact k q D _ (g2.trans (g3 none)) ⟨ne_of_none hD' hq, ⟨cs, (g3 none).all _ _ hD'⟩, _, _, _, _, h3, Int.le_refl _⟩

def sp__law_draw : Sp := fun vs H Q _ => ∃ (hd c : Addr) (n : Int), vs = [.ref hd, .int n] ∧ Hand H hd c ∧ 0 < n ∧ n ≤ 100000 ∧ ∀ r H', 0 ≤ r → r < n → G (some (hd, c)) H H' → Hand H' hd c → Q (.int r) H'
theorem st5 {x0 x1 x2 x3 x4 v : V} {j : Nat} {hd : Addr} {z : Int} {H : Hp} {F : Hp → Prop} (h : H hd = some (.lst [x0, x1, x2, x3, x4])) (e : ixN 5 z = some j) (q : F (upd H hd (.lst (([x0, x1, x2, x3, x4] : List V).set j v)))) : rSetL (.ref hd) (.int z) v H F := ⟨hd, _, z, j, rfl, rfl, h, e, q⟩
theorem ok__law_draw (T : Txt K mg a) : FnOk P w K mg base CX0 1 a.f__law_draw a.d__law_draw P__law_draw sp__law_draw := by
  refine T.F__law_draw.ok sc__law_draw (fun vs H Q E h => by obtain ⟨hd, c, n, rfl, _⟩ := h; rfl) (fun cdv A outer s0 H vs Q E hr h => ?_)
  obtain ⟨hd, c, n, rfl, hh, n0, n1, k⟩ := h
  have hh' := hh
  obtain ⟨nc, ⟨ns, hc⟩, i, b, m, z, h, hi⟩ := hh'
  refine ⟨_, (pss_cons (ps_if (L2.PW.pt (pw_and (pt_cmpR op_eq (pe_ix ix_list (pv 0) pe_int (fun _ _ => rfl)) pe_int (nomark _)) (pw_and1 (pt_cmpR op_lt (pe_ix ix_list (pv 0) pe_int (fun _ _ => rfl)) (pe_callB call_len_seq (by rfl) T.n_len (by decide +kernel) (pa_cons (pe_ix ix_list (pv 0) pe_int (fun _ _ => rfl)) pa_nil)) (nomark _)))))
    (pss_cons (ps_set (i := 2) sc__law_draw.nd rfl (Or.inl rfl) (pe_ix ix_list (pe_ix ix_list (pv 0) pe_int (fun _ _ => rfl)) (pe_ix ix_list (pv 0) pe_int (fun _ _ => rfl)) (fun _ _ => rfl)))
  (pss_cons (ps_asg (pe_op op_add (pe_ix ix_list (pv 0) pe_int (fun _ _ => rfl)) pe_int) (pg_sub (pv 0) pe_int set_list))
  (pss_cons (ps_asg (pe_op op_mod (pe_callTy call_int1 (by rfl) T.n_int (by decide +kernel) (pa_cons (pe_op op_add (pe_op op_add (pe_op op_mul (pe_ix ix_list (pv 0) pe_int (fun _ _ => rfl)) pe_int) (pv 2)) pe_int) pa_nil)) pe_int) (pg_sub (pv 0) pe_int set_list))
  (pss_one (ps_if (pt_cmpR op_ge (pv 2) (pe_op op_pow pe_int pe_int) (nomark _))
    (pss_one (ps_asg (pv 2) (pg_sub (pv 0) pe_int set_list)))
    pss_nil)))))
    pss_nil)
  (pss_cons (ps_if (pt_cmpR op_gt (pe_ix ix_list (pv 0) pe_int (fun _ _ => rfl)) pe_int (nomark _))
    (pss_cons (ps_set (i := 3) sc__law_draw.nd rfl (Or.inl rfl) (pe_op op_mod (pe_callTy call_int1 (by rfl) T.n_int (by decide +kernel) (pa_cons (pe_ix ix_list (pv 0) pe_int (fun _ _ => rfl)) pa_nil)) (pv 1)))
  (pss_cons (ps_asg (pe_op op_fdiv (pe_ix ix_list (pv 0) pe_int (fun _ _ => rfl)) (pv 1)) (pg_sub (pv 0) pe_int set_list))
  (pss_one (ps_ret (pv 3)))))
    pss_nil)
  (pss_cons (ps_asg (pe_op op_add (pe_ix ix_list (pv 0) pe_int (fun _ _ => rfl)) pe_int) (pg_sub (pv 0) pe_int set_list))
  (pss_cons (ps_set (i := 4) sc__law_draw.nd rfl (Or.inl rfl) (pe_op op_mod (pe_callTy call_int1 (by rfl) T.n_int (by decide +kernel) (pa_cons (pe_op op_mul (pe_callTy call_int1 (by rfl) T.n_int (by decide +kernel) (pa_cons (pe_op op_add (pe_ix ix_list (pv 0) pe_int (fun _ _ => rfl)) (pe_op op_mul pe_int (pe_ix ix_list (pv 0) pe_int (fun _ _ => rfl)))) pa_nil)) pe_int) pa_nil)) pe_int))
  (pss_cons (ps_set (i := 4) sc__law_draw.nd rfl (Or.inl rfl) (pe_op op_mod (pe_callTy call_int1 (by rfl) T.n_int (by decide +kernel) (pa_cons (pe_op op_mul (pv 4) (pe_op op_add (pe_op op_fdiv (pv 4) pe_int) pe_int)) pa_nil)) pe_int))
  (pss_cons (ps_set (i := 4) sc__law_draw.nd rfl (Or.inl rfl) (pe_op op_mod (pe_callTy call_int1 (by rfl) T.n_int (by decide +kernel) (pa_cons (pe_op op_mul (pv 4) (pe_op op_add (pe_op op_fdiv (pv 4) pe_int) pe_int)) pa_nil)) pe_int))
  (pss_one (ps_ret (pe_op op_mod (pe_callTy call_int1 (by rfl) T.n_int (by decide +kernel) (pa_cons (pe_op op_fdiv (pv 4) pe_int) pa_nil)) (pv 1)))))))))), ?_⟩
  refine w_seqM (fun σ H1 => ∃ (i b m z : Int) (x : Option V), σ = [some (.ref hd), some (.int n), x, none, none] ∧ (∀ a, a ≠ hd → H1 a = H a) ∧ H1 hd = some (.lst [.ref c, .int i, .int b, .int m, .int z]) ∧ 0 ≤ i) (fun N kN => ?_) ?_
  · walk_at "ws"
    refine r_ixL (SqL.of h) (v := .int b) rfl ?_
    walk_at "ws"
    refine w_ite (fun e => ?_) (fun e => ?_)
    · walk_at "ws"
      refine r_ixL (SqL.of h) (v := .int i) rfl ?_
      walk_at "ws"
      refine r_ixL (SqL.of h) (v := .ref c) rfl ?_
      walk_at "ws"
      refine ⟨c, _, rfl, .inl (SqL.of hc), ?_⟩
      walk_at "ws"
      refine w_ite (fun e => ?_) (fun e => ?_)
      · have hlt : i < ns.length := by
          have := of_decide_eq_true e
          rw [List.length_map] at this
          exact this
        obtain ⟨cell, hcell⟩ : ∃ cell, ns[i.toNat]? = some cell := ⟨_, List.getElem?_eq_getElem (by omega)⟩
        walk_at "ws"
        refine r_ixL (SqL.of h) (v := .ref c) rfl ?_
        walk_at "ws"
        refine r_ixL (SqL.of h) (v := .int i) rfl ?_
        refine r_ixL (SqL.of hc) (v := .int cell) (at_of (j := i.toNat) (by omega) (by rw [List.getElem?_map, hcell]; rfl)) ?_
        walk_at "ws"
        refine r_ixL (SqL.of h) (v := .int i) rfl ?_
        walk_at "ws"
        refine st5 (j := 1) h rfl ?_
        walk_at "ws"
        refine r_ixL (SqL.of upd_same) (v := .int m) rfl ?_
        walk_at "ws"
        refine r_I (.inr ⟨by decide, by decide⟩) ?_
        walk_at "ws"
        refine .inl ⟨_, rfl, ?_⟩
        walk_at "ws"
        refine r_I (by decide) ?_
        walk_at "ws"
        refine st5 (j := 3) upd_same rfl ?_
        walk_at "ws"
        refine r_I ⟨by decide, by decide, by decide⟩ ?_
        walk_at "ws"
        refine w_ite (fun e => ?_) (fun e => ?_)
        · walk_at "ws"
          refine st5 (j := 2) upd_same rfl ?_
          refine kN _ _ ⟨_, _, _, _, _, rfl, fun a na => ?_, upd_same, by omega⟩
          rw [upd_ne na, upd_ne na, upd_ne na]
        · walk_at "ws"
          refine kN _ _ ⟨_, _, _, _, _, rfl, fun a na => ?_, upd_same, by omega⟩
          rw [upd_ne na, upd_ne na]
      · walk_at "ws"
        exact kN _ _ ⟨i, b, m, z, none, rfl, fun _ _ => rfl, h, hi⟩
    · walk_at "ws"
      exact kN _ _ ⟨i, b, m, z, none, rfl, fun _ _ => rfl, h, hi⟩
  · clear h hi
    rintro σ H1 ⟨i, b, m, z, x, rfl, hE, h, hi⟩
    walk_at "ws"
    refine r_ixL (SqL.of h) (v := .int b) rfl ?_
    walk_at "ws"
    refine w_ite (fun e => ?_) (fun e => ?_)
    · walk_at "ws"
      refine r_ixL (SqL.of h) (v := .int b) rfl ?_
      walk_at "ws"
      refine .inl ⟨_, rfl, ?_⟩
      walk_at "ws"
      refine r_I n0 ?_
      walk_at "ws"
      refine r_ixL (SqL.of h) (v := .int b) rfl ?_
      walk_at "ws"
      refine r_I ⟨n0, by omega⟩ ?_
      walk_at "ws"
      refine st5 (j := 2) h rfl ?_
      walk_at "ws"
      obtain ⟨g, hh2⟩ := G.at_hd hh (H' := upd H1 hd (.lst (([.ref c, .int i, .int b, .int m, .int z] : List V).set 2 (.int (b / n))))) (fun a na => by rw [upd_ne na]; exact hE a na) upd_same hi
      exact k _ _ (Int.emod_nonneg _ (by omega)) (Int.emod_lt_of_pos _ n0) g hh2
    · walk_at "ws"
      refine r_ixL (SqL.of h) (v := .int z) rfl ?_
      walk_at "ws"
      refine st5 (j := 4) h rfl ?_
      walk_at "ws"
      refine r_ixL (SqL.of upd_same) (v := .int m) rfl ?_
      walk_at "ws"
      refine r_ixL (SqL.of upd_same) (v := .int (z + 1)) rfl ?_
      refine r_I (.inl ⟨by decide, by decide⟩) ?_
      walk_at "ws"
      refine .inl ⟨_, rfl, ?_⟩
      walk_at "ws"
      refine r_I (.inr ⟨by decide, by decide⟩) ?_
      walk_at "ws"
      refine .inl ⟨_, rfl, ?_⟩
      walk_at "ws"
      refine r_I (by decide) ?_
      generalize e1 : (_ : Int) % 2147483647 = u1
      have b1 : 0 ≤ u1 ∧ u1 < 2147483647 := by omega
      walk_at "ws"
      refine r_I ⟨by decide, by decide⟩ ?_
      walk_at "ws"
      refine r_I (.inl ⟨by omega, by omega⟩) ?_
      walk_at "ws"
      refine .inl ⟨_, rfl, ?_⟩
      walk_at "ws"
      refine r_I (by decide) ?_
      generalize e2 : (_ : Int) % 2147483647 = u2
      have b2 : 0 ≤ u2 ∧ u2 < 2147483647 := by omega
      walk_at "ws"
      refine r_I ⟨by decide, by decide⟩ ?_
      walk_at "ws"
      refine r_I (.inl ⟨by omega, by omega⟩) ?_
      walk_at "ws"
      refine .inl ⟨_, rfl, ?_⟩
      walk_at "ws"
      refine r_I (by decide) ?_
      walk_at "ws"
      refine r_I ⟨by decide, by decide⟩ ?_
      walk_at "ws"
      refine .inl ⟨_, rfl, ?_⟩
      walk_at "ws"
      refine r_I n0 ?_
      obtain ⟨g, hh2⟩ := G.at_hd hh (H' := upd H1 hd (.lst (([.ref c, .int i, .int b, .int m, .int z] : List V).set 4 (.int (z + 1))))) (fun a na => by rw [upd_ne na]; exact hE a na) upd_same hi
      exact k _ _ (Int.emod_nonneg _ (by omega)) (Int.emod_lt_of_pos _ n0) g hh2

end
end Mine
/-! ## D10 -/


namespace Mine.Da
section
variable {P : Program} {w : World} {K : PySem.W.Frag} {mg : Str → Option Value} {base : Heap} {a : Ads}

/-! ### a diary bent -/
/-- a diary of x -/
structure IsDia (ws : List Int) (x : Int) (d : List Int) : Prop where
  nd : d.Nodup
  rng : ∀ p ∈ d, 0 ≤ p ∧ p < ws.length
  own : ∀ (p : Nat), ws[p]? = some x → (p : Int) ∈ d
theorem IsDia.perm {ws : List Int} {x : Int} {d d' : List Int} (h : IsDia ws x d) (p : d'.Perm d) : IsDia ws x d' := ⟨p.nodup_iff.mpr h.nd, fun q hq => h.rng q (p.mem_iff.mp hq), fun q hq => p.mem_iff.mpr (h.own q hq)⟩
theorem keep_ints {c : Int → Prop} [DecidablePred c] : ∀ own : List Int, (own.filterMap fun p => if c p then none else some (PyData.int p)) = (own.filter fun p => !decide (c p)).map PyData.int
  | [] => rfl
  | p :: l => by
    rw [List.filterMap_cons, List.filter_cons]
    by_cases h : c p
    · simp only [h, if_true, decide_true, Bool.not_true, Bool.false_eq_true, if_false]
      exact keep_ints l
    · simp only [h, if_false, decide_false, Bool.not_false, if_true, List.map_cons]
      rw [keep_ints l]
theorem keep_nats {c : Int → Prop} [DecidablePred c] : ∀ l : List Nat, (l.filterMap fun (p : Nat) => if c (p : Int) then none else some (PyData.int (p : Int))) = ((l.filter fun (p : Nat) => !decide (c (p : Int))).map fun (p : Nat) => (p : Int)).map PyData.int
  | [] => rfl
  | p :: l => by
    rw [List.filterMap_cons, List.filter_cons]
    by_cases h : c (p : Int)
    · simp only [h, if_true, decide_true, Bool.not_true, Bool.false_eq_true, if_false]
      exact keep_nats l
    · simp only [h, if_false, decide_false, Bool.not_false, if_true, List.map_cons]
      rw [keep_nats l]
theorem cut_from (xs : List V) {k : Nat} (h : k + 1 ≤ xs.length) : cutV xs (some ((k : Int) + 1)) none = xs.drop (k + 1) := by
  have e : ((k : Int) + 1) = ((k + 1 : Nat) : Int) := by omega
  unfold cutV
  rw [HT.sIx_none, e, HT.sIx_nat, Nat.min_eq_left h]
  exact List.take_of_length_le (by rw [List.length_drop]; exact Nat.le_refl _)
theorem ix_nat {n i : Nat} (h : i < n) : ixN n (i : Int) = some i := by
  unfold ixN
  rw [if_pos (by omega), if_pos (by omega)]
  simp
theorem ix_nat' {n i : Nat} (h : i + 1 < n) : ixN n ((i : Int) + 1) = some (i + 1) := by
  have := ix_nat h
  rw [← this]
  congr 1
theorem swap_perm : ∀ (l : List Int) (i : Nat) (h : i + 1 < l.length), ((l.set i l[i + 1]).set (i + 1) (l[i]'(by omega))).Perm l
  | a :: b :: t, 0, _ => List.Perm.swap ..
  | [a], 0, h => by simp at h
  | a :: t, i + 1, h => by
    have h' : i + 1 < t.length := by simpa using h
    exact (swap_perm t i h').cons a
theorem IsDia.less {ws : List Int} {x : Int} {d : List Int} {v : Int} {j : Nat} (h : IsDia ws x d) (e : d[j]? = some v) (nx : ∀ w, ws[v.toNat]? = some w → w ≠ x) : IsDia ws x (d.eraseIdx j) := by
  refine ⟨h.nd.sublist (List.eraseIdx_sublist d j), fun q hq => h.rng q (List.mem_of_mem_eraseIdx hq), fun q hq => ?_⟩
  obtain ⟨i, hi⟩ := List.getElem?_of_mem (h.own q hq)
  have ne : i ≠ j := fun z => by
    subst z
    rw [hi] at e
    have e := Option.some.inj e
    subst e
    exact nx x (by rw [Int.toNat_natCast]; exact hq) rfl
  exact List.mem_eraseIdx_iff_getElem?.mpr ⟨i, ne, hi⟩
theorem IsDia.more {ws : List Int} {x : Int} {d d' : List Int} {v : Int} (h : IsDia ws x d) (n : v ∉ d) (hv : 0 ≤ v ∧ v < ws.length) (p : d'.Perm (v :: d)) : IsDia ws x d' := by
  refine ⟨p.nodup_iff.mpr (List.nodup_cons.mpr ⟨n, h.nd⟩), fun q hq => ?_, fun q hq => p.mem_iff.mpr (List.mem_cons_of_mem _ (h.own q hq))⟩
  rcases List.mem_cons.mp (p.mem_iff.mp hq) with e | e
  · rw [e]; exact hv
  · exact h.rng q e
theorem IsRec.dia {ws : List Int} {ds : List (List Int)} (h : IsRec ws ds) {x : Nat} {d : List Int} (e : ds[x]? = some d) : IsDia ws x d := ⟨h.nd d (List.mem_of_getElem? e), h.rng d (List.mem_of_getElem? e), fun p hp => h.own p x d hp (by rw [Int.toNat_natCast]; exact e)⟩
theorem IsRec.set {ws : List Int} {ds : List (List Int)} (h : IsRec ws ds) {x : Nat} {d : List Int} (hd : IsDia ws x d) : IsRec ws (ds.set x d) := by
  refine ⟨by rw [List.length_set]; exact h.m1, by rw [List.length_set]; exact h.m7, h.p30, fun w hw => by rw [List.length_set]; exact h.wr w hw, fun e he => ?_, fun e he => ?_, fun p w e hp he => ?_⟩
  · rcases List.mem_or_eq_of_mem_set he with z | z
    · exact h.nd e z
    · rw [z]; exact hd.nd
  · rcases List.mem_or_eq_of_mem_set he with z | z
    · exact h.rng e z
    · rw [z]; exact hd.rng
  · rw [List.getElem?_set] at he
    by_cases c : x = w.toNat
    · rw [if_pos c] at he
      split at he
      · cases he
        have wm := h.wr w (List.mem_of_getElem? hp)
        have ew : (x : Int) = w := by omega
        exact hd.own p (by rw [ew]; exact hp)
      · cases he
    · rw [if_neg c] at he
      exact h.own p w e hp he
def sp__law_bent_record (K : PySem.W.Frag) : Sp := fun vs H Q _ => ∃ (hd c wp dp : Addr) (ws : List Int) (ds : List (List Int)), vs = [.ref hd, .ref wp, .ref dp] ∧ Hand H hd c ∧ SqT K H wp (ws.map V.int) ∧ Dia K H dp ds ∧ IsRec ws ds ∧
  ∀ (p : Addr) (ds' : List (List Int)) H', G (some (hd, c)) H H' → Hand H' hd c → Dia K H' p ds' → IsRec ws ds' → ds'.length = ds.length → Q (.ref p) H'
theorem ok__law_bent_record (T : Txt K mg a) : FnOk P w K mg base CX0 2 a.f__law_bent_record a.d__law_bent_record P__law_bent_record (sp__law_bent_record K) := by
  refine T.F__law_bent_record.ok sc__law_bent_record (fun vs H Q E h => by obtain ⟨hd, c, wp, dp, ws, ds, rfl, _⟩ := h; rfl) (fun cdv A outer s H vs Q E hr h => ?_)
  obtain ⟨hd, c, wp, dp, ws, ds, rfl, hh, hw, hdia, rec, k⟩ := h
  have G__law_draw : FnOk P w K mg base CX0 1 a.f__law_draw a.d__law_draw P__law_draw sp__law_draw := ok__law_draw T
  have m1 := rec.m1
  have m7 := rec.m7
  have p30 := rec.p30
  have hhp : ∀ p, some (hd, c) = some p → Hand H p.1 p.2 := fun p e => by cases e; exact hh
  refine ⟨_, (pss_cons (ps_set (i := 3) sc__law_bent_record.nd rfl (Or.inr rfl) (pe_call (G__law_draw) (hr.mono (by omega)) rfl T.m__law_draw T.F__law_draw.kp T.b__law_draw .nil pass0 (pa_cons (pv 0) (pa_cons (pe_callB call_len_seq (by rfl) T.n_len (by decide +kernel) (pa_cons (pv 2) pa_nil)) pa_nil))))
  (pss_cons (ps_set (i := 4) sc__law_bent_record.nd rfl (Or.inr rfl) (pe_callTy call_listN (by rfl) T.n_list (by decide +kernel) (pa_cons (pe_ix ix_tup (pv 2) (pv 3) (fun _ _ => rfl)) pa_nil)))
  (pss_cons (ps_set (i := 5) sc__law_bent_record.nd rfl (Or.inl rfl) (pe_call (G__law_draw) (hr.mono (by omega)) rfl T.m__law_draw T.F__law_draw.kp T.b__law_draw .nil pass0 (pa_cons (pv 0) (pa_cons pe_int pa_nil))))
  (pss_cons (ps_if (L2.PW.pt (pw_and (pt_cmpR op_eq (pv 5) pe_int (nomark _)) (pw_and1 (pt_cmpR op_gt (pe_callB call_len_seq (by rfl) T.n_len (by decide +kernel) (pa_cons (pv 4) pa_nil)) pe_int (nomark _)))))
    (pss_cons (ps_set (i := 6) sc__law_bent_record.nd rfl (Or.inl rfl) (pe_call (G__law_draw) (hr.mono (by omega)) rfl T.m__law_draw T.F__law_draw.kp T.b__law_draw .nil pass0 (pa_cons (pv 0) (pa_cons (pe_op op_sub (pe_callB call_len_seq (by rfl) T.n_len (by decide +kernel) (pa_cons (pv 4) pa_nil)) pe_int) pa_nil))))
  (pss_one (ps_asg (pe_tupN (pa_cons (pe_ix ix_list (pv 4) (pe_op op_add (pv 6) pe_int) (fun _ _ => rfl)) (pa_cons (pe_ix ix_list (pv 4) (pv 6) (fun _ _ => rfl)) pa_nil))) (pg_tup rfl (pgs_cons (pg_sub (pv 4) (pv 6) set_list) (pgs_cons (pg_sub (pv 4) (pe_op op_add (pv 6) pe_int) set_list) pgs_nil))))))
    pss_nil)
  (pss_cons (ps_setLc (i := 7) (own := [("_law_put", 9)]) (g := (gName 9))  rfl sc__law_bent_record.nd rfl rfl (sw_true rfl rfl rfl (by decide +kernel)) (pi_list (pv 4)) (blkOk_by (N := N__law_bent_record) (sc := defScope s__law_bent_record) (by decide +kernel)) (fun _ _ _ _ _ => (pg_name (i := 9) sc__law_bent_record.nd rfl (by first | exact Or.inl rfl | exact Or.inr rfl))) (fun _ _ _ _ _ => (pts_one (pt_cmpR op_ne (pe_ix (k_ix_tup K) (pv 1) (pv 9) (fun _ _ => rfl)) (pv 3) (nomark _)))) (fun _ _ _ _ _ => (pv 9)))
  (pss_cons (ps_if (L2.PW.pt (pw_and (pt_cmpR op_eq (pv 5) pe_int (nomark _)) (pw_and1 (pt_cmpR op_gt (pe_callB call_len_seq (by rfl) T.n_len (by decide +kernel) (pa_cons (pv 7) pa_nil)) pe_int (nomark _)))))
    (pss_one (ps_expr (pe_bm PySem.F.plainAttrs_list PySem.F.slot_list_remove PySem.F.type_list_remove mt_remove (pv 4) (pa_cons (pe_ix ix_list (pv 7) (pe_call (G__law_draw) (hr.mono (by omega)) rfl T.m__law_draw T.F__law_draw.kp T.b__law_draw .nil pass0 (pa_cons (pv 0) (pa_cons (pe_callB call_len_seq (by rfl) T.n_len (by decide +kernel) (pa_cons (pv 7) pa_nil)) pa_nil))) (fun _ _ => rfl)) pa_nil))))
    pss_nil)
  (pss_cons (ps_setLc (i := 8) (own := [("_law_put", 9)]) (g := (gName 9))  rfl sc__law_bent_record.nd rfl rfl (sw_true rfl rfl rfl (by decide +kernel)) (pi_range1 rfl T.n_range (pa_cons (pe_callB call_len_seq (by rfl) T.n_len (by decide +kernel) (pa_cons (pv 1) pa_nil)) pa_nil)) (blkOk_by (N := N__law_bent_record) (sc := defScope s__law_bent_record) (by decide +kernel)) (fun _ _ _ _ _ => (pg_name (i := 9) sc__law_bent_record.nd rfl (by first | exact Or.inl rfl | exact Or.inr rfl))) (fun _ _ _ _ _ => (pts_one (pt_cmpR (k_op_notIn_seq K) (pv 9) (pv 4) (by rfl)))) (fun _ _ _ _ _ => (pv 9)))
  (pss_cons (ps_if (L2.PW.pt (pw_and (pt_cmpR op_eq (pv 5) pe_int (nomark _)) (pw_and1 (pt_cmpR op_gt (pe_callB call_len_seq (by rfl) T.n_len (by decide +kernel) (pa_cons (pv 8) pa_nil)) pe_int (nomark _)))))
    (pss_one (ps_expr (pe_bm PySem.F.plainAttrs_list PySem.F.slot_list_insert PySem.F.type_list_insert mt_insert (pv 4) (pa_cons (pe_call (G__law_draw) (hr.mono (by omega)) rfl T.m__law_draw T.F__law_draw.kp T.b__law_draw .nil pass0 (pa_cons (pv 0) (pa_cons (pe_op op_add (pe_callB call_len_seq (by rfl) T.n_len (by decide +kernel) (pa_cons (pv 4) pa_nil)) pe_int) pa_nil))) (pa_cons (pe_ix ix_list (pv 8) (pe_call (G__law_draw) (hr.mono (by omega)) rfl T.m__law_draw T.F__law_draw.kp T.b__law_draw .nil pass0 (pa_cons (pv 0) (pa_cons (pe_callB call_len_seq (by rfl) T.n_len (by decide +kernel) (pa_cons (pv 8) pa_nil)) pa_nil))) (fun _ _ => rfl)) pa_nil)))))
    pss_nil)
  (pss_one (ps_ret (pe_op op_catN (pe_op op_catN (pe_slice sl_tupAN (pv 2) po_none (po_some (pv 3))) (pe_tupN (pa_cons (pe_callTy call_tupleF (by rfl) T.n_tuple (by decide +kernel) (pa_cons (pv 4) pa_nil)) pa_nil))) (pe_slice sl_tupAN (pv 2) (po_some (pe_op op_add (pv 3) pe_int)) po_none)))))))))))), ?_⟩
  walk_at "ws"
  obtain ⟨bs, hbs, lb, hb⟩ := id hdia
  refine ⟨dp, _, rfl, .inr hbs, ?_⟩
  walk_at "ws"
  rw [List.length_map]
  refine ⟨hd, c, _, rfl, hh, by omega, by omega, fun r H1 r0 r1 g1 hh1 => ?_⟩
  obtain ⟨x, rfl⟩ : ∃ x : Nat, r = (x : Int) := ⟨r.toNat, by omega⟩
  obtain ⟨b, hbx⟩ : ∃ b, bs[x]? = some b := ⟨_, List.getElem?_eq_getElem (by omega)⟩
  obtain ⟨d, hdx⟩ : ∃ d, ds[x]? = some d := ⟨_, List.getElem?_eq_getElem (by omega)⟩
  have hf := FrzT.g (hb x b d hbx hdx) g1 hhp
  have isd := rec.dia hdx
  walk_at "ws"
  refine r_ixT (sqT_t g1.tups hbs) (v := .ref b) (at_of (j := x) rfl (by rw [List.getElem?_map, hbx]; rfl)) ?_
  refine ⟨b, _, rfl, .inr hf.sq, fun O H2 hO g2 h2 => ?_⟩
  have hO0 : H O = none := new_back g1 hh1 hO
  have offO : ∀ p, some (hd, c) = some p → O ≠ p.1 := fun p e => by cases e; exact hh.ne hO0
  walk_at "ws"
  have hh2 : Hand H2 hd c := (g2 (some (hd, c))).hand _ rfl hh1
  refine ⟨hd, c, 3, rfl, hh2, by decide, by decide, fun kind H3 _ _ g3 hh3 => ?_⟩
  have h3 := g3.keep O _ offO h2
  have g03 := (g1.trans (g2 _)).trans g3
  walk_at "wn"
  dsimp only
  refine w_seqM (fun σ H' => ∃ (own : List Int) (u6 u7 u8 u9 : Option V), σ = [some (.ref hd), some (.ref wp), some (.ref dp), some (.int (x : Int)), some (.ref O), some (.int kind), u6, u7, u8, u9] ∧ G (some (hd, c)) H H' ∧ H' O = some (.lst (own.map V.int)) ∧ IsDia ws x own) (fun N kN => ?_) ?_
  · walk_at "ws"
    refine w_ite (fun e => ?_) (fun e => ?_)
    · walk_at "ws"
      refine ⟨O, _, rfl, .inl (SqL.of h3), ?_⟩
      walk_at "ws"
      rw [List.length_map]
      refine w_ite (fun e2 => ?_) (fun e2 => ?_)
      · have big : (1 : Int) < (d.length : Int) := of_decide_eq_true e2
        have dl := diary_len isd.nd isd.rng
        walk_at "ws"
        refine ⟨O, _, rfl, .inl (SqL.of h3), ?_⟩
        walk_at "ws"
        rw [List.length_map]
        refine ⟨hd, c, _, rfl, hh3, by omega, by omega, fun r H4 r0 r1 g4 hh4 => ?_⟩
        obtain ⟨i, rfl⟩ : ∃ i : Nat, r = (i : Int) := ⟨r.toNat, by omega⟩
        have h4 := g4.keep O _ offO h3
        have hi : i + 1 < d.length := by omega
        walk_at "ws"
        refine r_ixL (SqL.of h4) (v := .int d[i + 1]) (at_of (j := i + 1) (by omega) (by rw [List.getElem?_map, List.getElem?_eq_getElem hi]; rfl)) ?_
        walk_at "ws"
        refine r_ixL (SqL.of h4) (v := .int d[i]) (at_of (j := i) rfl (by rw [List.getElem?_map, List.getElem?_eq_getElem (by omega)]; rfl)) ?_
        walk_at "ws"
        refine ⟨sz (by simp), fun t H5 ht g5 h5 => ?_⟩
        have h5O := (g5 none).all _ _ h4
        refine ⟨t, _, rfl, SqT.of h5, rfl, ?_⟩
        refine ⟨_, _, rfl, ?_⟩
        walk_at "ws"
        refine ⟨O, _, _, i, rfl, rfl, h5O, ix_nat (by rw [List.length_map]; omega), ?_⟩
        refine ⟨_, _, rfl, ?_⟩
        walk_at "ws"
        refine ⟨O, _, _, i + 1, rfl, rfl, upd_same, ix_nat' (by rw [List.length_set, List.length_map]; omega), ?_⟩
        have e3 : (((d.map V.int).set i (.int d[i + 1])).set (i + 1) (.int d[i])) = (((d.set i d[i + 1]).set (i + 1) d[i]).map V.int) := by rw [List.map_set, List.map_set]
        refine ⟨rfl, ?_⟩
        refine kN _ _ ?_
        refine ⟨_, _, _, _, _, rfl, ((((g03.trans g4).trans (g5 _)).mut hO0 hhp).mut hO0 hhp), by rw [upd_same, e3], isd.perm (swap_perm d i hi)⟩
      · walk_at "ws"
        exact kN _ _ ⟨d, _, _, _, _, rfl, g03, h3, isd⟩
    · walk_at "ws"
      exact kN _ _ ⟨d, _, _, _, _, rfl, g03, h3, isd⟩
  · clear h3 g03 hh3 g3 hh2 g2 h2
    rintro σ H3 ⟨own, u6, u7, u8, u9, rfl, g03, h3, isd⟩
    have hh3 : Hand H3 hd c := g03.hand (hd, c) rfl hh
    have ol := diary_len isd.nd isd.rng
    have hw3 := sqT_t g03.tups hw
    walk_at "ws"
    refine i_list (SqL.of h3) ?_
    intro D hD
    refine lc_pure (K := K) (o := none) (walk_list (xs := own.map V.int)) (by rw [List.length_map]; omega) hD (fun _ e => nomatch e) (fun i => own[i]?.bind fun p => if ws[p.toNat]? = some (x : Int) then none else some (PyData.int p)) (fun H' g => SqL.of (g.all _ _ h3)) ?_ ?_
    · rintro i v _ H4 hi g4 ⟨rfl, hv⟩ Qy Qn ky kn
      rw [List.getElem?_map] at hv
      obtain ⟨p, hp, rfl⟩ := Option.map_eq_some_iff.mp hv
      have pm := isd.rng p (List.mem_of_getElem? hp)
      obtain ⟨w0, hw0⟩ : ∃ w0, ws[p.toNat]? = some w0 := ⟨_, List.getElem?_eq_getElem (by omega)⟩
      walk_at "ws"
      refine ⟨rfl, ?_⟩
      walk_at "ws"
      refine r_ixT (sqT_t g4.tups hw3) (v := .int w0) (at_of (j := p.toNat) (by omega) (by rw [List.getElem?_map, hw0]; rfl)) ?_
      walk_at "ws"
      refine w_ite (fun e => ?_) (fun e => ?_)
      · walk_at "ws"
        have e' : ¬ w0 = (x : Int) := by simpa using e
        exact ky _ _ _ G.refl (.int p) rfl (by rw [hp, Option.bind_some, hw0, if_neg (fun z => e' (Option.some.inj z))])
      · have e' : w0 = (x : Int) := by simpa using e
        exact kn _ G.refl (by rw [hp, Option.bind_some, hw0, if_pos (by rw [e'])])
    intro xs H4 g4 hD4 hds hnl
    rw [List.length_map, filterMap_range_fm] at hds
    have e4 : (own.filterMap fun p => if ws[p.toNat]? = some (x : Int) then none else some (PyData.int p)) = (own.filter fun p => !decide (ws[p.toNat]? = some (x : Int))).map PyData.int := by
      exact keep_ints own
    rw [e4] at hds
    obtain rfl := DpAll.of_ints hds
    have h4 := g4.all _ _ h3
    have g04 := g03.trans g4.up
    have hh4 : Hand H4 hd c := g04.hand (hd, c) rfl hh
    have hD0 : H D = none := new_back g03 hh3 hD
    have offD : ∀ p, some (hd, c) = some p → D ≠ p.1 := fun p e => by cases e; exact hh.ne hD0
    walk_at "wn"
    dsimp only
    refine w_seqM (fun σ H' => ∃ (own : List Int) (u6 u7 u8 u9 : Option V), σ = [some (.ref hd), some (.ref wp), some (.ref dp), some (.int (x : Int)), some (.ref O), some (.int kind), u6, u7, u8, u9] ∧ G (some (hd, c)) H H' ∧ H' O = some (.lst (own.map V.int)) ∧ IsDia ws x own) (fun N kN => ?_) ?_
    · walk_at "ws"
      refine w_ite (fun e => ?_) (fun e => ?_)
      · walk_at "ws"
        refine ⟨D, _, rfl, .inl (SqL.of hD4), ?_⟩
        walk_at "ws"
        rw [List.length_map]
        refine w_ite (fun e2 => ?_) (fun e2 => ?_)
        · have big := of_decide_eq_true e2
          have fl := List.length_filter_le (fun p : Int => !decide (ws[p.toNat]? = some (x : Int))) own
          walk_at "ws"
          refine i_BM h4 ?_
          walk_at "ws"
          refine ⟨D, _, rfl, .inl (SqL.of hD4), ?_⟩
          walk_at "ws"
          rw [List.length_map]
          refine ⟨hd, c, _, rfl, hh4, by omega, by omega, fun r H5 r0 r1 g5 hh5 => ?_⟩
          have hD5 := g5.keep D _ offD hD4
          have h5 := g5.keep O _ offO h4
          obtain ⟨v, hv⟩ : ∃ v, (own.filter fun p => !decide (ws[p.toNat]? = some (x : Int)))[r.toNat]? = some v := ⟨_, List.getElem?_eq_getElem (by omega)⟩
          have vm := List.mem_filter.mp (List.mem_of_getElem? hv)
          refine r_ixL (SqL.of hD5) (v := .int v) (at_of (j := r.toNat) (by omega) (by rw [List.getElem?_map, hv]; rfl)) ?_
          walk_at "ws"
          refine ⟨O, own, v, own.idxOf v, rfl, rfl, h5, idx_at vm.1, fun m hm e => ?_, ?_⟩
          · have := idx_of isd.nd e
            omega
          walk_at "ws"
          refine kN _ _ ?_
          exact ⟨_, _, _, _, _, rfl, (g04.trans g5).mut hO0 hhp, upd_same, isd.less (idx_at vm.1) fun w hw z => by
            have q := vm.2
            rw [hw, z] at q
            simp at q⟩
        · walk_at "ws"
          exact kN _ _ ⟨own, _, _, _, _, rfl, g04, h4, isd⟩
      · walk_at "ws"
        exact kN _ _ ⟨own, _, _, _, _, rfl, g04, h4, isd⟩
    clear hnl g04 g4 hds hD4 h4 hh4 g03 h3 hh3 isd ol e4 offD hD0 hD hw3
    clear own
    rintro σ H3 ⟨own, u6, u7, u8, u9, rfl, g03, h3, isd⟩
    have hh3 : Hand H3 hd c := g03.hand (hd, c) rfl hh
    have ol := diary_len isd.nd isd.rng
    have hw3 := sqT_t g03.tups hw
    walk_at "ws"
    refine ⟨wp, _, rfl, .inr hw3, ?_⟩
    walk_at "ws"
    rw [List.length_map]
    refine i_rng1 (by omega) (by omega) ?_
    rw [Int.toNat_natCast]
    intro D hD
    refine lc_pure (K := K) (o := none) walk_range (by omega) hD (fun _ e => nomatch e) (fun (i : Nat) => if (i : Int) ∈ own then none else some (PyData.int (i : Int))) (fun _ _ => trivial) ?_ ?_
    · rintro i _ _ H4 hi g4 ⟨rfl, rfl⟩ Qy Qn ky kn
      walk_at "ws"
      refine ⟨rfl, ?_⟩
      walk_at "ws"
      refine ⟨O, _, rfl, .inl (SqL.of (g4.all _ _ h3)), rfl, by rw [List.all_map, List.all_eq_true]; intro q _; rfl, ?_⟩
      have ein : inV (.int (0 + (i : Int))) (own.map V.int) = decide ((i : Int) ∈ own) := by
        unfold inV
        rw [List.any_map, Bool.eq_iff_iff, List.any_eq_true, decide_eq_true_iff]
        constructor
        · rintro ⟨z, hz, e⟩
          have e : z = (i : Int) := by simpa [eqV] using e
          exact e ▸ hz
        · intro h
          exact ⟨_, h, by simp [eqV]⟩
      rw [ein]
      by_cases c : (i : Int) ∈ own
      · rw [decide_eq_true c]
        walk_at "ws"
        refine w_iteN rfl ?_
        exact kn _ G.refl (by rw [if_pos c])
      · rw [decide_eq_false c]
        walk_at "ws"
        refine w_iteE rfl ?_
        walk_at "ws"
        exact ky _ _ _ G.refl (.int _) rfl (by rw [if_neg c, Int.zero_add])
    intro xs H4 g4 hD4 hds hnl
    have e4 : ((List.range ws.length).filterMap fun (i : Nat) => if (i : Int) ∈ own then none else some (PyData.int (i : Int))) = (((List.range ws.length).filter fun (i : Nat) => !decide ((i : Int) ∈ own)).map fun (i : Nat) => (i : Int)).map PyData.int := keep_nats _
    rw [e4] at hds
    obtain rfl := DpAll.of_ints hds
    have h4 := g4.all _ _ h3
    have g04 := g03.trans g4.up
    have hh4 : Hand H4 hd c := g04.hand (hd, c) rfl hh
    have hD0 : H D = none := new_back g03 hh3 hD
    have offD : ∀ p, some (hd, c) = some p → D ≠ p.1 := fun p e => by cases e; exact hh.ne hD0
    walk_at "wn"
    dsimp only
    refine w_seqM (fun σ H' => ∃ (own : List Int) (u6 u7 u8 u9 : Option V), σ = [some (.ref hd), some (.ref wp), some (.ref dp), some (.int (x : Int)), some (.ref O), some (.int kind), u6, u7, u8, u9] ∧ G (some (hd, c)) H H' ∧ H' O = some (.lst (own.map V.int)) ∧ IsDia ws x own) (fun N kN => ?_) ?_
    · walk_at "ws"
      refine w_ite (fun e => ?_) (fun e => ?_)
      · walk_at "ws"
        refine ⟨D, _, rfl, .inl (SqL.of hD4), ?_⟩
        walk_at "ws"
        rw [List.length_map, List.length_map]
        refine w_ite (fun e2 => ?_) (fun e2 => ?_)
        · have big := of_decide_eq_true e2
          have fl := List.length_filter_le (fun i : Nat => !decide ((i : Int) ∈ own)) (List.range ws.length)
          rw [List.length_range] at fl
          walk_at "ws"
          refine i_BM h4 ?_
          walk_at "ws"
          refine ⟨O, _, rfl, .inl (SqL.of h4), ?_⟩
          walk_at "ws"
          rw [List.length_map]
          refine ⟨hd, c, _, rfl, hh4, by omega, by omega, fun r H5 r0 r1 g5 hh5 => ?_⟩
          have hD5 := g5.keep D _ offD hD4
          walk_at "ws"
          refine ⟨D, _, rfl, .inl (SqL.of hD5), ?_⟩
          walk_at "ws"
          rw [List.length_map, List.length_map]
          refine ⟨hd, c, _, rfl, hh5, by omega, by omega, fun r2 H6 r20 r21 g6 hh6 => ?_⟩
          have hD6 := g6.keep D _ offD hD5
          have h6 := g6.keep O _ offO (g5.keep O _ offO h4)
          obtain ⟨v, hv⟩ : ∃ v, ((List.range ws.length).filter fun (i : Nat) => !decide ((i : Int) ∈ own))[r2.toNat]? = some v := ⟨_, List.getElem?_eq_getElem (by omega)⟩
          have vm := List.mem_filter.mp (List.mem_of_getElem? hv)
          have vr := List.mem_range.mp vm.1
          refine r_ixL (SqL.of hD6) (v := .int (v : Int)) (at_of (j := r2.toNat) (by omega) (by rw [List.getElem?_map, List.getElem?_map, hv]; rfl)) ?_
          walk_at "ws"
          refine ⟨O, _, r, .int (v : Int), rfl, rfl, h6, Nat.lt_of_le_of_lt (by rw [List.length_map]; omega : (own.map V.int).length ≤ 100000) (by decide), r0, by omega, ?_⟩
          walk_at "ws"
          refine kN _ _ ?_
          refine ⟨own.take r.toNat ++ [(v : Int)] ++ own.drop r.toNat, _, _, _, _, rfl, ((g04.trans g5).trans g6).mut hO0 hhp, by rw [upd_same, List.map_append, List.map_append, List.map_take, List.map_drop]; rfl, isd.more (v := (v : Int)) (by simpa using vm.2) (by omega) ?_⟩
          rw [List.append_assoc]
          refine List.perm_middle.trans ?_
          show ((v : Int) :: (own.take r.toNat ++ own.drop r.toNat)).Perm _
          rw [List.take_append_drop]
        · walk_at "ws"
          exact kN _ _ ⟨own, _, _, _, _, rfl, g04, h4, isd⟩
      · walk_at "ws"
        exact kN _ _ ⟨own, _, _, _, _, rfl, g04, h4, isd⟩
    clear hnl g04 g4 hds hD4 h4 hh4 g03 h3 hh3 isd ol e4 offD hD0 hD hw3
    clear own
    rintro σ H3 ⟨own, u6, u7, u8, u9, rfl, g03, h3, isd⟩
    have hh3 : Hand H3 hd c := g03.hand (hd, c) rfl hh
    have hbs3 := sqT_t g03.tups hbs
    have lx : x < bs.length := (List.getElem?_eq_some_iff.mp hbx).1
    walk_at "ws"
    refine ⟨dp, _, rfl, hbs3, fun p1 H4 g4 h4 => ?_⟩
    rw [cut_to _ (by rw [List.length_map]; omega), ← List.map_take] at h4
    walk_at "ws"
    refine ⟨O, _, rfl, SqL.of ((g4 none).all _ _ h3), fun t H5 ht g5 h5 => ?_⟩
    walk_at "ws"
    refine ⟨sz (by simp), fun q H6 hq g6 h6 => ?_⟩
    refine ⟨p1, q, _, _, rfl, rfl, sqT_t ((g5 none).trans (g6 none)).tups h4, SqT.of h6, by simp; omega, fun p2 H7 g7 h7 => ?_⟩
    walk_at "ws"
    have g37 := (((g4 none).trans (g5 none)).trans (g6 none)).trans (g7 none)
    refine ⟨dp, _, rfl, sqT_t g37.tups hbs3, fun p3 H8 g8 h8 => ?_⟩
    rw [cut_from _ (by rw [List.length_map]; omega), ← List.map_drop] at h8
    refine ⟨p2, p3, _, _, rfl, rfl, sqT_t (g8 none).tups h7, h8, by simp; omega, fun p4 H9 g9 h9 => ?_⟩
    have g39 := (g37.trans (g8 none)).trans (g9 none)
    have e9 : bs.take x ++ [t] ++ bs.drop (x + 1) = bs.set x t := by
      rw [List.set_eq_take_append_cons_drop, if_pos lx, List.append_assoc]; rfl
    have e10 : (bs.take x).map V.ref ++ [V.ref t] ++ (bs.drop (x + 1)).map V.ref = (bs.set x t).map V.ref := by
      rw [← e9, List.map_append, List.map_append]; rfl
    rw [e10] at h9
    have g09 := g03.trans g39.up
    refine k p4 (ds.set x own) H9 g09 (g09.hand (hd, c) rfl hh) ⟨bs.set x t, h9, by rw [List.length_set, List.length_set]; exact lb, fun i b' d' e1 e2 => ?_⟩ (rec.set isd) (by rw [List.length_set])
    rw [List.getElem?_set] at e1 e2
    by_cases c : x = i
    · rw [if_pos c, if_pos lx] at e1
      rw [if_pos c, if_pos (by omega)] at e2
      cases e1
      cases e2
      exact h5.n ((((g6 none).trans (g7 none)).trans (g8 none)).trans (g9 none))
    · rw [if_neg c] at e1 e2
      exact FrzT.g (hb i b' d' e1 e2) g09 hhp

end
end Mine.Da
/-! ## KP -/
end
namespace Mine
/-! ### ways of wires -/
inductive Reach (ws : List (Int × Int)) : Int → Int → Prop where
  | refl (y : Int) : Reach ws y y
  | step {y z x : Int} : Reach ws y z → (z, x) ∈ ws → Reach ws y x
theorem Reach.trans {ws : List (Int × Int)} {y z x : Int} (h : Reach ws y z) (h' : Reach ws z x) : Reach ws y x := by
  induction h' with
  | refl => exact h
  | step _ e ih => exact .step ih e
theorem Reach.one {ws : List (Int × Int)} {y x : Int} (h : (y, x) ∈ ws) : Reach ws y x := .step (.refl y) h
/-- by way of machines below k alone -/
inductive Via (ws : List (Int × Int)) (k : Int) : Int → Int → Prop where
  | refl (y : Int) : Via ws k y y
  | one {y x : Int} : (y, x) ∈ ws → Via ws k y x
  | mid {y z x : Int} : z < k → Via ws k y z → Via ws k z x → Via ws k y x
theorem Via.up {ws : List (Int × Int)} {k : Int} {y x : Int} (h : Via ws (k + 1) y x) : Via ws k y x ∨ (Via ws k y k ∧ Via ws k k x) := by
  induction h with
  | refl y => exact .inl (.refl y)
  | one e => exact .inl (.one e)
  | mid hz _ _ h1 h2 =>
    rename_i y z x _ _
    by_cases e : z = k
    · subst e
      have a : Via ws z y z := by rcases h1 with h | h; exact h; exact h.1
      have b : Via ws z z x := by rcases h2 with h | h; exact h; exact h.2
      exact .inr ⟨a, b⟩
    · have hz' : z < k := by omega
      rcases h1 with h1 | h1
      · rcases h2 with h2 | h2
        · exact .inl (.mid hz' h1 h2)
        · exact .inr ⟨.mid hz' h1 h2.1, h2.2⟩
      · rcases h2 with h2 | h2
        · exact .inr ⟨h1.1, .mid hz' h1.2 h2⟩
        · exact .inr ⟨h1.1, h2.2⟩
theorem Reach.via {ws : List (Int × Int)} {m : Int} (hm : ∀ u ∈ ws, u.1 < m ∧ u.2 < m) {y x : Int} (h : Reach ws y x) : Via ws m y x := by
  induction h with
  | refl => exact .refl _
  | step _ e ih => exact .mid (hm _ e).1 ih (.one e)

/-! ### what is found on the way -/
structure Fnd (m : Int) (ws : List (Int × Int)) (y : Int) (ks ls : List Int) : Prop where
  nd : ks.Nodup
  rng : ∀ k ∈ ks, 0 ≤ k ∧ k < m
  reach : ∀ k ∈ ks, Reach ws y k
  sub : ∀ k ∈ ls, k ∈ ks
  begin_ : y ∈ ks
theorem Fnd.len {m : Int} {ws : List (Int × Int)} {y : Int} {ks ls : List Int} (h : Fnd m ws y ks ls) (hm : m ≤ 7) : ks.length ≤ 7 := by
  have := List.Nodup.length_le_of_subset (l₂ := (List.range 7).map fun i => ((i : Nat) : Int)) h.nd fun k hk => by
    have := h.rng k hk
    exact List.mem_map.mpr ⟨k.toNat, List.mem_range.mpr (by omega), by omega⟩
  simpa using this
/-- all ways out of those that are done are taken -/
def Shut (ws : List (Int × Int)) (ks ls : List Int) : Prop := ∀ k ∈ ks, k ∈ ls ∨ ∀ z, (k, z) ∈ ws → z ∈ ks
theorem Fnd.all {m : Int} {ws : List (Int × Int)} {y : Int} {ks : List Int} (h : Fnd m ws y ks []) (c : Shut ws ks []) (z : Int) : z ∈ ks ↔ Reach ws y z := by
  refine ⟨h.reach z, fun r => ?_⟩
  induction r with
  | refl => exact h.begin_
  | step _ e ih =>
    rcases c _ ih with q | q
    · exact absurd q (by simp)
    · exact q _ e
/-- within the turn of one machine: the wires of the first i are looked at -/
structure Trn (m : Int) (ws : List (Int × Int)) (y : Int) (ks0 ls0 : List Int) (here : Int) (i : Nat) (ks ls : List Int) : Prop where
  f : Fnd m ws y ks ls
  shut : ∀ k ∈ ks, k ∈ ls ∨ k = here ∨ ∀ z, (k, z) ∈ ws → z ∈ ks
  seen : ∀ (j : Nat) (x : Int), j < i → ws[j]? = some (here, x) → x ∈ ks
  cnt : ls.length + ks0.length = ls0.length + ks.length
  more : ks0.length ≤ ks.length
  at_ : here ∈ ks
theorem Trn.skip {m : Int} {ws : List (Int × Int)} {y : Int} {ks0 ls0 : List Int} {here : Int} {i : Nat} {ks ls : List Int} (h : Trn m ws y ks0 ls0 here i ks ls) {u : Int × Int} (hu : ws[i]? = some u) (c : u.1 = here → u.2 ∈ ks) : Trn m ws y ks0 ls0 here (i + 1) ks ls :=
  ⟨h.f, h.shut, fun j x hj e => by
    by_cases c2 : j = i
    · subst c2
      rw [hu] at e
      cases e
      exact c rfl
    · exact h.seen j x (by omega) e, h.cnt, h.more, h.at_⟩
theorem Trn.add {m : Int} {ws : List (Int × Int)} {y : Int} {ks0 ls0 : List Int} {here : Int} {i : Nat} {ks ls : List Int} (h : Trn m ws y ks0 ls0 here i ks ls) {u : Int × Int} (hu : ws[i]? = some u) (c : u.1 = here) (n : u.2 ∉ ks) (hr : 0 ≤ u.2 ∧ u.2 < m) :
    Trn m ws y ks0 ls0 here (i + 1) (ks ++ [u.2]) (ls ++ [u.2]) := by
  have hm : u ∈ ws := List.mem_of_getElem? hu
  refine ⟨⟨?_, ?_, ?_, ?_, List.mem_append_left _ h.f.begin_⟩, ?_, ?_, ?_, ?_, List.mem_append_left _ h.at_⟩
  · rw [List.nodup_append]
    exact ⟨h.f.nd, by simp, fun a ha b hb => by
      have e : b = u.2 := by simpa using hb
      rw [e]; intro e2; exact n (e2 ▸ ha)⟩
  · intro k hk
    rcases List.mem_append.mp hk with z | z
    · exact h.f.rng k z
    · have e : k = u.2 := by simpa using z
      rw [e]; exact hr
  · intro k hk
    rcases List.mem_append.mp hk with z | z
    · exact h.f.reach k z
    · have e : k = u.2 := by simpa using z
      rw [e]
      refine .step (h.f.reach here h.at_) ?_
      rw [← c]; exact hm
  · intro k hk
    rcases List.mem_append.mp hk with z | z
    · exact List.mem_append_left _ (h.f.sub k z)
    · exact List.mem_append_right _ z
  · intro k hk
    rcases List.mem_append.mp hk with z | z
    · rcases h.shut k z with q | q | q
      · exact .inl (List.mem_append_left _ q)
      · exact .inr (.inl q)
      · exact .inr (.inr fun z hz => List.mem_append_left _ (q z hz))
    · exact .inl (List.mem_append_right _ z)
  · intro j x hj e
    by_cases c2 : j = i
    · subst c2
      rw [hu] at e
      cases e
      exact List.mem_append_right _ (by simp)
    · exact List.mem_append_left _ (h.seen j x (by omega) e)
  · have := h.cnt
    simp only [List.length_append, List.length_singleton]
    omega
  · have := h.more
    simp only [List.length_append]
    omega
theorem Trn.done {m : Int} {ws : List (Int × Int)} {y : Int} {ks0 ls0 : List Int} {here : Int} {ks ls : List Int} (h : Trn m ws y ks0 ls0 here ws.length ks ls) : Shut ws ks ls := fun k hk => by
  rcases h.shut k hk with q | q | q
  · exact .inl q
  · refine .inr fun z hz => ?_
    obtain ⟨j, hj⟩ := List.getElem?_of_mem hz
    rw [q] at hj
    exact h.seen j z (List.getElem?_eq_some_iff.mp hj).1 hj
  · exact .inr q
end Mine
/-! ## FF -/
namespace Mine
/-! ### what grows, and what the leading of letters comes to -/
abbrev dAt (ds : List (List Int)) (x : Nat) : List Int := ds.getD x []
abbrev aheadOf (d : List Int) (p : Int) : List Int := d.take (d.idxOf p)
def Grow (ds : List (List Int)) (y x : Nat) (p : Int) : Prop := p ∈ dAt ds y ∧ p ∈ dAt ds x ∧ ∀ q ∈ aheadOf (dAt ds y) p, q ∈ aheadOf (dAt ds x) p
instance (ds : List (List Int)) (y x : Nat) (p : Int) : Decidable (Grow ds y x p) := by unfold Grow; infer_instance
def growL (W : List (Int × Int)) (ds : List (List Int)) (p : Int) : List (Int × Int) := W.filter fun u => decide (Grow ds u.1.toNat u.2.toNat p)
structure Rec (ws : List Int) (ds : List (List Int)) : Prop where
  nd : ∀ d ∈ ds, d.Nodup
  rng : ∀ d ∈ ds, ∀ p ∈ d, 0 ≤ p ∧ p < ws.length
/-- x can write what is next in its diary -/
def Can (W : List (Int × Int)) (ws : List Int) (ds : List (List Int)) (n : Nat → Nat) (x : Nat) : Prop :=
  ∃ p, (dAt ds x)[n x]? = some p ∧ (ws[p.toNat]? = some (x : Int) ∨ ∃ y : Nat, ((y : Int), (x : Int)) ∈ W ∧ Grow ds y x p ∧ p ∈ (dAt ds y).take (n y))
def Full (W : List (Int × Int)) (ws : List Int) (ds : List (List Int)) : Prop := ∀ (p : Nat) (w : Int) (x : Nat), ws[p]? = some w → (p : Int) ∈ dAt ds x → Reach (growL W ds p) w x
theorem nd_at {l : List Int} (nd : l.Nodup) {i j : Nat} (hi : i < l.length) (hj : j < l.length) (e : l[i] = l[j]) : i = j := by
  rcases Nat.lt_trichotomy i j with h | h | h
  · exact absurd e (List.pairwise_iff_getElem.mp nd i j hi hj h)
  · exact h
  · exact absurd e.symm (List.pairwise_iff_getElem.mp nd j i hj hi h)
theorem mem_take_idx {d : List Int} {p : Int} {k : Nat} (nd : d.Nodup) (h : p ∈ d) : p ∈ d.take k ↔ d.idxOf p < k := by
  have hi := List.idxOf_lt_length_iff.mpr h
  have e : d[d.idxOf p] = p := List.getElem_idxOf hi
  constructor
  · intro m
    obtain ⟨j, hj, ej⟩ := List.getElem_of_mem m
    rw [List.length_take] at hj
    rw [List.getElem_take] at ej
    have : d.idxOf p = j := by
      rw [← ej]
      have z : d.idxOf d[j] < d.length := List.idxOf_lt_length_iff.mpr (List.getElem_mem _)
      exact nd_at nd z (by omega) (List.getElem_idxOf z)
    omega
  · intro hk
    rw [List.mem_take_iff_getElem]
    exact ⟨d.idxOf p, by omega, e⟩
theorem dAt_mem {ds : List (List Int)} {x : Nat} {p : Int} (h : p ∈ dAt ds x) : dAt ds x ∈ ds := by
  unfold dAt at h ⊢
  rw [List.getD_eq_getElem?_getD] at h ⊢
  cases e : ds[x]? with
  | none => rw [e] at h; nomatch h
  | some d => rw [Option.getD_some]; exact List.mem_of_getElem? e
theorem grow_pos {ws : List Int} {ds : List (List Int)} (r : Rec ws ds) {y x : Nat} {p : Int} (g : Grow ds y x p) : (dAt ds y).idxOf p ≤ (dAt ds x).idxOf p := by
  have hy := List.idxOf_lt_length_iff.mpr g.1
  have nd : (aheadOf (dAt ds y) p).Nodup := (r.nd _ (dAt_mem g.1)).sublist (List.take_sublist _ _)
  have := List.Nodup.length_le_of_subset nd fun q hq => g.2.2 q hq
  rw [List.length_take, List.length_take] at this
  omega
section
variable {W : List (Int × Int)} {ws : List Int} {ds : List (List Int)} {n : Nat → Nat}
theorem ff_stuck (r : Rec ws ds) (wn : ∀ w ∈ ws, 0 ≤ w) (wW : ∀ u ∈ W, 0 ≤ u.1 ∧ 0 ≤ u.2) (full : Full W ws ds) (st : ∀ x, ¬ Can W ws ds n x) : ∀ k (x : Nat) (p : Int), p ∈ dAt ds x → (dAt ds x).idxOf p = k → k < n x := by
  intro k
  induction k using Nat.strongRecOn with
  | ind k ih =>
  intro x p hp hk
  have rg := r.rng _ (dAt_mem hp) p hp
  -- all that stand ahead are written
  have low : ∀ (z : Nat) (q : Int), q ∈ dAt ds z → (dAt ds z).idxOf q ≤ k → (dAt ds z).idxOf q ≤ n z := fun z q hq hl => by
    cases c : (dAt ds z).idxOf q with
    | zero => exact Nat.zero_le _
    | succ j =>
      have hlt := List.idxOf_lt_length_iff.mpr hq
      have hj : j < (dAt ds z).length := by omega
      have e := ih j (by omega) z (dAt ds z)[j] (List.getElem_mem hj) (by
        have z1 : (dAt ds z).idxOf (dAt ds z)[j] < (dAt ds z).length := List.idxOf_lt_length_iff.mpr (List.getElem_mem hj)
        exact nd_at (r.nd _ (dAt_mem hq)) z1 hj (List.getElem_idxOf z1))
      omega
  have next : ∀ (z : Nat), p ∈ dAt ds z → (dAt ds z).idxOf p = n z → (dAt ds z)[n z]? = some p := fun z hz e => by
    have hlt := List.idxOf_lt_length_iff.mpr hz
    rw [← e, List.getElem?_eq_getElem hlt]
    exact congrArg some (List.getElem_idxOf hlt)
  obtain ⟨w, hw⟩ : ∃ w, ws[p.toNat]? = some w := ⟨_, List.getElem?_eq_getElem (by omega)⟩
  have ep : ((p.toNat : Nat) : Int) = p := by omega
  have way : ∀ z : Int, Reach (growL W ds p) w z → p ∈ dAt ds z.toNat → (dAt ds z.toNat).idxOf p ≤ k → (dAt ds z.toNat).idxOf p < n z.toNat := by
    intro z hz
    induction hz with
    | refl =>
      intro hm hl
      rcases Nat.lt_or_ge ((dAt ds w.toNat).idxOf p) k with c | c
      · exact ih _ c _ _ hm rfl
      · have h1 := low _ _ hm hl
        rcases Nat.lt_or_ge ((dAt ds w.toNat).idxOf p) (n w.toNat) with c2 | c2
        · exact c2
        · refine absurd ⟨p, next _ hm (by omega), .inl ?_⟩ (st w.toNat)
          have := wn w (List.mem_of_getElem? hw)
          rw [hw]; congr 1; omega
    | @step z' z _ e ih2 =>
      intro hm hl
      obtain ⟨eW, eg⟩ := List.mem_filter.mp e
      have eg : Grow ds z'.toNat z.toNat p := of_decide_eq_true eg
      have le := grow_pos r eg
      have h0 := ih2 eg.1 (by omega)
      rcases Nat.lt_or_ge ((dAt ds z.toNat).idxOf p) k with c | c
      · exact ih _ c _ _ hm rfl
      · have h1 := low _ _ hm hl
        rcases Nat.lt_or_ge ((dAt ds z.toNat).idxOf p) (n z.toNat) with c2 | c2
        · exact c2
        · refine absurd ⟨p, next _ hm (by omega), .inr ⟨z'.toNat, ?_, eg, ?_⟩⟩ (st z.toNat)
          · have := wW _ eW
            have e1 : ((z'.toNat : Nat) : Int) = z' := by simp only at this; omega
            have e2 : ((z.toNat : Nat) : Int) = z := by simp only at this; omega
            rw [e1, e2]; exact eW
          · exact (mem_take_idx (r.nd _ (dAt_mem eg.1)) eg.1).mpr h0
  have ex : ((x : Int)).toNat = x := Int.toNat_natCast x
  have fin := way x (by have := full p.toNat w x hw (by rw [ep]; exact hp); rw [ep] at this; exact this)
  rw [ex] at fin
  have := fin hp (by omega)
  omega
/-- all that is written so far came along wires that grow -/
def Came (W : List (Int × Int)) (ws : List Int) (ds : List (List Int)) (n : Nat → Nat) : Prop := ∀ (x : Nat) (p : Int) (w : Int), p ∈ (dAt ds x).take (n x) → ws[p.toNat]? = some w → Reach (growL W ds p) w x
theorem came_step (c : Came W ws ds n) {x : Nat} {p : Int} (hp : (dAt ds x)[n x]? = some p) (h : ws[p.toNat]? = some (x : Int) ∨ ∃ y : Nat, ((y : Int), (x : Int)) ∈ W ∧ Grow ds y x p ∧ p ∈ (dAt ds y).take (n y)) :
    Came W ws ds (fun z => if z = x then n x + 1 else n z) := by
  intro z q w hq hw
  have hq : q ∈ (dAt ds z).take (if z = x then n x + 1 else n z) := hq
  by_cases e : z = x
  · subst e
    rw [if_pos rfl, List.take_add_one, hp] at hq
    rcases List.mem_append.mp hq with hq | hq
    · exact c z q w hq hw
    · have eq : q = p := by simpa using hq
      subst eq
      rcases h with h | ⟨y, h1, h2, h3⟩
      · rw [hw] at h; cases h; exact .refl _
      · exact .step (c y q w h3 hw) (List.mem_filter.mpr ⟨h1, decide_eq_true (by simpa using h2)⟩)
  · rw [if_neg e] at hq
    exact c z q w hq hw
theorem ff (r : Rec ws ds) (wn : ∀ w ∈ ws, 0 ≤ w) (wW : ∀ u ∈ W, 0 ≤ u.1 ∧ 0 ≤ u.2) (came : Came W ws ds n) (st : ∀ x, ¬ Can W ws ds n x) (hn : ∀ x, n x ≤ (dAt ds x).length) : (∀ x, n x = (dAt ds x).length) ↔ Full W ws ds := by
  constructor
  · intro h p w x hw hp
    have := came x p w (by rw [h x, List.take_length]; exact hp) (by simpa using hw)
    exact this
  · intro full x
    have h1 := hn x
    rcases Nat.lt_or_ge (n x) (dAt ds x).length with c | c
    · have := ff_stuck r wn wW full st (n x) x (dAt ds x)[n x] (List.getElem_mem c) (by
        have z1 : (dAt ds x).idxOf (dAt ds x)[n x] < (dAt ds x).length := List.idxOf_lt_length_iff.mpr (List.getElem_mem c)
        exact nd_at (r.nd _ (dAt_mem (List.getElem_mem c))) z1 c (List.getElem_idxOf z1))
      omega
    · omega
end
/-! ### the letter that comes -/
def come (own : List Int) (p : Int) : List Int → Nat
  | [] => 0
  | l :: ls => if l = p then 1 else if l ∈ own then (if come own p ls = 0 then 0 else come own p ls + 1) else 0
theorem come_pos {own : List Int} {p : Int} : ∀ {ls : List Int}, come own p ls ≠ 0 → ∃ i, come own p ls = i + 1 ∧ ls[i]? = some p ∧ ∀ j, j < i → ∀ l, ls[j]? = some l → l ∈ own
  | [], h => absurd rfl h
  | l :: ls, h => by
    unfold come at h ⊢
    by_cases c : l = p
    · rw [if_pos c]
      exact ⟨0, rfl, by rw [c]; rfl, fun j hj => absurd hj (Nat.not_lt_zero _)⟩
    · rw [if_neg c] at h ⊢
      by_cases c2 : l ∈ own
      · rw [if_pos c2] at h ⊢
        by_cases c3 : come own p ls = 0
        · rw [if_pos c3] at h; exact absurd rfl h
        · rw [if_neg c3]
          obtain ⟨i, e, h1, h2⟩ := come_pos c3
          refine ⟨i + 1, by rw [e], h1, fun j hj l' hl' => ?_⟩
          cases j with
          | zero =>
            have e : l = l' := by simpa using hl'
            rw [← e]; exact c2
          | succ j => exact h2 j (by omega) l' (by simpa using hl')
      · rw [if_neg c2] at h; exact absurd rfl h
theorem come_of {own : List Int} {p : Int} : ∀ {ls : List Int} {i : Nat}, ls[i]? = some p → (∀ j, j < i → ∀ l, ls[j]? = some l → l ∈ own) → come own p ls ≠ 0
  | [], i, h, _ => by simp at h
  | l :: ls, i, h, k => by
    unfold come
    by_cases c : l = p
    · rw [if_pos c]; exact Nat.one_ne_zero
    · rw [if_neg c]
      cases i with
      | zero => exact absurd (by simpa using h) c
      | succ i =>
        rw [if_pos (k 0 (by omega) l rfl)]
        have := come_of (ls := ls) (i := i) (by simpa using h) fun j hj l' hl' => k (j + 1) (by omega) l' (by simpa using hl')
        rw [if_neg this]
        exact Nat.succ_ne_zero _
/-- the letters on a wire: what its begin has written, but the first c -/
theorem come_grow {ws : List Int} {ds : List (List Int)} (r : Rec ws ds) {y x : Nat} {n : Nat → Nat} {c : Nat} {p : Int} (hp : (dAt ds x)[n x]? = some p) (hc : ∀ q ∈ ((dAt ds y).take (n y)).take c, q ∈ (dAt ds x).take (n x)) :
    come ((dAt ds x).take (n x)) p (((dAt ds y).take (n y)).drop c) ≠ 0 ↔ (Grow ds y x p ∧ p ∈ (dAt ds y).take (n y)) := by
  have hx : p ∈ dAt ds x := List.mem_of_getElem? hp
  have ndx := r.nd _ (dAt_mem hx)
  have hlt := (List.getElem?_eq_some_iff.mp hp).1
  have ix : (dAt ds x).idxOf p = n x := by
    have z1 : (dAt ds x).idxOf p < (dAt ds x).length := List.idxOf_lt_length_iff.mpr hx
    have e : (dAt ds x)[n x] = p := by rw [List.getElem?_eq_getElem hlt] at hp; exact Option.some.inj hp
    exact nd_at ndx z1 hlt ((List.getElem_idxOf z1).trans e.symm)
  have nox : p ∉ (dAt ds x).take (n x) := fun h => by
    have := (mem_take_idx ndx hx).mp h
    omega
  constructor
  · intro h
    obtain ⟨i, _, hi, hj⟩ := come_pos h
    rw [List.getElem?_drop] at hi
    have hpy : p ∈ (dAt ds y).take (n y) := List.mem_of_getElem? hi
    have hy : p ∈ dAt ds y := List.mem_of_mem_take hpy
    have ndy := r.nd _ (dAt_mem hy)
    have hil := (List.getElem?_eq_some_iff.mp hi).1
    have iy : (dAt ds y).idxOf p = c + i := by
      have z1 : (dAt ds y).idxOf p < (dAt ds y).length := List.idxOf_lt_length_iff.mpr hy
      rw [List.length_take] at hil
      have e : (dAt ds y)[c + i]'(by omega) = p := by
        have := (List.getElem?_eq_some_iff.mp hi).2
        rw [List.getElem_take] at this
        exact this
      exact nd_at ndy z1 (by omega) ((List.getElem_idxOf z1).trans e.symm)
    refine ⟨⟨hy, hx, fun q hq => ?_⟩, hpy⟩
    have ax : aheadOf (dAt ds x) p = (dAt ds x).take (n x) := by unfold aheadOf; rw [ix]
    have ay : aheadOf (dAt ds y) p = (dAt ds y).take (c + i) := by unfold aheadOf; rw [iy]
    rw [ax]
    rw [ay] at hq
    obtain ⟨j, hj1, ej⟩ := List.getElem_of_mem hq
    rw [List.length_take] at hj1
    rw [List.getElem_take] at ej
    rw [List.length_take] at hil
    by_cases cj : j < c
    · refine hc q ?_
      rw [← ej, List.take_take, List.mem_take_iff_getElem]
      exact ⟨j, by omega, rfl⟩
    · refine hj (j - c) (by omega) q ?_
      rw [List.getElem?_drop, List.getElem?_take]
      have e2 : c + (j - c) = j := by omega
      rw [e2, if_pos (by omega), List.getElem?_eq_getElem (by omega), ej]
  · rintro ⟨g, hpy⟩
    have hy := g.1
    have ndy := r.nd _ (dAt_mem hy)
    have iy := (mem_take_idx ndy hy).mp hpy
    have z1 : (dAt ds y).idxOf p < (dAt ds y).length := List.idxOf_lt_length_iff.mpr hy
    have ge : c ≤ (dAt ds y).idxOf p := by
      rcases Nat.lt_or_ge ((dAt ds y).idxOf p) c with z | z
      · refine absurd (hc p ?_) nox
        rw [List.take_take]
        exact (mem_take_idx ndy hy).mpr (by omega)
      · exact z
    refine come_of (i := (dAt ds y).idxOf p - c) ?_ fun j hj l hl => ?_
    · rw [List.getElem?_drop, List.getElem?_take]
      have e2 : c + ((dAt ds y).idxOf p - c) = (dAt ds y).idxOf p := by omega
      rw [e2, if_pos iy, List.getElem?_eq_getElem z1]
      exact congrArg some (List.getElem_idxOf z1)
    · rw [List.getElem?_drop, List.getElem?_take, if_pos (by omega)] at hl
      have q := g.2.2 l (by
        rw [List.mem_take_iff_getElem]
        have hl2 := List.getElem?_eq_some_iff.mp hl
        exact ⟨c + j, by have := hl2.1; omega, hl2.2⟩)
      have ax : aheadOf (dAt ds x) p = (dAt ds x).take (n x) := by unfold aheadOf; rw [ix]
      rw [ax] at q
      exact q
end Mine
/-! ## RM -/
namespace Mine
/-! ### a run that leads to a record -/
inductive Stp where
  | put (p : Int)
  | come (y x : Int)
structure LS where
  cur : Int → List Int
  lt : Int × Int → List Int
  done : List Int
/-- a machine writes a put, if it lacks it, and sends it on -/
def LS.wr (s : LS) (x p : Int) : LS := if p ∈ s.cur x then s else ⟨fun z => if z = x then s.cur x ++ [p] else s.cur z, fun u => if u.1 = x then s.lt u ++ [p] else s.lt u, s.done⟩
/-- the put's own step, a letter's step: what the law does -/
def led1 (W : List (Int × Int)) (ws : List Int) (s : LS) : Stp → Option LS
  | .put p => if p ∈ s.done then none else match ws[p.toNat]? with
    | some x => some (LS.wr ⟨s.cur, s.lt, s.done ++ [p]⟩ x p)
    | none => none
  | .come y x => if (y, x) ∈ W then match s.lt (y, x) with
    | [] => none
    | p :: r => some (LS.wr ⟨s.cur, fun u => if u = (y, x) then r else s.lt u, s.done⟩ x p)
    else none
def led (W : List (Int × Int)) (ws : List Int) : LS → List Stp → Option LS
  | s, [] => some s
  | s, t :: ts => match led1 W ws s t with
    | some s' => led W ws s' ts
    | none => none
theorem led_app {W : List (Int × Int)} {ws : List Int} : ∀ {ts us : List Stp} {s s' : LS}, led W ws s ts = some s' → led W ws s (ts ++ us) = led W ws s' us
  | [], us, s, s', h => by
    have e : s = s' := Option.some.inj h
    rw [e]; rfl
  | t :: ts, us, s, s', h => by
    show (match led1 W ws s t with | some s' => led W ws s' (ts ++ us) | none => none) = _
    have h : (match led1 W ws s t with | some s' => led W ws s' ts | none => none) = some s' := h
    cases e : led1 W ws s t with
    | none => rw [e] at h; cases h
    | some z =>
      rw [e] at h
      exact led_app h
/-- a writing: where it stands, how far off its writer, the put, the machine, from where -/
structure Wri where
  k : Nat
  far : Nat
  p : Int
  x : Int
  g : Option Int
abbrev dA (ds : List (List Int)) (x : Int) : List Int := dAt ds x.toNat
def stepsOf (ds : List (List Int)) (c : Int × Int → Nat) (w : Wri) : List Stp := match w.g with
  | none => [.put w.p]
  | some y => List.replicate ((dA ds y).idxOf w.p + 1 - c (y, w.x)) (.come y w.x)
def nextC (ds : List (List Int)) (c : Int × Int → Nat) (w : Wri) : Int × Int → Nat := match w.g with
  | none => c
  | some y => fun u => if u = (y, w.x) then (dA ds y).idxOf w.p + 1 else c u
def runS (ds : List (List Int)) : (Int × Int → Nat) → List Wri → List Stp
  | _, [] => []
  | c, w :: L => stepsOf ds c w ++ runS ds (nextC ds c w) L
structure WrOk (W : List (Int × Int)) (ws : List Int) (ds : List (List Int)) (A : List Wri) : Prop where
  nd : ∀ x, (dA ds x).Nodup
  wne : ∀ u ∈ W, u.1 ≠ u.2
  at_ : ∀ w ∈ A, (dA ds w.x)[w.k]? = some w.p
  all : ∀ w ∈ A, ∀ j, j < w.k → ∃ w' ∈ A, w'.x = w.x ∧ w'.k = j
  one : ∀ w ∈ A, ∀ w' ∈ A, w.x = w'.x → w.k = w'.k → w = w'
  own : ∀ w ∈ A, w.g = none → ws[w.p.toNat]? = some w.x
  giv : ∀ w ∈ A, ∀ y, w.g = some y → (y, w.x) ∈ W ∧ Grow ds y.toNat w.x.toNat w.p ∧ (dA ds y).idxOf w.p ≤ (dA ds w.x).idxOf w.p ∧ ∃ w' ∈ A, w'.x = y ∧ w'.p = w.p ∧ w'.far < w.far
  dup : A.Nodup
def wle (w w' : Wri) : Prop := w.k < w'.k ∨ w.k = w'.k ∧ w.far ≤ w'.far
structure Inv8 (W : List (Int × Int)) (ds : List (List Int)) (Pr L : List Wri) (n : Int → Nat) (c : Int × Int → Nat) (s : LS) : Prop where
  cur : ∀ x, s.cur x = (dA ds x).take (n x)
  lt : ∀ u ∈ W, s.lt u = ((dA ds u.1).take (n u.1)).drop (c u)
  cn : ∀ u, c u ≤ n u.1
  nl : ∀ x, n x ≤ (dA ds x).length
  pr : ∀ w ∈ Pr, w.k < n w.x
  rest : ∀ w ∈ L, n w.x ≤ w.k
  done : ∀ p ∈ s.done, ∃ w ∈ Pr, w.g = none ∧ w.p = p
  tk : ∀ u, c u = 0 ∨ ∃ w ∈ Pr, w.x = u.2 ∧ w.g = some u.1 ∧ c u = (dA ds u.1).idxOf w.p + 1
theorem idx8_at {d : List Int} (nd : d.Nodup) {k : Nat} {p : Int} (h : d[k]? = some p) : d.idxOf p = k := by
  obtain ⟨hk, e⟩ := List.getElem?_eq_some_iff.mp h
  have m : p ∈ d := List.mem_of_getElem? h
  have z := List.idxOf_lt_length_iff.mpr m
  exact nd_at nd z hk (by rw [List.getElem_idxOf, e])
theorem take_one {d : List Int} {k : Nat} {p : Int} (h : d[k]? = some p) : d.take (k + 1) = d.take k ++ [p] := by
  rw [List.take_add_one, h]; rfl
/-- letters that are there already are read over -/
theorem led_over {W : List (Int × Int)} {ws : List Int} {y x : Int} (hW : (y, x) ∈ W) : ∀ (ls : List Int) (r : List Int) (s : LS), s.lt (y, x) = ls ++ r → (∀ l ∈ ls, l ∈ s.cur x) → ∃ s', led W ws s (List.replicate ls.length (.come y x)) = some s' ∧ s'.cur = s.cur ∧ s'.done = s.done ∧ s'.lt (y, x) = r ∧ ∀ u, u ≠ (y, x) → s'.lt u = s.lt u
  | [], r, s, e, _ => ⟨s, rfl, rfl, rfl, e, fun _ _ => rfl⟩
  | l :: ls, r, s, e, h => by
    have e1 : led1 W ws s (.come y x) = some ⟨s.cur, fun u => if u = (y, x) then ls ++ r else s.lt u, s.done⟩ := by
      show (if (y, x) ∈ W then (match s.lt (y, x) with | [] => none | p :: r => some (LS.wr ⟨s.cur, fun u => if u = (y, x) then r else s.lt u, s.done⟩ x p)) else none) = _
      rw [if_pos hW, e]
      show some (LS.wr _ x l) = _
      unfold LS.wr
      rw [if_pos (h l (List.mem_cons_self ..))]
      rfl
    obtain ⟨s', q1, q2, q3, q4, q5⟩ := led_over hW (ws := ws) ls r ⟨s.cur, fun u => if u = (y, x) then ls ++ r else s.lt u, s.done⟩ (if_pos rfl) fun z hz => h z (List.mem_cons_of_mem _ hz)
    refine ⟨s', ?_, q2, q3, q4, fun u n => by rw [q5 u n]; exact if_neg n⟩
    show (match led1 W ws s (.come y x) with | some s' => led W ws s' (List.replicate ls.length (.come y x)) | none => none) = _
    rw [e1]
    exact q1
/-- what stands ahead in the order is done already -/
theorem ahead8 {Pr L : List Wri} {w w' : Wri} (srt : (Pr ++ w :: L).Pairwise wle) (m : w' ∈ Pr ++ w :: L) (h : w'.k < w.k ∨ w'.k = w.k ∧ w'.far < w.far) : w' ∈ Pr := by
  rcases List.mem_append.mp m with q | q
  · exact q
  · exfalso
    have s2 : (w :: L).Pairwise wle := (List.pairwise_append.mp srt).2.1
    rcases List.mem_cons.mp q with e | e
    · subst e
      omega
    · have := List.rel_of_pairwise_cons s2 e
      unfold wle at this
      omega
theorem step8 {W : List (Int × Int)} {ws : List Int} {ds : List (List Int)} {Pr L : List Wri} {w : Wri} {n : Int → Nat} {c : Int × Int → Nat} {s : LS} (ok : WrOk W ws ds (Pr ++ w :: L)) (srt : (Pr ++ w :: L).Pairwise wle) (I : Inv8 W ds Pr (w :: L) n c s) :
    ∃ s', led W ws s (stepsOf ds c w) = some s' ∧ Inv8 W ds (Pr ++ [w]) L (fun z => if z = w.x then n w.x + 1 else n z) (nextC ds c w) s' := by
  have wA : w ∈ Pr ++ w :: L := List.mem_append_right _ (List.mem_cons_self ..)
  have inA : ∀ {z}, z ∈ Pr → z ∈ Pr ++ w :: L := fun h => List.mem_append_left _ h
  have nw : n w.x = w.k := by
    have h1 := I.rest w (List.mem_cons_self ..)
    rcases Nat.lt_or_ge (n w.x) w.k with h | h
    · obtain ⟨w', m, e1, e2⟩ := ok.all w wA (n w.x) h
      have := I.pr w' (ahead8 srt m (.inl (by omega)))
      rw [e1] at this
      omega
    · omega
  have hw := ok.at_ w wA
  have hk := (List.getElem?_eq_some_iff.mp hw).1
  have ix := idx8_at (ok.nd w.x) hw
  have cur0 : s.cur w.x = (dA ds w.x).take w.k := by rw [I.cur, nw]
  have pm : w.p ∈ dA ds w.x := List.mem_of_getElem? hw
  have pn : w.p ∉ s.cur w.x := by
    rw [cur0, mem_take_idx (ok.nd w.x) pm]
    omega
  -- what the writing makes of a state that has read what it had to
  have fin : ∀ (c' : Int × Int → Nat) (s1 : LS), s1.cur = s.cur → (∀ u ∈ W, s1.lt u = ((dA ds u.1).take (n u.1)).drop (c' u)) → (∀ u, c' u ≤ n u.1) →
      (∀ p ∈ s1.done, ∃ v ∈ Pr ++ [w], v.g = none ∧ v.p = p) → (∀ u, c' u = 0 ∨ ∃ v ∈ Pr ++ [w], v.x = u.2 ∧ v.g = some u.1 ∧ c' u = (dA ds u.1).idxOf v.p + 1) →
      Inv8 W ds (Pr ++ [w]) L (fun z => if z = w.x then n w.x + 1 else n z) c' (s1.wr w.x w.p) := fun c' s1 ec el ecn ed et => by
    have e : s1.wr w.x w.p = ⟨fun z => if z = w.x then s1.cur w.x ++ [w.p] else s1.cur z, fun u => if u.1 = w.x then s1.lt u ++ [w.p] else s1.lt u, s1.done⟩ := by
      unfold LS.wr
      rw [if_neg (by rw [ec]; exact pn)]
    rw [e]
    refine ⟨fun z => ?_, fun u hu => ?_, fun u => ?_, fun z => ?_, fun v hv => ?_, fun v hv => ?_, ed, et⟩
    · show (if z = w.x then s1.cur w.x ++ [w.p] else s1.cur z) = (dA ds z).take (if z = w.x then n w.x + 1 else n z)
      split
      · rename_i h
        subst h
        rw [ec, cur0, nw, take_one hw]
      · rw [ec, I.cur]
    · show (if u.1 = w.x then s1.lt u ++ [w.p] else s1.lt u) = ((dA ds u.1).take (if u.1 = w.x then n w.x + 1 else n u.1)).drop (c' u)
      split
      · rename_i h
        have a1 := ecn u
        rw [el u hu, h, nw, take_one hw, List.drop_append_of_le_length (by rw [List.length_take]; rw [h, nw] at a1; omega)]
      · exact el u hu
    · show c' u ≤ (if u.1 = w.x then n w.x + 1 else n u.1)
      have a1 := ecn u
      split
      · rename_i h
        rw [h] at a1
        omega
      · exact a1
    · show (if z = w.x then n w.x + 1 else n z) ≤ _
      split
      · rename_i h
        subst h
        omega
      · exact I.nl z
    · show v.k < (if v.x = w.x then n w.x + 1 else n v.x)
      rcases List.mem_append.mp hv with q | q
      · have := I.pr v q
        split
        · rename_i h
          rw [h] at this
          omega
        · exact this
      · have e : v = w := by simpa using q
        subst e
        rw [if_pos rfl]
        omega
    · show (if v.x = w.x then n w.x + 1 else n v.x) ≤ v.k
      have h1 := I.rest v (List.mem_cons_of_mem _ hv)
      split
      · rename_i h
        rw [h, nw] at h1
        have ne : v.k ≠ w.k := fun e => by
          have vA : v ∈ Pr ++ w :: L := List.mem_append_right _ (List.mem_cons_of_mem _ hv)
          have := ok.one v vA w wA h e
          subst this
          have d2 : (v :: L).Nodup := (List.nodup_append.mp ok.dup).2.1
          exact (List.nodup_cons.mp d2).1 hv
        omega
      · exact h1
  unfold stepsOf nextC
  cases eg : w.g with
  | none =>
    have ow := ok.own w wA eg
    have nd : w.p ∉ s.done := fun h => by
      obtain ⟨v, hv, g1, g2⟩ := I.done _ h
      have ov := ok.own v (inA hv) g1
      rw [g2, ow] at ov
      have ex : w.x = v.x := Option.some.inj ov
      have hv2 := ok.at_ v (inA hv)
      have iv := idx8_at (ok.nd v.x) hv2
      rw [← ex, g2, ix] at iv
      have := ok.one w wA v (inA hv) ex iv
      subst this
      have := (List.nodup_append.mp ok.dup).2.2 w hv w (List.mem_cons_self ..)
      exact this rfl
    refine ⟨LS.wr ⟨s.cur, s.lt, s.done ++ [w.p]⟩ w.x w.p, ?_, ?_⟩
    · show (match led1 W ws s (.put w.p) with | some s' => led W ws s' [] | none => none) = _
      have e1 : led1 W ws s (.put w.p) = some (LS.wr ⟨s.cur, s.lt, s.done ++ [w.p]⟩ w.x w.p) := by
        show (if w.p ∈ s.done then none else (match ws[w.p.toNat]? with | some x => some (LS.wr ⟨s.cur, s.lt, s.done ++ [w.p]⟩ x w.p) | none => none)) = _
        rw [if_neg nd, ow]
      rw [e1]; rfl
    · refine fin c ⟨s.cur, s.lt, s.done ++ [w.p]⟩ rfl I.lt I.cn (fun p hp => ?_) (fun u => ?_)
      · rcases List.mem_append.mp hp with q | q
        · obtain ⟨v, hv, z⟩ := I.done p q
          exact ⟨v, List.mem_append_left _ hv, z⟩
        · have e : p = w.p := by simpa using q
          exact ⟨w, by simp, eg, e.symm⟩
      · rcases I.tk u with z | ⟨v, hv, z⟩
        · exact .inl z
        · exact .inr ⟨v, List.mem_append_left _ hv, z⟩
  | some y =>
    obtain ⟨hW, gr, pos, w', m', x', p', f'⟩ := ok.giv w wA y eg
    have yx : y ≠ w.x := ok.wne _ hW
    have ix' := idx8_at (ok.nd w'.x) (ok.at_ w' m')
    rw [x', p'] at ix'
    have wP : w' ∈ Pr := ahead8 srt m' (by omega)
    have ny := I.pr w' wP
    rw [x', ← ix'] at ny
    obtain ⟨j, hj⟩ : ∃ j, (dA ds y).idxOf w.p = j := ⟨_, rfl⟩
    rw [hj] at ny
    have py : w.p ∈ dA ds y := gr.1
    have hjl : j < (dA ds y).length := by rw [← hj]; exact List.idxOf_lt_length_iff.mpr py
    have hjp : (dA ds y)[j]? = some w.p := by
      rw [List.getElem?_eq_getElem hjl]
      congr 1
      have := List.getElem_idxOf (xs := dA ds y) (x := w.p) (List.idxOf_lt_length_iff.mpr py)
      simp only [hj] at this
      exact this
    have cj : c (y, w.x) ≤ j := by
      rcases I.tk (y, w.x) with z | ⟨v, hv, vx, vg, z⟩
      · omega
      · obtain ⟨_, gv, _⟩ := ok.giv v (inA hv) y vg
        have vx : v.x = w.x := vx
        have kv := I.pr v hv
        rw [vx, nw] at kv
        have iv := idx8_at (ok.nd v.x) (ok.at_ v (inA hv))
        rw [vx] at iv gv
        have z : c (y, w.x) = (dA ds y).idxOf v.p + 1 := z
        rcases Nat.lt_or_ge ((dA ds y).idxOf v.p) j with h | h
        · omega
        · exfalso
          have npp : v.p ≠ w.p := fun e => by rw [e, ix] at iv; omega
          have lt2 : j < (dA ds y).idxOf v.p := by
            rcases Nat.lt_or_ge j ((dA ds y).idxOf v.p) with q | q
            · exact q
            · exfalso
              have e : (dA ds y).idxOf v.p = j := by omega
              have hv2 := List.getElem_idxOf (xs := dA ds y) (x := v.p) (List.idxOf_lt_length_iff.mpr gv.1)
              simp only [e] at hv2
              rw [List.getElem?_eq_getElem hjl, hv2] at hjp
              exact npp (Option.some.inj hjp)
          have a1 : w.p ∈ aheadOf (dA ds y) v.p := (mem_take_idx (ok.nd y) py).mpr (by rw [hj]; exact lt2)
          have a2 := gv.2.2 _ a1
          have a3 := (mem_take_idx (ok.nd w.x) pm).mp a2
          rw [ix, iv] at a3
          omega
    have el := I.lt _ hW
    have split_ : s.lt (y, w.x) = ((dA ds y).take j).drop (c (y, w.x)) ++ (w.p :: ((dA ds y).take (n y)).drop (j + 1)) := by
      rw [el]
      show ((dA ds y).take (n y)).drop (c (y, w.x)) = _
      have e1 : (dA ds y).take (n y) = (dA ds y).take j ++ (w.p :: ((dA ds y).take (n y)).drop (j + 1)) := by
        have e2 : ((dA ds y).take (n y))[j]? = some w.p := by rw [List.getElem?_take_of_lt ny]; exact hjp
        obtain ⟨h1, h2⟩ := List.getElem?_eq_some_iff.mp e2
        have e3 := List.take_append_drop j ((dA ds y).take (n y))
        rw [List.take_take, Nat.min_eq_left (by omega), List.drop_eq_getElem_cons h1, h2] at e3
        exact e3.symm
      rw [e1, List.drop_append_of_le_length (by rw [List.length_take]; omega)]
      congr 2
      rw [← e1]
    have over : ∀ l ∈ ((dA ds y).take j).drop (c (y, w.x)), l ∈ s.cur w.x := fun l hl => by
      have h1 : l ∈ aheadOf (dA ds y) w.p := by
        show l ∈ (dA ds y).take ((dA ds y).idxOf w.p)
        rw [hj]
        exact List.mem_of_mem_drop hl
      have h2 := gr.2.2 l h1
      rw [cur0]
      have : aheadOf (dA ds w.x) w.p = (dA ds w.x).take w.k := by unfold aheadOf; rw [ix]
      rw [← this]
      exact h2
    have len : (((dA ds y).take j).drop (c (y, w.x))).length = j - c (y, w.x) := by rw [List.length_drop, List.length_take]; omega
    obtain ⟨s1, q1, q2, q3, q4, q5⟩ := led_over (ws := ws) hW _ _ s split_ over
    rw [len] at q1
    have rep : List.replicate (j + 1 - c (y, w.x)) (Stp.come y w.x) = List.replicate (j - c (y, w.x)) (Stp.come y w.x) ++ [Stp.come y w.x] := by
      rw [show j + 1 - c (y, w.x) = (j - c (y, w.x)) + 1 from by omega, List.replicate_succ']
    obtain ⟨s2, hs2⟩ : ∃ s2 : LS, s2 = ⟨s1.cur, fun u => if u = (y, w.x) then ((dA ds y).take (n y)).drop (j + 1) else s1.lt u, s1.done⟩ := ⟨_, rfl⟩
    refine ⟨s2.wr w.x w.p, ?_, ?_⟩
    · show led W ws s (List.replicate ((dA ds y).idxOf w.p + 1 - c (y, w.x)) (.come y w.x)) = _
      rw [hj, rep, led_app q1]
      have e1 : led1 W ws s1 (.come y w.x) = some (s2.wr w.x w.p) := by
        show (if (y, w.x) ∈ W then (match s1.lt (y, w.x) with | [] => none | p :: r => some (LS.wr ⟨s1.cur, fun u => if u = (y, w.x) then r else s1.lt u, s1.done⟩ w.x p)) else none) = _
        rw [if_pos hW, q4, hs2]
      show (match led1 W ws s1 (.come y w.x) with | some s' => led W ws s' [] | none => none) = _
      rw [e1]; rfl
    · refine fin _ s2 (by rw [hs2]; exact q2) (fun u hu => ?_) (fun u => ?_) (fun p hp => ?_) (fun u => ?_)
      · rw [hs2]
        show (if u = (y, w.x) then ((dA ds y).take (n y)).drop (j + 1) else s1.lt u) = ((dA ds u.1).take (n u.1)).drop (if u = (y, w.x) then (dA ds y).idxOf w.p + 1 else c u)
        by_cases h : u = (y, w.x)
        · subst h
          rw [if_pos rfl, if_pos rfl, hj]
        · rw [if_neg h, if_neg h, q5 u h, I.lt u hu]
      · show (if u = (y, w.x) then (dA ds y).idxOf w.p + 1 else c u) ≤ n u.1
        by_cases h : u = (y, w.x)
        · subst h
          rw [if_pos rfl, hj]
          exact ny
        · rw [if_neg h]
          exact I.cn u
      · have hp : p ∈ s.done := by rw [hs2] at hp; rw [← q3]; exact hp
        obtain ⟨v, hv, z⟩ := I.done p hp
        exact ⟨v, List.mem_append_left _ hv, z⟩
      · show (if u = (y, w.x) then (dA ds y).idxOf w.p + 1 else c u) = 0 ∨ ∃ v ∈ Pr ++ [w], v.x = u.2 ∧ v.g = some u.1 ∧ (if u = (y, w.x) then (dA ds y).idxOf w.p + 1 else c u) = _
        by_cases h : u = (y, w.x)
        · subst h
          rw [if_pos rfl]
          exact .inr ⟨w, by simp, rfl, eg, rfl⟩
        · rw [if_neg h]
          rcases I.tk u with z | ⟨v, hv, z⟩
          · exact .inl z
          · exact .inr ⟨v, List.mem_append_left _ hv, z⟩
theorem runs8 {W : List (Int × Int)} {ws : List Int} {ds : List (List Int)} : ∀ (L Pr : List Wri) (n : Int → Nat) (c : Int × Int → Nat) (s : LS), WrOk W ws ds (Pr ++ L) → (Pr ++ L).Pairwise wle → Inv8 W ds Pr L n c s → ∃ (s' : LS) (n' : Int → Nat) (c' : Int × Int → Nat), led W ws s (runS ds c L) = some s' ∧ Inv8 W ds (Pr ++ L) [] n' c' s'
  | [], Pr, n, c, s, _, _, I => ⟨s, n, c, rfl, by rw [List.append_nil]; exact I⟩
  | w :: L, Pr, n, c, s, ok, srt, I => by
    obtain ⟨s1, h1, I1⟩ := step8 ok srt I
    have e : Pr ++ w :: L = (Pr ++ [w]) ++ L := by rw [List.append_assoc]; rfl
    rw [e] at ok srt
    obtain ⟨s', n', c', h2, I2⟩ := runs8 L (Pr ++ [w]) _ _ s1 ok srt I1
    refine ⟨s', n', c', ?_, by rw [e]; exact I2⟩
    show led W ws s (stepsOf ds c w ++ runS ds (nextC ds c w) L) = _
    rw [led_app h1]
    exact h2
def ls0 : LS := ⟨fun _ => [], fun _ => [], []⟩
/-- the steps that are told for all writings in their order lead to the diaries -/
theorem run8 {W : List (Int × Int)} {ws : List Int} {ds : List (List Int)} {A : List Wri} (ok : WrOk W ws ds A) (srt : A.Pairwise wle) (full : ∀ (x : Int) (k : Nat), 0 ≤ x → k < (dA ds x).length → ∃ w ∈ A, w.x = x ∧ w.k = k) :
    ∃ s', led W ws ls0 (runS ds (fun _ => 0) A) = some s' ∧ ∀ x, 0 ≤ x → s'.cur x = dA ds x := by
  obtain ⟨s', n', c', h, I⟩ := runs8 (W := W) (ws := ws) (ds := ds) A [] (fun _ => 0) (fun _ => 0) ls0 ok srt
    ⟨fun x => by simp [ls0], fun u _ => by simp [ls0], fun _ => Nat.le_refl _, fun _ => Nat.zero_le _, fun _ h => (by cases h), fun _ _ => Nat.zero_le _, fun _ h => (by simp [ls0] at h), fun _ => .inl rfl⟩
  refine ⟨s', h, fun x x0 => ?_⟩
  rw [I.cur]
  refine List.take_of_length_le ?_
  rcases Nat.lt_or_ge (n' x) (dA ds x).length with q | q
  · obtain ⟨w, m, e1, e2⟩ := full x _ x0 q
    have := I.pr w m
    rw [e1] at this
    omega
  · exact q
end Mine
/-! ## D11 -/
section
open PySem L2 GA
local macro_rules
  | `(tactic| walk_at "w") => `(tactic| first
    | ((with_reducible refine' GA.w_var ?e ?_); (case e => exact rfl))
    | (with_reducible refine' GA.w_c ?_)
    | (with_reducible refine' GA.w_cons ?_)
    | (with_reducible refine' GA.w_nil ?_)
    | (with_reducible refine' GA.w_op ?_)
    | (with_reducible refine' GA.r_I0 ?_)
    | (with_reducible refine' GA.w_bl ?_)
    | (with_reducible refine' GA.w_seq ?_)
    | (with_reducible refine' GA.w_set ?_)
    | (with_reducible refine' GA.w_ret ?_)
    | (with_reducible refine' GA.w_ifS ?_)
    | (with_reducible refine' GA.w_test ?_)
    | (with_reducible refine' GA.w_tB ?_)
    | (with_reducible refine' GA.w_not ?_)
    | (with_reducible refine' GA.w_and ?_)
    | (with_reducible refine' GA.w_or ?_)
    | (with_reducible refine' GA.w_andV ?_)
    | (with_reducible refine' GA.w_orV ?_)
    | (with_reducible refine' GA.w_notV ?_)
    | (with_reducible refine' GA.w_blc ?_)
    | (with_reducible refine' GA.w_if ?_)
    | (with_reducible refine' GA.w_CB ?_)
    | (with_reducible refine' GA.w_call ?_)
    | (with_reducible refine' GA.w_tupN ?_)
    | (with_reducible refine' GA.w_lstN ?_)
    | (with_reducible refine' GA.w_chain ?_)
    | (with_reducible refine' GA.w_drop ?_)
    | (with_reducible refine' GA.w_next ?_)
    | (with_reducible refine' GA.w_break ?_)
    | (with_reducible refine' GA.w_un ?_)
    | (with_reducible refine' GA.r_U ?_)
    | (with_reducible refine' GA.r_eqI ?_)
    | (with_reducible refine' GA.r_neI ?_)
    | (with_reducible refine' GA.r_eqB ?_)
    | (with_reducible refine' GA.r_neB ?_)
    | (with_reducible refine' GA.w_fld ?_)
    | (with_reducible refine' GA.w_sfld ?_)
    | (with_reducible refine' GA.w_sl ?_)
    | (with_reducible refine' GA.w_part ?_)
    | (with_reducible refine' GA.w_noPart ?_)
    | (with_reducible refine' GA.w_inti ?_)
    | (with_reducible refine' GA.w_retN ?_)
    | (with_reducible refine' GA.w_gsub ?_)
    | (with_reducible refine' GA.w_gname ?_)
    | (with_reducible refine' L2.iteT ?_)
    | (with_reducible refine' L2.iteF ?_)
    | (with_reducible refine' GA.w_nt ?_)
    | (with_reducible refine' GA.w_nf ?_)
    | (with_reducible refine' GA.w_isN ?_)
    | (with_reducible refine' GA.w_notN ?_)
    | (with_reducible refine' GA.w_yes ?_)
    | (with_reducible refine' GA.w_lc ?_)
    | (with_reducible refine' GA.w_lc2 ?_)
    | (with_reducible refine' GA.w_iseq ?_)
    | (with_reducible refine' GA.w_make ?_)
    | (with_reducible refine' GA.w_for ?_)
    | (with_reducible refine' GA.w_rng1 ?_)
    | (with_reducible refine' GA.w_rng2 ?_)
    | (with_reducible refine' GA.w_itup ?_)
    | (with_reducible refine' GA.w_ilist ?_)
    | (with_reducible refine' GA.w_ienum ?_)
    | (with_reducible refine' GA.w_BM ?_)
    | (with_reducible refine' GA.w_BM0 ?_)
    | (with_reducible refine' GA.w_izip ?_)
    | (with_reducible refine' GA.w_asg ?_))
  | `(tactic| walk_at "wm") => `(tactic| first
    | ((with_reducible refine' GA.w_var ?e ?_); (case e => exact rfl))
    | (with_reducible refine' GA.w_c ?_)
    | (with_reducible refine' GA.w_cons ?_)
    | (with_reducible refine' GA.w_nil ?_)
    | (with_reducible refine' GA.w_op ?_)
    | (with_reducible refine' GA.r_I0 ?_)
    | (with_reducible refine' GA.w_bl ?_)
    | (with_reducible refine' GA.w_set ?_)
    | (with_reducible refine' GA.w_ret ?_)
    | (with_reducible refine' GA.w_ifS ?_)
    | (with_reducible refine' GA.w_test ?_)
    | (with_reducible refine' GA.w_tB ?_)
    | (with_reducible refine' GA.w_not ?_)
    | (with_reducible refine' GA.w_and ?_)
    | (with_reducible refine' GA.w_or ?_)
    | (with_reducible refine' GA.w_andV ?_)
    | (with_reducible refine' GA.w_orV ?_)
    | (with_reducible refine' GA.w_notV ?_)
    | (with_reducible refine' GA.w_blc ?_)
    | (with_reducible refine' GA.w_if ?_)
    | (with_reducible refine' GA.w_CB ?_)
    | (with_reducible refine' GA.w_call ?_)
    | (with_reducible refine' GA.w_tupN ?_)
    | (with_reducible refine' GA.w_lstN ?_)
    | (with_reducible refine' GA.w_chain ?_)
    | (with_reducible refine' GA.w_drop ?_)
    | (with_reducible refine' GA.w_next ?_)
    | (with_reducible refine' GA.w_break ?_)
    | (with_reducible refine' GA.w_un ?_)
    | (with_reducible refine' GA.r_U ?_)
    | (with_reducible refine' GA.r_eqI ?_)
    | (with_reducible refine' GA.r_neI ?_)
    | (with_reducible refine' GA.r_eqB ?_)
    | (with_reducible refine' GA.r_neB ?_)
    | (with_reducible refine' GA.w_fld ?_)
    | (with_reducible refine' GA.w_sfld ?_)
    | (with_reducible refine' GA.w_sl ?_)
    | (with_reducible refine' GA.w_part ?_)
    | (with_reducible refine' GA.w_noPart ?_)
    | (with_reducible refine' GA.w_inti ?_)
    | (with_reducible refine' GA.w_retN ?_)
    | (with_reducible refine' GA.w_gsub ?_)
    | (with_reducible refine' GA.w_gname ?_)
    | (with_reducible refine' L2.iteT ?_)
    | (with_reducible refine' L2.iteF ?_)
    | (with_reducible refine' GA.w_nt ?_)
    | (with_reducible refine' GA.w_nf ?_)
    | (with_reducible refine' GA.w_isN ?_)
    | (with_reducible refine' GA.w_notN ?_)
    | (with_reducible refine' GA.w_yes ?_)
    | (with_reducible refine' GA.w_lc ?_)
    | (with_reducible refine' GA.w_lc2 ?_)
    | (with_reducible refine' GA.w_iseq ?_)
    | (with_reducible refine' GA.w_make ?_)
    | (with_reducible refine' GA.w_for ?_)
    | (with_reducible refine' GA.w_rng1 ?_)
    | (with_reducible refine' GA.w_rng2 ?_)
    | (with_reducible refine' GA.w_itup ?_)
    | (with_reducible refine' GA.w_ilist ?_)
    | (with_reducible refine' GA.w_ienum ?_)
    | (with_reducible refine' GA.w_BM ?_)
    | (with_reducible refine' GA.w_BM0 ?_)
    | (with_reducible refine' GA.w_izip ?_)
    | (with_reducible refine' GA.w_asg ?_))
  | `(tactic| walk_at "ws") => `(tactic| repeat (walk_at "w"))
  | `(tactic| walk_at "wn") => `(tactic| repeat (walk_at "wm"))


namespace Mine.Da
section
variable {P : Program} {w : World} {K : PySem.W.Frag} {mg : Str → Option Value} {base : Heap} {a : Ads}

/-! ### puts and letters led by drawn steps: words -/
theorem k_tupleF {X : Cx} (K : PySem.W.Frag) (hK : X.K = K := by rfl) : CallR X (.type "tuple") (rTupleF K) := by subst hK; exact call_tupleF
/-- the dict of letters: from a wire to the list of the letters on it -/
def keyOfP (u : Int × Int) : List L2.Key := [.inl u.1, .inl u.2]
def dtOf : List (Int × Int) → List Addr → List (List L2.Key × V)
  | u :: W, l :: ls => (keyOfP u, V.ref l) :: dtOf W ls
  | _, _ => []
theorem keyOfP_inj {u v : Int × Int} (e : keyOfP u = keyOfP v) : u = v := by
  unfold keyOfP at e
  simp only [List.cons.injEq, Sum.inl.injEq, and_true] at e
  exact Prod.ext e.1 e.2
theorem valT : ∀ {W : List (Int × Int)} {ls : List Addr} {i : Nat} {u : Int × Int} {l : Addr}, W.Nodup → W[i]? = some u → ls[i]? = some l → valV (dtOf W ls) (keyOfP u) = some (.ref l)
  | [], _, _, _, _, _, e, _ => by simp at e
  | _ :: _, [], _, _, _, _, _, e => by simp at e
  | v :: W, m :: ls, 0, u, l, _, e1, e2 => by
    simp only [List.getElem?_cons_zero, Option.some.injEq] at e1 e2
    subst e1 e2
    exact valV_pos rfl
  | v :: W, m :: ls, i + 1, u, l, nd, e1, e2 => by
    simp only [List.getElem?_cons_succ] at e1 e2
    have n := List.nodup_cons.mp nd
    refine (valV_neg (p := (keyOfP v, V.ref m)) fun z => ?_).trans (valT n.2 e1 e2)
    exact n.1 (keyOfP_inj z ▸ List.mem_of_getElem? e1)
/-- the pairs of which the dict is made -/
def mkL : List (Int × Int) → List Addr → List Addr → List Addr → List DPair
  | u :: W, b :: bs, t :: ts, l :: ls => ⟨t, keyOfP u, b, .ref l⟩ :: mkL W bs ts ls
  | _, _, _, _ => []
theorem mkL_at : ∀ {W : List (Int × Int)} {bs ts ls : List Addr}, bs.length = W.length → ts.length = W.length → ls.length = W.length → (mkL W bs ts ls).map (fun q => V.ref q.at_) = ts.map V.ref
  | [], [], [], [], _, _, _ => rfl
  | u :: W, b :: bs, t :: ts, l :: ls, h1, h2, h3 => by
    simp only [mkL, List.map_cons]
    rw [mkL_at (by simpa using h1) (by simpa using h2) (by simpa using h3)]
theorem mkL_dt : ∀ {W : List (Int × Int)} {bs ts ls : List Addr}, bs.length = W.length → ts.length = W.length → ls.length = W.length → (mkL W bs ts ls).map (fun q => (q.key, q.val)) = dtOf W ls
  | [], [], [], [], _, _, _ => rfl
  | u :: W, b :: bs, t :: ts, l :: ls, h1, h2, h3 => by
    simp only [mkL, dtOf, List.map_cons]
    rw [mkL_dt (by simpa using h1) (by simpa using h2) (by simpa using h3)]
theorem mkL_key : ∀ {W : List (Int × Int)} {bs ts ls : List Addr}, bs.length = W.length → ts.length = W.length → ls.length = W.length → (mkL W bs ts ls).map (fun q => q.key) = W.map keyOfP
  | [], [], [], [], _, _, _ => rfl
  | u :: W, b :: bs, t :: ts, l :: ls, h1, h2, h3 => by
    simp only [mkL, List.map_cons]
    rw [mkL_key (by simpa using h1) (by simpa using h2) (by simpa using h3)]
theorem mkL_mem : ∀ {W : List (Int × Int)} {bs ts ls : List Addr} {q : DPair}, q ∈ mkL W bs ts ls → ∃ (j : Nat) (u : Int × Int) (b t l : Addr), W[j]? = some u ∧ bs[j]? = some b ∧ ts[j]? = some t ∧ ls[j]? = some l ∧ q = ⟨t, keyOfP u, b, .ref l⟩
  | u :: W, b :: bs, t :: ts, l :: ls, q, h => by
    simp only [mkL, List.mem_cons] at h
    rcases h with rfl | h
    · exact ⟨0, u, b, t, l, rfl, rfl, rfl, rfl, rfl⟩
    · obtain ⟨j, u', b', t', l', h1, h2, h3, h4, h5⟩ := mkL_mem h
      exact ⟨j + 1, u', b', t', l', h1, h2, h3, h4, h5⟩
  | [], _, _, _, _, h => by simp [mkL] at h
  | _ :: _, [], _, _, _, h => by simp [mkL] at h
  | _ :: _, _ :: _, [], _, _, h => by simp [mkL] at h
  | _ :: _, _ :: _, _ :: _, [], _, h => by simp [mkL] at h
theorem rg_upto (n : Nat) : rgV 0 (n : Int) = (upto n).map V.int := by
  unfold rgV upto
  rw [List.map_map, Int.sub_zero, Int.toNat_natCast]
  refine List.map_congr_left fun i _ => ?_
  show V.int (0 + ((i : Nat) : Int)) = V.int ((i : Nat) : Int)
  rw [Int.zero_add]
theorem isweb_len49 {m : Int} {ws : List (Int × Int)} (h : IsWeb m ws) : ws.length ≤ 49 := by
  have hn : (ws.map fun u => (u.1 * 7 + u.2).toNat).Nodup := by
    have : (ws.map fun u => (u.1 * 7 + u.2).toNat).Pairwise (· < ·) := by
      rw [List.pairwise_map]
      refine List.Pairwise.imp_of_mem (fun {u v} hu hv huv => ?_) h.asc
      have h1 := h.mem u hu
      have h2 := h.mem v hv
      have := h.hi
      unfold ltP at huv
      omega
    exact this.imp fun h => Nat.ne_of_lt h
  have := List.Nodup.length_le_of_subset (l₂ := List.range 49) hn fun k hk => by
    obtain ⟨u, hu, rfl⟩ := List.mem_map.mp hk
    have h1 := h.mem u hu
    have := h.hi
    rw [List.mem_range]
    omega
  simpa using this
theorem web_nodup {m : Int} {W : List (Int × Int)} (h : IsWeb m W) : W.Nodup := h.asc.imp fun {a b} q e => by
  subst e
  rcases q with q | q <;> omega
/-- where the lists of a run are -/
structure RanA where
  dl : Addr
  lf : Addr
  st : Addr
  ld : Addr
  rs : List Addr
  ls : List Addr
structure RanN (H : Hp) (A : RanA) : Prop where
  dl : H A.dl = none
  lf : H A.lf = none
  st : H A.st = none
  ld : H A.ld = none
  rs : ∀ l ∈ A.rs, H l = none
  ls : ∀ l ∈ A.ls, H l = none
  n1 : A.dl ≠ A.lf
  n2 : A.dl ≠ A.st
  n3 : A.dl ≠ A.ld
  n4 : A.dl ∉ A.rs
  n5 : A.dl ∉ A.ls
  n6 : A.lf ≠ A.st
  n7 : A.lf ≠ A.ld
  n8 : A.lf ∉ A.rs
  n9 : A.lf ∉ A.ls
  n10 : A.st ≠ A.ld
  n11 : A.st ∉ A.rs
  n12 : A.st ∉ A.ls
  n13 : A.ld ∉ A.rs
  n14 : A.ld ∉ A.ls
  n15 : A.rs.Nodup
  n16 : A.ls.Nodup
  n17 : ∀ l ∈ A.rs, l ∉ A.ls
/-- lists of ints at these places -/
def Lists (H : Hp) (as : List Addr) (ns : List (List Int)) : Prop := as.length = ns.length ∧ ∀ (i : Nat) (a : Addr) (l : List Int), as[i]? = some a → ns[i]? = some l → H a = some (.lst (l.map V.int))
theorem Lists.mono {H H' : Hp} {as : List Addr} {ns : List (List Int)} (h : Lists H as ns) (k : ∀ a ∈ as, ∀ u, H a = some u → H' a = some u) : Lists H' as ns := ⟨h.1, fun i a l e1 e2 => k a (List.mem_of_getElem? e1) _ (h.2 i a l e1 e2)⟩
theorem Lists.set {H : Hp} {as : List Addr} {ns : List (List Int)} (h : Lists H as ns) (nd : as.Nodup) {x : Nat} {a : Addr} (ha : as[x]? = some a) (m : List Int) : Lists (upd H a (.lst (m.map V.int))) as (ns.set x m) := by
  refine ⟨by rw [List.length_set]; exact h.1, fun i b l e1 e2 => ?_⟩
  by_cases c : i = x
  · subst c
    rw [ha] at e1
    cases e1
    rw [List.getElem?_set_self (by rw [← h.1]; exact (List.getElem?_eq_some_iff.mp ha).1)] at e2
    cases e2
    exact upd_same
  · rw [List.getElem?_set_ne (fun z => c z.symm)] at e2
    have ne : b ≠ a := fun z => by
      subst z
      exact c (nd_ix nd e1 ha)
    rw [upd_ne ne]
    exact h.2 i b l e1 e2
/-- a step as a tuple -/
def stV : Stp → List V
  | .put p => [.str "put", .int p]
  | .come y x => [.str "come", .int y, .int x]
abbrev SV := List (Addr × Stp)
abbrev svR (sv : SV) : List V := sv.map fun q => V.ref q.1
/-- what they hold -/
structure RanS (W : List (Int × Int)) (A : RanA) (H : Hp) (ds : List (List Int)) (left : List Int) (lt : List (List Int)) (sv : SV) : Prop where
  dl : H A.dl = some (.lst (A.rs.map V.ref))
  lf : H A.lf = some (.lst (left.map V.int))
  st : H A.st = some (.lst (svR sv))
  stp : ∀ q ∈ sv, Rd H q.1 (.tup (stV q.2))
  ld : H A.ld = some (.dT (dtOf W A.ls))
  rs : Lists H A.rs ds
  ls : Lists H A.ls lt
section
variable {W : List (Int × Int)} {A : RanA} {H H1 H2 : Hp} {ds lt : List (List Int)} {left : List Int} {sv : SV} {hd c : Addr}
theorem RanS.g (r : RanS W A H1 ds left lt sv) (N : RanN H A) (hh : Hand H hd c) (g : G (some (hd, c)) H1 H2) : RanS W A H2 ds left lt sv := by
  have off : ∀ a, H a = none → ∀ u, H1 a = some u → H2 a = some u := fun a n u e => g.keep a u (off_new hh n) e
  exact ⟨off _ N.dl _ r.dl, off _ N.lf _ r.lf, off _ N.st _ r.st, fun q m => g.tups _ _ (r.stp q m), off _ N.ld _ r.ld, r.rs.mono fun a m => off a (N.rs a m), r.ls.mono fun a m => off a (N.ls a m)⟩
theorem ne_mem {a b : Addr} {l : List Addr} (h : a ∉ l) (m : b ∈ l) : b ≠ a := fun e => h (e ▸ m)
theorem RanS.left' (r : RanS W A H1 ds left lt sv) (N : RanN H A) (left' : List Int) : RanS W A (upd H1 A.lf (.lst (left'.map V.int))) ds left' lt sv :=
  ⟨by rw [upd_ne N.n1]; exact r.dl, upd_same, by rw [upd_ne N.n6.symm]; exact r.st, fun q m => Ts.updl r.lf _ _ (r.stp q m), by rw [upd_ne N.n7.symm]; exact r.ld, r.rs.mono fun a m u e => by rw [upd_ne (ne_mem N.n8 m)]; exact e, r.ls.mono fun a m u e => by rw [upd_ne (ne_mem N.n9 m)]; exact e⟩
theorem RanS.step' (r : RanS W A H1 ds left lt sv) (N : RanN H A) {t : Addr} {st : Stp} (ht : H1 t = some (.tup (stV st))) : RanS W A (upd H1 A.st (.lst (svR sv ++ [.ref t]))) ds left lt (sv ++ [(t, st)]) :=
  ⟨by rw [upd_ne N.n2]; exact r.dl, by rw [upd_ne N.n6]; exact r.lf, by rw [upd_same]; show _ = some (HO.lst (List.map _ (sv ++ [(t, st)]))); rw [List.map_append]; rfl, fun q m => by
    refine Ts.updl r.st _ _ ?_
    rcases List.mem_append.mp m with z | z
    · exact r.stp q z
    · have e : q = (t, st) := by simpa using z
      rw [e]; exact .inl ht, by rw [upd_ne N.n10.symm]; exact r.ld, r.rs.mono fun a m u e => by rw [upd_ne (ne_mem N.n11 m)]; exact e, r.ls.mono fun a m u e => by rw [upd_ne (ne_mem N.n12 m)]; exact e⟩
theorem RanS.dia' (r : RanS W A H1 ds left lt sv) (N : RanN H A) {x : Nat} {l : Addr} (hl : A.rs[x]? = some l) (d : List Int) : RanS W A (upd H1 l (.lst (d.map V.int))) (ds.set x d) left lt sv := by
  have m := List.mem_of_getElem? hl
  exact ⟨by rw [upd_ne (ne_mem N.n4 m).symm]; exact r.dl, by rw [upd_ne (ne_mem N.n8 m).symm]; exact r.lf, by rw [upd_ne (ne_mem N.n11 m).symm]; exact r.st, fun q mq => by
    obtain ⟨d0, hd0⟩ : ∃ d0, ds[x]? = some d0 := ⟨_, List.getElem?_eq_getElem (by have := (List.getElem?_eq_some_iff.mp hl).1; have := r.rs.1; omega)⟩
    exact Ts.updl (r.rs.2 x l d0 hl hd0) _ _ (r.stp q mq), by rw [upd_ne (ne_mem N.n13 m).symm]; exact r.ld, r.rs.set N.n15 hl d, r.ls.mono fun a ma u e => by rw [upd_ne (fun (z : a = l) => N.n17 l m (z ▸ ma))]; exact e⟩
theorem RanS.let' (r : RanS W A H1 ds left lt sv) (N : RanN H A) {j : Nat} {l : Addr} (hl : A.ls[j]? = some l) (d : List Int) : RanS W A (upd H1 l (.lst (d.map V.int))) ds left (lt.set j d) sv := by
  have m := List.mem_of_getElem? hl
  exact ⟨by rw [upd_ne (ne_mem N.n5 m).symm]; exact r.dl, by rw [upd_ne (ne_mem N.n9 m).symm]; exact r.lf, by rw [upd_ne (ne_mem N.n12 m).symm]; exact r.st, fun q mq => by
    obtain ⟨d0, hd0⟩ : ∃ d0, lt[j]? = some d0 := ⟨_, List.getElem?_eq_getElem (by have := (List.getElem?_eq_some_iff.mp hl).1; have := r.ls.1; omega)⟩
    exact Ts.updl (r.ls.2 j l d0 hl hd0) _ _ (r.stp q mq), by rw [upd_ne (ne_mem N.n14 m).symm]; exact r.ld, r.rs.mono fun a ma u e => by rw [upd_ne (fun (z : a = l) => N.n17 a ma (z ▸ m))]; exact e, r.ls.set N.n16 hl d⟩
end
/-- what is true behind i turns -/
structure RanT (n : Nat) (ws : List Int) (most : Int) (i b : Nat) (ds : List (List Int)) (left : List Int) (lt : List (List Int)) (sv : SV) (more : Int) : Prop where
  ld : ds.length = n
  nd : ∀ d ∈ ds, d.Nodup
  rng : ∀ d ∈ ds, ∀ p ∈ d, 0 ≤ p ∧ p < (ws.length : Int)
  lr : ∀ p ∈ left, 0 ≤ p ∧ p < (ws.length : Int)
  tr : ∀ l ∈ lt, ∀ p ∈ l, 0 ≤ p ∧ p < (ws.length : Int)
  cnt : (i : Int) = ((ws.length : Int) - (left.length : Int)) + more
  ll : left.length ≤ ws.length
  m0 : 0 ≤ more
  mm : more ≤ most
  sl : sv.length ≤ i
  tl : ∀ l ∈ lt, l.length ≤ b
def Own (ws : List Int) (ds : List (List Int)) (left : List Int) (o : Option (Int × Int)) : Prop := ∀ (p : Nat) (w : Int) (d : List Int), ws[p]? = some w → ds[w.toNat]? = some d → (p : Int) ∈ d ∨ (p : Int) ∈ left ∨ o = some ((p : Int), w)
theorem mem_erase {left : List Int} {r : Nat} (h : r < left.length) {p : Int} (m : p ∈ left) : p = left[r] ∨ p ∈ left.eraseIdx r := by
  obtain ⟨i, hi⟩ := List.getElem?_of_mem m
  by_cases c : i = r
  · subst c
    exact .inl (by rw [List.getElem?_eq_getElem h] at hi; exact (Option.some.inj hi).symm)
  · exact .inr (List.mem_eraseIdx_iff_getElem?.mpr ⟨i, c, hi⟩)
theorem Own.put {ws : List Int} {ds : List (List Int)} {left : List Int} (h : Own ws ds left none) {r : Nat} (hr : r < left.length) {x : Int} (hx : ws[left[r].toNat]? = some x) (h0 : 0 ≤ left[r]) : Own ws ds (left.eraseIdx r) (some (left[r], x)) := fun p w d e1 e2 => by
  rcases h p w d e1 e2 with q | q | q
  · exact .inl q
  · rcases mem_erase hr q with z | z
    · refine .inr (.inr ?_)
      have e : left[r].toNat = p := by omega
      rw [e, e1] at hx
      rw [← z, Option.some.inj hx]
    · exact .inr (.inl z)
  · cases q
theorem Own.wk {ws : List Int} {ds : List (List Int)} {left : List Int} (h : Own ws ds left none) (o : Option (Int × Int)) : Own ws ds left o := fun p w d e1 e2 => by
  rcases h p w d e1 e2 with q | q | q
  · exact .inl q
  · exact .inr (.inl q)
  · cases q
theorem Own.had {ws : List Int} {ds : List (List Int)} {left : List Int} {put x : Int} (h : Own ws ds left (some (put, x))) {d : List Int} (hd : ds[x.toNat]? = some d) (hp : put ∈ d) : Own ws ds left none := fun p w d' e1 e2 => by
  rcases h p w d' e1 e2 with q | q | q
  · exact .inl q
  · exact .inr (.inl q)
  · cases q
    rw [hd] at e2
    cases e2
    exact .inl hp
theorem Own.app {ws : List Int} {ds : List (List Int)} {left : List Int} {put x : Int} (h : Own ws ds left (some (put, x))) {d : List Int} (hd : ds[x.toNat]? = some d) : Own ws (ds.set x.toNat (d ++ [put])) left none := fun p w d' e1 e2 => by
  rw [List.getElem?_set] at e2
  split at e2
  · rename_i c
    split at e2
    · cases e2
      rcases h p w d e1 (by rw [← c]; exact hd) with q | q | q
      · exact .inl (List.mem_append_left _ q)
      · exact .inr (.inl q)
      · cases q
        exact .inl (List.mem_append_right _ (List.mem_singleton.mpr rfl))
    · cases e2
  · rename_i c
    rcases h p w d' e1 e2 with q | q | q
    · exact .inl q
    · exact .inr (.inl q)
    · cases q
      exact absurd rfl c
theorem mem_set_list {α : Type} {l : List α} {i : Nat} {a b : α} (h : b ∈ l.set i a) : b ∈ l ∨ b = a := List.mem_or_eq_of_mem_set h
theorem ran_rec {n : Nat} {ws : List Int} {most : Int} {i b : Nat} {ds lt : List (List Int)} {sv : SV} {more : Int} (t : RanT n ws most i b ds [] lt sv more) (o : Own ws ds [] none) (n1 : 1 ≤ n) (n7 : n ≤ 7) (p30 : ws.length ≤ 30) (hws : ∀ w ∈ ws, 0 ≤ w ∧ w < (n : Int)) : IsRec ws ds :=
  ⟨by rw [t.ld]; exact n1, by rw [t.ld]; exact n7, p30, fun w hw => by rw [t.ld]; exact hws w hw, t.nd, t.rng, fun p w d e1 e2 => by
    rcases o p w d e1 e2 with q | q | q
    · exact q
    · cases q
    · cases q⟩
/-- wires out of all wires, as data -/
theorem ready_dp {K : PySem.W.Frag} {H : Hp} {bs : List Addr} {W : List (Int × Int)} (tup : TupAll H bs W) : ∀ {xs : List V}, (∀ v ∈ xs, ∃ (j : Nat) (b : Addr), v = .ref b ∧ bs[j]? = some b) → ∃ us : List (Int × Int), us.length = xs.length ∧ DpAll K H xs (us.map dP)
  | [], _ => ⟨[], rfl, .nil⟩
  | v :: xs, h => by
    obtain ⟨us, e, r⟩ := ready_dp (K := K) tup fun v hv => h v (List.mem_cons_of_mem _ hv)
    obtain ⟨j, b, rfl, hb⟩ := h v List.mem_cons_self
    have lj := (List.getElem?_eq_some_iff.mp hb).1
    have lw : j < W.length := by rw [← tup.1]; exact lj
    have hw : W[j]? = some W[j] := List.getElem?_eq_getElem lw
    exact ⟨W[j] :: us, by simp [e], .cons (dp_ofP (SqT.of (tup.2 j b _ hb hw))) r⟩
theorem sh_pairsL (us : List (Int × Int)) : SeqAt.shaped (.list (us.map dP)) = true := sh_of (by
    rw [PyData.canLay0]
    exact canAll fun d h => by
      obtain ⟨n, _, rfl⟩ := List.mem_map.mp h
      exact can_dP n) (by
    rw [PyData.depth]
    have := depAll (n := 1) (ds := us.map dP) fun d h => by
      obtain ⟨n, _, rfl⟩ := List.mem_map.mp h
      exact dep_dP n
    omega)
theorem not_in {H : Hp} {l : Addr} {as : List Addr} {u : HO} (h : H l = none) (k : ∀ x ∈ as, H x = some u) : l ∉ as := fun m => by rw [k l m] at h; cases h
theorem w_ifM {t : TT} {ts tu : TS} {D : Ends} {σ : L2.St} {H : Hp} (M : Bool → Hp → Prop) (h1 : ∀ N : Bool → Hp → Prop, (∀ b H', M b H' → N b H') → t σ H N) (h2 : ∀ b H', M b H' → if b = true then ts D σ H' else tu D σ H') : tIfS t ts tu D σ H := h1 _ h2
theorem pop_ix {ls : List Int} {r : Int} (r0 : 0 ≤ r) (rl : r.toNat < ls.length) : PySem.seqIndex? r (ls.map V.int).length = some r.toNat := by
  unfold PySem.seqIndex?
  rw [List.length_map]
  have n0 : ¬ r < 0 := by omega
  simp [n0]
  omega
theorem inV_ints (d : List Int) (z : Int) : inV (.int z) (d.map V.int) = decide (z ∈ d) := by
  unfold inV
  rw [List.any_map, Bool.eq_iff_iff, List.any_eq_true, decide_eq_true_iff]
  constructor
  · rintro ⟨y, hy, e⟩
    have e : y = z := by simpa [eqV] using e
    exact e ▸ hy
  · intro h
    exact ⟨_, h, by simp [eqV]⟩
theorem w_dget {td ty : TE} {σ : L2.St} {H : Hp} {Q : VK} (q : td σ H fun x H1 => ty σ H1 fun y H2 => ∃ a v, x = .ref a ∧ DGet H2 a y (some v) ∧ Q v H2) : tDGet td ty σ H Q := q
theorem i_dget {F : V → Prop} {H : Hp} {ld b l : Addr} {W : List (Int × Int)} {ls : List Addr} {j : Nat} {u : Int × Int} (nd : W.Nodup) (h : H ld = some (.dT (dtOf W ls))) (hb : H b = some (.tup [.int u.1, .int u.2])) (hu : W[j]? = some u) (hl : ls[j]? = some l) (q : F (.ref l)) : ∃ (a : Addr) (v : V), V.ref ld = .ref a ∧ DGet H a (.ref b) (some v) ∧ F v :=
  ⟨ld, .ref l, rfl, by rw [← valT nd hu hl]; exact DGet.t h hb, q⟩
theorem eqv_none (us : List (Int × Int)) : PyData.eqv (.list (us.map dP)) (.list []) = decide (us.length = 0) := by
  cases us with
  | nil => rfl
  | cons u us => rfl

end
end Mine.Da
/-! ## PS -/
end
namespace Mine
/-! ### what the program asks of a put: it stands in its writer's diary just if it was put -/
structure Fit (ws : List Int) (s : LS) : Prop where
  cur : ∀ x p, p ∈ s.cur x → p ∈ s.done
  lt : ∀ u p, p ∈ s.lt u → p ∈ s.done
  own : ∀ p ∈ s.done, ∀ x, ws[p.toNat]? = some x → p ∈ s.cur x
theorem Fit.init (ws : List Int) : Fit ws ⟨fun _ => [], fun _ => [], []⟩ := ⟨fun _ _ h => h, fun _ _ h => h, fun _ h => nomatch h⟩
theorem wr_cur {s : LS} {x p z q : Int} : q ∈ (s.wr x p).cur z ↔ q ∈ s.cur z ∨ (z = x ∧ q = p) := by
  unfold LS.wr
  split
  · rename_i h
    constructor
    · exact .inl
    · rintro (h' | ⟨rfl, rfl⟩)
      · exact h'
      · exact h
  · show q ∈ (if z = x then s.cur x ++ [p] else s.cur z) ↔ _
    split
    · rename_i e
      subst e
      simp
    · rename_i e
      simp [e]
theorem wr_lt {s : LS} {x p q : Int} {u : Int × Int} (h : q ∈ (s.wr x p).lt u) : q ∈ s.lt u ∨ q = p := by
  unfold LS.wr at h
  split at h
  · exact .inl h
  · have h : q ∈ (if u.1 = x then s.lt u ++ [p] else s.lt u) := h
    split at h
    · simpa using h
    · exact .inl h
theorem wr_done {s : LS} {x p : Int} : (s.wr x p).done = s.done := by
  unfold LS.wr
  split <;> rfl
theorem Fit.step {W : List (Int × Int)} {ws : List Int} {s s' : LS} {t : Stp} (f : Fit ws s) (h : led1 W ws s t = some s') : Fit ws s' := by
  cases t with
  | put p =>
    have h : (if p ∈ s.done then none else match ws[p.toNat]? with | some x => some (LS.wr ⟨s.cur, s.lt, s.done ++ [p]⟩ x p) | none => none) = some s' := h
    by_cases nd : p ∈ s.done
    · rw [if_pos nd] at h; cases h
    · rw [if_neg nd] at h
      cases hx : ws[p.toNat]? with
      | none => rw [hx] at h; cases h
      | some x =>
        rw [hx] at h
        cases h
        refine ⟨fun z q hq => ?_, fun u q hq => ?_, fun q hq z hz => ?_⟩
        · rw [wr_done]
          rcases wr_cur.mp hq with hq | ⟨_, rfl⟩
          · exact List.mem_append_left _ (f.cur z q hq)
          · simp
        · rw [wr_done]
          rcases wr_lt hq with hq | rfl
          · exact List.mem_append_left _ (f.lt u q hq)
          · simp
        · rw [wr_done] at hq
          refine wr_cur.mpr ?_
          rcases List.mem_append.mp hq with hq | hq
          · exact .inl (f.own q hq z hz)
          · have e : q = p := by simpa using hq
            subst e
            rw [hx] at hz
            exact .inr ⟨(Option.some.inj hz).symm, rfl⟩
  | come y x =>
    have h : (if (y, x) ∈ W then match s.lt (y, x) with | [] => none | p :: r => some (LS.wr ⟨s.cur, fun u => if u = (y, x) then r else s.lt u, s.done⟩ x p) else none) = some s' := h
    by_cases hw : (y, x) ∈ W
    · rw [if_pos hw] at h
      cases hl : s.lt (y, x) with
      | nil => rw [hl] at h; cases h
      | cons p r =>
        rw [hl] at h
        cases h
        have pd : p ∈ s.done := f.lt _ p (by rw [hl]; simp)
        refine ⟨fun z q hq => ?_, fun u q hq => ?_, fun q hq z hz => ?_⟩
        · rw [wr_done]
          rcases wr_cur.mp hq with hq | ⟨_, rfl⟩
          · exact f.cur z q hq
          · exact pd
        · rw [wr_done]
          rcases wr_lt hq with hq | rfl
          · have hq : q ∈ (if u = (y, x) then r else s.lt u) := hq
            split at hq
            · exact f.lt (y, x) q (by rw [hl]; exact List.mem_cons_of_mem _ hq)
            · exact f.lt u q hq
          · exact pd
        · rw [wr_done] at hq
          exact wr_cur.mpr (.inl (f.own q hq z hz))
    · rw [if_neg hw] at h; cases h
theorem Fit.put_iff {ws : List Int} {s : LS} (f : Fit ws s) {p x : Int} (hx : ws[p.toNat]? = some x) : p ∈ s.cur x ↔ p ∈ s.done := ⟨f.cur x p, fun h => f.own p h x hx⟩
end Mine
/-! ## K7 -/
section
open PySem L2 GA
local macro_rules
  | `(tactic| walk_at "w") => `(tactic| first
    | ((with_reducible refine' GA.w_var ?e ?_); (case e => exact rfl))
    | (with_reducible refine' GA.w_c ?_)
    | (with_reducible refine' GA.w_cons ?_)
    | (with_reducible refine' GA.w_nil ?_)
    | (with_reducible refine' GA.w_op ?_)
    | (with_reducible refine' GA.r_I0 ?_)
    | (with_reducible refine' GA.w_bl ?_)
    | (with_reducible refine' GA.w_seq ?_)
    | (with_reducible refine' GA.w_set ?_)
    | (with_reducible refine' GA.w_ret ?_)
    | (with_reducible refine' GA.w_ifS ?_)
    | (with_reducible refine' GA.w_test ?_)
    | (with_reducible refine' GA.w_tB ?_)
    | (with_reducible refine' GA.w_not ?_)
    | (with_reducible refine' GA.w_and ?_)
    | (with_reducible refine' GA.w_or ?_)
    | (with_reducible refine' GA.w_andV ?_)
    | (with_reducible refine' GA.w_orV ?_)
    | (with_reducible refine' GA.w_notV ?_)
    | (with_reducible refine' GA.w_blc ?_)
    | (with_reducible refine' GA.w_if ?_)
    | (with_reducible refine' GA.w_CB ?_)
    | (with_reducible refine' GA.w_call ?_)
    | (with_reducible refine' GA.w_tupN ?_)
    | (with_reducible refine' GA.w_lstN ?_)
    | (with_reducible refine' GA.w_chain ?_)
    | (with_reducible refine' GA.w_drop ?_)
    | (with_reducible refine' GA.w_next ?_)
    | (with_reducible refine' GA.w_break ?_)
    | (with_reducible refine' GA.w_un ?_)
    | (with_reducible refine' GA.r_U ?_)
    | (with_reducible refine' GA.r_eqI ?_)
    | (with_reducible refine' GA.r_neI ?_)
    | (with_reducible refine' GA.r_eqB ?_)
    | (with_reducible refine' GA.r_neB ?_)
    | (with_reducible refine' GA.w_fld ?_)
    | (with_reducible refine' GA.w_sfld ?_)
    | (with_reducible refine' GA.w_sl ?_)
    | (with_reducible refine' GA.w_part ?_)
    | (with_reducible refine' GA.w_noPart ?_)
    | (with_reducible refine' GA.w_inti ?_)
    | (with_reducible refine' GA.w_retN ?_)
    | (with_reducible refine' GA.w_gsub ?_)
    | (with_reducible refine' GA.w_gname ?_)
    | (with_reducible refine' L2.iteT ?_)
    | (with_reducible refine' L2.iteF ?_)
    | (with_reducible refine' GA.w_nt ?_)
    | (with_reducible refine' GA.w_nf ?_)
    | (with_reducible refine' GA.w_isN ?_)
    | (with_reducible refine' GA.w_notN ?_)
    | (with_reducible refine' GA.w_yes ?_)
    | (with_reducible refine' GA.w_lc ?_)
    | (with_reducible refine' GA.w_lc2 ?_)
    | (with_reducible refine' GA.w_iseq ?_)
    | (with_reducible refine' GA.w_make ?_)
    | (with_reducible refine' GA.w_for ?_)
    | (with_reducible refine' GA.w_rng1 ?_)
    | (with_reducible refine' GA.w_rng2 ?_)
    | (with_reducible refine' GA.w_itup ?_)
    | (with_reducible refine' GA.w_ilist ?_)
    | (with_reducible refine' GA.w_ienum ?_)
    | (with_reducible refine' GA.w_BM ?_)
    | (with_reducible refine' GA.w_BM0 ?_)
    | (with_reducible refine' GA.w_izip ?_)
    | (with_reducible refine' GA.w_asg ?_))
  | `(tactic| walk_at "wm") => `(tactic| first
    | ((with_reducible refine' GA.w_var ?e ?_); (case e => exact rfl))
    | (with_reducible refine' GA.w_c ?_)
    | (with_reducible refine' GA.w_cons ?_)
    | (with_reducible refine' GA.w_nil ?_)
    | (with_reducible refine' GA.w_op ?_)
    | (with_reducible refine' GA.r_I0 ?_)
    | (with_reducible refine' GA.w_bl ?_)
    | (with_reducible refine' GA.w_set ?_)
    | (with_reducible refine' GA.w_ret ?_)
    | (with_reducible refine' GA.w_ifS ?_)
    | (with_reducible refine' GA.w_test ?_)
    | (with_reducible refine' GA.w_tB ?_)
    | (with_reducible refine' GA.w_not ?_)
    | (with_reducible refine' GA.w_and ?_)
    | (with_reducible refine' GA.w_or ?_)
    | (with_reducible refine' GA.w_andV ?_)
    | (with_reducible refine' GA.w_orV ?_)
    | (with_reducible refine' GA.w_notV ?_)
    | (with_reducible refine' GA.w_blc ?_)
    | (with_reducible refine' GA.w_if ?_)
    | (with_reducible refine' GA.w_CB ?_)
    | (with_reducible refine' GA.w_call ?_)
    | (with_reducible refine' GA.w_tupN ?_)
    | (with_reducible refine' GA.w_lstN ?_)
    | (with_reducible refine' GA.w_chain ?_)
    | (with_reducible refine' GA.w_drop ?_)
    | (with_reducible refine' GA.w_next ?_)
    | (with_reducible refine' GA.w_break ?_)
    | (with_reducible refine' GA.w_un ?_)
    | (with_reducible refine' GA.r_U ?_)
    | (with_reducible refine' GA.r_eqI ?_)
    | (with_reducible refine' GA.r_neI ?_)
    | (with_reducible refine' GA.r_eqB ?_)
    | (with_reducible refine' GA.r_neB ?_)
    | (with_reducible refine' GA.w_fld ?_)
    | (with_reducible refine' GA.w_sfld ?_)
    | (with_reducible refine' GA.w_sl ?_)
    | (with_reducible refine' GA.w_part ?_)
    | (with_reducible refine' GA.w_noPart ?_)
    | (with_reducible refine' GA.w_inti ?_)
    | (with_reducible refine' GA.w_retN ?_)
    | (with_reducible refine' GA.w_gsub ?_)
    | (with_reducible refine' GA.w_gname ?_)
    | (with_reducible refine' L2.iteT ?_)
    | (with_reducible refine' L2.iteF ?_)
    | (with_reducible refine' GA.w_nt ?_)
    | (with_reducible refine' GA.w_nf ?_)
    | (with_reducible refine' GA.w_isN ?_)
    | (with_reducible refine' GA.w_notN ?_)
    | (with_reducible refine' GA.w_yes ?_)
    | (with_reducible refine' GA.w_lc ?_)
    | (with_reducible refine' GA.w_lc2 ?_)
    | (with_reducible refine' GA.w_iseq ?_)
    | (with_reducible refine' GA.w_make ?_)
    | (with_reducible refine' GA.w_for ?_)
    | (with_reducible refine' GA.w_rng1 ?_)
    | (with_reducible refine' GA.w_rng2 ?_)
    | (with_reducible refine' GA.w_itup ?_)
    | (with_reducible refine' GA.w_ilist ?_)
    | (with_reducible refine' GA.w_ienum ?_)
    | (with_reducible refine' GA.w_BM ?_)
    | (with_reducible refine' GA.w_BM0 ?_)
    | (with_reducible refine' GA.w_izip ?_)
    | (with_reducible refine' GA.w_asg ?_))
  | `(tactic| walk_at "ws") => `(tactic| repeat (walk_at "w"))
  | `(tactic| walk_at "wn") => `(tactic| repeat (walk_at "wm"))


namespace Mine
section
variable {P : Program} {w : World} {K : PySem.W.Frag} {mg : Str → Option Value} {base : Heap} {a : Ads}

/-! ### _law_is of two that are alike -/
theorem dp_n {H H' : Hp} (g : G none H H') : (∀ (d : PyData) (v : V), Dp K H v d → Dp K H' v d) ∧ (∀ (ds : List PyData) (vs : List V), DpAll K H vs ds → DpAll K H' vs ds) := by
  have rd : ∀ {a u}, Rd H a u → Rd H' a u := fun h => h.elim (fun h => .inl (g.all _ _ h)) fun ⟨ob, h⟩ => .inr ⟨ob, g.all _ _ h⟩
  have sl : ∀ {a xs}, SqL K H a xs → SqL K H' a xs := fun h => h.elim (fun h => .inl (rd h)) .inr
  constructor
  · intro d v h
    refine Dp.rec (motive_1 := fun v d _ => Dp K H' v d) (motive_2 := fun vs ds _ => DpAll K H' vs ds) .non .bl .int .str ?_ ?_ ?_ ?_ h
    · intro a xs ds h1 _ h2; exact .lst (sl h1) h2
    · intro a xs ds h1 _ h2; exact .tup (sqT_t g.tups h1) h2
    · exact .nil
    · intro v vs d ds _ _ h1 h2; exact .cons h1 h2
  · intro ds vs h
    refine DpAll.rec (motive_1 := fun v d _ => Dp K H' v d) (motive_2 := fun vs ds _ => DpAll K H' vs ds) .non .bl .int .str ?_ ?_ ?_ ?_ h
    · intro a xs ds h1 _ h2; exact .lst (sl h1) h2
    · intro a xs ds h1 _ h2; exact .tup (sqT_t g.tups h1) h2
    · exact .nil
    · intro v vs d ds _ _ h1 h2; exact .cons h1 h2
theorem sqL_n {H H' : Hp} (g : G none H H') {p : Addr} {xs : List V} (h : SqL K H p xs) : SqL K H' p xs := by
  rcases h with (h | ⟨o, h⟩) | h
  · exact .inl (.inl (g.all _ _ h))
  · exact .inl (.inr ⟨o, g.all _ _ h⟩)
  · exact .inr h
theorem tyx_lst {H : Hp} {p : Addr} {xs : List V} (h : SqL K H p xs) : TyX K H (.ref p) (.type "list") := by
  rcases h with (h | ⟨o, h⟩) | ⟨o, its, n, h1, h2, _⟩
  · exact .base (.lst h)
  · exact .base (.frz h)
  · exact .kList h1 h2
def tyN : PyData → String
  | .none => "NoneType"
  | .bool _ => "bool"
  | .int _ => "int"
  | .str _ => "str"
  | .list _ => "list"
  | .tuple _ => "tuple"
  | .dict _ => "dict"
theorem ty_of {H : Hp} {v : V} {d : PyData} (h : Dp K H v d) : TyX K H v (.type (tyN d)) := by
  cases h with
  | non => exact .base .non
  | bl b => exact .base (.bl b)
  | int i => exact .base (.int i)
  | str x => exact .base (.str x)
  | lst h _ => exact tyx_lst h
  | tup h _ => exact tyx_tup h
def isTup : PyData → Bool | .tuple _ => true | _ => false
def isLst : PyData → Bool | .list _ => true | _ => false
def isBool : PyData → Bool | .bool _ => true | _ => false
theorem ki_tup (d : PyData) : PySem.W.kitOne K (.type (tyN d)) (.type "tuple") = some (isTup d) := by
  cases d with
  | none => exact kit_ty (a := "NoneType") (b := "tuple") (r := false) (by decide +kernel)
  | bool _ => exact kit_ty (a := "bool") (b := "tuple") (r := false) (by decide +kernel)
  | int _ => exact kit_ty (a := "int") (b := "tuple") (r := false) (by decide +kernel)
  | str _ => exact kit_ty (a := "str") (b := "tuple") (r := false) (by decide +kernel)
  | list _ => exact kit_ty (a := "list") (b := "tuple") (r := false) (by decide +kernel)
  | tuple _ => exact kit_ty (a := "tuple") (b := "tuple") (r := true) (by decide +kernel)
  | dict _ => exact kit_ty (a := "dict") (b := "tuple") (r := false) (by decide +kernel)
theorem ki_lst (d : PyData) : PySem.W.kitOne K (.type (tyN d)) (.type "list") = some (isLst d) := by
  cases d with
  | none => exact kit_ty (a := "NoneType") (b := "list") (r := false) (by decide +kernel)
  | bool _ => exact kit_ty (a := "bool") (b := "list") (r := false) (by decide +kernel)
  | int _ => exact kit_ty (a := "int") (b := "list") (r := false) (by decide +kernel)
  | str _ => exact kit_ty (a := "str") (b := "list") (r := false) (by decide +kernel)
  | list _ => exact kit_ty (a := "list") (b := "list") (r := true) (by decide +kernel)
  | tuple _ => exact kit_ty (a := "tuple") (b := "list") (r := false) (by decide +kernel)
  | dict _ => exact kit_ty (a := "dict") (b := "list") (r := false) (by decide +kernel)
theorem ki_bool (d : PyData) : PySem.W.kitOne K (.type (tyN d)) (.type "bool") = some (isBool d) := by
  cases d with
  | none => exact kit_ty (a := "NoneType") (b := "bool") (r := false) (by decide +kernel)
  | bool _ => exact kit_ty (a := "bool") (b := "bool") (r := true) (by decide +kernel)
  | int _ => exact kit_ty (a := "int") (b := "bool") (r := false) (by decide +kernel)
  | str _ => exact kit_ty (a := "str") (b := "bool") (r := false) (by decide +kernel)
  | list _ => exact kit_ty (a := "list") (b := "bool") (r := false) (by decide +kernel)
  | tuple _ => exact kit_ty (a := "tuple") (b := "bool") (r := false) (by decide +kernel)
  | dict _ => exact kit_ty (a := "dict") (b := "bool") (r := false) (by decide +kernel)
theorem ki_tl (d : PyData) : PySem.W.kitAny K (.type (tyN d)) [.type "tuple", .type "list"] = some (isTup d || isLst d) := by
  refine kitAny_cons (ki_tup d) (fun e => ?_) fun e => by rw [e]; rfl
  refine kitAny_cons (ki_lst d) (fun e2 => ?_) fun e2 => by rw [e, e2]; rfl
  rw [e, e2]; rfl
theorem r_isiT {H : Hp} {v : V} {d : PyData} {tp : Addr} {Q : VK} (h : H tp = some (.tup [.ty "tuple", .ty "list"])) (hd : Dp K H v d) (q : Q (.bl (isTup d || isLst d)) H) : rIsiT K [v, .ref tp] H Q :=
  ⟨v, tp, [.ty "tuple", .ty "list"], _, [.type "tuple", .type "list"], _, rfl, h, .cons (.ty "tuple") (.cons (.ty "list") .nil), ty_of hd, ki_tl d, q⟩
def scal1 : PyData → Prop
  | .none => True
  | .bool _ => True
  | .int _ => True
  | .str x => PyData.strOk x = true
  | _ => False
def okd : Nat → PyData → Prop
  | 0, d => scal1 d
  | n + 1, d => scal1 d ∨ ∃ ds, (d = .tuple ds ∨ d = .list ds) ∧ ds.length ≤ 100000 ∧ ∀ e ∈ ds, okd n e
theorem scal1_tl {d : PyData} (h : scal1 d) : (isTup d || isLst d) = false := by cases d <;> first | rfl | exact h.elim
theorem scal1_eqv {d : PyData} (h : scal1 d) : PyData.eqv d d = true := by
  cases d with
  | none => rfl
  | bool b => cases b <;> rfl
  | int i => simp [PyData.eqv]
  | str x => simp [PyData.eqv]
  | list _ => exact h.elim
  | tuple _ => exact h.elim
  | dict _ => exact h.elim
theorem scal1_sh {d : PyData} (h : scal1 d) : SeqAt.shaped d = true := by
  cases d <;> first | exact h.elim | (simp [SeqAt.shaped, PyData.canLay0, PyData.depth]; done) | (simp [SeqAt.shaped, PyData.canLay0, PyData.depth]; exact h)
theorem walk_zipT {p q : Addr} {xs ys : List V} {n : Nat} (hn : n = min xs.length ys.length) : Walk (RZ.ItzT K p q) n (fun H => SqT K H p xs ∧ SqT K H q ys) (YPair (fun i => xs[i]?) (fun i => ys[i]?)) := by
  subst hn
  refine ⟨fun i _ hi h => ?_, fun _ h => ⟨xs, ys, h.1, h.2, by omega⟩, fun i H v H' _ h y => ?_⟩
  · have h1 : i < xs.length := by omega
    have h2 : i < ys.length := by omega
    exact ⟨xs, ys, xs[i], ys[i], h.1, h.2, by simp [h1], by simp [h2]⟩
  · obtain ⟨T, x, z, h1, h2, h3, h4, h5⟩ := y
    exact ⟨T, x, z, h1, h2, h3, h4 xs h.1, h5 ys h.2⟩
theorem bools_true {H : Hp} {xs : List V} {n : Nat} (h : DpAll K H xs ((List.range n).filterMap fun _ => some (PyData.bool true))) : ∃ bs : List Bool, xs = bs.map V.bl ∧ bs.all id = true := by
  generalize List.range n = l at h
  induction l generalizing xs with
  | nil => cases h; exact ⟨[], rfl, rfl⟩
  | cons z l ih =>
    cases h with
    | cons h t =>
      obtain ⟨bs, rfl, e⟩ := ih t
      cases h
      exact ⟨true :: bs, rfl, by simpa using e⟩
def sp__law_is (K : PySem.W.Frag) (n : Nat) : Sp := fun vs H Q _ => ∃ (v u : V) (d : PyData), vs = [v, u] ∧ okd n d ∧ Dp K H v d ∧ Dp K H u d ∧ ∀ H', G none H H' → Q (.bl true) H'
theorem ok__law_is (T : Txt K mg a) : ∀ n : Nat, FnOk P w K mg base CX0 (n + 1) a.f__law_is a.d__law_is P__law_is (sp__law_is K n)
  | 0 => by
    refine T.F__law_is.ok sc__law_is (fun vs H Q E h => by obtain ⟨v, u, d, rfl, _⟩ := h; rfl) (fun cdv A outer s H vs Q E hr h => ?_)
    obtain ⟨v, u, d, rfl, od, hv, hu, k⟩ := h
    have od : scal1 d := od
    refine ⟨_, (pss_cons (ps_if (pt_val (pe_callB call_isiT (by rfl) T.n_isinstance (by decide +kernel) (pa_cons (pv 1) (pa_cons (pe_tupN (pa_cons (pe_bltn (v := .ty "tuple") (u := .type "tuple") rfl T.n_tuple (by decide +kernel) rfl) (pa_cons (pe_bltn (v := .ty "list") (u := .type "list") rfl T.n_list (by decide +kernel) rfl) pa_nil))) pa_nil)))) pss_never pss_nil) (pss_one (ps_ret (pe_and (pe_cmpR op_eq (pe_callB call_isi (by rfl) T.n_isinstance (by decide +kernel) (pa_cons (pv 0) (pa_cons (pe_bltn (v := .ty "bool") (u := .type "bool") rfl T.n_bool (by decide +kernel) rfl) pa_nil))) (pe_callB call_isi (by rfl) T.n_isinstance (by decide +kernel) (pa_cons (pv 1) (pa_cons (pe_bltn (v := .ty "bool") (u := .type "bool") rfl T.n_bool (by decide +kernel) rfl) pa_nil))) (nomark _)) (pe_one (pe_cmpR (op_eqD hr.units) (pv 0) (pv 1) (nomark _))))))), ?_⟩
    walk_at "ws"
    refine ⟨sz (by simp), fun p H1 hp g1 h1 => ?_⟩
    have g1 := g1 none
    walk_at "ws"
    refine r_isiT h1 ((dp_n g1).1 _ _ hu) ?_
    rw [scal1_tl od]
    walk_at "ws"
    refine r_isi (ty_of ((dp_n g1).1 _ _ hv)) (ki_bool d) ?_
    walk_at "ws"
    refine r_isi (ty_of ((dp_n g1).1 _ _ hu)) (ki_bool d) ?_
    walk_at "ws"
    refine w_iteE (by simp) ?_
    walk_at "ws"
    refine ⟨d, d, (dp_n g1).1 _ _ hv, (dp_n g1).1 _ _ hu, scal1_sh od, scal1_sh od, ?_⟩
    rw [scal1_eqv od]
    exact k _ g1
  | n + 1 => by
    have ih : FnOk P w K mg base CX0 (n + 1) a.f__law_is a.d__law_is P__law_is (sp__law_is K n) := ok__law_is T n
    refine T.F__law_is.ok sc__law_is (fun vs H Q E h => by obtain ⟨v, u, d, rfl, _⟩ := h; rfl) (fun cdv A outer s H vs Q E hr h => ?_)
    obtain ⟨v, u, d, rfl, od, hv, hu, k⟩ := h
    refine ⟨_, (pss_cons (ps_if (pt_val (pe_callB call_isiT (by rfl) T.n_isinstance (by decide +kernel) (pa_cons (pv 1) (pa_cons (pe_tupN (pa_cons (pe_bltn (v := .ty "tuple") (u := .type "tuple") rfl T.n_tuple (by decide +kernel) rfl) (pa_cons (pe_bltn (v := .ty "list") (u := .type "list") rfl T.n_list (by decide +kernel) rfl) pa_nil))) pa_nil))))
    (pss_cons (ps_if (L2.PW.pt (pw_or (pt_cmpR op_ne (pe_callB call_isi (by rfl) T.n_isinstance (by decide +kernel) (pa_cons (pv 0) (pa_cons (pe_bltn (v := .ty "tuple") (u := .type "tuple") rfl T.n_tuple (by decide +kernel) rfl) pa_nil))) (pe_callB call_isi (by rfl) T.n_isinstance (by decide +kernel) (pa_cons (pv 1) (pa_cons (pe_bltn (v := .ty "tuple") (u := .type "tuple") rfl T.n_tuple (by decide +kernel) rfl) pa_nil))) (nomark _)) (pw_or1 (pt_not (pt_val (pe_callB call_isiT (by rfl) T.n_isinstance (by decide +kernel) (pa_cons (pv 0) (pa_cons (pe_tupN (pa_cons (pe_bltn (v := .ty "tuple") (u := .type "tuple") rfl T.n_tuple (by decide +kernel) rfl) (pa_cons (pe_bltn (v := .ty "list") (u := .type "list") rfl T.n_list (by decide +kernel) rfl) pa_nil))) pa_nil))))))))
    (pss_one (ps_ret pe_bl))
    pss_nil)
  (pss_one (ps_ret (pe_and (pe_cmpR op_eq (pe_callB call_len_seq (by rfl) T.n_len (by decide +kernel) (pa_cons (pv 0) pa_nil)) (pe_callB call_len_seq (by rfl) T.n_len (by decide +kernel) (pa_cons (pv 1) pa_nil)) (nomark _)) (pe_one (pe_callB (cr_all rfl) (by rfl) T.n_all (by decide +kernel) (pa_cons (pe_lc (own := [("_law_one", 2), ("_law_two", 3)]) (g := (gTup K 2 (gCons (gName 2) (gCons (gName 3) gNil)))) (tt := tYes) rfl sc__law_is.nd (RZ.pi_zipA (by rfl) T.n_zip (pa_cons (pv 0) (pa_cons (pv 1) pa_nil))) (blkOk_by (N := N__law_is) (sc := defScope s__law_is) (by decide +kernel)) (fun _ _ _ _ _ => (pg_tup rfl (pgs_cons (pg_name (i := 2) sc__law_is.nd rfl (by first | exact Or.inl rfl | exact Or.inr rfl)) (pgs_cons (pg_name (i := 3) sc__law_is.nd rfl (by first | exact Or.inl rfl | exact Or.inr rfl)) pgs_nil)))) (fun _ _ _ _ _ => pts_nil) (fun _ _ _ _ _ => (pe_call ih (hr.mono (by omega)) rfl T.m__law_is T.F__law_is.kp T.b__law_is .nil pass0 (pa_cons (pv 2) (pa_cons (pv 3) pa_nil))))) pa_nil)))))))
    pss_nil)
  (pss_one (ps_ret (pe_and (pe_cmpR op_eq (pe_callB call_isi (by rfl) T.n_isinstance (by decide +kernel) (pa_cons (pv 0) (pa_cons (pe_bltn (v := .ty "bool") (u := .type "bool") rfl T.n_bool (by decide +kernel) rfl) pa_nil))) (pe_callB call_isi (by rfl) T.n_isinstance (by decide +kernel) (pa_cons (pv 1) (pa_cons (pe_bltn (v := .ty "bool") (u := .type "bool") rfl T.n_bool (by decide +kernel) rfl) pa_nil))) (nomark _)) (pe_one (pe_cmpR (op_eqD hr.units) (pv 0) (pv 1) (nomark _))))))), ?_⟩
    walk_at "ws"
    refine ⟨sz (by simp), fun p H1 hp g1 h1 => ?_⟩
    have g1 := g1 none
    walk_at "ws"
    refine r_isiT h1 ((dp_n g1).1 _ _ hu) ?_
    rcases od with od | ⟨ds, od, hz, hds⟩
    · rw [scal1_tl od]
      walk_at "ws"
      refine r_isi (ty_of ((dp_n g1).1 _ _ hv)) (ki_bool d) ?_
      walk_at "ws"
      refine r_isi (ty_of ((dp_n g1).1 _ _ hu)) (ki_bool d) ?_
      walk_at "ws"
      refine w_iteE (by simp) ?_
      walk_at "ws"
      refine ⟨d, d, (dp_n g1).1 _ _ hv, (dp_n g1).1 _ _ hu, scal1_sh od, scal1_sh od, ?_⟩
      rw [scal1_eqv od]
      exact k _ g1
    · have e1 : (isTup d || isLst d) = true := by rcases od with rfl | rfl <;> rfl
      rw [e1]
      have hv1 := (dp_n g1).1 _ _ hv
      have hu1 := (dp_n g1).1 _ _ hu
      walk_at "ws"
      refine r_isi (ty_of hv1) (ki_tup d) ?_
      walk_at "ws"
      refine r_isi (ty_of hu1) (ki_tup d) ?_
      walk_at "ws"
      refine w_iteN (by simp) ?_
      walk_at "ws"
      refine ⟨sz (by simp), fun p2 H2 hp2 g2 h2 => ?_⟩
      have g2 := g2 none
      have hv2 := (dp_n g2).1 _ _ hv1
      have hu2 := (dp_n g2).1 _ _ hu1
      have g12 := g1.trans g2
      walk_at "ws"
      refine r_isiT h2 hv2 ?_
      rw [e1]
      walk_at "ws"
      -- the turn of one pair
      have turn : ∀ (i : Nat) (xs ys : List V) (H3 H4 : Hp) (x : V) (Qy : V → Hp → Prop) (Qn : Hp → Prop), DpAll K H2 xs ds → DpAll K H2 ys ds → G none H2 H3 → YPair (fun i => xs[i]?) (fun i => ys[i]?) i H3 x H4 →
          (∀ y H5 e, G none H3 H5 → Dp K H5 y e → nl e = true → some (PyData.bool true) = some e → Qy y H5) →
          ∃ (t : Addr) (y z : V) (e : PyData), x = .ref t ∧ H4 t = some (.tup [y, z]) ∧ e ∈ ds ∧ Dp K H4 y e ∧ Dp K H4 z e ∧ G none H3 H4 := by
        intro i xs ys H3 H4 x Qy Qn hx hy g3 hY ky
        obtain ⟨t, y, z, rfl, ht, rfl, ey, ez⟩ := hY
        obtain ⟨e, he, hye⟩ := DpAll.get hx ey
        obtain ⟨e', he', hze⟩ := DpAll.get hy ez
        rw [he] at he'; cases he'
        have g4 : G none H3 (upd H3 t (.tup [y, z])) := G.alloc ht
        exact ⟨t, y, z, e, rfl, upd_same, List.mem_of_getElem? he, (dp_n (g3.trans g4)).1 _ _ hye, (dp_n (g3.trans g4)).1 _ _ hze, g4⟩
      rcases od with rfl | rfl
      · obtain ⟨p3, xs, rfl, hxs, hxd⟩ := dp_tup hv2
        obtain ⟨p4, ys, rfl, hys, hyd⟩ := dp_tup hu2
        walk_at "ws"
        refine ⟨p3, xs, rfl, .inr hxs, ?_⟩
        walk_at "ws"
        refine ⟨p4, ys, rfl, .inr hys, ?_⟩
        walk_at "ws"
        have lx := DpAll.length hxd
        have ly := DpAll.length hyd
        refine w_iteE (by simp [lx, ly]) ?_
        walk_at "ws"
        refine ⟨p3, p4, xs, ys, rfl, .inr ⟨hxs, hys, ?_⟩⟩
        intro D hD
        refine lc_pure (K := K) (o := none) (walk_zipT (xs := xs) (ys := ys) rfl) (by omega) hD (fun _ e => nomatch e) (fun _ => some (PyData.bool true)) (fun H' g => ⟨sqT_t g.tups hxs, sqT_t g.tups hys⟩) ?_ ?_
        · intro i x H3 H4 hi g3 hY Qy Qn ky kn
          obtain ⟨t, y, z, e, rfl, h4, me, hy4, hz4, g4⟩ := turn i xs ys H3 H4 x Qy Qn hxd hyd g3 hY ky
          refine ⟨t, _, rfl, SqT.of h4, rfl, ?_⟩
          refine ⟨_, _, rfl, ?_⟩
          walk_at "ws"
          refine ⟨_, _, rfl, ?_⟩
          walk_at "ws"
          refine ⟨rfl, rfl, ?_⟩
          walk_at "ws"
          exact ⟨y, z, e, rfl, hds e me, hy4, hz4, fun H5 g5 => ky _ _ _ (g4.trans g5) (.bl true) rfl rfl⟩
        · intro xs' H' g hD' hds' _
          obtain ⟨bs, rfl, eb⟩ := bools_true hds'
          walk_at "ws"
          refine ⟨D, bs, rfl, SqL.of hD', ?_⟩
          rw [eb]
          exact k _ (g12.trans g)
      · cases hv2 with
        | lst hxs hxd =>
          cases hu2 with
          | lst hys hyd =>
            rename_i p3 xs p4 ys
            walk_at "ws"
            refine ⟨p3, xs, rfl, .inl hxs, ?_⟩
            walk_at "ws"
            refine ⟨p4, ys, rfl, .inl hys, ?_⟩
            walk_at "ws"
            have lx := DpAll.length hxd
            have ly := DpAll.length hyd
            refine w_iteE (by simp [lx, ly]) ?_
            walk_at "ws"
            refine ⟨p3, p4, xs, ys, rfl, .inl ⟨hxs, hys, ?_⟩⟩
            intro D hD
            refine lc_pure (K := K) (o := none) (walk_zip (xs := xs) (ys := ys) rfl) (by omega) hD (fun _ e => nomatch e) (fun _ => some (PyData.bool true)) (fun H' g => ⟨sqL_n g hxs, sqL_n g hys⟩) ?_ ?_
            · intro i x H3 H4 hi g3 hY Qy Qn ky kn
              obtain ⟨t, y, z, e, rfl, h4, me, hy4, hz4, g4⟩ := turn i xs ys H3 H4 x Qy Qn hxd hyd g3 hY ky
              refine ⟨t, _, rfl, SqT.of h4, rfl, ?_⟩
              refine ⟨_, _, rfl, ?_⟩
              walk_at "ws"
              refine ⟨_, _, rfl, ?_⟩
              walk_at "ws"
              refine ⟨rfl, rfl, ?_⟩
              walk_at "ws"
              exact ⟨y, z, e, rfl, hds e me, hy4, hz4, fun H5 g5 => ky _ _ _ (g4.trans g5) (.bl true) rfl rfl⟩
            · intro xs' H' g hD' hds' _
              obtain ⟨bs, rfl, eb⟩ := bools_true hds'
              walk_at "ws"
              refine ⟨D, bs, rfl, SqL.of hD', ?_⟩
              rw [eb]
              exact k _ (g12.trans g)

end
end Mine
/-! ## K20 -/


namespace Mine
section
variable {P : Program} {w : World} {K : PySem.W.Frag} {mg : Str → Option Value} {base : Heap} {a : Ads}

/-! ### steps, whatever they are -/
def headT : List Tg → Tg
  | t :: _ => t
  | [] => .non
def strIs (w : PySem.Str) : Tg → Bool
  | .str s => decide (s = w)
  | _ => false
/-- a tuple of n things, the word w ahead -/
def worded (w : PySem.Str) (n : Int) : Tg → Bool
  | .tup ts => decide ((ts.length : Int) = n) && strIs w (headT ts)
  | _ => false
theorem worded_f {w : PySem.Str} {n : Int} {t : Tg} (e : tsz n n t = false) : worded w n t = false := by
  cases t with
  | tup ts =>
    have e : (decide (n ≤ (ts.length : Int)) && decide ((ts.length : Int) ≤ n)) = false := e
    have ne : ¬ (ts.length : Int) = n := fun z => by
      rw [decide_eq_true (by omega), decide_eq_true (by omega)] at e
      cases e
    show (decide _ && _) = false
    rw [decide_eq_false ne]
    rfl
  | non => rfl
  | bl _ => rfl
  | int _ => rfl
  | str _ => rfl
  | oth => rfl
theorem strIs_f {w : PySem.Str} {t : Tg} (e : isT "str" t = false) : strIs w t = false := by
  cases t <;> first | rfl | exact Bool.noConfusion (show true = false from e)
theorem str_inv {C hd : Addr} {H : Hp} {v : V} {t : Tg} (h : Ab C hd H v t) (e : isT "str" t = true) : ∃ s, t = .str s ∧ v = .str s := by
  cases h <;> first | exact ⟨_, rfl, rfl⟩ | exact Bool.noConfusion (show false = true from e)
theorem tup_sz {n : Int} {C hd : Addr} {H : Hp} {v : V} {t : Tg} (h : Ab C hd H v t) (e : tsz n n t = true) : ∃ p xs ts, v = .ref p ∧ t = .tup ts ∧ Rd H p (.tup xs) ∧ AbAll C hd H xs ts ∧ (ts.length : Int) = n := by
  cases h with
  | tup r al =>
    rename_i a xs ts
    have e : (decide (n ≤ (ts.length : Int)) && decide ((ts.length : Int) ≤ n)) = true := e
    simp only [Bool.and_eq_true, decide_eq_true_eq] at e
    exact ⟨_, _, _, rfl, rfl, r, al, by omega⟩
  | non => exact Bool.noConfusion (show false = true from e)
  | bl _ => exact Bool.noConfusion (show false = true from e)
  | int _ => exact Bool.noConfusion (show false = true from e)
  | str _ => exact Bool.noConfusion (show false = true from e)
  | oth _ _ => exact Bool.noConfusion (show false = true from e)
def sp_is_worded (C : Addr) : Sp := fun vs H Q _ => ∃ (w : PySem.Str) (n : Int) (hd : Addr) (v : V) (t : Tg), vs = [.str w, .int n, v] ∧ 1 ≤ n ∧ Ab C hd H v t ∧ Q (.bl (worded w n t)) H
theorem ok_is_worded (T : Txt K mg a) : FnOk P w K mg base CX0 2 a.f_is_worded a.d_is_worded P_is_worded (sp_is_worded a.c_Web) := by
  refine T.F_is_worded.ok sc_is_worded (fun vs H Q E h => by obtain ⟨w, n, hd, v, t, rfl, _⟩ := h; rfl) (fun cdv A outer s H vs Q E hr h => ?_)
  obtain ⟨w', n, hd, v, t, rfl, n1, ha, k⟩ := h
  have G_is_tuple_of : FnOk P w K mg base CX0 1 a.f_is_tuple_of a.d_is_tuple_of P_is_tuple_of (sp_is_tuple_of a.c_Web) := ok_is_tuple_of T
  refine ⟨_, (pss_one (ps_ret (pe_and (pe_call (G_is_tuple_of) (hr.mono (by omega)) rfl T.m_is_tuple_of T.F_is_tuple_of.kp T.b_is_tuple_of .nil pass0 (pa_cons (pv 1) (pa_cons (pv 1) (pa_cons (pv 2) pa_nil)))) (pe_and (pe_callB call_isi (by rfl) T.n_isinstance (by decide +kernel) (pa_cons (pe_ix ix_tup (pv 2) pe_int (fun _ _ => rfl)) (pa_cons (pe_bltn (v := .ty "str") (u := .type "str") rfl T.n_str (by decide +kernel) rfl) pa_nil))) (pe_one (pe_cmpR op_eq (pe_ix ix_tup (pv 2) pe_int (fun _ _ => rfl)) (pv 0) (nomark _))))))), ?_⟩
  walk_at "ws"
  refine ⟨n, n, hd, v, t, rfl, ha, ?_⟩
  walk_at "ws"
  refine w_ite (fun e => ?_) (fun e => ?_)
  · obtain ⟨p, xs, ts, rfl, rfl, r, al, ln⟩ := tup_sz ha e
    have e2 : worded w' n (.tup ts) = strIs w' (headT ts) := by
      show (decide ((ts.length : Int) = n) && _) = _
      rw [decide_eq_true ln, Bool.true_and]
    rw [e2] at k
    obtain ⟨t0, ts', rfl⟩ : ∃ t0 ts', ts = t0 :: ts' := by
      cases ts with
      | nil => simp at ln; omega
      | cons x y => exact ⟨x, y, rfl⟩
    obtain ⟨v0, hv0, a0⟩ := al.get' (show (t0 :: ts')[0]? = some t0 from rfl)
    walk_at "ws"
    refine r_ixT (.inl r) (v := v0) (at_of (j := 0) (by omega) hv0) ?_
    walk_at "ws"
    refine ab_isi T.ik a0 (.inr (.inr (.inl rfl))) ?_
    walk_at "ws"
    refine w_ite (fun e3 => ?_) (fun e3 => ?_)
    · obtain ⟨s, rfl, rfl⟩ := str_inv a0 e3
      walk_at "ws"
      refine r_ixT (.inl r) (v := .str s) (at_of (j := 0) (by omega) hv0) ?_
      walk_at "ws"
      refine ⟨rfl, ?_⟩
      have e4 : decide (V.str s = V.str w') = decide (s = w') := by simp
      rw [e4]
      exact k
    · have z := strIs_f (w := w') e3
      rw [show headT (t0 :: ts') = t0 from rfl, z] at k

      exact k
  · rw [worded_f e] at k

    exact k

end
end Mine
/-! ## PT -/
end
namespace Mine
open PySem L2 GA
/-! ### any thing as a step -/
def toStp (m many : Int) : Tg → Option Stp
  | .tup [.str w, .int p] => if w = "put" ∧ 0 ≤ p ∧ p < many then some (.put p) else none
  | .tup [.str w, .int y, .int x] => if w = "come" ∧ (0 ≤ y ∧ y < m) ∧ (0 ≤ x ∧ x < m) then some (.come y x) else none
  | _ => none
def stepT (m : Int) (W : List (Int × Int)) (ws : List Int) (s : LS) (t : Tg) : Option LS := (toStp m ws.length t).bind (led1 W ws s)
/-- the first thing that can't be done, or where all led to -/
def goT (m : Int) (W : List (Int × Int)) (ws : List Int) : LS → List Tg → Nat → Nat ⊕ LS
  | s, [], _ => .inr s
  | s, t :: ts, i => match stepT m W ws s t with
    | none => .inl i
    | some s' => goT m W ws s' ts (i + 1)
theorem two_of {t : Tg} (e : tsz 2 2 t = true) : ∃ a b, t = .tup [a, b] := tsz_two e
theorem three_of {t : Tg} (e : tsz 3 3 t = true) : ∃ a b c, t = .tup [a, b, c] := by
  cases t with
  | tup ts =>
    have e : (decide ((3 : Int) ≤ (ts.length : Int)) && decide ((ts.length : Int) ≤ 3)) = true := e
    simp only [Bool.and_eq_true, decide_eq_true_eq] at e
    match ts, e with
    | [_, _, _], _ => exact ⟨_, _, _, rfl⟩
    | [], e => simp at e
    | [_], e => simp at e
    | [_, _], e => simp at e
    | _ :: _ :: _ :: _ :: l, e => simp at e; omega
  | non => exact Bool.noConfusion (show false = true from e)
  | bl _ => exact Bool.noConfusion (show false = true from e)
  | int _ => exact Bool.noConfusion (show false = true from e)
  | str _ => exact Bool.noConfusion (show false = true from e)
  | oth => exact Bool.noConfusion (show false = true from e)
theorem worded_inv {w : Str} {n : Int} {t : Tg} (e : worded w n t = true) (n0 : 0 < n) : ∃ ts, t = .tup (.str w :: ts) ∧ (ts.length : Int) + 1 = n := by
  cases t with
  | tup ts =>
    have e : (decide ((ts.length : Int) = n) && strIs w (headT ts)) = true := e
    simp only [Bool.and_eq_true, decide_eq_true_eq] at e
    obtain ⟨e1, e2⟩ := e
    match ts, e1, e2 with
    | [], e1, _ => simp at e1; omega
    | .str z :: ts, e1, e2 =>
      have e2 : decide (z = w) = true := e2
      have e2 := of_decide_eq_true e2
      subst e2
      exact ⟨ts, rfl, by simpa using e1⟩
    | .non :: _, _, e2 => exact Bool.noConfusion (show false = true from e2)
    | .bl _ :: _, _, e2 => exact Bool.noConfusion (show false = true from e2)
    | .int _ :: _, _, e2 => exact Bool.noConfusion (show false = true from e2)
    | .tup _ :: _, _, e2 => exact Bool.noConfusion (show false = true from e2)
    | .oth :: _, _, e2 => exact Bool.noConfusion (show false = true from e2)
  | non => exact Bool.noConfusion (show false = true from e)
  | bl _ => exact Bool.noConfusion (show false = true from e)
  | int _ => exact Bool.noConfusion (show false = true from e)
  | str _ => exact Bool.noConfusion (show false = true from e)
  | oth => exact Bool.noConfusion (show false = true from e)
theorem worded_put {t : Tg} (e : worded "put" 2 t = true) : ∃ b, t = .tup [.str "put", b] := by
  obtain ⟨ts, rfl, l⟩ := worded_inv e (by decide)
  match ts, l with
  | [b], _ => exact ⟨b, rfl⟩
  | [], l => simp at l
  | _ :: _ :: _, l => simp at l; omega
theorem worded_come {t : Tg} (e : worded "come" 3 t = true) : ∃ b c, t = .tup [.str "come", b, c] := by
  obtain ⟨ts, rfl, l⟩ := worded_inv e (by decide)
  match ts, l with
  | [b, c], _ => exact ⟨b, c, rfl⟩
  | [], l => simp at l
  | [_], l => simp at l
  | _ :: _ :: _ :: _, l => simp at l; omega
/-- what has no form is no step -/
theorem toStp_no {m many : Int} {t : Tg} (e1 : worded "put" 2 t = false) (e2 : worded "come" 3 t = false) : toStp m many t = none := by
  unfold toStp
  split
  · rename_i w p
    rw [if_neg]
    rintro ⟨rfl, _⟩
    exact Bool.noConfusion (show true = false from e1)
  · rename_i w y x
    rw [if_neg]
    rintro ⟨rfl, _⟩
    exact Bool.noConfusion (show true = false from e2)
  · rfl
theorem put_int {many : Int} {b : Tg} (e : blw many b = true) : ∃ p, b = .int p ∧ 0 ≤ p ∧ p < many := by
  obtain ⟨p, rfl⟩ := blw_int e
  have e : (decide (0 ≤ p) && decide (p < many)) = true := e
  simp only [Bool.and_eq_true, decide_eq_true_eq] at e
  exact ⟨p, rfl, e⟩
theorem toStp_put {m many p : Int} (h : 0 ≤ p ∧ p < many) : toStp m many (.tup [.str "put", .int p]) = some (.put p) := if_pos ⟨rfl, h⟩
theorem toStp_put_f {m many : Int} {b : Tg} (e : blw many b = false) : toStp m many (.tup [.str "put", b]) = none := by
  unfold toStp
  split
  · rename_i w p h
    cases h
    rw [if_neg]
    rintro ⟨_, c⟩
    have e : (decide (0 ≤ p) && decide (p < many)) = false := e
    rw [decide_eq_true c.1, decide_eq_true c.2] at e
    cases e
  · rename_i h; cases h
  · rfl
theorem toStp_come {m many y x : Int} (h : (0 ≤ y ∧ y < m) ∧ (0 ≤ x ∧ x < m)) : toStp m many (.tup [.str "come", .int y, .int x]) = some (.come y x) := if_pos ⟨rfl, h⟩
theorem pr_inv {m : Int} {b c : Tg} (e : pr m (.tup [b, c]) = true) : ∃ y x, b = .int y ∧ c = .int x ∧ ((0 ≤ y ∧ y < m) ∧ (0 ≤ x ∧ x < m)) ∧ y ≠ x := by
  unfold pr at e
  split at e
  · rename_i y x h
    cases h
    have e : ((decide (0 ≤ y) && decide (y < m)) && (decide (0 ≤ x) && decide (x < m)) && !decide (y = x)) = true := e
    simp only [Bool.and_eq_true, decide_eq_true_eq, Bool.not_eq_true', decide_eq_false_iff_not] at e
    exact ⟨y, x, rfl, rfl, ⟨e.1.1, e.1.2⟩, e.2⟩
  · cases e
theorem come_f {m : Int} {W : List (Int × Int)} {ws : List Int} {s : LS} {b c : Tg} (un : ∀ u ∈ W, u.1 ≠ u.2) (e : pr m (.tup [b, c]) = false) : stepT m W ws s (.tup [.str "come", b, c]) = none := by
  unfold stepT
  cases h : toStp m ws.length (.tup [.str "come", b, c]) with
  | none => rfl
  | some st =>
    unfold toStp at h
    split at h
    · rename_i z; cases z
    · rename_i w y x z
      cases z
      split at h
      · rename_i k
        cases h
        obtain ⟨_, k1, k2⟩ := k
        have e : ((decide (0 ≤ y) && decide (y < m)) && (decide (0 ≤ x) && decide (x < m)) && !decide (y = x)) = false := e
        rw [decide_eq_true k1.1, decide_eq_true k1.2, decide_eq_true k2.1, decide_eq_true k2.2] at e
        have eyx : y = x := by simpa using e
        subst eyx
        show led1 W ws s (.come y y) = none
        show (if (y, y) ∈ W then _ else none) = none
        rw [if_neg fun hm => un _ hm rfl]
      · cases h
    · cases h
/-- the step's form, as the law tells it -/
def isS (m many : Int) (t : Tg) : Bool := (toStp m many t).isSome
theorem isS_inv {m many : Int} {t : Tg} (e : isS m many t = true) : (∃ p, t = .tup [.str "put", .int p] ∧ 0 ≤ p ∧ p < many) ∨ ∃ y x, t = .tup [.str "come", .int y, .int x] ∧ (0 ≤ y ∧ y < m) ∧ (0 ≤ x ∧ x < m) := by
  unfold isS toStp at e
  split at e
  · split at e
    · rename_i k
      obtain ⟨rfl, k⟩ := k
      exact .inl ⟨_, rfl, k⟩
    · cases e
  · split at e
    · rename_i k
      obtain ⟨rfl, k⟩ := k
      exact .inr ⟨_, _, rfl, k⟩
    · cases e
  · cases e
end Mine
/-! ## K21 -/
section
open PySem L2 GA
local macro_rules
  | `(tactic| walk_at "w") => `(tactic| first
    | ((with_reducible refine' GA.w_var ?e ?_); (case e => exact rfl))
    | (with_reducible refine' GA.w_c ?_)
    | (with_reducible refine' GA.w_cons ?_)
    | (with_reducible refine' GA.w_nil ?_)
    | (with_reducible refine' GA.w_op ?_)
    | (with_reducible refine' GA.r_I0 ?_)
    | (with_reducible refine' GA.w_bl ?_)
    | (with_reducible refine' GA.w_seq ?_)
    | (with_reducible refine' GA.w_set ?_)
    | (with_reducible refine' GA.w_ret ?_)
    | (with_reducible refine' GA.w_ifS ?_)
    | (with_reducible refine' GA.w_test ?_)
    | (with_reducible refine' GA.w_tB ?_)
    | (with_reducible refine' GA.w_not ?_)
    | (with_reducible refine' GA.w_and ?_)
    | (with_reducible refine' GA.w_or ?_)
    | (with_reducible refine' GA.w_andV ?_)
    | (with_reducible refine' GA.w_orV ?_)
    | (with_reducible refine' GA.w_notV ?_)
    | (with_reducible refine' GA.w_blc ?_)
    | (with_reducible refine' GA.w_if ?_)
    | (with_reducible refine' GA.w_CB ?_)
    | (with_reducible refine' GA.w_call ?_)
    | (with_reducible refine' GA.w_tupN ?_)
    | (with_reducible refine' GA.w_lstN ?_)
    | (with_reducible refine' GA.w_chain ?_)
    | (with_reducible refine' GA.w_drop ?_)
    | (with_reducible refine' GA.w_next ?_)
    | (with_reducible refine' GA.w_break ?_)
    | (with_reducible refine' GA.w_un ?_)
    | (with_reducible refine' GA.r_U ?_)
    | (with_reducible refine' GA.r_eqI ?_)
    | (with_reducible refine' GA.r_neI ?_)
    | (with_reducible refine' GA.r_eqB ?_)
    | (with_reducible refine' GA.r_neB ?_)
    | (with_reducible refine' GA.w_fld ?_)
    | (with_reducible refine' GA.w_sfld ?_)
    | (with_reducible refine' GA.w_sl ?_)
    | (with_reducible refine' GA.w_part ?_)
    | (with_reducible refine' GA.w_noPart ?_)
    | (with_reducible refine' GA.w_inti ?_)
    | (with_reducible refine' GA.w_retN ?_)
    | (with_reducible refine' GA.w_gsub ?_)
    | (with_reducible refine' GA.w_gname ?_)
    | (with_reducible refine' L2.iteT ?_)
    | (with_reducible refine' L2.iteF ?_)
    | (with_reducible refine' GA.w_nt ?_)
    | (with_reducible refine' GA.w_nf ?_)
    | (with_reducible refine' GA.w_isN ?_)
    | (with_reducible refine' GA.w_notN ?_)
    | (with_reducible refine' GA.w_yes ?_)
    | (with_reducible refine' GA.w_lc ?_)
    | (with_reducible refine' GA.w_lc2 ?_)
    | (with_reducible refine' GA.w_iseq ?_)
    | (with_reducible refine' GA.w_make ?_)
    | (with_reducible refine' GA.w_for ?_)
    | (with_reducible refine' GA.w_rng1 ?_)
    | (with_reducible refine' GA.w_rng2 ?_)
    | (with_reducible refine' GA.w_itup ?_)
    | (with_reducible refine' GA.w_ilist ?_)
    | (with_reducible refine' GA.w_ienum ?_)
    | (with_reducible refine' GA.w_BM ?_)
    | (with_reducible refine' GA.w_BM0 ?_)
    | (with_reducible refine' GA.w_izip ?_)
    | (with_reducible refine' GA.w_asg ?_))
  | `(tactic| walk_at "wm") => `(tactic| first
    | ((with_reducible refine' GA.w_var ?e ?_); (case e => exact rfl))
    | (with_reducible refine' GA.w_c ?_)
    | (with_reducible refine' GA.w_cons ?_)
    | (with_reducible refine' GA.w_nil ?_)
    | (with_reducible refine' GA.w_op ?_)
    | (with_reducible refine' GA.r_I0 ?_)
    | (with_reducible refine' GA.w_bl ?_)
    | (with_reducible refine' GA.w_set ?_)
    | (with_reducible refine' GA.w_ret ?_)
    | (with_reducible refine' GA.w_ifS ?_)
    | (with_reducible refine' GA.w_test ?_)
    | (with_reducible refine' GA.w_tB ?_)
    | (with_reducible refine' GA.w_not ?_)
    | (with_reducible refine' GA.w_and ?_)
    | (with_reducible refine' GA.w_or ?_)
    | (with_reducible refine' GA.w_andV ?_)
    | (with_reducible refine' GA.w_orV ?_)
    | (with_reducible refine' GA.w_notV ?_)
    | (with_reducible refine' GA.w_blc ?_)
    | (with_reducible refine' GA.w_if ?_)
    | (with_reducible refine' GA.w_CB ?_)
    | (with_reducible refine' GA.w_call ?_)
    | (with_reducible refine' GA.w_tupN ?_)
    | (with_reducible refine' GA.w_lstN ?_)
    | (with_reducible refine' GA.w_chain ?_)
    | (with_reducible refine' GA.w_drop ?_)
    | (with_reducible refine' GA.w_next ?_)
    | (with_reducible refine' GA.w_break ?_)
    | (with_reducible refine' GA.w_un ?_)
    | (with_reducible refine' GA.r_U ?_)
    | (with_reducible refine' GA.r_eqI ?_)
    | (with_reducible refine' GA.r_neI ?_)
    | (with_reducible refine' GA.r_eqB ?_)
    | (with_reducible refine' GA.r_neB ?_)
    | (with_reducible refine' GA.w_fld ?_)
    | (with_reducible refine' GA.w_sfld ?_)
    | (with_reducible refine' GA.w_sl ?_)
    | (with_reducible refine' GA.w_part ?_)
    | (with_reducible refine' GA.w_noPart ?_)
    | (with_reducible refine' GA.w_inti ?_)
    | (with_reducible refine' GA.w_retN ?_)
    | (with_reducible refine' GA.w_gsub ?_)
    | (with_reducible refine' GA.w_gname ?_)
    | (with_reducible refine' L2.iteT ?_)
    | (with_reducible refine' L2.iteF ?_)
    | (with_reducible refine' GA.w_nt ?_)
    | (with_reducible refine' GA.w_nf ?_)
    | (with_reducible refine' GA.w_isN ?_)
    | (with_reducible refine' GA.w_notN ?_)
    | (with_reducible refine' GA.w_yes ?_)
    | (with_reducible refine' GA.w_lc ?_)
    | (with_reducible refine' GA.w_lc2 ?_)
    | (with_reducible refine' GA.w_iseq ?_)
    | (with_reducible refine' GA.w_make ?_)
    | (with_reducible refine' GA.w_for ?_)
    | (with_reducible refine' GA.w_rng1 ?_)
    | (with_reducible refine' GA.w_rng2 ?_)
    | (with_reducible refine' GA.w_itup ?_)
    | (with_reducible refine' GA.w_ilist ?_)
    | (with_reducible refine' GA.w_ienum ?_)
    | (with_reducible refine' GA.w_BM ?_)
    | (with_reducible refine' GA.w_BM0 ?_)
    | (with_reducible refine' GA.w_izip ?_)
    | (with_reducible refine' GA.w_asg ?_))
  | `(tactic| walk_at "ws") => `(tactic| repeat (walk_at "w"))
  | `(tactic| walk_at "wn") => `(tactic| repeat (walk_at "wm"))


namespace Mine
section
variable {P : Program} {w : World} {K : PySem.W.Frag} {mg : Str → Option Value} {base : Heap} {a : Ads}

/-! ### the post: an object with lists that grow -/
theorem lk_hit {k : Str} {v : V} {l : List (Str × V)} : List.lookup k ((k, v) :: l) = some v := by simp [List.lookup]
theorem lk_skip {k k' : Str} {v : V} {l : List (Str × V)} {r : Option V} (e : (k == k') = false) (h : List.lookup k l = r) : List.lookup k ((k', v) :: l) = r := by simp [List.lookup, e, h]
def pf (m wi wr wn uw : V) : List (Str × V) := [("machines", m), ("wires", wi), ("writers", wr), ("written", wn), ("under_way", uw)]
section
variable {m wi wr wn uw : V}
theorem pf_m : (pf m wi wr wn uw).lookup ("machines" : Str) = some m := lk_hit
theorem pf_wi : (pf m wi wr wn uw).lookup ("wires" : Str) = some wi := lk_skip (by decide +kernel) lk_hit
theorem pf_wr : (pf m wi wr wn uw).lookup ("writers" : Str) = some wr := lk_skip (by decide +kernel) (lk_skip (by decide +kernel) lk_hit)
theorem pf_wn : (pf m wi wr wn uw).lookup ("written" : Str) = some wn := lk_skip (by decide +kernel) (lk_skip (by decide +kernel) (lk_skip (by decide +kernel) lk_hit))
theorem pf_uw : (pf m wi wr wn uw).lookup ("under_way" : Str) = some uw := lk_skip (by decide +kernel) (lk_skip (by decide +kernel) (lk_skip (by decide +kernel) (lk_skip (by decide +kernel) lk_hit)))
theorem pf_no {k : Str} (h1 : (k == "machines") = false) (h2 : (k == "wires") = false) (h3 : (k == "writers") = false) (h4 : (k == "written") = false) (h5 : (k == "under_way") = false) : (pf m wi wr wn uw).lookup k = none :=
  lk_skip h1 (lk_skip h2 (lk_skip h3 (lk_skip h4 (lk_skip h5 rfl))))
end
/-- where a post's parts stand: itself, its dict, the wires, their tuples, the writers, the list of lists, these, the dict, its lists -/
structure PosA where
  q : Addr
  dx : Addr
  wa : Addr
  bs : List Addr
  vp : Addr
  dl : Addr
  rs : List Addr
  ud : Addr
  ls : List Addr
structure PosS (K : PySem.W.Frag) (C : Addr) (n : Int) (W : List (Int × Int)) (ws : List Int) (A : PosA) (H : Hp) (ds lt : List (List Int)) : Prop where
  q : H A.q = some (.ins C A.dx (pf (.int n) (.ref A.wa) (.ref A.vp) (.ref A.dl) (.ref A.ud)))
  wa : SqT K H A.wa (A.bs.map V.ref)
  tup : Da.TupAll H A.bs W
  vp : SqT K H A.vp (ws.map V.int)
  dl : H A.dl = some (.lst (A.rs.map V.ref))
  ud : H A.ud = some (.dT (Da.dtOf W A.ls))
  rs : Da.Lists H A.rs ds
  ls : Da.Lists H A.ls lt
  lw : A.ls.length = W.length
  n1 : A.rs.Nodup
  n2 : A.ls.Nodup
  n3 : ∀ a ∈ A.rs, a ∉ A.ls
  n4 : A.dl ∉ A.rs
  n5 : A.dl ∉ A.ls
/-- all stands but the lists -/
def Fp (A : PosA) (H H' : Hp) : Prop := ∀ a u, a ∉ A.rs → a ∉ A.ls → H a = some u → H' a = some u
theorem Fp.refl {A : PosA} {H : Hp} : Fp A H H := fun _ _ _ _ e => e
theorem Fp.trans {A : PosA} {H H1 H2 : Hp} (a : Fp A H H1) (b : Fp A H1 H2) : Fp A H H2 := fun x u n1 n2 e => b x u n1 n2 (a x u n1 n2 e)
theorem Fp.all {A : PosA} {H H1 : Hp} (g : G none H H1) : Fp A H H1 := fun x u _ _ e => g.all x u e
theorem Fp.g {A : PosA} {H0 H H1 : Hp} (f : Fp A H H1) (g : G none H0 H) (nr : ∀ a ∈ A.rs, H0 a = none) (nl : ∀ a ∈ A.ls, H0 a = none) : G none H0 H1 := G.of_all fun a u e => f a u (fun m => by rw [nr a m] at e; cases e) (fun m => by rw [nl a m] at e; cases e) (g.all a u e)
section
variable {C : Addr} {n : Int} {W : List (Int × Int)} {ws : List Int} {A : PosA} {H H1 : Hp} {ds lt : List (List Int)}
theorem PosS.notRs (s : PosS K C n W ws A H ds lt) {a : Addr} {u : HO} (h : H a = some u) (nu : ∀ d : List Int, u ≠ .lst (d.map V.int)) : a ∉ A.rs := fun m => by
  obtain ⟨i, hi⟩ := List.getElem?_of_mem m
  obtain ⟨d, hd⟩ : ∃ d, ds[i]? = some d := ⟨_, List.getElem?_eq_getElem (by have := (List.getElem?_eq_some_iff.mp hi).1; have := s.rs.1; omega)⟩
  have e := s.rs.2 i a d hi hd
  rw [e] at h
  exact nu d (Option.some.inj h).symm
theorem PosS.notLs (s : PosS K C n W ws A H ds lt) {a : Addr} {u : HO} (h : H a = some u) (nu : ∀ d : List Int, u ≠ .lst (d.map V.int)) : a ∉ A.ls := fun m => by
  obtain ⟨i, hi⟩ := List.getElem?_of_mem m
  obtain ⟨d, hd⟩ : ∃ d, lt[i]? = some d := ⟨_, List.getElem?_eq_getElem (by have := (List.getElem?_eq_some_iff.mp hi).1; have := s.ls.1; omega)⟩
  have e := s.ls.2 i a d hi hd
  rw [e] at h
  exact nu d (Option.some.inj h).symm
theorem PosS.keep (s : PosS K C n W ws A H ds lt) (f : Fp A H H1) {a : Addr} {u : HO} (h : H a = some u) (nu : ∀ d : List Int, u ≠ .lst (d.map V.int)) : H1 a = some u := f a u (s.notRs h nu) (s.notLs h nu) h
theorem PosS.ts (s : PosS K C n W ws A H ds lt) (f : Fp A H H1) : Ts H H1 := fun a xs h => h.elim (fun h => .inl (s.keep f h (fun _ e => nomatch e))) fun ⟨o, h⟩ => .inr ⟨o, s.keep f h (fun _ e => nomatch e)⟩
/-- with the lists told anew -/
theorem PosS.mk' (s : PosS K C n W ws A H ds lt) (f : Fp A H H1) {ds' lt' : List (List Int)} (r : Da.Lists H1 A.rs ds') (l : Da.Lists H1 A.ls lt') : PosS K C n W ws A H1 ds' lt' where
  q := s.keep f s.q (fun _ e => nomatch e)
  wa := sqT_t (s.ts f) s.wa
  tup := ⟨s.tup.1, fun i b u e1 e2 => s.keep f (s.tup.2 i b u e1 e2) (fun _ e => nomatch e)⟩
  vp := sqT_t (s.ts f) s.vp
  dl := f _ _ s.n4 s.n5 s.dl
  ud := s.keep f s.ud (fun _ e => nomatch e)
  rs := r
  ls := l
  lw := s.lw
  n1 := s.n1
  n2 := s.n2
  n3 := s.n3
  n4 := s.n4
  n5 := s.n5
theorem PosS.all (s : PosS K C n W ws A H ds lt) (g : G none H H1) : PosS K C n W ws A H1 ds lt := s.mk' (Fp.all g) (s.rs.mono fun a _ u e => g.all a u e) (s.ls.mono fun a _ u e => g.all a u e)
theorem Fp.dia {i : Nat} {l : Addr} {u : HO} (hl : A.rs[i]? = some l) : Fp A H (upd H l u) := fun a v n1 _ e => by
  rw [upd_ne (fun (z : a = l) => n1 (by rw [z]; exact List.mem_of_getElem? hl))]; exact e
theorem Fp.let' {i : Nat} {l : Addr} {u : HO} (hl : A.ls[i]? = some l) : Fp A H (upd H l u) := fun a v _ n2 e => by
  rw [upd_ne (fun (z : a = l) => n2 (by rw [z]; exact List.mem_of_getElem? hl))]; exact e
theorem PosS.dia' (s : PosS K C n W ws A H ds lt) {x : Nat} {l : Addr} (hl : A.rs[x]? = some l) (d : List Int) : PosS K C n W ws A (upd H l (.lst (d.map V.int))) (ds.set x d) lt := by
  have m := List.mem_of_getElem? hl
  exact s.mk' (Fp.dia hl) (s.rs.set s.n1 hl d) (s.ls.mono fun a ma u e => by rw [upd_ne (fun (z : a = l) => s.n3 l m (z ▸ ma))]; exact e)
theorem PosS.let' (s : PosS K C n W ws A H ds lt) {j : Nat} {l : Addr} (hl : A.ls[j]? = some l) (d : List Int) : PosS K C n W ws A (upd H l (.lst (d.map V.int))) ds (lt.set j d) := by
  have m := List.mem_of_getElem? hl
  exact s.mk' (Fp.let' hl) (s.rs.mono fun a ma u e => by rw [upd_ne (fun (z : a = l) => s.n3 a ma (z ▸ m))]; exact e) (s.ls.set s.n2 hl d)
end
/-- a put sent on from x -/
def Sent (W : List (Int × Int)) (x p : Int) (lt lt2 : List (List Int)) : Prop := lt2.length = lt.length ∧ ∀ (z : Nat) u q q0, W[z]? = some u → lt2[z]? = some q → lt[z]? = some q0 → q = if u.1 = x then q0 ++ [p] else q0
theorem Sent.mem {W : List (Int × Int)} {x p : Int} {lt lt2 : List (List Int)} (h : Sent W x p lt lt2) (lw : lt.length = W.length) {b : Nat} (hb : ∀ l ∈ lt, l.length ≤ b) : ∀ l ∈ lt2, l.length ≤ b + 1 := fun l hl => by
  obtain ⟨z, hz⟩ := List.getElem?_of_mem hl
  have zl := (List.getElem?_eq_some_iff.mp hz).1
  have e := h.1
  obtain ⟨u, hu⟩ : ∃ u, W[z]? = some u := ⟨_, List.getElem?_eq_getElem (by omega)⟩
  obtain ⟨q0, hq⟩ : ∃ q0, lt[z]? = some q0 := ⟨_, List.getElem?_eq_getElem (by omega)⟩
  rw [h.2 z u l q0 hu hz hq]
  have := hb q0 (List.mem_of_getElem? hq)
  split
  · rw [List.length_append, List.length_singleton]; omega
  · omega
def sp_Post_write (K : PySem.W.Frag) (C : Addr) : Sp := fun vs H Q _ => ∃ (A : PosA) (n x p : Int) (W : List (Int × Int)) (ws : List Int) (ds lt : List (List Int)) (d : List Int), vs = [.ref A.q, .int x, .int p] ∧ PosS K C n W ws A H ds lt ∧ W.Nodup ∧ 0 ≤ x ∧ ds[x.toNat]? = some d ∧ d.length ≤ 80000 ∧ (∀ l ∈ lt, l.length ≤ 80000) ∧
  ∀ H' lt2, Fp A H H' → Sent W x p lt lt2 → PosS K C n W ws A H' (ds.set x.toNat (d ++ [p])) lt2 → Q .non H'
theorem ok_Post_write (T : Txt K mg a) : FnOk P w K mg base CX0 1 a.f_Post_write a.d_Post_write P_Post_write (sp_Post_write K a.c_Post) := by
  refine T.F_Post_write.ok sc_Post_write (fun vs H Q E h => by obtain ⟨A, n, x, p, W, ws, ds, lt, d, rfl, _⟩ := h; rfl) (fun cdv A0 outer s H vs Q E hr h => ?_)
  obtain ⟨A, n, x, p, W, ws, ds, lt, d, rfl, S, nd, x0, hd, zd, zl, k⟩ := h
  obtain ⟨l, hl⟩ : ∃ l, A.rs[x.toNat]? = some l := ⟨_, List.getElem?_eq_getElem (by have := (List.getElem?_eq_some_iff.mp hd).1; have := S.rs.1; omega)⟩
  have hld := S.rs.2 _ _ _ hl hd
  have lb := S.tup.1
  refine ⟨_, (pss_cons (ps_expr (pe_bm PySem.F.plainAttrs_list PySem.F.slot_list_append PySem.F.type_list_append mt_append (pe_ix ix_list (pe_fld (pv 0) rfl) (pv 1) (fun _ _ => rfl)) (pa_cons (pv 2) pa_nil)))
  (pss_one (ps_for PassesOwn.never rfl (pi_tup (pe_fld (pv 0) rfl)) (pg_name (i := 3) sc_Post_write.nd rfl (Or.inl rfl))
    (pss_one (ps_if (pt_cmpR op_eq (pe_ix ix_tup (pv 3) pe_int (fun _ _ => rfl)) (pv 1) (nomark _))
    (pss_one (ps_expr (pe_bm PySem.F.plainAttrs_list PySem.F.slot_list_append PySem.F.type_list_append mt_append (pe_dget (hu_of hr) (pe_fld (pv 0) rfl) (pv 3) (by first | exact fun _ _ => rfl | rfl | decide)) (pa_cons (pv 2) pa_nil))))
    pss_nil))))), ?_⟩
  walk_at "ws"
  refine Da.r_fld S.q T.cl_Post T.na_Post_written pf_wn ?_
  walk_at "ws"
  refine r_ixL (SqL.of S.dl) (v := .ref l) (at_of (j := x.toNat) (by omega) (by rw [List.getElem?_map, hl]; rfl)) ?_
  refine i_BM hld ?_
  walk_at "ws"
  refine r_app hld (by rw [List.length_map]; omega) ?_
  have S1 : PosS K a.c_Post n W ws A (upd H l (.lst (d.map V.int ++ [.int p]))) (ds.set x.toNat (d ++ [p])) lt := by
    have z := S.dia' hl (d ++ [p])
    rw [List.map_append] at z
    exact z
  have f1 : Fp A H (upd H l (.lst (d.map V.int ++ [.int p]))) := Fp.dia hl
  generalize upd H l (.lst (d.map V.int ++ [.int p])) = H1 at S1 f1 ⊢
  walk_at "ws"
  refine Da.r_fld S1.q T.cl_Post T.na_Post_wires pf_wi ?_
  refine i_tup S1.wa ?_
  refine for_it (walk_tup (xs := A.bs.map V.ref)) (fun j σ H' => ∃ (u3 : Option V) (lt2 : List (List Int)), σ = [some (.ref A.q), some (.int x), some (.int p), u3] ∧ Fp A H H' ∧ PosS K a.c_Post n W ws A H' (ds.set x.toNat (d ++ [p])) lt2 ∧ lt2.length = lt.length ∧
    ∀ (z : Nat) u q q0, W[z]? = some u → lt2[z]? = some q → lt[z]? = some q0 → q = if z < j ∧ u.1 = x then q0 ++ [p] else q0) ⟨_, lt, rfl, f1, S1, rfl, fun z u q q0 _ e1 e2 => by rw [if_neg (fun c => absurd c.1 (Nat.not_lt_zero z))]; rw [e1] at e2; exact Option.some.inj e2⟩ (fun _ _ _ _ ⟨_, _, _, _, q, _⟩ => q.wa) ?_ ?_
  · rintro j v σ _ H2 hj ⟨u3, lt2, rfl, f2, S2, ll, rl⟩ ⟨rfl, hv⟩
    rw [List.length_map] at hj
    rw [List.getElem?_map] at hv
    obtain ⟨b, hb, rfl⟩ := Option.map_eq_some_iff.mp hv
    obtain ⟨u, hu⟩ : ∃ u, W[j]? = some u := ⟨_, List.getElem?_eq_getElem (by omega)⟩
    have ht := S2.tup.2 j b u hb hu
    have lw := S2.lw
    have lts := S2.ls.1
    obtain ⟨la, hla⟩ : ∃ la, A.ls[j]? = some la := ⟨_, List.getElem?_eq_getElem (by omega)⟩
    obtain ⟨q, hq⟩ : ∃ q, lt2[j]? = some q := ⟨_, List.getElem?_eq_getElem (by omega)⟩
    obtain ⟨q0, hq0⟩ : ∃ q0, lt[j]? = some q0 := ⟨_, List.getElem?_eq_getElem (by omega)⟩
    have eq : q = q0 := by
      have e := rl j u q q0 hu hq hq0
      rw [if_neg (fun c => Nat.lt_irrefl j c.1)] at e
      exact e
    walk_at "ws"
    refine r_ixT (SqT.of ht) (v := .int u.1) (at_of (j := 0) (by omega) rfl) ?_
    walk_at "ws"
    refine w_ite (fun e => ?_) (fun e => ?_)
    · have e0 : u.1 = x := of_decide_eq_true e
      walk_at "ws"
      refine Da.w_dget ?_
      walk_at "ws"
      refine Da.r_fld S2.q T.cl_Post T.na_Post_under_way pf_uw ?_
      walk_at "ws"
      refine Da.i_dget nd S2.ud ht hu hla ?_
      have hlb := S2.ls.2 j la q hla hq
      refine i_BM hlb ?_
      walk_at "ws"
      refine r_app hlb (by rw [List.length_map, eq]; have := zl q0 (List.mem_of_getElem? hq0); omega) ?_
      walk_at "ws"
      have S3 : PosS K a.c_Post n W ws A (upd H2 la (.lst (q.map V.int ++ [.int p]))) (ds.set x.toNat (d ++ [p])) (lt2.set j (q ++ [p])) := by
        have z := S2.let' hla (q ++ [p])
        rw [List.map_append] at z
        exact z
      refine ⟨_, _, rfl, f2.trans (Fp.let' hla), S3, by rw [List.length_set]; exact ll, fun z u2 q2 q02 hz hq2 hq02 => ?_⟩
      by_cases cz : j = z
      · subst cz
        rw [hu] at hz
        cases hz
        rw [List.getElem?_set_self (by omega)] at hq2
        rw [hq0] at hq02
        cases hq02
        rw [if_pos ⟨Nat.lt_succ_self _, e0⟩, ← eq]
        exact (Option.some.inj hq2).symm
      · rw [List.getElem?_set_ne cz] at hq2
        rw [rl z u2 q2 q02 hz hq2 hq02]
        by_cases c1 : z < j
        · have c2 : z < j + 1 := by omega
          simp only [c1, c2]
        · have c2 : ¬ z < j + 1 := by omega
          simp only [c1, c2]
    · refine ⟨_, lt2, rfl, f2, S2, ll, fun z u2 q2 q02 hz hq2 hq02 => ?_⟩
      rw [rl z u2 q2 q02 hz hq2 hq02]
      by_cases cz : j = z
      · subst cz
        rw [hu] at hz
        cases hz
        have e0 : ¬ u.1 = x := of_decide_eq_false e
        rw [if_neg (fun c => e0 c.2), if_neg (fun c => e0 c.2)]
      · by_cases c1 : z < j
        · have c2 : z < j + 1 := by omega
          simp only [c1, c2]
        · have c2 : ¬ z < j + 1 := by omega
          simp only [c1, c2]
  · rintro σ H2 ⟨u3, lt2, rfl, f2, S2, ll, rl⟩
    refine k H2 lt2 f2 ⟨ll, fun z u q q0 hz hq hq0 => ?_⟩ S2
    rw [rl z u q q0 hz hq hq0]
    have zl' := (List.getElem?_eq_some_iff.mp hz).1
    have lbb : z < (A.bs.map V.ref).length := by rw [List.length_map, lb]; exact zl'
    by_cases c : u.1 = x
    · rw [if_pos ⟨lbb, c⟩, if_pos c]
    · rw [if_neg (fun k => c k.2), if_neg c]

end
end Mine
/-! ## K22 -/


namespace Mine
section
variable {P : Program} {w : World} {K : PySem.W.Frag} {mg : Str → Option Value} {base : Heap} {a : Ads}

/-! ### the post's steps -/
theorem w_meth {C : Addr} {m : Str} {sp : Sp} {E : XK} {ta : TE} {t : TA} {σ : L2.St} {H : Hp} {Q : VK} (q : ta σ H fun x H1 => ∃ a dx fs, x = .ref a ∧ H1 a = some (.ins C dx fs) ∧ fs.lookup m = none ∧ t σ H1 fun vs H2 => sp (x :: (vs ++ [])) H2 Q E) : tMeth C m sp [] E ta t σ H Q := q
theorem w_dnotin {ty td : TE} {σ : L2.St} {H : Hp} {Q : VK} (q : ty σ H fun y H1 => td σ H1 fun x H2 => ∃ a o, x = .ref a ∧ DGet H2 a y o ∧ Q (.bl (!o.isSome)) H2) : tDNotIn ty td σ H Q := q
def RelL (W : List (Int × Int)) (s : LS) (ds lt : List (List Int)) : Prop := (∀ (x : Nat) d, ds[x]? = some d → s.cur (x : Int) = d) ∧ ∀ (j : Nat) u q, W[j]? = some u → lt[j]? = some q → s.lt u = q
theorem RelL.wr {W : List (Int × Int)} {s : LS} {ds lt lt2 : List (List Int)} {x : Nat} {p : Int} {d : List Int} (h : RelL W s ds lt) (hd : ds[x]? = some d) (hp : p ∉ d) (st : Sent W (x : Int) p lt lt2) : RelL W (s.wr (x : Int) p) (ds.set x (d ++ [p])) lt2 := by
  have ec := h.1 x d hd
  have e : LS.wr s (x : Int) p = ⟨fun z => if z = (x : Int) then s.cur x ++ [p] else s.cur z, fun u => if u.1 = (x : Int) then s.lt u ++ [p] else s.lt u, s.done⟩ := by unfold LS.wr; rw [if_neg (by rw [ec]; exact hp)]
  rw [e]
  refine ⟨fun z e he => ?_, fun z u q hz hq => ?_⟩
  · show (if (z : Int) = (x : Int) then s.cur x ++ [p] else s.cur z) = e
    by_cases cz : x = z
    · subst cz
      rw [List.getElem?_set_self (List.getElem?_eq_some_iff.mp hd).1] at he
      rw [if_pos rfl, ec]
      exact Option.some.inj he
    · rw [List.getElem?_set_ne cz] at he
      rw [if_neg (fun e => cz (by omega))]
      exact h.1 z e he
  · show (if u.1 = (x : Int) then s.lt u ++ [p] else s.lt u) = q
    have zl := (List.getElem?_eq_some_iff.mp hq).1
    have l2 := st.1
    obtain ⟨q0, hq0⟩ : ∃ q0, lt[z]? = some q0 := ⟨_, List.getElem?_eq_getElem (by omega)⟩
    rw [st.2 z u q q0 hz hq hq0, h.2 z u q0 hz hq0]
theorem RelL.had {W : List (Int × Int)} {s : LS} {ds lt : List (List Int)} {x : Nat} {p : Int} {d : List Int} (h : RelL W s ds lt) (hd : ds[x]? = some d) (hp : p ∈ d) : s.wr (x : Int) p = s := by
  unfold LS.wr; rw [if_pos (by rw [h.1 x d hd]; exact hp)]
theorem nd_ix {α : Type} {l : List α} (nd : l.Nodup) {i j : Nat} {a : α} (h1 : l[i]? = some a) (h2 : l[j]? = some a) : i = j := by
  obtain ⟨a1, b1⟩ := List.getElem?_eq_some_iff.mp h1
  obtain ⟨a2, b2⟩ := List.getElem?_eq_some_iff.mp h2
  rcases Nat.lt_trichotomy i j with h | h | h
  · exact absurd (b1.trans b2.symm) (List.pairwise_iff_getElem.mp nd i j a1 a2 h)
  · exact h
  · exact absurd (b2.trans b1.symm) (List.pairwise_iff_getElem.mp nd j i a2 a1 h)
/-- a letter taken off -/
theorem RelL.take {W : List (Int × Int)} {s : LS} {ds lt : List (List Int)} (h : RelL W s ds lt) (nd : W.Nodup) {j : Nat} {u : Int × Int} (hu : W[j]? = some u) (q : List Int) (dn : List Int) (hj : j < lt.length) : RelL W ⟨s.cur, fun v => if v = u then q else s.lt v, dn⟩ ds (lt.set j q) := by
  refine ⟨h.1, fun z v q' hz hq' => ?_⟩
  show (if v = u then q else s.lt v) = q'
  by_cases c : j = z
  · subst c
    rw [hu] at hz
    cases hz
    rw [List.getElem?_set_self hj] at hq'
    rw [if_pos rfl]
    exact Option.some.inj hq'
  · rw [List.getElem?_set_ne c] at hq'
    rw [if_neg (fun e => c (by subst e; exact nd_ix nd hu hz))]
    exact h.2 z v q' hz hq'
/-- all of a post: the heap it was made over, where its run stands -/
structure PosT (K : PySem.W.Frag) (C : Addr) (n : Int) (W : List (Int × Int)) (ws : List Int) (A : PosA) (H0 H : Hp) (s : LS) (b : Nat) : Prop where
  g : G none H0 H
  nr : ∀ a ∈ A.rs, H0 a = none
  nl : ∀ a ∈ A.ls, H0 a = none
  st : ∃ ds lt, PosS K C n W ws A H ds lt ∧ RelL W s ds lt ∧ (ds.length : Int) = n ∧ (∀ d ∈ ds, d.length ≤ b) ∧ (∀ l ∈ lt, l.length ≤ b)
  fit : Fit ws s
theorem PosT.all {C : Addr} {n : Int} {W : List (Int × Int)} {ws : List Int} {A : PosA} {H0 H H1 : Hp} {s : LS} {b : Nat} (t : PosT K C n W ws A H0 H s b) (g : G none H H1) : PosT K C n W ws A H0 H1 s b := by
  obtain ⟨ds, lt, S, r⟩ := t.st
  exact ⟨t.g.trans g, t.nr, t.nl, ⟨ds, lt, S.all g, r⟩, t.fit⟩
theorem mem_set_le {b : Nat} {ds : List (List Int)} {i : Nat} {e : List Int} (h : ∀ d ∈ ds, d.length ≤ b) (he : e.length ≤ b) : ∀ d ∈ ds.set i e, d.length ≤ b := fun d hd => by
  rcases List.mem_or_eq_of_mem_set hd with z | z
  · exact h d z
  · rw [z]; exact he
/-- where a web and writers are right -/
structure WW (n : Int) (W : List (Int × Int)) (ws : List Int) : Prop where
  n7 : n ≤ 7
  nd : W.Nodup
  un : ∀ u ∈ W, u.1 ≠ u.2
  w49 : W.length ≤ 49
  rng : ∀ u ∈ W, (0 ≤ u.1 ∧ u.1 < n) ∧ (0 ≤ u.2 ∧ u.2 < n)
  wr : ∀ w ∈ ws, 0 ≤ w ∧ w < n
  w30 : ws.length ≤ 30
/-- the post goes from s as o says: done or not -/
def PGo (K : PySem.W.Frag) (C : Addr) (n : Int) (W : List (Int × Int)) (ws : List Int) (A : PosA) (H0 : Hp) (s : LS) (b : Nat) (o : Option LS) (Q : VK) : Prop :=
  ∀ H', (∀ s', o = some s' → PosT K C n W ws A H0 H' s' (b + 1) → Q (.bl true) H') ∧ (o = none → PosT K C n W ws A H0 H' s b → Q (.bl false) H')
def sp_Post_put (K : PySem.W.Frag) (C D : Addr) : Sp := fun vs H Q _ => ∃ (A : PosA) (n : Int) (W : List (Int × Int)) (ws : List Int) (H0 : Hp) (s : LS) (b : Nat) (hd : Addr) (v : V) (t : Tg), vs = [.ref A.q, v] ∧ WW n W ws ∧ PosT K C n W ws A H0 H s b ∧ b ≤ 70000 ∧ Ab D hd H v t ∧
  PGo K C n W ws A H0 s b (stepT n W ws s (.tup [.str "put", t])) Q
theorem ok_Post_put (T : Txt K mg a) : FnOk P w K mg base CX0 5 a.f_Post_put a.d_Post_put P_Post_put (sp_Post_put K a.c_Post a.c_Web) := by
  refine T.F_Post_put.ok sc_Post_put (fun vs H Q E h => by obtain ⟨A, n, W, ws, H0, s, b, hd, v, t, rfl, _⟩ := h; rfl) (fun cdv A0 outer s0 H vs Q E hr h => ?_)
  obtain ⟨A, n, W, ws, H0, s, b, hd, v, t, rfl, O, Pt, hb, ha, k⟩ := h
  have PP := Pt
  obtain ⟨g0, nr, nl, ⟨ds, lt, S, rel, ld, bd, bl⟩, fit⟩ := PP
  have G_is_below : FnOk P w K mg base CX0 3 a.f_is_below a.d_is_below P_is_below (sp_is_below a.c_Web) := ok_is_below T
  have G_Post_write : FnOk P w K mg base CX0 1 a.f_Post_write a.d_Post_write P_Post_write (sp_Post_write K a.c_Post) := ok_Post_write T
  have w30 := O.w30
  refine ⟨_, (pss_cons (ps_if (pt_not (pt_val (pe_call (G_is_below) (hr.mono (by omega)) rfl T.m_is_below T.F_is_below.kp T.b_is_below .nil pass0 (pa_cons (pe_callB call_len_seq (by rfl) T.n_len (by decide +kernel) (pa_cons (pe_fld (pv 0) rfl) pa_nil)) (pa_cons (pv 1) pa_nil)))))
    (pss_one (ps_ret pe_bl))
    pss_nil)
  (pss_cons (ps_set (i := 2) sc_Post_put.nd rfl (Or.inl rfl) (pe_ix ix_tup (pe_fld (pv 0) rfl) (pv 1) (fun _ _ => rfl)))
  (pss_cons (ps_if (pt_cmpR op_in_seq (pv 1) (pe_ix ix_list (pe_fld (pv 0) rfl) (pv 2) (fun _ _ => rfl)) (by rfl))
    (pss_one (ps_ret pe_bl))
    pss_nil)
  (pss_cons (ps_expr (pe_meth (pv 0) T.cl_Post T.mt_Post_write G_Post_write (hr.mono (by omega)) T.b_Post_write .nil pass0 (pa_cons (pv 2) (pa_cons (pv 1) pa_nil))))
  (pss_one (ps_ret pe_bl)))))), ?_⟩
  walk_at "ws"
  refine Da.r_fld S.q T.cl_Post T.na_Post_writers pf_wr ?_
  refine ⟨A.vp, _, rfl, .inr S.vp, ?_⟩
  walk_at "ws"
  rw [List.length_map]
  refine ⟨_, hd, v, t, rfl, ha, ?_⟩
  walk_at "ws"
  cases e : blw (ws.length : Int) t with
  | false =>
    have ko : stepT n W ws s (.tup [.str "put", t]) = none := by unfold stepT; rw [toStp_put_f e]; rfl
    walk_at "ws"
    exact (k H).2 ko Pt
  | true =>
    obtain ⟨p, rfl, p0, p1⟩ := put_int e
    obtain rfl := ha.int_inv
    have pl : p.toNat < ws.length := by omega
    obtain ⟨x, hx⟩ : ∃ x, ws[p.toNat]? = some x := ⟨_, List.getElem?_eq_getElem pl⟩
    have xr := O.wr x (List.mem_of_getElem? hx)
    obtain ⟨xn, rfl⟩ : ∃ xn : Nat, x = (xn : Int) := ⟨x.toNat, by omega⟩
    have ks : stepT n W ws s (.tup [.str "put", .int p]) = if p ∈ s.done then none else some (LS.wr ⟨s.cur, s.lt, s.done ++ [p]⟩ (xn : Int) p) := by
      unfold stepT
      rw [toStp_put ⟨p0, p1⟩]
      show (if p ∈ s.done then none else match ws[p.toNat]? with | some x => some (LS.wr ⟨s.cur, s.lt, s.done ++ [p]⟩ x p) | none => none) = _
      rw [hx]
    rw [ks] at k
    obtain ⟨d, hdx⟩ : ∃ d, ds[xn]? = some d := ⟨_, List.getElem?_eq_getElem (by omega)⟩
    obtain ⟨l, hl⟩ : ∃ l, A.rs[xn]? = some l := ⟨_, List.getElem?_eq_getElem (by have := S.rs.1; omega)⟩
    have hld := S.rs.2 _ _ _ hl hdx
    have iff : p ∈ d ↔ p ∈ s.done := by rw [← rel.1 xn d hdx]; exact fit.put_iff hx
    walk_at "ws"
    refine Da.r_fld S.q T.cl_Post T.na_Post_writers pf_wr ?_
    walk_at "ws"
    refine r_ixT S.vp (v := .int (xn : Int)) (at_of (j := p.toNat) (by omega) (by rw [List.getElem?_map, hx]; rfl)) ?_
    walk_at "ws"
    refine Da.r_fld S.q T.cl_Post T.na_Post_written pf_wn ?_
    walk_at "ws"
    refine r_ixL (SqL.of S.dl) (v := .ref l) (at_of (j := xn) (by omega) (by rw [List.getElem?_map, hl]; rfl)) ?_
    refine ⟨l, _, rfl, .inl (SqL.of hld), rfl, by rw [List.all_map, List.all_eq_true]; intro q _; rfl, ?_⟩
    rw [Da.inV_ints]
    by_cases c : p ∈ d
    · rw [if_pos (iff.mp c)] at k
      rw [decide_eq_true c]
      walk_at "ws"
      refine w_iteE rfl ?_
      walk_at "ws"
      exact (k H).2 rfl Pt
    · have cd : p ∉ s.done := fun z => c (iff.mpr z)
      rw [if_neg cd] at k
      rw [decide_eq_false c]
      have zd := bd d (List.mem_of_getElem? hdx)
      walk_at "ws"
      refine w_iteN rfl ?_
      walk_at "ws"
      refine w_meth ?_
      walk_at "ws"
      refine ⟨A.q, _, _, rfl, S.q, pf_no (by decide +kernel) (by decide +kernel) (by decide +kernel) (by decide +kernel) (by decide +kernel), ?_⟩
      walk_at "ws"
      refine ⟨A, n, (xn : Int), p, W, ws, ds, lt, d, rfl, S, O.nd, by omega, by rw [Int.toNat_natCast]; exact hdx, by omega, fun l hl => by have := bl l hl; omega, fun H' lt2 f st S' => ?_⟩
      rw [Int.toNat_natCast] at S'
      walk_at "ws"
      have lw := S.lw
      have lsl := S.ls.1
      have h1 : led1 W ws s (.put p) = some (LS.wr ⟨s.cur, s.lt, s.done ++ [p]⟩ (xn : Int) p) := by
        show (if p ∈ s.done then none else match ws[p.toNat]? with | some x => some (LS.wr ⟨s.cur, s.lt, s.done ++ [p]⟩ x p) | none => none) = _
        rw [if_neg cd, hx]
      refine (k H').1 _ rfl ⟨f.g g0 nr nl, nr, nl, ⟨_, lt2, S', ?_, by rw [List.length_set]; exact ld, ?_, ?_⟩, fit.step h1⟩
      · exact RelL.wr (s := ⟨s.cur, s.lt, s.done ++ [p]⟩) (x := xn) ⟨rel.1, rel.2⟩ hdx c st
      · exact mem_set_le (fun d hd => Nat.le_succ_of_le (bd d hd)) (by rw [List.length_append, List.length_singleton]; omega)
      · exact st.mem (by omega) bl

theorem valT_none : ∀ {W : List (Int × Int)} {ls : List Addr} {u : Int × Int}, u ∉ W → valV (Da.dtOf W ls) (Da.keyOfP u) = none
  | [], _, _, _ => rfl
  | _ :: _, [], _, _ => rfl
  | v :: W, m :: ls, u, h => by
    refine (valV_neg (p := (Da.keyOfP v, V.ref m)) fun z => h (by rw [Da.keyOfP_inj z]; exact List.mem_cons_self)).trans (valT_none fun z => h (List.mem_cons_of_mem _ z))
def sp_Post_come (K : PySem.W.Frag) (C D : Addr) : Sp := fun vs H Q _ => ∃ (A : PosA) (n : Int) (W : List (Int × Int)) (ws : List Int) (H0 : Hp) (s : LS) (b : Nat) (hd tp : Addr) (v1 v2 : V) (t1 t2 : Tg), vs = [.ref A.q, .ref tp] ∧ WW n W ws ∧ PosT K C n W ws A H0 H s b ∧ b ≤ 70000 ∧ H tp = some (.tup [v1, v2]) ∧ Ab D hd H v1 t1 ∧ Ab D hd H v2 t2 ∧
  PGo K C n W ws A H0 s b (stepT n W ws s (.tup [.str "come", t1, t2])) Q
theorem ok_Post_come (T : Txt K mg a) : FnOk P w K mg base CX0 6 a.f_Post_come a.d_Post_come P_Post_come (sp_Post_come K a.c_Post a.c_Web) := by
  refine T.F_Post_come.ok sc_Post_come (fun vs H Q E h => by obtain ⟨A, n, W, ws, H0, s, b, hd, tp, v1, v2, t1, t2, rfl, _⟩ := h; rfl) (fun cdv A0 outer s0 H vs Q E hr h => ?_)
  obtain ⟨A, n, W, ws, H0, s, b, hd, tp, v1, v2, t1, t2, rfl, O, Pt, hb, htp, ha1, ha2, k⟩ := h
  have G_is_unlike_pair : FnOk P w K mg base CX0 5 a.f_is_unlike_pair a.d_is_unlike_pair P_is_unlike_pair (sp_is_unlike_pair a.c_Web) := ok_is_unlike_pair T
  have G_Post_write : FnOk P w K mg base CX0 1 a.f_Post_write a.d_Post_write P_Post_write (sp_Post_write K a.c_Post) := ok_Post_write T
  have S0 := Pt.st
  obtain ⟨ds0, lt0, S0, _⟩ := S0
  refine ⟨_, (pss_cons (ps_if (L2.PW.pt (pw_or (pt_not (pt_val (pe_call (G_is_unlike_pair) (hr.mono (by omega)) rfl T.m_is_unlike_pair T.F_is_unlike_pair.kp T.b_is_unlike_pair .nil pass0 (pa_cons (pe_fld (pv 0) rfl) (pa_cons (pv 1) pa_nil))))) (pw_or1 (pt_cmp (pc_dnotin (hu_of hr) (pv 1) (pe_fld (pv 0) rfl))))))
    (pss_one (ps_ret pe_bl))
    pss_nil)
  (pss_cons (ps_if (pt_not (pt_truth (pe_dget (hu_of hr) (pe_fld (pv 0) rfl) (pv 1) (by first | exact fun _ _ => rfl | rfl | decide)) (fun _ => rfl)))
    (pss_one (ps_ret pe_bl))
    pss_nil)
  (pss_cons (ps_set (i := 2) sc_Post_come.nd rfl (Or.inl rfl) (pe_bm PySem.F.plainAttrs_list PySem.F.slot_list_pop PySem.F.type_list_pop mt_popAt (pe_dget (hu_of hr) (pe_fld (pv 0) rfl) (pv 1) (by first | exact fun _ _ => rfl | rfl | decide)) (pa_cons pe_int pa_nil)))
  (pss_cons (ps_if (pt_cmpR op_notIn_seq (pv 2) (pe_ix ix_list (pe_fld (pv 0) rfl) (pe_ix ix_tup (pv 1) pe_int (fun _ _ => rfl)) (fun _ _ => rfl)) (by rfl))
    (pss_one (ps_expr (pe_meth (pv 0) T.cl_Post T.mt_Post_write G_Post_write (hr.mono (by omega)) T.b_Post_write .nil pass0 (pa_cons (pe_ix ix_tup (pv 1) pe_int (fun _ _ => rfl)) (pa_cons (pv 2) pa_nil)))))
    pss_nil)
  (pss_one (ps_ret pe_bl)))))), ?_⟩
  walk_at "ws"
  refine Da.r_fld S0.q T.cl_Post T.na_Post_machines pf_m ?_
  walk_at "ws"
  refine ⟨n, hd, .ref tp, .tup [t1, t2], rfl, .tup (.inl htp) (.cons ha1 (.cons ha2 .nil)), fun H1 g1 => ?_⟩
  walk_at "ws"
  have P1 := Pt.all g1
  cases e : pr n (.tup [t1, t2]) with
  | false =>
    have ko := come_f (ws := ws) (s := s) O.un e
    walk_at "ws"
    exact (k H1).2 ko P1
  | true =>
    obtain ⟨y, x, rfl, rfl, rg, nyx⟩ := pr_inv e
    obtain rfl := ha1.int_inv
    obtain rfl := ha2.int_inv
    have ks : stepT n W ws s (.tup [.str "come", .int y, .int x]) = led1 W ws s (.come y x) := by unfold stepT; rw [toStp_come rg]; rfl
    rw [ks] at k
    obtain ⟨g0, nr, nl, ⟨ds, lt, S, rel, ld, bd, bl⟩, fit⟩ := id P1
    have h1tp := g1.all _ _ htp
    walk_at "ws"
    refine w_dnotin ?_
    walk_at "ws"
    refine Da.r_fld S.q T.cl_Post T.na_Post_under_way pf_uw ?_
    refine ⟨A.ud, _, rfl, DGet.t (k := Da.keyOfP (y, x)) S.ud h1tp, ?_⟩
    by_cases hm : (y, x) ∈ W
    · obtain ⟨j, hu⟩ := List.getElem?_of_mem hm
      have lw := S.lw
      have lsl := S.ls.1
      have jw := (List.getElem?_eq_some_iff.mp hu).1
      obtain ⟨la, hla⟩ : ∃ la, A.ls[j]? = some la := ⟨_, List.getElem?_eq_getElem (by omega)⟩
      obtain ⟨q, hq⟩ : ∃ q, lt[j]? = some q := ⟨_, List.getElem?_eq_getElem (by omega)⟩
      have hlq := S.ls.2 j la q hla hq
      have eq : s.lt (y, x) = q := rel.2 j _ q hu hq
      rw [Da.valT O.nd hu hla]
      walk_at "ws"
      refine w_iteN rfl ?_
      walk_at "ws"
      refine Da.w_dget ?_
      walk_at "ws"
      refine Da.r_fld S.q T.cl_Post T.na_Post_under_way pf_uw ?_
      walk_at "ws"
      refine Da.i_dget O.nd S.ud h1tp hu hla ?_
      refine ⟨_, .inl ⟨_, SqL.of hlq, rfl⟩, ?_⟩
      have hl1 : led1 W ws s (.come y x) = (match s.lt (y, x) with | [] => none | p :: r => some (LS.wr ⟨s.cur, fun u => if u = (y, x) then r else s.lt u, s.done⟩ x p)) := if_pos hm
      rw [eq] at hl1
      cases q with
      | nil =>
        refine w_iteE rfl ?_
        walk_at "ws"
        exact (k H1).2 hl1 P1
      | cons p r =>
        have hl1 : led1 W ws s (.come y x) = some (LS.wr ⟨s.cur, fun u => if u = (y, x) then r else s.lt u, s.done⟩ x p) := hl1
        rw [hl1] at k
        refine w_iteN rfl ?_
        walk_at "ws"
        refine Da.w_dget ?_
        walk_at "ws"
        refine Da.r_fld S.q T.cl_Post T.na_Post_under_way pf_uw ?_
        walk_at "ws"
        refine Da.i_dget O.nd S.ud h1tp hu hla ?_
        refine i_BM hlq ?_
        walk_at "ws"
        refine ⟨la, (p :: r).map V.int, 0, 0, .int p, rfl, rfl, hlq, by decide, by decide, Da.pop_ix (r := 0) (by decide) (by simp), rfl, ?_⟩
        rw [Da.erase_ints]
        have S2 := S.let' hla ((p :: r).eraseIdx 0)
        have f2 : Fp A H1 (upd H1 la (.lst (((p :: r).eraseIdx 0).map V.int))) := Fp.let' hla
        have g2 := f2.g g0 nr nl
        have h2tp := S.keep f2 h1tp (fun _ e => nomatch e)
        have r2 := rel.take O.nd hu r s.done (by omega)
        rw [show (p :: r).eraseIdx 0 = r from rfl] at S2 g2 h2tp f2 ⊢
        generalize upd H1 la (.lst (r.map V.int)) = H2 at S2 g2 h2tp f2 ⊢
        obtain ⟨xn, rfl⟩ : ∃ xn : Nat, x = (xn : Int) := ⟨x.toNat, by omega⟩
        obtain ⟨d, hdx⟩ : ∃ d, ds[xn]? = some d := ⟨_, List.getElem?_eq_getElem (by omega)⟩
        obtain ⟨l, hl⟩ : ∃ l, A.rs[xn]? = some l := ⟨_, List.getElem?_eq_getElem (by have := S.rs.1; omega)⟩
        have hld := S2.rs.2 _ _ _ hl hdx
        have bl2 : ∀ l ∈ lt.set j r, l.length ≤ b := mem_set_le bl (by have := bl _ (List.mem_of_getElem? hq); simp at this; omega)
        have zd := bd d (List.mem_of_getElem? hdx)
        have h1 : led1 W ws s (.come y xn) = some (LS.wr ⟨s.cur, fun u => if u = (y, (xn : Int)) then r else s.lt u, s.done⟩ xn p) := hl1
        have fit2 := fit.step h1
        walk_at "ws"
        refine Da.r_fld S2.q T.cl_Post T.na_Post_written pf_wn ?_
        walk_at "ws"
        refine r_ixT (SqT.of h2tp) (v := .int (xn : Int)) rfl ?_
        walk_at "ws"
        refine r_ixL (SqL.of S2.dl) (v := .ref l) (at_of (j := xn) (by omega) (by rw [List.getElem?_map, hl]; rfl)) ?_
        refine ⟨l, _, rfl, .inl (SqL.of hld), rfl, by rw [List.all_map, List.all_eq_true]; intro q _; rfl, ?_⟩
        dsimp only
        rw [Da.inV_ints]
        by_cases c : p ∈ d
        · rw [decide_eq_true c]
          walk_at "ws"
          refine w_iteN rfl ?_
          walk_at "ws"
          have ew := RelL.had r2 hdx c
          refine (k H2).1 _ rfl ⟨g2, nr, nl, ⟨ds, _, S2, ?_, ld, fun d hd => Nat.le_succ_of_le (bd d hd), fun l hl => Nat.le_succ_of_le (bl2 l hl)⟩, fit2⟩
          rw [ew]
          exact r2
        · rw [decide_eq_false c]
          walk_at "ws"
          refine w_iteE rfl ?_
          walk_at "ws"
          refine w_meth ?_
          walk_at "ws"
          refine ⟨A.q, _, _, rfl, S2.q, pf_no (by decide +kernel) (by decide +kernel) (by decide +kernel) (by decide +kernel) (by decide +kernel), ?_⟩
          walk_at "ws"
          refine r_ixT (SqT.of h2tp) (v := .int (xn : Int)) rfl ?_
          walk_at "ws"
          refine ⟨A, n, (xn : Int), p, W, ws, ds, _, d, rfl, S2, O.nd, by omega, by rw [Int.toNat_natCast]; exact hdx, by omega, fun l hl => by have := bl2 l hl; omega, fun H' lt2 f st S' => ?_⟩
          rw [Int.toNat_natCast] at S'
          walk_at "ws"
          refine (k H').1 _ rfl ⟨f.g g2 nr nl, nr, nl, ⟨_, lt2, S', ?_, by rw [List.length_set]; exact ld, ?_, ?_⟩, fit2⟩
          · exact RelL.wr (x := xn) r2 hdx c st
          · exact mem_set_le (fun d hd => Nat.le_succ_of_le (bd d hd)) (by rw [List.length_append, List.length_singleton]; omega)
          · exact st.mem (by rw [List.length_set]; omega) bl2
    · rw [valT_none hm]
      have ko : led1 W ws s (.come y x) = none := if_neg hm
      walk_at "ws"
      refine w_iteE rfl ?_
      walk_at "ws"
      exact (k H1).2 ko P1

def sp_Post_do (K : PySem.W.Frag) (C D : Addr) : Sp := fun vs H Q _ => ∃ (A : PosA) (n : Int) (W : List (Int × Int)) (ws : List Int) (H0 : Hp) (s : LS) (b : Nat) (hd : Addr) (v : V) (t : Tg), vs = [.ref A.q, v] ∧ WW n W ws ∧ PosT K C n W ws A H0 H s b ∧ b ≤ 70000 ∧ Ab D hd H v t ∧
  PGo K C n W ws A H0 s b (stepT n W ws s t) Q
theorem ok_Post_do (T : Txt K mg a) : FnOk P w K mg base CX0 7 a.f_Post_do a.d_Post_do P_Post_do (sp_Post_do K a.c_Post a.c_Web) := by
  refine T.F_Post_do.ok sc_Post_do (fun vs H Q E h => by obtain ⟨A, n, W, ws, H0, s, b, hd, v, t, rfl, _⟩ := h; rfl) (fun cdv A0 outer s0 H vs Q E hr h => ?_)
  obtain ⟨A, n, W, ws, H0, s, b, hd, v, t, rfl, O, Pt, hb, ha, k⟩ := h
  have G_is_worded : FnOk P w K mg base CX0 2 a.f_is_worded a.d_is_worded P_is_worded (sp_is_worded a.c_Web) := ok_is_worded T
  have G_Post_put : FnOk P w K mg base CX0 5 a.f_Post_put a.d_Post_put P_Post_put (sp_Post_put K a.c_Post a.c_Web) := ok_Post_put T
  have G_Post_come : FnOk P w K mg base CX0 6 a.f_Post_come a.d_Post_come P_Post_come (sp_Post_come K a.c_Post a.c_Web) := ok_Post_come T
  obtain ⟨ds, lt, S, _⟩ := Pt.st
  have no : ∀ k : Str, (k == ("machines" : Str)) = false → (k == ("wires" : Str)) = false → (k == ("writers" : Str)) = false → (k == ("written" : Str)) = false → (k == ("under_way" : Str)) = false → (pf (.int n) (.ref A.wa) (.ref A.vp) (.ref A.dl) (.ref A.ud)).lookup k = none := fun k h1 h2 h3 h4 h5 => pf_no h1 h2 h3 h4 h5
  refine ⟨_, (pss_cons (ps_if (pt_val (pe_call (G_is_worded) (hr.mono (by omega)) rfl T.m_is_worded T.F_is_worded.kp T.b_is_worded .nil pass0 (pa_cons pe_str (pa_cons pe_int (pa_cons (pv 1) pa_nil)))))
    (pss_one (ps_ret (pe_meth (pv 0) T.cl_Post T.mt_Post_put G_Post_put (hr.mono (by omega)) T.b_Post_put .nil pass0 (pa_cons (pe_ix ix_tup (pv 1) pe_int (fun _ _ => rfl)) pa_nil))))
    pss_nil)
  (pss_cons (ps_if (pt_val (pe_call (G_is_worded) (hr.mono (by omega)) rfl T.m_is_worded T.F_is_worded.kp T.b_is_worded .nil pass0 (pa_cons pe_str (pa_cons pe_int (pa_cons (pv 1) pa_nil)))))
    (pss_one (ps_ret (pe_meth (pv 0) T.cl_Post T.mt_Post_come G_Post_come (hr.mono (by omega)) T.b_Post_come .nil pass0 (pa_cons (pe_tupN (pa_cons (pe_ix ix_tup (pv 1) pe_int (fun _ _ => rfl)) (pa_cons (pe_ix ix_tup (pv 1) pe_int (fun _ _ => rfl)) pa_nil))) pa_nil))))
    pss_nil)
  (pss_one (ps_ret pe_bl)))), ?_⟩
  walk_at "ws"
  refine ⟨"put", 2, hd, v, t, rfl, by decide, ha, ?_⟩
  walk_at "ws"
  cases e1 : worded "put" 2 t with
  | true =>
    obtain ⟨t1, rfl⟩ := worded_put e1
    cases ha with
    | @tup p xs _ r al =>
    obtain ⟨v0, v1, rfl, a0, a1⟩ := al.two
    walk_at "ws"
    refine w_meth ?_
    walk_at "ws"
    refine ⟨A.q, _, _, rfl, S.q, no _ (by decide +kernel) (by decide +kernel) (by decide +kernel) (by decide +kernel) (by decide +kernel), ?_⟩
    walk_at "ws"
    refine r_ixT (.inl r) (v := v1) rfl ?_
    walk_at "ws"
    exact ⟨A, n, W, ws, H0, s, b, hd, v1, t1, rfl, O, Pt, hb, a1, k⟩
  | false =>
    walk_at "ws"
    refine ⟨"come", 3, hd, v, t, rfl, by decide, ha, ?_⟩
    walk_at "ws"
    cases e2 : worded "come" 3 t with
    | true =>
      obtain ⟨t1, t2, rfl⟩ := worded_come e2
      cases ha with
      | @tup p xs _ r al =>
      cases al with
      | @cons v0 _ xs _ a0 al =>
      obtain ⟨v1, v2, rfl, a1, a2⟩ := al.two
      walk_at "ws"
      refine w_meth ?_
      walk_at "ws"
      refine ⟨A.q, _, _, rfl, S.q, no _ (by decide +kernel) (by decide +kernel) (by decide +kernel) (by decide +kernel) (by decide +kernel), ?_⟩
      walk_at "ws"
      refine r_ixT (.inl r) (v := v1) rfl ?_
      walk_at "ws"
      refine r_ixT (.inl r) (v := v2) rfl ?_
      walk_at "ws"
      refine ⟨sz (by simp), fun tp H1 htp g1 h1 => ?_⟩
      exact ⟨A, n, W, ws, H0, s, b, hd, tp, v1, v2, t1, t2, rfl, O, Pt.all (g1 none), hb, h1, a1.n (g1 none), a2.n (g1 none), k⟩
    | false =>
      have ko : stepT n W ws s t = none := by unfold stepT; rw [toStp_no e1 e2]; rfl
      walk_at "ws"
      exact (k H).2 ko Pt

end
end Mine
/-! ## GU -/
end
namespace GA
open PySem PySem.Spec PyProof.Rows L2
/-! ### a dict by a comprehension, its keys tuples -/
section
variable {X : Cx}
/-- a pair is stored in a dict with tuple keys, from within a comprehension -/
theorem dset_T {pins : List (Addr × Obj)} {σ : L2.St} {H : Hp} {s : Shared} {E : Value → Shared → Prop} {D b : Addr} {kvs : List (List L2.Key × V)} {k : List L2.Key} {v : V} {u r : Value} {Q : Unit → Shared → Prop} (hu : X.A.units + 1 < cLine) (I : Inv X pins σ H s)
    (hD : H D = some (.dT kvs)) (hb : H b = some (.tup (k.map kV))) (hz : kvs.length < sizeLine) (ru : RelV (.ref b) u) (rv : RelV v r) (go : ∀ s', Inv X pins σ (upd H D (.dT (putK kvs k v))) s' → Q () s') :
    wpAny (model X.prog X.w) X.A (dictSet D u r) Q E s := by
  cases ru
  obtain ⟨z, nm, xs, kt, at_⟩ := dt_of I.hok hD
  have lx : xs.length ≤ sizeLine := Paired.length kt ▸ z
  have lp : (putK kvs k v).length ≤ sizeLine := Nat.le_trans (length_putK kvs k v) hz
  refine wpAny_dictSet_heap (hsz := lx) (show X.A.units < cLine by omega) (key_of I.hok hb) at_ ?_
  rintro h' ⟨ob, es, ep, q1, q2, q3, q4, _, q6⟩ same
  apply go
  have keeps : ∀ (c : Addr) ys, H c = some (.tup ys) → upd H D (.dT (putK kvs k v)) c = some (.tup ys) := fun c ys ec => (upd_ne (ne_of ec hD (by intro e; cases e))).trans ec
  exact d_write I (hD.symm ▸ True.intro) same ⟨ob, q1⟩ ⟨lp, nm, _, (KT.put kt k hb rv).keeps keeps, ob, es, ep, q1, q2, q3, q4, q6⟩
/-- {k: v for target in iter if ..}, the keys tuples of ints or texts: D the new dict -/
def tDcT (wi : TI) (g : TG) (tt : TT) (tk tv : TE) (vs : List Nat) : TE := fun σ H Q => wi σ H fun J H1 => ∀ D, H1 D = none → ∃ W : Nat → Nat → Hp → Prop, (∃ m, W 0 m (upd H1 D (.dT []))) ∧ ∀ i m H, W i m H →
  (J.stop i H ∧ Q (.ref D) H) ∨ (J.go i H ∧ ∃ Nx : Hp → Prop, (∀ H', Nx H' → ∃ m', m' < m ∧ W (i + 1) m' H') ∧ ∀ x H', J.yld i H x H' → g x (wipe σ vs) H' fun σ2 H2 => wipe σ2 vs = wipe σ vs ∧ tt σ2 H2 fun b H3 =>
    if b = true then tk σ2 H3 fun y H4 => tv σ2 H4 fun z H5 => ∃ kvs k b, y = .ref b ∧ H5 b = some (.tup (k.map kV)) ∧ H5 D = some (.dT kvs) ∧ kvs.length < sizeLine ∧ Nx (upd H5 D (.dT (putK kvs k z))) else Nx H3)
theorem pe_dcT {kx vx tg iter : Expr} {ifs : List Expr} {scope : Scope} {own : List (Str × Nat)} {pos : Pos} {wi : TI} {g : TG} {tt : TT} {tk tv : TE} (hu : X.A.units + 1 < cLine) (calm : X.calm = true) (nd : X.N.Nodup) (src : PI X tg iter wi) (blk : BlkOk X.N X.env.scope scope own)
    (pg : ∀ (s : Shared) (H : Hp) (C : Addr) (cl : List (Str × Addr)) (fp : List Addr), PG (X.blk s H scope (compEnvC scope cl C X.env) fp) tg g)
    (pt : ∀ (s : Shared) (H : Hp) (C : Addr) (cl : List (Str × Addr)) (fp : List Addr), PTs (X.blk s H scope (compEnvC scope cl C X.env) fp) ifs tt)
    (pk : ∀ (s : Shared) (H : Hp) (C : Addr) (cl : List (Str × Addr)) (fp : List Addr), PE (X.blk s H scope (compEnvC scope cl C X.env) fp) kx tk)
    (pv' : ∀ (s : Shared) (H : Hp) (C : Addr) (cl : List (Str × Addr)) (fp : List Addr), PE (X.blk s H scope (compEnvC scope cl C X.env) fp) vx tv) (fold : ∀ x, foldedSetIterable iter X.env x = pure x := by intro _; rfl) :
    PE X (.DictComp kx vx [⟨tg, iter, ifs, 0⟩] scope pos) (tDcT wi g tt tk tv (own.map (·.2))) := by
  constructor
  intro pins s σ H Q I want
  rw [arm_eval_DictComp]
  have cells : ∀ nm ∈ scope.names, nm.2 = .free → ∃ c, X.env.cells.lookup nm.1 = some c := fun nm hnm e => (blk.free nm hnm e).elim (fun a => I.ok.has _ (.inl a)) fun a => I.ok.has _ (.inr a)
  apply wpAny_comprehension_free (use := none) rfl fold (closure_ok cells) blk.kind (fun nm hnm e => by rw [blk.uniq nm hnm, e])
  refine thn (src.run pins s σ H _ I want) fun _ sa step1 => thn step1 fun _ sb step2 => ?_
  obtain ⟨it, fp, told, J, Hb, rfl, Ib, Tn, stb, fb, rest⟩ := step2
  refine wpAny_newObj_type (newEnv_comp ?_)
  -- the dict's own place
  obtain ⟨D, eD⟩ : ∃ D, sb.heap.objs.size = D := ⟨_, rfl⟩
  have freeD : Hb D = none := Ib.hok.fresh (eD ▸ Nat.le_refl _)
  obtain ⟨W, ⟨m0, start⟩, turn⟩ := rest D freeD
  obtain ⟨sc, eSc⟩ : ∃ sc : Shared, { sb with heap := sb.heap.push { cls := .type "dict", data := .dict #[] } } = sc := ⟨_, rfl⟩
  have hc : sc.heap = sb.heap.push { cls := .type "dict", data := .dict #[] } := eSc ▸ rfl
  have Ic : Inv X pins σ (upd Hb D (.dT [])) sc := by
    subst eSc eD
    exact Ib.laid (t' := sb.toks) (fun _ _ e => Heap.get?_push_of_some _ e) (Nat.le_refl _) (dt_empty sb.heap Ib.big)
  have low : ∀ b ∈ fp, b < sb.heap.objs.size := fun b hb => let ⟨_, e, _⟩ := Tn.obj _ _ stb b hb; Heap.lt_size e
  have fc : ∀ b ∈ fp, FpOk X pins (upd Hb D (.dT [])) b ∧ b < sc.heap.objs.size := by
    intro b hb
    have lt := low b hb
    have ne : b ≠ D := eD ▸ Nat.ne_of_lt lt
    exact ⟨⟨(upd_ne ne).trans (fb b hb).1, (fb b hb).2⟩, by rw [hc, Heap.size_push]; exact Nat.lt_succ_of_lt lt⟩
  have stc : told 0 sc.heap := Tn.keep _ _ _ stb fun b _ o e => hc ▸ Heap.get?_push_of_some _ e
  have Id := block_start Ic blk nd fc
  have rg := pg sc (upd Hb D (.dT [])) sc.heap.objs.size (cellsFrom (sc.heap.objs.size + 1) scope.names (cloFrom X.env.cells scope.names [])) fp
  have rt := pt sc (upd Hb D (.dT [])) sc.heap.objs.size (cellsFrom (sc.heap.objs.size + 1) scope.names (cloFrom X.env.cells scope.names [])) fp
  have rk := pk sc (upd Hb D (.dT [])) sc.heap.objs.size (cellsFrom (sc.heap.objs.size + 1) scope.names (cloFrom X.env.cells scope.names [])) fp
  have rv := pv' sc (upd Hb D (.dT [])) sc.heap.objs.size (cellsFrom (sc.heap.objs.size + 1) scope.names (cloFrom X.env.cells scope.names [])) fp
  have bare : ∀ b ∈ fp, upd Hb D (.dT []) b = none := fun b hb => (fc b hb).1.1
  show codeAny _ _ (.compStart (.DictComp kx vx [⟨tg, iter, ifs, 0⟩] scope pos) 0 (.ref it) (.ref sb.heap.objs.size) (compEnvC scope (cellsFrom (({ sb with heap := sb.heap.push { cls := .type "dict", data := .dict #[] } } : Shared).heap.objs.size + 1) scope.names (cloFrom X.env.cells scope.names [])) ({ sb with heap := sb.heap.push { cls := .type "dict", data := .dict #[] } } : Shared).heap.objs.size X.env)) (compPost (model X.prog X.w) X.A X.xe none _ (.ref sb.heap.objs.size) ({ sb with heap := sb.heap.push { cls := .type "dict", data := .dict #[] } } : Shared).heap.objs.size) { ({ sb with heap := sb.heap.push { cls := .type "dict", data := .dict #[] } } : Shared) with heap := pushCells (({ sb with heap := sb.heap.push { cls := .type "dict", data := .dict #[] } } : Shared).heap.push { cls := .type "dict", data := .dict #[] }) scope.names }
  rw [eSc, eD]
  obtain ⟨ce, eCe⟩ : ∃ ce, compEnvC scope (cellsFrom (sc.heap.objs.size + 1) scope.names (cloFrom X.env.cells scope.names [])) sc.heap.objs.size X.env = ce := ⟨_, rfl⟩
  have at_ce : ce.locals = sc.heap.objs.size := eCe ▸ rfl
  rw [eCe] at Id rg rt rk rv ⊢
  obtain ⟨Hc, eHc⟩ : ∃ Hc, upd Hb D (.dT []) = Hc := ⟨_, rfl⟩
  rw [eHc] at Ic Id rg rt rk rv start bare fc
  obtain ⟨sd, eSd⟩ : ∃ sd : Shared, { sc with heap := pushCells (sc.heap.push { cls := .type "dict", data := .dict #[] }) scope.names } = sd := ⟨_, rfl⟩
  rw [eSd] at Id ⊢
  have std : told 0 sd.heap := Tn.keep _ _ _ stc fun b _ o e => eSd ▸ pushCells_keeps _ _ _ _ (Heap.get?_push_of_some _ e)
  have pins_ : ∀ {τ : L2.St} {H' : Hp} {s' : Shared}, Inv (X.blk sc Hc scope ce fp) [] τ H' s' → (∀ b ∈ fp, H' b = none) → ∀ b ∈ fp, FpOk (X.blk sc Hc scope ce fp) [] H' b := fun I' no b hb =>
    ⟨no b hb, (I'.ok.exf b hb).1, I'.ok.exfs b hb, .inl hb, fun x c e => (I'.ok.exf b hb).2 x c e, fun p hp => nomatch (show p ∈ ([] : List (Addr × Obj)) from hp)⟩
  have loop : codeAny (model X.prog X.w) X.A (.compLoop (.DictComp kx vx [⟨tg, iter, ifs, 0⟩] scope pos) 0 (.ref it) (.ref D) ce) (compPost (model X.prog X.w) X.A X.xe none (fun v s' => ∃ x H', Inv X pins σ H' s' ∧ RelV x v ∧ Q x H') (.ref D) sc.heap.objs.size) sd := by
    refine compLoop_anyD (fun n s' => ∃ i H', Inv (X.blk sc Hc scope ce fp) [] (wipe σ (own.map (·.2))) H' s' ∧ told i s'.heap ∧ (∀ b ∈ fp, H' b = none) ∧ W i n H') ?_ m0 ⟨0, Hc, Id, std, bare, start⟩
    rintro n s1 ⟨i, H1, I1, st1, no1, w1⟩
    rcases turn i n H1 w1 with ⟨halt, ends⟩ | ⟨goes, Nx, next, step⟩
    · refine thnF (Tn.done (X.blk sc Hc scope ce fp) rfl rfl rfl calm i [] s1 _ H1 (fun _ _ => False) I1 (pins_ I1 no1) st1 halt) fun r s2 out => ?_
      obtain ⟨rfl, I2⟩ := out
      have I3 : Inv X pins σ H1 s2 := Ic.call' (ch := fp) I2.os I2.base I2.hok I2.bare fun b hb =>
        let q := (fc b hb).1.2
        ⟨q.2.2.1, q.1, q.2.2.2.1, q.2.2.2.2⟩
      have free1 : H1 sc.heap.objs.size = none := at_ce ▸ I2.free
      obtain ⟨ns, hns, _⟩ := I2.loc
      have hns : s2.heap.Ns sc.heap.objs.size ns := at_ce ▸ (show s2.heap.Ns ce.locals ns from hns)
      obtain ⟨q0, q1, q2, q3, q4, q5⟩ := Ic.fpOk (Nat.le_refl _) free1
      exact ⟨ns, hns, fun h2 same => ⟨.ref D, H1, I3.turned (t' := s2.toks) (fun b o hb e => (same.2 b hb).trans e) q0 q1 q3 q4 q5, rfl, ends⟩⟩
    · refine thnF (Tn.item (X.blk sc Hc scope ce fp) rfl rfl rfl calm i [] s1 _ H1 (fun _ _ => False) I1 (pins_ I1 no1) st1 goes) fun r s2 out => ?_
      obtain ⟨u, rfl, out⟩ := out
      refine thnF out fun _ s3 ⟨x, H3, I3, r3, y3, st3, no3⟩ => ?_
      have J3 := I3.pinned (pins_ I3 no3) (Tn.obj _ _ st3)
      refine thnF (rg.run _ s3 _ H3 x u _ J3 r3 (step x H3 y3)) fun _ s4 ⟨σ4, H4, I4, w4, q4⟩ => ?_
      refine thnF (rt.run _ s4 σ4 H4 _ I4 q4) fun ok s5 ⟨H5, I5, q5⟩ => ?_
      have back : ∀ {s' : Shared} {H' : Hp}, Inv (X.blk sc Hc scope ce fp) ([] ++ pinsAt fp s3.heap) σ4 H' s' → Nx H' → ∃ m, m < n ∧ ∃ i H', Inv (X.blk sc Hc scope ce fp) [] (wipe σ (own.map (·.2))) H' s' ∧ told i s'.heap ∧ (∀ b ∈ fp, H' b = none) ∧ W i m H' := by
        intro s' H' I' nx
        obtain ⟨m', less, w'⟩ := next H' nx
        have stays : ∀ b ∈ fp, ∀ o, s3.heap.get? b = some o → s'.heap.get? b = some o ∧ H' b = none := fun b hb o e =>
          have z := I'.pin (b, o) (List.mem_append_right _ (List.mem_append_right _ (mem_pinsAt hb e)))
          ⟨z.1, z.2.1⟩
        refine ⟨m', less, i + 1, H', I'.unpinned (pins := []) |>.weak (by rw [← w4, wipe_length]) (fun j v e => (wipe_some (w4.symm ▸ e)).1), Tn.keep _ _ _ st3 fun b hb o e => (stays b hb o e).1, fun b hb => ?_, w'⟩
        obtain ⟨o, e, _⟩ := Tn.obj _ _ st3 b hb
        exact (stays b hb o e).2
      cases ok with
      | false => exact back I5 (by simpa using q5)
      | true =>
        refine thnF (rk.run _ s5 σ4 H5 _ I5 (show tk σ4 H5 _ from q5)) fun _ s6 ⟨y6, H6, I6, r6, q6⟩ => ?_
        refine thnF (rv.run _ s6 σ4 H6 _ I6 q6) fun _ s7 ⟨y7, H7, I7, r7, kvs, key, b, e7, hb7, hD7, hz7, nx⟩ => ?_
        exact dset_T (X := X.blk sc Hc scope ce fp) hu I7 hD7 hb7 hz7 (e7 ▸ r6) r7 fun s8 I8 => back I8 nx
  exact codeAny_compStart_dict loop (Tn.self X.A 0 _ _ _ std loop)
end
section
variable {J : It} {n : Nat} {Gd : Hp → Prop} {Y : Nat → Hp → V → Hp → Prop} {g : TG} {tt : TT} {tk tv : TE} {wi : TI} {vs : List Nat} {σ : L2.St} {H1 : Hp} {D : Addr} {Qd : Hp → Prop}
theorem dcT_it (w : Walk J n Gd Y) (Pv : Nat → Hp → Prop) (h0 : Pv 0 (upd H1 D (.dT []))) (hG : ∀ i H, i ≤ n → Pv i H → Gd H)
    (hs : ∀ i x H H', i < n → Pv i H → Y i H x H' → g x (wipe σ vs) H' fun σ2 H2 => wipe σ2 vs = wipe σ vs ∧ tt σ2 H2 fun b H3 =>
      if b = true then tk σ2 H3 fun y H4 => tv σ2 H4 fun z H5 => ∃ kvs k b, y = .ref b ∧ H5 b = some (.tup (k.map kV)) ∧ H5 D = some (.dT kvs) ∧ kvs.length < sizeLine ∧ Pv (i + 1) (upd H5 D (.dT (putK kvs k z))) else Pv (i + 1) H3) (hd : ∀ H, Pv n H → Qd H) :
    ∃ W : Nat → Nat → Hp → Prop, (∃ m, W 0 m (upd H1 D (.dT []))) ∧ ∀ i m H, W i m H →
      (J.stop i H ∧ Qd H) ∨ (J.go i H ∧ ∃ Nx : Hp → Prop, (∀ H', Nx H' → ∃ m', m' < m ∧ W (i + 1) m' H') ∧ ∀ x H', J.yld i H x H' → g x (wipe σ vs) H' fun σ2 H2 => wipe σ2 vs = wipe σ vs ∧ tt σ2 H2 fun b H3 =>
        if b = true then tk σ2 H3 fun y H4 => tv σ2 H4 fun z H5 => ∃ kvs k b, y = .ref b ∧ H5 b = some (.tup (k.map kV)) ∧ H5 D = some (.dT kvs) ∧ kvs.length < sizeLine ∧ Nx (upd H5 D (.dT (putK kvs k z))) else Nx H3) := by
  refine ⟨fun i m H => m = n - i ∧ i ≤ n ∧ Pv i H, ⟨n, by simp, Nat.zero_le _, h0⟩, ?_⟩
  rintro i m H ⟨rfl, hi, p⟩
  have q := hG i H hi p
  by_cases c : i < n
  · exact .inr ⟨w.goes i H c q, Pv (i + 1), fun H' p' => ⟨n - (i + 1), by omega, rfl, c, p'⟩, fun x H' y => hs i x H H' c p (w.yields i H x H' c q y)⟩
  · obtain rfl : i = n := by omega
    exact .inl ⟨w.stops H q, hd H p⟩
theorem w_dcT {Q : VK} (q : wi σ H1 fun J H1 => ∀ D, H1 D = none → ∃ W : Nat → Nat → Hp → Prop, (∃ m, W 0 m (upd H1 D (.dT []))) ∧ ∀ i m H, W i m H →
  (J.stop i H ∧ Q (.ref D) H) ∨ (J.go i H ∧ ∃ Nx : Hp → Prop, (∀ H', Nx H' → ∃ m', m' < m ∧ W (i + 1) m' H') ∧ ∀ x H', J.yld i H x H' → g x (wipe σ vs) H' fun σ2 H2 => wipe σ2 vs = wipe σ vs ∧ tt σ2 H2 fun b H3 =>
    if b = true then tk σ2 H3 fun y H4 => tv σ2 H4 fun z H5 => ∃ kvs k b, y = .ref b ∧ H5 b = some (.tup (k.map kV)) ∧ H5 D = some (.dT kvs) ∧ kvs.length < sizeLine ∧ Nx (upd H5 D (.dT (putK kvs k z))) else Nx H3)) : tDcT wi g tt tk tv vs σ H1 Q := q
end
section
variable {X : Cx}
/-- set(t), t a tuple of ints -/
def rSetTI (K : PySem.W.Frag) (w : World) : List V → Hp → VK → Prop := fun xs H Q => ∃ (p : Addr) (ns : List Int), xs = [.ref p] ∧ SqT K H p (ns.map V.int) ∧ ns.length ≤ 1000 ∧
  ∀ (a : Addr) (c : Nat) H2, H a = none → c ≤ ns.length → (∀ o, G o H H2) → H2 a = some (SetO w a (fun j => decide (j ∈ ns)) c) → Q (.ref a) H2
theorem cr_setTI (hc : X.calm = true) : CallR X (.type "set") (rSetTI X.K X.w) := by
  intro pins s σ H vs us Q I r h
  obtain ⟨p, ns, rfl, hp, hz, q⟩ := h
  rw [Vals.ref1 r]
  obtain ⟨its, rv, pt, _⟩ := I.tuple hp
  have free : H s.heap.objs.size = none := I.hok.fresh (Nat.le_refl _)
  refine call_set_tupI ns (I.ok.hd hc) pt (ints_of_vals rv) (by unfold scanBound; omega) fun h' tk c R hc' keep => ?_
  exact ⟨.ref s.heap.objs.size, _, I.laid (t' := tk) keep (Nat.le_refl _) (setO_new R), rfl, q _ c _ free hc' (fun _ => G.alloc free) upd_same⟩
/-- sorted(a set of ints) -/
def rSortSI (w : World) : List V → Hp → VK → Prop := fun vs H Q => ∃ (a : Addr) (S : Int → Bool) (n : Nat), vs = [V.ref a] ∧ H a = some (SetO w a S n) ∧ n < 64 ∧
  ∀ (ns : List Int) (p : Addr) H2, ns.Pairwise (· < ·) → (∀ k : Int, k ∈ ns ↔ S k = true) → (∀ o, G o H H2) → H2 p = some (.lst (ns.map V.int)) → Q (.ref p) H2
theorem cr_sortSI (hc : X.calm = true) : CallR X (.builtin "sorted") (rSortSI X.w) := CallR.weak (cr_sortedSet hc) fun vs H Q h => by
  obtain ⟨a, S, n, e, ha, hn, q⟩ := h
  exact ⟨a, S, n, e, ha, hn, fun ns p h1 h2 _ hp => q ns p _ h1 h2 (fun _ => G.alloc hp) upd_same⟩
end
end GA
/-! ## GV -/
namespace GA
open PySem PySem.Spec PyProof.Rows L2
/-! ### a set of ints by a comprehension; len of it -/
section
variable {X : Cx}
/-- {e for target in iter if ..}, e an int: D the new set -/
def tScI (w : World) (wi : TI) (g : TG) (tt : TT) (te : TE) (vs : List Nat) : TE := fun σ H Q => wi σ H fun J H1 => ∀ D, H1 D = none → ∃ W : Nat → Nat → Hp → Prop, (∃ m, W 0 m (upd H1 D (SetO w D (fun _ => false) 0))) ∧ ∀ i m H, W i m H →
  (J.stop i H ∧ Q (.ref D) H) ∨ (J.go i H ∧ ∃ Nx : Hp → Prop, (∀ H', Nx H' → ∃ m', m' < m ∧ W (i + 1) m' H') ∧ ∀ x H', J.yld i H x H' → g x (wipe σ vs) H' fun σ2 H2 => wipe σ2 vs = wipe σ vs ∧ tt σ2 H2 fun b H3 =>
    if b = true then te σ2 H3 fun y H4 => ∃ (k : Int) (S : Int → Bool) (n : Nat), y = .int k ∧ H4 D = some (SetO w D S n) ∧ n + 1 < scanBound ∧ Nx (upd H4 D (SetO w D (fun j => S j || decide (j = k)) (if S k = true then n else n + 1))) else Nx H3)
theorem pe_scI {elt tg iter : Expr} {ifs : List Expr} {scope : Scope} {own : List (PySem.Str × Nat)} {pos : Pos} {wi : TI} {g : TG} {tt : TT} {te : TE} (calm : X.calm = true) (nd : X.N.Nodup) (src : PI X tg iter wi) (blk : BlkOk X.N X.env.scope scope own)
    (pg : ∀ (s : Shared) (H : Hp) (C : Addr) (cl : List (PySem.Str × Addr)) (fp : List Addr), PG (X.blk s H scope (compEnvC scope cl C X.env) fp) tg g)
    (pt : ∀ (s : Shared) (H : Hp) (C : Addr) (cl : List (PySem.Str × Addr)) (fp : List Addr), PTs (X.blk s H scope (compEnvC scope cl C X.env) fp) ifs tt)
    (pv' : ∀ (s : Shared) (H : Hp) (C : Addr) (cl : List (PySem.Str × Addr)) (fp : List Addr), PE (X.blk s H scope (compEnvC scope cl C X.env) fp) elt te) (fold : ∀ x, foldedSetIterable iter X.env x = pure x := by intro _; rfl) :
    PE X (.SetComp elt [⟨tg, iter, ifs, 0⟩] scope pos) (tScI X.w wi g tt te (own.map (·.2))) := by
  constructor
  intro pins s σ H Q I want
  rw [PpSet.eval_SetComp]
  have cells : ∀ nm ∈ scope.names, nm.2 = .free → ∃ c, X.env.cells.lookup nm.1 = some c := fun nm hnm e => (blk.free nm hnm e).elim (fun a => I.ok.has _ (.inl a)) fun a => I.ok.has _ (.inr a)
  apply wpAny_comprehension_free (use := none) rfl fold (closure_ok cells) blk.kind (fun nm hnm e => by rw [blk.uniq nm hnm, e])
  refine thn (src.run pins s σ H _ I want) fun _ sa step1 => thn step1 fun _ sb step2 => ?_
  obtain ⟨it, fp, told, J, Hb, rfl, Ib, Tn, stb, fb, rest⟩ := step2
  refine PpSet.newSet_ok (newEnv_comp ?_)
  obtain ⟨D, eD⟩ : ∃ D, sb.heap.objs.size = D := ⟨_, rfl⟩
  have freeD : Hb D = none := Ib.hok.fresh (eD ▸ Nat.le_refl _)
  obtain ⟨W, ⟨m0, start⟩, turn⟩ := rest D freeD
  obtain ⟨sc, eSc⟩ : ∃ sc : Shared, { sb with heap := sb.heap.push { cls := .type "set", dict := none, data := .set #[] 0 (.fresh 0 0 (!X.w.params.followText "set-order")) } } = sc := ⟨_, rfl⟩
  have hc : sc.heap = sb.heap.push { cls := .type "set", dict := none, data := .set #[] 0 (.fresh 0 0 (!X.w.params.followText "set-order")) } := eSc ▸ rfl
  have Ic : Inv X pins σ (upd Hb D (SetO X.w D (fun _ => false) 0)) sc := by
    subst eSc eD
    exact Ib.laid (t' := sb.toks) (fun _ _ e => Heap.get?_push_of_some _ e) (Nat.le_refl _) (setO_new (by
      have := setR_new_at (w := X.w) (h := sb.heap.push { cls := .type "set", dict := none, data := .set #[] 0 (.fresh 0 0 (!X.w.params.followText "set-order")) }) (a := sb.heap.objs.size) (ns := []) (Heap.get?_push_size _ rfl)
      simpa using this))
  have low : ∀ b ∈ fp, b < sb.heap.objs.size := fun b hb => let ⟨_, e, _⟩ := Tn.obj _ _ stb b hb; Heap.lt_size e
  have fc : ∀ b ∈ fp, FpOk X pins (upd Hb D (SetO X.w D (fun _ => false) 0)) b ∧ b < sc.heap.objs.size := by
    intro b hb
    have lt := low b hb
    have ne : b ≠ D := eD ▸ Nat.ne_of_lt lt
    exact ⟨⟨(upd_ne ne).trans (fb b hb).1, (fb b hb).2⟩, by rw [hc, Heap.size_push]; exact Nat.lt_succ_of_lt lt⟩
  have stc : told 0 sc.heap := Tn.keep _ _ _ stb fun b _ o e => hc ▸ Heap.get?_push_of_some _ e
  have Id := block_start Ic blk nd fc
  have rg := pg sc (upd Hb D (SetO X.w D (fun _ => false) 0)) sc.heap.objs.size (cellsFrom (sc.heap.objs.size + 1) scope.names (cloFrom X.env.cells scope.names [])) fp
  have rt := pt sc (upd Hb D (SetO X.w D (fun _ => false) 0)) sc.heap.objs.size (cellsFrom (sc.heap.objs.size + 1) scope.names (cloFrom X.env.cells scope.names [])) fp
  have rv := pv' sc (upd Hb D (SetO X.w D (fun _ => false) 0)) sc.heap.objs.size (cellsFrom (sc.heap.objs.size + 1) scope.names (cloFrom X.env.cells scope.names [])) fp
  have bare : ∀ b ∈ fp, upd Hb D (SetO X.w D (fun _ => false) 0) b = none := fun b hb => (fc b hb).1.1
  show codeAny _ _ (.compStart (.SetComp elt [⟨tg, iter, ifs, 0⟩] scope pos) 0 (.ref it) (.ref sb.heap.objs.size) (compEnvC scope (cellsFrom (({ sb with heap := sb.heap.push { cls := .type "set", dict := none, data := .set #[] 0 (.fresh 0 0 (!X.w.params.followText "set-order")) } } : Shared).heap.objs.size + 1) scope.names (cloFrom X.env.cells scope.names [])) ({ sb with heap := sb.heap.push { cls := .type "set", dict := none, data := .set #[] 0 (.fresh 0 0 (!X.w.params.followText "set-order")) } } : Shared).heap.objs.size X.env)) (compPost (model X.prog X.w) X.A X.xe none _ (.ref sb.heap.objs.size) ({ sb with heap := sb.heap.push { cls := .type "set", dict := none, data := .set #[] 0 (.fresh 0 0 (!X.w.params.followText "set-order")) } } : Shared).heap.objs.size) { ({ sb with heap := sb.heap.push { cls := .type "set", dict := none, data := .set #[] 0 (.fresh 0 0 (!X.w.params.followText "set-order")) } } : Shared) with heap := pushCells (({ sb with heap := sb.heap.push { cls := .type "set", dict := none, data := .set #[] 0 (.fresh 0 0 (!X.w.params.followText "set-order")) } } : Shared).heap.push { cls := .type "dict", data := .dict #[] }) scope.names }
  rw [eSc, eD]
  obtain ⟨ce, eCe⟩ : ∃ ce, compEnvC scope (cellsFrom (sc.heap.objs.size + 1) scope.names (cloFrom X.env.cells scope.names [])) sc.heap.objs.size X.env = ce := ⟨_, rfl⟩
  have at_ce : ce.locals = sc.heap.objs.size := eCe ▸ rfl
  rw [eCe] at Id rg rt rv ⊢
  obtain ⟨Hc, eHc⟩ : ∃ Hc, upd Hb D (SetO X.w D (fun _ => false) 0) = Hc := ⟨_, rfl⟩
  rw [eHc] at Ic Id rg rt rv start bare fc
  obtain ⟨sd, eSd⟩ : ∃ sd : Shared, { sc with heap := pushCells (sc.heap.push { cls := .type "dict", data := .dict #[] }) scope.names } = sd := ⟨_, rfl⟩
  rw [eSd] at Id ⊢
  have std : told 0 sd.heap := Tn.keep _ _ _ stc fun b _ o e => eSd ▸ pushCells_keeps _ _ _ _ (Heap.get?_push_of_some _ e)
  have pins_ : ∀ {τ : L2.St} {H' : Hp} {s' : Shared}, Inv (X.blk sc Hc scope ce fp) [] τ H' s' → (∀ b ∈ fp, H' b = none) → ∀ b ∈ fp, FpOk (X.blk sc Hc scope ce fp) [] H' b := fun I' no b hb =>
    ⟨no b hb, (I'.ok.exf b hb).1, I'.ok.exfs b hb, .inl hb, fun x c e => (I'.ok.exf b hb).2 x c e, fun p hp => nomatch (show p ∈ ([] : List (Addr × Obj)) from hp)⟩
  have loop : codeAny (model X.prog X.w) X.A (.compLoop (.SetComp elt [⟨tg, iter, ifs, 0⟩] scope pos) 0 (.ref it) (.ref D) ce) (compPost (model X.prog X.w) X.A X.xe none (fun v s' => ∃ x H', Inv X pins σ H' s' ∧ RelV x v ∧ Q x H') (.ref D) sc.heap.objs.size) sd := by
    refine PpSet.compLoopS_any (fun n s' => ∃ i H', Inv (X.blk sc Hc scope ce fp) [] (wipe σ (own.map (·.2))) H' s' ∧ told i s'.heap ∧ (∀ b ∈ fp, H' b = none) ∧ W i n H') ?_ m0 ⟨0, Hc, Id, std, bare, start⟩
    rintro n s1 ⟨i, H1, I1, st1, no1, w1⟩
    rcases turn i n H1 w1 with ⟨halt, ends⟩ | ⟨goes, Nx, next, step⟩
    · refine thnF (Tn.done (X.blk sc Hc scope ce fp) rfl rfl rfl calm i [] s1 _ H1 (fun _ _ => False) I1 (pins_ I1 no1) st1 halt) fun r s2 out => ?_
      obtain ⟨rfl, I2⟩ := out
      have I3 : Inv X pins σ H1 s2 := Ic.call' (ch := fp) I2.os I2.base I2.hok I2.bare fun b hb =>
        let q := (fc b hb).1.2
        ⟨q.2.2.1, q.1, q.2.2.2.1, q.2.2.2.2⟩
      have free1 : H1 sc.heap.objs.size = none := at_ce ▸ I2.free
      obtain ⟨ns, hns, _⟩ := I2.loc
      have hns : s2.heap.Ns sc.heap.objs.size ns := at_ce ▸ (show s2.heap.Ns ce.locals ns from hns)
      obtain ⟨q0, q1, q2, q3, q4, q5⟩ := Ic.fpOk (Nat.le_refl _) free1
      exact ⟨ns, hns, fun h2 same => ⟨.ref D, H1, I3.turned (t' := s2.toks) (fun b o hb e => (same.2 b hb).trans e) q0 q1 q3 q4 q5, rfl, ends⟩⟩
    · refine thnF (Tn.item (X.blk sc Hc scope ce fp) rfl rfl rfl calm i [] s1 _ H1 (fun _ _ => False) I1 (pins_ I1 no1) st1 goes) fun r s2 out => ?_
      obtain ⟨u, rfl, out⟩ := out
      refine thnF out fun _ s3 ⟨x, H3, I3, r3, y3, st3, no3⟩ => ?_
      have J3 := I3.pinned (pins_ I3 no3) (Tn.obj _ _ st3)
      refine thnF (rg.run _ s3 _ H3 x u _ J3 r3 (step x H3 y3)) fun _ s4 ⟨σ4, H4, I4, w4, q4⟩ => ?_
      refine thnF (rt.run _ s4 σ4 H4 _ I4 q4) fun ok s5 ⟨H5, I5, q5⟩ => ?_
      have back : ∀ {s' : Shared} {H' : Hp}, Inv (X.blk sc Hc scope ce fp) ([] ++ pinsAt fp s3.heap) σ4 H' s' → Nx H' → ∃ m, m < n ∧ ∃ i H', Inv (X.blk sc Hc scope ce fp) [] (wipe σ (own.map (·.2))) H' s' ∧ told i s'.heap ∧ (∀ b ∈ fp, H' b = none) ∧ W i m H' := by
        intro s' H' I' nx
        obtain ⟨m', less, w'⟩ := next H' nx
        have stays : ∀ b ∈ fp, ∀ o, s3.heap.get? b = some o → s'.heap.get? b = some o ∧ H' b = none := fun b hb o e =>
          have z := I'.pin (b, o) (List.mem_append_right _ (List.mem_append_right _ (mem_pinsAt hb e)))
          ⟨z.1, z.2.1⟩
        refine ⟨m', less, i + 1, H', I'.unpinned (pins := []) |>.weak (by rw [← w4, wipe_length]) (fun j v e => (wipe_some (w4.symm ▸ e)).1), Tn.keep _ _ _ st3 fun b hb o e => (stays b hb o e).1, fun b hb => ?_, w'⟩
        obtain ⟨o, e, _⟩ := Tn.obj _ _ st3 b hb
        exact (stays b hb o e).2
      cases ok with
      | false => exact back I5 (by simpa using q5)
      | true =>
        refine thnF (rv.run _ s5 σ4 H5 _ I5 (show te σ4 H5 _ from q5)) fun u6 s6 ⟨y6, H6, I6, r6, k, S, c, e6, hD6, room, nx⟩ => ?_
        subst e6
        exact thnF (mt_sadd (X := X.blk sc Hc scope ce fp) _ s6 σ4 H6 (.ref D) [.int k] (.ref D) [u6] (fun _ H' => Nx H') I6 rfl (.cons r6 .nil) ⟨D, k, S, c, rfl, rfl, hD6, room, nx⟩) fun _ s7 ⟨_, H7, I7, _, nx7⟩ => back I7 nx7
  exact PpSet.codeAny_compStart_set loop (Tn.self X.A 0 _ _ _ std loop)
end
section
variable {J : It} {n : Nat} {Gd : Hp → Prop} {Y : Nat → Hp → V → Hp → Prop} {g : TG} {tt : TT} {te : TE} {wi : TI} {vs : List Nat} {σ : L2.St} {H1 : Hp} {D : Addr} {Qd : Hp → Prop} {w : World}
theorem scI_it (wk : Walk J n Gd Y) (Pv : Nat → Hp → Prop) (h0 : Pv 0 (upd H1 D (SetO w D (fun _ => false) 0))) (hG : ∀ i H, i ≤ n → Pv i H → Gd H)
    (hs : ∀ i x H H', i < n → Pv i H → Y i H x H' → g x (wipe σ vs) H' fun σ2 H2 => wipe σ2 vs = wipe σ vs ∧ tt σ2 H2 fun b H3 =>
      if b = true then te σ2 H3 fun y H4 => ∃ (k : Int) (S : Int → Bool) (n : Nat), y = .int k ∧ H4 D = some (SetO w D S n) ∧ n + 1 < scanBound ∧ Pv (i + 1) (upd H4 D (SetO w D (fun j => S j || decide (j = k)) (if S k = true then n else n + 1))) else Pv (i + 1) H3) (hd : ∀ H, Pv n H → Qd H) :
    ∃ W : Nat → Nat → Hp → Prop, (∃ m, W 0 m (upd H1 D (SetO w D (fun _ => false) 0))) ∧ ∀ i m H, W i m H →
      (J.stop i H ∧ Qd H) ∨ (J.go i H ∧ ∃ Nx : Hp → Prop, (∀ H', Nx H' → ∃ m', m' < m ∧ W (i + 1) m' H') ∧ ∀ x H', J.yld i H x H' → g x (wipe σ vs) H' fun σ2 H2 => wipe σ2 vs = wipe σ vs ∧ tt σ2 H2 fun b H3 =>
        if b = true then te σ2 H3 fun y H4 => ∃ (k : Int) (S : Int → Bool) (n : Nat), y = .int k ∧ H4 D = some (SetO w D S n) ∧ n + 1 < scanBound ∧ Nx (upd H4 D (SetO w D (fun j => S j || decide (j = k)) (if S k = true then n else n + 1))) else Nx H3) := by
  refine ⟨fun i m H => m = n - i ∧ i ≤ n ∧ Pv i H, ⟨n, by simp, Nat.zero_le _, h0⟩, ?_⟩
  rintro i m H ⟨rfl, hi, p⟩
  have q := hG i H hi p
  by_cases c : i < n
  · exact .inr ⟨wk.goes i H c q, Pv (i + 1), fun H' p' => ⟨n - (i + 1), by omega, rfl, c, p'⟩, fun x H' y => hs i x H H' c p (wk.yields i H x H' c q y)⟩
  · obtain rfl : i = n := by omega
    exact .inl ⟨wk.stops H q, hd H p⟩
theorem w_scI {Q : VK} (q : wi σ H1 fun J H1 => ∀ D, H1 D = none → ∃ W : Nat → Nat → Hp → Prop, (∃ m, W 0 m (upd H1 D (SetO w D (fun _ => false) 0))) ∧ ∀ i m H, W i m H →
  (J.stop i H ∧ Q (.ref D) H) ∨ (J.go i H ∧ ∃ Nx : Hp → Prop, (∀ H', Nx H' → ∃ m', m' < m ∧ W (i + 1) m' H') ∧ ∀ x H', J.yld i H x H' → g x (wipe σ vs) H' fun σ2 H2 => wipe σ2 vs = wipe σ vs ∧ tt σ2 H2 fun b H3 =>
    if b = true then te σ2 H3 fun y H4 => ∃ (k : Int) (S : Int → Bool) (n : Nat), y = .int k ∧ H4 D = some (SetO w D S n) ∧ n + 1 < scanBound ∧ Nx (upd H4 D (SetO w D (fun j => S j || decide (j = k)) (if S k = true then n else n + 1))) else Nx H3)) : tScI w wi g tt te vs σ H1 Q := q
end
section
variable {X : Cx}
def rLenSI (w : World) : List V → Hp → VK → Prop := fun xs H Q => ∃ (a : Addr) (S : Int → Bool) (n : Nat), xs = [.ref a] ∧ H a = some (SetO w a S n) ∧ n ≤ 1000 ∧ Q (.int n) H
theorem call_lenSI : CallR X (.builtin "len") (rLenSI X.w) := by
  intro pins s σ H xs us Q I r h
  obtain ⟨a, S, n, rfl, ha, hn, q⟩ := h
  rw [Vals.ref1 r]
  obtain ⟨o, es, ep, t, ho, hex, hd, _, nd, mem, hsz, hf, en, _⟩ := setO_get I ha
  exact call_len_set ho hex hd hf (by omega) ⟨.int n, H, I.tok _, ⟨_, by rw [en]⟩, q⟩
/-- xs[::-1] of a list -/
def tRevL (K : PySem.W.Frag) (te : TE) : TE := fun σ H Q => te σ H fun x H1 => ∃ (a : Addr) (xs : List V), x = .ref a ∧ SqL K H1 a xs ∧ ∀ q H2, H1 q = none → (∀ o, G o H1 H2) → H2 q = some (.lst xs.reverse) → Q (.ref q) H2
theorem w_revL {K : PySem.W.Frag} {te : TE} {σ : L2.St} {H : Hp} {Q : VK} (q : te σ H fun x H1 => ∃ (a : Addr) (xs : List V), x = .ref a ∧ SqL K H1 a xs ∧ ∀ q H2, H1 q = none → (∀ o, G o H1 H2) → H2 q = some (.lst xs.reverse) → Q (.ref q) H2) : tRevL K te σ H Q := q
theorem fm_congr {α β : Type} {f g : α → Option β} : ∀ {l : List α}, (∀ x ∈ l, f x = g x) → l.filterMap f = l.filterMap g
  | [], _ => rfl
  | x :: l, h => by rw [List.filterMap_cons, List.filterMap_cons, h x List.mem_cons_self, fm_congr fun y hy => h y (List.mem_cons_of_mem _ hy)]
theorem vals_app : ∀ {xs ys : List V} {us vs : List Value}, Vals xs us → Vals ys vs → Vals (xs ++ ys) (us ++ vs)
  | _, _, _, _, .nil, h => h
  | _, _, _, _, .cons h t, h' => .cons h (vals_app t h')
theorem vals_rev : ∀ {xs : List V} {us : List Value}, Vals xs us → Vals xs.reverse us.reverse
  | _, _, .nil => .nil
  | _, _, .cons h t => by rw [List.reverse_cons, List.reverse_cons]; exact vals_app (vals_rev t) (.cons h .nil)
theorem rev_pick (its : List Value) : slicePick its.toArray none none (some (-1)) = its.reverse.toArray := by
  unfold slicePick
  congr 1
  have e : sliceBounds none none (some (-1)) its.toArray.size = ((its.length : Int) - 1, -1, -1) := by
    unfold sliceBounds
    simp
  rw [e]
  have e2 : sliceRange ((its.length : Int) - 1) (-1) (-1) = (List.range its.length).map fun (k : Nat) => (((its.length : Int) - 1) + (-1) * (k : Int)).toNat := by
    unfold sliceRange
    have c : (if (-1 : Int) > 0 then (if ((its.length : Int) - 1) < -1 then ((-1) - ((its.length : Int) - 1) + (-1) - 1) / (-1) else 0) else (if ((its.length : Int) - 1) > -1 then (((its.length : Int) - 1) - (-1) - (-1) - 1) / (-(-1)) else 0)).toNat = its.length := by
      rw [if_neg (by decide)]
      split
      · rw [show (-(-1) : Int) = 1 from rfl, Int.ediv_one]; omega
      · omega
    dsimp only
    rw [c]
  dsimp only
  rw [e2, List.filterMap_map]
  have := filterMap_range_map its.reverse id
  rw [List.map_id, List.length_reverse] at this
  conv => rhs; rw [← this]
  refine fm_congr fun k hk => ?_
  have hk := List.mem_range.mp hk
  rw [List.getElem?_reverse hk]
  simp
  congr 1
  omega
theorem pe_revL {e : Expr} {te : TE} {k : Nat} {p1 p2 p3 pos : Pos} (he : PE X e te) : PE X (.Subscript e (.Slice none none (some (.UnaryOp .USub (.Constant (.int 1) k p1) p2)) p3) pos) (tRevL X.K te) := by
  constructor
  intro pins s σ H Q I h
  refine Subscript_ (thn (he.run pins s σ H _ I h) fun v s1 z => ?_)
  obtain ⟨x, H1, I1, r1, a, xs, rfl, hx, q⟩ := z
  cases r1
  have hst : PO X (some (.UnaryOp .USub (.Constant (.int 1) k p1) p2)) (tPart (tUn (rU fun i => .int (-i)) (tC (.int 1)))) := po_some (pe_un un_neg pe_int)
  refine wpAny_Slice (thn (po_none.run pins s1 σ H1 (fun o H2 => o = none ∧ H2 = H1) I1 ⟨rfl, rfl⟩) fun vl s2 z2 => ?_)
  obtain ⟨_, H2, I2, pl, rfl, rfl⟩ := z2
  refine thn (po_none.run pins s2 σ H2 (fun o H3 => o = none ∧ H3 = H2) I2 ⟨rfl, rfl⟩) fun vu s3 z3 => ?_
  obtain ⟨_, H3, I3, pu, rfl, rfl⟩ := z3
  refine thn (hst.run pins s3 σ H3 (fun o H4 => o = some (-1) ∧ H4 = H3) I3 ⟨1, rfl, -1, rfl, rfl, rfl⟩) fun vs s4 z4 => ?_
  obtain ⟨_, H4, I4, ps, rfl, rfl⟩ := z4
  obtain ⟨S, eS⟩ : ∃ S : Shared, S = { s4 with heap := s4.heap.push { cls := .type "slice", data := .fields #[vl, vu, vs] } } := ⟨_, rfl⟩
  have I5 : Inv X pins σ H4 S := by rw [eS]; exact I4.kept (t' := s4.toks) fun b ob q => Heap.get?_push_of_some _ q
  obtain ⟨its, r, ht0, hz⟩ := I5.list hx
  have ht := ht0.isList
  have hlen : its.toArray.size = xs.length := by rw [List.size_toArray]; exact r.length.symm
  have hsl : S.heap.IsSliceOf s4.heap.objs.size vl vu vs := by rw [eS]; exact Heap.IsSliceOf.new _ vl vu vs
  show wpAny (model X.prog X.w) X.A (subscriptTail e (.Slice none none (some (.UnaryOp .USub (.Constant (.int 1) k p1) p2)) p3) (.ref a) (.ref s4.heap.objs.size)) (EP X pins σ Q) X.xe { s4 with heap := s4.heap.push { cls := .type "slice", data := .fields #[vl, vu, vs] } }
  rw [← eS]
  refine tail_any (ops := [.ref a, .ref s4.heap.objs.size]) ht.typeIs slot_list_getitem.lookup ?_ (by with_unfolding_all rfl)
  refine wpAny_getItem_list_slice ht hsl pl pu ps (by decide) ?_ (by rw [hlen, r.length, ← List.size_toArray]; omega)
  rw [rev_pick]
  have new : H4 S.heap.objs.size = none := I5.hok.fresh (Nat.le_refl _)
  have rr : Vals xs.reverse its.reverse := by
    have rel := vals_rev r
    exact rel
  refine ⟨.ref S.heap.objs.size, _, I5.laid (t' := S.toks) (o := .lst xs.reverse) (fun b ob q => Heap.get?_push_of_some _ q) (Nat.le_refl _) ?_, rfl, q _ _ new (fun _ => G.alloc new) upd_same⟩
  exact ⟨by rw [List.length_reverse]; exact hz, its.reverse, _, rr, Heap.get?_push_size _ rfl⟩
end
end GA
/-! ## GW -/
namespace GA
open PySem PySem.Spec PyProof.Rows L2
section
variable {X : Cx}
/-- enumerate(a list or a tuple) -/
def iEnumS (K : PySem.W.Frag) (ta : TA) : TI := fun σ H R => ta σ H fun vs H1 => ∃ a, vs = [.ref a] ∧ (((∃ xs, SqL K H1 a xs) ∧ R (Ite K a) H1) ∨ ((∃ xs, SqT K H1 a xs) ∧ R (IteT K a) H1))
theorem w_ienumS {K : PySem.W.Frag} {ta : TA} {σ : L2.St} {H : Hp} {R : It → Hp → Prop} (q : ta σ H fun vs H1 => ∃ a, vs = [.ref a] ∧ (((∃ xs, SqL K H1 a xs) ∧ R (Ite K a) H1) ∨ ((∃ xs, SqT K H1 a xs) ∧ R (IteT K a) H1))) : iEnumS K ta σ H R := q
theorem pi_enumS {e : Expr} {ta : TA} {p pos tpos : Pos} {elts : List Expr} {kk : Nat} (hg : Gl X "enumerate") (hm : X.mg "enumerate" = none) (ha : PA X [e] ta) (hs : starEach [e] X.env = [(false, eval e X.env)] := by rfl) :
    PI X (.Tuple elts kk tpos) (.Call (.Name "enumerate" p) [e] [] pos) (iEnumS X.K ta) := by
  constructor
  intro pins s σ H R I h
  refine Call_ (ld_blt I hg hm boot_enumerate (PyProof.Rows.callWith_type1 (thn (ha.run pos pins s σ H _ I h) fun us s1 ⟨vs, H1, I1, r1, a, ev, q1⟩ => ?_) hs rfl))
  subst ev
  rw [Vals.ref1 r1]
  have up : ∀ b ∈ [s1.heap.objs.size + 1, s1.heap.objs.size], s1.heap.objs.size ≤ b := fun b hb => by
    rcases List.mem_cons.mp hb with z | z
    · omega
    · have : b = s1.heap.objs.size := by simpa using z
      omega
  rcases q1 with ⟨⟨xs, hq⟩, q⟩ | ⟨⟨xs, hq⟩, q⟩
  · obtain ⟨its, rv, pl, hz⟩ := I1.list hq
    refine call_enumerate_list pl.isList fun h' he hit hsz hk => wpAny_pyIter_enum he ⟨s1.heap.objs.size + 1, [s1.heap.objs.size + 1, s1.heap.objs.size], _, _, H1, rfl, I1.kept (t' := s1.toks) hk, turn_enum a (s1.heap.objs.size + 1) s1.heap.objs.size, ⟨⟨.none, he⟩, hit, Nat.succ_ne_self _⟩, fun b hb => I1.fpOk (up b hb) (I1.hok.fresh (up b hb)), q⟩
  · obtain ⟨its, rv, pl, hz⟩ := I1.tuple hq
    have hal : a < s1.heap.objs.size := pl.lt
    refine ga_enumerate_tuple pl fun h' he hit hsz hk => wpAny_pyIter_enum he ⟨s1.heap.objs.size + 1, [s1.heap.objs.size + 1, s1.heap.objs.size], _, _, H1, rfl, I1.kept (t' := s1.toks) hk, turn_enumT a (s1.heap.objs.size + 1) s1.heap.objs.size (Nat.ne_of_lt hal) (Nat.ne_of_lt (Nat.lt_succ_of_lt hal)), ⟨⟨.none, he⟩, hit, Nat.succ_ne_self _⟩, fun b hb => I1.fpOk (up b hb) (I1.hok.fresh (up b hb)), q⟩
end
end GA
/-! ## K23 -/
section
open PySem L2 GA
local macro_rules
  | `(tactic| walk_at "w") => `(tactic| first
    | ((with_reducible refine' GA.w_var ?e ?_); (case e => exact rfl))
    | (with_reducible refine' GA.w_c ?_)
    | (with_reducible refine' GA.w_cons ?_)
    | (with_reducible refine' GA.w_nil ?_)
    | (with_reducible refine' GA.w_op ?_)
    | (with_reducible refine' GA.r_I0 ?_)
    | (with_reducible refine' GA.w_bl ?_)
    | (with_reducible refine' GA.w_seq ?_)
    | (with_reducible refine' GA.w_set ?_)
    | (with_reducible refine' GA.w_ret ?_)
    | (with_reducible refine' GA.w_ifS ?_)
    | (with_reducible refine' GA.w_test ?_)
    | (with_reducible refine' GA.w_tB ?_)
    | (with_reducible refine' GA.w_not ?_)
    | (with_reducible refine' GA.w_and ?_)
    | (with_reducible refine' GA.w_or ?_)
    | (with_reducible refine' GA.w_andV ?_)
    | (with_reducible refine' GA.w_orV ?_)
    | (with_reducible refine' GA.w_notV ?_)
    | (with_reducible refine' GA.w_blc ?_)
    | (with_reducible refine' GA.w_if ?_)
    | (with_reducible refine' GA.w_CB ?_)
    | (with_reducible refine' GA.w_call ?_)
    | (with_reducible refine' GA.w_tupN ?_)
    | (with_reducible refine' GA.w_lstN ?_)
    | (with_reducible refine' GA.w_chain ?_)
    | (with_reducible refine' GA.w_drop ?_)
    | (with_reducible refine' GA.w_next ?_)
    | (with_reducible refine' GA.w_break ?_)
    | (with_reducible refine' GA.w_un ?_)
    | (with_reducible refine' GA.r_U ?_)
    | (with_reducible refine' GA.r_eqI ?_)
    | (with_reducible refine' GA.r_neI ?_)
    | (with_reducible refine' GA.r_eqB ?_)
    | (with_reducible refine' GA.r_neB ?_)
    | (with_reducible refine' GA.w_fld ?_)
    | (with_reducible refine' GA.w_sfld ?_)
    | (with_reducible refine' GA.w_sl ?_)
    | (with_reducible refine' GA.w_part ?_)
    | (with_reducible refine' GA.w_noPart ?_)
    | (with_reducible refine' GA.w_inti ?_)
    | (with_reducible refine' GA.w_retN ?_)
    | (with_reducible refine' GA.w_gsub ?_)
    | (with_reducible refine' GA.w_gname ?_)
    | (with_reducible refine' L2.iteT ?_)
    | (with_reducible refine' L2.iteF ?_)
    | (with_reducible refine' GA.w_nt ?_)
    | (with_reducible refine' GA.w_nf ?_)
    | (with_reducible refine' GA.w_isN ?_)
    | (with_reducible refine' GA.w_notN ?_)
    | (with_reducible refine' GA.w_yes ?_)
    | (with_reducible refine' GA.w_lc ?_)
    | (with_reducible refine' GA.w_lc2 ?_)
    | (with_reducible refine' GA.w_iseq ?_)
    | (with_reducible refine' GA.w_make ?_)
    | (with_reducible refine' GA.w_for ?_)
    | (with_reducible refine' GA.w_rng1 ?_)
    | (with_reducible refine' GA.w_rng2 ?_)
    | (with_reducible refine' GA.w_itup ?_)
    | (with_reducible refine' GA.w_ilist ?_)
    | (with_reducible refine' GA.w_ienum ?_)
    | (with_reducible refine' GA.w_BM ?_)
    | (with_reducible refine' GA.w_BM0 ?_)
    | (with_reducible refine' GA.w_izip ?_)
    | (with_reducible refine' GA.w_asg ?_))
  | `(tactic| walk_at "wm") => `(tactic| first
    | ((with_reducible refine' GA.w_var ?e ?_); (case e => exact rfl))
    | (with_reducible refine' GA.w_c ?_)
    | (with_reducible refine' GA.w_cons ?_)
    | (with_reducible refine' GA.w_nil ?_)
    | (with_reducible refine' GA.w_op ?_)
    | (with_reducible refine' GA.r_I0 ?_)
    | (with_reducible refine' GA.w_bl ?_)
    | (with_reducible refine' GA.w_set ?_)
    | (with_reducible refine' GA.w_ret ?_)
    | (with_reducible refine' GA.w_ifS ?_)
    | (with_reducible refine' GA.w_test ?_)
    | (with_reducible refine' GA.w_tB ?_)
    | (with_reducible refine' GA.w_not ?_)
    | (with_reducible refine' GA.w_and ?_)
    | (with_reducible refine' GA.w_or ?_)
    | (with_reducible refine' GA.w_andV ?_)
    | (with_reducible refine' GA.w_orV ?_)
    | (with_reducible refine' GA.w_notV ?_)
    | (with_reducible refine' GA.w_blc ?_)
    | (with_reducible refine' GA.w_if ?_)
    | (with_reducible refine' GA.w_CB ?_)
    | (with_reducible refine' GA.w_call ?_)
    | (with_reducible refine' GA.w_tupN ?_)
    | (with_reducible refine' GA.w_lstN ?_)
    | (with_reducible refine' GA.w_chain ?_)
    | (with_reducible refine' GA.w_drop ?_)
    | (with_reducible refine' GA.w_next ?_)
    | (with_reducible refine' GA.w_break ?_)
    | (with_reducible refine' GA.w_un ?_)
    | (with_reducible refine' GA.r_U ?_)
    | (with_reducible refine' GA.r_eqI ?_)
    | (with_reducible refine' GA.r_neI ?_)
    | (with_reducible refine' GA.r_eqB ?_)
    | (with_reducible refine' GA.r_neB ?_)
    | (with_reducible refine' GA.w_fld ?_)
    | (with_reducible refine' GA.w_sfld ?_)
    | (with_reducible refine' GA.w_sl ?_)
    | (with_reducible refine' GA.w_part ?_)
    | (with_reducible refine' GA.w_noPart ?_)
    | (with_reducible refine' GA.w_inti ?_)
    | (with_reducible refine' GA.w_retN ?_)
    | (with_reducible refine' GA.w_gsub ?_)
    | (with_reducible refine' GA.w_gname ?_)
    | (with_reducible refine' L2.iteT ?_)
    | (with_reducible refine' L2.iteF ?_)
    | (with_reducible refine' GA.w_nt ?_)
    | (with_reducible refine' GA.w_nf ?_)
    | (with_reducible refine' GA.w_isN ?_)
    | (with_reducible refine' GA.w_notN ?_)
    | (with_reducible refine' GA.w_yes ?_)
    | (with_reducible refine' GA.w_lc ?_)
    | (with_reducible refine' GA.w_lc2 ?_)
    | (with_reducible refine' GA.w_iseq ?_)
    | (with_reducible refine' GA.w_make ?_)
    | (with_reducible refine' GA.w_for ?_)
    | (with_reducible refine' GA.w_rng1 ?_)
    | (with_reducible refine' GA.w_rng2 ?_)
    | (with_reducible refine' GA.w_itup ?_)
    | (with_reducible refine' GA.w_ilist ?_)
    | (with_reducible refine' GA.w_ienum ?_)
    | (with_reducible refine' GA.w_BM ?_)
    | (with_reducible refine' GA.w_BM0 ?_)
    | (with_reducible refine' GA.w_izip ?_)
    | (with_reducible refine' GA.w_asg ?_))
  | `(tactic| walk_at "ws") => `(tactic| repeat (walk_at "w"))
  | `(tactic| walk_at "wn") => `(tactic| repeat (walk_at "wm"))


namespace Mine
section
variable {P : Program} {w : World} {K : PySem.W.Frag} {mg : Str → Option Value} {base : Heap} {a : Ads}

/-! ### a post made, told -/
def WebB (K : PySem.W.Frag) (C : Addr) (H : Hp) (x : Addr) (n : Int) (bs : List Addr) (W : List (Int × Int)) : Prop := ∃ dx wa : Addr, H x = some (.ins C dx (Da.wf (.int n) (.ref wa))) ∧ SqT K H wa (bs.map V.ref) ∧ Da.TupAll H bs W
theorem WebB.all {C x : Addr} {n : Int} {bs : List Addr} {W : List (Int × Int)} {H H' : Hp} (h : WebB K C H x n bs W) (g : G none H H') : WebB K C H' x n bs W := by
  obtain ⟨dx, wa, h1, h2, h3⟩ := h
  exact ⟨dx, wa, g.all _ _ h1, sqT_t g.tups h2, h3.g g (fun _ e => nomatch e)⟩
theorem putF_skip {g k : Str} {x v : V} {r : List (Str × V)} (n : ¬ g = k) : putF k v ((g, x) :: r) = (g, x) :: putF k v r := if_neg n
def pf1 (m : V) : List (Str × V) := [("machines", m)]
def pf2 (m wi : V) : List (Str × V) := [("machines", m), ("wires", wi)]
def pf3 (m wi wr : V) : List (Str × V) := [("machines", m), ("wires", wi), ("writers", wr)]
def pf4 (m wi wr wn : V) : List (Str × V) := [("machines", m), ("wires", wi), ("writers", wr), ("written", wn)]
section
variable {m wi wr wn uw : V}
theorem pu1 : putF "machines" m [] = pf1 m := rfl
theorem pu2 : putF "wires" wi (pf1 m) = pf2 m wi := putF_skip (by decide +kernel)
theorem pu3 : putF "writers" wr (pf2 m wi) = pf3 m wi wr := (putF_skip (by decide +kernel)).trans (congrArg _ (putF_skip (by decide +kernel)))
theorem pu4 : putF "written" wn (pf3 m wi wr) = pf4 m wi wr wn := (putF_skip (by decide +kernel)).trans (congrArg _ ((putF_skip (by decide +kernel)).trans (congrArg _ (putF_skip (by decide +kernel)))))
theorem pu5 : putF "under_way" uw (pf4 m wi wr wn) = pf m wi wr wn uw := (putF_skip (by decide +kernel)).trans (congrArg _ ((putF_skip (by decide +kernel)).trans (congrArg _ ((putF_skip (by decide +kernel)).trans (congrArg _ (putF_skip (by decide +kernel)))))))
end
theorem putK_dt : ∀ {W : List (Int × Int)} {ls : List Addr} {u : Int × Int} {l : Addr}, W.length = ls.length → u ∉ W → putK (Da.dtOf W ls) (Da.keyOfP u) (.ref l) = Da.dtOf (W ++ [u]) (ls ++ [l]) := fun {W ls u l} e h => by
  have ev : valV (Da.dtOf W ls) (Da.keyOfP u) = none := valT_none h
  have ne : ((Da.dtOf W ls).any fun kv => decide (kv.1 = Da.keyOfP u)) = false := by
    rw [valV_any, ev]
    rfl
  unfold putK
  rw [if_neg (by rw [ne]; exact Bool.false_ne_true)]
  clear ev ne h
  induction W generalizing ls with
  | nil =>
    cases ls with
    | nil => rfl
    | cons _ _ => simp at e
  | cons v W ih =>
    cases ls with
    | nil => simp at e
    | cons m ls =>
      show (Da.keyOfP v, V.ref m) :: (Da.dtOf W ls ++ [(Da.keyOfP u, V.ref l)]) = (Da.keyOfP v, V.ref m) :: Da.dtOf (W ++ [u]) (ls ++ [l])
      rw [ih (by simpa using e)]
theorem dtOf_len : ∀ {W : List (Int × Int)} {ls : List Addr}, W.length = ls.length → (Da.dtOf W ls).length = W.length
  | [], [], _ => rfl
  | _ :: W, _ :: ls, e => by
    show (Da.dtOf W ls).length + 1 = W.length + 1
    rw [dtOf_len (by simpa using e)]
theorem nodup_snoc {α : Type} {l : List α} {a : α} (h : l.Nodup) (n : a ∉ l) : (l ++ [a]).Nodup := List.nodup_append.mpr ⟨h, by simp, fun x hx y hy e => by
  have ey : y = a := by simpa using hy
  subst ey; subst e
  exact n hx⟩
theorem take_snoc {α : Type} {l : List α} {i : Nat} {a : α} (h : l[i]? = some a) : l.take (i + 1) = l.take i ++ [a] := by rw [List.take_add_one, h]; rfl
theorem not_take {α : Type} {l : List α} (nd : l.Nodup) {i : Nat} {a : α} (h : l[i]? = some a) : a ∉ l.take i := fun m => by
  obtain ⟨j, hj⟩ := List.getElem?_of_mem m
  have jl := (List.getElem?_eq_some_iff.mp hj).1
  rw [List.length_take] at jl
  rw [List.getElem?_take_of_lt (by omega)] at hj
  have := nd_ix nd h hj
  omega
def sp_Post_init (K : PySem.W.Frag) (C D : Addr) : Sp := fun vs H Q _ => ∃ (x dx web : Addr) (n : Int) (bs : List Addr) (W : List (Int × Int)) (vp : Addr) (ws : List Int), vs = [.ref x, .ref web, .ref vp] ∧ H x = some (.ins C dx []) ∧ WebB K D H web n bs W ∧ 1 ≤ n ∧ WW n W ws ∧ SqT K H vp (ws.map V.int) ∧
  ∀ (A : PosA) (ds lt : List (List Int)) H', A.q = x → (∀ b u, b ≠ x → H b = some u → H' b = some u) → (∀ a ∈ A.rs, H a = none) → (∀ a ∈ A.ls, H a = none) → PosS K C n W ws A H' ds lt → (∀ d ∈ ds, d = []) → (∀ l ∈ lt, l = []) → (ds.length : Int) = n → Q .non H'
theorem ok_Post_init (T : Txt K mg a) : FnOk P w K mg base CX0 1 a.f_Post_init a.d_Post_init P_Post_init (sp_Post_init K a.c_Post a.c_Web) := by
  refine T.F_Post_init.ok sc_Post_init (fun vs H Q E h => by obtain ⟨x, dx, web, n, bs, W, vp, ws, rfl, _⟩ := h; rfl) (fun cdv A0 outer s H vs Q E hr h => ?_)
  obtain ⟨x, dx, web, n, bs, W, vp, ws, rfl, hx, ⟨dw, wa, hw, hwa, tup⟩, n1, O, hv, k⟩ := h
  have nwx : web ≠ x := ne_of hw hx (by intro z; have z := (HO.ins.inj z).2.2; simp [Da.wf] at z)
  have n7 := O.n7
  have lb := tup.1
  have w49 := O.w49
  refine ⟨_, (pss_cons (ps_fld (pv 0) (pe_fld (pv 1) rfl) rfl)
  (pss_cons (ps_fld (pv 0) (pe_fld (pv 1) rfl) rfl)
  (pss_cons (ps_fld (pv 0) (pv 2) rfl)
  (pss_cons (ps_fld (pv 0) (pe_lc (own := [("_", 3)]) (g := (gName 3)) (tt := tYes) rfl sc_Post_init.nd (pi_range1 rfl T.n_range (pa_cons (pe_fld (pv 1) rfl) pa_nil)) (blkOk_by (N := N_Post_init) (sc := defScope s_Post_init) (by decide +kernel)) (fun _ _ _ _ _ => (pg_name (i := 3) sc_Post_init.nd rfl (by first | exact Or.inl rfl | exact Or.inr rfl))) (fun _ _ _ _ _ => pts_nil) (fun _ _ _ _ _ => (pe_lstN pa_nil))) rfl)
  (pss_one (ps_fld (pv 0) (pe_dcT (hu_of hr) (own := [("wire", 4)]) (g := (gName 4)) (tt := tYes) rfl sc_Post_init.nd (pi_tup (pe_fld (pv 1) rfl)) (blkOk_by (N := N_Post_init) (sc := defScope s_Post_init) (by decide +kernel)) (fun _ _ _ _ _ => (pg_name (i := 4) sc_Post_init.nd rfl (by first | exact Or.inl rfl | exact Or.inr rfl))) (fun _ _ _ _ _ => pts_nil) (fun _ _ _ _ _ => (pv 4)) (fun _ _ _ _ _ => (pe_lstN pa_nil))) rfl)))))), ?_⟩
  walk_at "ws"
  refine Da.r_fld hw T.cl_Web T.na_Web_machines (Da.wf_m _ _) ?_
  walk_at "ws"
  refine Da.r_sfld hx T.cl_Post T.na_Post_machines (by show 0 < 1000; decide) ?_
  rw [pu1]
  walk_at "ws"
  refine Da.r_fld (by rw [upd_ne nwx]; exact hw) T.cl_Web T.na_Web_wires (Da.wf_w _ _) ?_
  walk_at "ws"
  refine Da.r_sfld upd_same T.cl_Post T.na_Post_wires (by show 1 < 1000; decide) ?_
  rw [pu2, upd_upd]
  walk_at "ws"
  refine Da.r_sfld upd_same T.cl_Post T.na_Post_writers (by show 2 < 1000; decide) ?_
  rw [pu3, upd_upd]
  have k1 : ∀ b u, b ≠ x → H b = some u → (upd H x (.ins a.c_Post dx (pf3 (.int n) (.ref wa) (.ref vp)))) b = some u := fun b u ne e => by rw [upd_ne ne]; exact e
  have h1 : (upd H x (.ins a.c_Post dx (pf3 (.int n) (.ref wa) (.ref vp)))) x = some (.ins a.c_Post dx (pf3 (.int n) (.ref wa) (.ref vp))) := upd_same
  have b1 : ∀ b, (upd H x (.ins a.c_Post dx (pf3 (.int n) (.ref wa) (.ref vp)))) b = none → H b = none := fun b e => by
    by_cases c : b = x
    · rw [c, upd_same] at e; cases e
    · rw [upd_ne c] at e; exact e
  generalize upd H x (.ins a.c_Post dx (pf3 (.int n) (.ref wa) (.ref vp))) = H1 at k1 h1 b1 ⊢
  walk_at "ws"
  refine Da.r_fld (k1 _ _ nwx hw) T.cl_Web T.na_Web_machines (Da.wf_m _ _) ?_
  obtain ⟨m, rfl⟩ : ∃ m : Nat, n = (m : Int) := ⟨n.toNat, by omega⟩
  refine i_rng1 (by omega) (by omega) ?_
  rw [Int.toNat_natCast]
  intro dl hdl
  refine lc_it walk_range (fun i H' => ∃ rs : List Addr, G none H1 H' ∧ H' dl = some (.lst (rs.map V.ref)) ∧ rs.length = i ∧ rs.Nodup ∧ dl ∉ rs ∧ ∀ l ∈ rs, H1 l = none ∧ H' l = some (.lst [])) ⟨[], (G.refl).mut hdl (fun _ e => nomatch e), upd_same, rfl, List.nodup_nil, (fun h => nomatch h), (fun _ h => nomatch h)⟩ (fun _ _ _ _ => trivial) ?_ ?_
  · rintro i _ _ H2 hi ⟨rs, g1, h2, lr, nd, ndl, hrs⟩ ⟨rfl, rfl⟩
    walk_at "ws"
    refine ⟨rfl, ?_⟩
    walk_at "ws"
    refine ⟨sz (by simp), fun l H3 hl g2 h3 => ?_⟩
    have nl : l ≠ dl := (ne_of_none h2 hl).symm
    refine ⟨rs.map V.ref, (g2 none).all _ _ h2, Nat.lt_of_le_of_lt (by rw [List.length_map]; omega : (rs.map V.ref).length ≤ 100000) (by decide), rs ++ [l], (g1.trans (g2 none)).mut hdl (fun _ e => nomatch e), by rw [upd_same, List.map_append]; rfl, by rw [List.length_append, lr]; rfl, ?_, ?_, ?_⟩
    · exact nodup_snoc nd fun ha => by
        have := (hrs _ ha).2
        rw [hl] at this; cases this
    · intro h
      rcases List.mem_append.mp h with z | z
      · exact ndl z
      · exact nl (by simpa using z : dl = l).symm
    · intro y hy
      rcases List.mem_append.mp hy with z | z
      · have q := hrs y z
        exact ⟨q.1, by rw [upd_ne (fun (e : y = dl) => ndl (by rw [← e]; exact z))]; exact (g2 none).all _ _ q.2⟩
      · have e : y = l := by simpa using z
        subst e
        exact ⟨back_none g1 hl, by rw [upd_ne nl]; exact h3⟩
  rintro H2 ⟨rs, g12, h2, lr, nd, ndl, hrs⟩
  have h2x := g12.all _ _ h1
  walk_at "ws"
  refine Da.r_sfld h2x T.cl_Post T.na_Post_written (by show 3 < 1000; decide) ?_
  rw [pu4]
  have k2 : ∀ b u, b ≠ x → H2 b = some u → (upd H2 x (.ins a.c_Post dx (pf4 (.int m) (.ref wa) (.ref vp) (.ref dl)))) b = some u := fun b u ne e => by rw [upd_ne ne]; exact e
  have h3 : (upd H2 x (.ins a.c_Post dx (pf4 (.int m) (.ref wa) (.ref vp) (.ref dl)))) x = some (.ins a.c_Post dx (pf4 (.int m) (.ref wa) (.ref vp) (.ref dl))) := upd_same
  have b3 : ∀ b, (upd H2 x (.ins a.c_Post dx (pf4 (.int m) (.ref wa) (.ref vp) (.ref dl)))) b = none → H2 b = none := fun b e => by
    by_cases c : b = x
    · rw [c, upd_same] at e; cases e
    · rw [upd_ne c] at e; exact e
  generalize upd H2 x (.ins a.c_Post dx (pf4 (.int m) (.ref wa) (.ref vp) (.ref dl))) = H3 at k2 h3 b3 ⊢
  have k3 : ∀ b u, b ≠ x → H b = some u → H3 b = some u := fun b u ne e => k2 b u ne (g12.all _ _ (k1 b u ne e))
  have tn : ∀ b u, (∀ C d fs, u ≠ .ins C d fs) → H b = some u → H3 b = some u := fun b u nu e => k3 b u (fun z => by subst z; rw [hx] at e; exact nu _ _ _ (Option.some.inj e).symm) e
  have ts3 : Ts H H3 := fun b xs h => h.elim (fun h => .inl (tn b _ (fun _ _ _ e => nomatch e) h)) fun ⟨o, h⟩ => .inr ⟨o, tn b _ (fun _ _ _ e => nomatch e) h⟩
  have hwa3 := sqT_t ts3 hwa
  have tup3 : Da.TupAll H3 bs W := ⟨tup.1, fun i b u e1 e2 => tn b _ (fun _ _ _ e => nomatch e) (tup.2 i b u e1 e2)⟩
  have hv3 := sqT_t ts3 hv
  have h3dl : H3 dl = some (.lst (rs.map V.ref)) := k2 _ _ (fun z => by subst z; rw [h2x] at h2; cases h2) h2
  have hrs3 : ∀ l ∈ rs, H l = none ∧ H3 l = some (.lst []) := fun l hl => ⟨b1 _ (hrs l hl).1, k2 _ _ (fun z => by have q := (hrs l hl).2; subst z; rw [h2x] at q; cases q) (hrs l hl).2⟩
  walk_at "ws"
  refine w_dcT ?_
  walk_at "ws"
  refine Da.r_fld (k3 _ _ nwx hw) T.cl_Web T.na_Web_wires (Da.wf_w _ _) ?_
  refine i_tup hwa3 ?_
  intro D hD
  refine dcT_it (walk_tup (xs := bs.map V.ref)) (fun i H' => ∃ ls : List Addr, G none H3 H' ∧ H' D = some (.dT (Da.dtOf (W.take i) ls)) ∧ ls.length = i ∧ ls.Nodup ∧ ∀ l ∈ ls, H3 l = none ∧ l ≠ D ∧ H' l = some (.lst [])) ⟨[], (G.refl).mut hD (fun _ e => nomatch e), by rw [upd_same]; cases W <;> rfl, rfl, List.nodup_nil, (fun _ h => nomatch h)⟩ (fun i H' _ ⟨_, q, _⟩ => sqT_t q.tups hwa3) ?_ ?_
  · rintro i v _ H4 hi ⟨ls, g4, h4, ll, ndl4, hls⟩ ⟨rfl, hv'⟩
    rw [List.length_map] at hi
    rw [List.getElem?_map] at hv'
    obtain ⟨b, hb, rfl⟩ := Option.map_eq_some_iff.mp hv'
    obtain ⟨u, hu⟩ : ∃ u, W[i]? = some u := ⟨_, List.getElem?_eq_getElem (by omega)⟩
    have hbt := (tup3.g g4 (fun _ e => nomatch e)).2 i b u hb hu
    walk_at "ws"
    refine ⟨rfl, ?_⟩
    walk_at "ws"
    refine ⟨sz (by simp), fun l H5 hl g5 h5 => ?_⟩
    have nl : l ≠ D := (ne_of_none h4 hl).symm
    have tl : (W.take i).length = ls.length := by rw [List.length_take]; omega
    refine ⟨_, Da.keyOfP u, b, rfl, (g5 none).all _ _ hbt, (g5 none).all _ _ h4, Nat.lt_of_le_of_lt (by rw [dtOf_len tl, List.length_take]; omega : (Da.dtOf (W.take i) ls).length ≤ 1000) (by decide), ls ++ [l], (g4.trans (g5 none)).mut hD (fun _ e => nomatch e), ?_, by rw [List.length_append, ll]; rfl, ?_, ?_⟩
    · rw [upd_same, putK_dt tl (not_take O.nd hu), take_snoc hu]
    · exact nodup_snoc ndl4 fun ha => by
        have := (hls _ ha).2.2
        rw [hl] at this; cases this
    · intro y hy
      rcases List.mem_append.mp hy with z | z
      · have q := hls y z
        exact ⟨q.1, q.2.1, by rw [upd_ne q.2.1]; exact (g5 none).all _ _ q.2.2⟩
      · have e : y = l := by simpa using z
        subst e
        exact ⟨back_none g4 hl, nl, by rw [upd_ne nl]; exact h5⟩
  rintro H4 ⟨ls, g34, h4, ll, ndl4, hls⟩
  rw [List.length_map, lb] at h4 ll
  rw [List.take_length] at h4
  have h4x := g34.all _ _ h3
  walk_at "ws"
  refine Da.r_sfld h4x T.cl_Post T.na_Post_under_way (by show 4 < 1000; decide) ?_
  rw [pu5]
  have ux : ∀ b u, (∀ C d fs, u ≠ .ins C d fs) → H4 b = some u → (upd H4 x (.ins a.c_Post dx (pf (.int m) (.ref wa) (.ref vp) (.ref dl) (.ref D)))) b = some u := fun b u nu e => by
    rw [upd_ne (fun z => by subst z; rw [h4x] at e; exact nu _ _ _ (Option.some.inj e).symm)]
    exact e
  have rsA : ∀ l ∈ rs, H4 l = some (.lst []) := fun l hl => g34.all _ _ (hrs3 l hl).2
  refine k ⟨x, dx, wa, bs, vp, dl, rs, D, ls⟩ (rs.map fun _ => []) (ls.map fun _ => []) _ rfl (fun b u ne e => by rw [upd_ne ne]; exact g34.all _ _ (k3 b u ne e)) (fun l hl => (hrs3 l hl).1) (fun l hl => ?_) ?_ (fun d hd => by obtain ⟨_, _, rfl⟩ := List.mem_map.mp hd; rfl) (fun d hd => by obtain ⟨_, _, rfl⟩ := List.mem_map.mp hd; rfl) (by rw [List.length_map, lr])
  · have q := (hls l hl).1
    rcases hq : H l with _ | u
    · rfl
    · by_cases c : l = x
      · rw [c, h3] at q; cases q
      · rw [k3 l u c hq] at q; cases q
  · refine ⟨upd_same, sqT_t (fun b xs h => h.elim (fun h => .inl (ux b _ (fun _ _ _ e => nomatch e) h)) fun ⟨o, h⟩ => .inr ⟨o, ux b _ (fun _ _ _ e => nomatch e) h⟩) (sqT_t g34.tups hwa3), ⟨lb, fun i b u e1 e2 => ux b _ (fun _ _ _ e => nomatch e) (g34.all _ _ (tup3.2 i b u e1 e2))⟩,
      sqT_t (fun b xs h => h.elim (fun h => .inl (ux b _ (fun _ _ _ e => nomatch e) h)) fun ⟨o, h⟩ => .inr ⟨o, ux b _ (fun _ _ _ e => nomatch e) h⟩) (sqT_t g34.tups hv3), ux _ _ (fun _ _ _ e => nomatch e) (g34.all _ _ h3dl), ux _ _ (fun _ _ _ e => nomatch e) h4,
      ⟨by rw [List.length_map], fun i a l e1 e2 => ?_⟩, ⟨by rw [List.length_map], fun i a l e1 e2 => ?_⟩, ll, nd, ndl4, fun l hl hl2 => ?_, ndl, fun hl => ?_⟩
    · rw [List.getElem?_map, e1] at e2
      cases e2
      exact ux _ _ (fun _ _ _ e => nomatch e) (rsA a (List.mem_of_getElem? e1))
    · rw [List.getElem?_map, e1] at e2
      cases e2
      exact ux _ _ (fun _ _ _ e => nomatch e) (hls a (List.mem_of_getElem? e1)).2.2
    · have q := (hrs3 l hl).2
      rw [(hls l hl2).1] at q
      cases q
    · have q := h3dl
      rw [(hls dl hl).1] at q
      cases q

/-- a post, made -/
theorem post_new {C D : Addr} {H1 : Hp} {web vp : Addr} {n : Int} {bs : List Addr} {W : List (Int × Int)} {ws : List Int} {F : Addr → Hp → Prop} {E : XK} (hw : WebB K D H1 web n bs W) (n1 : 1 ≤ n) (O : WW n W ws) (hv : SqT K H1 vp (ws.map V.int))
    (q : ∀ (A : PosA) H2, (∀ o, G o H1 H2) → H1 A.q = none → PosT K C n W ws A H1 H2 ls0 0 → F A.q H2) :
    ∀ x dx, H1 x = none → H1 dx = none → dx ≠ x → sp_Post_init K C D (.ref x :: ([.ref web, .ref vp] ++ [])) (upd (upd H1 dx (.own x)) x (.ins C dx [])) (fun v H2 => v = .non ∧ F x H2) E := by
  intro x dx hx hdx nex
  have hxi : (upd (upd H1 dx (.own x)) x (.ins C dx [])) x = some (.ins C dx []) := upd_same
  have k12 : ∀ a u, H1 a = some u → (upd (upd H1 dx (.own x)) x (.ins C dx [])) a = some u := fun a u e => by
    rw [upd_ne (ne_of_none e hx), upd_ne (ne_of_none e hdx)]; exact e
  have g12 : G none H1 (upd (upd H1 dx (.own x)) x (.ins C dx [])) := G.of_all k12
  have bk : ∀ a, (upd (upd H1 dx (.own x)) x (.ins C dx [])) a = none → H1 a = none := fun a e => by
    by_cases c : a = x
    · rw [c, hxi] at e; cases e
    · rw [upd_ne c] at e
      by_cases c2 : a = dx
      · rw [c2]; exact hdx
      · rw [upd_ne c2] at e; exact e
  refine ⟨x, dx, web, n, bs, W, vp, ws, rfl, hxi, hw.all g12, n1, O, sqT_t g12.tups hv, fun A ds lt H2 eq k2 nr nl S hds hlt ld => ⟨rfl, ?_⟩⟩
  have g : ∀ o, G o H1 H2 := fun o => G.of_all fun a u e => k2 a u (ne_of_none e hx) (k12 a u e)
  subst eq
  refine q A H2 g hx ⟨g none, fun a m => bk a (nr a m), fun a m => bk a (nl a m), ⟨ds, lt, S, ⟨fun z d e => ?_, fun j u q _ e => ?_⟩, ld, fun d hd => by rw [hds d hd]; exact Nat.le_refl _, fun d hd => by rw [hlt d hd]; exact Nat.le_refl _⟩, Fit.init ws⟩
  · exact (hds d (List.mem_of_getElem? e)).symm
  · exact (hlt q (List.mem_of_getElem? e)).symm
def sp_Post_diaries_told (K : PySem.W.Frag) (C : Addr) : Sp := fun vs H Q _ => ∃ (A : PosA) (n : Int) (W : List (Int × Int)) (ws : List Int) (ds lt : List (List Int)), vs = [.ref A.q] ∧ PosS K C n W ws A H ds lt ∧ ds.length ≤ 1000 ∧
  ∀ (p : Addr) H', G none H H' → Da.Dia K H' p ds → Q (.ref p) H'
theorem ok_Post_diaries_told (T : Txt K mg a) : FnOk P w K mg base CX0 1 a.f_Post_diaries_told a.d_Post_diaries_told P_Post_diaries_told (sp_Post_diaries_told K a.c_Post) := by
  refine T.F_Post_diaries_told.ok sc_Post_diaries_told (fun vs H Q E h => by obtain ⟨A, n, W, ws, ds, lt, rfl, _⟩ := h; rfl) (fun cdv A0 outer s H vs Q E hr h => ?_)
  obtain ⟨A, n, W, ws, ds, lt, rfl, S, zd, k⟩ := h
  have lr := S.rs.1
  refine ⟨_, (pss_one (ps_ret (pe_callTy call_tupleN (by rfl) T.n_tuple (by decide +kernel) (pa_cons (pe_lc (own := [("diary", 1)]) (g := (gName 1)) (tt := tYes) rfl sc_Post_diaries_told.nd (pi_list (pe_fld (pv 0) rfl)) (blkOk_by (N := N_Post_diaries_told) (sc := defScope s_Post_diaries_told) (by decide +kernel)) (fun _ _ _ _ _ => (pg_name (i := 1) sc_Post_diaries_told.nd rfl (by first | exact Or.inl rfl | exact Or.inr rfl))) (fun _ _ _ _ _ => pts_nil) (fun _ _ _ _ _ => (pe_callTy (Da.k_tupleF K) (by rfl) T.n_tuple (by decide +kernel) (pa_cons (pv 1) pa_nil)))) pa_nil)))), ?_⟩
  walk_at "ws"
  refine Da.r_fld S.q T.cl_Post T.na_Post_written pf_wn ?_
  refine i_list (SqL.of S.dl) ?_
  intro D hD
  refine lc_it (walk_list (xs := A.rs.map V.ref)) (fun i H' => ∃ fs : List Addr, G none H H' ∧ H' D = some (.lst (fs.map V.ref)) ∧ fs.length = i ∧ ∀ (j : Nat) (f : Addr) (d : List Int), fs[j]? = some f → ds[j]? = some d → FrzT H' f (d.map V.int)) ⟨[], (G.refl).mut hD (fun _ e => nomatch e), upd_same, rfl, fun j f d e => by simp at e⟩ (fun i H' _ ⟨_, q, _⟩ => SqL.of (q.all _ _ S.dl)) ?_ ?_
  · rintro i v _ H2 hi ⟨fs, g2, h2, lf, hfs⟩ ⟨rfl, hv⟩
    rw [List.length_map] at hi
    rw [List.getElem?_map] at hv
    obtain ⟨l, hl, rfl⟩ := Option.map_eq_some_iff.mp hv
    obtain ⟨d, hd⟩ : ∃ d, ds[i]? = some d := ⟨_, List.getElem?_eq_getElem (by omega)⟩
    have hld := g2.all _ _ (S.rs.2 i l d hl hd)
    walk_at "ws"
    refine ⟨rfl, ?_⟩
    walk_at "ws"
    refine ⟨l, _, rfl, SqL.of hld, fun f H3 hf g3 h3 => ?_⟩
    have nfD : f ≠ D := (ne_of_none h2 hf).symm
    refine ⟨fs.map V.ref, (g3 none).all _ _ h2, Nat.lt_of_le_of_lt (by rw [List.length_map]; omega : (fs.map V.ref).length ≤ 100000) (by decide), fs ++ [f], (g2.trans (g3 none)).mut hD (fun _ e => nomatch e), by rw [upd_same, List.map_append]; rfl, by rw [List.length_append, lf]; rfl, fun j f' d' e1 e2 => ?_⟩
    have fin : FrzT H3 f' (d'.map V.int) := by
      by_cases cj : j < i
      · rw [List.getElem?_append_left (by omega)] at e1
        exact (hfs j f' d' e1 e2).n (g3 none)
      · have ej : j = i := by
          have := (List.getElem?_eq_some_iff.mp e1).1
          rw [List.length_append, lf, List.length_singleton] at this
          omega
        subst ej
        rw [List.getElem?_append_right (by omega), lf, Nat.sub_self] at e1
        rw [hd] at e2
        cases e1; cases e2
        exact h3
    exact Da.FrzT.put fin ((g3 none).all _ _ h2)
  rintro H2 ⟨fs, g2, h2, lf, hfs⟩
  rw [List.length_map] at lf
  walk_at "ws"
  refine ⟨D, _, rfl, .inl ⟨SqL.of h2, fun p H3 hp g3 h3 => ?_⟩⟩
  exact k p H3 (g2.trans (g3 none)) ⟨fs, SqT.of h3, by omega, fun i b d e1 e2 => (hfs i b d e1 e2).n (g3 none)⟩

/-- a dict from the wires to tuples of puts -/
def LetD (H : Hp) (p : Addr) (W : List (Int × Int)) (lt : List (List Int)) : Prop := ∃ fs : List Addr, H p = some (.dT (Da.dtOf W fs)) ∧ fs.length = W.length ∧ ∀ (j : Nat) (f : Addr) (d : List Int), fs[j]? = some f → lt[j]? = some d → FrzT H f (d.map V.int)
def sp_Post_letters_told (K : PySem.W.Frag) (C : Addr) : Sp := fun vs H Q _ => ∃ (A : PosA) (n : Int) (W : List (Int × Int)) (ws : List Int) (ds lt : List (List Int)), vs = [.ref A.q] ∧ PosS K C n W ws A H ds lt ∧ W.Nodup ∧ W.length ≤ 1000 ∧
  ∀ (p : Addr) H', G none H H' → H p = none → LetD H' p W lt → Q (.ref p) H'
theorem ok_Post_letters_told (T : Txt K mg a) : FnOk P w K mg base CX0 1 a.f_Post_letters_told a.d_Post_letters_told P_Post_letters_told (sp_Post_letters_told K a.c_Post) := by
  refine T.F_Post_letters_told.ok sc_Post_letters_told (fun vs H Q E h => by obtain ⟨A, n, W, ws, ds, lt, rfl, _⟩ := h; rfl) (fun cdv A0 outer s H vs Q E hr h => ?_)
  obtain ⟨A, n, W, ws, ds, lt, rfl, S, nd, zw, k⟩ := h
  have lb := S.tup.1
  have lw := S.lw
  have ll := S.ls.1
  refine ⟨_, (pss_one (ps_ret (pe_dcT (hu_of hr) (own := [("wire", 1)]) (g := (gName 1)) (tt := tYes) rfl sc_Post_letters_told.nd (pi_tup (pe_fld (pv 0) rfl)) (blkOk_by (N := N_Post_letters_told) (sc := defScope s_Post_letters_told) (by decide +kernel)) (fun _ _ _ _ _ => (pg_name (i := 1) sc_Post_letters_told.nd rfl (by first | exact Or.inl rfl | exact Or.inr rfl))) (fun _ _ _ _ _ => pts_nil) (fun _ _ _ _ _ => (pv 1)) (fun _ _ _ _ _ => (pe_callTy (Da.k_tupleF K) (by rfl) T.n_tuple (by decide +kernel) (pa_cons (pe_dget (hu_of hr) (k_fld K (pv 0) rfl) (pv 1) (by first | exact fun _ _ => rfl | rfl | decide)) pa_nil)))))), ?_⟩
  walk_at "ws"
  refine w_dcT ?_
  walk_at "ws"
  refine Da.r_fld S.q T.cl_Post T.na_Post_wires pf_wi ?_
  refine i_tup S.wa ?_
  intro D hD
  refine dcT_it (walk_tup (xs := A.bs.map V.ref)) (fun i H' => ∃ fs : List Addr, G none H H' ∧ H' D = some (.dT (Da.dtOf (W.take i) fs)) ∧ fs.length = i ∧ ∀ (j : Nat) (f : Addr) (d : List Int), fs[j]? = some f → lt[j]? = some d → FrzT H' f (d.map V.int)) ⟨[], (G.refl).mut hD (fun _ e => nomatch e), by rw [upd_same]; cases W <;> rfl, rfl, fun j f d e => by simp at e⟩ (fun i H' _ ⟨_, q, _⟩ => sqT_t q.tups S.wa) ?_ ?_
  · rintro i v _ H2 hi ⟨fs, g2, h2, lf, hfs⟩ ⟨rfl, hv'⟩
    rw [List.length_map] at hi
    rw [List.getElem?_map] at hv'
    obtain ⟨b, hb, rfl⟩ := Option.map_eq_some_iff.mp hv'
    obtain ⟨u, hu⟩ : ∃ u, W[i]? = some u := ⟨_, List.getElem?_eq_getElem (by omega)⟩
    obtain ⟨l, hl⟩ : ∃ l, A.ls[i]? = some l := ⟨_, List.getElem?_eq_getElem (by omega)⟩
    obtain ⟨d, hd⟩ : ∃ d, lt[i]? = some d := ⟨_, List.getElem?_eq_getElem (by omega)⟩
    have S2 := S.all g2
    have hbt := S2.tup.2 i b u hb hu
    have hld := S2.ls.2 i l d hl hd
    walk_at "ws"
    refine ⟨rfl, ?_⟩
    walk_at "ws"
    refine Da.w_dget ?_
    walk_at "ws"
    refine Da.r_fld S2.q T.cl_Post T.na_Post_under_way pf_uw ?_
    walk_at "ws"
    refine Da.i_dget nd S2.ud hbt hu hl ?_
    refine ⟨l, _, rfl, SqL.of hld, fun f H3 hf g3 h3 => ?_⟩
    have tl : (W.take i).length = fs.length := by rw [List.length_take]; omega
    refine ⟨_, Da.keyOfP u, b, rfl, (g3 none).all _ _ hbt, (g3 none).all _ _ h2, Nat.lt_of_le_of_lt (by rw [dtOf_len tl, List.length_take]; omega : (Da.dtOf (W.take i) fs).length ≤ 1000) (by decide), fs ++ [f], (g2.trans (g3 none)).mut hD (fun _ e => nomatch e), ?_, by rw [List.length_append, lf]; rfl, fun j f' d' e1 e2 => ?_⟩
    · rw [upd_same, putK_dt tl (not_take nd hu), take_snoc hu]
    · have fin : FrzT H3 f' (d'.map V.int) := by
        by_cases cj : j < i
        · rw [List.getElem?_append_left (by omega)] at e1
          exact (hfs j f' d' e1 e2).n (g3 none)
        · have ej : j = i := by
            have := (List.getElem?_eq_some_iff.mp e1).1
            rw [List.length_append, lf, List.length_singleton] at this
            omega
          subst ej
          rw [List.getElem?_append_right (by omega), lf, Nat.sub_self] at e1
          rw [hd] at e2
          cases e1; cases e2
          exact h3
      obtain ⟨ob, q1, q2⟩ := fin
      exact ⟨ob, by rw [upd_ne (ne_of q1 ((g3 none).all _ _ h2) (by intro z; cases z))]; exact q1, q2⟩
  rintro H2 ⟨fs, g2, h2, lf, hfs⟩
  rw [List.length_map, lb] at h2 lf
  rw [List.take_length] at h2
  exact k D H2 g2 hD ⟨fs, h2, lf, hfs⟩

theorem w_ienumS' {K : PySem.W.Frag} {ta : TA} {σ : L2.St} {H : Hp} {R : It → Hp → Prop} (q : ta σ H fun vs H1 => ∃ a, vs = [.ref a] ∧ (((∃ xs, SqL K H1 a xs) ∧ R (Ite K a) H1) ∨ ((∃ xs, SqT K H1 a xs) ∧ R (IteT K a) H1))) : iEnumS K ta σ H R := q
def sp_first_undone (K : PySem.W.Frag) (C D : Addr) : Sp := fun vs H Q _ => ∃ (A : PosA) (n : Int) (W : List (Int × Int)) (ws : List Int) (H0 : Hp) (s : LS) (b : Nat) (hd sp : Addr) (xs : List V) (ts : List Tg), vs = [.ref A.q, .ref sp] ∧ WW n W ws ∧ PosT K C n W ws A H0 H s b ∧ (SqL K H0 sp xs ∨ SqT K H0 sp xs) ∧ AbAll D hd H0 xs ts ∧ b + ts.length ≤ 70000 ∧
  ∀ H', G none H0 H' → (∀ i : Nat, goT n W ws s ts 0 = .inl i → Q (.int (i : Nat)) H') ∧ (∀ s', goT n W ws s ts 0 = .inr s' → PosT K C n W ws A H0 H' s' (b + ts.length) → Q .non H')
theorem ok_first_undone (T : Txt K mg a) : FnOk P w K mg base CX0 8 a.f_first_undone a.d_first_undone P_first_undone (sp_first_undone K a.c_Post a.c_Web) := by
  refine T.F_first_undone.ok sc_first_undone (fun vs H Q E h => by obtain ⟨A, n, W, ws, H0, s, b, hd, sp, xs, ts, rfl, _⟩ := h; rfl) (fun cdv A0 outer s0 H vs Q E hr h => ?_)
  obtain ⟨A, n, W, ws, H0, s, b, hd, sp, xs, ts, rfl, O, Pt, hq, al, zb, k⟩ := h
  have G_Post_do : FnOk P w K mg base CX0 7 a.f_Post_do a.d_Post_do P_Post_do (sp_Post_do K a.c_Post a.c_Web) := ok_Post_do T
  have ll := al.length
  refine ⟨_, (pss_cons (ps_for PassesOwn.never rfl (pi_enumS (by rfl) T.n_enumerate (pa_cons (pv 1) pa_nil)) (pg_tup rfl (pgs_cons (pg_name (i := 2) sc_first_undone.nd rfl (Or.inl rfl)) (pgs_cons (pg_name (i := 3) sc_first_undone.nd rfl (Or.inl rfl)) pgs_nil)))
    (pss_one (ps_if (pt_not (pt_val (pe_meth (pv 0) T.cl_Post T.mt_Post_do G_Post_do (hr.mono (by omega)) T.b_Post_do .nil pass0 (pa_cons (pv 3) pa_nil))))
    (pss_one (ps_ret (pv 2)))
    pss_nil)))
  (pss_one (ps_ret pe_non))), ?_⟩
  walk_at "ws"
  refine w_ienumS' ?_
  walk_at "ws"
  rcases hq with hq | hq
  · refine ⟨sp, rfl, .inl ⟨⟨_, sqL_n Pt.g hq⟩, ?_⟩⟩
    · refine for_it (walk_enum (xs := xs)) (fun i σ H' => ∃ (u2 u3 : Option V) (s' : LS), σ = [some (.ref A.q), some (.ref sp), u2, u3] ∧ PosT K a.c_Post n W ws A H0 H' s' (b + i) ∧ goT n W ws s ts 0 = goT n W ws s' (ts.drop i) i) ⟨_, _, s, rfl, Pt, rfl⟩ (fun i σ H' _ ⟨_, _, _, _, q, _⟩ => sqL_n q.g hq) ?_ ?_
      · rintro i v σ H2 H3 hi ⟨u2, u3, s', rfl, P2, eg⟩ ⟨t, y, z, rfl, ht, rfl, ey, ez⟩
        cases Option.some.inj ey
        have ez : xs[i]? = some z := ez
        obtain ⟨tg, htg, haz⟩ := al.get ez
        have g3 : G none H2 (upd H2 t (.tup [.int (i : Nat), z])) := G.alloc ht
        refine ⟨t, _, rfl, SqT.of upd_same, rfl, ?_⟩
        refine ⟨_, _, rfl, ?_⟩
        walk_at "ws"
        refine ⟨_, _, rfl, ?_⟩
        walk_at "ws"
        refine ⟨rfl, ?_⟩
        generalize upd H2 t (.tup [.int (i : Nat), z]) = H3 at g3 ⊢
        have P3 := P2.all g3
        have il := al.length
        have ed : ts.drop i = tg :: ts.drop (i + 1) := by
          have hl := (List.getElem?_eq_some_iff.mp htg).1
          rw [List.drop_eq_getElem_cons hl]
          congr 1
          exact (List.getElem?_eq_some_iff.mp htg).2
        rw [ed] at eg
        obtain ⟨ds, lt, S3, _⟩ := P3.st
        walk_at "ws"
        refine w_meth ?_
        walk_at "ws"
        refine ⟨A.q, _, _, rfl, S3.q, pf_no (by decide +kernel) (by decide +kernel) (by decide +kernel) (by decide +kernel) (by decide +kernel), ?_⟩
        walk_at "ws"
        refine ⟨A, n, W, ws, H0, s', b + i, hd, z, tg, rfl, O, P3, by omega, haz.n P3.g, fun H4 => ⟨fun s2 e2 P4 => ?_, fun e2 P4 => ?_⟩⟩
        · walk_at "ws"
          refine ⟨_, _, s2, rfl, P4, ?_⟩
          rw [eg]
          show (match stepT n W ws s' tg with | none => Sum.inl i | some s' => goT n W ws s' (ts.drop (i + 1)) (i + 1)) = _
          rw [e2]
        · walk_at "ws"
          refine (k H4 P4.g).1 i ?_
          rw [eg]
          show (match stepT n W ws s' tg with | none => Sum.inl i | some s' => goT n W ws s' (ts.drop (i + 1)) (i + 1)) = _
          rw [e2]
      · rintro σ H2 ⟨u2, u3, s', rfl, P2, eg⟩
        rw [al.length, List.drop_length] at eg
        rw [al.length] at P2
        walk_at "ws"
        exact (k H2 P2.g).2 s' eg P2
  · refine ⟨sp, rfl, .inr ⟨⟨_, sqT_t Pt.g.tups hq⟩, ?_⟩⟩
    · refine for_it (walk_enumT (xs := xs)) (fun i σ H' => ∃ (u2 u3 : Option V) (s' : LS), σ = [some (.ref A.q), some (.ref sp), u2, u3] ∧ PosT K a.c_Post n W ws A H0 H' s' (b + i) ∧ goT n W ws s ts 0 = goT n W ws s' (ts.drop i) i) ⟨_, _, s, rfl, Pt, rfl⟩ (fun i σ H' _ ⟨_, _, _, _, q, _⟩ => sqT_t q.g.tups hq) ?_ ?_
      · rintro i v σ H2 H3 hi ⟨u2, u3, s', rfl, P2, eg⟩ ⟨t, y, z, rfl, ht, rfl, ey, ez⟩
        cases Option.some.inj ey
        have ez : xs[i]? = some z := ez
        obtain ⟨tg, htg, haz⟩ := al.get ez
        have g3 : G none H2 (upd H2 t (.tup [.int (i : Nat), z])) := G.alloc ht
        refine ⟨t, _, rfl, SqT.of upd_same, rfl, ?_⟩
        refine ⟨_, _, rfl, ?_⟩
        walk_at "ws"
        refine ⟨_, _, rfl, ?_⟩
        walk_at "ws"
        refine ⟨rfl, ?_⟩
        generalize upd H2 t (.tup [.int (i : Nat), z]) = H3 at g3 ⊢
        have P3 := P2.all g3
        have il := al.length
        have ed : ts.drop i = tg :: ts.drop (i + 1) := by
          have hl := (List.getElem?_eq_some_iff.mp htg).1
          rw [List.drop_eq_getElem_cons hl]
          congr 1
          exact (List.getElem?_eq_some_iff.mp htg).2
        rw [ed] at eg
        obtain ⟨ds, lt, S3, _⟩ := P3.st
        walk_at "ws"
        refine w_meth ?_
        walk_at "ws"
        refine ⟨A.q, _, _, rfl, S3.q, pf_no (by decide +kernel) (by decide +kernel) (by decide +kernel) (by decide +kernel) (by decide +kernel), ?_⟩
        walk_at "ws"
        refine ⟨A, n, W, ws, H0, s', b + i, hd, z, tg, rfl, O, P3, by omega, haz.n P3.g, fun H4 => ⟨fun s2 e2 P4 => ?_, fun e2 P4 => ?_⟩⟩
        · walk_at "ws"
          refine ⟨_, _, s2, rfl, P4, ?_⟩
          rw [eg]
          show (match stepT n W ws s' tg with | none => Sum.inl i | some s' => goT n W ws s' (ts.drop (i + 1)) (i + 1)) = _
          rw [e2]
        · walk_at "ws"
          refine (k H4 P4.g).1 i ?_
          rw [eg]
          show (match stepT n W ws s' tg with | none => Sum.inl i | some s' => goT n W ws s' (ts.drop (i + 1)) (i + 1)) = _
          rw [e2]
      · rintro σ H2 ⟨u2, u3, s', rfl, P2, eg⟩
        rw [al.length, List.drop_length] at eg
        rw [al.length] at P2
        walk_at "ws"
        exact (k H2 P2.g).2 s' eg P2

end
end Mine
/-! ## K24 -/


namespace Mine
section
variable {P : Program} {w : World} {K : PySem.W.Frag} {mg : Str → Option Value} {base : Heap} {a : Ads}

/-! ### led, is_run -/
def sp_BadStep_init (C : Addr) : Sp := fun vs H Q _ => ∃ (x : Addr) (v : V), vs = [.ref x, v] ∧ H x = some (exo x C none) ∧ ∀ dx, H dx = none → dx ≠ x → Q .non (upd (upd H dx (exd dx [(("index" : Str), v)])) x (exo x C (some dx)))
theorem ok_BadStep_init (T : Txt K mg a) : FnOk P w K mg base CX0 1 a.f_BadStep_init a.d_BadStep_init P_BadStep_init (sp_BadStep_init a.c_BadStep) := by
  refine T.F_BadStep_init.ok sc_BadStep_init (fun vs H Q E h => by obtain ⟨x, v, rfl, _⟩ := h; rfl) (fun cdv A outer s H vs Q E hr h => ?_)
  obtain ⟨x, v, rfl, hx, k⟩ := h
  refine ⟨_, (pss_one (ps_ost (pv 0) (pv 1))), ?_⟩
  refine ⟨_, rfl, _, rfl, x, a.c_BadStep, rfl, T.ox, T.xp, .inl ⟨hx, fun dx h1 h2 => ?_⟩⟩
  exact k dx h1 h2
theorem w_mkO {C : Addr} {sp : Sp} {dvs : List V} {ta : TA} {σ : L2.St} {H : Hp} {Q : XK} (q : ta σ H fun vs H1 => vs.length ≤ 1000 ∧ ∀ x, H1 x = none → sp (.ref x :: (vs ++ dvs)) (upd H1 x (exo x C none))
    (fun v H2 => v = .non ∧ ∃ (d : Addr) (fs : List (Str × V)), H2 x = some (exo x C (some d)) ∧ H2 d = some (exd d fs) ∧ H1 d = none ∧ Q (.ref C) (some d) (upd (del H2 x) d (.xd fs))) (fun _ _ _ => False)) : tMkO C sp dvs ta σ H Q := q
theorem bad_step {C : Addr} {W : XK} {H H1 : Hp} {v : V} (g : G none H H1) (h : ∀ d H', G none H H' → H' d = some (.xd [(("index" : Str), v)]) → W (.ref C) (some d) H') :
    [v].length ≤ 1000 ∧ ∀ x, H1 x = none → sp_BadStep_init C (.ref x :: ([v] ++ [])) (upd H1 x (exo x C none))
    (fun u H2 => u = .non ∧ ∃ (d : Addr) (fs : List (Str × V)), H2 x = some (exo x C (some d)) ∧ H2 d = some (exd d fs) ∧ H1 d = none ∧ W (.ref C) (some d) (upd (del H2 x) d (.xd fs))) (fun _ _ _ => False) := by
  refine ⟨by simp, fun x hx => ⟨x, v, rfl, upd_same, fun dx h1 h2 => ⟨rfl, dx, _, upd_same, by rw [upd_ne h2]; exact upd_same, by rw [upd_ne h2] at h1; exact h1, ?_⟩⟩⟩
  have h1' : H1 dx = none := by rw [upd_ne h2] at h1; exact h1
  refine h dx _ (g.trans (G.of_all fun b u e => ?_)) upd_same
  have n1 : b ≠ dx := ne_of_none e h1'
  have n2 : b ≠ x := ne_of_none e hx
  rw [upd_ne n1, del_ne n2, upd_ne n2, upd_ne n1, upd_ne n2]
  exact e
/-! a thing as steps: a list or a tuple of things, or neither -/
def NSeq (H : Hp) (v : V) : Prop := v = .non ∨ (∃ s, v = .str s) ∨ (∃ i, v = .int i) ∨ ∃ p kvs, v = .ref p ∧ H p = some (.dK kvs)
def Stf (K : PySem.W.Frag) (D hd : Addr) (H : Hp) (v : V) : Option (List Tg) → Prop
  | some ts => ∃ p xs, v = .ref p ∧ (SqL K H p xs ∨ SqT K H p xs) ∧ AbAll D hd H xs ts ∧ ts.length ≤ 60000
  | none => NSeq H v
theorem Stf.n {D hd : Addr} {H H' : Hp} {v : V} {o : Option (List Tg)} (h : Stf K D hd H v o) (g : G none H H') : Stf K D hd H' v o := by
  cases o with
  | some ts =>
    obtain ⟨p, xs, e, hq, al, z⟩ := h
    exact ⟨p, xs, e, hq.elim (fun h => .inl (sqL_n g h)) (fun h => .inr (sqT_t g.tups h)), al.n g, z⟩
  | none =>
    rcases h with h | h | h | ⟨p, kvs, e, h⟩
    · exact .inl h
    · exact .inr (.inl h)
    · exact .inr (.inr (.inl h))
    · exact .inr (.inr (.inr ⟨p, kvs, e, g.all _ _ h⟩))
theorem kitLT {t : Value} {b c : Bool} (h1 : PySem.W.kitOne K t (.type "list") = some b) (h2 : PySem.W.kitOne K t (.type "tuple") = some c) : PySem.W.kitAny K t [.type "list", .type "tuple"] = some (b || c) := by
  refine kitAny_cons h1 (fun e => ?_) fun e => by rw [e]; rfl
  refine kitAny_cons h2 (fun e2 => ?_) fun e2 => by rw [e, e2]; rfl
  rw [e, e2]; rfl
theorem stf_ty {D hd : Addr} {H : Hp} {v : V} {o : Option (List Tg)} (h : Stf K D hd H v o) : ∃ t, TyX K H v t ∧ PySem.W.kitAny K t [.type "list", .type "tuple"] = some o.isSome := by
  cases o with
  | some ts =>
    obtain ⟨p, xs, rfl, hq | hq, _⟩ := h
    · exact ⟨_, tyx_lst hq, kitLT (b := true) (c := false) (kit_ty (by decide +kernel)) (kit_ty (by decide +kernel))⟩
    · exact ⟨_, tyx_tup hq, kitLT (b := false) (c := true) (kit_ty (by decide +kernel)) (kit_ty (by decide +kernel))⟩
  | none =>
    rcases h with rfl | ⟨s, rfl⟩ | ⟨i, rfl⟩ | ⟨p, kvs, rfl, h⟩
    · exact ⟨_, .base .non, kitLT (b := false) (c := false) (kit_ty (by decide +kernel)) (kit_ty (by decide +kernel))⟩
    · exact ⟨_, .base (.str s), kitLT (b := false) (c := false) (kit_ty (by decide +kernel)) (kit_ty (by decide +kernel))⟩
    · exact ⟨_, .base (.int i), kitLT (b := false) (c := false) (kit_ty (by decide +kernel)) (kit_ty (by decide +kernel))⟩
    · exact ⟨_, .base (.dK h), kitLT (b := false) (c := false) (kit_ty (by decide +kernel)) (kit_ty (by decide +kernel))⟩
theorem r_isiL {D hd : Addr} {H : Hp} {v : V} {o : Option (List Tg)} {tp : Addr} {Q : VK} (h : H tp = some (.tup [.ty "list", .ty "tuple"])) (hs : Stf K D hd H v o) (q : Q (.bl o.isSome) H) : rIsiT K [v, .ref tp] H Q := by
  obtain ⟨t, ty, kt⟩ := stf_ty hs
  exact ⟨v, tp, _, t, _, _, rfl, h, .cons (.ty "list") (.cons (.ty "tuple") .nil), ty, kt, q⟩
def sp_is_list_or_tuple (K : PySem.W.Frag) (D : Addr) : Sp := fun vs H Q _ => ∃ (hd : Addr) (v : V) (o : Option (List Tg)), vs = [v] ∧ Stf K D hd H v o ∧ ∀ H', G none H H' → Q (.bl o.isSome) H'
theorem ok_is_list_or_tuple (T : Txt K mg a) : FnOk P w K mg base CX0 1 a.f_is_list_or_tuple a.d_is_list_or_tuple P_is_list_or_tuple (sp_is_list_or_tuple K a.c_Web) := by
  refine T.F_is_list_or_tuple.ok sc_is_list_or_tuple (fun vs H Q E h => by obtain ⟨hd, v, o, rfl, _⟩ := h; rfl) (fun cdv A outer s H vs Q E hr h => ?_)
  obtain ⟨hd, v, o, rfl, hs, k⟩ := h
  refine ⟨_, (pss_one (ps_ret (pe_callB call_isiT (by rfl) T.n_isinstance (by decide +kernel) (pa_cons (pv 0) (pa_cons (pe_tupN (pa_cons (pe_bltn (v := .ty "list") (u := .type "list") rfl T.n_list (by decide +kernel) rfl) (pa_cons (pe_bltn (v := .ty "tuple") (u := .type "tuple") rfl T.n_tuple (by decide +kernel) rfl) pa_nil))) pa_nil))))), ?_⟩
  walk_at "ws"
  refine ⟨sz (by simp), fun tp H1 htp g1 h1 => ?_⟩
  refine r_isiL h1 (hs.n (g1 none)) ?_
  exact k _ (g1 none)
def oks : Option (List Tg) → Bool
  | some ts => decide (ts.length ≤ 4000)
  | none => false
def sp_are_steps (K : PySem.W.Frag) (D : Addr) : Sp := fun vs H Q _ => ∃ (hd : Addr) (v : V) (o : Option (List Tg)), vs = [v] ∧ Stf K D hd H v o ∧ ∀ H', G none H H' → Q (.bl (oks o)) H'
theorem ok_are_steps (T : Txt K mg a) : FnOk P w K mg base CX0 2 a.f_are_steps a.d_are_steps P_are_steps (sp_are_steps K a.c_Web) := by
  refine T.F_are_steps.ok sc_are_steps (fun vs H Q E h => by obtain ⟨hd, v, o, rfl, _⟩ := h; rfl) (fun cdv A outer s H vs Q E hr h => ?_)
  obtain ⟨hd, v, o, rfl, hs, k⟩ := h
  have G_is_list_or_tuple : FnOk P w K mg base CX0 1 a.f_is_list_or_tuple a.d_is_list_or_tuple P_is_list_or_tuple (sp_is_list_or_tuple K a.c_Web) := ok_is_list_or_tuple T
  refine ⟨_, (pss_one (ps_ret (pe_and (pe_call (G_is_list_or_tuple) (hr.mono (by omega)) rfl T.m_is_list_or_tuple T.F_is_list_or_tuple.kp T.b_is_list_or_tuple .nil pass0 (pa_cons (pv 0) pa_nil)) (pe_one (pe_cmpR op_le (pe_callB call_len_seq (by rfl) T.n_len (by decide +kernel) (pa_cons (pv 0) pa_nil)) (pe_glob (v := .int 4000) rfl T.m_MOST_STEPS ⟨_, rfl⟩) (nomark _)))))), ?_⟩
  walk_at "ws"
  refine ⟨hd, v, o, rfl, hs, fun H1 g1 => ?_⟩
  walk_at "ws"
  cases o with
  | none =>
    refine w_iteN rfl ?_
    exact k _ g1
  | some ts =>
    refine w_iteE rfl ?_
    obtain ⟨p, xs, rfl, hq, al, _⟩ := hs.n g1
    walk_at "ws"
    refine ⟨p, xs, rfl, hq, ?_⟩
    walk_at "ws"
    rw [al.length]
    have e : oks (some ts) = decide ((ts.length : Int) ≤ 4000) := by show decide _ = decide _; rw [decide_eq_decide]; omega
    have k := k _ g1
    rw [e] at k
    exact k
def sp_check_writers (K : PySem.W.Frag) (D : Addr) : Sp := fun vs H Q _ => ∃ (web : Addr) (n : Int) (bs : List Addr) (W : List (Int × Int)) (vp : Addr) (ws : List Int), vs = [.ref web, .ref vp] ∧ WebB K D H web n bs W ∧ SqT K H vp (ws.map V.int) ∧ ws.length ≤ 30 ∧ (∀ w ∈ ws, 0 ≤ w ∧ w < n) ∧ ∀ H', G none H H' → Q .non H'
theorem ok_check_writers (T : Txt K mg a) : FnOk P w K mg base CX0 5 a.f_check_writers a.d_check_writers P_check_writers (sp_check_writers K a.c_Web) := by
  refine T.F_check_writers.ok sc_check_writers (fun vs H Q E h => by obtain ⟨web, n, bs, W, vp, ws, rfl, _⟩ := h; rfl) (fun cdv A outer s H vs Q E hr h => ?_)
  obtain ⟨web, n, bs, W, vp, ws, rfl, ⟨dw, wa, hw, _⟩, hv, z30, rng, k⟩ := h
  have G_is_tuple_of : FnOk P w K mg base CX0 1 a.f_is_tuple_of a.d_is_tuple_of P_is_tuple_of (Da.sp_is_tuple_of K) := Da.ok_is_tuple_of T
  have G_are_below : FnOk P w K mg base CX0 4 a.f_are_below a.d_are_below P_are_below (Da.sp_are_below K) := Da.ok_are_below T
  refine ⟨_, (pss_one (ps_if (L2.PW.pt (pw_or (pt_not (pt_val (pe_call (G_is_tuple_of) (hr.mono (by omega)) rfl T.m_is_tuple_of T.F_is_tuple_of.kp T.b_is_tuple_of .nil pass0 (pa_cons pe_int (pa_cons (pe_glob (v := .int 30) rfl T.m_MOST_PUTS ⟨_, rfl⟩) (pa_cons (pv 1) pa_nil)))))) (pw_or1 (pt_not (pt_val (pe_call (G_are_below) (hr.mono (by omega)) rfl T.m_are_below T.F_are_below.kp T.b_are_below .nil pass0 (pa_cons (pe_fld (pv 0) rfl) (pa_cons (pv 1) pa_nil))))))))
    pss_never
    pss_nil)), ?_⟩
  walk_at "ws"
  refine ⟨0, 30, vp, _, rfl, hv, ?_⟩
  have q3 : (0 : Int) ≤ (ws.length : Int) := by omega
  have q4 : (ws.length : Int) ≤ 30 := by omega
  rw [List.length_map, decide_eq_true q3, decide_eq_true q4, Bool.and_self]
  walk_at "ws"
  refine Da.r_fld hw T.cl_Web T.na_Web_machines (Da.wf_m _ _) ?_
  walk_at "ws"
  refine ⟨n, vp, ws, rfl, hv, by omega, fun H1 g1 => ?_⟩
  have e1 : ws.all (Da.inB n) = true := by
    rw [List.all_eq_true]
    intro x hx
    have := rng x hx
    simp only [Da.inB, Bool.and_eq_true, decide_eq_true_eq]
    exact this
  rw [e1]
  walk_at "ws"
  exact k _ g1
/-- where steps lead, or the first that can't be done -/
def outT (n : Int) (W : List (Int × Int)) (ws : List Int) : Option (List Tg) → Int ⊕ LS
  | none => .inl (-1)
  | some ts => if ts.length ≤ 4000 then (match goT n W ws ls0 ts 0 with | .inl i => .inl (i : Int) | .inr s => .inr s) else .inl (-1)
theorem outT_no {n : Int} {W : List (Int × Int)} {ws : List Int} {o : Option (List Tg)} (e : oks o = false) : outT n W ws o = .inl (-1) := by
  cases o with
  | none => rfl
  | some ts => exact if_neg (of_decide_eq_false e)
theorem outT_yes {n : Int} {W : List (Int × Int)} {ws : List Int} {o : Option (List Tg)} (e : oks o = true) : ∃ ts, o = some ts ∧ ts.length ≤ 4000 ∧ outT n W ws o = (match goT n W ws ls0 ts 0 with | .inl i => .inl (i : Int) | .inr s => .inr s) := by
  cases o with
  | none => exact Bool.noConfusion e
  | some ts => exact ⟨ts, rfl, of_decide_eq_true e, if_pos (of_decide_eq_true e)⟩
def dsS (n : Nat) (s : LS) : List (List Int) := (List.range n).map fun (x : Nat) => s.cur (x : Int)
theorem rel_ds {W : List (Int × Int)} {s : LS} {ds lt : List (List Int)} (h : RelL W s ds lt) {n : Nat} (e : ds.length = n) : ds = dsS n s := by
  refine List.ext_getElem? fun x => ?_
  unfold dsS
  rw [List.getElem?_map]
  by_cases c : x < n
  · rw [List.getElem?_eq_getElem (by omega), List.getElem?_range c]
    show _ = some (s.cur (x : Int))
    rw [h.1 x _ (List.getElem?_eq_getElem (by omega))]
  · rw [List.getElem?_eq_none (by omega), List.getElem?_eq_none (by rw [List.length_range]; omega)]
    rfl
theorem rel_lt {W : List (Int × Int)} {s : LS} {ds lt : List (List Int)} (h : RelL W s ds lt) (e : lt.length = W.length) : lt = W.map s.lt := by
  refine List.ext_getElem? fun x => ?_
  rw [List.getElem?_map]
  by_cases c : x < W.length
  · rw [List.getElem?_eq_getElem (by omega), List.getElem?_eq_getElem c]
    show _ = some (s.lt W[x])
    rw [h.2 x _ _ (List.getElem?_eq_getElem c) (List.getElem?_eq_getElem (by omega))]
  · rw [List.getElem?_eq_none (by omega), List.getElem?_eq_none (by omega)]
    rfl
def sp_led (K : PySem.W.Frag) (D CB : Addr) : Sp := fun vs H Q E => ∃ (hd web : Addr) (n : Int) (bs : List Addr) (W : List (Int × Int)) (vp : Addr) (ws : List Int) (v : V) (o : Option (List Tg)), vs = [.ref web, .ref vp, v] ∧ WebB K D H web n bs W ∧ 1 ≤ n ∧ WW n W ws ∧ SqT K H vp (ws.map V.int) ∧ Stf K D hd H v o ∧
  (∀ s', outT n W ws o = .inr s' → ∀ (p dp lp : Addr) H', G none H H' → H' p = some (.tup [.ref dp, .ref lp]) → Da.Dia K H' dp (dsS n.toNat s') → LetD H' lp W (W.map s'.lt) → H lp = none → H p = none → Q (.ref p) H') ∧
  (∀ i, outT n W ws o = .inl i → ∀ d H', G none H H' → H' d = some (.xd [(("index" : Str), .int i)]) → E (.ref CB) (some d) H')
theorem ok_led (T : Txt K mg a) : FnOk P w K mg base (L2.CX P w) 9 a.f_led a.d_led P_led (sp_led K a.c_Web a.c_BadStep) := by
  refine T.F_led.okX sc_led (fun vs H Q E h => by obtain ⟨hd, web, n, bs, W, vp, ws, v, o, rfl, _⟩ := h; rfl) (fun cdv A outer s H vs Q E hr h => ?_)
  obtain ⟨hd, web, n, bs, W, vp, ws, v, o, rfl, hw, n1, O, hv, hs, kok, kbad⟩ := h
  have G_BadStep_init : FnOk P w K mg base CX0 1 a.f_BadStep_init a.d_BadStep_init P_BadStep_init (sp_BadStep_init a.c_BadStep) := ok_BadStep_init T
  have G_check_writers : FnOk P w K mg base CX0 5 a.f_check_writers a.d_check_writers P_check_writers (sp_check_writers K a.c_Web) := ok_check_writers T
  have G_are_steps : FnOk P w K mg base CX0 2 a.f_are_steps a.d_are_steps P_are_steps (sp_are_steps K a.c_Web) := ok_are_steps T
  have G_Post_init : FnOk P w K mg base CX0 1 a.f_Post_init a.d_Post_init P_Post_init (sp_Post_init K a.c_Post a.c_Web) := ok_Post_init T
  have G_first_undone : FnOk P w K mg base CX0 8 a.f_first_undone a.d_first_undone P_first_undone (sp_first_undone K a.c_Post a.c_Web) := ok_first_undone T
  have G_Post_diaries_told : FnOk P w K mg base CX0 1 a.f_Post_diaries_told a.d_Post_diaries_told P_Post_diaries_told (sp_Post_diaries_told K a.c_Post) := ok_Post_diaries_told T
  have G_Post_letters_told : FnOk P w K mg base CX0 1 a.f_Post_letters_told a.d_Post_letters_told P_Post_letters_told (sp_Post_letters_told K a.c_Post) := ok_Post_letters_told T
  refine ⟨_, (pss_cons (ps_expr (pe_call (G_check_writers) (hr.mono (by omega)) rfl T.m_check_writers T.F_check_writers.kp T.b_check_writers .nil pass0 (pa_cons (pv 0) (pa_cons (pv 1) pa_nil))))
  (pss_cons (ps_if (pt_not (pt_val (pe_call (G_are_steps) (hr.mono (by omega)) rfl T.m_are_steps T.F_are_steps.kp T.b_are_steps .nil pass0 (pa_cons (pv 2) pa_nil))))
    (pss_one (ps_raise rfl (takes_of rfl rfl rfl rfl) (pmk_oex T.ox T.xi T.xt G_BadStep_init (hr.mono (by omega)) T.b_BadStep_init .nil pass0 rfl T.m_BadStep (pa_cons (pe_un un_neg pe_int) pa_nil))))
    pss_nil)
  (pss_cons (ps_set (i := 3) sc_led.nd rfl (Or.inl rfl) (pe_make T.K_Post (G_Post_init) (hr.mono (by omega)) rfl T.m_Post T.b_Post_init .nil pass0 (pa_cons (pv 0) (pa_cons (pv 1) pa_nil))))
  (pss_cons (ps_set (i := 4) sc_led.nd rfl (Or.inl rfl) (pe_call (G_first_undone) (hr.mono (by omega)) rfl T.m_first_undone T.F_first_undone.kp T.b_first_undone .nil pass0 (pa_cons (pv 3) (pa_cons (pv 2) pa_nil))))
  (pss_cons (ps_if (pt_cmp (pc_notN (pv 4)))
    (pss_one (ps_raise rfl (takes_of rfl rfl rfl rfl) (pmk_oex T.ox T.xi T.xt G_BadStep_init (hr.mono (by omega)) T.b_BadStep_init .nil pass0 rfl T.m_BadStep (pa_cons (pv 4) pa_nil))))
    pss_nil)
  (pss_one (ps_ret (pe_tupN (pa_cons (pe_meth0 (pv 3) T.cl_Post T.mt_Post_diaries_told G_Post_diaries_told (hr.mono (by omega)) T.b_Post_diaries_told .nil pass0) (pa_cons (pe_meth0 (pv 3) T.cl_Post T.mt_Post_letters_told G_Post_letters_told (hr.mono (by omega)) T.b_Post_letters_told .nil pass0) pa_nil)))))))))), ?_⟩
  walk_at "ws"
  refine ⟨web, n, bs, W, vp, ws, rfl, hw, hv, O.w30, O.wr, fun H1 g1 => ?_⟩
  walk_at "ws"
  refine ⟨hd, v, o, rfl, hs.n g1, fun H2 g2 => ?_⟩
  have g02 := g1.trans g2
  walk_at "ws"
  cases e : oks o with
  | false =>
    refine w_iteE rfl ?_
    refine w_mkO ?_
    walk_at "ws"
    exact bad_step (v := .int (-1)) g02 fun d H' g h => kbad _ (outT_no e) d H' g h
  | true =>
    refine w_iteN rfl ?_
    obtain ⟨ts, rfl, z4, eo⟩ := outT_yes (n := n) (W := W) (ws := ws) e
    rw [eo] at kok kbad
    walk_at "ws"
    refine post_new (hw.all g02) n1 O (sqT_t g02.tups hv) fun A H3 g3 hq P3 => ?_
    obtain ⟨p, xs, rfl, hq2, al, _⟩ := hs.n g02
    walk_at "ws"
    refine ⟨A, n, W, ws, H2, ls0, 0, hd, p, xs, ts, rfl, O, P3, hq2, al, by omega, fun H4 g4 => ⟨fun i ei => ?_, fun s' es P4 => ?_⟩⟩
    · rw [ei] at kbad
      walk_at "ws"
      refine w_iteE rfl ?_
      refine w_mkO ?_
      walk_at "ws"
      exact bad_step (v := .int (i : Nat)) (g02.trans g4) fun d H' g h => kbad _ rfl d H' g h
    · rw [es] at kok
      obtain ⟨ds, lt, S4, rel, ld, bd, bl⟩ := P4.st
      have n7 := O.n7
      have e1 : ds = dsS n.toNat s' := rel_ds rel (by omega)
      have e2 : lt = W.map s'.lt := rel_lt rel (by have := S4.ls.1; have := S4.lw; omega)
      walk_at "ws"
      refine w_iteN rfl ?_
      walk_at "ws"
      refine w_meth ?_
      walk_at "ws"
      refine ⟨A.q, _, _, rfl, S4.q, pf_no (by decide +kernel) (by decide +kernel) (by decide +kernel) (by decide +kernel) (by decide +kernel), ?_⟩
      walk_at "ws"
      refine ⟨A, n, W, ws, ds, lt, rfl, S4, by omega, fun dp H5 g5 hdp => ?_⟩
      have S5 := S4.all g5
      walk_at "ws"
      refine w_meth ?_
      walk_at "ws"
      refine ⟨A.q, _, _, rfl, S5.q, pf_no (by decide +kernel) (by decide +kernel) (by decide +kernel) (by decide +kernel) (by decide +kernel), ?_⟩
      walk_at "ws"
      refine ⟨A, n, W, ws, ds, lt, rfl, S5, O.nd, by have := O.w49; omega, fun lp H6 g6 hlp hl => ?_⟩
      walk_at "ws"
      refine ⟨sz (by simp), fun q H7 hq7 g7 h7 => ?_⟩
      have g06 := ((g02.trans g4).trans g5).trans g6
      subst e1 e2
      have g67 := g7 none
      obtain ⟨fs, f1, f2, f3⟩ := hl
      exact kok s' rfl q dp lp H7 (g06.trans g67) h7 ((hdp.n g6).n g67) ⟨fs, g67.all _ _ f1, f2, fun j f d e1 e2 => (f3 j f d e1 e2).n g67⟩ (back_none ((g02.trans g4).trans g5) hlp) (back_none g06 hq7)

abbrev dII (ds : List (List Int)) : PyData := .tuple (ds.map dI)
theorem dia_dp {H : Hp} {p : Addr} {ds : List (List Int)} (h : Da.Dia K H p ds) : Dp K H (.ref p) (dII ds) := by
  obtain ⟨bs, h1, h2, h3⟩ := h
  refine .tup h1 ?_
  clear h1
  induction bs generalizing ds with
  | nil =>
    cases ds with
    | nil => exact .nil
    | cons _ _ => simp at h2
  | cons b bs ih =>
    cases ds with
    | nil => simp at h2
    | cons d ds => exact .cons (dp_ofI (h3 0 b d rfl rfl).sq) (ih (by simpa using h2) fun i b d e1 e2 => h3 (i + 1) b d (by simpa using e1) (by simpa using e2))
theorem sh_dII (ds : List (List Int)) : SeqAt.shaped (dII ds) = true := sh_of (can_tup fun d h => by
  obtain ⟨_, _, rfl⟩ := List.mem_map.mp h
  exact can_dI _) (Nat.le_trans (dep_tup (n := 1) fun d h => by
  obtain ⟨_, _, rfl⟩ := List.mem_map.mp h
  exact dep_dI _) (by decide))
theorem eqv_dII (ds es : List (List Int)) : PyData.eqv (dII ds) (dII es) = decide (ds = es) := by
  show PyData.eqvAll _ _ = _
  exact eqvAll_map eqv_dI ds es
def isR (n : Nat) (ds : List (List Int)) : Int ⊕ LS → Bool
  | .inl _ => false
  | .inr s => decide (dsS n s = ds)
def sp_check_machines (K : PySem.W.Frag) (C : Addr) : Sp := fun vs H Q _ => ∃ (x : Addr) (ws : List Int) (ds : List (List Int)), vs = [.int (ds.length : Nat), .ref x] ∧ Da.RecAt K C H x ws ds ∧ Q .non H
theorem ok_check_machines (T : Txt K mg a) : FnOk P w K mg base CX0 1 a.f_check_machines a.d_check_machines P_check_machines (sp_check_machines K a.c_Record) := by
  refine T.F_check_machines.ok sc_check_machines (fun vs H Q E h => by obtain ⟨x, ws, ds, rfl, _⟩ := h; rfl) (fun cdv A outer s H vs Q E hr h => ?_)
  obtain ⟨x, ws, ds, rfl, ⟨dx, wp, dp, hxi, hw, bs, hbs, lb, hb⟩, k⟩ := h
  refine ⟨_, (pss_one (ps_if (pt_cmpR op_ne (pv 0) (pe_callB call_len_seq (by rfl) T.n_len (by decide +kernel) (pa_cons (pe_fld (pv 1) rfl) pa_nil)) (nomark _))
    pss_never
    pss_nil)), ?_⟩
  walk_at "ws"
  refine Da.r_fld hxi T.cl_Record T.na_Record_diaries (Da.rf_d _ _) ?_
  refine ⟨dp, _, rfl, .inr hbs, ?_⟩
  walk_at "ws"
  rw [List.length_map, lb]
  refine w_ite (fun e => ?_) (fun e => ?_)
  · exact absurd e (by simp)
  · walk_at "ws"
    exact k
def sp_is_run (K : PySem.W.Frag) (D CR : Addr) : Sp := fun vs H Q _ => ∃ (hd web x : Addr) (n : Int) (bs : List Addr) (W : List (Int × Int)) (ws : List Int) (ds : List (List Int)) (v : V) (o : Option (List Tg)), vs = [.ref web, .ref x, v] ∧ WebB K D H web n bs W ∧ 1 ≤ n ∧ WW n W ws ∧ Da.RecAt K CR H x ws ds ∧ (ds.length : Int) = n ∧ Stf K D hd H v o ∧
  ∀ H', G none H H' → Q (.bl (isR n.toNat ds (outT n W ws o))) H'
theorem ok_is_run (T : Txt K mg a) : FnOk P w K mg base CX0 9 a.f_is_run a.d_is_run P_is_run (sp_is_run K a.c_Web a.c_Record) := by
  refine T.F_is_run.ok sc_is_run (fun vs H Q E h => by obtain ⟨hd, web, x, n, bs, W, ws, ds, v, o, rfl, _⟩ := h; rfl) (fun cdv A outer s H vs Q E hr h => ?_)
  obtain ⟨hd, web, x, n, bs, W, ws, ds, v, o, rfl, hw, n1, O, hx, ld, hs, k⟩ := h
  have G_check_machines : FnOk P w K mg base CX0 1 a.f_check_machines a.d_check_machines P_check_machines (sp_check_machines K a.c_Record) := ok_check_machines T
  have G_are_steps : FnOk P w K mg base CX0 2 a.f_are_steps a.d_are_steps P_are_steps (sp_are_steps K a.c_Web) := ok_are_steps T
  have G_Post_init : FnOk P w K mg base CX0 1 a.f_Post_init a.d_Post_init P_Post_init (sp_Post_init K a.c_Post a.c_Web) := ok_Post_init T
  have G_first_undone : FnOk P w K mg base CX0 8 a.f_first_undone a.d_first_undone P_first_undone (sp_first_undone K a.c_Post a.c_Web) := ok_first_undone T
  have G_Post_diaries_told : FnOk P w K mg base CX0 1 a.f_Post_diaries_told a.d_Post_diaries_told P_Post_diaries_told (sp_Post_diaries_told K a.c_Post) := ok_Post_diaries_told T
  have hx' := hx
  obtain ⟨dw, wa, hwi, _⟩ := id hw
  subst ld
  refine ⟨_, (pss_cons (ps_expr (pe_call (G_check_machines) (hr.mono (by omega)) rfl T.m_check_machines T.F_check_machines.kp T.b_check_machines .nil pass0 (pa_cons (pe_fld (pv 0) rfl) (pa_cons (pv 1) pa_nil))))
  (pss_cons (ps_if (pt_not (pt_val (pe_call (G_are_steps) (hr.mono (by omega)) rfl T.m_are_steps T.F_are_steps.kp T.b_are_steps .nil pass0 (pa_cons (pv 2) pa_nil))))
    (pss_one (ps_ret pe_bl))
    pss_nil)
  (pss_cons (ps_set (i := 3) sc_is_run.nd rfl (Or.inl rfl) (pe_make T.K_Post (G_Post_init) (hr.mono (by omega)) rfl T.m_Post T.b_Post_init .nil pass0 (pa_cons (pv 0) (pa_cons (pe_fld (pv 1) rfl) pa_nil))))
  (pss_one (ps_ret (pe_and (pe_cmp (pc_isN (pe_call (G_first_undone) (hr.mono (by omega)) rfl T.m_first_undone T.F_first_undone.kp T.b_first_undone .nil pass0 (pa_cons (pv 3) (pa_cons (pv 2) pa_nil))))) (pe_one (pe_cmpR (op_eqD hr.units) (pe_meth0 (pv 3) T.cl_Post T.mt_Post_diaries_told G_Post_diaries_told (hr.mono (by omega)) T.b_Post_diaries_told .nil pass0) (pe_fld (pv 1) rfl) (nomark _))))))))), ?_⟩
  walk_at "ws"
  refine Da.r_fld hwi T.cl_Web T.na_Web_machines (Da.wf_m _ _) ?_
  walk_at "ws"
  refine ⟨x, ws, ds, rfl, hx, ?_⟩
  walk_at "ws"
  refine ⟨hd, v, o, rfl, hs, fun H2 g2 => ?_⟩
  walk_at "ws"
  cases e : oks o with
  | false =>
    refine w_iteE rfl ?_
    walk_at "ws"
    have k := k H2 g2
    rw [outT_no e] at k
    exact k
  | true =>
    refine w_iteN rfl ?_
    obtain ⟨ts, rfl, z4, eo⟩ := outT_yes (n := (ds.length : Int)) (W := W) (ws := ws) e
    rw [eo] at k
    obtain ⟨dr, wp, dp, hxi, hwp, hdia⟩ := hx.n g2
    walk_at "ws"
    refine Da.r_fld hxi T.cl_Record T.na_Record_writers (Da.rf_w _ _) ?_
    walk_at "ws"
    refine post_new (hw.all g2) n1 O hwp fun A H3 g3 hq P3 => ?_
    obtain ⟨p, xs, rfl, hq2, al, _⟩ := hs.n g2
    walk_at "ws"
    refine ⟨A, (ds.length : Int), W, ws, H2, ls0, 0, hd, p, xs, ts, rfl, O, P3, hq2, al, by omega, fun H4 g4 => ⟨fun i ei => ?_, fun s' es P4 => ?_⟩⟩
    · rw [ei] at k
      walk_at "ws"
      exact k _ (g2.trans g4)
    · rw [es] at k
      obtain ⟨ds4, lt, S4, rel, ld, bd, bl⟩ := P4.st
      have n7 := O.n7
      have e1 : ds4 = dsS ds.length s' := rel_ds rel (by omega)
      walk_at "ws"
      refine w_iteE rfl ?_
      walk_at "ws"
      refine w_meth ?_
      walk_at "ws"
      refine ⟨A.q, _, _, rfl, S4.q, pf_no (by decide +kernel) (by decide +kernel) (by decide +kernel) (by decide +kernel) (by decide +kernel), ?_⟩
      walk_at "ws"
      refine ⟨A, (ds.length : Int), W, ws, ds4, lt, rfl, S4, by omega, fun dp5 H5 g5 hdp => ?_⟩
      have g25 := g4.trans g5
      walk_at "ws"
      refine Da.r_fld (g25.all _ _ hxi) T.cl_Record T.na_Record_diaries (Da.rf_d _ _) ?_
      refine ⟨_, _, dia_dp hdp, dia_dp (hdia.n g25), sh_dII _, sh_dII _, ?_⟩
      rw [eqv_dII]
      have k := k H5 (g2.trans g25)
      rw [e1]
      exact k

end
end Mine
/-! ## K25 -/


namespace Mine
section
variable {P : Program} {w : World} {K : PySem.W.Frag} {mg : Str → Option Value} {base : Heap} {a : Ads}
def sp__law_is_whole (C : Addr) : Sp := fun vs H Q _ => ∃ (b : Int) (hd : Addr) (v : V) (t : Tg), vs = [v, .int b] ∧ Ab C hd H v t ∧ Q (.bl (blw b t)) H
theorem ok__law_is_whole (T : Txt K mg a) : FnOk P w K mg base CX0 1 a.f__law_is_whole a.d__law_is_whole P__law_is_whole (sp__law_is_whole a.c_Web) := by
  refine T.F__law_is_whole.ok sc__law_is_whole (fun vs H Q E h => by obtain ⟨b, hd, v, t, rfl, _⟩ := h; rfl) (fun cdv A outer s H vs Q E hr h => ?_)
  obtain ⟨b, hd, v, t, rfl, ha, k⟩ := h
  refine ⟨_, (pss_one (ps_ret (pe_and (pe_callB call_isi (by rfl) T.n_isinstance (by decide +kernel) (pa_cons (pv 0) (pa_cons (pe_bltn (v := .ty "int") (u := .type "int") rfl T.n_int (by decide +kernel) rfl) pa_nil))) (pe_and (pe_not (pe_callB call_isi (by rfl) T.n_isinstance (by decide +kernel) (pa_cons (pv 0) (pa_cons (pe_bltn (v := .ty "bool") (u := .type "bool") rfl T.n_bool (by decide +kernel) rfl) pa_nil)))) (pe_one (pe_chain op_le op_lt pe_int (pv 0) (pv 1))))))), ?_⟩
  walk_at "ws"
  refine ab_isi T.ik ha (.inl rfl) ?_
  walk_at "ws"
  have bf : ∀ {t : Tg}, isI t = false → blw b t = false := fun {t} e => by cases t <;> first | rfl | exact Bool.noConfusion (show true = false from e)
  refine w_ite (fun e => ?_) (fun e => ?_)
  · walk_at "ws"
    refine ab_isi T.ik ha (.inr (.inl rfl)) ?_
    walk_at "ws"
    rw [← isI_t e]
    refine w_ite (fun e => ?_) (fun e => ?_)
    · obtain ⟨i, rfl, rfl⟩ := isI_int ha e
      have k : Q (.bl (decide (0 ≤ i) && decide (i < b))) H := k
      walk_at "ws"
      refine w_ite (fun e => ?_) (fun e => ?_)
      · walk_at "ws"
        rw [e] at k
        exact k
      · rw [e] at k
        exact k
    · rw [bf e] at k
      exact k
  · rw [bf (isI_f e)] at k
    exact k

/-! ### _law_is_step -/
def rNotInDT (K : PySem.W.Frag) : R2 := fun x y H Q => ∃ d ds, Dp K H x d ∧ Dp K H y (.tuple ds) ∧ SeqAt.shaped d = true ∧ SeqAt.shaped (.tuple ds) = true ∧ Q (.bl (!(ds.any fun z => PyData.eqv z d))) H
theorem op_notInDT {X : Cx} (hu : X.A.units + 65 < cLine) : OpR X (compareOp .NotIn) (rNotInDT X.K) := by
  intro pins s σ H x y v u Q I rx ry ⟨d, ds, hd, he, sd, se, q⟩
  obtain ⟨as, r1⟩ := Dp.reads I d x v hd rx
  obtain ⟨bs, r2⟩ := Dp.reads I (.tuple ds) y u he ry
  exact SeqAt.notIn_tuple_reads r2 r1 (SeqAt.canLay_of_shaped se) (SeqAt.canLay_of_shaped sd) (PyProof.Rows.room_in_shaped sd hu) ⟨.bl _, H, I, rfl, q⟩
theorem isS_no {m many : Int} {t : Tg} (e : isT "tuple" t = false) : isS m many t = false := by
  cases t <;> first | rfl | exact Bool.noConfusion (show true = false from e)
theorem isS_len {m many : Int} {ts : List Tg} (e : (ts.length : Int) ∉ ([2, 3] : List Int)) : isS m many (.tup ts) = false := by
  unfold isS toStp
  split
  · rename_i h; cases h; simp at e
  · rename_i h; cases h; simp at e
  · rfl
theorem isS_str {m many : Int} {t : Tg} {ts : List Tg} (e : isT "str" t = false) : isS m many (.tup (t :: ts)) = false := by
  unfold isS toStp
  split
  · rename_i h; cases h; exact Bool.noConfusion (show true = false from e)
  · rename_i h; cases h; exact Bool.noConfusion (show true = false from e)
  · rfl
theorem isS2 {m many : Int} {w : Str} {b : Tg} : isS m many (.tup [.str w, b]) = (decide (w = "put") && blw many b) := by
  unfold isS toStp
  split
  · rename_i w p h
    cases h
    show Option.isSome (if _ then _ else _) = (decide (w = "put") && (decide (0 ≤ p) && decide (p < many)))
    by_cases c : w = "put" ∧ 0 ≤ p ∧ p < many
    · rw [if_pos c, decide_eq_true c.1, decide_eq_true c.2.1, decide_eq_true c.2.2]
      rfl
    · rw [if_neg c]
      symm
      show _ = false
      rw [Bool.eq_false_iff]
      intro z
      simp only [Bool.and_eq_true, decide_eq_true_eq] at z
      exact c ⟨z.1, z.2.1, z.2.2⟩
  · rename_i h; cases h
  · rename_i h1 h2
    cases b with
    | int p => exact absurd rfl (h1 w p)
    | tup _ => show false = _; rw [show blw many (.tup _) = false from rfl, Bool.and_false]
    | non => show false = _; rw [show blw many .non = false from rfl, Bool.and_false]
    | bl _ => show false = _; rw [show blw many (.bl _) = false from rfl, Bool.and_false]
    | str _ => show false = _; rw [show blw many (.str _) = false from rfl, Bool.and_false]
    | oth => show false = _; rw [show blw many .oth = false from rfl, Bool.and_false]
theorem isS3 {m many : Int} {w : Str} {b c : Tg} : isS m many (.tup [.str w, b, c]) = (decide (w = "come") && (blw m b && blw m c)) := by
  unfold isS toStp
  split
  · rename_i h; cases h
  · rename_i w y x h
    cases h
    show Option.isSome (if _ then _ else _) = (decide (w = "come") && ((decide (0 ≤ y) && decide (y < m)) && (decide (0 ≤ x) && decide (x < m))))
    by_cases c : w = "come" ∧ (0 ≤ y ∧ y < m) ∧ (0 ≤ x ∧ x < m)
    · rw [if_pos c, decide_eq_true c.1, decide_eq_true c.2.1.1, decide_eq_true c.2.1.2, decide_eq_true c.2.2.1, decide_eq_true c.2.2.2]
      rfl
    · rw [if_neg c]
      symm
      show _ = false
      rw [Bool.eq_false_iff]
      intro z
      simp only [Bool.and_eq_true, decide_eq_true_eq] at z
      exact c z
  · rename_i h1 h2
    show false = _
    symm
    rw [Bool.eq_false_iff]
    intro z
    simp only [Bool.and_eq_true] at z
    obtain ⟨y, rfl⟩ := blw_int z.2.1
    obtain ⟨x, rfl⟩ := blw_int z.2.2
    exact absurd rfl (h2 w y x)
theorem cut3 (x y z : V) : cutV [x, y, z] (some 1) none = [y, z] := by
  have e := Da.cut_from [x, y, z] (k := 0) (by simp)
  simpa using e
def sp__law_is_step (D : Addr) : Sp := fun vs H Q _ => ∃ (m many : Int) (hd : Addr) (v : V) (t : Tg), vs = [v, .int m, .int many] ∧ Ab D hd H v t ∧ ∀ H', G none H H' → Q (.bl (isS m many t)) H'
theorem ok__law_is_step (T : Txt K mg a) : FnOk P w K mg base CX0 2 a.f__law_is_step a.d__law_is_step P__law_is_step (sp__law_is_step a.c_Web) := by
  refine T.F__law_is_step.ok sc__law_is_step (fun vs H Q E h => by obtain ⟨m, many, hd, v, t, rfl, _⟩ := h; rfl) (fun cdv A outer s H vs Q E hr h => ?_)
  obtain ⟨m, many, hd, v, t, rfl, ha, k⟩ := h
  have G__law_is_whole : FnOk P w K mg base CX0 1 a.f__law_is_whole a.d__law_is_whole P__law_is_whole (sp__law_is_whole a.c_Web) := ok__law_is_whole T
  refine ⟨_, (pss_cons (ps_if (L2.PW.pt (pw_or (pt_not (pt_val (pe_callB call_isi (by rfl) T.n_isinstance (by decide +kernel) (pa_cons (pv 0) (pa_cons (pe_bltn (v := .ty "tuple") (u := .type "tuple") rfl T.n_tuple (by decide +kernel) rfl) pa_nil))))) (pw_or (pt_cmpR op_notIn_seq (pe_callB call_len_seq (by rfl) T.n_len (by decide +kernel) (pa_cons (pv 0) pa_nil)) (pe_lstN (pa_cons pe_int (pa_cons pe_int pa_nil))) (by rfl)) (pw_or1 (pt_not (pt_val (pe_callB call_isi (by rfl) T.n_isinstance (by decide +kernel) (pa_cons (pe_ix ix_tup (pv 0) pe_int (fun _ _ => rfl)) (pa_cons (pe_bltn (v := .ty "str") (u := .type "str") rfl T.n_str (by decide +kernel) rfl) pa_nil)))))))))
    (pss_one (ps_ret pe_bl))
    pss_nil)
  (pss_cons (ps_if (pt_cmpR op_eq (pe_callB call_len_seq (by rfl) T.n_len (by decide +kernel) (pa_cons (pv 0) pa_nil)) pe_int (nomark _))
    (pss_one (ps_ret (pe_and (pe_cmpR op_eq (pe_ix ix_tup (pv 0) pe_int (fun _ _ => rfl)) pe_str (nomark _)) (pe_one (pe_call (G__law_is_whole) (hr.mono (by omega)) rfl T.m__law_is_whole T.F__law_is_whole.kp T.b__law_is_whole .nil pass0 (pa_cons (pe_ix ix_tup (pv 0) pe_int (fun _ _ => rfl)) (pa_cons (pv 2) pa_nil)))))))
    pss_nil)
  (pss_one (ps_ret (pe_and (pe_cmpR op_eq (pe_ix ix_tup (pv 0) pe_int (fun _ _ => rfl)) pe_str (nomark _)) (pe_one (pe_callB (cr_all rfl) (by rfl) T.n_all (by decide +kernel) (pa_cons (pe_lc (own := [("_law_x", 3)]) (g := (gName 3)) (tt := tYes) rfl sc__law_is_step.nd (pi_tup (pe_slice sl_tup (pv 0) (po_some pe_int) po_none)) (blkOk_by (N := N__law_is_step) (sc := defScope s__law_is_step) (by decide +kernel)) (fun _ _ _ _ _ => (pg_name (i := 3) sc__law_is_step.nd rfl (by first | exact Or.inl rfl | exact Or.inr rfl))) (fun _ _ _ _ _ => pts_nil) (fun _ _ _ _ _ => (pe_call (G__law_is_whole) (hr.mono (by omega)) rfl T.m__law_is_whole T.F__law_is_whole.kp T.b__law_is_whole .nil pass0 (pa_cons (pv 3) (pa_cons (pv 1) pa_nil))))) pa_nil)))))))), ?_⟩
  walk_at "ws"
  refine ab_isi T.ik ha (.inr (.inr (.inr rfl))) ?_
  walk_at "ws"
  cases e : isT "tuple" t with
  | false =>
    refine w_iteE rfl ?_
    walk_at "ws"
    have k := k H G.refl
    rw [isS_no e] at k
    exact k
  | true =>
    refine w_iteN rfl ?_
    obtain ⟨p, xs, ts, rfl, rfl, r, al⟩ := tup_of ha e
    have ll := al.length
    walk_at "ws"
    refine ⟨p, xs, rfl, .inr (.inl r), ?_⟩
    walk_at "ws"
    refine ⟨sz (by simp), fun q1 H1 hq1 g1 h1 => ?_⟩
    refine ⟨q1, _, rfl, .inl (SqL.of h1), rfl, rfl, ?_⟩
    have r1 := (g1 none).tups _ _ r
    have al1 := al.n (g1 none)
    dsimp only
    rw [show ([V.int 2, V.int 3] : List V) = ([2, 3] : List Int).map V.int from rfl, Da.inV_ints, ll]
    by_cases c : (ts.length : Int) ∈ ([2, 3] : List Int)
    · rw [decide_eq_true c]
      walk_at "ws"
      refine w_iteN rfl ?_
      obtain ⟨t0, ts0, rfl⟩ : ∃ t0 ts0, ts = t0 :: ts0 := by
        cases ts with
        | nil => simp at c
        | cons x y => exact ⟨x, y, rfl⟩
      cases al1 with
      | @cons v0 xs0 _ _ a0 al0 =>
      walk_at "ws"
      refine r_ixT (.inl r1) (v := v0) (at_of (j := 0) (by omega) rfl) ?_
      walk_at "ws"
      refine ab_isi T.ik a0 (.inr (.inr (.inl rfl))) ?_
      walk_at "ws"
      cases e2 : isT "str" t0 with
      | false =>
        refine w_iteE rfl ?_
        walk_at "ws"
        have k := k H1 (g1 none)
        rw [isS_str e2] at k
        exact k
      | true =>
        refine w_iteN rfl ?_
        obtain ⟨sw, rfl, rfl⟩ := str_inv a0 e2
        walk_at "ws"
        refine ⟨p, _, rfl, .inr (.inl r1), ?_⟩
        walk_at "ws"
        match ts0, c, al0 with
        | [t1], _, al0 =>
          obtain ⟨v1, rfl, a1⟩ : ∃ v1, xs0 = [v1] ∧ Ab a.c_Web hd H1 v1 t1 := by
            cases al0 with
            | cons a1 r => cases r; exact ⟨_, rfl, a1⟩
          refine w_iteE (by simp) ?_
          walk_at "ws"
          refine r_ixT (.inl r1) (v := .str sw) rfl ?_
          walk_at "ws"
          refine ⟨rfl, ?_⟩
          have e4 : decide (V.str sw = V.str "put") = decide (sw = "put") := by simp
          rw [e4]
          have k := k H1 (g1 none)
          rw [isS2] at k
          walk_at "ws"
          refine w_ite (fun e => ?_) (fun e => ?_)
          · walk_at "ws"
            refine r_ixT (.inl r1) (v := v1) rfl ?_
            walk_at "ws"
            refine ⟨many, hd, v1, t1, rfl, a1, ?_⟩
            rw [e, Bool.true_and] at k
            exact k
          · rw [e, Bool.false_and] at k
            exact k
        | [t1, t2], _, al0 =>
          obtain ⟨v1, v2, rfl, a1, a2⟩ := al0.two
          refine w_iteN (by simp) ?_
          walk_at "ws"
          refine r_ixT (.inl r1) (v := .str sw) rfl ?_
          walk_at "ws"
          refine ⟨rfl, ?_⟩
          have e4 : decide (V.str sw = V.str "come") = decide (sw = "come") := by simp
          rw [e4]
          walk_at "ws"
          refine w_ite (fun e => ?_) (fun e => ?_)
          · walk_at "ws"
            refine ⟨p, _, rfl, .inl r1, by show ¬ (HT.sIx 3 0 (some 1) = 0 ∧ HT.sIx 3 3 none = 3); decide, fun q2 hq2 => ?_⟩
            rw [cut3]
            have g2 : G none H1 (upd H1 q2 (.tup [v1, v2])) := G.alloc hq2
            have h2 : upd H1 q2 (.tup [v1, v2]) q2 = some (.tup [v1, v2]) := upd_same
            generalize upd H1 q2 (.tup [v1, v2]) = H2 at g2 h2 ⊢
            refine i_tup (SqT.of h2) ?_
            intro DD hD
            refine lc_pure (K := K) (o := none) (walk_tup (xs := [v1, v2])) (by simp) hD (fun _ e => nomatch e) (fun i => ([t1, t2] : List Tg)[i]?.map fun t => .bool (blw m t)) (fun H' g => sqT_t g.tups (SqT.of h2)) ?_ ?_
            · rintro i x H3 H4 hi g ⟨rfl, hx1⟩ Qy Qn ky kn
              have al2 := (AbAll.cons a1 (.cons a2 .nil)).n (g2.trans g)
              obtain ⟨t, ht, hat⟩ := al2.get hx1
              walk_at "ws"
              refine ⟨rfl, ?_⟩
              walk_at "ws"
              refine ⟨m, hd, x, t, rfl, hat, ky _ _ _ G.refl (.bl _) rfl (by rw [ht]; rfl)⟩
            · intro ys H3 g hD3 hds _
              have hds : DpAll K H3 ys (([t1, t2] : List Tg).map fun t => PyData.bool (blw m t)) := hds
              obtain rfl := bools_tg hds
              walk_at "ws"
              refine ⟨DD, _, rfl, SqL.of hD3, ?_⟩
              have k := k H3 (((g1 none).trans g2).trans g)
              rw [isS3, e, Bool.true_and] at k
              have e5 : (List.map (blw m) [t1, t2]).all id = (blw m t1 && blw m t2) := by simp
              rw [e5]
              exact k
          · have k := k H1 (g1 none)
            rw [isS3, e, Bool.false_and] at k
            exact k
        | [], c, _ => simp at c
        | _ :: _ :: _ :: _, c, _ => simp at c; omega
    · rw [decide_eq_false c]
      walk_at "ws"
      refine w_iteE rfl ?_
      walk_at "ws"
      have k := k H1 (g1 none)
      rw [isS_len c] at k
      exact k

end
end Mine
/-! ## K26 -/


namespace Mine
section
variable {P : Program} {w : World} {K : PySem.W.Frag} {mg : Str → Option Value} {base : Heap} {a : Ads}

/-! ### _law_behind -/
theorem w_par {i j : Nat} {ta : TA} {D : Ends} {σ : L2.St} {H : Hp} (q : ta σ H fun vs H1 => ∃ u v, vs = [u, v] ∧ D.nx ((σ.set i (some u)).set j (some v)) H1) : tPar i j ta D σ H := q
/-- a dict from the wires to tuples of puts, read -/
def LetS (K : PySem.W.Frag) (H : Hp) (p : Addr) (W : List (Int × Int)) (lt : List (List Int)) : Prop := ∃ fs : List Addr, H p = some (.dT (Da.dtOf W fs)) ∧ fs.length = W.length ∧ lt.length = W.length ∧ ∀ (j : Nat) (f : Addr) (d : List Int), fs[j]? = some f → lt[j]? = some d → SqT K H f (d.map V.int)
theorem putK_at : ∀ {W : List (Int × Int)} {ls : List Addr} {j : Nat} {u : Int × Int} {l : Addr}, W.length = ls.length → W.Nodup → W[j]? = some u → putK (Da.dtOf W ls) (Da.keyOfP u) (.ref l) = Da.dtOf W (ls.set j l) := fun {W ls j u l} e nd hu => by
  have jw := (List.getElem?_eq_some_iff.mp hu).1
  have ev : valV (Da.dtOf W ls) (Da.keyOfP u) = some (.ref (ls[j]'(by omega))) := Da.valT nd hu (List.getElem?_eq_getElem (by omega))
  have ne : ((Da.dtOf W ls).any fun kv => decide (kv.1 = Da.keyOfP u)) = true := by
    rw [valV_any, ev]
    rfl
  unfold putK
  rw [if_pos ne]
  clear ev ne
  induction W generalizing ls j with
  | nil => simp at hu
  | cons v W ih =>
    cases ls with
    | nil => simp at e
    | cons m ls =>
      have nd' := List.nodup_cons.mp nd
      have hmap : ∀ (W' : List (Int × Int)) (ls' : List Addr), u ∉ W' → (Da.dtOf W' ls').map (fun kv => if kv.1 = Da.keyOfP u then (kv.1, V.ref l) else kv) = Da.dtOf W' ls' := by
        intro W'
        induction W' with
        | nil => intro _ _; rfl
        | cons z W' ih2 =>
          intro ls' hn
          cases ls' with
          | nil => rfl
          | cons y ls' =>
            show (if Da.keyOfP z = Da.keyOfP u then (Da.keyOfP z, V.ref l) else (Da.keyOfP z, V.ref y)) :: (Da.dtOf W' ls').map _ = (Da.keyOfP z, V.ref y) :: Da.dtOf W' ls'
            rw [if_neg (fun q => hn (by rw [← Da.keyOfP_inj q]; exact List.mem_cons_self)), ih2 ls' fun q => hn (List.mem_cons_of_mem _ q)]
      cases j with
      | zero =>
        have euv : v = u := by simpa using hu
        subst euv
        show (if Da.keyOfP v = Da.keyOfP v then (Da.keyOfP v, V.ref l) else (Da.keyOfP v, V.ref m)) :: (Da.dtOf W ls).map _ = (Da.keyOfP v, V.ref l) :: Da.dtOf W ls
        rw [if_pos rfl, hmap W ls nd'.1]
      | succ j =>
        have hu' : W[j]? = some u := by simpa using hu
        have nvu : v ≠ u := fun q => nd'.1 (by rw [q]; exact List.mem_of_getElem? hu')
        show (if Da.keyOfP v = Da.keyOfP u then (Da.keyOfP v, V.ref l) else (Da.keyOfP v, V.ref m)) :: (Da.dtOf W ls).map _ = (Da.keyOfP v, V.ref m) :: Da.dtOf W (ls.set j l)
        rw [if_neg (fun q => nvu (Da.keyOfP_inj q)), ih (by simpa using e) nd'.2 hu' (by simp at jw; omega)]
structure BehA where
  dl : Addr
  dn : Addr
  ld : Addr
  rs : List Addr
structure BehN (H : Hp) (A : BehA) : Prop where
  dl : H A.dl = none
  dn : H A.dn = none
  ld : H A.ld = none
  rs : ∀ l ∈ A.rs, H l = none
  n1 : A.dl ≠ A.dn
  n2 : A.dl ≠ A.ld
  n3 : A.dn ≠ A.ld
  n4 : A.dl ∉ A.rs
  n5 : A.dn ∉ A.rs
  n6 : A.ld ∉ A.rs
  n7 : A.rs.Nodup
structure BehS (K : PySem.W.Frag) (W : List (Int × Int)) (A : BehA) (H : Hp) (ds lt : List (List Int)) (done : List Int) : Prop where
  dl : H A.dl = some (.lst (A.rs.map V.ref))
  dn : H A.dn = some (.lst (done.map V.int))
  ld : LetS K H A.ld W lt
  rs : Da.Lists H A.rs ds
theorem LetS.t {H H' : Hp} {p : Addr} {W : List (Int × Int)} {lt : List (List Int)} (h : LetS K H p W lt) (e : ∀ u, H p = some u → H' p = some u) (t : Ts H H') : LetS K H' p W lt := by
  obtain ⟨fs, h1, h2, h3, h4⟩ := h
  exact ⟨fs, e _ h1, h2, h3, fun j f d e1 e2 => sqT_t t (h4 j f d e1 e2)⟩
theorem LetS.n {H H' : Hp} {p : Addr} {W : List (Int × Int)} {lt : List (List Int)} (h : LetS K H p W lt) (g : G none H H') : LetS K H' p W lt := h.t (fun u e => g.all _ _ e) g.tups
section
variable {W : List (Int × Int)} {A : BehA} {H H1 H2 : Hp} {ds lt : List (List Int)} {done : List Int}
theorem BehS.n (s : BehS K W A H1 ds lt done) (g : G none H1 H2) : BehS K W A H2 ds lt done := ⟨g.all _ _ s.dl, g.all _ _ s.dn, s.ld.n g, s.rs.mono fun a _ u e => g.all _ _ e⟩
theorem BehS.done' (s : BehS K W A H1 ds lt done) (N : BehN H A) (d : List Int) : BehS K W A (upd H1 A.dn (.lst (d.map V.int))) ds lt d :=
  ⟨by rw [upd_ne N.n1]; exact s.dl, upd_same, s.ld.t (fun u e => by rw [upd_ne N.n3.symm]; exact e) (Ts.updl s.dn), s.rs.mono fun a m u e => by rw [upd_ne (Da.ne_mem N.n5 m)]; exact e⟩
theorem BehS.dia' (s : BehS K W A H1 ds lt done) (N : BehN H A) {x : Nat} {l : Addr} {d0 : List Int} (hl : A.rs[x]? = some l) (h0 : H1 l = some (.lst (d0.map V.int))) (d : List Int) : BehS K W A (upd H1 l (.lst (d.map V.int))) (ds.set x d) lt done := by
  have m := List.mem_of_getElem? hl
  exact ⟨by rw [upd_ne (Da.ne_mem N.n4 m).symm]; exact s.dl, by rw [upd_ne (Da.ne_mem N.n5 m).symm]; exact s.dn, s.ld.t (fun u e => by rw [upd_ne (Da.ne_mem N.n6 m).symm]; exact e) (Ts.updl h0), s.rs.set N.n7 hl d⟩
theorem ts_dT {D : Addr} {kvs : List (List L2.Key × V)} {u : HO} (h : H D = some (.dT kvs)) : Ts H (upd H D u) := fun a xs e => by
  rcases e with e | ⟨ob, e⟩
  · exact .inl (by rw [upd_ne (ne_of e h (by intro z; cases z))]; exact e)
  · exact .inr ⟨ob, by rw [upd_ne (ne_of e h (by intro z; cases z))]; exact e⟩
theorem BehS.let' (s : BehS K W A H1 ds lt done) (N : BehN H A) (nd : W.Nodup) {j : Nat} {u : Int × Int} (hu : W[j]? = some u) {kvs : List (List L2.Key × V)} (hk : H1 A.ld = some (.dT kvs)) {f : Addr} {d : List Int} (hf : SqT K H1 f (d.map V.int)) :
    BehS K W A (upd H1 A.ld (.dT (putK kvs (Da.keyOfP u) (.ref f)))) ds (lt.set j d) done := by
  obtain ⟨fs, h1, h2, h3, h4⟩ := s.ld
  rw [hk] at h1
  cases h1
  have t := ts_dT (u := .dT (putK (Da.dtOf W fs) (Da.keyOfP u) (.ref f))) hk
  refine ⟨by rw [upd_ne N.n2]; exact s.dl, by rw [upd_ne N.n3]; exact s.dn, ⟨fs.set j f, by rw [upd_same, putK_at h2.symm nd hu], by rw [List.length_set]; exact h2, by rw [List.length_set]; exact h3, fun i f' d' e1 e2 => ?_⟩, s.rs.mono fun a m v e => by rw [upd_ne (Da.ne_mem N.n6 m)]; exact e⟩
  by_cases c : j = i
  · subst c
    have jl := (List.getElem?_eq_some_iff.mp hu).1
    rw [List.getElem?_set_self (by omega)] at e1 e2
    cases e1; cases e2
    exact sqT_t t hf
  · rw [List.getElem?_set_ne c] at e1 e2
    exact sqT_t t (h4 i f' d' e1 e2)
end
theorem ab_two {D hd : Addr} {H : Hp} {v : V} {w : Str} {p : Int} (h : Ab D hd H v (.tup [.str w, .int p])) : ∃ a, v = .ref a ∧ Rd H a (.tup [.str w, .int p]) := by
  cases h with
  | @tup a xs _ r al =>
    obtain ⟨v1, v2, rfl, a1, a2⟩ := al.two
    obtain ⟨s, e1, e2⟩ := str_inv a1 rfl
    cases e1
    subst e2
    obtain rfl := a2.int_inv
    exact ⟨a, rfl, r⟩
theorem ab_three {D hd : Addr} {H : Hp} {v : V} {w : Str} {y x : Int} (h : Ab D hd H v (.tup [.str w, .int y, .int x])) : ∃ a, v = .ref a ∧ Rd H a (.tup [.str w, .int y, .int x]) := by
  cases h with
  | @tup a xs _ r al =>
    cases al with
    | @cons v1 xs0 _ _ a1 al =>
    obtain ⟨v2, v3, rfl, a2, a3⟩ := al.two
    obtain ⟨s, e1, e2⟩ := str_inv a1 rfl
    cases e1
    subst e2
    obtain rfl := a2.int_inv
    obtain rfl := a3.int_inv
    exact ⟨a, rfl, r⟩
theorem tail_cut (q : List Int) (p : Int) : cutV ((p :: q).map V.int) (some 1) none = q.map V.int := by
  have e := Da.cut_from ((p :: q).map V.int) (k := 0) (by simp)
  simpa using e
/-- where the law's own leading stands -/
structure BehT (K : PySem.W.Frag) (n : Int) (W : List (Int × Int)) (A : BehA) (H0 H : Hp) (s : LS) (b : Nat) : Prop where
  g : G none H0 H
  st : ∃ ds lt, BehS K W A H ds lt s.done ∧ RelL W s ds lt ∧ (ds.length : Int) = n ∧ (∀ d ∈ ds, d.length ≤ b) ∧ (∀ l ∈ lt, l.length ≤ b) ∧ s.done.length ≤ b
def sp__law_behind (K : PySem.W.Frag) (D : Addr) : Sp := fun vs H Q _ => ∃ (hd : Addr) (n : Int) (wa : Addr) (bs : List Addr) (W : List (Int × Int)) (vp : Addr) (ws : List Int) (v : V) (o : Option (List Tg)), vs = [.int n, .ref wa, .ref vp, v] ∧ SqT K H wa (bs.map V.ref) ∧ Da.TupAll H bs W ∧ 1 ≤ n ∧ WW n W ws ∧ SqT K H vp (ws.map V.int) ∧ Stf K D hd H v o ∧
  ∀ H', G none H H' → (∀ i, outT n W ws o = .inl i → Q (.int i) H') ∧ (∀ s', outT n W ws o = .inr s' → ∀ p dp lp : Addr, H' p = some (.tup [.ref dp, .ref lp]) → Da.Dia K H' dp (dsS n.toNat s') → LetS K H' lp W (W.map s'.lt) → H lp = none → H p = none → Q (.ref p) H')
theorem ok__law_behind (T : Txt K mg a) : FnOk P w K mg base CX0 3 a.f__law_behind a.d__law_behind P__law_behind (sp__law_behind K a.c_Web) := by
  refine T.F__law_behind.ok sc__law_behind (fun vs H Q E h => by obtain ⟨hd, n, wa, bs, W, vp, ws, v, o, rfl, _⟩ := h; rfl) (fun cdv A0 outer s0 H vs Q E hr h => ?_)
  obtain ⟨hd, n, wa, bs, W, vp, ws, v, o, rfl, hwa, tup, n1, O, hv, hs, k⟩ := h
  have G__law_is_step : FnOk P w K mg base CX0 2 a.f__law_is_step a.d__law_is_step P__law_is_step (sp__law_is_step a.c_Web) := ok__law_is_step T
  have n7 := O.n7
  have lb := tup.1
  have w49 := O.w49
  have w30 := O.w30
  refine ⟨_, (pss_cons (ps_if (L2.PW.pt (pw_or (pt_not (pt_val (pe_callB call_isiT (by rfl) T.n_isinstance (by decide +kernel) (pa_cons (pv 3) (pa_cons (pe_tupN (pa_cons (pe_bltn (v := .ty "list") (u := .type "list") rfl T.n_list (by decide +kernel) rfl) (pa_cons (pe_bltn (v := .ty "tuple") (u := .type "tuple") rfl T.n_tuple (by decide +kernel) rfl) pa_nil))) pa_nil))))) (pw_or1 (pt_cmpR op_gt (pe_callB call_len_seq (by rfl) T.n_len (by decide +kernel) (pa_cons (pv 3) pa_nil)) pe_int (nomark _)))))
    (pss_one (ps_ret (pe_un un_neg pe_int)))
    pss_nil)
  (pss_cons (ps_setLc (i := 4) (own := [("_law_machine", 12)]) (g := (gName 12)) (tt := tYes)  rfl sc__law_behind.nd rfl rfl (sw_true rfl rfl rfl (by decide +kernel)) (pi_range1 rfl T.n_range (pa_cons (pv 0) pa_nil)) (blkOk_by (N := N__law_behind) (sc := defScope s__law_behind) (by decide +kernel)) (fun _ _ _ _ _ => (pg_name (i := 12) sc__law_behind.nd rfl (by first | exact Or.inl rfl | exact Or.inr rfl))) (fun _ _ _ _ _ => pts_nil) (fun _ _ _ _ _ => (pe_lstN pa_nil)))
  (pss_cons (ps_set (i := 6) sc__law_behind.nd rfl (Or.inl rfl) (pe_callTy (call_dictPT rfl hr.units) (by rfl) T.n_dict (by decide +kernel) (pa_cons (pe_lc (own := [("_law_wire", 5)]) (g := (gName 5)) (tt := tYes) rfl sc__law_behind.nd (pi_tup (pv 1)) (blkOk_by (N := N__law_behind) (sc := defScope s__law_behind) (by decide +kernel)) (fun _ _ _ _ _ => (pg_name (i := 5) sc__law_behind.nd rfl (by first | exact Or.inl rfl | exact Or.inr rfl))) (fun _ _ _ _ _ => pts_nil) (fun _ _ _ _ _ => (pe_tupN (pa_cons (pv 5) (pa_cons (pe_tupN pa_nil) pa_nil))))) pa_nil)))
  (pss_cons (ps_set (i := 7) sc__law_behind.nd rfl (Or.inl rfl) (pe_lstN pa_nil))
  (pss_cons (ps_for PassesOwn.never rfl (pi_enumS (by rfl) T.n_enumerate (pa_cons (pv 3) pa_nil)) (pg_tup rfl (pgs_cons (pg_name (i := 8) sc__law_behind.nd rfl (Or.inl rfl)) (pgs_cons (pg_name (i := 9) sc__law_behind.nd rfl (Or.inl rfl)) pgs_nil)))
    (pss_cons (ps_if (pt_not (pt_val (pe_call (G__law_is_step) (hr.mono (by omega)) rfl T.m__law_is_step T.F__law_is_step.kp T.b__law_is_step .nil pass0 (pa_cons (pv 9) (pa_cons (pv 0) (pa_cons (pe_callB call_len_seq (by rfl) T.n_len (by decide +kernel) (pa_cons (pv 2) pa_nil)) pa_nil))))))
    (pss_one (ps_ret (pv 8)))
    pss_nil)
  (pss_cons (ps_if (pt_cmpR op_eq (pe_ix ix_tup (pv 9) pe_int (fun _ _ => rfl)) pe_str (nomark _))
    (pss_cons (ps_if (pt_cmpR op_in_seq (pe_ix ix_tup (pv 9) pe_int (fun _ _ => rfl)) (pv 7) (by rfl))
    (pss_one (ps_ret (pv 8)))
    pss_nil)
  (pss_cons (ps_expr (pe_bm PySem.F.plainAttrs_list PySem.F.slot_list_append PySem.F.type_list_append mt_append (pv 7) (pa_cons (pe_ix ix_tup (pv 9) pe_int (fun _ _ => rfl)) pa_nil)))
  (pss_one (ps_par (i := 10) (j := 11) rfl sc__law_behind.nd rfl rfl (by decide) rfl rfl (pa_cons (pe_ix ix_tup (pv 9) pe_int (fun _ _ => rfl)) (pa_cons (pe_ix ix_tup (pv 2) (pe_ix ix_tup (pv 9) pe_int (fun _ _ => rfl)) (fun _ _ => rfl)) pa_nil)) (by rfl)))))
    (pss_cons (ps_if (L2.PW.pt (pw_or (pt_cmpR (op_notInDT (u65 hr)) (pe_slice sl_tup (pv 9) (po_some pe_int) po_none) (pv 1) (by rfl)) (pw_or1 (pt_cmpR (op_eqD hr.units) (pe_dget (hu_of hr) (pv 6) (pe_slice sl_tup (pv 9) (po_some pe_int) po_none) (by first | exact fun _ _ => rfl | rfl | decide)) (pe_tupN pa_nil) (nomark _)))))
    (pss_one (ps_ret (pv 8)))
    pss_nil)
  (pss_cons (ps_par (i := 10) (j := 11) rfl sc__law_behind.nd rfl rfl (by decide) rfl rfl (pa_cons (pe_ix ix_tup (pe_dget (hu_of hr) (pv 6) (pe_slice sl_tup (pv 9) (po_some pe_int) po_none) (by first | exact fun _ _ => rfl | rfl | decide)) pe_int (fun _ _ => rfl)) (pa_cons (pe_ix ix_tup (pv 9) pe_int (fun _ _ => rfl)) pa_nil)) (by rfl))
  (pss_one (ps_asg (pe_slice Da.sl_tupAN (pe_dget (hu_of hr) (pv 6) (pe_slice sl_tup (pv 9) (po_some pe_int) po_none) (by first | exact fun _ _ => rfl | rfl | decide)) (po_some pe_int) po_none) (pg_sub (pv 6) (pe_slice sl_tup (pv 9) (po_some pe_int) po_none) (set_dict (hu_of hr))))))))
  (pss_one (ps_if (pt_cmpR op_notIn_seq (pv 10) (pe_ix ix_list (pv 4) (pv 11) (fun _ _ => rfl)) (by rfl))
    (pss_cons (ps_expr (pe_bm PySem.F.plainAttrs_list PySem.F.slot_list_append PySem.F.type_list_append mt_append (pe_ix ix_list (pv 4) (pv 11) (fun _ _ => rfl)) (pa_cons (pv 10) pa_nil)))
  (pss_one (ps_for PassesOwn.never rfl (pi_tup (pv 1)) (pg_name (i := 5) sc__law_behind.nd rfl (Or.inl rfl))
    (pss_one (ps_if (pt_cmpR op_eq (pe_ix ix_tup (pv 5) pe_int (fun _ _ => rfl)) (pv 11) (nomark _))
    (pss_one (ps_asg (pe_op op_catN (pe_dget (hu_of hr) (pv 6) (pv 5) (by first | exact fun _ _ => rfl | rfl | decide)) (pe_tupN (pa_cons (pv 10) pa_nil))) (pg_sub (pv 6) (pv 5) (set_dict (hu_of hr)))))
    pss_nil)))))
    pss_nil)))))
  (pss_one (ps_ret (pe_tupN (pa_cons (pe_callTy call_tupleN (by rfl) T.n_tuple (by decide +kernel) (pa_cons (pe_lc (own := [("_law_diary", 13)]) (g := (gName 13)) (tt := tYes) rfl sc__law_behind.nd (pi_list (pv 4)) (blkOk_by (N := N__law_behind) (sc := defScope s__law_behind) (by decide +kernel)) (fun _ _ _ _ _ => (pg_name (i := 13) sc__law_behind.nd rfl (by first | exact Or.inl rfl | exact Or.inr rfl))) (fun _ _ _ _ _ => pts_nil) (fun _ _ _ _ _ => (pe_callTy (Da.k_tupleF K) (by rfl) T.n_tuple (by decide +kernel) (pa_cons (pv 13) pa_nil)))) pa_nil)) (pa_cons (pv 6) pa_nil)))))))))), ?_⟩
  walk_at "ws"
  refine ⟨sz (by simp), fun tp H1 htp g1 h1 => ?_⟩
  walk_at "ws"
  refine r_isiL h1 (hs.n (g1 none)) ?_
  have g1 := g1 none
  walk_at "ws"
  cases o with
  | none =>
    refine w_iteE rfl ?_
    walk_at "ws"
    exact (k H1 g1).1 (-1) rfl
  | some ts =>
  refine w_iteN rfl ?_
  obtain ⟨sp, xs, rfl, hq0, al0, z6⟩ := hs
  have hq : SqL K H1 sp xs ∨ SqT K H1 sp xs := hq0.elim (fun h => .inl (sqL_n g1 h)) (fun h => .inr (sqT_t g1.tups h))
  have al := al0.n g1
  have ll := al.length
  walk_at "ws"
  refine ⟨sp, xs, rfl, hq, ?_⟩
  walk_at "ws"
  rw [ll]
  by_cases c4 : ts.length ≤ 4000
  case neg =>
    refine w_iteE (decide_eq_true (by omega)) ?_
    walk_at "ws"
    exact (k H1 g1).1 (-1) (outT_no (o := some ts) (decide_eq_false c4))
  refine w_iteN (decide_eq_false (by omega)) ?_
  have eo : outT n W ws (some ts) = (match goT n W ws ls0 ts 0 with | .inl i => .inl (i : Int) | .inr s => .inr s) := if_pos c4
  rw [eo] at k
  clear eo z6
  walk_at "ws"
  obtain ⟨m, rfl⟩ : ∃ m : Nat, n = (m : Int) := ⟨n.toNat, by omega⟩
  refine i_rng1 (by omega) (by omega) ?_
  rw [Int.toNat_natCast]
  intro dl hdl
  refine lc_it walk_range (fun i H' => ∃ rs : List Addr, G none H1 H' ∧ H' dl = some (.lst (rs.map V.ref)) ∧ rs.length = i ∧ rs.Nodup ∧ dl ∉ rs ∧ ∀ l ∈ rs, H1 l = none ∧ H' l = some (.lst [])) ⟨[], (G.refl).mut hdl (fun _ e => nomatch e), upd_same, rfl, List.nodup_nil, (fun h => nomatch h), (fun _ h => nomatch h)⟩ (fun _ _ _ _ => trivial) ?_ ?_
  · rintro i _ _ H2 hi ⟨rs, g2, h2, lr, nd, ndl, hrs⟩ ⟨rfl, rfl⟩
    walk_at "ws"
    refine ⟨rfl, ?_⟩
    walk_at "ws"
    refine ⟨sz (by simp), fun l H3 hl g3 h3 => ?_⟩
    have nl : l ≠ dl := (ne_of_none h2 hl).symm
    refine ⟨rs.map V.ref, (g3 none).all _ _ h2, Nat.lt_of_le_of_lt (by rw [List.length_map]; omega : (rs.map V.ref).length ≤ 100000) (by decide), rs ++ [l], (g2.trans (g3 none)).mut hdl (fun _ e => nomatch e), by rw [upd_same, List.map_append]; rfl, by rw [List.length_append, lr]; rfl, ?_, ?_, ?_⟩
    · exact nodup_snoc nd fun ha => by
        have := (hrs _ ha).2
        rw [hl] at this; cases this
    · intro h
      rcases List.mem_append.mp h with z | z
      · exact ndl z
      · exact nl (by simpa using z : dl = l).symm
    · intro y hy
      rcases List.mem_append.mp hy with z | z
      · have q := hrs y z
        exact ⟨q.1, by rw [upd_ne (Da.ne_mem ndl z)]; exact (g3 none).all _ _ q.2⟩
      · have e : y = l := by simpa using z
        subst e
        exact ⟨back_none g2 hl, by rw [upd_ne nl]; exact h3⟩
  rintro H2 ⟨rs, g2, h2, lr, nd, ndl, hrs⟩
  have g02 := g1.trans g2
  have hwa2 := sqT_t g02.tups hwa
  have tup2 := tup.g g02 (fun _ e => nomatch e)
  walk_at "ws"
  refine i_tup hwa2 ?_
  intro D hD
  refine lc_it (walk_tup (xs := bs.map V.ref)) (fun i H' => ∃ ts ls : List Addr, G none H2 H' ∧ H' D = some (.lst (ts.map V.ref)) ∧ ts.length = i ∧ ls.length = i ∧ (∀ l ∈ ls, SqT K H' l []) ∧ ∀ (j : Nat) (t b l : Addr), ts[j]? = some t → bs[j]? = some b → ls[j]? = some l → H' t = some (.tup [.ref b, .ref l])) ⟨[], [], (G.refl).mut hD (fun _ e => nomatch e), upd_same, rfl, rfl, (fun _ h => nomatch h), (fun j t b l e => by simp at e)⟩ (fun i H' _ ⟨ts, ls, q, _⟩ => sqT_t q.tups hwa2) ?_ ?_
  · rintro i v _ H3 hi ⟨ts, ls, g3, h3, lt_, ll, hls, hts⟩ ⟨rfl, hv'⟩
    rw [List.length_map] at hi
    rw [List.getElem?_map] at hv'
    obtain ⟨b, hb, rfl⟩ := Option.map_eq_some_iff.mp hv'
    walk_at "ws"
    refine ⟨rfl, ?_⟩
    walk_at "ws"
    refine ⟨sz (by simp), fun l H4 hl g4 h4 => ?_⟩
    walk_at "ws"
    refine ⟨sz (by simp), fun t H5 ht g5 h5 => ?_⟩
    have g35 : G none H3 H5 := (g4 none).trans (g5 none)
    have h5D := g35.all _ _ h3
    have h5l := (g5 none).all _ _ h4
    have tD : t ≠ D := (ne_of_none ((g4 none).all _ _ h3) ht).symm
    refine ⟨ts.map V.ref, h5D, Nat.lt_of_le_of_lt (by rw [List.length_map]; omega : (ts.map V.ref).length ≤ 100000) (by decide), ts ++ [t], ls ++ [l], (g3.trans g35).mut hD (fun _ e => nomatch e), by rw [upd_same, List.map_append]; rfl, by rw [List.length_append, lt_]; rfl, by rw [List.length_append, ll]; rfl, ?_, ?_⟩
    · intro y hy
      refine sqT_t (Ts.updl h5D) ?_
      rcases List.mem_append.mp hy with z | z
      · exact sqT_t g35.tups (hls y z)
      · have e : y = l := by simpa using z
        subst e
        exact SqT.of h5l
    · intro j t' b' l' e1 e2 e3
      by_cases cj : j < i
      · rw [List.getElem?_append_left (by omega)] at e1 e3
        have q := hts j t' b' l' e1 e2 e3
        rw [upd_ne (ne_of q h3 (by intro z; cases z))]
        exact g35.all _ _ q
      · have ej : j = i := by
          have := (List.getElem?_eq_some_iff.mp e1).1
          rw [List.length_append, lt_, List.length_singleton] at this
          omega
        subst ej
        rw [List.getElem?_append_right (by omega), lt_, Nat.sub_self] at e1
        rw [List.getElem?_append_right (by omega), ll, Nat.sub_self] at e3
        rw [hb] at e2
        cases e1; cases e2; cases e3
        rw [upd_ne tD]
        exact h5
  rintro H3 ⟨ts0, ls, g3, h3, lt_, lls, hls, hts⟩
  rw [List.length_map] at lt_ lls
  have tup3 := tup2.g g3 (fun _ e => nomatch e)
  walk_at "ws"
  refine ⟨D, Da.mkL W bs ts0 ls, rfl, by rw [Da.mkL_at lb (by omega) (by omega)]; exact h3, fun q hq => ?_, ?_, fun ld H4 hld g4 h4 => ?_⟩
  · obtain ⟨j, u, b, t, l, e1, e2, e3, e4, rfl⟩ := Da.mkL_mem hq
    exact ⟨hts j t b l e3 e2 e4, tup3.2 j b u e2 e1⟩
  · rw [Da.mkL_key lb (by omega) (by omega)]
    exact List.pairwise_map.mpr (O.nd.imp fun h e => h (Da.keyOfP_inj e))
  rw [Da.mkL_dt lb (by omega) (by omega)] at h4
  walk_at "ws"
  refine ⟨sz (by simp), fun dn H5 hdn g5 h5 => ?_⟩
  have g34 := g4 none
  have g45 := g5 none
  have g05 := ((g02.trans g3).trans g34).trans g45
  have h2D := h2
  obtain ⟨A, eA⟩ : ∃ A : BehA, A = ⟨dl, dn, ld, rs⟩ := ⟨_, rfl⟩
  have h3dl := g3.all _ _ h2
  have h4dl := g34.all _ _ h3dl
  have h3rs : ∀ l ∈ rs, H3 l = some (.lst []) := fun l hl => g3.all _ _ (hrs l hl).2
  have h4rs : ∀ l ∈ rs, H4 l = some (.lst []) := fun l hl => g34.all _ _ (h3rs l hl)
  have N : BehN H A := by
    subst eA
    exact ⟨back_none g1 hdl, back_none (((g02.trans g3).trans g34)) hdn, back_none (g02.trans g3) hld, fun l hl => back_none g1 (hrs l hl).1, ne_of_none h4dl hdn, ne_of_none h3dl hld, (ne_of_none h4 hdn).symm, ndl, Da.not_in hdn h4rs, Da.not_in hld h3rs, nd⟩
  have T5 : BehT K (m : Int) W A H H5 ls0 0 := by
    subst eA
    refine ⟨g05, rs.map fun _ => [], ls.map fun _ => [], ⟨g45.all _ _ h4dl, h5, ⟨ls, g45.all _ _ h4, by omega, by rw [List.length_map]; omega, fun j f d e1 e2 => ?_⟩, by rw [List.length_map], fun i a d e1 e2 => ?_⟩, ⟨fun x d e => ?_, fun j u q _ e => ?_⟩, by rw [List.length_map, lr], fun d hd => ?_, fun d hd => ?_, Nat.le_refl _⟩
    · rw [List.getElem?_map, e1] at e2
      cases e2
      exact sqT_t (g34.trans g45).tups (hls f (List.mem_of_getElem? e1))
    · rw [List.getElem?_map, e1] at e2
      cases e2
      exact g45.all _ _ (h4rs a (List.mem_of_getElem? e1))
    · rw [List.getElem?_map] at e
      obtain ⟨_, _, rfl⟩ := Option.map_eq_some_iff.mp e
      rfl
    · rw [List.getElem?_map] at e
      obtain ⟨_, _, rfl⟩ := Option.map_eq_some_iff.mp e
      rfl
    · obtain ⟨_, _, rfl⟩ := List.mem_map.mp hd; exact Nat.le_refl _
    · obtain ⟨_, _, rfl⟩ := List.mem_map.mp hd; exact Nat.le_refl _
  have hq5 : SqL K H5 sp xs ∨ SqT K H5 sp xs := hq.elim (fun h => .inl (sqL_n (((g2.trans g3).trans g34).trans g45) h)) (fun h => .inr (sqT_t (((g2.trans g3).trans g34).trans g45).tups h))
  have hwa5 := sqT_t g05.tups hwa
  have tup5 := tup.g g05 (fun _ e => nomatch e)
  have hv5 := sqT_t g05.tups hv
  have alH : AbAll a.c_Web hd H xs ts := al0
  have hqH := hq0
  obtain ⟨edl, eld, edn⟩ : dl = A.dl ∧ ld = A.ld ∧ dn = A.dn := by subst eA; exact ⟨rfl, rfl, rfl⟩
  subst edl eld edn
  clear eA h3rs h4rs h3dl h4dl h2D hts hls h3 h4 h5 hrs h2 hwa2 tup2 tup3 h1 htp hdl hD hld hdn ndl nd lr lt_ lls al hq
  have mk : ∀ {H' : Hp}, G none H5 H' → G none H H' := fun g => g05.trans g
  walk_at "wn"
  dsimp only
  refine w_seqM (fun σ H' => ∃ (u5 u8 u9 u10 u11 u12 u13 : Option V) (s' : LS), σ = [some (.int (m : Int)), some (.ref wa), some (.ref vp), some (.ref sp), some (.ref A.dl), u5, some (.ref A.ld), some (.ref A.dn), u8, u9, u10, u11, u12, u13] ∧ BehT K (m : Int) W A H H' s' ts.length ∧ goT (m : Int) W ws ls0 ts 0 = .inr s') (fun N1 kN1 => ?_) ?_
  · walk_at "ws"
    refine w_ienumS' ?_
    walk_at "ws"
    rcases hqH with hqH | hqH
    · refine ⟨sp, rfl, .inl ⟨⟨_, sqL_n g05 hqH⟩, ?_⟩⟩
      refine for_it (walk_enum (xs := xs)) (fun i σ H' => ∃ (u5 u8 u9 u10 u11 u12 u13 : Option V) (s' : LS), σ = [some (.int (m : Int)), some (.ref wa), some (.ref vp), some (.ref sp), some (.ref A.dl), u5, some (.ref A.ld), some (.ref A.dn), u8, u9, u10, u11, u12, u13] ∧ BehT K (m : Int) W A H H' s' i ∧ goT (m : Int) W ws ls0 ts 0 = goT (m : Int) W ws s' (ts.drop i) i) ⟨_, _, _, _, _, _, _, ls0, rfl, T5, rfl⟩ (fun i σ H' _ ⟨_, _, _, _, _, _, _, _, _, q, _⟩ => sqL_n q.g hqH) ?_ ?_
      · rintro i v σ H6 H7 hi ⟨u5, u8, u9, u10, u11, u12, u13, s', rfl, P6, eg⟩ ⟨t, y, z, rfl, ht, rfl, ey, ez⟩
        cases Option.some.inj ey
        have ez : xs[i]? = some z := ez
        obtain ⟨tg, htg, haz⟩ := alH.get ez
        have g7 : G none H6 (upd H6 t (.tup [.int (i : Nat), z])) := G.alloc ht
        refine ⟨t, _, rfl, SqT.of upd_same, rfl, ?_⟩
        refine ⟨_, _, rfl, ?_⟩
        walk_at "ws"
        refine ⟨_, _, rfl, ?_⟩
        walk_at "ws"
        refine ⟨rfl, ?_⟩
        generalize upd H6 t (.tup [.int (i : Nat), z]) = H7 at g7 ⊢
        obtain ⟨gP, ds, lt, S6, rel, ld6, bd, bl, zdn⟩ := P6
        have il : i < ts.length := by omega
        have ed : ts.drop i = tg :: ts.drop (i + 1) := by
          rw [List.drop_eq_getElem_cons il]
          congr 1
          exact (List.getElem?_eq_some_iff.mp htg).2
        rw [ed] at eg
        have eg2 : goT (m : Int) W ws ls0 ts 0 = (match stepT (m : Int) W ws s' tg with | none => Sum.inl i | some s' => goT (m : Int) W ws s' (ts.drop (i + 1)) (i + 1)) := eg
        have g07 := gP.trans g7
        have S7 := S6.n g7
        have haz7 : Ab a.c_Web hd H7 z tg := haz.n g07
        walk_at "ws"
        refine ⟨vp, _, rfl, .inr (sqT_t g07.tups hv), ?_⟩
        walk_at "ws"
        rw [List.length_map]
        refine ⟨(m : Int), (ws.length : Int), hd, z, tg, rfl, haz7, fun H8 g8 => ?_⟩
        have g08 := g07.trans g8
        have S8 := S7.n g8
        have haz8 := haz7.n g8
        walk_at "wn"
        cases eS : isS (m : Int) (ws.length : Int) tg with
        | false =>
          refine w_iteE rfl ?_
          walk_at "ws"
          have es : stepT (m : Int) W ws s' tg = none := by
            unfold stepT
            unfold isS at eS
            rw [Option.isSome_eq_false_iff] at eS
            rw [Option.isNone_iff_eq_none.mp eS]
            rfl
          rw [es] at eg2
          have k := k H8 g08
          rw [eg2] at k
          exact k.1 _ rfl
        | true =>
          refine w_iteN rfl ?_
          walk_at "wn"
          dsimp only
          refine w_seqM (fun σ H' => ∃ (u5 : Option V) (s1 : LS) (put : Int) (xn : Nat) (ds lt : List (List Int)), σ = [some (.int (m : Int)), some (.ref wa), some (.ref vp), some (.ref sp), some (.ref A.dl), u5, some (.ref A.ld), some (.ref A.dn), some (.int (i : Nat)), some z, some (.int put), some (.int (xn : Int)), u12, u13] ∧ G none H H' ∧ BehS K W A H' ds lt s1.done ∧ RelL W s1 ds lt ∧ ds.length = m ∧ xn < m ∧ (∀ d ∈ ds, d.length ≤ i) ∧ (∀ l ∈ lt, l.length ≤ i) ∧ s1.done.length ≤ i + 1 ∧ stepT (m : Int) W ws s' tg = some (LS.wr s1 (xn : Int) put)) (fun N2 kN2 => ?_) ?_
          · rcases isS_inv eS with ⟨p, rfl, p0, p1⟩ | ⟨y, x, rfl, rg⟩
            · obtain ⟨za, rfl, rz⟩ := ab_two haz8
              have pl : p.toNat < ws.length := by omega
              obtain ⟨x, hx⟩ : ∃ x, ws[p.toNat]? = some x := ⟨_, List.getElem?_eq_getElem pl⟩
              have xr := O.wr x (List.mem_of_getElem? hx)
              obtain ⟨xn, rfl⟩ : ∃ xn : Nat, x = (xn : Int) := ⟨x.toNat, by omega⟩
              have ks : stepT (m : Int) W ws s' (.tup [.str "put", .int p]) = if p ∈ s'.done then none else some (LS.wr ⟨s'.cur, s'.lt, s'.done ++ [p]⟩ (xn : Int) p) := by
                unfold stepT
                rw [toStp_put ⟨p0, p1⟩]
                show (if p ∈ s'.done then none else match ws[p.toNat]? with | some x => some (LS.wr ⟨s'.cur, s'.lt, s'.done ++ [p]⟩ x p) | none => none) = _
                rw [hx]
              walk_at "ws"
              refine r_ixT (.inl rz) (v := .str "put") rfl ?_
              walk_at "ws"
              refine ⟨rfl, ?_⟩
              walk_at "ws"
              refine w_iteE (decide_eq_true rfl) ?_
              walk_at "ws"
              refine r_ixT (.inl rz) (v := .int p) rfl ?_
              walk_at "ws"
              refine ⟨A.dn, _, rfl, .inl (SqL.of S8.dn), rfl, by rw [List.all_map, List.all_eq_true]; intro q _; rfl, ?_⟩
              rw [Da.inV_ints]
              by_cases c : p ∈ s'.done
              · rw [decide_eq_true c]
                walk_at "ws"
                refine w_iteE rfl ?_
                walk_at "ws"
                rw [ks, if_pos c] at eg2
                have k := k H8 g08
                rw [eg2] at k
                exact k.1 _ rfl
              · rw [decide_eq_false c]
                rw [if_neg c] at ks
                walk_at "ws"
                refine w_iteN rfl ?_
                walk_at "ws"
                refine i_BM S8.dn ?_
                walk_at "ws"
                refine r_ixT (.inl rz) (v := .int p) rfl ?_
                walk_at "ws"
                refine r_app S8.dn (by rw [List.length_map]; omega) ?_
                have S9 : BehS K W A (upd H8 A.dn (.lst (s'.done.map V.int ++ [.int p]))) ds lt (s'.done ++ [p]) := by
                  have z := S8.done' N (s'.done ++ [p])
                  rw [List.map_append] at z
                  exact z
                have g09 : G none H (upd H8 A.dn (.lst (s'.done.map V.int ++ [.int p]))) := g08.mut N.dn (fun _ e => nomatch e)
                have rz9 : Rd (upd H8 A.dn (.lst (s'.done.map V.int ++ [.int p]))) za (.tup [.str "put", .int p]) := Ts.updl S8.dn _ _ rz
                generalize upd H8 A.dn (.lst (s'.done.map V.int ++ [.int p])) = H9 at S9 g09 rz9 ⊢
                dsimp only
                refine w_par ?_
                walk_at "ws"
                refine r_ixT (.inl rz9) (v := .int p) rfl ?_
                walk_at "ws"
                refine r_ixT (.inl rz9) (v := .int p) rfl ?_
                walk_at "ws"
                refine r_ixT (sqT_t g09.tups hv) (v := .int (xn : Int)) (at_of (j := p.toNat) (by omega) (by rw [List.getElem?_map, hx]; rfl)) ?_
                walk_at "ws"
                refine ⟨_, _, rfl, ?_⟩
                refine kN2 _ _ ⟨_, ⟨s'.cur, s'.lt, s'.done ++ [p]⟩, p, xn, ds, lt, rfl, g09, S9, ⟨rel.1, rel.2⟩, by omega, by omega, bd, bl, by rw [List.length_append, List.length_singleton]; omega, ks⟩
            · obtain ⟨za, rfl, rz⟩ := ab_three haz8
              have ks : stepT (m : Int) W ws s' (.tup [.str "come", .int y, .int x]) = led1 W ws s' (.come y x) := by unfold stepT; rw [toStp_come rg]; rfl
              have nwh : ¬ (HT.sIx 3 0 (some 1) = 0 ∧ HT.sIx 3 3 none = 3) := by decide
              have dW : Dp K H8 (.ref wa) (dW W) := .tup (sqT_t g08.tups hwa) (Da.tupAll_dp (p := wa) (tup.g g08 (fun _ e => nomatch e)))
              walk_at "ws"
              refine r_ixT (.inl rz) (v := .str "come") rfl ?_
              walk_at "ws"
              refine ⟨rfl, ?_⟩
              walk_at "ws"
              refine w_iteN (by show decide (V.str "come" = V.str "put") = false; decide +kernel) ?_
              walk_at "ws"
              refine ⟨za, _, rfl, .inl rz, nwh, fun t1 ht1 => ?_⟩
              rw [cut3]
              have g9 : G none H8 (upd H8 t1 (.tup [.int y, .int x])) := G.alloc ht1
              have h9 : upd H8 t1 (.tup [.int y, .int x]) t1 = some (.tup [.int y, .int x]) := upd_same
              generalize upd H8 t1 (.tup [.int y, .int x]) = H9 at g9 h9 ⊢
              walk_at "ws"
              refine ⟨dP (y, x), W.map dP, dp_ofP (SqT.of h9), (dp_n g9).1 _ _ dW, sh_dP _, sh_dW _, ?_⟩
              rw [any_dP]
              have S9 := S8.n g9
              have g09 := g08.trans g9
              have rz9 := g9.tups _ _ rz
              walk_at "ws"
              by_cases hm : (y, x) ∈ W
              case neg =>
                refine w_iteE (by rw [decide_eq_false hm]; rfl) ?_
                walk_at "ws"
                have ko : led1 W ws s' (.come y x) = none := if_neg hm
                rw [ks, ko] at eg2
                have k := k H9 g09
                rw [eg2] at k
                exact k.1 _ rfl
              refine w_iteN (by rw [decide_eq_true hm]; rfl) ?_
              obtain ⟨j, hu⟩ := List.getElem?_of_mem hm
              obtain ⟨fs, hld, lfs, ltl, hfs⟩ := S9.ld
              have jw := (List.getElem?_eq_some_iff.mp hu).1
              obtain ⟨f, hf⟩ : ∃ f, fs[j]? = some f := ⟨_, List.getElem?_eq_getElem (by omega)⟩
              obtain ⟨q, hq⟩ : ∃ q, lt[j]? = some q := ⟨_, List.getElem?_eq_getElem (by omega)⟩
              have eq : s'.lt (y, x) = q := rel.2 j _ q hu hq
              have hl1 : led1 W ws s' (.come y x) = (match s'.lt (y, x) with | [] => none | p :: r => some (LS.wr ⟨s'.cur, fun u => if u = (y, x) then r else s'.lt u, s'.done⟩ x p)) := if_pos hm
              rw [eq] at hl1
              walk_at "ws"
              refine Da.w_dget ?_
              walk_at "ws"
              refine ⟨za, _, rfl, .inl rz9, nwh, fun t2 ht2 => ?_⟩
              rw [cut3]
              have gA : G none H9 (upd H9 t2 (.tup [.int y, .int x])) := G.alloc ht2
              have hA : upd H9 t2 (.tup [.int y, .int x]) t2 = some (.tup [.int y, .int x]) := upd_same
              generalize upd H9 t2 (.tup [.int y, .int x]) = HA at gA hA ⊢
              refine Da.i_dget (u := (y, x)) O.nd (gA.all _ _ hld) hA hu hf ?_
              walk_at "ws"
              refine ⟨sz (by simp), fun em HB hem gB hB => ?_⟩
              have gAB := gA.trans (gB none)
              refine ⟨dI q, dI [], dp_ofI (sqT_t gAB.tups (hfs j f q hf hq)), dp_ofI (SqT.of hB), sh_dI _, sh_dI _, ?_⟩
              rw [eqv_dI]
              have g0B := g09.trans gAB
              have SB := S9.n gAB
              have rzB := gAB.tups _ _ rz9
              have hldB := gAB.all _ _ hld
              have hfB := sqT_t gAB.tups (hfs j f q hf hq)
              walk_at "ws"
              cases q with
              | nil =>
                refine w_iteE (by simp) ?_
                walk_at "ws"
                rw [ks, hl1] at eg2
                have k := k HB g0B
                rw [eg2] at k
                exact k.1 _ rfl
              | cons p r =>
                refine w_iteN (by simp) ?_
                have hl1 : led1 W ws s' (.come y x) = some (LS.wr ⟨s'.cur, fun u => if u = (y, x) then r else s'.lt u, s'.done⟩ x p) := hl1
                rw [hl1] at ks
                obtain ⟨xn, rfl⟩ : ∃ xn : Nat, x = (xn : Int) := ⟨x.toNat, by omega⟩
                walk_at "ws"
                dsimp only
                refine w_par ?_
                walk_at "ws"
                refine Da.w_dget ?_
                walk_at "ws"
                refine ⟨za, _, rfl, .inl rzB, nwh, fun t3 ht3 => ?_⟩
                rw [cut3]
                have gC : G none HB (upd HB t3 (.tup [.int y, .int (xn : Int)])) := G.alloc ht3
                have hC : upd HB t3 (.tup [.int y, .int (xn : Int)]) t3 = some (.tup [.int y, .int (xn : Int)]) := upd_same
                generalize upd HB t3 (.tup [.int y, .int (xn : Int)]) = HC at gC hC ⊢
                refine Da.i_dget (u := (y, (xn : Int))) O.nd (gC.all _ _ hldB) hC hu hf ?_
                walk_at "ws"
                refine r_ixT (sqT_t gC.tups hfB) (v := .int p) (at_of (j := 0) (by omega) rfl) ?_
                walk_at "ws"
                refine r_ixT (.inl (gC.tups _ _ rzB)) (v := .int (xn : Int)) rfl ?_
                walk_at "ws"
                refine ⟨_, _, rfl, ?_⟩
                walk_at "ws"
                refine Da.w_dget ?_
                walk_at "ws"
                refine ⟨za, _, rfl, .inl (gC.tups _ _ rzB), nwh, fun t4 ht4 => ?_⟩
                rw [cut3]
                have gD : G none HC (upd HC t4 (.tup [.int y, .int (xn : Int)])) := G.alloc ht4
                have hD : upd HC t4 (.tup [.int y, .int (xn : Int)]) t4 = some (.tup [.int y, .int (xn : Int)]) := upd_same
                generalize upd HC t4 (.tup [.int y, .int (xn : Int)]) = HD at gD hD ⊢
                have gBD := gC.trans gD
                refine Da.i_dget (u := (y, (xn : Int))) O.nd (gBD.all _ _ hldB) hD hu hf ?_
                walk_at "ws"
                refine ⟨f, _, rfl, sqT_t gBD.tups hfB, fun f2 HE gE hE => ?_⟩
                rw [tail_cut] at hE
                walk_at "ws"
                have gBE := gBD.trans (gE none)
                refine ⟨za, _, rfl, .inl (gBE.tups _ _ rzB), nwh, fun t5 ht5 => ?_⟩
                rw [cut3]
                have gF : G none HE (upd HE t5 (.tup [.int y, .int (xn : Int)])) := G.alloc ht5
                have hF : upd HE t5 (.tup [.int y, .int (xn : Int)]) t5 = some (.tup [.int y, .int (xn : Int)]) := upd_same
                generalize upd HE t5 (.tup [.int y, .int (xn : Int)]) = HF at gF hF ⊢
                have gBF := gBE.trans gF
                have SF := SB.n gBF
                have hldF := gBF.all _ _ hldB
                have ldn := lfs
                refine ⟨A.ld, _, rfl, DPut.t (k := Da.keyOfP (y, (xn : Int))) hldF hF (Nat.lt_of_le_of_lt (by rw [dtOf_len (by omega)]; omega : (Da.dtOf W fs).length ≤ 1000) (by decide)), ?_⟩
                have SG := SF.let' N O.nd hu hldF (sqT_t gF.tups hE)
                refine kN2 _ _ ⟨_, ⟨s'.cur, fun u => if u = (y, (xn : Int)) then r else s'.lt u, s'.done⟩, p, xn, ds, _, rfl, (g0B.trans gBF).mut N.ld (fun _ e => nomatch e), SG, ?_, by omega, by omega, bd, mem_set_le bl (by have := bl _ (List.mem_of_getElem? hq); simp at this; omega), Nat.le_succ_of_le zdn, ks⟩
                exact rel.take O.nd hu r s'.done (by omega)
          · rintro σ H9 ⟨u5, s1, put, xn, ds, lt, rfl, g09, S9, rel1, lds, xm, bd, bl, zdn1, ks⟩
            clear S8 S7 S6 haz8 haz7 rel
            obtain ⟨l, hl⟩ : ∃ l, A.rs[xn]? = some l := ⟨_, List.getElem?_eq_getElem (by have := S9.rs.1; omega)⟩
            obtain ⟨d, hdx⟩ : ∃ d, ds[xn]? = some d := ⟨_, List.getElem?_eq_getElem (by omega)⟩
            have hdl := S9.rs.2 xn l d hl hdx
            have zd := bd d (List.mem_of_getElem? hdx)
            rw [ks] at eg2
            walk_at "ws"
            refine r_ixL (SqL.of S9.dl) (v := .ref l) (at_of (j := xn) (by omega) (by rw [List.getElem?_map, hl]; rfl)) ?_
            refine ⟨l, _, rfl, .inl (SqL.of hdl), rfl, by rw [List.all_map, List.all_eq_true]; intro q _; rfl, ?_⟩
            dsimp only
            rw [Da.inV_ints]
            by_cases c : put ∈ d
            · rw [decide_eq_true c]
              walk_at "ws"
              refine w_iteN rfl ?_
              walk_at "ws"
              have ew := RelL.had rel1 hdx c
              rw [ew] at eg2
              exact ⟨_, _, _, _, _, _, _, s1, rfl, ⟨g09, ds, lt, S9, rel1, by omega, fun d hd => Nat.le_succ_of_le (bd d hd), fun d hd => Nat.le_succ_of_le (bl d hd), zdn1⟩, eg2⟩
            · rw [decide_eq_false c]
              walk_at "ws"
              refine w_iteE rfl ?_
              walk_at "ws"
              refine r_ixL (SqL.of S9.dl) (v := .ref l) (at_of (j := xn) (by omega) (by rw [List.getElem?_map, hl]; rfl)) ?_
              refine i_BM hdl ?_
              walk_at "ws"
              refine r_app hdl (by rw [List.length_map]; omega) ?_
              have SA : BehS K W A (upd H9 l (.lst (d.map V.int ++ [.int put]))) (ds.set xn (d ++ [put])) lt s1.done := by
                have z := S9.dia' N hl hdl (d ++ [put])
                rw [List.map_append] at z
                exact z
              have gA : G none H (upd H9 l (.lst (d.map V.int ++ [.int put]))) := g09.mut (N.rs l (List.mem_of_getElem? hl)) (fun _ e => nomatch e)
              generalize upd H9 l (.lst (d.map V.int ++ [.int put])) = HA at SA gA ⊢
              have ltW : lt.length = W.length := SA.ld.choose_spec.2.2.1
              walk_at "ws"
              refine i_tup (sqT_t gA.tups hwa) ?_
              refine for_it (walk_tup (xs := bs.map V.ref)) (fun j σ H' => ∃ (u5 : Option V) (lt2 : List (List Int)), σ = [some (.int (m : Int)), some (.ref wa), some (.ref vp), some (.ref sp), some (.ref A.dl), u5, some (.ref A.ld), some (.ref A.dn), some (.int (i : Nat)), some z, some (.int put), some (.int (xn : Int)), u12, u13] ∧ G none H H' ∧ BehS K W A H' (ds.set xn (d ++ [put])) lt2 s1.done ∧ lt2.length = lt.length ∧
                ∀ (z : Nat) u q q0, W[z]? = some u → lt2[z]? = some q → lt[z]? = some q0 → q = if z < j ∧ u.1 = (xn : Int) then q0 ++ [put] else q0) ⟨_, lt, rfl, gA, SA, rfl, fun z u q q0 _ e1 e2 => by rw [if_neg (fun c => absurd c.1 (Nat.not_lt_zero z))]; rw [e1] at e2; exact Option.some.inj e2⟩ (fun _ _ _ _ ⟨_, _, _, q, _⟩ => sqT_t q.tups hwa) ?_ ?_
              · rintro j v σ _ HB hj ⟨u5, lt2, rfl, gB, SB, ll2, rl⟩ ⟨rfl, hvB⟩
                rw [List.length_map] at hj
                rw [List.getElem?_map] at hvB
                obtain ⟨b, hb, rfl⟩ := Option.map_eq_some_iff.mp hvB
                obtain ⟨u, hu⟩ : ∃ u, W[j]? = some u := ⟨_, List.getElem?_eq_getElem (by omega)⟩
                have htb := (tup.g gB (fun _ e => nomatch e)).2 j b u hb hu
                obtain ⟨fs, hld, lfs, ltl, hfs⟩ := SB.ld
                obtain ⟨f, hf⟩ : ∃ f, fs[j]? = some f := ⟨_, List.getElem?_eq_getElem (by omega)⟩
                obtain ⟨q, hq⟩ : ∃ q, lt2[j]? = some q := ⟨_, List.getElem?_eq_getElem (by omega)⟩
                obtain ⟨q0, hq0⟩ : ∃ q0, lt[j]? = some q0 := ⟨_, List.getElem?_eq_getElem (by omega)⟩
                have eq : q = q0 := by
                  have e := rl j u q q0 hu hq hq0
                  rw [if_neg (fun c => Nat.lt_irrefl j c.1)] at e
                  exact e
                walk_at "ws"
                refine r_ixT (SqT.of htb) (v := .int u.1) (at_of (j := 0) (by omega) rfl) ?_
                walk_at "ws"
                refine w_ite (fun e => ?_) (fun e => ?_)
                · have e0 : u.1 = (xn : Int) := of_decide_eq_true e
                  walk_at "ws"
                  refine Da.w_dget ?_
                  walk_at "ws"
                  refine Da.i_dget O.nd hld htb hu hf ?_
                  walk_at "ws"
                  refine ⟨sz (by simp), fun tp HC htp gC hC => ?_⟩
                  have zq := bl q0 (List.mem_of_getElem? hq0)
                  refine ⟨f, tp, _, _, rfl, rfl, sqT_t (gC none).tups (hfs j f q hf hq), SqT.of hC, by rw [List.length_map, eq]; simp; omega, fun f2 HD gD hD => ?_⟩
                  have gBD := (gC none).trans (gD none)
                  have SD := SB.n gBD
                  have hldD := gBD.all _ _ hld
                  walk_at "ws"
                  refine ⟨A.ld, _, rfl, DPut.t (k := Da.keyOfP u) hldD (gBD.all _ _ htb) (Nat.lt_of_le_of_lt (by rw [dtOf_len (by omega)]; omega : (Da.dtOf W fs).length ≤ 1000) (by decide)), ?_⟩
                  have hD' : SqT K HD f2 ((q ++ [put]).map V.int) := by rw [List.map_append]; exact hD
                  have SE := SD.let' N O.nd hu hldD hD'
                  refine ⟨_, _, rfl, (gB.trans gBD).mut N.ld (fun _ e => nomatch e), SE, by rw [List.length_set]; exact ll2, fun z u2 q2 q02 hz hq2 hq02 => ?_⟩
                  by_cases cz : j = z
                  · subst cz
                    rw [hu] at hz
                    cases hz
                    rw [List.getElem?_set_self (by omega)] at hq2
                    rw [hq0] at hq02
                    cases hq02
                    rw [if_pos ⟨Nat.lt_succ_self _, e0⟩, ← eq]
                    exact (Option.some.inj hq2).symm
                  · rw [List.getElem?_set_ne cz] at hq2
                    rw [rl z u2 q2 q02 hz hq2 hq02]
                    by_cases c1 : z < j
                    · have c2 : z < j + 1 := by omega
                      simp only [c1, c2]
                    · have c2 : ¬ z < j + 1 := by omega
                      simp only [c1, c2]
                · walk_at "ws"
                  refine ⟨_, lt2, rfl, gB, SB, ll2, fun z u2 q2 q02 hz hq2 hq02 => ?_⟩
                  rw [rl z u2 q2 q02 hz hq2 hq02]
                  by_cases cz : j = z
                  · subst cz
                    rw [hu] at hz
                    cases hz
                    have e0 : ¬ u.1 = (xn : Int) := of_decide_eq_false e
                    rw [if_neg (fun c => e0 c.2), if_neg (fun c => e0 c.2)]
                  · by_cases c1 : z < j
                    · have c2 : z < j + 1 := by omega
                      simp only [c1, c2]
                    · have c2 : ¬ z < j + 1 := by omega
                      simp only [c1, c2]
              · rintro σ HB ⟨u5, lt2, rfl, gB, SB, ll2, rl⟩
                have st : Sent W (xn : Int) put lt lt2 := ⟨ll2, fun z u q q0 hz hq hq0 => by
                  rw [rl z u q q0 hz hq hq0]
                  have zl' := (List.getElem?_eq_some_iff.mp hz).1
                  have lbb : z < (bs.map V.ref).length := by rw [List.length_map, lb]; exact zl'
                  by_cases c : u.1 = (xn : Int)
                  · rw [if_pos ⟨lbb, c⟩, if_pos c]
                  · rw [if_neg (fun k => c k.2), if_neg c]⟩
                have relW := RelL.wr rel1 hdx c st
                have dnW : (LS.wr s1 (xn : Int) put).done = s1.done := wr_done
                walk_at "ws"
                exact ⟨_, _, _, _, _, _, _, _, rfl, ⟨gB, _, lt2, by rw [dnW]; exact SB, relW, by rw [List.length_set]; omega, mem_set_le (fun d hd => Nat.le_succ_of_le (bd d hd)) (by rw [List.length_append, List.length_singleton]; omega), st.mem (by omega) bl, by rw [dnW]; exact zdn1⟩, eg2⟩
      · rintro σ H6 ⟨u5, u8, u9, u10, u11, u12, u13, s', rfl, P6, eg⟩
        rw [ll, List.drop_length] at eg
        rw [ll] at P6
        refine kN1 _ _ ?_
        exact ⟨_, _, _, _, _, _, _, s', rfl, P6, eg⟩
    · refine ⟨sp, rfl, .inr ⟨⟨_, sqT_t g05.tups hqH⟩, ?_⟩⟩
      refine for_it (walk_enumT (xs := xs)) (fun i σ H' => ∃ (u5 u8 u9 u10 u11 u12 u13 : Option V) (s' : LS), σ = [some (.int (m : Int)), some (.ref wa), some (.ref vp), some (.ref sp), some (.ref A.dl), u5, some (.ref A.ld), some (.ref A.dn), u8, u9, u10, u11, u12, u13] ∧ BehT K (m : Int) W A H H' s' i ∧ goT (m : Int) W ws ls0 ts 0 = goT (m : Int) W ws s' (ts.drop i) i) ⟨_, _, _, _, _, _, _, ls0, rfl, T5, rfl⟩ (fun i σ H' _ ⟨_, _, _, _, _, _, _, _, _, q, _⟩ => sqT_t q.g.tups hqH) ?_ ?_
      · rintro i v σ H6 H7 hi ⟨u5, u8, u9, u10, u11, u12, u13, s', rfl, P6, eg⟩ ⟨t, y, z, rfl, ht, rfl, ey, ez⟩
        cases Option.some.inj ey
        have ez : xs[i]? = some z := ez
        obtain ⟨tg, htg, haz⟩ := alH.get ez
        have g7 : G none H6 (upd H6 t (.tup [.int (i : Nat), z])) := G.alloc ht
        refine ⟨t, _, rfl, SqT.of upd_same, rfl, ?_⟩
        refine ⟨_, _, rfl, ?_⟩
        walk_at "ws"
        refine ⟨_, _, rfl, ?_⟩
        walk_at "ws"
        refine ⟨rfl, ?_⟩
        generalize upd H6 t (.tup [.int (i : Nat), z]) = H7 at g7 ⊢
        obtain ⟨gP, ds, lt, S6, rel, ld6, bd, bl, zdn⟩ := P6
        have il : i < ts.length := by omega
        have ed : ts.drop i = tg :: ts.drop (i + 1) := by
          rw [List.drop_eq_getElem_cons il]
          congr 1
          exact (List.getElem?_eq_some_iff.mp htg).2
        rw [ed] at eg
        have eg2 : goT (m : Int) W ws ls0 ts 0 = (match stepT (m : Int) W ws s' tg with | none => Sum.inl i | some s' => goT (m : Int) W ws s' (ts.drop (i + 1)) (i + 1)) := eg
        have g07 := gP.trans g7
        have S7 := S6.n g7
        have haz7 : Ab a.c_Web hd H7 z tg := haz.n g07
        walk_at "ws"
        refine ⟨vp, _, rfl, .inr (sqT_t g07.tups hv), ?_⟩
        walk_at "ws"
        rw [List.length_map]
        refine ⟨(m : Int), (ws.length : Int), hd, z, tg, rfl, haz7, fun H8 g8 => ?_⟩
        have g08 := g07.trans g8
        have S8 := S7.n g8
        have haz8 := haz7.n g8
        walk_at "wn"
        cases eS : isS (m : Int) (ws.length : Int) tg with
        | false =>
          refine w_iteE rfl ?_
          walk_at "ws"
          have es : stepT (m : Int) W ws s' tg = none := by
            unfold stepT
            unfold isS at eS
            rw [Option.isSome_eq_false_iff] at eS
            rw [Option.isNone_iff_eq_none.mp eS]
            rfl
          rw [es] at eg2
          have k := k H8 g08
          rw [eg2] at k
          exact k.1 _ rfl
        | true =>
          refine w_iteN rfl ?_
          walk_at "wn"
          dsimp only
          refine w_seqM (fun σ H' => ∃ (u5 : Option V) (s1 : LS) (put : Int) (xn : Nat) (ds lt : List (List Int)), σ = [some (.int (m : Int)), some (.ref wa), some (.ref vp), some (.ref sp), some (.ref A.dl), u5, some (.ref A.ld), some (.ref A.dn), some (.int (i : Nat)), some z, some (.int put), some (.int (xn : Int)), u12, u13] ∧ G none H H' ∧ BehS K W A H' ds lt s1.done ∧ RelL W s1 ds lt ∧ ds.length = m ∧ xn < m ∧ (∀ d ∈ ds, d.length ≤ i) ∧ (∀ l ∈ lt, l.length ≤ i) ∧ s1.done.length ≤ i + 1 ∧ stepT (m : Int) W ws s' tg = some (LS.wr s1 (xn : Int) put)) (fun N2 kN2 => ?_) ?_
          · rcases isS_inv eS with ⟨p, rfl, p0, p1⟩ | ⟨y, x, rfl, rg⟩
            · obtain ⟨za, rfl, rz⟩ := ab_two haz8
              have pl : p.toNat < ws.length := by omega
              obtain ⟨x, hx⟩ : ∃ x, ws[p.toNat]? = some x := ⟨_, List.getElem?_eq_getElem pl⟩
              have xr := O.wr x (List.mem_of_getElem? hx)
              obtain ⟨xn, rfl⟩ : ∃ xn : Nat, x = (xn : Int) := ⟨x.toNat, by omega⟩
              have ks : stepT (m : Int) W ws s' (.tup [.str "put", .int p]) = if p ∈ s'.done then none else some (LS.wr ⟨s'.cur, s'.lt, s'.done ++ [p]⟩ (xn : Int) p) := by
                unfold stepT
                rw [toStp_put ⟨p0, p1⟩]
                show (if p ∈ s'.done then none else match ws[p.toNat]? with | some x => some (LS.wr ⟨s'.cur, s'.lt, s'.done ++ [p]⟩ x p) | none => none) = _
                rw [hx]
              walk_at "ws"
              refine r_ixT (.inl rz) (v := .str "put") rfl ?_
              walk_at "ws"
              refine ⟨rfl, ?_⟩
              walk_at "ws"
              refine w_iteE (decide_eq_true rfl) ?_
              walk_at "ws"
              refine r_ixT (.inl rz) (v := .int p) rfl ?_
              walk_at "ws"
              refine ⟨A.dn, _, rfl, .inl (SqL.of S8.dn), rfl, by rw [List.all_map, List.all_eq_true]; intro q _; rfl, ?_⟩
              rw [Da.inV_ints]
              by_cases c : p ∈ s'.done
              · rw [decide_eq_true c]
                walk_at "ws"
                refine w_iteE rfl ?_
                walk_at "ws"
                rw [ks, if_pos c] at eg2
                have k := k H8 g08
                rw [eg2] at k
                exact k.1 _ rfl
              · rw [decide_eq_false c]
                rw [if_neg c] at ks
                walk_at "ws"
                refine w_iteN rfl ?_
                walk_at "ws"
                refine i_BM S8.dn ?_
                walk_at "ws"
                refine r_ixT (.inl rz) (v := .int p) rfl ?_
                walk_at "ws"
                refine r_app S8.dn (by rw [List.length_map]; omega) ?_
                have S9 : BehS K W A (upd H8 A.dn (.lst (s'.done.map V.int ++ [.int p]))) ds lt (s'.done ++ [p]) := by
                  have z := S8.done' N (s'.done ++ [p])
                  rw [List.map_append] at z
                  exact z
                have g09 : G none H (upd H8 A.dn (.lst (s'.done.map V.int ++ [.int p]))) := g08.mut N.dn (fun _ e => nomatch e)
                have rz9 : Rd (upd H8 A.dn (.lst (s'.done.map V.int ++ [.int p]))) za (.tup [.str "put", .int p]) := Ts.updl S8.dn _ _ rz
                generalize upd H8 A.dn (.lst (s'.done.map V.int ++ [.int p])) = H9 at S9 g09 rz9 ⊢
                dsimp only
                refine w_par ?_
                walk_at "ws"
                refine r_ixT (.inl rz9) (v := .int p) rfl ?_
                walk_at "ws"
                refine r_ixT (.inl rz9) (v := .int p) rfl ?_
                walk_at "ws"
                refine r_ixT (sqT_t g09.tups hv) (v := .int (xn : Int)) (at_of (j := p.toNat) (by omega) (by rw [List.getElem?_map, hx]; rfl)) ?_
                walk_at "ws"
                refine ⟨_, _, rfl, ?_⟩
                refine kN2 _ _ ⟨_, ⟨s'.cur, s'.lt, s'.done ++ [p]⟩, p, xn, ds, lt, rfl, g09, S9, ⟨rel.1, rel.2⟩, by omega, by omega, bd, bl, by rw [List.length_append, List.length_singleton]; omega, ks⟩
            · obtain ⟨za, rfl, rz⟩ := ab_three haz8
              have ks : stepT (m : Int) W ws s' (.tup [.str "come", .int y, .int x]) = led1 W ws s' (.come y x) := by unfold stepT; rw [toStp_come rg]; rfl
              have nwh : ¬ (HT.sIx 3 0 (some 1) = 0 ∧ HT.sIx 3 3 none = 3) := by decide
              have dW : Dp K H8 (.ref wa) (dW W) := .tup (sqT_t g08.tups hwa) (Da.tupAll_dp (p := wa) (tup.g g08 (fun _ e => nomatch e)))
              walk_at "ws"
              refine r_ixT (.inl rz) (v := .str "come") rfl ?_
              walk_at "ws"
              refine ⟨rfl, ?_⟩
              walk_at "ws"
              refine w_iteN (by show decide (V.str "come" = V.str "put") = false; decide +kernel) ?_
              walk_at "ws"
              refine ⟨za, _, rfl, .inl rz, nwh, fun t1 ht1 => ?_⟩
              rw [cut3]
              have g9 : G none H8 (upd H8 t1 (.tup [.int y, .int x])) := G.alloc ht1
              have h9 : upd H8 t1 (.tup [.int y, .int x]) t1 = some (.tup [.int y, .int x]) := upd_same
              generalize upd H8 t1 (.tup [.int y, .int x]) = H9 at g9 h9 ⊢
              walk_at "ws"
              refine ⟨dP (y, x), W.map dP, dp_ofP (SqT.of h9), (dp_n g9).1 _ _ dW, sh_dP _, sh_dW _, ?_⟩
              rw [any_dP]
              have S9 := S8.n g9
              have g09 := g08.trans g9
              have rz9 := g9.tups _ _ rz
              walk_at "ws"
              by_cases hm : (y, x) ∈ W
              case neg =>
                refine w_iteE (by rw [decide_eq_false hm]; rfl) ?_
                walk_at "ws"
                have ko : led1 W ws s' (.come y x) = none := if_neg hm
                rw [ks, ko] at eg2
                have k := k H9 g09
                rw [eg2] at k
                exact k.1 _ rfl
              refine w_iteN (by rw [decide_eq_true hm]; rfl) ?_
              obtain ⟨j, hu⟩ := List.getElem?_of_mem hm
              obtain ⟨fs, hld, lfs, ltl, hfs⟩ := S9.ld
              have jw := (List.getElem?_eq_some_iff.mp hu).1
              obtain ⟨f, hf⟩ : ∃ f, fs[j]? = some f := ⟨_, List.getElem?_eq_getElem (by omega)⟩
              obtain ⟨q, hq⟩ : ∃ q, lt[j]? = some q := ⟨_, List.getElem?_eq_getElem (by omega)⟩
              have eq : s'.lt (y, x) = q := rel.2 j _ q hu hq
              have hl1 : led1 W ws s' (.come y x) = (match s'.lt (y, x) with | [] => none | p :: r => some (LS.wr ⟨s'.cur, fun u => if u = (y, x) then r else s'.lt u, s'.done⟩ x p)) := if_pos hm
              rw [eq] at hl1
              walk_at "ws"
              refine Da.w_dget ?_
              walk_at "ws"
              refine ⟨za, _, rfl, .inl rz9, nwh, fun t2 ht2 => ?_⟩
              rw [cut3]
              have gA : G none H9 (upd H9 t2 (.tup [.int y, .int x])) := G.alloc ht2
              have hA : upd H9 t2 (.tup [.int y, .int x]) t2 = some (.tup [.int y, .int x]) := upd_same
              generalize upd H9 t2 (.tup [.int y, .int x]) = HA at gA hA ⊢
              refine Da.i_dget (u := (y, x)) O.nd (gA.all _ _ hld) hA hu hf ?_
              walk_at "ws"
              refine ⟨sz (by simp), fun em HB hem gB hB => ?_⟩
              have gAB := gA.trans (gB none)
              refine ⟨dI q, dI [], dp_ofI (sqT_t gAB.tups (hfs j f q hf hq)), dp_ofI (SqT.of hB), sh_dI _, sh_dI _, ?_⟩
              rw [eqv_dI]
              have g0B := g09.trans gAB
              have SB := S9.n gAB
              have rzB := gAB.tups _ _ rz9
              have hldB := gAB.all _ _ hld
              have hfB := sqT_t gAB.tups (hfs j f q hf hq)
              walk_at "ws"
              cases q with
              | nil =>
                refine w_iteE (by simp) ?_
                walk_at "ws"
                rw [ks, hl1] at eg2
                have k := k HB g0B
                rw [eg2] at k
                exact k.1 _ rfl
              | cons p r =>
                refine w_iteN (by simp) ?_
                have hl1 : led1 W ws s' (.come y x) = some (LS.wr ⟨s'.cur, fun u => if u = (y, x) then r else s'.lt u, s'.done⟩ x p) := hl1
                rw [hl1] at ks
                obtain ⟨xn, rfl⟩ : ∃ xn : Nat, x = (xn : Int) := ⟨x.toNat, by omega⟩
                walk_at "ws"
                dsimp only
                refine w_par ?_
                walk_at "ws"
                refine Da.w_dget ?_
                walk_at "ws"
                refine ⟨za, _, rfl, .inl rzB, nwh, fun t3 ht3 => ?_⟩
                rw [cut3]
                have gC : G none HB (upd HB t3 (.tup [.int y, .int (xn : Int)])) := G.alloc ht3
                have hC : upd HB t3 (.tup [.int y, .int (xn : Int)]) t3 = some (.tup [.int y, .int (xn : Int)]) := upd_same
                generalize upd HB t3 (.tup [.int y, .int (xn : Int)]) = HC at gC hC ⊢
                refine Da.i_dget (u := (y, (xn : Int))) O.nd (gC.all _ _ hldB) hC hu hf ?_
                walk_at "ws"
                refine r_ixT (sqT_t gC.tups hfB) (v := .int p) (at_of (j := 0) (by omega) rfl) ?_
                walk_at "ws"
                refine r_ixT (.inl (gC.tups _ _ rzB)) (v := .int (xn : Int)) rfl ?_
                walk_at "ws"
                refine ⟨_, _, rfl, ?_⟩
                walk_at "ws"
                refine Da.w_dget ?_
                walk_at "ws"
                refine ⟨za, _, rfl, .inl (gC.tups _ _ rzB), nwh, fun t4 ht4 => ?_⟩
                rw [cut3]
                have gD : G none HC (upd HC t4 (.tup [.int y, .int (xn : Int)])) := G.alloc ht4
                have hD : upd HC t4 (.tup [.int y, .int (xn : Int)]) t4 = some (.tup [.int y, .int (xn : Int)]) := upd_same
                generalize upd HC t4 (.tup [.int y, .int (xn : Int)]) = HD at gD hD ⊢
                have gBD := gC.trans gD
                refine Da.i_dget (u := (y, (xn : Int))) O.nd (gBD.all _ _ hldB) hD hu hf ?_
                walk_at "ws"
                refine ⟨f, _, rfl, sqT_t gBD.tups hfB, fun f2 HE gE hE => ?_⟩
                rw [tail_cut] at hE
                walk_at "ws"
                have gBE := gBD.trans (gE none)
                refine ⟨za, _, rfl, .inl (gBE.tups _ _ rzB), nwh, fun t5 ht5 => ?_⟩
                rw [cut3]
                have gF : G none HE (upd HE t5 (.tup [.int y, .int (xn : Int)])) := G.alloc ht5
                have hF : upd HE t5 (.tup [.int y, .int (xn : Int)]) t5 = some (.tup [.int y, .int (xn : Int)]) := upd_same
                generalize upd HE t5 (.tup [.int y, .int (xn : Int)]) = HF at gF hF ⊢
                have gBF := gBE.trans gF
                have SF := SB.n gBF
                have hldF := gBF.all _ _ hldB
                have ldn := lfs
                refine ⟨A.ld, _, rfl, DPut.t (k := Da.keyOfP (y, (xn : Int))) hldF hF (Nat.lt_of_le_of_lt (by rw [dtOf_len (by omega)]; omega : (Da.dtOf W fs).length ≤ 1000) (by decide)), ?_⟩
                have SG := SF.let' N O.nd hu hldF (sqT_t gF.tups hE)
                refine kN2 _ _ ⟨_, ⟨s'.cur, fun u => if u = (y, (xn : Int)) then r else s'.lt u, s'.done⟩, p, xn, ds, _, rfl, (g0B.trans gBF).mut N.ld (fun _ e => nomatch e), SG, ?_, by omega, by omega, bd, mem_set_le bl (by have := bl _ (List.mem_of_getElem? hq); simp at this; omega), Nat.le_succ_of_le zdn, ks⟩
                exact rel.take O.nd hu r s'.done (by omega)
          · rintro σ H9 ⟨u5, s1, put, xn, ds, lt, rfl, g09, S9, rel1, lds, xm, bd, bl, zdn1, ks⟩
            clear S8 S7 S6 haz8 haz7 rel
            obtain ⟨l, hl⟩ : ∃ l, A.rs[xn]? = some l := ⟨_, List.getElem?_eq_getElem (by have := S9.rs.1; omega)⟩
            obtain ⟨d, hdx⟩ : ∃ d, ds[xn]? = some d := ⟨_, List.getElem?_eq_getElem (by omega)⟩
            have hdl := S9.rs.2 xn l d hl hdx
            have zd := bd d (List.mem_of_getElem? hdx)
            rw [ks] at eg2
            walk_at "ws"
            refine r_ixL (SqL.of S9.dl) (v := .ref l) (at_of (j := xn) (by omega) (by rw [List.getElem?_map, hl]; rfl)) ?_
            refine ⟨l, _, rfl, .inl (SqL.of hdl), rfl, by rw [List.all_map, List.all_eq_true]; intro q _; rfl, ?_⟩
            dsimp only
            rw [Da.inV_ints]
            by_cases c : put ∈ d
            · rw [decide_eq_true c]
              walk_at "ws"
              refine w_iteN rfl ?_
              walk_at "ws"
              have ew := RelL.had rel1 hdx c
              rw [ew] at eg2
              exact ⟨_, _, _, _, _, _, _, s1, rfl, ⟨g09, ds, lt, S9, rel1, by omega, fun d hd => Nat.le_succ_of_le (bd d hd), fun d hd => Nat.le_succ_of_le (bl d hd), zdn1⟩, eg2⟩
            · rw [decide_eq_false c]
              walk_at "ws"
              refine w_iteE rfl ?_
              walk_at "ws"
              refine r_ixL (SqL.of S9.dl) (v := .ref l) (at_of (j := xn) (by omega) (by rw [List.getElem?_map, hl]; rfl)) ?_
              refine i_BM hdl ?_
              walk_at "ws"
              refine r_app hdl (by rw [List.length_map]; omega) ?_
              have SA : BehS K W A (upd H9 l (.lst (d.map V.int ++ [.int put]))) (ds.set xn (d ++ [put])) lt s1.done := by
                have z := S9.dia' N hl hdl (d ++ [put])
                rw [List.map_append] at z
                exact z
              have gA : G none H (upd H9 l (.lst (d.map V.int ++ [.int put]))) := g09.mut (N.rs l (List.mem_of_getElem? hl)) (fun _ e => nomatch e)
              generalize upd H9 l (.lst (d.map V.int ++ [.int put])) = HA at SA gA ⊢
              have ltW : lt.length = W.length := SA.ld.choose_spec.2.2.1
              walk_at "ws"
              refine i_tup (sqT_t gA.tups hwa) ?_
              refine for_it (walk_tup (xs := bs.map V.ref)) (fun j σ H' => ∃ (u5 : Option V) (lt2 : List (List Int)), σ = [some (.int (m : Int)), some (.ref wa), some (.ref vp), some (.ref sp), some (.ref A.dl), u5, some (.ref A.ld), some (.ref A.dn), some (.int (i : Nat)), some z, some (.int put), some (.int (xn : Int)), u12, u13] ∧ G none H H' ∧ BehS K W A H' (ds.set xn (d ++ [put])) lt2 s1.done ∧ lt2.length = lt.length ∧
                ∀ (z : Nat) u q q0, W[z]? = some u → lt2[z]? = some q → lt[z]? = some q0 → q = if z < j ∧ u.1 = (xn : Int) then q0 ++ [put] else q0) ⟨_, lt, rfl, gA, SA, rfl, fun z u q q0 _ e1 e2 => by rw [if_neg (fun c => absurd c.1 (Nat.not_lt_zero z))]; rw [e1] at e2; exact Option.some.inj e2⟩ (fun _ _ _ _ ⟨_, _, _, q, _⟩ => sqT_t q.tups hwa) ?_ ?_
              · rintro j v σ _ HB hj ⟨u5, lt2, rfl, gB, SB, ll2, rl⟩ ⟨rfl, hvB⟩
                rw [List.length_map] at hj
                rw [List.getElem?_map] at hvB
                obtain ⟨b, hb, rfl⟩ := Option.map_eq_some_iff.mp hvB
                obtain ⟨u, hu⟩ : ∃ u, W[j]? = some u := ⟨_, List.getElem?_eq_getElem (by omega)⟩
                have htb := (tup.g gB (fun _ e => nomatch e)).2 j b u hb hu
                obtain ⟨fs, hld, lfs, ltl, hfs⟩ := SB.ld
                obtain ⟨f, hf⟩ : ∃ f, fs[j]? = some f := ⟨_, List.getElem?_eq_getElem (by omega)⟩
                obtain ⟨q, hq⟩ : ∃ q, lt2[j]? = some q := ⟨_, List.getElem?_eq_getElem (by omega)⟩
                obtain ⟨q0, hq0⟩ : ∃ q0, lt[j]? = some q0 := ⟨_, List.getElem?_eq_getElem (by omega)⟩
                have eq : q = q0 := by
                  have e := rl j u q q0 hu hq hq0
                  rw [if_neg (fun c => Nat.lt_irrefl j c.1)] at e
                  exact e
                walk_at "ws"
                refine r_ixT (SqT.of htb) (v := .int u.1) (at_of (j := 0) (by omega) rfl) ?_
                walk_at "ws"
                refine w_ite (fun e => ?_) (fun e => ?_)
                · have e0 : u.1 = (xn : Int) := of_decide_eq_true e
                  walk_at "ws"
                  refine Da.w_dget ?_
                  walk_at "ws"
                  refine Da.i_dget O.nd hld htb hu hf ?_
                  walk_at "ws"
                  refine ⟨sz (by simp), fun tp HC htp gC hC => ?_⟩
                  have zq := bl q0 (List.mem_of_getElem? hq0)
                  refine ⟨f, tp, _, _, rfl, rfl, sqT_t (gC none).tups (hfs j f q hf hq), SqT.of hC, by rw [List.length_map, eq]; simp; omega, fun f2 HD gD hD => ?_⟩
                  have gBD := (gC none).trans (gD none)
                  have SD := SB.n gBD
                  have hldD := gBD.all _ _ hld
                  walk_at "ws"
                  refine ⟨A.ld, _, rfl, DPut.t (k := Da.keyOfP u) hldD (gBD.all _ _ htb) (Nat.lt_of_le_of_lt (by rw [dtOf_len (by omega)]; omega : (Da.dtOf W fs).length ≤ 1000) (by decide)), ?_⟩
                  have hD' : SqT K HD f2 ((q ++ [put]).map V.int) := by rw [List.map_append]; exact hD
                  have SE := SD.let' N O.nd hu hldD hD'
                  refine ⟨_, _, rfl, (gB.trans gBD).mut N.ld (fun _ e => nomatch e), SE, by rw [List.length_set]; exact ll2, fun z u2 q2 q02 hz hq2 hq02 => ?_⟩
                  by_cases cz : j = z
                  · subst cz
                    rw [hu] at hz
                    cases hz
                    rw [List.getElem?_set_self (by omega)] at hq2
                    rw [hq0] at hq02
                    cases hq02
                    rw [if_pos ⟨Nat.lt_succ_self _, e0⟩, ← eq]
                    exact (Option.some.inj hq2).symm
                  · rw [List.getElem?_set_ne cz] at hq2
                    rw [rl z u2 q2 q02 hz hq2 hq02]
                    by_cases c1 : z < j
                    · have c2 : z < j + 1 := by omega
                      simp only [c1, c2]
                    · have c2 : ¬ z < j + 1 := by omega
                      simp only [c1, c2]
                · walk_at "ws"
                  refine ⟨_, lt2, rfl, gB, SB, ll2, fun z u2 q2 q02 hz hq2 hq02 => ?_⟩
                  rw [rl z u2 q2 q02 hz hq2 hq02]
                  by_cases cz : j = z
                  · subst cz
                    rw [hu] at hz
                    cases hz
                    have e0 : ¬ u.1 = (xn : Int) := of_decide_eq_false e
                    rw [if_neg (fun c => e0 c.2), if_neg (fun c => e0 c.2)]
                  · by_cases c1 : z < j
                    · have c2 : z < j + 1 := by omega
                      simp only [c1, c2]
                    · have c2 : ¬ z < j + 1 := by omega
                      simp only [c1, c2]
              · rintro σ HB ⟨u5, lt2, rfl, gB, SB, ll2, rl⟩
                have st : Sent W (xn : Int) put lt lt2 := ⟨ll2, fun z u q q0 hz hq hq0 => by
                  rw [rl z u q q0 hz hq hq0]
                  have zl' := (List.getElem?_eq_some_iff.mp hz).1
                  have lbb : z < (bs.map V.ref).length := by rw [List.length_map, lb]; exact zl'
                  by_cases c : u.1 = (xn : Int)
                  · rw [if_pos ⟨lbb, c⟩, if_pos c]
                  · rw [if_neg (fun k => c k.2), if_neg c]⟩
                have relW := RelL.wr rel1 hdx c st
                have dnW : (LS.wr s1 (xn : Int) put).done = s1.done := wr_done
                walk_at "ws"
                exact ⟨_, _, _, _, _, _, _, _, rfl, ⟨gB, _, lt2, by rw [dnW]; exact SB, relW, by rw [List.length_set]; omega, mem_set_le (fun d hd => Nat.le_succ_of_le (bd d hd)) (by rw [List.length_append, List.length_singleton]; omega), st.mem (by omega) bl, by rw [dnW]; exact zdn1⟩, eg2⟩
      · rintro σ H6 ⟨u5, u8, u9, u10, u11, u12, u13, s', rfl, P6, eg⟩
        rw [ll, List.drop_length] at eg
        rw [ll] at P6
        refine kN1 _ _ ?_
        exact ⟨_, _, _, _, _, _, _, s', rfl, P6, eg⟩
  · rintro σ H6 ⟨u5, u8, u9, u10, u11, u12, u13, s', rfl, P6, eg⟩
    rw [eg] at k
    obtain ⟨g6, ds, lt, S6, rel, ld6, bd, bl, zdn⟩ := P6
    have e1 : ds = dsS m s' := rel_ds rel (by omega)
    have lt6 : lt.length = W.length := S6.ld.choose_spec.2.2.1
    have e2 : lt = W.map s'.lt := rel_lt rel lt6
    subst e1 e2
    have lrs := S6.rs.1
    walk_at "ws"
    refine i_list (SqL.of S6.dl) ?_
    intro D hD
    refine lc_it (walk_list (xs := A.rs.map V.ref)) (fun i H' => ∃ fs : List Addr, G none H6 H' ∧ H' D = some (.lst (fs.map V.ref)) ∧ fs.length = i ∧ ∀ (j : Nat) (f : Addr) (d : List Int), fs[j]? = some f → (dsS m s')[j]? = some d → FrzT H' f (d.map V.int)) ⟨[], (G.refl).mut hD (fun _ e => nomatch e), upd_same, rfl, fun j f d e => by simp at e⟩ (fun i H' _ ⟨_, q, _⟩ => SqL.of (q.all _ _ S6.dl)) ?_ ?_
    · rintro i v _ H7 hi ⟨fs, g7, h7, lf, hfs⟩ ⟨rfl, hv7⟩
      rw [List.length_map] at hi
      rw [List.getElem?_map] at hv7
      obtain ⟨l, hl, rfl⟩ := Option.map_eq_some_iff.mp hv7
      obtain ⟨d, hd⟩ : ∃ d, (dsS m s')[i]? = some d := ⟨_, List.getElem?_eq_getElem (by omega)⟩
      have hld := g7.all _ _ (S6.rs.2 i l d hl hd)
      walk_at "ws"
      refine ⟨rfl, ?_⟩
      walk_at "ws"
      refine ⟨l, _, rfl, SqL.of hld, fun f H8 hf g8 h8 => ?_⟩
      refine ⟨fs.map V.ref, (g8 none).all _ _ h7, Nat.lt_of_le_of_lt (by rw [List.length_map]; omega : (fs.map V.ref).length ≤ 100000) (by decide), fs ++ [f], (g7.trans (g8 none)).mut hD (fun _ e => nomatch e), by rw [upd_same, List.map_append]; rfl, by rw [List.length_append, lf]; rfl, fun j f' d' e1 e2 => ?_⟩
      have fin : FrzT H8 f' (d'.map V.int) := by
        by_cases cj : j < i
        · rw [List.getElem?_append_left (by omega)] at e1
          exact (hfs j f' d' e1 e2).n (g8 none)
        · have ej : j = i := by
            have := (List.getElem?_eq_some_iff.mp e1).1
            rw [List.length_append, lf, List.length_singleton] at this
            omega
          subst ej
          rw [List.getElem?_append_right (by omega), lf, Nat.sub_self] at e1
          rw [hd] at e2
          cases e1; cases e2
          exact h8
      exact Da.FrzT.put fin ((g8 none).all _ _ h7)
    rintro H7 ⟨fs, g7, h7, lf, hfs⟩
    rw [List.length_map] at lf
    walk_at "ws"
    refine ⟨D, _, rfl, .inl ⟨SqL.of h7, fun dp H8 hdp g8 h8 => ?_⟩⟩
    walk_at "ws"
    refine ⟨sz (by simp), fun p H9 hp g9 h9 => ?_⟩
    have g68 := g7.trans (g8 none)
    have g69 := g68.trans (g9 none)
    exact (k H9 (g6.trans g69)).2 s' rfl p dp A.ld h9 ⟨fs, sqT_t (g9 none).tups (SqT.of h8), by rw [lf]; exact lrs, fun j f d e1 e2 => ((hfs j f d e1 e2).n (g8 none)).n (g9 none)⟩ (S6.ld.n g69) N.ld (back_none (g6.trans g68) hp)

end
end Mine
/-! ## K27 -/


namespace Mine
section
variable {P : Program} {w : World} {K : PySem.W.Frag} {mg : Str → Option Value} {base : Heap} {a : Ads}

/-! ### _law_told -/
theorem w_callSD {sp : Sp} {dvs : List V} {E : L2.St → XK} {t : TA} {σ : L2.St} {H : Hp} {Q : VK} (q : t σ H fun vs H1 => sp (vs ++ dvs) H1 Q (E σ)) : tCallSD sp dvs E t σ H Q := q
def sp__law_told (K : PySem.W.Frag) (D : Addr) : Sp := fun vs H Q _ => ∃ (hd web : Addr) (n : Int) (bs : List Addr) (W : List (Int × Int)) (vp : Addr) (ws : List Int) (v : V) (o : Option (List Tg)), vs = [.ref web, .ref vp, v] ∧ WebB K D H web n bs W ∧ 1 ≤ n ∧ WW n W ws ∧ SqT K H vp (ws.map V.int) ∧ Stf K D hd H v o ∧
  ∀ H', G none H H' → (∀ i, outT n W ws o = .inl i → Q (.int i) H') ∧ (∀ s', outT n W ws o = .inr s' → ∀ p dp lp : Addr, H' p = some (.tup [.ref dp, .ref lp]) → Da.Dia K H' dp (dsS n.toNat s') → LetD H' lp W (W.map s'.lt) → H lp = none → H p = none → Q (.ref p) H')
theorem ok__law_told (T : Txt K mg a) : FnOk P w K mg base CX0 10 a.f__law_told a.d__law_told P__law_told (sp__law_told K a.c_Web) := by
  refine T.F__law_told.ok sc__law_told (fun vs H Q E h => by obtain ⟨hd, web, n, bs, W, vp, ws, v, o, rfl, _⟩ := h; rfl) (fun cdv A outer s H vs Q E hr h => ?_)
  obtain ⟨hd, web, n, bs, W, vp, ws, v, o, rfl, hw, n1, O, hv, hs, k⟩ := h
  have G_led : FnOk P w K mg base (L2.CX P w) 9 a.f_led a.d_led P_led (sp_led K a.c_Web a.c_BadStep) := ok_led T
  refine ⟨_, (pss_cons (ps_set (i := 3) sc__law_told.nd rfl (Or.inl rfl) pe_str)
  (pss_cons (ps_try_as (i := 4) (tb := fun W => tAsg (tCallSD (sp_led K a.c_Web a.c_BadStep) [] (WE W) (tCons (tVar 0) (tCons (tVar 1) (tCons (tVar 2) tNil)))) (gName 3)) (Wout := fun _ _ _ _ => False) rfl rfl sc__law_told.nd rfl rfl ⟨rfl, by decide, Or.inl T.m_GrowError⟩ takes0 (fun W pn xe tk _ => (pss_one (ps_set (i := 3) sc__law_told.nd rfl (Or.inl rfl) (pe_callSD G_led (hr.mono (by omega)) rfl T.m_led T.F_led.kp T.b_led .nil (fun σ => passAt tk σ) (pa_cons (pv 0) (pa_cons (pv 1) (pa_cons (pv 2) pa_nil))))))) (fun x oe cls d pn hz hf => (pss_one (ps_if (L2.PW.pt (pw_and (pt_val (pe_callB (call_isX' T.xc hz hf) (by rfl) T.n_isinstance (by decide +kernel) (pa_cons (pv 4) (pa_cons (pe_glob (v := .ref a.c_BadStep) rfl T.m_BadStep rfl) pa_nil)))) (pw_and1 (pt_val (pe_callB (call_isX' T.xc hz hf) (by rfl) T.n_isinstance (by decide +kernel) (pa_cons (pv 4) (pa_cons (pe_bltn (v := .ty "ValueError") (u := .type "ValueError") rfl T.n_ValueError (by decide +kernel) rfl) pa_nil))))))) (pss_one (ps_set (i := 3) sc__law_told.nd rfl (Or.inl rfl) (pe_xf T.xf T.xp hz hf (pv 4)))) pss_nil))))
  (pss_one (ps_ret (pv 3))))), ?_⟩
  walk_at "ws"
  dsimp only
  walk_at "ws"
  refine w_callSD ?_
  walk_at "ws"
  refine ⟨hd, web, n, bs, W, vp, ws, v, o, rfl, hw, n1, O, hv, hs, fun s' es p dp lp H1 g1 hp hdp hlp n1 n2 => ?_, fun i ei d H1 g1 h1 => ?_⟩
  · walk_at "ws"
    exact (k H1 g1).2 s' es p dp lp hp hdp hlp n1 n2
  · refine ⟨true, T.xm, fun _ x0 hx0 => ?_, fun q => Bool.noConfusion q⟩
    walk_at "ws"
    refine ⟨rfl, _, _, true, d, _, rfl, .own _, rfl, h1, T.xs, ?_⟩
    walk_at "ws"
    refine ⟨rfl, _, _, true, d, _, rfl, .ty _, rfl, h1, T.xv, ?_⟩
    walk_at "ws"
    refine w_xf ?_
    walk_at "ws"
    refine ⟨rfl, rfl, d, _, .int i, rfl, h1, lk_hit, ?_⟩
    walk_at "ws"
    exact (k H1 g1).1 i ei

end
end Mine
/-! ## K9 -/


namespace Mine
section
variable {P : Program} {w : World} {K : PySem.W.Frag} {mg : Str → Option Value} {base : Heap} {a : Ads}

theorem at_ab {C hd : Addr} {H : Hp} {xs : List V} {ts : List Tg} {r : Int} (h : AbAll C hd H xs ts) (r0 : 0 ≤ r) (r1 : r < xs.length) : ∃ v t, atI xs r = some v ∧ t ∈ ts ∧ Ab C hd H v t := by
  have l : r.toNat < xs.length := by omega
  obtain ⟨t, hm, ht⟩ := h.get (List.getElem?_eq_getElem l)
  exact ⟨_, t, at_of (j := r.toNat) (by omega) (List.getElem?_eq_getElem l), List.mem_of_getElem? hm, ht⟩
theorem ab_ins {C hd x dx : Addr} {fs : List (Str × V)} {H : Hp} (n : x ≠ hd) (h : H x = some (.ins C dx fs)) : Ab C hd H (.ref x) .oth := .oth n (.inr (.inr ⟨dx, fs, h⟩))
theorem ab_lst {C hd x : Addr} {xs : List V} {H : Hp} (n : x ≠ hd) (h : H x = some (.lst xs)) : Ab C hd H (.ref x) .oth := .oth n (.inl ⟨xs, h⟩)
theorem ab_dK {C hd x : Addr} {xs : List (Key × V)} {H : Hp} (n : x ≠ hd) (h : H x = some (.dK xs)) : Ab C hd H (.ref x) .oth := .oth n (.inr (.inl ⟨xs, h⟩))
/-! ### _law_deep -/
theorem w_dnew {o : Option (Addr × Addr)} {σ : L2.St} {H : Hp} {Q : VK} (q : ∀ p H1, H p = none → (∀ o, G o H H1) → H1 p = some (.dK []) → Q (.ref p) H1) : tDNewK σ H Q := fun p hp => q p _ hp (fun _ => G.alloc hp) upd_same
theorem w_disp1 {σ : L2.St} {H : Hp} {Q : VK} {k : Int} {i : Nat} {v : V} (e : σ[i]? = some (some v)) (q : ∀ p kvs H1, H p = none → (∀ o, G o H H1) → H1 p = some (.dK kvs) → Q (.ref p) H1) : tDisp [(tC (.int k), tVar i)] σ H Q := fun p hp =>
  ⟨v, e, upd_same, [(Sum.inl k, v)], rfl, by simp, q p _ _ hp (fun _ => G.of_all fun b u z => by rw [upd_ne (ne_of_none z hp), upd_ne (ne_of_none z hp)]; exact z) upd_same⟩
def sp__law_deep (C : Addr) : Sp := fun vs H Q _ => ∃ (hd c : Addr), vs = [.ref hd] ∧ Hand H hd c ∧ ∀ (v : V) (t : Tg) H', G (some (hd, c)) H H' → Hand H' hd c → Ab C hd H' v t → isT "str" t = false → Q v H'
theorem ok__law_deep (T : Txt K mg a) : FnOk P w K mg base CX0 2 a.f__law_deep a.d__law_deep P__law_deep (sp__law_deep a.c_Web) := by
  refine T.F__law_deep.ok sc__law_deep (fun vs H Q E h => by obtain ⟨hd, c, rfl, _⟩ := h; rfl) (fun cdv A outer s H vs Q E hr h => ?_)
  obtain ⟨hd, c, rfl, hh, k⟩ := h
  have G__law_draw : FnOk P w K mg base CX0 1 a.f__law_draw a.d__law_draw P__law_draw sp__law_draw := ok__law_draw T
  refine ⟨_, (pss_cons (ps_set (i := 1) sc__law_deep.nd rfl (Or.inl rfl) (pe_ix ix_list (pe_lstN (pa_cons pe_non (pa_cons pe_str (pa_cons (pe_un un_neg pe_int) (pa_cons pe_dnewK pa_nil))))) (pe_call (G__law_draw) (hr.mono (by omega)) rfl T.m__law_draw T.F__law_draw.kp T.b__law_draw .nil pass0 (pa_cons (pv 0) (pa_cons pe_int pa_nil))) (fun _ _ => rfl)))
  (pss_cons (ps_for PassesOwn.never rfl (pi_range1 rfl T.n_range (pa_cons (pe_op op_add pe_int (pe_call (G__law_draw) (hr.mono (by omega)) rfl T.m__law_draw T.F__law_draw.kp T.b__law_draw .nil pass0 (pa_cons (pv 0) (pa_cons pe_int pa_nil)))) pa_nil)) (pg_name (i := 2) sc__law_deep.nd rfl (Or.inl rfl))
    (pss_one (ps_set (i := 1) sc__law_deep.nd rfl (Or.inl rfl) (pe_ix ix_list (pe_lstN (pa_cons (pe_tupN (pa_cons (pv 1) pa_nil)) (pa_cons (pe_lstN (pa_cons (pv 1) pa_nil)) (pa_cons (pe_slice sl_tupR (pe_tupN (pa_cons (pv 1) (pa_cons (pv 1) pa_nil))) po_none (po_some pe_int)) (pa_cons (pe_disp (pps_cons pe_int (pv 1) pps_nil) rfl rfl (by simp) (by decide)) pa_nil))))) (pe_call (G__law_draw) (hr.mono (by omega)) rfl T.m__law_draw T.F__law_draw.kp T.b__law_draw .nil pass0 (pa_cons (pv 0) (pa_cons pe_int pa_nil))) (fun _ _ => rfl)))))
  (pss_one (ps_ret (pv 1))))), ?_⟩
  walk_at "ws"
  refine w_dnew (o := none) fun p H1 hp g1 h1 => ?_
  walk_at "ws"
  refine ⟨sz (by simp), fun l H2 hl g2 h2 => ?_⟩
  have g02 := (g1 none).trans (g2 none)
  have hh2 := g02.up.hand (hd, c) rfl hh
  walk_at "ws"
  refine ⟨hd, c, 4, rfl, hh2, by decide, by decide, fun r H3 r0 r1 g3 hh3 => ?_⟩
  have g03 := g02.up.trans g3
  have npd : p ≠ hd := hh.ne hp
  have nld : l ≠ hd := ((g1 none).up.hand (hd, c) rfl hh).ne hl
  have h3l := g3.keep l _ (fun q e => by cases e; exact nld) h2
  have h3p := g3.keep p _ (fun q e => by cases e; exact npd) ((g2 none).all _ _ h1)
  have al : AbAll a.c_Web hd H3 [.non, .str "a", .int (-1), .ref p] [.non, .str "a", .int (-1), .oth] := .cons .non (.cons (.str _) (.cons (.int _) (.cons (ab_dK npd h3p) .nil)))
  obtain ⟨v0, t0, e0, m0, hv0⟩ := at_ab al r0 (by simpa using r1)
  refine r_ixL (SqL.of h3l) e0 ?_
  clear e0 m0 al h3l h3p h2 h1 hp hl g1 g2 g3 g02 hh2
  walk_at "ws"
  refine ⟨hd, c, 30, rfl, hh3, by decide, by decide, fun n H4 n0 n1 g4 hh4 => ?_⟩
  walk_at "ws"
  refine i_rng1 (by omega) (by omega) ?_
  refine for_it walk_range (fun i σ H' => G (some (hd, c)) H H' ∧ Hand H' hd c ∧ ∃ v t u, (0 < i → isT "str" t = false) ∧ Ab a.c_Web hd H' v t ∧ σ = [some (.ref hd), some v, u]) ⟨g03.trans g4, hh4, v0, t0, _, fun z => absurd z (Nat.lt_irrefl _), hv0.g g4 OH.s, rfl⟩ (fun _ _ _ _ _ => trivial) ?_ ?_
  · rintro i _ σ _ H5 hi ⟨g5, hh5, v, t, u, _, hv, rfl⟩ ⟨rfl, rfl⟩
    walk_at "ws"
    refine ⟨sz (by simp), fun p1 H6 hp1 g6 h6 => ?_⟩
    walk_at "ws"
    refine ⟨sz (by simp), fun p2 H7 hp2 g7 h7 => ?_⟩
    walk_at "ws"
    refine ⟨sz (by simp), fun p3 H8 hp3 g8 h8 => ?_⟩
    walk_at "ws"
    refine ⟨p3, _, rfl, .inl h8, fun p4 H9 g9 r9 => ?_⟩
    walk_at "ws"
    refine w_disp1 rfl fun p5 kvs HA hp5 gA hA => ?_
    walk_at "ws"
    refine ⟨sz (by simp), fun p6 HB hp6 gB hB => ?_⟩
    have q9B := (gA none).trans (gB none)
    have q8B := (g9 none).trans q9B
    have q7B := (g8 none).trans q8B
    have q6B := (g7 none).trans q7B
    have q5B := (g6 none).trans q6B
    have hhB := q5B.up.hand (hd, c) rfl hh5
    walk_at "ws"
    refine ⟨hd, c, 4, rfl, hhB, by decide, by decide, fun r HC r0 r1 gC hhC => ?_⟩
    have hvB := hv.n q5B
    have hhA := (((((g6 none).trans (g7 none)).trans (g8 none)).trans (g9 none)).trans (gA none)).up.hand (hd, c) rfl hh5
    have hh6 := (g6 none).up.hand (hd, c) rfl hh5
    have hh9 := ((((g6 none).trans (g7 none)).trans (g8 none)).trans (g9 none)).up.hand (hd, c) rfl hh5
    have n6 : p6 ≠ hd := hhA.ne hp6
    have n2 : p2 ≠ hd := hh6.ne hp2
    have n5 : p5 ≠ hd := hh9.ne hp5
    have al : AbAll a.c_Web hd HB [.ref p1, .ref p2, .ref p4, .ref p5] [.tup [t], .oth, .tup [t], .oth] :=
      .cons (.tup (.inl (q6B.all _ _ h6)) (.cons hvB .nil)) (.cons (ab_lst n2 (q7B.all _ _ h7)) (.cons (.tup (q9B.tups _ _ r9) (.cons hvB .nil)) (.cons (ab_dK n5 ((gB none).all _ _ hA)) .nil)))
    have hC6 := gC.keep p6 _ (fun q e => by cases e; exact n6) hB
    obtain ⟨v', t', e', m', hv'⟩ := at_ab (al.g gC OH.s) r0 (by simpa using r1)
    refine r_ixL (SqL.of hC6) e' ?_
    have ns : isT "str" t' = false := by
      simp only [List.mem_cons, List.not_mem_nil, or_false] at m'
      rcases m' with rfl | rfl | rfl | rfl <;> rfl
    exact ⟨(g5.trans q5B.up).trans gC, hhC, v', t', _, fun _ => ns, hv', rfl⟩
  · rintro σ H5 ⟨g5, hh5, v, t, u, ns, hv, rfl⟩
    walk_at "ws"
    exact k v t H5 g5 hh5 hv (ns (by omega))

end
end Mine
/-! ## D12 -/


namespace Mine.Da
section
variable {P : Program} {w : World} {K : PySem.W.Frag} {mg : Str → Option Value} {base : Heap} {a : Ads}

theorem at4 {b0 b1 b2 b3 : Bool} {z : Int} (h0 : 0 ≤ z) (h1 : z ≤ 3) : ∃ b, atI [V.bl b0, V.bl b1, V.bl b2, V.bl b3] z = some (.bl b) := by
  have : z = 0 ∨ z = 1 ∨ z = 2 ∨ z = 3 := by omega
  rcases this with rfl | rfl | rfl | rfl
  · exact ⟨b0, rfl⟩
  · exact ⟨b1, rfl⟩
  · exact ⟨b2, rfl⟩
  · exact ⟨b3, rfl⟩
def sp__law_web (K : PySem.W.Frag) : Sp := fun vs H Q _ => ∃ (hd c : Addr) (m : Int), vs = [.ref hd, .int m] ∧ Hand H hd c ∧ 1 ≤ m ∧ m ≤ 7 ∧ ∀ p bs ws H', G (some (hd, c)) H H' → Hand H' hd c → SqT K H' p (bs.map V.ref) → TupAll H' bs ws → IsWeb m ws → Q (.ref p) H'
/-- the loops' word -/
def WebW (K : PySem.W.Frag) (H : Hp) (hd c l : Addr) (m y x : Int) (H' : Hp) : Prop := ∃ (bs : List Addr) (ws : List (Int × Int)), G (some (hd, c)) H H' ∧ Hand H' hd c ∧ H' l = some (.lst (bs.map V.ref)) ∧ TupAll H' bs ws ∧ Part m ws y x ∧ bs.length ≤ 10000
theorem part_len {m y x : Int} {ws : List (Int × Int)} (h : Part m ws y x) (hm : m ≤ 7) : ws.length ≤ 10000 := by
  have hn : (ws.map fun u => (u.1 * 7 + u.2).toNat).Nodup := by
    have : (ws.map fun u => (u.1 * 7 + u.2).toNat).Pairwise (· < ·) := by
      rw [List.pairwise_map]
      refine List.Pairwise.imp_of_mem (fun {u v} hu hv huv => ?_) h.asc
      have h1 := h.mem u hu
      have h2 := h.mem v hv
      unfold ltP at huv
      omega
    exact this.imp fun h => Nat.ne_of_lt h
  have hs : ∀ k ∈ (ws.map fun u => (u.1 * 7 + u.2).toNat), k ∈ List.range 10000 := by
    intro k hk
    obtain ⟨u, hu, rfl⟩ := List.mem_map.mp hk
    have h1 := h.mem u hu
    rw [List.mem_range]
    omega
  have := List.Nodup.length_le_of_subset hn hs
  simpa using this
theorem ok__law_web (T : Txt K mg a) : FnOk P w K mg base CX0 2 a.f__law_web a.d__law_web P__law_web (sp__law_web K) := by
  refine T.F__law_web.ok sc__law_web (fun vs H Q E h => by obtain ⟨hd, c, m, rfl, _⟩ := h; rfl) (fun cdv A outer s H vs Q E hr h => ?_)
  obtain ⟨hd, c, m, rfl, hh, m1, m7, k⟩ := h
  have G__law_draw : FnOk P w K mg base CX0 1 a.f__law_draw a.d__law_draw P__law_draw sp__law_draw := ok__law_draw T
  refine ⟨_, (pss_cons (ps_set (i := 2) sc__law_web.nd rfl (Or.inl rfl) (pe_call (G__law_draw) (hr.mono (by omega)) rfl T.m__law_draw T.F__law_draw.kp T.b__law_draw .nil pass0 (pa_cons (pv 0) (pa_cons pe_int pa_nil))))
  (pss_cons (ps_set (i := 3) sc__law_web.nd rfl (Or.inl rfl) (pe_lstN pa_nil))
  (pss_cons (ps_for PassesOwn.never rfl (pi_range1 rfl T.n_range (pa_cons (pv 1) pa_nil)) (pg_name (i := 4) sc__law_web.nd rfl (Or.inl rfl))
    (pss_one (ps_for PassesOwn.never rfl (pi_range1 rfl T.n_range (pa_cons (pv 1) pa_nil)) (pg_name (i := 5) sc__law_web.nd rfl (Or.inl rfl))
    (pss_cons (ps_set (i := 6) sc__law_web.nd rfl (Or.inl rfl) (pe_ix ix_list (pe_lstN (pa_cons pe_bl (pa_cons (pe_cmpR op_in_seq (pe_callB call_abs (by rfl) T.n_abs (by decide +kernel) (pa_cons (pe_op op_sub (pv 4) (pv 5)) pa_nil)) (pe_lstN (pa_cons pe_int (pa_cons (pe_op op_sub (pv 1) pe_int) pa_nil))) (by rfl)) (pa_cons (pe_cmpR op_eq (pe_callB call_abs (by rfl) T.n_abs (by decide +kernel) (pa_cons (pe_op op_sub (pv 4) (pv 5)) pa_nil)) pe_int (nomark _)) (pa_cons (pe_or (pe_cmpR op_eq (pv 4) pe_int (nomark _)) (pe_one (pe_cmpR op_eq (pv 5) pe_int (nomark _)))) pa_nil))))) (pe_callB (call_min2 rfl) (by rfl) T.n_min (by decide +kernel) (pa_cons (pv 2) (pa_cons pe_int pa_nil))) (fun _ _ => rfl)))
  (pss_cons (ps_if (pt_cmpR op_gt (pv 2) pe_int (nomark _))
    (pss_one (ps_set (i := 6) sc__law_web.nd rfl (Or.inl rfl) (pe_cmpR op_lt (pe_call (G__law_draw) (hr.mono (by omega)) rfl T.m__law_draw T.F__law_draw.kp T.b__law_draw .nil pass0 (pa_cons (pv 0) (pa_cons pe_int pa_nil))) (pe_op op_sub (pv 2) pe_int) (nomark _))))
    pss_nil)
  (pss_one (ps_if (L2.PW.pt (pw_and (pt_cmpR op_ne (pv 4) (pv 5) (nomark _)) (pw_and1 (pt_val (pv 6)))))
    (pss_one (ps_expr (pe_bm PySem.F.plainAttrs_list PySem.F.slot_list_append PySem.F.type_list_append mt_append (pv 3) (pa_cons (pe_tupN (pa_cons (pv 4) (pa_cons (pv 5) pa_nil))) pa_nil))))
    pss_nil)))))))
  (pss_one (ps_ret (pe_callTy call_tupleN (by rfl) T.n_tuple (by decide +kernel) (pa_cons (pv 3) pa_nil))))))), ?_⟩
  walk_at "ws"
  refine ⟨hd, c, 6, rfl, hh, by decide, by decide, fun kind H1 k0 k1 g1 hh1 => ?_⟩
  walk_at "ws"
  refine ⟨sz (by simp), fun l H2 hl g2 h2 => ?_⟩
  have l0 : H l = none := new_back g1 hh1 hl
  have nl : l ≠ hd := hh1.ne hl
  have g2 := g1.trans (g2 _)
  have hh2 := g2.hand _ rfl hh
  have offl : ∀ p, some (hd, c) = some p → l ≠ p.1 := fun p e => by cases e; exact nl
  walk_at "ws"
  refine i_rng1 (by omega) (by omega) ?_
  refine for_it walk_range (fun i σ H' => WebW K H hd c l m i 0 H' ∧ ∃ u v x, σ = [some (.ref hd), some (.int m), some (.int kind), some (.ref l), u, v, x]) ⟨⟨[], [], g2, hh2, h2, ⟨rfl, fun i b u e => by simp at e⟩, ⟨(fun _ h => nomatch h), .nil, (fun _ h => nomatch h)⟩, Nat.zero_le _⟩, _, _, _, rfl⟩ (fun _ _ _ _ _ => trivial) ?_ ?_
  · rintro y _ σ _ H3 hy ⟨hW, u, v, x, rfl⟩ ⟨rfl, rfl⟩
    walk_at "ws"
    refine i_rng1 (by omega) (by omega) ?_
    refine for_it walk_range (fun i σ H' => WebW K H hd c l m y i H' ∧ ∃ v x, σ = [some (.ref hd), some (.int m), some (.int kind), some (.ref l), some (.int (0 + (y : Int))), v, x]) ⟨hW, _, _, rfl⟩ (fun _ _ _ _ _ => trivial) ?_ ?_
    · rintro x _ σ _ H4 hx ⟨⟨ls, ws, g4, hh4, h4, hd4, hp, hz⟩, v, x', rfl⟩ ⟨rfl, rfl⟩
      refine w_seqM (fun σ H' => ∃ b : Bool, σ = [some (.ref hd), some (.int m), some (.int kind), some (.ref l), some (.int (0 + (y : Int))), some (.int (0 + (x : Int))), some (.bl b)] ∧ G (some (hd, c)) H4 H') (fun N kN => ?_) ?_
      · walk_at "ws"
        refine ⟨_, rfl, ?_⟩
        walk_at "ws"
        refine ⟨sz (by simp), fun q H5 hq g5 h5 => ?_⟩
        refine ⟨q, _, rfl, .inl (SqL.of h5), rfl, rfl, ?_⟩
        walk_at "ws"
        refine ⟨_, rfl, ?_⟩
        walk_at "ws"
        refine w_ite (fun e => ?_) (fun e => ?_) <;>
        · walk_at "ws"
          refine ⟨sz (by simp), fun p H6 hp g6 h6 => ?_⟩
          walk_at "ws"
          refine ⟨_, _, rfl, ?_⟩
          refine r_ixL (SqL.of h6) (at4 (by split <;> omega) (by split <;> omega)).choose_spec ?_
          walk_at "ws"
          exact kN _ _ ⟨_, rfl, (g5 _).trans (g6 _)⟩
      · rintro σ H5 ⟨b, rfl, g5⟩
        have hh5 := g5.hand _ rfl hh4
        refine w_seqM (fun σ H' => ∃ b : Bool, σ = [some (.ref hd), some (.int m), some (.int kind), some (.ref l), some (.int (0 + (y : Int))), some (.int (0 + (x : Int))), some (.bl b)] ∧ G (some (hd, c)) H4 H') (fun N kN => ?_) ?_
        · walk_at "ws"
          refine w_ite (fun e => ?_) (fun e => ?_)
          · walk_at "ws"
            refine ⟨hd, c, 4, rfl, hh5, by decide, by decide, fun r H6 r0 r1 g6 hh6 => ?_⟩
            walk_at "ws"
            exact kN _ _ ⟨_, rfl, g5.trans g6⟩
          · walk_at "ws"
            exact kN _ _ ⟨_, rfl, g5⟩
        · clear g5 hh5
          rintro σ H5 ⟨b, rfl, g5⟩
          have hh5 := g5.hand _ rfl hh4
          have h5 := g5.keep l _ offl h4
          have hd5 := hd4.g g5 (fun p e => by cases e; exact hh4)
          have g05 := g4.trans g5
          have done : WebW K H hd c l m y ((x : Int) + 1) H5 := ⟨ls, ws, g05, hh5, h5, hd5, hp.up (by omega), hz⟩
          walk_at "ws"
          refine w_ite (fun e => ?_) (fun e => ?_)
          · walk_at "ws"
            refine w_ite (fun eb => ?_) (fun eb => ?_)
            · walk_at "ws"
              refine i_BM h5 ?_
              walk_at "ws"
              refine ⟨sz (by simp), fun t H6 ht g6 h6 => ?_⟩
              have h6l := (g6 none).all _ _ h5
              have hd6 := hd5.g (g6 none) (fun _ e => nomatch e)
              walk_at "ws"
              refine r_app h6l (by rw [List.length_map]; omega) ?_
              walk_at "ws"
              have g06 := g05.trans (g6 _)
              have g07 : G (some (hd, c)) H (upd H6 l (.lst (ls.map V.ref ++ [.ref t]))) := g06.mut l0 (fun p e => by cases e; exact hh)
              have hp' := hp.app (y := y) (x := x) (by omega) (by omega) (by
                have := e
                simp at this
                omega)
              have hdt : H6 t = some (.tup [.int (y : Int), .int (x : Int)]) := by
                have z := h6
                simp only [Int.zero_add] at z
                exact z
              refine ⟨⟨ls ++ [t], ws ++ [((y : Int), (x : Int))], g07, g07.hand _ rfl hh, by rw [upd_same, List.map_append]; rfl, ?_, hp', ?_⟩, _, _, rfl⟩
              · exact (hd6.app (u := ((y : Int), (x : Int))) hdt).put h6l
              · have l1 := part_len hp' m7
                have l2 := hd6.1
                simp only [List.length_append, List.length_singleton] at l1 l2 ⊢
                omega
            · walk_at "ws"
              exact ⟨done, _, _, rfl⟩
          · walk_at "ws"
            exact ⟨done, _, _, rfl⟩
    · rintro σ H4 ⟨⟨ls, ws, g4, hh4, h4, hd4, hp, hz⟩, v, x', rfl⟩
      exact ⟨⟨ls, ws, g4, hh4, h4, hd4, hp.up (by omega), hz⟩, _, _, _, rfl⟩
  · rintro σ H4 ⟨⟨ls, ws, g4, hh4, h4, hd4, hp, hz⟩, u, v, x', rfl⟩
    walk_at "ws"
    refine ⟨l, _, rfl, .inl ⟨SqL.of h4, fun p H5 hp5 g5 h5 => ?_⟩⟩
    exact k p ls ws H5 (g4.trans (g5 _)) ((g5 (some (hd, c))).hand (hd, c) rfl hh4) (SqT.of h5) (hd4.g (g5 none) fun _ e => nomatch e) ⟨m1, m7, hp.mem, hp.asc⟩

end
end Mine.Da
/-! ## D13 -/


namespace Mine.Da
section
variable {P : Program} {w : World} {K : PySem.W.Frag} {mg : Str → Option Value} {base : Heap} {a : Ads}

/-! ### puts and letters led by drawn steps -/
/-- a run of the law's own doing stands behind what is drawn -/
def RelL (W : List (Int × Int)) (s : LS) (ds lt : List (List Int)) : Prop := (∀ (x : Nat) d, ds[x]? = some d → s.cur (x : Int) = d) ∧ ∀ (j : Nat) u q, W[j]? = some u → lt[j]? = some q → s.lt u = q
theorem nodup_snoc {α : Type} {l : List α} {a : α} (h : l.Nodup) (n : a ∉ l) : (l ++ [a]).Nodup := List.nodup_append.mpr ⟨h, by simp, fun x hx y hy e => by
  have ey : y = a := by simpa using hy
  subst ey; subst e
  exact n hx⟩
def RanL (W : List (Int × Int)) (ws left : List Int) (ds lt : List (List Int)) (sv : SV) : Prop := ∃ s : LS, led W ws ls0 (sv.map (·.2)) = some s ∧ (∀ p, Stp.put p ∈ sv.map (·.2) → 0 ≤ p) ∧ RelL W s ds lt ∧ left.Nodup ∧ ∀ p ∈ left, p ∉ s.done
def RanM (W : List (Int × Int)) (ws left : List Int) (ds lt : List (List Int)) (sv : SV) (put x : Int) : Prop := ∃ s : LS, led W ws ls0 (sv.map (·.2)) = some (LS.wr s x put) ∧ (∀ p, Stp.put p ∈ sv.map (·.2) → 0 ≤ p) ∧ RelL W s ds lt ∧ left.Nodup ∧ ∀ p ∈ left, p ∉ s.done
theorem led_one {W : List (Int × Int)} {ws : List Int} {sts : List Stp} {st : Stp} {s s' : LS} (h : led W ws ls0 sts = some s) (h1 : led1 W ws s st = some s') : led W ws ls0 (sts ++ [st]) = some s' := by
  rw [led_app h]
  show (match led1 W ws s st with | some s' => led W ws s' [] | none => none) = _
  rw [h1]; rfl
theorem pos_one {sts : List Stp} {st : Stp} (h : ∀ p, Stp.put p ∈ sts → 0 ≤ p) (h1 : ∀ p, st = .put p → 0 ≤ p) : ∀ p, Stp.put p ∈ sts ++ [st] → 0 ≤ p := fun p hp => by
  rcases List.mem_append.mp hp with q | q
  · exact h p q
  · exact h1 p (by simpa using q : Stp.put p = st).symm
theorem snoc_sts {sv : SV} {t : Addr} {st : Stp} : (sv ++ [(t, st)]).map (·.2) = sv.map (·.2) ++ [st] := by rw [List.map_append]; rfl
theorem RanL.put {W : List (Int × Int)} {ws left : List Int} {ds lt : List (List Int)} {sv : SV} (L : RanL W ws left ds lt sv) {r : Nat} (hr : r < left.length) {x : Int} (p0 : 0 ≤ left[r]) (hx : ws[left[r].toNat]? = some x) (t : Addr) : RanM W ws (left.eraseIdx r) ds lt (sv ++ [(t, .put left[r])]) left[r] x := by
  obtain ⟨s, h1, h2, h3, h4, h5⟩ := L
  have hn := h5 _ (List.getElem_mem hr)
  refine ⟨⟨s.cur, s.lt, s.done ++ [left[r]]⟩, by rw [snoc_sts]; refine led_one h1 ?_; exact (by show (if left[r] ∈ s.done then none else (match ws[left[r].toNat]? with | some x => some (LS.wr ⟨s.cur, s.lt, s.done ++ [left[r]]⟩ x left[r]) | none => none)) = _; rw [if_neg hn, hx]), by rw [snoc_sts]; exact pos_one h2 (fun p e => by cases e; exact p0), h3, h4.sublist (List.eraseIdx_sublist ..), fun q hq => ?_⟩
  · intro c
    rcases List.mem_append.mp c with c | c
    · exact h5 q (List.mem_of_mem_eraseIdx hq) c
    · have e : q = left[r] := by simpa using c
      obtain ⟨i, ni, hi⟩ := List.mem_eraseIdx_iff_getElem?.mp hq
      rw [e] at hi
      exact ni (nd_ix h4 hi (List.getElem?_eq_getElem hr))
theorem come1 {W : List (Int × Int)} {ws : List Int} {s : LS} {u : Int × Int} {p : Int} {q : List Int} (hm : u ∈ W) (el : s.lt u = p :: q) : led1 W ws s (.come u.1 u.2) = some (LS.wr ⟨s.cur, fun v => if v = u then q else s.lt v, s.done⟩ u.2 p) := by
  show (if (u.1, u.2) ∈ W then (match s.lt (u.1, u.2) with | [] => none | p :: r => some (LS.wr ⟨s.cur, fun v => if v = (u.1, u.2) then r else s.lt v, s.done⟩ u.2 p)) else none) = _
  rw [if_pos hm]
  show (match s.lt u with | [] => none | p :: r => some (LS.wr ⟨s.cur, fun v => if v = u then r else s.lt v, s.done⟩ u.2 p)) = _
  rw [el]
theorem RanL.come {W : List (Int × Int)} {ws left : List Int} {ds lt : List (List Int)} {sv : SV} (L : RanL W ws left ds lt sv) (nd : W.Nodup) {j : Nat} {u : Int × Int} {p : Int} {q : List Int} (hu : W[j]? = some u) (hq : lt[j]? = some (p :: q)) (t : Addr) : RanM W ws left ds (lt.set j q) (sv ++ [(t, .come u.1 u.2)]) p u.2 := by
  obtain ⟨s, h1, h2, ⟨h3, h3'⟩, h4, h5⟩ := L
  have el := h3' j u _ hu hq
  refine ⟨⟨s.cur, fun v => if v = u then q else s.lt v, s.done⟩, (by rw [snoc_sts]; refine led_one h1 ?_; exact come1 (List.mem_of_getElem? hu) el), (by rw [snoc_sts]; exact pos_one h2 (fun p e => nomatch e)), ⟨h3, fun z v q' hz hq' => ?_⟩, h4, h5⟩
  · show (if v = u then q else s.lt v) = q'
    by_cases c : j = z
    · subst c
      rw [hu] at hz
      cases hz
      have jl := (List.getElem?_eq_some_iff.mp hq).1
      rw [List.getElem?_set_self jl] at hq'
      rw [if_pos rfl]
      exact Option.some.inj hq'
    · rw [List.getElem?_set_ne c] at hq'
      rw [if_neg (fun e => c (by subst e; exact nd_ix nd hu hz))]
      exact h3' z v q' hz hq'
theorem RanM.had {W : List (Int × Int)} {ws left : List Int} {ds lt : List (List Int)} {sv : SV} {put : Int} {x : Nat} (M : RanM W ws left ds lt sv put (x : Int)) {d : List Int} (hd : ds[x]? = some d) (hp : put ∈ d) : RanL W ws left ds lt sv := by
  obtain ⟨s, h1, h2, h3, h4, h5⟩ := M
  have e : LS.wr s (x : Int) put = s := by unfold LS.wr; rw [if_pos (by rw [h3.1 x d hd]; exact hp)]
  rw [e] at h1
  exact ⟨s, h1, h2, h3, h4, h5⟩
theorem RanM.app {W : List (Int × Int)} {ws left : List Int} {ds lt lt2 : List (List Int)} {sv : SV} {put : Int} {x : Nat} (M : RanM W ws left ds lt sv put (x : Int)) {d : List Int} (hd : ds[x]? = some d) (hp : put ∉ d) (ll : lt2.length = lt.length) (tr : ∀ (z : Nat) u q q0, W[z]? = some u → lt2[z]? = some q → lt[z]? = some q0 → q = if u.1 = (x : Int) then q0 ++ [put] else q0) : RanL W ws left (ds.set x (d ++ [put])) lt2 sv := by
  obtain ⟨s, h1, h2, h3, h4, h5⟩ := M
  have ec := h3.1 x d hd
  have e : LS.wr s (x : Int) put = ⟨fun z => if z = (x : Int) then s.cur x ++ [put] else s.cur z, fun u => if u.1 = (x : Int) then s.lt u ++ [put] else s.lt u, s.done⟩ := by unfold LS.wr; rw [if_neg (by rw [ec]; exact hp)]
  rw [e] at h1
  refine ⟨_, h1, h2, ⟨fun z e he => ?_, fun z u q hz hq => ?_⟩, h4, h5⟩
  · show (if (z : Int) = (x : Int) then s.cur x ++ [put] else s.cur z) = e
    by_cases cz : x = z
    · subst cz
      rw [List.getElem?_set_self (List.getElem?_eq_some_iff.mp hd).1] at he
      rw [if_pos rfl, ec]
      exact Option.some.inj he
    · rw [List.getElem?_set_ne cz] at he
      rw [if_neg (fun e => cz (by omega))]
      exact h3.1 z e he
  · show (if u.1 = (x : Int) then s.lt u ++ [put] else s.lt u) = q
    have zl := (List.getElem?_eq_some_iff.mp hq).1
    obtain ⟨q0, hq0⟩ : ∃ q0, lt[z]? = some q0 := ⟨_, List.getElem?_eq_getElem (by omega)⟩
    rw [tr z u q q0 hz hq hq0, h3.2 z u q0 hz hq0]
def sp__law_ran (K : PySem.W.Frag) : Sp := fun vs H Q _ => ∃ (hd c : Addr) (n : Int) (wa : Addr) (bs : List Addr) (W : List (Int × Int)) (vp : Addr) (ws : List Int) (most : Int), vs = [.ref hd, .int n, .ref wa, .ref vp, .int most] ∧ Hand H hd c ∧ SqT K H wa (bs.map V.ref) ∧ TupAll H bs W ∧ IsWeb n W ∧ SqT K H vp (ws.map V.int) ∧ ws.length ≤ 30 ∧ (∀ w ∈ ws, 0 ≤ w ∧ w < n) ∧ 0 ≤ most ∧ most ≤ 1000 ∧
  ∀ (p dt st : Addr) (ds : List (List Int)) H', G (some (hd, c)) H H' → Hand H' hd c → H' p = some (.tup [.ref dt, .ref st]) → Dia K H' dt ds → ds.length = n.toNat → IsRec ws ds → ∀ sv : SV, H' st = some (.lst (svR sv)) → (∀ q ∈ sv, Rd H' q.1 (.tup (stV q.2))) → sv.length ≤ 1100 → (∃ s, led W ws ls0 (sv.map (·.2)) = some s) → (∀ p, Stp.put p ∈ sv.map (·.2) → 0 ≤ p) → H st = none → Q (.ref p) H'
theorem ok__law_ran (T : Txt K mg a) : FnOk P w K mg base CX0 2 a.f__law_ran a.d__law_ran P__law_ran (sp__law_ran K) := by
  refine T.F__law_ran.ok sc__law_ran (fun vs H Q E h => by obtain ⟨hd, c, n, wa, bs, W, vp, ws, most, rfl, _⟩ := h; rfl) (fun cdv A outer s H vs Q E hr h => ?_)
  obtain ⟨hd, c, m, wa, bs, W, vp, ws, most, rfl, hh, hwa, tup, web, hv, p30, hws, mo0, mo40, k⟩ := h
  have G__law_draw : FnOk P w K mg base CX0 1 a.f__law_draw a.d__law_draw P__law_draw sp__law_draw := ok__law_draw T
  have m1 := web.lo
  have m7 := web.hi
  have l49 := isweb_len49 web
  obtain ⟨n, rfl⟩ : ∃ n : Nat, m = (n : Int) := ⟨m.toNat, by omega⟩
  rw [Int.toNat_natCast] at k
  have hhp : ∀ p, some (hd, c) = some p → Hand H p.1 p.2 := fun p e => by cases e; exact hh
  have lb := tup.1
  refine ⟨_, (pss_cons (ps_setLc (i := 5) (own := [("_law_machine", 16)]) (g := (gName 16)) (tt := tYes)  rfl sc__law_ran.nd rfl rfl (sw_true rfl rfl rfl (by decide +kernel)) (pi_range1 rfl T.n_range (pa_cons (pv 1) pa_nil)) (blkOk_by (N := N__law_ran) (sc := defScope s__law_ran) (by decide +kernel)) (fun _ _ _ _ _ => (pg_name (i := 16) sc__law_ran.nd rfl (by first | exact Or.inl rfl | exact Or.inr rfl))) (fun _ _ _ _ _ => pts_nil) (fun _ _ _ _ _ => (pe_lstN pa_nil)))
  (pss_cons (ps_set (i := 7) sc__law_ran.nd rfl (Or.inr rfl) (pe_callTy (call_dictPT rfl hr.units) (by rfl) T.n_dict (by decide +kernel) (pa_cons (pe_lc (own := [("_law_wire", 6)]) (g := (gName 6)) (tt := tYes) rfl sc__law_ran.nd (pi_tup (pv 2)) (blkOk_by (N := N__law_ran) (sc := defScope s__law_ran) (by decide +kernel)) (fun _ _ _ _ _ => (pg_name (i := 6) sc__law_ran.nd rfl (by first | exact Or.inl rfl | exact Or.inr rfl))) (fun _ _ _ _ _ => pts_nil) (fun _ _ _ _ _ => (pe_tupN (pa_cons (pv 6) (pa_cons (pe_lstN pa_nil) pa_nil))))) pa_nil)))
  (pss_cons (ps_set (i := 8) sc__law_ran.nd rfl (Or.inl rfl) (pe_listRgN rfl (by rfl) T.n_list (prg_1 (by rfl) T.n_range (pe_callB call_len_seq (by rfl) T.n_len (by decide +kernel) (pa_cons (pv 3) pa_nil))) (mo_rg1 mo_len)))
  (pss_cons (ps_set (i := 9) sc__law_ran.nd rfl (Or.inl rfl) (pe_lstN pa_nil))
  (pss_cons (ps_set (i := 10) sc__law_ran.nd rfl (Or.inl rfl) pe_int)
  (pss_cons (ps_for PassesOwn.never rfl (pi_range1 rfl T.n_range (pa_cons (pe_op op_add (pe_callB call_len_seq (by rfl) T.n_len (by decide +kernel) (pa_cons (pv 3) pa_nil)) (pv 4)) pa_nil)) (pg_name (i := 11) sc__law_ran.nd rfl (Or.inl rfl))
    (pss_cons (ps_setLc (i := 12) (own := [("_law_wire", 6)]) (g := (gName 6))  rfl sc__law_ran.nd rfl rfl (sw_true rfl rfl rfl (by decide +kernel)) (pi_tup (pv 2)) (blkOk_by (N := N__law_ran) (sc := defScope s__law_ran) (by decide +kernel)) (fun _ _ _ _ _ => (pg_name (i := 6) sc__law_ran.nd rfl (by first | exact Or.inl rfl | exact Or.inr rfl))) (fun _ _ _ _ _ => (pts_one (pt_cmpR op_gt (pe_callB (k_call_len_seq K) (by rfl) T.n_len (by decide +kernel) (pa_cons (pe_dget (hu_of hr) (pv 7) (pv 6) (by first | exact fun _ _ => rfl | rfl | decide)) pa_nil)) pe_int (nomark _)))) (fun _ _ _ _ _ => (pv 6)))
  (pss_cons (ps_if (L2.PW.pt (pw_and (pt_cmpR op_gt (pe_callB call_len_seq (by rfl) T.n_len (by decide +kernel) (pa_cons (pv 8) pa_nil)) pe_int (nomark _)) (pw_and1 (L2.PW.pt (pw_or (pt_cmpR (op_eqD hr.units) (pv 12) (pe_lstN pa_nil) (nomark _)) (pw_or (pt_cmpR op_eq (pv 10) (pv 4) (nomark _)) (pw_or1 (pt_cmpR op_eq (pe_call (G__law_draw) (hr.mono (by omega)) rfl T.m__law_draw T.F__law_draw.kp T.b__law_draw .nil pass0 (pa_cons (pv 0) (pa_cons pe_int pa_nil))) pe_int (nomark _)))))))))
    (pss_cons (ps_set (i := 13) sc__law_ran.nd rfl (Or.inl rfl) (pe_bm PySem.F.plainAttrs_list PySem.F.slot_list_pop PySem.F.type_list_pop mt_popAt (pv 8) (pa_cons (pe_call (G__law_draw) (hr.mono (by omega)) rfl T.m__law_draw T.F__law_draw.kp T.b__law_draw .nil pass0 (pa_cons (pv 0) (pa_cons (pe_callB call_len_seq (by rfl) T.n_len (by decide +kernel) (pa_cons (pv 8) pa_nil)) pa_nil))) pa_nil)))
  (pss_cons (ps_set (i := 14) sc__law_ran.nd rfl (Or.inl rfl) (pe_ix ix_tup (pv 3) (pv 13) (fun _ _ => rfl)))
  (pss_one (ps_expr (pe_bm PySem.F.plainAttrs_list PySem.F.slot_list_append PySem.F.type_list_append mt_append (pv 9) (pa_cons (pe_tupN (pa_cons pe_str (pa_cons (pv 13) pa_nil))) pa_nil))))))
    (pss_one (ps_if (L2.PW.pt (pw_and (pt_cmpR (op_neD hr.units) (pv 12) (pe_lstN pa_nil) (nomark _)) (pw_and1 (pt_cmpR op_lt (pv 10) (pv 4) (nomark _)))))
    (pss_cons (ps_asg (pe_ix ix_list (pv 12) (pe_call (G__law_draw) (hr.mono (by omega)) rfl T.m__law_draw T.F__law_draw.kp T.b__law_draw .nil pass0 (pa_cons (pv 0) (pa_cons (pe_callB call_len_seq (by rfl) T.n_len (by decide +kernel) (pa_cons (pv 12) pa_nil)) pa_nil))) (fun _ _ => rfl)) (pg_tup rfl (pgs_cons (pg_name (i := 15) sc__law_ran.nd rfl (Or.inl rfl)) (pgs_cons (pg_name (i := 14) sc__law_ran.nd rfl (Or.inl rfl)) pgs_nil))))
  (pss_cons (ps_set (i := 13) sc__law_ran.nd rfl (Or.inl rfl) (pe_bm PySem.F.plainAttrs_list PySem.F.slot_list_pop PySem.F.type_list_pop mt_popAt (pe_dget (hu_of hr) (pv 7) (pe_tupN (pa_cons (pv 15) (pa_cons (pv 14) pa_nil))) (fun _ _ => rfl)) (pa_cons pe_int pa_nil)))
  (pss_cons (ps_expr (pe_bm PySem.F.plainAttrs_list PySem.F.slot_list_append PySem.F.type_list_append mt_append (pv 9) (pa_cons (pe_tupN (pa_cons pe_str (pa_cons (pv 15) (pa_cons (pv 14) pa_nil)))) pa_nil)))
  (pss_one (ps_set (i := 10) sc__law_ran.nd rfl (Or.inl rfl) (pe_op op_add (pv 10) pe_int))))))
    (pss_one ps_break))))
  (pss_one (ps_if (pt_cmpR op_notIn_seq (pv 13) (pe_ix ix_list (pv 5) (pv 14) (fun _ _ => rfl)) (by rfl))
    (pss_cons (ps_expr (pe_bm PySem.F.plainAttrs_list PySem.F.slot_list_append PySem.F.type_list_append mt_append (pe_ix ix_list (pv 5) (pv 14) (fun _ _ => rfl)) (pa_cons (pv 13) pa_nil)))
  (pss_one (ps_for PassesOwn.never rfl (pi_tup (pv 2)) (pg_name (i := 6) sc__law_ran.nd rfl (Or.inl rfl))
    (pss_one (ps_if (pt_cmpR op_eq (pe_ix ix_tup (pv 6) pe_int (fun _ _ => rfl)) (pv 14) (nomark _))
    (pss_one (ps_expr (pe_bm PySem.F.plainAttrs_list PySem.F.slot_list_append PySem.F.type_list_append mt_append (pe_dget (hu_of hr) (pv 7) (pv 6) (by first | exact fun _ _ => rfl | rfl | decide)) (pa_cons (pv 13) pa_nil))))
    pss_nil)))))
    pss_nil)))))
  (pss_one (ps_ret (pe_tupN (pa_cons (pe_callTy call_tupleN (by rfl) T.n_tuple (by decide +kernel) (pa_cons (pe_lc (own := [("_law_diary", 17)]) (g := (gName 17)) (tt := tYes) rfl sc__law_ran.nd (pi_list (pv 5)) (blkOk_by (N := N__law_ran) (sc := defScope s__law_ran) (by decide +kernel)) (fun _ _ _ _ _ => (pg_name (i := 17) sc__law_ran.nd rfl (by first | exact Or.inl rfl | exact Or.inr rfl))) (fun _ _ _ _ _ => pts_nil) (fun _ _ _ _ _ => (pe_callTy (k_tupleF K) (by rfl) T.n_tuple (by decide +kernel) (pa_cons (pv 17) pa_nil)))) pa_nil)) (pa_cons (pv 9) pa_nil))))))))))), ?_⟩
  walk_at "ws"
  refine i_rng1 (by omega) (by omega) ?_
  rw [Int.toNat_natCast]
  intro dl hdl
  refine lc_it walk_range (fun i H' => ∃ rs : List Addr, G none H H' ∧ H' dl = some (.lst (rs.map V.ref)) ∧ rs.length = i ∧ rs.Nodup ∧ dl ∉ rs ∧ ∀ l ∈ rs, H l = none ∧ H' l = some (.lst [])) ⟨[], (G.refl).mut hdl (fun _ e => nomatch e), upd_same, rfl, List.nodup_nil, (fun h => nomatch h), (fun _ h => nomatch h)⟩ (fun _ _ _ _ => trivial) ?_ ?_
  · rintro i _ _ H1 hi ⟨rs, g1, h1, lr, nd, ndl, hrs⟩ ⟨rfl, rfl⟩
    walk_at "ws"
    refine ⟨rfl, ?_⟩
    walk_at "ws"
    refine ⟨sz (by simp), fun l H2 hl g2 h2 => ?_⟩
    have nl : l ≠ dl := (ne_of_none h1 hl).symm
    refine ⟨rs.map V.ref, (g2 none).all _ _ h1, Nat.lt_of_le_of_lt (by rw [List.length_map]; omega : (rs.map V.ref).length ≤ 100000) (by decide), rs ++ [l], (g1.trans (g2 none)).mut hdl (fun _ e => nomatch e), by rw [upd_same, List.map_append]; rfl, by rw [List.length_append, lr]; rfl, ?_, ?_, ?_⟩
    · exact nodup_snoc nd fun ha => by
        have := (hrs _ ha).2
        rw [hl] at this; cases this
    · intro h
      rcases List.mem_append.mp h with z | z
      · exact ndl z
      · exact nl (by simpa using z : dl = l).symm
    · intro x hx
      rcases List.mem_append.mp hx with z | z
      · have q := hrs x z
        exact ⟨q.1, by rw [upd_ne (ne_mem ndl z)]; exact (g2 none).all _ _ q.2⟩
      · have e : x = l := by simpa using z
        subst e
        exact ⟨back_none g1 hl, by rw [upd_ne nl]; exact h2⟩
  rintro H1 ⟨rs, g1, h1, lr, nd, ndl, hrs⟩
  have hwa1 := sqT_t g1.tups hwa
  have tup1 := tup.g g1 (fun _ e => nomatch e)
  have hv1 := sqT_t g1.tups hv
  walk_at "ws"
  refine i_tup hwa1 ?_
  intro D hD
  refine lc_it (walk_tup (xs := bs.map V.ref)) (fun i H' => ∃ ts ls : List Addr, G none H1 H' ∧ H' D = some (.lst (ts.map V.ref)) ∧ ts.length = i ∧ ls.length = i ∧ ls.Nodup ∧ (∀ l ∈ ls, H1 l = none ∧ l ≠ D ∧ H' l = some (.lst [])) ∧ ∀ (j : Nat) (t b l : Addr), ts[j]? = some t → bs[j]? = some b → ls[j]? = some l → H' t = some (.tup [.ref b, .ref l])) ⟨[], [], (G.refl).mut hD (fun _ e => nomatch e), upd_same, rfl, rfl, List.nodup_nil, (fun _ h => nomatch h), (fun j t b l e => by simp at e)⟩ (fun i H' _ ⟨ts, ls, q, _⟩ => sqT_t q.tups hwa1) ?_ ?_
  · rintro i v _ H2 hi ⟨ts, ls, g2, h2, lt_, ll, ndls, hls, hts⟩ ⟨rfl, hv'⟩
    rw [List.length_map] at hi
    rw [List.getElem?_map] at hv'
    obtain ⟨b, hb, rfl⟩ := Option.map_eq_some_iff.mp hv'
    walk_at "ws"
    refine ⟨rfl, ?_⟩
    walk_at "ws"
    refine ⟨sz (by simp), fun l H3 hl g3 h3 => ?_⟩
    walk_at "ws"
    refine ⟨sz (by simp), fun t H4 ht g4 h4 => ?_⟩
    have g24 : G none H2 H4 := (g3 none).trans (g4 none)
    have h4D := g24.all _ _ h2
    have h4l := (g4 none).all _ _ h3
    have nl : l ≠ D := (ne_of_none h2 hl).symm
    have tD : t ≠ D := (ne_of_none ((g3 none).all _ _ h2) ht).symm
    refine ⟨ts.map V.ref, h4D, Nat.lt_of_le_of_lt (by rw [List.length_map]; omega : (ts.map V.ref).length ≤ 100000) (by decide), ts ++ [t], ls ++ [l], (g2.trans g24).mut hD (fun _ e => nomatch e), by rw [upd_same, List.map_append]; rfl, by rw [List.length_append, lt_]; rfl, by rw [List.length_append, ll]; rfl, ?_, ?_, ?_⟩
    · exact nodup_snoc ndls fun ha => by
        have := (hls _ ha).2.2
        rw [hl] at this; cases this
    · intro x hx
      rcases List.mem_append.mp hx with z | z
      · have q := hls x z
        exact ⟨q.1, q.2.1, by rw [upd_ne q.2.1]; exact g24.all _ _ q.2.2⟩
      · have e : x = l := by simpa using z
        subst e
        exact ⟨back_none g2 hl, nl, by rw [upd_ne nl]; exact h4l⟩
    · intro j t' b' l' e1 e2 e3
      by_cases cj : j < i
      · rw [List.getElem?_append_left (by omega)] at e1 e3
        have q := hts j t' b' l' e1 e2 e3
        rw [upd_ne (ne_of q h2 (by intro z; cases z))]
        exact g24.all _ _ q
      · have ej : j = i := by
          have := (List.getElem?_eq_some_iff.mp e1).1
          rw [List.length_append, lt_, List.length_singleton] at this
          omega
        subst ej
        rw [List.getElem?_append_right (by omega), lt_, Nat.sub_self] at e1
        rw [List.getElem?_append_right (by omega), ll, Nat.sub_self] at e3
        rw [hb] at e2
        cases e1; cases e2; cases e3
        rw [upd_ne tD]
        exact h4
  rintro H2 ⟨ts, ls, g2, h2, lt_, ll, ndls, hls, hts⟩
  rw [List.length_map] at lt_ ll
  have tup2 := tup1.g g2 (fun _ e => nomatch e)
  walk_at "ws"
  refine ⟨D, mkL W bs ts ls, rfl, by rw [mkL_at lb (by omega) (by omega)]; exact h2, fun q hq => ?_, ?_, fun ld H3 hld g3 h3 => ?_⟩
  · obtain ⟨j, u, b, t, l, e1, e2, e3, e4, rfl⟩ := mkL_mem hq
    exact ⟨hts j t b l e3 e2 e4, tup2.2 j b u e2 e1⟩
  · rw [mkL_key lb (by omega) (by omega)]
    exact List.pairwise_map.mpr ((web_nodup web).imp fun h e => h (keyOfP_inj e))
  rw [mkL_dt lb (by omega) (by omega)] at h3
  walk_at "ws"
  refine w_lstRg (w_rg1 ?_)
  walk_at "ws"
  have hv3 := sqT_t (g2.trans (g3 none)).tups hv1
  refine ⟨vp, _, rfl, .inr hv3, _, rfl, ?_⟩
  rw [List.length_map]
  refine ⟨RgOk.of_le (by decide) (by omega) (by decide) (by omega), fun lf H4 hlf g4 h4 => ?_⟩
  rw [rg_upto] at h4
  walk_at "ws"
  refine ⟨sz (by simp), fun st H5 hst g5 h5 => ?_⟩
  have g34 := g4 none
  have g45 := g5 none
  have g13 : G none H1 H3 := g2.trans (g3 none)
  have g35 := g34.trans g45
  have g25 := (g3 none).trans g35
  have g15 := g13.trans g35
  have g05 := g1.trans g15
  have h2dl := g2.all _ _ h1
  have h2rs : ∀ l ∈ rs, H2 l = some (.lst []) := fun l hl => g2.all _ _ (hrs l hl).2
  have h3dl := (g3 none).all _ _ h2dl
  have h3rs : ∀ l ∈ rs, H3 l = some (.lst []) := fun l hl => (g3 none).all _ _ (h2rs l hl)
  have h3ls : ∀ l ∈ ls, H3 l = some (.lst []) := fun l hl => (g3 none).all _ _ (hls l hl).2.2
  have N : RanN H ⟨dl, lf, st, ld, rs, ls⟩ := ⟨hdl, back_none (g1.trans g13) hlf, back_none ((g1.trans g13).trans g34) hst, back_none (g1.trans g2) hld, fun l hl => (hrs l hl).1, fun l hl => back_none g1 (hls l hl).1,
    ne_of_none h3dl hlf, ne_of_none (g34.all _ _ h3dl) hst, ne_of_none h2dl hld, ndl, (fun hl => ne_of_none h1 (hls _ hl).1 rfl),
    ne_of_none h4 hst, (ne_of_none h3 hlf).symm, not_in hlf h3rs, not_in hlf h3ls,
    (ne_of_none (g34.all _ _ h3) hst).symm, not_in hst (fun l hl => g34.all _ _ (h3rs l hl)), not_in hst (fun l hl => g34.all _ _ (h3ls l hl)),
    not_in hld h2rs, not_in hld (fun l hl => (hls l hl).2.2), nd, ndls, (fun l hl hl2 => ne_of_none (hrs l hl).2 (hls l hl2).1 rfl)⟩
  have nil_at : ∀ (as : List Addr), (∀ l ∈ as, H5 l = some (.lst [])) → Lists H5 as (as.map fun _ => []) := fun as h => ⟨by rw [List.length_map], fun i a l e1 e2 => by
    rw [List.getElem?_map, e1] at e2
    cases e2
    exact h a (List.mem_of_getElem? e1)⟩
  have S5 : RanS W ⟨dl, lf, st, ld, rs, ls⟩ H5 (rs.map fun _ => []) (upto ws.length) (ls.map fun _ => []) [] := ⟨g35.all _ _ h3dl, g45.all _ _ h4, h5, (fun _ h => nomatch h), g35.all _ _ h3, nil_at rs fun l hl => g35.all _ _ (h3rs l hl), nil_at ls fun l hl => g35.all _ _ (h3ls l hl)⟩
  have T5 : RanT n ws most 0 0 (rs.map fun _ => []) (upto ws.length) (ls.map fun _ => []) [] 0 := by
    have lu : (upto ws.length).length = ws.length := by unfold upto; simp
    refine ⟨by rw [List.length_map]; exact lr, fun d hd' => ?_, fun d hd' p hp => ?_, fun p hp => ?_, fun l hl p hp => ?_, by rw [lu]; simp, by rw [lu]; exact Nat.le_refl _, Int.le_refl _, mo0, Nat.le_refl _, fun l hl => ?_⟩
    · obtain ⟨_, _, rfl⟩ := List.mem_map.mp hd'; exact List.nodup_nil
    · obtain ⟨_, _, rfl⟩ := List.mem_map.mp hd'; exact nomatch hp
    · unfold upto at hp
      obtain ⟨i, hi, rfl⟩ := List.mem_map.mp hp
      have := List.mem_range.mp hi
      omega
    · obtain ⟨_, _, rfl⟩ := List.mem_map.mp hl; exact nomatch hp
    · obtain ⟨_, _, rfl⟩ := List.mem_map.mp hl; exact Nat.le_refl _
  have O5 : Own ws (rs.map fun _ => []) (upto ws.length) none := fun p w d e1 e2 => .inr (.inl (by
    have := (List.getElem?_eq_some_iff.mp e1).1
    unfold upto
    exact List.mem_map.mpr ⟨p, List.mem_range.mpr this, rfl⟩))
  have L5 : RanL W ws (upto ws.length) (rs.map fun _ => []) (ls.map fun _ => []) [] := by
    refine ⟨ls0, rfl, (fun _ h => nomatch h), ⟨fun x d e => ?_, fun j u q _ e => ?_⟩, ?_, fun _ _ h => nomatch h⟩
    · rw [List.getElem?_map] at e
      obtain ⟨_, _, rfl⟩ := Option.map_eq_some_iff.mp e
      rfl
    · rw [List.getElem?_map] at e
      obtain ⟨_, _, rfl⟩ := Option.map_eq_some_iff.mp e
      rfl
    · unfold upto
      exact List.pairwise_map.mpr ((List.nodup_range (n := ws.length)).imp fun h e => h (by omega))
  have g5' : G (some (hd, c)) H H5 := g05.up
  have llW : ls.length = W.length := by omega
  clear h3rs h3ls h2rs h2dl h3dl h5 h4 h3 hts hls h2 hrs h1 g25 g35 g45 g34 g5 g4 g3 hst hlf hld hwa1 tup1 hv1 tup2 hv3 g15 g13 g2 g1 ndls nd nil_at g05 ndl lt_ hD hdl
  walk_at "wn"
  dsimp only
  refine w_seq ?_
  walk_at "wn"
  dsimp only
  refine w_seqM (fun σ H' => ∃ (u6 : Option V) (more : Int) (u11 u12 u13 u14 u15 u16 u17 : Option V) (ds lt : List (List Int)) (sv : SV), σ = [some (.ref hd), some (.int (n : Int)), some (.ref wa), some (.ref vp), some (.int most), some (.ref dl), u6, some (.ref ld), some (.ref lf), some (.ref st), some (.int more), u11, u12, u13, u14, u15, u16, u17] ∧ G (some (hd, c)) H H' ∧ RanS W ⟨dl, lf, st, ld, rs, ls⟩ H' ds [] lt sv ∧ (∃ i b, RanT n ws most i b ds [] lt sv more) ∧ Own ws ds [] none ∧ RanL W ws [] ds lt sv) (fun N1 kN1 => ?_) ?_
  · walk_at "ws"
    have hv5 := sqT_t g5'.tups hv
    refine ⟨vp, _, rfl, .inr hv5, ?_⟩
    walk_at "ws"
    rw [List.length_map]
    refine i_rng1 (by omega) (by omega) ?_
    refine for_it walk_range (fun i σ H' => ∃ (u6 : Option V) (more : Int) (u11 u12 u13 u14 u15 u16 u17 : Option V) (ds : List (List Int)) (left : List Int) (lt : List (List Int)) (sv : SV), σ = [some (.ref hd), some (.int (n : Int)), some (.ref wa), some (.ref vp), some (.int most), some (.ref dl), u6, some (.ref ld), some (.ref lf), some (.ref st), some (.int more), u11, u12, u13, u14, u15, u16, u17] ∧ G (some (hd, c)) H H' ∧ RanS W ⟨dl, lf, st, ld, rs, ls⟩ H' ds left lt sv ∧ RanT n ws most i i ds left lt sv more ∧ Own ws ds left none ∧ RanL W ws left ds lt sv) ⟨_, 0, _, _, _, _, _, _, _, _, _, _, _, rfl, g5', S5, T5, O5, L5⟩ (fun _ _ _ _ _ => trivial) ?_ ?_
    · clear S5 T5 O5 L5 g5' hv5
      rintro i _ σ _ H6 hi ⟨u6, more, u11, u12, u13, u14, u15, u16, u17, ds, left, lt, sv, rfl, g6, S6, T6, O6, L6⟩ ⟨rfl, rfl⟩
      have hh6 : Hand H6 hd c := g6.hand (hd, c) rfl hh
      have hwa6 := sqT_t g6.tups hwa
      have hv6 := sqT_t g6.tups hv
      have tup6 := tup.g g6 hhp
      have lls : ls.length = lt.length := S6.ls.1
      walk_at "ws"
      refine i_tup hwa6 ?_
      intro R hR
      refine lc_it (walk_tup (xs := bs.map V.ref)) (fun i H' => ∃ xs : List V, G none H6 H' ∧ H' R = some (.lst xs) ∧ xs.length ≤ i ∧ ∀ v ∈ xs, ∃ (j : Nat) (b : Addr) (l : List Int), v = .ref b ∧ bs[j]? = some b ∧ lt[j]? = some l ∧ l ≠ []) ⟨[], (G.refl).mut hR (fun _ e => nomatch e), upd_same, Nat.le_refl _, (fun _ h => nomatch h)⟩ (fun i H' _ ⟨_, q, _⟩ => sqT_t q.tups hwa6) ?_ ?_
      · rintro j v _ H7 hj ⟨xs, g7, h7, lx, hxs⟩ ⟨rfl, hv'⟩
        rw [List.length_map] at hj
        rw [List.getElem?_map] at hv'
        obtain ⟨b, hb, rfl⟩ := Option.map_eq_some_iff.mp hv'
        obtain ⟨l, hl⟩ : ∃ l, ls[j]? = some l := ⟨_, List.getElem?_eq_getElem (by omega)⟩
        obtain ⟨q, hq⟩ : ∃ q, lt[j]? = some q := ⟨_, List.getElem?_eq_getElem (by omega)⟩
        obtain ⟨u, hu⟩ : ∃ u, W[j]? = some u := ⟨_, List.getElem?_eq_getElem (by omega)⟩
        walk_at "ws"
        refine ⟨rfl, ?_⟩
        walk_at "ws"
        refine w_dget ?_
        walk_at "ws"
        refine i_dget (web_nodup web) (g7.all _ _ S6.ld) (g7.all _ _ (tup6.2 j b u hb hu)) hu hl ?_
        refine ⟨l, _, rfl, .inl (SqL.of (g7.all _ _ (S6.ls.2 j l q hl hq))), ?_⟩
        walk_at "ws"
        rw [List.length_map]
        refine w_ite (fun e => ?_) (fun e => ?_)
        · walk_at "ws"
          have e' := of_decide_eq_true e
          refine ⟨xs, h7, Nat.lt_of_le_of_lt (by omega : xs.length ≤ 100000) (by decide), xs ++ [.ref b], g7.mut hR (fun _ e => nomatch e), upd_same, by rw [List.length_append, List.length_singleton]; omega, fun v hv => ?_⟩
          rcases List.mem_append.mp hv with z | z
          · exact hxs v z
          · exact ⟨j, b, q, by simpa using z, hb, hq, fun z => by rw [z] at e'; simp at e'⟩
        · exact ⟨xs, g7, h7, by omega, hxs⟩
      rintro H7 ⟨xs, g7, h7, lx, hxs⟩
      rw [List.length_map] at lx
      have S7 := S6.g N hh g7.up
      have g67 : G (some (hd, c)) H6 H7 := g7.up
      have offR : Off (some (hd, c)) R := off_new hh6 hR
      have hh7 : Hand H7 hd c := g67.hand (hd, c) rfl hh6
      have tup7 := tup6.g g67 (fun p e => by cases e; exact hh6)
      have hv7 := sqT_t g67.tups hv6
      have TT := T6
      have ci := T6.cnt
      have cl := T6.ll
      have cm := T6.mm
      have c0 := T6.m0
      walk_at "wn"
      dsimp only
      refine w_seqM (fun σ H' => ∃ (u6 : Option V) (more put x : Int) (u11 u12 u15 u16 u17 : Option V) (ds : List (List Int)) (left : List Int) (lt : List (List Int)) (sv : SV), σ = [some (.ref hd), some (.int (n : Int)), some (.ref wa), some (.ref vp), some (.int most), some (.ref dl), u6, some (.ref ld), some (.ref lf), some (.ref st), some (.int more), u11, u12, some (.int put), some (.int x), u15, u16, u17] ∧ G (some (hd, c)) H H' ∧ RanS W ⟨dl, lf, st, ld, rs, ls⟩ H' ds left lt sv ∧ RanT n ws most (i + 1) i ds left lt sv more ∧ Own ws ds left (some (put, x)) ∧ RanM W ws left ds lt sv put x ∧ (0 ≤ put ∧ put < (ws.length : Int)) ∧ (0 ≤ x ∧ x < (n : Int))) (fun N2 kN2 => ?_) ?_
      · refine w_ifM (fun b H' => G (some (hd, c)) H7 H' ∧ (b = true → 0 < left.length) ∧ (b = false → left ≠ [] → xs ≠ [] ∧ more < most)) (fun N3 kN3 => ?_) ?_
        · walk_at "ws"
          refine ⟨lf, _, rfl, .inl (SqL.of S7.lf), ?_⟩
          walk_at "ws"
          rw [List.length_map]
          refine w_ite (fun e => ?_) (fun e => ?_)
          · have e0 : 0 < left.length := by have := of_decide_eq_true e; omega
            walk_at "ws"
            refine ⟨sz (by simp), fun z H8 hz g8 h8 => ?_⟩
            obtain ⟨us, lu, hus⟩ := ready_dp (K := K) (tup7.g (g8 none) (fun _ e => nomatch e)) (xs := xs) fun v hv => by
              obtain ⟨j, b, _, e1, e2, _⟩ := hxs v hv
              exact ⟨j, b, e1, e2⟩
            refine ⟨.list (us.map dP), .list [], .lst (SqL.of ((g8 none).all _ _ h7)) hus, .lst (SqL.of h8) .nil, sh_pairsL us, sh_pairsL [], ?_⟩
            rw [eqv_none]
            walk_at "ws"
            refine w_ite (fun e => ?_) (fun e => ?_)
            · walk_at "ws"
              exact kN3 _ _ ⟨g8 _, fun _ => e0, fun z => nomatch z⟩
            · have nx : xs ≠ [] := fun z => by rw [z] at lu; rw [lu] at e; simp at e
              walk_at "ws"
              refine w_ite (fun e => ?_) (fun e => ?_)
              · walk_at "ws"
                exact kN3 _ _ ⟨g8 _, fun _ => e0, fun z => nomatch z⟩
              · have nm : ¬ more = most := of_decide_eq_false e
                walk_at "ws"
                refine ⟨hd, c, 3, rfl, (g8 (some (hd, c))).hand _ rfl hh7, by decide, by decide, fun r H9 r0 r1 g9 hh9 => ?_⟩
                walk_at "ws"
                exact kN3 _ _ ⟨(g8 _).trans g9, fun _ => e0, fun _ _ => ⟨nx, by omega⟩⟩
          · walk_at "ws"
            refine kN3 _ _ ⟨G.refl, (fun z => nomatch z), fun _ n0 => absurd (List.eq_nil_of_length_eq_zero ?_) n0⟩
            have := of_decide_eq_false e
            omega
        · rintro b H8 ⟨g78, kt, kf⟩
          have g08 := (g6.trans g67).trans g78
          have S8 := S7.g N hh g78
          have hh8 : Hand H8 hd c := g78.hand (hd, c) rfl hh7
          have h8R := g78.keep R _ offR h7
          refine w_ite (fun e => ?_) (fun e => ?_)
          · have ln := kt e
            walk_at "ws"
            refine i_BM S8.lf ?_
            walk_at "ws"
            refine ⟨lf, _, rfl, .inl (SqL.of S8.lf), ?_⟩
            walk_at "ws"
            rw [List.length_map]
            refine ⟨hd, c, (left.length : Int), rfl, hh8, by omega, by omega, fun r H9 r0 r1 g9 hh9 => ?_⟩
            have S9 := S8.g N hh g9
            have rl : r.toNat < left.length := by omega
            have pr := T6.lr _ (List.getElem_mem rl)
            have pl : left[r.toNat].toNat < ws.length := by omega
            obtain ⟨x, hx⟩ : ∃ x, ws[left[r.toNat].toNat]? = some x := ⟨_, List.getElem?_eq_getElem pl⟩
            have xr := hws x (List.mem_of_getElem? hx)
            walk_at "ws"
            refine ⟨lf, left.map V.int, r, r.toNat, .int left[r.toNat], rfl, rfl, S9.lf, by omega, by omega, pop_ix r0 rl, by rw [List.getElem?_map, List.getElem?_eq_getElem rl]; rfl, ?_⟩
            rw [erase_ints]
            have SA := S9.left' N (left.eraseIdx r.toNat)
            have gA := (g08.trans g9).mut (l := lf) (u := .lst ((left.eraseIdx r.toNat).map V.int)) N.lf hhp
            walk_at "ws"
            refine r_ixT (sqT_t gA.tups hv) (v := .int x) (at_of (j := left[r.toNat].toNat) (by omega) (by rw [List.getElem?_map, hx]; rfl)) ?_
            walk_at "ws"
            refine i_BM SA.st ?_
            walk_at "ws"
            refine ⟨sz (by simp), fun t HB ht gB hB => ?_⟩
            have SB := SA.g N hh (gB _)
            have sl := T6.sl
            walk_at "ws"
            refine r_app SB.st (by rw [List.length_map]; omega) ?_
            walk_at "ws"
            refine kN2 _ _ ?_
            refine ⟨_, more, _, x, _, _, _, _, _, ds, left.eraseIdx r.toNat, lt, _, rfl, (gA.trans (gB _)).mut N.st hhp, SB.step' N (st := .put _) hB, ?_, O6.put rl hx pr.1, L6.put rl pr.1 hx _, pr, xr⟩
            have le : (left.eraseIdx r.toNat).length = left.length - 1 := List.length_eraseIdx_of_lt rl
            exact ⟨T6.ld, T6.nd, T6.rng, fun p hp => T6.lr p (List.mem_of_mem_eraseIdx hp), T6.tr, by rw [le]; omega, by rw [le]; omega, T6.m0, T6.mm, by rw [List.length_append, List.length_singleton]; omega, T6.tl⟩
          · have hf := kf e
            refine w_ifM (fun b H' => G (some (hd, c)) H8 H' ∧ (b = true → xs ≠ [] ∧ more < most) ∧ (b = false → ¬ (xs ≠ [] ∧ more < most))) (fun N4 kN4 => ?_) ?_
            · walk_at "ws"
              refine ⟨sz (by simp), fun z H9 hz g9 h9 => ?_⟩
              obtain ⟨us, lu, hus⟩ := ready_dp (K := K) ((tup7.g g78 (fun p e => by cases e; exact hh7)).g (g9 none) (fun _ e => nomatch e)) (xs := xs) fun v hv => by
                obtain ⟨j, b, _, e1, e2, _⟩ := hxs v hv
                exact ⟨j, b, e1, e2⟩
              refine ⟨.list (us.map dP), .list [], .lst (SqL.of ((g9 none).all _ _ h8R)) hus, .lst (SqL.of h9) .nil, sh_pairsL us, sh_pairsL [], ?_⟩
              rw [eqv_none]
              walk_at "ws"
              refine w_ite (fun e => ?_) (fun e => ?_)
              · have nx : xs ≠ [] := fun z => by rw [z] at lu; rw [lu] at e; simp at e
                walk_at "ws"
                by_cases cc : more < most
                · rw [decide_eq_true cc]
                  exact kN4 _ _ ⟨g9 _, fun _ => ⟨nx, cc⟩, fun z => nomatch z⟩
                · rw [decide_eq_false cc]
                  exact kN4 _ _ ⟨g9 _, (fun z => nomatch z), fun _ z => cc z.2⟩
              · have nx : xs = [] := by
                  have : us.length = 0 := by simpa using e
                  exact List.eq_nil_of_length_eq_zero (by omega)
                walk_at "ws"
                exact kN4 _ _ ⟨g9 _, (fun z => nomatch z), fun _ z => z.1 nx⟩
            · rintro b2 H9 ⟨g89, kt2, kf2⟩
              have g09 := g08.trans g89
              have S9 := S8.g N hh g89
              have hh9 : Hand H9 hd c := g89.hand (hd, c) rfl hh8
              have h9R := g89.keep R _ offR h8R
              refine w_ite (fun e => ?_) (fun e => ?_)
              · obtain ⟨nx, mlt⟩ := kt2 e
                have lx0 : 0 < xs.length := List.length_pos_iff.mpr nx
                walk_at "ws"
                refine ⟨R, _, rfl, .inl (SqL.of h9R), ?_⟩
                walk_at "ws"
                refine ⟨hd, c, (xs.length : Int), rfl, hh9, by omega, by omega, fun r HA r0 r1 gA hhA => ?_⟩
                have SA := S9.g N hh gA
                have hAR := gA.keep R _ offR h9R
                have rl : r.toNat < xs.length := by omega
                obtain ⟨j, b, q, ev, hb, hq, nq⟩ := hxs _ (List.getElem_mem rl)
                have gHA := g09.trans gA
                have tupA := tup.g gHA hhp
                obtain ⟨u, hu⟩ : ∃ u, W[j]? = some u := ⟨_, List.getElem?_eq_getElem (by have := (List.getElem?_eq_some_iff.mp hb).1; omega)⟩
                obtain ⟨l, hl⟩ : ∃ l, ls[j]? = some l := ⟨_, List.getElem?_eq_getElem (by have := (List.getElem?_eq_some_iff.mp hb).1; omega)⟩
                have ht := tupA.2 j b u hb hu
                have um := web.mem u (List.mem_of_getElem? hu)
                refine r_ixL (SqL.of hAR) (v := .ref b) (at_of (j := r.toNat) (by omega) (by rw [List.getElem?_eq_getElem rl, ev])) ?_
                refine ⟨b, _, rfl, SqT.of ht, rfl, ?_⟩
                refine ⟨_, _, rfl, ?_⟩
                walk_at "ws"
                refine ⟨_, _, rfl, ?_⟩
                walk_at "ws"
                refine ⟨rfl, ?_⟩
                walk_at "ws"
                refine w_dget ?_
                walk_at "ws"
                refine ⟨sz (by simp), fun t HB ht2 gB hB => ?_⟩
                have SB := SA.g N hh (gB _)
                refine i_dget (web_nodup web) SB.ld hB hu hl ?_
                obtain ⟨p0, q', rfl⟩ : ∃ p0 q', q = p0 :: q' := by
                  cases q with
                  | nil => exact absurd rfl nq
                  | cons p0 q' => exact ⟨p0, q', rfl⟩
                have hlB := SB.ls.2 j l _ hl hq
                refine i_BM hlB ?_
                walk_at "ws"
                refine ⟨l, (p0 :: q').map V.int, 0, 0, .int p0, rfl, rfl, hlB, by decide, by decide, pop_ix (r := 0) (by decide) (by simp), rfl, ?_⟩
                rw [erase_ints]
                have SC := SB.let' N hl ((p0 :: q').eraseIdx 0)
                have gC := ((gHA.trans (gB _)).mut (l := l) (u := .lst (((p0 :: q').eraseIdx 0).map V.int)) (N.ls l (List.mem_of_getElem? hl)) hhp)
                walk_at "ws"
                refine i_BM SC.st ?_
                walk_at "ws"
                refine ⟨sz (by simp), fun t2 HD ht3 gD hD => ?_⟩
                have SD := SC.g N hh (gD _)
                have sl := T6.sl
                walk_at "ws"
                refine r_app SD.st (by rw [List.length_map]; omega) ?_
                walk_at "ws"
                refine kN2 _ _ ?_
                have mq := List.mem_of_getElem? hq
                refine ⟨_, more + 1, p0, u.2, _, _, _, _, _, ds, left, lt.set j ((p0 :: q').eraseIdx 0), _, rfl, (gC.trans (gD _)).mut N.st hhp, SD.step' N (st := .come _ _) hD, ?_, O6.wk _, L6.come (web_nodup web) hu hq _, T6.tr _ mq p0 List.mem_cons_self, um.2.1⟩
                refine ⟨T6.ld, T6.nd, T6.rng, T6.lr, fun l hl p hp => ?_, by omega, T6.ll, by omega, by omega, by rw [List.length_append, List.length_singleton]; omega, fun l hl => ?_⟩
                · rcases mem_set_list hl with z | z
                  · exact T6.tr l z p hp
                  · rw [z] at hp
                    exact T6.tr _ mq p (List.mem_cons_of_mem _ hp)
                · rcases mem_set_list hl with z | z
                  · exact T6.tl l z
                  · rw [z]
                    have := T6.tl _ mq
                    simp at this ⊢
                    omega
              · have hn := kf2 e
                have l0 : left = [] := Classical.byContradiction fun z => hn (hf z)
                subst l0
                walk_at "ws"
                refine kN1 _ _ ?_
                exact ⟨_, _, _, _, _, _, _, _, _, ds, lt, sv, rfl, g09, S9, ⟨_, _, T6⟩, O6, L6⟩
      · clear hv7 tup7 hh7 offR g67 S7 hxs lx h7 g7 hR lls tup6 hv6 hwa6 hh6 S6 T6 O6 L6 TT ci cl cm c0 g6
        rintro σ H8 ⟨u6, more', put, x, u11, u12, u15, u16, u17, ds', left', lt', sv', rfl, g8, S8, T8, O8, M8, pr, xr⟩
        obtain ⟨x, rfl⟩ : ∃ y : Nat, x = (y : Int) := ⟨x.toNat, by omega⟩
        have ld8 := T8.ld
        have lrs : rs.length = ds'.length := S8.rs.1
        obtain ⟨l, hl⟩ : ∃ l, rs[x]? = some l := ⟨_, List.getElem?_eq_getElem (by omega)⟩
        obtain ⟨d, hd'⟩ : ∃ d, ds'[x]? = some d := ⟨_, List.getElem?_eq_getElem (by omega)⟩
        have hdl := S8.rs.2 x l d hl hd'
        have md := List.mem_of_getElem? hd'
        have dlen := diary_len (T8.nd d md) (T8.rng d md)
        walk_at "ws"
        refine r_ixL (SqL.of S8.dl) (v := .ref l) (at_of (j := x) rfl (by rw [List.getElem?_map, hl]; rfl)) ?_
        refine ⟨l, _, rfl, .inl (SqL.of hdl), rfl, by rw [List.all_map, List.all_eq_true]; intro q _; rfl, ?_⟩
        rw [inV_ints]
        by_cases cp : put ∈ d
        · rw [decide_eq_true cp]
          walk_at "ws"
          refine w_iteN rfl ?_
          walk_at "ws"
          exact ⟨_, _, _, _, _, _, _, _, _, ds', left', lt', sv', rfl, g8, S8, ⟨T8.ld, T8.nd, T8.rng, T8.lr, T8.tr, T8.cnt, T8.ll, T8.m0, T8.mm, T8.sl, fun l hl => Nat.le_succ_of_le (T8.tl l hl)⟩, O8.had (by rw [Int.toNat_natCast]; exact hd') cp, M8.had hd' cp⟩
        · rw [decide_eq_false cp]
          walk_at "ws"
          refine w_iteE rfl ?_
          walk_at "ws"
          refine r_ixL (SqL.of S8.dl) (v := .ref l) (at_of (j := x) rfl (by rw [List.getElem?_map, hl]; rfl)) ?_
          refine i_BM hdl ?_
          walk_at "ws"
          refine r_app hdl (by rw [List.length_map]; omega) ?_
          have e1 : d.map V.int ++ [V.int put] = (d ++ [put]).map V.int := by rw [List.map_append]; rfl
          rw [e1]
          have S9 := S8.dia' N hl (d ++ [put])
          have g9 := g8.mut (l := l) (u := .lst ((d ++ [put]).map V.int)) (N.rs l (List.mem_of_getElem? hl)) hhp
          walk_at "ws"
          refine i_tup (sqT_t g9.tups hwa) ?_
          refine for_it (walk_tup (xs := bs.map V.ref)) (fun j σ H' => ∃ (u6 : Option V) (lt2 : List (List Int)), σ = [some (.ref hd), some (.int (n : Int)), some (.ref wa), some (.ref vp), some (.int most), some (.ref dl), u6, some (.ref ld), some (.ref lf), some (.ref st), some (.int more'), u11, u12, some (.int put), some (.int (x : Int)), u15, u16, u17] ∧ G (some (hd, c)) H H' ∧ RanS W ⟨dl, lf, st, ld, rs, ls⟩ H' (ds'.set x (d ++ [put])) left' lt2 sv' ∧ (∀ l ∈ lt2, ∀ p ∈ l, 0 ≤ p ∧ p < (ws.length : Int)) ∧ (∀ (z : Nat) (q : List Int), lt2[z]? = some q → q.length ≤ if z < j then i + 1 else i) ∧ lt2.length = lt'.length ∧ ∀ (z : Nat) u q q0, W[z]? = some u → lt2[z]? = some q → lt'[z]? = some q0 → q = if z < j ∧ u.1 = (x : Int) then q0 ++ [put] else q0) ⟨_, lt', rfl, g9, S9, T8.tr, (fun z q hq => T8.tl q (List.mem_of_getElem? hq)), rfl, fun z u q q0 _ e1 e2 => by rw [if_neg (fun c => absurd c.1 (Nat.not_lt_zero z))]; rw [e1] at e2; exact Option.some.inj e2⟩ (fun _ _ _ _ ⟨_, _, _, q, _⟩ => sqT_t q.tups hwa) ?_ ?_
          · rintro j v σ _ HA hj ⟨u6, lt2, rfl, gA, SA, trA, tlA, llA, rlA⟩ ⟨rfl, hv'⟩
            rw [List.length_map] at hj
            rw [List.getElem?_map] at hv'
            obtain ⟨b, hb, rfl⟩ := Option.map_eq_some_iff.mp hv'
            obtain ⟨la, hla⟩ : ∃ l, ls[j]? = some l := ⟨_, List.getElem?_eq_getElem (by omega)⟩
            have lls : ls.length = lt2.length := SA.ls.1
            obtain ⟨q, hq⟩ : ∃ q, lt2[j]? = some q := ⟨_, List.getElem?_eq_getElem (by omega)⟩
            obtain ⟨u, hu⟩ : ∃ u, W[j]? = some u := ⟨_, List.getElem?_eq_getElem (by omega)⟩
            have ht := (tup.g gA hhp).2 j b u hb hu
            have hlA := SA.ls.2 j la q hla hq
            have ql := tlA j q hq
            rw [if_neg (Nat.lt_irrefl j)] at ql
            have i70 : i ≤ 1030 := by omega
            walk_at "ws"
            refine r_ixT (SqT.of ht) (v := .int u.1) (at_of (j := 0) rfl rfl) ?_
            walk_at "ws"
            refine w_ite (fun e => ?_) (fun e => ?_)
            · walk_at "ws"
              refine w_dget ?_
              walk_at "ws"
              refine i_dget (web_nodup web) SA.ld ht hu hla ?_
              refine i_BM hlA ?_
              walk_at "ws"
              refine r_app hlA (by rw [List.length_map]; omega) ?_
              have e2 : q.map V.int ++ [V.int put] = (q ++ [put]).map V.int := by rw [List.map_append]; rfl
              rw [e2]
              walk_at "ws"
              refine ⟨_, lt2.set j (q ++ [put]), rfl, gA.mut (N.ls la (List.mem_of_getElem? hla)) hhp, SA.let' N hla (q ++ [put]), fun l hl p hp => ?_, fun z q2 hz => ?_, ?_, fun z u2 q2 q0 hz hq2 hq0 => ?_⟩
              · rcases mem_set_list hl with y | y
                · exact trA l y p hp
                · rw [y] at hp
                  rcases List.mem_append.mp hp with y2 | y2
                  · exact trA q (List.mem_of_getElem? hq) p y2
                  · have : p = put := by simpa using y2
                    rw [this]; exact pr
              · by_cases cz : j = z
                · subst cz
                  rw [List.getElem?_set_self (by omega)] at hz
                  cases hz
                  rw [if_pos (Nat.lt_succ_self _), List.length_append, List.length_singleton]
                  omega
                · rw [List.getElem?_set_ne cz] at hz
                  have := tlA z q2 hz
                  split at this <;> split <;> omega
              · rw [List.length_set]; exact llA
              · by_cases cz : j = z
                · subst cz
                  rw [hu] at hz
                  cases hz
                  rw [List.getElem?_set_self (by omega)] at hq2
                  have e3 := rlA j u q q0 hu hq hq0
                  rw [if_neg (fun c => Nat.lt_irrefl j c.1)] at e3
                  have e0 : u.1 = (x : Int) := of_decide_eq_true e
                  rw [if_pos ⟨Nat.lt_succ_self _, e0⟩, ← e3]
                  exact (Option.some.inj hq2).symm
                · rw [List.getElem?_set_ne cz] at hq2
                  rw [rlA z u2 q2 q0 hz hq2 hq0]
                  by_cases c1 : z < j
                  · have c2 : z < j + 1 := by omega
                    simp only [c1, c2]
                  · have c2 : ¬ z < j + 1 := by omega
                    simp only [c1, c2]
            · walk_at "ws"
              refine ⟨_, lt2, rfl, gA, SA, trA, fun z q2 hz => ?_, llA, fun z u2 q2 q0 hz hq2 hq0 => ?_⟩
              · have := tlA z q2 hz
                split at this <;> split <;> omega
              · rw [rlA z u2 q2 q0 hz hq2 hq0]
                by_cases cz : j = z
                · subst cz
                  rw [hu] at hz
                  cases hz
                  have e0 : ¬ u.1 = (x : Int) := of_decide_eq_false e
                  rw [if_neg (fun c => e0 c.2), if_neg (fun c => e0 c.2)]
                · by_cases c1 : z < j
                  · have c2 : z < j + 1 := by omega
                    simp only [c1, c2]
                  · have c2 : ¬ z < j + 1 := by omega
                    simp only [c1, c2]
          · rintro σ HA ⟨u6, lt2, rfl, gA, SA, trA, tlA, llA, rlA⟩
            walk_at "ws"
            refine ⟨_, _, _, _, _, _, _, _, _, _, left', lt2, sv', rfl, gA, SA, ⟨by rw [List.length_set]; exact T8.ld, fun e he => ?_, fun e he p hp => ?_, T8.lr, trA, T8.cnt, T8.ll, T8.m0, T8.mm, T8.sl, fun q hq => ?_⟩, ?_, M8.app hd' cp llA fun z u q q0 hz hq hq0 => ?_⟩
            · rcases mem_set_list he with y | y
              · exact T8.nd e y
              · rw [y]; exact nodup_snoc (T8.nd d md) cp
            · rcases mem_set_list he with y | y
              · exact T8.rng e y p hp
              · rw [y] at hp
                rcases List.mem_append.mp hp with y2 | y2
                · exact T8.rng d md p y2
                · have : p = put := by simpa using y2
                  rw [this]; exact pr
            · obtain ⟨z, hz⟩ := List.getElem?_of_mem hq
              have := tlA z q hz
              split at this <;> omega
            · have := O8.app (d := d) (by rw [Int.toNat_natCast]; exact hd')
              rw [Int.toNat_natCast] at this
              exact this
            · have zl := (List.getElem?_eq_some_iff.mp hz).1
              rw [rlA z u q q0 hz hq hq0]
              have lbb : z < (bs.map V.ref).length := by rw [List.length_map, lb]; exact zl
              by_cases c : u.1 = (x : Int)
              · rw [if_pos ⟨lbb, c⟩, if_pos c]
              · rw [if_neg (fun k => c k.2), if_neg c]
    · rintro σ H6 ⟨u6, more, u11, u12, u13, u14, u15, u16, u17, ds, left, lt, sv, rfl, g6, S6, T6, O6, L6⟩
      refine kN1 _ _ ?_
      have cnt := T6.cnt
      have := T6.ll
      have := T6.mm
      have l0 : left = [] := List.eq_nil_of_length_eq_zero (by omega)
      subst l0
      exact ⟨_, _, _, _, _, _, _, _, _, ds, lt, sv, rfl, g6, S6, ⟨_, _, T6⟩, O6, L6⟩
  · clear S5 T5 O5 L5 g5'
    rintro σ H6 ⟨u6, more, u11, u12, u13, u14, u15, u16, u17, ds, lt, sv, rfl, g6, S6, ⟨i, b, T6⟩, O6, L6⟩
    have isr := ran_rec T6 O6 (by omega) (by omega) p30 hws
    have lrs : rs.length = ds.length := S6.rs.1
    have ld6 := T6.ld
    walk_at "ws"
    refine i_list (SqL.of S6.dl) ?_
    intro D hD
    refine lc_it (walk_list (xs := rs.map V.ref)) (fun i H' => ∃ fs : List Addr, G none H6 H' ∧ H' D = some (.lst (fs.map V.ref)) ∧ fs.length = i ∧ ∀ (j : Nat) (f : Addr) (d : List Int), fs[j]? = some f → ds[j]? = some d → FrzT H' f (d.map V.int)) ⟨[], (G.refl).mut hD (fun _ e => nomatch e), upd_same, rfl, (fun j f d e => by simp at e)⟩ (fun i H' _ ⟨_, q, _⟩ => SqL.of (q.all _ _ S6.dl)) ?_ ?_
    · rintro j v _ H7 hj ⟨fs, g7, h7, lfs, hfs⟩ ⟨rfl, hv'⟩
      rw [List.length_map] at hj
      rw [List.getElem?_map] at hv'
      obtain ⟨l, hl, rfl⟩ := Option.map_eq_some_iff.mp hv'
      obtain ⟨d, hd'⟩ : ∃ d, ds[j]? = some d := ⟨_, List.getElem?_eq_getElem (by omega)⟩
      walk_at "ws"
      refine ⟨rfl, ?_⟩
      walk_at "ws"
      refine ⟨l, _, rfl, SqL.of (g7.all _ _ (S6.rs.2 j l d hl hd')), fun f H8 hf g8 h8 => ?_⟩
      have h8D := (g8 none).all _ _ h7
      refine ⟨fs.map V.ref, h8D, Nat.lt_of_le_of_lt (by rw [List.length_map]; omega : (fs.map V.ref).length ≤ 100000) (by decide), fs ++ [f], (g7.trans (g8 none)).mut hD (fun _ e => nomatch e), by rw [upd_same, List.map_append]; rfl, by rw [List.length_append, lfs]; rfl, fun j2 f2 d2 e1 e2 => ?_⟩
      by_cases cj : j2 < fs.length
      · rw [List.getElem?_append_left cj] at e1
        exact FrzT.put ((hfs j2 f2 d2 e1 e2).n (g8 none)) h8D
      · have ej : j2 = j := by
          have := (List.getElem?_eq_some_iff.mp e1).1
          rw [List.length_append, List.length_singleton] at this
          omega
        subst ej
        rw [List.getElem?_append_right (by omega), lfs, Nat.sub_self] at e1
        rw [hd'] at e2
        cases e1; cases e2
        exact FrzT.put h8 h8D
    rintro H7 ⟨fs, g7, h7, lfs, hfs⟩
    rw [List.length_map] at lfs
    walk_at "ws"
    refine ⟨D, _, rfl, .inl ⟨SqL.of h7, fun dt H8 hdt g8 h8 => ?_⟩⟩
    walk_at "ws"
    refine ⟨sz (by simp), fun p H9 hp g9 h9 => ?_⟩
    have g69 := (g7.trans (g8 none)).trans (g9 none)
    have g09 := g6.trans g69.up
    exact k p dt st ds H9 g09 (g09.hand (hd, c) rfl hh) h9 ⟨fs, sqT_t (g9 none).tups (SqT.of h8), by omega, fun j f d e1 e2 => ((hfs j f d e1 e2).n (g8 none)).n (g9 none)⟩ ld6 isr sv (g69.all _ _ S6.st) (fun q hq => g69.tups _ _ (S6.stp q hq)) (by have := T6.sl; have := T6.cnt; have := T6.mm; have := T6.ll; omega) (by obtain ⟨s, h, _⟩ := L6; exact ⟨s, h⟩) (by obtain ⟨s, _, h, _⟩ := L6; exact h) N.st

end
end Mine.Da
/-! ## K28 -/


namespace Mine
section
variable {P : Program} {w : World} {K : PySem.W.Frag} {mg : Str → Option Value} {base : Heap} {a : Ads}

/-! ### things drawn: deep ones, spoiled steps -/
def rSlLN (K : PySem.W.Frag) : V → Option Int → Option Int → Hp → VK → Prop := fun x lo hi H Q => ∃ a xs, x = .ref a ∧ SqL K H a xs ∧ New H (.lst (cutV xs lo hi)) fun p H2 => Q (.ref p) H2
theorem sl_listN {X : Cx} : SlR X (rSlLN X.K) := SlR.weak sl_list fun x lo hi H Q ⟨a, xs, e, h, q⟩ => ⟨a, xs, e, h, fun p hp => q.go hp⟩
def rRepN : R2 := fun x y H Q => ∃ (l : Addr) (k : Int) (v : V), x = .ref l ∧ y = .int k ∧ H l = some (.lst [v]) ∧ 0 ≤ k ∧ k ≤ 10000 ∧ New H (.lst (List.replicate k.toNat v)) fun p H2 => Q (.ref p) H2
theorem rep_flat {α : Type} (n : Nat) (v : α) : (List.replicate n [v]).flatten = List.replicate n v := by
  induction n with
  | zero => rfl
  | succ n ih => rw [List.replicate_succ, List.flatten_cons, ih]; rfl
theorem op_repN {X : Cx} : OpR X (binaryOp .Mult) rRepN := OpR.weak op_rep fun x y H Q ⟨l, k, v, e1, e2, h1, h2, h3, q⟩ => ⟨l, k, [v], e1, e2, h1, by omega, by omega, Nat.le_trans (Nat.mul_le_mul (Nat.le_refl 1) (by omega : k.toNat ≤ 10000)) (by decide), fun p hp => by rw [rep_flat]; exact q.go hp⟩
/-- a thing that can be a list or a tuple of things, or neither, and is not the hand -/
def Stn (K : PySem.W.Frag) (D hd : Addr) (H : Hp) (v : V) : Prop := ∃ o, Stf K D hd H v o ∧ ∀ p, v = .ref p → p ≠ hd
theorem Stf.g {D hd c : Addr} {H H' : Hp} {v : V} {o : Option (List Tg)} (hs : Stf K D hd H v o) (ne : ∀ p, v = .ref p → p ≠ hd) (g : G (some (hd, c)) H H') : Stf K D hd H' v o := by
  cases o with
  | some ts =>
    obtain ⟨p, xs, e, hq, al, z⟩ := hs
    have np : ∀ q : Addr × Addr, some (hd, c) = some q → p ≠ q.1 := fun q z => by cases z; exact ne p e
    refine ⟨p, xs, e, hq.elim (fun h => .inl ?_) (fun h => .inr (sqT_t g.tups h)), al.g g OH.s, z⟩
    rcases h with (h | ⟨ob, h⟩) | h
    · exact .inl (.inl (g.keep _ _ np h))
    · exact .inl (.inr ⟨ob, g.keep _ _ np h⟩)
    · exact .inr h
  | none =>
    rcases hs with h | h | h | ⟨p, kvs, e, h⟩
    · exact .inl h
    · exact .inr (.inl h)
    · exact .inr (.inr (.inl h))
    · exact .inr (.inr (.inr ⟨p, kvs, e, g.keep _ _ (fun q z => by cases z; exact ne p e) h⟩))
theorem Stn.g {D hd c : Addr} {H H' : Hp} {v : V} (h : Stn K D hd H v) (g : G (some (hd, c)) H H') : Stn K D hd H' v := by
  obtain ⟨o, hs, ne⟩ := h
  exact ⟨o, hs.g ne g, ne⟩
theorem Stn.n {D hd : Addr} {H H' : Hp} {v : V} (h : Stn K D hd H v) (g : G none H H') : Stn K D hd H' v := by
  obtain ⟨o, hs, ne⟩ := h
  exact ⟨o, hs.n g, ne⟩
def AnyL (D hd : Addr) (H : Hp) (xs : List V) : Prop := ∀ v ∈ xs, ∃ t, Ab D hd H v t
theorem anyL_all {D hd : Addr} {H : Hp} : ∀ {xs : List V}, AnyL D hd H xs → ∃ ts, AbAll D hd H xs ts
  | [], _ => ⟨[], .nil⟩
  | v :: xs, h => by
    obtain ⟨t, ht⟩ := h v List.mem_cons_self
    obtain ⟨ts, hts⟩ := anyL_all (xs := xs) fun u hu => h u (List.mem_cons_of_mem _ hu)
    exact ⟨t :: ts, .cons ht hts⟩
theorem AnyL.g {D hd c : Addr} {H H' : Hp} {xs : List V} (h : AnyL D hd H xs) (g : G (some (hd, c)) H H') : AnyL D hd H' xs := fun v hv => by
  obtain ⟨t, ht⟩ := h v hv
  exact ⟨t, ht.g g OH.s⟩
theorem AnyL.n {D hd : Addr} {H H' : Hp} {xs : List V} (h : AnyL D hd H xs) (g : G none H H') : AnyL D hd H' xs := fun v hv => by
  obtain ⟨t, ht⟩ := h v hv
  exact ⟨t, ht.n g⟩
theorem AnyL.app {D hd : Addr} {H : Hp} {xs ys : List V} (h : AnyL D hd H xs) (h' : AnyL D hd H ys) : AnyL D hd H (xs ++ ys) := fun v hv => (List.mem_append.mp hv).elim (h v) (h' v)
theorem AnyL.cut {D hd : Addr} {H : Hp} {xs : List V} (h : AnyL D hd H xs) (lo hi : Option Int) : AnyL D hd H (cutV xs lo hi) := fun v hv => h v (mem_cutV hv)
theorem AnyL.cons {D hd : Addr} {H : Hp} {x : V} {xs : List V} {t : Tg} (h : Ab D hd H x t) (h' : AnyL D hd H xs) : AnyL D hd H (x :: xs) := fun v hv => (List.mem_cons.mp hv).elim (fun e => by subst e; exact ⟨t, h⟩) (h' v)
theorem AnyL.nil {D hd : Addr} {H : Hp} : AnyL D hd H [] := fun _ h => nomatch h
theorem any_tup {D hd : Addr} {H : Hp} {p : Addr} {xs : List V} (h : Rd H p (.tup xs)) (k : AnyL D hd H xs) : ∃ t, Ab D hd H (.ref p) t := by
  obtain ⟨ts, hts⟩ := anyL_all k
  exact ⟨.tup ts, .tup h hts⟩
theorem stn_lst {D hd p : Addr} {H : Hp} {xs : List V} (h : H p = some (.lst xs)) (k : AnyL D hd H xs) (z : xs.length ≤ 60000) (ne : p ≠ hd) : Stn K D hd H (.ref p) := by
  obtain ⟨ts, hts⟩ := anyL_all k
  exact ⟨some ts, ⟨p, xs, rfl, .inl (SqL.of h), hts, by rw [← hts.length]; exact z⟩, fun q e => by cases e; exact ne⟩
theorem stn_tup {D hd p : Addr} {H : Hp} {xs : List V} (h : Rd H p (.tup xs)) (k : AnyL D hd H xs) (z : xs.length ≤ 60000) (ne : p ≠ hd) : Stn K D hd H (.ref p) := by
  obtain ⟨ts, hts⟩ := anyL_all k
  exact ⟨some ts, ⟨p, xs, rfl, .inr (.inl h), hts, by rw [← hts.length]; exact z⟩, fun q e => by cases e; exact ne⟩
theorem stn_dK {D hd p : Addr} {H : Hp} {kvs : List (Key × V)} (h : H p = some (.dK kvs)) (ne : p ≠ hd) : Stn K D hd H (.ref p) := ⟨none, .inr (.inr (.inr ⟨p, kvs, rfl, h⟩)), fun q e => by cases e; exact ne⟩
theorem stn_non {D hd : Addr} {H : Hp} : Stn K D hd H .non := ⟨none, .inl rfl, fun _ e => nomatch e⟩
theorem stn_str {D hd : Addr} {H : Hp} {s : Str} : Stn K D hd H (.str s) := ⟨none, .inr (.inl ⟨s, rfl⟩), fun _ e => nomatch e⟩
theorem stn_int {D hd : Addr} {H : Hp} {i : Int} : Stn K D hd H (.int i) := ⟨none, .inr (.inr (.inl ⟨i, rfl⟩)), fun _ e => nomatch e⟩
theorem cut_le (xs : List V) (lo hi : Option Int) : (cutV xs lo hi).length ≤ xs.length := by
  unfold cutV
  rw [List.length_take, List.length_drop]
  omega
theorem app_le {xs ys : List V} {m n : Nat} (h : xs.length ≤ m) (h' : ys.length ≤ n) : (xs ++ ys).length ≤ m + n := by rw [List.length_append]; omega
theorem at_mem {xs : List V} {r : Int} (r0 : 0 ≤ r) (r1 : r < xs.length) : ∃ v, atI xs r = some v ∧ v ∈ xs := by
  have l : r.toNat < xs.length := by omega
  exact ⟨_, at_of (j := r.toNat) (by omega) (List.getElem?_eq_getElem l), List.getElem_mem l⟩
theorem rd_ne {hd c p : Addr} {xs : List V} {H : Hp} (hh : Hand H hd c) (h : Rd H p (.tup xs)) : p ≠ hd := by
  obtain ⟨_, _, _, _, _, _, z, _⟩ := hh
  rcases h with h | ⟨ob, h⟩
  · exact ne_of h z (by intro z; cases z)
  · exact ne_of h z (by intro z; cases z)
def sp__law_deep2 (K : PySem.W.Frag) (D : Addr) : Sp := fun vs H Q _ => ∃ (hd c : Addr), vs = [.ref hd] ∧ Hand H hd c ∧ ∀ (v : V) H', G (some (hd, c)) H H' → Hand H' hd c → (∃ t, Ab D hd H' v t) → Stn K D hd H' v → Q v H'
theorem ok__law_deep2 (T : Txt K mg a) : FnOk P w K mg base CX0 2 a.f__law_deep a.d__law_deep P__law_deep (sp__law_deep2 K a.c_Web) := by
  refine T.F__law_deep.ok sc__law_deep (fun vs H Q E h => by obtain ⟨hd, c, rfl, _⟩ := h; rfl) (fun cdv A outer s H vs Q E hr h => ?_)
  obtain ⟨hd, c, rfl, hh, k⟩ := h
  have G__law_draw : FnOk P w K mg base CX0 1 a.f__law_draw a.d__law_draw P__law_draw sp__law_draw := ok__law_draw T
  refine ⟨_, (pss_cons (ps_set (i := 1) sc__law_deep.nd rfl (Or.inl rfl) (pe_ix ix_list (pe_lstN (pa_cons pe_non (pa_cons pe_str (pa_cons (pe_un un_neg pe_int) (pa_cons pe_dnewK pa_nil))))) (pe_call (G__law_draw) (hr.mono (by omega)) rfl T.m__law_draw T.F__law_draw.kp T.b__law_draw .nil pass0 (pa_cons (pv 0) (pa_cons pe_int pa_nil))) (fun _ _ => rfl)))
  (pss_cons (ps_for PassesOwn.never rfl (pi_range1 rfl T.n_range (pa_cons (pe_op op_add pe_int (pe_call (G__law_draw) (hr.mono (by omega)) rfl T.m__law_draw T.F__law_draw.kp T.b__law_draw .nil pass0 (pa_cons (pv 0) (pa_cons pe_int pa_nil)))) pa_nil)) (pg_name (i := 2) sc__law_deep.nd rfl (Or.inl rfl))
    (pss_one (ps_set (i := 1) sc__law_deep.nd rfl (Or.inl rfl) (pe_ix ix_list (pe_lstN (pa_cons (pe_tupN (pa_cons (pv 1) pa_nil)) (pa_cons (pe_lstN (pa_cons (pv 1) pa_nil)) (pa_cons (pe_slice sl_tupR (pe_tupN (pa_cons (pv 1) (pa_cons (pv 1) pa_nil))) po_none (po_some pe_int)) (pa_cons (pe_disp (pps_cons pe_int (pv 1) pps_nil) rfl rfl (by simp) (by decide)) pa_nil))))) (pe_call (G__law_draw) (hr.mono (by omega)) rfl T.m__law_draw T.F__law_draw.kp T.b__law_draw .nil pass0 (pa_cons (pv 0) (pa_cons pe_int pa_nil))) (fun _ _ => rfl)))))
  (pss_one (ps_ret (pv 1))))), ?_⟩
  walk_at "ws"
  refine w_dnew (o := none) fun p H1 hp g1 h1 => ?_
  walk_at "ws"
  refine ⟨sz (by simp), fun l H2 hl g2 h2 => ?_⟩
  have g02 := (g1 none).trans (g2 none)
  have hh2 := g02.up.hand (hd, c) rfl hh
  walk_at "ws"
  refine ⟨hd, c, 4, rfl, hh2, by decide, by decide, fun r H3 r0 r1 g3 hh3 => ?_⟩
  have g03 := g02.up.trans g3
  have npd : p ≠ hd := hh.ne hp
  have nld : l ≠ hd := ((g1 none).up.hand (hd, c) rfl hh).ne hl
  have h3l := g3.keep l _ (fun q e => by cases e; exact nld) h2
  have h3p := g3.keep p _ (fun q e => by cases e; exact npd) ((g2 none).all _ _ h1)
  have al : ∀ v ∈ [V.non, .str "a", .int (-1), .ref p], (∃ t, Ab a.c_Web hd H3 v t) ∧ Stn K a.c_Web hd H3 v := fun v hv => by
    simp only [List.mem_cons, List.not_mem_nil, or_false] at hv
    rcases hv with rfl | rfl | rfl | rfl
    · exact ⟨⟨_, .non⟩, stn_non⟩
    · exact ⟨⟨_, .str _⟩, stn_str⟩
    · exact ⟨⟨_, .int _⟩, stn_int⟩
    · exact ⟨⟨_, ab_dK npd h3p⟩, stn_dK h3p npd⟩
  obtain ⟨v0, e0, m0⟩ := at_mem (xs := [V.non, .str "a", .int (-1), .ref p]) r0 (by simpa using r1)
  obtain ⟨hv0, hs0⟩ := al v0 m0
  refine r_ixL (SqL.of h3l) e0 ?_
  clear e0 m0 al h3l h3p h2 h1 hp hl g1 g2 g3 g02 hh2
  walk_at "ws"
  refine ⟨hd, c, 30, rfl, hh3, by decide, by decide, fun n H4 n0 n1 g4 hh4 => ?_⟩
  walk_at "ws"
  refine i_rng1 (by omega) (by omega) ?_
  obtain ⟨t0, hv0⟩ := hv0
  refine for_it walk_range (fun i σ H' => G (some (hd, c)) H H' ∧ Hand H' hd c ∧ ∃ v u, (∃ t, Ab a.c_Web hd H' v t) ∧ Stn K a.c_Web hd H' v ∧ σ = [some (.ref hd), some v, u]) ⟨g03.trans g4, hh4, v0, _, ⟨t0, hv0.g g4 OH.s⟩, hs0.g g4, rfl⟩ (fun _ _ _ _ _ => trivial) ?_ ?_
  · rintro i _ σ _ H5 hi ⟨g5, hh5, v, u, ⟨t, hv⟩, hs, rfl⟩ ⟨rfl, rfl⟩
    walk_at "ws"
    refine ⟨sz (by simp), fun p1 H6 hp1 g6 h6 => ?_⟩
    walk_at "ws"
    refine ⟨sz (by simp), fun p2 H7 hp2 g7 h7 => ?_⟩
    walk_at "ws"
    refine ⟨sz (by simp), fun p3 H8 hp3 g8 h8 => ?_⟩
    walk_at "ws"
    refine ⟨p3, _, rfl, .inl h8, fun p4 H9 g9 r9 => ?_⟩
    walk_at "ws"
    refine w_disp1 rfl fun p5 kvs HA hp5 gA hA => ?_
    walk_at "ws"
    refine ⟨sz (by simp), fun p6 HB hp6 gB hB => ?_⟩
    have q9B := (gA none).trans (gB none)
    have q8B := (g9 none).trans q9B
    have q7B := (g8 none).trans q8B
    have q6B := (g7 none).trans q7B
    have q5B := (g6 none).trans q6B
    have hhB := q5B.up.hand (hd, c) rfl hh5
    walk_at "ws"
    refine ⟨hd, c, 4, rfl, hhB, by decide, by decide, fun r HC r0 r1 gC hhC => ?_⟩
    have hvB := hv.n q5B
    have hhA := (((((g6 none).trans (g7 none)).trans (g8 none)).trans (g9 none)).trans (gA none)).up.hand (hd, c) rfl hh5
    have hh6 := (g6 none).up.hand (hd, c) rfl hh5
    have hh9 := ((((g6 none).trans (g7 none)).trans (g8 none)).trans (g9 none)).up.hand (hd, c) rfl hh5
    have n6 : p6 ≠ hd := hhA.ne hp6
    have n2 : p2 ≠ hd := hh6.ne hp2
    have n5 : p5 ≠ hd := hh9.ne hp5
    have one : AnyL a.c_Web hd HB [v] := .cons hvB .nil
    have al : ∀ x ∈ [V.ref p1, .ref p2, .ref p4, .ref p5], (∃ t, Ab a.c_Web hd HB x t) ∧ Stn K a.c_Web hd HB x := fun x hx => by
      simp only [List.mem_cons, List.not_mem_nil, or_false] at hx
      rcases hx with rfl | rfl | rfl | rfl
      · have r1 : Rd HB p1 (.tup [v]) := .inl (q6B.all _ _ h6)
        exact ⟨any_tup r1 one, stn_tup r1 one (by simp) (rd_ne hhB r1)⟩
      · have l1 := q7B.all _ _ h7
        exact ⟨⟨_, ab_lst n2 l1⟩, stn_lst l1 one (by simp) n2⟩
      · have r1 : Rd HB p4 (.tup [v]) := q9B.tups _ _ r9
        exact ⟨any_tup r1 one, stn_tup r1 one (by simp) (rd_ne hhB r1)⟩
      · have d1 := (gB none).all _ _ hA
        exact ⟨⟨_, ab_dK n5 d1⟩, stn_dK d1 n5⟩
    have hC6 := gC.keep p6 _ (fun q e => by cases e; exact n6) hB
    obtain ⟨v', e', m'⟩ := at_mem (xs := [V.ref p1, .ref p2, .ref p4, .ref p5]) r0 (by simpa using r1)
    obtain ⟨⟨t', hv'⟩, hs'⟩ := al v' m'
    refine r_ixL (SqL.of hC6) e' ?_
    exact ⟨(g5.trans q5B.up).trans gC, hhC, v', _, ⟨t', hv'.g gC OH.s⟩, hs'.g gC, rfl⟩
  · rintro σ H5 ⟨g5, hh5, v, u, hv, hs, rfl⟩
    walk_at "ws"
    exact k v H5 g5 hh5 hv hs

theorem stV_any {D hd : Addr} {H : Hp} (st : Stp) : AnyL D hd H (Da.stV st) := by
  cases st with
  | put p => exact .cons (.str _) (.cons (.int p) .nil)
  | come y x => exact .cons (.str _) (.cons (.int y) (.cons (.int x) .nil))
theorem sv_any {D hd : Addr} {H : Hp} {sv : Da.SV} (h : ∀ q ∈ sv, Rd H q.1 (.tup (Da.stV q.2))) : AnyL D hd H (Da.svR sv) := fun v hv => by
  obtain ⟨q, hq, rfl⟩ := List.mem_map.mp hv
  exact any_tup (h q hq) (stV_any q.2)
theorem stV_cons (st : Stp) : ∃ x xs, Da.stV st = x :: xs := by
  cases st with
  | put p => exact ⟨_, _, rfl⟩
  | come y x => exact ⟨_, _, rfl⟩
theorem pick_any {D hd : Addr} {H : Hp} {xs : List V} (h : AnyL D hd H xs) (f : Nat → Nat) (l : List Nat) : AnyL D hd H (l.filterMap fun k => xs[f k]?) := fun v hv => by
  obtain ⟨i, _, e⟩ := List.mem_filterMap.mp hv
  exact h v (List.mem_of_getElem? e)
def sp__law_spoiled (K : PySem.W.Frag) (D : Addr) : Sp := fun vs H Q _ => ∃ (hd c st : Addr) (sv : Da.SV) (n : Int), vs = [.ref hd, .ref st, .int n] ∧ Hand H hd c ∧ H st = some (.lst (Da.svR sv)) ∧ (∀ q ∈ sv, Rd H q.1 (.tup (Da.stV q.2))) ∧ sv.length ≤ 1100 ∧ st ≠ hd ∧
  ∀ (v : V) H', G (some (hd, c)) H H' → Hand H' hd c → Stn K D hd H' v → Q v H'
theorem ok__law_spoiled (T : Txt K mg a) : FnOk P w K mg base CX0 3 a.f__law_spoiled a.d__law_spoiled P__law_spoiled (sp__law_spoiled K a.c_Web) := by
  refine T.F__law_spoiled.ok sc__law_spoiled (fun vs H Q E h => by obtain ⟨hd, c, st, sv, n, rfl, _⟩ := h; rfl) (fun cdv A outer s H vs Q E hr h => ?_)
  obtain ⟨hd, c, st, sv, n, rfl, hh, hst, hsv, zs, nst, k⟩ := h
  have G__law_draw : FnOk P w K mg base CX0 1 a.f__law_draw a.d__law_draw P__law_draw sp__law_draw := ok__law_draw T
  have G__law_deep : FnOk P w K mg base CX0 2 a.f__law_deep a.d__law_deep P__law_deep (sp__law_deep2 K a.c_Web) := ok__law_deep2 T
  have ls : (Da.svR sv).length = sv.length := List.length_map ..
  have zz : (Da.svR sv).length ≤ 1100 := by rw [ls]; exact zs
  refine ⟨_, (pss_cons (ps_set (i := 3) sc__law_spoiled.nd rfl (Or.inl rfl) (pe_call (G__law_draw) (hr.mono (by omega)) rfl T.m__law_draw T.F__law_draw.kp T.b__law_draw .nil pass0 (pa_cons (pv 0) (pa_cons pe_int pa_nil))))
  (pss_cons (ps_if (L2.PW.pt (pw_or (pt_cmpR op_eq (pv 3) pe_int (nomark _)) (pw_or1 (pt_cmpR op_eq (pe_callB call_len_seq (by rfl) T.n_len (by decide +kernel) (pa_cons (pv 1) pa_nil)) pe_int (nomark _)))))
    (pss_cons (ps_set (i := 4) sc__law_spoiled.nd rfl (Or.inl rfl) (pe_lstN (pa_cons pe_non (pa_cons pe_dnewK (pa_cons pe_str (pa_cons pe_int (pa_cons (pe_op op_catLN (pv 1) (pe_lstN (pa_cons pe_non pa_nil))) (pa_cons (pe_op op_catLN (pv 1) (pe_lstN (pa_cons (pe_tupN (pa_cons pe_str (pa_cons pe_int pa_nil))) pa_nil))) (pa_cons (pe_lstN (pa_cons (pv 1) pa_nil)) (pa_cons (pe_call (G__law_deep) (hr.mono (by omega)) rfl T.m__law_deep T.F__law_deep.kp T.b__law_deep .nil pass0 (pa_cons (pv 0) pa_nil)) pa_nil))))))))))
  (pss_cons (ps_expr (pe_bm PySem.F.plainAttrs_list PySem.F.slot_list_append PySem.F.type_list_append mt_append (pv 4) (pa_cons (pe_op op_repN (pe_lstN (pa_cons (pe_tupN (pa_cons pe_str (pa_cons pe_int pa_nil))) pa_nil)) pe_int) pa_nil)))
  (pss_one (ps_ret (pe_ix ix_list (pv 4) (pe_call (G__law_draw) (hr.mono (by omega)) rfl T.m__law_draw T.F__law_draw.kp T.b__law_draw .nil pass0 (pa_cons (pv 0) (pa_cons pe_int pa_nil))) (fun _ _ => rfl))))))
    pss_nil)
  (pss_cons (ps_set (i := 5) sc__law_spoiled.nd rfl (Or.inl rfl) (pe_call (G__law_draw) (hr.mono (by omega)) rfl T.m__law_draw T.F__law_draw.kp T.b__law_draw .nil pass0 (pa_cons (pv 0) (pa_cons (pe_callB call_len_seq (by rfl) T.n_len (by decide +kernel) (pa_cons (pv 1) pa_nil)) pa_nil))))
  (pss_cons (ps_set (i := 6) sc__law_spoiled.nd rfl (Or.inl rfl) (pe_ix ix_list (pv 1) (pv 5) (fun _ _ => rfl)))
  (pss_cons (ps_if (pt_cmpR op_eq (pv 3) pe_int (nomark _))
    (pss_one (ps_ret (pe_op op_catLN (pe_slice sl_listN (pv 1) po_none (po_some (pv 5))) (pe_slice sl_listN (pv 1) (po_some (pe_op op_add (pv 5) pe_int)) po_none))))
    pss_nil)
  (pss_cons (ps_if (pt_cmpR op_eq (pv 3) pe_int (nomark _))
    (pss_one (ps_ret (pe_op op_catLN (pe_op op_catLN (pe_slice sl_listN (pv 1) po_none (po_some (pv 5))) (pe_lstN (pa_cons (pv 6) pa_nil))) (pe_slice sl_listN (pv 1) (po_some (pv 5)) po_none))))
    pss_nil)
  (pss_cons (ps_if (pt_cmpR op_eq (pv 3) pe_int (nomark _))
    (pss_one (ps_ret (pe_op op_catLN (pe_op op_catLN (pe_op op_catLN (pe_slice sl_listN (pv 1) po_none (po_some (pv 5))) (pe_slice sl_listN (pv 1) (po_some (pe_op op_add (pv 5) pe_int)) (po_some (pe_op op_add (pv 5) pe_int)))) (pe_lstN (pa_cons (pv 6) pa_nil))) (pe_slice sl_listN (pv 1) (po_some (pe_op op_add (pv 5) pe_int)) po_none))))
    pss_nil)
  (pss_cons (ps_set (i := 7) sc__law_spoiled.nd rfl (Or.inl rfl) (pe_lstN (pa_cons (pe_callTy call_listN (by rfl) T.n_list (by decide +kernel) (pa_cons (pv 6) pa_nil)) (pa_cons (pe_slice sl_tupR (pv 6) po_none (po_some pe_int)) (pa_cons (pe_op op_catR (pv 6) (pe_tupN (pa_cons pe_int pa_nil))) (pa_cons (pe_op op_catR (pe_tupN (pa_cons (pe_ix ix_tup (pv 6) pe_int (fun _ _ => rfl)) (pa_cons pe_bl pa_nil))) (pe_slice sl_tupR (pv 6) (po_some pe_int) po_none)) (pa_cons (pe_op op_catR (pe_tupN (pa_cons (pe_ix ix_tup (pv 6) pe_int (fun _ _ => rfl)) (pa_cons (pe_un un_neg pe_int) pa_nil))) (pe_slice sl_tupR (pv 6) (po_some pe_int) po_none)) (pa_cons pe_non pa_nil))))))))
  (pss_cons (ps_set (i := 7) sc__law_spoiled.nd rfl (Or.inl rfl) (pe_op op_catLN (pv 7) (pe_lstN (pa_cons (pe_revT (pv 6)) (pa_cons (pe_tupN (pa_cons pe_str (pa_cons pe_int (pa_cons pe_int pa_nil)))) (pa_cons (pe_tupN (pa_cons pe_str (pa_cons pe_int (pa_cons pe_int pa_nil)))) (pa_cons (pe_tupN (pa_cons pe_str (pa_cons pe_int pa_nil))) (pa_cons (pe_tupN (pa_cons pe_str (pa_cons pe_int pa_nil))) (pa_cons (pe_tupN (pa_cons pe_str (pa_cons pe_int (pa_cons pe_int pa_nil)))) (pa_cons (pe_tupN (pa_cons pe_str (pa_cons (pv 2) (pa_cons pe_int pa_nil)))) (pa_cons pe_str pa_nil)))))))))))
  (pss_one (ps_ret (pe_op op_catLN (pe_op op_catLN (pe_slice sl_listN (pv 1) po_none (po_some (pv 5))) (pe_lstN (pa_cons (pe_ix ix_list (pv 7) (pe_call (G__law_draw) (hr.mono (by omega)) rfl T.m__law_draw T.F__law_draw.kp T.b__law_draw .nil pass0 (pa_cons (pv 0) (pa_cons pe_int pa_nil))) (fun _ _ => rfl)) pa_nil))) (pe_slice sl_listN (pv 1) (po_some (pe_op op_add (pv 5) pe_int)) po_none))))))))))))), ?_⟩
  walk_at "ws"
  refine ⟨hd, c, 7, rfl, hh, by decide, by decide, fun kd H1 k0 k1 g1 hh1 => ?_⟩
  have hst1 := g1.keep st _ (fun q e => by cases e; exact nst) hst
  have hsv1 : ∀ q ∈ sv, Rd H1 q.1 (.tup (Da.stV q.2)) := fun q m => g1.tups _ _ (hsv q m)
  walk_at "wn"
  dsimp only
  refine w_seqM (fun σ H' => 0 < sv.length ∧ σ = [some (.ref hd), some (.ref st), some (.int n), some (.int kd), none, none, none, none] ∧ H' = H1) (fun N1 kN1 => ?_) ?_
  · refine Da.w_ifM (fun b H' => H' = H1 ∧ (b = false → 0 < sv.length)) (fun N2 kN2 => ?_) ?_
    · walk_at "ws"
      refine w_ite (fun e => ?_) (fun e => ?_)
      · exact kN2 _ _ ⟨rfl, fun z => nomatch z⟩
      · walk_at "ws"
        refine ⟨st, _, rfl, .inl (SqL.of hst1), ?_⟩
        walk_at "ws"
        refine kN2 _ _ ⟨rfl, fun z => ?_⟩
        have := of_decide_eq_false z
        rw [ls] at this
        omega
    · rintro b H2 ⟨rfl, hb⟩
      refine w_ite (fun e => ?_) (fun e => ?_)
      · walk_at "ws"
        refine w_dnew (o := none) fun pd H3 hpd g3 h3 => ?_
        have hh3 := (g3 none).up.hand (hd, c) rfl hh1
        have hst3 := (g3 none).all _ _ hst1
        walk_at "ws"
        refine ⟨sz (by simp), fun q1 H4 hq1 g4 h4 => ?_⟩
        have hh4 := (g4 none).up.hand (hd, c) rfl hh3
        walk_at "ws"
        refine ⟨st, q1, _, _, rfl, rfl, (g4 none).all _ _ hst3, h4, by rw [ls]; simp; omega, fun q2 H5 hq2 g5 h5 => ?_⟩
        have hh5 := (g5 none).up.hand (hd, c) rfl hh4
        walk_at "ws"
        refine ⟨sz (by simp), fun q3 H6 hq3 g6 h6 => ?_⟩
        have hh6 := (g6 none).up.hand (hd, c) rfl hh5
        walk_at "ws"
        refine ⟨sz (by simp), fun q4 H7 hq4 g7 h7 => ?_⟩
        have hh7 := (g7 none).up.hand (hd, c) rfl hh6
        have g37 := (((g4 none).trans (g5 none)).trans (g6 none)).trans (g7 none)
        walk_at "ws"
        refine ⟨st, q4, _, _, rfl, rfl, g37.all _ _ hst3, h7, by rw [ls]; simp; omega, fun q5 H8 hq5 g8 h8 => ?_⟩
        have hh8 := (g8 none).up.hand (hd, c) rfl hh7
        walk_at "ws"
        refine ⟨sz (by simp), fun q6 H9 hq6 g9 h9 => ?_⟩
        have hh9 := (g9 none).up.hand (hd, c) rfl hh8
        have g39 := (g37.trans (g8 none)).trans (g9 none)
        have hst9 := g39.all _ _ hst3
        have g19 := (g3 none).trans g39
        have any9 : AnyL a.c_Web hd H9 (Da.svR sv) := (sv_any hsv1).n g19
        have s2 : Stn K a.c_Web hd H9 (.ref q2) := stn_lst (((((g6 none).trans (g7 none)).trans (g8 none)).trans (g9 none)).all _ _ h5) (any9.app (.cons .non .nil)) (by rw [List.length_append, ls]; simp; omega) (hh4.ne hq2)
        have s5 : Stn K a.c_Web hd H9 (.ref q5) := by
          obtain ⟨t3, ht3⟩ : ∃ t, Ab a.c_Web hd H9 (.ref q3) t := any_tup (xs := [.str "put", .int 0]) (.inl ((((g7 none).trans (g8 none)).trans (g9 none)).all _ _ h6)) (.cons (.str _) (.cons (.int _) .nil))
          exact stn_lst ((g9 none).all _ _ h8) (any9.app (.cons ht3 .nil)) (by rw [List.length_append, ls]; simp; omega) (hh7.ne hq5)
        have s6 : Stn K a.c_Web hd H9 (.ref q6) := stn_lst h9 (.cons (ab_lst nst hst9) .nil) (by simp) (hh8.ne hq6)
        have sd : Stn K a.c_Web hd H9 (.ref pd) := stn_dK (g39.all _ _ h3) (hh1.ne hpd)
        walk_at "ws"
        refine ⟨hd, c, rfl, hh9, fun v HA gA hhA _ sv' => ?_⟩
        walk_at "ws"
        refine ⟨sz (by simp), fun od HB hod gB hB => ?_⟩
        have hhB := (gB none).up.hand (hd, c) rfl hhA
        have nod := hhA.ne hod
        walk_at "ws"
        refine i_BM hB ?_
        walk_at "ws"
        refine ⟨sz (by simp), fun q7 HC hq7 gC hC => ?_⟩
        have hhC := (gC none).up.hand (hd, c) rfl hhB
        walk_at "ws"
        refine ⟨sz (by simp), fun q8 HD hq8 gD hD => ?_⟩
        have hhD := (gD none).up.hand (hd, c) rfl hhC
        walk_at "ws"
        refine ⟨q8, 4001, .ref q7, rfl, rfl, hD, by decide, by decide, fun q9 HE hq9 gE hE => ?_⟩
        have hhE := (gE none).up.hand (hd, c) rfl hhD
        have gBE := ((gC none).trans (gD none)).trans (gE none)
        have hBE := gBE.all _ _ hB
        walk_at "ws"
        refine r_app hBE (by simp) ?_
        have gAF : G none HA (upd HE od (.lst ([V.non, .ref pd, .str "put", .int 0, .ref q2, .ref q5, .ref q6, v] ++ [.ref q9]))) := ((gB none).trans gBE).mut hod (fun _ e => nomatch e)
        have hF : upd HE od (.lst ([V.non, .ref pd, .str "put", .int 0, .ref q2, .ref q5, .ref q6, v] ++ [.ref q9])) od = some (.lst ([V.non, .ref pd, .str "put", .int 0, .ref q2, .ref q5, .ref q6, v] ++ [.ref q9])) := upd_same
        have n9 : q9 ≠ od := (ne_of_none (((gC none).trans (gD none)).all _ _ hB) hq9).symm
        have nin : ∀ x ∈ ([V.non, .ref pd, .str "put", .int 0, .ref q2, .ref q5, .ref q6, v] ++ [.ref q9]), Stn K a.c_Web hd (upd HE od (.lst ([V.non, .ref pd, .str "put", .int 0, .ref q2, .ref q5, .ref q6, v] ++ [.ref q9]))) x := fun x hx => by
          simp only [List.cons_append, List.nil_append, List.mem_cons, List.not_mem_nil, or_false] at hx
          rcases hx with rfl | rfl | rfl | rfl | rfl | rfl | rfl | rfl | rfl
          · exact stn_non
          · exact (sd.g gA).n gAF
          · exact stn_str
          · exact stn_int
          · exact (s2.g gA).n gAF
          · exact (s5.g gA).n gAF
          · exact (s6.g gA).n gAF
          · exact sv'.n gAF
          · obtain ⟨t7, ht7⟩ : ∃ t, Ab a.c_Web hd (upd HE od (.lst ([V.non, .ref pd, .str "put", .int 0, .ref q2, .ref q5, .ref q6, v] ++ [.ref q9]))) (.ref q7) t := any_tup (xs := [.str "put", .int 0]) (Ts.updl hBE _ _ (.inl (((gD none).trans (gE none)).all _ _ hC))) (.cons (.str _) (.cons (.int _) .nil))
            exact stn_lst (by rw [upd_ne n9]; exact hE) (fun x hx => ⟨t7, by rw [List.eq_of_mem_replicate hx]; exact ht7⟩) (by rw [List.length_replicate]; decide) (hhD.ne hq9)
        generalize upd HE od (.lst ([V.non, .ref pd, .str "put", .int 0, .ref q2, .ref q5, .ref q6, v] ++ [.ref q9])) = HF at gAF hF nin ⊢
        have hhF : Hand HF hd c := gAF.up.hand (hd, c) rfl hhA
        walk_at "ws"
        refine ⟨hd, c, 9, rfl, hhF, by decide, by decide, fun r HG r0 r1 gG hhG => ?_⟩
        obtain ⟨x, ex, mx⟩ := at_mem (xs := [V.non, .ref pd, .str "put", .int 0, .ref q2, .ref q5, .ref q6, v] ++ [.ref q9]) r0 (by simpa using r1)
        refine r_ixL (SqL.of (gG.keep od _ (fun q e => by cases e; exact nod) hF)) ex ?_
        exact k x HG ((((g1.trans g19.up).trans gA).trans gAF.up).trans gG) hhG ((nin x mx).g gG)
      · walk_at "ws"
        exact kN1 _ _ ⟨hb e, rfl, rfl⟩
  · rintro σ H2 ⟨pos, rfl, rfl⟩
    walk_at "ws"
    refine ⟨st, _, rfl, .inl (SqL.of hst1), ?_⟩
    walk_at "ws"
    rw [ls]
    refine ⟨hd, c, (sv.length : Int), rfl, hh1, by omega, by omega, fun r H3 r0 r1 g3 hh3 => ?_⟩
    have g03 := g1.trans g3
    have hst3 := g3.keep st _ (fun q e => by cases e; exact nst) hst1
    have hsv3 : ∀ q ∈ sv, Rd H3 q.1 (.tup (Da.stV q.2)) := fun q m => g3.tups _ _ (hsv1 q m)
    have any3 : AnyL a.c_Web hd H3 (Da.svR sv) := sv_any hsv3
    obtain ⟨x, ex, mx⟩ := at_mem (xs := Da.svR sv) r0 (by rw [ls]; exact r1)
    obtain ⟨⟨tp, stp⟩, mq, rfl⟩ := List.mem_map.mp mx
    have htp : Rd H3 tp (.tup (Da.stV stp)) := hsv3 _ mq
    obtain ⟨tx, htx⟩ := any_tup (D := a.c_Web) (hd := hd) htp (stV_any stp)
    dsimp only at ex
    clear hst1 hsv1 hst hsv mq mx
    walk_at "ws"
    refine r_ixL (SqL.of hst3) ex ?_
    walk_at "ws"
    refine w_ite (fun e => ?_) (fun e => ?_)
    · walk_at "ws"
      have hst_0 := hst3
      refine ⟨st, _, rfl, SqL.of hst_0, fun p0 J0 np0 jg0 jh0 => ?_⟩
      have l0_1 := jh0
      have hst_1 := (jg0 none).all _ _ hst_0
      have gg_0 := (jg0 none)
      walk_at "ws"
      refine ⟨st, _, rfl, SqL.of hst_1, fun p1 J1 np1 jg1 jh1 => ?_⟩
      have l1_2 := jh1
      have l0_2 := (jg1 none).all _ _ l0_1
      have hst_2 := (jg1 none).all _ _ hst_1
      have gg_1 := gg_0.trans (jg1 none)
      walk_at "ws"
      refine ⟨p0, p1, _, _, rfl, rfl, l0_2, l1_2, Nat.le_trans (Nat.add_le_add (Nat.le_trans (cut_le _ _ _) zz) (Nat.le_trans (cut_le _ _ _) zz)) (by decide), fun p2 J2 np2 jg2 jh2 => ?_⟩
      have l2_3 := jh2
      have l0_3 := (jg2 none).all _ _ l0_2
      have l1_3 := (jg2 none).all _ _ l1_2
      have hst_3 := (jg2 none).all _ _ hst_2
      have gg_2 := gg_1.trans (jg2 none)
      have hhp : Hand J1 hd c := gg_1.up.hand (hd, c) rfl hh3
      have anyN : AnyL a.c_Web hd J2 (Da.svR sv) := any3.n gg_2
      have oneN : AnyL a.c_Web hd J2 [.ref tp] := .cons (htx.n gg_2) .nil
      exact k _ _ (g03.trans gg_2.up) (gg_2.up.hand (hd, c) rfl hh3) (stn_lst jh2 ((anyN.cut _ _).app (anyN.cut _ _)) (Nat.le_trans (app_le (Nat.le_trans (cut_le _ _ _) zz) (Nat.le_trans (cut_le _ _ _) zz)) (by decide)) (hhp.ne np2))
    · walk_at "ws"
      refine w_ite (fun e => ?_) (fun e => ?_)
      · walk_at "ws"
        have hst_0 := hst3
        refine ⟨st, _, rfl, SqL.of hst_0, fun p0 J0 np0 jg0 jh0 => ?_⟩
        have l0_1 := jh0
        have hst_1 := (jg0 none).all _ _ hst_0
        have gg_0 := (jg0 none)
        walk_at "ws"
        refine ⟨sz (by simp), fun p1 J1 np1 jg1 jh1 => ?_⟩
        have l1_2 := jh1
        have l0_2 := (jg1 none).all _ _ l0_1
        have hst_2 := (jg1 none).all _ _ hst_1
        have gg_1 := gg_0.trans (jg1 none)
        walk_at "ws"
        refine ⟨p0, p1, _, _, rfl, rfl, l0_2, l1_2, Nat.le_trans (Nat.add_le_add (Nat.le_trans (cut_le _ _ _) zz) (Nat.le_refl 1)) (by decide), fun p2 J2 np2 jg2 jh2 => ?_⟩
        have l2_3 := jh2
        have l0_3 := (jg2 none).all _ _ l0_2
        have l1_3 := (jg2 none).all _ _ l1_2
        have hst_3 := (jg2 none).all _ _ hst_2
        have gg_2 := gg_1.trans (jg2 none)
        walk_at "ws"
        refine ⟨st, _, rfl, SqL.of hst_3, fun p3 J3 np3 jg3 jh3 => ?_⟩
        have l3_4 := jh3
        have l0_4 := (jg3 none).all _ _ l0_3
        have l1_4 := (jg3 none).all _ _ l1_3
        have l2_4 := (jg3 none).all _ _ l2_3
        have hst_4 := (jg3 none).all _ _ hst_3
        have gg_3 := gg_2.trans (jg3 none)
        walk_at "ws"
        refine ⟨p2, p3, _, _, rfl, rfl, l2_4, l3_4, Nat.le_trans (Nat.add_le_add (app_le (Nat.le_trans (cut_le _ _ _) zz) (Nat.le_refl 1)) (Nat.le_trans (cut_le _ _ _) zz)) (by decide), fun p4 J4 np4 jg4 jh4 => ?_⟩
        have l4_5 := jh4
        have l0_5 := (jg4 none).all _ _ l0_4
        have l1_5 := (jg4 none).all _ _ l1_4
        have l2_5 := (jg4 none).all _ _ l2_4
        have l3_5 := (jg4 none).all _ _ l3_4
        have hst_5 := (jg4 none).all _ _ hst_4
        have gg_4 := gg_3.trans (jg4 none)
        have hhp : Hand J3 hd c := gg_3.up.hand (hd, c) rfl hh3
        have anyN : AnyL a.c_Web hd J4 (Da.svR sv) := any3.n gg_4
        have oneN : AnyL a.c_Web hd J4 [.ref tp] := .cons (htx.n gg_4) .nil
        exact k _ _ (g03.trans gg_4.up) (gg_4.up.hand (hd, c) rfl hh3) (stn_lst jh4 (((anyN.cut _ _).app oneN).app (anyN.cut _ _)) (Nat.le_trans (app_le (app_le (Nat.le_trans (cut_le _ _ _) zz) (Nat.le_refl 1)) (Nat.le_trans (cut_le _ _ _) zz)) (by decide)) (hhp.ne np4))
      · walk_at "ws"
        refine w_ite (fun e => ?_) (fun e => ?_)
        · walk_at "ws"
          have hst_0 := hst3
          refine ⟨st, _, rfl, SqL.of hst_0, fun p0 J0 np0 jg0 jh0 => ?_⟩
          have l0_1 := jh0
          have hst_1 := (jg0 none).all _ _ hst_0
          have gg_0 := (jg0 none)
          walk_at "ws"
          refine ⟨st, _, rfl, SqL.of hst_1, fun p1 J1 np1 jg1 jh1 => ?_⟩
          have l1_2 := jh1
          have l0_2 := (jg1 none).all _ _ l0_1
          have hst_2 := (jg1 none).all _ _ hst_1
          have gg_1 := gg_0.trans (jg1 none)
          walk_at "ws"
          refine ⟨p0, p1, _, _, rfl, rfl, l0_2, l1_2, Nat.le_trans (Nat.add_le_add (Nat.le_trans (cut_le _ _ _) zz) (Nat.le_trans (cut_le _ _ _) zz)) (by decide), fun p2 J2 np2 jg2 jh2 => ?_⟩
          have l2_3 := jh2
          have l0_3 := (jg2 none).all _ _ l0_2
          have l1_3 := (jg2 none).all _ _ l1_2
          have hst_3 := (jg2 none).all _ _ hst_2
          have gg_2 := gg_1.trans (jg2 none)
          walk_at "ws"
          refine ⟨sz (by simp), fun p3 J3 np3 jg3 jh3 => ?_⟩
          have l3_4 := jh3
          have l0_4 := (jg3 none).all _ _ l0_3
          have l1_4 := (jg3 none).all _ _ l1_3
          have l2_4 := (jg3 none).all _ _ l2_3
          have hst_4 := (jg3 none).all _ _ hst_3
          have gg_3 := gg_2.trans (jg3 none)
          walk_at "ws"
          refine ⟨p2, p3, _, _, rfl, rfl, l2_4, l3_4, Nat.le_trans (Nat.add_le_add (app_le (Nat.le_trans (cut_le _ _ _) zz) (Nat.le_trans (cut_le _ _ _) zz)) (Nat.le_refl 1)) (by decide), fun p4 J4 np4 jg4 jh4 => ?_⟩
          have l4_5 := jh4
          have l0_5 := (jg4 none).all _ _ l0_4
          have l1_5 := (jg4 none).all _ _ l1_4
          have l2_5 := (jg4 none).all _ _ l2_4
          have l3_5 := (jg4 none).all _ _ l3_4
          have hst_5 := (jg4 none).all _ _ hst_4
          have gg_4 := gg_3.trans (jg4 none)
          walk_at "ws"
          refine ⟨st, _, rfl, SqL.of hst_5, fun p5 J5 np5 jg5 jh5 => ?_⟩
          have l5_6 := jh5
          have l0_6 := (jg5 none).all _ _ l0_5
          have l1_6 := (jg5 none).all _ _ l1_5
          have l2_6 := (jg5 none).all _ _ l2_5
          have l3_6 := (jg5 none).all _ _ l3_5
          have l4_6 := (jg5 none).all _ _ l4_5
          have hst_6 := (jg5 none).all _ _ hst_5
          have gg_5 := gg_4.trans (jg5 none)
          walk_at "ws"
          refine ⟨p4, p5, _, _, rfl, rfl, l4_6, l5_6, Nat.le_trans (Nat.add_le_add (app_le (app_le (Nat.le_trans (cut_le _ _ _) zz) (Nat.le_trans (cut_le _ _ _) zz)) (Nat.le_refl 1)) (Nat.le_trans (cut_le _ _ _) zz)) (by decide), fun p6 J6 np6 jg6 jh6 => ?_⟩
          have l6_7 := jh6
          have l0_7 := (jg6 none).all _ _ l0_6
          have l1_7 := (jg6 none).all _ _ l1_6
          have l2_7 := (jg6 none).all _ _ l2_6
          have l3_7 := (jg6 none).all _ _ l3_6
          have l4_7 := (jg6 none).all _ _ l4_6
          have l5_7 := (jg6 none).all _ _ l5_6
          have hst_7 := (jg6 none).all _ _ hst_6
          have gg_6 := gg_5.trans (jg6 none)
          have hhp : Hand J5 hd c := gg_5.up.hand (hd, c) rfl hh3
          have anyN : AnyL a.c_Web hd J6 (Da.svR sv) := any3.n gg_6
          have oneN : AnyL a.c_Web hd J6 [.ref tp] := .cons (htx.n gg_6) .nil
          exact k _ _ (g03.trans gg_6.up) (gg_6.up.hand (hd, c) rfl hh3) (stn_lst jh6 ((((anyN.cut _ _).app (anyN.cut _ _)).app oneN).app (anyN.cut _ _)) (Nat.le_trans (app_le (app_le (app_le (Nat.le_trans (cut_le _ _ _) zz) (Nat.le_trans (cut_le _ _ _) zz)) (Nat.le_refl 1)) (Nat.le_trans (cut_le _ _ _) zz)) (by decide)) (hhp.ne np6))
        · walk_at "ws"
          obtain ⟨z0, zs0, ez⟩ := stV_cons stp
          have az : ∃ t, Ab a.c_Web hd H3 z0 t := stV_any stp z0 (by rw [ez]; exact List.mem_cons_self)
          have any_st : ∀ {H' : Hp}, AnyL a.c_Web hd H' (Da.stV stp) := fun {H'} => stV_any stp
          have lz : (Da.stV stp).length ≤ 3 := by cases stp <;> simp [Da.stV]
          refine ⟨tp, _, rfl, .inr (.inl htp), fun q1 H4 hq1 g4 h4 => ?_⟩
          have htp4 := (g4 none).tups _ _ htp
          have hh4 := (g4 none).up.hand (hd, c) rfl hh3
          walk_at "ws"
          refine ⟨tp, _, rfl, htp4, fun q2 H5 g5 r5 => ?_⟩
          have htp5 := (g5 none).tups _ _ htp4
          walk_at "ws"
          refine ⟨sz (by simp), fun q3 H6 hq3 g6 h6 => ?_⟩
          have htp6 := (g6 none).tups _ _ htp5
          walk_at "ws"
          refine ⟨tp, q3, _, _, rfl, rfl, htp6, .inl h6, by simp; omega, fun q4 H7 g7 r7 => ?_⟩
          have htp7 := (g7 none).tups _ _ htp6
          walk_at "ws"
          refine r_ixT (.inl htp7) (v := z0) (at_of (j := 0) (by omega) (by rw [ez]; rfl)) ?_
          walk_at "ws"
          refine ⟨sz (by simp), fun q5 H8 hq5 g8 h8 => ?_⟩
          have htp8 := (g8 none).tups _ _ htp7
          walk_at "ws"
          refine ⟨tp, _, rfl, htp8, fun q6 H9 g9 r9 => ?_⟩
          have htp9 := (g9 none).tups _ _ htp8
          walk_at "ws"
          refine ⟨q5, q6, _, _, rfl, rfl, .inl ((g9 none).all _ _ h8), r9, Nat.le_trans (Nat.add_le_add (Nat.le_refl 2) (Nat.le_trans (cut_le _ _ _) lz)) (by decide), fun q7 HA gA rA => ?_⟩
          have htpA := (gA none).tups _ _ htp9
          walk_at "ws"
          refine r_ixT (.inl htpA) (v := z0) (at_of (j := 0) (by omega) (by rw [ez]; rfl)) ?_
          walk_at "ws"
          refine ⟨sz (by simp), fun q8 HB hq8 gB hB => ?_⟩
          have htpB := (gB none).tups _ _ htpA
          walk_at "ws"
          refine ⟨tp, _, rfl, htpB, fun q9 HC gC rC => ?_⟩
          have htpC := (gC none).tups _ _ htpB
          walk_at "ws"
          refine ⟨q8, q9, _, _, rfl, rfl, .inl ((gC none).all _ _ hB), rC, Nat.le_trans (Nat.add_le_add (Nat.le_refl 2) (Nat.le_trans (cut_le _ _ _) lz)) (by decide), fun qa HD gD rD => ?_⟩
          walk_at "ws"
          refine ⟨sz (by simp), fun th HE hth gE hE => ?_⟩
          have gDE := gE none
          have gBE := ((gC none).trans (gD none)).trans gDE
          have g9E := ((gA none).trans (gB none)).trans gBE
          have g7E := ((g8 none).trans (g9 none)).trans g9E
          have g4E := ((g5 none).trans (g6 none)).trans ((g7 none).trans g7E)
          have g3E := (g4 none).trans g4E
          obtain ⟨tz, htz⟩ := az
          have tailA : ∀ {H' : Hp}, AnyL a.c_Web hd H' (cutV (Da.stV stp) (some 2) none) := fun {H'} => (stV_any stp).cut _ _
          have any1 : AnyL a.c_Web hd HE [.ref q1, .ref q2, .ref q4, .ref q7, .ref qa, .non] := fun x hx => by
            simp only [List.mem_cons, List.not_mem_nil, or_false] at hx
            rcases hx with rfl | rfl | rfl | rfl | rfl | rfl
            · exact ⟨_, ab_lst (hh3.ne hq1) (g4E.all _ _ h4)⟩
            · exact any_tup ((((g6 none).trans ((g7 none).trans g7E))).tups _ _ r5) ((stV_any stp).cut _ _)
            · exact any_tup (g7E.tups _ _ r7) ((stV_any stp).app (.cons (.int _) .nil))
            · exact any_tup (((gB none).trans gBE).tups _ _ rA) (AnyL.app (.cons (htz.n g3E) (.cons (.bl _) .nil)) tailA)
            · exact any_tup (gDE.tups _ _ rD) (AnyL.app (.cons (htz.n g3E) (.cons (.int _) .nil)) tailA)
            · exact ⟨_, .non⟩
          have htpE : Rd HE tp (.tup (Da.stV stp)) := g3E.tups _ _ htp
          have hhE := g3E.up.hand (hd, c) rfl hh3
          have hstE := g3E.all _ _ hst3
          clear h4 r5 r7 h8 r9 rA hB rC rD htp4 htp5 htp6 htp7 htp8 htp9 htpA htpB htpC hq1 hq3 hq5 hq8 hh4 h6
          walk_at "ws"
          refine w_revT ?_
          walk_at "ws"
          refine ⟨tp, _, rfl, .inl htpE, fun r1 I1 hr1 i1 j1 => ?_⟩
          walk_at "ws"
          refine ⟨sz (by simp), fun r2 I2 hr2 i2 j2 => ?_⟩
          walk_at "ws"
          refine ⟨sz (by simp), fun r3 I3 hr3 i3 j3 => ?_⟩
          walk_at "ws"
          refine ⟨sz (by simp), fun r4 I4 hr4 i4 j4 => ?_⟩
          walk_at "ws"
          refine ⟨sz (by simp), fun r5 I5 hr5 i5 j5 => ?_⟩
          walk_at "ws"
          refine ⟨sz (by simp), fun r6 I6 hr6 i6 j6 => ?_⟩
          walk_at "ws"
          refine ⟨sz (by simp), fun r7 I7 hr7 i7 j7 => ?_⟩
          walk_at "ws"
          refine ⟨sz (by simp), fun th2 I8 hth2 i8 j8 => ?_⟩
          have y7 := i8 none
          have y6 := (i7 none).trans y7
          have y5 := (i6 none).trans y6
          have y4 := (i5 none).trans y5
          have y3 := (i4 none).trans y4
          have y2 := (i3 none).trans y3
          have y1 := (i2 none).trans y2
          have y0 := (i1 none).trans y1
          have hthE := y0.all _ _ hE
          refine ⟨th, th2, _, _, rfl, rfl, hthE, j8, by simp, fun tl I9 htl i9 j9 => ?_⟩
          have any2 : AnyL a.c_Web hd I9 ([.ref q1, .ref q2, .ref q4, .ref q7, .ref qa, .non] ++ [.ref r1, .ref r2, .ref r3, .ref r4, .ref r5, .ref r6, .ref r7, .str ""]) := by
            refine (any1.n (y0.trans (i9 none))).app fun x hx => ?_
            simp only [List.mem_cons, List.not_mem_nil, or_false] at hx
            have t3 : ∀ (s : Str) (i j : Int), AnyL a.c_Web hd I9 [.str s, .int i, .int j] := fun s i j => .cons (.str _) (.cons (.int _) (.cons (.int _) .nil))
            have t2 : ∀ (s : Str) (i : Int), AnyL a.c_Web hd I9 [.str s, .int i] := fun s i => .cons (.str _) (.cons (.int _) .nil)
            rcases hx with rfl | rfl | rfl | rfl | rfl | rfl | rfl | rfl
            · exact any_tup (.inl ((y1.trans (i9 none)).all _ _ j1)) (pick_any (stV_any stp) _ _)
            · exact any_tup (.inl ((y2.trans (i9 none)).all _ _ j2)) (t3 _ _ _)
            · exact any_tup (.inl ((y3.trans (i9 none)).all _ _ j3)) (t3 _ _ _)
            · exact any_tup (.inl ((y4.trans (i9 none)).all _ _ j4)) (t2 _ _)
            · exact any_tup (.inl ((y5.trans (i9 none)).all _ _ j5)) (t2 _ _)
            · exact any_tup (.inl ((y6.trans (i9 none)).all _ _ j6)) (t3 _ _ _)
            · exact any_tup (.inl ((y7.trans (i9 none)).all _ _ j7)) (t3 _ _ _)
            · exact ⟨_, .str _⟩
          have gE9 := y0.trans (i9 none)
          have hh9 := gE9.up.hand (hd, c) rfl hhE
          have ntl : tl ≠ hd := (y0.up.hand (hd, c) rfl hhE).ne htl
          have hst9 := gE9.all _ _ hstE
          have g39 := g3E.trans gE9
          clear any1 hthE j1 j2 j3 j4 j5 j6 j7 j8 y0 y1 y2 y3 y4 y5 y6 y7 htpE hE
          walk_at "ws"
          refine ⟨st, _, rfl, SqL.of hst9, fun p0 J0 np0 jg0 jh0 => ?_⟩
          have hh0 := (jg0 none).up.hand (hd, c) rfl hh9
          walk_at "ws"
          refine ⟨hd, c, 14, rfl, hh0, by decide, by decide, fun r' J1 r0' r1' jg1 hhJ1 => ?_⟩
          have tlJ := jg1.keep tl _ (fun q e => by cases e; exact ntl) ((jg0 none).all _ _ j9)
          obtain ⟨x, ex, mx⟩ := at_mem (xs := [.ref q1, .ref q2, .ref q4, .ref q7, .ref qa, .non] ++ [.ref r1, .ref r2, .ref r3, .ref r4, .ref r5, .ref r6, .ref r7, .str ""]) r0' (by simpa using r1')
          obtain ⟨tx2, htx2⟩ := (((any2.n (jg0 none)).g jg1) x mx)
          refine r_ixL (SqL.of tlJ) ex ?_
          walk_at "ws"
          refine ⟨sz (by simp), fun p1 J2 np1 jg2 jh2 => ?_⟩
          have n0 : p0 ≠ hd := hh9.ne np0
          have l0 := (jg2 none).all _ _ (jg1.keep p0 _ (fun q e => by cases e; exact n0) jh0)
          walk_at "ws"
          refine ⟨p0, p1, _, _, rfl, rfl, l0, jh2, Nat.le_trans (Nat.add_le_add (Nat.le_trans (cut_le _ _ _) zz) (Nat.le_refl 1)) (by decide), fun p2 J3 np2 jg3 jh3 => ?_⟩
          have hstJ := ((jg2 none).trans (jg3 none)).all _ _ (jg1.keep st _ (fun q e => by cases e; exact nst) ((jg0 none).all _ _ hst9))
          walk_at "ws"
          refine ⟨st, _, rfl, SqL.of hstJ, fun p3 J4 np3 jg4 jh4 => ?_⟩
          refine ⟨p2, p3, _, _, rfl, rfl, (jg4 none).all _ _ jh3, jh4, Nat.le_trans (Nat.add_le_add (app_le (Nat.le_trans (cut_le _ _ _) zz) (Nat.le_refl 1)) (Nat.le_trans (cut_le _ _ _) zz)) (by decide), fun p4 J5 np4 jg5 jh5 => ?_⟩
          have gg := (((jg2 none).trans (jg3 none)).trans (jg4 none)).trans (jg5 none)
          have anyN : AnyL a.c_Web hd J5 (Da.svR sv) := (((any3.n g39).n (jg0 none)).g jg1).n gg
          have hhJ4 := ((((jg2 none).trans (jg3 none)).trans (jg4 none))).up.hand (hd, c) rfl hhJ1
          exact k _ _ ((((g03.trans g39.up).trans (jg0 none).up).trans jg1).trans gg.up) (gg.up.hand (hd, c) rfl hhJ1) (stn_lst jh5 (((anyN.cut _ _).app (.cons (htx2.n gg) .nil)).app (anyN.cut _ _)) (Nat.le_trans (app_le (app_le (Nat.le_trans (cut_le _ _ _) zz) (Nat.le_refl 1)) (Nat.le_trans (cut_le _ _ _) zz)) (by decide)) (hhJ4.ne np4))

end
end Mine
/-! ## GDQ -/
end
namespace PySem.W
open Lean PySem PySem.Calls PyProof.Rows PyProof.V PySem.Spec
open PySem.SeqAt (EqIn EqAt)
section
variable {prog : Program} {w : World} {K : Type} [DecidableEq K] {knd : HeapKind prog w K} {A : Around} {E : Value → Shared → Prop} {s : Shared}
/-- two dicts with the same keys in the same order whose values are equal -/
theorem ga_samePairs {nm : String} {a b : Addr} {ka kb : List (K × Addr × Value)} {Q : Bool → Shared → Prop} (hu : knd.room A) (ha : (a == sysModules) = false) (hb : (b == sysModules) = false)
    (da : s.heap.DictOfH knd a ka) (db : s.heap.DictOfH knd b kb) (len : ka.length = kb.length)
    (each : ∀ (i : Nat) x y, ka[i]? = some x → kb[i]? = some y → x.1 = y.1 ∧ EqIn prog w A s x.2.2 y.2.2 true) (h : Q true s) :
    wpAny (model prog w) A (Builtin.Dict.samePairs nm a b) Q E s := by
  obtain ⟨oa, es, ep, hoa, _, hda, hka, isa, nda⟩ := da
  obtain ⟨ob, es', ep', hob, _, hdb, hkb, isb, ndb⟩ := db
  have hla : es.size = ka.length := size_of_entries hka
  have hlb : es'.size = kb.length := size_of_entries hkb
  unfold Builtin.Dict.samePairs Builtin.Dict.showsAll
  rw [if_neg (show ¬ (a == sysModules) = true by rw [ha]; exact Bool.false_ne_true), if_neg (show ¬ (b == sysModules) = true by rw [hb]; exact Bool.false_ne_true)]
  refine wpAny_bind (wpAny_pure (wpAny_bind (wpAny_pure ?_)))
  refine wpAny_bind (wpAny_dictEntries hoa hda ?_)
  dsimp only
  refine wpAny_bind (wpAny_dictEntries hob hdb ?_)
  have hsz : es.size = es'.size := by omega
  rw [if_neg (by rw [hsz]; simp)]
  refine wpAny_bind (wpAny_dictEpoch hoa hda ?_)
  refine wpAny_bind ?_
  rw [Std.Legacy.Range.forIn_eq_forIn_range']
  simp only [Std.Legacy.Range.size, Nat.sub_zero, Nat.add_sub_cancel, Nat.div_one]
  refine wpAny_forIn_list _
    (fun rest q s' => s' = s ∧ q = (none, ()) ∧ ∃ i, rest = List.range' i (es.size - i) ∧ i ≤ es.size)
    _ ?_ ?_ _ _ ⟨rfl, rfl, 0, by simp, Nat.zero_le _⟩
  · rintro x rest q s' ⟨rfl, rfl, i, hr, hi⟩
    have hlt : i < es.size := by
      rcases Nat.lt_or_ge i es.size with h | h
      · exact h
      · rw [Nat.sub_eq_zero_of_le h] at hr; simp at hr
    obtain ⟨rfl, hrest⟩ : x = i ∧ rest = List.range' (i + 1) (es.size - (i + 1)) := by
      have e : es.size - i = (es.size - (i + 1)) + 1 := by omega
      rw [e, List.range'_succ] at hr
      injection hr with h1 h2
      exact ⟨h1, h2⟩
    obtain ⟨y, hy⟩ : ∃ y, ka[x]? = some y := ⟨_, List.getElem?_eq_getElem (by omega)⟩
    obtain ⟨z, hz⟩ : ∃ z, kb[x]? = some z := ⟨_, List.getElem?_eq_getElem (by omega)⟩
    obtain ⟨exy, hv⟩ := each x y z hy hz
    refine wpAny_bind (wpAny_dictEntries hoa hda ?_)
    have e1 : es[x]? = some (entryOfKey knd y) := by rw [entry_at hka x, hy]; rfl
    rw [e1]
    show wpAny _ _ (holding [Value.ref y.2.1, y.2.2] _ >>= _) _ _ _
    refine wpAny_bind (wpAny_holding (wpAny_bind ?_))
    show wpAny _ _ (dictFind b (.ref y.2.1) (knd.hash y.1)) _ _ _
    refine wpAny_dictFind_heap hu (isa y (List.mem_of_getElem? hy)) hob hdb hkb isb ndb (fun hn => ?_) (fun j p hj => ?_)
    · exact absurd (show kb[x]? = some (y.1, z.2) by rw [hz, exy]) (hn x z.2)
    · have ej : j = x := idxH_unique ndb hj (show kb[x]? = some (y.1, z.2) by rw [hz, exy])
      subst ej
      refine wpAny_bind (wpAny_dictEntries hob hdb ?_)
      have e2 : es'[j]? = some (entryOfKey knd z) := by rw [entry_at hkb j, hz]; rfl
      rw [e2]
      refine wpAny_holding (hv _ _ ?_)
      show wpAny _ _ (if (!true) = true then _ else _) _ _ _
      rw [if_neg (by decide)]
      refine wpAny_bind (wpAny_dictEpoch hoa hda ?_)
      rw [if_neg (by simp)]
      exact wpAny_pure ⟨rfl, rfl, j + 1, hrest, hlt⟩
  · rintro q s' ⟨rfl, rfl, i, hr, hi⟩
    exact wpAny_pure h
theorem ga_dict_eq {a b : Addr} {ka kb : List (K × Addr × Value)} {Q : Value → Shared → Prop} (hu : A.units < cLine) (hr : knd.room A.in1) (ha : (a == sysModules) = false) (hb : (b == sysModules) = false)
    (da : s.heap.DictOfH knd a ka) (db : s.heap.DictOfH knd b kb) (len : ka.length = kb.length)
    (each : ∀ (i : Nat) x y, ka[i]? = some x → kb[i]? = some y → x.1 = y.1 ∧ EqIn prog w A.in1 s x.2.2 y.2.2 true) (h : Q (.bool true) s) :
    wpAny (model prog w) A (compareOp .Eq (.ref a) (.ref b)) Q E s := by
  refine wpAny_richCompare_same_room (op := .Eq) da.typeIs db.typeIs PySem.F.slot_dict_eq (wpAny_call_entry PySem.F.slot_dict_eq da.typeIs PySem.F.entry_dict_eq ?_ (PySem.F.args_dict_eq_2 _ _)) hu
  show wpAny _ _ (Builtin.Dict.dictSlotArgs "__eq__" ⟨[.ref a, .ref b], []⟩ >>= _) _ _ s
  refine wpAny_bind ?_
  unfold Builtin.Dict.dictSlotArgs
  refine wpAny_bind (wpAny_notOrdered_dict da.typeIs ?_)
  show wpAny _ _ (pure (Value.ref a, Value.ref b)) _ _ s
  refine wpAny_pure ?_
  refine wpAny_bind (wpAny_isInstance (T := "dict") db.typeIs PySem.F.sub_dict_dict ?_)
  simp only [Bool.not_true, Bool.false_eq_true, if_false]
  refine wpAny_bind (wpAny_pure (wpAny_bind (wpAny_pure ?_)))
  refine wpAny_bind (ga_samePairs hr ha hb da db len each ?_)
  refine wpAny_pure ⟨_, rfl, ?_, ?_⟩
  · exact fun x => nomatch x
  · simpa using h
theorem ga_dict_ne {a b : Addr} {ka kb : List (K × Addr × Value)} {Q : Value → Shared → Prop} (hu : A.units < cLine) (hr : knd.room A.in1) (ha : (a == sysModules) = false) (hb : (b == sysModules) = false)
    (da : s.heap.DictOfH knd a ka) (db : s.heap.DictOfH knd b kb) (len : ka.length = kb.length)
    (each : ∀ (i : Nat) x y, ka[i]? = some x → kb[i]? = some y → x.1 = y.1 ∧ EqIn prog w A.in1 s x.2.2 y.2.2 true) (h : Q (.bool false) s) :
    wpAny (model prog w) A (compareOp .NotEq (.ref a) (.ref b)) Q E s := by
  refine wpAny_richCompare_same_room (op := .NotEq) da.typeIs db.typeIs PySem.F.slot_dict_ne (wpAny_call_entry PySem.F.slot_dict_ne da.typeIs PySem.F.entry_dict_ne ?_ (PySem.F.args_dict_ne_2 _ _)) hu
  show wpAny _ _ (Builtin.Dict.dictSlotArgs "__ne__" ⟨[.ref a, .ref b], []⟩ >>= _) _ _ s
  refine wpAny_bind ?_
  unfold Builtin.Dict.dictSlotArgs
  refine wpAny_bind (wpAny_notOrdered_dict da.typeIs ?_)
  show wpAny _ _ (pure (Value.ref a, Value.ref b)) _ _ s
  refine wpAny_pure ?_
  refine wpAny_bind (wpAny_isInstance (T := "dict") db.typeIs PySem.F.sub_dict_dict ?_)
  simp only [Bool.not_true, Bool.false_eq_true, if_false]
  refine wpAny_bind (wpAny_pure (wpAny_bind (wpAny_pure ?_)))
  refine wpAny_bind (ga_samePairs hr ha hb da db len each ?_)
  refine wpAny_pure ⟨_, rfl, ?_, ?_⟩
  · exact fun x => nomatch x
  · simpa using h
end
end PySem.W
namespace GA
open PySem PySem.Spec PyProof.Rows L2
open PySem.SeqAt (EqIn EqAt)
variable {X : Cx}
/-- two dicts with tuple keys, the same keys in the same order, the values equal -/
def SameDT (K : PySem.W.Frag) (H : Hp) (a b : Addr) : Prop := ∃ (ka kb : List (List L2.Key × V)), H a = some (.dT ka) ∧ H b = some (.dT kb) ∧ ka.length = kb.length ∧
  ∀ (i : Nat) x y, ka[i]? = some x → kb[i]? = some y → x.1 = y.1 ∧ ∃ d, Dp K H x.2 d ∧ Dp K H y.2 d ∧ SeqAt.shaped d = true ∧ PyData.eqv d d = true
theorem paired_get {α β : Type} {F : α → β → Prop} : ∀ {l : List α} {m : List β} {i : Nat} {y : β}, Paired F l m → m[i]? = some y → ∃ x, l[i]? = some x ∧ F x y
  | _, _, _, _, .nil, e => by simp at e
  | _, _, 0, _, .cons h _, e => by simp at e; subst e; exact ⟨_, rfl, h⟩
  | _, _, i + 1, y, .cons _ t, e => by
    obtain ⟨x, h1, h2⟩ := paired_get (i := i) t (by simpa using e)
    exact ⟨x, by simpa using h1, h2⟩
theorem same_each {pins : List (Addr × Obj)} {σ : L2.St} {H : Hp} {s : Shared} {a b : Addr} (I : Inv X pins σ H s) (h : SameDT X.K H a b) {A : Around} (hu : A.units + 64 < cLine) : (a == sysModules) = false ∧ (b == sysModules) = false ∧ ∃ xa xb, s.heap.DictOfH (tupleKind (mixKind X.prog X.w)) a xa ∧ s.heap.DictOfH (tupleKind (mixKind X.prog X.w)) b xb ∧ xa.length = xb.length ∧
    ∀ (i : Nat) x y, xa[i]? = some x → xb[i]? = some y → x.1 = y.1 ∧ EqIn X.prog X.w A s x.2.2 y.2.2 true := by
  obtain ⟨ka, kb, h1, h2, len, each⟩ := h
  obtain ⟨_, na, xa, ra, da⟩ := dt_of I.hok h1
  obtain ⟨_, nb, xb, rb, db⟩ := dt_of I.hok h2
  have la := Paired.length ra
  have lb := Paired.length rb
  refine ⟨na, nb, xa, xb, da, db, by omega, fun i x y hx hy => ?_⟩
  obtain ⟨p, hp, ep, _, rp⟩ := paired_get ra hx
  obtain ⟨q, hq, eq, _, rq⟩ := paired_get rb hy
  obtain ⟨e, d, d1, d2, sh, ev⟩ := each i p q hp hq
  refine ⟨by rw [← ep, ← eq, e], ?_⟩
  obtain ⟨as, r1⟩ := Dp.reads I d _ _ d1 rp
  obtain ⟨bs, r2⟩ := Dp.reads I d _ _ d2 rq
  have z := SeqAt.eqAt_reads d d A s _ _ as bs r1 r2 (SeqAt.canLay_of_shaped sh) (SeqAt.canLay_of_shaped sh) (SeqAt.room_of_shaped sh hu)
  rw [ev] at z
  exact z.inModel X.prog X.w
def rEqDQ (K : PySem.W.Frag) : R2 := fun x y H Q => ∃ a b, x = .ref a ∧ y = .ref b ∧ SameDT K H a b ∧ Q (.bl true) H
def rNeDQ (K : PySem.W.Frag) : R2 := fun x y H Q => ∃ a b, x = .ref a ∧ y = .ref b ∧ SameDT K H a b ∧ Q (.bl false) H
theorem op_eqDQ (hu : X.A.units + 65 < cLine) : OpR X (compareOp .Eq) (rEqDQ X.K) := by
  intro pins s σ H x y v u Q I rx ry h
  obtain ⟨a, b, rfl, rfl, sd, q⟩ := h
  obtain rfl : v = .ref a := rx
  obtain rfl : u = .ref b := ry
  obtain ⟨na, nb, xa, xb, da, db, len, each⟩ := same_each (A := X.A.in1) I sd (by show X.A.units + 1 + 64 < cLine; omega)
  exact PySem.W.ga_dict_eq (by omega) (show X.A.units + 1 < cLine by omega) na nb da db len each ⟨.bl true, H, I, rfl, q⟩
theorem op_neDQ (hu : X.A.units + 65 < cLine) : OpR X (compareOp .NotEq) (rNeDQ X.K) := by
  intro pins s σ H x y v u Q I rx ry h
  obtain ⟨a, b, rfl, rfl, sd, q⟩ := h
  obtain rfl : v = .ref a := rx
  obtain rfl : u = .ref b := ry
  obtain ⟨na, nb, xa, xb, da, db, len, each⟩ := same_each (A := X.A.in1) I sd (by show X.A.units + 1 + 64 < cLine; omega)
  exact PySem.W.ga_dict_ne (by omega) (show X.A.units + 1 < cLine by omega) na nb da db len each ⟨.bl false, H, I, rfl, q⟩
/-- (d, e) == (d, f), e and f dicts that are the same -/
def rEqTDQ (K : PySem.W.Frag) : R2 := fun x y H Q => ∃ p q d u v a b, x = .ref p ∧ y = .ref q ∧ p ≠ q ∧ H p = some (.tup [u, .ref a]) ∧ H q = some (.tup [v, .ref b]) ∧ Dp K H u d ∧ Dp K H v d ∧ SeqAt.shaped d = true ∧ PyData.eqv d d = true ∧ a ≠ b ∧ SameDT K H a b ∧ Q (.bl true) H
theorem op_eqTDQ (hu : X.A.units + 66 < cLine) : OpR X (compareOp .Eq) (rEqTDQ X.K) := by
  intro pins s σ H x y v u Q I rx ry h
  obtain ⟨p, q, d, u1, v1, a, b, rfl, rfl, npq, hp, hq, d1, d2, sh, ev, nab, sd, k⟩ := h
  obtain rfl : v = .ref p := rx
  obtain rfl : u = .ref q := ry
  obtain ⟨_, its, r, hpt⟩ : ObjOk X.prog X.w H s.heap p (.tup [u1, .ref a]) := I.hok p _ hp
  obtain ⟨_, jts, r', hqt⟩ : ObjOk X.prog X.w H s.heap q (.tup [v1, .ref b]) := I.hok q _ hq
  cases r with
  | cons ru r =>
  cases r with
  | cons ra r =>
  cases r
  cases r' with
  | cons rv r' =>
  cases r' with
  | cons rb r' =>
  cases r'
  rename_i vu va vv vb
  obtain rfl : va = .ref a := ra
  obtain rfl : vb = .ref b := rb
  obtain ⟨as, r1⟩ := Dp.reads I d _ _ d1 ru
  obtain ⟨bs, r2⟩ := Dp.reads I d _ _ d2 rv
  have z := SeqAt.eqAt_reads d d X.A.in1 s _ _ as bs r1 r2 (SeqAt.canLay_of_shaped sh) (SeqAt.canLay_of_shaped sh) (SeqAt.room_of_shaped sh (by show X.A.units + 1 + 64 < cLine; omega))
  rw [ev] at z
  refine SeqAt.rcIn_tuples (e := fun _ => true) hpt hqt (by omega) (fun j h1 h2 => ?_) ⟨.bl true, H, I, ?_, k⟩
  · match j, h1 with
    | 0, _ => exact z.inModel X.prog X.w
    | 1, _ =>
      refine SeqAt.EqIn.of_refs nab fun E Q hq => ?_
      obtain ⟨na, nb, xa, xb, da, db, len, each⟩ := same_each (A := X.A.in1.in1) I sd (by show X.A.units + 1 + 1 + 64 < cLine; omega)
      exact PySem.W.ga_dict_eq (by show X.A.units + 1 < cLine; omega) (show X.A.units + 1 + 1 < cLine by omega) na nb da db len each hq
  · rfl
end GA
/-! ## GDP -/
namespace GA
open PySem PySem.Spec PyProof.Rows L2
variable {X : Cx}
/-- {k: v}, k a tuple of ints or texts; the new dict stands empty while the pair is made -/
def tDispT1 (tk tv : TE) : TE := fun σ H Q => ∀ p, H p = none → tk σ (upd H p (.dT [])) fun x H1 => tv σ H1 fun y H2 => H2 p = some (.dT []) ∧ ∃ (k : List L2.Key) (b : Addr), x = .ref b ∧ H2 b = some (.tup (k.map kV)) ∧ Q (.ref p) (upd H2 p (.dT [(k, y)]))
theorem w_dispT1 {tk tv : TE} {σ : L2.St} {H : Hp} {Q : VK} (q : ∀ p, H p = none → tk σ (upd H p (.dT [])) fun x H1 => tv σ H1 fun y H2 => H2 p = some (.dT []) ∧ ∃ (k : List L2.Key) (b : Addr), x = .ref b ∧ H2 b = some (.tup (k.map kV)) ∧ Q (.ref p) (upd H2 p (.dT [(k, y)]))) : tDispT1 tk tv σ H Q := q
theorem pe_dispT1 {pos : Pos} {k v : Expr} {tk tv : TE} (hu : X.A.units < cLine) (hk : PE X k tk) (hv : PE X v tv) : PE X (.Dict [some k] [v] pos) (tDispT1 tk tv) := by
  refine ⟨fun pins s σ H Q I q => ?_⟩
  have hn := I.hok.fresh (Nat.le_refl s.heap.objs.size)
  have I1 := I.laid (a := s.heap.objs.size) (o := .dT []) (h' := s.heap.push { cls := .type "dict", data := .dict #[] }) (t' := s.toks) (fun _ _ q => Heap.get?_push_of_some _ q) (Nat.le_refl _) (dt_empty s.heap I.big)
  have hsh := zip_pairTrees [some k] [v] X.env pos rfl rfl
  have hl := pairTrees_length [some k] [v] X.env pos rfl rfl
  have h0 : pairTrees [some k] [v] X.env pos ≠ [] := fun e => by rw [e] at hl; cases hl
  rw [arm_eval_Dict, hsh, dictDisplay_pairs _ h0 (by rw [hl]; simp)]
  refine wpAny_bind (wpAny_standAt (wpAny_bind (wpAny_subDictH (knd := tupleKind (mixKind X.prog X.w)) (Q := fun d s' => wpAny (model X.prog X.w) X.A (pure (Value.ref d)) (EP X pins σ Q) X.xe s') (show X.A.units < cLine from hu) (by rw [hl]; simp) ?_)))
  refine pairTrees_cons_walk (thn (hk.run pins _ σ _ _ I1 (q _ hn)) fun u s1 ⟨x, H1, I2, rx, q1⟩ => thn (hv.run pins s1 σ H1 _ I2 q1) fun w2 s2 ⟨y, H2, I3, ry, e, ks, b, ex, eb, q2⟩ => pairTrees_nil_walk ?_)
  subst ex
  obtain rfl : u = .ref b := rx
  obtain ⟨z, nm, xs, kt, at_⟩ := dt_of I3.hok e
  cases kt
  refine ⟨[(ks, b, w2)], ⟨rfl, rfl, key_of I3.hok eb, True.intro⟩, at_, fun h' tk dk same => wpAny_pure ?_⟩
  obtain ⟨ob, es, ep, q1', q2', q3, q4, _, q6⟩ := dk
  have keeps : ∀ (c : Addr) ys, H2 c = some (.tup ys) → upd H2 s.heap.objs.size (.dT [(ks, y)]) c = some (.tup ys) := fun c ys ec => (upd_ne (ne_of ec e (by intro e; cases e))).trans ec
  refine ⟨.ref s.heap.objs.size, _, d_write (ob := .dT [(ks, y)]) I3 (e.symm ▸ True.intro) same ⟨ob, q1'⟩ ⟨?_, nm, [(ks, b, w2)], ?_, ob, es, ep, q1', q2', q3, q4, q6⟩, rfl, q2⟩
  · show 1 ≤ sizeLine; rw [sizeLine_eq]; decide
  · exact .cons ⟨rfl, keeps _ _ eb, ry⟩ .nil
end GA
/-! ## K29 -/
section
open PySem L2 GA
local macro_rules
  | `(tactic| walk_at "w") => `(tactic| first
    | ((with_reducible refine' GA.w_var ?e ?_); (case e => exact rfl))
    | (with_reducible refine' GA.w_c ?_)
    | (with_reducible refine' GA.w_cons ?_)
    | (with_reducible refine' GA.w_nil ?_)
    | (with_reducible refine' GA.w_op ?_)
    | (with_reducible refine' GA.r_I0 ?_)
    | (with_reducible refine' GA.w_bl ?_)
    | (with_reducible refine' GA.w_seq ?_)
    | (with_reducible refine' GA.w_set ?_)
    | (with_reducible refine' GA.w_ret ?_)
    | (with_reducible refine' GA.w_ifS ?_)
    | (with_reducible refine' GA.w_test ?_)
    | (with_reducible refine' GA.w_tB ?_)
    | (with_reducible refine' GA.w_not ?_)
    | (with_reducible refine' GA.w_and ?_)
    | (with_reducible refine' GA.w_or ?_)
    | (with_reducible refine' GA.w_andV ?_)
    | (with_reducible refine' GA.w_orV ?_)
    | (with_reducible refine' GA.w_notV ?_)
    | (with_reducible refine' GA.w_blc ?_)
    | (with_reducible refine' GA.w_if ?_)
    | (with_reducible refine' GA.w_CB ?_)
    | (with_reducible refine' GA.w_call ?_)
    | (with_reducible refine' GA.w_tupN ?_)
    | (with_reducible refine' GA.w_lstN ?_)
    | (with_reducible refine' GA.w_chain ?_)
    | (with_reducible refine' GA.w_drop ?_)
    | (with_reducible refine' GA.w_next ?_)
    | (with_reducible refine' GA.w_break ?_)
    | (with_reducible refine' GA.w_un ?_)
    | (with_reducible refine' GA.r_U ?_)
    | (with_reducible refine' GA.r_eqI ?_)
    | (with_reducible refine' GA.r_neI ?_)
    | (with_reducible refine' GA.r_eqB ?_)
    | (with_reducible refine' GA.r_neB ?_)
    | (with_reducible refine' GA.w_fld ?_)
    | (with_reducible refine' GA.w_sfld ?_)
    | (with_reducible refine' GA.w_sl ?_)
    | (with_reducible refine' GA.w_part ?_)
    | (with_reducible refine' GA.w_noPart ?_)
    | (with_reducible refine' GA.w_inti ?_)
    | (with_reducible refine' GA.w_retN ?_)
    | (with_reducible refine' GA.w_gsub ?_)
    | (with_reducible refine' GA.w_gname ?_)
    | (with_reducible refine' L2.iteT ?_)
    | (with_reducible refine' L2.iteF ?_)
    | (with_reducible refine' GA.w_nt ?_)
    | (with_reducible refine' GA.w_nf ?_)
    | (with_reducible refine' GA.w_isN ?_)
    | (with_reducible refine' GA.w_notN ?_)
    | (with_reducible refine' GA.w_yes ?_)
    | (with_reducible refine' GA.w_lc ?_)
    | (with_reducible refine' GA.w_lc2 ?_)
    | (with_reducible refine' GA.w_iseq ?_)
    | (with_reducible refine' GA.w_make ?_)
    | (with_reducible refine' GA.w_for ?_)
    | (with_reducible refine' GA.w_rng1 ?_)
    | (with_reducible refine' GA.w_rng2 ?_)
    | (with_reducible refine' GA.w_itup ?_)
    | (with_reducible refine' GA.w_ilist ?_)
    | (with_reducible refine' GA.w_ienum ?_)
    | (with_reducible refine' GA.w_BM ?_)
    | (with_reducible refine' GA.w_BM0 ?_)
    | (with_reducible refine' GA.w_izip ?_)
    | (with_reducible refine' GA.w_asg ?_))
  | `(tactic| walk_at "wm") => `(tactic| first
    | ((with_reducible refine' GA.w_var ?e ?_); (case e => exact rfl))
    | (with_reducible refine' GA.w_c ?_)
    | (with_reducible refine' GA.w_cons ?_)
    | (with_reducible refine' GA.w_nil ?_)
    | (with_reducible refine' GA.w_op ?_)
    | (with_reducible refine' GA.r_I0 ?_)
    | (with_reducible refine' GA.w_bl ?_)
    | (with_reducible refine' GA.w_set ?_)
    | (with_reducible refine' GA.w_ret ?_)
    | (with_reducible refine' GA.w_ifS ?_)
    | (with_reducible refine' GA.w_test ?_)
    | (with_reducible refine' GA.w_tB ?_)
    | (with_reducible refine' GA.w_not ?_)
    | (with_reducible refine' GA.w_and ?_)
    | (with_reducible refine' GA.w_or ?_)
    | (with_reducible refine' GA.w_andV ?_)
    | (with_reducible refine' GA.w_orV ?_)
    | (with_reducible refine' GA.w_notV ?_)
    | (with_reducible refine' GA.w_blc ?_)
    | (with_reducible refine' GA.w_if ?_)
    | (with_reducible refine' GA.w_CB ?_)
    | (with_reducible refine' GA.w_call ?_)
    | (with_reducible refine' GA.w_tupN ?_)
    | (with_reducible refine' GA.w_lstN ?_)
    | (with_reducible refine' GA.w_chain ?_)
    | (with_reducible refine' GA.w_drop ?_)
    | (with_reducible refine' GA.w_next ?_)
    | (with_reducible refine' GA.w_break ?_)
    | (with_reducible refine' GA.w_un ?_)
    | (with_reducible refine' GA.r_U ?_)
    | (with_reducible refine' GA.r_eqI ?_)
    | (with_reducible refine' GA.r_neI ?_)
    | (with_reducible refine' GA.r_eqB ?_)
    | (with_reducible refine' GA.r_neB ?_)
    | (with_reducible refine' GA.w_fld ?_)
    | (with_reducible refine' GA.w_sfld ?_)
    | (with_reducible refine' GA.w_sl ?_)
    | (with_reducible refine' GA.w_part ?_)
    | (with_reducible refine' GA.w_noPart ?_)
    | (with_reducible refine' GA.w_inti ?_)
    | (with_reducible refine' GA.w_retN ?_)
    | (with_reducible refine' GA.w_gsub ?_)
    | (with_reducible refine' GA.w_gname ?_)
    | (with_reducible refine' L2.iteT ?_)
    | (with_reducible refine' L2.iteF ?_)
    | (with_reducible refine' GA.w_nt ?_)
    | (with_reducible refine' GA.w_nf ?_)
    | (with_reducible refine' GA.w_isN ?_)
    | (with_reducible refine' GA.w_notN ?_)
    | (with_reducible refine' GA.w_yes ?_)
    | (with_reducible refine' GA.w_lc ?_)
    | (with_reducible refine' GA.w_lc2 ?_)
    | (with_reducible refine' GA.w_iseq ?_)
    | (with_reducible refine' GA.w_make ?_)
    | (with_reducible refine' GA.w_for ?_)
    | (with_reducible refine' GA.w_rng1 ?_)
    | (with_reducible refine' GA.w_rng2 ?_)
    | (with_reducible refine' GA.w_itup ?_)
    | (with_reducible refine' GA.w_ilist ?_)
    | (with_reducible refine' GA.w_ienum ?_)
    | (with_reducible refine' GA.w_BM ?_)
    | (with_reducible refine' GA.w_BM0 ?_)
    | (with_reducible refine' GA.w_izip ?_)
    | (with_reducible refine' GA.w_asg ?_))
  | `(tactic| walk_at "ws") => `(tactic| repeat (walk_at "w"))
  | `(tactic| walk_at "wn") => `(tactic| repeat (walk_at "wm"))


namespace Mine
section
variable {P : Program} {w : World} {K : PySem.W.Frag} {mg : Str → Option Value} {base : Heap} {a : Ads}

/-! ### the law -/
theorem u66 {k : Nat} {A : Around} (hr : Room k A) : A.units + 66 < cLine := by
  have := hr.un
  omega
theorem u0 {k : Nat} {A : Around} (hr : Room k A) : A.units < cLine := by
  have := hr.un
  omega
theorem w_bran {b : Bool} {ta tb : TE} {σ : L2.St} {H : Hp} {Q : VK} (M : V → Hp → Prop) (h : ∀ N : VK, (∀ v H', M v H' → N v H') → (if b = true then ta σ H N else tb σ H N)) (q : ∀ v H', M v H' → Q v H') : if b = true then ta σ H Q else tb σ H Q := h Q q
theorem w_din {ty td : TE} {σ : L2.St} {H : Hp} {Q : VK} (q : ty σ H fun y H1 => td σ H1 fun x H2 => ∃ a o, x = .ref a ∧ DGet H2 a y o ∧ Q (.bl o.isSome) H2) : tDIn ty td σ H Q := q
def sp__law_flag : Sp := fun vs H Q _ => ∃ b : Bool, vs = [.bl b, .bl b] ∧ Q (.bl true) H
theorem ok__law_flag (T : Txt K mg a) : FnOk P w K mg base CX0 1 a.f__law_flag a.d__law_flag P__law_flag sp__law_flag := by
  refine T.F__law_flag.ok sc__law_flag (fun vs H Q E h => by obtain ⟨b, rfl, _⟩ := h; rfl) (fun cdv A outer s H vs Q E hr h => ?_)
  obtain ⟨b, rfl, k⟩ := h
  refine ⟨_, (pss_one (ps_ret (pe_and (pe_callB call_isi (by rfl) T.n_isinstance (by decide +kernel) (pa_cons (pv 0) (pa_cons (pe_bltn (v := .ty "bool") (u := .type "bool") rfl T.n_bool (by decide +kernel) rfl) pa_nil))) (pe_one (pe_cmpR op_eq (pv 0) (pv 1) (nomark _)))))), ?_⟩
  walk_at "ws"
  refine r_isi (.base (.bl b)) (kit_ty (by decide +kernel) : PySem.W.kitOne K (.type "bool") (.type "bool") = some true) ?_
  walk_at "ws"
  rw [decide_eq_true (rfl : b = b)]
  exact k
theorem web_newB {C : Addr} {H1 : Hp} {m : Int} {p : Addr} {bs : List Addr} {ws : List (Int × Int)} {F : Addr → Hp → Prop} {E : XK} (hp : SqT K H1 p (bs.map V.ref)) (tup : Da.TupAll H1 bs ws) (hw : Da.IsWeb m ws) (q : ∀ x H2, H1 x = none → (∀ o, G o H1 H2) → WebB K C H2 x m bs ws → F x H2) :
    ∀ x dx, H1 x = none → H1 dx = none → dx ≠ x → Da.sp_Web_init K C (.ref x :: ([.int m, .ref p] ++ [])) (upd (upd H1 dx (.own x)) x (.ins C dx [])) (fun v H2 => v = .non ∧ F x H2) E := by
  intro x dx hx hdx nex
  have hxi : (upd (upd H1 dx (.own x)) x (.ins C dx [])) x = some (.ins C dx []) := upd_same
  have k12 : ∀ a u, H1 a = some u → (upd (upd H1 dx (.own x)) x (.ins C dx [])) a = some u := fun a u e => by
    rw [upd_ne (ne_of_none e hx), upd_ne (ne_of_none e hdx)]; exact e
  have g12 : G none H1 (upd (upd H1 dx (.own x)) x (.ins C dx [])) := G.of_all k12
  have dW : Dp K (upd (upd H1 dx (.own x)) x (.ins C dx [])) (.ref p) (dW ws) := .tup (sqT_t g12.tups hp) (Da.tupAll_dp (p := p) (tup.g g12 (fun _ e => nomatch e)))
  refine ⟨x, dx, m, p, ws, rfl, hxi, dW, hw, fun H2 k2 t2 h2 => ⟨rfl, ?_⟩⟩
  have g : ∀ o, G o H1 H2 := fun o => G.of_all fun a u e => k2 a u (ne_of_none e hx) (k12 a u e)
  exact q x H2 hx g ⟨dx, p, h2, sqT_t (g none).tups hp, tup.g (g none) (fun _ e => nomatch e)⟩
theorem ww_of {n : Int} {W : List (Int × Int)} {ws : List Int} (h : Da.IsWeb n W) (hws : ∀ w ∈ ws, 0 ≤ w ∧ w < n) (z : ws.length ≤ 30) : WW n W ws :=
  ⟨h.hi, Da.web_nodup h, fun u hu => (h.mem u hu).2.2, Da.isweb_len49 h, fun u hu => ⟨(h.mem u hu).1, (h.mem u hu).2.1⟩, hws, z⟩
/-- a step as a thing -/
def tgS : Stp → Tg
  | .put p => .tup [.str "put", .int p]
  | .come y x => .tup [.str "come", .int y, .int x]
theorem sv_tg {D hd : Addr} {H : Hp} : ∀ {sv : Da.SV}, (∀ q ∈ sv, Rd H q.1 (.tup (Da.stV q.2))) → AbAll D hd H (Da.svR sv) ((sv.map (·.2)).map tgS)
  | [], _ => .nil
  | (t, st) :: sv, h => by
    refine .cons ?_ (sv_tg fun q hq => h q (List.mem_cons_of_mem _ hq))
    have r := h (t, st) List.mem_cons_self
    cases st with
    | put p => exact .tup r (.cons (.str _) (.cons (.int _) .nil))
    | come y x => exact .tup r (.cons (.str _) (.cons (.int _) (.cons (.int _) .nil)))
theorem go_led {n : Int} {W : List (Int × Int)} {ws : List Int} (rg : ∀ u ∈ W, (0 ≤ u.1 ∧ u.1 < n) ∧ (0 ≤ u.2 ∧ u.2 < n)) : ∀ {sts : List Stp} {s s' : LS} {i : Nat}, (∀ p, Stp.put p ∈ sts → 0 ≤ p) → led W ws s sts = some s' → goT n W ws s (sts.map tgS) i = .inr s'
  | [], s, s', i, _, h => by
    have e : s = s' := Option.some.inj h
    rw [e]; rfl
  | st :: sts, s, s', i, hp, h => by
    have h : (match led1 W ws s st with | some s' => led W ws s' sts | none => none) = some s' := h
    cases e : led1 W ws s st with
    | none => rw [e] at h; cases h
    | some z =>
      rw [e] at h
      have ih := go_led rg (i := i + 1) (fun p m => hp p (List.mem_cons_of_mem _ m)) h
      have es : stepT n W ws s (tgS st) = some z := by
        unfold stepT
        cases st with
        | put p =>
          have h1 : (if p ∈ s.done then none else match ws[p.toNat]? with | some x => some (LS.wr ⟨s.cur, s.lt, s.done ++ [p]⟩ x p) | none => none) = some z := e
          have p0 := hp p List.mem_cons_self
          have pl : p.toNat < ws.length := by
            rcases Nat.lt_or_ge p.toNat ws.length with c | c
            · exact c
            · rw [List.getElem?_eq_none c] at h1
              split at h1 <;> cases h1
          rw [show tgS (.put p) = .tup [.str "put", .int p] from rfl, toStp_put ⟨p0, by omega⟩]
          exact e
        | come y x =>
          have hm : (y, x) ∈ W := by
            by_cases c : (y, x) ∈ W
            · exact c
            · have h1 : (if (y, x) ∈ W then (match s.lt (y, x) with | [] => none | p :: r => some (LS.wr ⟨s.cur, fun u => if u = (y, x) then r else s.lt u, s.done⟩ x p)) else none) = some z := e
              rw [if_neg c] at h1
              cases h1
          rw [show tgS (.come y x) = .tup [.str "come", .int y, .int x] from rfl, toStp_come (rg _ hm)]
          exact e
      show (match stepT n W ws s (tgS st) with | none => Sum.inl i | some s' => goT n W ws s' (sts.map tgS) (i + 1)) = _
      rw [es]
      exact ih
def dSt : Stp → PyData
  | .put p => .tuple [.str "put", .int p]
  | .come y x => .tuple [.str "come", .int y, .int x]
theorem sv_dp {H : Hp} : ∀ {sv : Da.SV}, (∀ q ∈ sv, Rd H q.1 (.tup (Da.stV q.2))) → DpAll K H (Da.svR sv) ((sv.map (·.2)).map dSt)
  | [], _ => .nil
  | (t, st) :: sv, h => by
    refine .cons ?_ (sv_dp fun q hq => h q (List.mem_cons_of_mem _ hq))
    have r := h (t, st) List.mem_cons_self
    cases st with
    | put p => exact .tup (.inl r) (.cons (.str _) (.cons (.int _) .nil))
    | come y x => exact .tup (.inl r) (.cons (.str _) (.cons (.int _) (.cons (.int _) .nil)))
theorem can_dSt (st : Stp) : (dSt st).canLay0 = true := by
  cases st with
  | put p =>
    exact can_tup fun d hd => by
      simp only [List.mem_cons, List.not_mem_nil, or_false] at hd
      rcases hd with rfl | rfl
      · decide +kernel
      · exact can_int
  | come y x =>
    exact can_tup fun d hd => by
      simp only [List.mem_cons, List.not_mem_nil, or_false] at hd
      rcases hd with rfl | rfl | rfl
      · decide +kernel
      · exact can_int
      · exact can_int
theorem dep_dSt (st : Stp) : (dSt st).depth ≤ 1 := by
  cases st with
  | put p =>
    exact dep_tup (n := 0) fun d hd => by
      simp only [List.mem_cons, List.not_mem_nil, or_false] at hd
      rcases hd with rfl | rfl <;> exact Nat.le_refl _
  | come y x =>
    exact dep_tup (n := 0) fun d hd => by
      simp only [List.mem_cons, List.not_mem_nil, or_false] at hd
      rcases hd with rfl | rfl | rfl <;> exact Nat.le_refl _
theorem sh_dSts (l : List Stp) : SeqAt.shaped (.list (l.map dSt)) = true := sh_of (by
    rw [PyData.canLay0]
    exact canAll fun d h => by
      obtain ⟨n, _, rfl⟩ := List.mem_map.mp h
      exact can_dSt n) (by
    rw [PyData.depth]
    have := depAll (n := 1) (ds := l.map dSt) fun d h => by
      obtain ⟨n, _, rfl⟩ := List.mem_map.mp h
      exact dep_dSt n
    omega)
theorem eqv_dSt (st : Stp) : PyData.eqv (dSt st) (dSt st) = true := by cases st <;> simp [dSt, PyData.eqv, PyData.eqvAll]
theorem eqv_dSts : ∀ l : List Stp, PyData.eqvAll (l.map dSt) (l.map dSt) = true
  | [] => by simp [PyData.eqvAll]
  | st :: l => by rw [List.map_cons, PyData.eqvAll, eqv_dSt, eqv_dSts l]; rfl
theorem eqv_dStL (l : List Stp) : PyData.eqv (.list (l.map dSt)) (.list (l.map dSt)) = true := by rw [PyData.eqv]; exact eqv_dSts l
theorem ok1 (i : Int) : okd 3 (.list [.int i]) := .inr ⟨[.int i], .inr rfl, by simp, fun e he => by
  have e1 : e = .int i := by simpa using he
  subst e1
  exact .inl trivial⟩
theorem ok_dII (ds : List (List Int)) (z : ds.length ≤ 100000) (zd : ∀ d ∈ ds, d.length ≤ 100000) : okd 3 (dII ds) := .inr ⟨ds.map dI, .inl rfl, by rw [List.length_map]; exact z, fun e he => by
  obtain ⟨d, hd, rfl⟩ := List.mem_map.mp he
  exact .inr ⟨d.map PyData.int, .inl rfl, by rw [List.length_map]; exact zd d hd, fun e he => by
    obtain ⟨i, _, rfl⟩ := List.mem_map.mp he
    exact .inl trivial⟩⟩
theorem dtOf_get : ∀ {W : List (Int × Int)} {fs : List Addr} {i : Nat} {x : List L2.Key × V}, (Da.dtOf W fs)[i]? = some x → ∃ u f, W[i]? = some u ∧ fs[i]? = some f ∧ x = (Da.keyOfP u, .ref f)
  | [], _, _, _, e => by simp [Da.dtOf] at e
  | _ :: _, [], _, _, e => by simp [Da.dtOf] at e
  | u :: W, f :: fs, 0, x, e => by
    have e : (Da.keyOfP u, V.ref f) = x := by simpa [Da.dtOf] using e
    exact ⟨u, f, rfl, rfl, e.symm⟩
  | u :: W, f :: fs, i + 1, x, e => by
    have e : (Da.dtOf W fs)[i]? = some x := by simpa [Da.dtOf] using e
    obtain ⟨u', f', h1, h2, h3⟩ := dtOf_get e
    exact ⟨u', f', by simpa using h1, by simpa using h2, h3⟩
theorem same_let {H : Hp} {p q : Addr} {W : List (Int × Int)} {lt : List (List Int)} (h : LetD H p W lt) (h' : LetS K H q W lt) : SameDT K H p q := by
  obtain ⟨fs, a1, a2, a3⟩ := h
  obtain ⟨gs, b1, b2, b3, b4⟩ := h'
  refine ⟨_, _, a1, b1, by rw [dtOf_len a2.symm, dtOf_len b2.symm], fun i x y ex ey => ?_⟩
  obtain ⟨u, f, hu, hf, rfl⟩ := dtOf_get ex
  obtain ⟨u', f', hu', hf', rfl⟩ := dtOf_get ey
  rw [hu] at hu'
  cases hu'
  have il := (List.getElem?_eq_some_iff.mp hu).1
  obtain ⟨d, hd⟩ : ∃ d, lt[i]? = some d := ⟨_, List.getElem?_eq_getElem (by omega)⟩
  exact ⟨rfl, dI d, dp_ofI (a3 i f d hf hd).sq, dp_ofI (b4 i f' d hf' hd), sh_dI d, by rw [eqv_dI]; exact decide_eq_true rfl⟩
/-- what stands through a turn -/
structure Env (K : PySem.W.Frag) (D hd : Addr) (H : Hp) (n : Int) (wa : Addr) (bs : List Addr) (W : List (Int × Int)) (vp : Addr) (ws : List Int) (dt : Addr) (ds : List (List Int)) (st : Addr) (sv : Da.SV) (web kp : Addr) : Prop where
  hwa : SqT K H wa (bs.map V.ref)
  htup : Da.TupAll H bs W
  hvp : SqT K H vp (ws.map V.int)
  hdt : Da.Dia K H dt ds
  hst : H st = some (.lst (Da.svR sv))
  hsv : ∀ q ∈ sv, Rd H q.1 (.tup (Da.stV q.2))
  hweb : WebB K D H web n bs W
  hkp : H kp = some (.lst (Da.svR sv))
  nst : st ≠ hd
  nkp : kp ≠ hd
theorem Env.g {D hd c : Addr} {H H' : Hp} {n : Int} {wa : Addr} {bs : List Addr} {W : List (Int × Int)} {vp : Addr} {ws : List Int} {dt : Addr} {ds : List (List Int)} {st : Addr} {sv : Da.SV} {web kp : Addr} (h : Env K D hd H n wa bs W vp ws dt ds st sv web kp) (hh : Hand H hd c) (g : G (some (hd, c)) H H') : Env K D hd H' n wa bs W vp ws dt ds st sv web kp := by
  have hhp : ∀ p, some (hd, c) = some p → Hand H p.1 p.2 := fun p e => by cases e; exact hh
  obtain ⟨dx, wa', w1, w2, w3⟩ := h.hweb
  exact ⟨sqT_t g.tups h.hwa, h.htup.g g hhp, sqT_t g.tups h.hvp, h.hdt.g g hhp, g.keep _ _ (fun q e => by cases e; exact h.nst) h.hst, fun q m => g.tups _ _ (h.hsv q m), ⟨dx, wa', g.keep _ _ (off_ins hh w1) w1, sqT_t g.tups w2, w3.g g hhp⟩, g.keep _ _ (fun q e => by cases e; exact h.nkp) h.hkp, h.nst, h.nkp⟩
theorem Env.n {D hd : Addr} {H H' : Hp} {n : Int} {wa : Addr} {bs : List Addr} {W : List (Int × Int)} {vp : Addr} {ws : List Int} {dt : Addr} {ds : List (List Int)} {st : Addr} {sv : Da.SV} {web kp : Addr} (h : Env K D hd H n wa bs W vp ws dt ds st sv web kp) (g : G none H H') : Env K D hd H' n wa bs W vp ws dt ds st sv web kp :=
  ⟨sqT_t g.tups h.hwa, h.htup.g g (fun _ e => nomatch e), sqT_t g.tups h.hvp, h.hdt.n g, g.all _ _ h.hst, fun q m => g.tups _ _ (h.hsv q m), h.hweb.all g, g.all _ _ h.hkp, h.nst, h.nkp⟩
/-- what is due, what is told -/
def DueV (K : PySem.W.Frag) (n : Nat) (W : List (Int × Int)) (H : Hp) (v : V) : Int ⊕ LS → Prop
  | .inl i => v = .int i
  | .inr s => ∃ p dp lp, v = .ref p ∧ H p = some (.tup [.ref dp, .ref lp]) ∧ Da.Dia K H dp (dsS n s) ∧ LetS K H lp W (W.map s.lt)
def TldV (K : PySem.W.Frag) (n : Nat) (W : List (Int × Int)) (H : Hp) (v : V) : Int ⊕ LS → Prop
  | .inl i => v = .int i
  | .inr s => ∃ p dp lp, v = .ref p ∧ H p = some (.tup [.ref dp, .ref lp]) ∧ Da.Dia K H dp (dsS n s) ∧ LetD H lp W (W.map s.lt)
theorem DueV.n {n : Nat} {W : List (Int × Int)} {H H' : Hp} {v : V} {o : Int ⊕ LS} (h : DueV K n W H v o) (g : G none H H') : DueV K n W H' v o := by
  cases o with
  | inl i => exact h
  | inr s =>
    obtain ⟨p, dp, lp, e, h1, h2, h3⟩ := h
    exact ⟨p, dp, lp, e, g.all _ _ h1, h2.n g, h3.n g⟩
theorem DueV.g {n : Nat} {W : List (Int × Int)} {H H' : Hp} {hd c : Addr} {v : V} {o : Int ⊕ LS} (h : DueV K n W H v o) (hh : Hand H hd c) (g : G (some (hd, c)) H H') : DueV K n W H' v o := by
  have off : ∀ {a : Addr} {u : HO}, H a = some u → (∀ xs, u ≠ .lst xs) → H' a = some u := fun {a u} e nu => by
    obtain ⟨_, _, _, _, _, _, z, _⟩ := id hh
    exact g.keep a u (fun q eq => by cases eq; exact ne_of e z (nu _)) e
  cases o with
  | inl i => exact h
  | inr s =>
    obtain ⟨p, dp, lp, e, h1, h2, h3⟩ := h
    obtain ⟨fs, f1, _⟩ := id h3
    exact ⟨p, dp, lp, e, off h1 (fun _ e => nomatch e), h2.g g (fun q eq => by cases eq; exact hh), h3.t (fun u hu => by rw [f1] at hu; cases hu; exact off f1 (fun _ e => nomatch e)) g.tups⟩
theorem wr_len {s : LS} {x p z : Int} : ((s.wr x p).cur z).length ≤ (s.cur z).length + 1 := by
  unfold LS.wr
  split
  · exact Nat.le_succ _
  · show (if z = x then s.cur x ++ [p] else s.cur z).length ≤ _
    split
    · rename_i e
      subst e
      rw [List.length_append]
      exact Nat.le_refl _
    · exact Nat.le_succ _
theorem led1_len {W : List (Int × Int)} {ws : List Int} {s s' : LS} {st : Stp} (h : led1 W ws s st = some s') (z : Int) : (s'.cur z).length ≤ (s.cur z).length + 1 := by
  cases st with
  | put p =>
    have h : (if p ∈ s.done then none else match ws[p.toNat]? with | some x => some (LS.wr ⟨s.cur, s.lt, s.done ++ [p]⟩ x p) | none => none) = some s' := h
    split at h
    · cases h
    · split at h
      · cases h
        exact wr_len (s := ⟨s.cur, s.lt, s.done ++ [p]⟩)
      · cases h
  | come y x =>
    have h : (if (y, x) ∈ W then (match s.lt (y, x) with | [] => none | p :: r => some (LS.wr ⟨s.cur, fun u => if u = (y, x) then r else s.lt u, s.done⟩ x p)) else none) = some s' := h
    split at h
    · split at h
      · cases h
      · cases h
        exact wr_len (s := ⟨s.cur, _, s.done⟩)
    · cases h
theorem goT_len {n : Int} {W : List (Int × Int)} {ws : List Int} : ∀ {ts : List Tg} {s s' : LS} {i : Nat}, goT n W ws s ts i = .inr s' → ∀ z, (s'.cur z).length ≤ (s.cur z).length + ts.length
  | [], s, s', i, h, z => by
    have e : s = s' := by
      have h : (Sum.inr s : Nat ⊕ LS) = .inr s' := h
      cases h; rfl
    rw [e]; exact Nat.le_refl _
  | t :: ts, s, s', i, h, z => by
    have h : (match stepT n W ws s t with | none => Sum.inl i | some s' => goT n W ws s' ts (i + 1)) = .inr s' := h
    cases e : stepT n W ws s t with
    | none => rw [e] at h; cases h
    | some s1 =>
      rw [e] at h
      have h1 := goT_len h z
      have h2 : (s1.cur z).length ≤ (s.cur z).length + 1 := by
        unfold stepT at e
        cases e2 : toStp n ws.length t with
        | none => rw [e2] at e; cases e
        | some st => rw [e2] at e; exact led1_len e z
      rw [List.length_cons]
      omega
theorem outT_len {n : Int} {W : List (Int × Int)} {ws : List Int} {o : Option (List Tg)} {s' : LS} (h : outT n W ws o = .inr s') (z : Int) : (s'.cur z).length ≤ 4000 := by
  cases o with
  | none => cases h
  | some ts =>
    have h : (if ts.length ≤ 4000 then (match goT n W ws ls0 ts 0 with | .inl i => Sum.inl (i : Int) | .inr s => .inr s) else .inl (-1)) = (.inr s' : Int ⊕ LS) := h
    split at h
    · rename_i c
      cases e : goT n W ws ls0 ts 0 with
      | inl i => rw [e] at h; cases h
      | inr s1 =>
        rw [e] at h
        cases h
        have := goT_len e z
        have z0 : (ls0.cur z).length = 0 := rfl
        omega
    · cases h
def isIn : Int ⊕ LS → Bool
  | .inl _ => true
  | .inr _ => false
theorem due_int {n : Nat} {W : List (Int × Int)} {H : Hp} {v : V} {o : Int ⊕ LS} {Q : VK} (h : DueV K n W H v o) (q : Q (.bl (isIn o)) H) : rIsi K [v, .ty "int"] H Q := by
  cases o with
  | inl i =>
    obtain rfl : v = .int i := h
    exact r_isi (.base (.int i)) (kit_ty (by decide +kernel) : PySem.W.kitOne K (.type "int") (.type "int") = some true) q
  | inr s =>
    obtain ⟨p, dp, lp, rfl, h1, _⟩ := h
    exact r_isi (tyx_tup (SqT.of h1)) (kit_ty (by decide +kernel) : PySem.W.kitOne K (.type "tuple") (.type "int") = some false) q
def spLaw (K : PySem.W.Frag) : Sp := fun vs H Q _ => ∃ (s : Addr) (ns : List Int), vs = [.ref s] ∧ SqL K H s (ns.map V.int) ∧ ns.length ≤ 63 ∧ ∀ H', Q (.bl true) H'
theorem ok_law (T : Txt K mg a) : FnOk P w K mg base CX0 11 a.f_law a.d_law P_law (spLaw K) := by
  refine T.F_law.ok sc_law (fun vs H Q E h => by obtain ⟨s, ns, rfl, _⟩ := h; rfl) (fun cdv A outer s0 H vs Q E hr h => ?_)
  obtain ⟨s, ns, rfl, hs, hl, k⟩ := h
  have G__law_hand : FnOk P w K mg base CX0 1 a.f__law_hand a.d__law_hand P__law_hand (sp__law_hand K) := ok__law_hand T
  have G__law_draw : FnOk P w K mg base CX0 1 a.f__law_draw a.d__law_draw P__law_draw sp__law_draw := ok__law_draw T
  have G__law_web : FnOk P w K mg base CX0 2 a.f__law_web a.d__law_web P__law_web (Da.sp__law_web K) := Da.ok__law_web T
  have G__law_ran : FnOk P w K mg base CX0 2 a.f__law_ran a.d__law_ran P__law_ran (Da.sp__law_ran K) := Da.ok__law_ran T
  have G_Web_init : FnOk P w K mg base CX0 7 a.f_Web_init a.d_Web_init P_Web_init (Da.sp_Web_init K a.c_Web) := Da.ok_Web_init T
  have G_Record_init : FnOk P w K mg base CX0 7 a.f_Record_init a.d_Record_init P_Record_init (Da.sp_Record_init K a.c_Record) := Da.ok_Record_init T
  have G__law_bent_record : FnOk P w K mg base CX0 2 a.f__law_bent_record a.d__law_bent_record P__law_bent_record (Da.sp__law_bent_record K) := Da.ok__law_bent_record T
  have G__law_spoiled : FnOk P w K mg base CX0 3 a.f__law_spoiled a.d__law_spoiled P__law_spoiled (sp__law_spoiled K a.c_Web) := ok__law_spoiled T
  have G__law_behind : FnOk P w K mg base CX0 3 a.f__law_behind a.d__law_behind P__law_behind (sp__law_behind K a.c_Web) := ok__law_behind T
  have G__law_told : FnOk P w K mg base CX0 10 a.f__law_told a.d__law_told P__law_told (sp__law_told K a.c_Web) := ok__law_told T
  have G__law_is : FnOk P w K mg base CX0 4 a.f__law_is a.d__law_is P__law_is (sp__law_is K 3) := ok__law_is T 3
  have G__law_flag : FnOk P w K mg base CX0 1 a.f__law_flag a.d__law_flag P__law_flag sp__law_flag := ok__law_flag T
  have G_is_run : FnOk P w K mg base CX0 9 a.f_is_run a.d_is_run P_is_run (sp_is_run K a.c_Web a.c_Record) := ok_is_run T
  have G_led : FnOk P w K mg base (L2.CX P w) 9 a.f_led a.d_led P_led (sp_led K a.c_Web a.c_BadStep) := ok_led T
  refine ⟨_, (pss_cons (ps_set (i := 1) sc_law.nd rfl (Or.inr rfl) (pe_call (G__law_hand) (hr.mono (by omega)) rfl T.m__law_hand T.F__law_hand.kp T.b__law_hand .nil pass0 (pa_cons (pv 0) pa_nil)))
  (pss_cons (ps_for PassesOwn.never rfl (pi_range1 rfl T.n_range (pa_cons pe_int pa_nil)) (pg_name (i := 2) sc_law.nd rfl (Or.inl rfl))
    (pss_cons (ps_set (i := 3) sc_law.nd rfl (Or.inr rfl) (pe_op op_add pe_int (pe_call (G__law_draw) (hr.mono (by omega)) rfl T.m__law_draw T.F__law_draw.kp T.b__law_draw .nil pass0 (pa_cons (pv 1) (pa_cons pe_int pa_nil)))))
  (pss_cons (ps_set (i := 4) sc_law.nd rfl (Or.inl rfl) (pe_call (G__law_web) (hr.mono (by omega)) rfl T.m__law_web T.F__law_web.kp T.b__law_web .nil pass0 (pa_cons (pv 1) (pa_cons (pv 3) pa_nil))))
  (pss_cons (ps_set (i := 5) sc_law.nd rfl (Or.inl rfl) (pe_and (pe_cmpR op_eq (pv 2) pe_int (nomark _)) (pe_one (pe_cmpR op_eq (pe_call (G__law_draw) (hr.mono (by omega)) rfl T.m__law_draw T.F__law_draw.kp T.b__law_draw .nil pass0 (pa_cons (pv 1) (pa_cons pe_int pa_nil))) pe_int (nomark _)))))
  (pss_cons (ps_set (i := 6) sc_law.nd rfl (Or.inl rfl) (pe_ifExp (pt_val (pv 5)) pe_int (pe_call (G__law_draw) (hr.mono (by omega)) rfl T.m__law_draw T.F__law_draw.kp T.b__law_draw .nil pass0 (pa_cons (pv 1) (pa_cons pe_int pa_nil)))))
  (pss_cons (ps_set (i := 7) sc_law.nd rfl (Or.inl rfl) (pe_callTy call_tupleN (by rfl) T.n_tuple (by decide +kernel) (pa_cons (pe_lc (own := [("_law_put", 17)]) (g := (gName 17)) (tt := tYes) rfl sc_law.nd (pi_range1 rfl T.n_range (pa_cons (pv 6) pa_nil)) (blkOk_by (N := N_law) (sc := defScope s_law) (by decide +kernel)) (fun _ _ _ _ _ => (pg_name (i := 17) sc_law.nd rfl (by first | exact Or.inl rfl | exact Or.inr rfl))) (fun _ _ _ _ _ => pts_nil) (fun _ _ _ _ _ => (pe_call (G__law_draw) (hr.mono (by omega)) rfl T.m__law_draw T.F__law_draw.kp T.b__law_draw .nil pass0 (pa_cons (pv 1) (pa_cons (pv 3) pa_nil))))) pa_nil)))
  (pss_cons (ps_asg (pe_call (G__law_ran) (hr.mono (by omega)) rfl T.m__law_ran T.F__law_ran.kp T.b__law_ran .nil pass0 (pa_cons (pv 1) (pa_cons (pv 3) (pa_cons (pv 4) (pa_cons (pv 7) (pa_cons (pe_ifExp (pt_val (pv 5)) pe_int (pe_call (G__law_draw) (hr.mono (by omega)) rfl T.m__law_draw T.F__law_draw.kp T.b__law_draw .nil pass0 (pa_cons (pv 1) (pa_cons pe_int pa_nil)))) pa_nil)))))) (pg_tup rfl (pgs_cons (pg_name (i := 8) sc_law.nd rfl (Or.inl rfl)) (pgs_cons (pg_name (i := 9) sc_law.nd rfl (Or.inl rfl)) pgs_nil))))
  (pss_cons (ps_set (i := 10) sc_law.nd rfl (Or.inl rfl) (pe_make T.K_Web (G_Web_init) (hr.mono (by omega)) rfl T.m_Web T.b_Web_init .nil pass0 (pa_cons (pv 3) (pa_cons (pv 4) pa_nil))))
  (pss_cons (ps_set (i := 11) sc_law.nd rfl (Or.inl rfl) (pe_callTy call_listN (by rfl) T.n_list (by decide +kernel) (pa_cons (pv 9) pa_nil)))
  (pss_cons (ps_for PassesOwn.never rfl (pi_list (pe_lstN (pa_cons (pv 9) (pa_cons (pe_callTy call_tupleN (by rfl) T.n_tuple (by decide +kernel) (pa_cons (pv 9) pa_nil)) (pa_cons (pe_call (G__law_spoiled) (hr.mono (by omega)) rfl T.m__law_spoiled T.F__law_spoiled.kp T.b__law_spoiled .nil pass0 (pa_cons (pv 1) (pa_cons (pv 9) (pa_cons (pv 3) pa_nil)))) (pa_cons (pe_call (G__law_spoiled) (hr.mono (by omega)) rfl T.m__law_spoiled T.F__law_spoiled.kp T.b__law_spoiled .nil pass0 (pa_cons (pv 1) (pa_cons (pv 9) (pa_cons (pv 3) pa_nil)))) pa_nil)))))) (pg_name (i := 12) sc_law.nd rfl (Or.inl rfl))
    (pss_cons (ps_set (i := 13) sc_law.nd rfl (Or.inl rfl) (pe_call (G__law_behind) (hr.mono (by omega)) rfl T.m__law_behind T.F__law_behind.kp T.b__law_behind .nil pass0 (pa_cons (pv 3) (pa_cons (pv 4) (pa_cons (pv 7) (pa_cons (pv 12) pa_nil))))))
  (pss_cons (ps_set (i := 14) sc_law.nd rfl (Or.inl rfl) (pe_call (G__law_told) (hr.mono (by omega)) rfl T.m__law_told T.F__law_told.kp T.b__law_told .nil pass0 (pa_cons (pv 10) (pa_cons (pv 7) (pa_cons (pv 12) pa_nil)))))
  (pss_cons (ps_if (pt_val (pe_callB call_isi (by rfl) T.n_isinstance (by decide +kernel) (pa_cons (pv 13) (pa_cons (pe_bltn (v := .ty "int") (u := .type "int") rfl T.n_int (by decide +kernel) rfl) pa_nil))))
    (pss_one (ps_if (pt_not (pt_val (pe_call (G__law_is) (hr.mono (by omega)) rfl T.m__law_is T.F__law_is.kp T.b__law_is .nil pass0 (pa_cons (pe_lstN (pa_cons (pv 14) pa_nil)) (pa_cons (pe_lstN (pa_cons (pv 13) pa_nil)) pa_nil)))))
    (pss_one (ps_ret pe_bl))
    pss_nil))
    (pss_one (ps_if (L2.PW.pt (pw_or (pt_not (pt_val (pe_callB call_isi (by rfl) T.n_isinstance (by decide +kernel) (pa_cons (pv 14) (pa_cons (pe_bltn (v := .ty "tuple") (u := .type "tuple") rfl T.n_tuple (by decide +kernel) rfl) pa_nil))))) (pw_or (pt_not (pt_val (pe_call (G__law_is) (hr.mono (by omega)) rfl T.m__law_is T.F__law_is.kp T.b__law_is .nil pass0 (pa_cons (pe_ix ix_tup (pv 14) pe_int (fun _ _ => rfl)) (pa_cons (pe_ix ix_tup (pv 13) pe_int (fun _ _ => rfl)) pa_nil))))) (pw_or1 (pt_cmpR (op_neDQ (u65 hr)) (pe_ix ix_tup (pv 14) pe_int (fun _ _ => rfl)) (pe_ix ix_tup (pv 13) pe_int (fun _ _ => rfl)) (nomark _))))))
    (pss_one (ps_ret pe_bl))
    pss_nil)))
  (pss_cons (ps_set (i := 15) sc_law.nd rfl (Or.inl rfl) (pe_make T.K_Record (G_Record_init) (hr.mono (by omega)) rfl T.m_Record T.b_Record_init .nil pass0 (pa_cons (pv 7) (pa_cons (pv 8) pa_nil))))
  (pss_cons (ps_if (pt_cmpR op_eq (pe_call (G__law_draw) (hr.mono (by omega)) rfl T.m__law_draw T.F__law_draw.kp T.b__law_draw .nil pass0 (pa_cons (pv 1) (pa_cons pe_int pa_nil))) pe_int (nomark _))
    (pss_one (ps_set (i := 15) sc_law.nd rfl (Or.inl rfl) (pe_make T.K_Record (G_Record_init) (hr.mono (by omega)) rfl T.m_Record T.b_Record_init .nil pass0 (pa_cons (pv 7) (pa_cons (pe_call (G__law_bent_record) (hr.mono (by omega)) rfl T.m__law_bent_record T.F__law_bent_record.kp T.b__law_bent_record .nil pass0 (pa_cons (pv 1) (pa_cons (pv 7) (pa_cons (pv 8) pa_nil)))) pa_nil)))))
    pss_nil)
  (pss_cons (ps_set (i := 16) sc_law.nd rfl (Or.inl rfl) (pe_and (pe_not (pe_callB call_isi (by rfl) T.n_isinstance (by decide +kernel) (pa_cons (pv 13) (pa_cons (pe_bltn (v := .ty "int") (u := .type "int") rfl T.n_int (by decide +kernel) rfl) pa_nil)))) (pe_one (pe_cmpR (op_eqD hr.units) (pe_ix ix_tup (pv 13) pe_int (fun _ _ => rfl)) (pe_fld (pv 15) rfl) (nomark _)))))
  (pss_one (ps_if (pt_not (pt_val (pe_call (G__law_flag) (hr.mono (by omega)) rfl T.m__law_flag T.F__law_flag.kp T.b__law_flag .nil pass0 (pa_cons (pe_call (G_is_run) (hr.mono (by omega)) rfl T.m_is_run T.F_is_run.kp T.b_is_run .nil pass0 (pa_cons (pv 10) (pa_cons (pv 15) (pa_cons (pv 12) pa_nil)))) (pa_cons (pv 16) pa_nil)))))
    (pss_one (ps_ret pe_bl))
    pss_nil)))))))))
  (pss_cons (ps_if (pt_cmpR (op_neD hr.units) (pv 9) (pv 11) (nomark _))
    (pss_one (ps_ret pe_bl))
    pss_nil)
  (pss_cons (ps_set (i := 14) sc_law.nd rfl (Or.inl rfl) (pe_call G_led (hr.mono (by omega)) rfl T.m_led T.F_led.kp T.b_led .nil passE0 (pa_cons (pv 10) (pa_cons (pv 7) (pa_cons (pv 9) pa_nil)))))
  (pss_cons (ps_asg (pe_tupN pa_nil) (pg_sub (pe_ix ix_tup (pv 14) pe_int (fun _ _ => rfl)) (pe_tupN (pa_cons pe_int (pa_cons pe_int pa_nil))) (set_dict (hu_of hr))))
  (pss_one (ps_if (pt_cmp (pc_din (hu_of hr) (pe_tupN (pa_cons pe_int (pa_cons pe_int pa_nil))) (pe_ix ix_tup (pe_call G_led (hr.mono (by omega)) rfl T.m_led T.F_led.kp T.b_led .nil passE0 (pa_cons (pv 10) (pa_cons (pv 7) (pa_cons (pv 9) pa_nil)))) pe_int (fun _ _ => rfl))))
    (pss_one (ps_ret pe_bl))
    pss_nil)))))))))))))))
  (pss_one (ps_ret (pe_cmpR (op_eqTDQ (u66 hr)) (pe_call G_led (hr.mono (by omega)) rfl T.m_led T.F_led.kp T.b_led .nil passE0 (pa_cons (pe_make T.K_Web (G_Web_init) (hr.mono (by omega)) rfl T.m_Web T.b_Web_init .nil pass0 (pa_cons pe_int (pa_cons (pe_tupN (pa_cons (pe_tupN (pa_cons pe_int (pa_cons pe_int pa_nil))) pa_nil)) pa_nil))) (pa_cons (pe_tupN (pa_cons pe_int pa_nil)) (pa_cons (pe_lstN (pa_cons (pe_tupN (pa_cons pe_str (pa_cons pe_int pa_nil))) pa_nil)) pa_nil)))) (pe_tupN (pa_cons (pe_tupN (pa_cons (pe_tupN (pa_cons pe_int pa_nil)) (pa_cons (pe_tupN pa_nil) pa_nil))) (pa_cons (pe_dispT1 (u0 hr) (pe_tupN (pa_cons pe_int (pa_cons pe_int pa_nil))) (pe_tupN (pa_cons pe_int pa_nil))) pa_nil))) (nomark _)))))), ?_⟩
  walk_at "wn"
  try dsimp only
  refine w_seq ?_
  walk_at "ws"
  refine ⟨s, ns, rfl, hs, hl, fun hd c H1 g1 hh1 => ?_⟩
  walk_at "wn"
  try dsimp only
  refine w_seqM (fun σ H' => True) (fun N0 kN0 => ?_) ?_
  · walk_at "ws"
    refine i_rng1 (by decide) (by decide) ?_
    refine for_it walk_range (fun i σ H' => Hand H' hd c ∧ ∃ u3 u4 u5 u6 u7 u8 u9 u10 u11 u12 u13 u14 u15 u16 u17 : Option V, ∃ u2 : Option V, σ = [some (.ref s), some (.ref hd), u2, u3, u4, u5, u6, u7, u8, u9, u10, u11, u12, u13, u14, u15, u16, u17]) ⟨hh1, _, _, _, _, _, _, _, _, _, _, _, _, _, _, _, _, rfl⟩ (fun _ _ _ _ _ => trivial) ?_ (fun σ H' _ => kN0 _ _ trivial)
    rintro turn _ σ _ H2 ht ⟨hh2, u3, u4, u5, u6, u7, u8, u9, u10, u11, u12, u13, u14, u15, u16, u17, u2, rfl⟩ ⟨rfl, rfl⟩
    clear g1 hh1 hs
    walk_at "ws"
    refine ⟨hd, c, 6, rfl, hh2, by decide, by decide, fun r H3 r0 r1 g3 hh3 => ?_⟩
    walk_at "ws"
    obtain ⟨n, en⟩ : ∃ n, n = 1 + r := ⟨_, rfl⟩
    rw [← en]
    have n1 : 1 ≤ n := by omega
    have n7 : n ≤ 6 := by omega
    clear en r0 r1
    refine ⟨hd, c, n, rfl, hh3, n1, by omega, fun wa bs W H4 g4 hh4 hwa tup web => ?_⟩
    walk_at "wn"
    try dsimp only
    refine w_seqM (fun σ H' => ∃ b : Bool, σ = [some (.ref s), some (.ref hd), some (.int (0 + (turn : Int))), some (.int n), some (.ref wa), some (.bl b), u6, u7, u8, u9, u10, u11, u12, u13, u14, u15, u16, u17] ∧ G (some (hd, c)) H4 H' ∧ Hand H' hd c) (fun N kN => ?_) ?_
    · walk_at "ws"
      refine w_ite (fun e => ?_) (fun e => ?_)
      · walk_at "ws"
        refine ⟨hd, c, 24, rfl, hh4, by decide, by decide, fun r H5 r0 r1 g5 hh5 => ?_⟩
        walk_at "ws"
        exact kN _ _ ⟨_, rfl, g5, hh5⟩
      · exact kN _ _ ⟨_, rfl, G.refl, hh4⟩
    rintro σ H5 ⟨b, rfl, g5, hh5⟩
    walk_at "wn"
    try dsimp only
    refine w_seqM (fun σ H' => ∃ many : Int, σ = [some (.ref s), some (.ref hd), some (.int (0 + (turn : Int))), some (.int n), some (.ref wa), some (.bl b), some (.int many), u7, u8, u9, u10, u11, u12, u13, u14, u15, u16, u17] ∧ (0 ≤ many ∧ many ≤ 30) ∧ G (some (hd, c)) H5 H' ∧ Hand H' hd c) (fun N kN => ?_) ?_
    · walk_at "ws"
      refine w_ite (fun e => ?_) (fun e => ?_)
      · walk_at "ws"
        exact kN _ _ ⟨30, rfl, ⟨by decide, by decide⟩, G.refl, hh5⟩
      · walk_at "ws"
        refine ⟨hd, c, 11, rfl, hh5, by decide, by decide, fun r H6 r0 r1 g6 hh6 => ?_⟩
        exact kN _ _ ⟨r, rfl, ⟨r0, by omega⟩, g6, hh6⟩
    rintro σ H6 ⟨many, rfl, ⟨many0, many1⟩, g6, hh6⟩
    have g46 := g5.trans g6
    have hwa6 := sqT_t g46.tups hwa
    have tup6 := tup.g g46 (fun p e => by cases e; exact hh4)
    walk_at "ws"
    refine i_rng1 (by omega) (by omega) ?_
    intro D hD
    have hh6p : ∀ p, some (hd, c) = some p → Hand H6 p.1 p.2 := fun p e => by cases e; exact hh6
    refine lc_data (K := K) (o := some (hd, c)) walk_range (by omega) hD hh6p (fun i acc _ => ∃ ns : List Int, acc = ns.map PyData.int ∧ (∀ w ∈ ns, 0 ≤ w ∧ w < n) ∧ ns.length ≤ i) (fun _ _ _ _ _ h _ => h) ⟨[], rfl, (fun _ h => nomatch h), Nat.le_refl _⟩ (fun _ _ _ _ _ => trivial) ?_ ?_
    · rintro i _ acc _ H7 hi g7 ⟨ns, rfl, hns, ln⟩ ⟨rfl, rfl⟩ Qy Qn ky kn
      walk_at "ws"
      refine ⟨rfl, ?_⟩
      walk_at "ws"
      refine ⟨hd, c, n, rfl, g7.hand (hd, c) rfl hh6, by omega, by omega, fun w H8 w0 w1 g8 hh8 => ?_⟩
      refine ky _ _ _ g8 (.int w) rfl ⟨ns ++ [w], by rw [List.map_append]; rfl, fun v hv => ?_, by rw [List.length_append, List.length_singleton]; omega⟩
      rcases List.mem_append.mp hv with z | z
      · exact hns v z
      · have e : v = w := by simpa using z
        rw [e]; exact ⟨w0, w1⟩
    rintro _ xs H7 ⟨ws, rfl, hws, lw⟩ g7 hD7 hds _
    obtain rfl := DpAll.of_ints hds
    have hh7 : Hand H7 hd c := g7.hand (hd, c) rfl hh6
    walk_at "ws"
    refine ⟨D, _, rfl, .inl ⟨SqL.of hD7, fun vp H8 hvp g8 h8 => ?_⟩⟩
    have hh8 := (g8 (some (hd, c))).hand _ rfl hh7
    have g68 := g7.trans (g8 _)
    have z30 : ws.length ≤ 30 := by omega
    have O := ww_of web hws z30
    walk_at "ws"
    refine w_bran (fun v H' => ∃ most : Int, v = .int most ∧ (0 ≤ most ∧ most ≤ 1000) ∧ G (some (hd, c)) H8 H' ∧ Hand H' hd c) (fun N kN => ?_) ?_
    · refine w_ite (fun e => ?_) (fun e => ?_)
      · exact kN _ _ ⟨1000, rfl, ⟨by decide, by decide⟩, G.refl, hh8⟩
      · walk_at "ws"
        refine ⟨hd, c, 60, rfl, hh8, by decide, by decide, fun r H9 r0 r1 g9 hh9 => ?_⟩
        exact kN _ _ ⟨r, rfl, ⟨r0, by omega⟩, g9, hh9⟩
    rintro _ H9 ⟨most, rfl, ⟨mo0, mo1⟩, g9, hh9⟩
    have g69 := g68.trans g9
    walk_at "ws"
    refine ⟨hd, c, n, wa, bs, W, vp, ws, most, rfl, hh9, sqT_t g69.tups hwa6, tup6.g g69 hh6p, web, sqT_t g9.tups (SqT.of h8), z30, hws, mo0, mo1, fun q dt st ds HA gA hhA hq hdia ld rec sv hst hsv zsv hled pos nst => ?_⟩
    have nsth : st ≠ hd := hh9.ne nst
    have g6A := g69.trans gA
    refine ⟨q, _, rfl, SqT.of hq, rfl, ?_⟩
    refine ⟨_, _, rfl, ?_⟩
    walk_at "ws"
    refine ⟨_, _, rfl, ?_⟩
    walk_at "ws"
    refine ⟨rfl, ?_⟩
    walk_at "ws"
    refine web_newB (C := a.c_Web) (sqT_t g6A.tups hwa6) (tup6.g g6A hh6p) web fun wx HB hwx gB hweb => ?_
    have hhB := (gB none).up.hand (hd, c) rfl hhA
    walk_at "ws"
    refine ⟨st, _, rfl, .inl (SqL.of ((gB none).all _ _ hst)), fun kp HC hkp gC hC => ?_⟩
    have hhC := (gC none).up.hand (hd, c) rfl hhB
    have gAC := (gB none).trans (gC none)
    have gAC' : G (some (hd, c)) HA HC := gAC.up
    have EC : Env K a.c_Web hd HC n wa bs W vp ws dt ds st sv wx kp := ⟨sqT_t gAC.tups (sqT_t g6A.tups hwa6), (tup6.g g6A hh6p).g gAC (fun _ e => nomatch e), sqT_t ((g9.trans gA).trans gAC').tups (SqT.of h8), hdia.n gAC, gAC.all _ _ hst, fun q m => gAC.tups _ _ (hsv q m), hweb.all (gC none), hC, nsth, hhB.ne hkp⟩
    obtain ⟨sE, hsE⟩ := hled
    have oE : outT n W ws (some ((sv.map (·.2)).map tgS)) = .inr sE := by
      show (if ((sv.map (·.2)).map tgS).length ≤ 4000 then (match goT n W ws ls0 ((sv.map (·.2)).map tgS) 0 with | .inl i => Sum.inl (i : Int) | .inr s => .inr s) else .inl (-1)) = _
      rw [if_pos (by rw [List.length_map, List.length_map]; omega), go_led O.rng pos hsE]
    clear hD hD7 hds hq hdia hst hsv hweb hC h8 hwa6 tup6 hwa tup hkp hwx nst hvp gAC gAC' g68 g69 g6A g7 g8 g9 g5 g6 g46 g4 g3 gA gB gC hhA hhB hh9 hh8 hh7 hh6 hh6p hh5 hh4 hh3 hh2 hsE pos lw
    generalize HC = HS at EC hhC ⊢
    walk_at "wn"
    try dsimp only
    refine w_seqM (fun σ H' => ∃ u12 u13 u14 u15 u16 u17 : Option V, σ = [some (.ref s), some (.ref hd), some (.int (0 + (turn : Int))), some (.int n), some (.ref wa), some (.bl b), some (.int many), some (.ref vp), some (.ref dt), some (.ref st), some (.ref wx), some (.ref kp), u12, u13, u14, u15, u16, u17] ∧ Hand H' hd c ∧ Env K a.c_Web hd H' n wa bs W vp ws dt ds st sv wx kp) (fun N1 kN1 => ?_) ?_
    · walk_at "ws"
      refine ⟨st, _, rfl, .inl ⟨SqL.of EC.hst, fun tp HD htp gD hD => ?_⟩⟩
      have hhD := (gD none).up.hand (hd, c) rfl hhC
      have ED := EC.n (gD none)
      walk_at "ws"
      refine ⟨hd, c, st, sv, n, rfl, hhD, ED.hst, ED.hsv, zsv, nsth, fun v1 HE gE hhE s1 => ?_⟩
      have EE := ED.g hhD gE
      walk_at "ws"
      refine ⟨hd, c, st, sv, n, rfl, hhE, EE.hst, EE.hsv, zsv, nsth, fun v2 HF gF hhF s2 => ?_⟩
      have EF := EE.g hhE gF
      walk_at "ws"
      refine ⟨sz (by simp), fun tl HG htl gG hG => ?_⟩
      have hhG := (gG none).up.hand (hd, c) rfl hhF
      have ntl := hhF.ne htl
      have EG := EF.n (gG none)
      have anyG : AnyL a.c_Web hd HG (Da.svR sv) := sv_any EG.hsv
      have lsv : (Da.svR sv).length = sv.length := List.length_map ..
      have sG : ∀ v ∈ [V.ref st, .ref tp, v1, v2], Stn K a.c_Web hd HG v := fun v hv => by
        simp only [List.mem_cons, List.not_mem_nil, or_false] at hv
        rcases hv with rfl | rfl | rfl | rfl
        · exact stn_lst EG.hst anyG (by omega) nsth
        · have rt : Rd HG tp (.tup (Da.svR sv)) := (gG none).tups _ _ (gF.tups _ _ (gE.tups _ _ (.inl hD)))
          exact stn_tup rt anyG (by omega) (rd_ne hhG rt)
        · exact (s1.g gF).n (gG none)
        · exact s2.n (gG none)
      have lG : SqL K HG tl [V.ref st, .ref tp, v1, v2] := SqL.of hG
      refine i_list lG ?_
      refine for_it (walk_list (xs := [V.ref st, .ref tp, v1, v2])) (fun i σ H' => ∃ u12 u13 u14 u15 u16 u17 : Option V, σ = [some (.ref s), some (.ref hd), some (.int (0 + (turn : Int))), some (.int n), some (.ref wa), some (.bl b), some (.int many), some (.ref vp), some (.ref dt), some (.ref st), some (.ref wx), some (.ref kp), u12, u13, u14, u15, u16, u17] ∧ Hand H' hd c ∧ Env K a.c_Web hd H' n wa bs W vp ws dt ds st sv wx kp ∧ (∀ v ∈ [V.ref st, .ref tp, v1, v2], Stn K a.c_Web hd H' v) ∧ H' tl = some (.lst [V.ref st, .ref tp, v1, v2])) ⟨_, _, _, _, _, _, rfl, hhG, EG, sG, hG⟩ (fun i σ H' _ ⟨_, _, _, _, _, _, _, _, _, _, q⟩ => SqL.of q) ?_ ?_
      · clear ED EE EF EG hhD hhE hhF hhG anyG sG lG hG hD gD gE gF gG htp htl s1 s2 EC hhC
        rintro i v σ _ HH hi ⟨u12, u13, u14, u15, u16, u17, rfl, hhH, EH, sH, hH⟩ ⟨rfl, hv⟩
        obtain ⟨o, stf, nev⟩ := sH v (List.mem_of_getElem? hv)
        walk_at "wn"
        try dsimp only
        refine w_seqM (fun σ H' => ∃ v13 : V, σ = [some (.ref s), some (.ref hd), some (.int (0 + (turn : Int))), some (.int n), some (.ref wa), some (.bl b), some (.int many), some (.ref vp), some (.ref dt), some (.ref st), some (.ref wx), some (.ref kp), some v, some v13, u14, u15, u16, u17] ∧ G none HH H' ∧ DueV K n.toNat W H' v13 (outT n W ws o)) (fun N kN => ?_) ?_
        · walk_at "ws"
          refine ⟨hd, n, wa, bs, W, vp, ws, v, o, rfl, EH.hwa, EH.htup, n1, O, EH.hvp, stf, fun H' g => ⟨fun i ei => ?_, fun s' es p dp lp hp hdp hlp _ _ => ?_⟩⟩
          · exact kN _ _ ⟨_, rfl, g, by rw [ei]; rfl⟩
          · exact kN _ _ ⟨_, rfl, g, by rw [es]; exact ⟨p, dp, lp, rfl, hp, hdp, hlp⟩⟩
        rintro σ HI ⟨v13, rfl, gI, dueI⟩
        have hhI := gI.up.hand (hd, c) rfl hhH
        have EI := EH.n gI
        walk_at "wn"
        try dsimp only
        refine w_seqM (fun σ H' => ∃ v14 : V, σ = [some (.ref s), some (.ref hd), some (.int (0 + (turn : Int))), some (.int n), some (.ref wa), some (.bl b), some (.int many), some (.ref vp), some (.ref dt), some (.ref st), some (.ref wx), some (.ref kp), some v, some v13, some v14, u15, u16, u17] ∧ G none HI H' ∧ TldV K n.toNat W H' v14 (outT n W ws o)) (fun N kN => ?_) ?_
        · walk_at "ws"
          refine ⟨hd, wx, n, bs, W, vp, ws, v, o, rfl, EI.hweb, n1, O, EI.hvp, stf.n gI, fun H' g => ⟨fun i ei => ?_, fun s' es p dp lp hp hdp hlp _ _ => ?_⟩⟩
          · exact kN _ _ ⟨_, rfl, g, by rw [ei]; rfl⟩
          · exact kN _ _ ⟨_, rfl, g, by rw [es]; exact ⟨p, dp, lp, rfl, hp, hdp, hlp⟩⟩
        rintro σ HJ ⟨v14, rfl, gJ, tldJ⟩
        have hhJ := gJ.up.hand (hd, c) rfl hhI
        have EJ := EI.n gJ
        have dueJ := dueI.n gJ
        clear dueI EI EH
        walk_at "wn"
        try dsimp only
        refine w_seqM (fun σ H' => σ = [some (.ref s), some (.ref hd), some (.int (0 + (turn : Int))), some (.int n), some (.ref wa), some (.bl b), some (.int many), some (.ref vp), some (.ref dt), some (.ref st), some (.ref wx), some (.ref kp), some v, some v13, some v14, u15, u16, u17] ∧ G none HJ H') (fun N kN => ?_) ?_
        · walk_at "ws"
          refine due_int dueJ ?_
          walk_at "ws"
          cases eo : outT n W ws o with
          | inl j =>
            rw [eo] at dueJ tldJ
            obtain rfl : v13 = .int j := dueJ
            obtain rfl : v14 = .int j := tldJ
            refine w_iteE rfl ?_
            walk_at "ws"
            refine ⟨sz (by simp), fun q1 H7 hq1 g7 h7 => ?_⟩
            walk_at "ws"
            refine ⟨sz (by simp), fun q2 H8 hq2 g8 h8 => ?_⟩
            refine ⟨.ref q1, .ref q2, _, rfl, ok1 j, .lst (SqL.of ((g8 none).all _ _ h7)) (.cons (.int j) .nil), .lst (SqL.of h8) (.cons (.int j) .nil), fun H9 g9 => ?_⟩
            walk_at "ws"
            exact kN _ _ ⟨rfl, ((g7 none).trans (g8 none)).trans g9⟩
          | inr s' =>
            rw [eo] at dueJ tldJ
            obtain ⟨p, dp, lp, rfl, hp, hdp, hlp⟩ := dueJ
            obtain ⟨p', dp', lp', rfl, hp', hdp', hlp'⟩ := tldJ
            refine w_iteN rfl ?_
            walk_at "ws"
            refine r_isi (tyx_tup (SqT.of hp')) (kit_ty (by decide +kernel) : PySem.W.kitOne K (.type "tuple") (.type "tuple") = some true) ?_
            walk_at "ws"
            refine r_ixT (SqT.of hp') (v := .ref dp') rfl ?_
            walk_at "ws"
            refine r_ixT (SqT.of hp) (v := .ref dp) rfl ?_
            walk_at "ws"
            refine ⟨.ref dp', .ref dp, _, rfl, ok_dII (dsS n.toNat s') (by unfold dsS; rw [List.length_map, List.length_range]; omega) (fun d hd' => ?_), dia_dp hdp', dia_dp hdp, fun H9 g9 => ?_⟩
            · obtain ⟨z, _, rfl⟩ := List.mem_map.mp hd'
              have := outT_len eo (z : Int)
              omega
            walk_at "ws"
            refine r_ixT (SqT.of (g9.all _ _ hp')) (v := .ref lp') rfl ?_
            walk_at "ws"
            refine r_ixT (SqT.of (g9.all _ _ hp)) (v := .ref lp) rfl ?_
            walk_at "ws"
            obtain ⟨fs, f1, f2, f3⟩ := hlp'
            refine ⟨lp', lp, rfl, rfl, same_let ⟨fs, g9.all _ _ f1, f2, fun j f d e1 e2 => (f3 j f d e1 e2).n g9⟩ (hlp.n g9), ?_⟩
            walk_at "ws"
            exact kN _ _ ⟨rfl, g9⟩
        rintro σ HK ⟨rfl, gK⟩
        have hhK := gK.up.hand (hd, c) rfl hhJ
        have EK := EJ.n gK
        have dueK := dueJ.n gK
        have gHK := (gI.trans gJ).trans gK
        have sK : ∀ v ∈ [V.ref st, .ref tp, v1, v2], Stn K a.c_Web hd HK v := fun v hv => (sH v hv).n gHK
        have hKl := gHK.all _ _ hH
        have stfK := stf.n gHK
        clear tldJ dueJ EJ hhJ hhI sH hH gHK gI gJ gK hhH
        walk_at "wn"
        try dsimp only
        refine w_seqM (fun σ H' => ∃ x : Addr, σ = [some (.ref s), some (.ref hd), some (.int (0 + (turn : Int))), some (.int n), some (.ref wa), some (.bl b), some (.int many), some (.ref vp), some (.ref dt), some (.ref st), some (.ref wx), some (.ref kp), some v, some v13, some v14, some (.ref x), u16, u17] ∧ G none HK H' ∧ Da.RecAt K a.c_Record H' x ws ds) (fun N kN => ?_) ?_
        · walk_at "ws"
          refine Da.rec_new (C := a.c_Record) EK.hvp EK.hdt rec fun x H7 hx g7 hr7 => ?_
          exact kN _ _ ⟨x, rfl, g7 none, hr7⟩
        rintro σ HL ⟨x, rfl, gL, hrL⟩
        have hhL := gL.up.hand (hd, c) rfl hhK
        have EL := EK.n gL
        have dueL := dueK.n gL
        have sL : ∀ v ∈ [V.ref st, .ref tp, v1, v2], Stn K a.c_Web hd HL v := fun v hv => (sK v hv).n gL
        have hLl := gL.all _ _ hKl
        have stfL := stfK.n gL
        clear EK dueK sK hKl gL hhK
        walk_at "wn"
        try dsimp only
        refine w_seqM (fun σ H' => ∃ (x : Addr) (ds' : List (List Int)), σ = [some (.ref s), some (.ref hd), some (.int (0 + (turn : Int))), some (.int n), some (.ref wa), some (.bl b), some (.int many), some (.ref vp), some (.ref dt), some (.ref st), some (.ref wx), some (.ref kp), some v, some v13, some v14, some (.ref x), u16, u17] ∧ G (some (hd, c)) HL H' ∧ Hand H' hd c ∧ Da.RecAt K a.c_Record H' x ws ds' ∧ ds'.length = n.toNat) (fun N kN => ?_) ?_
        · walk_at "ws"
          refine ⟨hd, c, 3, rfl, hhL, by decide, by decide, fun r H7 r0 r1 g7 hh7 => ?_⟩
          have E7 := EL.g hhL g7
          walk_at "ws"
          refine w_ite (fun e => ?_) (fun e => ?_)
          · walk_at "ws"
            refine ⟨hd, c, vp, dt, ws, ds, rfl, hh7, E7.hvp, E7.hdt, rec, fun p ds' H8 g8 hh8 hd8 rec8 l8 => ?_⟩
            walk_at "ws"
            refine Da.rec_new (C := a.c_Record) (sqT_t g8.tups E7.hvp) hd8 rec8 fun x H9 hx g9 hr9 => ?_
            exact kN _ _ ⟨x, ds', rfl, (g7.trans g8).trans (g9 none).up, (g9 none).up.hand (hd, c) rfl hh8, hr9, by omega⟩
          · walk_at "ws"
            obtain ⟨dr, wp, dp, r1, r2, r3⟩ := hrL
            exact kN _ _ ⟨x, ds, rfl, g7, hh7, ⟨dr, wp, dp, g7.keep _ _ (off_ins hhL r1) r1, sqT_t g7.tups r2, r3.g g7 (fun p e => by cases e; exact hhL)⟩, by omega⟩
        rintro σ HM ⟨x, ds', rfl, gM, hhM, hrM, ldM⟩
        have EM := EL.g hhL gM
        have dueM := dueL.g hhL gM
        have sM : ∀ v ∈ [V.ref st, .ref tp, v1, v2], Stn K a.c_Web hd HM v := fun v hv => (sL v hv).g gM
        have stfM := Stf.g stfL nev gM
        have hMl := gM.keep tl _ (fun q e => by cases e; exact ntl) hLl
        obtain ⟨dr, wp, dp0, hxi, hwp, hdia0⟩ := id hrM
        clear EL dueL sL hLl gM hhL hrL
        walk_at "wn"
        try dsimp only
        refine w_seqM (fun σ H' => σ = [some (.ref s), some (.ref hd), some (.int (0 + (turn : Int))), some (.int n), some (.ref wa), some (.bl b), some (.int many), some (.ref vp), some (.ref dt), some (.ref st), some (.ref wx), some (.ref kp), some v, some v13, some v14, some (.ref x), some (.bl (isR n.toNat ds' (outT n W ws o))), u17] ∧ H' = HM) (fun N kN => ?_) ?_
        · walk_at "ws"
          refine due_int dueM ?_
          walk_at "ws"
          cases eo : outT n W ws o with
          | inl j =>
            refine w_iteN rfl ?_
            exact kN _ _ ⟨by rw [eo]; rfl, rfl⟩
          | inr s' =>
            rw [eo] at dueM
            obtain ⟨p, dp, lp, rfl, hp, hdp, hlp⟩ := dueM
            refine w_iteE rfl ?_
            walk_at "ws"
            refine r_ixT (SqT.of hp) (v := .ref dp) rfl ?_
            walk_at "ws"
            refine Da.r_fld hxi T.cl_Record T.na_Record_diaries (Da.rf_d _ _) ?_
            refine ⟨_, _, dia_dp hdp, dia_dp hdia0, sh_dII _, sh_dII _, ?_⟩
            rw [eqv_dII]
            exact kN _ _ ⟨by rw [eo]; rfl, rfl⟩
        rintro σ HM2 ⟨rfl, eH⟩
        have eH := eH.symm
        subst eH
        walk_at "ws"
        refine ⟨hd, wx, x, n, bs, W, ws, ds', v, o, rfl, EM.hweb, n1, O, hrM, by omega, stfM, fun H7 g7 => ?_⟩
        walk_at "ws"
        refine ⟨_, rfl, ?_⟩
        walk_at "ws"
        exact ⟨_, _, _, _, _, _, rfl, g7.up.hand (hd, c) rfl hhM, EM.n g7, fun v hv => (sM v hv).n g7, g7.all _ _ hMl⟩
      · rintro σ HH ⟨u12, u13, u14, u15, u16, u17, rfl, hhH, EH, _, _⟩
        exact kN1 _ _ ⟨_, _, _, _, _, _, rfl, hhH, EH⟩
    · clear EC hhC
      rintro σ HI ⟨u12, u13, u14, u15, u16, u17, rfl, hhI, EI⟩
      walk_at "ws"
      refine ⟨.list ((sv.map (·.2)).map dSt), .list ((sv.map (·.2)).map dSt), .lst (SqL.of EI.hst) (sv_dp EI.hsv), .lst (SqL.of EI.hkp) (sv_dp EI.hsv), sh_dSts _, sh_dSts _, ?_⟩
      rw [eqv_dStL]
      walk_at "ws"
      have stI : Stf K a.c_Web hd HI (.ref st) (some ((sv.map (·.2)).map tgS)) := ⟨st, _, rfl, .inl (SqL.of EI.hst), sv_tg EI.hsv, by rw [List.length_map, List.length_map]; omega⟩
      refine ⟨hd, wx, n, bs, W, vp, ws, .ref st, _, rfl, EI.hweb, n1, O, EI.hvp, stI, fun s' es p dp lp HJ gJ hp hdp hlp nlp np => ?_, fun i ei => by rw [oE] at ei; cases ei⟩
      have hhJ := gJ.up.hand (hd, c) rfl hhI
      have EJ := EI.n gJ
      obtain ⟨fs, f1, f2, f3⟩ := hlp
      walk_at "ws"
      refine ⟨sz (by simp), fun em HK hem gK hK => ?_⟩
      walk_at "ws"
      have gJK := gK none
      refine r_ixT (SqT.of (gJK.all _ _ hp)) (v := .ref lp) rfl ?_
      walk_at "ws"
      refine ⟨sz (by simp), fun kt HL hkt gL hL => ?_⟩
      have gJL := gJK.trans (gL none)
      have f1L := gJL.all _ _ f1
      refine ⟨lp, _, rfl, DPut.t (k := [.inl 9, .inl 9]) f1L hL (Nat.lt_of_le_of_lt (by rw [dtOf_len f2.symm]; have := O.w49; omega : (Da.dtOf W fs).length ≤ 1000) (by decide)), ?_⟩
      have gM : G none HI (upd HL lp (.dT (putK (Da.dtOf W fs) [.inl 9, .inl 9] (.ref em)))) := (gJ.trans gJL).mut nlp (fun _ e => nomatch e)
      have EM := EI.n gM
      have hhM := gM.up.hand (hd, c) rfl hhI
      have stM := stI.n gM
      generalize upd HL lp (.dT (putK (Da.dtOf W fs) [.inl 9, .inl 9] (.ref em))) = HM at gM EM hhM stM ⊢
      walk_at "ws"
      refine w_din ?_
      walk_at "ws"
      refine ⟨sz (by simp), fun k2 HN hk2 gN hN => ?_⟩
      walk_at "ws"
      refine ⟨hd, wx, n, bs, W, vp, ws, .ref st, _, rfl, (EM.n (gN none)).hweb, n1, O, (EM.n (gN none)).hvp, stM.n (gN none), fun s2 es2 p2 dp2 lp2 HO gO hp2 hdp2 hlp2 _ _ => ?_, fun i ei => by rw [oE] at ei; cases ei⟩
      obtain ⟨fs2, f21, f22, f23⟩ := hlp2
      walk_at "ws"
      refine r_ixT (SqT.of hp2) (v := .ref lp2) rfl ?_
      refine ⟨lp2, _, rfl, DGet.t (k := Da.keyOfP (9, 9)) f21 (gO.all _ _ hN), ?_⟩
      rw [valT_none (fun h => by have := O.rng _ h; dsimp only at this; omega)]
      walk_at "ws"
      refine w_iteN rfl ?_
      walk_at "ws"
      exact ⟨(gM.trans ((gN none).trans gO)).up.hand (hd, c) rfl hhI, _, _, _, _, _, _, _, _, _, _, _, _, _, _, _, _, rfl⟩
  · rintro σ H2 _
    walk_at "ws"
    refine ⟨sz (by simp), fun t1 H3 ht1 g3 h3 => ?_⟩
    walk_at "ws"
    refine ⟨sz (by simp), fun w1 H4 hw1 g4 h4 => ?_⟩
    have web : Da.IsWeb 2 [(0, 1)] := ⟨by decide, by decide, fun u hu => by
      have e : u = (0, 1) := by simpa using hu
      subst e
      exact ⟨⟨by decide, by decide⟩, ⟨by decide, by decide⟩, by decide⟩, List.pairwise_singleton _ _⟩
    have O := ww_of (n := 2) (ws := [0]) web (fun w hw => by
      have e : w = 0 := by simpa using hw
      subst e
      exact ⟨by decide, by decide⟩) (by decide)
    refine web_newB (C := a.c_Web) (bs := [t1]) (ws := [(0, 1)]) (SqT.of h4) ⟨rfl, fun i b u e1 e2 => ?_⟩ web fun wx H5 hwx g5 hweb => ?_
    · have i0 : i = 0 := by
        have := (List.getElem?_eq_some_iff.mp e1).1
        simpa using this
      subst i0
      cases e1; cases e2
      exact (g4 none).all _ _ h3
    walk_at "ws"
    refine ⟨sz (by simp), fun v1 H6 hv1 g6 h6 => ?_⟩
    walk_at "ws"
    refine ⟨sz (by simp), fun p1 H7 hp1 g7 h7 => ?_⟩
    walk_at "ws"
    refine ⟨sz (by simp), fun l1 H8 hl1 g8 h8 => ?_⟩
    have g58 := ((g6 none).trans (g7 none)).trans (g8 none)
    obtain ⟨sF, oF, dF, lF⟩ : ∃ sF, outT 2 [(0, 1)] [0] (some [.tup [.str "put", .int 0]]) = .inr sF ∧ dsS 2 sF = [[0], []] ∧ ([(0, 1)] : List (Int × Int)).map sF.lt = [[0]] := ⟨_, rfl, by decide, by decide⟩
    have st8 : Stf K a.c_Web hd H8 (.ref l1) (some [.tup [.str "put", .int 0]]) := ⟨l1, _, rfl, .inl (SqL.of h8), .cons (.tup (.inl ((g8 none).all _ _ h7)) (.cons (.str _) (.cons (.int _) .nil))) .nil, by decide⟩
    refine ⟨hd, wx, 2, [t1], [(0, 1)], v1, [0], .ref l1, _, rfl, hweb.all g58, by decide, O, SqT.of (((g7 none).trans (g8 none)).all _ _ h6), st8, fun s' es p dp lp H9 g9 hp hdp hlp nlp np => ?_, fun i ei => by rw [oF] at ei; cases ei⟩
    rw [oF] at es
    cases es
    rw [show (2 : Int).toNat = 2 from rfl, dF] at hdp
    rw [lF] at hlp
    obtain ⟨fs, f1, f2, f3⟩ := hlp
    obtain ⟨f, rfl⟩ : ∃ f, fs = [f] := by
      match fs, f2 with
      | [f], _ => exact ⟨f, rfl⟩
    have hf := f3 0 f [0] rfl rfl
    walk_at "ws"
    refine ⟨sz (by simp), fun a1 HA ha1 gA hA => ?_⟩
    walk_at "ws"
    refine ⟨sz (by simp), fun a2 HB ha2 gB hB => ?_⟩
    walk_at "ws"
    refine ⟨sz (by simp), fun a3 HC ha3 gC hC => ?_⟩
    walk_at "ws"
    refine w_dispT1 fun dd hdd => ?_
    have gD : G none HC (upd HC dd (.dT [])) := G.alloc hdd
    have hD : upd HC dd (.dT []) dd = some (.dT []) := upd_same
    generalize upd HC dd (.dT []) = HD at gD hD ⊢
    walk_at "ws"
    refine ⟨sz (by simp), fun a4 HE ha4 gE hE => ?_⟩
    walk_at "ws"
    refine ⟨sz (by simp), fun a5 HF ha5 gF hF => ?_⟩
    refine ⟨((gE none).trans (gF none)).all _ _ hD, [.inl 0, .inl 1], a4, rfl, (gF none).all _ _ hE, ?_⟩
    have gDF := (gE none).trans (gF none)
    have gCF : G none HC (upd HF dd (.dT [([.inl 0, .inl 1], .ref a5)])) := (gD.trans gDF).mut hdd (fun _ e => nomatch e)
    have hF5 : SqT K (upd HF dd (.dT [([.inl 0, .inl 1], .ref a5)])) a5 [.int 0] := sqT_t (ts_dT (gDF.all _ _ hD)) (SqT.of hF)
    have hdF : upd HF dd (.dT [([.inl 0, .inl 1], .ref a5)]) dd = some (.dT [([.inl 0, .inl 1], .ref a5)]) := upd_same
    have ndp : dd ≠ lp := fun e => by
      rw [e] at hdd
      rw [(((gA none).trans (gB none)).trans (gC none)).all _ _ f1] at hdd
      cases hdd
    generalize upd HF dd (.dT [([.inl 0, .inl 1], .ref a5)]) = HG at gCF hF5 hdF ⊢
    have g9C := ((gA none).trans (gB none)).trans (gC none)
    have g9G := g9C.trans gCF
    walk_at "ws"
    refine ⟨sz (by simp), fun tt HI htt gI hI => ?_⟩
    have g9I := g9G.trans (gI none)
    have dC : Dp K HI (.ref a3) (dII [[0], []]) := .tup (SqT.of ((gCF.trans (gI none)).all _ _ hC)) (.cons (dp_ofI (ns := [0]) (SqT.of ((((gB none).trans (gC none)).trans (gCF.trans (gI none))).all _ _ hA))) (.cons (dp_ofI (ns := []) (SqT.of (((gC none).trans (gCF.trans (gI none))).all _ _ hB))) .nil))
    have np2 : p ≠ tt := (ne_of_none (g9G.all _ _ hp) htt)
    refine ⟨p, tt, dII [[0], []], .ref dp, .ref a3, lp, dd, rfl, rfl, np2, g9I.all _ _ hp, hI, dia_dp (hdp.n g9I), dC, sh_dII _, by rw [eqv_dII]; exact decide_eq_true rfl, ndp.symm, ?_, k HI⟩
    refine ⟨_, _, g9I.all _ _ f1, (gI none).all _ _ hdF, rfl, fun i x y e1 e2 => ?_⟩
    have i0 : i = 0 := by
      have := (List.getElem?_eq_some_iff.mp e2).1
      simpa using this
    subst i0
    cases e1; cases e2
    exact ⟨rfl, dI [0], dp_ofI (hf.n g9I).sq, dp_ofI (ns := [0]) (sqT_t (gI none).tups hF5), sh_dI _, by rw [eqv_dI]; exact decide_eq_true rfl⟩

end
end Mine
/-! ## KN -/
end
namespace Mine
open PySem L2 GA
/-- what the head finds on the heap is what the proofs lean on -/
theorem all_mk {l : PySem.W.OpenLaw} {w : World} {K : PySem.W.Frag} {h : Heap} {mg : Str → Option Value} {fa : Addr} (X : K.In h) (G : h.Ns mainGlobals mg) (hfa : mg "law" = some (.ref fa))
    {ff_BadWeb_init : Addr} {od_BadWeb_init an_BadWeb_init : Option Addr} {sl_BadWeb_init : Array (Option Value)} {oc_BadWeb_init kV_BadWeb_init dc_BadWeb_init pm_BadWeb_init cd_BadWeb_init ct_BadWeb_init : Value}
    {ff_BadRecord_init : Addr} {od_BadRecord_init an_BadRecord_init : Option Addr} {sl_BadRecord_init : Array (Option Value)} {oc_BadRecord_init kV_BadRecord_init dc_BadRecord_init pm_BadRecord_init cd_BadRecord_init ct_BadRecord_init : Value}
    {ff_BadStep_init : Addr} {od_BadStep_init an_BadStep_init : Option Addr} {sl_BadStep_init : Array (Option Value)} {oc_BadStep_init kV_BadStep_init dc_BadStep_init pm_BadStep_init cd_BadStep_init ct_BadStep_init : Value}
    {ff_NoWriters_init : Addr} {od_NoWriters_init an_NoWriters_init : Option Addr} {sl_NoWriters_init : Array (Option Value)} {oc_NoWriters_init kV_NoWriters_init dc_NoWriters_init pm_NoWriters_init cd_NoWriters_init ct_NoWriters_init : Value}
    {ff_OtherMachines_init : Addr} {od_OtherMachines_init an_OtherMachines_init : Option Addr} {sl_OtherMachines_init : Array (Option Value)} {oc_OtherMachines_init kV_OtherMachines_init dc_OtherMachines_init pm_OtherMachines_init cd_OtherMachines_init ct_OtherMachines_init : Value}
    {ff_is_integer : Addr} {od_is_integer an_is_integer : Option Addr} {sl_is_integer : Array (Option Value)} {oc_is_integer kV_is_integer dc_is_integer pm_is_integer cd_is_integer ct_is_integer : Value}
    {ff_is_between : Addr} {od_is_between an_is_between : Option Addr} {sl_is_between : Array (Option Value)} {oc_is_between kV_is_between dc_is_between pm_is_between cd_is_between ct_is_between : Value}
    {ff_is_below : Addr} {od_is_below an_is_below : Option Addr} {sl_is_below : Array (Option Value)} {oc_is_below kV_is_below dc_is_below pm_is_below cd_is_below ct_is_below : Value}
    {ff_is_list_or_tuple : Addr} {od_is_list_or_tuple an_is_list_or_tuple : Option Addr} {sl_is_list_or_tuple : Array (Option Value)} {oc_is_list_or_tuple kV_is_list_or_tuple dc_is_list_or_tuple pm_is_list_or_tuple cd_is_list_or_tuple ct_is_list_or_tuple : Value}
    {ff_is_tuple_of : Addr} {od_is_tuple_of an_is_tuple_of : Option Addr} {sl_is_tuple_of : Array (Option Value)} {oc_is_tuple_of kV_is_tuple_of dc_is_tuple_of pm_is_tuple_of cd_is_tuple_of ct_is_tuple_of : Value}
    {ff_are_below : Addr} {od_are_below an_are_below : Option Addr} {sl_are_below : Array (Option Value)} {oc_are_below kV_are_below dc_are_below pm_are_below cd_are_below ct_are_below : Value}
    {ff_is_unlike_pair : Addr} {od_is_unlike_pair an_is_unlike_pair : Option Addr} {sl_is_unlike_pair : Array (Option Value)} {oc_is_unlike_pair kV_is_unlike_pair dc_is_unlike_pair pm_is_unlike_pair cd_is_unlike_pair ct_is_unlike_pair : Value}
    {ff_is_worded : Addr} {od_is_worded an_is_worded : Option Addr} {sl_is_worded : Array (Option Value)} {oc_is_worded kV_is_worded dc_is_worded pm_is_worded cd_is_worded ct_is_worded : Value}
    {ff_Web_init : Addr} {od_Web_init an_Web_init : Option Addr} {sl_Web_init : Array (Option Value)} {oc_Web_init kV_Web_init dc_Web_init pm_Web_init cd_Web_init ct_Web_init : Value}
    {ff_Web_eq : Addr} {od_Web_eq an_Web_eq : Option Addr} {sl_Web_eq : Array (Option Value)} {oc_Web_eq kV_Web_eq dc_Web_eq pm_Web_eq cd_Web_eq ct_Web_eq : Value}
    {ff_first_wrong_wire : Addr} {od_first_wrong_wire an_first_wrong_wire : Option Addr} {sl_first_wrong_wire : Array (Option Value)} {oc_first_wrong_wire kV_first_wrong_wire dc_first_wrong_wire pm_first_wrong_wire cd_first_wrong_wire ct_first_wrong_wire : Value}
    {ff_Record_init : Addr} {od_Record_init an_Record_init : Option Addr} {sl_Record_init : Array (Option Value)} {oc_Record_init kV_Record_init dc_Record_init pm_Record_init cd_Record_init ct_Record_init : Value}
    {ff_Record_eq : Addr} {od_Record_eq an_Record_eq : Option Addr} {sl_Record_eq : Array (Option Value)} {oc_Record_eq kV_Record_eq dc_Record_eq pm_Record_eq cd_Record_eq ct_Record_eq : Value}
    {ff_check_record : Addr} {od_check_record an_check_record : Option Addr} {sl_check_record : Array (Option Value)} {oc_check_record kV_check_record dc_check_record pm_check_record cd_check_record ct_check_record : Value}
    {ff_is_diary : Addr} {od_is_diary an_is_diary : Option Addr} {sl_is_diary : Array (Option Value)} {oc_is_diary kV_is_diary dc_is_diary pm_is_diary cd_is_diary ct_is_diary : Value}
    {ff_check_machines : Addr} {od_check_machines an_check_machines : Option Addr} {sl_check_machines : Array (Option Value)} {oc_check_machines kV_check_machines dc_check_machines pm_check_machines cd_check_machines ct_check_machines : Value}
    {ff_Post_init : Addr} {od_Post_init an_Post_init : Option Addr} {sl_Post_init : Array (Option Value)} {oc_Post_init kV_Post_init dc_Post_init pm_Post_init cd_Post_init ct_Post_init : Value}
    {ff_Post_do : Addr} {od_Post_do an_Post_do : Option Addr} {sl_Post_do : Array (Option Value)} {oc_Post_do kV_Post_do dc_Post_do pm_Post_do cd_Post_do ct_Post_do : Value}
    {ff_Post_put : Addr} {od_Post_put an_Post_put : Option Addr} {sl_Post_put : Array (Option Value)} {oc_Post_put kV_Post_put dc_Post_put pm_Post_put cd_Post_put ct_Post_put : Value}
    {ff_Post_come : Addr} {od_Post_come an_Post_come : Option Addr} {sl_Post_come : Array (Option Value)} {oc_Post_come kV_Post_come dc_Post_come pm_Post_come cd_Post_come ct_Post_come : Value}
    {ff_Post_write : Addr} {od_Post_write an_Post_write : Option Addr} {sl_Post_write : Array (Option Value)} {oc_Post_write kV_Post_write dc_Post_write pm_Post_write cd_Post_write ct_Post_write : Value}
    {ff_Post_diaries_told : Addr} {od_Post_diaries_told an_Post_diaries_told : Option Addr} {sl_Post_diaries_told : Array (Option Value)} {oc_Post_diaries_told kV_Post_diaries_told dc_Post_diaries_told pm_Post_diaries_told cd_Post_diaries_told ct_Post_diaries_told : Value}
    {ff_Post_letters_told : Addr} {od_Post_letters_told an_Post_letters_told : Option Addr} {sl_Post_letters_told : Array (Option Value)} {oc_Post_letters_told kV_Post_letters_told dc_Post_letters_told pm_Post_letters_told cd_Post_letters_told ct_Post_letters_told : Value}
    {ff_first_undone : Addr} {od_first_undone an_first_undone : Option Addr} {sl_first_undone : Array (Option Value)} {oc_first_undone kV_first_undone dc_first_undone pm_first_undone cd_first_undone ct_first_undone : Value}
    {ff_are_steps : Addr} {od_are_steps an_are_steps : Option Addr} {sl_are_steps : Array (Option Value)} {oc_are_steps kV_are_steps dc_are_steps pm_are_steps cd_are_steps ct_are_steps : Value}
    {ff_check_writers : Addr} {od_check_writers an_check_writers : Option Addr} {sl_check_writers : Array (Option Value)} {oc_check_writers kV_check_writers dc_check_writers pm_check_writers cd_check_writers ct_check_writers : Value}
    {ff_led : Addr} {od_led an_led : Option Addr} {sl_led : Array (Option Value)} {oc_led kV_led dc_led pm_led cd_led ct_led : Value}
    {ff_is_run : Addr} {od_is_run an_is_run : Option Addr} {sl_is_run : Array (Option Value)} {oc_is_run kV_is_run dc_is_run pm_is_run cd_is_run ct_is_run : Value}
    {ff__law_hand : Addr} {od__law_hand an__law_hand : Option Addr} {sl__law_hand : Array (Option Value)} {oc__law_hand kV__law_hand dc__law_hand pm__law_hand cd__law_hand ct__law_hand : Value}
    {ff__law_draw : Addr} {od__law_draw an__law_draw : Option Addr} {sl__law_draw : Array (Option Value)} {oc__law_draw kV__law_draw dc__law_draw pm__law_draw cd__law_draw ct__law_draw : Value}
    {ff__law_is : Addr} {od__law_is an__law_is : Option Addr} {sl__law_is : Array (Option Value)} {oc__law_is kV__law_is dc__law_is pm__law_is cd__law_is ct__law_is : Value}
    {ff__law_flag : Addr} {od__law_flag an__law_flag : Option Addr} {sl__law_flag : Array (Option Value)} {oc__law_flag kV__law_flag dc__law_flag pm__law_flag cd__law_flag ct__law_flag : Value}
    {ff__law_deep : Addr} {od__law_deep an__law_deep : Option Addr} {sl__law_deep : Array (Option Value)} {oc__law_deep kV__law_deep dc__law_deep pm__law_deep cd__law_deep ct__law_deep : Value}
    {ff__law_web : Addr} {od__law_web an__law_web : Option Addr} {sl__law_web : Array (Option Value)} {oc__law_web kV__law_web dc__law_web pm__law_web cd__law_web ct__law_web : Value}
    {ff__law_ran : Addr} {od__law_ran an__law_ran : Option Addr} {sl__law_ran : Array (Option Value)} {oc__law_ran kV__law_ran dc__law_ran pm__law_ran cd__law_ran ct__law_ran : Value}
    {ff__law_is_whole : Addr} {od__law_is_whole an__law_is_whole : Option Addr} {sl__law_is_whole : Array (Option Value)} {oc__law_is_whole kV__law_is_whole dc__law_is_whole pm__law_is_whole cd__law_is_whole ct__law_is_whole : Value}
    {ff__law_bent_record : Addr} {od__law_bent_record an__law_bent_record : Option Addr} {sl__law_bent_record : Array (Option Value)} {oc__law_bent_record kV__law_bent_record dc__law_bent_record pm__law_bent_record cd__law_bent_record ct__law_bent_record : Value}
    {ff__law_is_step : Addr} {od__law_is_step an__law_is_step : Option Addr} {sl__law_is_step : Array (Option Value)} {oc__law_is_step kV__law_is_step dc__law_is_step pm__law_is_step cd__law_is_step ct__law_is_step : Value}
    {ff__law_behind : Addr} {od__law_behind an__law_behind : Option Addr} {sl__law_behind : Array (Option Value)} {oc__law_behind kV__law_behind dc__law_behind pm__law_behind cd__law_behind ct__law_behind : Value}
    {ff__law_told : Addr} {od__law_told an__law_told : Option Addr} {sl__law_told : Array (Option Value)} {oc__law_told kV__law_told dc__law_told pm__law_told cd__law_told ct__law_told : Value}
    {ff__law_spoiled : Addr} {od__law_spoiled an__law_spoiled : Option Addr} {sl__law_spoiled : Array (Option Value)} {oc__law_spoiled kV__law_spoiled dc__law_spoiled pm__law_spoiled cd__law_spoiled ct__law_spoiled : Value}
    {ff_law : Addr} {od_law an_law : Option Addr} {sl_law : Array (Option Value)} {oc_law kV_law dc_law pm_law cd_law ct_law : Value}
    {C_GrowError : Addr}
    {C_BadWeb : Addr}
    {C_BadRecord : Addr}
    {C_BadStep : Addr}
    {C_NoWriters : Addr}
    {C_OtherMachines : Addr}
    {C_Web : Addr}
    {C_Record : Addr}
    {C_Post : Addr}
    {xnm xq : Str} {xN : Addr} {xbs : List Value} {xsn : List Str} {xsub : List Value} {xab : Bool} {xcol : Option Bool} {xdd : Option Addr} {x0 x1 x2 x3 x5 : Option Value}
    {tk_MOST_MACHINES : Tok}
    {tk_MOST_PUTS : Tok}
    {tk_MOST_STEPS : Tok}
    (aC_GrowError : PySem.W.nsIn K mainGlobals "GrowError" = some (some (.ref C_GrowError)))
    (aC_BadWeb : PySem.W.nsIn K mainGlobals "BadWeb" = some (some (.ref C_BadWeb)))
    (aC_BadRecord : PySem.W.nsIn K mainGlobals "BadRecord" = some (some (.ref C_BadRecord)))
    (aC_BadStep : PySem.W.nsIn K mainGlobals "BadStep" = some (some (.ref C_BadStep)))
    (aC_NoWriters : PySem.W.nsIn K mainGlobals "NoWriters" = some (some (.ref C_NoWriters)))
    (aC_OtherMachines : PySem.W.nsIn K mainGlobals "OtherMachines" = some (some (.ref C_OtherMachines)))
    (aC_Web : PySem.W.nsIn K mainGlobals "Web" = some (some (.ref C_Web)))
    (aC_Record : PySem.W.nsIn K mainGlobals "Record" = some (some (.ref C_Record)))
    (aC_Post : PySem.W.nsIn K mainGlobals "Post" = some (some (.ref C_Post)))
    (a_BadWeb_init : PySem.W.findIn K (.ref C_BadWeb) "__init__" = some (some (.ref ff_BadWeb_init)))
    (i_BadWeb_init : PySem.W.isFn K (.ref ff_BadWeb_init) = true)
    (l_BadWeb_init : K.lookup ff_BadWeb_init = some ⟨oc_BadWeb_init, od_BadWeb_init, .func (PySem.W.fnOf "__init__" "BadWeb.__init__" (defArgs s_BadWeb_init) (defBody s_BadWeb_init) (defScope s_BadWeb_init) .none kV_BadWeb_init dc_BadWeb_init pm_BadWeb_init an_BadWeb_init cd_BadWeb_init ct_BadWeb_init), sl_BadWeb_init⟩)
    (c_BadWeb_init : PySem.W.codeIn K cd_BadWeb_init "BadWeb.__init__" = true)
    (k_BadWeb_init : PySem.W.keepIn K (.ref ff_BadWeb_init) = true)
    (a_BadRecord_init : PySem.W.findIn K (.ref C_BadRecord) "__init__" = some (some (.ref ff_BadRecord_init)))
    (i_BadRecord_init : PySem.W.isFn K (.ref ff_BadRecord_init) = true)
    (l_BadRecord_init : K.lookup ff_BadRecord_init = some ⟨oc_BadRecord_init, od_BadRecord_init, .func (PySem.W.fnOf "__init__" "BadRecord.__init__" (defArgs s_BadRecord_init) (defBody s_BadRecord_init) (defScope s_BadRecord_init) .none kV_BadRecord_init dc_BadRecord_init pm_BadRecord_init an_BadRecord_init cd_BadRecord_init ct_BadRecord_init), sl_BadRecord_init⟩)
    (c_BadRecord_init : PySem.W.codeIn K cd_BadRecord_init "BadRecord.__init__" = true)
    (k_BadRecord_init : PySem.W.keepIn K (.ref ff_BadRecord_init) = true)
    (a_BadStep_init : PySem.W.findIn K (.ref C_BadStep) "__init__" = some (some (.ref ff_BadStep_init)))
    (i_BadStep_init : PySem.W.isFn K (.ref ff_BadStep_init) = true)
    (l_BadStep_init : K.lookup ff_BadStep_init = some ⟨oc_BadStep_init, od_BadStep_init, .func (PySem.W.fnOf "__init__" "BadStep.__init__" (defArgs s_BadStep_init) (defBody s_BadStep_init) (defScope s_BadStep_init) .none kV_BadStep_init dc_BadStep_init pm_BadStep_init an_BadStep_init cd_BadStep_init ct_BadStep_init), sl_BadStep_init⟩)
    (c_BadStep_init : PySem.W.codeIn K cd_BadStep_init "BadStep.__init__" = true)
    (k_BadStep_init : PySem.W.keepIn K (.ref ff_BadStep_init) = true)
    (a_NoWriters_init : PySem.W.findIn K (.ref C_NoWriters) "__init__" = some (some (.ref ff_NoWriters_init)))
    (i_NoWriters_init : PySem.W.isFn K (.ref ff_NoWriters_init) = true)
    (l_NoWriters_init : K.lookup ff_NoWriters_init = some ⟨oc_NoWriters_init, od_NoWriters_init, .func (PySem.W.fnOf "__init__" "NoWriters.__init__" (defArgs s_NoWriters_init) (defBody s_NoWriters_init) (defScope s_NoWriters_init) .none kV_NoWriters_init dc_NoWriters_init pm_NoWriters_init an_NoWriters_init cd_NoWriters_init ct_NoWriters_init), sl_NoWriters_init⟩)
    (c_NoWriters_init : PySem.W.codeIn K cd_NoWriters_init "NoWriters.__init__" = true)
    (k_NoWriters_init : PySem.W.keepIn K (.ref ff_NoWriters_init) = true)
    (a_OtherMachines_init : PySem.W.findIn K (.ref C_OtherMachines) "__init__" = some (some (.ref ff_OtherMachines_init)))
    (i_OtherMachines_init : PySem.W.isFn K (.ref ff_OtherMachines_init) = true)
    (l_OtherMachines_init : K.lookup ff_OtherMachines_init = some ⟨oc_OtherMachines_init, od_OtherMachines_init, .func (PySem.W.fnOf "__init__" "OtherMachines.__init__" (defArgs s_OtherMachines_init) (defBody s_OtherMachines_init) (defScope s_OtherMachines_init) .none kV_OtherMachines_init dc_OtherMachines_init pm_OtherMachines_init an_OtherMachines_init cd_OtherMachines_init ct_OtherMachines_init), sl_OtherMachines_init⟩)
    (c_OtherMachines_init : PySem.W.codeIn K cd_OtherMachines_init "OtherMachines.__init__" = true)
    (k_OtherMachines_init : PySem.W.keepIn K (.ref ff_OtherMachines_init) = true)
    (a_is_integer : PySem.W.nsIn K mainGlobals "is_integer" = some (some (.ref ff_is_integer)))
    (l_is_integer : K.lookup ff_is_integer = some ⟨oc_is_integer, od_is_integer, .func (PySem.W.fnOf "is_integer" "is_integer" (defArgs s_is_integer) (defBody s_is_integer) (defScope s_is_integer) .none kV_is_integer dc_is_integer pm_is_integer an_is_integer cd_is_integer ct_is_integer), sl_is_integer⟩)
    (c_is_integer : PySem.W.codeIn K cd_is_integer "is_integer" = true)
    (k_is_integer : PySem.W.keepIn K (.ref ff_is_integer) = true)
    (a_is_between : PySem.W.nsIn K mainGlobals "is_between" = some (some (.ref ff_is_between)))
    (l_is_between : K.lookup ff_is_between = some ⟨oc_is_between, od_is_between, .func (PySem.W.fnOf "is_between" "is_between" (defArgs s_is_between) (defBody s_is_between) (defScope s_is_between) .none kV_is_between dc_is_between pm_is_between an_is_between cd_is_between ct_is_between), sl_is_between⟩)
    (c_is_between : PySem.W.codeIn K cd_is_between "is_between" = true)
    (k_is_between : PySem.W.keepIn K (.ref ff_is_between) = true)
    (a_is_below : PySem.W.nsIn K mainGlobals "is_below" = some (some (.ref ff_is_below)))
    (l_is_below : K.lookup ff_is_below = some ⟨oc_is_below, od_is_below, .func (PySem.W.fnOf "is_below" "is_below" (defArgs s_is_below) (defBody s_is_below) (defScope s_is_below) .none kV_is_below dc_is_below pm_is_below an_is_below cd_is_below ct_is_below), sl_is_below⟩)
    (c_is_below : PySem.W.codeIn K cd_is_below "is_below" = true)
    (k_is_below : PySem.W.keepIn K (.ref ff_is_below) = true)
    (a_is_list_or_tuple : PySem.W.nsIn K mainGlobals "is_list_or_tuple" = some (some (.ref ff_is_list_or_tuple)))
    (l_is_list_or_tuple : K.lookup ff_is_list_or_tuple = some ⟨oc_is_list_or_tuple, od_is_list_or_tuple, .func (PySem.W.fnOf "is_list_or_tuple" "is_list_or_tuple" (defArgs s_is_list_or_tuple) (defBody s_is_list_or_tuple) (defScope s_is_list_or_tuple) .none kV_is_list_or_tuple dc_is_list_or_tuple pm_is_list_or_tuple an_is_list_or_tuple cd_is_list_or_tuple ct_is_list_or_tuple), sl_is_list_or_tuple⟩)
    (c_is_list_or_tuple : PySem.W.codeIn K cd_is_list_or_tuple "is_list_or_tuple" = true)
    (k_is_list_or_tuple : PySem.W.keepIn K (.ref ff_is_list_or_tuple) = true)
    (a_is_tuple_of : PySem.W.nsIn K mainGlobals "is_tuple_of" = some (some (.ref ff_is_tuple_of)))
    (l_is_tuple_of : K.lookup ff_is_tuple_of = some ⟨oc_is_tuple_of, od_is_tuple_of, .func (PySem.W.fnOf "is_tuple_of" "is_tuple_of" (defArgs s_is_tuple_of) (defBody s_is_tuple_of) (defScope s_is_tuple_of) .none kV_is_tuple_of dc_is_tuple_of pm_is_tuple_of an_is_tuple_of cd_is_tuple_of ct_is_tuple_of), sl_is_tuple_of⟩)
    (c_is_tuple_of : PySem.W.codeIn K cd_is_tuple_of "is_tuple_of" = true)
    (k_is_tuple_of : PySem.W.keepIn K (.ref ff_is_tuple_of) = true)
    (a_are_below : PySem.W.nsIn K mainGlobals "are_below" = some (some (.ref ff_are_below)))
    (l_are_below : K.lookup ff_are_below = some ⟨oc_are_below, od_are_below, .func (PySem.W.fnOf "are_below" "are_below" (defArgs s_are_below) (defBody s_are_below) (defScope s_are_below) .none kV_are_below dc_are_below pm_are_below an_are_below cd_are_below ct_are_below), sl_are_below⟩)
    (c_are_below : PySem.W.codeIn K cd_are_below "are_below" = true)
    (k_are_below : PySem.W.keepIn K (.ref ff_are_below) = true)
    (a_is_unlike_pair : PySem.W.nsIn K mainGlobals "is_unlike_pair" = some (some (.ref ff_is_unlike_pair)))
    (l_is_unlike_pair : K.lookup ff_is_unlike_pair = some ⟨oc_is_unlike_pair, od_is_unlike_pair, .func (PySem.W.fnOf "is_unlike_pair" "is_unlike_pair" (defArgs s_is_unlike_pair) (defBody s_is_unlike_pair) (defScope s_is_unlike_pair) .none kV_is_unlike_pair dc_is_unlike_pair pm_is_unlike_pair an_is_unlike_pair cd_is_unlike_pair ct_is_unlike_pair), sl_is_unlike_pair⟩)
    (c_is_unlike_pair : PySem.W.codeIn K cd_is_unlike_pair "is_unlike_pair" = true)
    (k_is_unlike_pair : PySem.W.keepIn K (.ref ff_is_unlike_pair) = true)
    (a_is_worded : PySem.W.nsIn K mainGlobals "is_worded" = some (some (.ref ff_is_worded)))
    (l_is_worded : K.lookup ff_is_worded = some ⟨oc_is_worded, od_is_worded, .func (PySem.W.fnOf "is_worded" "is_worded" (defArgs s_is_worded) (defBody s_is_worded) (defScope s_is_worded) .none kV_is_worded dc_is_worded pm_is_worded an_is_worded cd_is_worded ct_is_worded), sl_is_worded⟩)
    (c_is_worded : PySem.W.codeIn K cd_is_worded "is_worded" = true)
    (k_is_worded : PySem.W.keepIn K (.ref ff_is_worded) = true)
    (a_Web_init : PySem.W.findIn K (.ref C_Web) "__init__" = some (some (.ref ff_Web_init)))
    (i_Web_init : PySem.W.isFn K (.ref ff_Web_init) = true)
    (l_Web_init : K.lookup ff_Web_init = some ⟨oc_Web_init, od_Web_init, .func (PySem.W.fnOf "__init__" "Web.__init__" (defArgs s_Web_init) (defBody s_Web_init) (defScope s_Web_init) .none kV_Web_init dc_Web_init pm_Web_init an_Web_init cd_Web_init ct_Web_init), sl_Web_init⟩)
    (c_Web_init : PySem.W.codeIn K cd_Web_init "Web.__init__" = true)
    (k_Web_init : PySem.W.keepIn K (.ref ff_Web_init) = true)
    (a_Web_eq : PySem.W.findIn K (.ref C_Web) "__eq__" = some (some (.ref ff_Web_eq)))
    (i_Web_eq : PySem.W.isFn K (.ref ff_Web_eq) = true)
    (l_Web_eq : K.lookup ff_Web_eq = some ⟨oc_Web_eq, od_Web_eq, .func (PySem.W.fnOf "__eq__" "Web.__eq__" (defArgs s_Web_eq) (defBody s_Web_eq) (defScope s_Web_eq) .none kV_Web_eq dc_Web_eq pm_Web_eq an_Web_eq cd_Web_eq ct_Web_eq), sl_Web_eq⟩)
    (c_Web_eq : PySem.W.codeIn K cd_Web_eq "Web.__eq__" = true)
    (k_Web_eq : PySem.W.keepIn K (.ref ff_Web_eq) = true)
    (a_first_wrong_wire : PySem.W.nsIn K mainGlobals "first_wrong_wire" = some (some (.ref ff_first_wrong_wire)))
    (l_first_wrong_wire : K.lookup ff_first_wrong_wire = some ⟨oc_first_wrong_wire, od_first_wrong_wire, .func (PySem.W.fnOf "first_wrong_wire" "first_wrong_wire" (defArgs s_first_wrong_wire) (defBody s_first_wrong_wire) (defScope s_first_wrong_wire) .none kV_first_wrong_wire dc_first_wrong_wire pm_first_wrong_wire an_first_wrong_wire cd_first_wrong_wire ct_first_wrong_wire), sl_first_wrong_wire⟩)
    (c_first_wrong_wire : PySem.W.codeIn K cd_first_wrong_wire "first_wrong_wire" = true)
    (k_first_wrong_wire : PySem.W.keepIn K (.ref ff_first_wrong_wire) = true)
    (a_Record_init : PySem.W.findIn K (.ref C_Record) "__init__" = some (some (.ref ff_Record_init)))
    (i_Record_init : PySem.W.isFn K (.ref ff_Record_init) = true)
    (l_Record_init : K.lookup ff_Record_init = some ⟨oc_Record_init, od_Record_init, .func (PySem.W.fnOf "__init__" "Record.__init__" (defArgs s_Record_init) (defBody s_Record_init) (defScope s_Record_init) .none kV_Record_init dc_Record_init pm_Record_init an_Record_init cd_Record_init ct_Record_init), sl_Record_init⟩)
    (c_Record_init : PySem.W.codeIn K cd_Record_init "Record.__init__" = true)
    (k_Record_init : PySem.W.keepIn K (.ref ff_Record_init) = true)
    (a_Record_eq : PySem.W.findIn K (.ref C_Record) "__eq__" = some (some (.ref ff_Record_eq)))
    (i_Record_eq : PySem.W.isFn K (.ref ff_Record_eq) = true)
    (l_Record_eq : K.lookup ff_Record_eq = some ⟨oc_Record_eq, od_Record_eq, .func (PySem.W.fnOf "__eq__" "Record.__eq__" (defArgs s_Record_eq) (defBody s_Record_eq) (defScope s_Record_eq) .none kV_Record_eq dc_Record_eq pm_Record_eq an_Record_eq cd_Record_eq ct_Record_eq), sl_Record_eq⟩)
    (c_Record_eq : PySem.W.codeIn K cd_Record_eq "Record.__eq__" = true)
    (k_Record_eq : PySem.W.keepIn K (.ref ff_Record_eq) = true)
    (a_check_record : PySem.W.nsIn K mainGlobals "check_record" = some (some (.ref ff_check_record)))
    (l_check_record : K.lookup ff_check_record = some ⟨oc_check_record, od_check_record, .func (PySem.W.fnOf "check_record" "check_record" (defArgs s_check_record) (defBody s_check_record) (defScope s_check_record) .none kV_check_record dc_check_record pm_check_record an_check_record cd_check_record ct_check_record), sl_check_record⟩)
    (c_check_record : PySem.W.codeIn K cd_check_record "check_record" = true)
    (k_check_record : PySem.W.keepIn K (.ref ff_check_record) = true)
    (a_is_diary : PySem.W.nsIn K mainGlobals "is_diary" = some (some (.ref ff_is_diary)))
    (l_is_diary : K.lookup ff_is_diary = some ⟨oc_is_diary, od_is_diary, .func (PySem.W.fnOf "is_diary" "is_diary" (defArgs s_is_diary) (defBody s_is_diary) (defScope s_is_diary) .none kV_is_diary dc_is_diary pm_is_diary an_is_diary cd_is_diary ct_is_diary), sl_is_diary⟩)
    (c_is_diary : PySem.W.codeIn K cd_is_diary "is_diary" = true)
    (k_is_diary : PySem.W.keepIn K (.ref ff_is_diary) = true)
    (a_check_machines : PySem.W.nsIn K mainGlobals "check_machines" = some (some (.ref ff_check_machines)))
    (l_check_machines : K.lookup ff_check_machines = some ⟨oc_check_machines, od_check_machines, .func (PySem.W.fnOf "check_machines" "check_machines" (defArgs s_check_machines) (defBody s_check_machines) (defScope s_check_machines) .none kV_check_machines dc_check_machines pm_check_machines an_check_machines cd_check_machines ct_check_machines), sl_check_machines⟩)
    (c_check_machines : PySem.W.codeIn K cd_check_machines "check_machines" = true)
    (k_check_machines : PySem.W.keepIn K (.ref ff_check_machines) = true)
    (a_Post_init : PySem.W.findIn K (.ref C_Post) "__init__" = some (some (.ref ff_Post_init)))
    (i_Post_init : PySem.W.isFn K (.ref ff_Post_init) = true)
    (l_Post_init : K.lookup ff_Post_init = some ⟨oc_Post_init, od_Post_init, .func (PySem.W.fnOf "__init__" "Post.__init__" (defArgs s_Post_init) (defBody s_Post_init) (defScope s_Post_init) .none kV_Post_init dc_Post_init pm_Post_init an_Post_init cd_Post_init ct_Post_init), sl_Post_init⟩)
    (c_Post_init : PySem.W.codeIn K cd_Post_init "Post.__init__" = true)
    (k_Post_init : PySem.W.keepIn K (.ref ff_Post_init) = true)
    (a_Post_do : PySem.W.findIn K (.ref C_Post) "do" = some (some (.ref ff_Post_do)))
    (i_Post_do : PySem.W.isFn K (.ref ff_Post_do) = true)
    (l_Post_do : K.lookup ff_Post_do = some ⟨oc_Post_do, od_Post_do, .func (PySem.W.fnOf "do" "Post.do" (defArgs s_Post_do) (defBody s_Post_do) (defScope s_Post_do) .none kV_Post_do dc_Post_do pm_Post_do an_Post_do cd_Post_do ct_Post_do), sl_Post_do⟩)
    (c_Post_do : PySem.W.codeIn K cd_Post_do "Post.do" = true)
    (k_Post_do : PySem.W.keepIn K (.ref ff_Post_do) = true)
    (a_Post_put : PySem.W.findIn K (.ref C_Post) "put" = some (some (.ref ff_Post_put)))
    (i_Post_put : PySem.W.isFn K (.ref ff_Post_put) = true)
    (l_Post_put : K.lookup ff_Post_put = some ⟨oc_Post_put, od_Post_put, .func (PySem.W.fnOf "put" "Post.put" (defArgs s_Post_put) (defBody s_Post_put) (defScope s_Post_put) .none kV_Post_put dc_Post_put pm_Post_put an_Post_put cd_Post_put ct_Post_put), sl_Post_put⟩)
    (c_Post_put : PySem.W.codeIn K cd_Post_put "Post.put" = true)
    (k_Post_put : PySem.W.keepIn K (.ref ff_Post_put) = true)
    (a_Post_come : PySem.W.findIn K (.ref C_Post) "come" = some (some (.ref ff_Post_come)))
    (i_Post_come : PySem.W.isFn K (.ref ff_Post_come) = true)
    (l_Post_come : K.lookup ff_Post_come = some ⟨oc_Post_come, od_Post_come, .func (PySem.W.fnOf "come" "Post.come" (defArgs s_Post_come) (defBody s_Post_come) (defScope s_Post_come) .none kV_Post_come dc_Post_come pm_Post_come an_Post_come cd_Post_come ct_Post_come), sl_Post_come⟩)
    (c_Post_come : PySem.W.codeIn K cd_Post_come "Post.come" = true)
    (k_Post_come : PySem.W.keepIn K (.ref ff_Post_come) = true)
    (a_Post_write : PySem.W.findIn K (.ref C_Post) "write" = some (some (.ref ff_Post_write)))
    (i_Post_write : PySem.W.isFn K (.ref ff_Post_write) = true)
    (l_Post_write : K.lookup ff_Post_write = some ⟨oc_Post_write, od_Post_write, .func (PySem.W.fnOf "write" "Post.write" (defArgs s_Post_write) (defBody s_Post_write) (defScope s_Post_write) .none kV_Post_write dc_Post_write pm_Post_write an_Post_write cd_Post_write ct_Post_write), sl_Post_write⟩)
    (c_Post_write : PySem.W.codeIn K cd_Post_write "Post.write" = true)
    (k_Post_write : PySem.W.keepIn K (.ref ff_Post_write) = true)
    (a_Post_diaries_told : PySem.W.findIn K (.ref C_Post) "diaries_told" = some (some (.ref ff_Post_diaries_told)))
    (i_Post_diaries_told : PySem.W.isFn K (.ref ff_Post_diaries_told) = true)
    (l_Post_diaries_told : K.lookup ff_Post_diaries_told = some ⟨oc_Post_diaries_told, od_Post_diaries_told, .func (PySem.W.fnOf "diaries_told" "Post.diaries_told" (defArgs s_Post_diaries_told) (defBody s_Post_diaries_told) (defScope s_Post_diaries_told) .none kV_Post_diaries_told dc_Post_diaries_told pm_Post_diaries_told an_Post_diaries_told cd_Post_diaries_told ct_Post_diaries_told), sl_Post_diaries_told⟩)
    (c_Post_diaries_told : PySem.W.codeIn K cd_Post_diaries_told "Post.diaries_told" = true)
    (k_Post_diaries_told : PySem.W.keepIn K (.ref ff_Post_diaries_told) = true)
    (a_Post_letters_told : PySem.W.findIn K (.ref C_Post) "letters_told" = some (some (.ref ff_Post_letters_told)))
    (i_Post_letters_told : PySem.W.isFn K (.ref ff_Post_letters_told) = true)
    (l_Post_letters_told : K.lookup ff_Post_letters_told = some ⟨oc_Post_letters_told, od_Post_letters_told, .func (PySem.W.fnOf "letters_told" "Post.letters_told" (defArgs s_Post_letters_told) (defBody s_Post_letters_told) (defScope s_Post_letters_told) .none kV_Post_letters_told dc_Post_letters_told pm_Post_letters_told an_Post_letters_told cd_Post_letters_told ct_Post_letters_told), sl_Post_letters_told⟩)
    (c_Post_letters_told : PySem.W.codeIn K cd_Post_letters_told "Post.letters_told" = true)
    (k_Post_letters_told : PySem.W.keepIn K (.ref ff_Post_letters_told) = true)
    (a_first_undone : PySem.W.nsIn K mainGlobals "first_undone" = some (some (.ref ff_first_undone)))
    (l_first_undone : K.lookup ff_first_undone = some ⟨oc_first_undone, od_first_undone, .func (PySem.W.fnOf "first_undone" "first_undone" (defArgs s_first_undone) (defBody s_first_undone) (defScope s_first_undone) .none kV_first_undone dc_first_undone pm_first_undone an_first_undone cd_first_undone ct_first_undone), sl_first_undone⟩)
    (c_first_undone : PySem.W.codeIn K cd_first_undone "first_undone" = true)
    (k_first_undone : PySem.W.keepIn K (.ref ff_first_undone) = true)
    (a_are_steps : PySem.W.nsIn K mainGlobals "are_steps" = some (some (.ref ff_are_steps)))
    (l_are_steps : K.lookup ff_are_steps = some ⟨oc_are_steps, od_are_steps, .func (PySem.W.fnOf "are_steps" "are_steps" (defArgs s_are_steps) (defBody s_are_steps) (defScope s_are_steps) .none kV_are_steps dc_are_steps pm_are_steps an_are_steps cd_are_steps ct_are_steps), sl_are_steps⟩)
    (c_are_steps : PySem.W.codeIn K cd_are_steps "are_steps" = true)
    (k_are_steps : PySem.W.keepIn K (.ref ff_are_steps) = true)
    (a_check_writers : PySem.W.nsIn K mainGlobals "check_writers" = some (some (.ref ff_check_writers)))
    (l_check_writers : K.lookup ff_check_writers = some ⟨oc_check_writers, od_check_writers, .func (PySem.W.fnOf "check_writers" "check_writers" (defArgs s_check_writers) (defBody s_check_writers) (defScope s_check_writers) .none kV_check_writers dc_check_writers pm_check_writers an_check_writers cd_check_writers ct_check_writers), sl_check_writers⟩)
    (c_check_writers : PySem.W.codeIn K cd_check_writers "check_writers" = true)
    (k_check_writers : PySem.W.keepIn K (.ref ff_check_writers) = true)
    (a_led : PySem.W.nsIn K mainGlobals "led" = some (some (.ref ff_led)))
    (l_led : K.lookup ff_led = some ⟨oc_led, od_led, .func (PySem.W.fnOf "led" "led" (defArgs s_led) (defBody s_led) (defScope s_led) .none kV_led dc_led pm_led an_led cd_led ct_led), sl_led⟩)
    (c_led : PySem.W.codeIn K cd_led "led" = true)
    (k_led : PySem.W.keepIn K (.ref ff_led) = true)
    (a_is_run : PySem.W.nsIn K mainGlobals "is_run" = some (some (.ref ff_is_run)))
    (l_is_run : K.lookup ff_is_run = some ⟨oc_is_run, od_is_run, .func (PySem.W.fnOf "is_run" "is_run" (defArgs s_is_run) (defBody s_is_run) (defScope s_is_run) .none kV_is_run dc_is_run pm_is_run an_is_run cd_is_run ct_is_run), sl_is_run⟩)
    (c_is_run : PySem.W.codeIn K cd_is_run "is_run" = true)
    (k_is_run : PySem.W.keepIn K (.ref ff_is_run) = true)
    (a__law_hand : PySem.W.nsIn K mainGlobals "_law_hand" = some (some (.ref ff__law_hand)))
    (l__law_hand : K.lookup ff__law_hand = some ⟨oc__law_hand, od__law_hand, .func (PySem.W.fnOf "_law_hand" "_law_hand" (defArgs s__law_hand) (defBody s__law_hand) (defScope s__law_hand) .none kV__law_hand dc__law_hand pm__law_hand an__law_hand cd__law_hand ct__law_hand), sl__law_hand⟩)
    (c__law_hand : PySem.W.codeIn K cd__law_hand "_law_hand" = true)
    (k__law_hand : PySem.W.keepIn K (.ref ff__law_hand) = true)
    (a__law_draw : PySem.W.nsIn K mainGlobals "_law_draw" = some (some (.ref ff__law_draw)))
    (l__law_draw : K.lookup ff__law_draw = some ⟨oc__law_draw, od__law_draw, .func (PySem.W.fnOf "_law_draw" "_law_draw" (defArgs s__law_draw) (defBody s__law_draw) (defScope s__law_draw) .none kV__law_draw dc__law_draw pm__law_draw an__law_draw cd__law_draw ct__law_draw), sl__law_draw⟩)
    (c__law_draw : PySem.W.codeIn K cd__law_draw "_law_draw" = true)
    (k__law_draw : PySem.W.keepIn K (.ref ff__law_draw) = true)
    (a__law_is : PySem.W.nsIn K mainGlobals "_law_is" = some (some (.ref ff__law_is)))
    (l__law_is : K.lookup ff__law_is = some ⟨oc__law_is, od__law_is, .func (PySem.W.fnOf "_law_is" "_law_is" (defArgs s__law_is) (defBody s__law_is) (defScope s__law_is) .none kV__law_is dc__law_is pm__law_is an__law_is cd__law_is ct__law_is), sl__law_is⟩)
    (c__law_is : PySem.W.codeIn K cd__law_is "_law_is" = true)
    (k__law_is : PySem.W.keepIn K (.ref ff__law_is) = true)
    (a__law_flag : PySem.W.nsIn K mainGlobals "_law_flag" = some (some (.ref ff__law_flag)))
    (l__law_flag : K.lookup ff__law_flag = some ⟨oc__law_flag, od__law_flag, .func (PySem.W.fnOf "_law_flag" "_law_flag" (defArgs s__law_flag) (defBody s__law_flag) (defScope s__law_flag) .none kV__law_flag dc__law_flag pm__law_flag an__law_flag cd__law_flag ct__law_flag), sl__law_flag⟩)
    (c__law_flag : PySem.W.codeIn K cd__law_flag "_law_flag" = true)
    (k__law_flag : PySem.W.keepIn K (.ref ff__law_flag) = true)
    (a__law_deep : PySem.W.nsIn K mainGlobals "_law_deep" = some (some (.ref ff__law_deep)))
    (l__law_deep : K.lookup ff__law_deep = some ⟨oc__law_deep, od__law_deep, .func (PySem.W.fnOf "_law_deep" "_law_deep" (defArgs s__law_deep) (defBody s__law_deep) (defScope s__law_deep) .none kV__law_deep dc__law_deep pm__law_deep an__law_deep cd__law_deep ct__law_deep), sl__law_deep⟩)
    (c__law_deep : PySem.W.codeIn K cd__law_deep "_law_deep" = true)
    (k__law_deep : PySem.W.keepIn K (.ref ff__law_deep) = true)
    (a__law_web : PySem.W.nsIn K mainGlobals "_law_web" = some (some (.ref ff__law_web)))
    (l__law_web : K.lookup ff__law_web = some ⟨oc__law_web, od__law_web, .func (PySem.W.fnOf "_law_web" "_law_web" (defArgs s__law_web) (defBody s__law_web) (defScope s__law_web) .none kV__law_web dc__law_web pm__law_web an__law_web cd__law_web ct__law_web), sl__law_web⟩)
    (c__law_web : PySem.W.codeIn K cd__law_web "_law_web" = true)
    (k__law_web : PySem.W.keepIn K (.ref ff__law_web) = true)
    (a__law_ran : PySem.W.nsIn K mainGlobals "_law_ran" = some (some (.ref ff__law_ran)))
    (l__law_ran : K.lookup ff__law_ran = some ⟨oc__law_ran, od__law_ran, .func (PySem.W.fnOf "_law_ran" "_law_ran" (defArgs s__law_ran) (defBody s__law_ran) (defScope s__law_ran) .none kV__law_ran dc__law_ran pm__law_ran an__law_ran cd__law_ran ct__law_ran), sl__law_ran⟩)
    (c__law_ran : PySem.W.codeIn K cd__law_ran "_law_ran" = true)
    (k__law_ran : PySem.W.keepIn K (.ref ff__law_ran) = true)
    (a__law_is_whole : PySem.W.nsIn K mainGlobals "_law_is_whole" = some (some (.ref ff__law_is_whole)))
    (l__law_is_whole : K.lookup ff__law_is_whole = some ⟨oc__law_is_whole, od__law_is_whole, .func (PySem.W.fnOf "_law_is_whole" "_law_is_whole" (defArgs s__law_is_whole) (defBody s__law_is_whole) (defScope s__law_is_whole) .none kV__law_is_whole dc__law_is_whole pm__law_is_whole an__law_is_whole cd__law_is_whole ct__law_is_whole), sl__law_is_whole⟩)
    (c__law_is_whole : PySem.W.codeIn K cd__law_is_whole "_law_is_whole" = true)
    (k__law_is_whole : PySem.W.keepIn K (.ref ff__law_is_whole) = true)
    (a__law_bent_record : PySem.W.nsIn K mainGlobals "_law_bent_record" = some (some (.ref ff__law_bent_record)))
    (l__law_bent_record : K.lookup ff__law_bent_record = some ⟨oc__law_bent_record, od__law_bent_record, .func (PySem.W.fnOf "_law_bent_record" "_law_bent_record" (defArgs s__law_bent_record) (defBody s__law_bent_record) (defScope s__law_bent_record) .none kV__law_bent_record dc__law_bent_record pm__law_bent_record an__law_bent_record cd__law_bent_record ct__law_bent_record), sl__law_bent_record⟩)
    (c__law_bent_record : PySem.W.codeIn K cd__law_bent_record "_law_bent_record" = true)
    (k__law_bent_record : PySem.W.keepIn K (.ref ff__law_bent_record) = true)
    (a__law_is_step : PySem.W.nsIn K mainGlobals "_law_is_step" = some (some (.ref ff__law_is_step)))
    (l__law_is_step : K.lookup ff__law_is_step = some ⟨oc__law_is_step, od__law_is_step, .func (PySem.W.fnOf "_law_is_step" "_law_is_step" (defArgs s__law_is_step) (defBody s__law_is_step) (defScope s__law_is_step) .none kV__law_is_step dc__law_is_step pm__law_is_step an__law_is_step cd__law_is_step ct__law_is_step), sl__law_is_step⟩)
    (c__law_is_step : PySem.W.codeIn K cd__law_is_step "_law_is_step" = true)
    (k__law_is_step : PySem.W.keepIn K (.ref ff__law_is_step) = true)
    (a__law_behind : PySem.W.nsIn K mainGlobals "_law_behind" = some (some (.ref ff__law_behind)))
    (l__law_behind : K.lookup ff__law_behind = some ⟨oc__law_behind, od__law_behind, .func (PySem.W.fnOf "_law_behind" "_law_behind" (defArgs s__law_behind) (defBody s__law_behind) (defScope s__law_behind) .none kV__law_behind dc__law_behind pm__law_behind an__law_behind cd__law_behind ct__law_behind), sl__law_behind⟩)
    (c__law_behind : PySem.W.codeIn K cd__law_behind "_law_behind" = true)
    (k__law_behind : PySem.W.keepIn K (.ref ff__law_behind) = true)
    (a__law_told : PySem.W.nsIn K mainGlobals "_law_told" = some (some (.ref ff__law_told)))
    (l__law_told : K.lookup ff__law_told = some ⟨oc__law_told, od__law_told, .func (PySem.W.fnOf "_law_told" "_law_told" (defArgs s__law_told) (defBody s__law_told) (defScope s__law_told) .none kV__law_told dc__law_told pm__law_told an__law_told cd__law_told ct__law_told), sl__law_told⟩)
    (c__law_told : PySem.W.codeIn K cd__law_told "_law_told" = true)
    (k__law_told : PySem.W.keepIn K (.ref ff__law_told) = true)
    (a__law_spoiled : PySem.W.nsIn K mainGlobals "_law_spoiled" = some (some (.ref ff__law_spoiled)))
    (l__law_spoiled : K.lookup ff__law_spoiled = some ⟨oc__law_spoiled, od__law_spoiled, .func (PySem.W.fnOf "_law_spoiled" "_law_spoiled" (defArgs s__law_spoiled) (defBody s__law_spoiled) (defScope s__law_spoiled) .none kV__law_spoiled dc__law_spoiled pm__law_spoiled an__law_spoiled cd__law_spoiled ct__law_spoiled), sl__law_spoiled⟩)
    (c__law_spoiled : PySem.W.codeIn K cd__law_spoiled "_law_spoiled" = true)
    (k__law_spoiled : PySem.W.keepIn K (.ref ff__law_spoiled) = true)
    (a_law : PySem.W.nsIn K mainGlobals "law" = some (some (.ref ff_law)))
    (l_law : K.lookup ff_law = some ⟨oc_law, od_law, .func (PySem.W.fnOf "law" "law" (defArgs s_law) (defBody s_law) (defScope s_law) .none kV_law dc_law pm_law an_law cd_law ct_law), sl_law⟩)
    (c_law : PySem.W.codeIn K cd_law "law" = true)
    (k_law : PySem.W.keepIn K (.ref ff_law) = true)
    (pg_Web : PySem.W.plainGet K C_Web Str.empty = true)
    (hd_Web : PySem.W.hasDictIn K C_Web = true)
    (po_Web : PySem.W.plainOver K C_Web = true)
    (sa_Web : PySem.W.findIn K (.ref C_Web) "__setattr__" = some (some (.builtin "object.__setattr__")))
    (mk_Web : PySem.W.makesIn K C_Web = true)
    (kc_Web : PySem.W.keepIn K (.ref C_Web) = true)
    (ha_Web : PySem.W.findIn K (.ref C_Web) "__class__" = some (some (.builtin "object.__class__")))
    (hn_Web : PySem.W.specialIn K (.builtin "object.__class__") "__get__" = some (some (.builtin "getset_descriptor.__get__")))
    (ht_Web : PySem.W.takesIn K (.builtin "object.__class__") = some true)
    (hm_Web : PySem.W.mroIn K C_Web (.type "object") = some true)
    (hne_Web : PySem.W.findIn K (.ref C_Web) "__ne__" = some (some (.builtin "object.__ne__")))
    (na_Web_machines : PySem.W.findIn K (.ref C_Web) "machines" = some none)
    (na_Web_wires : PySem.W.findIn K (.ref C_Web) "wires" = some none)
    (pg_Record : PySem.W.plainGet K C_Record Str.empty = true)
    (hd_Record : PySem.W.hasDictIn K C_Record = true)
    (po_Record : PySem.W.plainOver K C_Record = true)
    (sa_Record : PySem.W.findIn K (.ref C_Record) "__setattr__" = some (some (.builtin "object.__setattr__")))
    (mk_Record : PySem.W.makesIn K C_Record = true)
    (kc_Record : PySem.W.keepIn K (.ref C_Record) = true)
    (ha_Record : PySem.W.findIn K (.ref C_Record) "__class__" = some (some (.builtin "object.__class__")))
    (hn_Record : PySem.W.specialIn K (.builtin "object.__class__") "__get__" = some (some (.builtin "getset_descriptor.__get__")))
    (ht_Record : PySem.W.takesIn K (.builtin "object.__class__") = some true)
    (hm_Record : PySem.W.mroIn K C_Record (.type "object") = some true)
    (hne_Record : PySem.W.findIn K (.ref C_Record) "__ne__" = some (some (.builtin "object.__ne__")))
    (na_Record_writers : PySem.W.findIn K (.ref C_Record) "writers" = some none)
    (na_Record_diaries : PySem.W.findIn K (.ref C_Record) "diaries" = some none)
    (pg_Post : PySem.W.plainGet K C_Post Str.empty = true)
    (hd_Post : PySem.W.hasDictIn K C_Post = true)
    (po_Post : PySem.W.plainOver K C_Post = true)
    (sa_Post : PySem.W.findIn K (.ref C_Post) "__setattr__" = some (some (.builtin "object.__setattr__")))
    (mk_Post : PySem.W.makesIn K C_Post = true)
    (kc_Post : PySem.W.keepIn K (.ref C_Post) = true)
    (na_Post_machines : PySem.W.findIn K (.ref C_Post) "machines" = some none)
    (na_Post_wires : PySem.W.findIn K (.ref C_Post) "wires" = some none)
    (na_Post_writers : PySem.W.findIn K (.ref C_Post) "writers" = some none)
    (na_Post_written : PySem.W.findIn K (.ref C_Post) "written" = some none)
    (na_Post_under_way : PySem.W.findIn K (.ref C_Post) "under_way" = some none)
    (co_MOST_MACHINES : PySem.W.nsIn K mainGlobals "MOST_MACHINES" = some (some (.int 7 tk_MOST_MACHINES)))
    (co_MOST_PUTS : PySem.W.nsIn K mainGlobals "MOST_PUTS" = some (some (.int 30 tk_MOST_PUTS)))
    (co_MOST_STEPS : PySem.W.nsIn K mainGlobals "MOST_STEPS" = some (some (.int 4000 tk_MOST_STEPS)))
    (z_isinstance : PySem.W.nsIn K mainGlobals "isinstance" = some none)
    (z_int : PySem.W.nsIn K mainGlobals "int" = some none)
    (z_bool : PySem.W.nsIn K mainGlobals "bool" = some none)
    (z_list : PySem.W.nsIn K mainGlobals "list" = some none)
    (z_tuple : PySem.W.nsIn K mainGlobals "tuple" = some none)
    (z_len : PySem.W.nsIn K mainGlobals "len" = some none)
    (z_all : PySem.W.nsIn K mainGlobals "all" = some none)
    (z_str : PySem.W.nsIn K mainGlobals "str" = some none)
    (z_enumerate : PySem.W.nsIn K mainGlobals "enumerate" = some none)
    (z_set : PySem.W.nsIn K mainGlobals "set" = some none)
    (z_range : PySem.W.nsIn K mainGlobals "range" = some none)
    (z_zip : PySem.W.nsIn K mainGlobals "zip" = some none)
    (z_abs : PySem.W.nsIn K mainGlobals "abs" = some none)
    (z_min : PySem.W.nsIn K mainGlobals "min" = some none)
    (z_dict : PySem.W.nsIn K mainGlobals "dict" = some none)
    (z_ValueError : PySem.W.nsIn K mainGlobals "ValueError" = some none)
    (xL : K.lookup C_BadStep = some (excClassObj xnm xq C_BadStep xN xbs [.ref C_GrowError, .type "ValueError", .type "Exception", .type "BaseException", .type "object"] true xsn xsub xab xcol xdd x0 x1 x2 x3 x5 "ValueError.__new__"))
    (xsa : PySem.W.findIn K (.ref C_BadStep) "__setattr__" = some (some (.builtin "object.__setattr__")))
    (xex : PySem.W.subIn K (.ref C_BadStep) (.type "BaseException") = some true)
    (xty : PySem.W.typeIn K (.ref C_BadStep) = some (.type "type"))
    (xk : PySem.W.keepIn K (.ref C_BadStep) = true)
    (xti : PySem.W.typeIn K (.ref ff_BadStep_init) = some (.type "function"))
    (xga : PySem.W.findIn K (.ref C_BadStep) "__getattribute__" = some (some (.builtin "BaseException.__getattribute__")))
    (xgg : PySem.W.findIn K (.ref C_BadStep) "__getattr__" = some none)
    (xhd : PySem.W.hasDictIn K C_BadStep = true)
    (xpa : PySem.W.findIn K (.ref C_BadStep) "index" = some none)
    (xcl : PySem.W.findIn K (.ref C_BadStep) "__class__" = some (some (.builtin "object.__class__")))
    (xcg : PySem.W.specialIn K (.builtin "object.__class__") "__get__" = some (some (.builtin "getset_descriptor.__get__")))
    (xct : PySem.W.takesIn K (.builtin "object.__class__") = some true)
    (xmo : PySem.W.mroIn K C_BadStep (.type "object") = some true)
    (xmv : PySem.W.mroIn K C_BadStep (.type "ValueError") = some true)
    (yex : PySem.W.subIn K (.ref C_GrowError) (.type "BaseException") = some true)
    (yhd : PySem.W.hasDictIn K C_GrowError = true)
    (yty : PySem.W.typeIn K (.ref C_GrowError) = some (.type "type"))
    (yxy : PySem.W.subIn K (.ref C_BadStep) (.ref C_GrowError) = some true)
    (wmi : PySem.W.mroIn K C_Web (.type "int") = some false)
    (wmb : PySem.W.mroIn K C_Web (.type "bool") = some false)
    (wmt : PySem.W.mroIn K C_Web (.type "tuple") = some false)
    (wms : PySem.W.mroIn K C_Web (.type "str") = some false)
    (wty : PySem.W.typeIn K (.ref C_Web) = some (.type "type"))
    : ∃ fd : FuncData, (∀ (s : Shared) (v : Value), BindsTo s fd ⟨[v], []⟩ [("_law_script", v)]) ∧ ∀ base : Heap, K.In base → base.Ns mainGlobals mg → FnOk l.prog w K mg base CX0 11 fa fd ["_law_script"] (spLaw K) := by
  have e := hfa.symm.trans (PySem.W.mg_of X G a_law)
  cases e
  have F_BadWeb_init := fun_mk (st := s_BadWeb_init) l_BadWeb_init c_BadWeb_init k_BadWeb_init
  have b_BadWeb_init := F_BadWeb_init.binds (ps := P_BadWeb_init) fun _ _ _ _ _ _ us hl => match us, hl with | [_, _], _ => rfl
  have F_BadRecord_init := fun_mk (st := s_BadRecord_init) l_BadRecord_init c_BadRecord_init k_BadRecord_init
  have b_BadRecord_init := F_BadRecord_init.binds (ps := P_BadRecord_init) fun _ _ _ _ _ _ us hl => match us, hl with | [_, _, _], _ => rfl
  have F_BadStep_init := fun_mk (st := s_BadStep_init) l_BadStep_init c_BadStep_init k_BadStep_init
  have b_BadStep_init := F_BadStep_init.binds (ps := P_BadStep_init) fun _ _ _ _ _ _ us hl => match us, hl with | [_, _], _ => rfl
  have F_NoWriters_init := fun_mk (st := s_NoWriters_init) l_NoWriters_init c_NoWriters_init k_NoWriters_init
  have b_NoWriters_init := F_NoWriters_init.binds (ps := P_NoWriters_init) fun _ _ _ _ _ _ us hl => match us, hl with | [_], _ => rfl
  have F_OtherMachines_init := fun_mk (st := s_OtherMachines_init) l_OtherMachines_init c_OtherMachines_init k_OtherMachines_init
  have b_OtherMachines_init := F_OtherMachines_init.binds (ps := P_OtherMachines_init) fun _ _ _ _ _ _ us hl => match us, hl with | [_], _ => rfl
  have F_is_integer := fun_mk (st := s_is_integer) l_is_integer c_is_integer k_is_integer
  have b_is_integer := F_is_integer.binds (ps := P_is_integer) fun _ _ _ _ _ _ us hl => match us, hl with | [_], _ => rfl
  have F_is_between := fun_mk (st := s_is_between) l_is_between c_is_between k_is_between
  have b_is_between := F_is_between.binds (ps := P_is_between) fun _ _ _ _ _ _ us hl => match us, hl with | [_, _, _], _ => rfl
  have F_is_below := fun_mk (st := s_is_below) l_is_below c_is_below k_is_below
  have b_is_below := F_is_below.binds (ps := P_is_below) fun _ _ _ _ _ _ us hl => match us, hl with | [_, _], _ => rfl
  have F_is_list_or_tuple := fun_mk (st := s_is_list_or_tuple) l_is_list_or_tuple c_is_list_or_tuple k_is_list_or_tuple
  have b_is_list_or_tuple := F_is_list_or_tuple.binds (ps := P_is_list_or_tuple) fun _ _ _ _ _ _ us hl => match us, hl with | [_], _ => rfl
  have F_is_tuple_of := fun_mk (st := s_is_tuple_of) l_is_tuple_of c_is_tuple_of k_is_tuple_of
  have b_is_tuple_of := F_is_tuple_of.binds (ps := P_is_tuple_of) fun _ _ _ _ _ _ us hl => match us, hl with | [_, _, _], _ => rfl
  have F_are_below := fun_mk (st := s_are_below) l_are_below c_are_below k_are_below
  have b_are_below := F_are_below.binds (ps := P_are_below) fun _ _ _ _ _ _ us hl => match us, hl with | [_, _], _ => rfl
  have F_is_unlike_pair := fun_mk (st := s_is_unlike_pair) l_is_unlike_pair c_is_unlike_pair k_is_unlike_pair
  have b_is_unlike_pair := F_is_unlike_pair.binds (ps := P_is_unlike_pair) fun _ _ _ _ _ _ us hl => match us, hl with | [_, _], _ => rfl
  have F_is_worded := fun_mk (st := s_is_worded) l_is_worded c_is_worded k_is_worded
  have b_is_worded := F_is_worded.binds (ps := P_is_worded) fun _ _ _ _ _ _ us hl => match us, hl with | [_, _, _], _ => rfl
  have F_Web_init := fun_mk (st := s_Web_init) l_Web_init c_Web_init k_Web_init
  have b_Web_init := F_Web_init.binds (ps := P_Web_init) fun _ _ _ _ _ _ us hl => match us, hl with | [_, _, _], _ => rfl
  have F_Web_eq := fun_mk (st := s_Web_eq) l_Web_eq c_Web_eq k_Web_eq
  have b_Web_eq := F_Web_eq.binds (ps := P_Web_eq) fun _ _ _ _ _ _ us hl => match us, hl with | [_, _], _ => rfl
  have F_first_wrong_wire := fun_mk (st := s_first_wrong_wire) l_first_wrong_wire c_first_wrong_wire k_first_wrong_wire
  have b_first_wrong_wire := F_first_wrong_wire.binds (ps := P_first_wrong_wire) fun _ _ _ _ _ _ us hl => match us, hl with | [_, _], _ => rfl
  have F_Record_init := fun_mk (st := s_Record_init) l_Record_init c_Record_init k_Record_init
  have b_Record_init := F_Record_init.binds (ps := P_Record_init) fun _ _ _ _ _ _ us hl => match us, hl with | [_, _, _], _ => rfl
  have F_Record_eq := fun_mk (st := s_Record_eq) l_Record_eq c_Record_eq k_Record_eq
  have b_Record_eq := F_Record_eq.binds (ps := P_Record_eq) fun _ _ _ _ _ _ us hl => match us, hl with | [_, _], _ => rfl
  have F_check_record := fun_mk (st := s_check_record) l_check_record c_check_record k_check_record
  have b_check_record := F_check_record.binds (ps := P_check_record) fun _ _ _ _ _ _ us hl => match us, hl with | [_, _], _ => rfl
  have F_is_diary := fun_mk (st := s_is_diary) l_is_diary c_is_diary k_is_diary
  have b_is_diary := F_is_diary.binds (ps := P_is_diary) fun _ _ _ _ _ _ us hl => match us, hl with | [_, _], _ => rfl
  have F_check_machines := fun_mk (st := s_check_machines) l_check_machines c_check_machines k_check_machines
  have b_check_machines := F_check_machines.binds (ps := P_check_machines) fun _ _ _ _ _ _ us hl => match us, hl with | [_, _], _ => rfl
  have F_Post_init := fun_mk (st := s_Post_init) l_Post_init c_Post_init k_Post_init
  have b_Post_init := F_Post_init.binds (ps := P_Post_init) fun _ _ _ _ _ _ us hl => match us, hl with | [_, _, _], _ => rfl
  have F_Post_do := fun_mk (st := s_Post_do) l_Post_do c_Post_do k_Post_do
  have b_Post_do := F_Post_do.binds (ps := P_Post_do) fun _ _ _ _ _ _ us hl => match us, hl with | [_, _], _ => rfl
  have F_Post_put := fun_mk (st := s_Post_put) l_Post_put c_Post_put k_Post_put
  have b_Post_put := F_Post_put.binds (ps := P_Post_put) fun _ _ _ _ _ _ us hl => match us, hl with | [_, _], _ => rfl
  have F_Post_come := fun_mk (st := s_Post_come) l_Post_come c_Post_come k_Post_come
  have b_Post_come := F_Post_come.binds (ps := P_Post_come) fun _ _ _ _ _ _ us hl => match us, hl with | [_, _], _ => rfl
  have F_Post_write := fun_mk (st := s_Post_write) l_Post_write c_Post_write k_Post_write
  have b_Post_write := F_Post_write.binds (ps := P_Post_write) fun _ _ _ _ _ _ us hl => match us, hl with | [_, _, _], _ => rfl
  have F_Post_diaries_told := fun_mk (st := s_Post_diaries_told) l_Post_diaries_told c_Post_diaries_told k_Post_diaries_told
  have b_Post_diaries_told := F_Post_diaries_told.binds (ps := P_Post_diaries_told) fun _ _ _ _ _ _ us hl => match us, hl with | [_], _ => rfl
  have F_Post_letters_told := fun_mk (st := s_Post_letters_told) l_Post_letters_told c_Post_letters_told k_Post_letters_told
  have b_Post_letters_told := F_Post_letters_told.binds (ps := P_Post_letters_told) fun _ _ _ _ _ _ us hl => match us, hl with | [_], _ => rfl
  have F_first_undone := fun_mk (st := s_first_undone) l_first_undone c_first_undone k_first_undone
  have b_first_undone := F_first_undone.binds (ps := P_first_undone) fun _ _ _ _ _ _ us hl => match us, hl with | [_, _], _ => rfl
  have F_are_steps := fun_mk (st := s_are_steps) l_are_steps c_are_steps k_are_steps
  have b_are_steps := F_are_steps.binds (ps := P_are_steps) fun _ _ _ _ _ _ us hl => match us, hl with | [_], _ => rfl
  have F_check_writers := fun_mk (st := s_check_writers) l_check_writers c_check_writers k_check_writers
  have b_check_writers := F_check_writers.binds (ps := P_check_writers) fun _ _ _ _ _ _ us hl => match us, hl with | [_, _], _ => rfl
  have F_led := fun_mk (st := s_led) l_led c_led k_led
  have b_led := F_led.binds (ps := P_led) fun _ _ _ _ _ _ us hl => match us, hl with | [_, _, _], _ => rfl
  have F_is_run := fun_mk (st := s_is_run) l_is_run c_is_run k_is_run
  have b_is_run := F_is_run.binds (ps := P_is_run) fun _ _ _ _ _ _ us hl => match us, hl with | [_, _, _], _ => rfl
  have F__law_hand := fun_mk (st := s__law_hand) l__law_hand c__law_hand k__law_hand
  have b__law_hand := F__law_hand.binds (ps := P__law_hand) fun _ _ _ _ _ _ us hl => match us, hl with | [_], _ => rfl
  have F__law_draw := fun_mk (st := s__law_draw) l__law_draw c__law_draw k__law_draw
  have b__law_draw := F__law_draw.binds (ps := P__law_draw) fun _ _ _ _ _ _ us hl => match us, hl with | [_, _], _ => rfl
  have F__law_is := fun_mk (st := s__law_is) l__law_is c__law_is k__law_is
  have b__law_is := F__law_is.binds (ps := P__law_is) fun _ _ _ _ _ _ us hl => match us, hl with | [_, _], _ => rfl
  have F__law_flag := fun_mk (st := s__law_flag) l__law_flag c__law_flag k__law_flag
  have b__law_flag := F__law_flag.binds (ps := P__law_flag) fun _ _ _ _ _ _ us hl => match us, hl with | [_, _], _ => rfl
  have F__law_deep := fun_mk (st := s__law_deep) l__law_deep c__law_deep k__law_deep
  have b__law_deep := F__law_deep.binds (ps := P__law_deep) fun _ _ _ _ _ _ us hl => match us, hl with | [_], _ => rfl
  have F__law_web := fun_mk (st := s__law_web) l__law_web c__law_web k__law_web
  have b__law_web := F__law_web.binds (ps := P__law_web) fun _ _ _ _ _ _ us hl => match us, hl with | [_, _], _ => rfl
  have F__law_ran := fun_mk (st := s__law_ran) l__law_ran c__law_ran k__law_ran
  have b__law_ran := F__law_ran.binds (ps := P__law_ran) fun _ _ _ _ _ _ us hl => match us, hl with | [_, _, _, _, _], _ => rfl
  have F__law_is_whole := fun_mk (st := s__law_is_whole) l__law_is_whole c__law_is_whole k__law_is_whole
  have b__law_is_whole := F__law_is_whole.binds (ps := P__law_is_whole) fun _ _ _ _ _ _ us hl => match us, hl with | [_, _], _ => rfl
  have F__law_bent_record := fun_mk (st := s__law_bent_record) l__law_bent_record c__law_bent_record k__law_bent_record
  have b__law_bent_record := F__law_bent_record.binds (ps := P__law_bent_record) fun _ _ _ _ _ _ us hl => match us, hl with | [_, _, _], _ => rfl
  have F__law_is_step := fun_mk (st := s__law_is_step) l__law_is_step c__law_is_step k__law_is_step
  have b__law_is_step := F__law_is_step.binds (ps := P__law_is_step) fun _ _ _ _ _ _ us hl => match us, hl with | [_, _, _], _ => rfl
  have F__law_behind := fun_mk (st := s__law_behind) l__law_behind c__law_behind k__law_behind
  have b__law_behind := F__law_behind.binds (ps := P__law_behind) fun _ _ _ _ _ _ us hl => match us, hl with | [_, _, _, _], _ => rfl
  have F__law_told := fun_mk (st := s__law_told) l__law_told c__law_told k__law_told
  have b__law_told := F__law_told.binds (ps := P__law_told) fun _ _ _ _ _ _ us hl => match us, hl with | [_, _, _], _ => rfl
  have F__law_spoiled := fun_mk (st := s__law_spoiled) l__law_spoiled c__law_spoiled k__law_spoiled
  have b__law_spoiled := F__law_spoiled.binds (ps := P__law_spoiled) fun _ _ _ _ _ _ us hl => match us, hl with | [_, _, _], _ => rfl
  have F_law := fun_mk (st := s_law) l_law c_law k_law
  have b_law := F_law.binds (ps := P_law) fun _ _ _ _ _ _ us hl => match us, hl with | [_], _ => rfl
  have T : Txt K mg ⟨ff_BadWeb_init, _, ff_BadRecord_init, _, ff_BadStep_init, _, ff_NoWriters_init, _, ff_OtherMachines_init, _, ff_is_integer, _, ff_is_between, _, ff_is_below, _, ff_is_list_or_tuple, _, ff_is_tuple_of, _, ff_are_below, _, ff_is_unlike_pair, _, ff_is_worded, _, ff_Web_init, _, ff_Web_eq, _, ff_first_wrong_wire, _, ff_Record_init, _, ff_Record_eq, _, ff_check_record, _, ff_is_diary, _, ff_check_machines, _, ff_Post_init, _, ff_Post_do, _, ff_Post_put, _, ff_Post_come, _, ff_Post_write, _, ff_Post_diaries_told, _, ff_Post_letters_told, _, ff_first_undone, _, ff_are_steps, _, ff_check_writers, _, ff_led, _, ff_is_run, _, ff__law_hand, _, ff__law_draw, _, ff__law_is, _, ff__law_flag, _, ff__law_deep, _, ff__law_web, _, ff__law_ran, _, ff__law_is_whole, _, ff__law_bent_record, _, ff__law_is_step, _, ff__law_behind, _, ff__law_told, _, ff__law_spoiled, _, fa, _, C_GrowError, C_BadWeb, C_BadRecord, C_BadStep, C_NoWriters, C_OtherMachines, C_Web, C_Record, C_Post, tk_MOST_MACHINES, tk_MOST_PUTS, tk_MOST_STEPS⟩ := ⟨F_BadWeb_init,
    b_BadWeb_init,
    F_BadRecord_init,
    b_BadRecord_init,
    F_BadStep_init,
    b_BadStep_init,
    F_NoWriters_init,
    b_NoWriters_init,
    F_OtherMachines_init,
    b_OtherMachines_init,
    F_is_integer,
    b_is_integer,
    PySem.W.mg_of X G a_is_integer,
    F_is_between,
    b_is_between,
    PySem.W.mg_of X G a_is_between,
    F_is_below,
    b_is_below,
    PySem.W.mg_of X G a_is_below,
    F_is_list_or_tuple,
    b_is_list_or_tuple,
    PySem.W.mg_of X G a_is_list_or_tuple,
    F_is_tuple_of,
    b_is_tuple_of,
    PySem.W.mg_of X G a_is_tuple_of,
    F_are_below,
    b_are_below,
    PySem.W.mg_of X G a_are_below,
    F_is_unlike_pair,
    b_is_unlike_pair,
    PySem.W.mg_of X G a_is_unlike_pair,
    F_is_worded,
    b_is_worded,
    PySem.W.mg_of X G a_is_worded,
    F_Web_init,
    b_Web_init,
    F_Web_eq,
    b_Web_eq,
    F_first_wrong_wire,
    b_first_wrong_wire,
    PySem.W.mg_of X G a_first_wrong_wire,
    F_Record_init,
    b_Record_init,
    F_Record_eq,
    b_Record_eq,
    F_check_record,
    b_check_record,
    PySem.W.mg_of X G a_check_record,
    F_is_diary,
    b_is_diary,
    PySem.W.mg_of X G a_is_diary,
    F_check_machines,
    b_check_machines,
    PySem.W.mg_of X G a_check_machines,
    F_Post_init,
    b_Post_init,
    F_Post_do,
    b_Post_do,
    ⟨a_Post_do, i_Post_do, k_Post_do⟩,
    F_Post_put,
    b_Post_put,
    ⟨a_Post_put, i_Post_put, k_Post_put⟩,
    F_Post_come,
    b_Post_come,
    ⟨a_Post_come, i_Post_come, k_Post_come⟩,
    F_Post_write,
    b_Post_write,
    ⟨a_Post_write, i_Post_write, k_Post_write⟩,
    F_Post_diaries_told,
    b_Post_diaries_told,
    ⟨a_Post_diaries_told, i_Post_diaries_told, k_Post_diaries_told⟩,
    F_Post_letters_told,
    b_Post_letters_told,
    ⟨a_Post_letters_told, i_Post_letters_told, k_Post_letters_told⟩,
    F_first_undone,
    b_first_undone,
    PySem.W.mg_of X G a_first_undone,
    F_are_steps,
    b_are_steps,
    PySem.W.mg_of X G a_are_steps,
    F_check_writers,
    b_check_writers,
    PySem.W.mg_of X G a_check_writers,
    F_led,
    b_led,
    PySem.W.mg_of X G a_led,
    F_is_run,
    b_is_run,
    PySem.W.mg_of X G a_is_run,
    F__law_hand,
    b__law_hand,
    PySem.W.mg_of X G a__law_hand,
    F__law_draw,
    b__law_draw,
    PySem.W.mg_of X G a__law_draw,
    F__law_is,
    b__law_is,
    PySem.W.mg_of X G a__law_is,
    F__law_flag,
    b__law_flag,
    PySem.W.mg_of X G a__law_flag,
    F__law_deep,
    b__law_deep,
    PySem.W.mg_of X G a__law_deep,
    F__law_web,
    b__law_web,
    PySem.W.mg_of X G a__law_web,
    F__law_ran,
    b__law_ran,
    PySem.W.mg_of X G a__law_ran,
    F__law_is_whole,
    b__law_is_whole,
    PySem.W.mg_of X G a__law_is_whole,
    F__law_bent_record,
    b__law_bent_record,
    PySem.W.mg_of X G a__law_bent_record,
    F__law_is_step,
    b__law_is_step,
    PySem.W.mg_of X G a__law_is_step,
    F__law_behind,
    b__law_behind,
    PySem.W.mg_of X G a__law_behind,
    F__law_told,
    b__law_told,
    PySem.W.mg_of X G a__law_told,
    F__law_spoiled,
    b__law_spoiled,
    PySem.W.mg_of X G a__law_spoiled,
    F_law,
    b_law,
    PySem.W.mg_of X G a_law,
    PySem.W.mg_of X G aC_GrowError,
    PySem.W.mg_of X G aC_BadWeb,
    PySem.W.mg_of X G aC_BadRecord,
    PySem.W.mg_of X G aC_BadStep,
    PySem.W.mg_of X G aC_NoWriters,
    PySem.W.mg_of X G aC_OtherMachines,
    PySem.W.mg_of X G aC_Web,
    PySem.W.mg_of X G aC_Record,
    PySem.W.mg_of X G aC_Post,
    ⟨pg_Web, hd_Web, po_Web, sa_Web⟩,
    ⟨mk_Web, a_Web_init, i_Web_init, kc_Web⟩,
    ⟨⟨pg_Web, hd_Web, po_Web, sa_Web⟩, ha_Web, hn_Web, ht_Web, hm_Web, (by unfold PySem.W.kitOne; simp)⟩,
    a_Web_eq,
    i_Web_eq,
    hne_Web,
    na_Web_machines,
    na_Web_wires,
    ⟨pg_Record, hd_Record, po_Record, sa_Record⟩,
    ⟨mk_Record, a_Record_init, i_Record_init, kc_Record⟩,
    ⟨⟨pg_Record, hd_Record, po_Record, sa_Record⟩, ha_Record, hn_Record, ht_Record, hm_Record, (by unfold PySem.W.kitOne; simp)⟩,
    a_Record_eq,
    i_Record_eq,
    hne_Record,
    na_Record_writers,
    na_Record_diaries,
    ⟨pg_Post, hd_Post, po_Post, sa_Post⟩,
    ⟨mk_Post, a_Post_init, i_Post_init, kc_Post⟩,
    na_Post_machines,
    na_Post_wires,
    na_Post_writers,
    na_Post_written,
    na_Post_under_way,
    ⟨⟨_, _, _, _, _, _, _, _, _, _, _, _, _, _, _, xL, by first | rfl | with_unfolding_all rfl | (show PySem.HandSPX.refsVE [.type "ValueError", .type "Exception", .type "BaseException", .type "object"] = true; decide +kernel)⟩, xsa, xex, xty, xk⟩,
    a_BadStep_init,
    xti,
    ⟨xga, xgg, xex, xhd⟩,
    xpa,
    ⟨xga, xgg, xex, xhd, xcl, xcg, xct, xmo⟩,
    PySem.W.exm_ref yex yhd yty yxy,
    (by unfold PySem.W.kitOne; simp),
    kit_mro xmv (by decide +kernel),
    InsK.of ⟨⟨pg_Web, hd_Web, po_Web, sa_Web⟩, ha_Web, hn_Web, ht_Web, hm_Web, (by unfold PySem.W.kitOne; simp)⟩ wmi wmb wmt wms,
    wty,
    PySem.W.mg_of X G co_MOST_MACHINES,
    PySem.W.mg_of X G co_MOST_PUTS,
    PySem.W.mg_of X G co_MOST_STEPS,
    PySem.W.mg_none_of X G z_isinstance,
    PySem.W.mg_none_of X G z_int,
    PySem.W.mg_none_of X G z_bool,
    PySem.W.mg_none_of X G z_list,
    PySem.W.mg_none_of X G z_tuple,
    PySem.W.mg_none_of X G z_len,
    PySem.W.mg_none_of X G z_all,
    PySem.W.mg_none_of X G z_str,
    PySem.W.mg_none_of X G z_enumerate,
    PySem.W.mg_none_of X G z_set,
    PySem.W.mg_none_of X G z_range,
    PySem.W.mg_none_of X G z_zip,
    PySem.W.mg_none_of X G z_abs,
    PySem.W.mg_none_of X G z_min,
    PySem.W.mg_none_of X G z_dict,
    PySem.W.mg_none_of X G z_ValueError⟩
  exact ⟨PySem.W.fnOf "law" "law" (defArgs s_law) (defBody s_law) (defScope s_law) .none kV_law dc_law pm_law an_law cd_law ct_law, fun s v => .of_eq rfl, fun base _ _ => ok_law T⟩
theorem walk {l : PySem.W.OpenLaw} {q : Program} {loose : List Str} {XP : (Str → Option Value) → Heap → Prop} {YP : World → Heap → Prop} {d : DefRec} {K : Params → PySem.W.Frag} (hn : l.most = some 63) (hdf : d.params.defaults = [])
    (hY : ∀ (w : World) (h : Heap), YP w h → (K w.params).In h)
    (F : ∀ (w : World) (mg : Str → Option Value) (fa : Addr) (h : Heap), (K w.params).In h → h.Ns mainGlobals mg → mg d.name = some (.ref fa) →
      ∃ fd : FuncData, (∀ (s : Shared) (u : Value), BindsTo s fd ⟨[u], []⟩ [("_law_script", u)]) ∧ ∀ base : Heap, (K w.params).In base → base.Ns mainGlobals mg → FnOk l.prog w (K w.params) mg base CX0 11 fa fd ["_law_script"] (spLaw (K w.params))) :
    PySem.W.WalkO q loose XP YP l.row.toRowW d [] (fun f vs => PySem.call f vs) :=
  L2.walk_of (n := 63) (k := 11) (x := "_law_script") (CX := fun _ => CX0) (sp := fun w => spLaw (K w.params)) hn (by decide) hdf ⟨rfl, by decide, by decide⟩ hY F (fun _ _ a ns hl _ hS => ⟨a, ns, rfl, hS, hl, fun _ => rfl⟩) fun _ _ _ _ _ z => z
end Mine
/-! ## KZ -/
open PySem PySem.W PyProof.Rows in
set_option maxRecDepth 100000 in
set_option maxHeartbeats 0 in
theorem PySem.Challenge.cw_growalong_k06_whole_runs_led_and_judged_holds : PySem.Challenge.rw_growalong_k06_whole_runs_led_and_judged.Holds := by
  w_on; o_law; k_head; (case hw => w_witness2)
  k_fill
  refine Mine.walk (l := PySem.Challenge.rw_growalong_k06_whole_runs_led_and_judged) rfl rfl (fun w h Y => PySem.W.kIn_of Y) ?F
  case F =>
    intro w mg fa h KX G hmg
    refine' Mine.all_mk KX G hmg ?aC_GrowError ?aC_BadWeb ?aC_BadRecord ?aC_BadStep ?aC_NoWriters ?aC_OtherMachines ?aC_Web ?aC_Record ?aC_Post ?a_BadWeb_init ?i_BadWeb_init ?l_BadWeb_init ?c_BadWeb_init ?k_BadWeb_init ?a_BadRecord_init ?i_BadRecord_init ?l_BadRecord_init ?c_BadRecord_init ?k_BadRecord_init ?a_BadStep_init ?i_BadStep_init ?l_BadStep_init ?c_BadStep_init ?k_BadStep_init ?a_NoWriters_init ?i_NoWriters_init ?l_NoWriters_init ?c_NoWriters_init ?k_NoWriters_init ?a_OtherMachines_init ?i_OtherMachines_init ?l_OtherMachines_init ?c_OtherMachines_init ?k_OtherMachines_init ?a_is_integer ?l_is_integer ?c_is_integer ?k_is_integer ?a_is_between ?l_is_between ?c_is_between ?k_is_between ?a_is_below ?l_is_below ?c_is_below ?k_is_below ?a_is_list_or_tuple ?l_is_list_or_tuple ?c_is_list_or_tuple ?k_is_list_or_tuple ?a_is_tuple_of ?l_is_tuple_of ?c_is_tuple_of ?k_is_tuple_of ?a_are_below ?l_are_below ?c_are_below ?k_are_below ?a_is_unlike_pair ?l_is_unlike_pair ?c_is_unlike_pair ?k_is_unlike_pair ?a_is_worded ?l_is_worded ?c_is_worded ?k_is_worded ?a_Web_init ?i_Web_init ?l_Web_init ?c_Web_init ?k_Web_init ?a_Web_eq ?i_Web_eq ?l_Web_eq ?c_Web_eq ?k_Web_eq ?a_first_wrong_wire ?l_first_wrong_wire ?c_first_wrong_wire ?k_first_wrong_wire ?a_Record_init ?i_Record_init ?l_Record_init ?c_Record_init ?k_Record_init ?a_Record_eq ?i_Record_eq ?l_Record_eq ?c_Record_eq ?k_Record_eq ?a_check_record ?l_check_record ?c_check_record ?k_check_record ?a_is_diary ?l_is_diary ?c_is_diary ?k_is_diary ?a_check_machines ?l_check_machines ?c_check_machines ?k_check_machines ?a_Post_init ?i_Post_init ?l_Post_init ?c_Post_init ?k_Post_init ?a_Post_do ?i_Post_do ?l_Post_do ?c_Post_do ?k_Post_do ?a_Post_put ?i_Post_put ?l_Post_put ?c_Post_put ?k_Post_put ?a_Post_come ?i_Post_come ?l_Post_come ?c_Post_come ?k_Post_come ?a_Post_write ?i_Post_write ?l_Post_write ?c_Post_write ?k_Post_write ?a_Post_diaries_told ?i_Post_diaries_told ?l_Post_diaries_told ?c_Post_diaries_told ?k_Post_diaries_told ?a_Post_letters_told ?i_Post_letters_told ?l_Post_letters_told ?c_Post_letters_told ?k_Post_letters_told ?a_first_undone ?l_first_undone ?c_first_undone ?k_first_undone ?a_are_steps ?l_are_steps ?c_are_steps ?k_are_steps ?a_check_writers ?l_check_writers ?c_check_writers ?k_check_writers ?a_led ?l_led ?c_led ?k_led ?a_is_run ?l_is_run ?c_is_run ?k_is_run ?a__law_hand ?l__law_hand ?c__law_hand ?k__law_hand ?a__law_draw ?l__law_draw ?c__law_draw ?k__law_draw ?a__law_is ?l__law_is ?c__law_is ?k__law_is ?a__law_flag ?l__law_flag ?c__law_flag ?k__law_flag ?a__law_deep ?l__law_deep ?c__law_deep ?k__law_deep ?a__law_web ?l__law_web ?c__law_web ?k__law_web ?a__law_ran ?l__law_ran ?c__law_ran ?k__law_ran ?a__law_is_whole ?l__law_is_whole ?c__law_is_whole ?k__law_is_whole ?a__law_bent_record ?l__law_bent_record ?c__law_bent_record ?k__law_bent_record ?a__law_is_step ?l__law_is_step ?c__law_is_step ?k__law_is_step ?a__law_behind ?l__law_behind ?c__law_behind ?k__law_behind ?a__law_told ?l__law_told ?c__law_told ?k__law_told ?a__law_spoiled ?l__law_spoiled ?c__law_spoiled ?k__law_spoiled ?a_law ?l_law ?c_law ?k_law ?pg_Web ?hd_Web ?po_Web ?sa_Web ?mk_Web ?kc_Web ?ha_Web ?hn_Web ?ht_Web ?hm_Web ?hne_Web ?na_Web_machines ?na_Web_wires ?pg_Record ?hd_Record ?po_Record ?sa_Record ?mk_Record ?kc_Record ?ha_Record ?hn_Record ?ht_Record ?hm_Record ?hne_Record ?na_Record_writers ?na_Record_diaries ?pg_Post ?hd_Post ?po_Post ?sa_Post ?mk_Post ?kc_Post ?na_Post_machines ?na_Post_wires ?na_Post_writers ?na_Post_written ?na_Post_under_way ?co_MOST_MACHINES ?co_MOST_PUTS ?co_MOST_STEPS ?z_isinstance ?z_int ?z_bool ?z_list ?z_tuple ?z_len ?z_all ?z_str ?z_enumerate ?z_set ?z_range ?z_zip ?z_abs ?z_min ?z_dict ?z_ValueError ?xL ?xsa ?xex ?xty ?xk ?xti ?xga ?xgg ?xhd ?xpa ?xcl ?xcg ?xct ?xmo ?xmv ?yex ?yhd ?yty ?yxy ?wmi ?wmb ?wmt ?wms ?wty
    (case aC_GrowError => k_is)
    (case aC_BadWeb => k_is)
    (case aC_BadRecord => k_is)
    (case aC_BadStep => k_is)
    (case aC_NoWriters => k_is)
    (case aC_OtherMachines => k_is)
    (case aC_Web => k_is)
    (case aC_Record => k_is)
    (case aC_Post => k_is)
    (case a_BadWeb_init => k_is)
    (case i_BadWeb_init => k_is)
    (case l_BadWeb_init => k_is)
    (case c_BadWeb_init => k_is)
    (case k_BadWeb_init => k_is)
    (case a_BadRecord_init => k_is)
    (case i_BadRecord_init => k_is)
    (case l_BadRecord_init => k_is)
    (case c_BadRecord_init => k_is)
    (case k_BadRecord_init => k_is)
    (case a_BadStep_init => k_is)
    (case i_BadStep_init => k_is)
    (case l_BadStep_init => k_is)
    (case c_BadStep_init => k_is)
    (case k_BadStep_init => k_is)
    (case a_NoWriters_init => k_is)
    (case i_NoWriters_init => k_is)
    (case l_NoWriters_init => k_is)
    (case c_NoWriters_init => k_is)
    (case k_NoWriters_init => k_is)
    (case a_OtherMachines_init => k_is)
    (case i_OtherMachines_init => k_is)
    (case l_OtherMachines_init => k_is)
    (case c_OtherMachines_init => k_is)
    (case k_OtherMachines_init => k_is)
    (case a_is_integer => k_is)
    (case l_is_integer => k_is)
    (case c_is_integer => k_is)
    (case k_is_integer => k_is)
    (case a_is_between => k_is)
    (case l_is_between => k_is)
    (case c_is_between => k_is)
    (case k_is_between => k_is)
    (case a_is_below => k_is)
    (case l_is_below => k_is)
    (case c_is_below => k_is)
    (case k_is_below => k_is)
    (case a_is_list_or_tuple => k_is)
    (case l_is_list_or_tuple => k_is)
    (case c_is_list_or_tuple => k_is)
    (case k_is_list_or_tuple => k_is)
    (case a_is_tuple_of => k_is)
    (case l_is_tuple_of => k_is)
    (case c_is_tuple_of => k_is)
    (case k_is_tuple_of => k_is)
    (case a_are_below => k_is)
    (case l_are_below => k_is)
    (case c_are_below => k_is)
    (case k_are_below => k_is)
    (case a_is_unlike_pair => k_is)
    (case l_is_unlike_pair => k_is)
    (case c_is_unlike_pair => k_is)
    (case k_is_unlike_pair => k_is)
    (case a_is_worded => k_is)
    (case l_is_worded => k_is)
    (case c_is_worded => k_is)
    (case k_is_worded => k_is)
    (case a_Web_init => k_is)
    (case i_Web_init => k_is)
    (case l_Web_init => k_is)
    (case c_Web_init => k_is)
    (case k_Web_init => k_is)
    (case a_Web_eq => k_is)
    (case i_Web_eq => k_is)
    (case l_Web_eq => k_is)
    (case c_Web_eq => k_is)
    (case k_Web_eq => k_is)
    (case a_first_wrong_wire => k_is)
    (case l_first_wrong_wire => k_is)
    (case c_first_wrong_wire => k_is)
    (case k_first_wrong_wire => k_is)
    (case a_Record_init => k_is)
    (case i_Record_init => k_is)
    (case l_Record_init => k_is)
    (case c_Record_init => k_is)
    (case k_Record_init => k_is)
    (case a_Record_eq => k_is)
    (case i_Record_eq => k_is)
    (case l_Record_eq => k_is)
    (case c_Record_eq => k_is)
    (case k_Record_eq => k_is)
    (case a_check_record => k_is)
    (case l_check_record => k_is)
    (case c_check_record => k_is)
    (case k_check_record => k_is)
    (case a_is_diary => k_is)
    (case l_is_diary => k_is)
    (case c_is_diary => k_is)
    (case k_is_diary => k_is)
    (case a_check_machines => k_is)
    (case l_check_machines => k_is)
    (case c_check_machines => k_is)
    (case k_check_machines => k_is)
    (case a_Post_init => k_is)
    (case i_Post_init => k_is)
    (case l_Post_init => k_is)
    (case c_Post_init => k_is)
    (case k_Post_init => k_is)
    (case a_Post_do => k_is)
    (case i_Post_do => k_is)
    (case l_Post_do => k_is)
    (case c_Post_do => k_is)
    (case k_Post_do => k_is)
    (case a_Post_put => k_is)
    (case i_Post_put => k_is)
    (case l_Post_put => k_is)
    (case c_Post_put => k_is)
    (case k_Post_put => k_is)
    (case a_Post_come => k_is)
    (case i_Post_come => k_is)
    (case l_Post_come => k_is)
    (case c_Post_come => k_is)
    (case k_Post_come => k_is)
    (case a_Post_write => k_is)
    (case i_Post_write => k_is)
    (case l_Post_write => k_is)
    (case c_Post_write => k_is)
    (case k_Post_write => k_is)
    (case a_Post_diaries_told => k_is)
    (case i_Post_diaries_told => k_is)
    (case l_Post_diaries_told => k_is)
    (case c_Post_diaries_told => k_is)
    (case k_Post_diaries_told => k_is)
    (case a_Post_letters_told => k_is)
    (case i_Post_letters_told => k_is)
    (case l_Post_letters_told => k_is)
    (case c_Post_letters_told => k_is)
    (case k_Post_letters_told => k_is)
    (case a_first_undone => k_is)
    (case l_first_undone => k_is)
    (case c_first_undone => k_is)
    (case k_first_undone => k_is)
    (case a_are_steps => k_is)
    (case l_are_steps => k_is)
    (case c_are_steps => k_is)
    (case k_are_steps => k_is)
    (case a_check_writers => k_is)
    (case l_check_writers => k_is)
    (case c_check_writers => k_is)
    (case k_check_writers => k_is)
    (case a_led => k_is)
    (case l_led => k_is)
    (case c_led => k_is)
    (case k_led => k_is)
    (case a_is_run => k_is)
    (case l_is_run => k_is)
    (case c_is_run => k_is)
    (case k_is_run => k_is)
    (case a__law_hand => k_is)
    (case l__law_hand => k_is)
    (case c__law_hand => k_is)
    (case k__law_hand => k_is)
    (case a__law_draw => k_is)
    (case l__law_draw => k_is)
    (case c__law_draw => k_is)
    (case k__law_draw => k_is)
    (case a__law_is => k_is)
    (case l__law_is => k_is)
    (case c__law_is => k_is)
    (case k__law_is => k_is)
    (case a__law_flag => k_is)
    (case l__law_flag => k_is)
    (case c__law_flag => k_is)
    (case k__law_flag => k_is)
    (case a__law_deep => k_is)
    (case l__law_deep => k_is)
    (case c__law_deep => k_is)
    (case k__law_deep => k_is)
    (case a__law_web => k_is)
    (case l__law_web => k_is)
    (case c__law_web => k_is)
    (case k__law_web => k_is)
    (case a__law_ran => k_is)
    (case l__law_ran => k_is)
    (case c__law_ran => k_is)
    (case k__law_ran => k_is)
    (case a__law_is_whole => k_is)
    (case l__law_is_whole => k_is)
    (case c__law_is_whole => k_is)
    (case k__law_is_whole => k_is)
    (case a__law_bent_record => k_is)
    (case l__law_bent_record => k_is)
    (case c__law_bent_record => k_is)
    (case k__law_bent_record => k_is)
    (case a__law_is_step => k_is)
    (case l__law_is_step => k_is)
    (case c__law_is_step => k_is)
    (case k__law_is_step => k_is)
    (case a__law_behind => k_is)
    (case l__law_behind => k_is)
    (case c__law_behind => k_is)
    (case k__law_behind => k_is)
    (case a__law_told => k_is)
    (case l__law_told => k_is)
    (case c__law_told => k_is)
    (case k__law_told => k_is)
    (case a__law_spoiled => k_is)
    (case l__law_spoiled => k_is)
    (case c__law_spoiled => k_is)
    (case k__law_spoiled => k_is)
    (case a_law => k_is)
    (case l_law => k_is)
    (case c_law => k_is)
    (case k_law => k_is)
    (case pg_Web => k_is)
    (case hd_Web => k_is)
    (case po_Web => k_is)
    (case sa_Web => k_is)
    (case mk_Web => k_is)
    (case kc_Web => k_is)
    (case ha_Web => k_is)
    (case hn_Web => k_is)
    (case ht_Web => k_is)
    (case hm_Web => k_is)
    (case hne_Web => k_is)
    (case na_Web_machines => k_is)
    (case na_Web_wires => k_is)
    (case pg_Record => k_is)
    (case hd_Record => k_is)
    (case po_Record => k_is)
    (case sa_Record => k_is)
    (case mk_Record => k_is)
    (case kc_Record => k_is)
    (case ha_Record => k_is)
    (case hn_Record => k_is)
    (case ht_Record => k_is)
    (case hm_Record => k_is)
    (case hne_Record => k_is)
    (case na_Record_writers => k_is)
    (case na_Record_diaries => k_is)
    (case pg_Post => k_is)
    (case hd_Post => k_is)
    (case po_Post => k_is)
    (case sa_Post => k_is)
    (case mk_Post => k_is)
    (case kc_Post => k_is)
    (case na_Post_machines => k_is)
    (case na_Post_wires => k_is)
    (case na_Post_writers => k_is)
    (case na_Post_written => k_is)
    (case na_Post_under_way => k_is)
    (case co_MOST_MACHINES => k_is)
    (case co_MOST_PUTS => k_is)
    (case co_MOST_STEPS => k_is)
    (case z_isinstance => k_is)
    (case z_int => k_is)
    (case z_bool => k_is)
    (case z_list => k_is)
    (case z_tuple => k_is)
    (case z_len => k_is)
    (case z_all => k_is)
    (case z_str => k_is)
    (case z_enumerate => k_is)
    (case z_set => k_is)
    (case z_range => k_is)
    (case z_zip => k_is)
    (case z_abs => k_is)
    (case z_min => k_is)
    (case z_dict => k_is)
    (case z_ValueError => k_is)
    (case xL => k_is)
    (case xsa => k_is)
    (case xex => k_is)
    (case xty => k_is)
    (case xk => k_is)
    (case xti => k_is)
    (case xga => k_is)
    (case xgg => k_is)
    (case xhd => k_is)
    (case xpa => k_is)
    (case xcl => k_is)
    (case xcg => k_is)
    (case xct => k_is)
    (case xmo => k_is)
    (case xmv => k_is)
    (case yex => k_is)
    (case yhd => k_is)
    (case yty => k_is)
    (case yxy => k_is)
    (case wmi => k_is)
    (case wmb => k_is)
    (case wmt => k_is)
    (case wms => k_is)
    (case wty => k_is)

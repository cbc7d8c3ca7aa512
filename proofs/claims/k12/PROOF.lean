import PyProof.Rows.All
import Wide.All
import OpenK.AllK
import Wide.FinOn
import HandS.ForMost
import HandS.Deep
import HandS.IsInst
import HandS.TupLe
import HandS.TupAny
import HandS.TupSets
import HandS.Style
import HandS.Zip
import HandS.More
import HandS.SortInts
import HandS.Codes
import HandS.Walk
import HandS.Iter
import KE.GoesEnum
import PyProof.Rows.SortShell
import HandS.Conv
import HandS.OwnEq
import PyProof.InstNe
import HandS.Strs
import PyProof.WalksMore
import KE.KDictPairs
import KE.KDictCopyH
import KE.KDictKeyed
import HandS.SetFor
import HandS.Exc
import HandS.ExcInit
import HandS.ExcIs
import HandS.ExcField
import HandS.WordsExc
import HandS.CallSlots
import KE.KExcIs
import HandS.SetKeys
import HandS.DictComp
import KE.GoesMore
import KE.KDictSum
import HandS.SortRule
import KE.KeyNested
import KE.KDictDisplayH
import PyProof.DictTable
import PyProof.Rows.TupTab
import HandS.Small
import PySem.Challenge.RW_growalong_k12_whole_what_may_come_next
set_option Elab.async false
set_option linter.all false
set_option maxRecDepth 100000
set_option maxHeartbeats 4000000
/-! ## GA -/
namespace GA
open PySem L2

/-! ### heaps: what stays -/
/-- tuples stay -/
def Ts (H H' : Hp) : Prop := ∀ a xs, Rd H a (.tup xs) → Rd H' a (.tup xs)
/-- the hand of draws: a list at hd whose first item is the list of ints at c -/
def Hand (H : Hp) (hd c : Addr) : Prop := c ≠ hd ∧ (∃ ns : List Int, H c = some (.lst (ns.map V.int))) ∧ ∃ (i b m k : Int), H hd = some (.lst [.ref c, .int i, .int b, .int m, .int k]) ∧ 0 ≤ i
/-- all that stood stands, but for the hand's own list -/
structure G (o : Option (Addr × Addr)) (H H' : Hp) : Prop where
  keep : ∀ a u, (∀ p, o = some p → a ≠ p.1) → H a = some u → H' a = some u
  tups : Ts H H'
  hand : ∀ p, o = some p → Hand H p.1 p.2 → Hand H' p.1 p.2
theorem G.refl {o : Option (Addr × Addr)} {H : Hp} : G o H H := ⟨fun _ _ _ h => h, fun _ _ h => h, fun _ _ h => h⟩
theorem G.trans {o : Option (Addr × Addr)} {H H1 H2 : Hp} (a : G o H H1) (b : G o H1 H2) : G o H H2 :=
  ⟨fun x u n h => b.keep x u n (a.keep x u n h), fun x xs h => b.tups x xs (a.tups x xs h), fun p e h => b.hand p e (a.hand p e h)⟩
theorem G.all {H H' : Hp} (g : G none H H') (a : Addr) (u : HO) (h : H a = some u) : H' a = some u := g.keep a u (fun p e => nomatch e) h
theorem G.of_all {o : Option (Addr × Addr)} {H H' : Hp} (k : ∀ a u, H a = some u → H' a = some u) : G o H H' :=
  ⟨fun a u _ h => k a u h, fun a xs h => h.elim (fun h => .inl (k _ _ h)) fun ⟨ob, h⟩ => .inr ⟨ob, k _ _ h⟩,
    fun p _ ⟨n, ⟨ns, h1⟩, i, b, m, z, h2, h3⟩ => ⟨n, ⟨ns, k _ _ h1⟩, i, b, m, z, k _ _ h2, h3⟩⟩
theorem G.up {o : Option (Addr × Addr)} {H H' : Hp} (g : G none H H') : G o H H' := G.of_all g.all
theorem G.alloc {o : Option (Addr × Addr)} {H : Hp} {p : Addr} {u : HO} (h : H p = none) : G o H (upd H p u) := G.of_all fun a w e => by
  rw [upd_ne (ne_of_none e h)]; exact e
/-- a thing that H does not know is changed -/
theorem G.mut {o : Option (Addr × Addr)} {H H' : Hp} {l : Addr} {u : HO} (g : G o H H') (h : H l = none) (hh : ∀ p, o = some p → Hand H p.1 p.2) : G o H (upd H' l u) := by
  refine ⟨fun a w n e => ?_, fun a xs e => ?_, fun p e x => ?_⟩
  · rw [upd_ne (ne_of_none e h)]; exact g.keep a w n e
  · have ne : a ≠ l := by
      rcases e with e | ⟨ob, e⟩ <;> exact ne_of_none e h
    rcases g.tups a xs e with q | ⟨ob, q⟩
    · exact .inl (by rw [upd_ne ne]; exact q)
    · exact .inr ⟨ob, by rw [upd_ne ne]; exact q⟩
  · obtain ⟨n0, ⟨ns0, h0⟩, i0, b0, m0, k0, h1, _⟩ := hh p e
    obtain ⟨n, ⟨ns, h2⟩, i, b, m, k, h3, h4⟩ := g.hand p e x
    exact ⟨n, ⟨ns, by rw [upd_ne (ne_of_none h0 h)]; exact h2⟩, i, b, m, k, by rw [upd_ne (ne_of_none h1 h)]; exact h3, h4⟩
theorem Hand.ne {H : Hp} {hd c l : Addr} (x : Hand H hd c) (h : H l = none) : l ≠ hd := fun e => by
  obtain ⟨_, _, _, _, _, _, h1, _⟩ := x
  rw [← e, h] at h1; cases h1
/-- an address that is not the hand's -/
def Off (o : Option (Addr × Addr)) (a : Addr) : Prop := ∀ p, o = some p → a ≠ p.1
theorem off_none {a : Addr} : Off none a := fun _ e => nomatch e
theorem off_new {hd c l : Addr} {H : Hp} (x : Hand H hd c) (h : H l = none) : Off (some (hd, c)) l := fun p e => by cases e; exact x.ne h
theorem off_ins {hd c a C dx : Addr} {fs : List (Str × V)} {H : Hp} (x : Hand H hd c) (h : H a = some (.ins C dx fs)) : Off (some (hd, c)) a := fun p e => by
  cases e
  obtain ⟨_, _, _, _, _, _, h1, _⟩ := x
  exact ne_of h h1 (by intro z; cases z)
theorem off_dK {hd c a : Addr} {kvs : List (Key × V)} {H : Hp} (x : Hand H hd c) (h : H a = some (.dK kvs)) : Off (some (hd, c)) a := fun p e => by
  cases e
  obtain ⟨_, _, _, _, _, _, h1, _⟩ := x
  exact ne_of h h1 (by intro z; cases z)

/-! ### data without lists -/
mutual
def nl : PyData → Bool
  | .list _ => false
  | .dict _ => false
  | .tuple ds => nls ds
  | .none => true
  | .bool _ => true
  | .int _ => true
  | .str _ => true
def nls : List PyData → Bool
  | [] => true
  | d :: ds => nl d && nls ds
end
theorem nls_iff : ∀ {ds : List PyData}, nls ds = true ↔ ∀ d ∈ ds, nl d = true
  | [] => by simp [nls]
  | d :: ds => by simp [nls, nls_iff (ds := ds)]
section
variable {K : PySem.W.Frag} {H H' : Hp}
theorem sqT_t (t : Ts H H') {a : Addr} {xs : List V} (h : SqT K H a xs) : SqT K H' a xs := h.elim (fun h => .inl (t _ _ h)) .inr
mutual
theorem dp_t (t : Ts H H') : ∀ (d : PyData) (v : V), nl d = true → Dp K H v d → Dp K H' v d
  | .none, _, _, h => by cases h; exact .non
  | .bool b, _, _, h => by cases h; exact .bl b
  | .int i, _, _, h => by cases h; exact .int i
  | .str x, _, _, h => by cases h; exact .str x
  | .list ds, _, n, _ => by simp [nl] at n
  | .dict ds, _, n, _ => by simp [nl] at n
  | .tuple ds, _, n, h => by
    cases h with
    | tup hs ha => exact .tup (sqT_t t hs) (dpAll_t t ds _ (by simpa [nl] using n) ha)
theorem dpAll_t (t : Ts H H') : ∀ (ds : List PyData) (vs : List V), nls ds = true → DpAll K H vs ds → DpAll K H' vs ds
  | [], _, _, h => by cases h; exact .nil
  | d :: ds, _, n, h => by
    cases h with
    | cons h1 h2 =>
      have n' : nl d = true ∧ nls ds = true := by simpa [nls] using n
      exact .cons (dp_t t d _ n'.1 h1) (dpAll_t t ds _ n'.2 h2)
end
theorem DpAll.length : ∀ {vs : List V} {ds : List PyData}, DpAll K H vs ds → vs.length = ds.length
  | _, _, .nil => rfl
  | _, _, .cons _ t => by simp [DpAll.length t]
theorem DpAll.get : ∀ {vs : List V} {ds : List PyData} {i : Nat} {v : V}, DpAll K H vs ds → vs[i]? = some v → ∃ d, ds[i]? = some d ∧ Dp K H v d
  | _, _, _, _, .nil, e => by simp at e
  | _, _, 0, _, .cons h _, e => by simp at e; subst e; exact ⟨_, rfl, h⟩
  | _, _, i + 1, v, .cons _ t, e => by
    obtain ⟨d, h1, h2⟩ := DpAll.get (i := i) (v := v) t (by simpa using e)
    exact ⟨d, by simpa using h1, h2⟩
theorem DpAll.get' : ∀ {vs : List V} {ds : List PyData} {i : Nat} {d : PyData}, DpAll K H vs ds → ds[i]? = some d → ∃ v, vs[i]? = some v ∧ Dp K H v d
  | _, _, _, _, .nil, e => by simp at e
  | _, _, 0, _, .cons h _, e => by simp at e; subst e; exact ⟨_, rfl, h⟩
  | _, _, i + 1, d, .cons _ t, e => by
    obtain ⟨v, h1, h2⟩ := DpAll.get' (i := i) (d := d) t (by simpa using e)
    exact ⟨v, by simpa using h1, h2⟩
theorem DpAll.app : ∀ {vs ws : List V} {ds es : List PyData}, DpAll K H vs ds → DpAll K H ws es → DpAll K H (vs ++ ws) (ds ++ es)
  | _, _, _, _, .nil, h => h
  | _, _, _, _, .cons h t, h' => .cons h (DpAll.app t h')
theorem DpAll.one {v : V} {d : PyData} (h : Dp K H v d) : DpAll K H [v] [d] := .cons h .nil
theorem DpAll.ints : ∀ (ns : List Int), DpAll K H (ns.map V.int) (ns.map PyData.int)
  | [] => .nil
  | n :: ns => .cons (.int n) (DpAll.ints ns)
theorem DpAll.of_ints : ∀ {ns : List Int} {vs : List V}, DpAll K H vs (ns.map PyData.int) → vs = ns.map V.int
  | [], _, .nil => rfl
  | n :: ns, _, .cons h t => by cases h; rw [DpAll.of_ints t]; rfl
end
/-- a tuple of ints, a pair, a tuple of pairs -/
abbrev dI (ns : List Int) : PyData := .tuple (ns.map PyData.int)
abbrev dP (w : Int × Int) : PyData := .tuple [.int w.1, .int w.2]
abbrev dW (ws : List (Int × Int)) : PyData := .tuple (ws.map dP)
theorem nls_ints (ns : List Int) : nls (ns.map PyData.int) = true := by rw [nls_iff]; intro d h; simp only [List.mem_map] at h; obtain ⟨n, _, rfl⟩ := h; rfl
theorem nls_pairs (ws : List (Int × Int)) : nls (ws.map dP) = true := by rw [nls_iff]; intro d h; simp only [List.mem_map] at h; obtain ⟨n, _, rfl⟩ := h; rfl
theorem nl_dI (ns : List Int) : nl (dI ns) = true := by show nls _ = true; exact nls_ints ns
theorem nl_dP (w : Int × Int) : nl (dP w) = true := rfl
theorem nl_dW (ws : List (Int × Int)) : nl (dW ws) = true := by show nls _ = true; exact nls_pairs ws
section
variable {K : PySem.W.Frag} {H H' : Hp}
theorem dp_dI {v : V} {ns : List Int} (h : Dp K H v (dI ns)) : ∃ a, v = .ref a ∧ SqT K H a (ns.map V.int) := by
  cases h with
  | tup hs ha => exact ⟨_, rfl, by rw [← DpAll.of_ints ha]; exact hs⟩
theorem dp_dP {v : V} {w : Int × Int} (h : Dp K H v (dP w)) : ∃ a, v = .ref a ∧ SqT K H a [.int w.1, .int w.2] := by
  cases h with
  | tup hs ha =>
    cases ha with
    | cons h1 t =>
      cases t with
      | cons h2 t =>
        cases t; cases h1; cases h2
        exact ⟨_, rfl, hs⟩
theorem dp_tup {v : V} {ds : List PyData} (h : Dp K H v (.tuple ds)) : ∃ a vs, v = .ref a ∧ SqT K H a vs ∧ DpAll K H vs ds := by
  cases h with
  | tup hs ha => exact ⟨_, _, rfl, hs, ha⟩
theorem dp_ofI {a : Addr} {ns : List Int} (h : SqT K H a (ns.map V.int)) : Dp K H (.ref a) (dI ns) := .tup h (DpAll.ints ns)
theorem dp_ofP {a : Addr} {i j : Int} (h : SqT K H a [.int i, .int j]) : Dp K H (.ref a) (dP (i, j)) := .tup h (.cons (.int i) (.cons (.int j) .nil))
end

/-! ### steps: a reading by its first part -/
section
variable {K : PySem.W.Frag} {σ : L2.St} {H : Hp} {Q : VK} {QB : Bool → Hp → Prop} {D : Ends} {ta tb tc te : TE} {t u : TT} {ts tu : TS} {r r' : R2} {v x y : V} {i j : Int} {n : Nat} {b : Bool} {A B : Prop}
theorem w_var {i : Nat} (h : σ[i]? = some (some v)) (q : Q v H) : tVar i σ H Q := ⟨v, h, q⟩
theorem w_c (q : Q v H) : tC v σ H Q := q
theorem w_op (q : ta σ H fun x H1 => tb σ H1 fun y H2 => r x y H2 Q) : tOp r ta tb σ H Q := q
theorem w_un {f : V → Hp → VK → Prop} (q : ta σ H fun x H1 => f x H1 Q) : tUn f ta σ H Q := q
theorem w_seq (q : ts { D with nx := tu D } σ H) : tSeq ts tu D σ H := q
theorem w_next (q : D.nx σ H) : tNext D σ H := q
theorem w_break (q : D.bk σ H) : tBreak D σ H := q
theorem w_set {i : Nat} (q : te σ H fun x H1 => D.nx (σ.set i (some x)) H1) : tAsg te (gName i) D σ H := q
theorem w_asg {g : TG} (q : te σ H fun x H1 => g x σ H1 D.nx) : tAsg te g D σ H := q
theorem w_drop (q : te σ H fun _ H1 => D.nx σ H1) : tDrop te D σ H := q
theorem w_ret (q : te σ H D.rt) : tRet te D σ H := q
theorem w_retN (q : D.rt .non H) : tRetN D σ H := q
theorem w_ifS (q : t σ H fun b H1 => if b = true then ts D σ H1 else tu D σ H1) : tIfS t ts tu D σ H := q
theorem w_test (q : te σ H fun x H' => ∃ k, x = .bl k ∧ QB k H') : tTest te σ H QB := q
theorem w_tB (q : te σ H fun x H' => ∃ k, x = .bl k ∧ QB k H') : tB te σ H QB := q
theorem w_bl (q : QB b H) : ∃ k, V.bl b = .bl k ∧ QB k H := ⟨b, rfl, q⟩
theorem w_not (q : t σ H fun c H1 => QB (!c) H1) : tNot t σ H QB := q
theorem w_and (q : t σ H fun c H1 => if c = true then u σ H1 QB else QB false H1) : tAnd t u σ H QB := q
theorem w_or (q : t σ H fun c H1 => if c = true then QB true H1 else u σ H1 QB) : tOr t u σ H QB := q
theorem w_andV (q : ta σ H fun x H1 => ∃ c, x = .bl c ∧ if c = true then tb σ H1 Q else Q (.bl false) H1) : tAndV ta tb σ H Q := q
theorem w_orV (q : ta σ H fun x H1 => ∃ c, x = .bl c ∧ if c = true then Q (.bl true) H1 else tb σ H1 Q) : tOrV ta tb σ H Q := q
theorem w_notV (q : ta σ H fun x H1 => ∃ c, x = .bl c ∧ Q (.bl (!c)) H1) : tNotV ta σ H Q := q
theorem w_if (q : t σ H fun c H1 => if c = true then ta σ H1 Q else tb σ H1 Q) : tIf t ta tb σ H Q := q
theorem w_blc {F : Bool → Prop} (q : F b) : ∃ c, V.bl b = .bl c ∧ F c := ⟨b, rfl, q⟩
theorem w_nil {QA : List V → Hp → Prop} (q : QA [] H) : tNil σ H QA := q
theorem w_cons {tr : TA} {QA : List V → Hp → Prop} (q : te σ H fun x H1 => tr σ H1 fun xs H2 => QA (x :: xs) H2) : tCons te tr σ H QA := q
theorem w_CB {f : List V → Hp → VK → Prop} {tr : TA} (q : tr σ H fun vs H1 => f vs H1 Q) : tCB f tr σ H Q := q
theorem w_call {sp : Sp} {E : XK} {tr : TA} (q : tr σ H fun vs H1 => sp (vs ++ []) H1 Q E) : tCall sp [] E tr σ H Q := q
theorem w_tup {tr : TA} (q : tr σ H fun xs H1 => xs.length ≤ sizeLine ∧ ∀ p, H1 p = none → Q (.ref p) (upd H1 p (.tup xs))) : tTup tr σ H Q := q
theorem w_lst {tr : TA} (q : tr σ H fun xs H1 => xs.length ≤ sizeLine ∧ ∀ p, H1 p = none → Q (.ref p) (upd H1 p (.lst xs))) : tLst tr σ H Q := q
theorem w_chain (q : ta σ H fun x H1 => tb σ H1 fun y H2 => r x y H2 fun z H3 => ∃ k, z = .bl k ∧ (if k = true then tc σ H3 fun w' H4 => r' y w' H4 Q else Q (.bl false) H3)) : tChain r r' ta tb tc σ H Q := q
theorem w_sl {f : V → Option Int → Option Int → Hp → VK → Prop} {tl th : TO} (q : te σ H fun x H1 => tl σ H1 fun l H2 => th σ H2 fun u H3 => f x l u H3 Q) : tSl f te tl th σ H Q := q
theorem w_part {QO : Option Int → Hp → Prop} (q : te σ H fun x H1 => ∃ i, x = .int i ∧ QO (some i) H1) : tPart te σ H QO := q
theorem w_noPart {QO : Option Int → Hp → Prop} (q : QO none H) : tNoPart σ H QO := q
theorem w_inti {F : Int → Prop} (q : F i) : ∃ k, V.int i = .int k ∧ F k := ⟨i, rfl, q⟩
theorem w_fld {f : Str} (q : te σ H fun x H1 => ∃ a C dx fs v, x = .ref a ∧ H1 a = some (.ins C dx fs) ∧ Cls K C ∧ NoAttr K C f ∧ fs.lookup f = some v ∧ Q v H1) : tFld K te f σ H Q := q
theorem w_sfld {f : Str} (q : tb σ H fun y H1 => ta σ H1 fun x H2 => ∃ a C dx fs, x = .ref a ∧ H2 a = some (.ins C dx fs) ∧ Cls K C ∧ NoAttr K C f ∧ fs.length < 1000 ∧ D.nx σ (upd H2 a (.ins C dx (putF f y fs)))) : sFld K ta tb f D σ H := q
theorem w_gsub {to ti : TE} {s : TSet} {QS : L2.St → Hp → Prop} (q : to σ H fun o H1 => ti σ H1 fun i H2 => s o i v H2 fun H3 => QS σ H3) : gSub to ti s v σ H QS := q
theorem w_gname {i : Nat} {QS : L2.St → Hp → Prop} (q : QS (σ.set i (some v)) H) : gName i v σ H QS := q
/-! by values -/
theorem r_I0 {g : Int → Int → V} (q : Q (g i j) H) : rI0 g (.int i) (.int j) H Q := ⟨i, j, rfl, rfl, q⟩
theorem r_I {C : Int → Int → Prop} {g : Int → Int → V} (c : C i j) (q : Q (g i j) H) : rI C g (.int i) (.int j) H Q := ⟨i, j, rfl, rfl, c, q⟩
theorem r_U {g : Int → V} (q : Q (g i) H) : rU g (.int i) H Q := ⟨i, rfl, q⟩
theorem r_eqI (q : Q (.bl (decide (i = j))) H) : rEq (.int i) (.int j) H Q := ⟨rfl, by
  have e : decide (V.int i = V.int j) = decide (i = j) := by simp
  rw [e]; exact q⟩
theorem r_neI (q : Q (.bl (!decide (i = j))) H) : rNe (.int i) (.int j) H Q := ⟨rfl, by
  have e : decide (V.int i = V.int j) = decide (i = j) := by simp
  rw [e]; exact q⟩
theorem r_eqB {a b : Bool} (q : Q (.bl (decide (a = b))) H) : rEq (.bl a) (.bl b) H Q := ⟨rfl, by
  have e : decide (V.bl a = V.bl b) = decide (a = b) := by simp
  rw [e]; exact q⟩
theorem r_neB {a b : Bool} (q : Q (.bl (!decide (a = b))) H) : rNe (.bl a) (.bl b) H Q := ⟨rfl, by
  have e : decide (V.bl a = V.bl b) = decide (a = b) := by simp
  rw [e]; exact q⟩
theorem r_ixT {p : Addr} {xs : List V} (h : SqT K H p xs) (e : atI xs i = some v) (q : Q v H) : rIxT K (.ref p) (.int i) H Q := ⟨p, xs, i, v, rfl, rfl, h, e, q⟩
theorem r_ixL {p : Addr} {xs : List V} (h : SqL K H p xs) (e : atI xs i = some v) (q : Q v H) : rIxL K (.ref p) (.int i) H Q := ⟨p, xs, i, v, rfl, rfl, h, e, q⟩
theorem w_ite (h1 : b = true → A) (h2 : b = false → B) : if b = true then A else B := by
  cases b with
  | true => exact h1 rfl
  | false => exact h2 rfl
theorem w_newT {o : Option (Addr × Addr)} {xs : List V} (q : ∀ p H1, H p = none → G o H H1 → H1 p = some (.tup xs) → Q (.ref p) H1) (hz : xs.length ≤ 100000 := by simp) : xs.length ≤ sizeLine ∧ ∀ p, H p = none → Q (.ref p) (upd H p (.tup xs)) :=
  ⟨Nat.le_trans hz (by decide), fun p hp => q p _ hp (G.alloc hp) upd_same⟩
theorem w_newL {o : Option (Addr × Addr)} {xs : List V} (q : ∀ p H1, H p = none → G o H H1 → H1 p = some (.lst xs) → Q (.ref p) H1) (hz : xs.length ≤ 100000 := by simp) : xs.length ≤ sizeLine ∧ ∀ p, H p = none → Q (.ref p) (upd H p (.lst xs)) :=
  ⟨Nat.le_trans hz (by decide), fun p hp => q p _ hp (G.alloc hp) upd_same⟩
end
end GA
/-! ## GB -/
namespace PySem
open Sem (wp)
open AutoSeq1 (wpAny_loadPart')
theorem ga_enumerate_newT (l : Addr) (items : Array Value) :
    Meets (Builtin.«enumerate.__new__» ⟨[.type "enumerate", .ref l], []⟩) (fun _ R s => s.heap.IsTuple l items ∧
      R (.ok (.ret (.ref (s.heap.push { cls := .type "tuple_iterator", data := .fields #[.ref l, .int 0 0] }).objs.size)))
        { s with heap := (s.heap.push { cls := .type "tuple_iterator", data := .fields #[.ref l, .int 0 0] }).push { cls := .type "enumerate", data := .fields #[.none, .bool false, .ref s.heap.objs.size, rawInt 0, .none, .none] } }) :=
  .of_wp fun prog w A R s h => by
    obtain ⟨hp, g, d, tk, os⟩ := s; obtain ⟨hl, h⟩ := h
    have hsub := sub_enumerate
    have hL : Heap.IsTuple (Shared.heap ⟨hp, g, d, tk, os⟩) l items := hl
    obtain ⟨ob, hob, _⟩ := id hl
    wp_walk using wpAny_loadPart' hob
    refine wpAny_stack_any fun st => wpAny_pure ?_
    split
    · rename_i c _ _ _ _ _
      cases (c == Value.type "enumerate")
      · wp_walk using wpAny_loadPart' hob, wpAny_pyIter_tuple hL
        exact ⟨_, rfl, h⟩
      · wp_walk using wpAny_loadPart' hob, wpAny_pyIter_tuple hL
        exact ⟨_, rfl, h⟩
    · wp_walk using wpAny_loadPart' hob, wpAny_pyIter_tuple hL
      exact ⟨_, rfl, h⟩
theorem ga_enumerate_tuple {prog : Program} {w : World} {A : Around} {E : Value → Shared → Prop} {s : Shared} {l : Addr} {items : Array Value} {Q : Value → Shared → Prop} (hL : s.heap.IsTuple l items)
    (h : ∀ h', IsEnum h' (s.heap.objs.size + 1) s.heap.objs.size 0 .none → h'.IsTupleIter s.heap.objs.size l 0 → h'.objs.size = s.heap.objs.size + 2 →
      (∀ b o, s.heap.get? b = some o → h'.get? b = some o) → Q (.ref (s.heap.objs.size + 1)) { s with heap := h' }) :
    wpAny (model prog w) A (call (.type "enumerate") [.ref l]) Q E s := by
  refine callType_new F.called_enumerate (by decide) (F.typeCall_enumerate_1 _) (F.newCall_enumerate_1 _) (fun obj => F.args_object_init_2 obj _) F.entry_enumerate_new
    (ga_enumerate_newT l items) ⟨hL, ?_⟩
  have hz : (s.heap.push { cls := .type "tuple_iterator", data := .fields #[.ref l, .int 0 0] }).objs.size = s.heap.objs.size + 1 := Heap.size_push ..
  show _ ∧ _
  rw [hz]
  have he : IsEnum ((s.heap.push { cls := .type "tuple_iterator", data := .fields #[.ref l, .int 0 0] }).push
      { cls := .type "enumerate", data := .fields #[.none, .bool false, .ref s.heap.objs.size, rawInt 0, .none, .none] }) (s.heap.objs.size + 1) s.heap.objs.size 0 .none := by
    have := Heap.get?_push_size (s.heap.push { cls := .type "tuple_iterator", data := .fields #[.ref l, .int 0 0] })
      (o := { cls := .type "enumerate", data := .fields #[.none, .bool false, .ref s.heap.objs.size, rawInt 0, .none, .none] }) rfl
    rw [hz] at this; exact this
  refine ⟨⟨_, he, rfl⟩, h _ he ⟨_, Heap.get?_push_of_some _ (Heap.get?_push_size _ rfl), rfl, rfl⟩ (by rw [Heap.size_push, hz]) fun b o x => Heap.get?_push_of_some _ (Heap.get?_push_of_some _ x)⟩
end PySem
namespace GA
open PySem PySem.Spec PyProof.Rows L2
/-- enumerate over a tuple -/
def IteT (K : PySem.W.Frag) (a : Addr) : It :=
  ⟨fun i H => ∃ (xs : List V) (x : V), SqT K H a xs ∧ xs[i]? = some x, fun i H v H' => ∃ T x, v = .ref T ∧ H T = none ∧ H' = upd H T (.tup [.int (i : Nat), x]) ∧ ∀ xs, SqT K H a xs → xs[i]? = some x, fun i H => ∃ xs : List V, SqT K H a xs ∧ xs.length ≤ i⟩
theorem turn_enumT {P : Program} {w : World} {K : PySem.W.Frag} {elts : List Expr} {kk : Nat} {tpos : Pos} (a e it : Addr) (nai : a ≠ it) (nae : a ≠ e) :
    Turn P w K (.Tuple elts kk tpos) (IteT K a) [e, it] e (fun i h => (∃ old, IsEnum h e it ((i : Nat) : Int) old) ∧ h.IsTupleIter it a i ∧ e ≠ it) where
  mem := by simp
  obj := fun i h st b hb => by
    obtain ⟨⟨old, he⟩, ⟨o, ho, hc, hd⟩, _⟩ := st
    have e' : b = e ∨ b = it := by simpa using hb
    rcases e' with z | z
    · rw [z]; exact ⟨_, he, fun v q => nomatch q⟩
    · rw [z]; exact ⟨o, ho, fun v q => by rw [hd] at q; cases q⟩
  keep := fun i h h' st k => let ⟨⟨old, he⟩, hi, hne⟩ := st; ⟨⟨old, k e (by simp) _ he⟩, hi.at fun o q => k it (by simp) o q, hne⟩
  item := by
    intro X hP hw hK hc i pins s σ H E I hf st hg
    subst hP hw hK
    obtain ⟨⟨old, he⟩, hit, hne⟩ := st
    obtain ⟨xs, x, hq, hx⟩ := hg
    obtain ⟨its, rv, p, hz⟩ := I.tuple hq
    obtain ⟨u, hu, ru⟩ := rv.get hx
    have hel : e < s.heap.objs.size := Heap.lt_size he
    have hil : it < s.heap.objs.size := by obtain ⟨_, q, _⟩ := hit; exact Heap.lt_size q
    have hi : i < its.toArray.size := by
      have := (List.getElem?_eq_some_iff.mp hu).1
      simpa using this
    refine wpAny_pyNext_enum_itemD (Draws.tuple (prog := X.prog) (w := X.w) (A := X.A.in1) (I.ok.hd hc) it a nai its.toArray) he ⟨hit, p⟩ hi hne (by simp [hne, Ne.symm nae]) fun v h' tk hv ho hst hT hsz hk => ?_
    have ev : v = u := by
      have z : its.toArray[i]? = some u := by simpa using hu
      rw [z] at hv; exact (Option.some.inj hv).symm
    subst ev
    refine ⟨_, rfl, wpAny_letOwnedTupleGo_enum (s := { s with heap := h', toks := tk + 1 }) ho fun h'' he' sb => ?_⟩
    have hT2 : h''.get? s.heap.objs.size = some { cls := .type "tuple", data := .seq #[.int i tk, v] } := (sb.2 _ (Nat.ne_of_gt hel)).trans hT
    have new : ObjOk X.prog X.w (upd H s.heap.objs.size (.tup [.int (i : Nat), x])) h'' s.heap.objs.size (.tup [.int (i : Nat), x]) :=
      ⟨by show 2 ≤ sizeLine; decide, [.int i tk, v], .cons ⟨_, rfl⟩ (.cons ru .nil), ⟨_, hT2, rfl, _, rfl⟩⟩
    have I1 : Inv X pins σ (upd H s.heap.objs.size (.tup [.int (i : Nat), x])) { s with heap := h'', toks := tk + 1 } :=
      I.turnedNew (ch := [e, it]) (fun b ob hb q => (sb.2 b (fun z => hb (by simp [z]))).trans (hk b ob (fun z => hb (by simp [z])) (fun z => hb (by simp [z])) q)) hf (Nat.le_refl _) new
    refine ⟨.ref s.heap.objs.size, _, I1, rfl, ⟨_, x, rfl, I.hok.fresh (Nat.le_refl _), rfl, fun ys hy => by rw [I.tuple_inj hy hq]; exact hx⟩, ⟨⟨v, ?_⟩, hst.1.at fun o q => (sb.2 it (Ne.symm hne)).trans q, hne⟩, fun b hb => ?_⟩
    · have e1 : ((i + 1 : Nat) : Int) = (i : Int) + 1 := by omega
      rw [e1]; exact he'
    · have hb' : b < s.heap.objs.size := by
        have e' : b = e ∨ b = it := by simpa using hb
        rcases e' with z | z
        · rw [z]; exact hel
        · rw [z]; exact hil
      rw [upd_ne (Nat.ne_of_lt hb')]
      exact (hf b hb).1
  done := by
    intro X hP hw hK hc i pins s σ H E I hf st hg
    subst hP hw hK
    obtain ⟨⟨old, he⟩, hit, hne⟩ := st
    obtain ⟨xs, hq, hx⟩ := hg
    obtain ⟨its, rv, p, hz⟩ := I.tuple hq
    obtain ⟨f0, f1, f2, f3, f4, f5⟩ := hf it (by simp)
    have hl := rv.length
    have hT : s.TypeIs (.ref e) "enumerate" := ⟨_, he, rfl⟩
    unfold pyNext
    refine wpAny_bind (wpAny_attempt (wpAny_callSpecial?_slot (name := Str.ofString "__next__") hT F.slot_enumerate_next
      (wpAny_call_entry F.slot_enumerate_next hT F.entry_enumerate_next ?_ (F.args_enumerate_next_1 _))))
    show wpAny _ _ (field (.ref e) 2 >>= _) _ _ _
    refine wpAny_bind (wpAny_field he rfl (x := .ref it) rfl ?_)
    refine wpAny_bind (wpAny_nextOf_tuple_end (I.ok.hd hc) hit p (by simp; omega) fun h' x' he' hx' => ?_)
    obtain ⟨o, ho, hc'⟩ := hx'
    refine wpAny_bind (wpAny_isInstance (T := "StopIteration") (b := true) ⟨o, ho, hc'⟩ isSubtype_stop ?_)
    exact wpAny_pure ⟨rfl, I.turned (t' := s.toks) (fun b o hb q => he' b o hb q) f0 f1 f3 f4 f5⟩
  self := by
    intro A i s Q E st h
    obtain ⟨⟨old, he⟩, _⟩ := st
    exact wpAny_pyIter_enum he h
def iEnumT (K : PySem.W.Frag) (ta : TA) : TI := fun σ H R => ta σ H fun vs H1 => ∃ a xs, vs = [.ref a] ∧ SqT K H1 a xs ∧ R (IteT K a) H1
theorem pi_enumT {X : Cx} {e : Expr} {ta : TA} {p pos tpos : Pos} {elts : List Expr} {kk : Nat} (hg : Gl X "enumerate") (hm : X.mg "enumerate" = none) (ha : PA X [e] ta) (hs : starEach [e] X.env = [(false, eval e X.env)] := by rfl) :
    PI X (.Tuple elts kk tpos) (.Call (.Name "enumerate" p) [e] [] pos) (iEnumT X.K ta) := by
  refine ⟨fun pins s σ H R I h => ?_⟩
  refine Call_ (ld_blt I hg hm boot_enumerate (PyProof.Rows.callWith_type1 (thn (ha.run pos pins s σ H _ I h) fun us s1 ⟨vs, H1, I1, r1, q1⟩ => ?_) hs rfl))
  obtain ⟨a, xs, ex, hq, q⟩ := q1
  subst ex
  cases r1 with
  | cons r rr =>
    cases rr
    cases r
    obtain ⟨its, rv, p', hz⟩ := I1.tuple hq
    have hal : a < s1.heap.objs.size := p'.lt
    refine ga_enumerate_tuple p' fun h' he hit hsz hk => wpAny_pyIter_enum he ?_
    have I2 : Inv X pins σ H1 { s1 with heap := h' } := I1.kept (t' := s1.toks) hk
    refine ⟨s1.heap.objs.size + 1, [s1.heap.objs.size + 1, s1.heap.objs.size], _, _, H1, rfl, I2, turn_enumT a (s1.heap.objs.size + 1) s1.heap.objs.size (Nat.ne_of_lt hal) (Nat.ne_of_lt (Nat.lt_succ_of_lt hal)), ⟨⟨.none, he⟩, hit, Nat.succ_ne_self _⟩, fun b hb => ?_, q⟩
    have e' : b = s1.heap.objs.size + 1 ∨ b = s1.heap.objs.size := by simpa using hb
    have hle : s1.heap.objs.size ≤ b := by
      rcases e' with z | z
      · rw [z]; exact Nat.le_add_right _ _
      · rw [z]; exact Nat.le_refl _
    exact I1.fpOk hle (I1.hok.fresh hle)
theorem walk_enumT {K : PySem.W.Frag} {a : Addr} {xs : List V} : Walk (IteT K a) xs.length (fun H => SqT K H a xs) (YPair (fun i => some (.int (i : Nat))) (fun i => xs[i]?)) := by
  refine ⟨fun i _ hi q => ⟨xs, xs[i], q, by simp [hi]⟩, fun _ q => ⟨xs, q, Nat.le_refl _⟩, fun i H v H' _ q y => ?_⟩
  obtain ⟨T, x, h1, h2, h3, h4⟩ := y
  exact ⟨T, .int (i : Nat), x, h1, h2, h3, rfl, h4 xs q⟩
end GA
/-! ## GC -/
namespace GA
open PySem L2
theorem Ts.of {H H' : Hp} (k : ∀ a u, H a = some u → (∀ xs, u ≠ .lst xs) → H' a = some u) : Ts H H' := fun a xs h => h.elim (fun h => .inl (k a _ h fun _ z => nomatch z)) fun ⟨ob, h⟩ => .inr ⟨ob, k a _ h fun _ z => nomatch z⟩
theorem Ts.updl {H : Hp} {D : Addr} {xs : List V} {u : HO} (h : H D = some (.lst xs)) : Ts H (upd H D u) := Ts.of fun a w e n => by
  rw [upd_ne (ne_of e h (n xs))]; exact e
theorem Ts.trans {H H1 H2 : Hp} (a : Ts H H1) (b : Ts H1 H2) : Ts H H2 := fun x xs h => b x xs (a x xs h)
section
variable {K : PySem.W.Frag} {J : It} {n : Nat} {Gd : Hp → Prop} {Y : Nat → Hp → V → Hp → Prop} {o : Option (Addr × Addr)} {H1 : Hp} {D : Addr} {g : TG} {tt : TT} {te : TE} {vs : List Nat} {σ : L2.St} {Qd : Hp → Prop}
/-- a comprehension: what it has made as data; Pv by the turn, the data, the heap -/
theorem lc_data (wk : Walk J n Gd Y) (hn : n ≤ 100000) (hD : H1 D = none) (hh : ∀ p, o = some p → Hand H1 p.1 p.2) (Pv : Nat → List PyData → Hp → Prop)
    (stab : ∀ i acc H xs l, Pv i acc H → H D = some (.lst xs) → Pv i acc (upd H D (.lst l)))
    (h0 : Pv 0 [] (upd H1 D (.lst [])))
    (hG : ∀ i acc H, G o H1 H → Pv i acc H → Gd H)
    (hs : ∀ i x acc H H', i < n → G o H1 H → Pv i acc H → Y i H x H' → ∀ (Qy : V → Hp → Prop) (Qn : Hp → Prop), (∀ y H4 e, G o H H4 → Dp K H4 y e → nl e = true → Pv (i + 1) (acc ++ [e]) H4 → Qy y H4) → (∀ H3, G o H H3 → Pv (i + 1) acc H3 → Qn H3) →
      g x (wipe σ vs) H' fun σ2 H2 => wipe σ2 vs = wipe σ vs ∧ tt σ2 H2 fun b H3 => if b = true then te σ2 H3 Qy else Qn H3)
    (hd : ∀ ds xs H', Pv n ds H' → G o H1 H' → H' D = some (.lst xs) → DpAll K H' xs ds → nls ds = true → Qd H') :
    ∃ W : Nat → Nat → Hp → Prop, (∃ m, W 0 m (upd H1 D (.lst []))) ∧ ∀ i m H, W i m H →
      (J.stop i H ∧ Qd H) ∨ (J.go i H ∧ ∃ Nx : Hp → Prop, (∀ H', Nx H' → ∃ m', m' < m ∧ W (i + 1) m' H') ∧ ∀ x H', J.yld i H x H' → g x (wipe σ vs) H' fun σ2 H2 => wipe σ2 vs = wipe σ vs ∧ tt σ2 H2 fun b H3 =>
        if b = true then te σ2 H3 fun y H4 => ∃ acc, H4 D = some (.lst acc) ∧ acc.length < sizeLine ∧ Nx (upd H4 D (.lst (acc ++ [y]))) else Nx H3) := by
  have offD : ∀ p, o = some p → D ≠ p.1 := fun p e => (hh p e).ne hD
  refine lc_it wk (fun i H => ∃ ds xs, G o H1 H ∧ Pv i ds H ∧ H D = some (.lst xs) ∧ DpAll K H xs ds ∧ nls ds = true ∧ xs.length ≤ i) ?_ ?_ ?_ ?_
  · exact ⟨[], [], (G.refl).mut hD hh, h0, upd_same, .nil, rfl, Nat.le_refl _⟩
  · rintro i H _ ⟨ds, xs, q1, q2, _⟩
    exact hG i ds H q1 q2
  · rintro i x H H' hi ⟨ds, xs, q1, q2, q3, q4, q5, q6⟩ y
    have keepD : ∀ {H4 : Hp}, G o H H4 → H4 D = some (.lst xs) := fun g4 => g4.keep D _ offD q3
    refine hs i x ds H H' hi q1 q2 y _ _ (fun v H4 e g4 he ne hp => ?_) fun H3 g3 hp => ⟨ds, xs, q1.trans g3, hp, keepD g3, dpAll_t g3.tups _ _ q5 q4, q5, by omega⟩
    have hD4 := keepD g4
    have t4 : Ts H4 (upd H4 D (.lst (xs ++ [v]))) := Ts.updl hD4
    refine ⟨xs, hD4, Nat.lt_of_le_of_lt (by omega : xs.length ≤ 100000) (by decide), ds ++ [e], xs ++ [v], (q1.trans g4).mut hD hh, stab _ _ _ _ _ hp hD4, upd_same, ?_, ?_, ?_⟩
    · exact DpAll.app (dpAll_t (g4.tups.trans t4) _ _ q5 q4) (DpAll.one (dp_t t4 e v ne he))
    · rw [nls_iff] at q5 ⊢
      intro d hd
      rcases List.mem_append.mp hd with z | z
      · exact q5 d z
      · have : d = e := by simpa using z
        rw [this]; exact ne
    · rw [List.length_append, List.length_singleton]; omega
  · rintro H ⟨ds, xs, q1, q2, q3, q4, q5, _⟩
    exact hd ds xs H q2 q1 q3 q4 q5
/-- one whose items are told by their places -/
theorem lc_pure (wk : Walk J n Gd Y) (hn : n ≤ 100000) (hD : H1 D = none) (hh : ∀ p, o = some p → Hand H1 p.1 p.2) (f : Nat → Option PyData)
    (hG : ∀ H, G o H1 H → Gd H)
    (hs : ∀ i x H H', i < n → G o H1 H → Y i H x H' → ∀ (Qy : V → Hp → Prop) (Qn : Hp → Prop), (∀ y H4 e, G o H H4 → Dp K H4 y e → nl e = true → f i = some e → Qy y H4) → (∀ H3, G o H H3 → f i = none → Qn H3) →
      g x (wipe σ vs) H' fun σ2 H2 => wipe σ2 vs = wipe σ vs ∧ tt σ2 H2 fun b H3 => if b = true then te σ2 H3 Qy else Qn H3)
    (hd : ∀ xs H', G o H1 H' → H' D = some (.lst xs) → DpAll K H' xs ((List.range n).filterMap f) → nls ((List.range n).filterMap f) = true → Qd H') :
    ∃ W : Nat → Nat → Hp → Prop, (∃ m, W 0 m (upd H1 D (.lst []))) ∧ ∀ i m H, W i m H →
      (J.stop i H ∧ Qd H) ∨ (J.go i H ∧ ∃ Nx : Hp → Prop, (∀ H', Nx H' → ∃ m', m' < m ∧ W (i + 1) m' H') ∧ ∀ x H', J.yld i H x H' → g x (wipe σ vs) H' fun σ2 H2 => wipe σ2 vs = wipe σ vs ∧ tt σ2 H2 fun b H3 =>
        if b = true then te σ2 H3 fun y H4 => ∃ acc, H4 D = some (.lst acc) ∧ acc.length < sizeLine ∧ Nx (upd H4 D (.lst (acc ++ [y]))) else Nx H3) := by
  refine lc_data (K := K) wk hn hD hh (fun i acc _ => acc = (List.range i).filterMap f) (fun _ _ _ _ _ h _ => h) rfl (fun _ _ H q _ => hG H q) ?_ ?_
  · rintro i x acc H H' hi q1 rfl y Qy Qn ky kn
    refine hs i x H H' hi q1 y Qy Qn (fun y H4 e g4 he ne hf => ky y H4 e g4 he ne ?_) fun H3 g3 hf => kn H3 g3 ?_
    · rw [List.range_succ, List.filterMap_append]; simp [hf]
    · rw [List.range_succ, List.filterMap_append]; simp [hf]
  · rintro ds xs H' rfl q1 q2 q3 q4
    exact hd xs H' q1 q2 q3 q4
end
theorem G.at_hd {H0 H' : Hp} {hd c : Addr} (x : Hand H0 hd c) (E : ∀ a, a ≠ hd → H' a = H0 a) {i b m k : Int} (h : H' hd = some (.lst [.ref c, .int i, .int b, .int m, .int k])) (hi : 0 ≤ i) : G (some (hd, c)) H0 H' ∧ Hand H' hd c := by
  obtain ⟨n, ⟨ns, h1⟩, i0, b0, m0, k0, h2, h3⟩ := x
  have hh : Hand H' hd c := ⟨n, ⟨ns, by rw [E c n]; exact h1⟩, i, b, m, k, h, hi⟩
  refine ⟨⟨fun a u z e => ?_, fun a xs e => ?_, fun p e _ => ?_⟩, hh⟩
  · rw [E a (z _ rfl)]; exact e
  · have na : a ≠ hd := by
      rcases e with e | ⟨ob, e⟩
      · exact ne_of e h2 (by intro z; cases z)
      · exact ne_of e h2 (by intro z; cases z)
    rcases e with e | ⟨ob, e⟩
    · exact .inl (by rw [E a na]; exact e)
    · exact .inr ⟨ob, by rw [E a na]; exact e⟩
  · cases e; exact hh
theorem mem_cutV {xs : List V} {lo hi : Option Int} {v : V} (h : v ∈ cutV xs lo hi) : v ∈ xs := by
  unfold cutV at h
  exact List.mem_of_mem_drop (List.mem_of_mem_take h)
theorem ints_of {xs : List V} (h : ∀ v ∈ xs, ∃ n : Int, v = .int n) : ∃ ns : List Int, xs = ns.map V.int := by
  induction xs with
  | nil => exact ⟨[], rfl⟩
  | cons x xs ih =>
    obtain ⟨n, rfl⟩ := h x List.mem_cons_self
    obtain ⟨ns, rfl⟩ := ih fun v hv => h v (List.mem_cons_of_mem _ hv)
    exact ⟨n :: ns, rfl⟩
/-! new objects, told by what they leave -/
theorem PE.weak {X : Cx} {e : Expr} {t t' : TE} (h : PE X e t) (w : ∀ σ H Q, t' σ H Q → t σ H Q) : PE X e t' := ⟨fun pins s σ H Q I q => h.run pins s σ H Q I (w σ H Q q)⟩
theorem CallR.weak {X : Cx} {f : Value} {r r' : List V → Hp → VK → Prop} (h : CallR X f r) (w : ∀ xs H Q, r' xs H Q → r xs H Q) : CallR X f r' := fun pins s σ H xs us Q I rv q => h pins s σ H xs us Q I rv (w xs H Q q)
theorem OpR.weak {X : Cx} {f : Value → Value → Sem Value} {r r' : R2} (h : OpR X f r) (w : ∀ x y H Q, r' x y H Q → r x y H Q) : OpR X f r' := fun pins s σ H x y v u Q I r1 r2 q => h pins s σ H x y v u Q I r1 r2 (w x y H Q q)
theorem SlR.weak {X : Cx} {r r' : V → Option Int → Option Int → Hp → VK → Prop} (h : SlR X r) (w : ∀ x l u H Q, r' x l u H Q → r x l u H Q) : SlR X r' := fun pins s σ H x v vl vu lo hi sl Q I r1 hs pl pu q => h pins s σ H x v vl vu lo hi sl Q I r1 hs pl pu (w x lo hi H Q q)
/-- for each new object u at p: F p H2 -/
def New (H : Hp) (u : HO) (F : Addr → Hp → Prop) : Prop := ∀ p H2, H p = none → (∀ o, G o H H2) → H2 p = some u → F p H2
theorem New.go {H : Hp} {u : HO} {F : Addr → Hp → Prop} (h : New H u F) {p : Addr} (hp : H p = none) : F p (upd H p u) := h p _ hp (fun _ => G.alloc hp) upd_same
def tTupN (t : TA) : TE := fun σ H Q => t σ H fun xs H1 => xs.length ≤ sizeLine ∧ New H1 (.tup xs) fun p H2 => Q (.ref p) H2
def tLstN (t : TA) : TE := fun σ H Q => t σ H fun xs H1 => xs.length ≤ sizeLine ∧ New H1 (.lst xs) fun p H2 => Q (.ref p) H2
section
variable {X : Cx} {es : List Expr} {t : TA} {pos : Pos}
theorem pe_tupN {x1} (h : PA X es t) : PE X (.Tuple es x1 pos) (tTupN t) := by
  have h' : PA X es (fun σ H QA => t σ H QA) := h
  refine ⟨fun pins s σ H Q I q => ?_⟩
  have hm : PA X es (fun σ H QA => t σ H (fun xs H1 => xs.length ≤ sizeLine ∧ New H1 (.tup xs) fun p H2 => Q (.ref p) H2) ∧ ∀ xs H1, (xs.length ≤ sizeLine ∧ New H1 (.tup xs) fun p H2 => Q (.ref p) H2) → QA xs H1) :=
    ⟨fun pos pins s σ H QA I q => wpAny_mono (h.run pos pins s σ H _ I q.1) (fun us s1 ⟨vs, H1, I1, r, z⟩ => ⟨vs, H1, I1, r, q.2 vs H1 z⟩) fun _ _ z => z⟩
  exact (pe_tup hm).run pins s σ H Q I ⟨q, fun xs H1 z => ⟨z.1, fun p hp => z.2.go hp⟩⟩
theorem pe_lstN (h : PA X es t) : PE X (.List es pos) (tLstN t) := by
  refine ⟨fun pins s σ H Q I q => ?_⟩
  have hm : PA X es (fun σ H QA => t σ H (fun xs H1 => xs.length ≤ sizeLine ∧ New H1 (.lst xs) fun p H2 => Q (.ref p) H2) ∧ ∀ xs H1, (xs.length ≤ sizeLine ∧ New H1 (.lst xs) fun p H2 => Q (.ref p) H2) → QA xs H1) :=
    ⟨fun pos pins s σ H QA I q => wpAny_mono (h.run pos pins s σ H _ I q.1) (fun us s1 ⟨vs, H1, I1, r, z⟩ => ⟨vs, H1, I1, r, q.2 vs H1 z⟩) fun _ _ z => z⟩
  exact (pe_lst hm).run pins s σ H Q I ⟨q, fun xs H1 z => ⟨z.1, fun p hp => z.2.go hp⟩⟩
end
/-- tuple(a list): a new tuple; tuple(a tuple): itself -/
def rTupleN (K : PySem.W.Frag) : List V → Hp → VK → Prop := fun xs H Q => ∃ p ys, xs = [.ref p] ∧ ((SqL K H p ys ∧ New H (.tup ys) fun l H2 => Q (.ref l) H2) ∨ (SqT K H p ys ∧ Q (.ref p) H))
theorem call_tupleN {X : Cx} : CallR X (.type "tuple") (rTupleN X.K) := CallR.weak call_tuple_of fun xs H Q h => by
  obtain ⟨p, ys, e, h | h⟩ := h
  · exact ⟨p, ys, e, .inl ⟨h.1, fun l hl => h.2.go hl⟩⟩
  · exact ⟨p, ys, e, .inr h⟩
def rListN (K : PySem.W.Frag) : List V → Hp → VK → Prop := fun xs H Q => ∃ p ys, xs = [.ref p] ∧ (SqL K H p ys ∨ SqT K H p ys) ∧ New H (.lst ys) fun l H2 => Q (.ref l) H2
theorem call_listN {X : Cx} : CallR X (.type "list") (rListN X.K) := CallR.weak call_list_of fun xs H Q h => by
  obtain ⟨p, ys, e, h, q⟩ := h
  exact ⟨p, ys, e, h, fun l hl => q.go hl⟩
theorem w_tupN {σ : L2.St} {H : Hp} {Q : VK} {tr : TA} (q : tr σ H fun xs H1 => xs.length ≤ sizeLine ∧ New H1 (.tup xs) fun p H2 => Q (.ref p) H2) : tTupN tr σ H Q := q
theorem w_lstN {σ : L2.St} {H : Hp} {Q : VK} {tr : TA} (q : tr σ H fun xs H1 => xs.length ≤ sizeLine ∧ New H1 (.lst xs) fun p H2 => Q (.ref p) H2) : tLstN tr σ H Q := q
/-- for up to so many items -/
theorem sz {n : Nat} (h : n ≤ 100000) : n ≤ sizeLine := Nat.le_trans h (by decide)
theorem filterMap_range_map {α β : Type} (l : List α) (f : α → β) : (List.range l.length).filterMap (fun i => (l[i]?).map f) = l.map f := by
  induction l with
  | nil => rfl
  | cons a l ih =>
    rw [List.length_cons, List.range_succ_eq_map, List.filterMap_cons, List.filterMap_map]
    simp only [List.getElem?_cons_zero, Option.map_some, List.map_cons]
    congr 1
theorem filterMap_range_fm {α β : Type} (l : List α) (f : α → Option β) : (List.range l.length).filterMap (fun i => (l[i]?).bind f) = l.filterMap f := by
  induction l with
  | nil => rfl
  | cons a l ih =>
    rw [List.length_cons, List.range_succ_eq_map, List.filterMap_cons, List.filterMap_map, List.filterMap_cons]
    simp only [List.getElem?_cons_zero, Option.bind_some]
    cases f a with
    | none => exact ih
    | some b => simp only []; congr 1
section
variable {K : PySem.W.Frag} {σ : L2.St} {H : Hp} {Q : VK} {D : Ends}
theorem w_lc {wi : TI} {g : TG} {tt : TT} {te : TE} {vs : List Nat} (q : wi σ H fun J H1 => ∀ D, H1 D = none → ∃ W : Nat → Nat → Hp → Prop, (∃ m, W 0 m (upd H1 D (.lst []))) ∧ ∀ i m H, W i m H →
  (J.stop i H ∧ Q (.ref D) H) ∨ (J.go i H ∧ ∃ Nx : Hp → Prop, (∀ H', Nx H' → ∃ m', m' < m ∧ W (i + 1) m' H') ∧ ∀ x H', J.yld i H x H' → g x (wipe σ vs) H' fun σ2 H2 => wipe σ2 vs = wipe σ vs ∧ tt σ2 H2 fun b H3 =>
    if b = true then te σ2 H3 fun y H4 => ∃ acc, H4 D = some (.lst acc) ∧ acc.length < sizeLine ∧ Nx (upd H4 D (.lst (acc ++ [y]))) else Nx H3)) : tLc wi g tt te vs σ H Q := q
theorem w_nt {A B : Prop} (q : B) : if (!true) = true then A else B := q
theorem w_nf {A B : Prop} (q : A) : if (!false) = true then A else B := q
theorem w_iteE {b : Bool} {A B : Prop} (e : b = true) (q : A) : if b = true then A else B := by rw [if_pos e]; exact q
theorem w_iteN {b : Bool} {A B : Prop} (e : b = false) (q : B) : if b = true then A else B := by rw [e]; exact q
theorem w_isN {te : TE} (q : te σ H fun x H1 => Q (.bl (decide (x = .non))) H1) : tIsN te σ H Q := q
theorem w_notN {te : TE} (q : te σ H fun x H1 => Q (.bl (!decide (x = .non))) H1) : tNotN te σ H Q := q
theorem w_seqM {ts tu : TS} (M : L2.St → Hp → Prop) (h1 : ∀ N : L2.St → Hp → Prop, (∀ σ' H', M σ' H' → N σ' H') → ts { D with nx := N } σ H) (h2 : ∀ σ' H', M σ' H' → tu D σ' H') : tSeq ts tu D σ H := h1 _ h2
theorem w_make {C : Addr} {sp : Sp} {E : XK} {tr : TA} (q : tr σ H fun vs H1 => ∀ x dx, H1 x = none → H1 dx = none → dx ≠ x → sp (.ref x :: (vs ++ [])) (upd (upd H1 dx (.own x)) x (.ins C dx [])) (fun v H2 => v = .non ∧ Q (.ref x) H2) E) : tMake C sp [] E tr σ H Q := q
theorem w_yes {QB : Bool → Hp → Prop} (q : QB true H) : tYes σ H QB := q
theorem w_for {wi : TI} {g : TG} {tb : TS} (q : wi σ H fun J H1 => ∃ W : Nat → Nat → L2.St → Hp → Prop, (∃ m, W 0 m σ H1) ∧ ∀ i m σ H, W i m σ H →
  (J.stop i H ∧ D.nx σ H) ∨ (J.go i H ∧ ∃ N : L2.St → Hp → Prop, (∀ σ' H', N σ' H' → ∃ m', m' < m ∧ W (i + 1) m' σ' H') ∧ ∀ x H', J.yld i H x H' → g x σ H' fun σ2 H2 => tb { D with nx := N, ct := N, bk := D.nx } σ2 H2)) : tFor wi g tb D σ H := q
variable {R : It → Hp → Prop} {ta : TA} {te : TE}
theorem w_rng1 (q : ta σ H fun vs H1 => ∃ j : Int, vs = [.int j] ∧ -(2 ^ 62) ≤ j ∧ j < 2 ^ 62 ∧ R (Itr 0 j.toNat) H1) : iRng1 ta σ H R := q
theorem w_rng2 (q : ta σ H fun vs H1 => ∃ i j : Int, vs = [.int i, .int j] ∧ (-(2 ^ 62) ≤ i ∧ i < 2 ^ 62 ∧ -(2 ^ 62) ≤ j ∧ j < 2 ^ 62) ∧ R (Itr i (j - i).toNat) H1) : iRng2 ta σ H R := q
theorem w_itup (q : te σ H fun x H1 => ∃ a, x = .ref a ∧ (∃ xs, SqT K H1 a xs) ∧ R (Itt K a) H1) : iTup K te σ H R := q
theorem w_ilist (q : te σ H fun x H1 => ∃ a, x = .ref a ∧ (∃ xs, SqL K H1 a xs) ∧ R (Itl K a) H1) : iList K te σ H R := q
theorem w_ienum (q : ta σ H fun vs H1 => ∃ a xs, vs = [.ref a] ∧ SqT K H1 a xs ∧ R (IteT K a) H1) : iEnumT K ta σ H R := q
theorem w_izip (q : ta σ H fun vs H1 => ∃ a b xs ys, vs = [.ref a, .ref b] ∧ ((SqL K H1 a xs ∧ SqL K H1 b ys ∧ R (Itz K a b) H1) ∨ (SqT K H1 a xs ∧ SqT K H1 b ys ∧ R (RZ.ItzT K a b) H1))) : RZ.iZipA K ta σ H R := q
theorem w_BM {T : String} {r : V → List V → Hp → VK → Prop} {to : TE} (q : to σ H fun x H1 => tyV K T x H1 ∧ ta σ H1 fun xs H2 => r x xs H2 Q) : tBM K T r to ta σ H Q := q
theorem w_BM0 {T : String} {r : V → List V → Hp → VK → Prop} {to : TE} (q : to σ H fun x H1 => tyV K T x H1 ∧ r x [] H1 Q) : tBM0 K T r to σ H Q := q
theorem i_BM {l : Addr} {xs : List V} {F : Prop} (h : H l = some (.lst xs)) (q : F) : tyV K "list" (.ref l) H ∧ F := ⟨.inl ⟨rfl, _, SqL.of h⟩, q⟩
theorem r_app {l : Addr} {xs : List V} {y : V} (h : H l = some (.lst xs)) (hz : xs.length ≤ 90000) (q : Q .non (upd H l (.lst (xs ++ [y])))) : rAppend (.ref l) [y] H Q := ⟨l, xs, y, rfl, rfl, h, Nat.lt_of_le_of_lt hz (by decide), q⟩
theorem i_rng1 {F : Int → Prop} {j : Int} (h1 : 0 ≤ j) (h2 : j ≤ 100000) (q : F j) : ∃ k : Int, [V.int j] = [.int k] ∧ -(2 ^ 62) ≤ k ∧ k < 2 ^ 62 ∧ F k := ⟨j, rfl, by omega, by omega, q⟩
theorem i_rng2 {F : Int → Int → Prop} {i j : Int} (h : -100000 ≤ i ∧ i ≤ 100000 ∧ -100000 ≤ j ∧ j ≤ 100000) (q : F i j) : ∃ k l : Int, [V.int i, V.int j] = [.int k, .int l] ∧ (-(2 ^ 62) ≤ k ∧ k < 2 ^ 62 ∧ -(2 ^ 62) ≤ l ∧ l < 2 ^ 62) ∧ F k l := ⟨i, j, rfl, by omega, q⟩
theorem i_tup {F : Addr → Prop} {a : Addr} {xs : List V} (h : SqT K H a xs) (q : F a) : ∃ b, V.ref a = .ref b ∧ (∃ xs, SqT K H b xs) ∧ F b := ⟨a, rfl, ⟨xs, h⟩, q⟩
theorem i_list {F : Addr → Prop} {a : Addr} {xs : List V} (h : SqL K H a xs) (q : F a) : ∃ b, V.ref a = .ref b ∧ (∃ xs, SqL K H b xs) ∧ F b := ⟨a, rfl, ⟨xs, h⟩, q⟩
theorem i_enum {F : Addr → Prop} {a : Addr} {xs : List V} (h : SqT K H a xs) (q : F a) : ∃ (b : Addr) (ys : List V), [V.ref a] = [.ref b] ∧ SqT K H b ys ∧ F b := ⟨a, xs, rfl, h, q⟩
end
end GA
/-! ## GD -/
namespace GA
open PySem L2
/-! ### data within data -/
def rInDT (K : PySem.W.Frag) : R2 := fun x y H Q => ∃ d ds, Dp K H x d ∧ Dp K H y (.tuple ds) ∧ SeqAt.shaped d = true ∧ SeqAt.shaped (.tuple ds) = true ∧ Q (.bl (ds.any fun z => PyData.eqv z d)) H
theorem op_inDT {X : Cx} (hu : X.A.units + 65 < cLine) : OpR X (compareOp .In) (rInDT X.K) := by
  intro pins s σ H x y v u Q I rx ry h
  obtain ⟨d, ds, hd, he, sd, se, q⟩ := h
  obtain ⟨as, r1⟩ := Dp.reads I d x v hd rx
  obtain ⟨bs, r2⟩ := Dp.reads I (.tuple ds) y u he ry
  exact SeqAt.in_tuple_reads r2 r1 (SeqAt.canLay_of_shaped se) (SeqAt.canLay_of_shaped sd) (PyProof.Rows.room_in_shaped sd hu) ⟨.bl _, H, I, rfl, q⟩
theorem u65 {k : Nat} {A : Around} (hr : Room k A) : A.units + 65 < cLine := by
  have := hr.un
  omega
theorem canAll {ds : List PyData} (h : ∀ d ∈ ds, d.canLay0 = true) : PyData.canLayAll0 ds = true := by
  induction ds with
  | nil => rfl
  | cons d ds ih => rw [PyData.canLayAll0, h d List.mem_cons_self, ih fun e he => h e (List.mem_cons_of_mem _ he)]; rfl
theorem depAll {n : Nat} {ds : List PyData} (h : ∀ d ∈ ds, d.depth ≤ n) : PyData.depthAll ds ≤ n := by
  induction ds with
  | nil => rw [PyData.depthAll]; exact Nat.zero_le _
  | cons d ds ih =>
    rw [PyData.depthAll]
    have h1 := h d List.mem_cons_self
    have h2 := ih fun e he => h e (List.mem_cons_of_mem _ he)
    omega
theorem sh_of {d : PyData} (h1 : d.canLay0 = true) (h2 : d.depth ≤ 64) : SeqAt.shaped d = true := by
  unfold SeqAt.shaped
  rw [h1, decide_eq_true h2]; rfl
theorem dep_tup {n : Nat} {ds : List PyData} (h : ∀ d ∈ ds, d.depth ≤ n) : (PyData.tuple ds).depth ≤ n + 1 := by
  rw [PyData.depth]
  have := depAll h
  omega
theorem can_tup {ds : List PyData} (h : ∀ d ∈ ds, d.canLay0 = true) : (PyData.tuple ds).canLay0 = true := by
  rw [PyData.canLay0]; exact canAll h
theorem can_int {n : Int} : (PyData.int n).canLay0 = true := by simp [PyData.canLay0]
theorem dep_int {n : Int} : (PyData.int n).depth = 0 := by simp [PyData.depth]
theorem can_dI (ns : List Int) : (dI ns).canLay0 = true := can_tup fun d h => by
  obtain ⟨n, _, rfl⟩ := List.mem_map.mp h
  exact can_int
theorem dep_dI (ns : List Int) : (dI ns).depth ≤ 1 := dep_tup (n := 0) fun d h => by
  obtain ⟨n, _, rfl⟩ := List.mem_map.mp h
  rw [dep_int]; exact Nat.le_refl _
theorem can_dP (w : Int × Int) : (dP w).canLay0 = true := can_dI [w.1, w.2]
theorem dep_dP (w : Int × Int) : (dP w).depth ≤ 1 := dep_dI [w.1, w.2]
theorem can_dW (ws : List (Int × Int)) : (dW ws).canLay0 = true := can_tup fun d h => by
  obtain ⟨n, _, rfl⟩ := List.mem_map.mp h
  exact can_dP n
theorem dep_dW (ws : List (Int × Int)) : (dW ws).depth ≤ 2 := dep_tup (n := 1) fun d h => by
  obtain ⟨n, _, rfl⟩ := List.mem_map.mp h
  exact dep_dP n
theorem sh_dI (ns : List Int) : SeqAt.shaped (dI ns) = true := sh_of (can_dI ns) (Nat.le_trans (dep_dI ns) (by decide))
theorem sh_dP (w : Int × Int) : SeqAt.shaped (dP w) = true := sh_of (can_dP w) (Nat.le_trans (dep_dP w) (by decide))
theorem sh_dW (ws : List (Int × Int)) : SeqAt.shaped (dW ws) = true := sh_of (can_dW ws) (Nat.le_trans (dep_dW ws) (by decide))
theorem eqv_int {i j : Int} : PyData.eqv (.int i) (.int j) = decide (i = j) := by
  rw [PyData.eqv]; exact Bool.beq_eq_decide_eq i j
theorem eqvAll_map {α : Type} [DecidableEq α] {f : α → PyData} (h : ∀ x y, PyData.eqv (f x) (f y) = decide (x = y)) : ∀ (xs ys : List α), PyData.eqvAll (xs.map f) (ys.map f) = decide (xs = ys)
  | [], [] => by simp [PyData.eqvAll]
  | [], y :: ys => by simp [PyData.eqvAll]
  | x :: xs, [] => by simp [PyData.eqvAll]
  | x :: xs, y :: ys => by
    rw [List.map_cons, List.map_cons, PyData.eqvAll, h, eqvAll_map h xs ys]
    simp only [List.cons.injEq]
    by_cases h1 : x = y <;> by_cases h2 : xs = ys <;> simp [h1, h2]
theorem eqv_dI (ns ms : List Int) : PyData.eqv (dI ns) (dI ms) = decide (ns = ms) := by
  rw [PyData.eqv]; exact eqvAll_map (fun _ _ => eqv_int) ns ms
theorem eqv_dP (u v : Int × Int) : PyData.eqv (dP u) (dP v) = decide (u = v) := by
  have := eqv_dI [u.1, u.2] [v.1, v.2]
  have e : decide (([u.1, u.2] : List Int) = [v.1, v.2]) = decide (u = v) := by
    rw [decide_eq_decide]
    constructor
    · intro h
      injection h with h1 h2
      injection h2 with h2 _
      exact Prod.ext h1 h2
    · intro h; rw [h]
  rw [← e]; exact this
theorem eqv_dW (us ws : List (Int × Int)) : PyData.eqv (dW us) (dW ws) = decide (us = ws) := by
  rw [PyData.eqv]; exact eqvAll_map eqv_dP us ws
theorem any_dP (ws : List (Int × Int)) (u : Int × Int) : ((ws.map dP).any fun z => PyData.eqv z (dP u)) = decide (u ∈ ws) := by
  rw [List.any_map]
  have : (fun z => PyData.eqv z (dP u)) ∘ dP = fun z => decide (z = u) := by
    funext z; exact eqv_dP z u
  rw [this]
  induction ws with
  | nil => simp
  | cons w ws ih =>
    rw [List.any_cons, ih]
    by_cases h : w = u
    · simp [h]
    · have h' : ¬ u = w := fun e => h e.symm
      simp [h, h']
/-! the rules with the written part told: for a comprehension's block -/
section
variable {X : Cx}
theorem k_ix_tup (K : PySem.W.Frag) (hK : X.K = K := by rfl) : IxR X (rIxT K) := by subst hK; exact ix_tup
theorem k_ix_list (K : PySem.W.Frag) (hK : X.K = K := by rfl) : IxR X (rIxL K) := by subst hK; exact ix_list
theorem k_op_in_seq (K : PySem.W.Frag) (hK : X.K = K := by rfl) : OpR X (compareOp .In) (rIn K false) := by subst hK; exact op_in_seq
theorem k_op_notIn_seq (K : PySem.W.Frag) (hK : X.K = K := by rfl) : OpR X (compareOp .NotIn) (rIn K true) := by subst hK; exact op_notIn_seq
theorem k_call_isi (K : PySem.W.Frag) (hK : X.K = K := by rfl) : CallR X (.builtin "isinstance") (rIsi K) := by subst hK; exact call_isi
theorem k_call_isiT (K : PySem.W.Frag) (hK : X.K = K := by rfl) : CallR X (.builtin "isinstance") (rIsiT K) := by subst hK; exact call_isiT
theorem k_call_tupleN (K : PySem.W.Frag) (hK : X.K = K := by rfl) : CallR X (.type "tuple") (rTupleN K) := by subst hK; exact call_tupleN
theorem k_call_listN (K : PySem.W.Frag) (hK : X.K = K := by rfl) : CallR X (.type "list") (rListN K) := by subst hK; exact call_listN
theorem k_op_inDT (K : PySem.W.Frag) (hu : X.A.units + 65 < cLine) (hK : X.K = K := by rfl) : OpR X (compareOp .In) (rInDT K) := by subst hK; exact op_inDT hu
theorem k_op_eqD (K : PySem.W.Frag) (hu : X.A.units + 64 < cLine) (hK : X.K = K := by rfl) : OpR X (compareOp .Eq) (rEqD K) := by subst hK; exact op_eqD hu
theorem k_op_neD (K : PySem.W.Frag) (hu : X.A.units + 64 < cLine) (hK : X.K = K := by rfl) : OpR X (compareOp .NotEq) (rNeD K) := by subst hK; exact op_neD hu
theorem k_cr_all (K : PySem.W.Frag) (hc : X.calm = true) (hK : X.K = K := by rfl) : CallR X (.builtin "all") (rAll K) := by subst hK; exact cr_all hc
/-- len of a list or tuple -/
def rLenK (K : PySem.W.Frag) : List V → Hp → VK → Prop := fun xs H Q => ∃ p ys, xs = [.ref p] ∧ (SqL K H p ys ∨ SqT K H p ys) ∧ Q (.int ys.length) H
theorem k_call_len_seq (K : PySem.W.Frag) (hK : X.K = K := by rfl) : CallR X (.builtin "len") (rLenK K) := by subst hK; exact call_len_seq
theorem k_fld (K : PySem.W.Frag) {e : Expr} {f : Str} {pos : Pos} {ta : TE} (he : PE X e ta) (hb : attributeBase e f X.env (eval e X.env) = eval e X.env) (hK : X.K = K := by rfl) : PE X (.Attribute e f pos) (tFld K ta f) := by subst hK; exact pe_fld he hb
theorem k_pi_list (K : PySem.W.Frag) {tg l : Expr} {tl : TE} (hl : PE X l tl) (hK : X.K = K := by rfl) : PI X tg l (iList K tl) := by subst hK; exact pi_list hl
theorem k_pi_tup (K : PySem.W.Frag) {tg l : Expr} {tl : TE} (hl : PE X l tl) (hK : X.K = K := by rfl) : PI X tg l (iTup K tl) := by subst hK; exact pi_tup hl
end
end GA
/-! ## GE -/
namespace PyProof.Rows
open PySem
section
variable {prog : Program} {w : World} {A : Around} {E : Value → Shared → Prop} {s : Shared}
theorem ga_collect_tuple {l : Addr} {vs : List Value} {Q : List Value → Shared → Prop} (hl : s.heap.IsTuple l vs.toArray)
    (h : Q vs { s with heap := (s.heap.push (seqObj "list" #[] 0)).update s.heap.objs.size (Obj.mapSeq (· ++ vs.toArray)) }) (hsz : vs.length ≤ sizeLine := by size_fits) :
    wpAny (model prog w) A (collect (.ref l)) Q E s := by
  obtain ⟨o, ho, hc, n, hd⟩ := id hl
  unfold collect
  refine wpAny_bind (wpAny_runValue (codeAny_builtin entry_proto_collect' ?_))
  show wpAny _ _ (do again (.builtin "list.__iadd__" ⟨[← newList [], .ref l], []⟩)) _ _ s
  refine wpAny_bind (wpAny_newList (wpAny_pure ⟨Code.quiet_builtin _ (by decide +kernel), codeAny_builtin entry_list_iadd' ?_⟩))
  show wpAny _ _ (Builtin.List.listExtendWith (.ref s.heap.objs.size) (.ref l) (.ref s.heap.objs.size)) _ _ { s with heap := s.heap.push (seqObj "list" #[] 0) }
  unfold Builtin.List.listExtendWith
  have ho' : (s.heap.push (seqObj "list" #[] 0)).get? l = some o := Heap.get?_push_of_some _ ho
  refine wpAny_bind (wpAny_typeOf (T := "tuple") ⟨o, ho', hc⟩ ?_)
  have ht : (Value.type "tuple" == Value.type "tuple") = true := by rfl
  rw [if_pos (by rw [ht]; simp)]
  refine wpAny_bind (listItems_at ho' hd ?_)
  refine wpAny_bind (listItems_at (xs := #[]) (n := 0) (Heap.get?_push_size _ rfl) rfl ?_)
  rw [if_neg (by simp)]
  refine wpAny_bind (listUpdate_at (xs := #[]) (n := 0) (Heap.get?_push_size _ rfl) rfl ?_ (Nat.zero_le _) (by show (#[] ++ vs.toArray).size ≤ sizeLine + 1; simp only [Array.size_append, List.size_toArray, List.length_nil]; omega))
  refine wpAny_pure ?_
  show wpAny (model prog w) A (do
      let o ← load s.heap.objs.size
      match o.data with
      | .seq xs _ => pure xs.toList
      | _ => unsupported "internal:collect") Q E { s with heap := (s.heap.push (seqObj "list" #[] 0)).update s.heap.objs.size (Obj.mapSeq (· ++ vs.toArray)) }
  refine wpAny_bind (wpAny_load (get?_update_seq (Heap.get?_push_size _ rfl) _) ?_)
  show wpAny _ _ (pure ((#[] : Array Value) ++ vs.toArray).toList) Q E _
  rw [show ((#[] : Array Value) ++ vs.toArray).toList = vs by simp]
  exact wpAny_pure h
end
end PyProof.Rows
namespace SrtO
open PySem PyProof.Rows Srt
section
variable {prog : Program} {w : World} {A : Around} {E : Value → Shared → Prop} {s : Shared}
theorem ga_sorted_ordT {l : Addr} {vs : List Value} {ltv : Value → Value → Bool} {Q : Value → Shared → Prop} (O : Swo ltv) (hl : s.heap.IsTuple l vs.toArray) (hz : vs.length ≤ sizeLine)
    (hS : 2 ≤ vs.length → ∀ (h₁ : Heap) (a : Addr), h₁.get? a = some (seqObj "list" vs.toArray 0) → (∀ b o, s.heap.get? b = some o → b ≠ a ∧ h₁.get? b = some o) → SortableO prog w A.in1.in1 { s with heap := h₁ } a vs ltv)
    (h : ∀ out : List Value, Srtd ltv out → Stb ltv out vs → Q (.ref (s.heap.objs.size + 1)) { s with heap := sortedAll s.heap vs out.toArray }) :
    wpAny (model prog w) A (call (.builtin "sorted") [.ref l]) Q E s := by
  refine Calls.call_function_entry kind_sorted plain_sorted entry_sorted (args_sorted1 _) ?_
  unfold Builtin.«sorted»
  refine wpAny_bind (m := checkCount "sorted" 1 1 _) (wpAny_pure ?_)
  refine wpAny_bind (ga_collect_tuple hl ?_ hz)
  refine wpAny_bind (wpAny_newList ?_ hz)
  have hsz : ((s.heap.push (seqObj "list" #[] 0)).update s.heap.objs.size (Obj.mapSeq (· ++ vs.toArray))).objs.size = s.heap.objs.size + 1 := by
    rw [Heap.size_update, size_push']
  have hoL : (((s.heap.push (seqObj "list" #[] 0)).update s.heap.objs.size (Obj.mapSeq (· ++ vs.toArray))).push (seqObj "list" vs.toArray 0)).get? (s.heap.objs.size + 1) = some (seqObj "list" vs.toArray 0) := by
    rw [← hsz]; exact Heap.get?_push_size _ rfl
  have keep : ∀ b o, s.heap.get? b = some o → b ≠ s.heap.objs.size + 1 ∧ (((s.heap.push (seqObj "list" #[] 0)).update s.heap.objs.size (Obj.mapSeq (· ++ vs.toArray))).push (seqObj "list" vs.toArray 0)).get? b = some o := fun b o q => by
    have hlt : b < s.heap.objs.size := Heap.lt_size q
    refine ⟨Nat.ne_of_lt (Nat.lt_succ_of_lt hlt), Heap.get?_push_of_some _ ?_⟩
    rw [Heap.get?_update_ne _ _ _ _ (Nat.ne_of_lt hlt)]
    exact Heap.get?_push_of_some _ q
  show wpAny _ _ _ _ _ { s with heap := ((s.heap.push (seqObj "list" #[] 0)).update s.heap.objs.size (Obj.mapSeq (· ++ vs.toArray))).push (seqObj "list" vs.toArray 0) }
  rw [hsz]
  refine wpAny_bind (wpAny_holding (wpAny_call_entry slot_list_sort ⟨_, hoL, rfl⟩ entry_list_sort (list_sort_ord O hoL hz (fun h2 => hS h2 _ _ hoL keep) fun out hs hb => ⟨_, rfl, ?_⟩) (args_list_sort _)))
  exact wpAny_pure ⟨_, rfl, h out hs hb⟩
end
end SrtO
namespace GA
open PySem PySem.Spec PyProof.Rows L2
/-- sorted(t), t a tuple of ints -/
def rSortedIT (K : PySem.W.Frag) : List V → Hp → VK → Prop := fun vs H Q => ∃ (a : Addr) (ns : List Int), vs = [V.ref a] ∧ SqT K H a (ns.map V.int) ∧
  ∀ (ns' : List Int), ns'.Perm ns → ns'.Pairwise (· ≤ ·) → New H (.lst (ns'.map V.int)) fun p H2 => Q (.ref p) H2
theorem cr_sortedIT {X : Cx} : CallR X (.builtin "sorted") (rSortedIT X.K) := by
  intro pins s σ H vs us Q I r h
  obtain ⟨a, ns, rfl, hs, q⟩ := h
  obtain ⟨its, rv, hl, hz⟩ := I.tuple hs
  rw [Vals.ref1 r]
  have hi := rv.ints
  refine SrtO.ga_sorted_ordT SrtO.swo_int hl (by rw [← rv.length]; exact hz) (fun h2 h₁ a' _ _ => SrtO.ints_sortable hi h2) fun out h1 h2 => ?_
  obtain ⟨k1, k2, k3⟩ := SrtO.ints_out hi h1 h2
  obtain ⟨ep, he'⟩ := PyProof.Rows.sortedAll_at s.heap its out.toArray
  have hlen : ((out.map SrtO.iv).map V.int).length ≤ sizeLine := by
    rw [List.length_map, k2.length_eq]
    rw [List.length_map] at hz
    exact hz
  exact ⟨.ref _, upd H (s.heap.objs.size + 1) (.lst ((out.map SrtO.iv).map V.int)), I.laid (t' := s.toks) (fun _ _ => PyProof.Rows.sortedAll_old) (Nat.le_succ _) ⟨hlen, out, ep, vals_of_ints k1, he'⟩, rfl, (q _ k2 k3).go (I.hok.fresh (Nat.le_succ _))⟩
def rSortedIL (K : PySem.W.Frag) : List V → Hp → VK → Prop := fun vs H Q => ∃ (a : Addr) (ns : List Int), vs = [V.ref a] ∧ SqL K H a (ns.map V.int) ∧
  ∀ (ns' : List Int), ns'.Perm ns → ns'.Pairwise (· ≤ ·) → New H (.lst (ns'.map V.int)) fun p H2 => Q (.ref p) H2
theorem cr_sortedIL {X : Cx} : CallR X (.builtin "sorted") (rSortedIL X.K) := CallR.weak cr_sortedI fun xs H Q h => by
  obtain ⟨a, ns, e, h1, q⟩ := h
  exact ⟨a, ns, e, h1, fun ns' p k1 k2 hp => (q ns' k1 k2).go hp⟩
/-- sorted(d), d a dict with int keys -/
def rSortedDN : List V → Hp → VK → Prop := fun xs H Q => ∃ (a : Addr) (kvs : List (Key × V)) (ks : List Int), xs = [.ref a] ∧ H a = some (.dK kvs) ∧ kvs.map (·.1) = ks.map Sum.inl ∧ ks.length < 64 ∧
  ∀ (ns' : List Int), ns'.Perm ks → ns'.Pairwise (· ≤ ·) → New H (.lst (ns'.map V.int)) fun p H2 => Q (.ref p) H2
theorem cr_sortedDN {X : Cx} (hc : X.calm = true) : CallR X (.builtin "sorted") rSortedDN := CallR.weak (call_sortedDI hc) fun xs H Q h => by
  obtain ⟨a, kvs, ks, e, h1, h2, h3, q⟩ := h
  exact ⟨a, kvs, ks, e, .inl h1, h2, h3, fun ys p k1 k2 hp => (q ys k1 k2).go hp⟩
/-- list(range(..)) -/
def tLstRgN (te : L2.St → Hp → (Int → Int → Hp → Prop) → Prop) : TE := fun σ H Q => te σ H fun a b H1 => RgOk a b ∧ New H1 (.lst (rgV a b)) fun q H2 => Q (.ref q) H2
/-- a range's ends, told: whatever is wanted is wanted of less -/
def MoR (te : L2.St → Hp → (Int → Int → Hp → Prop) → Prop) : Prop := ∀ σ H F F', (∀ a b H1, F a b H1 → F' a b H1) → te σ H F → te σ H F'
theorem pe_listRgN {X : Cx} {e : Expr} {te : L2.St → Hp → (Int → Int → Hp → Prop) → Prop} {p pos : Pos} (hc : X.calm = true) (hg : Gl X "list") (hm : X.mg "list" = none) (he : PRg X e te) (mo : MoR te) (na : starEach [e] X.env = (false, eval e X.env) :: starEach [] X.env := by rfl) : PE X (.Call (.Name "list" p) [e] [] pos) (tLstRgN te) :=
  PE.weak (pe_listRg hc hg hm he na) fun σ H Q q => mo σ H _ _ (fun a b H1 h => ⟨h.1, fun q hq => h.2.go hq⟩) q
def MoE (te : TE) : Prop := ∀ σ H Q Q', (∀ v H1, Q v H1 → Q' v H1) → te σ H Q → te σ H Q'
theorem mo_var {i : Nat} : MoE (tVar i) := fun _ _ _ _ h ⟨v, e, q⟩ => ⟨v, e, h _ _ q⟩
theorem mo_rg1 {te : TE} (h : MoE te) : MoR (tRg1 te) := fun σ H F F' k q => h σ H _ _ (fun v H1 ⟨n, e, z⟩ => ⟨n, e, k _ _ _ z⟩) q
theorem mo_op {te tb : TE} {r : R2} (h : MoE te) (hb : MoE tb) (hr : ∀ x y H Q Q', (∀ v H1, Q v H1 → Q' v H1) → r x y H Q → r x y H Q') : MoE (tOp r te tb) := fun σ H Q Q' k q => h σ H _ _ (fun v H1 z => hb σ H1 _ _ (fun u H2 z => hr _ _ _ _ _ k z) z) q
theorem mo_fld {K : PySem.W.Frag} {te : TE} {f : Str} (h : MoE te) : MoE (tFld K te f) := fun σ H Q Q' k q => h σ H _ _ (fun v H1 ⟨a, C, dx, fs, v', e1, e2, e3, e4, e5, z⟩ => ⟨a, C, dx, fs, v', e1, e2, e3, e4, e5, k _ _ z⟩) q
section
variable {K : PySem.W.Frag} {σ : L2.St} {H : Hp} {Q : VK}
theorem w_lstRg {te : L2.St → Hp → (Int → Int → Hp → Prop) → Prop} (q : te σ H fun a b H1 => RgOk a b ∧ New H1 (.lst (rgV a b)) fun q H2 => Q (.ref q) H2) : tLstRgN te σ H Q := q
theorem w_rg1 {te : TE} {F : Int → Int → Hp → Prop} (q : te σ H fun x H1 => ∃ n, x = .int n ∧ F 0 n H1) : tRg1 te σ H F := q
end
end GA
/-! ## GF -/
namespace GA
open PySem PySem.Spec PyProof.Rows L2
def ltW (u v : Int × Int) : Prop := u.1 < v.1 ∨ (u.1 = v.1 ∧ u.2 < v.2)
def in64 (u : Int × Int) : Prop := (0 ≤ u.1 ∧ u.1 < 64) ∧ (0 ≤ u.2 ∧ u.2 < 64)
section
variable {K : PySem.W.Frag} {H : Hp}
theorem ks_of : ∀ {xs : List V} {us : List (Int × Int)}, DpAll K H xs (us.map dP) → ∃ ks : List (Addr × List Int), xs = (ks.map fun p => V.ref p.1) ∧ (∀ p ∈ ks, SqT K H p.1 (p.2.map V.int)) ∧ ks.map (·.2) = us.map fun u => [u.1, u.2]
  | _, [], .nil => ⟨[], rfl, (fun _ h => nomatch h), rfl⟩
  | _, u :: us, .cons h t => by
    obtain ⟨ks, rfl, h1, h2⟩ := ks_of t
    obtain ⟨a, rfl, ha⟩ := dp_dP h
    refine ⟨(a, [u.1, u.2]) :: ks, rfl, fun p hp => ?_, by rw [List.map_cons, h2]; rfl⟩
    rcases List.mem_cons.mp hp with e | hp
    · rw [e]; exact ha
    · exact h1 p hp
end
theorem dp_ks {K : PySem.W.Frag} {H : Hp} : ∀ (M : List (Addr × List Int)) (ws : List (Int × Int)), (∀ q ∈ M, SqT K H q.1 (q.2.map V.int)) → M.map (·.2) = (ws.map fun u => [u.1, u.2]) → DpAll K H (M.map fun q => V.ref q.1) (ws.map dP)
  | [], [], _, _ => .nil
  | [], _ :: _, _, e => by simp at e
  | _ :: _, [], _, e => by simp at e
  | q :: M, w :: ws, h, e => by
    rw [List.map_cons, List.map_cons] at e
    injection e with e1 e2
    refine .cons ?_ (dp_ks M ws (fun p hp => h p (List.mem_cons_of_mem _ hp)) e2)
    have z := h q List.mem_cons_self
    rw [e1] at z
    exact dp_ofP z
section
variable {X : Cx}
/-- set(l), l a list of pairs of ints -/
def rSetPN (K : PySem.W.Frag) (P : Program) (w : World) : List V → Hp → VK → Prop := fun vs H Q => ∃ (l : Addr) (xs : List V) (us : List (Int × Int)), vs = [V.ref l] ∧ SqL K H l xs ∧ DpAll K H xs (us.map dP) ∧ us.length < 64 ∧
  ∀ a L H2, H a = none → (∀ o, G o H H2) → H2 a = some (SetTO P w a L) → (∀ p ∈ L, SqT K H2 p.1 (p.2.map V.int)) → (∀ ns, ns ∈ L.map (·.2) ↔ ∃ u ∈ us, ns = [u.1, u.2]) → Q (.ref a) H2
theorem cr_setPN (hc : X.calm = true) (hu : X.A.units + 64 < cLine) : CallR X (.type "set") (rSetPN X.K X.prog X.w) := CallR.weak (cr_setOfT hc hu) fun vs H Q h => by
  obtain ⟨l, xs, us, e, hl, hd, hz, q⟩ := h
  obtain ⟨ks, rfl, h1, h2⟩ := ks_of hd
  have hz' : ks.length = us.length := by
    have := congrArg List.length h2
    simpa using this
  refine ⟨l, ks, e, hl, h1, by omega, fun a L ha s1 s2 => ?_⟩
  refine q a L _ ha (fun _ => G.alloc ha) upd_same (fun p hp => sqT_t ((G.alloc (o := none) ha).tups) (h1 p (s1 p hp))) fun ns => ?_
  have mem : ∀ ns, ns ∈ ks.map (·.2) ↔ ∃ u ∈ us, ns = [u.1, u.2] := fun ns => by
    rw [h2, List.mem_map]
    exact ⟨fun ⟨u, a, b⟩ => ⟨u, a, b.symm⟩, fun ⟨u, a, b⟩ => ⟨u, a, b.symm⟩⟩
  rw [← mem]
  constructor
  · intro h
    obtain ⟨p, hp, rfl⟩ := List.mem_map.mp h
    exact List.mem_map.mpr ⟨p, s1 p hp, rfl⟩
  · intro h
    obtain ⟨p, hp, rfl⟩ := List.mem_map.mp h
    exact s2 p hp
theorem code_lt {u v : Int × Int} (hu : in64 u) (hv : in64 v) (h : TS.code 64 [u.1, u.2] ≤ TS.code 64 [v.1, v.2]) : ltW u v ∨ u = v := by
  unfold in64 at hu hv
  rw [code_pair, code_pair] at h
  unfold ltW
  by_cases e : u.1 = v.1
  · by_cases e2 : u.2 = v.2
    · exact .inr (Prod.ext e e2)
    · exact .inl (.inr ⟨e, by omega⟩)
  · exact .inl (.inl (by omega))
/-- sorted(s), s a set of pairs of small ints -/
def rSortSN (K : PySem.W.Frag) (P : Program) (w : World) : List V → Hp → VK → Prop := fun vs H Q => ∃ (a : Addr) (L : List (Addr × List Int)) (us : List (Int × Int)), vs = [V.ref a] ∧ H a = some (SetTO P w a L) ∧ (∀ p ∈ L, SqT K H p.1 (p.2.map V.int)) ∧ (∀ ns, ns ∈ L.map (·.2) ↔ ∃ u ∈ us, ns = [u.1, u.2]) ∧ (∀ u ∈ us, in64 u) ∧
  ∀ ws : List (Int × Int), ws.Pairwise ltW → (∀ u, u ∈ ws ↔ u ∈ us) → ws.length < 64 → ∀ p H2 ys, H p = none → (∀ o, G o H H2) → H2 p = some (.lst ys) → DpAll K H2 ys (ws.map dP) → Q (.ref p) H2
theorem cr_sortSN (hc : X.calm = true) : CallR X (.builtin "sorted") (rSortSN X.K X.prog X.w) := CallR.weak (cr_sortedT hc) fun vs H Q h => by
  obtain ⟨a, L, us, e, ha, hk, hm, hb, q⟩ := h
  have get : ∀ p ∈ L, ∃ u ∈ us, p.2 = [u.1, u.2] := fun p hp => (hm p.2).mp (List.mem_map.mpr ⟨p, hp, rfl⟩)
  refine ⟨a, L, 2, 64, e, ha, hk, by decide, fun p hp => ?_, fun L' p pm nd few pw hp => ?_⟩
  · obtain ⟨u, hu, e⟩ := get p hp
    have b := hb u hu
    unfold in64 at b
    rw [e]
    refine ⟨rfl, ?_⟩
    intro n hn
    rcases List.mem_cons.mp hn with e | hn
    · subst e; exact ⟨b.1.1, b.1.2⟩
    · have : n = u.2 := by simpa using hn
      subst this; exact ⟨b.2.1, b.2.2⟩
  · have get' : ∀ p ∈ L', ∃ u ∈ us, p.2 = [u.1, u.2] := fun p hp => get p (pm.mem_iff.mp hp)
    -- the pairs in their order
    have ws_of : ∀ M : List (Addr × List Int), (∀ p ∈ M, p ∈ L') → ∃ ws : List (Int × Int), M.map (·.2) = (ws.map fun u => [u.1, u.2]) ∧ (∀ u ∈ ws, u ∈ us) := by
      intro M
      induction M with
      | nil => exact fun _ => ⟨[], rfl, (fun _ h => nomatch h)⟩
      | cons p M ih =>
        intro hM
        obtain ⟨ws, h1, h2⟩ := ih fun p hp => hM p (List.mem_cons_of_mem _ hp)
        obtain ⟨u, hu, e⟩ := get' p (hM p List.mem_cons_self)
        refine ⟨u :: ws, by rw [List.map_cons, List.map_cons, h1, e], fun v hv => ?_⟩
        rcases List.mem_cons.mp hv with z | z
        · rw [z]; exact hu
        · exact h2 v z
    obtain ⟨ws, e1, e2⟩ := ws_of L' fun _ h => h
    have len : L'.length = ws.length := by
      have := congrArg List.length e1
      simpa using this
    have inj : ∀ u v : Int × Int, ([u.1, u.2] : List Int) = [v.1, v.2] → u = v := fun u v h => by
      injection h with h1 h2
      injection h2 with h2 _
      exact Prod.ext h1 h2
    have pw2 : (L'.map (·.2)).Pairwise (fun x y => TS.code 64 x ≤ TS.code 64 y) := List.pairwise_map.mpr pw
    rw [e1] at pw2 nd
    have asc : ws.Pairwise ltW := by
      rw [List.pairwise_map] at pw2
      have nd' : ws.Nodup := (List.pairwise_map.mp nd).imp fun h e => h (by rw [e])
      exact (List.pairwise_iff_getElem.mpr fun i j hi hj hij => by
        have h1 := List.pairwise_iff_getElem.mp pw2 i j hi hj hij
        have h2 := List.pairwise_iff_getElem.mp nd' i j hi hj hij
        rcases code_lt (hb _ (e2 _ (List.getElem_mem hi))) (hb _ (e2 _ (List.getElem_mem hj))) h1 with z | z
        · exact z
        · exact absurd z h2)
    refine q ws asc (fun u => ⟨e2 u, fun hu => ?_⟩) (by omega) p _ _ hp (fun _ => G.alloc hp) upd_same ?_
    · have h1 : ([u.1, u.2] : List Int) ∈ L.map (·.2) := (hm _).mpr ⟨u, hu, rfl⟩
      have h2 : ([u.1, u.2] : List Int) ∈ L'.map (·.2) := (pm.map (·.2)).mem_iff.mpr h1
      rw [e1, List.mem_map] at h2
      obtain ⟨v, hv, e⟩ := h2
      rw [← inj _ _ e]; exact hv
    · have t : Ts H (upd H p (.lst (L'.map fun q => V.ref q.1))) := (G.alloc (o := none) hp).tups
      have hk' : ∀ q ∈ L', SqT X.K _ q.1 (q.2.map V.int) := fun q hq => sqT_t t (hk q (pm.mem_iff.mp hq))
      exact dp_ks L' ws hk' e1
/-- sorted(l), l a list of pairs of small ints -/
def rSortPN (K : PySem.W.Frag) : List V → Hp → VK → Prop := fun vs H Q => ∃ (a : Addr) (xs : List V) (us : List (Int × Int)), vs = [V.ref a] ∧ SqL K H a xs ∧ DpAll K H xs (us.map dP) ∧ us.length < 64 ∧ (∀ u ∈ us, in64 u) ∧
  ∀ us' : List (Int × Int), us'.Perm us → us'.Pairwise (fun u v => ltW u v ∨ u = v) → ∀ p H2 ys, H p = none → (∀ o, G o H H2) → H2 p = some (.lst ys) → DpAll K H2 ys (us'.map dP) → Q (.ref p) H2
theorem cr_sortPN : CallR X (.builtin "sorted") (rSortPN X.K) := by
  classical
  intro pins s σ H vs us0 Q I r h
  obtain ⟨a, xs, us, rfl, hs, hd, hz, hb, q⟩ := h
  have uniq : ∀ {v : V} {u u' : Int × Int}, Dp X.K H v (dP u) → Dp X.K H v (dP u') → u = u' := fun {v u u'} h h' => by
    obtain ⟨a, rfl, ha⟩ := dp_dP h
    obtain ⟨a', e, ha'⟩ := dp_dP h'
    cases e
    have z := I.tuple_inj ha ha'
    injection z with z1 z2
    injection z2 with z2 _
    exact Prod.ext (V.int.inj z1) (V.int.inj z2)
  let f : V → Int × Int := fun v => if h : ∃ u, Dp X.K H v (dP u) then h.choose else (0, 0)
  have fv : ∀ {v : V} {u : Int × Int}, Dp X.K H v (dP u) → f v = u := fun {v u} h => by
    have hx : ∃ u, Dp X.K H v (dP u) := ⟨u, h⟩
    have : f v = hx.choose := dif_pos hx
    rw [this]
    exact uniq hx.choose_spec h
  have all : ∀ {ys : List V} {ws : List (Int × Int)}, DpAll X.K H ys (ws.map dP) → ws = ys.map f := by
    intro ys ws h
    induction ws generalizing ys with
    | nil => cases h; rfl
    | cons w ws ih =>
      cases h with
      | cons h t => rw [List.map_cons, fv h, ← ih t]
  have e0 := all hd
  have at_ : ∀ y ∈ xs, ∃ u ∈ us, Dp X.K H y (dP u) := fun y hy => by
    obtain ⟨i, hi⟩ := List.getElem?_of_mem hy
    obtain ⟨d, hd1, hd2⟩ := DpAll.get hd hi
    rw [List.getElem?_map] at hd1
    obtain ⟨u, hu, rfl⟩ := Option.map_eq_some_iff.mp hd1
    exact ⟨u, List.mem_of_getElem? hu, hd2⟩
  refine cr_sortT (d := 2) (B := 64) (by decide) pins s σ H _ us0 Q I r ⟨a, xs, rfl, hs, by rw [DpAll.length hd, List.length_map]; exact hz, fun x hx => ?_, fun ys p pm pw hp => ?_⟩
  · obtain ⟨u, hu, hx⟩ := at_ x hx
    obtain ⟨t, rfl, ht⟩ := dp_dP hx
    have b := hb u hu
    unfold in64 at b
    refine ⟨[u.1, u.2], ⟨t, rfl, ht⟩, rfl, ?_⟩
    intro n hn
    rcases List.mem_cons.mp hn with e | hn
    · subst e; exact ⟨b.1.1, b.1.2⟩
    · have : n = u.2 := by simpa using hn
      subst this; exact ⟨b.2.1, b.2.2⟩
  · have aty : ∀ y ∈ ys, ∃ u ∈ us, Dp X.K H y (dP u) := fun y hy => at_ y (pm.mem_iff.mp hy)
    have t : Ts H (upd H p (.lst ys)) := (G.alloc (o := none) hp).tups
    refine q (ys.map f) (by rw [e0]; exact pm.map f) ?_ p _ ys hp (fun _ => G.alloc hp) upd_same ?_
    · rw [List.pairwise_map]
      refine pw.imp_of_mem fun {y z} hy hz2 h => ?_
      obtain ⟨u, hu, h1⟩ := aty y hy
      obtain ⟨v, hv, h2⟩ := aty z hz2
      rw [fv h1, fv h2]
      obtain ⟨t1, rfl, k1⟩ := dp_dP h1
      obtain ⟨t2, rfl, k2⟩ := dp_dP h2
      exact code_lt (hb u hu) (hb v hv) (h _ _ ⟨t1, rfl, k1⟩ ⟨t2, rfl, k2⟩)
    · refine dpAll_t t _ _ (nls_pairs _) ?_
      clear pm pw hp t
      induction ys with
      | nil => exact .nil
      | cons y ys ih =>
        obtain ⟨u, hu, h1⟩ := aty y List.mem_cons_self
        refine .cons ?_ (ih fun y hy => aty y (List.mem_cons_of_mem _ hy))
        rw [fv h1]; exact h1
/-- t + u, tuples -/
def rCatN (K : PySem.W.Frag) : R2 := fun x y H Q => ∃ a b xs ys, x = .ref a ∧ y = .ref b ∧ SqT K H a xs ∧ SqT K H b ys ∧ xs.length + ys.length ≤ 100000 ∧ ∀ p H2, (∀ o, G o H H2) → SqT K H2 p (xs ++ ys) → Q (.ref p) H2
theorem op_catN : OpR X (binaryOp .Add) (rCatN X.K) := OpR.weak op_catA fun x y H Q h => by
  obtain ⟨a, b, xs, ys, e1, e2, h1, h2, hz, q⟩ := h
  refine ⟨a, b, xs, ys, e1, e2, h1, h2, sz hz, fun e => ?_, fun _ e => ?_, fun _ _ p hp => ?_⟩
  · subst e; exact q b H (fun _ => G.refl) h2
  · subst e; exact q a H (fun _ => G.refl) (by rw [List.append_nil]; exact h1)
  · exact q p _ (fun _ => G.alloc hp) (SqT.of upd_same)
end
end GA
/-! ## GG -/
namespace PySem.W
open PySem PySem.Spec PySem.Calls PyProof.Rows
open Builtin
section
variable {prog : Program} {w : World} {A : Around} {E : Value → Shared → Prop} {K : Frag} {x C L f : Addr} {h₀ hh : Heap} {g : Array GenState} {d : Drawn} {t : Nat} {os : OsState} {m : Str → Option Value} {ox : Obj} {od : Option Obj} {b tb : Value}
theorem ga_ifBound_ne {M : Model} {args : List Value} {Q : Option Value → Shared → Prop} (X : K.In hh) (I : InstAt hh x ox C od) (hs : findIn K (.ref C) "__ne__" = some (some (.builtin "object.__ne__")))
    (h : wpAny M A (call (.builtin "object.__ne__") (.ref x :: args)) (fun v => Q (some v)) E ⟨hh, g, d, t, os⟩) : wpAny M A (callSpecialIfBound? (.ref x) "__ne__" args) Q E ⟨hh, g, d, t, os⟩ := by
  simp only [callSpecialIfBound?, bindSpecialIfBound?]
  refine wpAny_holding (wpAny_bind (wpAny_bind (wpAny_bind (I.type.here ((looks_findIn X hs).here ?_)))))
  simp only [F.cmp_object.ne.bind]
  refine wpAny_bind (wpAny_askSetting (wpAny_ite ?_))
  have fin : wpAny M A (call (.builtin "object.__ne__") ([.ref x] ++ args) >>= fun v => pure (some v)) Q E ⟨hh, g, d, t, os⟩ :=
    wpAny_bind (wpAny_mono h (fun v s' h' => wpAny_pure h') fun _ _ h' => h')
  split
  · first
      | exact wpAny_bind (wpAny_pure (wpAny_pure fin))
      | exact wpAny_pure (wpAny_pure fin)
      | exact wpAny_pure fin
      | exact wpAny_bind (wpAny_pure fin)
  · first
      | exact wpAny_tryCatch (wpAny_bind (wpAny_pure (wpAny_pure fin)))
      | exact wpAny_tryCatch (wpAny_pure (wpAny_pure fin))
      | exact wpAny_tryCatch (wpAny_pure fin)
      | exact wpAny_tryCatch (wpAny_bind (wpAny_pure fin))
theorem ga_check_ne {M : Model} {rest : List Value} {Q : Unit → Shared → Prop} (X : K.In hh) (I : InstAt hh x ox C od) (hm : mroIn K C (.type "object") = some true) (ha : argsOk "object.__ne__" ⟨.ref x :: rest, []⟩) (hq : Q () ⟨hh, g, d, t, os⟩) :
    wpAny M A (checkBuiltinCall "object.__ne__" ⟨.ref x :: rest, []⟩) Q E ⟨hh, g, d, t, os⟩ := by
  simp only [checkBuiltinCall, F.cmpKind_ne, F.cmpSplit_ne]
  refine wpAny_bind ?_
  unfold isInstance
  refine wpAny_bind (I.type.here ((looks_mroIn X hm).here ?_))
  simp only [Bool.not_true, Bool.false_eq_true, if_false]
  cases hsig : Manifest.signature? "object.__ne__" with
  | none => exact wpAny_pure hq
  | some sig =>
    simp only [argsOk, hsig] at ha
    have h2 : Bind.checkArgs "object.__ne__" sig ⟨.ref x :: rest, []⟩ = pure () := ha
    show wpAny M A (Bind.checkArgs "object.__ne__" sig ⟨.ref x :: rest, []⟩) Q E _
    rw [h2]; exact wpAny_pure hq
theorem ga_ne_body (X : K.In hh) (I : InstAt hh x ox C od) (hs : findIn K (.ref C) "__eq__" = some (some (.ref f))) (hf : isFn K (.ref f) = true) (hu : A.units < cLine) {Q : Fin → Shared → Prop}
    (h : wpAny (model prog w) A (call (.ref f) [.ref x, b]) (fun v s' => ∃ r, v = .bool r ∧ Q (.done (.ret (.bool (!r)))) s') E ⟨hh, g, d, t, os⟩) :
    wpAny (model prog w) A (Builtin.«object.__ne__» ⟨[.ref x, b], []⟩) Q E ⟨hh, g, d, t, os⟩ := by
  unfold Builtin.«object.__ne__»
  repeat (first
    | with_reducible refine wpAny_cRoomFor hu ?_
    | (refine wpAny_bind (m := callSpecialIfBound? (.ref x) (Str.ofString "__eq__") [b])
        (ifBound_K X I hs hf (wpAny_mono h (fun r s' hr => by
          obtain ⟨q, rfl, hq⟩ := hr
          repeat (first | exact hq | exact wpAny_pure hq | exact wpAny_truthy_bool hq | (refine wpAny_bind (m := truthy (.bool _)) (wpAny_truthy_bool ?_)) | wp_step)) fun _ _ e => e)))
    | wp_step)
theorem ga_ne_K {Q : Value → Shared → Prop} (hu : A.units + 1 < cLine) (F : Fr h₀ L hh m) (X₀ : K.In h₀) (I : InstAt hh x ox C od) (hb : Looks (model prog w) hh (typeOf b) tb) (hn : notFirst K C tb = true)
    (hs : findIn K (.ref C) "__eq__" = some (some (.ref f))) (hf : isFn K (.ref f) = true) (hne : findIn K (.ref C) "__ne__" = some (some (.builtin "object.__ne__"))) (hm : mroIn K C (.type "object") = some true)
    (h : wpAny (model prog w) A.in1 (call (.ref f) [.ref x, b]) (fun v s' => ∃ r, v = .bool r ∧ Q (.bool (!r)) s') E ⟨hh, g, d, t, os⟩) : wpAny (model prog w) A (richCompare .NotEq (.ref x) b) Q E ⟨hh, g, d, t, os⟩ := by
  have X := X₀.keeps F.keep
  have one : wpAny (model prog w) A (tryCompare (.ref x) (cmpInfo .NotEq).2.1 b) (fun r s' => ∃ v, r = some v ∧ Q v s') E ⟨hh, g, d, t, os⟩ := by
    rw [cmpInfo_NotEq]
    unfold tryCompare
    refine wpAny_bind (ga_ifBound_ne X I hne (wpAny_call (codeAny_call_builtin PySem.F.cmp_object.ne.plain PySem.F.cmpEntry_ne
      (ga_check_ne X I hm (PySem.F.cmpArgs_ne _ _) (ga_ne_body (A := A.in1) X I hs hf hu (wpAny_mono h (fun v s' hv => ?_) fun _ _ e => e))))))
    obtain ⟨r, rfl, hq⟩ := hv
    first | exact ⟨r, rfl, wpAny_pure ⟨_, rfl, hq⟩⟩ | exact ⟨r, rfl, wpAny_pure (wpAny_pure ⟨_, rfl, hq⟩)⟩
  unfold richCompare
  simp only [oneThing_ref]
  refine wpAny_holding (wpAny_bind (wpAny_cRoomFor (Nat.lt_of_succ_lt hu) ?_))
  refine wpAny_bind (I.type.here (wpAny_bind (hb.here ?_)))
  split
  · rename_i q
    have e : subIn K tb (.ref C) = some false := by
      rcases Bool.or_eq_true_iff.mp hn with e | e
      · rw [beq_iff_eq.mp e] at q; simp at q
      · exact beq_iff_eq.mp e
    refine wpAny_bind ((looks_subIn X e).here ?_)
    simp only [Bool.false_eq_true, if_false]
    refine wpAny_bind (wpAny_mono one (fun r s' z => ?_) fun _ _ e => e)
    obtain ⟨v, rfl, hq⟩ := z
    exact wpAny_pure hq
  · refine wpAny_bind (wpAny_pure ?_)
    simp only [Bool.false_eq_true, if_false]
    refine wpAny_bind (wpAny_mono one (fun r s' z => ?_) fun _ _ e => e)
    obtain ⟨v, rfl, hq⟩ := z
    exact wpAny_pure hq
end
end PySem.W
namespace GA
open PySem PySem.Spec PyProof.Rows L2
section
variable {X : Cx} {n : Nat}
/-- x != y of two instances whose own == says True -/
def rNeG (D : Eqv) : R2 := fun x y H Q => D x y H ∧ ∀ H', Ext H H' → Q (.bl false) H'
theorem op_neG {CX : CXT} {C f : Addr} {fd : FuncData} {ps : List Str} {R : Addr → Addr → Hp → Prop} {E : XK} (F : FnOk X.prog X.w X.K X.mg X.base CX n f fd ps (spEq R))
    (hs : PySem.W.findIn X.K (.ref C) "__eq__" = some (some (.ref f))) (hf : PySem.W.isFn X.K (.ref f) = true) (hb : Binds X.K fd ps []) (hx : Passes CX X E)
    (hne : PySem.W.findIn X.K (.ref C) "__ne__" = some (some (.builtin "object.__ne__"))) (hm : PySem.W.mroIn X.K C (.type "object") = some true) (rm : Room (n + 1) X.A) : OpR X (compareOp .NotEq) (rNeG (DIns C R)) := by
  intro pins s σ H x y u v Q I rx ry hq
  obtain ⟨⟨a, b, dx, dy, fs, gs, rfl, rfl, ha, hb', hr⟩, q⟩ := hq
  cases rx
  cases ry
  obtain ⟨mA, J, _⟩ := ins_get I.hok ha
  obtain ⟨mB, J', _⟩ := ins_get I.hok hb'
  obtain ⟨od, J, _⟩ := J.look
  obtain ⟨od', J', _⟩ := J'.look
  obtain ⟨m, hF⟩ := I.fr
  have rm1 : Room n X.A.in1 := rm.in1
  show wpAny (model X.prog X.w) X.A (richCompare .NotEq (.ref a) (.ref b)) (EP X pins σ Q) X.xe s
  refine PySem.W.ga_ne_K (tb := .ref C) rm1.units0 hF I.ok.mod.kin J J'.type (by simp [PySem.W.notFirst]) hs hf hne hm ?_
  have hsp : spEq R [.ref a, .ref b] H (fun v H' => v = .bl true ∧ Ext H H') E := ⟨a, b, rfl, hr, fun H' e => ⟨rfl, e⟩⟩
  have e0 : Env0 X.prog X.w X.K X.mg X.base X.A.in1 X.stack s H := ⟨I.env0.frames, I.env0.mod, I.env0.bs, I.env0.bsz, I.env0.funs, I.env0.frf, I.env0.hok, I.env0.bare⟩
  have hl := F.len _ _ _ _ hsp
  have r2 : Vals [V.ref a, V.ref b] [Value.ref a, Value.ref b] := .cons rfl (.cons rfl .nil)
  refine wpAny_call (codeAny_mono (F.run X.A.in1 X.stack s H ⟨[.ref a, .ref b], []⟩ [.ref a, .ref b] [.ref a, .ref b] _ E rm1 e0 (by
    have := hb s [.ref a, .ref b] I.kIn (by simpa using hl)
    simpa using this) r2 hsp) fun r s' hq => ?_)
  cases r with
  | error e => exact hx pins σ H s e s' I hq
  | ok fl =>
    cases fl with
    | ret w =>
      obtain ⟨z, H', I', rz, ez, ex⟩ := I.after hq
      subst ez
      cases rz
      exact ⟨true, rfl, .bl false, H', I', rfl, q H' ex⟩
    | next => exact False.elim hq
    | brk => exact False.elim hq
    | cont => exact False.elim hq
end
end GA
/-! ## GH -/
namespace L2
open PySem PySem.Spec PyProof.Rows
/-- the set as it is laid, and the heap with it -/
abbrev eset (w : World) : Obj := { cls := .type "set", dict := none, data := .set #[] 0 (.fresh 0 0 (!w.params.followText "set-order")) }
abbrev eheap (w : World) (h : Heap) : Heap := h.push (eset w)
section
variable {P : Program} {w : World} {A : Around} {E : Value → Shared → Prop} {s : Shared}
theorem gone_above {h : Heap} {b : Addr} (hb : h.objs.size ≤ b) : h.get? b = none := by
  cases q : h.get? b with
  | none => rfl
  | some o => exact absurd (Heap.lt_size q) (Nat.not_lt.mpr hb)
/-- set(t), t a tuple whose items are tuples of ints -/
theorem ga_set_of_tuple {l : Addr} {its : Array Value} (ks : List (Addr × List Int)) {Q : Value → Shared → Prop} (quiet : A.handled = none) (hl : s.heap.IsTuple l its) (hit : its.toList = ks.map fun p => Value.ref p.1)
    (hk : ∀ p ∈ ks, IsT P w s.heap p.2 p.1) (few : ks.length < 64) (un : A.units + 3 < cLine)
    (q : ∀ (h' : Heap) (tk : Nat) L es ep t, SetTR P w h' s.heap.objs.size L es ep t → Got ks ks.length L → (∀ b o, s.heap.get? b = some o → h'.get? b = some o) → Q (.ref s.heap.objs.size) { s with heap := h', toks := tk }) :
    wpAny (model P w) A (call (.type "set") [.ref l]) Q E s := by
  have isz : its.size = ks.length := by simpa using congrArg List.length hit
  have C := F.called_set
  obtain ⟨c, tl, m1⟩ := C.mro
  have m2 := C.made
  have m3 := C.sub
  have m4 := C.notType
  have m5 := C.canCreate
  have m6 := F.typeCall_set_1 (.ref l)
  refine wpAny_call (codeAny_of_tree (?_ : wpAny _ _ (callAny (.type "set") _) _ _ _))
  refine wpAny_pure ⟨Code.quiet_builtin _ (by decide +kernel), codeAny_builtin F.entry_type_call ?_⟩
  rw [Around.under_plain (weight_type_call_type "set" [.ref l] []) rfl]
  repeat (any_goals (first | assumption | wp_step))
  refine codeAny_mono (code_set_led1 (.ref l) (E := E) (Q₁ := fun ob s1 => ob = .ref s.heap.objs.size ∧ s1 = { s with heap := eheap w s.heap }) ⟨rfl, rfl⟩) fun r s1 hr => ?_
  match r, hr with
  | .error e, hr => exact hr
  | .ok .next, hr => exact hr.elim
  | .ok .brk, hr => exact hr.elim
  | .ok .cont, hr => exact hr.elim
  | .ok (.ret ob), hr =>
    obtain ⟨e1, e2⟩ := hr
    subst e1 e2
    have at0 : (eheap w s.heap).get? s.heap.objs.size = some (eset w) := Heap.get?_push_size _ rfl
    have ty0 : Shared.TypeIs { s with heap := eheap w s.heap } (.ref s.heap.objs.size) "set" := ⟨_, at0, rfl⟩
    have m7 := C.init.lookup
    have m8 := C.init.bind (.ref s.heap.objs.size)
    repeat (any_goals (first | assumption | wp_step))
    refine codeAny_mono (codeAny_call_builtin (R := wants (fun r s2 => r = .none ∧ ∃ h' tk L es ep t, s2 = { s with heap := h', toks := tk } ∧ SetTR P w h' s.heap.objs.size L es ep t ∧ Got ks ks.length L ∧
      (∀ b o, s.heap.get? b = some o → h'.get? b = some o)) E) C.init.plain F.entry_set_init (check_set_init_1 ty0 ?_)) fun r2 s2 hr2 => ?_
    · have hl1 : (eheap w s.heap).IsTuple l its := hl.push _
      obtain ⟨⟨oc, od, odt, osl⟩, ho, e1, nl, e2⟩ := id hl1
      simp only at e1 e2
      subst e1 e2
      have lS : l < s.heap.objs.size := by
        obtain ⟨o, h, _⟩ := hl
        exact Heap.lt_size h
      have n1 := F.sub_tuple_set
      have n2 := F.sub_tuple_frozenset
      have n3 : (Value.type "tuple" == Value.type "dict") = false := by decide
      have z1 : (eheap w s.heap).objs.size = s.heap.objs.size + 1 := Heap.size_push ..
      have nI : l ≠ (eheap w s.heap).objs.size := by
        rw [z1]; exact Nat.ne_of_lt (Nat.lt_succ_of_lt lS)
      unfold Builtin.«set.__init__» noKeywords Builtin.Frozenset.updateFrom
      generalize hpi : pyIter = PI
      wp_walk
      subst hpi
      refine wpAny_pyIter_tuple hl1 (wpAny_bind (wpAny_runValue ?_))
      have val : ∀ (i : Nat) (v : Value), its[i]? = some v → ∃ p, ks[i]? = some p ∧ v = .ref p.1 := fun i v hv => by
        have z : (ks.map fun p => Value.ref p.1)[i]? = some v := by rw [← hit, Array.getElem?_toList]; exact hv
        rw [List.getElem?_map] at z
        obtain ⟨p, hp, e⟩ := Option.map_eq_some_iff.mp z
        exact ⟨p, hp, e.symm⟩
      refine set_update_tups ((Walks.tuple (by simp [quiet]) _ l nI its).toS) s.heap.objs.size ?f1 ks isz few val s.heap hk (gone_above (Nat.le_refl _)) ?f2 (by simp; omega) (its.size - 0) 0 _ (by omega) (Nat.zero_le _)
        ⟨⟨_, Heap.get?_push_size _ rfl, rfl, rfl⟩, hl1.push _⟩ (fun b o e => Heap.get?_push_of_some _ (Heap.get?_push_of_some _ e)) ?f3 ?f4
      case f1 =>
        rw [z1]
        simp only [List.mem_cons, List.not_mem_nil, or_false, not_or]
        exact ⟨Nat.ne_of_lt (Nat.lt_succ_self _), Nat.ne_of_gt lS⟩
      case f2 =>
        intro b hb
        refine gone_above ?_
        rw [List.mem_singleton.mp hb, z1]
        exact Nat.le_succ _
      case f3 => exact ⟨[], #[], 0, _, setTR_fresh (Heap.get?_push_of_some _ at0), Got.zero ks⟩
      case f4 =>
        rintro ⟨h', g2, d', tk', os'⟩ L es ep t mv R got kp
        obtain rfl : g2 = s.gens := mv.gens
        obtain rfl : d' = s.drawn := mv.drawn
        obtain rfl : os' = s.os := mv.os
        rw [isz] at got
        exact wpAny_pure (wpAny_pure ⟨rfl, h', tk', L, es, ep, t, rfl, R, got, kp⟩)
    · match r2, hr2 with
      | .error e, hr2 => exact hr2
      | .ok .next, hr2 => exact hr2.elim
      | .ok .brk, hr2 => exact hr2.elim
      | .ok .cont, hr2 => exact hr2.elim
      | .ok (.ret z), hr2 =>
        obtain ⟨e3, h', tk, L, es, ep, t, e4, R, got, kp⟩ := hr2
        subst e3 e4
        repeat (any_goals (first | assumption | wp_step))
        exact q _ _ _ _ _ _ R got kp
end
end L2
/-! ## GI -/
namespace GA
open PySem PySem.Spec PyProof.Rows L2
/-! ### a list of pairs being filled -/
def Fil (K : PySem.W.Frag) (o : Option (Addr × Addr)) (H0 H : Hp) (D : Addr) (us : List (Int × Int)) : Prop := G o H0 H ∧ ∃ xs, H D = some (.lst xs) ∧ DpAll K H xs (us.map dP)
section
variable {K : PySem.W.Frag} {o : Option (Addr × Addr)} {H0 H H1 H' : Hp} {D : Addr} {us : List (Int × Int)}
theorem back_none (g : G none H0 H1) (h : H1 D = none) : H0 D = none := by
  cases c : H0 D with
  | none => rfl
  | some u => rw [g.all _ _ c] at h; cases h
theorem Fil.nil (g : G o H0 H1) (h0 : H0 D = none) (hh : ∀ p, o = some p → Hand H0 p.1 p.2) : Fil K o H0 (upd H1 D (.lst [])) D [] := ⟨g.mut h0 hh, [], upd_same, .nil⟩
theorem Fil.g (f : Fil K o H0 H D us) (g : G o H H') (off : Off o D) : Fil K o H0 H' D us := by
  obtain ⟨g0, xs, h1, h2⟩ := f
  exact ⟨g0.trans g, xs, g.keep _ _ off h1, dpAll_t g.tups _ _ (nls_pairs us) h2⟩
theorem Fil.app (f : Fil K o H0 H D us) (h0 : H0 D = none) (hh : ∀ p, o = some p → Hand H0 p.1 p.2) {v : V} {u : Int × Int} (hv : Dp K H v (dP u)) (hz : us.length ≤ 90000) :
    ∃ acc, H D = some (.lst acc) ∧ acc.length < sizeLine ∧ Fil K o H0 (upd H D (.lst (acc ++ [v]))) D (us ++ [u]) := by
  obtain ⟨g0, xs, h1, h2⟩ := f
  have t : Ts H (upd H D (.lst (xs ++ [v]))) := Ts.updl h1
  have l2 := DpAll.length h2
  rw [List.length_map] at l2
  refine ⟨xs, h1, Nat.lt_of_le_of_lt (by omega : xs.length ≤ 90000) (by decide), g0.mut h0 hh, _, upd_same, ?_⟩
  rw [List.map_append]
  exact DpAll.app (dpAll_t t _ _ (nls_pairs us) h2) (DpAll.one (dp_t t _ _ (nl_dP u) hv))
end
/-! ### two for -/
section
variable {J J1 : It} {n n1 : Nat} {Gd G1 : Hp → Prop} {Y Y1 : Nat → Hp → V → Hp → Prop} {g g1 : TG} {tt tt1 : TT} {te : TE} {wi1 : TI} {vs vs1 : List Nat} {σ σ2 : L2.St} {H1 H4 : Hp} {D : Addr} {Qd Nx : Hp → Prop}
theorem lc2_it (w : Walk J n Gd Y) (Pv : Nat → Hp → Prop) (h0 : Pv 0 (upd H1 D (.lst []))) (hG : ∀ i H, i ≤ n → Pv i H → Gd H)
    (hs : ∀ i x H H', i < n → Pv i H → Y i H x H' → g x (wipe σ vs) H' fun σ2 H2 => wipe σ2 vs = wipe σ vs ∧ tt σ2 H2 fun b H3 =>
      if b = true then wi1 σ2 H3 fun J1 H4 => ∃ W1 : Nat → Nat → Hp → Prop, (∃ m, W1 0 m H4) ∧ ∀ j k H, W1 j k H →
        (J1.stop j H ∧ Pv (i + 1) H) ∨ (J1.go j H ∧ ∃ Nx1 : Hp → Prop, (∀ H', Nx1 H' → ∃ k', k' < k ∧ W1 (j + 1) k' H') ∧ ∀ x H', J1.yld j H x H' → g1 x (wipe σ2 vs1) H' fun σ3 H5 => wipe σ3 vs1 = wipe σ2 vs1 ∧ tt1 σ3 H5 fun b H6 =>
          if b = true then te σ3 H6 fun y H7 => ∃ acc, H7 D = some (.lst acc) ∧ acc.length < sizeLine ∧ Nx1 (upd H7 D (.lst (acc ++ [y]))) else Nx1 H6)
      else Pv (i + 1) H3) (hd : ∀ H, Pv n H → Qd H) :
    ∃ W : Nat → Nat → Hp → Prop, (∃ m, W 0 m (upd H1 D (.lst []))) ∧ ∀ i m H, W i m H →
      (J.stop i H ∧ Qd H) ∨ (J.go i H ∧ ∃ Nx : Hp → Prop, (∀ H', Nx H' → ∃ m', m' < m ∧ W (i + 1) m' H') ∧ ∀ x H', J.yld i H x H' → g x (wipe σ vs) H' fun σ2 H2 => wipe σ2 vs = wipe σ vs ∧ tt σ2 H2 fun b H3 =>
        if b = true then wi1 σ2 H3 fun J1 H4 => ∃ W1 : Nat → Nat → Hp → Prop, (∃ m, W1 0 m H4) ∧ ∀ j k H, W1 j k H →
          (J1.stop j H ∧ Nx H) ∨ (J1.go j H ∧ ∃ Nx1 : Hp → Prop, (∀ H', Nx1 H' → ∃ k', k' < k ∧ W1 (j + 1) k' H') ∧ ∀ x H', J1.yld j H x H' → g1 x (wipe σ2 vs1) H' fun σ3 H5 => wipe σ3 vs1 = wipe σ2 vs1 ∧ tt1 σ3 H5 fun b H6 =>
            if b = true then te σ3 H6 fun y H7 => ∃ acc, H7 D = some (.lst acc) ∧ acc.length < sizeLine ∧ Nx1 (upd H7 D (.lst (acc ++ [y]))) else Nx1 H6)
        else Nx H3) := by
  refine ⟨fun i m H => m = n - i ∧ i ≤ n ∧ Pv i H, ⟨n, by simp, Nat.zero_le _, h0⟩, ?_⟩
  rintro i m H ⟨rfl, hi, p⟩
  have q := hG i H hi p
  by_cases c : i < n
  · exact .inr ⟨w.goes i H c q, Pv (i + 1), fun H' p' => ⟨n - (i + 1), by omega, rfl, c, p'⟩, fun x H' y => hs i x H H' c p (w.yields i H x H' c q y)⟩
  · obtain rfl : i = n := by omega
    exact .inl ⟨w.stops H q, hd H p⟩
theorem in_it (w : Walk J1 n1 G1 Y1) (P1 : Nat → Hp → Prop) (h0 : P1 0 H4) (hG : ∀ j H, j ≤ n1 → P1 j H → G1 H)
    (hs : ∀ j x H H', j < n1 → P1 j H → Y1 j H x H' → g1 x (wipe σ2 vs1) H' fun σ3 H5 => wipe σ3 vs1 = wipe σ2 vs1 ∧ tt1 σ3 H5 fun b H6 =>
      if b = true then te σ3 H6 fun y H7 => ∃ acc, H7 D = some (.lst acc) ∧ acc.length < sizeLine ∧ P1 (j + 1) (upd H7 D (.lst (acc ++ [y]))) else P1 (j + 1) H6) (hd : ∀ H, P1 n1 H → Nx H) :
    ∃ W1 : Nat → Nat → Hp → Prop, (∃ m, W1 0 m H4) ∧ ∀ j k H, W1 j k H →
      (J1.stop j H ∧ Nx H) ∨ (J1.go j H ∧ ∃ Nx1 : Hp → Prop, (∀ H', Nx1 H' → ∃ k', k' < k ∧ W1 (j + 1) k' H') ∧ ∀ x H', J1.yld j H x H' → g1 x (wipe σ2 vs1) H' fun σ3 H5 => wipe σ3 vs1 = wipe σ2 vs1 ∧ tt1 σ3 H5 fun b H6 =>
        if b = true then te σ3 H6 fun y H7 => ∃ acc, H7 D = some (.lst acc) ∧ acc.length < sizeLine ∧ Nx1 (upd H7 D (.lst (acc ++ [y]))) else Nx1 H6) := by
  refine ⟨fun i m H => m = n1 - i ∧ i ≤ n1 ∧ P1 i H, ⟨n1, by simp, Nat.zero_le _, h0⟩, ?_⟩
  rintro i m H ⟨rfl, hi, p⟩
  have q := hG i H hi p
  by_cases c : i < n1
  · exact .inr ⟨w.goes i H c q, P1 (i + 1), fun H' p' => ⟨n1 - (i + 1), by omega, rfl, c, p'⟩, fun x H' y => hs i x H H' c p (w.yields i H x H' c q y)⟩
  · obtain rfl : i = n1 := by omega
    exact .inl ⟨w.stops H q, hd H p⟩
theorem w_lc2 {wi : TI} {Q : VK} (q : wi σ H1 fun J H1 => ∀ D, H1 D = none → ∃ W : Nat → Nat → Hp → Prop, (∃ m, W 0 m (upd H1 D (.lst []))) ∧ ∀ i m H, W i m H →
  (J.stop i H ∧ Q (.ref D) H) ∨ (J.go i H ∧ ∃ Nx : Hp → Prop, (∀ H', Nx H' → ∃ m', m' < m ∧ W (i + 1) m' H') ∧ ∀ x H', J.yld i H x H' → g x (wipe σ vs) H' fun σ2 H2 => wipe σ2 vs = wipe σ vs ∧ tt σ2 H2 fun b H3 =>
    if b = true then wi1 σ2 H3 fun J1 H4 => ∃ W1 : Nat → Nat → Hp → Prop, (∃ m, W1 0 m H4) ∧ ∀ j k H, W1 j k H →
      (J1.stop j H ∧ Nx H) ∨ (J1.go j H ∧ ∃ Nx1 : Hp → Prop, (∀ H', Nx1 H' → ∃ k', k' < k ∧ W1 (j + 1) k' H') ∧ ∀ x H', J1.yld j H x H' → g1 x (wipe σ2 vs1) H' fun σ3 H5 => wipe σ3 vs1 = wipe σ2 vs1 ∧ tt1 σ3 H5 fun b H6 =>
        if b = true then te σ3 H6 fun y H7 => ∃ acc, H7 D = some (.lst acc) ∧ acc.length < sizeLine ∧ Nx1 (upd H7 D (.lst (acc ++ [y]))) else Nx1 H6)
    else Nx H3)) : tLc2 wi g tt wi1 g1 tt1 te vs vs1 σ H1 Q := q
end
/-! ### a list or a tuple -/
def iSeq (K : PySem.W.Frag) (te : TE) : TI := fun σ H R => te σ H fun x H1 => ∃ a, x = .ref a ∧ (((∃ xs, SqL K H1 a xs) ∧ R (Itl K a) H1) ∨ ((∃ xs, SqT K H1 a xs) ∧ R (Itt K a) H1))
section
variable {X : Cx}
theorem pi_seq {tg l : Expr} {tl : TE} (hl : PE X l tl) : PI X tg l (iSeq X.K tl) := by
  refine ⟨fun pins s σ H R I h => ?_⟩
  refine thn (hl.run pins s σ H _ I h) fun v s1 ⟨x, H1, I1, r1, a, e, q1⟩ => ?_
  subst e
  cases r1
  rcases q1 with ⟨⟨xs, hq⟩, q⟩ | ⟨⟨xs, hq⟩, q⟩
  · obtain ⟨its, rv, p, _⟩ := I1.list hq
    refine wpAny_pyIter_list p.isList ⟨s1.heap.objs.size, [s1.heap.objs.size], _, _, H1, rfl, I1.kept (t' := s1.toks) fun b o e => Heap.get?_push_of_some _ e, turn_list a _, ⟨_, Heap.get?_push_size _ rfl, rfl, rfl⟩, fun b hb => ?_, q⟩
    obtain rfl : b = s1.heap.objs.size := by simpa using hb
    exact I1.fpOk (Nat.le_refl _) (I1.hok.fresh (Nat.le_refl _))
  · obtain ⟨its, rv, p, _⟩ := I1.tuple hq
    refine wpAny_pyIter_tuple p ⟨s1.heap.objs.size, [s1.heap.objs.size], _, _, H1, rfl, I1.kept (t' := s1.toks) fun b o e => Heap.get?_push_of_some _ e, turn_tuple a _, ⟨_, Heap.get?_push_size _ rfl, rfl, rfl⟩, fun b hb => ?_, q⟩
    obtain rfl : b = s1.heap.objs.size := by simpa using hb
    exact I1.fpOk (Nat.le_refl _) (I1.hok.fresh (Nat.le_refl _))
theorem k_pi_seq (K : PySem.W.Frag) {tg l : Expr} {tl : TE} (hl : PE X l tl) (hK : X.K = K := by rfl) : PI X tg l (iSeq K tl) := by subst hK; exact pi_seq hl
theorem w_iseq {K : PySem.W.Frag} {te : TE} {σ : L2.St} {H : Hp} {R : It → Hp → Prop} (q : te σ H fun x H1 => ∃ a, x = .ref a ∧ (((∃ xs, SqL K H1 a xs) ∧ R (Itl K a) H1) ∨ ((∃ xs, SqT K H1 a xs) ∧ R (Itt K a) H1))) : iSeq K te σ H R := q
/-- set(xs), a list or a tuple of pairs of ints -/
def rSetPA (K : PySem.W.Frag) (P : Program) (w : World) : List V → Hp → VK → Prop := fun vs H Q => ∃ (l : Addr) (xs : List V) (us : List (Int × Int)), vs = [V.ref l] ∧ (SqL K H l xs ∨ SqT K H l xs) ∧ DpAll K H xs (us.map dP) ∧ us.length < 64 ∧
  ∀ a L H2, H a = none → (∀ o, G o H H2) → H2 a = some (SetTO P w a L) → (∀ p ∈ L, SqT K H2 p.1 (p.2.map V.int)) → (∀ ns, ns ∈ L.map (·.2) ↔ ∃ u ∈ us, ns = [u.1, u.2]) → Q (.ref a) H2
theorem cr_setPA (hc : X.calm = true) (hu : X.A.units + 64 < cLine) : CallR X (.type "set") (rSetPA X.K X.prog X.w) := by
  intro pins s σ H vs us0 Q I r h
  obtain ⟨l, xs, us, rfl, hl, hd, hz, q⟩ := h
  rcases hl with hl | hl
  · exact cr_setPN hc hu pins s σ H _ us0 Q I r ⟨l, xs, us, rfl, hl, hd, hz, q⟩
  · obtain ⟨ks, rfl, h1, h2⟩ := ks_of hd
    have hz' : ks.length = us.length := by simpa using congrArg List.length h2
    rw [Vals.ref1 r]
    obtain ⟨its, rv, pl, _⟩ := I.tuple hl
    have hn : H s.heap.objs.size = none := I.hok.fresh (Nat.le_refl _)
    refine ga_set_of_tuple (P := X.prog) (w := X.w) ks (I.ok.hd hc) pl (by simpa using refs_of_vals rv) (fun p hp => I.isT (h1 p hp)) (by omega) (by omega) fun h' tk L es ep t R g k => ?_
    refine ⟨.ref s.heap.objs.size, upd H s.heap.objs.size (SetTO X.prog X.w s.heap.objs.size L), I.laid (t' := tk) k (Nat.le_refl _) (setTO_new R.t0), rfl, q _ L _ hn (fun _ => G.alloc hn) upd_same (fun p hp => sqT_t ((G.alloc (o := none) hn).tups) (h1 p (List.mem_of_mem_take (g.sub p hp)))) fun ns => ?_⟩
    have mem : ns ∈ ks.map (·.2) ↔ ∃ u ∈ us, ns = [u.1, u.2] := by
      rw [h2, List.mem_map]
      exact ⟨fun ⟨u, a, b⟩ => ⟨u, a, b.symm⟩, fun ⟨u, a, b⟩ => ⟨u, a, b.symm⟩⟩
    rw [← mem]
    constructor
    · intro h
      obtain ⟨p, hp, rfl⟩ := List.mem_map.mp h
      exact List.mem_map.mpr ⟨p, List.mem_of_mem_take (g.sub p hp), rfl⟩
    · intro h
      obtain ⟨p, hp, rfl⟩ := List.mem_map.mp h
      exact g.all p (by rw [List.take_length]; exact hp)
/-- t.index(z), t a tuple of ints -/
def rIndexTI (K : PySem.W.Frag) : V → List V → Hp → VK → Prop := fun x xs H Q => ∃ (p : Addr) (ns : List Int) (z : Int) (j : Nat), x = .ref p ∧ xs = [.int z] ∧ SqT K H p (ns.map V.int) ∧ ns[j]? = some z ∧ (∀ m, m < j → ns[m]? ≠ some z) ∧ Q (.int (j : Nat)) H
theorem mt_indexTI : MtR X "tuple.index" (rIndexTI X.K) := by
  intro pins s σ H x xs v us Q I rx rs h
  obtain ⟨p, ns, z, j, rfl, rfl, hq, hy, hno, q⟩ := h
  cases rx
  obtain ⟨u, rfl, t, rfl⟩ := vals1 rs
  obtain ⟨its, r, ⟨⟨cls, dd, dt, sl⟩, ho, hc, n, hd⟩, hz⟩ := I.tuple hq
  simp only at hc hd
  subst hc hd
  have hl : its.toArray.size = ns.length := by rw [List.size_toArray, ← r.length, List.length_map]
  have it : ∀ (m : Nat) (hm : m < its.toArray.size), ∃ y t', ns[m]? = some y ∧ its.toArray[m] = Value.int y t' := fun m hm => by
    have hm' : m < ns.length := by rw [← hl]; exact hm
    obtain ⟨w, hw, t', hw'⟩ := r.get (i := m) (x := .int ns[m]) (by simp [hm'])
    refine ⟨ns[m], t', List.getElem?_eq_getElem hm', ?_⟩
    have e := (List.getElem?_eq_some_iff.mp hw).2
    rw [← hw', ← e]
    simp
  have flat : (ns.map V.int).all flatV = true := by rw [List.all_map, List.all_eq_true]; exact fun _ _ => rfl
  have jl : j < its.toArray.size := by rw [hl]; exact (List.getElem?_eq_some_iff.mp hy).1
  refine call_meets PySem.F.slot_tuple_index ⟨_, ho, rfl⟩ PySem.F.entry_tuple_index (PySem.F.args_tuple_index_2 _ _) (TI.tuple_indexAt p its.toArray n dd sl (.int z t) (eqU (.int z)) j jl ?_ ?_)
    ⟨ho, fun w hw => mem_eqAt (x := .int z) ⟨t, rfl⟩ rfl r flat w (by simpa using hw), ⟨.int (j : Nat), H, I.tok _, ⟨_, rfl⟩, q⟩⟩
  · obtain ⟨y, t', h1, h2⟩ := it j jl
    rw [hy] at h1
    cases h1
    rw [h2]
    exact beq_self_eq_true z
  · intro m hm hmj
    obtain ⟨y, t', h1, h2⟩ := it m hm
    rw [h2]
    have ne : y ≠ z := fun e => hno m hmj (by rw [h1, e])
    exact beq_eq_false_iff_ne.mpr ne
theorem k_mt_indexTI (K : PySem.W.Frag) (hK : X.K = K := by rfl) : MtR X "tuple.index" (rIndexTI K) := by subst hK; exact mt_indexTI
/-- xs + ys, lists -/
def rCatLN : R2 := fun x y H Q => ∃ l b xs zs, x = .ref l ∧ y = .ref b ∧ H l = some (.lst xs) ∧ H b = some (.lst zs) ∧ xs.length + zs.length ≤ 100000 ∧ New H (.lst (xs ++ zs)) fun p H2 => Q (.ref p) H2
theorem op_catLN : OpR X (binaryOp .Add) rCatLN := OpR.weak op_cat fun x y H Q h => by
  obtain ⟨l, b, xs, zs, e1, e2, h1, h2, hz, q⟩ := h
  exact ⟨l, b, xs, zs, e1, e2, h1, h2, sz hz, fun p hp => q.go hp⟩
end
end GA
/-! ## GJ -/
namespace GA
open PySem PySem.Spec PyProof.Rows L2
/-! ### dict(pairs) whose keys are tuples -/
/-- one pair (key, value): where the pair's tuple stands, the key, where the key stands, the value -/
structure DPair where
  at_ : Addr
  key : List L2.Key
  kat : Addr
  val : V
def rDictPT : List V → Hp → VK → Prop := fun xs H Q => ∃ (a : Addr) (L : List DPair), xs = [.ref a] ∧ H a = some (.lst (L.map fun q => V.ref q.at_)) ∧ (∀ q ∈ L, H q.at_ = some (.tup [.ref q.kat, q.val]) ∧ H q.kat = some (.tup (q.key.map kV))) ∧ (L.map fun q => q.key).Nodup ∧ New H (.dT (L.map fun q => (q.key, q.val))) fun p H2 => Q (.ref p) H2
section
variable {X : Cx}
theorem pairs_told {pins : List (Addr × Obj)} {σ : L2.St} {H : Hp} {s : Shared} (I : Inv X pins σ H s) : ∀ (L : List DPair), (∀ q ∈ L, H q.at_ = some (.tup [.ref q.kat, q.val]) ∧ H q.kat = some (.tup (q.key.map kV))) →
    ∃ prs : List (List L2.Key × Addr × Value), Paired (fun (q : DPair) (p : List L2.Key × Addr × Value) => p.1 = q.key ∧ p.2.1 = q.kat ∧ RelV q.val p.2.2 ∧ s.heap.IsTuple q.at_ #[.ref q.kat, p.2.2]) L prs
  | [], _ => ⟨[], .nil⟩
  | q :: L, h => by
    obtain ⟨prs, r⟩ := pairs_told I L fun q' hq => h q' (List.mem_cons_of_mem _ hq)
    obtain ⟨h1, _⟩ := h q List.mem_cons_self
    obtain ⟨_, its, rv, pl⟩ := I.hok q.at_ _ h1
    cases rv with
    | cons r1 r2 =>
      cases r2 with
      | cons r2 r3 =>
        cases r3
        cases r1
        exact ⟨(q.key, q.kat, _) :: prs, .cons ⟨rfl, rfl, r2, pl⟩ r⟩
theorem paired_len {α β : Type} {F : α → β → Prop} : ∀ {l : List α} {m : List β}, Paired F l m → l.length = m.length
  | _, _, .nil => rfl
  | _, _, .cons _ t => by rw [List.length_cons, List.length_cons, paired_len t]
theorem paired_at {α β : Type} {F : α → β → Prop} : ∀ {l : List α} {m : List β} {i : Nat} {y : β}, Paired F l m → m[i]? = some y → ∃ x, l[i]? = some x ∧ F x y
  | _, _, _, _, .nil, e => by simp at e
  | _, _, 0, _, .cons h _, e => by simp at e; subst e; exact ⟨_, rfl, h⟩
  | _, _, i + 1, y, .cons _ t, e => by
    obtain ⟨x, h1, h2⟩ := paired_at (i := i) (y := y) t (by simpa using e)
    exact ⟨x, by simpa using h1, h2⟩
theorem paired_keys {s : Shared} {L : List DPair} {prs : List (List L2.Key × Addr × Value)} (r : Paired (fun (q : DPair) (p : List L2.Key × Addr × Value) => p.1 = q.key ∧ p.2.1 = q.kat ∧ RelV q.val p.2.2 ∧ s.heap.IsTuple q.at_ #[.ref q.kat, p.2.2]) L prs) : prs.map (·.1) = L.map fun q => q.key := by
  induction r with
  | nil => rfl
  | cons h _ ih => rw [List.map_cons, List.map_cons, ih, h.1]
theorem paired_kt {s : Shared} {H : Hp} {L : List DPair} {prs : List (List L2.Key × Addr × Value)} (r : Paired (fun (q : DPair) (p : List L2.Key × Addr × Value) => p.1 = q.key ∧ p.2.1 = q.kat ∧ RelV q.val p.2.2 ∧ s.heap.IsTuple q.at_ #[.ref q.kat, p.2.2]) L prs)
    (h : ∀ q ∈ L, H q.kat = some (.tup (q.key.map kV))) : KT H (L.map fun q => (q.key, q.val)) prs := by
  induction r with
  | nil => exact .nil
  | @cons q p L prs e _ ih =>
    refine .cons ⟨e.1.symm, ?_, e.2.2.1⟩ (ih fun q' hq => h q' (List.mem_cons_of_mem _ hq))
    rw [e.2.1]
    exact h q List.mem_cons_self
theorem call_dictPT (hc : X.calm = true) (hu : X.A.units + 64 < cLine) : CallR X (.type "dict") rDictPT := by
  intro pins s σ H xs us Q I r h
  obtain ⟨a, L, rfl, ha, hL, nd, q⟩ := h
  obtain ⟨u, rfl, rx⟩ := vals1 r
  cases rx
  obtain ⟨hz, its, n, rv, ea⟩ := I.hok a _ ha
  have eits : its = L.map fun q => Value.ref q.at_ := by
    have e : (L.map fun q => V.ref q.at_) = (L.map fun q => q.at_).map V.ref := by rw [List.map_map]; rfl
    rw [e] at rv
    have := L2.refs_at rv
    rw [this, List.map_map]; rfl
  obtain ⟨prs, pr⟩ := pairs_told I L hL
  have len := paired_len pr
  have keys := paired_keys pr
  have P := PairArg.list (prog := X.prog) (w := X.w) a its.toArray (fun j => (L[j]?.map fun q => q.at_).getD 0) (prs.map fun p => (Value.ref p.2.1, p.2.2))
  have Lsz : L.length ≤ sizeLine := by
    rw [List.length_map] at hz
    exact hz
  have key_in : ∀ p ∈ prs, ∃ q ∈ L, p.1 = q.key ∧ p.2.1 = q.kat := fun p hp => by
    obtain ⟨i, hi⟩ := List.getElem?_of_mem hp
    obtain ⟨q, hq, e⟩ := paired_at pr hi
    exact ⟨q, List.mem_of_getElem? hq, e.1, e.2.1⟩
  have newA : H s.heap.objs.size = none := I.hok.fresh (Nat.le_refl _)
  refine call_dict_pairsH (knd := tupleKind (mixKind X.prog X.w)) (ps := prs) P (I.ok.hd hc) (by show _ < cLine; simp; omega) ⟨⟨_, n, ea, rfl, rfl, rfl⟩, ?_, fun j k v e => ?_⟩ ⟨by rw [List.length_map], fun i key v e => ?_⟩ (fun h' keep p hp => ?_) (by rw [List.length_map]; omega) fun h' tk D keep => ?_
  · rw [List.size_toArray, eits, List.length_map, List.length_map, len]
  · rw [List.getElem?_map] at e
    obtain ⟨p, hp, e⟩ := Option.map_eq_some_iff.mp e
    cases e
    obtain ⟨q, hq, e1, e2, e3, e4⟩ := paired_at pr hp
    have eq1 : (L[j]?.map fun q => q.at_).getD 0 = q.at_ := by rw [hq]; rfl
    refine ⟨?_, .inl ?_⟩
    · show its.toArray[j]? = some (.ref ((L[j]?.map fun q => q.at_).getD 0))
      rw [eq1, eits]
      simp [hq]
    · show s.heap.IsTuple ((L[j]?.map fun q => q.at_).getD 0) _
      rw [eq1]
      show s.heap.IsTuple q.at_ #[.ref p.2.1, p.2.2]
      rw [e2]
      exact e4
  · have e : (prs.map fun p => (Value.ref p.2.1, p.2.2))[i]? = some (key, v) := e
    rw [List.getElem?_map] at e
    obtain ⟨p, hp, e⟩ := Option.map_eq_some_iff.mp e
    cases e
    exact ⟨p.1, p.2.1, hp, rfl⟩
  · obtain ⟨q, hq, e1, e2⟩ := key_in p hp
    have k0 := key_of I.hok (hL q hq).2
    rw [e1, e2]
    obtain ⟨o, items, m, ho, rest⟩ := k0
    exact ⟨o, items, m, keep _ _ (Nat.ne_of_lt (Heap.lt_size ho)) (by simp) ho, rest⟩
  · have e0 : storedAllH [] prs = prs := storedAllH_nil_of_nodup prs (by rw [keys]; exact nd)
    rw [e0] at D
    obtain ⟨o, es, ep, d1, d2, d3, d4, _, d6⟩ := D
    have hm : (s.heap.objs.size == sysModules) = false := beq_eq_false_iff_ne.mpr (Nat.ne_of_gt I.big)
    have kt : KT (upd H s.heap.objs.size (.dT (L.map fun q => (q.key, q.val)))) (L.map fun q => (q.key, q.val)) prs := paired_kt pr fun q hq => by
      rw [upd_ne (ne_of_none (hL q hq).2 newA)]
      exact (hL q hq).2
    exact ⟨.ref s.heap.objs.size, _, I.laid (o := .dT (L.map fun q => (q.key, q.val))) (t' := tk) (fun b o e => keep b o (by simp) e) (Nat.le_refl _) ⟨by rw [List.length_map]; exact Lsz, hm, prs, kt, o, es, ep, d1, d2, d3, d4, d6⟩, rfl, q.go newA⟩
end
end GA
/-! ## GK -/
namespace GA
open PySem PySem.Spec PyProof.Rows L2
section
variable {X : Cx}
/-- len(set(t)), t a tuple of unlike ints -/
def tLenSetTI (K : PySem.W.Frag) (ta : TE) : TE := fun σ H Q => ta σ H fun x H1 => ∃ (l : Addr) (ns : List Int), x = V.ref l ∧ SqT K H1 l (ns.map V.int) ∧ ns.length ≤ 1000 ∧ ns.Nodup ∧ Q (.int ns.length) H1
theorem pe_lenSetTI {a : Expr} {ta : TE} {p p2 q pos : Pos} (hc : X.calm = true) (hg : Gl X "len") (hm : X.mg "len" = none) (hg2 : Gl X "set") (hm2 : X.mg "set" = none) (ha : PE X a ta)
    (na : starEach [a] X.env = (false, eval a X.env) :: starEach [] X.env := by rfl) : PE X (.Call (.Name "len" p) [.Call (.Name "set" p2) [a] [] q] [] pos) (tLenSetTI X.K ta) := by
  refine ⟨fun pins s σ H Q I h => Call_ (ld_blt I hg hm PySem.boot_len (PyProof.Rows.callWith_builtin1 (PyProof.Rows.args_cons ?_ rfl) rfl rfl))⟩
  refine Call_ (ld_blt I hg2 hm2 PyProof.Rows.boot_set (PyProof.Rows.callWith_type1 (PyProof.Rows.args_cons (thn (ha.run pins s σ H _ I h) fun v s1 ⟨x, H1, I1, r1, l, ns, ex, hq, h1, hnd, q1⟩ => PyProof.Rows.args_nil ?_) na) na rfl))
  subst ex
  cases r1
  obtain ⟨its, r, pt, _⟩ := I1.tuple hq
  refine call_set_tupI ns (I1.ok.hd hc) pt (ints_of_vals r) (by unfold scanBound; omega) fun h' tk c R _ keep => PyProof.Rows.args_nil ?_
  obtain ⟨o, es, ep, t, ho, hex, hd, _, nd, mem, hsz, hf, _⟩ := R
  have e : es.size = ns.length := by
    have pm : (es.toList.map keyOf).Perm ns := (List.perm_ext_iff_of_nodup nd hnd).mpr fun k => by rw [← mem]; simp
    have := pm.length_eq
    simpa using this
  have I2 : Inv X pins σ H1 { s1 with heap := h', toks := tk } := I1.kept keep
  exact call_len_set ho hex hd hf (by rw [e]; omega) ⟨.int ns.length, H1, I2.tok _, ⟨_, by rw [e]⟩, q1⟩
end
end GA
/-! ## GL -/
namespace GA
open PySem L2
/-! ### methods of tuples; tuples whose object is known -/
section
variable {X : Cx} {T : String} {name : Str} {id : String} {r : V → List V → Hp → VK → Prop} {o e : Expr} {es : List Expr} {apos cpos : Pos} {to : TE} {t : TA}
theorem k_bm (K : PySem.W.Frag) (pa : PlainAttrs T) (slot : Slot T name id) (hty : typeOf (.builtin id) = pure (.type "method_descriptor")) (hm : MtR X id r) (ho : PE X o to) (ha : PA X (e :: es) t) (hK : X.K = K := by rfl)
    (h1 : attributeBase o name X.env (eval o X.env) = eval o X.env := by rfl)
    (h2 : ((backTo cpos (starEach (e :: es) X.env)).all (fun x => !x.1) && (backToKw cpos (keywordEach [] X.env)).all (fun x => x.1.isSome) && decide ((e :: es).length + ([] : List Keyword).length + (if ([] : List Keyword).isEmpty then 0 else 1) < 30)) = true := by rfl)
    (h3 : (apos.endLine == cpos.line) = true := by rfl) (h4 : starEach (e :: es) X.env = (false, eval e X.env) :: starEach es X.env := by rfl) (h5 : (backTo cpos (starEach es X.env)).any (·.1) = false := by rfl) :
    PE X (.Call (.Attribute o name apos) (e :: es) [] cpos) (tBM K T r to t) := by
  subst hK
  exact pe_bm pa slot hty hm ho ha h1 h2 h3 h4 h5
/-- a tuple whose object is known: it has no names of its own -/
def FrzT (H : Hp) (p : Addr) (xs : List V) : Prop := ∃ ob : Obj, H p = some (.frz ob (.tup xs)) ∧ ob.dict = none
theorem FrzT.sq {K : PySem.W.Frag} {H : Hp} {p : Addr} {xs : List V} (h : FrzT H p xs) : SqT K H p xs := by
  obtain ⟨ob, h, _⟩ := h
  exact .inl (.inr ⟨ob, h⟩)
theorem FrzT.n {H H' : Hp} {p : Addr} {xs : List V} (h : FrzT H p xs) (g : G none H H') : FrzT H' p xs := by
  obtain ⟨ob, h, d⟩ := h
  exact ⟨ob, g.all _ _ h, d⟩
def tBMT (r : V → List V → Hp → VK → Prop) (to : TE) (t : TA) : TE := fun σ H Q => to σ H fun x H1 => (∃ p xs, x = .ref p ∧ FrzT H1 p xs) ∧ t σ H1 fun vs H2 => r x vs H2 Q
theorem w_bmt {r : V → List V → Hp → VK → Prop} {σ : L2.St} {H : Hp} {Q : VK} (q : to σ H fun x H1 => (∃ p xs, x = .ref p ∧ FrzT H1 p xs) ∧ t σ H1 fun vs H2 => r x vs H2 Q) : tBMT r to t σ H Q := q
theorem pe_bmT (pa : PlainAttrs "tuple") (slot : Slot "tuple" name id) (hty : typeOf (.builtin id) = pure (.type "method_descriptor")) (hm : MtR X id r) (ho : PE X o to) (ha : PA X (e :: es) t)
    (h1 : attributeBase o name X.env (eval o X.env) = eval o X.env := by rfl)
    (h2 : ((backTo cpos (starEach (e :: es) X.env)).all (fun x => !x.1) && (backToKw cpos (keywordEach [] X.env)).all (fun x => x.1.isSome) && decide ((e :: es).length + ([] : List Keyword).length + (if ([] : List Keyword).isEmpty then 0 else 1) < 30)) = true := by rfl)
    (h3 : (apos.endLine == cpos.line) = true := by rfl) (h4 : starEach (e :: es) X.env = (false, eval e X.env) :: starEach es X.env := by rfl) (h5 : (backTo cpos (starEach es X.env)).any (·.1) = false := by rfl) :
    PE X (.Call (.Attribute o name apos) (e :: es) [] cpos) (tBMT r to t) := by
  refine ⟨fun pins s σ H Q I h => ?_⟩
  refine wpAny_Call_method_late h1 h2 h3 rfl (thn (ho.run pins s σ H _ I h) fun v s1 ⟨x, H1, I1, r1, ⟨p, xs, ex, ob, hp, dn⟩, q1⟩ => ?_)
  subst ex
  cases r1
  obtain ⟨a1, _, its, _, o', a2, a3, _⟩ := I1.hok p _ hp
  obtain rfl : o' = ob := by
    rw [a1] at a2
    exact (Option.some.inj a2).symm
  refine ⟨"tuple", id, pa, slot, hty, ⟨o', a1, a3⟩, fun a e => by cases e; exact ⟨o', a1, dn⟩, ?_⟩
  have hA := ha.run cpos pins s1 σ H1 _ I1 q1
  rw [h4] at hA ⊢
  refine Calls.callWith_builtin (by show (false || (backTo cpos (starEach es X.env)).any (·.1)) = false; rw [h5] <;> rfl) (Calls.evalArgs_plain ?_)
  exact thn hA fun us s2 ⟨vs, H2, I2, r2, q2⟩ => hm pins s2 σ H2 (.ref p) vs (.ref p) us Q I2 rfl r2 q2
/-- tuple(a list): the new tuple's object is told -/
def rTupleF (K : PySem.W.Frag) : List V → Hp → VK → Prop := fun xs H Q => ∃ p ys, xs = [.ref p] ∧ SqL K H p ys ∧ ∀ l H2, H l = none → (∀ o, G o H H2) → FrzT H2 l ys → Q (.ref l) H2
theorem call_tupleF : CallR X (.type "tuple") (rTupleF X.K) := by
  intro pins s σ H xs us Q I r h
  obtain ⟨p, ys, rfl, hq, q⟩ := h
  obtain ⟨u, rfl, rx⟩ := vals1 r
  cases rx
  obtain ⟨its, r', pl, hz⟩ := I.list hq
  have hlen := r'.length
  refine call_tuple_list pl.isList (fun h' kp => ?_) (by simp only [List.size_toArray] <;> omega)
  have I1 : Inv X pins σ H { s with heap := h' } := I.kept (t' := s.toks) kp
  have new : H h'.objs.size = none := I1.hok.fresh (Nat.le_refl _)
  refine ⟨.ref h'.objs.size, _, I1.laid (o := .frz { cls := .type "tuple", data := .seq its.toArray } (.tup ys)) (t' := s.toks) (fun b o e => Heap.get?_push_of_some _ e) (Nat.le_refl _) ⟨Heap.get?_push_size _ rfl, hz, its, r', PyProof.Rows.IsTup.new _ _⟩, rfl, q _ _ new (fun _ => G.alloc new) ⟨_, upd_same, rfl⟩⟩
end
end GA
/-! ## GT -/
/-! ### an own error class whose own __init__(self) does nothing: made, raised, asked of what class it is -/
namespace PySem
namespace NmX
open PySem.W PySem.Calls PyProof.Rows PySem.HandSPX
/-- what the written part says of the class at C, and of its __init__ at fI -/
structure NmTxt (K : Frag) (C fI : Addr) : Prop where
  cls : ∃ nm q N bs bm sn sub ab col dd k0 k1 k2 k3 k5, K.lookup C = some (excClassObj nm q C N bs bm true sn sub ab col dd k0 k1 k2 k3 k5 "ValueError.__new__") ∧ refsVE bm = true
  iC : findIn K (.ref C) "__init__" = some (some (.ref fI))
  tC : typeIn K (.ref fI) = some (.type "function")
  kC : keepIn K (.ref C) = true
  exC : subIn K (.ref C) (.type "BaseException") = some true
  tyC : typeIn K (.ref C) = some (.type "type")
  fn : ∃ (oc : Value) (od : Option Addr) (doc pm kV : Value) (an : Option Addr) (cdv ct : Value) (osl : Array (Option Value)) (qual : Str) (pr : Arguments) (sc : Scope) (ps : Pos),
    K.lookup fI = some ⟨oc, od, .func (fnOf "__init__" qual pr [.Pass ps] sc .none kV doc pm an cdv ct), osl⟩ ∧ codeIn K cdv qual = true ∧
    (∀ (s : Shared) (x : Value), BindsTo s (fnOf "__init__" qual pr [.Pass ps] sc .none kV doc pm an cdv ct) ⟨[x], []⟩ [("self", x)]) ∧ sc.names = [(PySem.Str.ofString "self", NameKind.local)] ∧ sc.isCoroutine = false ∧ sc.isGenerator = false ∧ sc.kind = .function
section
variable {prog : Program} {w : World} {A : Around} {E : Value → Shared → Prop} {R : Result → Shared → Prop} {s : Shared} {K : Frag} {C fI : Addr}
theorem nm_init (T : NmTxt K C fI) {x : Value} (X : K.In s.heap) (hlim : s.heap.NoLimit) (hroom : A.depth < recursionLimit)
    (hq : ∀ h' tk, (∀ b o, s.heap.get? b = some o → h'.get? b = some o) → R (.ok (.ret .none)) { s with heap := h', toks := tk }) :
    codeAny (model prog w) A (.call (.ref fI) ⟨[x], []⟩) R s := by
  obtain ⟨oc, od, doc, pm, kV, an, cdv, ct, osl, qual, pr, sc, ps, ho, hcd, hb, hn, h1, h2, h3⟩ := T.fn
  refine Att.call_fn (binds := [("self", x)]) X hlim ho hcd hroom (hb s x) (by rw [hn]; rfl) (fun s₁ IC => ?_) h1 h2 h3
  obtain ⟨h₁, tk₁, rfl⟩ := IC.toInCall.same
  show wpAny _ _ (execs _ _) _ _ _
  refine wpAny_execs_cons (wpAny_Pass ?_)
  exact wpAny_execs_nil (hq h₁ tk₁ IC.toInCall.keep)
theorem nm_made (T : NmTxt K C fI) (X : K.In s.heap) (hlim : s.heap.NoLimit) (hroom : A.depth + 1 < recursionLimit)
    (hq : ∀ h' tk e t0, (∀ b o, s.heap.get? b = some o → h'.get? b = some o) → s.heap.objs.size ≤ e → h'.get? e = some (excO C t0) → R (.ok (.ret (.ref e))) { s with heap := h', toks := tk }) :
    codeAny (model prog w) A (.call (.ref C) ⟨[], []⟩) R s := by
  obtain ⟨nm, q, N, bs, bm, sn, sub, ab, col, dd, k0, k1, k2, k3, k5, hC, hbm⟩ := T.cls
  obtain ⟨hp, g, dr, tk, os⟩ := s
  have k : ∀ b o, hp.get? b = some o → ((hp.push (kdv_tup [])).push (excO C hp.objs.size)).get? b = some o := fun b o e => Heap.get?_push_of_some _ (Heap.get?_push_of_some _ e)
  have hget : ((hp.push (kdv_tup [])).push (excO C hp.objs.size)).get? (hp.objs.size + 1) = some (excO C hp.objs.size) := by heap_get
  refine call_own F.excBase_ValueError (fun X => refsVE_contains X bm hbm) (X _ _ hC) (looks_findIn X T.iC) (fun self => bind_fn X self T.tC) (Nat.zero_le _) ?_
  refine nm_init (s := ⟨(hp.push (kdv_tup [])).push (excO C hp.objs.size), g, dr, tk, os⟩) T (X.keeps k) (hlim.keeps k) ?_ fun h' tk' k' => ?_
  · show A.depth + 1 < recursionLimit
    exact hroom
  · exact ⟨rfl, hq h' tk' (hp.objs.size + 1) hp.objs.size (fun b o e => k' b o (k b o e)) (Nat.le_succ _) (k' _ _ hget)⟩
end
end NmX
end PySem
namespace GA
open PySem PySem.Spec PyProof.Rows L2
section
variable {X : Cx} {C fI : Addr}
/-- C() -/
theorem pmk_nm {x : Str} {p pos : Pos} {k : Nat} (T : PySem.NmX.NmTxt X.K C fI) (hr : Room k X.A) (hg : Gl X x) (hm : X.mg x = some (.ref C)) (hdb : (x == ("__debug__" : Str)) = false := by decide) :
    PMk X (.Call (.Name x p) [] [] pos) (fun _ H Q => Q (.ref C) none H) := by
  intro pins s σ H Q I h
  refine wpAny_Call_Name_kw (ld_glob I hg hm ?_ hdb)
  refine PySem.W.callWith_K0 I.kIn T.kC ?_
  show wpAny _ _ (call (.ref C) []) _ _ _
  have hlim := I.nolimit
  obtain ⟨hp, g, dr, tk, os⟩ := s
  refine wpAny_call (PySem.NmX.nm_made T I.kIn hlim (by have := hr.dp; omega) fun h' tk' e t0 kp hn he => ?_)
  show MkP X pins σ Q (.ref e) ⟨h', g, dr, tk', os⟩
  have hne : hp.get? e = none := by
    cases z : hp.get? e with
    | none => rfl
    | some o => exact absurd (Heap.lt_size z) (Nat.not_lt.mpr hn)
  exact ⟨e, _, _, ⟨hp, g, dr, tk, os⟩, H, .ref C, none, rfl, I, kp, hne, he, ⟨rfl, rfl⟩, rfl, rfl, I.hok.fresh hn, rfl, I.bare, raises_own T.exC T.tyC, h⟩
/-- isinstance(e, c), e the caught exception, of its own class D, without names of its own -/
def rIsN (K : PySem.W.Frag) (D a : Addr) (cls : Value) (d : Option Addr) : List V → Hp → VK → Prop := fun xs H Q => cls = .ref D ∧ d = none ∧ rIsE K D a xs H Q
theorem call_isN {a D : Addr} {oe : Obj} {d : Option Addr} {cls : Value} {pn : List (Addr × Obj)} (C : ExcC X.K D) (hz : Zc cls d oe) (hf : ∃ vs, oe.data = .fields vs) : CallR (X.suite a ((a, oe) :: pn)) (.builtin "isinstance") (rIsN X.K D a cls d) := by
  intro pins s σ H xs us Q I r h
  obtain ⟨rfl, rfl, h⟩ := h
  exact call_isE C hz hf pins s σ H xs us Q I r h
end
end GA
/-! ## KH -/
namespace Mine
open PySem L2 GA
def top (i : Nat) : Stmt := PySem.Challenge.pw_growalong_k12_whole_what_may_come_next.main.body.getD i (.Pass ⟨0, 0, 0, 0⟩)
abbrev s_BadWeb_init : Stmt := inClass (top 2) 0
abbrev N_BadWeb_init : List Str := ["self", "part"]
abbrev P_BadWeb_init : List Str := ["self", "part"]
theorem sc_BadWeb_init : FnScope N_BadWeb_init P_BadWeb_init (defScope s_BadWeb_init) := ⟨rfl, rfl, rfl, by decide +kernel, rfl, by decide +kernel, by decide +kernel⟩
abbrev s_BadRecord_init : Stmt := inClass (top 3) 0
abbrev N_BadRecord_init : List Str := ["self", "part", "at"]
abbrev P_BadRecord_init : List Str := ["self", "part", "at"]
theorem sc_BadRecord_init : FnScope N_BadRecord_init P_BadRecord_init (defScope s_BadRecord_init) := ⟨rfl, rfl, rfl, by decide +kernel, rfl, by decide +kernel, by decide +kernel⟩
abbrev s_NoMachine_init : Stmt := inClass (top 4) 0
abbrev N_NoMachine_init : List Str := ["self"]
abbrev P_NoMachine_init : List Str := ["self"]
theorem sc_NoMachine_init : FnScope N_NoMachine_init P_NoMachine_init (defScope s_NoMachine_init) := ⟨rfl, rfl, rfl, by decide +kernel, rfl, by decide +kernel, by decide +kernel⟩
abbrev s_OtherMachines_init : Stmt := inClass (top 5) 0
abbrev N_OtherMachines_init : List Str := ["self"]
abbrev P_OtherMachines_init : List Str := ["self"]
theorem sc_OtherMachines_init : FnScope N_OtherMachines_init P_OtherMachines_init (defScope s_OtherMachines_init) := ⟨rfl, rfl, rfl, by decide +kernel, rfl, by decide +kernel, by decide +kernel⟩
abbrev s_NotMade_init : Stmt := inClass (top 6) 0
abbrev N_NotMade_init : List Str := ["self"]
abbrev P_NotMade_init : List Str := ["self"]
theorem sc_NotMade_init : FnScope N_NotMade_init P_NotMade_init (defScope s_NotMade_init) := ⟨rfl, rfl, rfl, by decide +kernel, rfl, by decide +kernel, by decide +kernel⟩
abbrev s_is_integer : Stmt := top 8
abbrev N_is_integer : List Str := ["thing"]
abbrev P_is_integer : List Str := ["thing"]
theorem sc_is_integer : FnScope N_is_integer P_is_integer (defScope s_is_integer) := ⟨rfl, rfl, rfl, by decide +kernel, rfl, by decide +kernel, by decide +kernel⟩
abbrev s_is_between : Stmt := top 9
abbrev N_is_between : List Str := ["low", "high", "thing"]
abbrev P_is_between : List Str := ["low", "high", "thing"]
theorem sc_is_between : FnScope N_is_between P_is_between (defScope s_is_between) := ⟨rfl, rfl, rfl, by decide +kernel, rfl, by decide +kernel, by decide +kernel⟩
abbrev s_is_below : Stmt := top 10
abbrev N_is_below : List Str := ["bound", "thing"]
abbrev P_is_below : List Str := ["bound", "thing"]
theorem sc_is_below : FnScope N_is_below P_is_below (defScope s_is_below) := ⟨rfl, rfl, rfl, by decide +kernel, rfl, by decide +kernel, by decide +kernel⟩
abbrev s_is_tuple_of : Stmt := top 11
abbrev N_is_tuple_of : List Str := ["least", "most", "thing"]
abbrev P_is_tuple_of : List Str := ["least", "most", "thing"]
theorem sc_is_tuple_of : FnScope N_is_tuple_of P_is_tuple_of (defScope s_is_tuple_of) := ⟨rfl, rfl, rfl, by decide +kernel, rfl, by decide +kernel, by decide +kernel⟩
abbrev s_are_below : Stmt := top 12
abbrev N_are_below : List Str := ["bound", "things", "thing"]
abbrev P_are_below : List Str := ["bound", "things"]
theorem sc_are_below : FnScope N_are_below P_are_below (defScope s_are_below) := ⟨rfl, rfl, rfl, by decide +kernel, rfl, by decide +kernel, by decide +kernel⟩
abbrev s_is_unlike_pair : Stmt := top 13
abbrev N_is_unlike_pair : List Str := ["bound", "thing"]
abbrev P_is_unlike_pair : List Str := ["bound", "thing"]
theorem sc_is_unlike_pair : FnScope N_is_unlike_pair P_is_unlike_pair (defScope s_is_unlike_pair) := ⟨rfl, rfl, rfl, by decide +kernel, rfl, by decide +kernel, by decide +kernel⟩
abbrev s_Web_init : Stmt := inClass (top 16) 0
abbrev N_Web_init : List Str := ["self", "machines", "wires", "at"]
abbrev P_Web_init : List Str := ["self", "machines", "wires"]
theorem sc_Web_init : FnScope N_Web_init P_Web_init (defScope s_Web_init) := ⟨rfl, rfl, rfl, by decide +kernel, rfl, by decide +kernel, by decide +kernel⟩
abbrev s_Web_eq : Stmt := inClass (top 16) 1
abbrev N_Web_eq : List Str := ["self", "other"]
abbrev P_Web_eq : List Str := ["self", "other"]
theorem sc_Web_eq : FnScope N_Web_eq P_Web_eq (defScope s_Web_eq) := ⟨rfl, rfl, rfl, by decide +kernel, rfl, by decide +kernel, by decide +kernel⟩
abbrev s_first_wrong_wire : Stmt := top 17
abbrev N_first_wrong_wire : List Str := ["machines", "wires", "at", "wire"]
abbrev P_first_wrong_wire : List Str := ["machines", "wires"]
theorem sc_first_wrong_wire : FnScope N_first_wrong_wire P_first_wrong_wire (defScope s_first_wrong_wire) := ⟨rfl, rfl, rfl, by decide +kernel, rfl, by decide +kernel, by decide +kernel⟩
abbrev s_ways_from : Stmt := top 18
abbrev N_ways_from : List Str := ["machine", "wires", "onward", "y", "x", "found", "queue", "at", "here"]
abbrev P_ways_from : List Str := ["machine", "wires"]
theorem sc_ways_from : FnScope N_ways_from P_ways_from (defScope s_ways_from) := ⟨rfl, rfl, rfl, by decide +kernel, rfl, by decide +kernel, by decide +kernel⟩
abbrev s_check_machine : Stmt := top 19
abbrev N_check_machine : List Str := ["web", "machine"]
abbrev P_check_machine : List Str := ["web", "machine"]
theorem sc_check_machine : FnScope N_check_machine P_check_machine (defScope s_check_machine) := ⟨rfl, rfl, rfl, by decide +kernel, rfl, by decide +kernel, by decide +kernel⟩
abbrev s_Record_init : Stmt := inClass (top 22) 0
abbrev N_Record_init : List Str := ["self", "writers", "diaries"]
abbrev P_Record_init : List Str := ["self", "writers", "diaries"]
theorem sc_Record_init : FnScope N_Record_init P_Record_init (defScope s_Record_init) := ⟨rfl, rfl, rfl, by decide +kernel, rfl, by decide +kernel, by decide +kernel⟩
abbrev s_Record_eq : Stmt := inClass (top 22) 1
abbrev N_Record_eq : List Str := ["self", "other"]
abbrev P_Record_eq : List Str := ["self", "other"]
theorem sc_Record_eq : FnScope N_Record_eq P_Record_eq (defScope s_Record_eq) := ⟨rfl, rfl, rfl, by decide +kernel, rfl, by decide +kernel, by decide +kernel⟩
abbrev s_check_record : Stmt := top 23
abbrev N_check_record : List Str := ["writers", "diaries", "put", "writer", "machine", "diary"]
abbrev P_check_record : List Str := ["writers", "diaries"]
theorem sc_check_record : FnScope N_check_record P_check_record (defScope s_check_record) := ⟨rfl, rfl, rfl, by decide +kernel, rfl, by decide +kernel, by decide +kernel⟩
abbrev s_is_diary : Stmt := top 24
abbrev N_is_diary : List Str := ["puts", "thing"]
abbrev P_is_diary : List Str := ["puts", "thing"]
theorem sc_is_diary : FnScope N_is_diary P_is_diary (defScope s_is_diary) := ⟨rfl, rfl, rfl, by decide +kernel, rfl, by decide +kernel, by decide +kernel⟩
abbrev s_check_machines : Stmt := top 25
abbrev N_check_machines : List Str := ["machines", "record"]
abbrev P_check_machines : List Str := ["machines", "record"]
theorem sc_check_machines : FnScope N_check_machines P_check_machines (defScope s_check_machines) := ⟨rfl, rfl, rfl, by decide +kernel, rfl, by decide +kernel, by decide +kernel⟩
abbrev s_places_in : Stmt := top 27
abbrev N_places_in : List Str := ["diary", "at", "put"]
abbrev P_places_in : List Str := ["diary"]
theorem sc_places_in : FnScope N_places_in P_places_in (defScope s_places_in) := ⟨rfl, rfl, rfl, by decide +kernel, rfl, by decide +kernel, by decide +kernel⟩
abbrev s_grown_over : Stmt := top 28
abbrev N_grown_over : List Str := ["diary", "places", "found", "latest", "put"]
abbrev P_grown_over : List Str := ["diary", "places"]
theorem sc_grown_over : FnScope N_grown_over P_grown_over (defScope s_grown_over) := ⟨rfl, rfl, rfl, by decide +kernel, rfl, by decide +kernel, by decide +kernel⟩
abbrev s_wires_by_put : Stmt := top 29
abbrev N_wires_by_put : List Str := ["web", "record", "places", "wires", "y", "x", "put", "diary", "_"]
abbrev P_wires_by_put : List Str := ["web", "record"]
theorem sc_wires_by_put : FnScope N_wires_by_put P_wires_by_put (defScope s_wires_by_put) := ⟨rfl, rfl, rfl, by decide +kernel, rfl, by decide +kernel, by decide +kernel⟩
abbrev s_holders_by_put : Stmt := top 30
abbrev N_holders_by_put : List Str := ["record", "holders", "machine", "diary", "put", "_"]
abbrev P_holders_by_put : List Str := ["record"]
theorem sc_holders_by_put : FnScope N_holders_by_put P_holders_by_put (defScope s_holders_by_put) := ⟨rfl, rfl, rfl, by decide +kernel, rfl, by decide +kernel, by decide +kernel⟩
abbrev s_bar : Stmt := top 31
abbrev N_bar : List Str := ["web", "record", "wires", "put", "holders", "found", "machine"]
abbrev P_bar : List Str := ["web", "record"]
theorem sc_bar : FnScope N_bar P_bar (defScope s_bar) := ⟨rfl, rfl, rfl, by decide +kernel, rfl, by decide +kernel, by decide +kernel⟩
abbrev s_is_made : Stmt := top 32
abbrev N_is_made : List Str := ["web", "record"]
abbrev P_is_made : List Str := ["web", "record"]
theorem sc_is_made : FnScope N_is_made P_is_made (defScope s_is_made) := ⟨rfl, rfl, rfl, by decide +kernel, rfl, by decide +kernel, by decide +kernel⟩
abbrev s_check_made : Stmt := top 33
abbrev N_check_made : List Str := ["web", "record"]
abbrev P_check_made : List Str := ["web", "record"]
theorem sc_check_made : FnScope N_check_made P_check_made (defScope s_check_made) := ⟨rfl, rfl, rfl, by decide +kernel, rfl, by decide +kernel, by decide +kernel⟩
abbrev s_may_come : Stmt := top 34
abbrev N_may_come : List Str := ["web", "record", "machine", "seen", "missing", "put"]
abbrev P_may_come : List Str := ["web", "record", "machine"]
theorem sc_may_come : FnScope N_may_come P_may_come (defScope s_may_come) := ⟨rfl, rfl, rfl, by decide +kernel, rfl, by decide +kernel, by decide +kernel⟩
abbrev s_can_come : Stmt := top 35
abbrev N_can_come : List Str := ["web", "record", "machine", "put", "seen", "fit", "back", "diary", "y", "x", "known"]
abbrev P_can_come : List Str := ["web", "record", "machine", "put"]
theorem sc_can_come : FnScope N_can_come P_can_come (defScope s_can_come) := ⟨rfl, rfl, rfl, by decide +kernel, rfl, by decide +kernel, by decide +kernel⟩
abbrev s_before : Stmt := top 36
abbrev N_before : List Str := ["diary", "put"]
abbrev P_before : List Str := ["diary", "put"]
theorem sc_before : FnScope N_before P_before (defScope s_before) := ⟨rfl, rfl, rfl, by decide +kernel, rfl, by decide +kernel, by decide +kernel⟩
abbrev s__law_hand : Stmt := top 38
abbrev N__law_hand : List Str := ["_law_script", "_law_cells", "_law_cell"]
abbrev P__law_hand : List Str := ["_law_script"]
theorem sc__law_hand : FnScope N__law_hand P__law_hand (defScope s__law_hand) := ⟨rfl, rfl, rfl, by decide +kernel, rfl, by decide +kernel, by decide +kernel⟩
abbrev s__law_draw : Stmt := top 39
abbrev N__law_draw : List Str := ["_law_hand_here", "_law_many", "_law_cell", "_law_digit", "_law_number"]
abbrev P__law_draw : List Str := ["_law_hand_here", "_law_many"]
theorem sc__law_draw : FnScope N__law_draw P__law_draw (defScope s__law_draw) := ⟨rfl, rfl, rfl, by decide +kernel, rfl, by decide +kernel, by decide +kernel⟩
abbrev s__law_is : Stmt := top 40
abbrev N__law_is : List Str := ["_law_told_here", "_law_due", "_law_one", "_law_two"]
abbrev P__law_is : List Str := ["_law_told_here", "_law_due"]
theorem sc__law_is : FnScope N__law_is P__law_is (defScope s__law_is) := ⟨rfl, rfl, rfl, by decide +kernel, rfl, by decide +kernel, by decide +kernel⟩
abbrev s__law_web : Stmt := top 41
abbrev N__law_web : List Str := ["_law_hand_here", "_law_machines", "_law_kind", "_law_found", "_law_y", "_law_x", "_law_near"]
abbrev P__law_web : List Str := ["_law_hand_here", "_law_machines"]
theorem sc__law_web : FnScope N__law_web P__law_web (defScope s__law_web) := ⟨rfl, rfl, rfl, by decide +kernel, rfl, by decide +kernel, by decide +kernel⟩
abbrev s__law_ran : Stmt := top 42
abbrev N__law_ran : List Str := ["_law_hand_here", "_law_machines", "_law_wires", "_law_writers", "_law_most", "_law_diaries", "_law_wire", "_law_letters", "_law_left", "_law_steps", "_law_more", "_law_turn", "_law_ready", "_law_put", "_law_x", "_law_y", "_law_machine", "_law_diary"]
abbrev P__law_ran : List Str := ["_law_hand_here", "_law_machines", "_law_wires", "_law_writers", "_law_most"]
theorem sc__law_ran : FnScope N__law_ran P__law_ran (defScope s__law_ran) := ⟨rfl, rfl, rfl, by decide +kernel, rfl, by decide +kernel, by decide +kernel⟩
abbrev s__law_come : Stmt := top 43
abbrev N__law_come : List Str := ["_law_letters", "_law_own", "_law_put", "_law_at", "_law_letter"]
abbrev P__law_come : List Str := ["_law_letters", "_law_own", "_law_put"]
theorem sc__law_come : FnScope N__law_come P__law_come (defScope s__law_come) := ⟨rfl, rfl, rfl, by decide +kernel, rfl, by decide +kernel, by decide +kernel⟩
abbrev s__law_can : Stmt := top 44
abbrev N__law_can : List Str := ["_law_machines", "_law_wires", "_law_writers", "_law_diaries", "_law_own", "_law_wire", "_law_letters", "_law_again", "_law_x", "_law_put", "_law_many", "_law_some", "_law_machine", "_law_diary", "_law_pair"]
abbrev P__law_can : List Str := ["_law_machines", "_law_wires", "_law_writers", "_law_diaries"]
theorem sc__law_can : FnScope N__law_can P__law_can (defScope s__law_can) := ⟨rfl, rfl, rfl, by decide +kernel, rfl, by decide +kernel, by decide +kernel⟩
abbrev s__law_bent : Stmt := top 45
abbrev N__law_bent : List Str := ["_law_hand_here", "_law_writers", "_law_diaries", "_law_x", "_law_own", "_law_kind", "_law_at", "_law_others", "_law_lacking", "_law_put"]
abbrev P__law_bent : List Str := ["_law_hand_here", "_law_writers", "_law_diaries"]
theorem sc__law_bent : FnScope N__law_bent P__law_bent (defScope s__law_bent) := ⟨rfl, rfl, rfl, by decide +kernel, rfl, by decide +kernel, by decide +kernel⟩
abbrev s__law_parts : Stmt := top 46
abbrev N__law_parts : List Str := ["_law_hand_here", "_law_most_machines", "_law_most_puts", "_law_machines", "_law_wires", "_law_writers", "_law_diaries", "_law_turn", "_law_put"]
abbrev P__law_parts : List Str := ["_law_hand_here", "_law_most_machines", "_law_most_puts"]
theorem sc__law_parts : FnScope N__law_parts P__law_parts (defScope s__law_parts) := ⟨rfl, rfl, rfl, by decide +kernel, rfl, by decide +kernel, by decide +kernel⟩
abbrev s__law_told : Stmt := top 47
abbrev N__law_told : List Str := ["_law_web_here", "_law_record", "_law_machine", "_law_found", "e"]
abbrev P__law_told : List Str := ["_law_web_here", "_law_record", "_law_machine"]
theorem sc__law_told : FnScope N__law_told P__law_told (defScope s__law_told) := ⟨rfl, rfl, rfl, by decide +kernel, rfl, by decide +kernel, by decide +kernel⟩
abbrev s__law_next : Stmt := top 48
abbrev N__law_next : List Str := ["_law_wires", "_law_diaries", "_law_x", "_law_found", "_law_y", "_law_goal", "_law_at", "_law_put", "_law_other"]
abbrev P__law_next : List Str := ["_law_wires", "_law_diaries", "_law_x"]
theorem sc__law_next : FnScope N__law_next P__law_next (defScope s__law_next) := ⟨rfl, rfl, rfl, by decide +kernel, rfl, by decide +kernel, by decide +kernel⟩
abbrev s__law_all_next : Stmt := top 49
abbrev N__law_all_next : List Str := ["_law_wires", "_law_diaries", "_law_x", "_law_found", "_law_seen", "_law_waiting", "_law_here", "_law_put", "_law_other", "_law_later"]
abbrev P__law_all_next : List Str := ["_law_wires", "_law_diaries", "_law_x"]
theorem sc__law_all_next : FnScope N__law_all_next P__law_all_next (defScope s__law_all_next) := ⟨rfl, rfl, rfl, by decide +kernel, rfl, by decide +kernel, by decide +kernel⟩
abbrev s_law : Stmt := top 50
abbrev N_law : List Str := ["_law_script", "_law_hand_here", "_law_turn", "_law_machines", "_law_wires", "_law_writers", "_law_diaries", "_law_some", "_law_web_here", "_law_record", "_law_is_there", "_law_x", "_law_due", "_law_found", "_law_put"]
abbrev P_law : List Str := ["_law_script"]
theorem sc_law : FnScope N_law P_law (defScope s_law) := ⟨rfl, rfl, rfl, by decide +kernel, rfl, by decide +kernel, by decide +kernel⟩
structure Ads where
  f_NotMade_init : Addr
  d_NotMade_init : FuncData
  f_is_integer : Addr
  d_is_integer : FuncData
  f_is_between : Addr
  d_is_between : FuncData
  f_is_below : Addr
  d_is_below : FuncData
  f_is_tuple_of : Addr
  d_is_tuple_of : FuncData
  f_are_below : Addr
  d_are_below : FuncData
  f_is_unlike_pair : Addr
  d_is_unlike_pair : FuncData
  f_Web_init : Addr
  d_Web_init : FuncData
  f_Web_eq : Addr
  d_Web_eq : FuncData
  f_first_wrong_wire : Addr
  d_first_wrong_wire : FuncData
  f_ways_from : Addr
  d_ways_from : FuncData
  f_check_machine : Addr
  d_check_machine : FuncData
  f_Record_init : Addr
  d_Record_init : FuncData
  f_Record_eq : Addr
  d_Record_eq : FuncData
  f_check_record : Addr
  d_check_record : FuncData
  f_is_diary : Addr
  d_is_diary : FuncData
  f_check_machines : Addr
  d_check_machines : FuncData
  f_places_in : Addr
  d_places_in : FuncData
  f_grown_over : Addr
  d_grown_over : FuncData
  f_wires_by_put : Addr
  d_wires_by_put : FuncData
  f_holders_by_put : Addr
  d_holders_by_put : FuncData
  f_bar : Addr
  d_bar : FuncData
  f_is_made : Addr
  d_is_made : FuncData
  f_check_made : Addr
  d_check_made : FuncData
  f_may_come : Addr
  d_may_come : FuncData
  f_can_come : Addr
  d_can_come : FuncData
  f_before : Addr
  d_before : FuncData
  f__law_hand : Addr
  d__law_hand : FuncData
  f__law_draw : Addr
  d__law_draw : FuncData
  f__law_is : Addr
  d__law_is : FuncData
  f__law_web : Addr
  d__law_web : FuncData
  f__law_ran : Addr
  d__law_ran : FuncData
  f__law_come : Addr
  d__law_come : FuncData
  f__law_can : Addr
  d__law_can : FuncData
  f__law_bent : Addr
  d__law_bent : FuncData
  f__law_parts : Addr
  d__law_parts : FuncData
  f__law_told : Addr
  d__law_told : FuncData
  f__law_next : Addr
  d__law_next : FuncData
  f__law_all_next : Addr
  d__law_all_next : FuncData
  f_law : Addr
  d_law : FuncData
  c_GrowError : Addr
  c_NotMade : Addr
  c_Web : Addr
  c_Record : Addr
  t_MOST_MACHINES : Tok
  t_MOST_PUTS : Tok
structure Txt (K : PySem.W.Frag) (mg : Str → Option Value) (a : Ads) : Prop where
  F_NotMade_init : Fun K "__init__" "NotMade.__init__" s_NotMade_init a.f_NotMade_init a.d_NotMade_init
  b_NotMade_init : Binds K a.d_NotMade_init P_NotMade_init []
  F_is_integer : Fun K "is_integer" "is_integer" s_is_integer a.f_is_integer a.d_is_integer
  b_is_integer : Binds K a.d_is_integer P_is_integer []
  m_is_integer : mg "is_integer" = some (.ref a.f_is_integer)
  F_is_between : Fun K "is_between" "is_between" s_is_between a.f_is_between a.d_is_between
  b_is_between : Binds K a.d_is_between P_is_between []
  m_is_between : mg "is_between" = some (.ref a.f_is_between)
  F_is_below : Fun K "is_below" "is_below" s_is_below a.f_is_below a.d_is_below
  b_is_below : Binds K a.d_is_below P_is_below []
  m_is_below : mg "is_below" = some (.ref a.f_is_below)
  F_is_tuple_of : Fun K "is_tuple_of" "is_tuple_of" s_is_tuple_of a.f_is_tuple_of a.d_is_tuple_of
  b_is_tuple_of : Binds K a.d_is_tuple_of P_is_tuple_of []
  m_is_tuple_of : mg "is_tuple_of" = some (.ref a.f_is_tuple_of)
  F_are_below : Fun K "are_below" "are_below" s_are_below a.f_are_below a.d_are_below
  b_are_below : Binds K a.d_are_below P_are_below []
  m_are_below : mg "are_below" = some (.ref a.f_are_below)
  F_is_unlike_pair : Fun K "is_unlike_pair" "is_unlike_pair" s_is_unlike_pair a.f_is_unlike_pair a.d_is_unlike_pair
  b_is_unlike_pair : Binds K a.d_is_unlike_pair P_is_unlike_pair []
  m_is_unlike_pair : mg "is_unlike_pair" = some (.ref a.f_is_unlike_pair)
  F_Web_init : Fun K "__init__" "Web.__init__" s_Web_init a.f_Web_init a.d_Web_init
  b_Web_init : Binds K a.d_Web_init P_Web_init []
  F_Web_eq : Fun K "__eq__" "Web.__eq__" s_Web_eq a.f_Web_eq a.d_Web_eq
  b_Web_eq : Binds K a.d_Web_eq P_Web_eq []
  F_first_wrong_wire : Fun K "first_wrong_wire" "first_wrong_wire" s_first_wrong_wire a.f_first_wrong_wire a.d_first_wrong_wire
  b_first_wrong_wire : Binds K a.d_first_wrong_wire P_first_wrong_wire []
  m_first_wrong_wire : mg "first_wrong_wire" = some (.ref a.f_first_wrong_wire)
  F_ways_from : Fun K "ways_from" "ways_from" s_ways_from a.f_ways_from a.d_ways_from
  b_ways_from : Binds K a.d_ways_from P_ways_from []
  m_ways_from : mg "ways_from" = some (.ref a.f_ways_from)
  F_check_machine : Fun K "check_machine" "check_machine" s_check_machine a.f_check_machine a.d_check_machine
  b_check_machine : Binds K a.d_check_machine P_check_machine []
  m_check_machine : mg "check_machine" = some (.ref a.f_check_machine)
  F_Record_init : Fun K "__init__" "Record.__init__" s_Record_init a.f_Record_init a.d_Record_init
  b_Record_init : Binds K a.d_Record_init P_Record_init []
  F_Record_eq : Fun K "__eq__" "Record.__eq__" s_Record_eq a.f_Record_eq a.d_Record_eq
  b_Record_eq : Binds K a.d_Record_eq P_Record_eq []
  F_check_record : Fun K "check_record" "check_record" s_check_record a.f_check_record a.d_check_record
  b_check_record : Binds K a.d_check_record P_check_record []
  m_check_record : mg "check_record" = some (.ref a.f_check_record)
  F_is_diary : Fun K "is_diary" "is_diary" s_is_diary a.f_is_diary a.d_is_diary
  b_is_diary : Binds K a.d_is_diary P_is_diary []
  m_is_diary : mg "is_diary" = some (.ref a.f_is_diary)
  F_check_machines : Fun K "check_machines" "check_machines" s_check_machines a.f_check_machines a.d_check_machines
  b_check_machines : Binds K a.d_check_machines P_check_machines []
  m_check_machines : mg "check_machines" = some (.ref a.f_check_machines)
  F_places_in : Fun K "places_in" "places_in" s_places_in a.f_places_in a.d_places_in
  b_places_in : Binds K a.d_places_in P_places_in []
  m_places_in : mg "places_in" = some (.ref a.f_places_in)
  F_grown_over : Fun K "grown_over" "grown_over" s_grown_over a.f_grown_over a.d_grown_over
  b_grown_over : Binds K a.d_grown_over P_grown_over []
  m_grown_over : mg "grown_over" = some (.ref a.f_grown_over)
  F_wires_by_put : Fun K "wires_by_put" "wires_by_put" s_wires_by_put a.f_wires_by_put a.d_wires_by_put
  b_wires_by_put : Binds K a.d_wires_by_put P_wires_by_put []
  m_wires_by_put : mg "wires_by_put" = some (.ref a.f_wires_by_put)
  F_holders_by_put : Fun K "holders_by_put" "holders_by_put" s_holders_by_put a.f_holders_by_put a.d_holders_by_put
  b_holders_by_put : Binds K a.d_holders_by_put P_holders_by_put []
  m_holders_by_put : mg "holders_by_put" = some (.ref a.f_holders_by_put)
  F_bar : Fun K "bar" "bar" s_bar a.f_bar a.d_bar
  b_bar : Binds K a.d_bar P_bar []
  m_bar : mg "bar" = some (.ref a.f_bar)
  F_is_made : Fun K "is_made" "is_made" s_is_made a.f_is_made a.d_is_made
  b_is_made : Binds K a.d_is_made P_is_made []
  m_is_made : mg "is_made" = some (.ref a.f_is_made)
  F_check_made : Fun K "check_made" "check_made" s_check_made a.f_check_made a.d_check_made
  b_check_made : Binds K a.d_check_made P_check_made []
  m_check_made : mg "check_made" = some (.ref a.f_check_made)
  F_may_come : Fun K "may_come" "may_come" s_may_come a.f_may_come a.d_may_come
  b_may_come : Binds K a.d_may_come P_may_come []
  m_may_come : mg "may_come" = some (.ref a.f_may_come)
  F_can_come : Fun K "can_come" "can_come" s_can_come a.f_can_come a.d_can_come
  b_can_come : Binds K a.d_can_come P_can_come []
  m_can_come : mg "can_come" = some (.ref a.f_can_come)
  F_before : Fun K "before" "before" s_before a.f_before a.d_before
  b_before : Binds K a.d_before P_before []
  m_before : mg "before" = some (.ref a.f_before)
  F__law_hand : Fun K "_law_hand" "_law_hand" s__law_hand a.f__law_hand a.d__law_hand
  b__law_hand : Binds K a.d__law_hand P__law_hand []
  m__law_hand : mg "_law_hand" = some (.ref a.f__law_hand)
  F__law_draw : Fun K "_law_draw" "_law_draw" s__law_draw a.f__law_draw a.d__law_draw
  b__law_draw : Binds K a.d__law_draw P__law_draw []
  m__law_draw : mg "_law_draw" = some (.ref a.f__law_draw)
  F__law_is : Fun K "_law_is" "_law_is" s__law_is a.f__law_is a.d__law_is
  b__law_is : Binds K a.d__law_is P__law_is []
  m__law_is : mg "_law_is" = some (.ref a.f__law_is)
  F__law_web : Fun K "_law_web" "_law_web" s__law_web a.f__law_web a.d__law_web
  b__law_web : Binds K a.d__law_web P__law_web []
  m__law_web : mg "_law_web" = some (.ref a.f__law_web)
  F__law_ran : Fun K "_law_ran" "_law_ran" s__law_ran a.f__law_ran a.d__law_ran
  b__law_ran : Binds K a.d__law_ran P__law_ran []
  m__law_ran : mg "_law_ran" = some (.ref a.f__law_ran)
  F__law_come : Fun K "_law_come" "_law_come" s__law_come a.f__law_come a.d__law_come
  b__law_come : Binds K a.d__law_come P__law_come []
  m__law_come : mg "_law_come" = some (.ref a.f__law_come)
  F__law_can : Fun K "_law_can" "_law_can" s__law_can a.f__law_can a.d__law_can
  b__law_can : Binds K a.d__law_can P__law_can []
  m__law_can : mg "_law_can" = some (.ref a.f__law_can)
  F__law_bent : Fun K "_law_bent" "_law_bent" s__law_bent a.f__law_bent a.d__law_bent
  b__law_bent : Binds K a.d__law_bent P__law_bent []
  m__law_bent : mg "_law_bent" = some (.ref a.f__law_bent)
  F__law_parts : Fun K "_law_parts" "_law_parts" s__law_parts a.f__law_parts a.d__law_parts
  b__law_parts : Binds K a.d__law_parts P__law_parts []
  m__law_parts : mg "_law_parts" = some (.ref a.f__law_parts)
  F__law_told : Fun K "_law_told" "_law_told" s__law_told a.f__law_told a.d__law_told
  b__law_told : Binds K a.d__law_told P__law_told []
  m__law_told : mg "_law_told" = some (.ref a.f__law_told)
  F__law_next : Fun K "_law_next" "_law_next" s__law_next a.f__law_next a.d__law_next
  b__law_next : Binds K a.d__law_next P__law_next []
  m__law_next : mg "_law_next" = some (.ref a.f__law_next)
  F__law_all_next : Fun K "_law_all_next" "_law_all_next" s__law_all_next a.f__law_all_next a.d__law_all_next
  b__law_all_next : Binds K a.d__law_all_next P__law_all_next []
  m__law_all_next : mg "_law_all_next" = some (.ref a.f__law_all_next)
  F_law : Fun K "law" "law" s_law a.f_law a.d_law
  b_law : Binds K a.d_law P_law []
  m_law : mg "law" = some (.ref a.f_law)
  m_GrowError : mg "GrowError" = some (.ref a.c_GrowError)
  m_NotMade : mg "NotMade" = some (.ref a.c_NotMade)
  m_Web : mg "Web" = some (.ref a.c_Web)
  m_Record : mg "Record" = some (.ref a.c_Record)
  cl_Web : Cls K a.c_Web
  K_Web : Mk K a.c_Web a.f_Web_init
  ic_Web : C8.InsC K a.c_Web
  eqf_Web : PySem.W.findIn K (.ref a.c_Web) "__eq__" = some (some (.ref a.f_Web_eq))
  eqi_Web : PySem.W.isFn K (.ref a.f_Web_eq) = true
  ne_Web : PySem.W.findIn K (.ref a.c_Web) "__ne__" = some (some (.builtin "object.__ne__"))
  na_Web_machines : NoAttr K a.c_Web "machines"
  na_Web_wires : NoAttr K a.c_Web "wires"
  cl_Record : Cls K a.c_Record
  K_Record : Mk K a.c_Record a.f_Record_init
  ic_Record : C8.InsC K a.c_Record
  eqf_Record : PySem.W.findIn K (.ref a.c_Record) "__eq__" = some (some (.ref a.f_Record_eq))
  eqi_Record : PySem.W.isFn K (.ref a.f_Record_eq) = true
  ne_Record : PySem.W.findIn K (.ref a.c_Record) "__ne__" = some (some (.builtin "object.__ne__"))
  na_Record_writers : NoAttr K a.c_Record "writers"
  na_Record_diaries : NoAttr K a.c_Record "diaries"
  nx : PySem.NmX.NmTxt K a.c_NotMade a.f_NotMade_init
  xc : ExcC K a.c_NotMade
  xm : PySem.W.exmOne K (.ref a.c_NotMade) (.ref a.c_GrowError) = some true
  xs : PySem.W.kitOne K (.ref a.c_NotMade) (.ref a.c_NotMade) = some true
  m_MOST_MACHINES : mg "MOST_MACHINES" = some (.int 7 a.t_MOST_MACHINES)
  m_MOST_PUTS : mg "MOST_PUTS" = some (.int 30 a.t_MOST_PUTS)
  n_isinstance : mg "isinstance" = none
  n_int : mg "int" = none
  n_bool : mg "bool" = none
  n_tuple : mg "tuple" = none
  n_len : mg "len" = none
  n_all : mg "all" = none
  n_enumerate : mg "enumerate" = none
  n_set : mg "set" = none
  n_range : mg "range" = none
  n_any : mg "any" = none
  n_list : mg "list" = none
  n_zip : mg "zip" = none
  n_abs : mg "abs" = none
  n_min : mg "min" = none
  n_dict : mg "dict" = none
  n_max : mg "max" = none
  n_sorted : mg "sorted" = none
end Mine
/-! ## K1 -/
section
open PySem L2 GA
local macro_rules
  | `(tactic| walk_at "w") => `(tactic| first
    | ((with_reducible refine' GA.w_var ?e ?_); (case e => exact rfl))
    | (with_reducible refine' GA.w_c ?_)
    | (with_reducible refine' GA.w_cons ?_)
    | (with_reducible refine' GA.w_nil ?_)
    | (with_reducible refine' GA.w_op ?_)
    | (with_reducible refine' GA.r_I0 ?_)
    | (with_reducible refine' GA.w_bl ?_)
    | (with_reducible refine' GA.w_seq ?_)
    | (with_reducible refine' GA.w_set ?_)
    | (with_reducible refine' GA.w_ret ?_)
    | (with_reducible refine' GA.w_ifS ?_)
    | (with_reducible refine' GA.w_test ?_)
    | (with_reducible refine' GA.w_tB ?_)
    | (with_reducible refine' GA.w_not ?_)
    | (with_reducible refine' GA.w_and ?_)
    | (with_reducible refine' GA.w_or ?_)
    | (with_reducible refine' GA.w_andV ?_)
    | (with_reducible refine' GA.w_orV ?_)
    | (with_reducible refine' GA.w_notV ?_)
    | (with_reducible refine' GA.w_blc ?_)
    | (with_reducible refine' GA.w_if ?_)
    | (with_reducible refine' GA.w_CB ?_)
    | (with_reducible refine' GA.w_call ?_)
    | (with_reducible refine' GA.w_tupN ?_)
    | (with_reducible refine' GA.w_lstN ?_)
    | (with_reducible refine' GA.w_chain ?_)
    | (with_reducible refine' GA.w_drop ?_)
    | (with_reducible refine' GA.w_next ?_)
    | (with_reducible refine' GA.w_break ?_)
    | (with_reducible refine' GA.w_un ?_)
    | (with_reducible refine' GA.r_U ?_)
    | (with_reducible refine' GA.r_eqI ?_)
    | (with_reducible refine' GA.r_neI ?_)
    | (with_reducible refine' GA.r_eqB ?_)
    | (with_reducible refine' GA.r_neB ?_)
    | (with_reducible refine' GA.w_fld ?_)
    | (with_reducible refine' GA.w_sfld ?_)
    | (with_reducible refine' GA.w_sl ?_)
    | (with_reducible refine' GA.w_part ?_)
    | (with_reducible refine' GA.w_noPart ?_)
    | (with_reducible refine' GA.w_inti ?_)
    | (with_reducible refine' GA.w_retN ?_)
    | (with_reducible refine' GA.w_gsub ?_)
    | (with_reducible refine' GA.w_gname ?_)
    | (with_reducible refine' L2.iteT ?_)
    | (with_reducible refine' L2.iteF ?_)
    | (with_reducible refine' GA.w_nt ?_)
    | (with_reducible refine' GA.w_nf ?_)
    | (with_reducible refine' GA.w_isN ?_)
    | (with_reducible refine' GA.w_notN ?_)
    | (with_reducible refine' GA.w_yes ?_)
    | (with_reducible refine' GA.w_lc ?_)
    | (with_reducible refine' GA.w_lc2 ?_)
    | (with_reducible refine' GA.w_iseq ?_)
    | (with_reducible refine' GA.w_make ?_)
    | (with_reducible refine' GA.w_for ?_)
    | (with_reducible refine' GA.w_rng1 ?_)
    | (with_reducible refine' GA.w_rng2 ?_)
    | (with_reducible refine' GA.w_itup ?_)
    | (with_reducible refine' GA.w_ilist ?_)
    | (with_reducible refine' GA.w_ienum ?_)
    | (with_reducible refine' GA.w_BM ?_)
    | (with_reducible refine' GA.w_BM0 ?_)
    | (with_reducible refine' GA.w_izip ?_)
    | (with_reducible refine' GA.w_asg ?_))
  | `(tactic| walk_at "wm") => `(tactic| first
    | ((with_reducible refine' GA.w_var ?e ?_); (case e => exact rfl))
    | (with_reducible refine' GA.w_c ?_)
    | (with_reducible refine' GA.w_cons ?_)
    | (with_reducible refine' GA.w_nil ?_)
    | (with_reducible refine' GA.w_op ?_)
    | (with_reducible refine' GA.r_I0 ?_)
    | (with_reducible refine' GA.w_bl ?_)
    | (with_reducible refine' GA.w_set ?_)
    | (with_reducible refine' GA.w_ret ?_)
    | (with_reducible refine' GA.w_ifS ?_)
    | (with_reducible refine' GA.w_test ?_)
    | (with_reducible refine' GA.w_tB ?_)
    | (with_reducible refine' GA.w_not ?_)
    | (with_reducible refine' GA.w_and ?_)
    | (with_reducible refine' GA.w_or ?_)
    | (with_reducible refine' GA.w_andV ?_)
    | (with_reducible refine' GA.w_orV ?_)
    | (with_reducible refine' GA.w_notV ?_)
    | (with_reducible refine' GA.w_blc ?_)
    | (with_reducible refine' GA.w_if ?_)
    | (with_reducible refine' GA.w_CB ?_)
    | (with_reducible refine' GA.w_call ?_)
    | (with_reducible refine' GA.w_tupN ?_)
    | (with_reducible refine' GA.w_lstN ?_)
    | (with_reducible refine' GA.w_chain ?_)
    | (with_reducible refine' GA.w_drop ?_)
    | (with_reducible refine' GA.w_next ?_)
    | (with_reducible refine' GA.w_break ?_)
    | (with_reducible refine' GA.w_un ?_)
    | (with_reducible refine' GA.r_U ?_)
    | (with_reducible refine' GA.r_eqI ?_)
    | (with_reducible refine' GA.r_neI ?_)
    | (with_reducible refine' GA.r_eqB ?_)
    | (with_reducible refine' GA.r_neB ?_)
    | (with_reducible refine' GA.w_fld ?_)
    | (with_reducible refine' GA.w_sfld ?_)
    | (with_reducible refine' GA.w_sl ?_)
    | (with_reducible refine' GA.w_part ?_)
    | (with_reducible refine' GA.w_noPart ?_)
    | (with_reducible refine' GA.w_inti ?_)
    | (with_reducible refine' GA.w_retN ?_)
    | (with_reducible refine' GA.w_gsub ?_)
    | (with_reducible refine' GA.w_gname ?_)
    | (with_reducible refine' L2.iteT ?_)
    | (with_reducible refine' L2.iteF ?_)
    | (with_reducible refine' GA.w_nt ?_)
    | (with_reducible refine' GA.w_nf ?_)
    | (with_reducible refine' GA.w_isN ?_)
    | (with_reducible refine' GA.w_notN ?_)
    | (with_reducible refine' GA.w_yes ?_)
    | (with_reducible refine' GA.w_lc ?_)
    | (with_reducible refine' GA.w_lc2 ?_)
    | (with_reducible refine' GA.w_iseq ?_)
    | (with_reducible refine' GA.w_make ?_)
    | (with_reducible refine' GA.w_for ?_)
    | (with_reducible refine' GA.w_rng1 ?_)
    | (with_reducible refine' GA.w_rng2 ?_)
    | (with_reducible refine' GA.w_itup ?_)
    | (with_reducible refine' GA.w_ilist ?_)
    | (with_reducible refine' GA.w_ienum ?_)
    | (with_reducible refine' GA.w_BM ?_)
    | (with_reducible refine' GA.w_BM0 ?_)
    | (with_reducible refine' GA.w_izip ?_)
    | (with_reducible refine' GA.w_asg ?_))
  | `(tactic| walk_at "ws") => `(tactic| repeat (walk_at "w"))
  | `(tactic| walk_at "wn") => `(tactic| repeat (walk_at "wm"))


namespace Mine
section
variable {P : Program} {w : World} {K : PySem.W.Frag} {mg : Str → Option Value} {base : Heap} {a : Ads}

theorem tyx_tup {H : Hp} {p : Addr} {xs : List V} (h : SqT K H p xs) : TyX K H (.ref p) (.type "tuple") := by
  rcases h with (h | ⟨o, h⟩) | ⟨o, its, n, h1, h2, _⟩
  · exact .base (.tup h)
  · exact .fTuple h
  · exact .kTuple h1 h2
theorem r_isi {x : V} {t : Value} {n : String} {b : Bool} {H : Hp} {Q : VK} (ty : TyX K H x t) (e : PySem.W.kitOne K t (.type n) = some b) (q : Q (.bl b) H) : rIsi K [x, .ty n] H Q := ⟨x, .ty n, t, .type n, b, rfl, .ty n, ty, e, q⟩
theorem ki_ii : PySem.W.kitOne K (.type "int") (.type "int") = some true := kit_ty (by decide +kernel)
theorem ki_ib : PySem.W.kitOne K (.type "int") (.type "bool") = some false := kit_ty (by decide +kernel)
theorem ki_bb : PySem.W.kitOne K (.type "bool") (.type "bool") = some true := kit_ty (by decide +kernel)
theorem ki_tt : PySem.W.kitOne K (.type "tuple") (.type "tuple") = some true := kit_ty (by decide +kernel)
theorem ki_tb : PySem.W.kitOne K (.type "tuple") (.type "bool") = some false := kit_ty (by decide +kernel)
theorem ki_it : PySem.W.kitOne K (.type "int") (.type "tuple") = some false := kit_ty (by decide +kernel)
theorem ty_int {H : Hp} {i : Int} : TyX K H (.int i) (.type "int") := .base (.int i)
theorem ty_bl {H : Hp} {i : Bool} : TyX K H (.bl i) (.type "bool") := .base (.bl i)
def sp_is_integer : Sp := fun vs H Q _ => ∃ i : Int, vs = [.int i] ∧ Q (.bl true) H
theorem ok_is_integer (T : Txt K mg a) : FnOk P w K mg base CX0 1 a.f_is_integer a.d_is_integer P_is_integer sp_is_integer := by
  refine T.F_is_integer.ok sc_is_integer (fun vs H Q E h => by obtain ⟨i, rfl, _⟩ := h; rfl) (fun cdv A outer s H vs Q E hr h => ?_)
  obtain ⟨i, rfl, k⟩ := h
  refine ⟨_, (pss_one (ps_ret (pe_and (pe_callB call_isi (by rfl) T.n_isinstance (by decide +kernel) (pa_cons (pv 0) (pa_cons (pe_bltn (v := .ty "int") (u := .type "int") rfl T.n_int (by decide +kernel) rfl) pa_nil))) (pe_one (pe_not (pe_callB call_isi (by rfl) T.n_isinstance (by decide +kernel) (pa_cons (pv 0) (pa_cons (pe_bltn (v := .ty "bool") (u := .type "bool") rfl T.n_bool (by decide +kernel) rfl) pa_nil)))))))), ?_⟩
  walk_at "ws"
  refine r_isi ty_int ki_ii ?_
  walk_at "ws"
  refine r_isi ty_int ki_ib ?_
  walk_at "ws"
  exact k

def sp_is_between : Sp := fun vs H Q _ => ∃ lo hi i : Int, vs = [.int lo, .int hi, .int i] ∧ Q (.bl (decide (lo ≤ i) && decide (i ≤ hi))) H
theorem ok_is_between (T : Txt K mg a) : FnOk P w K mg base CX0 2 a.f_is_between a.d_is_between P_is_between sp_is_between := by
  refine T.F_is_between.ok sc_is_between (fun vs H Q E h => by obtain ⟨lo, hi, i, rfl, _⟩ := h; rfl) (fun cdv A outer s H vs Q E hr h => ?_)
  obtain ⟨lo, hi, i, rfl, k⟩ := h
  have G_is_integer : FnOk P w K mg base CX0 1 a.f_is_integer a.d_is_integer P_is_integer sp_is_integer := ok_is_integer T
  refine ⟨_, (pss_one (ps_ret (pe_and (pe_call (G_is_integer) (hr.mono (by omega)) rfl T.m_is_integer T.F_is_integer.kp T.b_is_integer .nil pass0 (pa_cons (pv 2) pa_nil)) (pe_one (pe_chain op_le op_le (pv 0) (pv 2) (pv 1)))))), ?_⟩
  walk_at "ws"
  refine ⟨_, rfl, ?_⟩
  walk_at "ws"
  refine w_ite (fun e => ?_) (fun e => ?_)
  · walk_at "ws"
    rw [e] at k
    exact k
  · rw [e] at k
    exact k

def sp_is_below : Sp := fun vs H Q _ => ∃ b i : Int, vs = [.int b, .int i] ∧ Q (.bl (decide (0 ≤ i) && decide (i < b))) H
theorem ok_is_below (T : Txt K mg a) : FnOk P w K mg base CX0 3 a.f_is_below a.d_is_below P_is_below sp_is_below := by
  refine T.F_is_below.ok sc_is_below (fun vs H Q E h => by obtain ⟨b, i, rfl, _⟩ := h; rfl) (fun cdv A outer s H vs Q E hr h => ?_)
  obtain ⟨b, i, rfl, k⟩ := h
  have G_is_between : FnOk P w K mg base CX0 2 a.f_is_between a.d_is_between P_is_between sp_is_between := ok_is_between T
  refine ⟨_, (pss_one (ps_ret (pe_call (G_is_between) (hr.mono (by omega)) rfl T.m_is_between T.F_is_between.kp T.b_is_between .nil pass0 (pa_cons pe_int (pa_cons (pe_op op_sub (pv 0) pe_int) (pa_cons (pv 1) pa_nil)))))), ?_⟩
  walk_at "ws"
  refine ⟨_, _, _, rfl, ?_⟩
  have e : decide (i ≤ b - 1) = decide (i < b) := by simp only [decide_eq_decide]; omega
  rw [e]
  exact k

def sp_is_tuple_of (K : PySem.W.Frag) : Sp := fun vs H Q _ => ∃ (lo hi : Int) (p : Addr) (xs : List V), vs = [.int lo, .int hi, .ref p] ∧ SqT K H p xs ∧ Q (.bl (decide (lo ≤ xs.length) && decide ((xs.length : Int) ≤ hi))) H
theorem ok_is_tuple_of (T : Txt K mg a) : FnOk P w K mg base CX0 1 a.f_is_tuple_of a.d_is_tuple_of P_is_tuple_of (sp_is_tuple_of K) := by
  refine T.F_is_tuple_of.ok sc_is_tuple_of (fun vs H Q E h => by obtain ⟨lo, hi, p, xs, rfl, _⟩ := h; rfl) (fun cdv A outer s H vs Q E hr h => ?_)
  obtain ⟨lo, hi, p, xs, rfl, hx, k⟩ := h
  refine ⟨_, (pss_one (ps_ret (pe_and (pe_callB call_isi (by rfl) T.n_isinstance (by decide +kernel) (pa_cons (pv 2) (pa_cons (pe_bltn (v := .ty "tuple") (u := .type "tuple") rfl T.n_tuple (by decide +kernel) rfl) pa_nil))) (pe_one (pe_chain op_le op_le (pv 0) (pe_callB call_len_seq (by rfl) T.n_len (by decide +kernel) (pa_cons (pv 2) pa_nil)) (pv 1)))))), ?_⟩
  walk_at "ws"
  refine r_isi (tyx_tup hx) ki_tt ?_
  walk_at "ws"
  refine ⟨_, _, rfl, .inr hx, ?_⟩
  walk_at "ws"
  refine w_ite (fun e => ?_) (fun e => ?_)
  · walk_at "ws"
    rw [e] at k
    exact k
  · rw [e] at k
    exact k

end
end Mine
/-! ## K2 -/


namespace Mine
section
variable {P : Program} {w : World} {K : PySem.W.Frag} {mg : Str → Option Value} {base : Heap} {a : Ads}

/-! ### are_below, is_unlike_pair -/
def inB (b : Int) (n : Int) : Bool := decide (0 ≤ n) && decide (n < b)
def sp_are_below (K : PySem.W.Frag) : Sp := fun vs H Q _ => ∃ (b : Int) (p : Addr) (ns : List Int), vs = [.int b, .ref p] ∧ SqT K H p (ns.map V.int) ∧ ns.length ≤ 100000 ∧ ∀ H', G none H H' → Q (.bl (ns.all (inB b))) H'
theorem ok_are_below (T : Txt K mg a) : FnOk P w K mg base CX0 4 a.f_are_below a.d_are_below P_are_below (sp_are_below K) := by
  refine T.F_are_below.ok sc_are_below (fun vs H Q E h => by obtain ⟨b, p, ns, rfl, _⟩ := h; rfl) (fun cdv A outer s H vs Q E hr h => ?_)
  obtain ⟨b, p, ns, rfl, hx, hz, k⟩ := h
  have G_is_below : FnOk P w K mg base CX0 3 a.f_is_below a.d_is_below P_is_below sp_is_below := ok_is_below T
  refine ⟨_, (pss_one (ps_ret (pe_callB (cr_all rfl) (by rfl) T.n_all (by decide +kernel) (pa_cons (pe_lc (own := [("thing", 2)]) (g := (gName 2)) (tt := tYes) rfl sc_are_below.nd (pi_tup (pv 1)) (blkOk_by (N := N_are_below) (sc := defScope s_are_below) (by decide +kernel)) (fun _ _ _ _ _ => (pg_name (i := 2) sc_are_below.nd rfl (by first | exact Or.inl rfl | exact Or.inr rfl))) (fun _ _ _ _ _ => pts_nil) (fun _ _ _ _ _ => (pe_call (G_is_below) (hr.mono (by omega)) rfl T.m_is_below T.F_is_below.kp T.b_is_below .nil pass0 (pa_cons (pv 0) (pa_cons (pv 2) pa_nil))))) pa_nil)))), ?_⟩
  walk_at "ws"
  refine i_tup hx ?_
  intro D hD
  refine lc_pure (K := K) (o := none) walk_tup (by rw [List.length_map]; exact hz) hD (fun _ e => nomatch e) (fun i => ns[i]?.map fun n => .bool (inB b n)) (fun H' g => sqT_t g.tups hx) ?_ ?_
  · rintro i x H1 H2 hi g ⟨rfl, hx1⟩ Qy Qn ky kn
    obtain ⟨n, hn, rfl⟩ : ∃ n, ns[i]? = some n ∧ V.int n = x := by
      rw [List.getElem?_map] at hx1; exact Option.map_eq_some_iff.mp hx1
    walk_at "ws"
    refine ⟨rfl, ?_⟩
    walk_at "ws"
    refine ⟨_, _, rfl, ky _ _ _ G.refl (.bl _) rfl (by rw [hn]; rfl)⟩
  · intro xs H' g hD' hds _
    rw [List.length_map, filterMap_range_map] at hds
    have e : xs = (ns.map (inB b)).map V.bl := by
      clear hD' g
      generalize ns = l at hds
      induction l generalizing xs with
      | nil => cases hds; rfl
      | cons n l ih =>
        cases hds with
        | cons h t => cases h; rw [ih _ t]; rfl
    subst e
    walk_at "ws"
    refine ⟨D, ns.map (inB b), rfl, SqL.of hD', ?_⟩
    have e : (ns.map (inB b)).all id = ns.all (inB b) := by rw [List.all_map]; rfl
    rw [e]
    exact k _ g

end
end Mine
/-! ## K3 -/


namespace Mine
section
variable {P : Program} {w : World} {K : PySem.W.Frag} {mg : Str → Option Value} {base : Heap} {a : Ads}

/-! ### records -/
/-- a tuple of tuples of ints, each with its object known -/
def Dia (K : PySem.W.Frag) (H : Hp) (p : Addr) (ds : List (List Int)) : Prop := ∃ bs : List Addr, SqT K H p (bs.map V.ref) ∧ bs.length = ds.length ∧ ∀ (i : Nat) (b : Addr) (d : List Int), bs[i]? = some b → ds[i]? = some d → FrzT H b (d.map V.int)
theorem Dia.g {H H' : Hp} {p : Addr} {ds : List (List Int)} {o : Option (Addr × Addr)} (h : Dia K H p ds) (g : G o H H') (hh : ∀ q, o = some q → Hand H q.1 q.2) : Dia K H' p ds := by
  obtain ⟨bs, h1, h2, h3⟩ := h
  refine ⟨bs, sqT_t g.tups h1, h2, fun i b d e1 e2 => ?_⟩
  obtain ⟨ob, q1, q2⟩ := h3 i b d e1 e2
  refine ⟨ob, g.keep b _ (fun q e => ?_) q1, q2⟩
  obtain ⟨_, _, _, _, _, _, z, _⟩ := hh q e
  exact ne_of q1 z (by intro z; cases z)
theorem Dia.n {H H' : Hp} {p : Addr} {ds : List (List Int)} (h : Dia K H p ds) (g : G none H H') : Dia K H' p ds := h.g g fun _ e => nomatch e
theorem Dia.at_ {H : Hp} {p : Addr} {bs : List Addr} {ds : List (List Int)} (h2 : bs.length = ds.length) (h3 : ∀ (i : Nat) (b : Addr) (d : List Int), bs[i]? = some b → ds[i]? = some d → FrzT H b (d.map V.int)) {i : Nat} {x : V} (e : (bs.map V.ref)[i]? = some x) :
    ∃ b d, x = .ref b ∧ bs[i]? = some b ∧ ds[i]? = some d ∧ FrzT H b (d.map V.int) := by
  rw [List.getElem?_map] at e
  obtain ⟨b, hb, rfl⟩ := Option.map_eq_some_iff.mp e
  have hi := (List.getElem?_eq_some_iff.mp hb).1
  exact ⟨b, ds[i], rfl, hb, List.getElem?_eq_getElem (by omega), h3 i b _ hb (List.getElem?_eq_getElem (by omega))⟩
structure IsRec (ws : List Int) (ds : List (List Int)) : Prop where
  m1 : 1 ≤ ds.length
  m7 : ds.length ≤ 7
  p30 : ws.length ≤ 30
  wr : ∀ w ∈ ws, 0 ≤ w ∧ w < ds.length
  nd : ∀ d ∈ ds, d.Nodup
  rng : ∀ d ∈ ds, ∀ p ∈ d, 0 ≤ p ∧ p < ws.length
  own : ∀ (p : Nat) (w : Int) (d : List Int), ws[p]? = some w → ds[w.toNat]? = some d → (p : Int) ∈ d
theorem diary_len {n : Nat} {d : List Int} (nd : d.Nodup) (h : ∀ p ∈ d, 0 ≤ p ∧ p < (n : Int)) : d.length ≤ n := by
  have := List.Nodup.length_le_of_subset (l₂ := (List.range n).map fun (i : Nat) => (i : Int)) nd fun x hx => by
    have := h x hx
    exact List.mem_map.mpr ⟨x.toNat, List.mem_range.mpr (by omega), by omega⟩
  simpa using this
def sp_is_diary (K : PySem.W.Frag) : Sp := fun vs H Q _ => ∃ (n : Int) (p : Addr) (d : List Int), vs = [.int n, .ref p] ∧ SqT K H p (d.map V.int) ∧ (∀ x ∈ d, 0 ≤ x ∧ x < n) ∧ d.Nodup ∧ d.length ≤ 1000 ∧ ∀ H', G none H H' → Q (.bl true) H'
theorem ok_is_diary (T : Txt K mg a) : FnOk P w K mg base CX0 5 a.f_is_diary a.d_is_diary P_is_diary (sp_is_diary K) := by
  refine T.F_is_diary.ok sc_is_diary (fun vs H Q E h => by obtain ⟨n, p, d, rfl, _⟩ := h; rfl) (fun cdv A outer s H vs Q E hr h => ?_)
  obtain ⟨n, p, d, rfl, hp, hd, nd, hz, k⟩ := h
  have G_are_below : FnOk P w K mg base CX0 4 a.f_are_below a.d_are_below P_are_below (sp_are_below K) := ok_are_below T
  refine ⟨_, (pss_one (ps_ret (pe_and (pe_callB call_isi (by rfl) T.n_isinstance (by decide +kernel) (pa_cons (pv 1) (pa_cons (pe_bltn (v := .ty "tuple") (u := .type "tuple") rfl T.n_tuple (by decide +kernel) rfl) pa_nil))) (pe_and (pe_call (G_are_below) (hr.mono (by omega)) rfl T.m_are_below T.F_are_below.kp T.b_are_below .nil pass0 (pa_cons (pv 0) (pa_cons (pv 1) pa_nil))) (pe_one (pe_cmpR op_eq (pe_lenSetTI rfl (by rfl) T.n_len (by rfl) T.n_set (pv 1)) (pe_callB call_len_seq (by rfl) T.n_len (by decide +kernel) (pa_cons (pv 1) pa_nil)) (nomark _))))))), ?_⟩
  walk_at "ws"
  refine r_isi (tyx_tup hp) ki_tt ?_
  walk_at "ws"
  refine ⟨n, p, d, rfl, hp, by omega, fun H1 g1 => ?_⟩
  have e1 : d.all (inB n) = true := by
    rw [List.all_eq_true]
    intro x hx
    have := hd x hx
    simp only [inB, Bool.and_eq_true, decide_eq_true_eq]
    exact this
  rw [e1]
  walk_at "ws"
  refine ⟨.ref p, rfl, p, d, rfl, sqT_t g1.tups hp, hz, nd, ?_⟩
  walk_at "ws"
  refine ⟨p, _, rfl, .inr (sqT_t g1.tups hp), ?_⟩
  walk_at "ws"
  rw [List.length_map, decide_eq_true (rfl : (d.length : Int) = d.length)]
  exact k _ g1

def sp_check_record (K : PySem.W.Frag) : Sp := fun vs H Q _ => ∃ (wp dp : Addr) (ws : List Int) (ds : List (List Int)), vs = [.ref wp, .ref dp] ∧ SqT K H wp (ws.map V.int) ∧ Dia K H dp ds ∧ IsRec ws ds ∧ ∀ H', G none H H' → Q .non H'
theorem ok_check_record (T : Txt K mg a) : FnOk P w K mg base CX0 6 a.f_check_record a.d_check_record P_check_record (sp_check_record K) := by
  refine T.F_check_record.ok sc_check_record (fun vs H Q E h => by obtain ⟨wp, dp, ws, ds, rfl, _⟩ := h; rfl) (fun cdv A outer s H vs Q E hr h => ?_)
  obtain ⟨wp, dp, ws, ds, rfl, hw, hdia, rec, k⟩ := h
  have G_is_tuple_of : FnOk P w K mg base CX0 1 a.f_is_tuple_of a.d_is_tuple_of P_is_tuple_of (sp_is_tuple_of K) := ok_is_tuple_of T
  have G_is_below : FnOk P w K mg base CX0 3 a.f_is_below a.d_is_below P_is_below sp_is_below := ok_is_below T
  have G_is_diary : FnOk P w K mg base CX0 5 a.f_is_diary a.d_is_diary P_is_diary (sp_is_diary K) := ok_is_diary T
  obtain ⟨bs, hbs, lb, hb⟩ := hdia
  have m1 := rec.m1
  have m7 := rec.m7
  have p30 := rec.p30
  refine ⟨_, (pss_cons (ps_if (pt_not (pt_val (pe_call (G_is_tuple_of) (hr.mono (by omega)) rfl T.m_is_tuple_of T.F_is_tuple_of.kp T.b_is_tuple_of .nil pass0 (pa_cons pe_int (pa_cons (pe_glob (v := .int 7) rfl T.m_MOST_MACHINES ⟨_, rfl⟩) (pa_cons (pv 1) pa_nil))))))
    pss_never
    pss_nil)
  (pss_cons (ps_if (pt_not (pt_val (pe_call (G_is_tuple_of) (hr.mono (by omega)) rfl T.m_is_tuple_of T.F_is_tuple_of.kp T.b_is_tuple_of .nil pass0 (pa_cons pe_int (pa_cons (pe_glob (v := .int 30) rfl T.m_MOST_PUTS ⟨_, rfl⟩) (pa_cons (pv 0) pa_nil))))))
    pss_never
    pss_nil)
  (pss_cons (ps_for PassesOwn.never rfl (pi_enumT (by rfl) T.n_enumerate (pa_cons (pv 0) pa_nil)) (pg_tup rfl (pgs_cons (pg_name (i := 2) sc_check_record.nd rfl (Or.inl rfl)) (pgs_cons (pg_name (i := 3) sc_check_record.nd rfl (Or.inl rfl)) pgs_nil)))
    (pss_one (ps_if (pt_not (pt_val (pe_call (G_is_below) (hr.mono (by omega)) rfl T.m_is_below T.F_is_below.kp T.b_is_below .nil pass0 (pa_cons (pe_callB call_len_seq (by rfl) T.n_len (by decide +kernel) (pa_cons (pv 1) pa_nil)) (pa_cons (pv 3) pa_nil)))))
    pss_never
    pss_nil)))
  (pss_cons (ps_for PassesOwn.never rfl (pi_enumT (by rfl) T.n_enumerate (pa_cons (pv 1) pa_nil)) (pg_tup rfl (pgs_cons (pg_name (i := 4) sc_check_record.nd rfl (Or.inl rfl)) (pgs_cons (pg_name (i := 5) sc_check_record.nd rfl (Or.inl rfl)) pgs_nil)))
    (pss_one (ps_if (pt_not (pt_val (pe_call (G_is_diary) (hr.mono (by omega)) rfl T.m_is_diary T.F_is_diary.kp T.b_is_diary .nil pass0 (pa_cons (pe_callB call_len_seq (by rfl) T.n_len (by decide +kernel) (pa_cons (pv 0) pa_nil)) (pa_cons (pv 5) pa_nil)))))
    pss_never
    pss_nil)))
  (pss_one (ps_for PassesOwn.never rfl (pi_enumT (by rfl) T.n_enumerate (pa_cons (pv 0) pa_nil)) (pg_tup rfl (pgs_cons (pg_name (i := 2) sc_check_record.nd rfl (Or.inl rfl)) (pgs_cons (pg_name (i := 3) sc_check_record.nd rfl (Or.inl rfl)) pgs_nil)))
    (pss_one (ps_if (pt_cmpR op_notIn_seq (pv 2) (pe_ix ix_tup (pv 1) (pv 3) (fun _ _ => rfl)) (by rfl))
    pss_never
    pss_nil)))))))), ?_⟩
  walk_at "ws"
  refine ⟨1, 7, dp, _, rfl, hbs, ?_⟩
  have q1 : (1 : Int) ≤ (bs.length : Int) := by omega
  have q2 : (bs.length : Int) ≤ 7 := by omega
  rw [List.length_map, decide_eq_true q1, decide_eq_true q2, Bool.and_self]
  walk_at "ws"
  refine ⟨0, 30, wp, _, rfl, hw, ?_⟩
  have q3 : (0 : Int) ≤ (ws.length : Int) := by omega
  have q4 : (ws.length : Int) ≤ 30 := by omega
  rw [List.length_map, decide_eq_true q3, decide_eq_true q4, Bool.and_self]
  walk_at "ws"
  refine i_enum hw ?_
  refine for_it (walk_enumT (xs := ws.map V.int)) (fun i σ H1 => G none H H1 ∧ ∃ u2 u3 u4 u5, σ = [some (.ref wp), some (.ref dp), u2, u3, u4, u5]) ⟨G.refl, _, _, _, _, rfl⟩ (fun i σ H1 _ h => sqT_t h.1.tups hw) ?_ ?_
  · rintro i x σ H1 H2 hi ⟨g1, u2, u3, u4, u5, rfl⟩ ⟨t, y, z, rfl, ht, rfl, ey, ez⟩
    cases Option.some.inj ey
    have g2 : G none H1 (upd H1 t (.tup [.int (i : Nat), z])) := G.alloc ht
    refine ⟨t, _, rfl, SqT.of upd_same, rfl, ?_⟩
    refine ⟨_, _, rfl, ?_⟩
    walk_at "ws"
    refine ⟨_, _, rfl, ?_⟩
    walk_at "ws"
    refine ⟨rfl, ?_⟩
    generalize upd H1 t (.tup [.int (i : Nat), z]) = H2 at g2 ⊢
    have g02 := g1.trans g2
    have ez : (ws.map V.int)[i]? = some z := ez
    rw [List.getElem?_map] at ez
    obtain ⟨w0, hw0, rfl⟩ := Option.map_eq_some_iff.mp ez
    have wm := rec.wr w0 (List.mem_of_getElem? hw0)
    walk_at "ws"
    refine ⟨dp, _, rfl, .inr (sqT_t g02.tups hbs), ?_⟩
    walk_at "ws"
    rw [List.length_map]
    refine ⟨_, _, rfl, ?_⟩
    have q5 : w0 < (bs.length : Int) := by omega
    rw [decide_eq_true wm.1, decide_eq_true q5, Bool.and_self]
    walk_at "ws"
    exact ⟨g02, _, _, _, _, rfl⟩
  rintro σ H1 ⟨g1, u2, u3, u4, u5, rfl⟩
  walk_at "ws"
  refine i_enum (sqT_t g1.tups hbs) ?_
  refine for_it (walk_enumT (xs := bs.map V.ref)) (fun i σ H1 => G none H H1 ∧ ∃ u2 u3 u4 u5, σ = [some (.ref wp), some (.ref dp), u2, u3, u4, u5]) ⟨g1, _, _, _, _, rfl⟩ (fun i σ H1 _ h => sqT_t h.1.tups hbs) ?_ ?_
  · rintro i x σ H2 H3 hi ⟨g2, u2, u3, u4, u5, rfl⟩ ⟨t, y, z, rfl, ht, rfl, ey, ez⟩
    cases Option.some.inj ey
    have g3 : G none H2 (upd H2 t (.tup [.int (i : Nat), z])) := G.alloc ht
    refine ⟨t, _, rfl, SqT.of upd_same, rfl, ?_⟩
    refine ⟨_, _, rfl, ?_⟩
    walk_at "ws"
    refine ⟨_, _, rfl, ?_⟩
    walk_at "ws"
    refine ⟨rfl, ?_⟩
    generalize upd H2 t (.tup [.int (i : Nat), z]) = H3 at g3 ⊢
    have g03 := g2.trans g3
    obtain ⟨b, d, rfl, hbi, hdi, hf⟩ := Dia.at_ (p := dp) lb hb ez
    walk_at "ws"
    refine ⟨wp, _, rfl, .inr (sqT_t g03.tups hw), ?_⟩
    walk_at "ws"
    rw [List.length_map]
    have dm := List.mem_of_getElem? hdi
    refine ⟨_, b, d, rfl, (hf.n g03).sq, rec.rng d dm, rec.nd d dm, by have := diary_len (rec.nd d dm) (rec.rng d dm); omega, fun H4 g4 => ?_⟩
    walk_at "ws"
    exact ⟨g03.trans g4, _, _, _, _, rfl⟩
  rintro σ H2 ⟨g2, u2, u3, u4, u5, rfl⟩
  walk_at "ws"
  refine i_enum (sqT_t g2.tups hw) ?_
  refine for_it (walk_enumT (xs := ws.map V.int)) (fun i σ H1 => G none H H1 ∧ ∃ u2 u3 u4 u5, σ = [some (.ref wp), some (.ref dp), u2, u3, u4, u5]) ⟨g2, _, _, _, _, rfl⟩ (fun i σ H1 _ h => sqT_t h.1.tups hw) ?_ ?_
  · rintro i x σ H3 H4 hi ⟨g3, u2, u3, u4, u5, rfl⟩ ⟨t, y, z, rfl, ht, rfl, ey, ez⟩
    cases Option.some.inj ey
    have g4 : G none H3 (upd H3 t (.tup [.int (i : Nat), z])) := G.alloc ht
    refine ⟨t, _, rfl, SqT.of upd_same, rfl, ?_⟩
    refine ⟨_, _, rfl, ?_⟩
    walk_at "ws"
    refine ⟨_, _, rfl, ?_⟩
    walk_at "ws"
    refine ⟨rfl, ?_⟩
    generalize upd H3 t (.tup [.int (i : Nat), z]) = H4 at g4 ⊢
    have g04 := g3.trans g4
    have ez : (ws.map V.int)[i]? = some z := ez
    rw [List.getElem?_map] at ez
    obtain ⟨w0, hw0, rfl⟩ := Option.map_eq_some_iff.mp ez
    have wm := rec.wr w0 (List.mem_of_getElem? hw0)
    obtain ⟨b, hbw⟩ : ∃ b, bs[w0.toNat]? = some b := ⟨_, List.getElem?_eq_getElem (by omega)⟩
    obtain ⟨d, hdw⟩ : ∃ d, ds[w0.toNat]? = some d := ⟨_, List.getElem?_eq_getElem (by omega)⟩
    have hf := (hb _ _ _ hbw hdw).n g04
    walk_at "ws"
    refine r_ixT (sqT_t g04.tups hbs) (v := .ref b) (at_of (j := w0.toNat) (by omega) (by rw [List.getElem?_map, hbw]; rfl)) ?_
    walk_at "ws"
    refine ⟨b, _, rfl, .inr hf.sq, rfl, by rw [List.all_map, List.all_eq_true]; intro q _; rfl, ?_⟩
    have ein : inV (.int (i : Nat)) (d.map V.int) = true := by
      unfold inV
      rw [List.any_map, List.any_eq_true]
      exact ⟨_, rec.own i w0 d hw0 hdw, by simp [eqV]⟩
    rw [ein]
    walk_at "ws"
    exact ⟨g04, _, _, _, _, rfl⟩
  rintro σ H3 ⟨g3, u2, u3, u4, u5, rfl⟩
  exact k _ g3

end
end Mine
/-! ## K4 -/


namespace Mine
section
variable {P : Program} {w : World} {K : PySem.W.Frag} {mg : Str → Option Value} {base : Heap} {a : Ads}

/-! ### a record as an instance -/
theorem wd_ : ¬ (("writers" : Str) = "diaries") := by decide +kernel
theorem dw_ : ¬ (("diaries" : Str) = "writers") := by decide +kernel
def rf (w d : V) : List (Str × V) := [("writers", w), ("diaries", d)]
theorem rf_w (w d : V) : (rf w d).lookup ("writers" : Str) = some w := by simp [rf, List.lookup]
theorem rf_d (w d : V) : (rf w d).lookup ("diaries" : Str) = some d := by
  have e : (("diaries" : Str) == "writers") = false := by simpa using dw_
  simp [rf, List.lookup, e]
theorem rput0 (w : V) : putF "writers" w [] = [(("writers" : Str), w)] := rfl
theorem rput1 (w d : V) : putF "diaries" d [(("writers" : Str), w)] = rf w d := by
  show (if ("writers" : Str) = "diaries" then _ else (("writers" : Str), w) :: putF "diaries" d []) = _
  rw [if_neg wd_]; rfl
def RecAt (K : PySem.W.Frag) (C : Addr) (H : Hp) (x : Addr) (ws : List Int) (ds : List (List Int)) : Prop := ∃ (dx wp dp : Addr), H x = some (.ins C dx (rf (.ref wp) (.ref dp))) ∧ SqT K H wp (ws.map V.int) ∧ Dia K H dp ds
theorem RecAt.n {C x : Addr} {ws : List Int} {ds : List (List Int)} {H H' : Hp} (h : RecAt K C H x ws ds) (g : G none H H') : RecAt K C H' x ws ds := by
  obtain ⟨dx, wp, dp, h1, h2, h3⟩ := h
  exact ⟨dx, wp, dp, g.all x _ h1, sqT_t g.tups h2, h3.n g⟩
theorem r_fld {o : Addr} {C dx : Addr} {fs : List (Str × V)} {v : V} {f : Str} {H : Hp} {F : V → Prop} (e : H o = some (.ins C dx fs)) (c : Cls K C) (n : NoAttr K C f) (l : fs.lookup f = some v) (q : F v) :
    ∃ a C dx fs v, V.ref o = .ref a ∧ H a = some (.ins C dx fs) ∧ Cls K C ∧ NoAttr K C f ∧ fs.lookup f = some v ∧ F v := ⟨o, C, dx, fs, v, rfl, e, c, n, l, q⟩
theorem r_sfld {o : Addr} {C dx : Addr} {fs : List (Str × V)} {F : Hp → Prop} {f : Str} {y : V} {H : Hp} (e : H o = some (.ins C dx fs)) (c : Cls K C) (n : NoAttr K C f) (l : fs.length < 1000) (q : F (upd H o (.ins C dx (putF f y fs)))) :
    ∃ a C dx fs, V.ref o = .ref a ∧ H a = some (.ins C dx fs) ∧ Cls K C ∧ NoAttr K C f ∧ fs.length < 1000 ∧ F (upd H a (.ins C dx (putF f y fs))) := ⟨o, C, dx, fs, rfl, e, c, n, l, q⟩
theorem ts_updI {H : Hp} {x C dx : Addr} {fs : List (Str × V)} {u : HO} (h : H x = some (.ins C dx fs)) : Ts H (upd H x u) := fun a xs e => by
  rcases e with e | ⟨ob, e⟩
  · exact .inl (by rw [upd_ne (ne_of e h (by intro z; cases z))]; exact e)
  · exact .inr ⟨ob, by rw [upd_ne (ne_of e h (by intro z; cases z))]; exact e⟩
def sp_Record_init (K : PySem.W.Frag) (C : Addr) : Sp := fun vs H Q _ => ∃ (x dx wp dp : Addr) (ws : List Int) (ds : List (List Int)), vs = [.ref x, .ref wp, .ref dp] ∧ H x = some (.ins C dx []) ∧ SqT K H wp (ws.map V.int) ∧ Dia K H dp ds ∧ IsRec ws ds ∧
  ∀ H', (∀ b u, b ≠ x → H b = some u → H' b = some u) → H' x = some (.ins C dx (rf (.ref wp) (.ref dp))) → Q .non H'
theorem ok_Record_init (T : Txt K mg a) : FnOk P w K mg base CX0 7 a.f_Record_init a.d_Record_init P_Record_init (sp_Record_init K a.c_Record) := by
  refine T.F_Record_init.ok sc_Record_init (fun vs H Q E h => by obtain ⟨x, dx, wp, dp, ws, ds, rfl, _⟩ := h; rfl) (fun cdv A outer s H vs Q E hr h => ?_)
  obtain ⟨x, dx, wp, dp, ws, ds, rfl, hxi, hw, hd, rec, k⟩ := h
  have G_check_record : FnOk P w K mg base CX0 6 a.f_check_record a.d_check_record P_check_record (sp_check_record K) := ok_check_record T
  refine ⟨_, (pss_cons (ps_expr (pe_call (G_check_record) (hr.mono (by omega)) rfl T.m_check_record T.F_check_record.kp T.b_check_record .nil pass0 (pa_cons (pv 1) (pa_cons (pv 2) pa_nil))))
  (pss_cons (ps_fld (pv 0) (pv 1) rfl)
  (pss_one (ps_fld (pv 0) (pv 2) rfl)))), ?_⟩
  walk_at "ws"
  refine ⟨wp, dp, ws, ds, rfl, hw, hd, rec, fun H1 g1 => ?_⟩
  walk_at "ws"
  have h1 := g1.all _ _ hxi
  refine r_sfld h1 T.cl_Record T.na_Record_writers (by show 0 < 1000; decide) ?_
  walk_at "ws"
  refine r_sfld upd_same T.cl_Record T.na_Record_diaries (by rw [rput0]; show 1 < 1000; decide) ?_
  rw [rput0, rput1]
  refine k _ (fun b u n e => ?_) upd_same
  rw [upd_ne n, upd_ne n]; exact g1.all _ _ e

theorem rec_new {C : Addr} {H1 : Hp} {wp dp : Addr} {ws : List Int} {ds : List (List Int)} {F : Addr → Hp → Prop} {E : XK} (hw : SqT K H1 wp (ws.map V.int)) (hd : Dia K H1 dp ds) (rec : IsRec ws ds) (q : ∀ x H2, H1 x = none → (∀ o, G o H1 H2) → RecAt K C H2 x ws ds → F x H2) :
    ∀ x dx, H1 x = none → H1 dx = none → dx ≠ x → sp_Record_init K C (.ref x :: ([.ref wp, .ref dp] ++ [])) (upd (upd H1 dx (.own x)) x (.ins C dx [])) (fun v H2 => v = .non ∧ F x H2) E := by
  intro x dx hx hdx nex
  have hxi : (upd (upd H1 dx (.own x)) x (.ins C dx [])) x = some (.ins C dx []) := upd_same
  have k12 : ∀ a u, H1 a = some u → (upd (upd H1 dx (.own x)) x (.ins C dx [])) a = some u := fun a u e => by
    rw [upd_ne (ne_of_none e hx), upd_ne (ne_of_none e hdx)]; exact e
  have g12 : G none H1 (upd (upd H1 dx (.own x)) x (.ins C dx [])) := G.of_all k12
  refine ⟨x, dx, wp, dp, ws, ds, rfl, hxi, sqT_t g12.tups hw, hd.n g12, rec, fun H2 k2 h2 => ⟨rfl, ?_⟩⟩
  have g : ∀ o, G o H1 H2 := fun o => G.of_all fun a u e => k2 a u (ne_of_none e hx) (k12 a u e)
  exact q x H2 hx g ⟨dx, wp, dp, h2, sqT_t (g none).tups hw, hd.n (g none)⟩
theorem bools_told {H : Hp} {α : Type} {f : α → Bool} : ∀ {xs : List V} {l : List α}, DpAll K H xs (l.map fun z => PyData.bool (f z)) → xs = (l.map f).map V.bl
  | _, [], h => by cases h; rfl
  | _, z :: l, h => by
    cases h with
    | cons h t => cases h; rw [bools_told t]; rfl

end
end Mine
/-! ## K5 -/


namespace Mine
section
variable {P : Program} {w : World} {K : PySem.W.Frag} {mg : Str → Option Value} {base : Heap} {a : Ads}

/-! ### what was ahead -/
/-- t[lo:hi] of a tuple -/
def rSlAN (K : PySem.W.Frag) : V → Option Int → Option Int → Hp → VK → Prop := fun x lo hi H Q => ∃ a xs, x = .ref a ∧ SqT K H a xs ∧ ∀ p H2, (∀ o, G o H H2) → SqT K H2 p (cutV xs lo hi) → Q (.ref p) H2
theorem sl_tupAN {X : Cx} : SlR X (rSlAN X.K) := SlR.weak sl_tupA fun x lo hi H Q ⟨a, xs, e, h, q⟩ => ⟨a, xs, e, h, fun w => q a H (fun _ => G.refl) (by
    have c : cutV xs lo hi = xs := by
      unfold cutV
      rw [w.1, w.2, List.drop_zero, Nat.sub_zero, List.take_length]
    rw [c]; exact h), fun _ p hp => q p _ (fun _ => G.alloc hp) (SqT.of upd_same)⟩
theorem cut_to (xs : List V) {k : Nat} (h : k ≤ xs.length) : cutV xs none (some (k : Int)) = xs.take k := by
  unfold cutV
  rw [HT.sIx_none, HT.sIx_nat, List.drop_zero, Nat.sub_zero, Nat.min_eq_left h]
theorem idx_lt {os : List Int} {z : Int} (h : z ∈ os) : os.idxOf z < os.length := List.idxOf_lt_length_iff.mpr h
theorem idx_at {os : List Int} {z : Int} (h : z ∈ os) : os[os.idxOf z]? = some z := by
  rw [List.getElem?_eq_getElem (idx_lt h)]
  exact congrArg some (List.getElem_idxOf (idx_lt h))
theorem idx_of {os : List Int} (nd : os.Nodup) {j : Nat} {z : Int} (h : os[j]? = some z) : os.idxOf z = j := nd_ix nd (idx_at (List.mem_of_getElem? h)) h

end
end Mine
/-! ## K6 -/


namespace Mine
section
variable {P : Program} {w : World} {K : PySem.W.Frag} {mg : Str → Option Value} {base : Heap} {a : Ads}

/-! ### the hand of draws -/
def sp__law_hand (K : PySem.W.Frag) : Sp := fun vs H Q _ => ∃ (s : Addr) (ns : List Int), vs = [.ref s] ∧ SqL K H s (ns.map V.int) ∧ ns.length ≤ 63 ∧ ∀ hd c H', G none H H' → Hand H' hd c → Q (.ref hd) H'
theorem ok__law_hand (T : Txt K mg a) : FnOk P w K mg base CX0 1 a.f__law_hand a.d__law_hand P__law_hand (sp__law_hand K) := by
  refine T.F__law_hand.ok sc__law_hand (fun vs H Q E h => by obtain ⟨s, ns, rfl, _⟩ := h; rfl) (fun cdv A outer s0 H vs Q E hr h => ?_)
  obtain ⟨s, ns, rfl, hs, hl, k⟩ := h
  refine ⟨_, (pss_cons (ps_setLc (i := 1) (own := [("_law_cell", 2)]) (g := (gName 2)) (tt := tYes)  rfl sc__law_hand.nd rfl rfl (sw_true rfl rfl rfl (by decide +kernel)) (pi_list (pe_slice sl_list (pv 0) po_none (po_some pe_int))) (blkOk_by (N := N__law_hand) (sc := defScope s__law_hand) (by decide +kernel)) (fun _ _ _ _ _ => (pg_name (i := 2) sc__law_hand.nd rfl (by first | exact Or.inl rfl | exact Or.inr rfl))) (fun _ _ _ _ _ => pts_nil) (fun _ _ _ _ _ => (pe_callB call_abs (by rfl) T.n_abs (by decide +kernel) (pa_cons (pe_callTy call_int1 (by rfl) T.n_int (by decide +kernel) (pa_cons (pv 2) pa_nil)) pa_nil))))
  (pss_one (ps_ret (pe_lstN (pa_cons (pv 1) (pa_cons pe_int (pa_cons pe_int (pa_cons (pe_op op_add pe_int (pe_callB call_len_seq (by rfl) T.n_len (by decide +kernel) (pa_cons (pv 1) pa_nil))) (pa_cons pe_int pa_nil))))))))), ?_⟩
  walk_at "ws"
  refine ⟨s, _, rfl, hs, fun p hp => ?_⟩
  obtain ⟨ms, hms⟩ : ∃ ms : List Int, cutV (ns.map V.int) none (some 63) = ms.map V.int := ints_of fun v hv => by
    obtain ⟨n, _, e⟩ := List.mem_map.mp (mem_cutV hv)
    exact ⟨n, e.symm⟩
  have hz : ms.length ≤ 63 := by
    have e := cutV_length (ns.map V.int) none (some 63)
    rw [hms, List.length_map, List.length_map] at e
    omega
  rw [hms]
  have g1 : G none H (upd H p (.lst (ms.map V.int))) := G.alloc hp
  have h1 : upd H p (.lst (ms.map V.int)) p = some (.lst (ms.map V.int)) := upd_same
  generalize upd H p (.lst (ms.map V.int)) = H1 at g1 h1 ⊢
  walk_at "ws"
  refine i_list (SqL.of h1) ?_
  intro D hD
  refine lc_pure (K := K) (o := none) walk_list (by rw [List.length_map]; omega) hD (fun _ e => nomatch e) (fun i => ms[i]?.map fun n => .int (if n < 0 then -n else n)) (fun H' g => SqL.of (g.all _ _ h1)) ?_ ?_
  · rintro i x H2 H3 hi g ⟨rfl, hx1⟩ Qy Qn ky kn
    obtain ⟨n, hn, rfl⟩ : ∃ n, ms[i]? = some n ∧ V.int n = x := by
      rw [List.getElem?_map] at hx1; exact Option.map_eq_some_iff.mp hx1
    walk_at "ws"
    refine ⟨rfl, ?_⟩
    walk_at "ws"
    refine .inl ⟨_, rfl, ?_⟩
    walk_at "ws"
    exact ⟨_, rfl, ky _ _ _ G.refl (.int _) rfl (by rw [hn]; rfl)⟩
  · intro xs H' g hD' hds _
    rw [List.length_map, filterMap_range_map] at hds
    obtain ⟨cs, rfl⟩ : ∃ cs : List Int, xs = cs.map V.int := ⟨_, DpAll.of_ints (ns := ms.map fun n => if n < 0 then -n else n) (by rw [List.map_map]; exact hds)⟩
    have g2 := g1.trans g
    walk_at "ws"
    refine ⟨D, _, rfl, .inl (SqL.of hD'), ?_⟩
    walk_at "ws"
    refine ⟨sz (by simp), fun q H3 hq g3 h3 => ?_⟩
    exact k q D _ (g2.trans (g3 none)) ⟨ne_of_none hD' hq, ⟨cs, (g3 none).all _ _ hD'⟩, _, _, _, _, h3, Int.le_refl _⟩

def sp__law_draw : Sp := fun vs H Q _ => ∃ (hd c : Addr) (n : Int), vs = [.ref hd, .int n] ∧ Hand H hd c ∧ 0 < n ∧ n ≤ 100000 ∧ ∀ r H', 0 ≤ r → r < n → G (some (hd, c)) H H' → Hand H' hd c → Q (.int r) H'
theorem st5 {x0 x1 x2 x3 x4 v : V} {j : Nat} {hd : Addr} {z : Int} {H : Hp} {F : Hp → Prop} (h : H hd = some (.lst [x0, x1, x2, x3, x4])) (e : ixN 5 z = some j) (q : F (upd H hd (.lst (([x0, x1, x2, x3, x4] : List V).set j v)))) : rSetL (.ref hd) (.int z) v H F := ⟨hd, _, z, j, rfl, rfl, h, e, q⟩
theorem ok__law_draw (T : Txt K mg a) : FnOk P w K mg base CX0 1 a.f__law_draw a.d__law_draw P__law_draw sp__law_draw := by
  refine T.F__law_draw.ok sc__law_draw (fun vs H Q E h => by obtain ⟨hd, c, n, rfl, _⟩ := h; rfl) (fun cdv A outer s0 H vs Q E hr h => ?_)
  obtain ⟨hd, c, n, rfl, hh, n0, n1, k⟩ := h
  have hh' := hh
  obtain ⟨nc, ⟨ns, hc⟩, i, b, m, z, h, hi⟩ := hh'
  refine ⟨_, (pss_cons (ps_if (L2.PW.pt (pw_and (pt_cmpR op_eq (pe_ix ix_list (pv 0) pe_int (fun _ _ => rfl)) pe_int (nomark _)) (pw_and1 (pt_cmpR op_lt (pe_ix ix_list (pv 0) pe_int (fun _ _ => rfl)) (pe_callB call_len_seq (by rfl) T.n_len (by decide +kernel) (pa_cons (pe_ix ix_list (pv 0) pe_int (fun _ _ => rfl)) pa_nil)) (nomark _)))))
    (pss_cons (ps_set (i := 2) sc__law_draw.nd rfl (Or.inl rfl) (pe_ix ix_list (pe_ix ix_list (pv 0) pe_int (fun _ _ => rfl)) (pe_ix ix_list (pv 0) pe_int (fun _ _ => rfl)) (fun _ _ => rfl)))
  (pss_cons (ps_asg (pe_op op_add (pe_ix ix_list (pv 0) pe_int (fun _ _ => rfl)) pe_int) (pg_sub (pv 0) pe_int set_list))
  (pss_cons (ps_asg (pe_op op_mod (pe_callTy call_int1 (by rfl) T.n_int (by decide +kernel) (pa_cons (pe_op op_add (pe_op op_add (pe_op op_mul (pe_ix ix_list (pv 0) pe_int (fun _ _ => rfl)) pe_int) (pv 2)) pe_int) pa_nil)) pe_int) (pg_sub (pv 0) pe_int set_list))
  (pss_one (ps_if (pt_cmpR op_ge (pv 2) (pe_op op_pow pe_int pe_int) (nomark _))
    (pss_one (ps_asg (pv 2) (pg_sub (pv 0) pe_int set_list)))
    pss_nil)))))
    pss_nil)
  (pss_cons (ps_if (pt_cmpR op_gt (pe_ix ix_list (pv 0) pe_int (fun _ _ => rfl)) pe_int (nomark _))
    (pss_cons (ps_set (i := 3) sc__law_draw.nd rfl (Or.inl rfl) (pe_op op_mod (pe_callTy call_int1 (by rfl) T.n_int (by decide +kernel) (pa_cons (pe_ix ix_list (pv 0) pe_int (fun _ _ => rfl)) pa_nil)) (pv 1)))
  (pss_cons (ps_asg (pe_op op_fdiv (pe_ix ix_list (pv 0) pe_int (fun _ _ => rfl)) (pv 1)) (pg_sub (pv 0) pe_int set_list))
  (pss_one (ps_ret (pv 3)))))
    pss_nil)
  (pss_cons (ps_asg (pe_op op_add (pe_ix ix_list (pv 0) pe_int (fun _ _ => rfl)) pe_int) (pg_sub (pv 0) pe_int set_list))
  (pss_cons (ps_set (i := 4) sc__law_draw.nd rfl (Or.inl rfl) (pe_op op_mod (pe_callTy call_int1 (by rfl) T.n_int (by decide +kernel) (pa_cons (pe_op op_mul (pe_callTy call_int1 (by rfl) T.n_int (by decide +kernel) (pa_cons (pe_op op_add (pe_ix ix_list (pv 0) pe_int (fun _ _ => rfl)) (pe_op op_mul pe_int (pe_ix ix_list (pv 0) pe_int (fun _ _ => rfl)))) pa_nil)) pe_int) pa_nil)) pe_int))
  (pss_cons (ps_set (i := 4) sc__law_draw.nd rfl (Or.inl rfl) (pe_op op_mod (pe_callTy call_int1 (by rfl) T.n_int (by decide +kernel) (pa_cons (pe_op op_mul (pv 4) (pe_op op_add (pe_op op_fdiv (pv 4) pe_int) pe_int)) pa_nil)) pe_int))
  (pss_cons (ps_set (i := 4) sc__law_draw.nd rfl (Or.inl rfl) (pe_op op_mod (pe_callTy call_int1 (by rfl) T.n_int (by decide +kernel) (pa_cons (pe_op op_mul (pv 4) (pe_op op_add (pe_op op_fdiv (pv 4) pe_int) pe_int)) pa_nil)) pe_int))
  (pss_one (ps_ret (pe_op op_mod (pe_callTy call_int1 (by rfl) T.n_int (by decide +kernel) (pa_cons (pe_op op_fdiv (pv 4) pe_int) pa_nil)) (pv 1)))))))))), ?_⟩
  refine w_seqM (fun σ H1 => ∃ (i b m z : Int) (x : Option V), σ = [some (.ref hd), some (.int n), x, none, none] ∧ (∀ a, a ≠ hd → H1 a = H a) ∧ H1 hd = some (.lst [.ref c, .int i, .int b, .int m, .int z]) ∧ 0 ≤ i) (fun N kN => ?_) ?_
  · walk_at "ws"
    refine r_ixL (SqL.of h) (v := .int b) rfl ?_
    walk_at "ws"
    refine w_ite (fun e => ?_) (fun e => ?_)
    · walk_at "ws"
      refine r_ixL (SqL.of h) (v := .int i) rfl ?_
      walk_at "ws"
      refine r_ixL (SqL.of h) (v := .ref c) rfl ?_
      walk_at "ws"
      refine ⟨c, _, rfl, .inl (SqL.of hc), ?_⟩
      walk_at "ws"
      refine w_ite (fun e => ?_) (fun e => ?_)
      · have hlt : i < ns.length := by
          have := of_decide_eq_true e
          rw [List.length_map] at this
          exact this
        obtain ⟨cell, hcell⟩ : ∃ cell, ns[i.toNat]? = some cell := ⟨_, List.getElem?_eq_getElem (by omega)⟩
        walk_at "ws"
        refine r_ixL (SqL.of h) (v := .ref c) rfl ?_
        walk_at "ws"
        refine r_ixL (SqL.of h) (v := .int i) rfl ?_
        refine r_ixL (SqL.of hc) (v := .int cell) (at_of (j := i.toNat) (by omega) (by rw [List.getElem?_map, hcell]; rfl)) ?_
        walk_at "ws"
        refine r_ixL (SqL.of h) (v := .int i) rfl ?_
        walk_at "ws"
        refine st5 (j := 1) h rfl ?_
        walk_at "ws"
        refine r_ixL (SqL.of upd_same) (v := .int m) rfl ?_
        walk_at "ws"
        refine r_I (.inr ⟨by decide, by decide⟩) ?_
        walk_at "ws"
        refine .inl ⟨_, rfl, ?_⟩
        walk_at "ws"
        refine r_I (by decide) ?_
        walk_at "ws"
        refine st5 (j := 3) upd_same rfl ?_
        walk_at "ws"
        refine r_I ⟨by decide, by decide, by decide⟩ ?_
        walk_at "ws"
        refine w_ite (fun e => ?_) (fun e => ?_)
        · walk_at "ws"
          refine st5 (j := 2) upd_same rfl ?_
          refine kN _ _ ⟨_, _, _, _, _, rfl, fun a na => ?_, upd_same, by omega⟩
          rw [upd_ne na, upd_ne na, upd_ne na]
        · walk_at "ws"
          refine kN _ _ ⟨_, _, _, _, _, rfl, fun a na => ?_, upd_same, by omega⟩
          rw [upd_ne na, upd_ne na]
      · walk_at "ws"
        exact kN _ _ ⟨i, b, m, z, none, rfl, fun _ _ => rfl, h, hi⟩
    · walk_at "ws"
      exact kN _ _ ⟨i, b, m, z, none, rfl, fun _ _ => rfl, h, hi⟩
  · clear h hi
    rintro σ H1 ⟨i, b, m, z, x, rfl, hE, h, hi⟩
    walk_at "ws"
    refine r_ixL (SqL.of h) (v := .int b) rfl ?_
    walk_at "ws"
    refine w_ite (fun e => ?_) (fun e => ?_)
    · walk_at "ws"
      refine r_ixL (SqL.of h) (v := .int b) rfl ?_
      walk_at "ws"
      refine .inl ⟨_, rfl, ?_⟩
      walk_at "ws"
      refine r_I n0 ?_
      walk_at "ws"
      refine r_ixL (SqL.of h) (v := .int b) rfl ?_
      walk_at "ws"
      refine r_I ⟨n0, by omega⟩ ?_
      walk_at "ws"
      refine st5 (j := 2) h rfl ?_
      walk_at "ws"
      obtain ⟨g, hh2⟩ := G.at_hd hh (H' := upd H1 hd (.lst (([.ref c, .int i, .int b, .int m, .int z] : List V).set 2 (.int (b / n))))) (fun a na => by rw [upd_ne na]; exact hE a na) upd_same hi
      exact k _ _ (Int.emod_nonneg _ (by omega)) (Int.emod_lt_of_pos _ n0) g hh2
    · walk_at "ws"
      refine r_ixL (SqL.of h) (v := .int z) rfl ?_
      walk_at "ws"
      refine st5 (j := 4) h rfl ?_
      walk_at "ws"
      refine r_ixL (SqL.of upd_same) (v := .int m) rfl ?_
      walk_at "ws"
      refine r_ixL (SqL.of upd_same) (v := .int (z + 1)) rfl ?_
      refine r_I (.inl ⟨by decide, by decide⟩) ?_
      walk_at "ws"
      refine .inl ⟨_, rfl, ?_⟩
      walk_at "ws"
      refine r_I (.inr ⟨by decide, by decide⟩) ?_
      walk_at "ws"
      refine .inl ⟨_, rfl, ?_⟩
      walk_at "ws"
      refine r_I (by decide) ?_
      generalize e1 : (_ : Int) % 2147483647 = u1
      have b1 : 0 ≤ u1 ∧ u1 < 2147483647 := by omega
      walk_at "ws"
      refine r_I ⟨by decide, by decide⟩ ?_
      walk_at "ws"
      refine r_I (.inl ⟨by omega, by omega⟩) ?_
      walk_at "ws"
      refine .inl ⟨_, rfl, ?_⟩
      walk_at "ws"
      refine r_I (by decide) ?_
      generalize e2 : (_ : Int) % 2147483647 = u2
      have b2 : 0 ≤ u2 ∧ u2 < 2147483647 := by omega
      walk_at "ws"
      refine r_I ⟨by decide, by decide⟩ ?_
      walk_at "ws"
      refine r_I (.inl ⟨by omega, by omega⟩) ?_
      walk_at "ws"
      refine .inl ⟨_, rfl, ?_⟩
      walk_at "ws"
      refine r_I (by decide) ?_
      walk_at "ws"
      refine r_I ⟨by decide, by decide⟩ ?_
      walk_at "ws"
      refine .inl ⟨_, rfl, ?_⟩
      walk_at "ws"
      refine r_I n0 ?_
      obtain ⟨g, hh2⟩ := G.at_hd hh (H' := upd H1 hd (.lst (([.ref c, .int i, .int b, .int m, .int z] : List V).set 4 (.int (z + 1))))) (fun a na => by rw [upd_ne na]; exact hE a na) upd_same hi
      exact k _ _ (Int.emod_nonneg _ (by omega)) (Int.emod_lt_of_pos _ n0) g hh2

end
end Mine
/-! ## K7 -/


namespace Mine
section
variable {P : Program} {w : World} {K : PySem.W.Frag} {mg : Str → Option Value} {base : Heap} {a : Ads}

/-! ### _law_is of two that are alike -/
theorem dp_n {H H' : Hp} (g : G none H H') : (∀ (d : PyData) (v : V), Dp K H v d → Dp K H' v d) ∧ (∀ (ds : List PyData) (vs : List V), DpAll K H vs ds → DpAll K H' vs ds) := by
  have rd : ∀ {a u}, Rd H a u → Rd H' a u := fun h => h.elim (fun h => .inl (g.all _ _ h)) fun ⟨ob, h⟩ => .inr ⟨ob, g.all _ _ h⟩
  have sl : ∀ {a xs}, SqL K H a xs → SqL K H' a xs := fun h => h.elim (fun h => .inl (rd h)) .inr
  constructor
  · intro d v h
    refine Dp.rec (motive_1 := fun v d _ => Dp K H' v d) (motive_2 := fun vs ds _ => DpAll K H' vs ds) .non .bl .int .str ?_ ?_ ?_ ?_ h
    · intro a xs ds h1 _ h2; exact .lst (sl h1) h2
    · intro a xs ds h1 _ h2; exact .tup (sqT_t g.tups h1) h2
    · exact .nil
    · intro v vs d ds _ _ h1 h2; exact .cons h1 h2
  · intro ds vs h
    refine DpAll.rec (motive_1 := fun v d _ => Dp K H' v d) (motive_2 := fun vs ds _ => DpAll K H' vs ds) .non .bl .int .str ?_ ?_ ?_ ?_ h
    · intro a xs ds h1 _ h2; exact .lst (sl h1) h2
    · intro a xs ds h1 _ h2; exact .tup (sqT_t g.tups h1) h2
    · exact .nil
    · intro v vs d ds _ _ h1 h2; exact .cons h1 h2
theorem sqL_n {H H' : Hp} (g : G none H H') {p : Addr} {xs : List V} (h : SqL K H p xs) : SqL K H' p xs := by
  rcases h with (h | ⟨o, h⟩) | h
  · exact .inl (.inl (g.all _ _ h))
  · exact .inl (.inr ⟨o, g.all _ _ h⟩)
  · exact .inr h
theorem tyx_lst {H : Hp} {p : Addr} {xs : List V} (h : SqL K H p xs) : TyX K H (.ref p) (.type "list") := by
  rcases h with (h | ⟨o, h⟩) | ⟨o, its, n, h1, h2, _⟩
  · exact .base (.lst h)
  · exact .base (.frz h)
  · exact .kList h1 h2
def tyN : PyData → String
  | .none => "NoneType"
  | .bool _ => "bool"
  | .int _ => "int"
  | .str _ => "str"
  | .list _ => "list"
  | .tuple _ => "tuple"
  | .dict _ => "dict"
theorem ty_of {H : Hp} {v : V} {d : PyData} (h : Dp K H v d) : TyX K H v (.type (tyN d)) := by
  cases h with
  | non => exact .base .non
  | bl b => exact .base (.bl b)
  | int i => exact .base (.int i)
  | str x => exact .base (.str x)
  | lst h _ => exact tyx_lst h
  | tup h _ => exact tyx_tup h
def isTup : PyData → Bool | .tuple _ => true | _ => false
def isLst : PyData → Bool | .list _ => true | _ => false
def isBool : PyData → Bool | .bool _ => true | _ => false
theorem ki_tup (d : PyData) : PySem.W.kitOne K (.type (tyN d)) (.type "tuple") = some (isTup d) := by
  cases d with
  | none => exact kit_ty (a := "NoneType") (b := "tuple") (r := false) (by decide +kernel)
  | bool _ => exact kit_ty (a := "bool") (b := "tuple") (r := false) (by decide +kernel)
  | int _ => exact kit_ty (a := "int") (b := "tuple") (r := false) (by decide +kernel)
  | str _ => exact kit_ty (a := "str") (b := "tuple") (r := false) (by decide +kernel)
  | list _ => exact kit_ty (a := "list") (b := "tuple") (r := false) (by decide +kernel)
  | tuple _ => exact kit_ty (a := "tuple") (b := "tuple") (r := true) (by decide +kernel)
  | dict _ => exact kit_ty (a := "dict") (b := "tuple") (r := false) (by decide +kernel)
theorem ki_lst (d : PyData) : PySem.W.kitOne K (.type (tyN d)) (.type "list") = some (isLst d) := by
  cases d with
  | none => exact kit_ty (a := "NoneType") (b := "list") (r := false) (by decide +kernel)
  | bool _ => exact kit_ty (a := "bool") (b := "list") (r := false) (by decide +kernel)
  | int _ => exact kit_ty (a := "int") (b := "list") (r := false) (by decide +kernel)
  | str _ => exact kit_ty (a := "str") (b := "list") (r := false) (by decide +kernel)
  | list _ => exact kit_ty (a := "list") (b := "list") (r := true) (by decide +kernel)
  | tuple _ => exact kit_ty (a := "tuple") (b := "list") (r := false) (by decide +kernel)
  | dict _ => exact kit_ty (a := "dict") (b := "list") (r := false) (by decide +kernel)
theorem ki_bool (d : PyData) : PySem.W.kitOne K (.type (tyN d)) (.type "bool") = some (isBool d) := by
  cases d with
  | none => exact kit_ty (a := "NoneType") (b := "bool") (r := false) (by decide +kernel)
  | bool _ => exact kit_ty (a := "bool") (b := "bool") (r := true) (by decide +kernel)
  | int _ => exact kit_ty (a := "int") (b := "bool") (r := false) (by decide +kernel)
  | str _ => exact kit_ty (a := "str") (b := "bool") (r := false) (by decide +kernel)
  | list _ => exact kit_ty (a := "list") (b := "bool") (r := false) (by decide +kernel)
  | tuple _ => exact kit_ty (a := "tuple") (b := "bool") (r := false) (by decide +kernel)
  | dict _ => exact kit_ty (a := "dict") (b := "bool") (r := false) (by decide +kernel)
theorem ki_tl (d : PyData) : PySem.W.kitAny K (.type (tyN d)) [.type "tuple", .type "list"] = some (isTup d || isLst d) := by
  refine kitAny_cons (ki_tup d) (fun e => ?_) fun e => by rw [e]; rfl
  refine kitAny_cons (ki_lst d) (fun e2 => ?_) fun e2 => by rw [e, e2]; rfl
  rw [e, e2]; rfl
theorem r_isiT {H : Hp} {v : V} {d : PyData} {tp : Addr} {Q : VK} (h : H tp = some (.tup [.ty "tuple", .ty "list"])) (hd : Dp K H v d) (q : Q (.bl (isTup d || isLst d)) H) : rIsiT K [v, .ref tp] H Q :=
  ⟨v, tp, [.ty "tuple", .ty "list"], _, [.type "tuple", .type "list"], _, rfl, h, .cons (.ty "tuple") (.cons (.ty "list") .nil), ty_of hd, ki_tl d, q⟩
def scal1 : PyData → Prop
  | .none => True
  | .bool _ => True
  | .int _ => True
  | .str x => PyData.strOk x = true
  | _ => False
def okd : Nat → PyData → Prop
  | 0, d => scal1 d
  | n + 1, d => scal1 d ∨ ∃ ds, (d = .tuple ds ∨ d = .list ds) ∧ ds.length ≤ 100000 ∧ ∀ e ∈ ds, okd n e
theorem scal1_tl {d : PyData} (h : scal1 d) : (isTup d || isLst d) = false := by cases d <;> first | rfl | exact h.elim
theorem scal1_eqv {d : PyData} (h : scal1 d) : PyData.eqv d d = true := by
  cases d with
  | none => rfl
  | bool b => cases b <;> rfl
  | int i => simp [PyData.eqv]
  | str x => simp [PyData.eqv]
  | list _ => exact h.elim
  | tuple _ => exact h.elim
  | dict _ => exact h.elim
theorem scal1_sh {d : PyData} (h : scal1 d) : SeqAt.shaped d = true := by
  cases d <;> first | exact h.elim | (simp [SeqAt.shaped, PyData.canLay0, PyData.depth]; done) | (simp [SeqAt.shaped, PyData.canLay0, PyData.depth]; exact h)
theorem walk_zipT {p q : Addr} {xs ys : List V} {n : Nat} (hn : n = min xs.length ys.length) : Walk (RZ.ItzT K p q) n (fun H => SqT K H p xs ∧ SqT K H q ys) (YPair (fun i => xs[i]?) (fun i => ys[i]?)) := by
  subst hn
  refine ⟨fun i _ hi h => ?_, fun _ h => ⟨xs, ys, h.1, h.2, by omega⟩, fun i H v H' _ h y => ?_⟩
  · have h1 : i < xs.length := by omega
    have h2 : i < ys.length := by omega
    exact ⟨xs, ys, xs[i], ys[i], h.1, h.2, by simp [h1], by simp [h2]⟩
  · obtain ⟨T, x, z, h1, h2, h3, h4, h5⟩ := y
    exact ⟨T, x, z, h1, h2, h3, h4 xs h.1, h5 ys h.2⟩
theorem bools_true {H : Hp} {xs : List V} {n : Nat} (h : DpAll K H xs ((List.range n).filterMap fun _ => some (PyData.bool true))) : ∃ bs : List Bool, xs = bs.map V.bl ∧ bs.all id = true := by
  generalize List.range n = l at h
  induction l generalizing xs with
  | nil => cases h; exact ⟨[], rfl, rfl⟩
  | cons z l ih =>
    cases h with
    | cons h t =>
      obtain ⟨bs, rfl, e⟩ := ih t
      cases h
      exact ⟨true :: bs, rfl, by simpa using e⟩
def sp__law_is (K : PySem.W.Frag) (n : Nat) : Sp := fun vs H Q _ => ∃ (v u : V) (d : PyData), vs = [v, u] ∧ okd n d ∧ Dp K H v d ∧ Dp K H u d ∧ ∀ H', G none H H' → Q (.bl true) H'
theorem ok__law_is (T : Txt K mg a) : ∀ n : Nat, FnOk P w K mg base CX0 (n + 1) a.f__law_is a.d__law_is P__law_is (sp__law_is K n)
  | 0 => by
    refine T.F__law_is.ok sc__law_is (fun vs H Q E h => by obtain ⟨v, u, d, rfl, _⟩ := h; rfl) (fun cdv A outer s H vs Q E hr h => ?_)
    obtain ⟨v, u, d, rfl, od, hv, hu, k⟩ := h
    have od : scal1 d := od
    refine ⟨_, (pss_cons (ps_if (pt_val (pe_callB call_isiT (by rfl) T.n_isinstance (by decide +kernel) (pa_cons (pv 1) (pa_cons (pe_tupN (pa_cons (pe_bltn (v := .ty "tuple") (u := .type "tuple") rfl T.n_tuple (by decide +kernel) rfl) (pa_cons (pe_bltn (v := .ty "list") (u := .type "list") rfl T.n_list (by decide +kernel) rfl) pa_nil))) pa_nil)))) pss_never pss_nil) (pss_one (ps_ret (pe_and (pe_cmpR op_eq (pe_callB call_isi (by rfl) T.n_isinstance (by decide +kernel) (pa_cons (pv 0) (pa_cons (pe_bltn (v := .ty "bool") (u := .type "bool") rfl T.n_bool (by decide +kernel) rfl) pa_nil))) (pe_callB call_isi (by rfl) T.n_isinstance (by decide +kernel) (pa_cons (pv 1) (pa_cons (pe_bltn (v := .ty "bool") (u := .type "bool") rfl T.n_bool (by decide +kernel) rfl) pa_nil))) (nomark _)) (pe_one (pe_cmpR (op_eqD hr.units) (pv 0) (pv 1) (nomark _))))))), ?_⟩
    walk_at "ws"
    refine ⟨sz (by simp), fun p H1 hp g1 h1 => ?_⟩
    have g1 := g1 none
    walk_at "ws"
    refine r_isiT h1 ((dp_n g1).1 _ _ hu) ?_
    rw [scal1_tl od]
    walk_at "ws"
    refine r_isi (ty_of ((dp_n g1).1 _ _ hv)) (ki_bool d) ?_
    walk_at "ws"
    refine r_isi (ty_of ((dp_n g1).1 _ _ hu)) (ki_bool d) ?_
    walk_at "ws"
    refine w_iteE (by simp) ?_
    walk_at "ws"
    refine ⟨d, d, (dp_n g1).1 _ _ hv, (dp_n g1).1 _ _ hu, scal1_sh od, scal1_sh od, ?_⟩
    rw [scal1_eqv od]
    exact k _ g1
  | n + 1 => by
    have ih : FnOk P w K mg base CX0 (n + 1) a.f__law_is a.d__law_is P__law_is (sp__law_is K n) := ok__law_is T n
    refine T.F__law_is.ok sc__law_is (fun vs H Q E h => by obtain ⟨v, u, d, rfl, _⟩ := h; rfl) (fun cdv A outer s H vs Q E hr h => ?_)
    obtain ⟨v, u, d, rfl, od, hv, hu, k⟩ := h
    refine ⟨_, (pss_cons (ps_if (pt_val (pe_callB call_isiT (by rfl) T.n_isinstance (by decide +kernel) (pa_cons (pv 1) (pa_cons (pe_tupN (pa_cons (pe_bltn (v := .ty "tuple") (u := .type "tuple") rfl T.n_tuple (by decide +kernel) rfl) (pa_cons (pe_bltn (v := .ty "list") (u := .type "list") rfl T.n_list (by decide +kernel) rfl) pa_nil))) pa_nil))))
    (pss_cons (ps_if (L2.PW.pt (pw_or (pt_cmpR op_ne (pe_callB call_isi (by rfl) T.n_isinstance (by decide +kernel) (pa_cons (pv 0) (pa_cons (pe_bltn (v := .ty "tuple") (u := .type "tuple") rfl T.n_tuple (by decide +kernel) rfl) pa_nil))) (pe_callB call_isi (by rfl) T.n_isinstance (by decide +kernel) (pa_cons (pv 1) (pa_cons (pe_bltn (v := .ty "tuple") (u := .type "tuple") rfl T.n_tuple (by decide +kernel) rfl) pa_nil))) (nomark _)) (pw_or1 (pt_not (pt_val (pe_callB call_isiT (by rfl) T.n_isinstance (by decide +kernel) (pa_cons (pv 0) (pa_cons (pe_tupN (pa_cons (pe_bltn (v := .ty "tuple") (u := .type "tuple") rfl T.n_tuple (by decide +kernel) rfl) (pa_cons (pe_bltn (v := .ty "list") (u := .type "list") rfl T.n_list (by decide +kernel) rfl) pa_nil))) pa_nil))))))))
    (pss_one (ps_ret pe_bl))
    pss_nil)
  (pss_one (ps_ret (pe_and (pe_cmpR op_eq (pe_callB call_len_seq (by rfl) T.n_len (by decide +kernel) (pa_cons (pv 0) pa_nil)) (pe_callB call_len_seq (by rfl) T.n_len (by decide +kernel) (pa_cons (pv 1) pa_nil)) (nomark _)) (pe_one (pe_callB (cr_all rfl) (by rfl) T.n_all (by decide +kernel) (pa_cons (pe_lc (own := [("_law_one", 2), ("_law_two", 3)]) (g := (gTup K 2 (gCons (gName 2) (gCons (gName 3) gNil)))) (tt := tYes) rfl sc__law_is.nd (RZ.pi_zipA (by rfl) T.n_zip (pa_cons (pv 0) (pa_cons (pv 1) pa_nil))) (blkOk_by (N := N__law_is) (sc := defScope s__law_is) (by decide +kernel)) (fun _ _ _ _ _ => (pg_tup rfl (pgs_cons (pg_name (i := 2) sc__law_is.nd rfl (by first | exact Or.inl rfl | exact Or.inr rfl)) (pgs_cons (pg_name (i := 3) sc__law_is.nd rfl (by first | exact Or.inl rfl | exact Or.inr rfl)) pgs_nil)))) (fun _ _ _ _ _ => pts_nil) (fun _ _ _ _ _ => (pe_call ih (hr.mono (by omega)) rfl T.m__law_is T.F__law_is.kp T.b__law_is .nil pass0 (pa_cons (pv 2) (pa_cons (pv 3) pa_nil))))) pa_nil)))))))
    pss_nil)
  (pss_one (ps_ret (pe_and (pe_cmpR op_eq (pe_callB call_isi (by rfl) T.n_isinstance (by decide +kernel) (pa_cons (pv 0) (pa_cons (pe_bltn (v := .ty "bool") (u := .type "bool") rfl T.n_bool (by decide +kernel) rfl) pa_nil))) (pe_callB call_isi (by rfl) T.n_isinstance (by decide +kernel) (pa_cons (pv 1) (pa_cons (pe_bltn (v := .ty "bool") (u := .type "bool") rfl T.n_bool (by decide +kernel) rfl) pa_nil))) (nomark _)) (pe_one (pe_cmpR (op_eqD hr.units) (pv 0) (pv 1) (nomark _))))))), ?_⟩
    walk_at "ws"
    refine ⟨sz (by simp), fun p H1 hp g1 h1 => ?_⟩
    have g1 := g1 none
    walk_at "ws"
    refine r_isiT h1 ((dp_n g1).1 _ _ hu) ?_
    rcases od with od | ⟨ds, od, hz, hds⟩
    · rw [scal1_tl od]
      walk_at "ws"
      refine r_isi (ty_of ((dp_n g1).1 _ _ hv)) (ki_bool d) ?_
      walk_at "ws"
      refine r_isi (ty_of ((dp_n g1).1 _ _ hu)) (ki_bool d) ?_
      walk_at "ws"
      refine w_iteE (by simp) ?_
      walk_at "ws"
      refine ⟨d, d, (dp_n g1).1 _ _ hv, (dp_n g1).1 _ _ hu, scal1_sh od, scal1_sh od, ?_⟩
      rw [scal1_eqv od]
      exact k _ g1
    · have e1 : (isTup d || isLst d) = true := by rcases od with rfl | rfl <;> rfl
      rw [e1]
      have hv1 := (dp_n g1).1 _ _ hv
      have hu1 := (dp_n g1).1 _ _ hu
      walk_at "ws"
      refine r_isi (ty_of hv1) (ki_tup d) ?_
      walk_at "ws"
      refine r_isi (ty_of hu1) (ki_tup d) ?_
      walk_at "ws"
      refine w_iteN (by simp) ?_
      walk_at "ws"
      refine ⟨sz (by simp), fun p2 H2 hp2 g2 h2 => ?_⟩
      have g2 := g2 none
      have hv2 := (dp_n g2).1 _ _ hv1
      have hu2 := (dp_n g2).1 _ _ hu1
      have g12 := g1.trans g2
      walk_at "ws"
      refine r_isiT h2 hv2 ?_
      rw [e1]
      walk_at "ws"
      -- the turn of one pair
      have turn : ∀ (i : Nat) (xs ys : List V) (H3 H4 : Hp) (x : V) (Qy : V → Hp → Prop) (Qn : Hp → Prop), DpAll K H2 xs ds → DpAll K H2 ys ds → G none H2 H3 → YPair (fun i => xs[i]?) (fun i => ys[i]?) i H3 x H4 →
          (∀ y H5 e, G none H3 H5 → Dp K H5 y e → nl e = true → some (PyData.bool true) = some e → Qy y H5) →
          ∃ (t : Addr) (y z : V) (e : PyData), x = .ref t ∧ H4 t = some (.tup [y, z]) ∧ e ∈ ds ∧ Dp K H4 y e ∧ Dp K H4 z e ∧ G none H3 H4 := by
        intro i xs ys H3 H4 x Qy Qn hx hy g3 hY ky
        obtain ⟨t, y, z, rfl, ht, rfl, ey, ez⟩ := hY
        obtain ⟨e, he, hye⟩ := DpAll.get hx ey
        obtain ⟨e', he', hze⟩ := DpAll.get hy ez
        rw [he] at he'; cases he'
        have g4 : G none H3 (upd H3 t (.tup [y, z])) := G.alloc ht
        exact ⟨t, y, z, e, rfl, upd_same, List.mem_of_getElem? he, (dp_n (g3.trans g4)).1 _ _ hye, (dp_n (g3.trans g4)).1 _ _ hze, g4⟩
      rcases od with rfl | rfl
      · obtain ⟨p3, xs, rfl, hxs, hxd⟩ := dp_tup hv2
        obtain ⟨p4, ys, rfl, hys, hyd⟩ := dp_tup hu2
        walk_at "ws"
        refine ⟨p3, xs, rfl, .inr hxs, ?_⟩
        walk_at "ws"
        refine ⟨p4, ys, rfl, .inr hys, ?_⟩
        walk_at "ws"
        have lx := DpAll.length hxd
        have ly := DpAll.length hyd
        refine w_iteE (by simp [lx, ly]) ?_
        walk_at "ws"
        refine ⟨p3, p4, xs, ys, rfl, .inr ⟨hxs, hys, ?_⟩⟩
        intro D hD
        refine lc_pure (K := K) (o := none) (walk_zipT (xs := xs) (ys := ys) rfl) (by omega) hD (fun _ e => nomatch e) (fun _ => some (PyData.bool true)) (fun H' g => ⟨sqT_t g.tups hxs, sqT_t g.tups hys⟩) ?_ ?_
        · intro i x H3 H4 hi g3 hY Qy Qn ky kn
          obtain ⟨t, y, z, e, rfl, h4, me, hy4, hz4, g4⟩ := turn i xs ys H3 H4 x Qy Qn hxd hyd g3 hY ky
          refine ⟨t, _, rfl, SqT.of h4, rfl, ?_⟩
          refine ⟨_, _, rfl, ?_⟩
          walk_at "ws"
          refine ⟨_, _, rfl, ?_⟩
          walk_at "ws"
          refine ⟨rfl, rfl, ?_⟩
          walk_at "ws"
          exact ⟨y, z, e, rfl, hds e me, hy4, hz4, fun H5 g5 => ky _ _ _ (g4.trans g5) (.bl true) rfl rfl⟩
        · intro xs' H' g hD' hds' _
          obtain ⟨bs, rfl, eb⟩ := bools_true hds'
          walk_at "ws"
          refine ⟨D, bs, rfl, SqL.of hD', ?_⟩
          rw [eb]
          exact k _ (g12.trans g)
      · cases hv2 with
        | lst hxs hxd =>
          cases hu2 with
          | lst hys hyd =>
            rename_i p3 xs p4 ys
            walk_at "ws"
            refine ⟨p3, xs, rfl, .inl hxs, ?_⟩
            walk_at "ws"
            refine ⟨p4, ys, rfl, .inl hys, ?_⟩
            walk_at "ws"
            have lx := DpAll.length hxd
            have ly := DpAll.length hyd
            refine w_iteE (by simp [lx, ly]) ?_
            walk_at "ws"
            refine ⟨p3, p4, xs, ys, rfl, .inl ⟨hxs, hys, ?_⟩⟩
            intro D hD
            refine lc_pure (K := K) (o := none) (walk_zip (xs := xs) (ys := ys) rfl) (by omega) hD (fun _ e => nomatch e) (fun _ => some (PyData.bool true)) (fun H' g => ⟨sqL_n g hxs, sqL_n g hys⟩) ?_ ?_
            · intro i x H3 H4 hi g3 hY Qy Qn ky kn
              obtain ⟨t, y, z, e, rfl, h4, me, hy4, hz4, g4⟩ := turn i xs ys H3 H4 x Qy Qn hxd hyd g3 hY ky
              refine ⟨t, _, rfl, SqT.of h4, rfl, ?_⟩
              refine ⟨_, _, rfl, ?_⟩
              walk_at "ws"
              refine ⟨_, _, rfl, ?_⟩
              walk_at "ws"
              refine ⟨rfl, rfl, ?_⟩
              walk_at "ws"
              exact ⟨y, z, e, rfl, hds e me, hy4, hz4, fun H5 g5 => ky _ _ _ (g4.trans g5) (.bl true) rfl rfl⟩
            · intro xs' H' g hD' hds' _
              obtain ⟨bs, rfl, eb⟩ := bools_true hds'
              walk_at "ws"
              refine ⟨D, bs, rfl, SqL.of hD', ?_⟩
              rw [eb]
              exact k _ (g12.trans g)

end
end Mine
/-! ## K8 -/


namespace Mine
section
variable {P : Program} {w : World} {K : PySem.W.Frag} {mg : Str → Option Value} {base : Heap} {a : Ads}

/-! ### _law_flag, _law_web -/
def okP (m : Int) (u : Int × Int) : Prop := (0 ≤ u.1 ∧ u.1 < m) ∧ (0 ≤ u.2 ∧ u.2 < m) ∧ u.1 ≠ u.2
def ltP (u v : Int × Int) : Prop := u.1 < v.1 ∨ (u.1 = v.1 ∧ u.2 < v.2)
structure IsWeb (m : Int) (ws : List (Int × Int)) : Prop where
  lo : 1 ≤ m
  hi : m ≤ 7
  mem : ∀ u ∈ ws, (0 ≤ u.1 ∧ u.1 < m) ∧ (0 ≤ u.2 ∧ u.2 < m) ∧ u.1 ≠ u.2
  asc : ws.Pairwise ltP
/-- pairs whose tuples are known -/
def TupAll (H : Hp) (bs : List Addr) (ws : List (Int × Int)) : Prop := bs.length = ws.length ∧ ∀ (i : Nat) (b : Addr) (u : Int × Int), bs[i]? = some b → ws[i]? = some u → H b = some (.tup [.int u.1, .int u.2])
theorem TupAll.g {H H' : Hp} {bs : List Addr} {ws : List (Int × Int)} {o : Option (Addr × Addr)} (h : TupAll H bs ws) (g : G o H H') (hh : ∀ q, o = some q → Hand H q.1 q.2) : TupAll H' bs ws := ⟨h.1, fun i b u e1 e2 => by
  have q1 := h.2 i b u e1 e2
  refine g.keep b _ (fun q e => ?_) q1
  obtain ⟨_, _, _, _, _, _, z, _⟩ := hh q e
  exact ne_of q1 z (by intro z; cases z)⟩
theorem TupAll.put {H : Hp} {bs : List Addr} {ws : List (Int × Int)} {l : Addr} {xs : List V} {u : HO} (h : TupAll H bs ws) (hl : H l = some (.lst xs)) : TupAll (upd H l u) bs ws := ⟨h.1, fun i b w e1 e2 => by
  have q1 := h.2 i b w e1 e2
  rw [upd_ne (ne_of q1 hl (by intro z; cases z))]
  exact q1⟩
theorem TupAll.app {H : Hp} {bs : List Addr} {ws : List (Int × Int)} {t : Addr} {u : Int × Int} (h : TupAll H bs ws) (ht : H t = some (.tup [.int u.1, .int u.2])) : TupAll H (bs ++ [t]) (ws ++ [u]) := ⟨by simp [h.1], fun i b w e1 e2 => by
  by_cases c : i < bs.length
  · rw [List.getElem?_append_left c] at e1
    rw [List.getElem?_append_left (by rw [← h.1]; exact c)] at e2
    exact h.2 i b w e1 e2
  · rw [List.getElem?_append_right (by omega)] at e1
    rw [List.getElem?_append_right (by rw [← h.1]; omega), ← h.1] at e2
    cases q : i - bs.length with
    | zero =>
      rw [q] at e1 e2
      simp at e1 e2
      subst e1 e2
      exact ht
    | succ j =>
      rw [q] at e1
      simp at e1⟩
theorem new_back {H0 H1 : Hp} {hd c l : Addr} (g : G (some (hd, c)) H0 H1) (x : Hand H1 hd c) (h : H1 l = none) : H0 l = none := by
  cases e : H0 l with
  | none => rfl
  | some u =>
    have n : l ≠ hd := x.ne h
    rw [g.keep l u (fun p e => by cases e; exact n) e] at h
    cases h
theorem at4 {b0 b1 b2 b3 : Bool} {z : Int} (h0 : 0 ≤ z) (h1 : z ≤ 3) : ∃ b, atI [V.bl b0, V.bl b1, V.bl b2, V.bl b3] z = some (.bl b) := by
  have : z = 0 ∨ z = 1 ∨ z = 2 ∨ z = 3 := by omega
  rcases this with rfl | rfl | rfl | rfl
  · exact ⟨b0, rfl⟩
  · exact ⟨b1, rfl⟩
  · exact ⟨b2, rfl⟩
  · exact ⟨b3, rfl⟩
/-- some wires, all ahead of (y, x) -/
structure Part (m : Int) (ws : List (Int × Int)) (y x : Int) : Prop where
  mem : ∀ u ∈ ws, (0 ≤ u.1 ∧ u.1 < m) ∧ (0 ≤ u.2 ∧ u.2 < m) ∧ u.1 ≠ u.2
  asc : ws.Pairwise ltP
  lt : ∀ u ∈ ws, ltP u (y, x)
theorem Part.up {m y x y' x' : Int} {ws : List (Int × Int)} (h : Part m ws y x) (e : y < y' ∨ (y = y' ∧ x ≤ x')) : Part m ws y' x' := ⟨h.mem, h.asc, fun u hu => by
  have q := h.lt u hu
  simp only [ltP] at q ⊢
  omega⟩
theorem Part.app {m y x : Int} {ws : List (Int × Int)} (h : Part m ws y x) (h1 : 0 ≤ y ∧ y < m) (h2 : 0 ≤ x ∧ x < m) (h3 : y ≠ x) : Part m (ws ++ [(y, x)]) y (x + 1) := by
  refine ⟨fun u hu => ?_, ?_, fun u hu => ?_⟩
  · rcases List.mem_append.mp hu with z | z
    · exact h.mem u z
    · have : u = (y, x) := by simpa using z
      subst this; exact ⟨h1, h2, h3⟩
  · rw [List.pairwise_append]
    refine ⟨h.asc, List.pairwise_singleton _ _, fun u hu v hv => ?_⟩
    have : v = (y, x) := by simpa using hv
    subst this; exact h.lt u hu
  · rcases List.mem_append.mp hu with z | z
    · have q := h.lt u z
      simp only [ltP] at q ⊢
      omega
    · have e : u = (y, x) := by simpa using z
      rw [e]
      exact .inr ⟨rfl, by show x < x + 1; omega⟩
def sp__law_web (K : PySem.W.Frag) : Sp := fun vs H Q _ => ∃ (hd c : Addr) (m : Int), vs = [.ref hd, .int m] ∧ Hand H hd c ∧ 1 ≤ m ∧ m ≤ 7 ∧ ∀ p bs ws H', G (some (hd, c)) H H' → Hand H' hd c → SqT K H' p (bs.map V.ref) → TupAll H' bs ws → IsWeb m ws → Q (.ref p) H'
/-- the loops' word -/
def WebW (K : PySem.W.Frag) (H : Hp) (hd c l : Addr) (m y x : Int) (H' : Hp) : Prop := ∃ (bs : List Addr) (ws : List (Int × Int)), G (some (hd, c)) H H' ∧ Hand H' hd c ∧ H' l = some (.lst (bs.map V.ref)) ∧ TupAll H' bs ws ∧ Part m ws y x ∧ bs.length ≤ 10000
theorem part_len {m y x : Int} {ws : List (Int × Int)} (h : Part m ws y x) (hm : m ≤ 7) : ws.length ≤ 10000 := by
  have hn : (ws.map fun u => (u.1 * 7 + u.2).toNat).Nodup := by
    have : (ws.map fun u => (u.1 * 7 + u.2).toNat).Pairwise (· < ·) := by
      rw [List.pairwise_map]
      refine List.Pairwise.imp_of_mem (fun {u v} hu hv huv => ?_) h.asc
      have h1 := h.mem u hu
      have h2 := h.mem v hv
      unfold ltP at huv
      omega
    exact this.imp fun h => Nat.ne_of_lt h
  have hs : ∀ k ∈ (ws.map fun u => (u.1 * 7 + u.2).toNat), k ∈ List.range 10000 := by
    intro k hk
    obtain ⟨u, hu, rfl⟩ := List.mem_map.mp hk
    have h1 := h.mem u hu
    rw [List.mem_range]
    omega
  have := List.Nodup.length_le_of_subset hn hs
  simpa using this
theorem ok__law_web (T : Txt K mg a) : FnOk P w K mg base CX0 2 a.f__law_web a.d__law_web P__law_web (sp__law_web K) := by
  refine T.F__law_web.ok sc__law_web (fun vs H Q E h => by obtain ⟨hd, c, m, rfl, _⟩ := h; rfl) (fun cdv A outer s H vs Q E hr h => ?_)
  obtain ⟨hd, c, m, rfl, hh, m1, m7, k⟩ := h
  have G__law_draw : FnOk P w K mg base CX0 1 a.f__law_draw a.d__law_draw P__law_draw sp__law_draw := ok__law_draw T
  refine ⟨_, (pss_cons (ps_set (i := 2) sc__law_web.nd rfl (Or.inl rfl) (pe_call (G__law_draw) (hr.mono (by omega)) rfl T.m__law_draw T.F__law_draw.kp T.b__law_draw .nil pass0 (pa_cons (pv 0) (pa_cons pe_int pa_nil))))
  (pss_cons (ps_set (i := 3) sc__law_web.nd rfl (Or.inl rfl) (pe_lstN pa_nil))
  (pss_cons (ps_for PassesOwn.never rfl (pi_range1 rfl T.n_range (pa_cons (pv 1) pa_nil)) (pg_name (i := 4) sc__law_web.nd rfl (Or.inl rfl))
    (pss_one (ps_for PassesOwn.never rfl (pi_range1 rfl T.n_range (pa_cons (pv 1) pa_nil)) (pg_name (i := 5) sc__law_web.nd rfl (Or.inl rfl))
    (pss_cons (ps_set (i := 6) sc__law_web.nd rfl (Or.inl rfl) (pe_ix ix_list (pe_lstN (pa_cons pe_bl (pa_cons (pe_cmpR op_in_seq (pe_callB call_abs (by rfl) T.n_abs (by decide +kernel) (pa_cons (pe_op op_sub (pv 4) (pv 5)) pa_nil)) (pe_lstN (pa_cons pe_int (pa_cons (pe_op op_sub (pv 1) pe_int) pa_nil))) (by rfl)) (pa_cons (pe_cmpR op_eq (pe_callB call_abs (by rfl) T.n_abs (by decide +kernel) (pa_cons (pe_op op_sub (pv 4) (pv 5)) pa_nil)) pe_int (nomark _)) (pa_cons (pe_or (pe_cmpR op_eq (pv 4) pe_int (nomark _)) (pe_one (pe_cmpR op_eq (pv 5) pe_int (nomark _)))) pa_nil))))) (pe_callB (call_min2 rfl) (by rfl) T.n_min (by decide +kernel) (pa_cons (pv 2) (pa_cons pe_int pa_nil))) (fun _ _ => rfl)))
  (pss_cons (ps_if (pt_cmpR op_gt (pv 2) pe_int (nomark _))
    (pss_one (ps_set (i := 6) sc__law_web.nd rfl (Or.inl rfl) (pe_cmpR op_lt (pe_call (G__law_draw) (hr.mono (by omega)) rfl T.m__law_draw T.F__law_draw.kp T.b__law_draw .nil pass0 (pa_cons (pv 0) (pa_cons pe_int pa_nil))) (pe_op op_sub (pv 2) pe_int) (nomark _))))
    pss_nil)
  (pss_one (ps_if (L2.PW.pt (pw_and (pt_cmpR op_ne (pv 4) (pv 5) (nomark _)) (pw_and1 (pt_val (pv 6)))))
    (pss_one (ps_expr (pe_bm PySem.F.plainAttrs_list PySem.F.slot_list_append PySem.F.type_list_append mt_append (pv 3) (pa_cons (pe_tupN (pa_cons (pv 4) (pa_cons (pv 5) pa_nil))) pa_nil))))
    pss_nil)))))))
  (pss_one (ps_ret (pe_callTy call_tupleN (by rfl) T.n_tuple (by decide +kernel) (pa_cons (pv 3) pa_nil))))))), ?_⟩
  walk_at "ws"
  refine ⟨hd, c, 6, rfl, hh, by decide, by decide, fun kind H1 k0 k1 g1 hh1 => ?_⟩
  walk_at "ws"
  refine ⟨sz (by simp), fun l H2 hl g2 h2 => ?_⟩
  have l0 : H l = none := new_back g1 hh1 hl
  have nl : l ≠ hd := hh1.ne hl
  have g2 := g1.trans (g2 _)
  have hh2 := g2.hand _ rfl hh
  have offl : ∀ p, some (hd, c) = some p → l ≠ p.1 := fun p e => by cases e; exact nl
  walk_at "ws"
  refine i_rng1 (by omega) (by omega) ?_
  refine for_it walk_range (fun i σ H' => WebW K H hd c l m i 0 H' ∧ ∃ u v x, σ = [some (.ref hd), some (.int m), some (.int kind), some (.ref l), u, v, x]) ⟨⟨[], [], g2, hh2, h2, ⟨rfl, fun i b u e => by simp at e⟩, ⟨(fun _ h => nomatch h), .nil, (fun _ h => nomatch h)⟩, Nat.zero_le _⟩, _, _, _, rfl⟩ (fun _ _ _ _ _ => trivial) ?_ ?_
  · rintro y _ σ _ H3 hy ⟨hW, u, v, x, rfl⟩ ⟨rfl, rfl⟩
    walk_at "ws"
    refine i_rng1 (by omega) (by omega) ?_
    refine for_it walk_range (fun i σ H' => WebW K H hd c l m y i H' ∧ ∃ v x, σ = [some (.ref hd), some (.int m), some (.int kind), some (.ref l), some (.int (0 + (y : Int))), v, x]) ⟨hW, _, _, rfl⟩ (fun _ _ _ _ _ => trivial) ?_ ?_
    · rintro x _ σ _ H4 hx ⟨⟨ls, ws, g4, hh4, h4, hd4, hp, hz⟩, v, x', rfl⟩ ⟨rfl, rfl⟩
      refine w_seqM (fun σ H' => ∃ b : Bool, σ = [some (.ref hd), some (.int m), some (.int kind), some (.ref l), some (.int (0 + (y : Int))), some (.int (0 + (x : Int))), some (.bl b)] ∧ G (some (hd, c)) H4 H') (fun N kN => ?_) ?_
      · walk_at "ws"
        refine ⟨_, rfl, ?_⟩
        walk_at "ws"
        refine ⟨sz (by simp), fun q H5 hq g5 h5 => ?_⟩
        refine ⟨q, _, rfl, .inl (SqL.of h5), rfl, rfl, ?_⟩
        walk_at "ws"
        refine ⟨_, rfl, ?_⟩
        walk_at "ws"
        refine w_ite (fun e => ?_) (fun e => ?_) <;>
        · walk_at "ws"
          refine ⟨sz (by simp), fun p H6 hp g6 h6 => ?_⟩
          walk_at "ws"
          refine ⟨_, _, rfl, ?_⟩
          refine r_ixL (SqL.of h6) (at4 (by split <;> omega) (by split <;> omega)).choose_spec ?_
          walk_at "ws"
          exact kN _ _ ⟨_, rfl, (g5 _).trans (g6 _)⟩
      · rintro σ H5 ⟨b, rfl, g5⟩
        have hh5 := g5.hand _ rfl hh4
        refine w_seqM (fun σ H' => ∃ b : Bool, σ = [some (.ref hd), some (.int m), some (.int kind), some (.ref l), some (.int (0 + (y : Int))), some (.int (0 + (x : Int))), some (.bl b)] ∧ G (some (hd, c)) H4 H') (fun N kN => ?_) ?_
        · walk_at "ws"
          refine w_ite (fun e => ?_) (fun e => ?_)
          · walk_at "ws"
            refine ⟨hd, c, 4, rfl, hh5, by decide, by decide, fun r H6 r0 r1 g6 hh6 => ?_⟩
            walk_at "ws"
            exact kN _ _ ⟨_, rfl, g5.trans g6⟩
          · walk_at "ws"
            exact kN _ _ ⟨_, rfl, g5⟩
        · clear g5 hh5
          rintro σ H5 ⟨b, rfl, g5⟩
          have hh5 := g5.hand _ rfl hh4
          have h5 := g5.keep l _ offl h4
          have hd5 := hd4.g g5 (fun p e => by cases e; exact hh4)
          have g05 := g4.trans g5
          have done : WebW K H hd c l m y ((x : Int) + 1) H5 := ⟨ls, ws, g05, hh5, h5, hd5, hp.up (by omega), hz⟩
          walk_at "ws"
          refine w_ite (fun e => ?_) (fun e => ?_)
          · walk_at "ws"
            refine w_ite (fun eb => ?_) (fun eb => ?_)
            · walk_at "ws"
              refine i_BM h5 ?_
              walk_at "ws"
              refine ⟨sz (by simp), fun t H6 ht g6 h6 => ?_⟩
              have h6l := (g6 none).all _ _ h5
              have hd6 := hd5.g (g6 none) (fun _ e => nomatch e)
              walk_at "ws"
              refine r_app h6l (by rw [List.length_map]; omega) ?_
              walk_at "ws"
              have g06 := g05.trans (g6 _)
              have g07 : G (some (hd, c)) H (upd H6 l (.lst (ls.map V.ref ++ [.ref t]))) := g06.mut l0 (fun p e => by cases e; exact hh)
              have hp' := hp.app (y := y) (x := x) (by omega) (by omega) (by
                have := e
                simp at this
                omega)
              have hdt : H6 t = some (.tup [.int (y : Int), .int (x : Int)]) := by
                have z := h6
                simp only [Int.zero_add] at z
                exact z
              refine ⟨⟨ls ++ [t], ws ++ [((y : Int), (x : Int))], g07, g07.hand _ rfl hh, by rw [upd_same, List.map_append]; rfl, ?_, hp', ?_⟩, _, _, rfl⟩
              · exact (hd6.app (u := ((y : Int), (x : Int))) hdt).put h6l
              · have l1 := part_len hp' m7
                have l2 := hd6.1
                simp only [List.length_append, List.length_singleton] at l1 l2 ⊢
                omega
            · walk_at "ws"
              exact ⟨done, _, _, rfl⟩
          · walk_at "ws"
            exact ⟨done, _, _, rfl⟩
    · rintro σ H4 ⟨⟨ls, ws, g4, hh4, h4, hd4, hp, hz⟩, v, x', rfl⟩
      exact ⟨⟨ls, ws, g4, hh4, h4, hd4, hp.up (by omega), hz⟩, _, _, _, rfl⟩
  · rintro σ H4 ⟨⟨ls, ws, g4, hh4, h4, hd4, hp, hz⟩, u, v, x', rfl⟩
    walk_at "ws"
    refine ⟨l, _, rfl, .inl ⟨SqL.of h4, fun p H5 hp5 g5 h5 => ?_⟩⟩
    exact k p ls ws H5 (g4.trans (g5 _)) ((g5 (some (hd, c))).hand (hd, c) rfl hh4) (SqT.of h5) (hd4.g (g5 none) fun _ e => nomatch e) ⟨m1, m7, hp.mem, hp.asc⟩

end
end Mine
/-! ## K8b -/


namespace Mine
section
variable {P : Program} {w : World} {K : PySem.W.Frag} {mg : Str → Option Value} {base : Heap} {a : Ads}

/-! ### webs, right ones -/
def sp_is_unlike_pair (K : PySem.W.Frag) : Sp := fun vs H Q _ => ∃ (b : Int) (p : Addr) (i j : Int), vs = [.int b, .ref p] ∧ SqT K H p [.int i, .int j] ∧ ∀ H', G none H H' → Q (.bl (inB b i && inB b j && !decide (i = j))) H'
theorem ok_is_unlike_pair (T : Txt K mg a) : FnOk P w K mg base CX0 5 a.f_is_unlike_pair a.d_is_unlike_pair P_is_unlike_pair (sp_is_unlike_pair K) := by
  refine T.F_is_unlike_pair.ok sc_is_unlike_pair (fun vs H Q E h => by obtain ⟨b, p, i, j, rfl, _⟩ := h; rfl) (fun cdv A outer s H vs Q E hr h => ?_)
  obtain ⟨b, p, i, j, rfl, hx, k⟩ := h
  have G_is_tuple_of : FnOk P w K mg base CX0 1 a.f_is_tuple_of a.d_is_tuple_of P_is_tuple_of (sp_is_tuple_of K) := ok_is_tuple_of T
  have G_are_below : FnOk P w K mg base CX0 4 a.f_are_below a.d_are_below P_are_below (sp_are_below K) := ok_are_below T
  refine ⟨_, (pss_one (ps_ret (pe_and (pe_call (G_is_tuple_of) (hr.mono (by omega)) rfl T.m_is_tuple_of T.F_is_tuple_of.kp T.b_is_tuple_of .nil pass0 (pa_cons pe_int (pa_cons pe_int (pa_cons (pv 1) pa_nil)))) (pe_and (pe_call (G_are_below) (hr.mono (by omega)) rfl T.m_are_below T.F_are_below.kp T.b_are_below .nil pass0 (pa_cons (pv 0) (pa_cons (pv 1) pa_nil))) (pe_one (pe_cmpR op_ne (pe_ix ix_tup (pv 1) pe_int (fun _ _ => rfl)) (pe_ix ix_tup (pv 1) pe_int (fun _ _ => rfl)) (nomark _))))))), ?_⟩
  walk_at "ws"
  refine ⟨_, _, _, _, rfl, hx, ?_⟩
  walk_at "ws"
  refine w_iteE rfl ?_
  walk_at "ws"
  refine ⟨b, p, [i, j], rfl, hx, (by show 2 ≤ 100000; decide), fun H1 g1 => ?_⟩
  have e1 : ([i, j] : List Int).all (inB b) = (inB b i && inB b j) := by simp
  rw [e1]
  walk_at "ws"
  refine w_ite (fun e => ?_) (fun e => ?_)
  · walk_at "ws"
    have hx1 := sqT_t g1.tups hx
    refine r_ixT hx1 (v := .int i) rfl ?_
    walk_at "ws"
    refine r_ixT hx1 (v := .int j) rfl ?_
    walk_at "ws"
    have k := k H1 g1
    rw [e] at k
    exact k
  · have k := k H1 g1
    rw [e] at k
    exact k

def sp_first_wrong_wire (K : PySem.W.Frag) : Sp := fun vs H Q _ => ∃ (m : Int) (p : Addr) (ws : List (Int × Int)), vs = [.int m, .ref p] ∧ Dp K H (.ref p) (dW ws) ∧ IsWeb m ws ∧ ∀ H', G none H H' → Q .non H'
theorem le_pair {i j k l : Int} : Ob.lexAt (fun n => decide (([i, j] : List Int).getD n 0 = ([k, l] : List Int).getD n 0)) (fun n => decide (([i, j] : List Int).getD n 0 ≤ ([k, l] : List Int).getD n 0)) (decide (([i, j] : List Int).length ≤ ([k, l] : List Int).length)) 0 (min ([i, j] : List Int).length ([k, l] : List Int).length) = decide (i < k ∨ (i = k ∧ j ≤ l)) := by
  show (if decide (i = k) = true then (if decide (j = l) = true then true else decide (j ≤ l)) else decide (i ≤ k)) = _
  by_cases h1 : i = k
  · subst h1
    by_cases h2 : j = l
    · subst h2; simp
    · simp [h2]
  · have e : decide (i ≤ k) = decide (i < k) := by simp only [decide_eq_decide]; omega
    simp [h1, e]
theorem ok_first_wrong_wire (T : Txt K mg a) : FnOk P w K mg base CX0 6 a.f_first_wrong_wire a.d_first_wrong_wire P_first_wrong_wire (sp_first_wrong_wire K) := by
  refine T.F_first_wrong_wire.ok sc_first_wrong_wire (fun vs H Q E h => by obtain ⟨m, p, ws, rfl, _⟩ := h; rfl) (fun cdv A outer s H vs Q E hr h => ?_)
  obtain ⟨m, p, ws, rfl, hx, hw, k⟩ := h
  have G_is_unlike_pair : FnOk P w K mg base CX0 5 a.f_is_unlike_pair a.d_is_unlike_pair P_is_unlike_pair (sp_is_unlike_pair K) := ok_is_unlike_pair T
  obtain ⟨p', xs, ep, hxs, hds⟩ := dp_tup hx
  cases ep
  refine ⟨_, (pss_cons (ps_for PassesOwn.never rfl (pi_enumT (by rfl) T.n_enumerate (pa_cons (pv 1) pa_nil)) (pg_tup rfl (pgs_cons (pg_name (i := 2) sc_first_wrong_wire.nd rfl (Or.inl rfl)) (pgs_cons (pg_name (i := 3) sc_first_wrong_wire.nd rfl (Or.inl rfl)) pgs_nil)))
    (pss_cons (ps_if (pt_not (pt_val (pe_call (G_is_unlike_pair) (hr.mono (by omega)) rfl T.m_is_unlike_pair T.F_is_unlike_pair.kp T.b_is_unlike_pair .nil pass0 (pa_cons (pv 0) (pa_cons (pv 3) pa_nil)))))
    (pss_one (ps_ret (pv 2)))
    pss_nil)
  (pss_one (ps_if (L2.PW.pt (pw_and (pt_cmpR op_gt (pv 2) pe_int (nomark _)) (pw_and1 (pt_cmpR (op_leT hr.units0) (pv 3) (pe_ix ix_tup (pv 1) (pe_op op_sub (pv 2) pe_int) (fun _ _ => rfl)) (nomark _)))))
    (pss_one (ps_ret (pv 2)))
    pss_nil))))
  (pss_one (ps_ret pe_non))), ?_⟩
  walk_at "ws"
  refine i_enum hxs ?_
  refine for_it (walk_enumT (xs := xs)) (fun i σ H1 => G none H H1 ∧ ∃ u v, σ = [some (.int m), some (.ref p), u, v]) ⟨G.refl, _, _, rfl⟩ (fun i σ H1 _ h => sqT_t h.1.tups hxs) ?_ ?_
  · rintro i x σ H1 H2 hi ⟨g1, u, v, rfl⟩ ⟨t, y, z, rfl, ht, rfl, ey, ez⟩
    cases Option.some.inj ey
    have g2 : G none H1 (upd H1 t (.tup [.int (i : Nat), z])) := G.alloc ht
    refine ⟨t, _, rfl, SqT.of upd_same, rfl, ?_⟩
    refine ⟨_, _, rfl, ?_⟩
    walk_at "ws"
    refine ⟨_, _, rfl, ?_⟩
    walk_at "ws"
    refine ⟨rfl, ?_⟩
    generalize upd H1 t (.tup [.int (i : Nat), z]) = H2 at g2 ⊢
    have g02 := g1.trans g2
    obtain ⟨d, hd, hz⟩ := DpAll.get hds ez
    rw [List.getElem?_map] at hd
    obtain ⟨w0, hw0, rfl⟩ := Option.map_eq_some_iff.mp hd
    obtain ⟨q, rfl, hq⟩ := dp_dP hz
    have hm := hw.mem w0 (List.mem_of_getElem? hw0)
    walk_at "ws"
    refine ⟨m, q, w0.1, w0.2, rfl, sqT_t g02.tups hq, fun H3 g3 => ?_⟩
    have g03 := g02.trans g3
    have e1 : (inB m w0.1 && inB m w0.2 && !decide (w0.1 = w0.2)) = true := by
      simp only [inB, Bool.and_eq_true, decide_eq_true_eq, Bool.not_eq_true', decide_eq_false_iff_not]
      omega
    rw [e1]
    walk_at "ws"
    refine w_ite (fun e => ?_) (fun e => ?_)
    · walk_at "ws"
      have hi0 : 0 < i := by simpa using e
      obtain ⟨v1, hv1⟩ : ∃ v1, xs[i - 1]? = some v1 := ⟨_, List.getElem?_eq_getElem (show i - 1 < xs.length by omega)⟩
      obtain ⟨d1, hd1, hz1⟩ := DpAll.get hds hv1
      rw [List.getElem?_map] at hd1
      obtain ⟨w1, hw1, rfl⟩ := Option.map_eq_some_iff.mp hd1
      obtain ⟨q1, rfl, hq1⟩ := dp_dP hz1
      have ei : ((i : Nat) : Int) - 1 = ((i - 1 : Nat) : Int) := by omega
      rw [ei]
      refine r_ixT (sqT_t g03.tups hxs) (atI_nat hv1) ?_
      refine ⟨q, q1, [w0.1, w0.2], [w1.1, w1.2], rfl, rfl, sqT_t g03.tups hq, sqT_t g03.tups hq1, ?_⟩
      rw [le_pair]
      walk_at "ws"
      have hlt : ltP w1 w0 := by
        obtain ⟨l1, e1⟩ := List.getElem?_eq_some_iff.mp hw1
        obtain ⟨l0, e0⟩ := List.getElem?_eq_some_iff.mp hw0
        have := List.pairwise_iff_getElem.mp hw.asc (i - 1) i l1 l0 (by omega)
        rw [e1, e0] at this
        exact this
      have e2 : decide (w0.1 < w1.1 ∨ w0.1 = w1.1 ∧ w0.2 ≤ w1.2) = false := by
        rw [decide_eq_false_iff_not]
        unfold ltP at hlt
        omega
      rw [e2]
      walk_at "ws"
      exact ⟨g03, _, _, rfl⟩
    · walk_at "ws"
      exact ⟨g03, _, _, rfl⟩
  · rintro σ H1 ⟨g1, u, v, rfl⟩
    walk_at "ws"
    exact k _ g1

/-! ### a web as an instance -/
theorem mw_ : ¬ (("machines" : Str) = "wires") := by decide +kernel
theorem wm_ : ¬ (("wires" : Str) = "machines") := by decide +kernel
def wf (m wa : V) : List (Str × V) := [("machines", m), ("wires", wa)]
theorem wf_m (m wa : V) : (wf m wa).lookup ("machines" : Str) = some m := by simp [wf, List.lookup]
theorem wf_w (m wa : V) : (wf m wa).lookup ("wires" : Str) = some wa := by
  have e : (("wires" : Str) == "machines") = false := by simpa using wm_
  simp [wf, List.lookup, e]
theorem put0 (m : V) : putF "machines" m [] = [(("machines" : Str), m)] := rfl
theorem put1 (m wa : V) : putF "wires" wa [(("machines" : Str), m)] = wf m wa := by
  show (if ("machines" : Str) = "wires" then _ else (("machines" : Str), m) :: putF "wires" wa []) = _
  rw [if_neg mw_]; rfl
theorem put_m (m n wa : V) : putF "machines" n (wf m wa) = wf n wa := by
  show (if ("machines" : Str) = "machines" then (("machines" : Str), n) :: [(("wires" : Str), wa)] else _) = _
  rw [if_pos rfl]; rfl
theorem put_w (m wa wb : V) : putF "wires" wb (wf m wa) = wf m wb := by
  show (if ("machines" : Str) = "wires" then _ else (("machines" : Str), m) :: (if ("wires" : Str) = "wires" then (("wires" : Str), wb) :: [] else _)) = _
  rw [if_neg mw_, if_pos rfl]; rfl
/-- a web stands at x -/
def WebAt (K : PySem.W.Frag) (C : Addr) (H : Hp) (x : Addr) (m : Int) (ws : List (Int × Int)) : Prop := ∃ (dx wa : Addr), H x = some (.ins C dx (wf (.int m) (.ref wa))) ∧ Dp K H (.ref wa) (dW ws)
theorem WebAt.g {C x hd c : Addr} {m : Int} {ws : List (Int × Int)} {H H' : Hp} (h : WebAt K C H x m ws) (g : G (some (hd, c)) H H') (hh : Hand H hd c) : WebAt K C H' x m ws := by
  obtain ⟨dx, wa, h1, h2⟩ := h
  exact ⟨dx, wa, g.keep x _ (off_ins hh h1) h1, dp_t g.tups _ _ (nl_dW ws) h2⟩
theorem WebAt.n {C x : Addr} {m : Int} {ws : List (Int × Int)} {H H' : Hp} (h : WebAt K C H x m ws) (g : G none H H') : WebAt K C H' x m ws := by
  obtain ⟨dx, wa, h1, h2⟩ := h
  exact ⟨dx, wa, g.all x _ h1, dp_t g.tups _ _ (nl_dW ws) h2⟩
def sp_Web_init (K : PySem.W.Frag) (C : Addr) : Sp := fun vs H Q _ => ∃ (x dx : Addr) (m : Int) (p : Addr) (ws : List (Int × Int)), vs = [.ref x, .int m, .ref p] ∧ H x = some (.ins C dx []) ∧ Dp K H (.ref p) (dW ws) ∧ IsWeb m ws ∧
  ∀ H', (∀ b u, b ≠ x → H b = some u → H' b = some u) → Ts H H' → H' x = some (.ins C dx (wf (.int m) (.ref p))) → Q .non H'
theorem ok_Web_init (T : Txt K mg a) : FnOk P w K mg base CX0 7 a.f_Web_init a.d_Web_init P_Web_init (sp_Web_init K a.c_Web) := by
  refine T.F_Web_init.ok sc_Web_init (fun vs H Q E h => by obtain ⟨x, dx, m, p, ws, rfl, _⟩ := h; rfl) (fun cdv A outer s H vs Q E hr h => ?_)
  obtain ⟨x, dx, m, p, ws, rfl, hxi, hx, hw, k⟩ := h
  have G_is_between : FnOk P w K mg base CX0 2 a.f_is_between a.d_is_between P_is_between sp_is_between := ok_is_between T
  have G_first_wrong_wire : FnOk P w K mg base CX0 6 a.f_first_wrong_wire a.d_first_wrong_wire P_first_wrong_wire (sp_first_wrong_wire K) := ok_first_wrong_wire T
  obtain ⟨p', xs, ep, hxs, hds⟩ := dp_tup hx
  cases ep
  refine ⟨_, (pss_cons (ps_if (pt_not (pt_val (pe_call (G_is_between) (hr.mono (by omega)) rfl T.m_is_between T.F_is_between.kp T.b_is_between .nil pass0 (pa_cons pe_int (pa_cons (pe_glob (v := .int 7) rfl T.m_MOST_MACHINES ⟨_, rfl⟩) (pa_cons (pv 1) pa_nil))))))
    pss_never
    pss_nil)
  (pss_cons (ps_if (pt_not (pt_val (pe_callB call_isi (by rfl) T.n_isinstance (by decide +kernel) (pa_cons (pv 2) (pa_cons (pe_bltn (v := .ty "tuple") (u := .type "tuple") rfl T.n_tuple (by decide +kernel) rfl) pa_nil)))))
    pss_never
    pss_nil)
  (pss_cons (ps_set (i := 3) sc_Web_init.nd rfl (Or.inl rfl) (pe_call (G_first_wrong_wire) (hr.mono (by omega)) rfl T.m_first_wrong_wire T.F_first_wrong_wire.kp T.b_first_wrong_wire .nil pass0 (pa_cons (pv 1) (pa_cons (pv 2) pa_nil))))
  (pss_cons (ps_if (pt_cmp (pc_notN (pv 3)))
    pss_never
    pss_nil)
  (pss_cons (ps_fld (pv 0) (pv 1) rfl)
  (pss_one (ps_fld (pv 0) (pv 2) rfl))))))), ?_⟩
  walk_at "ws"
  refine ⟨_, _, _, rfl, ?_⟩
  have e1 : (decide ((1 : Int) ≤ m) && decide (m ≤ 7)) = true := by
    have := hw.lo
    have := hw.hi
    simp; omega
  rw [e1]
  walk_at "ws"
  refine r_isi (tyx_tup hxs) ki_tt ?_
  walk_at "ws"
  refine ⟨m, p, ws, rfl, hx, hw, fun H1 g1 => ?_⟩
  walk_at "ws"
  refine w_iteN (by decide) ?_
  walk_at "ws"
  have h1 := g1.all _ _ hxi
  refine r_sfld h1 T.cl_Web T.na_Web_machines (by show 0 < 1000; decide) ?_
  walk_at "ws"
  refine r_sfld upd_same T.cl_Web T.na_Web_wires (by rw [put0]; show 1 < 1000; decide) ?_
  rw [put0, put1]
  refine k _ (fun b u n e => ?_) ?_ upd_same
  · rw [upd_ne n, upd_ne n]; exact g1.all _ _ e
  · exact (g1.tups.trans (ts_updI h1)).trans (ts_updI upd_same)

theorem web_new {C : Addr} {H1 : Hp} {m : Int} {p : Addr} {ws : List (Int × Int)} {F : Addr → Hp → Prop} {E : XK} (hd : Dp K H1 (.ref p) (dW ws)) (hw : IsWeb m ws) (q : ∀ x H2, H1 x = none → (∀ o, G o H1 H2) → WebAt K C H2 x m ws → F x H2) :
    ∀ x dx, H1 x = none → H1 dx = none → dx ≠ x → sp_Web_init K C (.ref x :: ([.int m, .ref p] ++ [])) (upd (upd H1 dx (.own x)) x (.ins C dx [])) (fun v H2 => v = .non ∧ F x H2) E := by
  intro x dx hx hdx nex
  have hxi : (upd (upd H1 dx (.own x)) x (.ins C dx [])) x = some (.ins C dx []) := upd_same
  have k12 : ∀ a u, H1 a = some u → (upd (upd H1 dx (.own x)) x (.ins C dx [])) a = some u := fun a u e => by
    rw [upd_ne (ne_of_none e hx), upd_ne (ne_of_none e hdx)]; exact e
  have t12 : Ts H1 (upd (upd H1 dx (.own x)) x (.ins C dx [])) := (G.of_all (o := none) k12).tups
  refine ⟨x, dx, m, p, ws, rfl, hxi, dp_t t12 _ _ (nl_dW ws) hd, hw, fun H2 k2 t2 h2 => ⟨rfl, ?_⟩⟩
  exact q x H2 hx (fun _ => G.of_all fun a u e => k2 a u (ne_of_none e hx) (k12 a u e)) ⟨dx, p, h2, dp_t (t12.trans t2) _ _ (nl_dW ws) hd⟩


theorem tupAll_dp {H : Hp} {p : Addr} : ∀ {bs : List Addr} {ws : List (Int × Int)}, TupAll H bs ws → DpAll K H (bs.map V.ref) (ws.map dP)
  | [], [], _ => .nil
  | b :: bs, u :: ws, h => .cons (dp_ofP (SqT.of (h.2 0 b u rfl rfl))) (tupAll_dp (p := p) ⟨by simpa using h.1, fun i b u e1 e2 => h.2 (i + 1) b u (by simpa using e1) (by simpa using e2)⟩)
  | [], _ :: _, h => by simp [TupAll] at h
  | _ :: _, [], h => by simp [TupAll] at h

end
end Mine
/-! ## K9 -/


namespace Mine
section
variable {P : Program} {w : World} {K : PySem.W.Frag} {mg : Str → Option Value} {base : Heap} {a : Ads}

/-! ### diaries, lists -/
def upto (n : Nat) : List Int := (List.range n).map fun (i : Nat) => (i : Int)
theorem perm_pop {os ls : List Int} {r : Nat} (h : r < ls.length) {l : List Int} (p : (os ++ ls).Perm l) : ((os ++ [ls[r]]) ++ ls.eraseIdx r).Perm l := by
  refine List.Perm.trans ?_ p
  rw [List.append_assoc]
  refine List.Perm.append_left os ?_
  have e := List.take_append_drop r ls
  have e2 : ls.drop r = ls[r] :: ls.drop (r + 1) := List.drop_eq_getElem_cons h
  rw [List.eraseIdx_eq_take_drop_succ]
  have : ls = ls.take r ++ ls[r] :: ls.drop (r + 1) := by rw [← e2, e]
  conv => rhs; rw [this]
  show (ls[r] :: (ls.take r ++ ls.drop (r + 1))).Perm _
  exact List.perm_middle.symm
theorem erase_ints (ls : List Int) (r : Nat) : (ls.map V.int).eraseIdx r = (ls.eraseIdx r).map V.int := erase_mapI ls r

theorem dia_app {H : Hp} {bs : List Addr} {ds : List (List Int)} {b : Addr} {d : List Int} (h2 : bs.length = ds.length) (h3 : ∀ (i : Nat) (b : Addr) (d : List Int), bs[i]? = some b → ds[i]? = some d → FrzT H b (d.map V.int)) (hb : FrzT H b (d.map V.int)) :
    ∀ (i : Nat) (b' : Addr) (d' : List Int), (bs ++ [b])[i]? = some b' → (ds ++ [d])[i]? = some d' → FrzT H b' (d'.map V.int) := fun i b' d' e1 e2 => by
  by_cases c : i < bs.length
  · rw [List.getElem?_append_left c] at e1
    rw [List.getElem?_append_left (by omega)] at e2
    exact h3 i b' d' e1 e2
  · rw [List.getElem?_append_right (by omega)] at e1
    rw [List.getElem?_append_right (by omega), ← h2] at e2
    cases q : i - bs.length with
    | zero =>
      rw [q] at e1 e2
      simp at e1 e2
      subst e1 e2
      exact hb
    | succ j =>
      rw [q] at e1
      simp at e1
theorem FrzT.g {H H' : Hp} {p : Addr} {xs : List V} {o : Option (Addr × Addr)} (h : FrzT H p xs) (g : G o H H') (hh : ∀ q, o = some q → Hand H q.1 q.2) : FrzT H' p xs := by
  obtain ⟨ob, h, d⟩ := h
  refine ⟨ob, g.keep p _ (fun q e => ?_) h, d⟩
  obtain ⟨_, _, _, _, _, _, z, _⟩ := hh q e
  exact ne_of h z (by intro z; cases z)
theorem FrzT.put {H : Hp} {p l : Addr} {xs ys : List V} {u : HO} (h : FrzT H p xs) (hl : H l = some (.lst ys)) : FrzT (upd H l u) p xs := by
  obtain ⟨ob, h, d⟩ := h
  exact ⟨ob, by rw [upd_ne (ne_of h hl (by intro z; cases z))]; exact h, d⟩
theorem mo_len {K : PySem.W.Frag} {i : Nat} : MoE (tCB (rLenK K) (tCons (tVar i) tNil)) := fun σ H Q Q' k ⟨v, e, p, ys, e1, e2, q⟩ => ⟨v, e, p, ys, e1, e2, k _ _ q⟩

end
end Mine
/-! ## KP -/
end
namespace Mine
/-! ### ways of wires -/
inductive Reach (ws : List (Int × Int)) : Int → Int → Prop where
  | refl (y : Int) : Reach ws y y
  | step {y z x : Int} : Reach ws y z → (z, x) ∈ ws → Reach ws y x
theorem Reach.trans {ws : List (Int × Int)} {y z x : Int} (h : Reach ws y z) (h' : Reach ws z x) : Reach ws y x := by
  induction h' with
  | refl => exact h
  | step _ e ih => exact .step ih e
theorem Reach.one {ws : List (Int × Int)} {y x : Int} (h : (y, x) ∈ ws) : Reach ws y x := .step (.refl y) h
/-- by way of machines below k alone -/
inductive Via (ws : List (Int × Int)) (k : Int) : Int → Int → Prop where
  | refl (y : Int) : Via ws k y y
  | one {y x : Int} : (y, x) ∈ ws → Via ws k y x
  | mid {y z x : Int} : z < k → Via ws k y z → Via ws k z x → Via ws k y x
theorem Via.up {ws : List (Int × Int)} {k : Int} {y x : Int} (h : Via ws (k + 1) y x) : Via ws k y x ∨ (Via ws k y k ∧ Via ws k k x) := by
  induction h with
  | refl y => exact .inl (.refl y)
  | one e => exact .inl (.one e)
  | mid hz _ _ h1 h2 =>
    rename_i y z x _ _
    by_cases e : z = k
    · subst e
      have a : Via ws z y z := by rcases h1 with h | h; exact h; exact h.1
      have b : Via ws z z x := by rcases h2 with h | h; exact h; exact h.2
      exact .inr ⟨a, b⟩
    · have hz' : z < k := by omega
      rcases h1 with h1 | h1
      · rcases h2 with h2 | h2
        · exact .inl (.mid hz' h1 h2)
        · exact .inr ⟨.mid hz' h1 h2.1, h2.2⟩
      · rcases h2 with h2 | h2
        · exact .inr ⟨h1.1, .mid hz' h1.2 h2⟩
        · exact .inr ⟨h1.1, h2.2⟩
theorem Reach.via {ws : List (Int × Int)} {m : Int} (hm : ∀ u ∈ ws, u.1 < m ∧ u.2 < m) {y x : Int} (h : Reach ws y x) : Via ws m y x := by
  induction h with
  | refl => exact .refl _
  | step _ e ih => exact .mid (hm _ e).1 ih (.one e)

/-! ### what is found on the way -/
structure Fnd (m : Int) (ws : List (Int × Int)) (y : Int) (ks ls : List Int) : Prop where
  nd : ks.Nodup
  rng : ∀ k ∈ ks, 0 ≤ k ∧ k < m
  reach : ∀ k ∈ ks, Reach ws y k
  sub : ∀ k ∈ ls, k ∈ ks
  begin_ : y ∈ ks
theorem Fnd.len {m : Int} {ws : List (Int × Int)} {y : Int} {ks ls : List Int} (h : Fnd m ws y ks ls) (hm : m ≤ 7) : ks.length ≤ 7 := by
  have := List.Nodup.length_le_of_subset (l₂ := (List.range 7).map fun i => ((i : Nat) : Int)) h.nd fun k hk => by
    have := h.rng k hk
    exact List.mem_map.mpr ⟨k.toNat, List.mem_range.mpr (by omega), by omega⟩
  simpa using this
/-- all ways out of those that are done are taken -/
def Shut (ws : List (Int × Int)) (ks ls : List Int) : Prop := ∀ k ∈ ks, k ∈ ls ∨ ∀ z, (k, z) ∈ ws → z ∈ ks
theorem Fnd.all {m : Int} {ws : List (Int × Int)} {y : Int} {ks : List Int} (h : Fnd m ws y ks []) (c : Shut ws ks []) (z : Int) : z ∈ ks ↔ Reach ws y z := by
  refine ⟨h.reach z, fun r => ?_⟩
  induction r with
  | refl => exact h.begin_
  | step _ e ih =>
    rcases c _ ih with q | q
    · exact absurd q (by simp)
    · exact q _ e
/-- within the turn of one machine: the wires of the first i are looked at -/
structure Trn (m : Int) (ws : List (Int × Int)) (y : Int) (ks0 ls0 : List Int) (here : Int) (i : Nat) (ks ls : List Int) : Prop where
  f : Fnd m ws y ks ls
  shut : ∀ k ∈ ks, k ∈ ls ∨ k = here ∨ ∀ z, (k, z) ∈ ws → z ∈ ks
  seen : ∀ (j : Nat) (x : Int), j < i → ws[j]? = some (here, x) → x ∈ ks
  cnt : ls.length + ks0.length = ls0.length + ks.length
  more : ks0.length ≤ ks.length
  at_ : here ∈ ks
theorem Trn.skip {m : Int} {ws : List (Int × Int)} {y : Int} {ks0 ls0 : List Int} {here : Int} {i : Nat} {ks ls : List Int} (h : Trn m ws y ks0 ls0 here i ks ls) {u : Int × Int} (hu : ws[i]? = some u) (c : u.1 = here → u.2 ∈ ks) : Trn m ws y ks0 ls0 here (i + 1) ks ls :=
  ⟨h.f, h.shut, fun j x hj e => by
    by_cases c2 : j = i
    · subst c2
      rw [hu] at e
      cases e
      exact c rfl
    · exact h.seen j x (by omega) e, h.cnt, h.more, h.at_⟩
theorem Trn.add {m : Int} {ws : List (Int × Int)} {y : Int} {ks0 ls0 : List Int} {here : Int} {i : Nat} {ks ls : List Int} (h : Trn m ws y ks0 ls0 here i ks ls) {u : Int × Int} (hu : ws[i]? = some u) (c : u.1 = here) (n : u.2 ∉ ks) (hr : 0 ≤ u.2 ∧ u.2 < m) :
    Trn m ws y ks0 ls0 here (i + 1) (ks ++ [u.2]) (ls ++ [u.2]) := by
  have hm : u ∈ ws := List.mem_of_getElem? hu
  refine ⟨⟨?_, ?_, ?_, ?_, List.mem_append_left _ h.f.begin_⟩, ?_, ?_, ?_, ?_, List.mem_append_left _ h.at_⟩
  · rw [List.nodup_append]
    exact ⟨h.f.nd, by simp, fun a ha b hb => by
      have e : b = u.2 := by simpa using hb
      rw [e]; intro e2; exact n (e2 ▸ ha)⟩
  · intro k hk
    rcases List.mem_append.mp hk with z | z
    · exact h.f.rng k z
    · have e : k = u.2 := by simpa using z
      rw [e]; exact hr
  · intro k hk
    rcases List.mem_append.mp hk with z | z
    · exact h.f.reach k z
    · have e : k = u.2 := by simpa using z
      rw [e]
      refine .step (h.f.reach here h.at_) ?_
      rw [← c]; exact hm
  · intro k hk
    rcases List.mem_append.mp hk with z | z
    · exact List.mem_append_left _ (h.f.sub k z)
    · exact List.mem_append_right _ z
  · intro k hk
    rcases List.mem_append.mp hk with z | z
    · rcases h.shut k z with q | q | q
      · exact .inl (List.mem_append_left _ q)
      · exact .inr (.inl q)
      · exact .inr (.inr fun z hz => List.mem_append_left _ (q z hz))
    · exact .inl (List.mem_append_right _ z)
  · intro j x hj e
    by_cases c2 : j = i
    · subst c2
      rw [hu] at e
      cases e
      exact List.mem_append_right _ (by simp)
    · exact List.mem_append_left _ (h.seen j x (by omega) e)
  · have := h.cnt
    simp only [List.length_append, List.length_singleton]
    omega
  · have := h.more
    simp only [List.length_append]
    omega
theorem Trn.done {m : Int} {ws : List (Int × Int)} {y : Int} {ks0 ls0 : List Int} {here : Int} {ks ls : List Int} (h : Trn m ws y ks0 ls0 here ws.length ks ls) : Shut ws ks ls := fun k hk => by
  rcases h.shut k hk with q | q | q
  · exact .inl q
  · refine .inr fun z hz => ?_
    obtain ⟨j, hj⟩ := List.getElem?_of_mem hz
    rw [q] at hj
    exact h.seen j z (List.getElem?_eq_some_iff.mp hj).1 hj
  · exact .inr q
end Mine
/-! ## FF -/
namespace Mine
/-! ### what grows, and what the leading of letters comes to -/
abbrev dAt (ds : List (List Int)) (x : Nat) : List Int := ds.getD x []
abbrev aheadOf (d : List Int) (p : Int) : List Int := d.take (d.idxOf p)
def Grow (ds : List (List Int)) (y x : Nat) (p : Int) : Prop := p ∈ dAt ds y ∧ p ∈ dAt ds x ∧ ∀ q ∈ aheadOf (dAt ds y) p, q ∈ aheadOf (dAt ds x) p
instance (ds : List (List Int)) (y x : Nat) (p : Int) : Decidable (Grow ds y x p) := by unfold Grow; infer_instance
def growL (W : List (Int × Int)) (ds : List (List Int)) (p : Int) : List (Int × Int) := W.filter fun u => decide (Grow ds u.1.toNat u.2.toNat p)
structure Rec (ws : List Int) (ds : List (List Int)) : Prop where
  nd : ∀ d ∈ ds, d.Nodup
  rng : ∀ d ∈ ds, ∀ p ∈ d, 0 ≤ p ∧ p < ws.length
/-- x can write what is next in its diary -/
def Can (W : List (Int × Int)) (ws : List Int) (ds : List (List Int)) (n : Nat → Nat) (x : Nat) : Prop :=
  ∃ p, (dAt ds x)[n x]? = some p ∧ (ws[p.toNat]? = some (x : Int) ∨ ∃ y : Nat, ((y : Int), (x : Int)) ∈ W ∧ Grow ds y x p ∧ p ∈ (dAt ds y).take (n y))
def Full (W : List (Int × Int)) (ws : List Int) (ds : List (List Int)) : Prop := ∀ (p : Nat) (w : Int) (x : Nat), ws[p]? = some w → (p : Int) ∈ dAt ds x → Reach (growL W ds p) w x
theorem nd_at {l : List Int} (nd : l.Nodup) {i j : Nat} (hi : i < l.length) (hj : j < l.length) (e : l[i] = l[j]) : i = j := by
  rcases Nat.lt_trichotomy i j with h | h | h
  · exact absurd e (List.pairwise_iff_getElem.mp nd i j hi hj h)
  · exact h
  · exact absurd e.symm (List.pairwise_iff_getElem.mp nd j i hj hi h)
theorem mem_take_idx {d : List Int} {p : Int} {k : Nat} (nd : d.Nodup) (h : p ∈ d) : p ∈ d.take k ↔ d.idxOf p < k := by
  have hi := List.idxOf_lt_length_iff.mpr h
  have e : d[d.idxOf p] = p := List.getElem_idxOf hi
  constructor
  · intro m
    obtain ⟨j, hj, ej⟩ := List.getElem_of_mem m
    rw [List.length_take] at hj
    rw [List.getElem_take] at ej
    have : d.idxOf p = j := by
      rw [← ej]
      have z : d.idxOf d[j] < d.length := List.idxOf_lt_length_iff.mpr (List.getElem_mem _)
      exact nd_at nd z (by omega) (List.getElem_idxOf z)
    omega
  · intro hk
    rw [List.mem_take_iff_getElem]
    exact ⟨d.idxOf p, by omega, e⟩
theorem dAt_mem {ds : List (List Int)} {x : Nat} {p : Int} (h : p ∈ dAt ds x) : dAt ds x ∈ ds := by
  unfold dAt at h ⊢
  rw [List.getD_eq_getElem?_getD] at h ⊢
  cases e : ds[x]? with
  | none => rw [e] at h; nomatch h
  | some d => rw [Option.getD_some]; exact List.mem_of_getElem? e
theorem grow_pos {ws : List Int} {ds : List (List Int)} (r : Rec ws ds) {y x : Nat} {p : Int} (g : Grow ds y x p) : (dAt ds y).idxOf p ≤ (dAt ds x).idxOf p := by
  have hy := List.idxOf_lt_length_iff.mpr g.1
  have nd : (aheadOf (dAt ds y) p).Nodup := (r.nd _ (dAt_mem g.1)).sublist (List.take_sublist _ _)
  have := List.Nodup.length_le_of_subset nd fun q hq => g.2.2 q hq
  rw [List.length_take, List.length_take] at this
  omega
section
variable {W : List (Int × Int)} {ws : List Int} {ds : List (List Int)} {n : Nat → Nat}
theorem ff_stuck (r : Rec ws ds) (wn : ∀ w ∈ ws, 0 ≤ w) (wW : ∀ u ∈ W, 0 ≤ u.1 ∧ 0 ≤ u.2) (full : Full W ws ds) (st : ∀ x, ¬ Can W ws ds n x) : ∀ k (x : Nat) (p : Int), p ∈ dAt ds x → (dAt ds x).idxOf p = k → k < n x := by
  intro k
  induction k using Nat.strongRecOn with
  | ind k ih =>
  intro x p hp hk
  have rg := r.rng _ (dAt_mem hp) p hp
  -- all that stand ahead are written
  have low : ∀ (z : Nat) (q : Int), q ∈ dAt ds z → (dAt ds z).idxOf q ≤ k → (dAt ds z).idxOf q ≤ n z := fun z q hq hl => by
    cases c : (dAt ds z).idxOf q with
    | zero => exact Nat.zero_le _
    | succ j =>
      have hlt := List.idxOf_lt_length_iff.mpr hq
      have hj : j < (dAt ds z).length := by omega
      have e := ih j (by omega) z (dAt ds z)[j] (List.getElem_mem hj) (by
        have z1 : (dAt ds z).idxOf (dAt ds z)[j] < (dAt ds z).length := List.idxOf_lt_length_iff.mpr (List.getElem_mem hj)
        exact nd_at (r.nd _ (dAt_mem hq)) z1 hj (List.getElem_idxOf z1))
      omega
  have next : ∀ (z : Nat), p ∈ dAt ds z → (dAt ds z).idxOf p = n z → (dAt ds z)[n z]? = some p := fun z hz e => by
    have hlt := List.idxOf_lt_length_iff.mpr hz
    rw [← e, List.getElem?_eq_getElem hlt]
    exact congrArg some (List.getElem_idxOf hlt)
  obtain ⟨w, hw⟩ : ∃ w, ws[p.toNat]? = some w := ⟨_, List.getElem?_eq_getElem (by omega)⟩
  have ep : ((p.toNat : Nat) : Int) = p := by omega
  have way : ∀ z : Int, Reach (growL W ds p) w z → p ∈ dAt ds z.toNat → (dAt ds z.toNat).idxOf p ≤ k → (dAt ds z.toNat).idxOf p < n z.toNat := by
    intro z hz
    induction hz with
    | refl =>
      intro hm hl
      rcases Nat.lt_or_ge ((dAt ds w.toNat).idxOf p) k with c | c
      · exact ih _ c _ _ hm rfl
      · have h1 := low _ _ hm hl
        rcases Nat.lt_or_ge ((dAt ds w.toNat).idxOf p) (n w.toNat) with c2 | c2
        · exact c2
        · refine absurd ⟨p, next _ hm (by omega), .inl ?_⟩ (st w.toNat)
          have := wn w (List.mem_of_getElem? hw)
          rw [hw]; congr 1; omega
    | @step z' z _ e ih2 =>
      intro hm hl
      obtain ⟨eW, eg⟩ := List.mem_filter.mp e
      have eg : Grow ds z'.toNat z.toNat p := of_decide_eq_true eg
      have le := grow_pos r eg
      have h0 := ih2 eg.1 (by omega)
      rcases Nat.lt_or_ge ((dAt ds z.toNat).idxOf p) k with c | c
      · exact ih _ c _ _ hm rfl
      · have h1 := low _ _ hm hl
        rcases Nat.lt_or_ge ((dAt ds z.toNat).idxOf p) (n z.toNat) with c2 | c2
        · exact c2
        · refine absurd ⟨p, next _ hm (by omega), .inr ⟨z'.toNat, ?_, eg, ?_⟩⟩ (st z.toNat)
          · have := wW _ eW
            have e1 : ((z'.toNat : Nat) : Int) = z' := by simp only at this; omega
            have e2 : ((z.toNat : Nat) : Int) = z := by simp only at this; omega
            rw [e1, e2]; exact eW
          · exact (mem_take_idx (r.nd _ (dAt_mem eg.1)) eg.1).mpr h0
  have ex : ((x : Int)).toNat = x := Int.toNat_natCast x
  have fin := way x (by have := full p.toNat w x hw (by rw [ep]; exact hp); rw [ep] at this; exact this)
  rw [ex] at fin
  have := fin hp (by omega)
  omega
/-- all that is written so far came along wires that grow -/
def Came (W : List (Int × Int)) (ws : List Int) (ds : List (List Int)) (n : Nat → Nat) : Prop := ∀ (x : Nat) (p : Int) (w : Int), p ∈ (dAt ds x).take (n x) → ws[p.toNat]? = some w → Reach (growL W ds p) w x
theorem came_step (c : Came W ws ds n) {x : Nat} {p : Int} (hp : (dAt ds x)[n x]? = some p) (h : ws[p.toNat]? = some (x : Int) ∨ ∃ y : Nat, ((y : Int), (x : Int)) ∈ W ∧ Grow ds y x p ∧ p ∈ (dAt ds y).take (n y)) :
    Came W ws ds (fun z => if z = x then n x + 1 else n z) := by
  intro z q w hq hw
  have hq : q ∈ (dAt ds z).take (if z = x then n x + 1 else n z) := hq
  by_cases e : z = x
  · subst e
    rw [if_pos rfl, List.take_add_one, hp] at hq
    rcases List.mem_append.mp hq with hq | hq
    · exact c z q w hq hw
    · have eq : q = p := by simpa using hq
      subst eq
      rcases h with h | ⟨y, h1, h2, h3⟩
      · rw [hw] at h; cases h; exact .refl _
      · exact .step (c y q w h3 hw) (List.mem_filter.mpr ⟨h1, decide_eq_true (by simpa using h2)⟩)
  · rw [if_neg e] at hq
    exact c z q w hq hw
theorem ff (r : Rec ws ds) (wn : ∀ w ∈ ws, 0 ≤ w) (wW : ∀ u ∈ W, 0 ≤ u.1 ∧ 0 ≤ u.2) (came : Came W ws ds n) (st : ∀ x, ¬ Can W ws ds n x) (hn : ∀ x, n x ≤ (dAt ds x).length) : (∀ x, n x = (dAt ds x).length) ↔ Full W ws ds := by
  constructor
  · intro h p w x hw hp
    have := came x p w (by rw [h x, List.take_length]; exact hp) (by simpa using hw)
    exact this
  · intro full x
    have h1 := hn x
    rcases Nat.lt_or_ge (n x) (dAt ds x).length with c | c
    · have := ff_stuck r wn wW full st (n x) x (dAt ds x)[n x] (List.getElem_mem c) (by
        have z1 : (dAt ds x).idxOf (dAt ds x)[n x] < (dAt ds x).length := List.idxOf_lt_length_iff.mpr (List.getElem_mem c)
        exact nd_at (r.nd _ (dAt_mem (List.getElem_mem c))) z1 c (List.getElem_idxOf z1))
      omega
    · omega
end
/-! ### the letter that comes -/
def come (own : List Int) (p : Int) : List Int → Nat
  | [] => 0
  | l :: ls => if l = p then 1 else if l ∈ own then (if come own p ls = 0 then 0 else come own p ls + 1) else 0
theorem come_pos {own : List Int} {p : Int} : ∀ {ls : List Int}, come own p ls ≠ 0 → ∃ i, come own p ls = i + 1 ∧ ls[i]? = some p ∧ ∀ j, j < i → ∀ l, ls[j]? = some l → l ∈ own
  | [], h => absurd rfl h
  | l :: ls, h => by
    unfold come at h ⊢
    by_cases c : l = p
    · rw [if_pos c]
      exact ⟨0, rfl, by rw [c]; rfl, fun j hj => absurd hj (Nat.not_lt_zero _)⟩
    · rw [if_neg c] at h ⊢
      by_cases c2 : l ∈ own
      · rw [if_pos c2] at h ⊢
        by_cases c3 : come own p ls = 0
        · rw [if_pos c3] at h; exact absurd rfl h
        · rw [if_neg c3]
          obtain ⟨i, e, h1, h2⟩ := come_pos c3
          refine ⟨i + 1, by rw [e], h1, fun j hj l' hl' => ?_⟩
          cases j with
          | zero =>
            have e : l = l' := by simpa using hl'
            rw [← e]; exact c2
          | succ j => exact h2 j (by omega) l' (by simpa using hl')
      · rw [if_neg c2] at h; exact absurd rfl h
theorem come_of {own : List Int} {p : Int} : ∀ {ls : List Int} {i : Nat}, ls[i]? = some p → (∀ j, j < i → ∀ l, ls[j]? = some l → l ∈ own) → come own p ls ≠ 0
  | [], i, h, _ => by simp at h
  | l :: ls, i, h, k => by
    unfold come
    by_cases c : l = p
    · rw [if_pos c]; exact Nat.one_ne_zero
    · rw [if_neg c]
      cases i with
      | zero => exact absurd (by simpa using h) c
      | succ i =>
        rw [if_pos (k 0 (by omega) l rfl)]
        have := come_of (ls := ls) (i := i) (by simpa using h) fun j hj l' hl' => k (j + 1) (by omega) l' (by simpa using hl')
        rw [if_neg this]
        exact Nat.succ_ne_zero _
/-- the letters on a wire: what its begin has written, but the first c -/
theorem come_grow {ws : List Int} {ds : List (List Int)} (r : Rec ws ds) {y x : Nat} {n : Nat → Nat} {c : Nat} {p : Int} (hp : (dAt ds x)[n x]? = some p) (hc : ∀ q ∈ ((dAt ds y).take (n y)).take c, q ∈ (dAt ds x).take (n x)) :
    come ((dAt ds x).take (n x)) p (((dAt ds y).take (n y)).drop c) ≠ 0 ↔ (Grow ds y x p ∧ p ∈ (dAt ds y).take (n y)) := by
  have hx : p ∈ dAt ds x := List.mem_of_getElem? hp
  have ndx := r.nd _ (dAt_mem hx)
  have hlt := (List.getElem?_eq_some_iff.mp hp).1
  have ix : (dAt ds x).idxOf p = n x := by
    have z1 : (dAt ds x).idxOf p < (dAt ds x).length := List.idxOf_lt_length_iff.mpr hx
    have e : (dAt ds x)[n x] = p := by rw [List.getElem?_eq_getElem hlt] at hp; exact Option.some.inj hp
    exact nd_at ndx z1 hlt ((List.getElem_idxOf z1).trans e.symm)
  have nox : p ∉ (dAt ds x).take (n x) := fun h => by
    have := (mem_take_idx ndx hx).mp h
    omega
  constructor
  · intro h
    obtain ⟨i, _, hi, hj⟩ := come_pos h
    rw [List.getElem?_drop] at hi
    have hpy : p ∈ (dAt ds y).take (n y) := List.mem_of_getElem? hi
    have hy : p ∈ dAt ds y := List.mem_of_mem_take hpy
    have ndy := r.nd _ (dAt_mem hy)
    have hil := (List.getElem?_eq_some_iff.mp hi).1
    have iy : (dAt ds y).idxOf p = c + i := by
      have z1 : (dAt ds y).idxOf p < (dAt ds y).length := List.idxOf_lt_length_iff.mpr hy
      rw [List.length_take] at hil
      have e : (dAt ds y)[c + i]'(by omega) = p := by
        have := (List.getElem?_eq_some_iff.mp hi).2
        rw [List.getElem_take] at this
        exact this
      exact nd_at ndy z1 (by omega) ((List.getElem_idxOf z1).trans e.symm)
    refine ⟨⟨hy, hx, fun q hq => ?_⟩, hpy⟩
    have ax : aheadOf (dAt ds x) p = (dAt ds x).take (n x) := by unfold aheadOf; rw [ix]
    have ay : aheadOf (dAt ds y) p = (dAt ds y).take (c + i) := by unfold aheadOf; rw [iy]
    rw [ax]
    rw [ay] at hq
    obtain ⟨j, hj1, ej⟩ := List.getElem_of_mem hq
    rw [List.length_take] at hj1
    rw [List.getElem_take] at ej
    rw [List.length_take] at hil
    by_cases cj : j < c
    · refine hc q ?_
      rw [← ej, List.take_take, List.mem_take_iff_getElem]
      exact ⟨j, by omega, rfl⟩
    · refine hj (j - c) (by omega) q ?_
      rw [List.getElem?_drop, List.getElem?_take]
      have e2 : c + (j - c) = j := by omega
      rw [e2, if_pos (by omega), List.getElem?_eq_getElem (by omega), ej]
  · rintro ⟨g, hpy⟩
    have hy := g.1
    have ndy := r.nd _ (dAt_mem hy)
    have iy := (mem_take_idx ndy hy).mp hpy
    have z1 : (dAt ds y).idxOf p < (dAt ds y).length := List.idxOf_lt_length_iff.mpr hy
    have ge : c ≤ (dAt ds y).idxOf p := by
      rcases Nat.lt_or_ge ((dAt ds y).idxOf p) c with z | z
      · refine absurd (hc p ?_) nox
        rw [List.take_take]
        exact (mem_take_idx ndy hy).mpr (by omega)
      · exact z
    refine come_of (i := (dAt ds y).idxOf p - c) ?_ fun j hj l hl => ?_
    · rw [List.getElem?_drop, List.getElem?_take]
      have e2 : c + ((dAt ds y).idxOf p - c) = (dAt ds y).idxOf p := by omega
      rw [e2, if_pos iy, List.getElem?_eq_getElem z1]
      exact congrArg some (List.getElem_idxOf z1)
    · rw [List.getElem?_drop, List.getElem?_take, if_pos (by omega)] at hl
      have q := g.2.2 l (by
        rw [List.mem_take_iff_getElem]
        have hl2 := List.getElem?_eq_some_iff.mp hl
        exact ⟨c + j, by have := hl2.1; omega, hl2.2⟩)
      have ax : aheadOf (dAt ds x) p = (dAt ds x).take (n x) := by unfold aheadOf; rw [ix]
      rw [ax] at q
      exact q
end Mine
/-! ## K9b -/
section
open PySem L2 GA
local macro_rules
  | `(tactic| walk_at "w") => `(tactic| first
    | ((with_reducible refine' GA.w_var ?e ?_); (case e => exact rfl))
    | (with_reducible refine' GA.w_c ?_)
    | (with_reducible refine' GA.w_cons ?_)
    | (with_reducible refine' GA.w_nil ?_)
    | (with_reducible refine' GA.w_op ?_)
    | (with_reducible refine' GA.r_I0 ?_)
    | (with_reducible refine' GA.w_bl ?_)
    | (with_reducible refine' GA.w_seq ?_)
    | (with_reducible refine' GA.w_set ?_)
    | (with_reducible refine' GA.w_ret ?_)
    | (with_reducible refine' GA.w_ifS ?_)
    | (with_reducible refine' GA.w_test ?_)
    | (with_reducible refine' GA.w_tB ?_)
    | (with_reducible refine' GA.w_not ?_)
    | (with_reducible refine' GA.w_and ?_)
    | (with_reducible refine' GA.w_or ?_)
    | (with_reducible refine' GA.w_andV ?_)
    | (with_reducible refine' GA.w_orV ?_)
    | (with_reducible refine' GA.w_notV ?_)
    | (with_reducible refine' GA.w_blc ?_)
    | (with_reducible refine' GA.w_if ?_)
    | (with_reducible refine' GA.w_CB ?_)
    | (with_reducible refine' GA.w_call ?_)
    | (with_reducible refine' GA.w_tupN ?_)
    | (with_reducible refine' GA.w_lstN ?_)
    | (with_reducible refine' GA.w_chain ?_)
    | (with_reducible refine' GA.w_drop ?_)
    | (with_reducible refine' GA.w_next ?_)
    | (with_reducible refine' GA.w_break ?_)
    | (with_reducible refine' GA.w_un ?_)
    | (with_reducible refine' GA.r_U ?_)
    | (with_reducible refine' GA.r_eqI ?_)
    | (with_reducible refine' GA.r_neI ?_)
    | (with_reducible refine' GA.r_eqB ?_)
    | (with_reducible refine' GA.r_neB ?_)
    | (with_reducible refine' GA.w_fld ?_)
    | (with_reducible refine' GA.w_sfld ?_)
    | (with_reducible refine' GA.w_sl ?_)
    | (with_reducible refine' GA.w_part ?_)
    | (with_reducible refine' GA.w_noPart ?_)
    | (with_reducible refine' GA.w_inti ?_)
    | (with_reducible refine' GA.w_retN ?_)
    | (with_reducible refine' GA.w_gsub ?_)
    | (with_reducible refine' GA.w_gname ?_)
    | (with_reducible refine' L2.iteT ?_)
    | (with_reducible refine' L2.iteF ?_)
    | (with_reducible refine' GA.w_nt ?_)
    | (with_reducible refine' GA.w_nf ?_)
    | (with_reducible refine' GA.w_isN ?_)
    | (with_reducible refine' GA.w_notN ?_)
    | (with_reducible refine' GA.w_yes ?_)
    | (with_reducible refine' GA.w_lc ?_)
    | (with_reducible refine' GA.w_lc2 ?_)
    | (with_reducible refine' GA.w_iseq ?_)
    | (with_reducible refine' GA.w_make ?_)
    | (with_reducible refine' GA.w_for ?_)
    | (with_reducible refine' GA.w_rng1 ?_)
    | (with_reducible refine' GA.w_rng2 ?_)
    | (with_reducible refine' GA.w_itup ?_)
    | (with_reducible refine' GA.w_ilist ?_)
    | (with_reducible refine' GA.w_ienum ?_)
    | (with_reducible refine' GA.w_BM ?_)
    | (with_reducible refine' GA.w_BM0 ?_)
    | (with_reducible refine' GA.w_izip ?_)
    | (with_reducible refine' GA.w_asg ?_))
  | `(tactic| walk_at "wm") => `(tactic| first
    | ((with_reducible refine' GA.w_var ?e ?_); (case e => exact rfl))
    | (with_reducible refine' GA.w_c ?_)
    | (with_reducible refine' GA.w_cons ?_)
    | (with_reducible refine' GA.w_nil ?_)
    | (with_reducible refine' GA.w_op ?_)
    | (with_reducible refine' GA.r_I0 ?_)
    | (with_reducible refine' GA.w_bl ?_)
    | (with_reducible refine' GA.w_set ?_)
    | (with_reducible refine' GA.w_ret ?_)
    | (with_reducible refine' GA.w_ifS ?_)
    | (with_reducible refine' GA.w_test ?_)
    | (with_reducible refine' GA.w_tB ?_)
    | (with_reducible refine' GA.w_not ?_)
    | (with_reducible refine' GA.w_and ?_)
    | (with_reducible refine' GA.w_or ?_)
    | (with_reducible refine' GA.w_andV ?_)
    | (with_reducible refine' GA.w_orV ?_)
    | (with_reducible refine' GA.w_notV ?_)
    | (with_reducible refine' GA.w_blc ?_)
    | (with_reducible refine' GA.w_if ?_)
    | (with_reducible refine' GA.w_CB ?_)
    | (with_reducible refine' GA.w_call ?_)
    | (with_reducible refine' GA.w_tupN ?_)
    | (with_reducible refine' GA.w_lstN ?_)
    | (with_reducible refine' GA.w_chain ?_)
    | (with_reducible refine' GA.w_drop ?_)
    | (with_reducible refine' GA.w_next ?_)
    | (with_reducible refine' GA.w_break ?_)
    | (with_reducible refine' GA.w_un ?_)
    | (with_reducible refine' GA.r_U ?_)
    | (with_reducible refine' GA.r_eqI ?_)
    | (with_reducible refine' GA.r_neI ?_)
    | (with_reducible refine' GA.r_eqB ?_)
    | (with_reducible refine' GA.r_neB ?_)
    | (with_reducible refine' GA.w_fld ?_)
    | (with_reducible refine' GA.w_sfld ?_)
    | (with_reducible refine' GA.w_sl ?_)
    | (with_reducible refine' GA.w_part ?_)
    | (with_reducible refine' GA.w_noPart ?_)
    | (with_reducible refine' GA.w_inti ?_)
    | (with_reducible refine' GA.w_retN ?_)
    | (with_reducible refine' GA.w_gsub ?_)
    | (with_reducible refine' GA.w_gname ?_)
    | (with_reducible refine' L2.iteT ?_)
    | (with_reducible refine' L2.iteF ?_)
    | (with_reducible refine' GA.w_nt ?_)
    | (with_reducible refine' GA.w_nf ?_)
    | (with_reducible refine' GA.w_isN ?_)
    | (with_reducible refine' GA.w_notN ?_)
    | (with_reducible refine' GA.w_yes ?_)
    | (with_reducible refine' GA.w_lc ?_)
    | (with_reducible refine' GA.w_lc2 ?_)
    | (with_reducible refine' GA.w_iseq ?_)
    | (with_reducible refine' GA.w_make ?_)
    | (with_reducible refine' GA.w_for ?_)
    | (with_reducible refine' GA.w_rng1 ?_)
    | (with_reducible refine' GA.w_rng2 ?_)
    | (with_reducible refine' GA.w_itup ?_)
    | (with_reducible refine' GA.w_ilist ?_)
    | (with_reducible refine' GA.w_ienum ?_)
    | (with_reducible refine' GA.w_BM ?_)
    | (with_reducible refine' GA.w_BM0 ?_)
    | (with_reducible refine' GA.w_izip ?_)
    | (with_reducible refine' GA.w_asg ?_))
  | `(tactic| walk_at "ws") => `(tactic| repeat (walk_at "w"))
  | `(tactic| walk_at "wn") => `(tactic| repeat (walk_at "wm"))


namespace Mine
section
variable {P : Program} {w : World} {K : PySem.W.Frag} {mg : Str → Option Value} {base : Heap} {a : Ads}

/-! ### ways_from -/
def outs (us : List (Int × Int)) (y : Int) : List Int := (us.filter fun u => decide (u.1 = y)).map (·.2)
theorem outs_snoc (us : List (Int × Int)) (u : Int × Int) (y : Int) : outs (us ++ [u]) y = outs us y ++ (if u.1 = y then [u.2] else []) := by
  unfold outs
  rw [List.filter_append, List.map_append]
  congr 1
  by_cases c : u.1 = y <;> simp [c]
theorem outs_mem {us : List (Int × Int)} {y x : Int} : x ∈ outs us y ↔ (y, x) ∈ us := by
  unfold outs
  rw [List.mem_map]
  constructor
  · rintro ⟨u, hu, rfl⟩
    obtain ⟨h1, h2⟩ := List.mem_filter.mp hu
    have e : u.1 = y := of_decide_eq_true h2
    have : u = (y, u.2) := Prod.ext e rfl
    rw [← this]; exact h1
  · intro h
    exact ⟨(y, x), List.mem_filter.mpr ⟨h, decide_eq_true rfl⟩, rfl⟩
abbrev kvO (ps : List (Int × Addr)) : List (Key × V) := ps.map fun p => ((Sum.inl p.1 : Key), V.ref p.2)
theorem kvO_in : ∀ {ps : List (Int × Addr)} {p : Int × Addr}, (ps.map (·.1)).Nodup → p ∈ ps → valV (kvO ps) (Sum.inl p.1) = some (.ref p.2)
  | [], _, _, h => nomatch h
  | q :: ps, p, nd, h => by
    rw [List.map_cons, List.nodup_cons] at nd
    rcases List.mem_cons.mp h with e | h
    · subst e; exact valV_pos rfl
    · refine (valV_neg fun z => ?_).trans (kvO_in nd.2 h)
      have e : q.1 = p.1 := Sum.inl.inj z
      exact nd.1 (e ▸ List.mem_map_of_mem h)
theorem kvO_out {ps : List (Int × Addr)} {y : Int} (h : ∀ p ∈ ps, p.1 ≠ y) : valV (kvO ps) (Sum.inl y) = none := by
  induction ps with
  | nil => rfl
  | cons q ps ih => exact (valV_neg fun z => h q List.mem_cons_self (Sum.inl.inj z)).trans (ih fun p hp => h p (List.mem_cons_of_mem _ hp))
theorem kv_any {kvs : List (Key × V)} {ks : List Int} (h : kvs.map (·.1) = ks.map Sum.inl) (z : Int) : (kvs.any fun kv => decide (kv.1 = (Sum.inl z : Key))) = decide (z ∈ ks) := by
  have e : (kvs.any fun kv => decide (kv.1 = (Sum.inl z : Key))) = (kvs.map (·.1)).any fun k => decide (k = (Sum.inl z : Key)) := by rw [List.any_map]; rfl
  rw [e, h, List.any_map, Bool.eq_iff_iff, List.any_eq_true, decide_eq_true_iff]
  constructor
  · rintro ⟨k, hk, q⟩
    have q : (Sum.inl k : Key) = Sum.inl z := of_decide_eq_true q
    exact Sum.inl.inj q ▸ hk
  · intro hz
    exact ⟨z, hz, decide_eq_true rfl⟩
theorem kv_put {kvs : List (Key × V)} {ks : List Int} (h : kvs.map (·.1) = ks.map Sum.inl) {z : Int} (hz : z ∉ ks) (v : V) : putK kvs (Sum.inl z) v = kvs ++ [((Sum.inl z : Key), v)] := by
  unfold putK
  rw [kv_any h, if_neg (by simpa using hz)]
theorem new_bk {H0 H1 : Hp} {D : Addr} (g : G none H0 H1) (h : H1 D = none) : H0 D = none := by
  cases e : H0 D with
  | none => rfl
  | some u => rw [g.all _ _ e] at h; cases h
theorem w_dsetd {td ty tx : TE} {σ : L2.St} {H : Hp} {Q : VK} (q : td σ H fun x H1 => ∃ a, x = .ref a ∧ IsD H1 a ∧ ty σ H1 fun y H2 => tx σ H2 fun z H3 => ∃ (kvs : List (Key × V)) (k : Key), H3 a = some (.dK kvs) ∧ y = kV k ∧ kvs.length < sizeLine ∧ (∀ v, valV kvs k = some v → Q v H3) ∧ (valV kvs k = none → Q z (upd H3 a (.dK (putK kvs k z))))) : tDSetd td ty tx σ H Q := q
theorem w_dget2 {td ty tx : TE} {σ : L2.St} {H : Hp} {Q : VK} (q : td σ H fun x H1 => ∃ a, x = .ref a ∧ IsD H1 a ∧ ty σ H1 fun y H2 => tx σ H2 fun z H3 => ∃ o, DGet H3 a y o ∧ Q (o.getD z) H3) : tDGet2 td ty tx σ H Q := q
theorem w_aug {i : Nat} {te : TE} {ti : TIp} {D : Ends} {σ : L2.St} {H : Hp} (q : ∃ x, σ[i]? = some (some x) ∧ te σ H fun y H1 => ti x y H1 fun z H2 => D.nx (σ.set i (some z)) H2) : tAug i te ti D σ H := q
/-- where each machine's wires lead, as lists in a dict -/
structure On (H0 H : Hp) (od : Addr) (ps : List (Int × Addr)) (us : List (Int × Int)) : Prop where
  d : H od = some (.dK (kvO ps))
  nk : (ps.map (·.1)).Nodup
  na : (ps.map (·.2)).Nodup
  l : ∀ p ∈ ps, H p.2 = some (.lst ((outs us p.1).map V.int)) ∧ H0 p.2 = none
  all : ∀ u ∈ us, ∃ p ∈ ps, p.1 = u.1
theorem On.keep {H0 H H' : Hp} {od : Addr} {ps : List (Int × Addr)} {us : List (Int × Int)} (o : On H0 H od ps us) (k : ∀ b u, (b = od ∨ ∃ p ∈ ps, b = p.2) → H b = some u → H' b = some u) : On H0 H' od ps us :=
  ⟨k _ _ (.inl rfl) o.d, o.nk, o.na, fun p hp => ⟨k _ _ (.inr ⟨p, hp, rfl⟩) (o.l p hp).1, (o.l p hp).2⟩, o.all⟩
theorem On.none_ {H0 H : Hp} {od : Addr} {ps : List (Int × Addr)} {us : List (Int × Int)} (o : On H0 H od ps us) {y : Int} (h : ∀ p ∈ ps, p.1 ≠ y) : outs us y = [] := by
  refine List.eq_nil_iff_forall_not_mem.mpr fun x hx => ?_
  obtain ⟨p, hp, e⟩ := o.all _ (outs_mem.mp hx)
  exact h p hp e
theorem snd_inj {ps : List (Int × Addr)} (na : (ps.map (·.2)).Nodup) {p q : Int × Addr} (hp : p ∈ ps) (hq : q ∈ ps) (e : p.2 = q.2) : p = q := by
  induction ps with
  | nil => nomatch hp
  | cons r ps ih =>
    rw [List.map_cons, List.nodup_cons] at na
    rcases List.mem_cons.mp hp with e1 | hp
    · rcases List.mem_cons.mp hq with e2 | hq
      · rw [e1, e2]
      · rw [e1] at e; exact absurd (e ▸ List.mem_map_of_mem hq) na.1
    · rcases List.mem_cons.mp hq with e2 | hq
      · rw [e2] at e; exact absurd (e ▸ List.mem_map_of_mem hp) na.1
      · exact ih na.2 hp hq
theorem fst_inj {ps : List (Int × Addr)} (na : (ps.map (·.1)).Nodup) {p q : Int × Addr} (hp : p ∈ ps) (hq : q ∈ ps) (e : p.1 = q.1) : p = q := by
  induction ps with
  | nil => nomatch hp
  | cons r ps ih =>
    rw [List.map_cons, List.nodup_cons] at na
    rcases List.mem_cons.mp hp with e1 | hp
    · rcases List.mem_cons.mp hq with e2 | hq
      · rw [e1, e2]
      · rw [e1] at e; exact absurd (e ▸ List.mem_map_of_mem hq) na.1
    · rcases List.mem_cons.mp hq with e2 | hq
      · rw [e2] at e; exact absurd (e ▸ List.mem_map_of_mem hp) na.1
      · exact ih na.2 hp hq
/-- one wire more, its machine known -/
theorem On.more {H0 H : Hp} {od : Addr} {ps : List (Int × Addr)} {us : List (Int × Int)} (o : On H0 H od ps us) {p : Int × Addr} (hp : p ∈ ps) (x : Int) : On H0 (upd H p.2 (.lst ((outs us p.1).map V.int ++ [.int x]))) od ps (us ++ [(p.1, x)]) := by
  have n0 : od ≠ p.2 := ne_of o.d (o.l p hp).1 (by intro z; cases z)
  refine ⟨by rw [upd_ne n0]; exact o.d, o.nk, o.na, fun q hq => ⟨?_, (o.l q hq).2⟩, fun u hu => ?_⟩
  · rw [outs_snoc]
    by_cases c : q = p
    · subst c
      rw [upd_same, if_pos rfl, List.map_append]; rfl
    · have n1 : q.2 ≠ p.2 := fun e => c (snd_inj o.na hq hp e)
      have n2 : ¬ p.1 = q.1 := fun e => c (fst_inj o.nk hq hp e.symm)
      rw [upd_ne n1, if_neg n2, List.append_nil]
      exact (o.l q hq).1
  · rcases List.mem_append.mp hu with h | h
    · exact o.all u h
    · have e : u = (p.1, x) := by simpa using h
      subst e; exact ⟨p, hp, rfl⟩
/-- one wire more, its machine new -/
theorem On.new {H0 H : Hp} {od l : Addr} {ps : List (Int × Addr)} {us : List (Int × Int)} (o : On H0 H od ps us) {y : Int} (hy : ∀ p ∈ ps, p.1 ≠ y) (hl : H l = some (.lst [])) (h0 : H0 l = none) (nl : ∀ p ∈ ps, p.2 ≠ l) (x : Int) :
    On H0 (upd (upd H od (.dK (kvO ps ++ [((Sum.inl y : Key), V.ref l)]))) l (.lst ([] ++ [.int x]))) od (ps ++ [(y, l)]) (us ++ [(y, x)]) := by
  have n0 : od ≠ l := ne_of o.d hl (by intro z; cases z)
  refine ⟨by rw [upd_ne n0, upd_same]; unfold kvO; rw [List.map_append]; rfl, ?_, ?_, fun q hq => ?_, fun u hu => ?_⟩
  · rw [List.map_append, List.nodup_append]
    refine ⟨o.nk, by simp, fun a ha b hb e => ?_⟩
    have eb : b = y := by simpa using hb
    obtain ⟨p, hp, e2⟩ := List.mem_map.mp ha
    exact hy p hp (by rw [e2, e, eb])
  · rw [List.map_append, List.nodup_append]
    refine ⟨o.na, by simp, fun a ha b hb e => ?_⟩
    have eb : b = l := by simpa using hb
    obtain ⟨p, hp, e2⟩ := List.mem_map.mp ha
    exact nl p hp (by rw [e2, e, eb])
  · rw [outs_snoc]
    rcases List.mem_append.mp hq with h | h
    · have n1 : q.2 ≠ od := (ne_of o.d (o.l q h).1 (by intro z; cases z)).symm
      have n2 : ¬ y = q.1 := fun e => hy q h e.symm
      rw [upd_ne (nl q h), upd_ne n1, if_neg n2, List.append_nil]
      exact o.l q h
    · have e : q = (y, l) := by simpa using h
      subst e
      rw [upd_same, if_pos rfl, o.none_ hy]
      exact ⟨rfl, h0⟩
  · rcases List.mem_append.mp hu with h | h
    · obtain ⟨p, hp, e⟩ := o.all u h
      exact ⟨p, List.mem_append_left _ hp, e⟩
    · have e : u = (y, x) := by simpa using h
      subst e; exact ⟨(y, l), List.mem_append_right _ (by simp), rfl⟩
theorem ps_few {ps : List (Int × Addr)} {m : Int} (nk : (ps.map (·.1)).Nodup) (h : ∀ p ∈ ps, 0 ≤ p.1 ∧ p.1 < m) (hm : m ≤ 60) : ps.length ≤ 60 := by
  have := List.Nodup.length_le_of_subset (l₂ := (List.range 60).map fun (i : Nat) => (i : Int)) nk fun k hk => by
    obtain ⟨p, hp, rfl⟩ := List.mem_map.mp hk
    have := h p hp
    exact List.mem_map.mpr ⟨p.1.toNat, List.mem_range.mpr (by omega), by omega⟩
  simpa using this
/-- what is found on the way -/
structure Way (m : Int) (us : List (Int × Int)) (y : Int) (qs : List Int) (n : Nat) : Prop where
  nd : qs.Nodup
  rng : ∀ k ∈ qs, 0 ≤ k ∧ k < m
  reach : ∀ k ∈ qs, Reach us y k
  begin_ : y ∈ qs
  le : n ≤ qs.length
  shut : ∀ (i : Nat) (k : Int), i < n → qs[i]? = some k → ∀ z, (k, z) ∈ us → z ∈ qs
theorem Way.few {m : Int} {us : List (Int × Int)} {y : Int} {qs : List Int} {n : Nat} (w : Way m us y qs n) : (qs.length : Int) ≤ m := by
  have hm : 0 ≤ m := by have := w.rng _ w.begin_; omega
  have := List.Nodup.length_le_of_subset (l₂ := (List.range m.toNat).map fun (i : Nat) => (i : Int)) w.nd fun k hk => by
    have := w.rng k hk
    exact List.mem_map.mpr ⟨k.toNat, List.mem_range.mpr (by omega), by omega⟩
  simp at this
  omega
theorem Way.all {m : Int} {us : List (Int × Int)} {y : Int} {qs : List Int} {n : Nat} (w : Way m us y qs n) (e : n = qs.length) (z : Int) : z ∈ qs ↔ Reach us y z := by
  refine ⟨w.reach z, fun r => ?_⟩
  induction r with
  | refl => exact w.begin_
  | step _ e1 ih =>
    obtain ⟨i, hi, e2⟩ := List.getElem_of_mem ih
    exact w.shut i _ (by omega) (by rw [← e2]; exact List.getElem?_eq_getElem hi) _ e1
def sp_ways_from (K : PySem.W.Frag) : Sp := fun vs H Q _ => ∃ (y m : Int) (wa : Addr) (xs : List V) (us : List (Int × Int)), vs = [.int y, .ref wa] ∧ SqL K H wa xs ∧ DpAll K H xs (us.map dP) ∧ (∀ u ∈ us, (0 ≤ u.1 ∧ u.1 < m) ∧ (0 ≤ u.2 ∧ u.2 < m)) ∧ us.length ≤ 1000 ∧ (0 ≤ y ∧ y < m) ∧ m ≤ 60 ∧
  ∀ (f : Addr) (kvs : List (Key × V)) (ks : List Int) H', H f = none → G none H H' → H' f = some (.dK kvs) → kvs.map (·.1) = ks.map Sum.inl → ks.Nodup → (∀ k ∈ ks, 0 ≤ k ∧ k < m) → (∀ z, z ∈ ks ↔ Reach us y z) → Q (.ref f) H'
theorem ok_ways_from (T : Txt K mg a) : FnOk P w K mg base CX0 1 a.f_ways_from a.d_ways_from P_ways_from (sp_ways_from K) := by
  refine T.F_ways_from.ok sc_ways_from (fun vs H Q E h => by obtain ⟨y, m, wa, xs, us, rfl, _⟩ := h; rfl) (fun cdv A outer s H vs Q E hr h => ?_)
  obtain ⟨y, m, wa, xs, us, rfl, hxs, hds, hus, lu, hy, hm, k⟩ := h
  have lx : xs.length = us.length := by rw [DpAll.length hds, List.length_map]
  refine ⟨_, (pss_cons (ps_set (i := 2) sc_ways_from.nd rfl (Or.inl rfl) pe_dnewK)
  (pss_cons (ps_for PassesOwn.never rfl (pi_list (pv 1)) (pg_tup rfl (pgs_cons (pg_name (i := 3) sc_ways_from.nd rfl (Or.inl rfl)) (pgs_cons (pg_name (i := 4) sc_ways_from.nd rfl (Or.inl rfl)) pgs_nil)))
    (pss_one (ps_expr (pe_bm PySem.F.plainAttrs_list PySem.F.slot_list_append PySem.F.type_list_append mt_append (pe_dsetd (pv 2) (pv 3) (pe_lstN pa_nil) ⟨rfl, rfl, rfl, rfl⟩) (pa_cons (pv 4) pa_nil)))))
  (pss_cons (ps_set (i := 5) sc_ways_from.nd rfl (Or.inl rfl) (pe_disp (pps_cons (pv 0) pe_non pps_nil) (by rfl) (by rfl) (fun z => by cases z) (by decide)))
  (pss_cons (ps_set (i := 6) sc_ways_from.nd rfl (Or.inl rfl) (pe_lstN (pa_cons (pv 0) pa_nil)))
  (pss_cons (ps_set (i := 7) sc_ways_from.nd rfl (Or.inl rfl) pe_int)
  (pss_cons (ps_while PassesOwn.never (pt_cmpR op_lt (pv 7) (pe_callB call_len_seq (by rfl) T.n_len (by decide +kernel) (pa_cons (pv 6) pa_nil)) (nomark _))
    (pss_cons (ps_set (i := 8) sc_ways_from.nd rfl (Or.inl rfl) (pe_ix ix_list (pv 6) (pv 7) (fun _ _ => rfl)))
  (pss_cons (ps_aug (i := 7) sc_ways_from.nd rfl (Or.inl rfl) pe_int ip_add)
  (pss_one (ps_for PassesOwn.never rfl (pi_list (pe_dget2 (hu_of hr) (pv 2) (pv 8) (pe_lstN pa_nil) ⟨rfl, rfl, rfl, rfl⟩)) (pg_name (i := 4) sc_ways_from.nd rfl (Or.inl rfl))
    (pss_one (ps_if (pt_cmp (pc_dnotin (hu_of hr) (pv 4) (pv 5)))
    (pss_cons (ps_dput (hu_of hr) (pv 5) (pv 4) (pv 8) rfl)
  (pss_one (ps_expr (pe_bm PySem.F.plainAttrs_list PySem.F.slot_list_append PySem.F.type_list_append mt_append (pv 6) (pa_cons (pv 4) pa_nil)))))
    pss_nil)))))))
  (pss_one (ps_ret (pv 5))))))))), ?_⟩
  walk_at "ws"
  intro od hod
  have h1 : (upd H od (.dK [])) od = some (.dK (kvO [])) := upd_same
  have g1 : G none H (upd H od (.dK [])) := G.alloc hod
  generalize upd H od (.dK []) = H1 at h1 g1 ⊢
  walk_at "ws"
  refine i_list (sqL_n g1 hxs) ?_
  refine for_it (walk_list (xs := xs)) (fun i σ H' => ∃ ps u3 u4, σ = [some (.int y), some (.ref wa), some (.ref od), u3, u4, none, none, none, none] ∧ G none H H' ∧ On H H' od ps (us.take i) ∧ ∀ p ∈ ps, 0 ≤ p.1 ∧ p.1 < m) ⟨[], _, _, rfl, g1, ⟨h1, by simp, by simp, (fun _ h => nomatch h), (fun _ h => nomatch h)⟩, (fun _ h => nomatch h)⟩ (fun i σ H' _ ⟨_, _, _, _, q, _⟩ => sqL_n q hxs) ?_ ?_
  · rintro i v σ _ H2 hi ⟨ps, u3, u4, rfl, g2, on, hps⟩ ⟨rfl, hv⟩
    obtain ⟨d, hd, hvd⟩ := DpAll.get hds hv
    rw [List.getElem?_map] at hd
    obtain ⟨u, hu, rfl⟩ := Option.map_eq_some_iff.mp hd
    obtain ⟨t, rfl, ht⟩ := dp_dP hvd
    have um := hus u (List.mem_of_getElem? hu)
    have tk : us.take (i + 1) = us.take i ++ [u] := by rw [List.take_add_one, hu]; rfl
    have l60 := ps_few on.nk hps hm
    refine ⟨t, _, rfl, sqT_t g2.tups ht, rfl, ?_⟩
    refine ⟨_, _, rfl, ?_⟩
    walk_at "ws"
    refine ⟨_, _, rfl, ?_⟩
    walk_at "ws"
    refine ⟨rfl, ?_⟩
    walk_at "ws"
    refine w_dsetd ?_
    walk_at "ws"
    refine ⟨od, rfl, .inl ⟨_, .inl on.d⟩, ?_⟩
    walk_at "ws"
    refine ⟨sz (by simp), fun l H3 hl g3 h3 => ?_⟩
    have on3 : On H H3 od ps (us.take i) := on.keep fun b u _ e => (g3 none).all _ _ e
    have g03 := g2.trans (g3 none)
    have l0 : H l = none := new_bk g2 hl
    refine ⟨kvO ps, Sum.inl u.1, on3.d, rfl, Nat.lt_of_le_of_lt (by unfold kvO; rw [List.length_map]; exact l60) (by decide : (60 : Nat) < sizeLine), fun v hv => ?_, fun hv => ?_⟩
    · obtain ⟨p, hp, e⟩ : ∃ p ∈ ps, p.1 = u.1 := by
        by_cases c : ∃ p ∈ ps, p.1 = u.1
        · exact c
        · rw [kvO_out fun p hp e => c ⟨p, hp, e⟩] at hv; cases hv
      rw [← e, kvO_in on3.nk hp] at hv
      cases hv
      have hpl := (on3.l p hp).1
      have lo : (outs (us.take i) p.1).length ≤ 1000 := by
        unfold outs
        rw [List.length_map]
        have := List.length_filter_le (fun u => decide (u.1 = p.1)) (us.take i)
        rw [List.length_take] at this
        omega
      refine ⟨.inl ⟨rfl, _, SqL.of hpl⟩, ?_⟩
      walk_at "ws"
      refine r_app hpl (by rw [List.length_map]; omega) ?_
      walk_at "ws"
      have eu : u = (p.1, u.2) := Prod.ext e.symm rfl
      refine ⟨ps, _, _, rfl, g03.mut (on3.l p hp).2 (fun _ e => nomatch e), by rw [tk, eu]; exact on3.more hp u.2, hps⟩
    · have hno : ∀ p ∈ ps, p.1 ≠ u.1 := fun p hp e => by rw [← e, kvO_in on3.nk hp] at hv; cases hv
      have ep : putK (kvO ps) (Sum.inl u.1) (.ref l) = kvO ps ++ [((Sum.inl u.1 : Key), V.ref l)] := kv_put (ks := ps.map (·.1)) (by unfold kvO; rw [List.map_map, List.map_map]; rfl) (fun z => by
        obtain ⟨p, hp, e⟩ := List.mem_map.mp z
        exact hno p hp e) _
      rw [ep]
      have nol : od ≠ l := ne_of on3.d h3 (by intro z; cases z)
      have h4 : (upd H3 od (.dK (kvO ps ++ [((Sum.inl u.1 : Key), V.ref l)]))) l = some (.lst []) := by rw [upd_ne nol.symm]; exact h3
      have g04 : G none H (upd H3 od (.dK (kvO ps ++ [((Sum.inl u.1 : Key), V.ref l)]))) := g03.mut hod (fun _ e => nomatch e)
      have nl : ∀ p ∈ ps, p.2 ≠ l := fun p hp e => by
        have := (on.l p hp).1
        rw [e, hl] at this; cases this
      refine ⟨.inl ⟨rfl, _, SqL.of h4⟩, ?_⟩
      walk_at "ws"
      refine r_app h4 (by simp) ?_
      walk_at "ws"
      refine ⟨ps ++ [(u.1, l)], _, _, rfl, g04.mut l0 (fun _ e => nomatch e), by rw [tk]; exact on3.new hno h3 l0 nl u.2, fun p hp => ?_⟩
      rcases List.mem_append.mp hp with h | h
      · exact hps p h
      · have e : p = (u.1, l) := by simpa using h
        subst e; exact um.1
  rintro σ H2 ⟨ps, u3, u4, rfl, g2, on, hps⟩
  rw [lx, List.take_of_length_le (Nat.le_refl _)] at on
  clear g1 h1
  walk_at "ws"
  intro fa hfa
  show tVar 0 _ _ _
  walk_at "ws"
  refine ⟨upd_same, [(Sum.inl y, .non)], rfl, by simp, ?_⟩
  have hfa0 : H fa = none := new_bk g2 hfa
  have nof : od ≠ fa := ne_of_none on.d hfa
  have g3 : G none H (upd (upd H2 fa (.dK [])) fa (.dK (mergeK [] [(Sum.inl y, .non)]))) := (g2.mut hfa0 (fun _ e => nomatch e)).mut hfa0 (fun _ e => nomatch e)
  have h3f : (upd (upd H2 fa (.dK [])) fa (.dK (mergeK [] [(Sum.inl y, .non)]))) fa = some (.dK [((Sum.inl y : Key), .non)]) := upd_same
  have on3 : On H (upd (upd H2 fa (.dK [])) fa (.dK (mergeK [] [(Sum.inl y, .non)]))) od ps us := on.keep fun b u _ e => by
    have n := ne_of_none e hfa
    rw [upd_ne n, upd_ne n]; exact e
  generalize upd (upd H2 fa (.dK [])) fa (.dK (mergeK [] [(Sum.inl y, .non)])) = H3 at g3 h3f on3 ⊢
  walk_at "ws"
  refine ⟨sz (by simp), fun qa H4 hqa g4 h4 => ?_⟩
  have hqa0 : H qa = none := new_bk g3 hqa
  have h4f := (g4 none).all _ _ h3f
  have nfq : fa ≠ qa := ne_of h4f h4 (by intro z; cases z)
  have on4 : On H H4 od ps us := on3.keep fun b u _ e => (g4 none).all _ _ e
  have npq : ∀ p ∈ ps, p.2 ≠ qa := fun p hp e => by
    have := (on3.l p hp).1
    rw [e, hqa] at this; cases this
  have noq : od ≠ qa := ne_of on4.d h4 (by intro z; cases z)
  have npf : ∀ p ∈ ps, p.2 ≠ fa := fun p hp e => by
    have := (on4.l p hp).1
    rw [e, h4f] at this; cases this
  walk_at "ws"
  refine ⟨fun μ σ H' => ∃ (kvs : List (Key × V)) (qs : List Int) (n : Nat) (v3 v4 v8 : Option V), σ = [some (.int y), some (.ref wa), some (.ref od), v3, v4, some (.ref fa), some (.ref qa), some (.int (n : Int)), v8] ∧ G none H H' ∧ On H H' od ps us ∧ H' fa = some (.dK kvs) ∧ kvs.map (·.1) = qs.map Sum.inl ∧ H' qa = some (.lst (qs.map V.int)) ∧ Way m us y qs n ∧ μ = m.toNat - n,
    ⟨_, [((Sum.inl y : Key), .non)], [y], 0, _, _, _, rfl, g3.trans (g4 none), on4, h4f, rfl, h4, ⟨by simp, fun z hz => ?_, fun z hz => ?_, by simp, Nat.zero_le _, fun i k hi => absurd hi (Nat.not_lt_zero _)⟩, rfl⟩, ?_⟩
  · have e : z = y := by simpa using hz
    rw [e]; exact hy
  · have e : z = y := by simpa using hz
    rw [e]; exact .refl y
  rintro μ σ H5 ⟨kvs, qs, n, v3, v4, v8, rfl, g5, on5, h5f, hkv, h5q, way, rfl⟩
  have few := way.few
  walk_at "ws"
  refine ⟨qa, _, rfl, .inl (SqL.of h5q), ?_⟩
  rw [List.length_map]
  walk_at "ws"
  refine w_ite (fun e => ?_) (fun e => ?_)
  · have hn : n < qs.length := by
      have e : (n : Int) < (qs.length : Int) := of_decide_eq_true e
      omega
    refine ⟨fun σ H' => ∃ (kvs : List (Key × V)) (qs' : List Int) (v3 v4 v8 : Option V), σ = [some (.int y), some (.ref wa), some (.ref od), v3, v4, some (.ref fa), some (.ref qa), some (.int ((n + 1 : Nat) : Int)), v8] ∧ G none H H' ∧ On H H' od ps us ∧ H' fa = some (.dK kvs) ∧ kvs.map (·.1) = qs'.map Sum.inl ∧ H' qa = some (.lst (qs'.map V.int)) ∧ Way m us y qs' (n + 1), ?_, ?_⟩
    · rintro σ' H' ⟨kvs', qs', w3, w4, w8, rfl, q1, q2, q3, q4, q5, q6⟩
      have := q6.few
      have := q6.le
      refine ⟨m.toNat - (n + 1), by omega, kvs', qs', n + 1, _, _, _, rfl, q1, q2, q3, q4, q5, q6, rfl⟩
    · walk_at "ws"
      obtain ⟨here, hh⟩ : ∃ z, qs[n]? = some z := ⟨_, List.getElem?_eq_getElem hn⟩
      refine r_ixL (SqL.of h5q) (v := .int here) (at_of (j := n) rfl (by rw [List.getElem?_map, hh]; rfl)) ?_
      walk_at "ws"
      refine w_aug ⟨_, rfl, ?_⟩
      walk_at "ws"
      refine ⟨_, _, rfl, rfl, ?_⟩
      walk_at "ws"
      refine w_dget2 ?_
      walk_at "ws"
      refine ⟨od, rfl, .inl ⟨_, .inl on5.d⟩, ?_⟩
      walk_at "ws"
      refine ⟨sz (by simp), fun l0 H6 hl0 g6 h6 => ?_⟩
      have on6 : On H H6 od ps us := on5.keep fun b u _ e => (g6 none).all _ _ e
      have h6f := (g6 none).all _ _ h5f
      have h6q := (g6 none).all _ _ h5q
      have g06 := g5.trans (g6 none)
      refine ⟨_, DGet.k (k := Sum.inl here) on6.d, ?_⟩
      obtain ⟨l, el, hl, nlq, nlf⟩ : ∃ l, (valV (kvO ps) (Sum.inl here)).getD (.ref l0) = .ref l ∧ H6 l = some (.lst ((outs us here).map V.int)) ∧ l ≠ qa ∧ l ≠ fa := by
        by_cases c : ∃ p ∈ ps, p.1 = here
        · obtain ⟨p, hp, rfl⟩ := c
          exact ⟨p.2, by rw [kvO_in on6.nk hp]; rfl, (on6.l p hp).1, npq p hp, npf p hp⟩
        · refine ⟨l0, by rw [kvO_out fun p hp e => c ⟨p, hp, e⟩]; rfl, ?_, (ne_of_none h5q hl0).symm, (ne_of_none h5f hl0).symm⟩
          rw [on6.none_ fun p hp e => c ⟨p, hp, e⟩]
          exact h6
      rw [el]
      have reach_h : Reach us y here := way.reach _ (List.mem_of_getElem? hh)
      refine i_list (SqL.of hl) ?_
      refine for_it (walk_list (xs := (outs us here).map V.int)) (fun i σ H' => ∃ (kvs : List (Key × V)) (ext : List Int) (v4 : Option V), σ = [some (.int y), some (.ref wa), some (.ref od), v3, v4, some (.ref fa), some (.ref qa), some (.int ((n : Int) + 1)), some (.int here)] ∧ G none H H' ∧ On H H' od ps us ∧ H' l = some (.lst ((outs us here).map V.int)) ∧ H' fa = some (.dK kvs) ∧ kvs.map (·.1) = (qs ++ ext).map Sum.inl ∧ H' qa = some (.lst ((qs ++ ext).map V.int)) ∧ (qs ++ ext).Nodup ∧ (∀ k ∈ qs ++ ext, (0 ≤ k ∧ k < m) ∧ Reach us y k) ∧ ∀ (j : Nat) (z : Int), j < i → (outs us here)[j]? = some z → z ∈ qs ++ ext)
        ⟨kvs, [], _, rfl, g06, on6, hl, h6f, by rw [List.append_nil]; exact hkv, by rw [List.append_nil]; exact h6q, by rw [List.append_nil]; exact way.nd, fun k hk => by rw [List.append_nil] at hk; exact ⟨way.rng k hk, way.reach k hk⟩, fun j z hj => absurd hj (Nat.not_lt_zero _)⟩ (fun i σ H' _ ⟨_, _, _, _, _, _, q, _⟩ => SqL.of q) ?_ ?_
      · rintro i v σ _ H7 hi ⟨kvs, ext, v4, rfl, g7, on7, h7l, h7f, hkv7, h7q, nd7, rg7, cov⟩ ⟨rfl, hv⟩
        rw [List.getElem?_map] at hv
        obtain ⟨x, hx, rfl⟩ := Option.map_eq_some_iff.mp hv
        have hxu : (here, x) ∈ us := outs_mem.mp (List.mem_of_getElem? hx)
        have l7 : ((qs ++ ext).length : Int) ≤ m := by
          have hm0 : 0 ≤ m := by omega
          have := List.Nodup.length_le_of_subset (l₂ := (List.range m.toNat).map fun (i : Nat) => (i : Int)) nd7 fun k hk => by
            have := (rg7 k hk).1
            exact List.mem_map.mpr ⟨k.toNat, List.mem_range.mpr (by omega), by omega⟩
          rw [List.length_map, List.length_range] at this
          omega
        have lk : kvs.length = (qs ++ ext).length := by
          have := congrArg List.length hkv7
          simpa using this
        walk_at "ws"
        show tVar 4 _ _ _
        walk_at "ws"
        refine ⟨fa, _, rfl, DGet.k (k := Sum.inl x) h7f, ?_⟩
        rw [← valV_any, kv_any hkv7]
        walk_at "ws"
        refine w_ite (fun e2 => ?_) (fun e2 => ?_)
        · have n2 : x ∉ qs ++ ext := by simpa using e2
          walk_at "ws"
          show tVar _ _ _ _
          walk_at "ws"
          refine ⟨fa, _, rfl, DPut.k (k := Sum.inl x) h7f (Nat.lt_of_le_of_lt (by omega : kvs.length ≤ 60) (by decide : (60 : Nat) < sizeLine)), ?_⟩
          rw [kv_put hkv7 n2]
          have h8f : (upd H7 fa (.dK (kvs ++ [((Sum.inl x : Key), V.int here)]))) fa = some (.dK (kvs ++ [((Sum.inl x : Key), V.int here)])) := upd_same
          have h8q : (upd H7 fa (.dK (kvs ++ [((Sum.inl x : Key), V.int here)]))) qa = some (.lst ((qs ++ ext).map V.int)) := by rw [upd_ne nfq.symm]; exact h7q
          have h8l : (upd H7 fa (.dK (kvs ++ [((Sum.inl x : Key), V.int here)]))) l = some (.lst ((outs us here).map V.int)) := by rw [upd_ne nlf]; exact h7l
          have g8 : G none H (upd H7 fa (.dK (kvs ++ [((Sum.inl x : Key), V.int here)]))) := g7.mut hfa0 (fun _ e => nomatch e)
          have on8 : On H (upd H7 fa (.dK (kvs ++ [((Sum.inl x : Key), V.int here)]))) od ps us := on7.keep fun b u hb e => by
            have n : b ≠ fa := by
              rcases hb with rfl | ⟨p, hp, rfl⟩
              · exact nof
              · exact npf p hp
            rw [upd_ne n]; exact e
          generalize upd H7 fa (.dK (kvs ++ [((Sum.inl x : Key), V.int here)])) = H8 at h8f h8q h8l g8 on8 ⊢
          walk_at "ws"
          refine i_BM h8q ?_
          walk_at "ws"
          refine r_app h8q (by rw [List.length_map]; omega) ?_
          walk_at "ws"
          refine ⟨_, ext ++ [x], _, rfl, g8.mut hqa0 (fun _ e => nomatch e), on8.keep fun b u hb e => ?_, by rw [upd_ne nlq]; exact h8l, by rw [upd_ne nfq]; exact h8f, ?_, ?_, ?_, fun k hk => ?_, fun j z hj hz => ?_⟩
          · have n : b ≠ qa := by
              rcases hb with rfl | ⟨p, hp, rfl⟩
              · exact noq
              · exact npq p hp
            rw [upd_ne n]; exact e
          · rw [← List.append_assoc, List.map_append, List.map_append, hkv7]; rfl
          · rw [upd_same]; simp [List.map_append, List.append_assoc]
          · rw [← List.append_assoc]
            exact List.nodup_append.mpr ⟨nd7, by simp, fun a ha b hb e => by
              have eb : b = x := by simpa using hb
              exact n2 (by rw [← eb, ← e]; exact ha)⟩
          · rw [← List.append_assoc] at hk
            rcases List.mem_append.mp hk with h | h
            · exact rg7 k h
            · have e : k = x := by simpa using h
              rw [e]; exact ⟨(hus _ hxu).2, .step reach_h hxu⟩
          · rw [← List.append_assoc]
            rcases Nat.lt_succ_iff_lt_or_eq.mp hj with h | h
            · exact List.mem_append_left _ (cov j z h hz)
            · subst h
              rw [hx] at hz
              cases hz
              exact List.mem_append_right _ (by simp)
        · have n2 : x ∈ qs ++ ext := of_decide_eq_true (by cases h : decide (x ∈ qs ++ ext) with | true => rfl | false => rw [h] at e2; cases e2)
          walk_at "ws"
          refine ⟨kvs, ext, _, rfl, g7, on7, h7l, h7f, hkv7, h7q, nd7, rg7, fun j z hj hz => ?_⟩
          rcases Nat.lt_succ_iff_lt_or_eq.mp hj with h | h
          · exact cov j z h hz
          · subst h
            rw [hx] at hz
            cases hz
            exact n2
      · rintro σ H7 ⟨kvs, ext, v4, rfl, g7, on7, h7l, h7f, hkv7, h7q, nd7, rg7, cov⟩
        rw [List.length_map] at cov
        refine ⟨kvs, qs ++ ext, _, _, _, rfl, g7, on7, h7f, hkv7, h7q, ⟨nd7, fun k hk => (rg7 k hk).1, fun k hk => (rg7 k hk).2, List.mem_append_left _ way.begin_, by rw [List.length_append]; omega, fun i k hi hk z hz => ?_⟩⟩
        by_cases c : i < n
        · rw [List.getElem?_append_left (by omega)] at hk
          exact List.mem_append_left _ (way.shut i k c hk z hz)
        · have ei : i = n := by omega
          subst ei
          rw [List.getElem?_append_left hn, hh] at hk
          cases hk
          obtain ⟨j, hj, ej⟩ := List.getElem_of_mem (outs_mem.mpr hz)
          exact cov j z hj (by rw [← ej]; exact List.getElem?_eq_getElem hj)
  · have hn : n = qs.length := by
      have := way.le
      have e : ¬ (n : Int) < (qs.length : Int) := of_decide_eq_false e
      omega
    walk_at "ws"
    exact k fa kvs qs H5 hfa0 g5 h5f hkv way.nd way.rng (way.all hn)

end
end Mine
/-! ## K10 -/


namespace Mine
section
variable {P : Program} {w : World} {K : PySem.W.Frag} {mg : Str → Option Value} {base : Heap} {a : Ads}

/-! ### a diary bent -/
/-- a diary of x -/
structure IsDia (ws : List Int) (x : Int) (d : List Int) : Prop where
  nd : d.Nodup
  rng : ∀ p ∈ d, 0 ≤ p ∧ p < ws.length
  own : ∀ (p : Nat), ws[p]? = some x → (p : Int) ∈ d
theorem IsDia.perm {ws : List Int} {x : Int} {d d' : List Int} (h : IsDia ws x d) (p : d'.Perm d) : IsDia ws x d' := ⟨p.nodup_iff.mpr h.nd, fun q hq => h.rng q (p.mem_iff.mp hq), fun q hq => p.mem_iff.mpr (h.own q hq)⟩
theorem keep_ints {c : Int → Prop} [DecidablePred c] : ∀ own : List Int, (own.filterMap fun p => if c p then none else some (PyData.int p)) = (own.filter fun p => !decide (c p)).map PyData.int
  | [] => rfl
  | p :: l => by
    rw [List.filterMap_cons, List.filter_cons]
    by_cases h : c p
    · simp only [h, if_true, decide_true, Bool.not_true, Bool.false_eq_true, if_false]
      exact keep_ints l
    · simp only [h, if_false, decide_false, Bool.not_false, if_true, List.map_cons]
      rw [keep_ints l]
theorem keep_nats {c : Int → Prop} [DecidablePred c] : ∀ l : List Nat, (l.filterMap fun (p : Nat) => if c (p : Int) then none else some (PyData.int (p : Int))) = ((l.filter fun (p : Nat) => !decide (c (p : Int))).map fun (p : Nat) => (p : Int)).map PyData.int
  | [] => rfl
  | p :: l => by
    rw [List.filterMap_cons, List.filter_cons]
    by_cases h : c (p : Int)
    · simp only [h, if_true, decide_true, Bool.not_true, Bool.false_eq_true, if_false]
      exact keep_nats l
    · simp only [h, if_false, decide_false, Bool.not_false, if_true, List.map_cons]
      rw [keep_nats l]
theorem cut_from (xs : List V) {k : Nat} (h : k + 1 ≤ xs.length) : cutV xs (some ((k : Int) + 1)) none = xs.drop (k + 1) := by
  have e : ((k : Int) + 1) = ((k + 1 : Nat) : Int) := by omega
  unfold cutV
  rw [HT.sIx_none, e, HT.sIx_nat, Nat.min_eq_left h]
  exact List.take_of_length_le (by rw [List.length_drop]; exact Nat.le_refl _)
theorem ix_nat {n i : Nat} (h : i < n) : ixN n (i : Int) = some i := by
  unfold ixN
  rw [if_pos (by omega), if_pos (by omega)]
  simp
theorem ix_nat' {n i : Nat} (h : i + 1 < n) : ixN n ((i : Int) + 1) = some (i + 1) := by
  have := ix_nat h
  rw [← this]
  congr 1
theorem swap_perm : ∀ (l : List Int) (i : Nat) (h : i + 1 < l.length), ((l.set i l[i + 1]).set (i + 1) (l[i]'(by omega))).Perm l
  | a :: b :: t, 0, _ => List.Perm.swap ..
  | [a], 0, h => by simp at h
  | a :: t, i + 1, h => by
    have h' : i + 1 < t.length := by simpa using h
    exact (swap_perm t i h').cons a
theorem IsDia.less {ws : List Int} {x : Int} {d : List Int} {v : Int} {j : Nat} (h : IsDia ws x d) (e : d[j]? = some v) (nx : ∀ w, ws[v.toNat]? = some w → w ≠ x) : IsDia ws x (d.eraseIdx j) := by
  refine ⟨h.nd.sublist (List.eraseIdx_sublist d j), fun q hq => h.rng q (List.mem_of_mem_eraseIdx hq), fun q hq => ?_⟩
  obtain ⟨i, hi⟩ := List.getElem?_of_mem (h.own q hq)
  have ne : i ≠ j := fun z => by
    subst z
    rw [hi] at e
    have e := Option.some.inj e
    subst e
    exact nx x (by rw [Int.toNat_natCast]; exact hq) rfl
  exact List.mem_eraseIdx_iff_getElem?.mpr ⟨i, ne, hi⟩
theorem IsDia.more {ws : List Int} {x : Int} {d d' : List Int} {v : Int} (h : IsDia ws x d) (n : v ∉ d) (hv : 0 ≤ v ∧ v < ws.length) (p : d'.Perm (v :: d)) : IsDia ws x d' := by
  refine ⟨p.nodup_iff.mpr (List.nodup_cons.mpr ⟨n, h.nd⟩), fun q hq => ?_, fun q hq => p.mem_iff.mpr (List.mem_cons_of_mem _ (h.own q hq))⟩
  rcases List.mem_cons.mp (p.mem_iff.mp hq) with e | e
  · rw [e]; exact hv
  · exact h.rng q e
theorem IsRec.dia {ws : List Int} {ds : List (List Int)} (h : IsRec ws ds) {x : Nat} {d : List Int} (e : ds[x]? = some d) : IsDia ws x d := ⟨h.nd d (List.mem_of_getElem? e), h.rng d (List.mem_of_getElem? e), fun p hp => h.own p x d hp (by rw [Int.toNat_natCast]; exact e)⟩
theorem IsRec.set {ws : List Int} {ds : List (List Int)} (h : IsRec ws ds) {x : Nat} {d : List Int} (hd : IsDia ws x d) : IsRec ws (ds.set x d) := by
  refine ⟨by rw [List.length_set]; exact h.m1, by rw [List.length_set]; exact h.m7, h.p30, fun w hw => by rw [List.length_set]; exact h.wr w hw, fun e he => ?_, fun e he => ?_, fun p w e hp he => ?_⟩
  · rcases List.mem_or_eq_of_mem_set he with z | z
    · exact h.nd e z
    · rw [z]; exact hd.nd
  · rcases List.mem_or_eq_of_mem_set he with z | z
    · exact h.rng e z
    · rw [z]; exact hd.rng
  · rw [List.getElem?_set] at he
    by_cases c : x = w.toNat
    · rw [if_pos c] at he
      split at he
      · cases he
        have wm := h.wr w (List.mem_of_getElem? hp)
        have ew : (x : Int) = w := by omega
        exact hd.own p (by rw [ew]; exact hp)
      · cases he
    · rw [if_neg c] at he
      exact h.own p w e hp he
def sp__law_bent (K : PySem.W.Frag) : Sp := fun vs H Q _ => ∃ (hd c wp dp : Addr) (ws : List Int) (ds : List (List Int)), vs = [.ref hd, .ref wp, .ref dp] ∧ Hand H hd c ∧ SqT K H wp (ws.map V.int) ∧ Dia K H dp ds ∧ IsRec ws ds ∧
  ∀ (p : Addr) (ds' : List (List Int)) H', G (some (hd, c)) H H' → Hand H' hd c → Dia K H' p ds' → IsRec ws ds' → ds'.length = ds.length → Q (.ref p) H'
theorem ok__law_bent (T : Txt K mg a) : FnOk P w K mg base CX0 2 a.f__law_bent a.d__law_bent P__law_bent (sp__law_bent K) := by
  refine T.F__law_bent.ok sc__law_bent (fun vs H Q E h => by obtain ⟨hd, c, wp, dp, ws, ds, rfl, _⟩ := h; rfl) (fun cdv A outer s H vs Q E hr h => ?_)
  obtain ⟨hd, c, wp, dp, ws, ds, rfl, hh, hw, hdia, rec, k⟩ := h
  have G__law_draw : FnOk P w K mg base CX0 1 a.f__law_draw a.d__law_draw P__law_draw sp__law_draw := ok__law_draw T
  have m1 := rec.m1
  have m7 := rec.m7
  have p30 := rec.p30
  have hhp : ∀ p, some (hd, c) = some p → Hand H p.1 p.2 := fun p e => by cases e; exact hh
  refine ⟨_, (pss_cons (ps_set (i := 3) sc__law_bent.nd rfl (Or.inr rfl) (pe_call (G__law_draw) (hr.mono (by omega)) rfl T.m__law_draw T.F__law_draw.kp T.b__law_draw .nil pass0 (pa_cons (pv 0) (pa_cons (pe_callB call_len_seq (by rfl) T.n_len (by decide +kernel) (pa_cons (pv 2) pa_nil)) pa_nil))))
  (pss_cons (ps_set (i := 4) sc__law_bent.nd rfl (Or.inr rfl) (pe_callTy call_listN (by rfl) T.n_list (by decide +kernel) (pa_cons (pe_ix ix_tup (pv 2) (pv 3) (fun _ _ => rfl)) pa_nil)))
  (pss_cons (ps_set (i := 5) sc__law_bent.nd rfl (Or.inl rfl) (pe_call (G__law_draw) (hr.mono (by omega)) rfl T.m__law_draw T.F__law_draw.kp T.b__law_draw .nil pass0 (pa_cons (pv 0) (pa_cons pe_int pa_nil))))
  (pss_cons (ps_if (L2.PW.pt (pw_and (pt_cmpR op_eq (pv 5) pe_int (nomark _)) (pw_and1 (pt_cmpR op_gt (pe_callB call_len_seq (by rfl) T.n_len (by decide +kernel) (pa_cons (pv 4) pa_nil)) pe_int (nomark _)))))
    (pss_cons (ps_set (i := 6) sc__law_bent.nd rfl (Or.inl rfl) (pe_call (G__law_draw) (hr.mono (by omega)) rfl T.m__law_draw T.F__law_draw.kp T.b__law_draw .nil pass0 (pa_cons (pv 0) (pa_cons (pe_op op_sub (pe_callB call_len_seq (by rfl) T.n_len (by decide +kernel) (pa_cons (pv 4) pa_nil)) pe_int) pa_nil))))
  (pss_one (ps_asg (pe_tupN (pa_cons (pe_ix ix_list (pv 4) (pe_op op_add (pv 6) pe_int) (fun _ _ => rfl)) (pa_cons (pe_ix ix_list (pv 4) (pv 6) (fun _ _ => rfl)) pa_nil))) (pg_tup rfl (pgs_cons (pg_sub (pv 4) (pv 6) set_list) (pgs_cons (pg_sub (pv 4) (pe_op op_add (pv 6) pe_int) set_list) pgs_nil))))))
    pss_nil)
  (pss_cons (ps_setLc (i := 7) (own := [("_law_put", 9)]) (g := (gName 9))  rfl sc__law_bent.nd rfl rfl (sw_true rfl rfl rfl (by decide +kernel)) (pi_list (pv 4)) (blkOk_by (N := N__law_bent) (sc := defScope s__law_bent) (by decide +kernel)) (fun _ _ _ _ _ => (pg_name (i := 9) sc__law_bent.nd rfl (by first | exact Or.inl rfl | exact Or.inr rfl))) (fun _ _ _ _ _ => (pts_one (pt_cmpR op_ne (pe_ix (k_ix_tup K) (pv 1) (pv 9) (fun _ _ => rfl)) (pv 3) (nomark _)))) (fun _ _ _ _ _ => (pv 9)))
  (pss_cons (ps_if (L2.PW.pt (pw_and (pt_cmpR op_eq (pv 5) pe_int (nomark _)) (pw_and1 (pt_cmpR op_gt (pe_callB call_len_seq (by rfl) T.n_len (by decide +kernel) (pa_cons (pv 7) pa_nil)) pe_int (nomark _)))))
    (pss_one (ps_expr (pe_bm PySem.F.plainAttrs_list PySem.F.slot_list_remove PySem.F.type_list_remove mt_remove (pv 4) (pa_cons (pe_ix ix_list (pv 7) (pe_call (G__law_draw) (hr.mono (by omega)) rfl T.m__law_draw T.F__law_draw.kp T.b__law_draw .nil pass0 (pa_cons (pv 0) (pa_cons (pe_callB call_len_seq (by rfl) T.n_len (by decide +kernel) (pa_cons (pv 7) pa_nil)) pa_nil))) (fun _ _ => rfl)) pa_nil))))
    pss_nil)
  (pss_cons (ps_setLc (i := 8) (own := [("_law_put", 9)]) (g := (gName 9))  rfl sc__law_bent.nd rfl rfl (sw_true rfl rfl rfl (by decide +kernel)) (pi_range1 rfl T.n_range (pa_cons (pe_callB call_len_seq (by rfl) T.n_len (by decide +kernel) (pa_cons (pv 1) pa_nil)) pa_nil)) (blkOk_by (N := N__law_bent) (sc := defScope s__law_bent) (by decide +kernel)) (fun _ _ _ _ _ => (pg_name (i := 9) sc__law_bent.nd rfl (by first | exact Or.inl rfl | exact Or.inr rfl))) (fun _ _ _ _ _ => (pts_one (pt_cmpR (k_op_notIn_seq K) (pv 9) (pv 4) (by rfl)))) (fun _ _ _ _ _ => (pv 9)))
  (pss_cons (ps_if (L2.PW.pt (pw_and (pt_cmpR op_eq (pv 5) pe_int (nomark _)) (pw_and1 (pt_cmpR op_gt (pe_callB call_len_seq (by rfl) T.n_len (by decide +kernel) (pa_cons (pv 8) pa_nil)) pe_int (nomark _)))))
    (pss_one (ps_expr (pe_bm PySem.F.plainAttrs_list PySem.F.slot_list_insert PySem.F.type_list_insert mt_insert (pv 4) (pa_cons (pe_call (G__law_draw) (hr.mono (by omega)) rfl T.m__law_draw T.F__law_draw.kp T.b__law_draw .nil pass0 (pa_cons (pv 0) (pa_cons (pe_op op_add (pe_callB call_len_seq (by rfl) T.n_len (by decide +kernel) (pa_cons (pv 4) pa_nil)) pe_int) pa_nil))) (pa_cons (pe_ix ix_list (pv 8) (pe_call (G__law_draw) (hr.mono (by omega)) rfl T.m__law_draw T.F__law_draw.kp T.b__law_draw .nil pass0 (pa_cons (pv 0) (pa_cons (pe_callB call_len_seq (by rfl) T.n_len (by decide +kernel) (pa_cons (pv 8) pa_nil)) pa_nil))) (fun _ _ => rfl)) pa_nil)))))
    pss_nil)
  (pss_one (ps_ret (pe_op op_catN (pe_op op_catN (pe_slice sl_tupAN (pv 2) po_none (po_some (pv 3))) (pe_tupN (pa_cons (pe_callTy call_tupleF (by rfl) T.n_tuple (by decide +kernel) (pa_cons (pv 4) pa_nil)) pa_nil))) (pe_slice sl_tupAN (pv 2) (po_some (pe_op op_add (pv 3) pe_int)) po_none)))))))))))), ?_⟩
  walk_at "ws"
  obtain ⟨bs, hbs, lb, hb⟩ := id hdia
  refine ⟨dp, _, rfl, .inr hbs, ?_⟩
  walk_at "ws"
  rw [List.length_map]
  refine ⟨hd, c, _, rfl, hh, by omega, by omega, fun r H1 r0 r1 g1 hh1 => ?_⟩
  obtain ⟨x, rfl⟩ : ∃ x : Nat, r = (x : Int) := ⟨r.toNat, by omega⟩
  obtain ⟨b, hbx⟩ : ∃ b, bs[x]? = some b := ⟨_, List.getElem?_eq_getElem (by omega)⟩
  obtain ⟨d, hdx⟩ : ∃ d, ds[x]? = some d := ⟨_, List.getElem?_eq_getElem (by omega)⟩
  have hf := FrzT.g (hb x b d hbx hdx) g1 hhp
  have isd := rec.dia hdx
  walk_at "ws"
  refine r_ixT (sqT_t g1.tups hbs) (v := .ref b) (at_of (j := x) rfl (by rw [List.getElem?_map, hbx]; rfl)) ?_
  refine ⟨b, _, rfl, .inr hf.sq, fun O H2 hO g2 h2 => ?_⟩
  have hO0 : H O = none := new_back g1 hh1 hO
  have offO : ∀ p, some (hd, c) = some p → O ≠ p.1 := fun p e => by cases e; exact hh.ne hO0
  walk_at "ws"
  have hh2 : Hand H2 hd c := (g2 (some (hd, c))).hand _ rfl hh1
  refine ⟨hd, c, 3, rfl, hh2, by decide, by decide, fun kind H3 _ _ g3 hh3 => ?_⟩
  have h3 := g3.keep O _ offO h2
  have g03 := (g1.trans (g2 _)).trans g3
  walk_at "wn"
  dsimp only
  refine w_seqM (fun σ H' => ∃ (own : List Int) (u6 u7 u8 u9 : Option V), σ = [some (.ref hd), some (.ref wp), some (.ref dp), some (.int (x : Int)), some (.ref O), some (.int kind), u6, u7, u8, u9] ∧ G (some (hd, c)) H H' ∧ H' O = some (.lst (own.map V.int)) ∧ IsDia ws x own) (fun N kN => ?_) ?_
  · walk_at "ws"
    refine w_ite (fun e => ?_) (fun e => ?_)
    · walk_at "ws"
      refine ⟨O, _, rfl, .inl (SqL.of h3), ?_⟩
      walk_at "ws"
      rw [List.length_map]
      refine w_ite (fun e2 => ?_) (fun e2 => ?_)
      · have big : (1 : Int) < (d.length : Int) := of_decide_eq_true e2
        have dl := diary_len isd.nd isd.rng
        walk_at "ws"
        refine ⟨O, _, rfl, .inl (SqL.of h3), ?_⟩
        walk_at "ws"
        rw [List.length_map]
        refine ⟨hd, c, _, rfl, hh3, by omega, by omega, fun r H4 r0 r1 g4 hh4 => ?_⟩
        obtain ⟨i, rfl⟩ : ∃ i : Nat, r = (i : Int) := ⟨r.toNat, by omega⟩
        have h4 := g4.keep O _ offO h3
        have hi : i + 1 < d.length := by omega
        walk_at "ws"
        refine r_ixL (SqL.of h4) (v := .int d[i + 1]) (at_of (j := i + 1) (by omega) (by rw [List.getElem?_map, List.getElem?_eq_getElem hi]; rfl)) ?_
        walk_at "ws"
        refine r_ixL (SqL.of h4) (v := .int d[i]) (at_of (j := i) rfl (by rw [List.getElem?_map, List.getElem?_eq_getElem (by omega)]; rfl)) ?_
        walk_at "ws"
        refine ⟨sz (by simp), fun t H5 ht g5 h5 => ?_⟩
        have h5O := (g5 none).all _ _ h4
        refine ⟨t, _, rfl, SqT.of h5, rfl, ?_⟩
        refine ⟨_, _, rfl, ?_⟩
        walk_at "ws"
        refine ⟨O, _, _, i, rfl, rfl, h5O, ix_nat (by rw [List.length_map]; omega), ?_⟩
        refine ⟨_, _, rfl, ?_⟩
        walk_at "ws"
        refine ⟨O, _, _, i + 1, rfl, rfl, upd_same, ix_nat' (by rw [List.length_set, List.length_map]; omega), ?_⟩
        have e3 : (((d.map V.int).set i (.int d[i + 1])).set (i + 1) (.int d[i])) = (((d.set i d[i + 1]).set (i + 1) d[i]).map V.int) := by rw [List.map_set, List.map_set]
        refine ⟨rfl, ?_⟩
        refine kN _ _ ?_
        refine ⟨_, _, _, _, _, rfl, ((((g03.trans g4).trans (g5 _)).mut hO0 hhp).mut hO0 hhp), by rw [upd_same, e3], isd.perm (swap_perm d i hi)⟩
      · walk_at "ws"
        exact kN _ _ ⟨d, _, _, _, _, rfl, g03, h3, isd⟩
    · walk_at "ws"
      exact kN _ _ ⟨d, _, _, _, _, rfl, g03, h3, isd⟩
  · clear h3 g03 hh3 g3 hh2 g2 h2
    rintro σ H3 ⟨own, u6, u7, u8, u9, rfl, g03, h3, isd⟩
    have hh3 : Hand H3 hd c := g03.hand (hd, c) rfl hh
    have ol := diary_len isd.nd isd.rng
    have hw3 := sqT_t g03.tups hw
    walk_at "ws"
    refine i_list (SqL.of h3) ?_
    intro D hD
    refine lc_pure (K := K) (o := none) (walk_list (xs := own.map V.int)) (by rw [List.length_map]; omega) hD (fun _ e => nomatch e) (fun i => own[i]?.bind fun p => if ws[p.toNat]? = some (x : Int) then none else some (PyData.int p)) (fun H' g => SqL.of (g.all _ _ h3)) ?_ ?_
    · rintro i v _ H4 hi g4 ⟨rfl, hv⟩ Qy Qn ky kn
      rw [List.getElem?_map] at hv
      obtain ⟨p, hp, rfl⟩ := Option.map_eq_some_iff.mp hv
      have pm := isd.rng p (List.mem_of_getElem? hp)
      obtain ⟨w0, hw0⟩ : ∃ w0, ws[p.toNat]? = some w0 := ⟨_, List.getElem?_eq_getElem (by omega)⟩
      walk_at "ws"
      refine ⟨rfl, ?_⟩
      walk_at "ws"
      refine r_ixT (sqT_t g4.tups hw3) (v := .int w0) (at_of (j := p.toNat) (by omega) (by rw [List.getElem?_map, hw0]; rfl)) ?_
      walk_at "ws"
      refine w_ite (fun e => ?_) (fun e => ?_)
      · walk_at "ws"
        have e' : ¬ w0 = (x : Int) := by simpa using e
        exact ky _ _ _ G.refl (.int p) rfl (by rw [hp, Option.bind_some, hw0, if_neg (fun z => e' (Option.some.inj z))])
      · have e' : w0 = (x : Int) := by simpa using e
        exact kn _ G.refl (by rw [hp, Option.bind_some, hw0, if_pos (by rw [e'])])
    intro xs H4 g4 hD4 hds hnl
    rw [List.length_map, filterMap_range_fm] at hds
    have e4 : (own.filterMap fun p => if ws[p.toNat]? = some (x : Int) then none else some (PyData.int p)) = (own.filter fun p => !decide (ws[p.toNat]? = some (x : Int))).map PyData.int := by
      exact keep_ints own
    rw [e4] at hds
    obtain rfl := DpAll.of_ints hds
    have h4 := g4.all _ _ h3
    have g04 := g03.trans g4.up
    have hh4 : Hand H4 hd c := g04.hand (hd, c) rfl hh
    have hD0 : H D = none := new_back g03 hh3 hD
    have offD : ∀ p, some (hd, c) = some p → D ≠ p.1 := fun p e => by cases e; exact hh.ne hD0
    walk_at "wn"
    dsimp only
    refine w_seqM (fun σ H' => ∃ (own : List Int) (u6 u7 u8 u9 : Option V), σ = [some (.ref hd), some (.ref wp), some (.ref dp), some (.int (x : Int)), some (.ref O), some (.int kind), u6, u7, u8, u9] ∧ G (some (hd, c)) H H' ∧ H' O = some (.lst (own.map V.int)) ∧ IsDia ws x own) (fun N kN => ?_) ?_
    · walk_at "ws"
      refine w_ite (fun e => ?_) (fun e => ?_)
      · walk_at "ws"
        refine ⟨D, _, rfl, .inl (SqL.of hD4), ?_⟩
        walk_at "ws"
        rw [List.length_map]
        refine w_ite (fun e2 => ?_) (fun e2 => ?_)
        · have big := of_decide_eq_true e2
          have fl := List.length_filter_le (fun p : Int => !decide (ws[p.toNat]? = some (x : Int))) own
          walk_at "ws"
          refine i_BM h4 ?_
          walk_at "ws"
          refine ⟨D, _, rfl, .inl (SqL.of hD4), ?_⟩
          walk_at "ws"
          rw [List.length_map]
          refine ⟨hd, c, _, rfl, hh4, by omega, by omega, fun r H5 r0 r1 g5 hh5 => ?_⟩
          have hD5 := g5.keep D _ offD hD4
          have h5 := g5.keep O _ offO h4
          obtain ⟨v, hv⟩ : ∃ v, (own.filter fun p => !decide (ws[p.toNat]? = some (x : Int)))[r.toNat]? = some v := ⟨_, List.getElem?_eq_getElem (by omega)⟩
          have vm := List.mem_filter.mp (List.mem_of_getElem? hv)
          refine r_ixL (SqL.of hD5) (v := .int v) (at_of (j := r.toNat) (by omega) (by rw [List.getElem?_map, hv]; rfl)) ?_
          walk_at "ws"
          refine ⟨O, own, v, own.idxOf v, rfl, rfl, h5, idx_at vm.1, fun m hm e => ?_, ?_⟩
          · have := idx_of isd.nd e
            omega
          walk_at "ws"
          refine kN _ _ ?_
          exact ⟨_, _, _, _, _, rfl, (g04.trans g5).mut hO0 hhp, upd_same, isd.less (idx_at vm.1) fun w hw z => by
            have q := vm.2
            rw [hw, z] at q
            simp at q⟩
        · walk_at "ws"
          exact kN _ _ ⟨own, _, _, _, _, rfl, g04, h4, isd⟩
      · walk_at "ws"
        exact kN _ _ ⟨own, _, _, _, _, rfl, g04, h4, isd⟩
    clear hnl g04 g4 hds hD4 h4 hh4 g03 h3 hh3 isd ol e4 offD hD0 hD hw3
    clear own
    rintro σ H3 ⟨own, u6, u7, u8, u9, rfl, g03, h3, isd⟩
    have hh3 : Hand H3 hd c := g03.hand (hd, c) rfl hh
    have ol := diary_len isd.nd isd.rng
    have hw3 := sqT_t g03.tups hw
    walk_at "ws"
    refine ⟨wp, _, rfl, .inr hw3, ?_⟩
    walk_at "ws"
    rw [List.length_map]
    refine i_rng1 (by omega) (by omega) ?_
    rw [Int.toNat_natCast]
    intro D hD
    refine lc_pure (K := K) (o := none) walk_range (by omega) hD (fun _ e => nomatch e) (fun (i : Nat) => if (i : Int) ∈ own then none else some (PyData.int (i : Int))) (fun _ _ => trivial) ?_ ?_
    · rintro i _ _ H4 hi g4 ⟨rfl, rfl⟩ Qy Qn ky kn
      walk_at "ws"
      refine ⟨rfl, ?_⟩
      walk_at "ws"
      refine ⟨O, _, rfl, .inl (SqL.of (g4.all _ _ h3)), rfl, by rw [List.all_map, List.all_eq_true]; intro q _; rfl, ?_⟩
      have ein : inV (.int (0 + (i : Int))) (own.map V.int) = decide ((i : Int) ∈ own) := by
        unfold inV
        rw [List.any_map, Bool.eq_iff_iff, List.any_eq_true, decide_eq_true_iff]
        constructor
        · rintro ⟨z, hz, e⟩
          have e : z = (i : Int) := by simpa [eqV] using e
          exact e ▸ hz
        · intro h
          exact ⟨_, h, by simp [eqV]⟩
      rw [ein]
      by_cases c : (i : Int) ∈ own
      · rw [decide_eq_true c]
        walk_at "ws"
        refine w_iteN rfl ?_
        exact kn _ G.refl (by rw [if_pos c])
      · rw [decide_eq_false c]
        walk_at "ws"
        refine w_iteE rfl ?_
        walk_at "ws"
        exact ky _ _ _ G.refl (.int _) rfl (by rw [if_neg c, Int.zero_add])
    intro xs H4 g4 hD4 hds hnl
    have e4 : ((List.range ws.length).filterMap fun (i : Nat) => if (i : Int) ∈ own then none else some (PyData.int (i : Int))) = (((List.range ws.length).filter fun (i : Nat) => !decide ((i : Int) ∈ own)).map fun (i : Nat) => (i : Int)).map PyData.int := keep_nats _
    rw [e4] at hds
    obtain rfl := DpAll.of_ints hds
    have h4 := g4.all _ _ h3
    have g04 := g03.trans g4.up
    have hh4 : Hand H4 hd c := g04.hand (hd, c) rfl hh
    have hD0 : H D = none := new_back g03 hh3 hD
    have offD : ∀ p, some (hd, c) = some p → D ≠ p.1 := fun p e => by cases e; exact hh.ne hD0
    walk_at "wn"
    dsimp only
    refine w_seqM (fun σ H' => ∃ (own : List Int) (u6 u7 u8 u9 : Option V), σ = [some (.ref hd), some (.ref wp), some (.ref dp), some (.int (x : Int)), some (.ref O), some (.int kind), u6, u7, u8, u9] ∧ G (some (hd, c)) H H' ∧ H' O = some (.lst (own.map V.int)) ∧ IsDia ws x own) (fun N kN => ?_) ?_
    · walk_at "ws"
      refine w_ite (fun e => ?_) (fun e => ?_)
      · walk_at "ws"
        refine ⟨D, _, rfl, .inl (SqL.of hD4), ?_⟩
        walk_at "ws"
        rw [List.length_map, List.length_map]
        refine w_ite (fun e2 => ?_) (fun e2 => ?_)
        · have big := of_decide_eq_true e2
          have fl := List.length_filter_le (fun i : Nat => !decide ((i : Int) ∈ own)) (List.range ws.length)
          rw [List.length_range] at fl
          walk_at "ws"
          refine i_BM h4 ?_
          walk_at "ws"
          refine ⟨O, _, rfl, .inl (SqL.of h4), ?_⟩
          walk_at "ws"
          rw [List.length_map]
          refine ⟨hd, c, _, rfl, hh4, by omega, by omega, fun r H5 r0 r1 g5 hh5 => ?_⟩
          have hD5 := g5.keep D _ offD hD4
          walk_at "ws"
          refine ⟨D, _, rfl, .inl (SqL.of hD5), ?_⟩
          walk_at "ws"
          rw [List.length_map, List.length_map]
          refine ⟨hd, c, _, rfl, hh5, by omega, by omega, fun r2 H6 r20 r21 g6 hh6 => ?_⟩
          have hD6 := g6.keep D _ offD hD5
          have h6 := g6.keep O _ offO (g5.keep O _ offO h4)
          obtain ⟨v, hv⟩ : ∃ v, ((List.range ws.length).filter fun (i : Nat) => !decide ((i : Int) ∈ own))[r2.toNat]? = some v := ⟨_, List.getElem?_eq_getElem (by omega)⟩
          have vm := List.mem_filter.mp (List.mem_of_getElem? hv)
          have vr := List.mem_range.mp vm.1
          refine r_ixL (SqL.of hD6) (v := .int (v : Int)) (at_of (j := r2.toNat) (by omega) (by rw [List.getElem?_map, List.getElem?_map, hv]; rfl)) ?_
          walk_at "ws"
          refine ⟨O, _, r, .int (v : Int), rfl, rfl, h6, Nat.lt_of_le_of_lt (by rw [List.length_map]; omega : (own.map V.int).length ≤ 100000) (by decide), r0, by omega, ?_⟩
          walk_at "ws"
          refine kN _ _ ?_
          refine ⟨own.take r.toNat ++ [(v : Int)] ++ own.drop r.toNat, _, _, _, _, rfl, ((g04.trans g5).trans g6).mut hO0 hhp, by rw [upd_same, List.map_append, List.map_append, List.map_take, List.map_drop]; rfl, isd.more (v := (v : Int)) (by simpa using vm.2) (by omega) ?_⟩
          rw [List.append_assoc]
          refine List.perm_middle.trans ?_
          show ((v : Int) :: (own.take r.toNat ++ own.drop r.toNat)).Perm _
          rw [List.take_append_drop]
        · walk_at "ws"
          exact kN _ _ ⟨own, _, _, _, _, rfl, g04, h4, isd⟩
      · walk_at "ws"
        exact kN _ _ ⟨own, _, _, _, _, rfl, g04, h4, isd⟩
    clear hnl g04 g4 hds hD4 h4 hh4 g03 h3 hh3 isd ol e4 offD hD0 hD hw3
    clear own
    rintro σ H3 ⟨own, u6, u7, u8, u9, rfl, g03, h3, isd⟩
    have hh3 : Hand H3 hd c := g03.hand (hd, c) rfl hh
    have hbs3 := sqT_t g03.tups hbs
    have lx : x < bs.length := (List.getElem?_eq_some_iff.mp hbx).1
    walk_at "ws"
    refine ⟨dp, _, rfl, hbs3, fun p1 H4 g4 h4 => ?_⟩
    rw [cut_to _ (by rw [List.length_map]; omega), ← List.map_take] at h4
    walk_at "ws"
    refine ⟨O, _, rfl, SqL.of ((g4 none).all _ _ h3), fun t H5 ht g5 h5 => ?_⟩
    walk_at "ws"
    refine ⟨sz (by simp), fun q H6 hq g6 h6 => ?_⟩
    refine ⟨p1, q, _, _, rfl, rfl, sqT_t ((g5 none).trans (g6 none)).tups h4, SqT.of h6, by simp; omega, fun p2 H7 g7 h7 => ?_⟩
    walk_at "ws"
    have g37 := (((g4 none).trans (g5 none)).trans (g6 none)).trans (g7 none)
    refine ⟨dp, _, rfl, sqT_t g37.tups hbs3, fun p3 H8 g8 h8 => ?_⟩
    rw [cut_from _ (by rw [List.length_map]; omega), ← List.map_drop] at h8
    refine ⟨p2, p3, _, _, rfl, rfl, sqT_t (g8 none).tups h7, h8, by simp; omega, fun p4 H9 g9 h9 => ?_⟩
    have g39 := (g37.trans (g8 none)).trans (g9 none)
    have e9 : bs.take x ++ [t] ++ bs.drop (x + 1) = bs.set x t := by
      rw [List.set_eq_take_append_cons_drop, if_pos lx, List.append_assoc]; rfl
    have e10 : (bs.take x).map V.ref ++ [V.ref t] ++ (bs.drop (x + 1)).map V.ref = (bs.set x t).map V.ref := by
      rw [← e9, List.map_append, List.map_append]; rfl
    rw [e10] at h9
    have g09 := g03.trans g39.up
    refine k p4 (ds.set x own) H9 g09 (g09.hand (hd, c) rfl hh) ⟨bs.set x t, h9, by rw [List.length_set, List.length_set]; exact lb, fun i b' d' e1 e2 => ?_⟩ (rec.set isd) (by rw [List.length_set])
    rw [List.getElem?_set] at e1 e2
    by_cases c : x = i
    · rw [if_pos c, if_pos lx] at e1
      rw [if_pos c, if_pos (by omega)] at e2
      cases e1
      cases e2
      exact h5.n ((((g6 none).trans (g7 none)).trans (g8 none)).trans (g9 none))
    · rw [if_neg c] at e1 e2
      exact FrzT.g (hb i b' d' e1 e2) g09 hhp

end
end Mine
/-! ## K11 -/


namespace Mine
section
variable {P : Program} {w : World} {K : PySem.W.Frag} {mg : Str → Option Value} {base : Heap} {a : Ads}

/-! ### puts and letters led by drawn steps: words -/
theorem k_tupleF {X : Cx} (K : PySem.W.Frag) (hK : X.K = K := by rfl) : CallR X (.type "tuple") (rTupleF K) := by subst hK; exact call_tupleF
/-- the dict of letters: from a wire to the list of the letters on it -/
def keyOfP (u : Int × Int) : List L2.Key := [.inl u.1, .inl u.2]
def dtOf : List (Int × Int) → List Addr → List (List L2.Key × V)
  | u :: W, l :: ls => (keyOfP u, V.ref l) :: dtOf W ls
  | _, _ => []
theorem keyOfP_inj {u v : Int × Int} (e : keyOfP u = keyOfP v) : u = v := by
  unfold keyOfP at e
  simp only [List.cons.injEq, Sum.inl.injEq, and_true] at e
  exact Prod.ext e.1 e.2
theorem valT : ∀ {W : List (Int × Int)} {ls : List Addr} {i : Nat} {u : Int × Int} {l : Addr}, W.Nodup → W[i]? = some u → ls[i]? = some l → valV (dtOf W ls) (keyOfP u) = some (.ref l)
  | [], _, _, _, _, _, e, _ => by simp at e
  | _ :: _, [], _, _, _, _, _, e => by simp at e
  | v :: W, m :: ls, 0, u, l, _, e1, e2 => by
    simp only [List.getElem?_cons_zero, Option.some.injEq] at e1 e2
    subst e1 e2
    exact valV_pos rfl
  | v :: W, m :: ls, i + 1, u, l, nd, e1, e2 => by
    simp only [List.getElem?_cons_succ] at e1 e2
    have n := List.nodup_cons.mp nd
    refine (valV_neg (p := (keyOfP v, V.ref m)) fun z => ?_).trans (valT n.2 e1 e2)
    exact n.1 (keyOfP_inj z ▸ List.mem_of_getElem? e1)
/-- the pairs of which the dict is made -/
def mkL : List (Int × Int) → List Addr → List Addr → List Addr → List DPair
  | u :: W, b :: bs, t :: ts, l :: ls => ⟨t, keyOfP u, b, .ref l⟩ :: mkL W bs ts ls
  | _, _, _, _ => []
theorem mkL_at : ∀ {W : List (Int × Int)} {bs ts ls : List Addr}, bs.length = W.length → ts.length = W.length → ls.length = W.length → (mkL W bs ts ls).map (fun q => V.ref q.at_) = ts.map V.ref
  | [], [], [], [], _, _, _ => rfl
  | u :: W, b :: bs, t :: ts, l :: ls, h1, h2, h3 => by
    simp only [mkL, List.map_cons]
    rw [mkL_at (by simpa using h1) (by simpa using h2) (by simpa using h3)]
theorem mkL_dt : ∀ {W : List (Int × Int)} {bs ts ls : List Addr}, bs.length = W.length → ts.length = W.length → ls.length = W.length → (mkL W bs ts ls).map (fun q => (q.key, q.val)) = dtOf W ls
  | [], [], [], [], _, _, _ => rfl
  | u :: W, b :: bs, t :: ts, l :: ls, h1, h2, h3 => by
    simp only [mkL, dtOf, List.map_cons]
    rw [mkL_dt (by simpa using h1) (by simpa using h2) (by simpa using h3)]
theorem mkL_key : ∀ {W : List (Int × Int)} {bs ts ls : List Addr}, bs.length = W.length → ts.length = W.length → ls.length = W.length → (mkL W bs ts ls).map (fun q => q.key) = W.map keyOfP
  | [], [], [], [], _, _, _ => rfl
  | u :: W, b :: bs, t :: ts, l :: ls, h1, h2, h3 => by
    simp only [mkL, List.map_cons]
    rw [mkL_key (by simpa using h1) (by simpa using h2) (by simpa using h3)]
theorem mkL_mem : ∀ {W : List (Int × Int)} {bs ts ls : List Addr} {q : DPair}, q ∈ mkL W bs ts ls → ∃ (j : Nat) (u : Int × Int) (b t l : Addr), W[j]? = some u ∧ bs[j]? = some b ∧ ts[j]? = some t ∧ ls[j]? = some l ∧ q = ⟨t, keyOfP u, b, .ref l⟩
  | u :: W, b :: bs, t :: ts, l :: ls, q, h => by
    simp only [mkL, List.mem_cons] at h
    rcases h with rfl | h
    · exact ⟨0, u, b, t, l, rfl, rfl, rfl, rfl, rfl⟩
    · obtain ⟨j, u', b', t', l', h1, h2, h3, h4, h5⟩ := mkL_mem h
      exact ⟨j + 1, u', b', t', l', h1, h2, h3, h4, h5⟩
  | [], _, _, _, _, h => by simp [mkL] at h
  | _ :: _, [], _, _, _, h => by simp [mkL] at h
  | _ :: _, _ :: _, [], _, _, h => by simp [mkL] at h
  | _ :: _, _ :: _, _ :: _, [], _, h => by simp [mkL] at h
theorem rg_upto (n : Nat) : rgV 0 (n : Int) = (upto n).map V.int := by
  unfold rgV upto
  rw [List.map_map, Int.sub_zero, Int.toNat_natCast]
  refine List.map_congr_left fun i _ => ?_
  show V.int (0 + ((i : Nat) : Int)) = V.int ((i : Nat) : Int)
  rw [Int.zero_add]
theorem isweb_len49 {m : Int} {ws : List (Int × Int)} (h : IsWeb m ws) : ws.length ≤ 49 := by
  have hn : (ws.map fun u => (u.1 * 7 + u.2).toNat).Nodup := by
    have : (ws.map fun u => (u.1 * 7 + u.2).toNat).Pairwise (· < ·) := by
      rw [List.pairwise_map]
      refine List.Pairwise.imp_of_mem (fun {u v} hu hv huv => ?_) h.asc
      have h1 := h.mem u hu
      have h2 := h.mem v hv
      have := h.hi
      unfold ltP at huv
      omega
    exact this.imp fun h => Nat.ne_of_lt h
  have := List.Nodup.length_le_of_subset (l₂ := List.range 49) hn fun k hk => by
    obtain ⟨u, hu, rfl⟩ := List.mem_map.mp hk
    have h1 := h.mem u hu
    have := h.hi
    rw [List.mem_range]
    omega
  simpa using this
theorem web_nodup {m : Int} {W : List (Int × Int)} (h : IsWeb m W) : W.Nodup := h.asc.imp fun {a b} q e => by
  subst e
  rcases q with q | q <;> omega
/-- where the lists of a run are -/
structure RanA where
  dl : Addr
  lf : Addr
  st : Addr
  ld : Addr
  rs : List Addr
  ls : List Addr
structure RanN (H : Hp) (A : RanA) : Prop where
  dl : H A.dl = none
  lf : H A.lf = none
  st : H A.st = none
  ld : H A.ld = none
  rs : ∀ l ∈ A.rs, H l = none
  ls : ∀ l ∈ A.ls, H l = none
  n1 : A.dl ≠ A.lf
  n2 : A.dl ≠ A.st
  n3 : A.dl ≠ A.ld
  n4 : A.dl ∉ A.rs
  n5 : A.dl ∉ A.ls
  n6 : A.lf ≠ A.st
  n7 : A.lf ≠ A.ld
  n8 : A.lf ∉ A.rs
  n9 : A.lf ∉ A.ls
  n10 : A.st ≠ A.ld
  n11 : A.st ∉ A.rs
  n12 : A.st ∉ A.ls
  n13 : A.ld ∉ A.rs
  n14 : A.ld ∉ A.ls
  n15 : A.rs.Nodup
  n16 : A.ls.Nodup
  n17 : ∀ l ∈ A.rs, l ∉ A.ls
/-- lists of ints at these places -/
def Lists (H : Hp) (as : List Addr) (ns : List (List Int)) : Prop := as.length = ns.length ∧ ∀ (i : Nat) (a : Addr) (l : List Int), as[i]? = some a → ns[i]? = some l → H a = some (.lst (l.map V.int))
theorem Lists.mono {H H' : Hp} {as : List Addr} {ns : List (List Int)} (h : Lists H as ns) (k : ∀ a ∈ as, ∀ u, H a = some u → H' a = some u) : Lists H' as ns := ⟨h.1, fun i a l e1 e2 => k a (List.mem_of_getElem? e1) _ (h.2 i a l e1 e2)⟩
theorem Lists.set {H : Hp} {as : List Addr} {ns : List (List Int)} (h : Lists H as ns) (nd : as.Nodup) {x : Nat} {a : Addr} (ha : as[x]? = some a) (m : List Int) : Lists (upd H a (.lst (m.map V.int))) as (ns.set x m) := by
  refine ⟨by rw [List.length_set]; exact h.1, fun i b l e1 e2 => ?_⟩
  by_cases c : i = x
  · subst c
    rw [ha] at e1
    cases e1
    rw [List.getElem?_set_self (by rw [← h.1]; exact (List.getElem?_eq_some_iff.mp ha).1)] at e2
    cases e2
    exact upd_same
  · rw [List.getElem?_set_ne (fun z => c z.symm)] at e2
    have ne : b ≠ a := fun z => by
      subst z
      exact c (nd_ix nd e1 ha)
    rw [upd_ne ne]
    exact h.2 i b l e1 e2
/-- what they hold -/
structure RanS (W : List (Int × Int)) (A : RanA) (H : Hp) (ds : List (List Int)) (left : List Int) (lt : List (List Int)) (sv : List V) : Prop where
  dl : H A.dl = some (.lst (A.rs.map V.ref))
  lf : H A.lf = some (.lst (left.map V.int))
  st : H A.st = some (.lst sv)
  ld : H A.ld = some (.dT (dtOf W A.ls))
  rs : Lists H A.rs ds
  ls : Lists H A.ls lt
section
variable {W : List (Int × Int)} {A : RanA} {H H1 H2 : Hp} {ds lt : List (List Int)} {left : List Int} {sv : List V} {hd c : Addr}
theorem RanS.g (r : RanS W A H1 ds left lt sv) (N : RanN H A) (hh : Hand H hd c) (g : G (some (hd, c)) H1 H2) : RanS W A H2 ds left lt sv := by
  have off : ∀ a, H a = none → ∀ u, H1 a = some u → H2 a = some u := fun a n u e => g.keep a u (off_new hh n) e
  exact ⟨off _ N.dl _ r.dl, off _ N.lf _ r.lf, off _ N.st _ r.st, off _ N.ld _ r.ld, r.rs.mono fun a m => off a (N.rs a m), r.ls.mono fun a m => off a (N.ls a m)⟩
theorem ne_mem {a b : Addr} {l : List Addr} (h : a ∉ l) (m : b ∈ l) : b ≠ a := fun e => h (e ▸ m)
theorem RanS.left' (r : RanS W A H1 ds left lt sv) (N : RanN H A) (left' : List Int) : RanS W A (upd H1 A.lf (.lst (left'.map V.int))) ds left' lt sv :=
  ⟨by rw [upd_ne N.n1]; exact r.dl, upd_same, by rw [upd_ne N.n6.symm]; exact r.st, by rw [upd_ne N.n7.symm]; exact r.ld, r.rs.mono fun a m u e => by rw [upd_ne (ne_mem N.n8 m)]; exact e, r.ls.mono fun a m u e => by rw [upd_ne (ne_mem N.n9 m)]; exact e⟩
theorem RanS.step' (r : RanS W A H1 ds left lt sv) (N : RanN H A) (sv' : List V) : RanS W A (upd H1 A.st (.lst sv')) ds left lt sv' :=
  ⟨by rw [upd_ne N.n2]; exact r.dl, by rw [upd_ne N.n6]; exact r.lf, upd_same, by rw [upd_ne N.n10.symm]; exact r.ld, r.rs.mono fun a m u e => by rw [upd_ne (ne_mem N.n11 m)]; exact e, r.ls.mono fun a m u e => by rw [upd_ne (ne_mem N.n12 m)]; exact e⟩
theorem RanS.dia' (r : RanS W A H1 ds left lt sv) (N : RanN H A) {x : Nat} {l : Addr} (hl : A.rs[x]? = some l) (d : List Int) : RanS W A (upd H1 l (.lst (d.map V.int))) (ds.set x d) left lt sv := by
  have m := List.mem_of_getElem? hl
  exact ⟨by rw [upd_ne (ne_mem N.n4 m).symm]; exact r.dl, by rw [upd_ne (ne_mem N.n8 m).symm]; exact r.lf, by rw [upd_ne (ne_mem N.n11 m).symm]; exact r.st, by rw [upd_ne (ne_mem N.n13 m).symm]; exact r.ld, r.rs.set N.n15 hl d, r.ls.mono fun a ma u e => by rw [upd_ne (fun (z : a = l) => N.n17 l m (z ▸ ma))]; exact e⟩
theorem RanS.let' (r : RanS W A H1 ds left lt sv) (N : RanN H A) {j : Nat} {l : Addr} (hl : A.ls[j]? = some l) (d : List Int) : RanS W A (upd H1 l (.lst (d.map V.int))) ds left (lt.set j d) sv := by
  have m := List.mem_of_getElem? hl
  exact ⟨by rw [upd_ne (ne_mem N.n5 m).symm]; exact r.dl, by rw [upd_ne (ne_mem N.n9 m).symm]; exact r.lf, by rw [upd_ne (ne_mem N.n12 m).symm]; exact r.st, by rw [upd_ne (ne_mem N.n14 m).symm]; exact r.ld, r.rs.mono fun a ma u e => by rw [upd_ne (fun (z : a = l) => N.n17 a ma (z ▸ m))]; exact e, r.ls.set N.n16 hl d⟩
end
/-- what is true behind i turns -/
structure RanT (n : Nat) (ws : List Int) (most : Int) (i b : Nat) (ds : List (List Int)) (left : List Int) (lt : List (List Int)) (sv : List V) (more : Int) : Prop where
  ld : ds.length = n
  nd : ∀ d ∈ ds, d.Nodup
  rng : ∀ d ∈ ds, ∀ p ∈ d, 0 ≤ p ∧ p < (ws.length : Int)
  lr : ∀ p ∈ left, 0 ≤ p ∧ p < (ws.length : Int)
  tr : ∀ l ∈ lt, ∀ p ∈ l, 0 ≤ p ∧ p < (ws.length : Int)
  cnt : (i : Int) = ((ws.length : Int) - (left.length : Int)) + more
  ll : left.length ≤ ws.length
  m0 : 0 ≤ more
  mm : more ≤ most
  sl : sv.length ≤ i
  tl : ∀ l ∈ lt, l.length ≤ b
def Own (ws : List Int) (ds : List (List Int)) (left : List Int) (o : Option (Int × Int)) : Prop := ∀ (p : Nat) (w : Int) (d : List Int), ws[p]? = some w → ds[w.toNat]? = some d → (p : Int) ∈ d ∨ (p : Int) ∈ left ∨ o = some ((p : Int), w)
theorem mem_erase {left : List Int} {r : Nat} (h : r < left.length) {p : Int} (m : p ∈ left) : p = left[r] ∨ p ∈ left.eraseIdx r := by
  obtain ⟨i, hi⟩ := List.getElem?_of_mem m
  by_cases c : i = r
  · subst c
    exact .inl (by rw [List.getElem?_eq_getElem h] at hi; exact (Option.some.inj hi).symm)
  · exact .inr (List.mem_eraseIdx_iff_getElem?.mpr ⟨i, c, hi⟩)
theorem Own.put {ws : List Int} {ds : List (List Int)} {left : List Int} (h : Own ws ds left none) {r : Nat} (hr : r < left.length) {x : Int} (hx : ws[left[r].toNat]? = some x) (h0 : 0 ≤ left[r]) : Own ws ds (left.eraseIdx r) (some (left[r], x)) := fun p w d e1 e2 => by
  rcases h p w d e1 e2 with q | q | q
  · exact .inl q
  · rcases mem_erase hr q with z | z
    · refine .inr (.inr ?_)
      have e : left[r].toNat = p := by omega
      rw [e, e1] at hx
      rw [← z, Option.some.inj hx]
    · exact .inr (.inl z)
  · cases q
theorem Own.wk {ws : List Int} {ds : List (List Int)} {left : List Int} (h : Own ws ds left none) (o : Option (Int × Int)) : Own ws ds left o := fun p w d e1 e2 => by
  rcases h p w d e1 e2 with q | q | q
  · exact .inl q
  · exact .inr (.inl q)
  · cases q
theorem Own.had {ws : List Int} {ds : List (List Int)} {left : List Int} {put x : Int} (h : Own ws ds left (some (put, x))) {d : List Int} (hd : ds[x.toNat]? = some d) (hp : put ∈ d) : Own ws ds left none := fun p w d' e1 e2 => by
  rcases h p w d' e1 e2 with q | q | q
  · exact .inl q
  · exact .inr (.inl q)
  · cases q
    rw [hd] at e2
    cases e2
    exact .inl hp
theorem Own.app {ws : List Int} {ds : List (List Int)} {left : List Int} {put x : Int} (h : Own ws ds left (some (put, x))) {d : List Int} (hd : ds[x.toNat]? = some d) : Own ws (ds.set x.toNat (d ++ [put])) left none := fun p w d' e1 e2 => by
  rw [List.getElem?_set] at e2
  split at e2
  · rename_i c
    split at e2
    · cases e2
      rcases h p w d e1 (by rw [← c]; exact hd) with q | q | q
      · exact .inl (List.mem_append_left _ q)
      · exact .inr (.inl q)
      · cases q
        exact .inl (List.mem_append_right _ (List.mem_singleton.mpr rfl))
    · cases e2
  · rename_i c
    rcases h p w d' e1 e2 with q | q | q
    · exact .inl q
    · exact .inr (.inl q)
    · cases q
      exact absurd rfl c
theorem mem_set_list {α : Type} {l : List α} {i : Nat} {a b : α} (h : b ∈ l.set i a) : b ∈ l ∨ b = a := List.mem_or_eq_of_mem_set h
theorem ran_rec {n : Nat} {ws : List Int} {most : Int} {i b : Nat} {ds lt : List (List Int)} {sv : List V} {more : Int} (t : RanT n ws most i b ds [] lt sv more) (o : Own ws ds [] none) (n1 : 1 ≤ n) (n7 : n ≤ 7) (p30 : ws.length ≤ 30) (hws : ∀ w ∈ ws, 0 ≤ w ∧ w < (n : Int)) : IsRec ws ds :=
  ⟨by rw [t.ld]; exact n1, by rw [t.ld]; exact n7, p30, fun w hw => by rw [t.ld]; exact hws w hw, t.nd, t.rng, fun p w d e1 e2 => by
    rcases o p w d e1 e2 with q | q | q
    · exact q
    · cases q
    · cases q⟩
/-- wires out of all wires, as data -/
theorem ready_dp {K : PySem.W.Frag} {H : Hp} {bs : List Addr} {W : List (Int × Int)} (tup : TupAll H bs W) : ∀ {xs : List V}, (∀ v ∈ xs, ∃ (j : Nat) (b : Addr), v = .ref b ∧ bs[j]? = some b) → ∃ us : List (Int × Int), us.length = xs.length ∧ DpAll K H xs (us.map dP)
  | [], _ => ⟨[], rfl, .nil⟩
  | v :: xs, h => by
    obtain ⟨us, e, r⟩ := ready_dp (K := K) tup fun v hv => h v (List.mem_cons_of_mem _ hv)
    obtain ⟨j, b, rfl, hb⟩ := h v List.mem_cons_self
    have lj := (List.getElem?_eq_some_iff.mp hb).1
    have lw : j < W.length := by rw [← tup.1]; exact lj
    have hw : W[j]? = some W[j] := List.getElem?_eq_getElem lw
    exact ⟨W[j] :: us, by simp [e], .cons (dp_ofP (SqT.of (tup.2 j b _ hb hw))) r⟩
theorem sh_pairsL (us : List (Int × Int)) : SeqAt.shaped (.list (us.map dP)) = true := sh_of (by
    rw [PyData.canLay0]
    exact canAll fun d h => by
      obtain ⟨n, _, rfl⟩ := List.mem_map.mp h
      exact can_dP n) (by
    rw [PyData.depth]
    have := depAll (n := 1) (ds := us.map dP) fun d h => by
      obtain ⟨n, _, rfl⟩ := List.mem_map.mp h
      exact dep_dP n
    omega)
theorem not_in {H : Hp} {l : Addr} {as : List Addr} {u : HO} (h : H l = none) (k : ∀ x ∈ as, H x = some u) : l ∉ as := fun m => by rw [k l m] at h; cases h
theorem w_ifM {t : TT} {ts tu : TS} {D : Ends} {σ : L2.St} {H : Hp} (M : Bool → Hp → Prop) (h1 : ∀ N : Bool → Hp → Prop, (∀ b H', M b H' → N b H') → t σ H N) (h2 : ∀ b H', M b H' → if b = true then ts D σ H' else tu D σ H') : tIfS t ts tu D σ H := h1 _ h2
theorem pop_ix {ls : List Int} {r : Int} (r0 : 0 ≤ r) (rl : r.toNat < ls.length) : PySem.seqIndex? r (ls.map V.int).length = some r.toNat := by
  unfold PySem.seqIndex?
  rw [List.length_map]
  have n0 : ¬ r < 0 := by omega
  simp [n0]
  omega
theorem inV_ints (d : List Int) (z : Int) : inV (.int z) (d.map V.int) = decide (z ∈ d) := by
  unfold inV
  rw [List.any_map, Bool.eq_iff_iff, List.any_eq_true, decide_eq_true_iff]
  constructor
  · rintro ⟨y, hy, e⟩
    have e : y = z := by simpa [eqV] using e
    exact e ▸ hy
  · intro h
    exact ⟨_, h, by simp [eqV]⟩
theorem w_dget {td ty : TE} {σ : L2.St} {H : Hp} {Q : VK} (q : td σ H fun x H1 => ty σ H1 fun y H2 => ∃ a v, x = .ref a ∧ DGet H2 a y (some v) ∧ Q v H2) : tDGet td ty σ H Q := q
theorem i_dget {F : V → Prop} {H : Hp} {ld b l : Addr} {W : List (Int × Int)} {ls : List Addr} {j : Nat} {u : Int × Int} (nd : W.Nodup) (h : H ld = some (.dT (dtOf W ls))) (hb : H b = some (.tup [.int u.1, .int u.2])) (hu : W[j]? = some u) (hl : ls[j]? = some l) (q : F (.ref l)) : ∃ (a : Addr) (v : V), V.ref ld = .ref a ∧ DGet H a (.ref b) (some v) ∧ F v :=
  ⟨ld, .ref l, rfl, by rw [← valT nd hu hl]; exact DGet.t h hb, q⟩
theorem eqv_none (us : List (Int × Int)) : PyData.eqv (.list (us.map dP)) (.list []) = decide (us.length = 0) := by
  cases us with
  | nil => rfl
  | cons u us => rfl

end
end Mine
/-! ## K20 -/


namespace Mine
section
variable {P : Program} {w : World} {K : PySem.W.Frag} {mg : Str → Option Value} {base : Heap} {a : Ads}

/-! ### where each put stands -/
section
variable {J : It} {n : Nat} {Gd : Hp → Prop} {Y : Nat → Hp → V → Hp → Prop} {g : TG} {tt : TT} {tk tv : TE} {vs : List Nat} {σ : L2.St} {H1 : Hp} {D : Addr} {Qd : Hp → Prop}
theorem dc_it (w : Walk J n Gd Y) (Pv : Nat → Hp → Prop) (h0 : Pv 0 (upd H1 D (.dK []))) (hG : ∀ i H, i ≤ n → Pv i H → Gd H)
    (hs : ∀ i x H H', i < n → Pv i H → Y i H x H' → g x (wipe σ vs) H' fun σ2 H2 => wipe σ2 vs = wipe σ vs ∧ tt σ2 H2 fun b H3 =>
      if b = true then tk σ2 H3 fun y H4 => tv σ2 H4 fun z H5 => ∃ kvs k, y = kV k ∧ H5 D = some (.dK kvs) ∧ kvs.length < sizeLine ∧ Pv (i + 1) (upd H5 D (.dK (putK kvs k z))) else Pv (i + 1) H3) (hd : ∀ H, Pv n H → Qd H) :
    ∃ W : Nat → Nat → Hp → Prop, (∃ m, W 0 m (upd H1 D (.dK []))) ∧ ∀ i m H, W i m H →
      (J.stop i H ∧ Qd H) ∨ (J.go i H ∧ ∃ Nx : Hp → Prop, (∀ H', Nx H' → ∃ m', m' < m ∧ W (i + 1) m' H') ∧ ∀ x H', J.yld i H x H' → g x (wipe σ vs) H' fun σ2 H2 => wipe σ2 vs = wipe σ vs ∧ tt σ2 H2 fun b H3 =>
        if b = true then tk σ2 H3 fun y H4 => tv σ2 H4 fun z H5 => ∃ kvs k, y = kV k ∧ H5 D = some (.dK kvs) ∧ kvs.length < sizeLine ∧ Nx (upd H5 D (.dK (putK kvs k z))) else Nx H3) := by
  refine ⟨fun i m H => m = n - i ∧ i ≤ n ∧ Pv i H, ⟨n, by simp, Nat.zero_le _, h0⟩, ?_⟩
  rintro i m H ⟨rfl, hi, p⟩
  have q := hG i H hi p
  by_cases c : i < n
  · exact .inr ⟨w.goes i H c q, Pv (i + 1), fun H' p' => ⟨n - (i + 1), by omega, rfl, c, p'⟩, fun x H' y => hs i x H H' c p (w.yields i H x H' c q y)⟩
  · obtain rfl : i = n := by omega
    exact .inl ⟨w.stops H q, hd H p⟩
theorem w_dc {wi : TI} {Q : VK} (q : wi σ H1 fun J H1 => ∀ D, H1 D = none → ∃ W : Nat → Nat → Hp → Prop, (∃ m, W 0 m (upd H1 D (.dK []))) ∧ ∀ i m H, W i m H →
  (J.stop i H ∧ Q (.ref D) H) ∨ (J.go i H ∧ ∃ Nx : Hp → Prop, (∀ H', Nx H' → ∃ m', m' < m ∧ W (i + 1) m' H') ∧ ∀ x H', J.yld i H x H' → g x (wipe σ vs) H' fun σ2 H2 => wipe σ2 vs = wipe σ vs ∧ tt σ2 H2 fun b H3 =>
    if b = true then tk σ2 H3 fun y H4 => tv σ2 H4 fun z H5 => ∃ kvs k, y = kV k ∧ H5 D = some (.dK kvs) ∧ kvs.length < sizeLine ∧ Nx (upd H5 D (.dK (putK kvs k z))) else Nx H3)) : tDc wi g tt tk tv vs σ H1 Q := q
end
/-- each put with its place -/
def kvPl : Nat → List Int → List (Key × V)
  | _, [] => []
  | i, z :: d => ((Sum.inl z : Key), V.int (i : Nat)) :: kvPl (i + 1) d
theorem kvPl_keys : ∀ (i : Nat) (d : List Int), (kvPl i d).map (·.1) = d.map Sum.inl
  | _, [] => rfl
  | i, z :: d => by show Sum.inl z :: (kvPl (i + 1) d).map (·.1) = _; rw [kvPl_keys (i + 1) d]; rfl
theorem kvPl_snoc : ∀ (i : Nat) (d : List Int) (z : Int), kvPl i (d ++ [z]) = kvPl i d ++ [((Sum.inl z : Key), V.int ((i + d.length : Nat)))]
  | i, [], z => rfl
  | i, y :: d, z => by
    show _ :: kvPl (i + 1) (d ++ [z]) = _
    rw [kvPl_snoc (i + 1) d z, List.length_cons]
    have e : i + 1 + d.length = i + (d.length + 1) := by omega
    rw [e]; rfl
theorem kvPl_val : ∀ (i : Nat) (d : List Int) (z : Int), z ∈ d → valV (kvPl i d) (Sum.inl z) = some (.int ((i + d.idxOf z : Nat)))
  | _, [], _, h => nomatch h
  | i, y :: d, z, h => by
    by_cases c : y = z
    · subst c
      rw [List.idxOf_cons_self]
      exact valV_pos rfl
    · refine (valV_neg fun e => c (Sum.inl.inj e)).trans ?_
      have hm : z ∈ d := (List.mem_cons.mp h).resolve_left fun e => c e.symm
      have ei : (y :: d).idxOf z = d.idxOf z + 1 := by
        have cb : (y == z) = false := by simpa using c
        rw [List.idxOf_cons, cb]; rfl
      rw [kvPl_val (i + 1) d z hm, ei]
      have e : i + 1 + d.idxOf z = i + (d.idxOf z + 1) := by omega
      rw [e]
theorem kvPl_some (d : List Int) (z : Int) : (valV (kvPl 0 d) (Sum.inl z)).isSome = decide (z ∈ d) := by rw [← valV_any, kv_any (kvPl_keys 0 d)]
def sp_places_in (K : PySem.W.Frag) : Sp := fun vs H Q _ => ∃ (p : Addr) (d : List Int), vs = [.ref p] ∧ SqT K H p (d.map V.int) ∧ d.Nodup ∧ d.length ≤ 1000 ∧ ∀ q H', H q = none → G none H H' → H' q = some (.dK (kvPl 0 d)) → Q (.ref q) H'
theorem ok_places_in (T : Txt K mg a) : FnOk P w K mg base CX0 1 a.f_places_in a.d_places_in P_places_in (sp_places_in K) := by
  refine T.F_places_in.ok sc_places_in (fun vs H Q E h => by obtain ⟨p, d, rfl, _⟩ := h; rfl) (fun cdv A outer s H vs Q E hr h => ?_)
  obtain ⟨p, d, rfl, hp, nd, hz, k⟩ := h
  refine ⟨_, (pss_one (ps_ret (pe_dc (own := [("at", 1), ("put", 2)]) (g := (gTup K 2 (gCons (gName 1) (gCons (gName 2) gNil)))) (tt := tYes) rfl sc_places_in.nd (pi_enumT (by rfl) T.n_enumerate (pa_cons (pv 0) pa_nil)) (blkOk_by (N := N_places_in) (sc := defScope s_places_in) (by decide +kernel)) (fun _ _ _ _ _ => (pg_tup rfl (pgs_cons (pg_name (i := 1) sc_places_in.nd rfl (by first | exact Or.inl rfl | exact Or.inr rfl)) (pgs_cons (pg_name (i := 2) sc_places_in.nd rfl (by first | exact Or.inl rfl | exact Or.inr rfl)) pgs_nil)))) (fun _ _ _ _ _ => pts_nil) (fun _ _ _ _ _ => (pv 2)) (fun _ _ _ _ _ => (pv 1))))), ?_⟩
  walk_at "ws"
  refine w_dc ?_
  walk_at "ws"
  refine i_enum hp ?_
  intro D hD
  refine dc_it (walk_enumT (xs := d.map V.int)) (fun i H' => G none H H' ∧ H' D = some (.dK (kvPl 0 (d.take i)))) ⟨(G.refl).mut hD (fun _ e => nomatch e), upd_same⟩ (fun i H' _ q => sqT_t q.1.tups hp) ?_ ?_
  · rintro i x H1 H2 hi ⟨g1, h1⟩ ⟨t, y, z, rfl, ht, rfl, ey, ez⟩
    cases Option.some.inj ey
    have g2 : G none H1 (upd H1 t (.tup [.int (i : Nat), z])) := G.alloc ht
    refine ⟨t, _, rfl, SqT.of upd_same, rfl, ?_⟩
    refine ⟨_, _, rfl, ?_⟩
    walk_at "ws"
    refine ⟨_, _, rfl, ?_⟩
    walk_at "ws"
    refine ⟨rfl, rfl, ?_⟩
    rw [List.length_map] at hi
    have ez : (d.map V.int)[i]? = some z := ez
    rw [List.getElem?_map] at ez
    obtain ⟨v, hv, rfl⟩ := Option.map_eq_some_iff.mp ez
    have h2 := g2.all _ _ h1
    generalize upd H1 t (.tup [.int (i : Nat), .int v]) = H2 at g2 h2 ⊢
    walk_at "ws"
    have tk : d.take (i + 1) = d.take i ++ [v] := by rw [List.take_add_one, hv]; rfl
    have no : v ∉ d.take i := fun m => by
      obtain ⟨j, hj, e⟩ := List.getElem_of_mem m
      rw [List.length_take] at hj
      rw [List.getElem_take] at e
      have e2 := (List.getElem?_eq_some_iff.mp hv)
      have := nd_at nd (by omega) e2.1 (e.trans e2.2.symm)
      omega
    have lk : (kvPl 0 (d.take i)).length = i := by
      have := congrArg List.length (kvPl_keys 0 (d.take i))
      rw [List.length_map, List.length_map, List.length_take] at this
      omega
    refine ⟨_, Sum.inl v, rfl, h2, Nat.lt_of_le_of_lt (by omega : (kvPl 0 (d.take i)).length ≤ 1000) (by decide), (g1.trans g2).mut hD (fun _ e => nomatch e), ?_⟩
    rw [upd_same, kv_put (kvPl_keys 0 (d.take i)) no, tk, kvPl_snoc]
    have e : 0 + (d.take i).length = i := by rw [List.length_take]; omega
    rw [e]
  · rintro H1 ⟨g1, h1⟩
    rw [List.length_map, List.take_length] at h1
    walk_at "ws"
    exact k D H1 hD g1 h1

def GrowD (dy dx : List Int) (p : Int) : Prop := p ∈ dy ∧ p ∈ dx ∧ ∀ q ∈ aheadOf dy p, q ∈ aheadOf dx p
theorem ahead_at {d : List Int} (nd : d.Nodup) {i : Nat} {p : Int} (h : d[i]? = some p) : aheadOf d p = d.take i := by
  have e := List.getElem?_eq_some_iff.mp h
  have z : d.idxOf p < d.length := List.idxOf_lt_length_iff.mpr (List.mem_of_getElem? h)
  have := nd_at nd z e.1 ((List.getElem_idxOf z).trans e.2.symm)
  unfold aheadOf
  rw [this]
theorem mem_ahead {d : List Int} (nd : d.Nodup) {q p : Int} (hq : q ∈ d) : q ∈ aheadOf d p ↔ d.idxOf q < d.idxOf p := by unfold aheadOf; exact mem_take_idx nd hq
def sp_grown_over (K : PySem.W.Frag) : Sp := fun vs H Q _ => ∃ (p q : Addr) (dy dx : List Int), vs = [.ref p, .ref q] ∧ SqT K H p (dy.map V.int) ∧ H q = some (.dK (kvPl 0 dx)) ∧ dy.Nodup ∧ dx.Nodup ∧ dy.length ≤ 1000 ∧ ∀ D (ns : List Int) H', H D = none → G none H H' → H' D = some (.lst (ns.map V.int)) → ns.Nodup → (∀ p, p ∈ ns ↔ GrowD dy dx p) → Q (.ref D) H'
theorem ok_grown_over (T : Txt K mg a) : FnOk P w K mg base CX0 1 a.f_grown_over a.d_grown_over P_grown_over (sp_grown_over K) := by
  refine T.F_grown_over.ok sc_grown_over (fun vs H Q E h => by obtain ⟨p, q, dy, dx, rfl, _⟩ := h; rfl) (fun cdv A outer s H vs Q E hr h => ?_)
  obtain ⟨p, q, dy, dx, rfl, hp, hq, ndy, ndx, hz, k⟩ := h
  refine ⟨_, (pss_cons (ps_set (i := 2) sc_grown_over.nd rfl (Or.inl rfl) (pe_lstN pa_nil))
  (pss_cons (ps_set (i := 3) sc_grown_over.nd rfl (Or.inl rfl) (pe_un un_neg pe_int))
  (pss_cons (ps_for PassesOwn.never rfl (pi_tup (pv 0)) (pg_name (i := 4) sc_grown_over.nd rfl (Or.inl rfl))
    (pss_cons (ps_if (pt_cmp (pc_dnotin (hu_of hr) (pv 4) (pv 1)))
    (pss_one (ps_ret (pv 2)))
    pss_nil)
  (pss_one (ps_if (pt_cmpR op_gt (pe_dget (hu_of hr) (pv 1) (pv 4) (by first | exact fun _ _ => rfl | rfl | decide)) (pv 3) (nomark _))
    (pss_cons (ps_set (i := 3) sc_grown_over.nd rfl (Or.inl rfl) (pe_dget (hu_of hr) (pv 1) (pv 4) (by first | exact fun _ _ => rfl | rfl | decide)))
  (pss_one (ps_expr (pe_bm PySem.F.plainAttrs_list PySem.F.slot_list_append PySem.F.type_list_append mt_append (pv 2) (pa_cons (pv 4) pa_nil)))))
    pss_nil))))
  (pss_one (ps_ret (pv 2)))))), ?_⟩
  walk_at "ws"
  refine ⟨sz (by simp), fun D H1 hD g1 h1 => ?_⟩
  walk_at "ws"
  refine i_tup (sqT_t (g1 none).tups hp) ?_
  refine for_it (walk_tup (xs := dy.map V.int)) (fun i σ H' => ∃ (ns : List Int) (L : Int) (u4 : Option V), σ = [some (.ref p), some (.ref q), some (.ref D), some (.int L), u4] ∧ G none H H' ∧ H' D = some (.lst (ns.map V.int)) ∧ ns.Nodup ∧ (∀ z, z ∈ ns ↔ z ∈ dy.take i ∧ GrowD dy dx z) ∧ (∀ z ∈ dy.take i, z ∈ dx ∧ (dx.idxOf z : Int) ≤ L) ∧ (L = -1 ∨ ∃ z ∈ dy.take i, L = (dx.idxOf z : Int)) ∧ ns.length ≤ i)
    ⟨[], -1, _, rfl, g1 none, h1, by simp, (fun z => by simp), (fun z hz => by simp at hz), .inl rfl, Nat.le_refl _⟩ (fun i σ H' _ ⟨_, _, _, _, q, _⟩ => sqT_t q.tups hp) ?_ ?_
  · rintro i v σ _ H2 hi ⟨ns, L, u4, rfl, g2, h2, nn, mem, low, top_, ln⟩ ⟨rfl, hv⟩
    rw [List.getElem?_map] at hv
    obtain ⟨z, hz', rfl⟩ := Option.map_eq_some_iff.mp hv
    rw [List.length_map] at hi
    have tk : dy.take (i + 1) = dy.take i ++ [z] := by rw [List.take_add_one, hz']; rfl
    have az := ahead_at ndy hz'
    have zy : z ∈ dy := List.mem_of_getElem? hz'
    have no : z ∉ dy.take i := fun m => by
      obtain ⟨j, hj, e⟩ := List.getElem_of_mem m
      rw [List.length_take] at hj
      rw [List.getElem_take] at e
      have e2 := (List.getElem?_eq_some_iff.mp hz')
      have := nd_at ndy (by omega) e2.1 (e.trans e2.2.symm)
      omega
    have hq2 := g2.all _ _ hq
    walk_at "ws"
    show tVar 4 _ _ _
    walk_at "ws"
    refine ⟨q, _, rfl, DGet.k (k := Sum.inl z) hq2, ?_⟩
    rw [kvPl_some]
    walk_at "ws"
    refine w_ite (fun e => ?_) (fun e => ?_)
    · have zx : z ∉ dx := by simpa using e
      walk_at "ws"
      refine k D ns H2 hD g2 h2 nn fun r => ?_
      rw [mem]
      refine ⟨fun h => h.2, fun h => ⟨?_, h⟩⟩
      obtain ⟨j, hj, ej⟩ := List.getElem_of_mem h.1
      rcases Nat.lt_trichotomy j i with c | c | c
      · rw [List.mem_take_iff_getElem]; exact ⟨j, by omega, ej⟩
      · subst c
        rw [List.getElem?_eq_getElem hj, ej] at hz'
        cases hz'
        exact absurd h.2.1 zx
      · have ar := ahead_at ndy (List.getElem?_eq_getElem hj)
        rw [ej] at ar
        have := h.2.2 z (by rw [ar, List.mem_take_iff_getElem]; exact ⟨i, by omega, (List.getElem?_eq_some_iff.mp hz').2⟩)
        exact absurd (List.mem_of_mem_take this) zx
    · have zx : z ∈ dx := of_decide_eq_true (by cases h : decide (z ∈ dx) with | true => rfl | false => rw [h] at e; cases e)
      walk_at "ws"
      refine w_dget ?_
      walk_at "ws"
      refine ⟨q, _, rfl, by have := DGet.k (k := Sum.inl z) hq2; rw [kvPl_val 0 dx z zx, Nat.zero_add] at this; exact this, ?_⟩
      walk_at "ws"
      refine w_ite (fun e2 => ?_) (fun e2 => ?_)
      · have e2 : L < (dx.idxOf z : Int) := of_decide_eq_true e2
        have gz : GrowD dy dx z := ⟨zy, zx, fun r hr => by
          rw [az] at hr
          have := low r hr
          exact (mem_ahead ndx this.1).mpr (by omega)⟩
        walk_at "ws"
        refine w_dget ?_
        walk_at "ws"
        refine ⟨q, _, rfl, by have := DGet.k (k := Sum.inl z) hq2; rw [kvPl_val 0 dx z zx, Nat.zero_add] at this; exact this, ?_⟩
        walk_at "ws"
        refine i_BM h2 ?_
        walk_at "ws"
        refine r_app h2 (by rw [List.length_map]; omega) ?_
        walk_at "ws"
        refine ⟨ns ++ [z], (dx.idxOf z : Int), _, rfl, g2.mut hD (fun _ e => nomatch e), by rw [upd_same, List.map_append]; rfl, ?_, fun r => ?_, fun r hr => ?_, .inr ⟨z, by rw [tk]; simp, rfl⟩, by rw [List.length_append, List.length_singleton]; omega⟩
        · exact List.nodup_append.mpr ⟨nn, by simp, fun a ha b hb e => by
            have eb : b = z := by simpa using hb
            rw [e, eb] at ha
            exact no ((mem z).mp ha).1⟩
        · rw [List.mem_append, mem, tk, List.mem_append]
          constructor
          · rintro (h | h)
            · exact ⟨.inl h.1, h.2⟩
            · have e : r = z := by simpa using h
              exact ⟨.inr h, by rw [e]; exact gz⟩
          · rintro ⟨h | h, h2⟩
            · exact .inl ⟨h, h2⟩
            · exact .inr h
        · rw [tk] at hr
          rcases List.mem_append.mp hr with h | h
          · have := low r h
            exact ⟨this.1, by omega⟩
          · have e : r = z := by simpa using h
            rw [e]; exact ⟨zx, Int.le_refl _⟩
      · have e2 : ¬ L < (dx.idxOf z : Int) := of_decide_eq_false e2
        walk_at "ws"
        have nz : ¬ GrowD dy dx z := fun h => by
          rcases top_ with t | ⟨r, hr, t⟩
          · omega
          · have h3 := h.2.2 r (by rw [az]; exact hr)
            have := (mem_ahead ndx (low r hr).1).mp h3
            omega
        refine ⟨ns, L, _, rfl, g2, h2, nn, fun r => ?_, fun r hr => ?_, ?_, by omega⟩
        · rw [mem, tk, List.mem_append]
          constructor
          · rintro ⟨h, h2⟩; exact ⟨.inl h, h2⟩
          · rintro ⟨h | h, h2⟩
            · exact ⟨h, h2⟩
            · have e : r = z := by simpa using h
              rw [e] at h2; exact absurd h2 nz
        · rw [tk] at hr
          rcases List.mem_append.mp hr with h | h
          · exact low r h
          · have e : r = z := by simpa using h
            rw [e]; exact ⟨zx, by omega⟩
        · rcases top_ with t | ⟨r, hr, t⟩
          · exact .inl t
          · exact .inr ⟨r, by rw [tk]; exact List.mem_append_left _ hr, t⟩
  · rintro σ H2 ⟨ns, L, u4, rfl, g2, h2, nn, mem, low, top_, ln⟩
    rw [List.length_map, List.take_length] at mem
    walk_at "ws"
    exact k D ns H2 hD g2 h2 nn fun r => by rw [mem]; exact ⟨fun h => h.2, fun h => ⟨h.1, h⟩⟩

end
end Mine
/-! ## K11b -/


namespace Mine
section
variable {P : Program} {w : World} {K : PySem.W.Frag} {mg : Str → Option Value} {base : Heap} {a : Ads}

/-! ### puts and letters led by drawn steps -/
theorem nodup_snoc {α : Type} {l : List α} {a : α} (h : l.Nodup) (n : a ∉ l) : (l ++ [a]).Nodup := List.nodup_append.mpr ⟨h, by simp, fun x hx y hy e => by
  have ey : y = a := by simpa using hy
  subst ey; subst e
  exact n hx⟩
def sp__law_ran (K : PySem.W.Frag) : Sp := fun vs H Q _ => ∃ (hd c : Addr) (n : Int) (wa : Addr) (bs : List Addr) (W : List (Int × Int)) (vp : Addr) (ws : List Int) (most : Int), vs = [.ref hd, .int n, .ref wa, .ref vp, .int most] ∧ Hand H hd c ∧ SqT K H wa (bs.map V.ref) ∧ TupAll H bs W ∧ IsWeb n W ∧ SqT K H vp (ws.map V.int) ∧ ws.length ≤ 30 ∧ (∀ w ∈ ws, 0 ≤ w ∧ w < n) ∧ 0 ≤ most ∧ most ≤ 40 ∧
  ∀ (p dt st : Addr) (ds : List (List Int)) H', G (some (hd, c)) H H' → Hand H' hd c → H' p = some (.tup [.ref dt, .ref st]) → Dia K H' dt ds → ds.length = n.toNat → IsRec ws ds → Q (.ref p) H'
theorem ok__law_ran (T : Txt K mg a) : FnOk P w K mg base CX0 2 a.f__law_ran a.d__law_ran P__law_ran (sp__law_ran K) := by
  refine T.F__law_ran.ok sc__law_ran (fun vs H Q E h => by obtain ⟨hd, c, n, wa, bs, W, vp, ws, most, rfl, _⟩ := h; rfl) (fun cdv A outer s H vs Q E hr h => ?_)
  obtain ⟨hd, c, m, wa, bs, W, vp, ws, most, rfl, hh, hwa, tup, web, hv, p30, hws, mo0, mo40, k⟩ := h
  have G__law_draw : FnOk P w K mg base CX0 1 a.f__law_draw a.d__law_draw P__law_draw sp__law_draw := ok__law_draw T
  have m1 := web.lo
  have m7 := web.hi
  have l49 := isweb_len49 web
  obtain ⟨n, rfl⟩ : ∃ n : Nat, m = (n : Int) := ⟨m.toNat, by omega⟩
  rw [Int.toNat_natCast] at k
  have hhp : ∀ p, some (hd, c) = some p → Hand H p.1 p.2 := fun p e => by cases e; exact hh
  have lb := tup.1
  refine ⟨_, (pss_cons (ps_setLc (i := 5) (own := [("_law_machine", 16)]) (g := (gName 16)) (tt := tYes)  rfl sc__law_ran.nd rfl rfl (sw_true rfl rfl rfl (by decide +kernel)) (pi_range1 rfl T.n_range (pa_cons (pv 1) pa_nil)) (blkOk_by (N := N__law_ran) (sc := defScope s__law_ran) (by decide +kernel)) (fun _ _ _ _ _ => (pg_name (i := 16) sc__law_ran.nd rfl (by first | exact Or.inl rfl | exact Or.inr rfl))) (fun _ _ _ _ _ => pts_nil) (fun _ _ _ _ _ => (pe_lstN pa_nil)))
  (pss_cons (ps_set (i := 7) sc__law_ran.nd rfl (Or.inr rfl) (pe_callTy (call_dictPT rfl hr.units) (by rfl) T.n_dict (by decide +kernel) (pa_cons (pe_lc (own := [("_law_wire", 6)]) (g := (gName 6)) (tt := tYes) rfl sc__law_ran.nd (pi_tup (pv 2)) (blkOk_by (N := N__law_ran) (sc := defScope s__law_ran) (by decide +kernel)) (fun _ _ _ _ _ => (pg_name (i := 6) sc__law_ran.nd rfl (by first | exact Or.inl rfl | exact Or.inr rfl))) (fun _ _ _ _ _ => pts_nil) (fun _ _ _ _ _ => (pe_tupN (pa_cons (pv 6) (pa_cons (pe_lstN pa_nil) pa_nil))))) pa_nil)))
  (pss_cons (ps_set (i := 8) sc__law_ran.nd rfl (Or.inl rfl) (pe_listRgN rfl (by rfl) T.n_list (prg_1 (by rfl) T.n_range (pe_callB call_len_seq (by rfl) T.n_len (by decide +kernel) (pa_cons (pv 3) pa_nil))) (mo_rg1 mo_len)))
  (pss_cons (ps_set (i := 9) sc__law_ran.nd rfl (Or.inl rfl) (pe_lstN pa_nil))
  (pss_cons (ps_set (i := 10) sc__law_ran.nd rfl (Or.inl rfl) pe_int)
  (pss_cons (ps_for PassesOwn.never rfl (pi_range1 rfl T.n_range (pa_cons (pe_op op_add (pe_callB call_len_seq (by rfl) T.n_len (by decide +kernel) (pa_cons (pv 3) pa_nil)) (pv 4)) pa_nil)) (pg_name (i := 11) sc__law_ran.nd rfl (Or.inl rfl))
    (pss_cons (ps_setLc (i := 12) (own := [("_law_wire", 6)]) (g := (gName 6))  rfl sc__law_ran.nd rfl rfl (sw_true rfl rfl rfl (by decide +kernel)) (pi_tup (pv 2)) (blkOk_by (N := N__law_ran) (sc := defScope s__law_ran) (by decide +kernel)) (fun _ _ _ _ _ => (pg_name (i := 6) sc__law_ran.nd rfl (by first | exact Or.inl rfl | exact Or.inr rfl))) (fun _ _ _ _ _ => (pts_one (pt_cmpR op_gt (pe_callB (k_call_len_seq K) (by rfl) T.n_len (by decide +kernel) (pa_cons (pe_dget (hu_of hr) (pv 7) (pv 6) (by first | exact fun _ _ => rfl | rfl | decide)) pa_nil)) pe_int (nomark _)))) (fun _ _ _ _ _ => (pv 6)))
  (pss_cons (ps_if (L2.PW.pt (pw_and (pt_cmpR op_gt (pe_callB call_len_seq (by rfl) T.n_len (by decide +kernel) (pa_cons (pv 8) pa_nil)) pe_int (nomark _)) (pw_and1 (L2.PW.pt (pw_or (pt_cmpR (op_eqD hr.units) (pv 12) (pe_lstN pa_nil) (nomark _)) (pw_or (pt_cmpR op_eq (pv 10) (pv 4) (nomark _)) (pw_or1 (pt_cmpR op_eq (pe_call (G__law_draw) (hr.mono (by omega)) rfl T.m__law_draw T.F__law_draw.kp T.b__law_draw .nil pass0 (pa_cons (pv 0) (pa_cons pe_int pa_nil))) pe_int (nomark _)))))))))
    (pss_cons (ps_set (i := 13) sc__law_ran.nd rfl (Or.inl rfl) (pe_bm PySem.F.plainAttrs_list PySem.F.slot_list_pop PySem.F.type_list_pop mt_popAt (pv 8) (pa_cons (pe_call (G__law_draw) (hr.mono (by omega)) rfl T.m__law_draw T.F__law_draw.kp T.b__law_draw .nil pass0 (pa_cons (pv 0) (pa_cons (pe_callB call_len_seq (by rfl) T.n_len (by decide +kernel) (pa_cons (pv 8) pa_nil)) pa_nil))) pa_nil)))
  (pss_cons (ps_set (i := 14) sc__law_ran.nd rfl (Or.inl rfl) (pe_ix ix_tup (pv 3) (pv 13) (fun _ _ => rfl)))
  (pss_one (ps_expr (pe_bm PySem.F.plainAttrs_list PySem.F.slot_list_append PySem.F.type_list_append mt_append (pv 9) (pa_cons (pe_tupN (pa_cons pe_str (pa_cons (pv 13) pa_nil))) pa_nil))))))
    (pss_one (ps_if (L2.PW.pt (pw_and (pt_cmpR (op_neD hr.units) (pv 12) (pe_lstN pa_nil) (nomark _)) (pw_and1 (pt_cmpR op_lt (pv 10) (pv 4) (nomark _)))))
    (pss_cons (ps_asg (pe_ix ix_list (pv 12) (pe_call (G__law_draw) (hr.mono (by omega)) rfl T.m__law_draw T.F__law_draw.kp T.b__law_draw .nil pass0 (pa_cons (pv 0) (pa_cons (pe_callB call_len_seq (by rfl) T.n_len (by decide +kernel) (pa_cons (pv 12) pa_nil)) pa_nil))) (fun _ _ => rfl)) (pg_tup rfl (pgs_cons (pg_name (i := 15) sc__law_ran.nd rfl (Or.inl rfl)) (pgs_cons (pg_name (i := 14) sc__law_ran.nd rfl (Or.inl rfl)) pgs_nil))))
  (pss_cons (ps_set (i := 13) sc__law_ran.nd rfl (Or.inl rfl) (pe_bm PySem.F.plainAttrs_list PySem.F.slot_list_pop PySem.F.type_list_pop mt_popAt (pe_dget (hu_of hr) (pv 7) (pe_tupN (pa_cons (pv 15) (pa_cons (pv 14) pa_nil))) (fun _ _ => rfl)) (pa_cons pe_int pa_nil)))
  (pss_cons (ps_expr (pe_bm PySem.F.plainAttrs_list PySem.F.slot_list_append PySem.F.type_list_append mt_append (pv 9) (pa_cons (pe_tupN (pa_cons pe_str (pa_cons (pv 15) (pa_cons (pv 14) pa_nil)))) pa_nil)))
  (pss_one (ps_set (i := 10) sc__law_ran.nd rfl (Or.inl rfl) (pe_op op_add (pv 10) pe_int))))))
    (pss_one ps_break))))
  (pss_one (ps_if (pt_cmpR op_notIn_seq (pv 13) (pe_ix ix_list (pv 5) (pv 14) (fun _ _ => rfl)) (by rfl))
    (pss_cons (ps_expr (pe_bm PySem.F.plainAttrs_list PySem.F.slot_list_append PySem.F.type_list_append mt_append (pe_ix ix_list (pv 5) (pv 14) (fun _ _ => rfl)) (pa_cons (pv 13) pa_nil)))
  (pss_one (ps_for PassesOwn.never rfl (pi_tup (pv 2)) (pg_name (i := 6) sc__law_ran.nd rfl (Or.inl rfl))
    (pss_one (ps_if (pt_cmpR op_eq (pe_ix ix_tup (pv 6) pe_int (fun _ _ => rfl)) (pv 14) (nomark _))
    (pss_one (ps_expr (pe_bm PySem.F.plainAttrs_list PySem.F.slot_list_append PySem.F.type_list_append mt_append (pe_dget (hu_of hr) (pv 7) (pv 6) (by first | exact fun _ _ => rfl | rfl | decide)) (pa_cons (pv 13) pa_nil))))
    pss_nil)))))
    pss_nil)))))
  (pss_one (ps_ret (pe_tupN (pa_cons (pe_callTy call_tupleN (by rfl) T.n_tuple (by decide +kernel) (pa_cons (pe_lc (own := [("_law_diary", 17)]) (g := (gName 17)) (tt := tYes) rfl sc__law_ran.nd (pi_list (pv 5)) (blkOk_by (N := N__law_ran) (sc := defScope s__law_ran) (by decide +kernel)) (fun _ _ _ _ _ => (pg_name (i := 17) sc__law_ran.nd rfl (by first | exact Or.inl rfl | exact Or.inr rfl))) (fun _ _ _ _ _ => pts_nil) (fun _ _ _ _ _ => (pe_callTy (k_tupleF K) (by rfl) T.n_tuple (by decide +kernel) (pa_cons (pv 17) pa_nil)))) pa_nil)) (pa_cons (pv 9) pa_nil))))))))))), ?_⟩
  walk_at "ws"
  refine i_rng1 (by omega) (by omega) ?_
  rw [Int.toNat_natCast]
  intro dl hdl
  refine lc_it walk_range (fun i H' => ∃ rs : List Addr, G none H H' ∧ H' dl = some (.lst (rs.map V.ref)) ∧ rs.length = i ∧ rs.Nodup ∧ dl ∉ rs ∧ ∀ l ∈ rs, H l = none ∧ H' l = some (.lst [])) ⟨[], (G.refl).mut hdl (fun _ e => nomatch e), upd_same, rfl, List.nodup_nil, (fun h => nomatch h), (fun _ h => nomatch h)⟩ (fun _ _ _ _ => trivial) ?_ ?_
  · rintro i _ _ H1 hi ⟨rs, g1, h1, lr, nd, ndl, hrs⟩ ⟨rfl, rfl⟩
    walk_at "ws"
    refine ⟨rfl, ?_⟩
    walk_at "ws"
    refine ⟨sz (by simp), fun l H2 hl g2 h2 => ?_⟩
    have nl : l ≠ dl := (ne_of_none h1 hl).symm
    refine ⟨rs.map V.ref, (g2 none).all _ _ h1, Nat.lt_of_le_of_lt (by rw [List.length_map]; omega : (rs.map V.ref).length ≤ 100000) (by decide), rs ++ [l], (g1.trans (g2 none)).mut hdl (fun _ e => nomatch e), by rw [upd_same, List.map_append]; rfl, by rw [List.length_append, lr]; rfl, ?_, ?_, ?_⟩
    · exact nodup_snoc nd fun ha => by
        have := (hrs _ ha).2
        rw [hl] at this; cases this
    · intro h
      rcases List.mem_append.mp h with z | z
      · exact ndl z
      · exact nl (by simpa using z : dl = l).symm
    · intro x hx
      rcases List.mem_append.mp hx with z | z
      · have q := hrs x z
        exact ⟨q.1, by rw [upd_ne (ne_mem ndl z)]; exact (g2 none).all _ _ q.2⟩
      · have e : x = l := by simpa using z
        subst e
        exact ⟨back_none g1 hl, by rw [upd_ne nl]; exact h2⟩
  rintro H1 ⟨rs, g1, h1, lr, nd, ndl, hrs⟩
  have hwa1 := sqT_t g1.tups hwa
  have tup1 := tup.g g1 (fun _ e => nomatch e)
  have hv1 := sqT_t g1.tups hv
  walk_at "ws"
  refine i_tup hwa1 ?_
  intro D hD
  refine lc_it (walk_tup (xs := bs.map V.ref)) (fun i H' => ∃ ts ls : List Addr, G none H1 H' ∧ H' D = some (.lst (ts.map V.ref)) ∧ ts.length = i ∧ ls.length = i ∧ ls.Nodup ∧ (∀ l ∈ ls, H1 l = none ∧ l ≠ D ∧ H' l = some (.lst [])) ∧ ∀ (j : Nat) (t b l : Addr), ts[j]? = some t → bs[j]? = some b → ls[j]? = some l → H' t = some (.tup [.ref b, .ref l])) ⟨[], [], (G.refl).mut hD (fun _ e => nomatch e), upd_same, rfl, rfl, List.nodup_nil, (fun _ h => nomatch h), (fun j t b l e => by simp at e)⟩ (fun i H' _ ⟨ts, ls, q, _⟩ => sqT_t q.tups hwa1) ?_ ?_
  · rintro i v _ H2 hi ⟨ts, ls, g2, h2, lt_, ll, ndls, hls, hts⟩ ⟨rfl, hv'⟩
    rw [List.length_map] at hi
    rw [List.getElem?_map] at hv'
    obtain ⟨b, hb, rfl⟩ := Option.map_eq_some_iff.mp hv'
    walk_at "ws"
    refine ⟨rfl, ?_⟩
    walk_at "ws"
    refine ⟨sz (by simp), fun l H3 hl g3 h3 => ?_⟩
    walk_at "ws"
    refine ⟨sz (by simp), fun t H4 ht g4 h4 => ?_⟩
    have g24 : G none H2 H4 := (g3 none).trans (g4 none)
    have h4D := g24.all _ _ h2
    have h4l := (g4 none).all _ _ h3
    have nl : l ≠ D := (ne_of_none h2 hl).symm
    have tD : t ≠ D := (ne_of_none ((g3 none).all _ _ h2) ht).symm
    refine ⟨ts.map V.ref, h4D, Nat.lt_of_le_of_lt (by rw [List.length_map]; omega : (ts.map V.ref).length ≤ 100000) (by decide), ts ++ [t], ls ++ [l], (g2.trans g24).mut hD (fun _ e => nomatch e), by rw [upd_same, List.map_append]; rfl, by rw [List.length_append, lt_]; rfl, by rw [List.length_append, ll]; rfl, ?_, ?_, ?_⟩
    · exact nodup_snoc ndls fun ha => by
        have := (hls _ ha).2.2
        rw [hl] at this; cases this
    · intro x hx
      rcases List.mem_append.mp hx with z | z
      · have q := hls x z
        exact ⟨q.1, q.2.1, by rw [upd_ne q.2.1]; exact g24.all _ _ q.2.2⟩
      · have e : x = l := by simpa using z
        subst e
        exact ⟨back_none g2 hl, nl, by rw [upd_ne nl]; exact h4l⟩
    · intro j t' b' l' e1 e2 e3
      by_cases cj : j < i
      · rw [List.getElem?_append_left (by omega)] at e1 e3
        have q := hts j t' b' l' e1 e2 e3
        rw [upd_ne (ne_of q h2 (by intro z; cases z))]
        exact g24.all _ _ q
      · have ej : j = i := by
          have := (List.getElem?_eq_some_iff.mp e1).1
          rw [List.length_append, lt_, List.length_singleton] at this
          omega
        subst ej
        rw [List.getElem?_append_right (by omega), lt_, Nat.sub_self] at e1
        rw [List.getElem?_append_right (by omega), ll, Nat.sub_self] at e3
        rw [hb] at e2
        cases e1; cases e2; cases e3
        rw [upd_ne tD]
        exact h4
  rintro H2 ⟨ts, ls, g2, h2, lt_, ll, ndls, hls, hts⟩
  rw [List.length_map] at lt_ ll
  have tup2 := tup1.g g2 (fun _ e => nomatch e)
  walk_at "ws"
  refine ⟨D, mkL W bs ts ls, rfl, by rw [mkL_at lb (by omega) (by omega)]; exact h2, fun q hq => ?_, ?_, fun ld H3 hld g3 h3 => ?_⟩
  · obtain ⟨j, u, b, t, l, e1, e2, e3, e4, rfl⟩ := mkL_mem hq
    exact ⟨hts j t b l e3 e2 e4, tup2.2 j b u e2 e1⟩
  · rw [mkL_key lb (by omega) (by omega)]
    exact List.pairwise_map.mpr ((web_nodup web).imp fun h e => h (keyOfP_inj e))
  rw [mkL_dt lb (by omega) (by omega)] at h3
  walk_at "ws"
  refine w_lstRg (w_rg1 ?_)
  walk_at "ws"
  have hv3 := sqT_t (g2.trans (g3 none)).tups hv1
  refine ⟨vp, _, rfl, .inr hv3, _, rfl, ?_⟩
  rw [List.length_map]
  refine ⟨RgOk.of_le (by decide) (by omega) (by decide) (by omega), fun lf H4 hlf g4 h4 => ?_⟩
  rw [rg_upto] at h4
  walk_at "ws"
  refine ⟨sz (by simp), fun st H5 hst g5 h5 => ?_⟩
  have g34 := g4 none
  have g45 := g5 none
  have g13 : G none H1 H3 := g2.trans (g3 none)
  have g35 := g34.trans g45
  have g25 := (g3 none).trans g35
  have g15 := g13.trans g35
  have g05 := g1.trans g15
  have h2dl := g2.all _ _ h1
  have h2rs : ∀ l ∈ rs, H2 l = some (.lst []) := fun l hl => g2.all _ _ (hrs l hl).2
  have h3dl := (g3 none).all _ _ h2dl
  have h3rs : ∀ l ∈ rs, H3 l = some (.lst []) := fun l hl => (g3 none).all _ _ (h2rs l hl)
  have h3ls : ∀ l ∈ ls, H3 l = some (.lst []) := fun l hl => (g3 none).all _ _ (hls l hl).2.2
  have N : RanN H ⟨dl, lf, st, ld, rs, ls⟩ := ⟨hdl, back_none (g1.trans g13) hlf, back_none ((g1.trans g13).trans g34) hst, back_none (g1.trans g2) hld, fun l hl => (hrs l hl).1, fun l hl => back_none g1 (hls l hl).1,
    ne_of_none h3dl hlf, ne_of_none (g34.all _ _ h3dl) hst, ne_of_none h2dl hld, ndl, (fun hl => ne_of_none h1 (hls _ hl).1 rfl),
    ne_of_none h4 hst, (ne_of_none h3 hlf).symm, not_in hlf h3rs, not_in hlf h3ls,
    (ne_of_none (g34.all _ _ h3) hst).symm, not_in hst (fun l hl => g34.all _ _ (h3rs l hl)), not_in hst (fun l hl => g34.all _ _ (h3ls l hl)),
    not_in hld h2rs, not_in hld (fun l hl => (hls l hl).2.2), nd, ndls, (fun l hl hl2 => ne_of_none (hrs l hl).2 (hls l hl2).1 rfl)⟩
  have nil_at : ∀ (as : List Addr), (∀ l ∈ as, H5 l = some (.lst [])) → Lists H5 as (as.map fun _ => []) := fun as h => ⟨by rw [List.length_map], fun i a l e1 e2 => by
    rw [List.getElem?_map, e1] at e2
    cases e2
    exact h a (List.mem_of_getElem? e1)⟩
  have S5 : RanS W ⟨dl, lf, st, ld, rs, ls⟩ H5 (rs.map fun _ => []) (upto ws.length) (ls.map fun _ => []) [] := ⟨g35.all _ _ h3dl, g45.all _ _ h4, h5, g35.all _ _ h3, nil_at rs fun l hl => g35.all _ _ (h3rs l hl), nil_at ls fun l hl => g35.all _ _ (h3ls l hl)⟩
  have T5 : RanT n ws most 0 0 (rs.map fun _ => []) (upto ws.length) (ls.map fun _ => []) [] 0 := by
    have lu : (upto ws.length).length = ws.length := by unfold upto; simp
    refine ⟨by rw [List.length_map]; exact lr, fun d hd' => ?_, fun d hd' p hp => ?_, fun p hp => ?_, fun l hl p hp => ?_, by rw [lu]; simp, by rw [lu]; exact Nat.le_refl _, Int.le_refl _, mo0, Nat.le_refl _, fun l hl => ?_⟩
    · obtain ⟨_, _, rfl⟩ := List.mem_map.mp hd'; exact List.nodup_nil
    · obtain ⟨_, _, rfl⟩ := List.mem_map.mp hd'; exact nomatch hp
    · unfold upto at hp
      obtain ⟨i, hi, rfl⟩ := List.mem_map.mp hp
      have := List.mem_range.mp hi
      omega
    · obtain ⟨_, _, rfl⟩ := List.mem_map.mp hl; exact nomatch hp
    · obtain ⟨_, _, rfl⟩ := List.mem_map.mp hl; exact Nat.le_refl _
  have O5 : Own ws (rs.map fun _ => []) (upto ws.length) none := fun p w d e1 e2 => .inr (.inl (by
    have := (List.getElem?_eq_some_iff.mp e1).1
    unfold upto
    exact List.mem_map.mpr ⟨p, List.mem_range.mpr this, rfl⟩))
  have g5' : G (some (hd, c)) H H5 := g05.up
  have llW : ls.length = W.length := by omega
  clear h3rs h3ls h2rs h2dl h3dl h5 h4 h3 hts hls h2 hrs h1 g25 g35 g45 g34 g5 g4 g3 hst hlf hld hwa1 tup1 hv1 tup2 hv3 g15 g13 g2 g1 ndls nd nil_at g05 ndl lt_ hD hdl
  walk_at "wn"
  dsimp only
  refine w_seq ?_
  walk_at "wn"
  dsimp only
  refine w_seqM (fun σ H' => ∃ (u6 : Option V) (more : Int) (u11 u12 u13 u14 u15 u16 u17 : Option V) (ds lt : List (List Int)) (sv : List V), σ = [some (.ref hd), some (.int (n : Int)), some (.ref wa), some (.ref vp), some (.int most), some (.ref dl), u6, some (.ref ld), some (.ref lf), some (.ref st), some (.int more), u11, u12, u13, u14, u15, u16, u17] ∧ G (some (hd, c)) H H' ∧ RanS W ⟨dl, lf, st, ld, rs, ls⟩ H' ds [] lt sv ∧ (∃ i b, RanT n ws most i b ds [] lt sv more) ∧ Own ws ds [] none) (fun N1 kN1 => ?_) ?_
  · walk_at "ws"
    have hv5 := sqT_t g5'.tups hv
    refine ⟨vp, _, rfl, .inr hv5, ?_⟩
    walk_at "ws"
    rw [List.length_map]
    refine i_rng1 (by omega) (by omega) ?_
    refine for_it walk_range (fun i σ H' => ∃ (u6 : Option V) (more : Int) (u11 u12 u13 u14 u15 u16 u17 : Option V) (ds : List (List Int)) (left : List Int) (lt : List (List Int)) (sv : List V), σ = [some (.ref hd), some (.int (n : Int)), some (.ref wa), some (.ref vp), some (.int most), some (.ref dl), u6, some (.ref ld), some (.ref lf), some (.ref st), some (.int more), u11, u12, u13, u14, u15, u16, u17] ∧ G (some (hd, c)) H H' ∧ RanS W ⟨dl, lf, st, ld, rs, ls⟩ H' ds left lt sv ∧ RanT n ws most i i ds left lt sv more ∧ Own ws ds left none) ⟨_, 0, _, _, _, _, _, _, _, _, _, _, _, rfl, g5', S5, T5, O5⟩ (fun _ _ _ _ _ => trivial) ?_ ?_
    · clear S5 T5 O5 g5' hv5
      rintro i _ σ _ H6 hi ⟨u6, more, u11, u12, u13, u14, u15, u16, u17, ds, left, lt, sv, rfl, g6, S6, T6, O6⟩ ⟨rfl, rfl⟩
      have hh6 : Hand H6 hd c := g6.hand (hd, c) rfl hh
      have hwa6 := sqT_t g6.tups hwa
      have hv6 := sqT_t g6.tups hv
      have tup6 := tup.g g6 hhp
      have lls : ls.length = lt.length := S6.ls.1
      walk_at "ws"
      refine i_tup hwa6 ?_
      intro R hR
      refine lc_it (walk_tup (xs := bs.map V.ref)) (fun i H' => ∃ xs : List V, G none H6 H' ∧ H' R = some (.lst xs) ∧ xs.length ≤ i ∧ ∀ v ∈ xs, ∃ (j : Nat) (b : Addr) (l : List Int), v = .ref b ∧ bs[j]? = some b ∧ lt[j]? = some l ∧ l ≠ []) ⟨[], (G.refl).mut hR (fun _ e => nomatch e), upd_same, Nat.le_refl _, (fun _ h => nomatch h)⟩ (fun i H' _ ⟨_, q, _⟩ => sqT_t q.tups hwa6) ?_ ?_
      · rintro j v _ H7 hj ⟨xs, g7, h7, lx, hxs⟩ ⟨rfl, hv'⟩
        rw [List.length_map] at hj
        rw [List.getElem?_map] at hv'
        obtain ⟨b, hb, rfl⟩ := Option.map_eq_some_iff.mp hv'
        obtain ⟨l, hl⟩ : ∃ l, ls[j]? = some l := ⟨_, List.getElem?_eq_getElem (by omega)⟩
        obtain ⟨q, hq⟩ : ∃ q, lt[j]? = some q := ⟨_, List.getElem?_eq_getElem (by omega)⟩
        obtain ⟨u, hu⟩ : ∃ u, W[j]? = some u := ⟨_, List.getElem?_eq_getElem (by omega)⟩
        walk_at "ws"
        refine ⟨rfl, ?_⟩
        walk_at "ws"
        refine w_dget ?_
        walk_at "ws"
        refine i_dget (web_nodup web) (g7.all _ _ S6.ld) (g7.all _ _ (tup6.2 j b u hb hu)) hu hl ?_
        refine ⟨l, _, rfl, .inl (SqL.of (g7.all _ _ (S6.ls.2 j l q hl hq))), ?_⟩
        walk_at "ws"
        rw [List.length_map]
        refine w_ite (fun e => ?_) (fun e => ?_)
        · walk_at "ws"
          have e' := of_decide_eq_true e
          refine ⟨xs, h7, Nat.lt_of_le_of_lt (by omega : xs.length ≤ 100000) (by decide), xs ++ [.ref b], g7.mut hR (fun _ e => nomatch e), upd_same, by rw [List.length_append, List.length_singleton]; omega, fun v hv => ?_⟩
          rcases List.mem_append.mp hv with z | z
          · exact hxs v z
          · exact ⟨j, b, q, by simpa using z, hb, hq, fun z => by rw [z] at e'; simp at e'⟩
        · exact ⟨xs, g7, h7, by omega, hxs⟩
      rintro H7 ⟨xs, g7, h7, lx, hxs⟩
      rw [List.length_map] at lx
      have S7 := S6.g N hh g7.up
      have g67 : G (some (hd, c)) H6 H7 := g7.up
      have offR : Off (some (hd, c)) R := off_new hh6 hR
      have hh7 : Hand H7 hd c := g67.hand (hd, c) rfl hh6
      have tup7 := tup6.g g67 (fun p e => by cases e; exact hh6)
      have hv7 := sqT_t g67.tups hv6
      have TT := T6
      have ci := T6.cnt
      have cl := T6.ll
      have cm := T6.mm
      have c0 := T6.m0
      walk_at "wn"
      dsimp only
      refine w_seqM (fun σ H' => ∃ (u6 : Option V) (more put x : Int) (u11 u12 u15 u16 u17 : Option V) (ds : List (List Int)) (left : List Int) (lt : List (List Int)) (sv : List V), σ = [some (.ref hd), some (.int (n : Int)), some (.ref wa), some (.ref vp), some (.int most), some (.ref dl), u6, some (.ref ld), some (.ref lf), some (.ref st), some (.int more), u11, u12, some (.int put), some (.int x), u15, u16, u17] ∧ G (some (hd, c)) H H' ∧ RanS W ⟨dl, lf, st, ld, rs, ls⟩ H' ds left lt sv ∧ RanT n ws most (i + 1) i ds left lt sv more ∧ Own ws ds left (some (put, x)) ∧ (0 ≤ put ∧ put < (ws.length : Int)) ∧ (0 ≤ x ∧ x < (n : Int))) (fun N2 kN2 => ?_) ?_
      · refine w_ifM (fun b H' => G (some (hd, c)) H7 H' ∧ (b = true → 0 < left.length) ∧ (b = false → left ≠ [] → xs ≠ [] ∧ more < most)) (fun N3 kN3 => ?_) ?_
        · walk_at "ws"
          refine ⟨lf, _, rfl, .inl (SqL.of S7.lf), ?_⟩
          walk_at "ws"
          rw [List.length_map]
          refine w_ite (fun e => ?_) (fun e => ?_)
          · have e0 : 0 < left.length := by have := of_decide_eq_true e; omega
            walk_at "ws"
            refine ⟨sz (by simp), fun z H8 hz g8 h8 => ?_⟩
            obtain ⟨us, lu, hus⟩ := ready_dp (K := K) (tup7.g (g8 none) (fun _ e => nomatch e)) (xs := xs) fun v hv => by
              obtain ⟨j, b, _, e1, e2, _⟩ := hxs v hv
              exact ⟨j, b, e1, e2⟩
            refine ⟨.list (us.map dP), .list [], .lst (SqL.of ((g8 none).all _ _ h7)) hus, .lst (SqL.of h8) .nil, sh_pairsL us, sh_pairsL [], ?_⟩
            rw [eqv_none]
            walk_at "ws"
            refine w_ite (fun e => ?_) (fun e => ?_)
            · walk_at "ws"
              exact kN3 _ _ ⟨g8 _, fun _ => e0, fun z => nomatch z⟩
            · have nx : xs ≠ [] := fun z => by rw [z] at lu; rw [lu] at e; simp at e
              walk_at "ws"
              refine w_ite (fun e => ?_) (fun e => ?_)
              · walk_at "ws"
                exact kN3 _ _ ⟨g8 _, fun _ => e0, fun z => nomatch z⟩
              · have nm : ¬ more = most := of_decide_eq_false e
                walk_at "ws"
                refine ⟨hd, c, 3, rfl, (g8 (some (hd, c))).hand _ rfl hh7, by decide, by decide, fun r H9 r0 r1 g9 hh9 => ?_⟩
                walk_at "ws"
                exact kN3 _ _ ⟨(g8 _).trans g9, fun _ => e0, fun _ _ => ⟨nx, by omega⟩⟩
          · walk_at "ws"
            refine kN3 _ _ ⟨G.refl, (fun z => nomatch z), fun _ n0 => absurd (List.eq_nil_of_length_eq_zero ?_) n0⟩
            have := of_decide_eq_false e
            omega
        · rintro b H8 ⟨g78, kt, kf⟩
          have g08 := (g6.trans g67).trans g78
          have S8 := S7.g N hh g78
          have hh8 : Hand H8 hd c := g78.hand (hd, c) rfl hh7
          have h8R := g78.keep R _ offR h7
          refine w_ite (fun e => ?_) (fun e => ?_)
          · have ln := kt e
            walk_at "ws"
            refine i_BM S8.lf ?_
            walk_at "ws"
            refine ⟨lf, _, rfl, .inl (SqL.of S8.lf), ?_⟩
            walk_at "ws"
            rw [List.length_map]
            refine ⟨hd, c, (left.length : Int), rfl, hh8, by omega, by omega, fun r H9 r0 r1 g9 hh9 => ?_⟩
            have S9 := S8.g N hh g9
            have rl : r.toNat < left.length := by omega
            have pr := T6.lr _ (List.getElem_mem rl)
            have pl : left[r.toNat].toNat < ws.length := by omega
            obtain ⟨x, hx⟩ : ∃ x, ws[left[r.toNat].toNat]? = some x := ⟨_, List.getElem?_eq_getElem pl⟩
            have xr := hws x (List.mem_of_getElem? hx)
            walk_at "ws"
            refine ⟨lf, left.map V.int, r, r.toNat, .int left[r.toNat], rfl, rfl, S9.lf, by omega, by omega, pop_ix r0 rl, by rw [List.getElem?_map, List.getElem?_eq_getElem rl]; rfl, ?_⟩
            rw [erase_ints]
            have SA := S9.left' N (left.eraseIdx r.toNat)
            have gA := (g08.trans g9).mut (l := lf) (u := .lst ((left.eraseIdx r.toNat).map V.int)) N.lf hhp
            walk_at "ws"
            refine r_ixT (sqT_t gA.tups hv) (v := .int x) (at_of (j := left[r.toNat].toNat) (by omega) (by rw [List.getElem?_map, hx]; rfl)) ?_
            walk_at "ws"
            refine i_BM SA.st ?_
            walk_at "ws"
            refine ⟨sz (by simp), fun t HB ht gB hB => ?_⟩
            have SB := SA.g N hh (gB _)
            have sl := T6.sl
            walk_at "ws"
            refine r_app SB.st (by omega) ?_
            walk_at "ws"
            refine kN2 _ _ ?_
            refine ⟨_, more, _, x, _, _, _, _, _, ds, left.eraseIdx r.toNat, lt, _, rfl, (gA.trans (gB _)).mut N.st hhp, SB.step' N _, ?_, O6.put rl hx pr.1, pr, xr⟩
            have le : (left.eraseIdx r.toNat).length = left.length - 1 := List.length_eraseIdx_of_lt rl
            exact ⟨T6.ld, T6.nd, T6.rng, fun p hp => T6.lr p (List.mem_of_mem_eraseIdx hp), T6.tr, by rw [le]; omega, by rw [le]; omega, T6.m0, T6.mm, by rw [List.length_append, List.length_singleton]; omega, T6.tl⟩
          · have hf := kf e
            refine w_ifM (fun b H' => G (some (hd, c)) H8 H' ∧ (b = true → xs ≠ [] ∧ more < most) ∧ (b = false → ¬ (xs ≠ [] ∧ more < most))) (fun N4 kN4 => ?_) ?_
            · walk_at "ws"
              refine ⟨sz (by simp), fun z H9 hz g9 h9 => ?_⟩
              obtain ⟨us, lu, hus⟩ := ready_dp (K := K) ((tup7.g g78 (fun p e => by cases e; exact hh7)).g (g9 none) (fun _ e => nomatch e)) (xs := xs) fun v hv => by
                obtain ⟨j, b, _, e1, e2, _⟩ := hxs v hv
                exact ⟨j, b, e1, e2⟩
              refine ⟨.list (us.map dP), .list [], .lst (SqL.of ((g9 none).all _ _ h8R)) hus, .lst (SqL.of h9) .nil, sh_pairsL us, sh_pairsL [], ?_⟩
              rw [eqv_none]
              walk_at "ws"
              refine w_ite (fun e => ?_) (fun e => ?_)
              · have nx : xs ≠ [] := fun z => by rw [z] at lu; rw [lu] at e; simp at e
                walk_at "ws"
                by_cases cc : more < most
                · rw [decide_eq_true cc]
                  exact kN4 _ _ ⟨g9 _, fun _ => ⟨nx, cc⟩, fun z => nomatch z⟩
                · rw [decide_eq_false cc]
                  exact kN4 _ _ ⟨g9 _, (fun z => nomatch z), fun _ z => cc z.2⟩
              · have nx : xs = [] := by
                  have : us.length = 0 := by simpa using e
                  exact List.eq_nil_of_length_eq_zero (by omega)
                walk_at "ws"
                exact kN4 _ _ ⟨g9 _, (fun z => nomatch z), fun _ z => z.1 nx⟩
            · rintro b2 H9 ⟨g89, kt2, kf2⟩
              have g09 := g08.trans g89
              have S9 := S8.g N hh g89
              have hh9 : Hand H9 hd c := g89.hand (hd, c) rfl hh8
              have h9R := g89.keep R _ offR h8R
              refine w_ite (fun e => ?_) (fun e => ?_)
              · obtain ⟨nx, mlt⟩ := kt2 e
                have lx0 : 0 < xs.length := List.length_pos_iff.mpr nx
                walk_at "ws"
                refine ⟨R, _, rfl, .inl (SqL.of h9R), ?_⟩
                walk_at "ws"
                refine ⟨hd, c, (xs.length : Int), rfl, hh9, by omega, by omega, fun r HA r0 r1 gA hhA => ?_⟩
                have SA := S9.g N hh gA
                have hAR := gA.keep R _ offR h9R
                have rl : r.toNat < xs.length := by omega
                obtain ⟨j, b, q, ev, hb, hq, nq⟩ := hxs _ (List.getElem_mem rl)
                have gHA := g09.trans gA
                have tupA := tup.g gHA hhp
                obtain ⟨u, hu⟩ : ∃ u, W[j]? = some u := ⟨_, List.getElem?_eq_getElem (by have := (List.getElem?_eq_some_iff.mp hb).1; omega)⟩
                obtain ⟨l, hl⟩ : ∃ l, ls[j]? = some l := ⟨_, List.getElem?_eq_getElem (by have := (List.getElem?_eq_some_iff.mp hb).1; omega)⟩
                have ht := tupA.2 j b u hb hu
                have um := web.mem u (List.mem_of_getElem? hu)
                refine r_ixL (SqL.of hAR) (v := .ref b) (at_of (j := r.toNat) (by omega) (by rw [List.getElem?_eq_getElem rl, ev])) ?_
                refine ⟨b, _, rfl, SqT.of ht, rfl, ?_⟩
                refine ⟨_, _, rfl, ?_⟩
                walk_at "ws"
                refine ⟨_, _, rfl, ?_⟩
                walk_at "ws"
                refine ⟨rfl, ?_⟩
                walk_at "ws"
                refine w_dget ?_
                walk_at "ws"
                refine ⟨sz (by simp), fun t HB ht2 gB hB => ?_⟩
                have SB := SA.g N hh (gB _)
                refine i_dget (web_nodup web) SB.ld hB hu hl ?_
                obtain ⟨p0, q', rfl⟩ : ∃ p0 q', q = p0 :: q' := by
                  cases q with
                  | nil => exact absurd rfl nq
                  | cons p0 q' => exact ⟨p0, q', rfl⟩
                have hlB := SB.ls.2 j l _ hl hq
                refine i_BM hlB ?_
                walk_at "ws"
                refine ⟨l, (p0 :: q').map V.int, 0, 0, .int p0, rfl, rfl, hlB, by decide, by decide, pop_ix (r := 0) (by decide) (by simp), rfl, ?_⟩
                rw [erase_ints]
                have SC := SB.let' N hl ((p0 :: q').eraseIdx 0)
                have gC := ((gHA.trans (gB _)).mut (l := l) (u := .lst (((p0 :: q').eraseIdx 0).map V.int)) (N.ls l (List.mem_of_getElem? hl)) hhp)
                walk_at "ws"
                refine i_BM SC.st ?_
                walk_at "ws"
                refine ⟨sz (by simp), fun t2 HD ht3 gD hD => ?_⟩
                have SD := SC.g N hh (gD _)
                have sl := T6.sl
                walk_at "ws"
                refine r_app SD.st (by omega) ?_
                walk_at "ws"
                refine kN2 _ _ ?_
                have mq := List.mem_of_getElem? hq
                refine ⟨_, more + 1, p0, u.2, _, _, _, _, _, ds, left, lt.set j ((p0 :: q').eraseIdx 0), _, rfl, (gC.trans (gD _)).mut N.st hhp, SD.step' N _, ?_, O6.wk _, T6.tr _ mq p0 List.mem_cons_self, um.2.1⟩
                refine ⟨T6.ld, T6.nd, T6.rng, T6.lr, fun l hl p hp => ?_, by omega, T6.ll, by omega, by omega, by rw [List.length_append, List.length_singleton]; omega, fun l hl => ?_⟩
                · rcases mem_set_list hl with z | z
                  · exact T6.tr l z p hp
                  · rw [z] at hp
                    exact T6.tr _ mq p (List.mem_cons_of_mem _ hp)
                · rcases mem_set_list hl with z | z
                  · exact T6.tl l z
                  · rw [z]
                    have := T6.tl _ mq
                    simp at this ⊢
                    omega
              · have hn := kf2 e
                have l0 : left = [] := Classical.byContradiction fun z => hn (hf z)
                subst l0
                walk_at "ws"
                refine kN1 _ _ ?_
                exact ⟨_, _, _, _, _, _, _, _, _, ds, lt, sv, rfl, g09, S9, ⟨_, _, T6⟩, O6⟩
      · clear hv7 tup7 hh7 offR g67 S7 hxs lx h7 g7 hR lls tup6 hv6 hwa6 hh6 S6 T6 O6 TT ci cl cm c0 g6
        rintro σ H8 ⟨u6, more', put, x, u11, u12, u15, u16, u17, ds', left', lt', sv', rfl, g8, S8, T8, O8, pr, xr⟩
        obtain ⟨x, rfl⟩ : ∃ y : Nat, x = (y : Int) := ⟨x.toNat, by omega⟩
        have ld8 := T8.ld
        have lrs : rs.length = ds'.length := S8.rs.1
        obtain ⟨l, hl⟩ : ∃ l, rs[x]? = some l := ⟨_, List.getElem?_eq_getElem (by omega)⟩
        obtain ⟨d, hd'⟩ : ∃ d, ds'[x]? = some d := ⟨_, List.getElem?_eq_getElem (by omega)⟩
        have hdl := S8.rs.2 x l d hl hd'
        have md := List.mem_of_getElem? hd'
        have dlen := diary_len (T8.nd d md) (T8.rng d md)
        walk_at "ws"
        refine r_ixL (SqL.of S8.dl) (v := .ref l) (at_of (j := x) rfl (by rw [List.getElem?_map, hl]; rfl)) ?_
        refine ⟨l, _, rfl, .inl (SqL.of hdl), rfl, by rw [List.all_map, List.all_eq_true]; intro q _; rfl, ?_⟩
        rw [inV_ints]
        by_cases cp : put ∈ d
        · rw [decide_eq_true cp]
          walk_at "ws"
          refine w_iteN rfl ?_
          walk_at "ws"
          exact ⟨_, _, _, _, _, _, _, _, _, ds', left', lt', sv', rfl, g8, S8, ⟨T8.ld, T8.nd, T8.rng, T8.lr, T8.tr, T8.cnt, T8.ll, T8.m0, T8.mm, T8.sl, fun l hl => Nat.le_succ_of_le (T8.tl l hl)⟩, O8.had (by rw [Int.toNat_natCast]; exact hd') cp⟩
        · rw [decide_eq_false cp]
          walk_at "ws"
          refine w_iteE rfl ?_
          walk_at "ws"
          refine r_ixL (SqL.of S8.dl) (v := .ref l) (at_of (j := x) rfl (by rw [List.getElem?_map, hl]; rfl)) ?_
          refine i_BM hdl ?_
          walk_at "ws"
          refine r_app hdl (by rw [List.length_map]; omega) ?_
          have e1 : d.map V.int ++ [V.int put] = (d ++ [put]).map V.int := by rw [List.map_append]; rfl
          rw [e1]
          have S9 := S8.dia' N hl (d ++ [put])
          have g9 := g8.mut (l := l) (u := .lst ((d ++ [put]).map V.int)) (N.rs l (List.mem_of_getElem? hl)) hhp
          walk_at "ws"
          refine i_tup (sqT_t g9.tups hwa) ?_
          refine for_it (walk_tup (xs := bs.map V.ref)) (fun j σ H' => ∃ (u6 : Option V) (lt2 : List (List Int)), σ = [some (.ref hd), some (.int (n : Int)), some (.ref wa), some (.ref vp), some (.int most), some (.ref dl), u6, some (.ref ld), some (.ref lf), some (.ref st), some (.int more'), u11, u12, some (.int put), some (.int (x : Int)), u15, u16, u17] ∧ G (some (hd, c)) H H' ∧ RanS W ⟨dl, lf, st, ld, rs, ls⟩ H' (ds'.set x (d ++ [put])) left' lt2 sv' ∧ (∀ l ∈ lt2, ∀ p ∈ l, 0 ≤ p ∧ p < (ws.length : Int)) ∧ ∀ (z : Nat) (q : List Int), lt2[z]? = some q → q.length ≤ if z < j then i + 1 else i) ⟨_, lt', rfl, g9, S9, T8.tr, fun z q hq => T8.tl q (List.mem_of_getElem? hq)⟩ (fun _ _ _ _ ⟨_, _, _, q, _⟩ => sqT_t q.tups hwa) ?_ ?_
          · rintro j v σ _ HA hj ⟨u6, lt2, rfl, gA, SA, trA, tlA⟩ ⟨rfl, hv'⟩
            rw [List.length_map] at hj
            rw [List.getElem?_map] at hv'
            obtain ⟨b, hb, rfl⟩ := Option.map_eq_some_iff.mp hv'
            obtain ⟨la, hla⟩ : ∃ l, ls[j]? = some l := ⟨_, List.getElem?_eq_getElem (by omega)⟩
            have lls : ls.length = lt2.length := SA.ls.1
            obtain ⟨q, hq⟩ : ∃ q, lt2[j]? = some q := ⟨_, List.getElem?_eq_getElem (by omega)⟩
            obtain ⟨u, hu⟩ : ∃ u, W[j]? = some u := ⟨_, List.getElem?_eq_getElem (by omega)⟩
            have ht := (tup.g gA hhp).2 j b u hb hu
            have hlA := SA.ls.2 j la q hla hq
            have ql := tlA j q hq
            rw [if_neg (Nat.lt_irrefl j)] at ql
            have i70 : i ≤ 70 := by omega
            walk_at "ws"
            refine r_ixT (SqT.of ht) (v := .int u.1) (at_of (j := 0) rfl rfl) ?_
            walk_at "ws"
            refine w_ite (fun e => ?_) (fun e => ?_)
            · walk_at "ws"
              refine w_dget ?_
              walk_at "ws"
              refine i_dget (web_nodup web) SA.ld ht hu hla ?_
              refine i_BM hlA ?_
              walk_at "ws"
              refine r_app hlA (by rw [List.length_map]; omega) ?_
              have e2 : q.map V.int ++ [V.int put] = (q ++ [put]).map V.int := by rw [List.map_append]; rfl
              rw [e2]
              walk_at "ws"
              refine ⟨_, lt2.set j (q ++ [put]), rfl, gA.mut (N.ls la (List.mem_of_getElem? hla)) hhp, SA.let' N hla (q ++ [put]), fun l hl p hp => ?_, fun z q2 hz => ?_⟩
              · rcases mem_set_list hl with y | y
                · exact trA l y p hp
                · rw [y] at hp
                  rcases List.mem_append.mp hp with y2 | y2
                  · exact trA q (List.mem_of_getElem? hq) p y2
                  · have : p = put := by simpa using y2
                    rw [this]; exact pr
              · by_cases cz : j = z
                · subst cz
                  rw [List.getElem?_set_self (by omega)] at hz
                  cases hz
                  rw [if_pos (Nat.lt_succ_self _), List.length_append, List.length_singleton]
                  omega
                · rw [List.getElem?_set_ne cz] at hz
                  have := tlA z q2 hz
                  split at this <;> split <;> omega
            · walk_at "ws"
              refine ⟨_, lt2, rfl, gA, SA, trA, fun z q2 hz => ?_⟩
              have := tlA z q2 hz
              split at this <;> split <;> omega
          · rintro σ HA ⟨u6, lt2, rfl, gA, SA, trA, tlA⟩
            walk_at "ws"
            refine ⟨_, _, _, _, _, _, _, _, _, _, left', lt2, sv', rfl, gA, SA, ⟨by rw [List.length_set]; exact T8.ld, fun e he => ?_, fun e he p hp => ?_, T8.lr, trA, T8.cnt, T8.ll, T8.m0, T8.mm, T8.sl, fun q hq => ?_⟩, ?_⟩
            · rcases mem_set_list he with y | y
              · exact T8.nd e y
              · rw [y]; exact nodup_snoc (T8.nd d md) cp
            · rcases mem_set_list he with y | y
              · exact T8.rng e y p hp
              · rw [y] at hp
                rcases List.mem_append.mp hp with y2 | y2
                · exact T8.rng d md p y2
                · have : p = put := by simpa using y2
                  rw [this]; exact pr
            · obtain ⟨z, hz⟩ := List.getElem?_of_mem hq
              have := tlA z q hz
              split at this <;> omega
            · have := O8.app (d := d) (by rw [Int.toNat_natCast]; exact hd')
              rw [Int.toNat_natCast] at this
              exact this
    · rintro σ H6 ⟨u6, more, u11, u12, u13, u14, u15, u16, u17, ds, left, lt, sv, rfl, g6, S6, T6, O6⟩
      refine kN1 _ _ ?_
      have cnt := T6.cnt
      have := T6.ll
      have := T6.mm
      have l0 : left = [] := List.eq_nil_of_length_eq_zero (by omega)
      subst l0
      exact ⟨_, _, _, _, _, _, _, _, _, ds, lt, sv, rfl, g6, S6, ⟨_, _, T6⟩, O6⟩
  · clear S5 T5 O5 g5'
    rintro σ H6 ⟨u6, more, u11, u12, u13, u14, u15, u16, u17, ds, lt, sv, rfl, g6, S6, ⟨i, b, T6⟩, O6⟩
    have isr := ran_rec T6 O6 (by omega) (by omega) p30 hws
    have lrs : rs.length = ds.length := S6.rs.1
    have ld6 := T6.ld
    walk_at "ws"
    refine i_list (SqL.of S6.dl) ?_
    intro D hD
    refine lc_it (walk_list (xs := rs.map V.ref)) (fun i H' => ∃ fs : List Addr, G none H6 H' ∧ H' D = some (.lst (fs.map V.ref)) ∧ fs.length = i ∧ ∀ (j : Nat) (f : Addr) (d : List Int), fs[j]? = some f → ds[j]? = some d → FrzT H' f (d.map V.int)) ⟨[], (G.refl).mut hD (fun _ e => nomatch e), upd_same, rfl, (fun j f d e => by simp at e)⟩ (fun i H' _ ⟨_, q, _⟩ => SqL.of (q.all _ _ S6.dl)) ?_ ?_
    · rintro j v _ H7 hj ⟨fs, g7, h7, lfs, hfs⟩ ⟨rfl, hv'⟩
      rw [List.length_map] at hj
      rw [List.getElem?_map] at hv'
      obtain ⟨l, hl, rfl⟩ := Option.map_eq_some_iff.mp hv'
      obtain ⟨d, hd'⟩ : ∃ d, ds[j]? = some d := ⟨_, List.getElem?_eq_getElem (by omega)⟩
      walk_at "ws"
      refine ⟨rfl, ?_⟩
      walk_at "ws"
      refine ⟨l, _, rfl, SqL.of (g7.all _ _ (S6.rs.2 j l d hl hd')), fun f H8 hf g8 h8 => ?_⟩
      have h8D := (g8 none).all _ _ h7
      refine ⟨fs.map V.ref, h8D, Nat.lt_of_le_of_lt (by rw [List.length_map]; omega : (fs.map V.ref).length ≤ 100000) (by decide), fs ++ [f], (g7.trans (g8 none)).mut hD (fun _ e => nomatch e), by rw [upd_same, List.map_append]; rfl, by rw [List.length_append, lfs]; rfl, fun j2 f2 d2 e1 e2 => ?_⟩
      by_cases cj : j2 < fs.length
      · rw [List.getElem?_append_left cj] at e1
        exact FrzT.put ((hfs j2 f2 d2 e1 e2).n (g8 none)) h8D
      · have ej : j2 = j := by
          have := (List.getElem?_eq_some_iff.mp e1).1
          rw [List.length_append, List.length_singleton] at this
          omega
        subst ej
        rw [List.getElem?_append_right (by omega), lfs, Nat.sub_self] at e1
        rw [hd'] at e2
        cases e1; cases e2
        exact FrzT.put h8 h8D
    rintro H7 ⟨fs, g7, h7, lfs, hfs⟩
    rw [List.length_map] at lfs
    walk_at "ws"
    refine ⟨D, _, rfl, .inl ⟨SqL.of h7, fun dt H8 hdt g8 h8 => ?_⟩⟩
    walk_at "ws"
    refine ⟨sz (by simp), fun p H9 hp g9 h9 => ?_⟩
    have g69 := (g7.trans (g8 none)).trans (g9 none)
    have g09 := g6.trans g69.up
    exact k p dt st ds H9 g09 (g09.hand (hd, c) rfl hh) h9 ⟨fs, sqT_t (g9 none).tups (SqT.of h8), by omega, fun j f d e1 e2 => ((hfs j f d e1 e2).n (g8 none)).n (g9 none)⟩ ld6 isr

end
end Mine
/-! ## K21 -/


namespace Mine
section
variable {P : Program} {w : World} {K : PySem.W.Frag} {mg : Str → Option Value} {base : Heap} {a : Ads}

/-! ### for each put the wires that grow, the machines that have it -/
theorem growL_snoc (W : List (Int × Int)) (ds : List (List Int)) (u : Int × Int) (p : Int) : growL (W ++ [u]) ds p = growL W ds p ++ (if Grow ds u.1.toNat u.2.toNat p then [u] else []) := by
  unfold growL
  rw [List.filter_append]
  congr 1
  by_cases c : Grow ds u.1.toNat u.2.toNat p <;> simp [c]
theorem dAt_of {ds : List (List Int)} {x : Nat} {d : List Int} (h : ds[x]? = some d) : dAt ds x = d := by unfold dAt; rw [List.getD_eq_getElem?_getD, h]; rfl
theorem nd_ixA {ls : List Addr} (nd : ls.Nodup) {i j : Nat} {l : Addr} (h1 : ls[i]? = some l) (h2 : ls[j]? = some l) : i = j := by
  obtain ⟨a1, b1⟩ := List.getElem?_eq_some_iff.mp h1
  obtain ⟨a2, b2⟩ := List.getElem?_eq_some_iff.mp h2
  rcases Nat.lt_trichotomy i j with h | h | h
  · exact absurd (b1.trans b2.symm) (List.pairwise_iff_getElem.mp nd i j a1 a2 h)
  · exact h
  · exact absurd (b2.trans b1.symm) (List.pairwise_iff_getElem.mp nd j i a2 a1 h)
/-- lists of pairs at these places -/
def PLs (K : PySem.W.Frag) (H : Hp) (ls : List Addr) (f : Nat → List (Int × Int)) : Prop := ∀ (p : Nat) (l : Addr), ls[p]? = some l → ∃ xs, H l = some (.lst xs) ∧ DpAll K H xs ((f p).map dP)
theorem PLs.keep {H H' : Hp} {ls : List Addr} {f : Nat → List (Int × Int)} (h : PLs K H ls f) (t : Ts H H') (k : ∀ l ∈ ls, ∀ u, H l = some u → H' l = some u) : PLs K H' ls f := fun p l e => by
  obtain ⟨xs, h1, h2⟩ := h p l e
  exact ⟨xs, k l (List.mem_of_getElem? e) _ h1, dpAll_t t _ _ (nls_pairs _) h2⟩
theorem PLs.n {H H' : Hp} {ls : List Addr} {f : Nat → List (Int × Int)} (h : PLs K H ls f) (g : G none H H') : PLs K H' ls f := h.keep g.tups fun l _ u e => g.all _ _ e
theorem PLs.put {H : Hp} {ls : List Addr} {f : Nat → List (Int × Int)} (h : PLs K H ls f) (nd : ls.Nodup) {p : Nat} {l : Addr} (hl : ls[p]? = some l) {xs : List V} (hx : H l = some (.lst xs)) {v : V} {u : Int × Int} (hv : Dp K H v (dP u)) :
    PLs K (upd H l (.lst (xs ++ [v]))) ls (fun q => f q ++ if q = p then [u] else []) := fun q l' e => by
  obtain ⟨ys, h1, h2⟩ := h q l' e
  have t : Ts H (upd H l (.lst (xs ++ [v]))) := Ts.updl hx
  by_cases c : q = p
  · subst c
    rw [hl] at e
    cases e
    rw [hx] at h1
    cases h1
    refine ⟨_, upd_same, ?_⟩
    dsimp only
    rw [if_pos rfl, List.map_append]
    exact DpAll.app (dpAll_t t _ _ (nls_pairs _) h2) (DpAll.one (dp_t t _ _ (nl_dP u) hv))
  · have n : l' ≠ l := fun z => c (by subst z; exact nd_ixA nd e hl)
    dsimp only
    rw [if_neg c, List.append_nil]
    exact ⟨ys, by rw [upd_ne n]; exact h1, dpAll_t t _ _ (nls_pairs _) h2⟩
/-- the dicts of places -/
def Dicts (H : Hp) (qs : List Addr) (ds : List (List Int)) : Prop := qs.length = ds.length ∧ ∀ (j : Nat) (q : Addr) (d : List Int), qs[j]? = some q → ds[j]? = some d → H q = some (.dK (kvPl 0 d))
theorem Dicts.keep {H H' : Hp} {qs : List Addr} {ds : List (List Int)} (h : Dicts H qs ds) (k : ∀ q kvs, H q = some (.dK kvs) → H' q = some (.dK kvs)) : Dicts H' qs ds := ⟨h.1, fun j q d e1 e2 => k q _ (h.2 j q d e1 e2)⟩
def sp_wires_by_put (K : PySem.W.Frag) (CW CR : Addr) : Sp := fun vs H Q _ => ∃ (x r : Addr) (m : Int) (W : List (Int × Int)) (ws : List Int) (ds : List (List Int)), vs = [.ref x, .ref r] ∧ WebAt K CW H x m W ∧ IsWeb m W ∧ RecAt K CR H r ws ds ∧ IsRec ws ds ∧ ds.length = m.toNat ∧
  ∀ (R : Addr) (ls : List Addr) H', H R = none → G none H H' → H' R = some (.lst (ls.map V.ref)) → ls.length = ws.length → PLs K H' ls (fun p => growL W ds p) → Q (.ref R) H'
theorem empties {H1 H' : Hp} {ls : List Addr} (h : ∀ l ∈ ls, H1 l = none ∧ H' l = some (.lst [])) : PLs K H' ls (fun _ => []) := fun p l e => ⟨[], (h l (List.mem_of_getElem? e)).2, .nil⟩
theorem ok_wires_by_put (T : Txt K mg a) : FnOk P w K mg base CX0 2 a.f_wires_by_put a.d_wires_by_put P_wires_by_put (sp_wires_by_put K a.c_Web a.c_Record) := by
  refine T.F_wires_by_put.ok sc_wires_by_put (fun vs H Q E h => by obtain ⟨x, r, m, W, ws, ds, rfl, _⟩ := h; rfl) (fun cdv A outer s H vs Q E hr h => ?_)
  obtain ⟨x, r, m, W, ws, ds, rfl, ⟨dx, wa, hx, hwa⟩, web, ⟨dr, wp, dp, hrr, hwp, bs, hbs, lb, hb⟩, rec, lm, k⟩ := h
  have G_places_in : FnOk P w K mg base CX0 1 a.f_places_in a.d_places_in P_places_in (sp_places_in K) := ok_places_in T
  have G_grown_over : FnOk P w K mg base CX0 1 a.f_grown_over a.d_grown_over P_grown_over (sp_grown_over K) := ok_grown_over T
  have m1 := web.lo
  have m7 := web.hi
  have p30 := rec.p30
  have l49 := isweb_len49 web
  have rc : Rec ws ds := ⟨rec.nd, rec.rng⟩
  obtain ⟨wa', vs, e, hvs, hds⟩ := dp_tup hwa
  cases e
  have lv : vs.length = W.length := by rw [DpAll.length hds, List.length_map]
  refine ⟨_, (pss_cons (ps_setLc (i := 2) (own := [("diary", 7)]) (g := (gName 7)) (tt := tYes)  rfl sc_wires_by_put.nd rfl rfl (sw_true rfl rfl rfl (by decide +kernel)) (pi_tup (pe_fld (pv 1) rfl)) (blkOk_by (N := N_wires_by_put) (sc := defScope s_wires_by_put) (by decide +kernel)) (fun _ _ _ _ _ => (pg_name (i := 7) sc_wires_by_put.nd rfl (by first | exact Or.inl rfl | exact Or.inr rfl))) (fun _ _ _ _ _ => pts_nil) (fun _ _ _ _ _ => (pe_call (G_places_in) (hr.mono (by omega)) rfl T.m_places_in T.F_places_in.kp T.b_places_in .nil pass0 (pa_cons (pv 7) pa_nil))))
  (pss_cons (ps_setLc (i := 3) (own := [("_", 8)]) (g := (gName 8)) (tt := tYes)  rfl sc_wires_by_put.nd rfl rfl (sw_true rfl rfl rfl (by decide +kernel)) (pi_tup (pe_fld (pv 1) rfl)) (blkOk_by (N := N_wires_by_put) (sc := defScope s_wires_by_put) (by decide +kernel)) (fun _ _ _ _ _ => (pg_name (i := 8) sc_wires_by_put.nd rfl (by first | exact Or.inl rfl | exact Or.inr rfl))) (fun _ _ _ _ _ => pts_nil) (fun _ _ _ _ _ => (pe_lstN pa_nil)))
  (pss_cons (ps_for PassesOwn.never rfl (pi_tup (pe_fld (pv 0) rfl)) (pg_tup rfl (pgs_cons (pg_name (i := 4) sc_wires_by_put.nd rfl (Or.inl rfl)) (pgs_cons (pg_name (i := 5) sc_wires_by_put.nd rfl (Or.inl rfl)) pgs_nil)))
    (pss_one (ps_for PassesOwn.never rfl (pi_list (pe_call (G_grown_over) (hr.mono (by omega)) rfl T.m_grown_over T.F_grown_over.kp T.b_grown_over .nil pass0 (pa_cons (pe_ix ix_tup (pe_fld (pv 1) rfl) (pv 4) (fun _ _ => rfl)) (pa_cons (pe_ix ix_list (pv 2) (pv 5) (fun _ _ => rfl)) pa_nil)))) (pg_name (i := 6) sc_wires_by_put.nd rfl (Or.inl rfl))
    (pss_one (ps_expr (pe_bm PySem.F.plainAttrs_list PySem.F.slot_list_append PySem.F.type_list_append mt_append (pe_ix ix_list (pv 3) (pv 6) (fun _ _ => rfl)) (pa_cons (pe_tupN (pa_cons (pv 4) (pa_cons (pv 5) pa_nil))) pa_nil)))))))
  (pss_one (ps_ret (pv 3)))))), ?_⟩
  walk_at "ws"
  refine r_fld hrr T.cl_Record T.na_Record_diaries (rf_d _ _) ?_
  refine i_tup hbs ?_
  intro PD hPD
  refine lc_it (walk_tup (xs := bs.map V.ref)) (fun i H' => ∃ qs : List Addr, G none H H' ∧ H' PD = some (.lst (qs.map V.ref)) ∧ qs.length = i ∧ ∀ (j : Nat) (q : Addr) (d : List Int), qs[j]? = some q → ds[j]? = some d → H' q = some (.dK (kvPl 0 d))) ⟨[], (G.refl).mut hPD (fun _ e => nomatch e), upd_same, rfl, (fun j q d e => by simp at e)⟩ (fun i H' _ ⟨_, q, _⟩ => sqT_t q.tups hbs) ?_ ?_
  · rintro i v _ H1 hi ⟨qs, g1, h1, lq, hqs⟩ ⟨rfl, hv⟩
    rw [List.length_map] at hi
    obtain ⟨b, d, rfl, hbi, hdi, hf⟩ := Dia.at_ (p := dp) lb hb hv
    have dm := List.mem_of_getElem? hdi
    have dl := diary_len (rec.nd d dm) (rec.rng d dm)
    walk_at "ws"
    refine ⟨rfl, ?_⟩
    walk_at "ws"
    refine ⟨b, d, rfl, (hf.n g1).sq, rec.nd d dm, by omega, fun q H2 hq g2 h2 => ?_⟩
    have h2P := g2.all _ _ h1
    have nqP : q ≠ PD := (ne_of_none h1 hq).symm
    refine ⟨qs.map V.ref, h2P, Nat.lt_of_le_of_lt (by rw [List.length_map]; omega : (qs.map V.ref).length ≤ 100000) (by decide), qs ++ [q], (g1.trans g2).mut hPD (fun _ e => nomatch e), by rw [upd_same, List.map_append]; rfl, by rw [List.length_append, lq]; rfl, fun j q' d' e1 e2 => ?_⟩
    by_cases cj : j < qs.length
    · rw [List.getElem?_append_left cj] at e1
      have h3 := g2.all _ _ (hqs j q' d' e1 e2)
      rw [upd_ne (ne_of h3 h2P (by intro z; cases z))]
      exact h3
    · have ej : j = i := by
        have := (List.getElem?_eq_some_iff.mp e1).1
        rw [List.length_append, List.length_singleton] at this
        omega
      subst ej
      rw [List.getElem?_append_right (by omega), lq, Nat.sub_self] at e1
      rw [hdi] at e2
      cases e1; cases e2
      rw [upd_ne nqP]; exact h2
  rintro H1 ⟨qs, g1, h1, lq, hqs⟩
  rw [List.length_map] at lq
  walk_at "ws"
  refine r_fld (g1.all _ _ hrr) T.cl_Record T.na_Record_writers (rf_w _ _) ?_
  refine i_tup (sqT_t g1.tups hwp) ?_
  intro R hR
  have nRP : R ≠ PD := (ne_of_none h1 hR).symm
  refine lc_it (walk_tup (xs := ws.map V.int)) (fun i H' => ∃ ls : List Addr, G none H1 H' ∧ H' R = some (.lst (ls.map V.ref)) ∧ ls.length = i ∧ ls.Nodup ∧ R ∉ ls ∧ ∀ l ∈ ls, H1 l = none ∧ H' l = some (.lst [])) ⟨[], (G.refl).mut hR (fun _ e => nomatch e), upd_same, rfl, List.nodup_nil, (fun h => nomatch h), (fun _ h => nomatch h)⟩ (fun i H' _ ⟨_, q, _⟩ => sqT_t (g1.trans q).tups hwp) ?_ ?_
  · rintro i v _ H2 hi ⟨ls, g2, h2, ll, nd, nR, hls⟩ ⟨rfl, hv⟩
    rw [List.length_map] at hi
    walk_at "ws"
    refine ⟨rfl, ?_⟩
    walk_at "ws"
    refine ⟨sz (by simp), fun l H3 hl g3 h3 => ?_⟩
    have nl : l ≠ R := (ne_of_none h2 hl).symm
    have h3R := (g3 none).all _ _ h2
    refine ⟨ls.map V.ref, h3R, Nat.lt_of_le_of_lt (by rw [List.length_map]; omega : (ls.map V.ref).length ≤ 100000) (by decide), ls ++ [l], (g2.trans (g3 none)).mut hR (fun _ e => nomatch e), by rw [upd_same, List.map_append]; rfl, by rw [List.length_append, ll]; rfl, ?_, ?_, fun l' hl' => ?_⟩
    · refine List.nodup_append.mpr ⟨nd, by simp, fun a ha b hb e => ?_⟩
      have eb : b = l := by simpa using hb
      have := (hls a ha).2
      rw [e, eb, hl] at this; cases this
    · intro h
      rcases List.mem_append.mp h with h | h
      · exact nR h
      · exact nl (by simpa using h : R = l).symm
    · rcases List.mem_append.mp hl' with h | h
      · have n' : l' ≠ R := fun z => nR (z ▸ h)
        exact ⟨(hls l' h).1, by rw [upd_ne n']; exact (g3 none).all _ _ (hls l' h).2⟩
      · have e : l' = l := by simpa using h
        subst e
        exact ⟨new_bk g2 hl, by rw [upd_ne nl]; exact h3⟩
  rintro H2 ⟨ls, g2, h2R, ll, nd, nR, hls⟩
  rw [List.length_map] at ll
  have g02 := g1.trans g2
  have nP : ∀ l ∈ ls, l ≠ PD := fun l hl z => by
    have := (hls l hl).1
    rw [z, h1] at this; cases this
  have hl0 : ∀ l ∈ ls, H l = none := fun l hl => new_bk g1 (hls l hl).1
  have hR0 : H R = none := new_bk g1 hR
  have dic : Dicts H2 qs ds := ⟨by omega, fun j q d e1 e2 => g2.all _ _ (hqs j q d e1 e2)⟩
  have h2P := g2.all _ _ h1
  have pls0 : PLs K H2 ls (fun p => growL (W.take 0) ds p) := empties hls
  clear hqs hls g1 g2 h1 hR hPD
  walk_at "ws"
  refine r_fld (g02.all _ _ hx) T.cl_Web T.na_Web_wires (wf_w _ _) ?_
  refine i_tup (sqT_t g02.tups hvs) ?_
  refine for_it (walk_tup (xs := vs)) (fun i σ H' => ∃ u4 u5 u6, σ = [some (.ref x), some (.ref r), some (.ref PD), some (.ref R), u4, u5, u6, none, none] ∧ G none H H' ∧ H' R = some (.lst (ls.map V.ref)) ∧ H' PD = some (.lst (qs.map V.ref)) ∧ Dicts H' qs ds ∧ PLs K H' ls (fun p => growL (W.take i) ds p)) ⟨_, _, _, rfl, g02, h2R, h2P, dic, pls0⟩ (fun i σ H' _ ⟨_, _, _, _, q, _⟩ => sqT_t q.tups hvs) ?_ ?_
  · rintro i v σ _ H3 hi ⟨u4, u5, u6, rfl, g3, h3R, h3P, dic3, pls3⟩ ⟨rfl, hv⟩
    obtain ⟨d, hd, hvd⟩ := DpAll.get hds hv
    rw [List.getElem?_map] at hd
    obtain ⟨u, hu, rfl⟩ := Option.map_eq_some_iff.mp hd
    obtain ⟨t, rfl, ht⟩ := dp_dP hvd
    have um := web.mem u (List.mem_of_getElem? hu)
    have tk : W.take (i + 1) = W.take i ++ [u] := by rw [List.take_add_one, hu]; rfl
    refine ⟨t, _, rfl, sqT_t g3.tups ht, rfl, ?_⟩
    refine ⟨_, _, rfl, ?_⟩
    walk_at "ws"
    refine ⟨_, _, rfl, ?_⟩
    walk_at "ws"
    refine ⟨rfl, ?_⟩
    have ly : u.1.toNat < ds.length := by omega
    have lx : u.2.toNat < ds.length := by omega
    obtain ⟨dy, hdy⟩ : ∃ d, ds[u.1.toNat]? = some d := ⟨_, List.getElem?_eq_getElem ly⟩
    obtain ⟨dxx, hdx⟩ : ∃ d, ds[u.2.toNat]? = some d := ⟨_, List.getElem?_eq_getElem lx⟩
    obtain ⟨by_, hby⟩ : ∃ b, bs[u.1.toNat]? = some b := ⟨_, List.getElem?_eq_getElem (by omega)⟩
    obtain ⟨qx, hqx⟩ : ∃ q, qs[u.2.toNat]? = some q := ⟨_, List.getElem?_eq_getElem (by have := dic3.1; omega)⟩
    have ym := List.mem_of_getElem? hdy
    have xm := List.mem_of_getElem? hdx
    have dyl := diary_len (rec.nd dy ym) (rec.rng dy ym)
    have hfy := (hb _ _ _ hby hdy).n g3
    walk_at "ws"
    refine r_fld (g3.all _ _ hrr) T.cl_Record T.na_Record_diaries (rf_d _ _) ?_
    walk_at "ws"
    refine r_ixT (sqT_t g3.tups hbs) (v := .ref by_) (at_of (j := u.1.toNat) (by omega) (by rw [List.getElem?_map, hby]; rfl)) ?_
    walk_at "ws"
    refine r_ixL (SqL.of h3P) (v := .ref qx) (at_of (j := u.2.toNat) (by omega) (by rw [List.getElem?_map, hqx]; rfl)) ?_
    walk_at "ws"
    refine ⟨by_, qx, dy, dxx, rfl, hfy.sq, dic3.2 _ _ _ hqx hdx, rec.nd dy ym, rec.nd dxx xm, by omega, fun D ns H4 hD g4 h4 nn mem => ?_⟩
    have h4R := g4.all _ _ h3R
    have nDl : ∀ l ∈ ls, D ≠ l := fun l hl z => by
      obtain ⟨p, hp, e⟩ := List.getElem_of_mem hl
      obtain ⟨xs, h5, _⟩ := pls3 p l (by rw [← e]; exact List.getElem?_eq_getElem hp)
      rw [z, h5] at hD; cases hD
    have nDR : D ≠ R := (ne_of_none h3R hD).symm
    refine i_list (SqL.of h4) ?_
    refine for_it (walk_list (xs := ns.map V.int)) (fun j σ H' => ∃ u6, σ = [some (.ref x), some (.ref r), some (.ref PD), some (.ref R), some (.int u.1), some (.int u.2), u6, none, none] ∧ G none H H' ∧ H' D = some (.lst (ns.map V.int)) ∧ H' R = some (.lst (ls.map V.ref)) ∧ H' PD = some (.lst (qs.map V.ref)) ∧ Dicts H' qs ds ∧ PLs K H' ls (fun p => growL (W.take i) ds p ++ if (p : Int) ∈ ns.take j then [u] else []))
      ⟨_, rfl, g3.trans g4, h4, h4R, g4.all _ _ h3P, dic3.keep fun q kvs e => g4.all _ _ e, by simpa using pls3.n g4⟩ (fun j σ H' _ ⟨_, _, _, q, _⟩ => SqL.of q) ?_ ?_
    · rintro j v σ _ H5 hj ⟨w6, rfl, g5, h5D, h5R, h5P, dic5, pls5⟩ ⟨rfl, hv⟩
      rw [List.getElem?_map] at hv
      obtain ⟨z, hz, rfl⟩ := Option.map_eq_some_iff.mp hv
      have tkj : ns.take (j + 1) = ns.take j ++ [z] := by rw [List.take_add_one, hz]; rfl
      have gz := (mem z).mp (List.mem_of_getElem? hz)
      have zr := rec.rng dy ym z gz.1
      have ez : ((z.toNat : Nat) : Int) = z := by omega
      obtain ⟨l, hl⟩ : ∃ l, ls[z.toNat]? = some l := ⟨_, List.getElem?_eq_getElem (by omega)⟩
      have lm' := List.mem_of_getElem? hl
      obtain ⟨xs, h5l, hxs⟩ := pls5 _ _ hl
      walk_at "ws"
      refine r_ixL (SqL.of h5R) (v := .ref l) (at_of (j := z.toNat) (by omega) (by rw [List.getElem?_map, hl]; rfl)) ?_
      refine ⟨.inl ⟨rfl, _, SqL.of h5l⟩, ?_⟩
      walk_at "ws"
      refine ⟨sz (by simp), fun tt H6 htt g6 h6 => ?_⟩
      have h6l := (g6 none).all _ _ h5l
      walk_at "ws"
      have lxs : xs.length ≤ 200 := by
        rw [DpAll.length hxs, List.length_map, List.length_append]
        have q1 : (growL (W.take i) ds (z.toNat : Nat)).length ≤ 49 := by
          unfold growL
          have a1 := List.length_filter_le (fun u => decide (Grow ds u.1.toNat u.2.toNat (z.toNat : Nat))) (W.take i)
          rw [List.length_take] at a1
          omega
        revert q1
        generalize (growL (W.take i) ds (z.toNat : Nat)).length = gl
        intro q1
        split <;> simp <;> omega
      refine r_app h6l (by omega) ?_
      walk_at "ws"
      have hdt : Dp K H6 (.ref tt) (dP u) := dp_ofP (SqT.of h6)
      have nRl : R ≠ l := fun e => nR (e ▸ lm')
      have nPl : PD ≠ l := (nP l lm').symm
      refine ⟨_, rfl, (g5.trans (g6 none)).mut (hl0 l lm') (fun _ e => nomatch e), by rw [upd_ne (nDl l lm')]; exact (g6 none).all _ _ h5D, by rw [upd_ne nRl]; exact (g6 none).all _ _ h5R, by rw [upd_ne nPl]; exact (g6 none).all _ _ h5P, (dic5.keep fun q kvs e => (g6 none).all _ _ e).keep fun q kvs e => by rw [upd_ne (ne_of e h6l (by intro z; cases z))]; exact e, ?_⟩
      have nz : z ∉ ns.take j := fun mm => by
        obtain ⟨j', hj', e⟩ := List.getElem_of_mem mm
        rw [List.length_take] at hj'
        rw [List.getElem_take] at e
        have e2 := (List.getElem?_eq_some_iff.mp hz)
        have := nd_at nn (by omega) e2.1 (e.trans e2.2.symm)
        omega
      have q := PLs.put (pls5.n (g6 none)) nd hl h6l hdt
      refine fun p l' e => ?_
      obtain ⟨ys, a1, a2⟩ := q p l' e
      refine ⟨ys, a1, ?_⟩
      have ef : ((growL (W.take i) ds p ++ if (p : Int) ∈ ns.take j then [u] else []) ++ if p = z.toNat then [u] else []) = growL (W.take i) ds p ++ if (p : Int) ∈ ns.take (j + 1) then [u] else [] := by
        rw [tkj]
        by_cases c : p = z.toNat
        · have c1 : (p : Int) = z := by omega
          rw [if_pos c, c1, if_neg nz, if_pos (by simp), List.append_nil]
        · have c1 : ¬ (p : Int) = z := by omega
          rw [if_neg c, List.append_nil]
          by_cases c2 : (p : Int) ∈ ns.take j
          · rw [if_pos c2, if_pos (List.mem_append_left _ c2)]
          · rw [if_neg c2, if_neg (by simp [c2, c1])]
      dsimp only at a2 ⊢
      rw [ef] at a2
      exact a2
    · rintro σ H5 ⟨w6, rfl, g5, h5D, h5R, h5P, dic5, pls5⟩
      rw [List.length_map, List.take_length] at pls5
      refine ⟨_, _, _, rfl, g5, h5R, h5P, dic5, fun p l e => ?_⟩
      obtain ⟨xs, a1, a2⟩ := pls5 p l e
      refine ⟨xs, a1, ?_⟩
      have ef : growL (W.take (i + 1)) ds p = growL (W.take i) ds p ++ if (p : Int) ∈ ns then [u] else [] := by
        rw [tk, growL_snoc]
        congr 1
        have : Grow ds u.1.toNat u.2.toNat p ↔ (p : Int) ∈ ns := by
          rw [mem]
          unfold Grow GrowD
          rw [dAt_of hdy, dAt_of hdx]
        by_cases c : (p : Int) ∈ ns
        · rw [if_pos c, if_pos (this.mpr c)]
        · rw [if_neg c, if_neg fun z => c (this.mp z)]
      dsimp only at a2 ⊢
      rw [ef]
      exact a2
  · rintro σ H3 ⟨u4, u5, u6, rfl, g3, h3R, h3P, dic3, pls3⟩
    rw [lv, List.take_length] at pls3
    walk_at "ws"
    exact k R ls H3 hR0 g3 h3R ll pls3

end
end Mine
/-! ## K22 -/


namespace Mine
section
variable {P : Program} {w : World} {K : PySem.W.Frag} {mg : Str → Option Value} {base : Heap} {a : Ads}

def holdN (ds : List (List Int)) (p : Nat) (i : Nat) : List Int := ((List.range i).filter fun (x : Nat) => decide ((p : Int) ∈ dAt ds x)).map fun (x : Nat) => (x : Int)
abbrev hold (ds : List (List Int)) (p : Nat) : List Int := holdN ds p ds.length
theorem holdN_succ (ds : List (List Int)) (p i : Nat) : holdN ds p (i + 1) = holdN ds p i ++ if (p : Int) ∈ dAt ds i then [(i : Int)] else [] := by
  unfold holdN
  rw [List.range_succ, List.filter_append, List.map_append]
  congr 1
  by_cases c : (p : Int) ∈ dAt ds i
  · have e : ([i] : List Nat).filter (fun (x : Nat) => decide ((p : Int) ∈ dAt ds x)) = [i] := List.filter_cons_of_pos (p := fun (x : Nat) => decide ((p : Int) ∈ dAt ds x)) (decide_eq_true c)
    rw [if_pos c, e]; rfl
  · have e : ([i] : List Nat).filter (fun (x : Nat) => decide ((p : Int) ∈ dAt ds x)) = [] := List.filter_cons_of_neg (p := fun (x : Nat) => decide ((p : Int) ∈ dAt ds x)) (fun h => c (of_decide_eq_true h))
    rw [if_neg c, e]; rfl
theorem holdN_len (ds : List (List Int)) (p i : Nat) : (holdN ds p i).length ≤ i := by
  unfold holdN
  rw [List.length_map]
  have := List.length_filter_le (fun (x : Nat) => decide ((p : Int) ∈ dAt ds x)) (List.range i)
  rw [List.length_range] at this
  exact this
theorem hold_mem {ds : List (List Int)} {p : Nat} {z : Int} : z ∈ hold ds p ↔ ∃ x : Nat, z = (x : Int) ∧ x < ds.length ∧ (p : Int) ∈ dAt ds x := by
  unfold hold holdN
  rw [List.mem_map]
  constructor
  · rintro ⟨x, hx, rfl⟩
    obtain ⟨h1, h2⟩ := List.mem_filter.mp hx
    exact ⟨x, rfl, List.mem_range.mp h1, of_decide_eq_true h2⟩
  · rintro ⟨x, rfl, h1, h2⟩
    exact ⟨x, List.mem_filter.mpr ⟨List.mem_range.mpr h1, decide_eq_true h2⟩, rfl⟩
theorem hold_nd (ds : List (List Int)) (p : Nat) : (hold ds p).Nodup := by
  unfold hold holdN
  refine List.pairwise_map.mpr ?_
  refine List.Pairwise.imp (fun {a b} h e => ?_) ((List.pairwise_lt_range (n := ds.length)).sublist List.filter_sublist)
  omega
/-- lists of ints at these places -/
def ILs (H : Hp) (ls : List Addr) (f : Nat → List Int) : Prop := ∀ (p : Nat) (l : Addr), ls[p]? = some l → H l = some (.lst ((f p).map V.int))
theorem ILs.n {H H' : Hp} {ls : List Addr} {f : Nat → List Int} (h : ILs H ls f) (g : G none H H') : ILs H' ls f := fun p l e => g.all _ _ (h p l e)
theorem ILs.put {H : Hp} {ls : List Addr} {f : Nat → List Int} (h : ILs H ls f) (nd : ls.Nodup) {p : Nat} {l : Addr} (hl : ls[p]? = some l) (z : Int) : ILs (upd H l (.lst ((f p).map V.int ++ [.int z]))) ls (fun q => f q ++ if q = p then [z] else []) := fun q l' e => by
  by_cases c : q = p
  · subst c
    rw [hl] at e
    cases e
    rw [upd_same]
    dsimp only
    rw [if_pos rfl, List.map_append]; rfl
  · have n : l' ≠ l := fun z => c (by subst z; exact nd_ixA nd e hl)
    rw [upd_ne n]
    dsimp only
    rw [if_neg c, List.append_nil]
    exact h q l' e
def sp_holders_by_put (K : PySem.W.Frag) (CR : Addr) : Sp := fun vs H Q _ => ∃ (r : Addr) (ws : List Int) (ds : List (List Int)), vs = [.ref r] ∧ RecAt K CR H r ws ds ∧ IsRec ws ds ∧
  ∀ (R : Addr) (ls : List Addr) H', H R = none → G none H H' → H' R = some (.lst (ls.map V.ref)) → ls.length = ws.length → ILs H' ls (fun p => hold ds p) → Q (.ref R) H'
theorem ok_holders_by_put (T : Txt K mg a) : FnOk P w K mg base CX0 1 a.f_holders_by_put a.d_holders_by_put P_holders_by_put (sp_holders_by_put K a.c_Record) := by
  refine T.F_holders_by_put.ok sc_holders_by_put (fun vs H Q E h => by obtain ⟨r, ws, ds, rfl, _⟩ := h; rfl) (fun cdv A outer s H vs Q E hr h => ?_)
  obtain ⟨r, ws, ds, rfl, ⟨dr, wp, dp, hrr, hwp, bs, hbs, lb, hb⟩, rec, k⟩ := h
  have m7 := rec.m7
  have p30 := rec.p30
  refine ⟨_, (pss_cons (ps_setLc (i := 1) (own := [("_", 5)]) (g := (gName 5)) (tt := tYes)  rfl sc_holders_by_put.nd rfl rfl (sw_true rfl rfl rfl (by decide +kernel)) (pi_tup (pe_fld (pv 0) rfl)) (blkOk_by (N := N_holders_by_put) (sc := defScope s_holders_by_put) (by decide +kernel)) (fun _ _ _ _ _ => (pg_name (i := 5) sc_holders_by_put.nd rfl (by first | exact Or.inl rfl | exact Or.inr rfl))) (fun _ _ _ _ _ => pts_nil) (fun _ _ _ _ _ => (pe_lstN pa_nil)))
  (pss_cons (ps_for PassesOwn.never rfl (pi_enumT (by rfl) T.n_enumerate (pa_cons (pe_fld (pv 0) rfl) pa_nil)) (pg_tup rfl (pgs_cons (pg_name (i := 2) sc_holders_by_put.nd rfl (Or.inl rfl)) (pgs_cons (pg_name (i := 3) sc_holders_by_put.nd rfl (Or.inl rfl)) pgs_nil)))
    (pss_one (ps_for PassesOwn.never rfl (pi_tup (pv 3)) (pg_name (i := 4) sc_holders_by_put.nd rfl (Or.inl rfl))
    (pss_one (ps_expr (pe_bm PySem.F.plainAttrs_list PySem.F.slot_list_append PySem.F.type_list_append mt_append (pe_ix ix_list (pv 1) (pv 4) (fun _ _ => rfl)) (pa_cons (pv 2) pa_nil)))))))
  (pss_one (ps_ret (pv 1))))), ?_⟩
  walk_at "ws"
  refine r_fld hrr T.cl_Record T.na_Record_writers (rf_w _ _) ?_
  refine i_tup hwp ?_
  intro R hR
  refine lc_it (walk_tup (xs := ws.map V.int)) (fun i H' => ∃ ls : List Addr, G none H H' ∧ H' R = some (.lst (ls.map V.ref)) ∧ ls.length = i ∧ ls.Nodup ∧ R ∉ ls ∧ ∀ l ∈ ls, H l = none ∧ H' l = some (.lst [])) ⟨[], (G.refl).mut hR (fun _ e => nomatch e), upd_same, rfl, List.nodup_nil, (fun h => nomatch h), (fun _ h => nomatch h)⟩ (fun i H' _ ⟨_, q, _⟩ => sqT_t q.tups hwp) ?_ ?_
  · rintro i v _ H2 hi ⟨ls, g2, h2, ll, nd, nR, hls⟩ ⟨rfl, hv⟩
    rw [List.length_map] at hi
    walk_at "ws"
    refine ⟨rfl, ?_⟩
    walk_at "ws"
    refine ⟨sz (by simp), fun l H3 hl g3 h3 => ?_⟩
    have nl : l ≠ R := (ne_of_none h2 hl).symm
    have h3R := (g3 none).all _ _ h2
    refine ⟨ls.map V.ref, h3R, Nat.lt_of_le_of_lt (by rw [List.length_map]; omega : (ls.map V.ref).length ≤ 100000) (by decide), ls ++ [l], (g2.trans (g3 none)).mut hR (fun _ e => nomatch e), by rw [upd_same, List.map_append]; rfl, by rw [List.length_append, ll]; rfl, ?_, ?_, fun l' hl' => ?_⟩
    · refine List.nodup_append.mpr ⟨nd, by simp, fun a ha b hb e => ?_⟩
      have eb : b = l := by simpa using hb
      have := (hls a ha).2
      rw [e, eb, hl] at this; cases this
    · intro h
      rcases List.mem_append.mp h with h | h
      · exact nR h
      · exact nl (by simpa using h : R = l).symm
    · rcases List.mem_append.mp hl' with h | h
      · have n' : l' ≠ R := fun z => nR (z ▸ h)
        exact ⟨(hls l' h).1, by rw [upd_ne n']; exact (g3 none).all _ _ (hls l' h).2⟩
      · have e : l' = l := by simpa using h
        subst e
        exact ⟨new_bk g2 hl, by rw [upd_ne nl]; exact h3⟩
  rintro H2 ⟨ls, g2, h2R, ll, nd, nR, hls⟩
  rw [List.length_map] at ll
  have ils0 : ILs H2 ls (fun p => holdN ds p 0) := fun p l e => (hls l (List.mem_of_getElem? e)).2
  have hl0 : ∀ l ∈ ls, H l = none := fun l hl => (hls l hl).1
  clear hls
  walk_at "ws"
  refine r_fld (g2.all _ _ hrr) T.cl_Record T.na_Record_diaries (rf_d _ _) ?_
  refine i_enum (sqT_t g2.tups hbs) ?_
  refine for_it (walk_enumT (xs := bs.map V.ref)) (fun i σ H' => ∃ u2 u3 u4, σ = [some (.ref r), some (.ref R), u2, u3, u4, none] ∧ G none H H' ∧ H' R = some (.lst (ls.map V.ref)) ∧ ILs H' ls (fun p => holdN ds p i)) ⟨_, _, _, rfl, g2, h2R, ils0⟩ (fun i σ H' _ ⟨_, _, _, _, q, _⟩ => sqT_t q.tups hbs) ?_ ?_
  · rintro i v σ H3 H4 hi ⟨u2, u3, u4, rfl, g3, h3R, ils3⟩ ⟨t, y, z, rfl, ht, rfl, ey, ez⟩
    cases Option.some.inj ey
    rw [List.length_map] at hi
    have g4 : G none H3 (upd H3 t (.tup [.int (i : Nat), z])) := G.alloc ht
    refine ⟨t, _, rfl, SqT.of upd_same, rfl, ?_⟩
    refine ⟨_, _, rfl, ?_⟩
    walk_at "ws"
    refine ⟨_, _, rfl, ?_⟩
    walk_at "ws"
    refine ⟨rfl, ?_⟩
    generalize upd H3 t (.tup [.int (i : Nat), z]) = H4 at g4 ⊢
    have g04 := g3.trans g4
    obtain ⟨b, d, rfl, hbi, hdi, hf⟩ := Dia.at_ (p := dp) lb hb ez
    have dm := List.mem_of_getElem? hdi
    have nd_d := rec.nd d dm
    have hd4 : SqT K H4 b (d.map V.int) := (hf.n g04).sq
    walk_at "ws"
    refine i_tup hd4 ?_
    refine for_it (walk_tup (xs := d.map V.int)) (fun j σ H' => ∃ u4, σ = [some (.ref r), some (.ref R), some (.int (i : Nat)), some (.ref b), u4, none] ∧ Ts H4 H' ∧ G none H H' ∧ H' R = some (.lst (ls.map V.ref)) ∧ ILs H' ls (fun p => holdN ds p i ++ if (p : Int) ∈ d.take j then [(i : Int)] else [])) ⟨_, rfl, (fun _ _ h => h), g04, g4.all _ _ h3R, by simpa using ils3.n g4⟩ (fun j σ H' _ ⟨_, _, q, _⟩ => sqT_t q hd4) ?_ ?_
    · rintro j v σ _ H5 hj ⟨w4, rfl, g5, g05, h5R, ils5⟩ ⟨rfl, hv⟩
      rw [List.getElem?_map] at hv
      obtain ⟨z, hz, rfl⟩ := Option.map_eq_some_iff.mp hv
      have tkj : d.take (j + 1) = d.take j ++ [z] := by rw [List.take_add_one, hz]; rfl
      have zr := rec.rng d dm z (List.mem_of_getElem? hz)
      obtain ⟨l, hl⟩ : ∃ l, ls[z.toNat]? = some l := ⟨_, List.getElem?_eq_getElem (by omega)⟩
      have lm' := List.mem_of_getElem? hl
      have h5l := ils5 _ _ hl
      walk_at "ws"
      refine r_ixL (SqL.of h5R) (v := .ref l) (at_of (j := z.toNat) (by omega) (by rw [List.getElem?_map, hl]; rfl)) ?_
      refine ⟨.inl ⟨rfl, _, SqL.of h5l⟩, ?_⟩
      walk_at "ws"
      have lh := holdN_len ds z.toNat i
      have nz : z ∉ d.take j := fun mm => by
        obtain ⟨j', hj', e⟩ := List.getElem_of_mem mm
        rw [List.length_take] at hj'
        rw [List.getElem_take] at e
        have e2 := (List.getElem?_eq_some_iff.mp hz)
        have := nd_at nd_d (by omega) e2.1 (e.trans e2.2.symm)
        omega
      have ezz : ((z.toNat : Nat) : Int) = z := by omega
      have ex : (holdN ds z.toNat i ++ if ((z.toNat : Nat) : Int) ∈ d.take j then [(i : Int)] else []) = holdN ds z.toNat i := by rw [ezz, if_neg nz, List.append_nil]
      have h5l : H5 l = some (.lst ((holdN ds z.toNat i).map V.int)) := by
        have q : H5 l = some (.lst ((holdN ds z.toNat i ++ if ((z.toNat : Nat) : Int) ∈ d.take j then [(i : Int)] else []).map V.int)) := h5l
        rw [ex] at q; exact q
      have ilsP : ILs (upd H5 l (.lst ((holdN ds z.toNat i).map V.int ++ [.int (i : Nat)]))) ls (fun q => (holdN ds q i ++ if (q : Int) ∈ d.take j then [(i : Int)] else []) ++ if q = z.toNat then [(i : Int)] else []) := by
        have q : ILs (upd H5 l (.lst ((holdN ds z.toNat i ++ if ((z.toNat : Nat) : Int) ∈ d.take j then [(i : Int)] else []).map V.int ++ [.int (i : Nat)]))) ls (fun q => (holdN ds q i ++ if (q : Int) ∈ d.take j then [(i : Int)] else []) ++ if q = z.toNat then [(i : Int)] else []) := ILs.put ils5 nd hl (i : Int)
        rw [ex] at q; exact q
      refine r_app h5l (by rw [List.length_map]; omega) ?_
      walk_at "ws"
      have nRl : R ≠ l := fun e => nR (e ▸ lm')
      refine ⟨_, rfl, ?_, g05.mut (hl0 l lm') (fun _ e => nomatch e), by rw [upd_ne nRl]; exact h5R, fun p l' e => ?_⟩
      · exact g5.trans (Ts.updl h5l)
      · have ef : ((holdN ds p i ++ if (p : Int) ∈ d.take j then [(i : Int)] else []) ++ if p = z.toNat then [(i : Int)] else []) = holdN ds p i ++ if (p : Int) ∈ d.take (j + 1) then [(i : Int)] else [] := by
          rw [tkj]
          by_cases c : p = z.toNat
          · have c1 : (p : Int) = z := by omega
            rw [if_pos c, c1, if_neg nz, if_pos (by simp), List.append_nil]
          · have c1 : ¬ (p : Int) = z := by omega
            rw [if_neg c, List.append_nil]
            by_cases c2 : (p : Int) ∈ d.take j
            · rw [if_pos c2, if_pos (List.mem_append_left _ c2)]
            · rw [if_neg c2, if_neg (by simp [c2, c1])]
        have q := ilsP p l' e
        exact q.trans (congrArg (fun w : List Int => some (HO.lst (w.map V.int))) ef)
    · rintro σ H5 ⟨w4, rfl, g5, g05, h5R, ils5⟩
      rw [List.length_map, List.take_length] at ils5
      refine ⟨_, _, _, rfl, g05, h5R, fun p l e => ?_⟩
      have q := ils5 p l e
      dsimp only at q ⊢
      rw [q, holdN_succ, dAt_of hdi]
  · rintro σ H3 ⟨u2, u3, u4, rfl, g3, h3R, ils3⟩
    rw [List.length_map, lb] at ils3
    walk_at "ws"
    exact k R ls H3 hR g3 h3R ll ils3

end
end Mine
/-! ## K23 -/


namespace Mine
section
variable {P : Program} {w : World} {K : PySem.W.Frag} {mg : Str → Option Value} {base : Heap} {a : Ads}

/-! ### a bar -/
def sp_check_machines (K : PySem.W.Frag) (C : Addr) : Sp := fun vs H Q _ => ∃ (x : Addr) (ws : List Int) (ds : List (List Int)), vs = [.int (ds.length : Nat), .ref x] ∧ RecAt K C H x ws ds ∧ Q .non H
theorem ok_check_machines (T : Txt K mg a) : FnOk P w K mg base CX0 4 a.f_check_machines a.d_check_machines P_check_machines (sp_check_machines K a.c_Record) := by
  refine T.F_check_machines.ok sc_check_machines (fun vs H Q E h => by obtain ⟨x, ws, ds, rfl, _⟩ := h; rfl) (fun cdv A outer s H vs Q E hr h => ?_)
  obtain ⟨x, ws, ds, rfl, ⟨dx, wp, dp, hxi, hw, bs, hbs, lb, hb⟩, k⟩ := h
  refine ⟨_, (pss_one (ps_if (pt_cmpR op_ne (pv 0) (pe_callB call_len_seq (by rfl) T.n_len (by decide +kernel) (pa_cons (pe_fld (pv 1) rfl) pa_nil)) (nomark _))
    pss_never
    pss_nil)), ?_⟩
  walk_at "ws"
  refine r_fld hxi T.cl_Record T.na_Record_diaries (rf_d _ _) ?_
  refine ⟨dp, _, rfl, .inr hbs, ?_⟩
  walk_at "ws"
  rw [List.length_map, lb]
  refine w_ite (fun e => ?_) (fun e => ?_)
  · exact absurd e (by simp)
  · walk_at "ws"
    exact k

end
end Mine
/-! ## K24 -/


namespace Mine
section
variable {P : Program} {w : World} {K : PySem.W.Frag} {mg : Str → Option Value} {base : Heap} {a : Ads}

def FullAt (W : List (Int × Int)) (ws : List Int) (ds : List (List Int)) (p : Nat) : Prop := ∀ w, ws[p]? = some w → ∀ z ∈ hold ds p, Reach (growL W ds p) w z
theorem dAt_lt {ds : List (List Int)} {x : Nat} {p : Int} (h : p ∈ dAt ds x) : x < ds.length := by
  rcases Nat.lt_or_ge x ds.length with c | c
  · exact c
  · have e : dAt ds x = [] := by
      unfold dAt
      rw [List.getD_eq_getElem?_getD, List.getElem?_eq_none c]; rfl
    rw [e] at h; nomatch h
theorem full_iff {W : List (Int × Int)} {ws : List Int} {ds : List (List Int)} : Full W ws ds ↔ ∀ p, FullAt W ws ds p := by
  constructor
  · intro f p w hw z hz
    obtain ⟨x, rfl, hx, hp⟩ := hold_mem.mp hz
    exact f p w x hw hp
  · intro f p w x hw hp
    exact f p w hw x (hold_mem.mpr ⟨x, rfl, dAt_lt hp, hp⟩)
theorem reach_hold {W : List (Int × Int)} {ds : List (List Int)} {p : Nat} (hW : ∀ u ∈ W, 0 ≤ u.2 ∧ u.2 < (ds.length : Int)) {w z : Int} (h : w ∈ hold ds p) (r : Reach (growL W ds p) w z) : z ∈ hold ds p := by
  induction r with
  | refl => exact h
  | @step y z _ e _ =>
    obtain ⟨eW, eg⟩ := List.mem_filter.mp e
    have eg : Grow ds y.toNat z.toNat p := of_decide_eq_true eg
    have q : 0 ≤ z ∧ z < (ds.length : Int) := hW _ eW
    exact hold_mem.mpr ⟨z.toNat, by omega, by omega, eg.2.1⟩
theorem lens_sub {ks hs : List Int} (nk : ks.Nodup) (nh : hs.Nodup) (sub : ∀ z ∈ ks, z ∈ hs) : hs.length ≤ ks.length ↔ ∀ z ∈ hs, z ∈ ks := by
  constructor
  · intro h z hz
    rcases Classical.em (z ∈ ks) with c | c
    · exact c
    · have := List.Nodup.length_le_of_subset (l₁ := z :: ks) (l₂ := hs) (List.nodup_cons.mpr ⟨c, nk⟩) fun y hy => by
        rcases List.mem_cons.mp hy with e | e
        · rw [e]; exact hz
        · exact sub y e
      rw [List.length_cons] at this
      omega
  · intro h
    exact List.Nodup.length_le_of_subset nh h
theorem growL_bd {m : Int} {W : List (Int × Int)} (web : IsWeb m W) (ds : List (List Int)) (p : Int) : ∀ u ∈ growL W ds p, (0 ≤ u.1 ∧ u.1 < m) ∧ (0 ≤ u.2 ∧ u.2 < m) := fun u hu => by
  have := web.mem u (List.mem_filter.mp hu).1
  exact ⟨this.1, this.2.1⟩
theorem growL_len (W : List (Int × Int)) (ds : List (List Int)) (p : Int) : (growL W ds p).length ≤ W.length := List.length_filter_le _ _
theorem own_hold {ws : List Int} {ds : List (List Int)} (rec : IsRec ws ds) {p : Nat} {w : Int} (hw : ws[p]? = some w) : w ∈ hold ds p := by
  have q := rec.wr w (List.mem_of_getElem? hw)
  obtain ⟨d, hd⟩ : ∃ d, ds[w.toNat]? = some d := ⟨_, List.getElem?_eq_getElem (by omega)⟩
  exact hold_mem.mpr ⟨w.toNat, by omega, by omega, by rw [dAt_of hd]; exact rec.own p w d hw hd⟩
theorem w_ienum {K : PySem.W.Frag} {ta : TA} {σ : L2.St} {H : Hp} {R : It → Hp → Prop} (q : ta σ H fun vs H1 => ∃ a xs, vs = [.ref a] ∧ SqL K H1 a xs ∧ R (Ite K a) H1) : iEnum K ta σ H R := q
def sp_bar (K : PySem.W.Frag) (CW CR : Addr) : Sp := fun vs H Q _ => ∃ (x r : Addr) (m : Int) (W : List (Int × Int)) (ws : List Int) (ds : List (List Int)), vs = [.ref x, .ref r] ∧ WebAt K CW H x m W ∧ IsWeb m W ∧ RecAt K CR H r ws ds ∧ IsRec ws ds ∧ ds.length = m.toNat ∧
  (Full W ws ds → ∀ H', G none H H' → Q .non H') ∧ (¬ Full W ws ds → ∀ (t : Addr) (xs : List V) H', G none H H' → H' t = some (.tup xs) → Q (.ref t) H')
theorem ok_bar (T : Txt K mg a) : FnOk P w K mg base CX0 5 a.f_bar a.d_bar P_bar (sp_bar K a.c_Web a.c_Record) := by
  refine T.F_bar.ok sc_bar (fun vs H Q E h => by obtain ⟨x, r, m, W, ws, ds, rfl, _⟩ := h; rfl) (fun cdv A outer s H vs Q E hr h => ?_)
  obtain ⟨x, r, m, W, ws, ds, rfl, hwb, web, hrr, rec, lm, kY, kN⟩ := h
  have m1 := web.lo
  have m7 := web.hi
  have lW : W.length ≤ 49 := isweb_len49 web
  have p30 := rec.p30
  have G_check_machines : FnOk P w K mg base CX0 4 a.f_check_machines a.d_check_machines P_check_machines (sp_check_machines K a.c_Record) := ok_check_machines T
  have G_wires_by_put : FnOk P w K mg base CX0 2 a.f_wires_by_put a.d_wires_by_put P_wires_by_put (sp_wires_by_put K a.c_Web a.c_Record) := ok_wires_by_put T
  have G_holders_by_put : FnOk P w K mg base CX0 1 a.f_holders_by_put a.d_holders_by_put P_holders_by_put (sp_holders_by_put K a.c_Record) := ok_holders_by_put T
  have G_ways_from : FnOk P w K mg base CX0 1 a.f_ways_from a.d_ways_from P_ways_from (sp_ways_from K) := ok_ways_from T
  refine ⟨_, (pss_cons (ps_expr (pe_call (G_check_machines) (hr.mono (by omega)) rfl T.m_check_machines T.F_check_machines.kp T.b_check_machines .nil pass0 (pa_cons (pe_fld (pv 0) rfl) (pa_cons (pv 1) pa_nil))))
  (pss_cons (ps_set (i := 2) sc_bar.nd rfl (Or.inl rfl) (pe_call (G_wires_by_put) (hr.mono (by omega)) rfl T.m_wires_by_put T.F_wires_by_put.kp T.b_wires_by_put .nil pass0 (pa_cons (pv 0) (pa_cons (pv 1) pa_nil))))
  (pss_cons (ps_for PassesOwn.never rfl (pi_enum (by rfl) T.n_enumerate (pa_cons (pe_call (G_holders_by_put) (hr.mono (by omega)) rfl T.m_holders_by_put T.F_holders_by_put.kp T.b_holders_by_put .nil pass0 (pa_cons (pv 1) pa_nil)) pa_nil)) (pg_tup rfl (pgs_cons (pg_name (i := 3) sc_bar.nd rfl (Or.inl rfl)) (pgs_cons (pg_name (i := 4) sc_bar.nd rfl (Or.inl rfl)) pgs_nil)))
    (pss_cons (ps_set (i := 5) sc_bar.nd rfl (Or.inr rfl) (pe_call (G_ways_from) (hr.mono (by omega)) rfl T.m_ways_from T.F_ways_from.kp T.b_ways_from .nil pass0 (pa_cons (pe_ix ix_tup (pe_fld (pv 1) rfl) (pv 3) (fun _ _ => rfl)) (pa_cons (pe_ix ix_list (pv 2) (pv 3) (fun _ _ => rfl)) pa_nil))))
  (pss_one (ps_if (pt_cmpR op_lt (pe_callB call_lenD (by rfl) T.n_len (by decide +kernel) (pa_cons (pv 5) pa_nil)) (pe_callB call_len_seq (by rfl) T.n_len (by decide +kernel) (pa_cons (pv 4) pa_nil)) (nomark _))
    (pss_one (ps_ret (pe_tupN (pa_cons (pv 3) (pa_cons (pe_callTy call_tupleN (by rfl) T.n_tuple (by decide +kernel) (pa_cons (pe_lc (own := [("machine", 6)]) (g := (gName 6)) rfl sc_bar.nd (pi_list (pv 4)) (blkOk_by (N := N_bar) (sc := defScope s_bar) (by decide +kernel)) (fun _ _ _ _ _ => (pg_name (i := 6) sc_bar.nd rfl (by first | exact Or.inl rfl | exact Or.inr rfl))) (fun _ _ _ _ _ => (pts_one (pt_cmp (pc_dnotin (hu_of hr) (pv 6) (pv 5))))) (fun _ _ _ _ _ => (pv 6))) pa_nil)) pa_nil)))))
    pss_nil))))
  (pss_one (ps_ret pe_non))))), ?_⟩
  walk_at "ws"
  obtain ⟨dx, wa, hx, hwa⟩ := id hwb
  refine r_fld hx T.cl_Web T.na_Web_machines (wf_m _ _) ?_
  walk_at "ws"
  refine ⟨r, ws, ds, by rw [show m = (ds.length : Int) from by omega]; rfl, hrr, ?_⟩
  walk_at "ws"
  refine ⟨x, r, m, W, ws, ds, rfl, hwb, web, hrr, rec, lm, fun R ls H1 hR g1 h1 ll pls => ?_⟩
  walk_at "ws"
  refine w_ienum ?_
  walk_at "ws"
  refine ⟨r, ws, ds, rfl, hrr.n g1, rec, fun R2 ls2 H2 hR2 g2 h2 ll2 ils => ?_⟩
  walk_at "ws"
  refine ⟨R2, _, rfl, SqL.of h2, ?_⟩
  have g02 := g1.trans g2
  have h2R := g2.all _ _ h1
  have pls2 := pls.n g2
  obtain ⟨dr, wp, dp, hrr2, hwp2, _⟩ := hrr.n g02
  refine for_it (walk_enum (xs := ls2.map V.ref)) (fun i σ H' => ∃ u3 u4 u5, σ = [some (.ref x), some (.ref r), some (.ref R), u3, u4, u5, none] ∧ G none H2 H' ∧ ∀ p, p < i → FullAt W ws ds p) ⟨_, _, _, rfl, G.refl, fun _ h => absurd h (Nat.not_lt_zero _)⟩ (fun i σ H' _ ⟨_, _, _, _, q, _⟩ => sqL_n q (SqL.of h2)) ?_ ?_
  · rintro i v σ H3 H4 hi ⟨u3, u4, u5, rfl, g3, full⟩ ⟨t, y, z, rfl, ht, rfl, ey, ez⟩
    cases Option.some.inj ey
    rw [List.length_map] at hi
    have g4 : G none H3 (upd H3 t (.tup [.int (i : Nat), z])) := G.alloc ht
    refine ⟨t, _, rfl, SqT.of upd_same, rfl, ?_⟩
    refine ⟨_, _, rfl, ?_⟩
    walk_at "ws"
    refine ⟨_, _, rfl, ?_⟩
    walk_at "ws"
    refine ⟨rfl, ?_⟩
    generalize upd H3 t (.tup [.int (i : Nat), z]) = H4 at g4 ⊢
    have g24 := g3.trans g4
    have ez : (ls2.map V.ref)[i]? = some z := ez
    rw [List.getElem?_map] at ez
    obtain ⟨l2, hl2, rfl⟩ := Option.map_eq_some_iff.mp ez
    obtain ⟨l, hl⟩ : ∃ l, ls[i]? = some l := ⟨_, List.getElem?_eq_getElem (by omega)⟩
    obtain ⟨w0, hw0⟩ : ∃ w0, ws[i]? = some w0 := ⟨_, List.getElem?_eq_getElem (by omega)⟩
    obtain ⟨xs, a1, a2⟩ := pls2.n g24 i l hl
    have hh := ils.n g24 i l2 hl2
    have w0r := rec.wr w0 (List.mem_of_getElem? hw0)
    walk_at "ws"
    refine r_fld (g24.all _ _ hrr2) T.cl_Record T.na_Record_writers (rf_w _ _) ?_
    walk_at "ws"
    refine r_ixT (sqT_t g24.tups hwp2) (v := .int w0) (at_of (j := i) rfl (by rw [List.getElem?_map, hw0]; rfl)) ?_
    walk_at "ws"
    refine r_ixL (SqL.of (g24.all _ _ h2R)) (v := .ref l) (at_of (j := i) rfl (by rw [List.getElem?_map, hl]; rfl)) ?_
    walk_at "ws"
    have gl := growL_len W ds (i : Nat)
    refine ⟨w0, m, l, xs, growL W ds (i : Nat), rfl, SqL.of a1, a2, growL_bd web ds _, by omega, by omega, by omega, fun f kvs ks H5 hf g5 h5 ek nk rk mem => ?_⟩
    walk_at "ws"
    refine ⟨f, kvs, rfl, h5, ?_⟩
    walk_at "ws"
    have hh5 := g5.all _ _ hh
    refine ⟨l2, _, rfl, .inl (SqL.of hh5), ?_⟩
    walk_at "ws"
    have lk : kvs.length = ks.length := by
      have := congrArg List.length ek
      rw [List.length_map, List.length_map] at this
      exact this
    have hW : ∀ u ∈ W, 0 ≤ u.2 ∧ u.2 < (ds.length : Int) := fun u hu => by
      have := web.mem u hu
      omega
    have lens := lens_sub nk (hold_nd ds i) fun z hz => reach_hold hW (own_hold rec hw0) ((mem z).mp hz)
    rw [lk, List.length_map]
    refine w_ite (fun e => ?_) (fun e => ?_)
    · have e : ((ks.length : Nat) : Int) < ((hold ds i).length : Nat) := of_decide_eq_true e
      have nF : ¬ Full W ws ds := fun F => by
        have := lens.mpr fun z hz => (mem z).mpr (full_iff.mp F i w0 hw0 z hz)
        omega
      walk_at "ws"
      refine i_list (SqL.of hh5) ?_
      intro D hD
      refine lc_it (walk_list (xs := (hold ds i).map V.int)) (fun j H' => ∃ vs : List V, G none H5 H' ∧ H' D = some (.lst vs) ∧ vs.length ≤ j) ⟨[], (G.refl).mut hD (fun _ e => nomatch e), upd_same, Nat.le_refl _⟩ (fun j H' _ ⟨_, q, _⟩ => sqL_n q (SqL.of hh5)) ?_ ?_
      · rintro j v _ H6 hj ⟨vs, g6, h6, lv⟩ ⟨rfl, hv⟩
        rw [List.length_map] at hj
        have hl7 : (hold ds i).length ≤ ds.length := holdN_len ds i ds.length
        have m7' := rec.m7
        rw [List.getElem?_map] at hv
        obtain ⟨z, hz, rfl⟩ := Option.map_eq_some_iff.mp hv
        walk_at "ws"
        refine ⟨rfl, ?_⟩
        walk_at "ws"
        show tVar 6 _ _ _
        walk_at "ws"
        refine ⟨f, _, rfl, DGet.k (k := Sum.inl z) (g6.all _ _ h5), ?_⟩
        refine ⟨_, rfl, ?_⟩
        refine w_ite (fun e => ?_) (fun e => ?_)
        · walk_at "ws"
          exact ⟨vs, h6, Nat.lt_of_le_of_lt (by omega : vs.length ≤ 100000) (by decide), vs ++ [.int z], g6.mut hD (fun _ e => nomatch e), upd_same, by rw [List.length_append, List.length_singleton]; omega⟩
        · exact ⟨vs, g6, h6, by omega⟩
      rintro H6 ⟨vs, g6, h6, lv⟩
      walk_at "ws"
      refine ⟨D, vs, rfl, .inl ⟨SqL.of h6, fun t1 H7 ht1 g7 h7 => ?_⟩⟩
      walk_at "ws"
      refine ⟨sz (by simp), fun t2 H8 ht2 g8 h8 => ?_⟩
      walk_at "ws"
      exact kN nF t2 _ H8 (((((g02.trans g24).trans g5).trans g6).trans (g7 none)).trans (g8 none)) h8
    · have e : ¬ ((ks.length : Nat) : Int) < ((hold ds i).length : Nat) := of_decide_eq_false e
      walk_at "ws"
      refine ⟨_, _, _, rfl, g24.trans g5, fun p hp => ?_⟩
      rcases Nat.lt_or_ge p i with c | c
      · exact full p c
      · obtain rfl : p = i := by omega
        intro w hw z hz
        rw [hw0] at hw
        cases hw
        exact (mem z).mp (lens.mp (by omega) z hz)
  · rintro σ H3 ⟨u3, u4, u5, rfl, g3, full⟩
    rw [List.length_map] at full
    walk_at "ws"
    refine kY (full_iff.mpr fun p => ?_) _ (g02.trans g3)
    rcases Nat.lt_or_ge p ls2.length with c | c
    · exact full p c
    · intro w hw
      rw [List.getElem?_eq_none (by omega)] at hw
      nomatch hw
def sp_is_made (K : PySem.W.Frag) (CW CR : Addr) : Sp := fun vs H Q _ => ∃ (x r : Addr) (m : Int) (W : List (Int × Int)) (ws : List Int) (ds : List (List Int)), vs = [.ref x, .ref r] ∧ WebAt K CW H x m W ∧ IsWeb m W ∧ RecAt K CR H r ws ds ∧ IsRec ws ds ∧ ds.length = m.toNat ∧
  ∀ (b : Bool) H', G none H H' → (b = true ↔ Full W ws ds) → Q (.bl b) H'
theorem ok_is_made (T : Txt K mg a) : FnOk P w K mg base CX0 6 a.f_is_made a.d_is_made P_is_made (sp_is_made K a.c_Web a.c_Record) := by
  refine T.F_is_made.ok sc_is_made (fun vs H Q E h => by obtain ⟨x, r, m, W, ws, ds, rfl, _⟩ := h; rfl) (fun cdv A outer s H vs Q E hr h => ?_)
  obtain ⟨x, r, m, W, ws, ds, rfl, hwb, web, hrr, rec, lm, k⟩ := h
  have G_bar : FnOk P w K mg base CX0 5 a.f_bar a.d_bar P_bar (sp_bar K a.c_Web a.c_Record) := ok_bar T
  refine ⟨_, (pss_one (ps_ret (pe_cmp (pc_isN (pe_call (G_bar) (hr.mono (by omega)) rfl T.m_bar T.F_bar.kp T.b_bar .nil pass0 (pa_cons (pv 0) (pa_cons (pv 1) pa_nil))))))), ?_⟩
  walk_at "ws"
  refine ⟨x, r, m, W, ws, ds, rfl, hwb, web, hrr, rec, lm, fun F H1 g1 => ?_, fun F t xs H1 g1 h1 => ?_⟩
  · walk_at "ws"
    exact k true H1 g1 (by simp [F])
  · walk_at "ws"
    exact k false H1 g1 (by simp [F])

end
end Mine
/-! ## K25 -/


namespace Mine
section
variable {P : Program} {w : World} {K : PySem.W.Frag} {mg : Str → Option Value} {base : Heap} {a : Ads}

/-! ### who may have put -/
theorem okd_web {m : Int} {ds : List (List Int)} (h1 : 1 ≤ m) (h : ds.length = m.toNat) : m = (ds.length : Int) := by omega
def sp_check_made (K : PySem.W.Frag) (CW CR CN : Addr) : Sp := fun vs H Q E => ∃ (x r : Addr) (m : Int) (W : List (Int × Int)) (ws : List Int) (ds : List (List Int)), vs = [.ref x, .ref r] ∧ WebAt K CW H x m W ∧ IsWeb m W ∧ RecAt K CR H r ws ds ∧ IsRec ws ds ∧ ds.length = m.toNat ∧
  (Full W ws ds → ∀ H', G none H H' → Q .non H') ∧ (¬ Full W ws ds → ∀ H', G none H H' → E (.ref CN) none H')
theorem ok_check_made (T : Txt K mg a) : FnOk P w K mg base (L2.CX P w) 7 a.f_check_made a.d_check_made P_check_made (sp_check_made K a.c_Web a.c_Record a.c_NotMade) := by
  refine T.F_check_made.okX sc_check_made (fun vs H Q E h => by obtain ⟨x, r, m, W, ws, ds, rfl, _⟩ := h; rfl) (fun cdv A outer s H vs Q E hr h => ?_)
  obtain ⟨x, r, m, W, ws, ds, rfl, hwb, web, hrr, rec, lm, kY, kN⟩ := h
  have G_is_made : FnOk P w K mg base CX0 6 a.f_is_made a.d_is_made P_is_made (sp_is_made K a.c_Web a.c_Record) := ok_is_made T
  refine ⟨_, (pss_one (ps_if (pt_not (pt_val (pe_call (G_is_made) (hr.mono (by omega)) rfl T.m_is_made T.F_is_made.kp T.b_is_made .nil pass0 (pa_cons (pv 0) (pa_cons (pv 1) pa_nil)))))
    (pss_one (ps_raise rfl (takes_of rfl rfl rfl rfl) (pmk_nm (k := 0) T.nx (hr.mono (by omega)) rfl T.m_NotMade)))
    pss_nil)), ?_⟩
  walk_at "ws"
  refine ⟨x, r, m, W, ws, ds, rfl, hwb, web, hrr, rec, lm, fun b H1 g1 hb => ?_⟩
  walk_at "ws"
  cases b with
  | true =>
    walk_at "ws"
    exact kY (hb.mp rfl) _ g1
  | false =>
    walk_at "ws"
    exact kN (fun F => nomatch hb.mpr F) _ g1

end
end Mine
/-! ## K26 -/


namespace Mine
section
variable {P : Program} {w : World} {K : PySem.W.Frag} {mg : Str → Option Value} {base : Heap} {a : Ads}

/-! ### the letter that comes -/
theorem come_drop {own : List Int} {p : Int} : ∀ (i : Nat) {ls : List Int}, (∀ j, j < i → ∀ l, ls[j]? = some l → l ≠ p ∧ l ∈ own) → come own p ls = if come own p (ls.drop i) = 0 then 0 else come own p (ls.drop i) + i
  | 0, ls, _ => by
    rw [List.drop_zero]
    split <;> omega
  | i + 1, [], _ => by simp [come]
  | i + 1, l :: ls, h => by
    have h0 := h 0 (by omega) l rfl
    have ih := come_drop i (ls := ls) fun j hj l' hl' => h (j + 1) (by omega) l' (by simpa using hl')
    have e : come own p (l :: ls) = if come own p ls = 0 then 0 else come own p ls + 1 := by
      rw [come, if_neg h0.1, if_pos h0.2]
    rw [e, ih, List.drop_succ_cons]
    split
    · rfl
    · rename_i c
      rw [if_neg (by omega)]; omega
def sp__law_come (K : PySem.W.Frag) : Sp := fun vs H Q _ => ∃ (pl po : Addr) (ls own : List Int) (p : Int), vs = [.ref pl, .ref po, .int p] ∧ SqL K H pl (ls.map V.int) ∧ SqL K H po (own.map V.int) ∧ ∀ H', G none H H' → Q (.int (come own p ls : Nat)) H'
theorem ok__law_come (T : Txt K mg a) : FnOk P w K mg base CX0 1 a.f__law_come a.d__law_come P__law_come (sp__law_come K) := by
  refine T.F__law_come.ok sc__law_come (fun vs H Q E h => by obtain ⟨pl, po, ls, own, p, rfl, _⟩ := h; rfl) (fun cdv A outer s H vs Q E hr h => ?_)
  obtain ⟨pl, po, ls, own, p, rfl, hl, ho, k⟩ := h
  refine ⟨_, (pss_cons (ps_for PassesOwn.never rfl (pi_enum (by rfl) T.n_enumerate (pa_cons (pv 0) pa_nil)) (pg_tup rfl (pgs_cons (pg_name (i := 3) sc__law_come.nd rfl (Or.inl rfl)) (pgs_cons (pg_name (i := 4) sc__law_come.nd rfl (Or.inl rfl)) pgs_nil)))
    (pss_cons (ps_if (pt_cmpR op_eq (pv 4) (pv 2) (nomark _))
    (pss_one (ps_ret (pe_op op_add (pv 3) pe_int)))
    pss_nil)
  (pss_one (ps_if (pt_cmpR op_notIn_seq (pv 4) (pv 1) (by rfl))
    (pss_one (ps_ret pe_int))
    pss_nil))))
  (pss_one (ps_ret pe_int))), ?_⟩
  walk_at "ws"
  refine w_ienum ?_
  walk_at "ws"
  refine ⟨pl, _, rfl, hl, ?_⟩
  refine for_it (walk_enum (xs := ls.map V.int)) (fun i σ H' => ∃ u3 u4, σ = [some (.ref pl), some (.ref po), some (.int p), u3, u4] ∧ G none H H' ∧ ∀ j, j < i → ∀ l, ls[j]? = some l → l ≠ p ∧ l ∈ own) ⟨_, _, rfl, G.refl, fun _ h => absurd h (Nat.not_lt_zero _)⟩ (fun i σ H' _ ⟨_, _, _, q, _⟩ => sqL_n q hl) ?_ ?_
  · rintro i v σ H3 H4 hi ⟨u3, u4, rfl, g3, low⟩ ⟨t, y, z, rfl, ht, rfl, ey, ez⟩
    cases Option.some.inj ey
    rw [List.length_map] at hi
    have g4 : G none H3 (upd H3 t (.tup [.int (i : Nat), z])) := G.alloc ht
    refine ⟨t, _, rfl, SqT.of upd_same, rfl, ?_⟩
    refine ⟨_, _, rfl, ?_⟩
    walk_at "ws"
    refine ⟨_, _, rfl, ?_⟩
    walk_at "ws"
    refine ⟨rfl, ?_⟩
    generalize upd H3 t (.tup [.int (i : Nat), z]) = H4 at g4 ⊢
    have g04 := g3.trans g4
    have ez : (ls.map V.int)[i]? = some z := ez
    rw [List.getElem?_map] at ez
    obtain ⟨l, hli, rfl⟩ := Option.map_eq_some_iff.mp ez
    have dr : ls.drop i = l :: ls.drop (i + 1) := by
      rw [List.drop_eq_getElem_cons hi]
      rw [List.getElem?_eq_getElem hi] at hli
      rw [Option.some.inj hli]
    walk_at "ws"
    refine w_ite (fun e => ?_) (fun e => ?_)
    · have e : l = p := of_decide_eq_true e
      walk_at "ws"
      have q := come_drop i low
      have c1 : come own p (ls.drop i) = 1 := by rw [dr, come, if_pos e]
      rw [c1, if_neg (by decide)] at q
      have e2 : ((i : Nat) : Int) + 1 = ((come own p ls : Nat) : Int) := by omega
      rw [e2]
      exact k H4 g04
    · have e : ¬ l = p := of_decide_eq_false e
      walk_at "ws"
      refine ⟨po, _, rfl, .inl (sqL_n g04 ho), rfl, by rw [List.all_map, List.all_eq_true]; intro q _; rfl, ?_⟩
      rw [inV_ints]
      walk_at "ws"
      refine w_ite (fun e2 => ?_) (fun e2 => ?_)
      · have e2 : l ∉ own := by simpa using e2
        walk_at "ws"
        have q := come_drop i low
        have c1 : come own p (ls.drop i) = 0 := by rw [dr, come, if_neg e, if_neg e2]
        rw [c1, if_pos rfl] at q
        have := k H4 g04
        rw [q] at this
        exact this
      · have e2 : l ∈ own := by simpa using e2
        walk_at "ws"
        refine ⟨_, _, rfl, g04, fun j hj l' hl' => ?_⟩
        rcases Nat.lt_or_ge j i with c | c
        · exact low j c l' hl'
        · obtain rfl : j = i := by omega
          rw [hli] at hl'
          cases hl'
          exact ⟨e, e2⟩
  · rintro σ H3 ⟨u3, u4, rfl, g3, low⟩
    rw [List.length_map] at low
    walk_at "ws"
    have q := come_drop ls.length low
    rw [List.drop_length] at q
    have := k H3 g3
    rw [q] at this
    exact this

end
end Mine
/-! ## K27 -/


namespace Mine
section
variable {P : Program} {w : World} {K : PySem.W.Frag} {mg : Str → Option Value} {base : Heap} {a : Ads}

/-! ### the leading of letters: one step -/
def own_ (ds : List (List Int)) (n : Nat → Nat) (x : Nat) : List Int := (dAt ds x).take (n x)
abbrev uAt (W : List (Int × Int)) (j : Nat) : Int × Int := W.getD j (0, 0)
theorem uAt_of {W : List (Int × Int)} {j : Nat} {u : Int × Int} (h : W[j]? = some u) : uAt W j = u := by unfold uAt; rw [List.getD_eq_getElem?_getD, h]; rfl
def let_ (W : List (Int × Int)) (ds : List (List Int)) (n cs : Nat → Nat) (j : Nat) : List Int := (own_ ds n (uAt W j).1.toNat).drop (cs j)
def nUp (n : Nat → Nat) (x : Nat) : Nat → Nat := fun z => if z = x then n x + 1 else n z
def cUp (cs : Nat → Nat) (j k : Nat) : Nat → Nat := fun z => if z = j then cs j + k else cs z
structure Led (W : List (Int × Int)) (ws : List Int) (ds : List (List Int)) (n cs : Nat → Nat) : Prop where
  le : ∀ x, n x ≤ (dAt ds x).length
  came : Came W ws ds n
  c1 : ∀ j, j < W.length → cs j ≤ n (uAt W j).1.toNat
  c2 : ∀ j, j < W.length → ∀ q ∈ (own_ ds n (uAt W j).1.toNat).take (cs j), q ∈ own_ ds n (uAt W j).2.toNat
section
variable {W : List (Int × Int)} {ws : List Int} {ds : List (List Int)} {n cs : Nat → Nat}
theorem own_up_self {x : Nat} {p : Int} (hp : (dAt ds x)[n x]? = some p) : own_ ds (nUp n x) x = own_ ds n x ++ [p] := by
  unfold own_ nUp
  rw [if_pos rfl, List.take_add_one, hp]; rfl
theorem own_up_ne {x z : Nat} (h : z ≠ x) : own_ ds (nUp n x) z = own_ ds n z := by
  unfold own_ nUp
  rw [if_neg h]
theorem own_up_mem {x z : Nat} {p q : Int} (hp : (dAt ds x)[n x]? = some p) (h : q ∈ own_ ds n z) : q ∈ own_ ds (nUp n x) z := by
  by_cases c : z = x
  · subst c
    rw [own_up_self hp]; exact List.mem_append_left _ h
  · rw [own_up_ne c]; exact h
theorem own_len (h : ∀ x, n x ≤ (dAt ds x).length) (x : Nat) : (own_ ds n x).length = n x := by
  unfold own_
  rw [List.length_take]
  exact Nat.min_eq_left (h x)
theorem own_up_take {x z c : Nat} {p : Int} (hp : (dAt ds x)[n x]? = some p) (le : ∀ x, n x ≤ (dAt ds x).length) (hc : c ≤ n z) : (own_ ds (nUp n x) z).take c = (own_ ds n z).take c := by
  by_cases e : z = x
  · subst e
    rw [own_up_self hp, List.take_append_of_le_length]
    rw [own_len le]; exact hc
  · rw [own_up_ne e]
theorem let_up {x j : Nat} {p : Int} (L : Led W ws ds n cs) (hp : (dAt ds x)[n x]? = some p) (hj : j < W.length) : let_ W ds (nUp n x) cs j = let_ W ds n cs j ++ if (uAt W j).1.toNat = x then [p] else [] := by
  unfold let_
  by_cases c : (uAt W j).1.toNat = x
  · rw [if_pos c]
    have q := L.c1 j hj
    rw [c] at q ⊢
    rw [own_up_self hp, List.drop_append_of_le_length]
    rw [own_len L.le]; exact q
  · rw [if_neg c, own_up_ne c, List.append_nil]
theorem let_cut {j k : Nat} : let_ W ds n (cUp cs j k) j = (let_ W ds n cs j).drop k := by
  unfold let_ cUp
  rw [if_pos rfl, List.drop_drop]
theorem let_cut_ne {j k z : Nat} (h : z ≠ j) : let_ W ds n (cUp cs j k) z = let_ W ds n cs z := by
  unfold let_ cUp
  rw [if_neg h]
theorem Led.up {x : Nat} {p : Int} (L : Led W ws ds n cs) (hp : (dAt ds x)[n x]? = some p) (h : ws[p.toNat]? = some (x : Int) ∨ ∃ y : Nat, ((y : Int), (x : Int)) ∈ W ∧ Grow ds y x p ∧ p ∈ (dAt ds y).take (n y)) : Led W ws ds (nUp n x) cs := by
  have lt := (List.getElem?_eq_some_iff.mp hp).1
  have ge : ∀ z, n z ≤ nUp n x z := fun z => by
    unfold nUp
    split
    · rename_i e; rw [e]; exact Nat.le_succ _
    · exact Nat.le_refl _
  refine ⟨fun z => ?_, came_step L.came hp h, fun j hj => Nat.le_trans (L.c1 j hj) (ge _), fun j hj q hq => ?_⟩
  · unfold nUp
    split
    · rename_i e; rw [e]; exact lt
    · exact L.le z
  · rw [own_up_take hp L.le (L.c1 j hj)] at hq
    exact own_up_mem hp (L.c2 j hj q hq)
/-- a letter comes: what stands ahead of it is there already -/
theorem Led.cut {x j k : Nat} {p : Int} (L : Led W ws ds (nUp n x) cs) (Lo : Led W ws ds n cs) (hp : (dAt ds x)[n x]? = some p) (hj : j < W.length) (hx : (uAt W j).2.toNat = x) (hy : (uAt W j).1.toNat ≠ x) (hk : k = come (own_ ds n x) p (let_ W ds n cs j)) (k0 : k ≠ 0) : Led W ws ds (nUp n x) (cUp cs j k) := by
  obtain ⟨i, e, h1, h2⟩ := come_pos (hk ▸ k0)
  rw [← hk] at e
  have hl : i < (let_ W ds n cs j).length := (List.getElem?_eq_some_iff.mp h1).1
  have lo : (let_ W ds n cs j).length = n (uAt W j).1.toNat - cs j := by
    unfold let_
    rw [List.length_drop, own_len Lo.le]
  have ny : nUp n x (uAt W j).1.toNat = n (uAt W j).1.toNat := by unfold nUp; rw [if_neg hy]
  refine ⟨L.le, L.came, fun z hz => ?_, fun z hz q hq => ?_⟩
  · unfold cUp
    split
    · rename_i ez
      subst ez
      rw [ny]; omega
    · exact L.c1 z hz
  · unfold cUp at hq
    split at hq
    · rename_i ez
      subst ez
      rw [hx]
      rw [own_up_ne hy] at hq
      obtain ⟨t, ht, et⟩ := List.getElem_of_mem hq
      rw [List.length_take] at ht
      rw [List.getElem_take] at et
      by_cases c : t < cs z
      · have := Lo.c2 z hz q (by
          rw [List.mem_take_iff_getElem]
          exact ⟨t, by omega, et⟩)
        rw [hx] at this
        exact own_up_mem hp this
      · have g : (let_ W ds n cs z)[t - cs z]? = some q := by
          unfold let_
          rw [List.getElem?_drop, show cs z + (t - cs z) = t from by omega, List.getElem?_eq_getElem (by omega), et]
        rw [own_up_self hp]
        by_cases c3 : t - cs z = i
        · rw [c3, h1] at g
          cases g
          exact List.mem_append_right _ (List.mem_singleton.mpr rfl)
        · exact List.mem_append_left _ (h2 _ (by omega) q g)
    · exact L.c2 z hz q hq
theorem come_can {x : Nat} {p : Int} (r : Rec ws ds) (L : Led W ws ds n cs) (hp : (dAt ds x)[n x]? = some p) {j : Nat} (hj : j < W.length) (hx : (uAt W j).2.toNat = x) : come (own_ ds n x) p (let_ W ds n cs j) ≠ 0 ↔ (Grow ds (uAt W j).1.toNat x p ∧ p ∈ (dAt ds (uAt W j).1.toNat).take (n (uAt W j).1.toNat)) :=
  come_grow r hp fun q hq => by have := L.c2 j hj q hq; rw [hx] at this; exact this
theorem can_iff {x : Nat} {p : Int} (r : Rec ws ds) (wW : ∀ u ∈ W, 0 ≤ u.1 ∧ 0 ≤ u.2) (L : Led W ws ds n cs) (hp : (dAt ds x)[n x]? = some p) :
    Can W ws ds n x ↔ (ws[p.toNat]? = some (x : Int) ∨ ∃ j, j < W.length ∧ (uAt W j).2.toNat = x ∧ come (own_ ds n x) p (let_ W ds n cs j) ≠ 0) := by
  constructor
  · rintro ⟨q, hq, h⟩
    rw [hp] at hq
    cases hq
    rcases h with h | ⟨y, h1, h2, h3⟩
    · exact .inl h
    · obtain ⟨j, hj⟩ := List.getElem?_of_mem h1
      have lj := (List.getElem?_eq_some_iff.mp hj).1
      have hx : (uAt W j).2.toNat = x := by rw [uAt_of hj]; exact Int.toNat_natCast x
      refine .inr ⟨j, lj, hx, (come_can r L hp lj hx).mpr ?_⟩
      rw [uAt_of hj]
      show Grow ds (y : Int).toNat x p ∧ p ∈ (dAt ds (y : Int).toNat).take (n (y : Int).toNat)
      rw [Int.toNat_natCast]
      exact ⟨h2, h3⟩
  · rintro (h | ⟨j, lj, hx, h⟩)
    · exact ⟨p, hp, .inl h⟩
    · obtain ⟨h2, h3⟩ := (come_can r L hp lj hx).mp h
      refine ⟨p, hp, .inr ⟨(uAt W j).1.toNat, ?_, h2, h3⟩⟩
      have hm : uAt W j ∈ W := by rw [uAt_of (List.getElem?_eq_getElem lj)]; exact List.getElem_mem lj
      have q := wW _ hm
      have e : ((((uAt W j).1.toNat : Nat) : Int), (x : Int)) = uAt W j := Prod.ext (by simp only; omega) (by simp only; omega)
      rw [e]; exact hm
end
/-! ### how much is left -/
def tot (N : Nat) (f : Nat → Nat) : Nat := match N with | 0 => 0 | N + 1 => tot N f + f N
theorem tot_le {f g : Nat → Nat} (h : ∀ x, f x ≤ g x) : ∀ N, tot N f ≤ tot N g
  | 0 => Nat.le_refl _
  | N + 1 => Nat.add_le_add (tot_le h N) (h N)
theorem tot_up {f : Nat → Nat} {x : Nat} : ∀ {N}, x < N → tot N (nUp f x) = tot N f + 1
  | N + 1, h => by
    show tot N (nUp f x) + nUp f x N = tot N f + f N + 1
    by_cases c : x = N
    · subst c
      have e : tot x (nUp f x) = tot x f := by
        have : ∀ M, M ≤ x → tot M (nUp f x) = tot M f := by
          intro M
          induction M with
          | zero => intro _; rfl
          | succ M ih =>
            intro hM
            show tot M (nUp f x) + nUp f x M = tot M f + f M
            rw [ih (by omega)]
            unfold nUp
            rw [if_neg (by omega)]
        exact this x (Nat.le_refl _)
      rw [e]
      unfold nUp
      rw [if_pos rfl]; omega
    · rw [tot_up (by omega)]
      have e : nUp f x N = f N := by unfold nUp; rw [if_neg (by omega)]
      rw [e]; omega

end
end Mine
/-! ## K28 -/


namespace Mine
section
variable {P : Program} {w : World} {K : PySem.W.Frag} {mg : Str → Option Value} {base : Heap} {a : Ads}

/-! ### the leading of letters: where its lists are -/
structure CanN (H0 : Hp) (dl ld : Addr) (rs ls : List Addr) : Prop where
  hdl : H0 dl = none
  hld : H0 ld = none
  hrs : ∀ l ∈ rs, H0 l = none
  hls : ∀ l ∈ ls, H0 l = none
  n3 : dl ≠ ld
  n4 : dl ∉ rs
  n5 : dl ∉ ls
  n13 : ld ∉ rs
  n14 : ld ∉ ls
  n15 : rs.Nodup
  n16 : ls.Nodup
  n17 : ∀ l ∈ rs, l ∉ ls
structure CanS (W : List (Int × Int)) (N : Nat) (dl ld : Addr) (rs ls : List Addr) (H : Hp) (f g : Nat → List Int) : Prop where
  hdl : H dl = some (.lst (rs.map V.ref))
  hld : H ld = some (.dT (dtOf W ls))
  hrs : ILs H rs f
  hls : ILs H ls g
  hlr : rs.length = N
  hll : ls.length = W.length
theorem ILs.keep {H H' : Hp} {ls : List Addr} {f : Nat → List Int} (h : ILs H ls f) (k : ∀ l ∈ ls, ∀ u, H l = some u → H' l = some u) : ILs H' ls f := fun p l e => k l (List.mem_of_getElem? e) _ (h p l e)
theorem ILs.fn {H : Hp} {ls : List Addr} {f g : Nat → List Int} (h : ILs H ls f) (e : ∀ i, i < ls.length → f i = g i) : ILs H ls g := fun p l q => by
  rw [← e p (List.getElem?_eq_some_iff.mp q).1]; exact h p l q
section
variable {W : List (Int × Int)} {N : Nat} {dl ld : Addr} {rs ls : List Addr} {H0 H H' : Hp} {f g : Nat → List Int}
theorem CanS.n (S : CanS W N dl ld rs ls H f g) (q : G none H H') : CanS W N dl ld rs ls H' f g := ⟨q.all _ _ S.hdl, q.all _ _ S.hld, S.hrs.n q, S.hls.n q, S.hlr, S.hll⟩
theorem CanS.fn (S : CanS W N dl ld rs ls H f g) {f' g' : Nat → List Int} (e : ∀ i, i < N → f i = f' i) (e2 : ∀ i, i < W.length → g i = g' i) : CanS W N dl ld rs ls H f' g' := ⟨S.hdl, S.hld, S.hrs.fn fun i hi => e i (by rw [← S.hlr]; exact hi), S.hls.fn fun i hi => e2 i (by rw [← S.hll]; exact hi), S.hlr, S.hll⟩
theorem CanS.own (S : CanS W N dl ld rs ls H f g) (C : CanN H0 dl ld rs ls) {x : Nat} {l : Addr} (hl : rs[x]? = some l) (z : Int) : CanS W N dl ld rs ls (upd H l (.lst ((f x).map V.int ++ [.int z]))) (fun q => f q ++ if q = x then [z] else []) g := by
  have m := List.mem_of_getElem? hl
  exact ⟨by rw [upd_ne (ne_mem C.n4 m).symm]; exact S.hdl, by rw [upd_ne (ne_mem C.n13 m).symm]; exact S.hld, ILs.put S.hrs C.n15 hl z, S.hls.keep fun a ma u e => by rw [upd_ne (fun (z : a = l) => C.n17 l m (z ▸ ma))]; exact e, S.hlr, S.hll⟩
theorem CanS.let' (S : CanS W N dl ld rs ls H f g) (C : CanN H0 dl ld rs ls) {j : Nat} {l : Addr} (hl : ls[j]? = some l) (z : Int) : CanS W N dl ld rs ls (upd H l (.lst ((g j).map V.int ++ [.int z]))) f (fun q => g q ++ if q = j then [z] else []) := by
  have m := List.mem_of_getElem? hl
  exact ⟨by rw [upd_ne (ne_mem C.n5 m).symm]; exact S.hdl, by rw [upd_ne (ne_mem C.n14 m).symm]; exact S.hld, S.hrs.keep fun a ma u e => by rw [upd_ne (fun (z : a = l) => C.n17 a ma (z ▸ m))]; exact e, ILs.put S.hls C.n16 hl z, S.hlr, S.hll⟩
theorem dt_put : ∀ {W : List (Int × Int)} {ls : List Addr} {j : Nat} {u : Int × Int} {s : Addr}, W.Nodup → ls.length = W.length → W[j]? = some u → (dtOf W ls).map (fun kv => if kv.1 = keyOfP u then (kv.1, V.ref s) else kv) = dtOf W (ls.set j s)
  | [], _, _, _, _, _, _, e => by simp at e
  | _ :: _, [], _, _, _, _, h, _ => by simp at h
  | v :: W, l :: ls, 0, u, s, nd, h, e => by
    have e : v = u := by simpa using e
    subst e
    have n := List.nodup_cons.mp nd
    show (if keyOfP v = keyOfP v then (keyOfP v, V.ref s) else _) :: (dtOf W ls).map _ = (keyOfP v, V.ref s) :: dtOf W ls
    rw [if_pos rfl]
    congr 1
    have : ∀ (W' : List (Int × Int)) (ls' : List Addr), v ∉ W' → (dtOf W' ls').map (fun kv => if kv.1 = keyOfP v then (kv.1, V.ref s) else kv) = dtOf W' ls' := by
      intro W'
      induction W' with
      | nil => intro ls' _; rfl
      | cons w W' ih =>
        intro ls' h
        cases ls' with
        | nil => rfl
        | cons l' ls' =>
          show (if keyOfP w = keyOfP v then _ else (keyOfP w, V.ref l')) :: (dtOf W' ls').map _ = (keyOfP w, V.ref l') :: dtOf W' ls'
          rw [if_neg (fun (e : keyOfP w = keyOfP v) => h (by rw [← keyOfP_inj e]; exact List.mem_cons_self)), ih ls' fun m => h (List.mem_cons_of_mem _ m)]
    exact this W ls n.1
  | v :: W, l :: ls, j + 1, u, s, nd, h, e => by
    have e : W[j]? = some u := by simpa using e
    have n := List.nodup_cons.mp nd
    show (if keyOfP v = keyOfP u then _ else (keyOfP v, V.ref l)) :: (dtOf W ls).map _ = (keyOfP v, V.ref l) :: dtOf W (ls.set j s)
    rw [if_neg (fun (z : keyOfP v = keyOfP u) => n.1 (by rw [keyOfP_inj z]; exact List.mem_of_getElem? e)), dt_put n.2 (by simpa using h) e]
theorem dt_any {j : Nat} {u : Int × Int} {l : Addr} (nd : W.Nodup) (e : W[j]? = some u) (hl : ls[j]? = some l) : ((dtOf W ls).any fun kv => decide (kv.1 = keyOfP u)) = true := by
  have := valT nd e hl
  rw [valV_any, this]; rfl
theorem dt_len : ∀ (W : List (Int × Int)) (ls : List Addr), (dtOf W ls).length ≤ W.length
  | [], _ => Nat.le_refl _
  | _ :: _, [] => Nat.zero_le _
  | _ :: W, _ :: ls => Nat.succ_le_succ (dt_len W ls)
theorem put_dt {j : Nat} {u : Int × Int} {s : Addr} (nd : W.Nodup) (h : ls.length = W.length) (e : W[j]? = some u) : putK (dtOf W ls) (keyOfP u) (.ref s) = dtOf W (ls.set j s) := by
  obtain ⟨l, hl⟩ : ∃ l, ls[j]? = some l := ⟨_, List.getElem?_eq_getElem (by rw [h]; exact (List.getElem?_eq_some_iff.mp e).1)⟩
  unfold putK
  rw [if_pos (dt_any nd e hl), dt_put nd h e]
theorem cutV_drop (xs : List V) (k : Nat) : cutV xs (some (k : Int)) none = xs.drop k := by
  unfold cutV
  rw [HT.sIx_none, HT.sIx_nat]
  rcases Nat.le_total k xs.length with c | c
  · rw [Nat.min_eq_left c, List.take_of_length_le (by rw [List.length_drop]; exact Nat.le_refl _)]
  · rw [Nat.min_eq_right c, List.drop_length, List.take_nil, List.drop_of_length_le c]
/-- the letters of a wire are a new list -/
theorem CanS.cut (S : CanS W N dl ld rs ls H f g) (C : CanN H0 dl ld rs ls) (nd : W.Nodup) (q0 : G none H0 H) {j : Nat} {u : Int × Int} {s : Addr} (hj : W[j]? = some u) (hs : H s = none) (zs : List Int) :
    CanN H0 dl ld rs (ls.set j s) ∧ CanS W N dl ld rs (ls.set j s) (upd (upd H s (.lst (zs.map V.int))) ld (.dT (putK (dtOf W ls) (keyOfP u) (.ref s)))) f (fun z => if z = j then zs else g z) := by
  have lj : j < ls.length := by rw [S.hll]; exact (List.getElem?_eq_some_iff.mp hj).1
  have s0 : H0 s = none := back_none q0 hs
  have sdl : s ≠ dl := fun e => by have q := S.hdl; rw [← e, hs] at q; cases q
  have sld : s ≠ ld := fun e => by have q := S.hld; rw [← e, hs] at q; cases q
  have mrs : ∀ l ∈ rs, ∃ w, H l = some w := fun l ml => by obtain ⟨i, hi⟩ := List.getElem?_of_mem ml; exact ⟨_, S.hrs i l hi⟩
  have mls : ∀ l ∈ ls, ∃ w, H l = some w := fun l ml => by obtain ⟨i, hi⟩ := List.getElem?_of_mem ml; exact ⟨_, S.hls i l hi⟩
  have srs : s ∉ rs := fun m => by obtain ⟨w, e⟩ := mrs s m; rw [hs] at e; cases e
  have sls : s ∉ ls := fun m => by obtain ⟨w, e⟩ := mls s m; rw [hs] at e; cases e
  have inj : ∀ l ∈ ls.set j s, l ∈ ls ∨ l = s := fun l h => mem_set_list h
  refine ⟨⟨C.hdl, C.hld, C.hrs, fun l hl => ?_, C.n3, C.n4, fun h => ?_, C.n13, fun h => ?_, C.n15, ?_, fun l hl h => ?_⟩, ?_⟩
  · rcases inj l hl with z | z
    · exact C.hls l z
    · rw [z]; exact s0
  · rcases inj _ h with z | z
    · exact C.n5 z
    · exact sdl z.symm
  · rcases inj _ h with z | z
    · exact C.n14 z
    · exact sld z.symm
  · refine List.pairwise_iff_getElem.mpr fun a b ha hb hab e => ?_
    rw [List.length_set] at ha hb
    rw [List.getElem_set, List.getElem_set] at e
    split at e <;> split at e
    · omega
    · exact sls (e ▸ List.getElem_mem _)
    · exact sls (e ▸ List.getElem_mem _)
    · exact List.pairwise_iff_getElem.mp C.n16 a b ha hb hab e
  · rcases inj l h with z | z
    · exact C.n17 l hl z
    · exact srs (z ▸ hl)
  · have k1 : ∀ a, a ≠ s → a ≠ ld → ∀ u', H a = some u' → upd (upd H s (.lst (zs.map V.int))) ld (.dT (putK (dtOf W ls) (keyOfP u) (.ref s))) a = some u' := fun a h1 h2 u' e => by rw [upd_ne h2, upd_ne h1]; exact e
    refine ⟨k1 _ sdl.symm C.n3 _ S.hdl, by rw [upd_same, put_dt nd S.hll hj], S.hrs.keep fun a ma => k1 a (fun e => srs (e ▸ ma)) (fun e => C.n13 (e ▸ ma)), fun i l e => ?_, S.hlr, by rw [List.length_set]; exact S.hll⟩
    by_cases c : i = j
    · subst c
      rw [List.getElem?_set_self lj] at e
      cases e
      rw [upd_ne sld, upd_same]
      show _ = some (HO.lst ((if i = i then zs else g i).map V.int))
      rw [if_pos rfl]
    · rw [List.getElem?_set_ne (fun z => c z.symm)] at e
      have ml := List.mem_of_getElem? e
      show _ = some (HO.lst ((if i = j then zs else g i).map V.int))
      rw [if_neg c]
      exact k1 l (fun z => sls (z ▸ ml)) (fun z => C.n14 (z ▸ ml)) _ (S.hls i l e)
end

end
end Mine
/-! ## K29 -/


namespace Mine
section
variable {P : Program} {w : World} {K : PySem.W.Frag} {mg : Str → Option Value} {base : Heap} {a : Ads}

/-! ### the law's own leading of letters -/
theorem sh_dL (ds : List (List Int)) : SeqAt.shaped (.list (ds.map dI)) = true := sh_of (by
    rw [PyData.canLay0]
    exact canAll fun d h => by
      obtain ⟨n, _, rfl⟩ := List.mem_map.mp h
      exact can_dI n) (by
    rw [PyData.depth]
    have := depAll (n := 1) (ds := ds.map dI) fun d h => by
      obtain ⟨n, _, rfl⟩ := List.mem_map.mp h
      exact dep_dI n
    omega)
theorem eqv_dL (es ds : List (List Int)) : PyData.eqv (.list (es.map dI)) (.list (ds.map dI)) = decide (es = ds) := by
  rw [PyData.eqv]; exact eqvAll_map (fun _ _ => eqv_dI _ _) es ds
theorem dpAll_at {K : PySem.W.Frag} {H : Hp} : ∀ {fs : List Addr} {es : List (List Int)}, fs.length = es.length → (∀ (j : Nat) (f : Addr) (e : List Int), fs[j]? = some f → es[j]? = some e → SqT K H f (e.map V.int)) → DpAll K H (fs.map V.ref) (es.map dI)
  | [], [], _, _ => .nil
  | f :: fs, e :: es, h, k => .cons (dp_ofI (k 0 f e rfl rfl)) (dpAll_at (by simpa using h) fun j f' e' h1 h2 => k (j + 1) f' e' (by simpa using h1) (by simpa using h2))
theorem let_up2 {W : List (Int × Int)} {ds : List (List Int)} {n cs : Nat → Nat} {x j : Nat} {p : Int} (le : ∀ x, n x ≤ (dAt ds x).length) (hp : (dAt ds x)[n x]? = some p) (h : (uAt W j).1.toNat = x → cs j ≤ n x) : let_ W ds (nUp n x) cs j = let_ W ds n cs j ++ if (uAt W j).1.toNat = x then [p] else [] := by
  unfold let_
  by_cases c : (uAt W j).1.toNat = x
  · rw [if_pos c, c, own_up_self hp, List.drop_append_of_le_length]
    rw [own_len le]; exact h c
  · rw [if_neg c, own_up_ne c, List.append_nil]
theorem own_all {ds : List (List Int)} {n : Nat → Nat} {N : Nat} (lm : ds.length = N) (le : ∀ x, n x ≤ (dAt ds x).length) : (List.range N).map (own_ ds n) = ds ↔ ∀ x, n x = (dAt ds x).length := by
  constructor
  · intro h x
    rcases Nat.lt_or_ge x N with c | c
    · have e : ds[x]? = some (own_ ds n x) := by
        have q : ((List.range N).map (own_ ds n))[x]? = some (own_ ds n x) := by rw [List.getElem?_map, List.getElem?_range c]; rfl
        rw [h] at q; exact q
      have q := own_len le x
      rw [dAt_of e]
      omega
    · have q := le x
      rcases Nat.eq_zero_or_pos (dAt ds x).length with z | z
      · omega
      · have := dAt_lt (List.getElem_mem z)
        omega
  · intro h
    refine List.ext_getElem? fun x => ?_
    rcases Nat.lt_or_ge x N with c | c
    · rw [List.getElem?_map, List.getElem?_range c]
      obtain ⟨d, hd⟩ : ∃ d, ds[x]? = some d := ⟨_, List.getElem?_eq_getElem (by omega)⟩
      rw [hd]
      show some (own_ ds n x) = some d
      unfold own_
      rw [h x, List.take_length, dAt_of hd]
    · rw [List.getElem?_eq_none (by simpa using c), List.getElem?_eq_none (by omega)]
def cmv (W : List (Int × Int)) (ds : List (List Int)) (n cs : Nat → Nat) (i : Nat) (p : Int) (z : Nat) : Nat := come (own_ ds n i) p (let_ W ds n cs z)
/-- a tuple of tuples of ints -/
def DiaS (K : PySem.W.Frag) (H : Hp) (p : Addr) (ds : List (List Int)) : Prop := ∃ bs : List Addr, SqT K H p (bs.map V.ref) ∧ bs.length = ds.length ∧ ∀ (i : Nat) (b : Addr) (d : List Int), bs[i]? = some b → ds[i]? = some d → SqT K H b (d.map V.int)
theorem Dia.s {H : Hp} {p : Addr} {ds : List (List Int)} (h : Dia K H p ds) : DiaS K H p ds := let ⟨bs, h1, h2, h3⟩ := h; ⟨bs, h1, h2, fun i b d e1 e2 => (h3 i b d e1 e2).sq⟩
theorem DiaS.t {H H' : Hp} {p : Addr} {ds : List (List Int)} (h : DiaS K H p ds) (t : Ts H H') : DiaS K H' p ds := let ⟨bs, h1, h2, h3⟩ := h; ⟨bs, sqT_t t h1, h2, fun i b d e1 e2 => sqT_t t (h3 i b d e1 e2)⟩
def sp__law_can (K : PySem.W.Frag) : Sp := fun vs H Q _ => ∃ (m : Int) (wa vp dp : Addr) (bs : List Addr) (W : List (Int × Int)) (ws : List Int) (ds : List (List Int)), vs = [.int m, .ref wa, .ref vp, .ref dp] ∧ SqT K H wa (bs.map V.ref) ∧ TupAll H bs W ∧ IsWeb m W ∧ SqT K H vp (ws.map V.int) ∧ DiaS K H dp ds ∧ IsRec ws ds ∧ ds.length = m.toNat ∧
  ∀ (b : Bool) H', G none H H' → (b = true ↔ Full W ws ds) → Q (.bl b) H'
theorem ok__law_can (T : Txt K mg a) : FnOk P w K mg base CX0 2 a.f__law_can a.d__law_can P__law_can (sp__law_can K) := by
  refine T.F__law_can.ok sc__law_can (fun vs H Q E h => by obtain ⟨m, wa, vp, dp, bs, W, ws, ds, rfl, _⟩ := h; rfl) (fun cdv A outer s H vs Q E hr h => ?_)
  obtain ⟨m, wa, vp, dp, bs, W, ws, ds, rfl, hwa, tup, web, hv, hdia, rec, lm, k⟩ := h
  have G__law_come : FnOk P w K mg base CX0 1 a.f__law_come a.d__law_come P__law_come (sp__law_come K) := ok__law_come T
  have m1 := web.lo
  have m7 := web.hi
  have p30 := rec.p30
  have l49 := isweb_len49 web
  obtain ⟨N, rfl⟩ : ∃ n : Nat, m = (n : Int) := ⟨m.toNat, by omega⟩
  rw [Int.toNat_natCast] at lm
  have lb := tup.1
  have rc : Rec ws ds := ⟨rec.nd, rec.rng⟩
  have wn : ∀ w ∈ ws, 0 ≤ w := fun w hw => (rec.wr w hw).1
  have wW : ∀ u ∈ W, 0 ≤ u.1 ∧ 0 ≤ u.2 := fun u hu => ⟨(web.mem u hu).1.1, (web.mem u hu).2.1.1⟩
  refine ⟨_, (pss_cons (ps_set (i := 4) sc__law_can.nd rfl (Or.inr rfl) (pe_lc (own := [("_law_machine", 12)]) (g := (gName 12)) (tt := tYes) rfl sc__law_can.nd (pi_range1 rfl T.n_range (pa_cons (pv 0) pa_nil)) (blkOk_by (N := N__law_can) (sc := defScope s__law_can) (by decide +kernel)) (fun _ _ _ _ _ => (pg_name (i := 12) sc__law_can.nd rfl (by first | exact Or.inl rfl | exact Or.inr rfl))) (fun _ _ _ _ _ => pts_nil) (fun _ _ _ _ _ => (pe_lstN pa_nil))))
  (pss_cons (ps_set (i := 6) sc__law_can.nd rfl (Or.inr rfl) (pe_callTy (call_dictPT rfl hr.units) (by rfl) T.n_dict (by decide +kernel) (pa_cons (pe_lc (own := [("_law_wire", 5)]) (g := (gName 5)) (tt := tYes) rfl sc__law_can.nd (pi_tup (pv 1)) (blkOk_by (N := N__law_can) (sc := defScope s__law_can) (by decide +kernel)) (fun _ _ _ _ _ => (pg_name (i := 5) sc__law_can.nd rfl (by first | exact Or.inl rfl | exact Or.inr rfl))) (fun _ _ _ _ _ => pts_nil) (fun _ _ _ _ _ => (pe_tupN (pa_cons (pv 5) (pa_cons (pe_lstN pa_nil) pa_nil))))) pa_nil)))
  (pss_cons (ps_set (i := 7) sc__law_can.nd rfl (Or.inl rfl) pe_bl)
  (pss_cons (ps_while PassesOwn.never (pt_val (pv 7))
    (pss_cons (ps_set (i := 7) sc__law_can.nd rfl (Or.inl rfl) pe_bl)
  (pss_one (ps_for PassesOwn.never rfl (pi_range1 rfl T.n_range (pa_cons (pv 0) pa_nil)) (pg_name (i := 8) sc__law_can.nd rfl (Or.inr rfl))
    (pss_one (ps_if (pt_cmpR op_lt (pe_callB call_len_seq (by rfl) T.n_len (by decide +kernel) (pa_cons (pe_ix ix_list (pv 4) (pv 8) (fun _ _ => rfl)) pa_nil)) (pe_callB call_len_seq (by rfl) T.n_len (by decide +kernel) (pa_cons (pe_ix ix_tup (pv 3) (pv 8) (fun _ _ => rfl)) pa_nil)) (nomark _))
    (pss_cons (ps_set (i := 9) sc__law_can.nd rfl (Or.inr rfl) (pe_ix ix_tup (pe_ix ix_tup (pv 3) (pv 8) (fun _ _ => rfl)) (pe_callB call_len_seq (by rfl) T.n_len (by decide +kernel) (pa_cons (pe_ix ix_list (pv 4) (pv 8) (fun _ _ => rfl)) pa_nil)) (fun _ _ => rfl)))
  (pss_cons (ps_setLc (i := 10) (own := [("_law_wire", 5)]) (g := (gName 5))  rfl sc__law_can.nd rfl rfl (sw_true rfl rfl rfl (by decide +kernel)) (pi_tup (pv 1)) (blkOk_by (N := N__law_can) (sc := defScope s__law_can) (by decide +kernel)) (fun _ _ _ _ _ => (pg_name (i := 5) sc__law_can.nd rfl (by first | exact Or.inl rfl | exact Or.inr rfl))) (fun _ _ _ _ _ => (pts_one (pt_cmpR op_eq (pe_ix (k_ix_tup K) (pv 5) pe_int (fun _ _ => rfl)) (pv 8) (nomark _)))) (fun _ _ _ _ _ => (pe_tupN (pa_cons (pe_call (G__law_come) (hr.mono (by omega)) rfl T.m__law_come T.F__law_come.kp T.b__law_come .nil pass0 (pa_cons (pe_dget (hu_of hr) (pv 6) (pv 5) (by first | exact fun _ _ => rfl | rfl | decide)) (pa_cons (pe_ix (k_ix_list K) (pv 4) (pv 8) (fun _ _ => rfl)) (pa_cons (pv 9) pa_nil)))) (pa_cons (pv 5) pa_nil)))))
  (pss_cons (ps_setLc (i := 11) (own := [("_law_pair", 14)]) (g := (gName 14))  rfl sc__law_can.nd rfl rfl (sw_true rfl rfl rfl (by decide +kernel)) (pi_list (pv 10)) (blkOk_by (N := N__law_can) (sc := defScope s__law_can) (by decide +kernel)) (fun _ _ _ _ _ => (pg_name (i := 14) sc__law_can.nd rfl (by first | exact Or.inl rfl | exact Or.inr rfl))) (fun _ _ _ _ _ => (pts_one (pt_cmpR op_gt (pe_ix (k_ix_tup K) (pv 14) pe_int (fun _ _ => rfl)) pe_int (nomark _)))) (fun _ _ _ _ _ => (pv 14)))
  (pss_one (ps_if (L2.PW.pt (pw_or (pt_cmpR op_eq (pe_ix ix_tup (pv 2) (pv 9) (fun _ _ => rfl)) (pv 8) (nomark _)) (pw_or1 (pt_cmpR op_gt (pe_callB call_len_seq (by rfl) T.n_len (by decide +kernel) (pa_cons (pv 11) pa_nil)) pe_int (nomark _)))))
    (pss_cons (ps_if (pt_cmpR op_ne (pe_ix ix_tup (pv 2) (pv 9) (fun _ _ => rfl)) (pv 8) (nomark _))
    (pss_one (ps_dput (hu_of hr) (pv 6) (pe_ix ix_tup (pe_ix ix_list (pv 11) pe_int (fun _ _ => rfl)) pe_int (fun _ _ => rfl)) (pe_slice sl_list (pe_dget (hu_of hr) (pv 6) (pe_ix ix_tup (pe_ix ix_list (pv 11) pe_int (fun _ _ => rfl)) pe_int (fun _ _ => rfl)) (by first | exact fun _ _ => rfl | rfl | decide)) (po_some (pe_ix ix_tup (pe_ix ix_list (pv 11) pe_int (fun _ _ => rfl)) pe_int (fun _ _ => rfl))) po_none) rfl))
    pss_nil)
  (pss_cons (ps_expr (pe_bm PySem.F.plainAttrs_list PySem.F.slot_list_append PySem.F.type_list_append mt_append (pe_ix ix_list (pv 4) (pv 8) (fun _ _ => rfl)) (pa_cons (pv 9) pa_nil)))
  (pss_cons (ps_for PassesOwn.never rfl (pi_tup (pv 1)) (pg_name (i := 5) sc__law_can.nd rfl (Or.inl rfl))
    (pss_one (ps_if (pt_cmpR op_eq (pe_ix ix_tup (pv 5) pe_int (fun _ _ => rfl)) (pv 8) (nomark _))
    (pss_one (ps_expr (pe_bm PySem.F.plainAttrs_list PySem.F.slot_list_append PySem.F.type_list_append mt_append (pe_dget (hu_of hr) (pv 6) (pv 5) (by first | exact fun _ _ => rfl | rfl | decide)) (pa_cons (pv 9) pa_nil))))
    pss_nil)))
  (pss_one (ps_set (i := 7) sc__law_can.nd rfl (Or.inl rfl) pe_bl)))))
    pss_nil)))))
    pss_nil))))))
  (pss_one (ps_ret (pe_cmpR (op_eqD hr.units) (pe_lc (own := [("_law_diary", 13)]) (g := (gName 13)) (tt := tYes) rfl sc__law_can.nd (pi_list (pv 4)) (blkOk_by (N := N__law_can) (sc := defScope s__law_can) (by decide +kernel)) (fun _ _ _ _ _ => (pg_name (i := 13) sc__law_can.nd rfl (by first | exact Or.inl rfl | exact Or.inr rfl))) (fun _ _ _ _ _ => pts_nil) (fun _ _ _ _ _ => (pe_callTy (k_call_tupleN K) (by rfl) T.n_tuple (by decide +kernel) (pa_cons (pv 13) pa_nil)))) (pe_callTy call_listN (by rfl) T.n_list (by decide +kernel) (pa_cons (pv 3) pa_nil)) (nomark _)))))))), ?_⟩
  walk_at "ws"
  refine i_rng1 (by omega) (by omega) ?_
  rw [Int.toNat_natCast]
  intro dl hdl
  refine lc_it walk_range (fun i H' => ∃ rs : List Addr, G none H H' ∧ H' dl = some (.lst (rs.map V.ref)) ∧ rs.length = i ∧ rs.Nodup ∧ dl ∉ rs ∧ ∀ l ∈ rs, H l = none ∧ H' l = some (.lst [])) ⟨[], (G.refl).mut hdl (fun _ e => nomatch e), upd_same, rfl, List.nodup_nil, (fun h => nomatch h), (fun _ h => nomatch h)⟩ (fun _ _ _ _ => trivial) ?_ ?_
  · rintro i _ _ H1 hi ⟨rs, g1, h1, lr, nd, ndl, hrs⟩ ⟨rfl, rfl⟩
    walk_at "ws"
    refine ⟨rfl, ?_⟩
    walk_at "ws"
    refine ⟨sz (by simp), fun l H2 hl g2 h2 => ?_⟩
    have nl : l ≠ dl := (ne_of_none h1 hl).symm
    refine ⟨rs.map V.ref, (g2 none).all _ _ h1, Nat.lt_of_le_of_lt (by rw [List.length_map]; omega : (rs.map V.ref).length ≤ 100000) (by decide), rs ++ [l], (g1.trans (g2 none)).mut hdl (fun _ e => nomatch e), by rw [upd_same, List.map_append]; rfl, by rw [List.length_append, lr]; rfl, ?_, ?_, ?_⟩
    · exact nodup_snoc nd fun ha => by
        have := (hrs _ ha).2
        rw [hl] at this; cases this
    · intro h
      rcases List.mem_append.mp h with z | z
      · exact ndl z
      · exact nl (by simpa using z : dl = l).symm
    · intro x hx
      rcases List.mem_append.mp hx with z | z
      · have q := hrs x z
        exact ⟨q.1, by rw [upd_ne (ne_mem ndl z)]; exact (g2 none).all _ _ q.2⟩
      · have e : x = l := by simpa using z
        subst e
        exact ⟨back_none g1 hl, by rw [upd_ne nl]; exact h2⟩
  rintro H1 ⟨rs, g1, h1, lr, nd, ndl, hrs⟩
  have hwa1 := sqT_t g1.tups hwa
  have tup1 := tup.g g1 (fun _ e => nomatch e)
  have hv1 := sqT_t g1.tups hv
  walk_at "ws"
  refine i_tup hwa1 ?_
  intro D hD
  refine lc_it (walk_tup (xs := bs.map V.ref)) (fun i H' => ∃ ts ls : List Addr, G none H1 H' ∧ H' D = some (.lst (ts.map V.ref)) ∧ ts.length = i ∧ ls.length = i ∧ ls.Nodup ∧ (∀ l ∈ ls, H1 l = none ∧ l ≠ D ∧ H' l = some (.lst [])) ∧ ∀ (j : Nat) (t b l : Addr), ts[j]? = some t → bs[j]? = some b → ls[j]? = some l → H' t = some (.tup [.ref b, .ref l])) ⟨[], [], (G.refl).mut hD (fun _ e => nomatch e), upd_same, rfl, rfl, List.nodup_nil, (fun _ h => nomatch h), (fun j t b l e => by simp at e)⟩ (fun i H' _ ⟨ts, ls, q, _⟩ => sqT_t q.tups hwa1) ?_ ?_
  · rintro i v _ H2 hi ⟨ts, ls, g2, h2, lt_, ll, ndls, hls, hts⟩ ⟨rfl, hv'⟩
    rw [List.length_map] at hi
    rw [List.getElem?_map] at hv'
    obtain ⟨b, hb, rfl⟩ := Option.map_eq_some_iff.mp hv'
    walk_at "ws"
    refine ⟨rfl, ?_⟩
    walk_at "ws"
    refine ⟨sz (by simp), fun l H3 hl g3 h3 => ?_⟩
    walk_at "ws"
    refine ⟨sz (by simp), fun t H4 ht g4 h4 => ?_⟩
    have g24 : G none H2 H4 := (g3 none).trans (g4 none)
    have h4D := g24.all _ _ h2
    have h4l := (g4 none).all _ _ h3
    have nl : l ≠ D := (ne_of_none h2 hl).symm
    have tD : t ≠ D := (ne_of_none ((g3 none).all _ _ h2) ht).symm
    refine ⟨ts.map V.ref, h4D, Nat.lt_of_le_of_lt (by rw [List.length_map]; omega : (ts.map V.ref).length ≤ 100000) (by decide), ts ++ [t], ls ++ [l], (g2.trans g24).mut hD (fun _ e => nomatch e), by rw [upd_same, List.map_append]; rfl, by rw [List.length_append, lt_]; rfl, by rw [List.length_append, ll]; rfl, ?_, ?_, ?_⟩
    · exact nodup_snoc ndls fun ha => by
        have := (hls _ ha).2.2
        rw [hl] at this; cases this
    · intro x hx
      rcases List.mem_append.mp hx with z | z
      · have q := hls x z
        exact ⟨q.1, q.2.1, by rw [upd_ne q.2.1]; exact g24.all _ _ q.2.2⟩
      · have e : x = l := by simpa using z
        subst e
        exact ⟨back_none g2 hl, nl, by rw [upd_ne nl]; exact h4l⟩
    · intro j t' b' l' e1 e2 e3
      by_cases cj : j < i
      · rw [List.getElem?_append_left (by omega)] at e1 e3
        have q := hts j t' b' l' e1 e2 e3
        rw [upd_ne (ne_of q h2 (by intro z; cases z))]
        exact g24.all _ _ q
      · have ej : j = i := by
          have := (List.getElem?_eq_some_iff.mp e1).1
          rw [List.length_append, lt_, List.length_singleton] at this
          omega
        subst ej
        rw [List.getElem?_append_right (by omega), lt_, Nat.sub_self] at e1
        rw [List.getElem?_append_right (by omega), ll, Nat.sub_self] at e3
        rw [hb] at e2
        cases e1; cases e2; cases e3
        rw [upd_ne tD]
        exact h4
  rintro H2 ⟨ts, ls, g2, h2, lt_, ll, ndls, hls, hts⟩
  rw [List.length_map] at lt_ ll
  have tup2 := tup1.g g2 (fun _ e => nomatch e)
  walk_at "ws"
  refine ⟨D, mkL W bs ts ls, rfl, by rw [mkL_at lb (by omega) (by omega)]; exact h2, fun q hq => ?_, ?_, fun ld H3 hld g3 h3 => ?_⟩
  · obtain ⟨j, u, b, t, l, e1, e2, e3, e4, rfl⟩ := mkL_mem hq
    exact ⟨hts j t b l e3 e2 e4, tup2.2 j b u e2 e1⟩
  · rw [mkL_key lb (by omega) (by omega)]
    exact List.pairwise_map.mpr ((web_nodup web).imp fun h e => h (keyOfP_inj e))
  rw [mkL_dt lb (by omega) (by omega)] at h3
  have g03 := (g1.trans g2).trans (g3 none)
  have h3dl := (g3 none).all _ _ (g2.all _ _ h1)
  have h3rs : ∀ l ∈ rs, H3 l = some (.lst []) := fun l hl => (g3 none).all _ _ (g2.all _ _ (hrs l hl).2)
  have h3ls : ∀ l ∈ ls, H3 l = some (.lst []) := fun l hl => (g3 none).all _ _ (hls l hl).2.2
  have C0 : CanN H dl ld rs ls := ⟨hdl, back_none (g1.trans g2) hld, fun l hl => (hrs l hl).1, fun l hl => back_none g1 (hls l hl).1, ne_of_none (g2.all _ _ h1) hld, ndl, (fun hl => ne_of_none h1 (hls _ hl).1 rfl), not_in hld (fun l hl => g2.all _ _ (hrs l hl).2), not_in hld (fun l hl => (hls l hl).2.2), nd, ndls, (fun l hl hl2 => ne_of_none (hrs l hl).2 (hls l hl2).1 rfl)⟩
  have S0 : CanS W N dl ld rs ls H3 (own_ ds fun _ => 0) (let_ W ds (fun _ => 0) fun _ => 0) := ⟨h3dl, h3, fun p l e => h3rs l (List.mem_of_getElem? e), fun p l e => h3ls l (List.mem_of_getElem? e), lr, by omega⟩
  have L0 : Led W ws ds (fun _ => 0) (fun _ => 0) := ⟨fun _ => Nat.zero_le _, fun x p w h => by simp at h, fun _ _ => Nat.le_refl _, fun j _ q h => by simp at h⟩
  clear h3rs h3ls h3dl hts hls h2 hrs h1 hwa1 tup1 hv1 tup2 ndls nd ndl lt_ hD hdl hld h3
  walk_at "ws"
  refine ⟨fun μ σ H' => ∃ (b : Bool) (u5 u8 u9 u10 u11 u12 u13 u14 : Option V) (ls : List Addr) (n cs : Nat → Nat), σ = [some (.int (N : Int)), some (.ref wa), some (.ref vp), some (.ref dp), some (.ref dl), u5, some (.ref ld), some (.bl b), u8, u9, u10, u11, u12, u13, u14] ∧ G none H H' ∧ CanN H dl ld rs ls ∧ CanS W N dl ld rs ls H' (own_ ds n) (let_ W ds n cs) ∧ Led W ws ds n cs ∧ (b = false → ∀ x, ¬ Can W ws ds n x) ∧ μ = 2 * (tot N (fun x => (dAt ds x).length) - tot N n) + (if b = true then 1 else 0), ⟨_, true, _, _, _, _, _, _, _, _, ls, _, _, rfl, g03, C0, S0, L0, (fun h => nomatch h), rfl⟩, ?_⟩
  clear C0 S0 L0 g03 g1 g2 g3
  rintro μ σ H5 ⟨b, u5, u8, u9, u10, u11, u12, u13, u14, ls, n, cs, rfl, g5, C, S, L, st, rfl⟩
  obtain ⟨bd, hbd, lbd, hfd⟩ := id hdia
  walk_at "ws"
  have le_tot := tot_le L.le N
  cases b with
  | false =>
    rw [if_neg Bool.false_ne_true]
    walk_at "ws"
    have full := ff rc wn wW L.came (st rfl) L.le
    refine i_list (SqL.of S.hdl) ?_
    intro D hD
    refine lc_it (walk_list (xs := rs.map V.ref)) (fun i H' => ∃ fs : List Addr, G none H5 H' ∧ H' D = some (.lst (fs.map V.ref)) ∧ fs.length = i ∧ ∀ (j : Nat) (f : Addr), fs[j]? = some f → SqT K H' f ((own_ ds n j).map V.int)) ⟨[], (G.refl).mut hD (fun _ e => nomatch e), upd_same, rfl, (fun j f e => by simp at e)⟩ (fun i H' _ ⟨_, q, _⟩ => SqL.of (q.all _ _ S.hdl)) ?_ ?_
    · rintro j v _ H7 hj ⟨fs, g7, h7, lfs, hfs⟩ ⟨rfl, hv'⟩
      have lr6 := S.hlr
      rw [List.length_map] at hj
      rw [List.getElem?_map] at hv'
      obtain ⟨l, hl, rfl⟩ := Option.map_eq_some_iff.mp hv'
      walk_at "ws"
      refine ⟨rfl, ?_⟩
      walk_at "ws"
      refine ⟨l, _, rfl, .inl ⟨SqL.of (g7.all _ _ (S.hrs j l hl)), fun f H8 hf g8 h8 => ?_⟩⟩
      have h8D := (g8 none).all _ _ h7
      refine ⟨fs.map V.ref, h8D, Nat.lt_of_le_of_lt (by rw [List.length_map]; omega : (fs.map V.ref).length ≤ 100000) (by decide), fs ++ [f], (g7.trans (g8 none)).mut hD (fun _ e => nomatch e), by rw [upd_same, List.map_append]; rfl, by rw [List.length_append, lfs]; rfl, fun j2 f2 e1 => ?_⟩
      by_cases cj : j2 < fs.length
      · rw [List.getElem?_append_left cj] at e1
        exact sqT_t (Ts.updl h8D) (sqT_t (g8 none).tups (hfs j2 f2 e1))
      · have ej : j2 = j := by
          have := (List.getElem?_eq_some_iff.mp e1).1
          rw [List.length_append, List.length_singleton] at this
          omega
        subst ej
        rw [List.getElem?_append_right (by omega), lfs, Nat.sub_self] at e1
        cases e1
        exact sqT_t (Ts.updl h8D) (SqT.of h8)
    rintro H7 ⟨fs, g7, h7, lfs, hfs⟩
    rw [List.length_map, S.hlr] at lfs
    walk_at "ws"
    refine ⟨dp, _, rfl, .inr (sqT_t (g5.trans g7).tups hbd), fun l2 H8 hl2 g8 h8 => ?_⟩
    have g58 := g7.trans (g8 none)
    have g08 := g5.trans g58
    refine ⟨.list (((List.range N).map (own_ ds n)).map dI), .list (ds.map dI), .lst (SqL.of ((g8 none).all _ _ h7)) (dpAll_at (by simpa using lfs) fun j f e h1 h2 => ?_), .lst (SqL.of h8) (dpAll_at lbd fun j f e h1 h2 => sqT_t g08.tups (hfd j f e h1 h2)), sh_dL _, sh_dL _, ?_⟩
    · rw [List.getElem?_map] at h2
      obtain ⟨j', hj', rfl⟩ := Option.map_eq_some_iff.mp h2
      have : j' = j := by
        rw [List.getElem?_range (by have := (List.getElem?_eq_some_iff.mp h1).1; omega)] at hj'
        exact (Option.some.inj hj').symm
      subst this
      exact sqT_t (g8 none).tups (hfs j' f h1)
    rw [eqv_dL]
    walk_at "ws"
    refine k _ H8 g08 ?_
    rw [decide_eq_true_iff, own_all lm L.le, full]
  | true =>
    rw [if_pos rfl]
    refine ⟨fun σ H' => ∃ (b : Bool) (u5 u8 u9 u10 u11 u12 u13 u14 : Option V) (ls : List Addr) (n' cs' : Nat → Nat), σ = [some (.int (N : Int)), some (.ref wa), some (.ref vp), some (.ref dp), some (.ref dl), u5, some (.ref ld), some (.bl b), u8, u9, u10, u11, u12, u13, u14] ∧ G none H H' ∧ CanN H dl ld rs ls ∧ CanS W N dl ld rs ls H' (own_ ds n') (let_ W ds n' cs') ∧ Led W ws ds n' cs' ∧ (b = false → ∀ x, ¬ Can W ws ds n' x) ∧ 2 * (tot N (fun x => (dAt ds x).length) - tot N n') + (if b = true then 1 else 0) < 2 * (tot N (fun x => (dAt ds x).length) - tot N n) + 1, ?_, ?_⟩
    · rintro σ' H' ⟨b, u5, u8, u9, u10, u11, u12, u13, u14, ls, n', cs', e, q1, q2, q3, q4, q5, lt⟩
      exact ⟨_, lt, b, u5, u8, u9, u10, u11, u12, u13, u14, ls, n', cs', e, q1, q2, q3, q4, q5, rfl⟩
    walk_at "ws"
    refine i_rng1 (by omega) (by omega) ?_
    rw [Int.toNat_natCast]
    refine for_it walk_range (fun i σ H' => ∃ (b : Bool) (u5 u8 u9 u10 u11 u12 u13 u14 : Option V) (ls : List Addr) (n' cs' : Nat → Nat), σ = [some (.int (N : Int)), some (.ref wa), some (.ref vp), some (.ref dp), some (.ref dl), u5, some (.ref ld), some (.bl b), u8, u9, u10, u11, u12, u13, u14] ∧ G none H H' ∧ CanN H dl ld rs ls ∧ CanS W N dl ld rs ls H' (own_ ds n') (let_ W ds n' cs') ∧ Led W ws ds n' cs' ∧ (b = false → n' = n ∧ ∀ x, x < i → ¬ Can W ws ds n x) ∧ (b = true → tot N n < tot N n')) ⟨false, _, _, _, _, _, _, _, _, ls, n, cs, rfl, g5, C, S, L, (fun _ => ⟨rfl, fun _ h => absurd h (Nat.not_lt_zero _)⟩), (fun h => nomatch h)⟩ (fun _ _ _ _ _ => trivial) ?_ ?_
    · clear C S L st g5 le_tot
      rintro i _ σ _ H6 hi ⟨b, u5, u8, u9, u10, u11, u12, u13, u14, ls, n', cs', rfl, g6, C, S, L, bf, bt⟩ ⟨rfl, rfl⟩
      show gName 8 (.int (0 + (i : Int))) _ _ _
      rw [Int.zero_add]
      have lr6 := S.hlr
      have ll6 := S.hll
      obtain ⟨l, hl⟩ : ∃ l, rs[i]? = some l := ⟨_, List.getElem?_eq_getElem (by omega)⟩
      obtain ⟨f, hf⟩ : ∃ f, bd[i]? = some f := ⟨_, List.getElem?_eq_getElem (by omega)⟩
      obtain ⟨d, hd⟩ : ∃ d, ds[i]? = some d := ⟨_, List.getElem?_eq_getElem (by omega)⟩
      have ed := dAt_of hd
      have hfi := hfd i f d hf hd
      have dm := List.mem_of_getElem? hd
      have dlen : d.length ≤ 30 := by have := diary_len (rec.nd d dm) (rec.rng d dm); omega
      have hli := S.hrs i l hl
      have ol : (own_ ds n' i).length = n' i := own_len L.le i
      walk_at "ws"
      refine r_ixL (SqL.of S.hdl) (v := .ref l) (at_of (j := i) rfl (by rw [List.getElem?_map, hl]; rfl)) ?_
      refine ⟨l, _, rfl, .inl (SqL.of hli), ?_⟩
      walk_at "ws"
      refine r_ixT (sqT_t g6.tups hbd) (v := .ref f) (at_of (j := i) rfl (by rw [List.getElem?_map, hf]; rfl)) ?_
      refine ⟨f, _, rfl, .inr (sqT_t g6.tups hfi), ?_⟩
      walk_at "ws"
      rw [List.length_map, List.length_map, ol]
      refine w_ite (fun e => ?_) (fun e => ?_)
      · have e : ((n' i : Nat) : Int) < (d.length : Nat) := of_decide_eq_true e
        obtain ⟨p, hp⟩ : ∃ p, d[n' i]? = some p := ⟨_, List.getElem?_eq_getElem (by omega)⟩
        have hpd : (dAt ds i)[n' i]? = some p := by rw [ed]; exact hp
        have pr := rec.rng d dm p (List.mem_of_getElem? hp)
        obtain ⟨w0, hw0⟩ : ∃ w0, ws[p.toNat]? = some w0 := ⟨_, List.getElem?_eq_getElem (by omega)⟩
        walk_at "ws"
        refine r_ixT (sqT_t g6.tups hbd) (v := .ref f) (at_of (j := i) rfl (by rw [List.getElem?_map, hf]; rfl)) ?_
        walk_at "ws"
        refine r_ixL (SqL.of S.hdl) (v := .ref l) (at_of (j := i) rfl (by rw [List.getElem?_map, hl]; rfl)) ?_
        refine ⟨l, _, rfl, .inl (SqL.of hli), ?_⟩
        walk_at "ws"
        rw [List.length_map, ol]
        refine r_ixT (sqT_t g6.tups hfi) (v := .int p) (at_of (j := n' i) rfl (by rw [List.getElem?_map, hp]; rfl)) ?_
        walk_at "ws"
        refine i_tup (sqT_t g6.tups hwa) ?_
        intro R hR
        refine lc_it (walk_tup (xs := bs.map V.ref)) (fun j H' => ∃ ts : List Addr, G none H6 H' ∧ H' R = some (.lst (ts.map V.ref)) ∧ ts.length ≤ j ∧ (∀ t ∈ ts, ∃ z b, z < W.length ∧ bs[z]? = some b ∧ (uAt W z).2.toNat = i ∧ H' t = some (.tup [.int (cmv W ds n' cs' i p z : Nat), .ref b])) ∧ (∀ z, z < j → (uAt W z).2.toNat = i → ∃ t ∈ ts, ∃ b, bs[z]? = some b ∧ H' t = some (.tup [.int (cmv W ds n' cs' i p z : Nat), .ref b]))) ⟨[], (G.refl).mut hR (fun _ e => nomatch e), upd_same, Nat.le_refl _, (fun _ h => nomatch h), (fun _ h => absurd h (Nat.not_lt_zero _))⟩ (fun j H' _ ⟨_, q, _⟩ => sqT_t q.tups (sqT_t g6.tups hwa)) ?_ ?_
        · rintro j v _ H7 hj ⟨ts, g7, h7, lts, mem, cov⟩ ⟨rfl, hv'⟩
          rw [List.length_map] at hj
          rw [List.getElem?_map] at hv'
          obtain ⟨b', hb', rfl⟩ := Option.map_eq_some_iff.mp hv'
          obtain ⟨la, hla⟩ : ∃ la, ls[j]? = some la := ⟨_, List.getElem?_eq_getElem (by omega)⟩
          obtain ⟨u, hu⟩ : ∃ u, W[j]? = some u := ⟨_, List.getElem?_eq_getElem (by omega)⟩
          have ht := (tup.g (g6.trans g7) (fun _ e => nomatch e)).2 j b' u hb' hu
          have S7 := S.n g7
          have eu := uAt_of hu
          have uw := wW u (List.mem_of_getElem? hu)
          walk_at "ws"
          refine ⟨rfl, ?_⟩
          walk_at "ws"
          refine r_ixT (SqT.of ht) (v := .int u.2) (at_of (j := 1) rfl rfl) ?_
          walk_at "ws"
          refine w_ite (fun e => ?_) (fun e => ?_)
          · have e : u.2 = (i : Int) := of_decide_eq_true e
            walk_at "ws"
            refine w_dget ?_
            walk_at "ws"
            refine i_dget (web_nodup web) S7.hld ht hu hla ?_
            walk_at "ws"
            refine r_ixL (SqL.of S7.hdl) (v := .ref l) (at_of (j := i) rfl (by rw [List.getElem?_map, hl]; rfl)) ?_
            walk_at "ws"
            refine ⟨la, l, _, _, p, rfl, SqL.of (S7.hls j la hla), SqL.of (S7.hrs i l hl), fun H8 g8 => ?_⟩
            walk_at "ws"
            refine ⟨sz (by simp), fun t H9 ht9 g9 h9 => ?_⟩
            have g79 := g8.trans (g9 none)
            have h9R := g79.all _ _ h7
            have k9 : ∀ (a : Addr) (xs : List V) (w : HO), H9 a = some (.tup xs) → upd H9 R (.lst (ts.map V.ref ++ [.ref t])) a = some (.tup xs) := fun a xs w e => by rw [upd_ne (ne_of e h9R (by intro z; cases z))]; exact e
            have h9' : H9 t = some (.tup [.int (cmv W ds n' cs' i p j : Nat), .ref b']) := h9
            refine ⟨ts.map V.ref, h9R, Nat.lt_of_le_of_lt (by rw [List.length_map]; omega : (ts.map V.ref).length ≤ 100000) (by decide), ts ++ [t], (g7.trans g79).mut hR (fun _ e => nomatch e), by rw [upd_same, List.map_append]; rfl, by rw [List.length_append, List.length_singleton]; omega, fun t' ht' => ?_, fun z hz hx => ?_⟩
            · rcases List.mem_append.mp ht' with y | y
              · obtain ⟨z, b, q1, q2, q3, q4⟩ := mem t' y
                exact ⟨z, b, q1, q2, q3, k9 _ _ (.lst []) (g79.all _ _ q4)⟩
              · have y : t' = t := by simpa using y
                subst y
                exact ⟨j, b', by omega, hb', by rw [eu, e]; exact Int.toNat_natCast i, k9 _ _ (.lst []) h9'⟩
            · rcases Nat.lt_or_ge z j with c | c
              · obtain ⟨t', m', b, q1, q2⟩ := cov z c hx
                exact ⟨t', List.mem_append_left _ m', b, q1, k9 _ _ (.lst []) (g79.all _ _ q2)⟩
              · obtain rfl : z = j := by omega
                exact ⟨t, List.mem_append_right _ (List.mem_singleton.mpr rfl), b', hb', k9 _ _ (.lst []) h9'⟩
          · have e : ¬ u.2 = (i : Int) := of_decide_eq_false e
            refine ⟨ts, g7, h7, by omega, mem, fun z hz hx => ?_⟩
            rcases Nat.lt_or_ge z j with c | c
            · exact cov z c hx
            · obtain rfl : z = j := by omega
              rw [eu] at hx
              omega
        rintro H7 ⟨ts, g7, h7, lts, mem, cov⟩
        rw [List.length_map] at lts cov
        walk_at "ws"
        refine i_list (SqL.of h7) ?_
        intro R2 hR2
        refine lc_it (walk_list (xs := ts.map V.ref)) (fun j H' => ∃ ts2 : List Addr, G none H7 H' ∧ H' R2 = some (.lst (ts2.map V.ref)) ∧ ts2.length ≤ j ∧ (∀ t ∈ ts2, ∃ z b, z < W.length ∧ bs[z]? = some b ∧ (uAt W z).2.toNat = i ∧ cmv W ds n' cs' i p z ≠ 0 ∧ H7 t = some (.tup [.int (cmv W ds n' cs' i p z : Nat), .ref b])) ∧ ∀ t ∈ ts.take j, ∀ z b, H7 t = some (.tup [.int (cmv W ds n' cs' i p z : Nat), .ref b]) → cmv W ds n' cs' i p z ≠ 0 → t ∈ ts2) ⟨[], (G.refl).mut hR2 (fun _ e => nomatch e), upd_same, Nat.le_refl _, (fun _ h => nomatch h), (fun _ h => by simp at h)⟩ (fun j H' _ ⟨_, q, _⟩ => sqL_n q (SqL.of h7)) ?_ ?_
        · rintro j v _ H8 hj ⟨ts2, g8, h8, l2, mem2, cov2⟩ ⟨rfl, hv'⟩
          rw [List.length_map] at hj
          rw [List.getElem?_map] at hv'
          obtain ⟨t, ht, rfl⟩ := Option.map_eq_some_iff.mp hv'
          have tk : ts.take (j + 1) = ts.take j ++ [t] := by rw [List.take_add_one, ht]; rfl
          obtain ⟨z, b', q1, q2, q3, q4⟩ := mem t (List.mem_of_getElem? ht)
          walk_at "ws"
          refine ⟨rfl, ?_⟩
          walk_at "ws"
          refine r_ixT (SqT.of (g8.all _ _ q4)) (v := .int (cmv W ds n' cs' i p z : Nat)) (at_of (j := 0) rfl rfl) ?_
          walk_at "ws"
          refine w_ite (fun e => ?_) (fun e => ?_)
          · have e : ((cmv W ds n' cs' i p z : Nat) : Int) > 0 := of_decide_eq_true e
            walk_at "ws"
            refine ⟨ts2.map V.ref, h8, Nat.lt_of_le_of_lt (by rw [List.length_map]; omega : (ts2.map V.ref).length ≤ 100000) (by decide), ts2 ++ [t], g8.mut hR2 (fun _ e => nomatch e), by rw [upd_same, List.map_append]; rfl, by rw [List.length_append, List.length_singleton]; omega, fun t' ht' => ?_, fun t' ht' z' b2 y1 y2 => ?_⟩
            · rcases List.mem_append.mp ht' with y | y
              · exact mem2 t' y
              · have y : t' = t := by simpa using y
                subst y
                exact ⟨z, b', q1, q2, q3, by omega, q4⟩
            · rw [tk] at ht'
              rcases List.mem_append.mp ht' with y | y
              · exact List.mem_append_left _ (cov2 t' y z' b2 y1 y2)
              · exact List.mem_append_right _ y
          · have e : ¬ ((cmv W ds n' cs' i p z : Nat) : Int) > 0 := of_decide_eq_false e
            refine ⟨ts2, g8, h8, by omega, mem2, fun t' ht' z' b2 y1 y2 => ?_⟩
            rw [tk] at ht'
            rcases List.mem_append.mp ht' with y | y
            · exact cov2 t' y z' b2 y1 y2
            · have y : t' = t := by simpa using y
              subst y
              rw [q4] at y1
              simp only [Option.some.injEq, HO.tup.injEq, List.cons.injEq, V.int.injEq] at y1
              omega
        rintro H8 ⟨ts2, g8, h8, l2, mem2, cov2⟩
        rw [List.length_map, List.take_length] at cov2
        have g68 := g7.trans g8
        have g08 := g6.trans g68
        have S8 := S.n g68
        have canI := can_iff rc wW L hpd
        have some_iff : ts2 ≠ [] ↔ ∃ j, j < W.length ∧ (uAt W j).2.toNat = i ∧ cmv W ds n' cs' i p j ≠ 0 := by
          constructor
          · intro h
            obtain ⟨t, ht⟩ := List.exists_mem_of_ne_nil _ h
            obtain ⟨z, b', q1, _, q3, q4, _⟩ := mem2 t ht
            exact ⟨z, q1, q3, q4⟩
          · rintro ⟨j, q1, q3, q4⟩ h
            obtain ⟨t, m', b', _, y⟩ := cov j (by omega) q3
            have := cov2 t m' j b' y q4
            rw [h] at this
            nomatch this
        have l2' : (ts2.length = 0) ↔ ts2 = [] := List.length_eq_zero_iff
        have hv8 := sqT_t g08.tups hv
        dsimp only
        refine w_ifM (fun b' H' => H' = H8 ∧ (b' = true ↔ (w0 = (i : Int) ∨ ts2 ≠ []))) (fun N4 kN4 => ?_) ?_
        · walk_at "ws"
          refine r_ixT hv8 (v := .int w0) (at_of (j := p.toNat) (by omega) (by rw [List.getElem?_map, hw0]; rfl)) ?_
          walk_at "ws"
          refine w_ite (fun e => ?_) (fun e => ?_)
          · have e : w0 = (i : Int) := of_decide_eq_true e
            exact kN4 _ _ ⟨rfl, fun _ => .inl e, fun _ => rfl⟩
          · have e : ¬ w0 = (i : Int) := of_decide_eq_false e
            walk_at "ws"
            refine ⟨R2, _, rfl, .inl (SqL.of h8), ?_⟩
            walk_at "ws"
            rw [List.length_map]
            refine kN4 _ _ ⟨rfl, ?_⟩
            rw [decide_eq_true_iff]
            constructor
            · intro h; exact .inr fun z => by rw [z] at h; simp at h
            · rintro (h | h)
              · exact absurd h e
              · have : ts2.length ≠ 0 := fun z => h (l2'.mp z)
                omega
        · rintro b' H' ⟨rfl, hb'⟩
          refine w_ite (fun e => ?_) (fun e => ?_)
          · have can : w0 = (i : Int) ∨ ts2 ≠ [] := hb'.mp e
            have canX : ws[p.toNat]? = some (i : Int) ∨ ∃ y : Nat, ((y : Int), (i : Int)) ∈ W ∧ Grow ds y i p ∧ p ∈ (dAt ds y).take (n' y) := by
              have q : Can W ws ds n' i := canI.mpr (by
                rcases can with h | h
                · exact .inl (by rw [hw0, h])
                · exact .inr (some_iff.mp h))
              obtain ⟨p2, h1, h2⟩ := q
              rw [hpd] at h1
              cases h1
              exact h2
            have LU := L.up hpd canX
            clear cov cov2 mem
            refine w_seqM (fun σ H' => ∃ (v5 v12 v13 v14 : Option V) (ls' : List Addr) (cs2 : Nat → Nat), σ = [some (.int (N : Int)), some (.ref wa), some (.ref vp), some (.ref dp), some (.ref dl), v5, some (.ref ld), some (.bl b), some (.int (i : Nat)), some (.int p), some (.ref R), some (.ref R2), v12, v13, v14] ∧ G none H H' ∧ CanN H dl ld rs ls' ∧ CanS W N dl ld rs ls' H' (own_ ds n') (let_ W ds n' cs2) ∧ Led W ws ds (nUp n' i) cs2 ∧ ∀ j, j < W.length → (uAt W j).1.toNat = i → cs2 j ≤ n' i) (fun N5 kN5 => ?_) ?_
            · walk_at "ws"
              refine r_ixT hv8 (v := .int w0) (at_of (j := p.toNat) (by omega) (by rw [List.getElem?_map, hw0]; rfl)) ?_
              walk_at "ws"
              refine w_ite (fun e => ?_) (fun e => ?_)
              · have e : ¬ w0 = (i : Int) := by simpa using e
                have nx : ts2 ≠ [] := can.resolve_left e
                obtain ⟨t, ht⟩ : ∃ t, ts2[0]? = some t := ⟨_, List.getElem?_eq_getElem (List.length_pos_iff.mpr nx)⟩
                obtain ⟨z, b', q1, q2, q3, q4, q5⟩ := mem2 t (List.mem_of_getElem? ht)
                have h8t := g8.all _ _ q5
                obtain ⟨la, hla⟩ : ∃ la, ls[z]? = some la := ⟨_, List.getElem?_eq_getElem (by omega)⟩
                obtain ⟨u, hu⟩ : ∃ u, W[z]? = some u := ⟨_, List.getElem?_eq_getElem (by omega)⟩
                have eu := uAt_of hu
                have hW := web.mem u (List.mem_of_getElem? hu)
                have htb := (tup.g g08 (fun _ e => nomatch e)).2 z b' u q2 hu
                have uy : (uAt W z).1.toNat ≠ i := by
                  rw [eu] at q3 ⊢
                  intro z2
                  exact hW.2.2 (by omega)
                have at0 : (ts2.map V.ref)[0]? = some (.ref t) := by rw [List.getElem?_map, ht]; rfl
                walk_at "ws"
                refine w_dget ?_
                walk_at "ws"
                refine r_ixL (SqL.of h8) (v := .ref t) (at_of (j := 0) rfl at0) ?_
                walk_at "ws"
                refine r_ixT (SqT.of h8t) (v := .ref b') (at_of (j := 1) rfl rfl) ?_
                refine i_dget (web_nodup web) S8.hld htb hu hla ?_
                walk_at "ws"
                refine r_ixL (SqL.of h8) (v := .ref t) (at_of (j := 0) rfl at0) ?_
                walk_at "ws"
                refine r_ixT (SqT.of h8t) (v := .int (cmv W ds n' cs' i p z : Nat)) (at_of (j := 0) rfl rfl) ?_
                refine ⟨_, rfl, ?_⟩
                walk_at "ws"
                refine ⟨la, _, rfl, SqL.of (S8.hls z la hla), fun s1 hs1 => ?_⟩
                rw [cutV_drop]
                have eqL : ((let_ W ds n' cs' z).map V.int).drop (cmv W ds n' cs' i p z) = ((let_ W ds n' cs' z).drop (cmv W ds n' cs' i p z)).map V.int := (List.map_drop ..).symm
                rw [eqL]
                obtain ⟨C2, S2⟩ := S8.cut C (web_nodup web) g08 hu hs1 ((let_ W ds n' cs' z).drop (cmv W ds n' cs' i p z))
                have gs : G none H' (upd H' s1 (.lst (((let_ W ds n' cs' z).drop (cmv W ds n' cs' i p z)).map V.int))) := G.alloc hs1
                generalize upd H' s1 (.lst (((let_ W ds n' cs' z).drop (cmv W ds n' cs' i p z)).map V.int)) = H9 at gs S2 ⊢
                walk_at "ws"
                refine r_ixL (SqL.of (gs.all _ _ h8)) (v := .ref t) (at_of (j := 0) rfl at0) ?_
                walk_at "ws"
                refine r_ixT (SqT.of (gs.all _ _ h8t)) (v := .ref b') (at_of (j := 1) rfl rfl) ?_
                refine ⟨ld, _, rfl, DPut.t (k := keyOfP u) (gs.all _ _ S8.hld) (gs.all _ _ htb) (Nat.lt_of_le_of_lt (dt_len W ls) (Nat.lt_of_le_of_lt l49 (by decide : (49 : Nat) < sizeLine))), ?_⟩
                refine kN5 _ _ ⟨_, _, _, _, ls.set z s1, cUp cs' z (cmv W ds n' cs' i p z), rfl, (g08.trans gs).mut C.hld (fun _ e => nomatch e), C2, S2.fn (fun _ _ => rfl) (fun y hy => ?_), LU.cut L hpd q1 q3 uy rfl q4, fun j hj hx => ?_⟩
                · by_cases c : y = z
                  · subst c
                    rw [if_pos rfl, let_cut]
                  · rw [if_neg c, let_cut_ne c]
                · have c : j ≠ z := fun c => uy (by rw [← c]; exact hx)
                  unfold cUp
                  rw [if_neg c]
                  have := L.c1 j hj
                  rw [hx] at this
                  exact this
              · have e : w0 = (i : Int) := by simpa using e
                walk_at "ws"
                refine kN5 _ _ ⟨_, _, _, _, ls, cs', rfl, g08, C, S8, LU, fun j hj hx => ?_⟩
                have := L.c1 j hj
                rw [hx] at this
                exact this
            · rintro σ H9 ⟨v5, v12, v13, v14, ls', cs2, rfl, g9, C9, S9, L9, c9⟩
              have ll9 := S9.hll
              walk_at "ws"
              refine r_ixL (SqL.of S9.hdl) (v := .ref l) (at_of (j := i) rfl (by rw [List.getElem?_map, hl]; rfl)) ?_
              have hl9 := S9.hrs i l hl
              refine i_BM hl9 ?_
              walk_at "ws"
              refine r_app hl9 (by rw [List.length_map, ol]; omega) ?_
              have S10 := S9.own C9 hl p
              have g10 := g9.mut (l := l) (u := .lst ((own_ ds n' i).map V.int ++ [.int p])) (C9.hrs l (List.mem_of_getElem? hl)) (fun _ e => nomatch e)
              walk_at "ws"
              refine i_tup (sqT_t g10.tups hwa) ?_
              refine for_it (walk_tup (xs := bs.map V.ref)) (fun j σ H' => ∃ v5, σ = [some (.int (N : Int)), some (.ref wa), some (.ref vp), some (.ref dp), some (.ref dl), v5, some (.ref ld), some (.bl b), some (.int (i : Nat)), some (.int p), some (.ref R), some (.ref R2), v12, v13, v14] ∧ G none H H' ∧ CanS W N dl ld rs ls' H' (fun q => own_ ds n' q ++ if q = i then [p] else []) (fun z => let_ W ds n' cs2 z ++ if z < j ∧ (uAt W z).1.toNat = i then [p] else [])) ⟨_, rfl, g10, S10.fn (fun _ _ => rfl) (fun z _ => by rw [if_neg (fun h => Nat.not_lt_zero _ h.1), List.append_nil])⟩ (fun j σ H' _ ⟨_, _, q, _⟩ => sqT_t q.tups hwa) ?_ ?_
              · rintro j v σ _ HA hj ⟨v5, rfl, gA, SA⟩ ⟨rfl, hv'⟩
                rw [List.length_map] at hj
                rw [List.getElem?_map] at hv'
                obtain ⟨b', hb2, rfl⟩ := Option.map_eq_some_iff.mp hv'
                obtain ⟨la, hla⟩ : ∃ la, ls'[j]? = some la := ⟨_, List.getElem?_eq_getElem (by omega)⟩
                obtain ⟨u, hu⟩ : ∃ u, W[j]? = some u := ⟨_, List.getElem?_eq_getElem (by omega)⟩
                have htb := (tup.g gA (fun _ e => nomatch e)).2 j b' u hb2 hu
                have eu := uAt_of hu
                have uw := wW u (List.mem_of_getElem? hu)
                have hlA := SA.hls j la hla
                walk_at "ws"
                refine r_ixT (SqT.of htb) (v := .int u.1) (at_of (j := 0) rfl rfl) ?_
                walk_at "ws"
                refine w_ite (fun e => ?_) (fun e => ?_)
                · have e : u.1 = (i : Int) := of_decide_eq_true e
                  walk_at "ws"
                  refine w_dget ?_
                  walk_at "ws"
                  refine i_dget (web_nodup web) SA.hld htb hu hla ?_
                  refine i_BM hlA ?_
                  walk_at "ws"
                  refine r_app hlA (by
                    rw [List.length_map]
                    have q1 : (let_ W ds n' cs2 j).length ≤ 30 := by
                      unfold let_
                      rw [List.length_drop, own_len L.le]
                      have := L.le (uAt W j).1.toNat
                      have q2 : (dAt ds (uAt W j).1.toNat).length ≤ 30 := by
                        rcases Nat.eq_zero_or_pos (dAt ds (uAt W j).1.toNat).length with y | y
                        · omega
                        · have md := dAt_mem (List.getElem_mem y)
                          have := diary_len (rec.nd _ md) (rec.rng _ md)
                          omega
                      omega
                    have q3 : (let_ W ds n' cs2 j ++ if j < j ∧ (uAt W j).1.toNat = i then [p] else []).length ≤ 31 := by
                      rw [List.length_append]
                      split <;> simp <;> omega
                    omega) ?_
                  walk_at "ws"
                  refine ⟨_, rfl, gA.mut (C9.hls la (List.mem_of_getElem? hla)) (fun _ e => nomatch e), (SA.let' C9 hla p).fn (fun _ _ => rfl) (fun z hz => ?_)⟩
                  by_cases c : z = j
                  · subst c
                    rw [if_pos rfl, if_neg (fun h => Nat.lt_irrefl _ h.1), List.append_nil, if_pos ⟨Nat.lt_succ_self _, by rw [eu, e]; exact Int.toNat_natCast i⟩]
                  · rw [if_neg c, List.append_nil]
                    by_cases c2 : z < j ∧ (uAt W z).1.toNat = i
                    · rw [if_pos c2, if_pos ⟨Nat.lt_succ_of_lt c2.1, c2.2⟩]
                    · rw [if_neg c2, if_neg (fun h => c2 ⟨by omega, h.2⟩)]
                · have e : ¬ u.1 = (i : Int) := of_decide_eq_false e
                  walk_at "ws"
                  refine ⟨_, rfl, gA, SA.fn (fun _ _ => rfl) (fun z hz => ?_)⟩
                  by_cases c2 : z < j ∧ (uAt W z).1.toNat = i
                  · rw [if_pos c2, if_pos ⟨Nat.lt_succ_of_lt c2.1, c2.2⟩]
                  · rw [if_neg c2, if_neg (fun h => c2 ⟨by
                      rcases Nat.lt_or_ge z j with y | y
                      · exact y
                      · obtain rfl : z = j := by omega
                        have := h.2
                        rw [eu] at this
                        omega, h.2⟩)]
              · rintro σ HA ⟨v5, rfl, gA, SA⟩
                rw [List.length_map, lb] at SA
                walk_at "ws"
                refine ⟨true, _, _, _, _, _, _, _, _, ls', nUp n' i, cs2, rfl, gA, C9, SA.fn (fun q _ => ?_) (fun z hz => ?_), L9, (fun h => nomatch h), fun _ => ?_⟩
                · by_cases c : q = i
                  · subst c
                    rw [if_pos rfl, own_up_self hpd]
                  · rw [if_neg c, own_up_ne c, List.append_nil]
                · rw [let_up2 L.le hpd (c9 z hz)]
                  by_cases c : (uAt W z).1.toNat = i
                  · rw [if_pos c, if_pos ⟨hz, c⟩]
                  · rw [if_neg c, if_neg (fun h => c h.2)]
                · rw [tot_up hi]
                  cases b with
                  | false => rw [(bf rfl).1]; exact Nat.lt_succ_self _
                  | true => exact Nat.lt_succ_of_lt (bt rfl)
          · walk_at "ws"
            have no : ¬ (w0 = (i : Int) ∨ ts2 ≠ []) := fun h => by rw [hb'.mpr h] at e; cases e
            refine ⟨b, _, _, _, _, _, _, _, _, ls, n', cs', rfl, g08, C, S8, L, fun hb => ⟨(bf hb).1, fun x hx => ?_⟩, bt⟩
            rcases Nat.lt_or_ge x i with c | c
            · exact (bf hb).2 x c
            · obtain rfl : x = i := by omega
              rw [← (bf hb).1, canI]
              rintro (h | h)
              · rw [hw0] at h
                exact no (.inl (Option.some.inj h))
              · exact no (.inr (some_iff.mpr h))
      · have e : ¬ ((n' i : Nat) : Int) < (d.length : Nat) := of_decide_eq_false e
        walk_at "ws"
        refine ⟨b, _, _, _, _, _, _, _, _, ls, n', cs', rfl, g6, C, S, L, fun hb => ⟨(bf hb).1, fun x hx => ?_⟩, bt⟩
        rcases Nat.lt_or_ge x i with c | c
        · exact (bf hb).2 x c
        · obtain rfl : x = i := by omega
          rintro ⟨p, hp, _⟩
          have := (List.getElem?_eq_some_iff.mp hp).1
          rw [ed, ← (bf hb).1] at this
          omega
    · rintro σ H6 ⟨b, u5, u8, u9, u10, u11, u12, u13, u14, ls, n', cs', rfl, g6, C6, S6, L6, bf, bt⟩
      refine ⟨b, _, _, _, _, _, _, _, _, ls, n', cs', rfl, g6, C6, S6, L6, fun hb x => ?_, ?_⟩
      · obtain ⟨rfl, no⟩ := bf hb
        rcases Nat.lt_or_ge x N with c | c
        · exact no x c
        · rintro ⟨p, hp, _⟩
          have := dAt_lt (List.mem_of_getElem? hp)
          omega
      · have l6 := tot_le L6.le N
        cases b with
        | false =>
          rw [(bf rfl).1]
          simp
        | true =>
          have := bt rfl
          simp only [if_true]
          omega

end
end Mine
/-! ## RM -/
end
namespace Mine
/-! ### a run that leads to a record -/
inductive Stp where
  | put (p : Int)
  | come (y x : Int)
structure LS where
  cur : Int → List Int
  lt : Int × Int → List Int
  done : List Int
/-- a machine writes a put, if it lacks it, and sends it on -/
def LS.wr (s : LS) (x p : Int) : LS := if p ∈ s.cur x then s else ⟨fun z => if z = x then s.cur x ++ [p] else s.cur z, fun u => if u.1 = x then s.lt u ++ [p] else s.lt u, s.done⟩
/-- the put's own step, a letter's step: what the law does -/
def led1 (W : List (Int × Int)) (ws : List Int) (s : LS) : Stp → Option LS
  | .put p => if p ∈ s.done then none else match ws[p.toNat]? with
    | some x => some (LS.wr ⟨s.cur, s.lt, s.done ++ [p]⟩ x p)
    | none => none
  | .come y x => if (y, x) ∈ W then match s.lt (y, x) with
    | [] => none
    | p :: r => some (LS.wr ⟨s.cur, fun u => if u = (y, x) then r else s.lt u, s.done⟩ x p)
    else none
def led (W : List (Int × Int)) (ws : List Int) : LS → List Stp → Option LS
  | s, [] => some s
  | s, t :: ts => match led1 W ws s t with
    | some s' => led W ws s' ts
    | none => none
theorem led_app {W : List (Int × Int)} {ws : List Int} : ∀ {ts us : List Stp} {s s' : LS}, led W ws s ts = some s' → led W ws s (ts ++ us) = led W ws s' us
  | [], us, s, s', h => by
    have e : s = s' := Option.some.inj h
    rw [e]; rfl
  | t :: ts, us, s, s', h => by
    show (match led1 W ws s t with | some s' => led W ws s' (ts ++ us) | none => none) = _
    have h : (match led1 W ws s t with | some s' => led W ws s' ts | none => none) = some s' := h
    cases e : led1 W ws s t with
    | none => rw [e] at h; cases h
    | some z =>
      rw [e] at h
      exact led_app h
/-- a writing: where it stands, how far off its writer, the put, the machine, from where -/
structure Wri where
  k : Nat
  far : Nat
  p : Int
  x : Int
  g : Option Int
abbrev dA (ds : List (List Int)) (x : Int) : List Int := dAt ds x.toNat
def stepsOf (ds : List (List Int)) (c : Int × Int → Nat) (w : Wri) : List Stp := match w.g with
  | none => [.put w.p]
  | some y => List.replicate ((dA ds y).idxOf w.p + 1 - c (y, w.x)) (.come y w.x)
def nextC (ds : List (List Int)) (c : Int × Int → Nat) (w : Wri) : Int × Int → Nat := match w.g with
  | none => c
  | some y => fun u => if u = (y, w.x) then (dA ds y).idxOf w.p + 1 else c u
def runS (ds : List (List Int)) : (Int × Int → Nat) → List Wri → List Stp
  | _, [] => []
  | c, w :: L => stepsOf ds c w ++ runS ds (nextC ds c w) L
structure WrOk (W : List (Int × Int)) (ws : List Int) (ds : List (List Int)) (A : List Wri) : Prop where
  nd : ∀ x, (dA ds x).Nodup
  wne : ∀ u ∈ W, u.1 ≠ u.2
  at_ : ∀ w ∈ A, (dA ds w.x)[w.k]? = some w.p
  all : ∀ w ∈ A, ∀ j, j < w.k → ∃ w' ∈ A, w'.x = w.x ∧ w'.k = j
  one : ∀ w ∈ A, ∀ w' ∈ A, w.x = w'.x → w.k = w'.k → w = w'
  own : ∀ w ∈ A, w.g = none → ws[w.p.toNat]? = some w.x
  giv : ∀ w ∈ A, ∀ y, w.g = some y → (y, w.x) ∈ W ∧ Grow ds y.toNat w.x.toNat w.p ∧ (dA ds y).idxOf w.p ≤ (dA ds w.x).idxOf w.p ∧ ∃ w' ∈ A, w'.x = y ∧ w'.p = w.p ∧ w'.far < w.far
  dup : A.Nodup
def wle (w w' : Wri) : Prop := w.k < w'.k ∨ w.k = w'.k ∧ w.far ≤ w'.far
structure Inv8 (W : List (Int × Int)) (ds : List (List Int)) (Pr L : List Wri) (n : Int → Nat) (c : Int × Int → Nat) (s : LS) : Prop where
  cur : ∀ x, s.cur x = (dA ds x).take (n x)
  lt : ∀ u ∈ W, s.lt u = ((dA ds u.1).take (n u.1)).drop (c u)
  cn : ∀ u, c u ≤ n u.1
  nl : ∀ x, n x ≤ (dA ds x).length
  pr : ∀ w ∈ Pr, w.k < n w.x
  rest : ∀ w ∈ L, n w.x ≤ w.k
  done : ∀ p ∈ s.done, ∃ w ∈ Pr, w.g = none ∧ w.p = p
  tk : ∀ u, c u = 0 ∨ ∃ w ∈ Pr, w.x = u.2 ∧ w.g = some u.1 ∧ c u = (dA ds u.1).idxOf w.p + 1
theorem idx8_at {d : List Int} (nd : d.Nodup) {k : Nat} {p : Int} (h : d[k]? = some p) : d.idxOf p = k := by
  obtain ⟨hk, e⟩ := List.getElem?_eq_some_iff.mp h
  have m : p ∈ d := List.mem_of_getElem? h
  have z := List.idxOf_lt_length_iff.mpr m
  exact nd_at nd z hk (by rw [List.getElem_idxOf, e])
theorem take_one {d : List Int} {k : Nat} {p : Int} (h : d[k]? = some p) : d.take (k + 1) = d.take k ++ [p] := by
  rw [List.take_add_one, h]; rfl
/-- letters that are there already are read over -/
theorem led_over {W : List (Int × Int)} {ws : List Int} {y x : Int} (hW : (y, x) ∈ W) : ∀ (ls : List Int) (r : List Int) (s : LS), s.lt (y, x) = ls ++ r → (∀ l ∈ ls, l ∈ s.cur x) → ∃ s', led W ws s (List.replicate ls.length (.come y x)) = some s' ∧ s'.cur = s.cur ∧ s'.done = s.done ∧ s'.lt (y, x) = r ∧ ∀ u, u ≠ (y, x) → s'.lt u = s.lt u
  | [], r, s, e, _ => ⟨s, rfl, rfl, rfl, e, fun _ _ => rfl⟩
  | l :: ls, r, s, e, h => by
    have e1 : led1 W ws s (.come y x) = some ⟨s.cur, fun u => if u = (y, x) then ls ++ r else s.lt u, s.done⟩ := by
      show (if (y, x) ∈ W then (match s.lt (y, x) with | [] => none | p :: r => some (LS.wr ⟨s.cur, fun u => if u = (y, x) then r else s.lt u, s.done⟩ x p)) else none) = _
      rw [if_pos hW, e]
      show some (LS.wr _ x l) = _
      unfold LS.wr
      rw [if_pos (h l (List.mem_cons_self ..))]
      rfl
    obtain ⟨s', q1, q2, q3, q4, q5⟩ := led_over hW (ws := ws) ls r ⟨s.cur, fun u => if u = (y, x) then ls ++ r else s.lt u, s.done⟩ (if_pos rfl) fun z hz => h z (List.mem_cons_of_mem _ hz)
    refine ⟨s', ?_, q2, q3, q4, fun u n => by rw [q5 u n]; exact if_neg n⟩
    show (match led1 W ws s (.come y x) with | some s' => led W ws s' (List.replicate ls.length (.come y x)) | none => none) = _
    rw [e1]
    exact q1
/-- what stands ahead in the order is done already -/
theorem ahead8 {Pr L : List Wri} {w w' : Wri} (srt : (Pr ++ w :: L).Pairwise wle) (m : w' ∈ Pr ++ w :: L) (h : w'.k < w.k ∨ w'.k = w.k ∧ w'.far < w.far) : w' ∈ Pr := by
  rcases List.mem_append.mp m with q | q
  · exact q
  · exfalso
    have s2 : (w :: L).Pairwise wle := (List.pairwise_append.mp srt).2.1
    rcases List.mem_cons.mp q with e | e
    · subst e
      omega
    · have := List.rel_of_pairwise_cons s2 e
      unfold wle at this
      omega
theorem step8 {W : List (Int × Int)} {ws : List Int} {ds : List (List Int)} {Pr L : List Wri} {w : Wri} {n : Int → Nat} {c : Int × Int → Nat} {s : LS} (ok : WrOk W ws ds (Pr ++ w :: L)) (srt : (Pr ++ w :: L).Pairwise wle) (I : Inv8 W ds Pr (w :: L) n c s) :
    ∃ s', led W ws s (stepsOf ds c w) = some s' ∧ Inv8 W ds (Pr ++ [w]) L (fun z => if z = w.x then n w.x + 1 else n z) (nextC ds c w) s' := by
  have wA : w ∈ Pr ++ w :: L := List.mem_append_right _ (List.mem_cons_self ..)
  have inA : ∀ {z}, z ∈ Pr → z ∈ Pr ++ w :: L := fun h => List.mem_append_left _ h
  have nw : n w.x = w.k := by
    have h1 := I.rest w (List.mem_cons_self ..)
    rcases Nat.lt_or_ge (n w.x) w.k with h | h
    · obtain ⟨w', m, e1, e2⟩ := ok.all w wA (n w.x) h
      have := I.pr w' (ahead8 srt m (.inl (by omega)))
      rw [e1] at this
      omega
    · omega
  have hw := ok.at_ w wA
  have hk := (List.getElem?_eq_some_iff.mp hw).1
  have ix := idx8_at (ok.nd w.x) hw
  have cur0 : s.cur w.x = (dA ds w.x).take w.k := by rw [I.cur, nw]
  have pm : w.p ∈ dA ds w.x := List.mem_of_getElem? hw
  have pn : w.p ∉ s.cur w.x := by
    rw [cur0, mem_take_idx (ok.nd w.x) pm]
    omega
  -- what the writing makes of a state that has read what it had to
  have fin : ∀ (c' : Int × Int → Nat) (s1 : LS), s1.cur = s.cur → (∀ u ∈ W, s1.lt u = ((dA ds u.1).take (n u.1)).drop (c' u)) → (∀ u, c' u ≤ n u.1) →
      (∀ p ∈ s1.done, ∃ v ∈ Pr ++ [w], v.g = none ∧ v.p = p) → (∀ u, c' u = 0 ∨ ∃ v ∈ Pr ++ [w], v.x = u.2 ∧ v.g = some u.1 ∧ c' u = (dA ds u.1).idxOf v.p + 1) →
      Inv8 W ds (Pr ++ [w]) L (fun z => if z = w.x then n w.x + 1 else n z) c' (s1.wr w.x w.p) := fun c' s1 ec el ecn ed et => by
    have e : s1.wr w.x w.p = ⟨fun z => if z = w.x then s1.cur w.x ++ [w.p] else s1.cur z, fun u => if u.1 = w.x then s1.lt u ++ [w.p] else s1.lt u, s1.done⟩ := by
      unfold LS.wr
      rw [if_neg (by rw [ec]; exact pn)]
    rw [e]
    refine ⟨fun z => ?_, fun u hu => ?_, fun u => ?_, fun z => ?_, fun v hv => ?_, fun v hv => ?_, ed, et⟩
    · show (if z = w.x then s1.cur w.x ++ [w.p] else s1.cur z) = (dA ds z).take (if z = w.x then n w.x + 1 else n z)
      split
      · rename_i h
        subst h
        rw [ec, cur0, nw, take_one hw]
      · rw [ec, I.cur]
    · show (if u.1 = w.x then s1.lt u ++ [w.p] else s1.lt u) = ((dA ds u.1).take (if u.1 = w.x then n w.x + 1 else n u.1)).drop (c' u)
      split
      · rename_i h
        have a1 := ecn u
        rw [el u hu, h, nw, take_one hw, List.drop_append_of_le_length (by rw [List.length_take]; rw [h, nw] at a1; omega)]
      · exact el u hu
    · show c' u ≤ (if u.1 = w.x then n w.x + 1 else n u.1)
      have a1 := ecn u
      split
      · rename_i h
        rw [h] at a1
        omega
      · exact a1
    · show (if z = w.x then n w.x + 1 else n z) ≤ _
      split
      · rename_i h
        subst h
        omega
      · exact I.nl z
    · show v.k < (if v.x = w.x then n w.x + 1 else n v.x)
      rcases List.mem_append.mp hv with q | q
      · have := I.pr v q
        split
        · rename_i h
          rw [h] at this
          omega
        · exact this
      · have e : v = w := by simpa using q
        subst e
        rw [if_pos rfl]
        omega
    · show (if v.x = w.x then n w.x + 1 else n v.x) ≤ v.k
      have h1 := I.rest v (List.mem_cons_of_mem _ hv)
      split
      · rename_i h
        rw [h, nw] at h1
        have ne : v.k ≠ w.k := fun e => by
          have vA : v ∈ Pr ++ w :: L := List.mem_append_right _ (List.mem_cons_of_mem _ hv)
          have := ok.one v vA w wA h e
          subst this
          have d2 : (v :: L).Nodup := (List.nodup_append.mp ok.dup).2.1
          exact (List.nodup_cons.mp d2).1 hv
        omega
      · exact h1
  unfold stepsOf nextC
  cases eg : w.g with
  | none =>
    have ow := ok.own w wA eg
    have nd : w.p ∉ s.done := fun h => by
      obtain ⟨v, hv, g1, g2⟩ := I.done _ h
      have ov := ok.own v (inA hv) g1
      rw [g2, ow] at ov
      have ex : w.x = v.x := Option.some.inj ov
      have hv2 := ok.at_ v (inA hv)
      have iv := idx8_at (ok.nd v.x) hv2
      rw [← ex, g2, ix] at iv
      have := ok.one w wA v (inA hv) ex iv
      subst this
      have := (List.nodup_append.mp ok.dup).2.2 w hv w (List.mem_cons_self ..)
      exact this rfl
    refine ⟨LS.wr ⟨s.cur, s.lt, s.done ++ [w.p]⟩ w.x w.p, ?_, ?_⟩
    · show (match led1 W ws s (.put w.p) with | some s' => led W ws s' [] | none => none) = _
      have e1 : led1 W ws s (.put w.p) = some (LS.wr ⟨s.cur, s.lt, s.done ++ [w.p]⟩ w.x w.p) := by
        show (if w.p ∈ s.done then none else (match ws[w.p.toNat]? with | some x => some (LS.wr ⟨s.cur, s.lt, s.done ++ [w.p]⟩ x w.p) | none => none)) = _
        rw [if_neg nd, ow]
      rw [e1]; rfl
    · refine fin c ⟨s.cur, s.lt, s.done ++ [w.p]⟩ rfl I.lt I.cn (fun p hp => ?_) (fun u => ?_)
      · rcases List.mem_append.mp hp with q | q
        · obtain ⟨v, hv, z⟩ := I.done p q
          exact ⟨v, List.mem_append_left _ hv, z⟩
        · have e : p = w.p := by simpa using q
          exact ⟨w, by simp, eg, e.symm⟩
      · rcases I.tk u with z | ⟨v, hv, z⟩
        · exact .inl z
        · exact .inr ⟨v, List.mem_append_left _ hv, z⟩
  | some y =>
    obtain ⟨hW, gr, pos, w', m', x', p', f'⟩ := ok.giv w wA y eg
    have yx : y ≠ w.x := ok.wne _ hW
    have ix' := idx8_at (ok.nd w'.x) (ok.at_ w' m')
    rw [x', p'] at ix'
    have wP : w' ∈ Pr := ahead8 srt m' (by omega)
    have ny := I.pr w' wP
    rw [x', ← ix'] at ny
    obtain ⟨j, hj⟩ : ∃ j, (dA ds y).idxOf w.p = j := ⟨_, rfl⟩
    rw [hj] at ny
    have py : w.p ∈ dA ds y := gr.1
    have hjl : j < (dA ds y).length := by rw [← hj]; exact List.idxOf_lt_length_iff.mpr py
    have hjp : (dA ds y)[j]? = some w.p := by
      rw [List.getElem?_eq_getElem hjl]
      congr 1
      have := List.getElem_idxOf (xs := dA ds y) (x := w.p) (List.idxOf_lt_length_iff.mpr py)
      simp only [hj] at this
      exact this
    have cj : c (y, w.x) ≤ j := by
      rcases I.tk (y, w.x) with z | ⟨v, hv, vx, vg, z⟩
      · omega
      · obtain ⟨_, gv, _⟩ := ok.giv v (inA hv) y vg
        have vx : v.x = w.x := vx
        have kv := I.pr v hv
        rw [vx, nw] at kv
        have iv := idx8_at (ok.nd v.x) (ok.at_ v (inA hv))
        rw [vx] at iv gv
        have z : c (y, w.x) = (dA ds y).idxOf v.p + 1 := z
        rcases Nat.lt_or_ge ((dA ds y).idxOf v.p) j with h | h
        · omega
        · exfalso
          have npp : v.p ≠ w.p := fun e => by rw [e, ix] at iv; omega
          have lt2 : j < (dA ds y).idxOf v.p := by
            rcases Nat.lt_or_ge j ((dA ds y).idxOf v.p) with q | q
            · exact q
            · exfalso
              have e : (dA ds y).idxOf v.p = j := by omega
              have hv2 := List.getElem_idxOf (xs := dA ds y) (x := v.p) (List.idxOf_lt_length_iff.mpr gv.1)
              simp only [e] at hv2
              rw [List.getElem?_eq_getElem hjl, hv2] at hjp
              exact npp (Option.some.inj hjp)
          have a1 : w.p ∈ aheadOf (dA ds y) v.p := (mem_take_idx (ok.nd y) py).mpr (by rw [hj]; exact lt2)
          have a2 := gv.2.2 _ a1
          have a3 := (mem_take_idx (ok.nd w.x) pm).mp a2
          rw [ix, iv] at a3
          omega
    have el := I.lt _ hW
    have split_ : s.lt (y, w.x) = ((dA ds y).take j).drop (c (y, w.x)) ++ (w.p :: ((dA ds y).take (n y)).drop (j + 1)) := by
      rw [el]
      show ((dA ds y).take (n y)).drop (c (y, w.x)) = _
      have e1 : (dA ds y).take (n y) = (dA ds y).take j ++ (w.p :: ((dA ds y).take (n y)).drop (j + 1)) := by
        have e2 : ((dA ds y).take (n y))[j]? = some w.p := by rw [List.getElem?_take_of_lt ny]; exact hjp
        obtain ⟨h1, h2⟩ := List.getElem?_eq_some_iff.mp e2
        have e3 := List.take_append_drop j ((dA ds y).take (n y))
        rw [List.take_take, Nat.min_eq_left (by omega), List.drop_eq_getElem_cons h1, h2] at e3
        exact e3.symm
      rw [e1, List.drop_append_of_le_length (by rw [List.length_take]; omega)]
      congr 2
      rw [← e1]
    have over : ∀ l ∈ ((dA ds y).take j).drop (c (y, w.x)), l ∈ s.cur w.x := fun l hl => by
      have h1 : l ∈ aheadOf (dA ds y) w.p := by
        show l ∈ (dA ds y).take ((dA ds y).idxOf w.p)
        rw [hj]
        exact List.mem_of_mem_drop hl
      have h2 := gr.2.2 l h1
      rw [cur0]
      have : aheadOf (dA ds w.x) w.p = (dA ds w.x).take w.k := by unfold aheadOf; rw [ix]
      rw [← this]
      exact h2
    have len : (((dA ds y).take j).drop (c (y, w.x))).length = j - c (y, w.x) := by rw [List.length_drop, List.length_take]; omega
    obtain ⟨s1, q1, q2, q3, q4, q5⟩ := led_over (ws := ws) hW _ _ s split_ over
    rw [len] at q1
    have rep : List.replicate (j + 1 - c (y, w.x)) (Stp.come y w.x) = List.replicate (j - c (y, w.x)) (Stp.come y w.x) ++ [Stp.come y w.x] := by
      rw [show j + 1 - c (y, w.x) = (j - c (y, w.x)) + 1 from by omega, List.replicate_succ']
    obtain ⟨s2, hs2⟩ : ∃ s2 : LS, s2 = ⟨s1.cur, fun u => if u = (y, w.x) then ((dA ds y).take (n y)).drop (j + 1) else s1.lt u, s1.done⟩ := ⟨_, rfl⟩
    refine ⟨s2.wr w.x w.p, ?_, ?_⟩
    · show led W ws s (List.replicate ((dA ds y).idxOf w.p + 1 - c (y, w.x)) (.come y w.x)) = _
      rw [hj, rep, led_app q1]
      have e1 : led1 W ws s1 (.come y w.x) = some (s2.wr w.x w.p) := by
        show (if (y, w.x) ∈ W then (match s1.lt (y, w.x) with | [] => none | p :: r => some (LS.wr ⟨s1.cur, fun u => if u = (y, w.x) then r else s1.lt u, s1.done⟩ w.x p)) else none) = _
        rw [if_pos hW, q4, hs2]
      show (match led1 W ws s1 (.come y w.x) with | some s' => led W ws s' [] | none => none) = _
      rw [e1]; rfl
    · refine fin _ s2 (by rw [hs2]; exact q2) (fun u hu => ?_) (fun u => ?_) (fun p hp => ?_) (fun u => ?_)
      · rw [hs2]
        show (if u = (y, w.x) then ((dA ds y).take (n y)).drop (j + 1) else s1.lt u) = ((dA ds u.1).take (n u.1)).drop (if u = (y, w.x) then (dA ds y).idxOf w.p + 1 else c u)
        by_cases h : u = (y, w.x)
        · subst h
          rw [if_pos rfl, if_pos rfl, hj]
        · rw [if_neg h, if_neg h, q5 u h, I.lt u hu]
      · show (if u = (y, w.x) then (dA ds y).idxOf w.p + 1 else c u) ≤ n u.1
        by_cases h : u = (y, w.x)
        · subst h
          rw [if_pos rfl, hj]
          exact ny
        · rw [if_neg h]
          exact I.cn u
      · have hp : p ∈ s.done := by rw [hs2] at hp; rw [← q3]; exact hp
        obtain ⟨v, hv, z⟩ := I.done p hp
        exact ⟨v, List.mem_append_left _ hv, z⟩
      · show (if u = (y, w.x) then (dA ds y).idxOf w.p + 1 else c u) = 0 ∨ ∃ v ∈ Pr ++ [w], v.x = u.2 ∧ v.g = some u.1 ∧ (if u = (y, w.x) then (dA ds y).idxOf w.p + 1 else c u) = _
        by_cases h : u = (y, w.x)
        · subst h
          rw [if_pos rfl]
          exact .inr ⟨w, by simp, rfl, eg, rfl⟩
        · rw [if_neg h]
          rcases I.tk u with z | ⟨v, hv, z⟩
          · exact .inl z
          · exact .inr ⟨v, List.mem_append_left _ hv, z⟩
theorem runs8 {W : List (Int × Int)} {ws : List Int} {ds : List (List Int)} : ∀ (L Pr : List Wri) (n : Int → Nat) (c : Int × Int → Nat) (s : LS), WrOk W ws ds (Pr ++ L) → (Pr ++ L).Pairwise wle → Inv8 W ds Pr L n c s → ∃ (s' : LS) (n' : Int → Nat) (c' : Int × Int → Nat), led W ws s (runS ds c L) = some s' ∧ Inv8 W ds (Pr ++ L) [] n' c' s'
  | [], Pr, n, c, s, _, _, I => ⟨s, n, c, rfl, by rw [List.append_nil]; exact I⟩
  | w :: L, Pr, n, c, s, ok, srt, I => by
    obtain ⟨s1, h1, I1⟩ := step8 ok srt I
    have e : Pr ++ w :: L = (Pr ++ [w]) ++ L := by rw [List.append_assoc]; rfl
    rw [e] at ok srt
    obtain ⟨s', n', c', h2, I2⟩ := runs8 L (Pr ++ [w]) _ _ s1 ok srt I1
    refine ⟨s', n', c', ?_, by rw [e]; exact I2⟩
    show led W ws s (stepsOf ds c w ++ runS ds (nextC ds c w) L) = _
    rw [led_app h1]
    exact h2
def ls0 : LS := ⟨fun _ => [], fun _ => [], []⟩
/-- the steps that are told for all writings in their order lead to the diaries -/
theorem run8 {W : List (Int × Int)} {ws : List Int} {ds : List (List Int)} {A : List Wri} (ok : WrOk W ws ds A) (srt : A.Pairwise wle) (full : ∀ (x : Int) (k : Nat), 0 ≤ x → k < (dA ds x).length → ∃ w ∈ A, w.x = x ∧ w.k = k) :
    ∃ s', led W ws ls0 (runS ds (fun _ => 0) A) = some s' ∧ ∀ x, 0 ≤ x → s'.cur x = dA ds x := by
  obtain ⟨s', n', c', h, I⟩ := runs8 (W := W) (ws := ws) (ds := ds) A [] (fun _ => 0) (fun _ => 0) ls0 ok srt
    ⟨fun x => by simp [ls0], fun u _ => by simp [ls0], fun _ => Nat.le_refl _, fun _ => Nat.zero_le _, fun _ h => (by cases h), fun _ _ => Nat.zero_le _, fun _ h => (by simp [ls0] at h), fun _ => .inl rfl⟩
  refine ⟨s', h, fun x x0 => ?_⟩
  rw [I.cur]
  refine List.take_of_length_le ?_
  rcases Nat.lt_or_ge (n' x) (dA ds x).length with q | q
  · obtain ⟨w, m, e1, e2⟩ := full x _ x0 q
    have := I.pr w m
    rw [e1] at this
    omega
  · exact q
end Mine
/-! ## RS -/
namespace Mine
/-! ### what a run leads to was made -/
theorem idx_app {p : Int} {e : List Int} : ∀ {d : List Int}, p ∈ d → (d ++ e).idxOf p = d.idxOf p
  | [], h => nomatch h
  | a :: d, h => by
    rw [List.cons_append, List.idxOf_cons, List.idxOf_cons]
    by_cases c : a = p
    · subst c; simp
    · have b : (a == p) = false := by simpa using c
      rw [b]
      show (d ++ e).idxOf p + 1 = d.idxOf p + 1
      rw [idx_app ((List.mem_cons.mp h).resolve_left fun z => c z.symm)]
theorem idx_new {p : Int} : ∀ {d : List Int}, p ∉ d → (d ++ [p]).idxOf p = d.length
  | [], _ => by simp
  | a :: d, h => by
    rw [List.cons_append, List.idxOf_cons]
    have c : ¬ a = p := fun e => h (by rw [e]; exact List.mem_cons_self ..)
    have b : (a == p) = false := by simpa using c
    rw [b]
    show (d ++ [p]).idxOf p + 1 = _
    rw [idx_new fun z => h (List.mem_cons_of_mem _ z)]; rfl
theorem ahead_app {d e : List Int} {p : Int} (h : p ∈ d) : aheadOf (d ++ e) p = aheadOf d p := by
  unfold aheadOf
  rw [idx_app h, List.take_append_of_le_length (Nat.le_of_lt (List.idxOf_lt_length_iff.mpr h))]
theorem ahead_new {d : List Int} {p : Int} (h : p ∉ d) : aheadOf (d ++ [p]) p = d := by
  unfold aheadOf
  rw [idx_new h, List.take_left]
/-- grown over (y, x) for p, as the diaries stand -/
def GrowC (cur : Int → List Int) (y x p : Int) : Prop := p ∈ cur y ∧ p ∈ cur x ∧ ∀ q ∈ aheadOf (cur y) p, q ∈ aheadOf (cur x) p
inductive RC (W : List (Int × Int)) (cur : Int → List Int) (p w : Int) : Int → Prop where
  | refl : RC W cur p w w
  | step {y x : Int} : RC W cur p w y → (y, x) ∈ W → GrowC cur y x p → RC W cur p w x
structure Snd (W : List (Int × Int)) (ws : List Int) (s : LS) : Prop where
  nd : ∀ x, (s.cur x).Nodup
  sub : ∀ x, ∀ p ∈ s.cur x, p ∈ s.done
  dnd : s.done.Nodup
  rng : ∀ p ∈ s.done, 0 ≤ p ∧ p < ws.length
  own : ∀ p ∈ s.done, ∀ w, ws[p.toNat]? = some w → p ∈ s.cur w
  lt : ∀ y x, (y, x) ∈ W → ∃ k, k ≤ (s.cur y).length ∧ s.lt (y, x) = (s.cur y).drop k ∧ ∀ q ∈ (s.cur y).take k, q ∈ s.cur x
  rch : ∀ x, ∀ p ∈ s.cur x, ∀ w, ws[p.toNat]? = some w → RC W s.cur p w x
theorem snd0 (W : List (Int × Int)) (ws : List Int) : Snd W ws ls0 :=
  ⟨(fun _ => List.nodup_nil), (fun _ _ h => nomatch h), List.nodup_nil, (fun _ h => nomatch h), (fun _ h => nomatch h), (fun _ _ _ => ⟨0, Nat.le_refl _, rfl, (fun _ h => nomatch h)⟩), (fun _ _ h => nomatch h)⟩
theorem wr_snd {W : List (Int × Int)} {ws : List Int} {s : LS} {x p : Int} (wne : ∀ u ∈ W, u.1 ≠ u.2) (nd : ∀ x, (s.cur x).Nodup) (sub : ∀ x, ∀ p ∈ s.cur x, p ∈ s.done) (dnd : s.done.Nodup) (rng : ∀ p ∈ s.done, 0 ≤ p ∧ p < ws.length)
    (own : ∀ q ∈ s.done, ∀ w, ws[q.toNat]? = some w → q ∈ s.cur w ∨ (q = p ∧ w = x))
    (lt : ∀ y x', (y, x') ∈ W → ∃ k, k ≤ (s.cur y).length ∧ s.lt (y, x') = (s.cur y).drop k ∧ ∀ q ∈ (s.cur y).take k, q ∈ s.cur x' ∨ (q = p ∧ x' = x))
    (rch : ∀ x, ∀ p ∈ s.cur x, ∀ w, ws[p.toNat]? = some w → RC W s.cur p w x) (pd : p ∈ s.done)
    (from_ : p ∈ s.cur x ∨ ws[p.toNat]? = some x ∨ ∃ y, (y, x) ∈ W ∧ p ∈ s.cur y ∧ ∀ q ∈ aheadOf (s.cur y) p, q ∈ s.cur x) : Snd W ws (s.wr x p) := by
  by_cases c : p ∈ s.cur x
  · have e : s.wr x p = s := by unfold LS.wr; rw [if_pos c]
    rw [e]
    refine ⟨nd, sub, dnd, rng, fun q hq w hw => ?_, fun y x' h => ?_, rch⟩
    · rcases own q hq w hw with z | ⟨rfl, rfl⟩
      · exact z
      · exact c
    · obtain ⟨k, k0, k1, k2⟩ := lt y x' h
      refine ⟨k, k0, k1, fun q hq => ?_⟩
      rcases k2 q hq with z | ⟨rfl, rfl⟩
      · exact z
      · exact c
  · have e : s.wr x p = ⟨fun z => if z = x then s.cur x ++ [p] else s.cur z, fun u => if u.1 = x then s.lt u ++ [p] else s.lt u, s.done⟩ := by unfold LS.wr; rw [if_neg c]
    rw [e]
    obtain ⟨cur', hc⟩ : ∃ cur' : Int → List Int, cur' = fun z => if z = x then s.cur x ++ [p] else s.cur z := ⟨_, rfl⟩
    have cx : cur' x = s.cur x ++ [p] := by rw [hc]; exact if_pos rfl
    have cz : ∀ z, z ≠ x → cur' z = s.cur z := fun z n => by rw [hc]; exact if_neg n
    have mono : ∀ z q, q ∈ s.cur z → q ∈ cur' z := fun z q h => by
      by_cases n : z = x
      · subst n; rw [cx]; exact List.mem_append_left _ h
      · rw [cz z n]; exact h
    have ah : ∀ z q, q ∈ s.cur z → aheadOf (cur' z) q = aheadOf (s.cur z) q := fun z q h => by
      by_cases n : z = x
      · subst n; rw [cx]; exact ahead_app h
      · rw [cz z n]
    have inv : ∀ z q, q ∈ cur' z → q ∈ s.cur z ∨ (q = p ∧ z = x) := fun z q h => by
      by_cases n : z = x
      · subst n
        rw [cx] at h
        rcases List.mem_append.mp h with h | h
        · exact .inl h
        · exact .inr ⟨by simpa using h, rfl⟩
      · rw [cz z n] at h
        exact .inl h
    have rc : ∀ {q w z}, RC W s.cur q w z → RC W cur' q w z := fun {q w z} r => by
      induction r with
      | refl => exact .refl
      | step _ h1 h2 ih => exact .step ih h1 ⟨mono _ _ h2.1, mono _ _ h2.2.1, fun a ha => by rw [ah _ _ h2.1] at ha; rw [ah _ _ h2.2.1]; exact h2.2.2 a ha⟩
    rw [← hc]
    refine ⟨fun z => ?_, fun z q hq => ?_, dnd, rng, fun q hq w hw => ?_, fun y x' h => ?_, fun z q hq w hw => ?_⟩
    · show (cur' z).Nodup
      by_cases n : z = x
      · subst n
        rw [cx]
        refine List.nodup_append.mpr ⟨nd _, by simp, fun a ha b hb e => ?_⟩
        have : b = p := by simpa using hb
        rw [e, this] at ha
        exact c ha
      · rw [cz z n]; exact nd z
    · rcases inv z q hq with h | ⟨rfl, _⟩
      · exact sub z q h
      · exact pd
    · rcases own q hq w hw with h | ⟨rfl, rfl⟩
      · exact mono _ _ h
      · show q ∈ cur' w
        rw [cx]; simp
    · obtain ⟨k, k0, k1, k2⟩ := lt y x' h
      have m2 : ∀ q, (q ∈ s.cur x' ∨ (q = p ∧ x' = x)) → q ∈ cur' x' := fun q hq => by
        rcases hq with z | ⟨rfl, rfl⟩
        · exact mono _ _ z
        · rw [cx]; simp
      by_cases n : y = x
      · subst n
        refine ⟨k, ?_, ?_, fun q hq => ?_⟩
        · show k ≤ (cur' y).length
          rw [cx, List.length_append]; omega
        · show (if (y, x').1 = y then s.lt (y, x') ++ [p] else s.lt (y, x')) = (cur' y).drop k
          rw [if_pos rfl, k1, cx, List.drop_append_of_le_length k0]
        · have hq : q ∈ (cur' y).take k := hq
          rw [cx, List.take_append_of_le_length k0] at hq
          exact m2 q (k2 q hq)
      · refine ⟨k, ?_, ?_, fun q hq => ?_⟩
        · show k ≤ (cur' y).length
          rw [cz y n]; exact k0
        · show (if (y, x').1 = x then s.lt (y, x') ++ [p] else s.lt (y, x')) = (cur' y).drop k
          rw [if_neg n, cz y n]; exact k1
        · have hq : q ∈ (cur' y).take k := hq
          rw [cz y n] at hq
          exact m2 q (k2 q hq)
    · show RC W cur' q w z
      rcases inv z q hq with h | ⟨rfl, rfl⟩
      · exact rc (rch z q h w hw)
      · rcases from_ with h | h | ⟨y, h1, h2, h3⟩
        · exact absurd h c
        · rw [hw] at h
          cases h
          exact .refl
        · have ny : y ≠ z := wne _ h1
          refine .step (rc (rch y q h2 w hw)) h1 ⟨mono _ _ h2, by rw [cx]; simp, fun a ha => ?_⟩
          rw [ah _ _ h2] at ha
          rw [cx, ahead_new c]
          exact h3 a ha
theorem led1_snd {W : List (Int × Int)} {ws : List Int} (wne : ∀ u ∈ W, u.1 ≠ u.2) {s s' : LS} (S : Snd W ws s) : ∀ {st : Stp}, (∀ p, st = .put p → 0 ≤ p) → led1 W ws s st = some s' → Snd W ws s'
  | .put p, pos, h => by
    have p0 := pos p rfl
    have h : (if p ∈ s.done then none else (match ws[p.toNat]? with | some x => some (LS.wr ⟨s.cur, s.lt, s.done ++ [p]⟩ x p) | none => none)) = some s' := h
    by_cases c : p ∈ s.done
    · rw [if_pos c] at h; cases h
    rw [if_neg c] at h
    obtain ⟨x, hx⟩ : ∃ x, ws[p.toNat]? = some x := by
      cases e : ws[p.toNat]? with
      | none => rw [e] at h; cases h
      | some z => exact ⟨z, rfl⟩
    rw [hx] at h
    have h : LS.wr ⟨s.cur, s.lt, s.done ++ [p]⟩ x p = s' := Option.some.inj h
    rw [← h]
    refine wr_snd wne S.nd (fun z q hq => List.mem_append_left _ (S.sub z q hq)) ?_ (fun q hq => ?_) (fun q hq w hw => ?_) (fun y x' h => ?_) S.rch (by simp) (.inr (.inl hx))
    · refine List.nodup_append.mpr ⟨S.dnd, by simp, fun a ha b hb e => ?_⟩
      have : b = p := by simpa using hb
      rw [e, this] at ha
      exact c ha
    · rcases List.mem_append.mp hq with h | h
      · exact S.rng q h
      · have e : q = p := by simpa using h
        have := (List.getElem?_eq_some_iff.mp hx).1
        rw [e]
        omega
    · rcases List.mem_append.mp hq with h | h
      · exact .inl (S.own q h w hw)
      · have e : q = p := by simpa using h
        subst e
        rw [hx] at hw
        exact .inr ⟨rfl, (Option.some.inj hw).symm⟩
    · obtain ⟨k, k0, k1, k2⟩ := S.lt y x' h
      exact ⟨k, k0, k1, fun q hq => .inl (k2 q hq)⟩
  | .come y x, _, h => by
    have h : (if (y, x) ∈ W then (match s.lt (y, x) with | [] => none | p :: r => some (LS.wr ⟨s.cur, fun u => if u = (y, x) then r else s.lt u, s.done⟩ x p)) else none) = some s' := h
    by_cases c : (y, x) ∈ W
    case neg => rw [if_neg c] at h; cases h
    rw [if_pos c] at h
    obtain ⟨k, k0, k1, k2⟩ := S.lt y x c
    cases e : s.lt (y, x) with
    | nil => rw [e] at h; cases h
    | cons p r =>
      rw [e] at h
      have h : LS.wr ⟨s.cur, fun u => if u = (y, x) then r else s.lt u, s.done⟩ x p = s' := Option.some.inj h
      rw [← h]
      rw [e] at k1
      have kl : k < (s.cur y).length := by
        rcases Nat.lt_or_ge k (s.cur y).length with q | q
        · exact q
        · rw [List.drop_eq_nil_of_le q] at k1; cases k1
      rw [List.drop_eq_getElem_cons kl] at k1
      injection k1 with e1 e2
      have py : p ∈ s.cur y := by rw [e1]; exact List.getElem_mem kl
      have at_ : (s.cur y)[k]? = some p := by rw [List.getElem?_eq_getElem kl, e1]
      have ix : (s.cur y).idxOf p = k := idx8_at (S.nd y) at_
      refine wr_snd wne S.nd S.sub S.dnd S.rng (fun q hq w hw => .inl (S.own q hq w hw)) (fun y' x' h => ?_) S.rch (S.sub y p py) (.inr (.inr ⟨y, c, py, fun q hq => ?_⟩))
      · by_cases n : (y', x') = (y, x)
        · have e1' : y' = y := congrArg Prod.fst n
          have e2' : x' = x := congrArg Prod.snd n
          rw [e1', e2']
          refine ⟨k + 1, kl, ?_, fun q hq => ?_⟩
          · show (if (y, x) = (y, x) then r else s.lt (y, x)) = _
            rw [if_pos rfl]; exact e2
          · rw [take_one at_] at hq
            rcases List.mem_append.mp hq with h | h
            · exact .inl (k2 q h)
            · exact .inr ⟨by simpa using h, rfl⟩
        · obtain ⟨j, j0, j1, j2⟩ := S.lt y' x' h
          refine ⟨j, j0, ?_, fun q hq => .inl (j2 q hq)⟩
          show (if (y', x') = (y, x) then r else s.lt (y', x')) = _
          rw [if_neg n]; exact j1
      · unfold aheadOf at hq
        rw [ix] at hq
        exact k2 q hq
theorem led_snd {W : List (Int × Int)} {ws : List Int} (wne : ∀ u ∈ W, u.1 ≠ u.2) : ∀ {sts : List Stp} {s s' : LS}, Snd W ws s → (∀ p, Stp.put p ∈ sts → 0 ≤ p) → led W ws s sts = some s' → Snd W ws s'
  | [], s, s', S, _, h => by
    have e : s = s' := Option.some.inj h
    rw [← e]; exact S
  | st :: sts, s, s', S, pos, h => by
    have h : (match led1 W ws s st with | some s' => led W ws s' sts | none => none) = some s' := h
    cases e : led1 W ws s st with
    | none => rw [e] at h; cases h
    | some z =>
      rw [e] at h
      exact led_snd wne (led1_snd wne S (fun p hp => pos p (by rw [hp]; exact List.mem_cons_self ..)) e) (fun p hp => pos p (List.mem_cons_of_mem _ hp)) h
/-- the first steps of a run are a run -/
theorem led_take {W : List (Int × Int)} {ws : List Int} : ∀ {sts : List Stp} {s s' : LS} (k : Nat), led W ws s sts = some s' → ∃ z, led W ws s (sts.take k) = some z
  | _, s, _, 0, _ => ⟨s, rfl⟩
  | [], s, _, k + 1, _ => ⟨s, rfl⟩
  | st :: sts, s, s', k + 1, h => by
    have h : (match led1 W ws s st with | some s' => led W ws s' sts | none => none) = some s' := h
    cases e : led1 W ws s st with
    | none => rw [e] at h; cases h
    | some z =>
      rw [e] at h
      obtain ⟨y, hy⟩ := led_take k h
      refine ⟨y, ?_⟩
      show (match led1 W ws s st with | some s' => led W ws s' (sts.take k) | none => none) = _
      rw [e]; exact hy
/-- what is put, in its order -/
def putsOf : List Stp → List Int
  | [] => []
  | .put p :: ts => p :: putsOf ts
  | .come _ _ :: ts => putsOf ts
theorem wr_done (s : LS) (x p : Int) : (s.wr x p).done = s.done := by
  unfold LS.wr
  split <;> rfl
theorem led_done {W : List (Int × Int)} {ws : List Int} : ∀ {sts : List Stp} {s s' : LS}, led W ws s sts = some s' → s'.done = s.done ++ putsOf sts
  | [], s, s', h => by
    have e : s = s' := Option.some.inj h
    rw [← e]
    show _ = s.done ++ []
    rw [List.append_nil]
  | .put p :: sts, s, s', h => by
    have h : (match led1 W ws s (.put p) with | some s' => led W ws s' sts | none => none) = some s' := h
    cases e : led1 W ws s (.put p) with
    | none => rw [e] at h; cases h
    | some z =>
      rw [e] at h
      rw [led_done h]
      have e : (if p ∈ s.done then none else (match ws[p.toNat]? with | some x => some (LS.wr ⟨s.cur, s.lt, s.done ++ [p]⟩ x p) | none => none)) = some z := e
      split at e
      · cases e
      · split at e
        · have e := Option.some.inj e
          rw [← e, wr_done]
          show s.done ++ [p] ++ putsOf sts = s.done ++ (p :: putsOf sts)
          rw [List.append_assoc]; rfl
        · cases e
  | .come y x :: sts, s, s', h => by
    have h : (match led1 W ws s (.come y x) with | some s' => led W ws s' sts | none => none) = some s' := h
    cases e : led1 W ws s (.come y x) with
    | none => rw [e] at h; cases h
    | some z =>
      rw [e] at h
      rw [led_done h]
      have e : (if (y, x) ∈ W then (match s.lt (y, x) with | [] => none | p :: r => some (LS.wr ⟨s.cur, fun u => if u = (y, x) then r else s.lt u, s.done⟩ x p)) else none) = some z := e
      split at e
      · split at e
        · cases e
        · have e := Option.some.inj e
          rw [← e, wr_done]; rfl
      · cases e
/-! ### puts called anew -/
theorem idx_map {f : Int → Int} : ∀ {d : List Int} {p : Int}, (∀ a ∈ d, f a = f p → a = p) → (d.map f).idxOf (f p) = d.idxOf p
  | [], _, _ => rfl
  | a :: d, p, h => by
    rw [List.map_cons, List.idxOf_cons, List.idxOf_cons]
    by_cases c : a = p
    · subst c; simp
    · have n : ¬ f a = f p := fun e => c (h a (List.mem_cons_self ..) e)
      have b1 : (f a == f p) = false := by simpa using n
      have b2 : (a == p) = false := by simpa using c
      rw [b1, b2]
      show (d.map f).idxOf (f p) + 1 = d.idxOf p + 1
      rw [idx_map fun b hb => h b (List.mem_cons_of_mem _ hb)]
theorem ahead_map {f : Int → Int} {d : List Int} {p : Int} (h : ∀ a ∈ d, f a = f p → a = p) : aheadOf (d.map f) (f p) = (aheadOf d p).map f := by
  unfold aheadOf
  rw [idx_map h, List.map_take]
def rnk (done : List Int) (p : Int) : Int := ((done.idxOf p : Nat) : Int)
theorem rnk_inj {done : List Int} {p q : Int} (hp : p ∈ done) (e : rnk done q = rnk done p) (hq : q ∈ done) : q = p := by
  unfold rnk at e
  have e : done.idxOf q = done.idxOf p := by omega
  have h1 := List.idxOf_lt_length_iff.mpr hp
  have h2 := List.idxOf_lt_length_iff.mpr hq
  have a1 := List.getElem_idxOf h1
  have a2 := List.getElem_idxOf h2
  rw [← a1, ← a2]
  congr 1
theorem rnk_of {done : List Int} (nd : done.Nodup) {i : Nat} {p : Int} (h : done[i]? = some p) : rnk done p = (i : Int) := by
  unfold rnk
  rw [idx8_at nd h]
def wsC (ws done : List Int) : List Int := done.map fun p => ws.getD p.toNat 0
def dsC (n : Nat) (s : LS) : List (List Int) := (List.range n).map fun (x : Nat) => (s.cur (x : Int)).map (rnk s.done)
theorem dsC_at (n : Nat) (s : LS) {x : Nat} (h : x < n) : dAt (dsC n s) x = (s.cur (x : Int)).map (rnk s.done) := by
  unfold dAt dsC
  rw [List.getD_eq_getElem?_getD, List.getElem?_map, List.getElem?_range h]; rfl
theorem dsC_out (n : Nat) (s : LS) {x : Nat} (h : ¬ x < n) : dAt (dsC n s) x = [] := by
  unfold dAt dsC
  rw [List.getD_eq_getElem?_getD, List.getElem?_eq_none (by simpa using h)]; rfl
/-- the record of a run that is cut: made -/
theorem cut_full {W : List (Int × Int)} {ws : List Int} {s : LS} {n : Nat} (S : Snd W ws s) (wW : ∀ u ∈ W, (0 ≤ u.1 ∧ u.1 < (n : Int)) ∧ (0 ≤ u.2 ∧ u.2 < (n : Int))) : Full W (wsC ws s.done) (dsC n s) := by
  intro p' w x hw hp
  by_cases hx : x < n
  case neg => rw [dsC_out n s hx] at hp; cases hp
  rw [dsC_at n s hx] at hp
  obtain ⟨p, hp, ep⟩ := List.mem_map.mp hp
  have pd := S.sub _ p hp
  unfold wsC at hw
  rw [List.getElem?_map] at hw
  obtain ⟨p2, hp2, ew⟩ := Option.map_eq_some_iff.mp hw
  have e2 := rnk_of S.dnd hp2
  have : p2 = p := rnk_inj pd (by rw [e2, ep]) (List.mem_of_getElem? hp2)
  subst this
  have pr := S.rng p2 pd
  have hws : ws[p2.toNat]? = some w := by
    rw [List.getElem?_eq_getElem (by omega)]
    rw [List.getD_eq_getElem?_getD, List.getElem?_eq_getElem (by omega)] at ew
    exact congrArg some ew
  have r := S.rch _ p2 hp w hws
  have dcur : ∀ z : Int, 0 ≤ z → z < (n : Int) → dAt (dsC n s) z.toNat = (s.cur z).map (rnk s.done) := fun z z0 zn => by
    have := dsC_at n s (x := z.toNat) (by omega)
    rw [show ((z.toNat : Nat) : Int) = z from by omega] at this
    exact this
  have grow : ∀ y z : Int, (y, z) ∈ W → GrowC s.cur y z p2 → Grow (dsC n s) y.toNat z.toNat (p' : Int) := fun y z hu g => by
    have u := wW _ hu
    unfold Grow
    rw [dcur y u.1.1 u.1.2, dcur z u.2.1 u.2.2, ← e2]
    have inj : ∀ v, p2 ∈ s.cur v → ∀ a ∈ s.cur v, rnk s.done a = rnk s.done p2 → a = p2 := fun v hv a ha e => rnk_inj (S.sub _ _ hv) e (S.sub _ _ ha)
    refine ⟨List.mem_map_of_mem g.1, List.mem_map_of_mem g.2.1, fun q hq => ?_⟩
    rw [ahead_map (inj y g.1)] at hq
    rw [ahead_map (inj z g.2.1)]
    obtain ⟨q0, h0, e0⟩ := List.mem_map.mp hq
    rw [← e0]
    exact List.mem_map_of_mem (g.2.2 q0 h0)
  clear hw hp2 ew hws
  have fin : ∀ z, RC W s.cur p2 w z → Reach (growL W (dsC n s) (p' : Int)) w z := fun z r => by
    induction r with
    | refl => exact .refl _
    | step _ h1 h2 ih => exact .step ih (List.mem_filter.mpr ⟨h1, decide_eq_true (grow _ _ h1 h2)⟩)
  exact fin _ r
end Mine
/-! ## RR -/
namespace Mine
/-! ### machines called anew -/
/-- f calls the machines 0 .. n-1 anew -/
structure Ren (n : Nat) (f : Int → Int) : Prop where
  rng : ∀ x, 0 ≤ x → x < (n : Int) → 0 ≤ f x ∧ f x < (n : Int)
  inj : ∀ x y, 0 ≤ x → x < (n : Int) → 0 ≤ y → y < (n : Int) → f x = f y → x = y
  onto : ∀ z, 0 ≤ z → z < (n : Int) → ∃ x, 0 ≤ x ∧ x < (n : Int) ∧ f x = z
/-- the record with machines called anew -/
structure RenD (n : Nat) (f : Int → Int) (ds ds' : List (List Int)) : Prop where
  ren : Ren n f
  len : ds.length = n
  len' : ds'.length = n
  at_ : ∀ x : Int, 0 ≤ x → x < (n : Int) → dAt ds' (f x).toNat = dAt ds x.toNat
abbrev fP2 (f : Int → Int) (u : Int × Int) : Int × Int := (f u.1, f u.2)
def In2 (n : Nat) (u : Int × Int) : Prop := (0 ≤ u.1 ∧ u.1 < (n : Int)) ∧ (0 ≤ u.2 ∧ u.2 < (n : Int))
theorem Ren.inj2 {n : Nat} {f : Int → Int} (r : Ren n f) {u v : Int × Int} (hu : In2 n u) (hv : In2 n v) (e : fP2 f u = fP2 f v) : u = v := by
  have e1 : f u.1 = f v.1 := congrArg Prod.fst e
  have e2 : f u.2 = f v.2 := congrArg Prod.snd e
  exact Prod.ext (r.inj _ _ hu.1.1 hu.1.2 hv.1.1 hv.1.2 e1) (r.inj _ _ hu.2.1 hu.2.2 hv.2.1 hv.2.2 e2)
theorem RenD.grow {n : Nat} {f : Int → Int} {ds ds' : List (List Int)} (r : RenD n f ds ds') {u : Int × Int} (hu : In2 n u) (p : Int) : Grow ds' (f u.1).toNat (f u.2).toNat p ↔ Grow ds u.1.toNat u.2.toNat p := by
  unfold Grow
  rw [r.at_ _ hu.1.1 hu.1.2, r.at_ _ hu.2.1 hu.2.2]
theorem RenD.growL {n : Nat} {f : Int → Int} {ds ds' : List (List Int)} (r : RenD n f ds ds') {W W' : List (Int × Int)} (hW : ∀ u ∈ W, In2 n u) (mW : ∀ u, u ∈ W' ↔ ∃ v ∈ W, u = fP2 f v) (p : Int) (u : Int × Int) : u ∈ growL W' ds' p ↔ ∃ v ∈ growL W ds p, u = fP2 f v := by
  constructor
  · intro h
    obtain ⟨h1, h2⟩ := List.mem_filter.mp h
    obtain ⟨v, hv, rfl⟩ := (mW u).mp h1
    exact ⟨v, List.mem_filter.mpr ⟨hv, decide_eq_true ((r.grow (hW v hv) p).mp (of_decide_eq_true h2))⟩, rfl⟩
  · rintro ⟨v, hv, rfl⟩
    obtain ⟨h1, h2⟩ := List.mem_filter.mp hv
    exact List.mem_filter.mpr ⟨(mW _).mpr ⟨v, h1, rfl⟩, decide_eq_true ((r.grow (hW v h1) p).mpr (of_decide_eq_true h2))⟩
theorem reach_img {f : Int → Int} {us us' : List (Int × Int)} (m : ∀ v ∈ us, fP2 f v ∈ us') {y z : Int} (r : Reach us y z) : Reach us' (f y) (f z) := by
  induction r with
  | refl => exact .refl _
  | step _ e ih => exact .step ih (m _ e)
theorem reach_pre {n : Nat} {f : Int → Int} (rn : Ren n f) {us us' : List (Int × Int)} (hus : ∀ v ∈ us, In2 n v) (m : ∀ u ∈ us', ∃ v ∈ us, u = fP2 f v) {y : Int} (y0 : 0 ≤ y) (yn : y < (n : Int)) {z' : Int} (r : Reach us' (f y) z') : ∃ z, 0 ≤ z ∧ z < (n : Int) ∧ f z = z' ∧ Reach us y z := by
  have go : ∀ {a b}, Reach us' a b → a = f y → ∃ z, 0 ≤ z ∧ z < (n : Int) ∧ f z = b ∧ Reach us y z := fun {a b} r => by
    induction r with
    | refl => intro e; exact ⟨y, y0, yn, e.symm, .refl _⟩
    | step _ e ih =>
      intro ea
      obtain ⟨z, z0, zn, ez, rz⟩ := ih ea
      obtain ⟨v, hv, ev⟩ := m _ e
      have b := hus v hv
      have e1 : f v.1 = f z := by rw [ez]; exact (congrArg Prod.fst ev).symm
      have e2 := rn.inj _ _ b.1.1 b.1.2 z0 zn e1
      refine ⟨v.2, b.2.1, b.2.2, (congrArg Prod.snd ev).symm, .step rz ?_⟩
      rw [← e2]
      exact hv
  exact go r rfl
theorem reach_ren {n : Nat} {f : Int → Int} (rn : Ren n f) {us us' : List (Int × Int)} (hus : ∀ v ∈ us, In2 n v) (m : ∀ u, u ∈ us' ↔ ∃ v ∈ us, u = fP2 f v) {y x : Int} (y0 : 0 ≤ y) (yn : y < (n : Int)) (x0 : 0 ≤ x) (xn : x < (n : Int)) : Reach us' (f y) (f x) ↔ Reach us y x := by
  constructor
  · intro r
    obtain ⟨z, z0, zn, ez, rz⟩ := reach_pre rn hus (fun u hu => (m u).mp hu) y0 yn r
    rw [rn.inj _ _ x0 xn z0 zn ez.symm]
    exact rz
  · exact reach_img fun v hv => (m _).mpr ⟨v, hv, rfl⟩
theorem growL_in {n : Nat} {W : List (Int × Int)} (hW : ∀ u ∈ W, In2 n u) (ds : List (List Int)) (p : Int) : ∀ u ∈ growL W ds p, In2 n u := fun u hu => hW u (List.mem_filter.mp hu).1
theorem RenD.full {n : Nat} {f : Int → Int} {ds ds' : List (List Int)} (r : RenD n f ds ds') {W W' : List (Int × Int)} (hW : ∀ u ∈ W, In2 n u) (mW : ∀ u, u ∈ W' ↔ ∃ v ∈ W, u = fP2 f v) {ws : List Int} (F : Full W ws ds) : Full W' (ws.map f) ds' := by
  intro p w' x' hw hp
  rw [List.getElem?_map] at hw
  obtain ⟨w, hw2, rfl⟩ := Option.map_eq_some_iff.mp hw
  have xn : x' < n := by
    rw [← r.len']
    rcases Nat.lt_or_ge x' ds'.length with c | c
    · exact c
    · unfold dAt at hp
      rw [List.getD_eq_getElem?_getD, List.getElem?_eq_none c] at hp
      cases hp
  obtain ⟨x, x0, xn', ex⟩ := r.ren.onto (x' : Int) (by omega) (by omega)
  have hp2 : (p : Int) ∈ dAt ds x.toNat := by
    rw [← r.at_ x x0 xn', ex]
    exact hp
  have := F p w x.toNat hw2 hp2
  rw [show ((x.toNat : Nat) : Int) = x from by omega] at this
  rw [← ex]
  exact reach_img (fun v hv => (r.growL hW mW p _).mpr ⟨v, hv, rfl⟩) this
/-! ### wires that each web has -/
def SureP (A : List (Int × Int)) (ws : List Int) (ds : List (List Int)) (u : Int × Int) : Prop := ∃ (p : Nat) (w : Int), ws[p]? = some w ∧ u ∈ growL A ds p ∧ u.2 ≠ w ∧ ∀ v ∈ growL A ds p, v.2 = u.2 → v = u
theorem RenD.sure {n : Nat} {f : Int → Int} {ds ds' : List (List Int)} (r : RenD n f ds ds') {A A' : List (Int × Int)} (hA : ∀ u ∈ A, In2 n u) (mA : ∀ u, u ∈ A' ↔ ∃ v ∈ A, u = fP2 f v) {ws : List Int} (hws : ∀ w ∈ ws, 0 ≤ w ∧ w < (n : Int)) (u' : Int × Int) : SureP A' (ws.map f) ds' u' ↔ ∃ u, SureP A ws ds u ∧ u' = fP2 f u := by
  constructor
  · rintro ⟨p, w', hw, hu, ne, one⟩
    rw [List.getElem?_map] at hw
    obtain ⟨w, hw2, rfl⟩ := Option.map_eq_some_iff.mp hw
    obtain ⟨u, hu2, rfl⟩ := (r.growL hA mA p u').mp hu
    have iu := growL_in hA ds p u hu2
    refine ⟨u, ⟨p, w, hw2, hu2, fun e => ne (by rw [← e]), fun v hv e => ?_⟩, rfl⟩
    exact r.ren.inj2 (growL_in hA ds p v hv) iu (one _ ((r.growL hA mA p _).mpr ⟨v, hv, rfl⟩) (congrArg f e))
  · rintro ⟨u, ⟨p, w, hw, hu, ne, one⟩, rfl⟩
    have iu := growL_in hA ds p u hu
    have wr := hws w (List.mem_of_getElem? hw)
    refine ⟨p, f w, by rw [List.getElem?_map, hw]; rfl, (r.growL hA mA p _).mpr ⟨u, hu, rfl⟩, fun e => ne (r.ren.inj _ _ iu.2.1 iu.2.2 wr.1 wr.2 e), fun v' hv' e => ?_⟩
    obtain ⟨v, hv, rfl⟩ := (r.growL hA mA p v').mp hv'
    have iv := growL_in hA ds p v hv
    rw [one v hv (r.ren.inj _ _ iv.2.1 iv.2.2 iu.2.1 iu.2.2 e)]
theorem all_ren {n : Nat} {f : Int → Int} (rn : Ren n f) {A A' : List (Int × Int)} (hA : ∀ u, u ∈ A ↔ In2 n u ∧ u.1 ≠ u.2) (hA' : ∀ u, u ∈ A' ↔ In2 n u ∧ u.1 ≠ u.2) (u : Int × Int) : u ∈ A' ↔ ∃ v ∈ A, u = fP2 f v := by
  rw [hA']
  constructor
  · rintro ⟨⟨a, b⟩, ne⟩
    obtain ⟨y, y0, yn, ey⟩ := rn.onto _ a.1 a.2
    obtain ⟨x, x0, xn, ex⟩ := rn.onto _ b.1 b.2
    refine ⟨(y, x), (hA _).mpr ⟨⟨⟨y0, yn⟩, ⟨x0, xn⟩⟩, fun e => ne ?_⟩, Prod.ext ey.symm ex.symm⟩
    have e : y = x := e
    rw [← ey, ← ex, e]
  · rintro ⟨v, hv, rfl⟩
    obtain ⟨⟨a, b⟩, ne⟩ := (hA v).mp hv
    exact ⟨⟨rn.rng _ a.1 a.2, rn.rng _ b.1 b.2⟩, fun e => ne (rn.inj _ _ a.1 a.2 b.1 b.2 e)⟩
/-! ### what may come -/
def fitP (ds : List (List Int)) (x : Nat) (p : Int) (y : Nat) : Prop := ∀ q ∈ aheadOf (dAt ds y) p, q ∈ dAt ds x
instance (ds : List (List Int)) (x : Nat) (p : Int) (y : Nat) : Decidable (fitP ds x p y) := by unfold fitP; infer_instance
def backL (W : List (Int × Int)) (ds : List (List Int)) (x : Nat) (p : Int) : List (Int × Int) := (W.filter fun u => decide (fitP ds x p u.1.toNat)).map fun u => (u.2, u.1)
theorem backL_mem {W : List (Int × Int)} {ds : List (List Int)} {x : Nat} {p : Int} {u : Int × Int} : u ∈ backL W ds x p ↔ (u.2, u.1) ∈ W ∧ fitP ds x p u.2.toNat := by
  unfold backL
  rw [List.mem_map]
  constructor
  · rintro ⟨v, hv, rfl⟩
    obtain ⟨h1, h2⟩ := List.mem_filter.mp hv
    exact ⟨h1, of_decide_eq_true h2⟩
  · rintro ⟨h1, h2⟩
    exact ⟨(u.2, u.1), List.mem_filter.mpr ⟨h1, decide_eq_true h2⟩, rfl⟩
def CanC (W : List (Int × Int)) (ds : List (List Int)) (x : Nat) (p : Int) : Prop := ∃ y : Int, Reach (backL W ds x p) (x : Int) y ∧ p ∈ dAt ds y.toNat
theorem RenD.can {n : Nat} {f : Int → Int} {ds ds' : List (List Int)} (r : RenD n f ds ds') {W W' : List (Int × Int)} (hW : ∀ u ∈ W, In2 n u) (mW : ∀ u, u ∈ W' ↔ ∃ v ∈ W, u = fP2 f v) {x : Nat} (hx : x < n) (p : Int) : CanC W' ds' (f x).toNat p ↔ CanC W ds x p := by
  have fx := r.ren.rng (x : Int) (by omega) (by omega)
  have ex : (((f x).toNat : Nat) : Int) = f x := by omega
  have dx : dAt ds' (f x).toNat = dAt ds x := by
    have := r.at_ (x : Int) (by omega) (by omega)
    rw [Int.toNat_natCast] at this
    exact this
  have fit : ∀ y : Int, 0 ≤ y → y < (n : Int) → (fitP ds' (f x).toNat p (f y).toNat ↔ fitP ds x p y.toNat) := fun y y0 yn => by
    unfold fitP
    rw [r.at_ y y0 yn, dx]
  have hB : ∀ v ∈ backL W ds x p, In2 n v := fun v hv => by
    have := hW _ (backL_mem.mp hv).1
    exact ⟨this.2, this.1⟩
  have mB : ∀ u, u ∈ backL W' ds' (f x).toNat p ↔ ∃ v ∈ backL W ds x p, u = fP2 f v := fun u => by
    rw [backL_mem]
    constructor
    · rintro ⟨h1, h2⟩
      obtain ⟨v, hv, ev⟩ := (mW _).mp h1
      have iv := hW v hv
      have e1 : u.2 = f v.1 := congrArg Prod.fst ev
      have e2 : u.1 = f v.2 := congrArg Prod.snd ev
      refine ⟨(v.2, v.1), backL_mem.mpr ⟨hv, ?_⟩, Prod.ext e2 e1⟩
      rw [e1] at h2
      exact (fit _ iv.1.1 iv.1.2).mp h2
    · rintro ⟨v, hv, rfl⟩
      obtain ⟨h1, h2⟩ := backL_mem.mp hv
      have iv := hW _ h1
      exact ⟨(mW _).mpr ⟨_, h1, rfl⟩, (fit _ iv.1.1 iv.1.2).mpr h2⟩
  unfold CanC
  rw [ex]
  constructor
  · rintro ⟨y', ry, hy⟩
    obtain ⟨y, y0, yn, ey, ry2⟩ := reach_pre r.ren hB (fun u hu => (mB u).mp hu) (by omega) (by omega) ry
    refine ⟨y, ry2, ?_⟩
    rw [← ey, r.at_ y y0 yn] at hy
    exact hy
  · rintro ⟨y, ry, hy⟩
    have yb : 0 ≤ y ∧ y < (n : Int) := by
      cases ry with
      | refl => omega
      | step _ e => exact (hB _ e).2
    refine ⟨f y, reach_img (fun v hv => (mB _).mpr ⟨v, hv, rfl⟩) ry, ?_⟩
    rw [r.at_ y yb.1 yb.2]
    exact hy
open Classical in
noncomputable def comes (W : List (Int × Int)) (P : Nat) (ds : List (List Int)) (x : Nat) : List Int := ((List.range P).map fun (p : Nat) => (p : Int)).filter fun p => decide (p ∉ dAt ds x ∧ CanC W ds x p)
theorem RenD.comes {n : Nat} {f : Int → Int} {ds ds' : List (List Int)} (r : RenD n f ds ds') {W W' : List (Int × Int)} (hW : ∀ u ∈ W, In2 n u) (mW : ∀ u, u ∈ W' ↔ ∃ v ∈ W, u = fP2 f v) {x : Nat} (hx : x < n) (P : Nat) : comes W' P ds' (f x).toNat = comes W P ds x := by
  unfold Mine.comes
  refine List.filter_congr fun p _ => ?_
  have dx : dAt ds' (f x).toNat = dAt ds x := by
    have := r.at_ (x : Int) (by omega) (by omega)
    rw [Int.toNat_natCast] at this
    exact this
  have := r.can hW mW hx p
  rw [dx]
  simp [this]
end Mine
/-! ## SF -/
namespace Mine
/-! ### the second fact: what can come to be the next one -/
/-- p can be written next by z: it is the first one, off a wire, that is not there yet -/
def NextM (W : List (Int × Int)) (ds : List (List Int)) (z : Nat) (p : Int) : Prop := ∃ u ∈ W, u.2 = (z : Int) ∧ p ∈ dAt ds u.1.toNat ∧ p ∉ dAt ds z ∧ ∀ q ∈ aheadOf (dAt ds u.1.toNat) p, q ∈ dAt ds z
def ext (ds : List (List Int)) (z : Nat) (p : Int) : List (List Int) := ds.set z (dAt ds z ++ [p])
/-- others than x write more -/
inductive Mv (W : List (Int × Int)) (x : Nat) (ds0 : List (List Int)) : List (List Int) → Prop where
  | refl : Mv W x ds0 ds0
  | step {D : List (List Int)} {z : Nat} {p : Int} : Mv W x ds0 D → z ≠ x → z < D.length → NextM W D z p → Mv W x ds0 (ext D z p)
theorem ext_self {D : List (List Int)} {z : Nat} {p : Int} (h : z < D.length) : dAt (ext D z p) z = dAt D z ++ [p] := by
  unfold ext
  show (D.set z (dAt D z ++ [p])).getD z [] = _
  rw [List.getD_eq_getElem?_getD, List.getElem?_set_self h]; rfl
theorem ext_ne {D : List (List Int)} {z y : Nat} {p : Int} (h : z ≠ y) : dAt (ext D z p) y = dAt D y := by
  unfold ext
  show (D.set z (dAt D z ++ [p])).getD y [] = D.getD y []
  rw [List.getD_eq_getElem?_getD, List.getElem?_set_ne h, List.getD_eq_getElem?_getD]
theorem ext_len {D : List (List Int)} {z : Nat} {p : Int} : (ext D z p).length = D.length := by unfold ext; exact List.length_set
theorem ah_cons (a : Int) (d : List Int) (p : Int) : aheadOf (a :: d) p = if a = p then [] else a :: aheadOf d p := by
  show (a :: d).take ((a :: d).idxOf p) = _
  rw [List.idxOf_cons]
  by_cases c : a = p
  · subst c; simp
  · rw [if_neg c]
    have : (a == p) = false := by simpa using c
    rw [this]; rfl
theorem ah_sub {d : List Int} (t : List Int) {p : Int} : ∀ q ∈ aheadOf d p, q ∈ aheadOf (d ++ t) p := by
  induction d with
  | nil => intro q h; exact nomatch h
  | cons a d ih =>
    intro q h
    rw [List.cons_append, ah_cons]
    rw [ah_cons] at h
    by_cases c : a = p
    · rw [if_pos c] at h; exact nomatch h
    · rw [if_neg c] at h ⊢
      rcases List.mem_cons.mp h with h | h
      · rw [h]; exact List.mem_cons_self ..
      · exact List.mem_cons_of_mem _ (ih q h)
theorem ah_app {d : List Int} (t : List Int) {p : Int} (h : p ∈ d) : aheadOf (d ++ t) p = aheadOf d p := by
  induction d with
  | nil => exact nomatch h
  | cons a d ih =>
    rw [List.cons_append, ah_cons, ah_cons]
    by_cases c : a = p
    · rw [if_pos c, if_pos c]
    · rw [if_neg c, if_neg c, ih (by rcases List.mem_cons.mp h with h | h; exact absurd h.symm c; exact h)]
theorem ah_new {d : List Int} {p : Int} (h : p ∉ d) : aheadOf (d ++ [p]) p = d := by
  induction d with
  | nil => rw [List.nil_append, ah_cons, if_pos rfl]
  | cons a d ih =>
    rw [List.cons_append, ah_cons, if_neg (fun e => h (by rw [e]; exact List.mem_cons_self ..)), ih fun m => h (List.mem_cons_of_mem _ m)]
theorem ah_out {d : List Int} {p : Int} (h : p ∉ d) : aheadOf d p = d := by
  induction d with
  | nil => rfl
  | cons a d ih => rw [ah_cons, if_neg (fun e => h (by rw [e]; exact List.mem_cons_self ..)), ih fun m => h (List.mem_cons_of_mem _ m)]
theorem ah_not {d : List Int} {p : Int} : p ∉ aheadOf d p := by
  induction d with
  | nil => exact fun h => nomatch h
  | cons a d ih =>
    intro h
    rw [ah_cons] at h
    by_cases c : a = p
    · rw [if_pos c] at h; exact nomatch h
    · rw [if_neg c] at h
      rcases List.mem_cons.mp h with h | h
      · exact c h.symm
      · exact ih h
theorem ah_mem {d : List Int} {p q : Int} (h : q ∈ aheadOf d p) : q ∈ d := List.mem_of_mem_take h
theorem ah_take {d : List Int} {j : Nat} {q : Int} (h : d[j]? = some q) : ∀ r ∈ aheadOf d q, r ∈ d.take j := by
  induction d generalizing j with
  | nil => intro r hr; exact nomatch hr
  | cons a d ih =>
    intro r hr
    rw [ah_cons] at hr
    by_cases c : a = q
    · rw [if_pos c] at hr; exact nomatch hr
    · rw [if_neg c] at hr
      cases j with
      | zero => exact absurd (Option.some.inj h) c
      | succ j =>
        rw [List.take_succ_cons]
        rcases List.mem_cons.mp hr with e | e
        · rw [e]; exact List.mem_cons_self ..
        · exact List.mem_cons_of_mem _ (ih h r e)
section
variable {W : List (Int × Int)} {x : Nat} {ds D : List (List Int)}
theorem Mv.len (m : Mv W x ds D) : D.length = ds.length := by
  induction m with
  | refl => rfl
  | step _ _ _ _ ih => rw [ext_len, ih]
theorem Mv.at_x (m : Mv W x ds D) : dAt D x = dAt ds x := by
  induction m with
  | refl => rfl
  | step _ n _ _ ih => rw [ext_ne n, ih]
theorem Mv.pre (m : Mv W x ds D) (y : Nat) : ∃ t, dAt D y = dAt ds y ++ t := by
  induction m with
  | refl => exact ⟨[], by simp⟩
  | @step D z p _ _ hz _ ih =>
    obtain ⟨t, e⟩ := ih
    by_cases c : z = y
    · subst c
      exact ⟨t ++ [p], by rw [ext_self hz, e, List.append_assoc]⟩
    · exact ⟨t, by rw [ext_ne c, e]⟩
/-- back along the way that a put took -/
theorem Mv.back (wW : ∀ u ∈ W, (0 ≤ u.1 ∧ u.1 < (ds.length : Int)) ∧ (0 ≤ u.2 ∧ u.2 < (ds.length : Int))) (m : Mv W x ds D) {p : Int} : ∀ y : Int, 0 ≤ y → p ∈ dAt D y.toNat → (∀ q ∈ aheadOf (dAt D y.toNat) p, q ∈ dAt ds x) → ∃ y0, Reach (backL W ds x p) y y0 ∧ p ∈ dAt ds y0.toNat := by
  induction m with
  | refl => exact fun y _ h _ => ⟨y, .refl _, h⟩
  | @step D z q m' n hz nx ih =>
    intro y y0 hp hah
    by_cases c : z = y.toNat
    · subst c
      rw [ext_self hz] at hp hah
      by_cases cp : p ∈ dAt D y.toNat
      · rw [ah_app _ cp] at hah
        exact ih y y0 cp hah
      · have e : p = q := by
          rcases List.mem_append.mp hp with h | h
          · exact absurd h cp
          · simpa using h
        subst e
        rw [ah_new cp] at hah
        obtain ⟨u, hu, eu, h1, h2, h3⟩ := nx
        have ub := (wW u hu).1
        have hs : ∀ r ∈ aheadOf (dAt D u.1.toNat) p, r ∈ dAt ds x := fun r hr => hah r (h3 r hr)
        obtain ⟨v, hv, hpv⟩ := ih u.1 ub.1 h1 hs
        refine ⟨v, Reach.trans (.one (backL_mem.mpr ⟨?_, ?_⟩)) hv, hpv⟩
        · show (u.1, y) ∈ W
          have : y = u.2 := by omega
          rw [this]; exact hu
        · show fitP ds x p u.1.toNat
          intro r hr
          obtain ⟨t, et⟩ := m'.pre u.1.toNat
          exact hs r (by rw [et]; exact ah_sub t r hr)
    · rw [ext_ne c] at hp hah
      exact ih y y0 hp hah
/-- ways of so many wires -/
def RN (L : List (Int × Int)) : Nat → Int → Int → Prop
  | 0, y, z => y = z
  | k + 1, y, z => ∃ a, RN L k y a ∧ (a, z) ∈ L
theorem reach_rn {L : List (Int × Int)} {y z : Int} (h : Reach L y z) : ∃ k, RN L k y z := by
  induction h with
  | refl => exact ⟨0, rfl⟩
  | step _ e ih => obtain ⟨k, hk⟩ := ih; exact ⟨k + 1, _, hk, e⟩
theorem RN.mono {L L' : List (Int × Int)} (h : ∀ u ∈ L, u ∈ L') : ∀ {k : Nat} {y z : Int}, RN L k y z → RN L' k y z
  | 0, _, _, r => r
  | _ + 1, _, _, ⟨a, r, e⟩ => ⟨a, RN.mono h r, h _ e⟩
/-- a writes what it lacks of what y has ahead of p -/
theorem Mv.catch (wN : ∀ u ∈ W, u.1 ≠ u.2) {y a : Int} (y0 : 0 ≤ y) (a0 : 0 ≤ a) (al : a.toNat < ds.length) (ax : a.toNat ≠ x) (hw : (y, a) ∈ W) (m : Mv W x ds D) : ∀ j, j ≤ (dAt D y.toNat).length → ∃ D', Mv W x ds D' ∧ (∀ z, z ≠ a.toNat → dAt D' z = dAt D z) ∧ (∀ q ∈ (dAt D y.toNat).take j, q ∈ dAt D' a.toNat) ∧ ∀ q ∈ dAt D' a.toNat, q ∈ dAt D a.toNat ∨ q ∈ (dAt D y.toNat).take j := by
  have ya : y.toNat ≠ a.toNat := fun e => wN _ hw (by show y = a; omega)
  intro j
  induction j with
  | zero => exact fun _ => ⟨D, m, fun _ _ => rfl, fun q h => by simp at h, fun q h => .inl h⟩
  | succ j ih =>
    intro hj
    obtain ⟨D1, m1, o1, i1, s1⟩ := ih (by omega)
    obtain ⟨q, hq⟩ : ∃ q, (dAt D y.toNat)[j]? = some q := ⟨_, List.getElem?_eq_getElem (by omega)⟩
    have tk : (dAt D y.toNat).take (j + 1) = (dAt D y.toNat).take j ++ [q] := by rw [List.take_add_one, hq]; rfl
    by_cases c : q ∈ dAt D1 a.toNat
    · refine ⟨D1, m1, o1, fun r hr => ?_, fun r hr => ?_⟩
      · rw [tk] at hr
        rcases List.mem_append.mp hr with h | h
        · exact i1 r h
        · have : r = q := by simpa using h
          rw [this]; exact c
      · rw [tk]
        rcases s1 r hr with h | h
        · exact .inl h
        · exact .inr (List.mem_append_left _ h)
    · have hz : a.toNat < D1.length := by rw [m1.len]; exact al
      have nx : NextM W D1 a.toNat q := by
        refine ⟨(y, a), hw, by show a = ((a.toNat : Nat) : Int); omega, ?_, c, fun r hr => ?_⟩
        · show q ∈ dAt D1 y.toNat
          rw [o1 _ ya]
          exact List.mem_of_getElem? hq
        · have hr : r ∈ aheadOf (dAt D1 y.toNat) q := hr
          rw [o1 _ ya] at hr
          exact i1 r (ah_take hq r hr)
      refine ⟨ext D1 a.toNat q, .step m1 ax hz nx, fun z hzz => ?_, fun r hr => ?_, fun r hr => ?_⟩
      · rw [ext_ne (Ne.symm hzz)]; exact o1 z hzz
      · rw [ext_self hz]
        rw [tk] at hr
        rcases List.mem_append.mp hr with h | h
        · exact List.mem_append_left _ (i1 r h)
        · exact List.mem_append_right _ h
      · rw [ext_self hz] at hr
        rw [tk]
        rcases List.mem_append.mp hr with h | h
        · rcases s1 r h with h | h
          · exact .inl h
          · exact .inr (List.mem_append_left _ h)
        · exact .inr (List.mem_append_right _ h)
theorem Mv.come (wW : ∀ u ∈ W, (0 ≤ u.1 ∧ u.1 < (ds.length : Int)) ∧ (0 ≤ u.2 ∧ u.2 < (ds.length : Int))) (wN : ∀ u ∈ W, u.1 ≠ u.2) {p : Int} (hx : p ∉ dAt ds x) : ∀ (k : Nat) (D : List (List Int)) (y : Int), Mv W x ds D → RN (backL W D x p) k (x : Int) y → p ∈ dAt D y.toNat → ∃ D', Mv W x ds D' ∧ NextM W D' x p := by
  intro k
  induction k with
  | zero =>
    intro D y m r hp
    have e : (x : Int) = y := r
    rw [← e, Int.toNat_natCast, m.at_x] at hp
    exact absurd hp hx
  | succ k ih =>
    intro D y m r hp
    obtain ⟨a, ra, ea⟩ := r
    obtain ⟨hw, fit⟩ := backL_mem.mp ea
    have hw : (y, a) ∈ W := hw
    have fit : ∀ q ∈ aheadOf (dAt D y.toNat) p, q ∈ dAt D x := fit
    have yb := (wW _ hw).1
    have ab := (wW _ hw).2
    have yb : 0 ≤ y ∧ y < (ds.length : Int) := yb
    have ab : 0 ≤ a ∧ a < (ds.length : Int) := ab
    by_cases cx : a = (x : Int)
    · subst cx
      exact ⟨D, m, (y, (x : Int)), hw, rfl, hp, by rw [m.at_x]; exact hx, fit⟩
    · have ax : a.toNat ≠ x := fun e => cx (by omega)
      have ya : y.toNat ≠ a.toNat := fun e => wN _ hw (by show y = a; omega)
      by_cases ca : p ∈ dAt D a.toNat
      · exact ih D a m ra ca
      · have fa : ∀ q ∈ dAt D a.toNat, q ∈ dAt D x := by
          cases k with
          | zero => exact absurd (show (x : Int) = a from ra).symm cx
          | succ k =>
            obtain ⟨b, _, eb⟩ := ra
            have f2 := (backL_mem.mp eb).2
            have f2 : ∀ q ∈ aheadOf (dAt D a.toNat) p, q ∈ dAt D x := f2
            rw [ah_out ca] at f2
            exact f2
        obtain ⟨D1, m1, o1, i1, s1⟩ := Mv.catch wN yb.1 ab.1 (by omega) ax hw m ((dAt D y.toNat).idxOf p) (Nat.le_of_lt (List.idxOf_lt_length_iff.mpr hp))
        have c1 : p ∉ dAt D1 a.toNat := fun h => by
          rcases s1 p h with h | h
          · exact ca h
          · exact ah_not (show p ∈ aheadOf (dAt D y.toNat) p from h)
        have hz : a.toNat < D1.length := by rw [m1.len]; omega
        have nx : NextM W D1 a.toNat p := by
          refine ⟨(y, a), hw, by show a = ((a.toNat : Nat) : Int); omega, ?_, c1, fun r hr => ?_⟩
          · show p ∈ dAt D1 y.toNat
            rw [o1 _ ya]; exact hp
          · have hr : r ∈ aheadOf (dAt D1 y.toNat) p := hr
            rw [o1 _ ya] at hr
            exact i1 r hr
        have x1 : dAt D1 x = dAt D x := o1 x (Ne.symm ax)
        refine ih (ext D1 a.toNat p) a (.step m1 ax hz nx) (RN.mono (fun u hu => ?_) ra) (by rw [ext_self hz]; exact List.mem_append_right _ (List.mem_singleton.mpr rfl))
        obtain ⟨h1, h2⟩ := backL_mem.mp hu
        refine backL_mem.mpr ⟨h1, ?_⟩
        have h2 : ∀ q ∈ aheadOf (dAt D u.2.toNat) p, q ∈ dAt D x := h2
        show ∀ q ∈ aheadOf (dAt (ext D1 a.toNat p) u.2.toNat) p, q ∈ dAt (ext D1 a.toNat p) x
        rw [ext_ne ax, x1]
        by_cases cu : a.toNat = u.2.toNat
        · rw [← cu, ext_self hz, ah_new c1]
          intro q hq
          rcases s1 q hq with h | h
          · exact fa q h
          · exact fit q h
        · rw [ext_ne cu, o1 _ (Ne.symm cu)]
          exact h2
/-- THE SECOND FACT of what may come -/
theorem come_iff (wW : ∀ u ∈ W, (0 ≤ u.1 ∧ u.1 < (ds.length : Int)) ∧ (0 ≤ u.2 ∧ u.2 < (ds.length : Int))) (wN : ∀ u ∈ W, u.1 ≠ u.2) {p : Int} : (∃ D, Mv W x ds D ∧ NextM W D x p) ↔ p ∉ dAt ds x ∧ CanC W ds x p := by
  constructor
  · rintro ⟨D, m, u, hu, eu, h1, h2, h3⟩
    rw [m.at_x] at h2 h3
    refine ⟨h2, ?_⟩
    have ub := (wW u hu).1
    obtain ⟨v, hv, hpv⟩ := m.back wW u.1 ub.1 h1 h3
    refine ⟨v, Reach.trans (.one (backL_mem.mpr ⟨?_, ?_⟩)) hv, hpv⟩
    · show (u.1, (x : Int)) ∈ W
      rw [← eu]; exact hu
    · show fitP ds x p u.1.toNat
      intro r hr
      obtain ⟨t, et⟩ := m.pre u.1.toNat
      exact h3 r (by rw [et]; exact ah_sub t r hr)
  · rintro ⟨hx, y, r, hp⟩
    obtain ⟨k, rk⟩ := reach_rn r
    exact Mv.come wW wN hx k ds y .refl rk hp
/-- what was made stays so when a put is written that can be -/
theorem full_ext {ws : List Int} (wN : ∀ u ∈ W, u.1 ≠ u.2) (wW : ∀ u ∈ W, 0 ≤ u.1 ∧ 0 ≤ u.2) {z : Nat} {p : Int} (hz : z < D.length) (F : Full W ws D) (nx : NextM W D z p) : Full W ws (ext D z p) := by
  have up : ∀ (q : Int), ∀ u ∈ growL W D q, u ∈ growL W (ext D z p) q := fun q u hu => by
    obtain ⟨h1, h2⟩ := List.mem_filter.mp hu
    refine List.mem_filter.mpr ⟨h1, decide_eq_true ?_⟩
    obtain ⟨g1, g2, g3⟩ := of_decide_eq_true h2
    have key : ∀ y : Nat, q ∈ dAt D y → q ∈ dAt (ext D z p) y ∧ aheadOf (dAt (ext D z p) y) q = aheadOf (dAt D y) q := fun y hy => by
      by_cases c : z = y
      · subst c
        rw [ext_self hz]
        exact ⟨List.mem_append_left _ hy, ah_app _ hy⟩
      · rw [ext_ne c]
        exact ⟨hy, rfl⟩
    obtain ⟨a1, a2⟩ := key _ g1
    obtain ⟨b1, b2⟩ := key _ g2
    exact ⟨a1, b1, by rw [a2, b2]; exact g3⟩
  have upR : ∀ (q : Int) (w y : Int), Reach (growL W D q) w y → Reach (growL W (ext D z p) q) w y := fun q w y r => by
    induction r with
    | refl => exact .refl _
    | step _ e ih => exact .step ih (up q _ e)
  intro q w y hw hq
  by_cases c : z = y
  · subst c
    rw [ext_self hz] at hq
    rcases List.mem_append.mp hq with h | h
    · exact upR _ _ _ (F q w z hw h)
    · have e : (q : Int) = p := by simpa using h
      obtain ⟨u, hu, eu, h1, h2, h3⟩ := nx
      have ub := wW u hu
      have hy : z ≠ u.1.toNat := fun e => wN u hu (by omega)
      have r0 := upR _ _ _ (F q w u.1.toNat hw (by rw [e]; exact h1))
      rw [show ((u.1.toNat : Nat) : Int) = u.1 from by omega] at r0
      refine .step r0 (List.mem_filter.mpr ⟨by rw [← eu]; exact hu, decide_eq_true ?_⟩)
      show Grow (ext D z p) u.1.toNat ((z : Nat) : Int).toNat q
      rw [Int.toNat_natCast, e]
      unfold Grow
      rw [ext_ne hy, ext_self hz, ah_new h2]
      exact ⟨h1, List.mem_append_right _ (List.mem_singleton.mpr rfl), h3⟩
  · rw [ext_ne c] at hq
    exact upR _ _ _ (F q w y hw hq)
end
end Mine
/-! ## GED -/
namespace PySem
open Sem (wp)
section
variable {prog : Program} {w : World} {A : Around} {E : Value → Shared → Prop} {s : Shared}
theorem ga_nextOf_key_item {it d : Addr} {i n ep : Nat} {od : Obj} {es : Array DictEntry} {en : DictEntry} {Q : Value → Shared → Prop} (hit : s.heap.IsKeyIter it d i n ep) (hod : s.heap.get? d = some od) (hdd : od.data = .dict es ep)
    (hsz : es.size = n) (hx : es[i]? = some en) (hQ : ∀ h', h'.IsKeyIter it d (i + 1) n ep → Heap.SameBut it s.heap h' → Q en.key { s with heap := h' }) : wpAny (model prog w) A (Builtin.SmallTypes.nextOf (.ref it)) Q E s := by
  obtain ⟨o, ho, hc, hd⟩ := id hit
  unfold Builtin.SmallTypes.nextOf
  refine wpAny_bind (wpAny_callSpecial?_slot (name := Str.ofString "__next__") hit.typeIs F.slot_dict_keyiterator_next
    (wpAny_call_entry F.slot_dict_keyiterator_next hit.typeIs F.entry_dict_keyiterator_next ?_ (F.args_dict_keyiterator_next_1 _)))
  refine wpAny_bind (wpAny_pure ?_)
  refine wpAny_bind ?_
  refine wpAny_bind ?_
  first | refine wpAny_bind (wpAny_typeNameOfWhole_keyiter hit.typeIs (wpAny_pure ?_)) | refine wpAny_bind (wpAny_typeNameOf_keyiter hit.typeIs (wpAny_pure ?_))
  refine wpAny_bind (wpAny_fieldsOf ho hd ?_)
  have hown : Builtin.Dict_items.ownsTuple "dict_keyiterator" = false := by decide
  simp only [hown, Bool.false_eq_true, if_false]
  show wpAny _ _ (if (Value.ref d == Value.none) = true then _ else _) _ _ s
  rw [if_neg (show ¬ ((Value.ref d == Value.none) = true) from Bool.false_ne_true)]
  refine wpAny_bind (wpAny_pure ?_)
  refine wpAny_bind (wpAny_dictEntries hod hdd ?_)
  rw [if_neg (by rw [hsz]; simp)]
  refine wpAny_bind (wpAny_pure ?_)
  refine wpAny_bind (wpAny_dictEpoch hod hdd ?_)
  rw [if_neg (by simp)]
  refine wpAny_pure ?_
  obtain ⟨hlt', hen⟩ := Array.getElem?_eq_some_iff.mp hx
  simp only [show ¬ ((i : Int) < 0) from by omega, if_false, Int.toNat_natCast, Array.getElem?_eq_getElem hlt']
  refine wpAny_bind ?_
  first | refine wpAny_bind (wpAny_typeNameOfWhole_keyiter hit.typeIs (wpAny_pure ?_)) | refine wpAny_bind (wpAny_typeNameOf_keyiter hit.typeIs (wpAny_pure ?_))
  refine wpAny_bind (wpAny_isOneOf_keyiter hit.typeIs ?_)
  show wpAny _ _ (setField (.ref it) 1 (rawInt ((i : Int) + 1)) >>= _) _ _ s
  refine wpAny_bind (wpAny_setField ho hd (by simp) ?_)
  have hit' : (s.heap.update it (Obj.mapFields (·.setIfInBounds 1 (rawInt ((i : Int) + 1))))).IsKeyIter it d (i + 1) n ep :=
    ⟨_, Heap.get?_update_self _ ho (Obj.isFreed_of_fields (Obj.data_mapFields hd _)), (Obj.cls_mapFields ..).trans hc, by rw [Obj.data_mapFields hd]; simp [rawInt]⟩
  refine wpAny_bind (wpAny_holding ?_)
  refine wpAny_bind (wpAny_isOneOf_keyiter (s := { s with heap := s.heap.update it (Obj.mapFields (·.setIfInBounds 1 (rawInt ((i : Int) + 1)))) }) hit'.typeIs ?_)
  show wpAny _ _ (pure es[i].key) _ _ _
  rw [hen]
  exact wpAny_pure (wpAny_pure ⟨_, rfl, wpAny_pure (hQ _ hit' (Heap.SameBut.update ..))⟩)
theorem ga_nextOf_key_end {it d : Addr} {i n ep : Nat} {od : Obj} {es : Array DictEntry} {Q : Value → Shared → Prop} (hh : A.handled = none) (hit : s.heap.IsKeyIter it d i n ep) (hod : s.heap.get? d = some od) (hdd : od.data = .dict es ep)
    (hsz : es.size = n) (hge : n ≤ i) (hE : ∀ h' e, Heap.ExtBut it s.heap h' → (∃ o, h'.get? e = some o ∧ o.cls = .type "StopIteration") → E (.ref e) { s with heap := h' }) : wpAny (model prog w) A (Builtin.SmallTypes.nextOf (.ref it)) Q E s := by
  obtain ⟨o, ho, hc, hd⟩ := id hit
  unfold Builtin.SmallTypes.nextOf
  refine wpAny_bind (wpAny_callSpecial?_slot (name := Str.ofString "__next__") hit.typeIs F.slot_dict_keyiterator_next
    (wpAny_call_entry F.slot_dict_keyiterator_next hit.typeIs F.entry_dict_keyiterator_next ?_ (F.args_dict_keyiterator_next_1 _)))
  refine wpAny_bind (wpAny_pure ?_)
  refine wpAny_bind ?_
  refine wpAny_bind ?_
  first | refine wpAny_bind (wpAny_typeNameOfWhole_keyiter hit.typeIs (wpAny_pure ?_)) | refine wpAny_bind (wpAny_typeNameOf_keyiter hit.typeIs (wpAny_pure ?_))
  refine wpAny_bind (wpAny_fieldsOf ho hd ?_)
  have hown : Builtin.Dict_items.ownsTuple "dict_keyiterator" = false := by decide
  simp only [hown, Bool.false_eq_true, if_false]
  show wpAny _ _ (if (Value.ref d == Value.none) = true then _ else _) _ _ s
  rw [if_neg (show ¬ ((Value.ref d == Value.none) = true) from Bool.false_ne_true)]
  refine wpAny_bind (wpAny_pure ?_)
  refine wpAny_bind (wpAny_dictEntries hod hdd ?_)
  rw [if_neg (by rw [hsz]; simp)]
  refine wpAny_bind (wpAny_pure ?_)
  refine wpAny_bind (wpAny_dictEpoch hod hdd ?_)
  rw [if_neg (by simp)]
  refine wpAny_pure ?_
  have hge' : es.size ≤ i := by rw [hsz]; exact hge
  simp only [show ¬ ((i : Int) < 0) from by omega, if_false, Int.toNat_natCast, Array.getElem?_eq_none hge']
  refine wpAny_bind ?_
  first | refine wpAny_bind (wpAny_typeNameOfWhole_keyiter hit.typeIs (wpAny_pure ?_)) | refine wpAny_bind (wpAny_typeNameOf_keyiter hit.typeIs (wpAny_pure ?_))
  show wpAny _ _ (setField (.ref it) 0 .none >>= _) _ _ s
  refine wpAny_bind (wpAny_setField ho hd (by simp) ?_)
  show wpAny _ _ (newExc (.type "StopIteration") [] >>= _) _ _ _
  refine wpAny_bind ?_
  simp only [newExc, newTuple]
  refine wpAny_bind (wpAny_newObj_type ?_ (by size_fits))
  refine wpAny_bind (m := firstArgMember _ _) (wpAny_of_eq (a := Value.none) (by first | rfl | (simp only [firstArgMember]; rfl)) ?_)
  refine wpAny_newObj_type ?_ (by size_fits)
  simp only [raiseNew]
  refine wpAny_bind (wpAny_handled ?_)
  first | rw [show A.in1.handled = none from hh] | rw [hh]
  refine wpAny_bind (wpAny_pure (wpAny_throw ?_))
  exact hE _ _ (((Heap.SameBut.update ..).extBut.push _).push _) ⟨_, Heap.get?_push_size _ rfl, rfl⟩
end
theorem ga_draws_keys {prog : Program} {w : World} {A : Around} (hh : A.handled = none) (it d : Addr) (hne : d ≠ it) (es : Array DictEntry) (ep : Nat) :
    Draws prog w A it [it, d] es.size (fun i v => ∃ en, es[i]? = some en ∧ v = en.key) (fun i h => h.IsKeyIter it d i es.size ep ∧ ∃ od, h.get? d = some od ∧ od.data = .dict es ep) where
  live := fun _ _ st => let ⟨o, ho, _⟩ := st.1; ⟨o, ho⟩
  frame := fun _ _ _ st hk => ⟨st.1.at fun o e => hk it (by simp) o e, let ⟨od, h1, h2⟩ := st.2; ⟨od, hk d (by simp) od h1, h2⟩⟩
  item := fun i s Q E hi st hQ => by
    obtain ⟨st1, od, h1, h2⟩ := st
    exact ga_nextOf_key_item st1 h1 h2 rfl (Array.getElem?_eq_getElem hi) fun h' hit' sb => hQ _ h' s.toks ⟨_, Array.getElem?_eq_getElem hi, rfl⟩ ⟨hit', od, (sb.2 d hne).trans h1, h2⟩ sb
  done := fun s Q E st hE => by
    obtain ⟨st1, od, h1, h2⟩ := st
    exact ga_nextOf_key_end hh st1 h1 h2 rfl (Nat.le_refl _) hE
theorem ga_enumerate_newD (d : Addr) (o : Obj) (es : Array DictEntry) (ep : Nat) (hs : (d == sysModules) = false) (hc : o.ExactDict) (hdat : o.data = .dict es ep) :
    Meets (Builtin.«enumerate.__new__» ⟨[.type "enumerate", .ref d], []⟩) (fun _ R s => s.heap.get? d = some o ∧
      R (.ok (.ret (.ref (s.heap.push { cls := .type "dict_keyiterator", data := .fields #[.ref d, .int 0 0, .int es.size 0, .int ep 0] }).objs.size)))
        { s with heap := (s.heap.push { cls := .type "dict_keyiterator", data := .fields #[.ref d, .int 0 0, .int es.size 0, .int ep 0] }).push { cls := .type "enumerate", data := .fields #[.none, .bool false, .ref s.heap.objs.size, rawInt 0, .none, .none] } }) :=
  .of_wp fun prog w A R s h => by
    obtain ⟨hp, g, dd, tk, os⟩ := s; obtain ⟨hl, h⟩ := h
    have hsub := sub_enumerate
    have hL : Heap.get? (Shared.heap ⟨hp, g, dd, tk, os⟩) d = some o := hl
    wp_walk using AutoSeq1.wpAny_loadPart' hl
    refine wpAny_stack_any fun st => wpAny_pure ?_
    split
    · rename_i c _ _ _ _ _
      cases (c == Value.type "enumerate")
      · wp_walk using AutoSeq1.wpAny_loadPart' hl, L2.iter_keys hs hL hc hdat
        exact ⟨_, rfl, h⟩
      · wp_walk using AutoSeq1.wpAny_loadPart' hl, L2.iter_keys hs hL hc hdat
        exact ⟨_, rfl, h⟩
    · wp_walk using AutoSeq1.wpAny_loadPart' hl, L2.iter_keys hs hL hc hdat
      exact ⟨_, rfl, h⟩
theorem ga_enumerate_dict {prog : Program} {w : World} {A : Around} {E : Value → Shared → Prop} {s : Shared} {d : Addr} {o : Obj} {es : Array DictEntry} {ep : Nat} {Q : Value → Shared → Prop} (hs : (d == sysModules) = false) (hL : s.heap.get? d = some o) (hc : o.ExactDict) (hdat : o.data = .dict es ep)
    (h : ∀ h', IsEnum h' (s.heap.objs.size + 1) s.heap.objs.size 0 .none → h'.IsKeyIter s.heap.objs.size d 0 es.size ep → h'.objs.size = s.heap.objs.size + 2 →
      (∀ b o, s.heap.get? b = some o → h'.get? b = some o) → Q (.ref (s.heap.objs.size + 1)) { s with heap := h' }) :
    wpAny (model prog w) A (call (.type "enumerate") [.ref d]) Q E s := by
  refine callType_new F.called_enumerate (by decide) (F.typeCall_enumerate_1 _) (F.newCall_enumerate_1 _) (fun obj => F.args_object_init_2 obj _) F.entry_enumerate_new
    (ga_enumerate_newD d o es ep hs hc hdat) ⟨hL, ?_⟩
  have hz : (s.heap.push { cls := .type "dict_keyiterator", data := .fields #[.ref d, .int 0 0, .int es.size 0, .int ep 0] }).objs.size = s.heap.objs.size + 1 := Heap.size_push ..
  show _ ∧ _
  rw [hz]
  have he : IsEnum ((s.heap.push { cls := .type "dict_keyiterator", data := .fields #[.ref d, .int 0 0, .int es.size 0, .int ep 0] }).push
      { cls := .type "enumerate", data := .fields #[.none, .bool false, .ref s.heap.objs.size, rawInt 0, .none, .none] }) (s.heap.objs.size + 1) s.heap.objs.size 0 .none := by
    have := Heap.get?_push_size (s.heap.push { cls := .type "dict_keyiterator", data := .fields #[.ref d, .int 0 0, .int es.size 0, .int ep 0] })
      (o := { cls := .type "enumerate", data := .fields #[.none, .bool false, .ref s.heap.objs.size, rawInt 0, .none, .none] }) rfl
    rw [hz] at this; exact this
  refine ⟨⟨_, he, rfl⟩, h _ he ⟨_, Heap.get?_push_of_some _ (Heap.get?_push_size _ rfl), rfl, rfl⟩ (by rw [Heap.size_push, hz]) fun b o x => Heap.get?_push_of_some _ (Heap.get?_push_of_some _ x)⟩
end PySem
namespace GA
open PySem PySem.Spec PyProof.Rows L2
/-- enumerate over a dict that is locked: its keys -/
def IteD (d : Addr) (o : Obj) (kvs : List (Key × V)) : It :=
  ⟨fun i H => H d = some (.frz o (.dK kvs)) ∧ i < kvs.length, fun i H v H' => ∃ T k x, kvs[i]? = some (k, x) ∧ v = .ref T ∧ H T = none ∧ H' = upd H T (.tup [.int (i : Nat), kV k]), fun i H => H d = some (.frz o (.dK kvs)) ∧ kvs.length ≤ i⟩
theorem turn_enumD {P : Program} {w : World} {K : PySem.W.Frag} {elts : List Expr} {kk : Nat} {tpos : Pos} {d e it : Addr} {o : Obj} {kvs : List (Key × V)} {es : Array DictEntry} {ep : Nat} (nai : d ≠ it) (nae : d ≠ e) (hod : o.data = .dict es ep) :
    Turn P w K (.Tuple elts kk tpos) (IteD d o kvs) [e, it] e (fun i h => (∃ old, IsEnum h e it ((i : Nat) : Int) old) ∧ h.IsKeyIter it d i kvs.length ep ∧ e ≠ it) where
  mem := by simp
  obj := fun i h st b hb => by
    obtain ⟨⟨old, he⟩, ⟨o, ho, hc, hd⟩, _⟩ := st
    have e' : b = e ∨ b = it := by simpa using hb
    rcases e' with z | z
    · rw [z]; exact ⟨_, he, fun v q => nomatch q⟩
    · rw [z]; exact ⟨o, ho, fun v q => by rw [hd] at q; cases q⟩
  keep := fun i h h' st k => let ⟨⟨old, he⟩, hi, hne⟩ := st; ⟨⟨old, k e (by simp) _ he⟩, hi.at fun o q => k it (by simp) o q, hne⟩
  item := by
    intro X hP hw hK hc i pins s σ H E I hf st hg
    subst hP hw hK
    obtain ⟨⟨old, he⟩, hit, hne⟩ := st
    obtain ⟨hd, hi⟩ := hg
    obtain ⟨hs, hgd, hx, es', ep', vs, hdt, hsz, kv, hm⟩ := I.frzK hd
    obtain ⟨rfl, rfl⟩ := dict_ep hod hdt
    obtain ⟨⟨k, v⟩, hkv⟩ : ∃ p, kvs[i]? = some p := ⟨kvs[i], List.getElem?_eq_getElem hi⟩
    obtain ⟨u, hu, ru⟩ := kv_get kv hkv
    have hel : e < s.heap.objs.size := Heap.lt_size he
    have hil : it < s.heap.objs.size := by obtain ⟨_, q, _⟩ := hit; exact Heap.lt_size q
    rw [← hsz] at hit
    refine wpAny_pyNext_enum_itemD (ga_draws_keys (prog := X.prog) (w := X.w) (A := X.A.in1) (I.ok.hd hc) it d nai es' ep') he ⟨hit, o, hgd, hdt⟩ (by omega) hne (by simp [hne, Ne.symm nae]) fun v' h' tk hv ho hst hT hsz' hk => ?_
    obtain ⟨en, hen, rfl⟩ := hv
    have key : keyIs k en.key = true := by
      obtain ⟨o2, es2, g1, g2, g3, g4, g5, g6⟩ := id hm
      rw [hgd] at g1
      cases g1
      obtain ⟨rfl, _⟩ := dict_ep hdt g3
      exact (g5.get? (e := en) (by simpa using hen) hu).1
    refine ⟨_, rfl, wpAny_letOwnedTupleGo_enum (s := { s with heap := h', toks := tk + 1 }) ho fun h'' he' sb => ?_⟩
    have hT2 : h''.get? s.heap.objs.size = some { cls := .type "tuple", data := .seq #[.int i tk, en.key] } := (sb.2 _ (Nat.ne_of_gt hel)).trans hT
    have new : ObjOk X.prog X.w (upd H s.heap.objs.size (.tup [.int (i : Nat), kV k])) h'' s.heap.objs.size (.tup [.int (i : Nat), kV k]) :=
      ⟨by show 2 ≤ sizeLine; decide, [.int i tk, en.key], .cons ⟨_, rfl⟩ (.cons (relV_key key) .nil), ⟨_, hT2, rfl, _, rfl⟩⟩
    have I1 : Inv X pins σ (upd H s.heap.objs.size (.tup [.int (i : Nat), kV k])) { s with heap := h'', toks := tk + 1 } :=
      I.turnedNew (ch := [e, it]) (fun b ob hb q => (sb.2 b (fun z => hb (by simp [z]))).trans (hk b ob (fun z => hb (by simp [z])) (fun z => hb (by simp [z])) q)) hf (Nat.le_refl _) new
    refine ⟨.ref s.heap.objs.size, _, I1, rfl, ⟨_, k, v, hkv, rfl, I.hok.fresh (Nat.le_refl _), rfl⟩, ⟨⟨en.key, ?_⟩, ?_, hne⟩, fun b hb => ?_⟩
    · have e1 : ((i + 1 : Nat) : Int) = (i : Int) + 1 := by omega
      rw [e1]; exact he'
    · rw [← hsz]
      exact hst.1.at fun o q => (sb.2 it (Ne.symm hne)).trans q
    · have hb' : b < s.heap.objs.size := by
        have e' : b = e ∨ b = it := by simpa using hb
        rcases e' with z | z
        · rw [z]; exact hel
        · rw [z]; exact hil
      rw [upd_ne (Nat.ne_of_lt hb')]
      exact (hf b hb).1
  done := by
    intro X hP hw hK hc i pins s σ H E I hf st hg
    subst hP hw hK
    obtain ⟨⟨old, he⟩, hit, hne⟩ := st
    obtain ⟨hd, hi⟩ := hg
    obtain ⟨hs, hgd, hx, es', ep', vs, hdt, hsz, kv, hm⟩ := I.frzK hd
    obtain ⟨rfl, rfl⟩ := dict_ep hod hdt
    obtain ⟨f0, f1, f2, f3, f4, f5⟩ := hf it (by simp)
    have hT : s.TypeIs (.ref e) "enumerate" := ⟨_, he, rfl⟩
    unfold pyNext
    refine wpAny_bind (wpAny_attempt (wpAny_callSpecial?_slot (name := Str.ofString "__next__") hT F.slot_enumerate_next
      (wpAny_call_entry F.slot_enumerate_next hT F.entry_enumerate_next ?_ (F.args_enumerate_next_1 _))))
    show wpAny _ _ (field (.ref e) 2 >>= _) _ _ _
    refine wpAny_bind (wpAny_field he rfl (x := .ref it) rfl ?_)
    refine wpAny_bind (ga_nextOf_key_end (I.ok.hd hc) hit hgd hdt hsz hi fun h' x' he' hx' => ?_)
    obtain ⟨o, ho, hc'⟩ := hx'
    refine wpAny_bind (wpAny_isInstance (T := "StopIteration") (b := true) ⟨o, ho, hc'⟩ isSubtype_stop ?_)
    exact wpAny_pure ⟨rfl, I.turned (t' := s.toks) (fun b o hb q => he' b o hb q) f0 f1 f3 f4 f5⟩
  self := by
    intro A i s Q E st h
    obtain ⟨⟨old, he⟩, _⟩ := st
    exact wpAny_pyIter_enum he h
def iEnumD (ta : TA) : TI := fun σ H R => ta σ H fun vs H1 => ∃ d o kvs, vs = [.ref d] ∧ H1 d = some (.frz o (.dK kvs)) ∧ R (IteD d o kvs) H1
theorem w_ienumD {ta : TA} {σ : L2.St} {H : Hp} {R : It → Hp → Prop} (q : ta σ H fun vs H1 => ∃ d o kvs, vs = [.ref d] ∧ H1 d = some (.frz o (.dK kvs)) ∧ R (IteD d o kvs) H1) : iEnumD ta σ H R := q
theorem pi_enumD {X : Cx} {e : Expr} {ta : TA} {p pos tpos : Pos} {elts : List Expr} {kk : Nat} (hg : Gl X "enumerate") (hm : X.mg "enumerate" = none) (ha : PA X [e] ta) (hs : starEach [e] X.env = [(false, eval e X.env)] := by rfl) :
    PI X (.Tuple elts kk tpos) (.Call (.Name "enumerate" p) [e] [] pos) (iEnumD ta) := by
  refine ⟨fun pins s σ H R I h => ?_⟩
  refine Call_ (ld_blt I hg hm boot_enumerate (PyProof.Rows.callWith_type1 (thn (ha.run pos pins s σ H _ I h) fun us s1 ⟨vs, H1, I1, r1, d, o, kvs, ex, hd, q⟩ => ?_) hs rfl))
  subst ex
  rw [Vals.ref1 r1]
  obtain ⟨hs', hgd, hx, es, ep, ws, hdt, hsz, kv, hm'⟩ := I1.frzK hd
  have hal : d < s1.heap.objs.size := Heap.lt_size hgd
  refine ga_enumerate_dict hs' hgd hx hdt fun h' he hit hsz2 hk => wpAny_pyIter_enum he ?_
  have I2 : Inv X pins σ H1 { s1 with heap := h' } := I1.kept (t' := s1.toks) hk
  rw [hsz] at hit
  refine ⟨s1.heap.objs.size + 1, [s1.heap.objs.size + 1, s1.heap.objs.size], _, _, H1, rfl, I2, turn_enumD (Nat.ne_of_lt hal) (Nat.ne_of_lt (Nat.lt_succ_of_lt hal)) hdt, ⟨⟨.none, he⟩, hit, Nat.succ_ne_self _⟩, fun b hb => ?_, q⟩
  have e' : b = s1.heap.objs.size + 1 ∨ b = s1.heap.objs.size := by simpa using hb
  have hle : s1.heap.objs.size ≤ b := by
    rcases e' with z | z
    · rw [z]; exact Nat.le_add_right _ _
    · rw [z]; exact Nat.le_refl _
  exact I1.fpOk hle (I1.hok.fresh hle)
theorem walk_enumD {d : Addr} {o : Obj} {kvs : List (Key × V)} : Walk (IteD d o kvs) kvs.length (fun H => H d = some (.frz o (.dK kvs))) (YPair (fun i => some (.int (i : Nat))) (fun i => (kvs[i]?).map fun kv => kV kv.1)) := by
  refine ⟨fun i _ hi q => ⟨q, hi⟩, fun _ q => ⟨q, Nat.le_refl _⟩, fun i H v H' _ q y => ?_⟩
  obtain ⟨T, k, x, h0, h1, h2, h3⟩ := y
  refine ⟨T, .int (i : Nat), kV k, h1, h2, h3, rfl, ?_⟩
  show (kvs[i]?).map (fun kv => kV kv.1) = some (kV k)
  rw [h0]; rfl
end GA
/-! ## GEK -/
namespace PySem
/-- the keys of a dict, whatever they are -/
theorem ga_walks_keys {prog : Program} {w : World} {A : Around} (hh : A.handled = none) (it d : Addr) (hne : d ≠ it) (od : Obj) (es : Array DictEntry) (ep : Nat) (hdt : od.data = .dict es ep) :
    Walks prog w A it [it, d] [it] es.size (fun i v => ∃ en, es[i]? = some en ∧ v = en.key) (fun i h => h.IsKeyIter it d i es.size ep ∧ h.get? d = some od) where
  sub := fun b hb => by rw [List.mem_singleton.mp hb]; simp
  frame := fun i h h' st hk => ⟨st.1.at fun o e => hk it (by simp) o e, hk d (by simp) od st.2⟩
  item := fun i s Q E hi st hQ => by
    obtain ⟨st1, h1⟩ := st
    exact L2.next_key_item st1 h1 hdt rfl (Array.getElem?_eq_getElem hi) fun h' hit' sb => hQ _ h' s.toks ⟨_, Array.getElem?_eq_getElem hi, rfl⟩ ⟨hit', (sb.2 d hne).trans h1⟩ fun b o hb e => (sb.2 b (by simpa using hb)).trans e
  done := fun s Q E st hQ => by
    obtain ⟨st1, h1⟩ := st
    exact L2.next_key_end hh st1 h1 hdt rfl (Nat.le_refl _) fun h' eb => hQ h' s.toks fun b o hb e => eb b o (by simpa using hb) e
  self := fun i s Q E st hQ => wpAny_pyIter_keyiter st.1 hQ
theorem ga_kdl {prog : Program} {w : World} {d : Addr} (lo : (d == sysModules) = false) (od : Obj) (es : Array DictEntry) (ep : Nat) (hx : od.ExactDict) (hdt : od.data = .dict es ep) :
    W.KdlSrc prog w "dict" d d es.size (fun i v => ∃ en, es[i]? = some en ∧ v = en.key) (fun h => h.get? d = some od) where
  type := fun _ hm => ⟨od, hm, hx.1⟩
  there := fun _ hm => ⟨Heap.lt_size hm, Heap.lt_size hm⟩
  keep := fun _ _ hm hk => hk d (.inl rfl) od hm
  notList := by decide
  notTuple := by decide
  hint := fun _ _ _ _ hm hq => W.kdl_hint_dict ⟨od, hm, hx.1⟩ hq
  iter := fun _ _ hh hm => ⟨_, _, (fun _ _ hq => L2.iter_keys lo hm hx hdt hq), ga_walks_keys hh _ d (Nat.ne_of_lt (Heap.lt_size hm)) od es ep hdt, ⟨⟨_, Heap.get?_push_size _ rfl, rfl, rfl⟩, Heap.get?_push_of_some _ hm⟩⟩
end PySem
namespace GA
open PySem PySem.Spec PyProof.Rows L2
/-! ### for k in f(..), a dict that nobody else has: it is locked from then on -/
def iKeysL (td : TE) : TI := fun σ H R => td σ H fun x H1 => ∃ d kvs, x = .ref d ∧ H1 d = some (.dK kvs) ∧ ∀ o, R (Itk d o kvs) (upd H1 d (.frz o (.dK kvs)))
theorem w_ikeysL {td : TE} {σ : L2.St} {H : Hp} {R : It → Hp → Prop} (q : td σ H fun x H1 => ∃ d kvs, x = .ref d ∧ H1 d = some (.dK kvs) ∧ ∀ o, R (Itk d o kvs) (upd H1 d (.frz o (.dK kvs)))) : iKeysL td σ H R := q
theorem pi_keysL {X : Cx} {tg e : Expr} {td : TE} (he : PE X e td) : PI X tg e (iKeysL td) := by
  refine ⟨fun pins s σ H R I h => ?_⟩
  refine thn (he.run pins s σ H _ I h) fun u s1 ⟨x, H1, I1, rx, d, kvs, ex, hd, q⟩ => ?_
  subst ex
  obtain rfl : u = Value.ref d := rx
  obtain ⟨od, I2⟩ := I1.lock hd True.intro
  obtain ⟨hs, hgd, hx, es, ep, vs, hdt, hsz, kv, hm⟩ := I2.frzK upd_same
  refine iter_keys hs hgd hx hdt (pi_one (tk := s1.toks) I2 _ (turn_keys _ hdt) ⟨_, Heap.get?_push_size _ rfl, rfl, ?_⟩ (q od))
  rw [hsz] <;> rfl
/-! ### sorted(d), d a dict whose keys are pairs of ints -/
abbrev kPr (u : Int × Int) : List L2.Key := [Sum.inl u.1, Sum.inl u.2]
def prOf (H : Hp) : V → Int × Int
  | .ref t => (match H t with
    | some (.tup [.int i, .int j]) => (i, j)
    | _ => (0, 0))
  | _ => (0, 0)
def rSortedDT : List V → Hp → VK → Prop := fun xs H Q => ∃ (a : Addr) (kvs : List (List L2.Key × V)) (ps : List (Int × Int)), xs = [.ref a] ∧ H a = some (.dT kvs) ∧ kvs.map (·.1) = ps.map kPr ∧
  ∀ (ys : List V) (p : Addr), (∀ y ∈ ys, ∃ t, y = .ref t ∧ H t = some (.tup [.int (prOf H y).1, .int (prOf H y).2])) → (ys.map (prOf H)).Perm ps → SrtO.Srtd (ltP (prOf H)) ys → H p = none → Q (.ref p) (upd H p (.lst ys))
theorem cr_sortedDT {X : Cx} (hcalm : X.calm = true) : CallR X (.builtin "sorted") rSortedDT := by
  intro pins s σ H xs us Q I r q
  obtain ⟨a, kvs, ps, ex, hd, hks, q⟩ := q
  subst ex
  rw [Vals.ref1 r]
  obtain ⟨od, I2⟩ := I.lock hd True.intro
  obtain ⟨hs, hgd, hx, es, ep, hdt, hsz, ent⟩ := I2.frzT upd_same
  have hl : kvs.length = ps.length := by
    have e := congrArg List.length hks
    rwa [List.length_map, List.length_map] at e
  have h16 : es.size ≤ sizeLine := by
    have z := (I.hok a _ hd)
    rw [hsz]
    exact z.1
  -- the keys' own tuples
  have key : ∀ (j : Nat) (u : Int × Int), ps[j]? = some u → ∃ (en : DictEntry) (t : Addr), es[j]? = some en ∧ en.key = .ref t ∧ H t = some (.tup [.int u.1, .int u.2]) := fun j u hu => by
    have e : (kvs.map (·.1))[j]? = some (kPr u) := by rw [hks, List.getElem?_map, hu]; rfl
    rw [List.getElem?_map] at e
    obtain ⟨⟨k, v⟩, hkv, ek⟩ := Option.map_eq_some_iff.mp e
    obtain ⟨en, t, h1, h2, h3⟩ := ent j k v hkv
    have ek : k = kPr u := ek
    subst ek
    refine ⟨en, t, h1, h2, ?_⟩
    by_cases c : t = a
    · rw [c, upd_same] at h3; cases h3
    · rw [upd_ne c] at h3; exact h3
  refine Calls.call_function_entry PyProof.Rows.kind_sorted PyProof.Rows.plain_sorted PyProof.Rows.entry_sorted (PyProof.Rows.args_sorted1 _) ?_
  unfold Builtin.«sorted»
  refine wpAny_bind (m := checkCount "sorted" 1 1 _) (wpAny_pure ?_)
  refine wpAny_bind (PySem.W.kdu_collect (A := X.A.in1) (ga_kdl hs od es ep hx hdt) (I.ok.hd hcalm) hgd h16 fun h' tk acc hk hacc => ?_)
  have hal : acc.toList.length = ps.length := by rw [Array.length_toList, hacc.1, hsz, hl]
  have atj : ∀ (j : Nat) (v : Value), acc.toList[j]? = some v → ∃ (u : Int × Int) (t : Addr), ps[j]? = some u ∧ v = .ref t ∧ H t = some (.tup [.int u.1, .int u.2]) := fun j v hv => by
    obtain ⟨en, h1, h2⟩ := hacc.2 j v (by rw [← Array.getElem?_toList]; exact hv)
    obtain ⟨u, hu⟩ : ∃ u, ps[j]? = some u := ⟨_, List.getElem?_eq_getElem (by have := (List.getElem?_eq_some_iff.mp hv).1; omega)⟩
    obtain ⟨en', t, h3, h4, h5⟩ := key j u hu
    rw [h1] at h3
    cases h3
    exact ⟨u, t, hu, by rw [h2, h4], h5⟩
  have I1 : Inv X pins σ H { s with heap := h', toks := tk } := I.kept hk
  have prV : ∀ {t : Addr} {u : Int × Int}, H t = some (.tup [.int u.1, .int u.2]) → prOf H (.ref t) = u := fun {t u} e => by
    show (match H t with | some (.tup [.int i, .int j]) => (i, j) | _ => (0, 0)) = u
    rw [e]
  have back : ∀ v ∈ acc.toList, ∃ t, v = Value.ref t := fun v hv => by
    obtain ⟨j, hj⟩ := List.getElem?_of_mem hv
    obtain ⟨u, t, _, e, _⟩ := atj j v hj
    exact ⟨t, e⟩
  have mapV : acc.toList.map (fun v => prOf H (backV v)) = ps := by
    refine List.ext_getElem? fun j => ?_
    rw [List.getElem?_map]
    cases e : acc.toList[j]? with
    | none => rw [List.getElem?_eq_none (by have := List.getElem?_eq_none_iff.mp e; omega)]; rfl
    | some v =>
      obtain ⟨u, t, h1, h2, h3⟩ := atj j v e
      rw [h1, h2]
      show some (prOf H (.ref t)) = some u
      rw [prV h3]
  refine wpAny_bind (wpAny_newList ?_ (by rw [hal, ← hl, ← hsz]; exact h16))
  have hoL : (h'.push (seqObj "list" acc.toList.toArray 0)).get? h'.objs.size = some (seqObj "list" acc.toList.toArray 0) := Heap.get?_push_size _ rfl
  show wpAny _ _ _ _ _ { s with heap := h'.push (seqObj "list" acc.toList.toArray 0), toks := tk }
  have hp : ∀ v ∈ acc.toList, Srt.IsPair (h'.push (seqObj "list" acc.toList.toArray 0)) v (prOf H (backV v)).1 (prOf H (backV v)).2 := fun v hv => by
    obtain ⟨j, hj⟩ := List.getElem?_of_mem hv
    obtain ⟨u, t, h1, rfl, h3⟩ := atj j v hj
    obtain ⟨_, its2, r2, o, ho, hc, n, hd⟩ := I1.hok _ _ h3
    obtain ⟨u1, u2, rfl, ri, rj⟩ := vals2 r2
    obtain ⟨t1, rfl⟩ := ri
    obtain ⟨t2, rfl⟩ := rj
    have e : prOf H (backV (Value.ref t)) = u := prV h3
    rw [e]
    exact ⟨t, o, t1, t2, n, rfl, Heap.get?_push_of_some _ ho, hc, hd⟩
  refine wpAny_bind (wpAny_holding (wpAny_call_entry PyProof.Rows.slot_list_sort ⟨_, hoL, rfl⟩ PyProof.Rows.entry_list_sort
    (SrtO.list_sort_ord (s := { s with heap := h'.push (seqObj "list" acc.toList.toArray 0), toks := tk }) (SrtO.swo_lex fun u => prOf H (backV u)) hoL (by rw [hal, ← hl, ← hsz]; exact h16) (fun h2 => SrtO.pairs_sortableO (by omega) hp fun o e => ?_) fun out h1 h2 => ⟨_, rfl, ?_⟩) (PyProof.Rows.args_list_sort _)))
  · have e' : some o = some (seqObj "list" acc.toList.toArray 0) := e.symm.trans hoL
    cases e'
    intro c
    exact absurd (Value.type.inj c) (by decide)
  · have h3 : ∀ u ∈ out, ∃ a, u = Value.ref a := fun u hu => back u (h2.perm.mem_iff.mp hu)
    obtain ⟨e', he'⟩ := PyProof.Rows.sortedHeap_at (vs := acc.toList) (out := out.toArray) hoL
    have hlen : (out.map backV).length ≤ sizeLine := by
      rw [List.length_map, h2.perm.length_eq, hal, ← hl, ← hsz]
      exact h16
    refine wpAny_pure ⟨_, rfl, .ref h'.objs.size, upd H h'.objs.size (.lst (out.map backV)), I1.laid (t' := tk) (fun b u e => ?_) (Nat.le_refl _)
      (show ObjOk X.prog X.w _ _ _ (.lst (out.map backV)) from ⟨hlen, out, e', vals_back h3, he'⟩), rfl, q (out.map backV) _ (fun y hy => ?_) ?_ (SrtO.srtd_map h1) (I1.hok.fresh (Nat.le_refl _))⟩
    · have hb : b < h'.objs.size := Heap.lt_size e
      rw [PyProof.Rows.sortedHeap_old (Nat.ne_of_lt hb) (by rw [size_push']; exact Nat.lt_succ_of_lt hb)]
      exact Heap.get?_push_of_some _ e
    · obtain ⟨v, hv, rfl⟩ := List.mem_map.mp hy
      obtain ⟨j, hj⟩ := List.getElem?_of_mem (h2.perm.mem_iff.mp hv)
      obtain ⟨u, t, _, rfl, h5⟩ := atj j v hj
      refine ⟨t, rfl, ?_⟩
      have e : prOf H (backV (Value.ref t)) = u := prV h5
      rw [e]
      exact h5
    · rw [List.map_map]
      have := h2.perm.map (fun v => prOf H (backV v))
      rw [mapV] at this
      exact this
end GA
/-! ## K90 -/
section
open PySem L2 GA
local macro_rules
  | `(tactic| walk_at "w") => `(tactic| first
    | ((with_reducible refine' GA.w_var ?e ?_); (case e => exact rfl))
    | (with_reducible refine' GA.w_c ?_)
    | (with_reducible refine' GA.w_cons ?_)
    | (with_reducible refine' GA.w_nil ?_)
    | (with_reducible refine' GA.w_op ?_)
    | (with_reducible refine' GA.r_I0 ?_)
    | (with_reducible refine' GA.w_bl ?_)
    | (with_reducible refine' GA.w_seq ?_)
    | (with_reducible refine' GA.w_set ?_)
    | (with_reducible refine' GA.w_ret ?_)
    | (with_reducible refine' GA.w_ifS ?_)
    | (with_reducible refine' GA.w_test ?_)
    | (with_reducible refine' GA.w_tB ?_)
    | (with_reducible refine' GA.w_not ?_)
    | (with_reducible refine' GA.w_and ?_)
    | (with_reducible refine' GA.w_or ?_)
    | (with_reducible refine' GA.w_andV ?_)
    | (with_reducible refine' GA.w_orV ?_)
    | (with_reducible refine' GA.w_notV ?_)
    | (with_reducible refine' GA.w_blc ?_)
    | (with_reducible refine' GA.w_if ?_)
    | (with_reducible refine' GA.w_CB ?_)
    | (with_reducible refine' GA.w_call ?_)
    | (with_reducible refine' GA.w_tupN ?_)
    | (with_reducible refine' GA.w_lstN ?_)
    | (with_reducible refine' GA.w_chain ?_)
    | (with_reducible refine' GA.w_drop ?_)
    | (with_reducible refine' GA.w_next ?_)
    | (with_reducible refine' GA.w_break ?_)
    | (with_reducible refine' GA.w_un ?_)
    | (with_reducible refine' GA.r_U ?_)
    | (with_reducible refine' GA.r_eqI ?_)
    | (with_reducible refine' GA.r_neI ?_)
    | (with_reducible refine' GA.r_eqB ?_)
    | (with_reducible refine' GA.r_neB ?_)
    | (with_reducible refine' GA.w_fld ?_)
    | (with_reducible refine' GA.w_sfld ?_)
    | (with_reducible refine' GA.w_sl ?_)
    | (with_reducible refine' GA.w_part ?_)
    | (with_reducible refine' GA.w_noPart ?_)
    | (with_reducible refine' GA.w_inti ?_)
    | (with_reducible refine' GA.w_retN ?_)
    | (with_reducible refine' GA.w_gsub ?_)
    | (with_reducible refine' GA.w_gname ?_)
    | (with_reducible refine' L2.iteT ?_)
    | (with_reducible refine' L2.iteF ?_)
    | (with_reducible refine' GA.w_nt ?_)
    | (with_reducible refine' GA.w_nf ?_)
    | (with_reducible refine' GA.w_isN ?_)
    | (with_reducible refine' GA.w_notN ?_)
    | (with_reducible refine' GA.w_yes ?_)
    | (with_reducible refine' GA.w_lc ?_)
    | (with_reducible refine' GA.w_lc2 ?_)
    | (with_reducible refine' GA.w_iseq ?_)
    | (with_reducible refine' GA.w_make ?_)
    | (with_reducible refine' GA.w_for ?_)
    | (with_reducible refine' GA.w_rng1 ?_)
    | (with_reducible refine' GA.w_rng2 ?_)
    | (with_reducible refine' GA.w_itup ?_)
    | (with_reducible refine' GA.w_ilist ?_)
    | (with_reducible refine' GA.w_ienum ?_)
    | (with_reducible refine' GA.w_BM ?_)
    | (with_reducible refine' GA.w_BM0 ?_)
    | (with_reducible refine' GA.w_izip ?_)
    | (with_reducible refine' GA.w_asg ?_))
  | `(tactic| walk_at "wm") => `(tactic| first
    | ((with_reducible refine' GA.w_var ?e ?_); (case e => exact rfl))
    | (with_reducible refine' GA.w_c ?_)
    | (with_reducible refine' GA.w_cons ?_)
    | (with_reducible refine' GA.w_nil ?_)
    | (with_reducible refine' GA.w_op ?_)
    | (with_reducible refine' GA.r_I0 ?_)
    | (with_reducible refine' GA.w_bl ?_)
    | (with_reducible refine' GA.w_set ?_)
    | (with_reducible refine' GA.w_ret ?_)
    | (with_reducible refine' GA.w_ifS ?_)
    | (with_reducible refine' GA.w_test ?_)
    | (with_reducible refine' GA.w_tB ?_)
    | (with_reducible refine' GA.w_not ?_)
    | (with_reducible refine' GA.w_and ?_)
    | (with_reducible refine' GA.w_or ?_)
    | (with_reducible refine' GA.w_andV ?_)
    | (with_reducible refine' GA.w_orV ?_)
    | (with_reducible refine' GA.w_notV ?_)
    | (with_reducible refine' GA.w_blc ?_)
    | (with_reducible refine' GA.w_if ?_)
    | (with_reducible refine' GA.w_CB ?_)
    | (with_reducible refine' GA.w_call ?_)
    | (with_reducible refine' GA.w_tupN ?_)
    | (with_reducible refine' GA.w_lstN ?_)
    | (with_reducible refine' GA.w_chain ?_)
    | (with_reducible refine' GA.w_drop ?_)
    | (with_reducible refine' GA.w_next ?_)
    | (with_reducible refine' GA.w_break ?_)
    | (with_reducible refine' GA.w_un ?_)
    | (with_reducible refine' GA.r_U ?_)
    | (with_reducible refine' GA.r_eqI ?_)
    | (with_reducible refine' GA.r_neI ?_)
    | (with_reducible refine' GA.r_eqB ?_)
    | (with_reducible refine' GA.r_neB ?_)
    | (with_reducible refine' GA.w_fld ?_)
    | (with_reducible refine' GA.w_sfld ?_)
    | (with_reducible refine' GA.w_sl ?_)
    | (with_reducible refine' GA.w_part ?_)
    | (with_reducible refine' GA.w_noPart ?_)
    | (with_reducible refine' GA.w_inti ?_)
    | (with_reducible refine' GA.w_retN ?_)
    | (with_reducible refine' GA.w_gsub ?_)
    | (with_reducible refine' GA.w_gname ?_)
    | (with_reducible refine' L2.iteT ?_)
    | (with_reducible refine' L2.iteF ?_)
    | (with_reducible refine' GA.w_nt ?_)
    | (with_reducible refine' GA.w_nf ?_)
    | (with_reducible refine' GA.w_isN ?_)
    | (with_reducible refine' GA.w_notN ?_)
    | (with_reducible refine' GA.w_yes ?_)
    | (with_reducible refine' GA.w_lc ?_)
    | (with_reducible refine' GA.w_lc2 ?_)
    | (with_reducible refine' GA.w_iseq ?_)
    | (with_reducible refine' GA.w_make ?_)
    | (with_reducible refine' GA.w_for ?_)
    | (with_reducible refine' GA.w_rng1 ?_)
    | (with_reducible refine' GA.w_rng2 ?_)
    | (with_reducible refine' GA.w_itup ?_)
    | (with_reducible refine' GA.w_ilist ?_)
    | (with_reducible refine' GA.w_ienum ?_)
    | (with_reducible refine' GA.w_BM ?_)
    | (with_reducible refine' GA.w_BM0 ?_)
    | (with_reducible refine' GA.w_izip ?_)
    | (with_reducible refine' GA.w_asg ?_))
  | `(tactic| walk_at "ws") => `(tactic| repeat (walk_at "w"))
  | `(tactic| walk_at "wn") => `(tactic| repeat (walk_at "wm"))


namespace Mine
section
variable {P : Program} {w : World} {K : PySem.W.Frag} {mg : Str → Option Value} {base : Heap} {a : Ads}

/-! ### what may come -/
/-- the turns of a comprehension over bools, told by what they say together -/
def BlA (H' : Hp) (D : Addr) (i : Nat) (P : Nat → Prop) : Prop := ∃ cs : List Bool, H' D = some (.lst (cs.map V.bl)) ∧ cs.length ≤ i ∧ (cs.all id = true ↔ ∀ j, j < i → P j)
theorem BlA.nil {H1 : Hp} {D : Addr} {P : Nat → Prop} : BlA (upd H1 D (.lst [])) D 0 P := ⟨[], upd_same, Nat.le_refl _, ⟨fun _ j h => absurd h (Nat.not_lt_zero _), fun _ => rfl⟩⟩
theorem lt_succ_all {i : Nat} {P : Nat → Prop} : (∀ j, j < i + 1 → P j) ↔ (∀ j, j < i → P j) ∧ P i := by
  constructor
  · intro h
    exact ⟨fun j hj => h j (by omega), h i (by omega)⟩
  · rintro ⟨h1, h2⟩ j hj
    rcases Nat.lt_or_ge j i with c | c
    · exact h1 j c
    · obtain rfl : j = i := by omega
      exact h2
theorem BlA.app {H' : Hp} {D : Addr} {i : Nat} {P : Nat → Prop} {c : Bool} (h : BlA H' D i P) (e : c = true ↔ P i) (hi : i ≤ 1000) : ∃ acc, H' D = some (.lst acc) ∧ acc.length < sizeLine ∧ BlA (upd H' D (.lst (acc ++ [V.bl c]))) D (i + 1) P := by
  obtain ⟨cs, h1, h2, h3⟩ := h
  refine ⟨cs.map V.bl, h1, Nat.lt_of_le_of_lt (by rw [List.length_map]; omega : (cs.map V.bl).length ≤ 1000) (by decide), cs ++ [c], by rw [upd_same, List.map_append]; rfl, by rw [List.length_append, List.length_singleton]; omega, ?_⟩
  rw [List.all_append, Bool.and_eq_true, h3, lt_succ_all, ← e]
  simp
theorem BlA.skip {H' : Hp} {D : Addr} {i : Nat} {P : Nat → Prop} (h : BlA H' D i P) (e : P i) : BlA H' D (i + 1) P := by
  obtain ⟨cs, h1, h2, h3⟩ := h
  refine ⟨cs, h1, by omega, ?_⟩
  rw [h3, lt_succ_all]
  exact ⟨fun q => ⟨q, e⟩, fun q => q.1⟩
theorem BlA.n {H' H'' : Hp} {D : Addr} {i : Nat} {P : Nat → Prop} (h : BlA H' D i P) (g : G none H' H'') : BlA H'' D i P := let ⟨cs, h1, h2, h3⟩ := h; ⟨cs, g.all _ _ h1, h2, h3⟩
theorem BlA.fin {H' : Hp} {D : Addr} {i : Nat} {P : Nat → Prop} (h : BlA H' D i P) : ∃ cs : List Bool, SqL K H' D (cs.map V.bl) ∧ (cs.all id = true ↔ ∀ j, j < i → P j) := let ⟨cs, h1, _, h3⟩ := h; ⟨cs, SqL.of h1, h3⟩
def BlE (H' : Hp) (D : Addr) (i : Nat) (P : Nat → Prop) : Prop := ∃ cs : List Bool, H' D = some (.lst (cs.map V.bl)) ∧ cs.length ≤ i ∧ (cs.any id = false ↔ ∀ j, j < i → ¬ P j)
theorem BlE.nil {H1 : Hp} {D : Addr} {P : Nat → Prop} : BlE (upd H1 D (.lst [])) D 0 P := ⟨[], upd_same, Nat.le_refl _, ⟨fun _ j h => absurd h (Nat.not_lt_zero _), fun _ => rfl⟩⟩
theorem BlE.app {H' : Hp} {D : Addr} {i : Nat} {P : Nat → Prop} {c : Bool} (h : BlE H' D i P) (e : c = true ↔ P i) (hi : i ≤ 1000) : ∃ acc, H' D = some (.lst acc) ∧ acc.length < sizeLine ∧ BlE (upd H' D (.lst (acc ++ [V.bl c]))) D (i + 1) P := by
  obtain ⟨cs, h1, h2, h3⟩ := h
  refine ⟨cs.map V.bl, h1, Nat.lt_of_le_of_lt (by rw [List.length_map]; omega : (cs.map V.bl).length ≤ 1000) (by decide), cs ++ [c], by rw [upd_same, List.map_append]; rfl, by rw [List.length_append, List.length_singleton]; omega, ?_⟩
  rw [List.any_append, Bool.or_eq_false_iff, h3, lt_succ_all, ← e]
  simp
theorem BlE.n {H' H'' : Hp} {D : Addr} {i : Nat} {P : Nat → Prop} (h : BlE H' D i P) (g : G none H' H'') : BlE H'' D i P := let ⟨cs, h1, h2, h3⟩ := h; ⟨cs, g.all _ _ h1, h2, h3⟩
theorem BlE.fin {H' : Hp} {D : Addr} {i : Nat} {P : Nat → Prop} (h : BlE H' D i P) : ∃ cs : List Bool, SqL K H' D (cs.map V.bl) ∧ (cs.any id = false ↔ ∀ j, j < i → ¬ P j) := let ⟨cs, h1, _, h3⟩ := h; ⟨cs, SqL.of h1, h3⟩

theorem flat_ints (ns : List Int) : (ns.map V.int).all flatV = true := by rw [List.all_map, List.all_eq_true]; intro q _; rfl
def sp_check_machine (K : PySem.W.Frag) (C : Addr) : Sp := fun vs H Q _ => ∃ (x : Addr) (m : Int) (ws : List (Int × Int)) (y : Int), vs = [.ref x, .int y] ∧ WebAt K C H x m ws ∧ (0 ≤ y ∧ y < m) ∧ Q .non H
theorem ok_check_machine (T : Txt K mg a) : FnOk P w K mg base CX0 4 a.f_check_machine a.d_check_machine P_check_machine (sp_check_machine K a.c_Web) := by
  refine T.F_check_machine.ok sc_check_machine (fun vs H Q E h => by obtain ⟨x, m, ws, y, rfl, _⟩ := h; rfl) (fun cdv A outer s H vs Q E hr h => ?_)
  obtain ⟨x, m, ws, y, rfl, ⟨dx, wa, hxi, hwa⟩, hy, k⟩ := h
  have G_is_below : FnOk P w K mg base CX0 3 a.f_is_below a.d_is_below P_is_below sp_is_below := ok_is_below T
  refine ⟨_, (pss_one (ps_if (pt_not (pt_val (pe_call (G_is_below) (hr.mono (by omega)) rfl T.m_is_below T.F_is_below.kp T.b_is_below .nil pass0 (pa_cons (pe_fld (pv 0) rfl) (pa_cons (pv 1) pa_nil)))))
    pss_never
    pss_nil)), ?_⟩
  walk_at "ws"
  refine r_fld hxi T.cl_Web T.na_Web_machines (wf_m _ _) ?_
  walk_at "ws"
  refine ⟨m, y, rfl, ?_⟩
  walk_at "ws"
  refine w_iteN (by simp; omega) ?_
  walk_at "ws"
  exact k
theorem ahead_no {d : List Int} {p : Int} (h : p ∉ d) : aheadOf d p = d := by
  unfold aheadOf
  have : d.length ≤ d.idxOf p := Nat.le_of_not_lt fun c => h (List.idxOf_lt_length_iff.mp c)
  exact List.take_of_length_le this
def sp_before (K : PySem.W.Frag) : Sp := fun vs H Q _ => ∃ (f : Addr) (d : List Int) (p : Int), vs = [.ref f, .int p] ∧ FrzT H f (d.map V.int) ∧ d.Nodup ∧ ∀ (q : Addr) H', G none H H' → SqT K H' q ((aheadOf d p).map V.int) → Q (.ref q) H'
theorem ok_before (T : Txt K mg a) : FnOk P w K mg base CX0 1 a.f_before a.d_before P_before (sp_before K) := by
  refine T.F_before.ok sc_before (fun vs H Q E h => by obtain ⟨f, d, p, rfl, _⟩ := h; rfl) (fun cdv A outer s H vs Q E hr h => ?_)
  obtain ⟨f, d, p, rfl, hf, nd, k⟩ := h
  refine ⟨_, (pss_cons (ps_if (pt_cmpR op_in_seq (pv 1) (pv 0) (by rfl))
    (pss_one (ps_ret (pe_slice sl_tupAN (pv 0) po_none (po_some (pe_bmT PySem.F.plainAttrs_tuple PySem.F.slot_tuple_index PySem.F.type_tuple_index mt_indexTI (pv 0) (pa_cons (pv 1) pa_nil))))))
    pss_nil)
  (pss_one (ps_ret (pv 0)))), ?_⟩
  walk_at "ws"
  refine ⟨f, _, rfl, .inr hf.sq, rfl, flat_ints d, ?_⟩
  rw [inV_ints]
  refine ⟨_, rfl, ?_⟩
  refine w_ite (fun e => ?_) (fun e => ?_)
  · have e : p ∈ d := of_decide_eq_true e
    walk_at "ws"
    refine w_bmt ?_
    walk_at "ws"
    refine ⟨⟨f, _, rfl, hf⟩, ?_⟩
    walk_at "ws"
    refine ⟨f, d, p, d.idxOf p, rfl, rfl, hf.sq, idx_at e, fun j hj e2 => ?_, ?_⟩
    · have := idx_of nd e2
      omega
    walk_at "ws"
    refine ⟨f, _, rfl, hf.sq, fun t3 H3 g3 h3 => ?_⟩
    have lix := idx_lt e
    rw [cut_to _ (by rw [List.length_map]; omega), ← List.map_take] at h3
    walk_at "ws"
    exact k t3 H3 (g3 none) h3
  · have e : p ∉ d := of_decide_eq_false e
    walk_at "ws"
    exact k f H G.refl (by rw [ahead_no e]; exact hf.sq)
theorem backL_snoc (W : List (Int × Int)) (ds : List (List Int)) (x : Nat) (p : Int) (u : Int × Int) : backL (W ++ [u]) ds x p = backL W ds x p ++ (if fitP ds x p u.1.toNat then [(u.2, u.1)] else []) := by
  unfold backL
  rw [List.filter_append, List.map_append]
  congr 1
  by_cases c : fitP ds x p u.1.toNat <;> simp [c]
def sp_can_come (K : PySem.W.Frag) (CW CR : Addr) : Sp := fun vs H Q _ => ∃ (x r : Addr) (m : Int) (W : List (Int × Int)) (ws : List Int) (ds : List (List Int)) (z p : Nat), vs = [.ref x, .ref r, .int (z : Nat), .int (p : Nat)] ∧ WebAt K CW H x m W ∧ IsWeb m W ∧ RecAt K CR H r ws ds ∧ IsRec ws ds ∧ ds.length = m.toNat ∧ z < ds.length ∧
  ∀ (b : Bool) H', G none H H' → (b = true ↔ CanC W ds z (p : Int)) → Q (.bl b) H'
theorem ok_can_come (T : Txt K mg a) : FnOk P w K mg base CX0 2 a.f_can_come a.d_can_come P_can_come (sp_can_come K a.c_Web a.c_Record) := by
  refine T.F_can_come.ok sc_can_come (fun vs H Q E h => by obtain ⟨x, r, m, W, ws, ds, z, p, rfl, _⟩ := h; rfl) (fun cdv A outer s H vs Q E hr h => ?_)
  obtain ⟨x, r, m, W, ws, ds, z, p, rfl, ⟨dx, wa, hx, hwa⟩, web, ⟨dr, wp, dp, hrr, hwp, bs, hbs, lb, hb⟩, rec, lm, hz, k⟩ := h
  have G_places_in : FnOk P w K mg base CX0 1 a.f_places_in a.d_places_in P_places_in (sp_places_in K) := ok_places_in T
  have G_before : FnOk P w K mg base CX0 1 a.f_before a.d_before P_before (sp_before K) := ok_before T
  have G_ways_from : FnOk P w K mg base CX0 1 a.f_ways_from a.d_ways_from P_ways_from (sp_ways_from K) := ok_ways_from T
  have m1 := web.lo
  have m7 := web.hi
  have p30 := rec.p30
  have r7 := rec.m7
  have l49 := isweb_len49 web
  obtain ⟨fz, hfz⟩ : ∃ f, bs[z]? = some f := ⟨_, List.getElem?_eq_getElem (by omega)⟩
  obtain ⟨dz, hdz⟩ : ∃ d, ds[z]? = some d := ⟨_, List.getElem?_eq_getElem hz⟩
  have ez : dAt ds z = dz := dAt_of hdz
  have Fz := hb z fz dz hfz hdz
  have dm := List.mem_of_getElem? hdz
  have ndz := rec.nd dz dm
  have lz := diary_len ndz (rec.rng dz dm)
  obtain ⟨wa', vw, e, hvw, hdw⟩ := dp_tup hwa
  cases e
  have lv : vw.length = W.length := by rw [DpAll.length hdw, List.length_map]
  refine ⟨_, (pss_cons (ps_set (i := 4) sc_can_come.nd rfl (Or.inr rfl) (pe_call (G_places_in) (hr.mono (by omega)) rfl T.m_places_in T.F_places_in.kp T.b_places_in .nil pass0 (pa_cons (pe_ix ix_tup (pe_fld (pv 1) rfl) (pv 2) (fun _ _ => rfl)) pa_nil)))
  (pss_cons (ps_set (i := 5) sc_can_come.nd rfl (Or.inr rfl) (pe_lc (own := [("diary", 7)]) (g := (gName 7)) (tt := tYes) rfl sc_can_come.nd (pi_tup (pe_fld (pv 1) rfl)) (blkOk_by (N := N_can_come) (sc := defScope s_can_come) (by decide +kernel)) (fun _ _ _ _ _ => (pg_name (i := 7) sc_can_come.nd rfl (by first | exact Or.inl rfl | exact Or.inr rfl))) (fun _ _ _ _ _ => pts_nil) (fun _ _ _ _ _ => (pe_callB (k_cr_all K rfl) (by rfl) T.n_all (by decide +kernel) (pa_cons (pe_lc (own := [("known", 10)]) (g := (gName 10)) (tt := tYes) rfl sc_can_come.nd (k_pi_tup K (pe_call (G_before) (hr.mono (by omega)) rfl T.m_before T.F_before.kp T.b_before .nil pass0 (pa_cons (pv 7) (pa_cons (pv 3) pa_nil)))) (blkOk_by (N := N_can_come) (by kernel_rfl)) (fun _ _ _ _ _ => (pg_name (i := 10) sc_can_come.nd rfl (by first | exact Or.inl rfl | exact Or.inr rfl))) (fun _ _ _ _ _ => pts_nil) (fun _ _ _ _ _ => (pe_cmp (pc_din (hu_of hr) (pv 10) (pv 4))))) pa_nil)))))
  (pss_cons (ps_setLc (i := 6) (own := [("y", 8), ("x", 9)]) (g := (gTup K 2 (gCons (gName 8) (gCons (gName 9) gNil))))  rfl sc_can_come.nd rfl rfl (sw_true rfl rfl rfl (by decide +kernel)) (pi_tup (pe_fld (pv 0) rfl)) (blkOk_by (N := N_can_come) (sc := defScope s_can_come) (by decide +kernel)) (fun _ _ _ _ _ => (pg_tup rfl (pgs_cons (pg_name (i := 8) sc_can_come.nd rfl (by first | exact Or.inl rfl | exact Or.inr rfl)) (pgs_cons (pg_name (i := 9) sc_can_come.nd rfl (by first | exact Or.inl rfl | exact Or.inr rfl)) pgs_nil)))) (fun _ _ _ _ _ => (pts_one (pt_val (pe_ix (k_ix_list K) (pv 5) (pv 8) (fun _ _ => rfl))))) (fun _ _ _ _ _ => (pe_tupN (pa_cons (pv 9) (pa_cons (pv 8) pa_nil)))))
  (pss_one (ps_ret (pe_callB (cr_any rfl) (by rfl) T.n_any (by decide +kernel) (pa_cons (pe_lc (own := [("y", 8)]) (g := (gName 8)) (tt := tYes) rfl sc_can_come.nd (pi_keysL (pe_call (G_ways_from) (hr.mono (by omega)) rfl T.m_ways_from T.F_ways_from.kp T.b_ways_from .nil pass0 (pa_cons (pv 2) (pa_cons (pv 6) pa_nil)))) (blkOk_by (N := N_can_come) (sc := defScope s_can_come) (by decide +kernel)) (fun _ _ _ _ _ => (pg_name (i := 8) sc_can_come.nd rfl (by first | exact Or.inl rfl | exact Or.inr rfl))) (fun _ _ _ _ _ => pts_nil) (fun _ _ _ _ _ => (pe_cmpR (k_op_in_seq K) (pv 3) (pe_ix (k_ix_tup K) (k_fld K (pv 1) rfl) (pv 8) (fun _ _ => rfl)) (by rfl)))) pa_nil))))))), ?_⟩
  walk_at "ws"
  refine r_fld hrr T.cl_Record T.na_Record_diaries (rf_d _ _) ?_
  walk_at "ws"
  refine r_ixT hbs (v := .ref fz) (at_of (j := z) rfl (by rw [List.getElem?_map, hfz]; rfl)) ?_
  walk_at "ws"
  refine ⟨fz, dz, rfl, Fz.sq, ndz, by omega, fun sn H1 hsn g1 h1 => ?_⟩
  walk_at "ws"
  refine r_fld (g1.all _ _ hrr) T.cl_Record T.na_Record_diaries (rf_d _ _) ?_
  refine i_tup (sqT_t g1.tups hbs) ?_
  intro FL hFL
  refine lc_it (walk_tup (xs := bs.map V.ref)) (fun i H' => G none H1 H' ∧ H' FL = some (.lst (((List.range i).map fun (y : Nat) => decide (fitP ds z (p : Int) y)).map V.bl))) ⟨(G.refl).mut hFL (fun _ e => nomatch e), upd_same⟩ (fun i H' _ q => sqT_t (g1.trans q.1).tups hbs) ?_ ?_
  · rintro i v _ H2 hi ⟨g2, h2⟩ ⟨rfl, hv⟩
    rw [List.length_map] at hi
    obtain ⟨f, d, rfl, hfi, hdi, hf⟩ := Dia.at_ (p := dp) lb hb hv
    have di := List.mem_of_getElem? hdi
    have ndi := rec.nd d di
    have ldi := diary_len ndi (rec.rng d di)
    have g02 := g1.trans g2
    walk_at "ws"
    refine ⟨rfl, ?_⟩
    walk_at "ws"
    refine ⟨f, d, (p : Int), rfl, hf.n g02, ndi, fun q H3 g3 h3 => ?_⟩
    refine i_tup h3 ?_
    intro R2 hR2
    have g13 := g2.trans g3
    refine lc_it (walk_tup (xs := (aheadOf d (p : Int)).map V.int)) (fun j H' => G none H3 H' ∧ BlA H' R2 j (fun j => ∀ y, (aheadOf d (p : Int))[j]? = some y → y ∈ dz)) ⟨(G.refl).mut hR2 (fun _ e => nomatch e), .nil⟩ (fun j H' _ q => sqT_t q.1.tups h3) ?_ ?_
    · rintro j v _ H4 hj ⟨g4, bl⟩ ⟨rfl, hv'⟩
      rw [List.length_map] at hj
      rw [List.getElem?_map] at hv'
      obtain ⟨y, hy, rfl⟩ := Option.map_eq_some_iff.mp hv'
      have jl : j ≤ 1000 := by
        unfold aheadOf at hj
        rw [List.length_take] at hj
        omega
      walk_at "ws"
      refine ⟨rfl, ?_⟩
      walk_at "ws"
      show tVar 10 _ _ _
      walk_at "ws"
      have hs4 := (g13.trans g4).all _ _ h1
      refine ⟨sn, _, rfl, DGet.k (k := Sum.inl y) hs4, ?_⟩
      rw [kvPl_some]
      obtain ⟨acc, r1, r2, r3⟩ := bl.app (c := decide (y ∈ dz)) (by
        rw [decide_eq_true_iff]
        constructor
        · intro h y' hy'
          rw [hy] at hy'
          cases hy'
          exact h
        · intro h; exact h y hy) jl
      exact ⟨acc, r1, r2, g4.mut hR2 (fun _ e => nomatch e), r3⟩
    rintro H4 ⟨g4, bl⟩
    rw [List.length_map] at bl
    obtain ⟨cs, c1, c2⟩ := bl.fin (K := K)
    walk_at "ws"
    refine ⟨R2, cs, rfl, c1, ?_⟩
    have ec : cs.all id = decide (fitP ds z (p : Int) i) := by
      rw [Bool.eq_iff_iff, c2, decide_eq_true_iff]
      unfold fitP
      rw [dAt_of hdi, ez]
      constructor
      · intro h y hy
        obtain ⟨j, hj, e⟩ := List.getElem_of_mem hy
        exact h j hj y (by rw [← e]; exact List.getElem?_eq_getElem hj)
      · intro h j _ y hy
        exact h y (List.mem_of_getElem? hy)
    rw [ec]
    have g24 := g3.trans g4
    refine ⟨_, g24.all _ _ h2, Nat.lt_of_le_of_lt (by rw [List.length_map, List.length_map, List.length_range]; omega : _ ≤ 100000) (by decide), (g2.trans g24).mut hFL (fun _ e => nomatch e), ?_⟩
    rw [upd_same, List.range_succ, List.map_append, List.map_append]; rfl
  rintro H2 ⟨g2, h2⟩
  rw [List.length_map, lb] at h2
  have g02 := g1.trans g2
  walk_at "ws"
  refine r_fld (g02.all _ _ hx) T.cl_Web T.na_Web_wires (wf_w _ _) ?_
  refine i_tup (sqT_t g02.tups hvw) ?_
  intro BK hBK
  refine lc_it (walk_tup (xs := vw)) (fun i H' => ∃ xs : List V, G none H2 H' ∧ H' BK = some (.lst xs) ∧ DpAll K H' xs ((backL (W.take i) ds z (p : Int)).map dP) ∧ xs.length ≤ i) ⟨[], (G.refl).mut hBK (fun _ e => nomatch e), upd_same, .nil, Nat.le_refl _⟩ (fun i H' _ ⟨_, q, _⟩ => sqT_t (g02.trans q).tups hvw) ?_ ?_
  · rintro i v _ H3 hi ⟨xs, g3, h3, dx3, lx3⟩ ⟨rfl, hv⟩
    obtain ⟨u, hu⟩ : ∃ u, W[i]? = some u := ⟨_, List.getElem?_eq_getElem (by omega)⟩
    have um := web.mem u (List.mem_of_getElem? hu)
    have tk : W.take (i + 1) = W.take i ++ [u] := by rw [List.take_add_one, hu]; rfl
    obtain ⟨t, rfl, ht⟩ : ∃ t, v = .ref t ∧ SqT K H t [.int u.1, .int u.2] := by
      obtain ⟨e, he, hd⟩ := DpAll.get hdw hv
      rw [List.getElem?_map, hu] at he
      cases he
      obtain ⟨t, e1, h1⟩ := dp_dI (ns := [u.1, u.2]) hd
      exact ⟨t, e1, h1⟩
    have g03 := g02.trans g3
    refine ⟨t, _, rfl, sqT_t g03.tups ht, rfl, ?_⟩
    refine ⟨_, _, rfl, ?_⟩
    walk_at "ws"
    refine ⟨_, _, rfl, ?_⟩
    walk_at "ws"
    refine ⟨rfl, rfl, ?_⟩
    walk_at "ws"
    have hFL3 := g3.all _ _ h2
    refine r_ixL (SqL.of hFL3) (v := .bl (decide (fitP ds z (p : Int) u.1.toNat))) (at_of (j := u.1.toNat) (by omega) (by rw [List.getElem?_map, List.getElem?_map, List.getElem?_range (by omega)]; rfl)) ?_
    refine ⟨_, rfl, ?_⟩
    rw [tk, backL_snoc]
    refine w_ite (fun e => ?_) (fun e => ?_)
    · have e : fitP ds z (p : Int) u.1.toNat := of_decide_eq_true e
      rw [if_pos e]
      walk_at "ws"
      refine ⟨sz (by simp), fun q H4 hq g4 h4 => ?_⟩
      have h4B := (g4 none).all _ _ h3
      have g24 := g3.trans (g4 none)
      refine ⟨xs, h4B, Nat.lt_of_le_of_lt (by omega : xs.length ≤ 100000) (by decide), xs ++ [.ref q], g24.mut hBK (fun _ e => nomatch e), upd_same, ?_, by rw [List.length_append, List.length_singleton]; omega⟩
      have tS : Ts H4 (upd H4 BK (.lst (xs ++ [.ref q]))) := Ts.updl h4B
      rw [List.map_append]
      refine GA.DpAll.app (dpAll_t tS _ _ (nls_pairs _) (dpAll_t (g4 none).tups _ _ (nls_pairs _) dx3)) (.cons ?_ .nil)
      exact dp_ofP (i := u.2) (j := u.1) (sqT_t tS (SqT.of h4))
    · have e : ¬ fitP ds z (p : Int) u.1.toNat := of_decide_eq_false e
      rw [if_neg e, List.append_nil]
      exact ⟨xs, g3, h3, dx3, by omega⟩
  rintro H3 ⟨xs, g3, h3, dx3, lx3⟩
  rw [lv, List.take_length] at dx3
  have g03 := g02.trans g3
  have bb : ∀ u ∈ backL W ds z (p : Int), (0 ≤ u.1 ∧ u.1 < m) ∧ (0 ≤ u.2 ∧ u.2 < m) := fun u hu => by
    have := web.mem _ (backL_mem.mp hu).1
    exact ⟨this.2.1, this.1⟩
  have lbk : (backL W ds z (p : Int)).length ≤ W.length := by
    unfold backL
    rw [List.length_map]
    exact List.length_filter_le _ _
  walk_at "ws"
  refine w_ikeysL ?_
  walk_at "ws"
  refine ⟨(z : Int), m, BK, xs, backL W ds z (p : Int), rfl, SqL.of h3, dx3, bb, by omega, by omega, by omega, fun f kvs ks H4 hf g4 h4 tr nk rk mem => ?_⟩
  refine ⟨f, kvs, rfl, h4, fun o => ?_⟩
  have hf0 : H f = none := new_bk g03 hf
  have gL : G none H (upd H4 f (.frz o (.dK kvs))) := (g03.trans g4).mut hf0 (fun _ e => nomatch e)
  have hLf : (upd H4 f (.frz o (.dK kvs))) f = some (.frz o (.dK kvs)) := upd_same
  generalize upd H4 f (.frz o (.dK kvs)) = HL at gL hLf
  have lk : kvs.length = ks.length := by have := congrArg List.length tr; rwa [List.length_map, List.length_map] at this
  have k7 : ks.length ≤ 7 := by
    have := List.Nodup.length_le_of_subset (l₂ := (List.range 7).map fun (j : Nat) => (j : Int)) nk fun k hk => by
      have := rk k hk
      exact List.mem_map.mpr ⟨k.toNat, List.mem_range.mpr (by omega), by omega⟩
    simpa using this
  intro R hR
  refine lc_it walk_keys (fun j H' => G none HL H' ∧ BlE H' R j (fun j => ∀ y, ks[j]? = some y → (p : Int) ∈ dAt ds y.toNat)) ⟨(G.refl).mut hR (fun _ e => nomatch e), .nil⟩ (fun j H' _ q => q.1.all _ _ hLf) ?_ ?_
  · rintro j v _ H5 hj ⟨g5, bl⟩ ⟨rfl, k5, v5, e5, rfl⟩
    obtain ⟨y, hy⟩ : ∃ y, ks[j]? = some y := ⟨_, List.getElem?_eq_getElem (by omega)⟩
    have ek : k5 = Sum.inl y := by
      have := congrArg (fun l => l[j]?) tr
      simp only [List.getElem?_map, hy, e5, Option.map_some, Option.some.injEq] at this
      exact this
    subst ek
    have yr := rk y (List.mem_of_getElem? hy)
    obtain ⟨fy, hfy⟩ : ∃ f, bs[y.toNat]? = some f := ⟨_, List.getElem?_eq_getElem (by omega)⟩
    obtain ⟨dy, hdy⟩ : ∃ d, ds[y.toNat]? = some d := ⟨_, List.getElem?_eq_getElem (by omega)⟩
    have Fy := hb _ fy dy hfy hdy
    have g05 := gL.trans g5
    show gName 8 (.int y) _ _ _
    walk_at "ws"
    refine ⟨rfl, ?_⟩
    walk_at "ws"
    refine r_fld (g05.all _ _ hrr) T.cl_Record T.na_Record_diaries (rf_d _ _) ?_
    walk_at "ws"
    refine r_ixT (sqT_t g05.tups hbs) (v := .ref fy) (at_of (j := y.toNat) (by omega) (by rw [List.getElem?_map, hfy]; rfl)) ?_
    refine ⟨fy, _, rfl, .inr (Fy.n g05).sq, rfl, flat_ints dy, ?_⟩
    rw [inV_ints]
    obtain ⟨acc, r1, r2, r3⟩ := bl.app (c := decide ((p : Int) ∈ dy)) (by
      rw [decide_eq_true_iff]
      constructor
      · intro h y' hy'
        rw [hy] at hy'
        cases hy'
        rw [dAt_of hdy]; exact h
      · intro h
        have := h y hy
        rw [dAt_of hdy] at this
        exact this) (by omega)
    exact ⟨acc, r1, r2, g5.mut hR (fun _ e => nomatch e), r3⟩
  rintro H5 ⟨g5, bl⟩
  obtain ⟨cs, c1, c2⟩ := bl.fin (K := K)
  walk_at "ws"
  refine ⟨R, cs, rfl, c1, ?_⟩
  walk_at "ws"
  refine k _ _ (gL.trans g5) ?_
  have c3 : cs.any id = true ↔ ¬ ∀ j, j < kvs.length → ¬ ∀ y, ks[j]? = some y → (p : Int) ∈ dAt ds y.toNat := by rw [← c2]; simp
  rw [c3]
  unfold CanC
  constructor
  · intro h
    refine Classical.byContradiction fun c => h fun j hj e => c ?_
    obtain ⟨y, hy⟩ : ∃ y, ks[j]? = some y := ⟨_, List.getElem?_eq_getElem (by omega)⟩
    exact ⟨y, (mem y).mp (List.mem_of_getElem? hy), e y hy⟩
  · rintro ⟨y, ry, hy⟩ h
    obtain ⟨j, hj, e⟩ := List.getElem_of_mem ((mem y).mpr ry)
    refine h j (by omega) fun y' hy' => ?_
    rw [List.getElem?_eq_getElem hj, e] at hy'
    cases hy'
    exact hy
def sp_may_come (K : PySem.W.Frag) (CW CR CN : Addr) : Sp := fun vs H Q E => ∃ (x r : Addr) (m : Int) (W : List (Int × Int)) (ws : List Int) (ds : List (List Int)) (z : Nat), vs = [.ref x, .ref r, .int (z : Nat)] ∧ WebAt K CW H x m W ∧ IsWeb m W ∧ RecAt K CR H r ws ds ∧ IsRec ws ds ∧ ds.length = m.toNat ∧ z < ds.length ∧
  (Full W ws ds → ∀ (t : Addr) H', G none H H' → SqT K H' t ((comes W ws.length ds z).map V.int) → Q (.ref t) H') ∧ (¬ Full W ws ds → ∀ H', G none H H' → E (.ref CN) none H')
theorem ok_may_come (T : Txt K mg a) : FnOk P w K mg base (L2.CX P w) 8 a.f_may_come a.d_may_come P_may_come (sp_may_come K a.c_Web a.c_Record a.c_NotMade) := by
  refine T.F_may_come.okX sc_may_come (fun vs H Q E h => by obtain ⟨x, r, m, W, ws, ds, z, rfl, _⟩ := h; rfl) (fun cdv A outer s H vs Q E hr h => ?_)
  obtain ⟨x, r, m, W, ws, ds, z, rfl, hwb, web, hrr0, rec, lm, hz, kY, kN⟩ := h
  obtain ⟨dr, wp, dp, hrr, hwp, bs, hbs, lb, hb⟩ := id hrr0
  have G_check_machines : FnOk P w K mg base CX0 4 a.f_check_machines a.d_check_machines P_check_machines (sp_check_machines K a.c_Record) := ok_check_machines T
  have G_check_machine : FnOk P w K mg base CX0 4 a.f_check_machine a.d_check_machine P_check_machine (sp_check_machine K a.c_Web) := ok_check_machine T
  have G_check_made : FnOk P w K mg base (L2.CX P w) 7 a.f_check_made a.d_check_made P_check_made (sp_check_made K a.c_Web a.c_Record a.c_NotMade) := ok_check_made T
  have G_places_in : FnOk P w K mg base CX0 1 a.f_places_in a.d_places_in P_places_in (sp_places_in K) := ok_places_in T
  have G_can_come : FnOk P w K mg base CX0 2 a.f_can_come a.d_can_come P_can_come (sp_can_come K a.c_Web a.c_Record) := ok_can_come T
  have m1 := web.lo
  have m7 := web.hi
  have p30 := rec.p30
  have r7 := rec.m7
  obtain ⟨fz, hfz⟩ : ∃ f, bs[z]? = some f := ⟨_, List.getElem?_eq_getElem (by omega)⟩
  obtain ⟨dz, hdz⟩ : ∃ d, ds[z]? = some d := ⟨_, List.getElem?_eq_getElem hz⟩
  have ez : dAt ds z = dz := dAt_of hdz
  have Fz := hb z fz dz hfz hdz
  have dm := List.mem_of_getElem? hdz
  have ndz := rec.nd dz dm
  have lz := diary_len ndz (rec.rng dz dm)
  obtain ⟨dx, wa, hx, hwa⟩ := id hwb
  refine ⟨_, (pss_cons (ps_expr (pe_call (G_check_machines) (hr.mono (by omega)) rfl T.m_check_machines T.F_check_machines.kp T.b_check_machines .nil pass0 (pa_cons (pe_fld (pv 0) rfl) (pa_cons (pv 1) pa_nil))))
  (pss_cons (ps_expr (pe_call (G_check_machine) (hr.mono (by omega)) rfl T.m_check_machine T.F_check_machine.kp T.b_check_machine .nil pass0 (pa_cons (pv 0) (pa_cons (pv 2) pa_nil))))
  (pss_cons (ps_expr (pe_call (G_check_made) (hr.mono (by omega)) rfl T.m_check_made T.F_check_made.kp T.b_check_made .nil (passes_call (takes_of rfl rfl rfl rfl) (fun _ _ _ _ h => h)) (pa_cons (pv 0) (pa_cons (pv 1) pa_nil))))
  (pss_cons (ps_set (i := 3) sc_may_come.nd rfl (Or.inr rfl) (pe_call (G_places_in) (hr.mono (by omega)) rfl T.m_places_in T.F_places_in.kp T.b_places_in .nil pass0 (pa_cons (pe_ix ix_tup (pe_fld (pv 1) rfl) (pv 2) (fun _ _ => rfl)) pa_nil)))
  (pss_cons (ps_setLc (i := 4) (own := [("put", 5)]) (g := (gName 5))  rfl sc_may_come.nd rfl rfl (sw_true rfl rfl rfl (by decide +kernel)) (pi_range1 rfl T.n_range (pa_cons (pe_callB call_len_seq (by rfl) T.n_len (by decide +kernel) (pa_cons (pe_fld (pv 1) rfl) pa_nil)) pa_nil)) (blkOk_by (N := N_may_come) (sc := defScope s_may_come) (by decide +kernel)) (fun _ _ _ _ _ => (pg_name (i := 5) sc_may_come.nd rfl (by first | exact Or.inl rfl | exact Or.inr rfl))) (fun _ _ _ _ _ => (pts_one (pt_cmp (pc_dnotin (hu_of hr) (pv 5) (pv 3))))) (fun _ _ _ _ _ => (pv 5)))
  (pss_one (ps_ret (pe_callTy call_tupleN (by rfl) T.n_tuple (by decide +kernel) (pa_cons (pe_lc (own := [("put", 5)]) (g := (gName 5)) rfl sc_may_come.nd (pi_list (pv 4)) (blkOk_by (N := N_may_come) (sc := defScope s_may_come) (by decide +kernel)) (fun _ _ _ _ _ => (pg_name (i := 5) sc_may_come.nd rfl (by first | exact Or.inl rfl | exact Or.inr rfl))) (fun _ _ _ _ _ => (pts_one (pt_val (pe_call (G_can_come) (hr.mono (by omega)) rfl T.m_can_come T.F_can_come.kp T.b_can_come .nil pass0 (pa_cons (pv 0) (pa_cons (pv 1) (pa_cons (pv 2) (pa_cons (pv 5) pa_nil)))))))) (fun _ _ _ _ _ => (pv 5))) pa_nil))))))))), ?_⟩
  walk_at "ws"
  refine r_fld hx T.cl_Web T.na_Web_machines (wf_m _ _) ?_
  walk_at "ws"
  refine ⟨r, ws, ds, by rw [show m = (ds.length : Int) from by omega]; rfl, hrr0, ?_⟩
  walk_at "ws"
  refine ⟨x, m, W, (z : Int), rfl, hwb, by omega, ?_⟩
  walk_at "ws"
  refine ⟨x, r, m, W, ws, ds, rfl, hwb, web, hrr0, rec, lm, fun F H1 g1 => ?_, fun F H1 g1 => kN F H1 g1⟩
  walk_at "ws"
  refine r_fld (g1.all _ _ hrr) T.cl_Record T.na_Record_diaries (rf_d _ _) ?_
  walk_at "ws"
  refine r_ixT (sqT_t g1.tups hbs) (v := .ref fz) (at_of (j := z) rfl (by rw [List.getElem?_map, hfz]; rfl)) ?_
  walk_at "ws"
  refine ⟨fz, dz, rfl, (Fz.n g1).sq, ndz, by omega, fun sn H2 hsn g2 h2 => ?_⟩
  have g02 := g1.trans g2
  walk_at "ws"
  refine r_fld (g02.all _ _ hrr) T.cl_Record T.na_Record_writers (rf_w _ _) ?_
  walk_at "ws"
  refine ⟨wp, _, rfl, .inr (sqT_t g02.tups hwp), ?_⟩
  walk_at "ws"
  rw [List.length_map]
  refine i_rng1 (by omega) (by omega) ?_
  rw [Int.toNat_natCast]
  intro ML hML
  obtain ⟨mis, hmis⟩ : ∃ mis : Nat → List Int, mis = fun i => ((List.range i).map fun (p : Nat) => (p : Int)).filter fun p => decide (p ∉ dz) := ⟨_, rfl⟩
  have misS : ∀ i, mis (i + 1) = mis i ++ (if (i : Int) ∉ dz then [(i : Int)] else []) := fun i => by
    rw [hmis]
    dsimp only
    rw [List.range_succ, List.map_append, List.filter_append]
    congr 1
    by_cases c : (i : Int) ∈ dz <;> simp [c]
  have misL : ∀ i, (mis i).length ≤ i := fun i => by
    rw [hmis]
    refine Nat.le_trans (List.length_filter_le _ _) ?_
    rw [List.length_map, List.length_range]
    exact Nat.le_refl _
  refine lc_it walk_range (fun i H' => G none H2 H' ∧ H' ML = some (.lst ((mis i).map V.int))) ⟨(G.refl).mut hML (fun _ e => nomatch e), by rw [upd_same, hmis]; rfl⟩ (fun _ _ _ _ => trivial) ?_ ?_
  · rintro i v _ H3 hi ⟨g3, h3⟩ ⟨rfl, rfl⟩
    show gName 5 (.int (0 + (i : Int))) _ _ _
    rw [Int.zero_add]
    walk_at "ws"
    refine ⟨rfl, ?_⟩
    walk_at "ws"
    show tVar 5 _ _ _
    walk_at "ws"
    refine ⟨sn, _, rfl, DGet.k (k := Sum.inl (i : Int)) (g3.all _ _ h2), ?_⟩
    rw [kvPl_some]
    refine ⟨_, rfl, ?_⟩
    have li := misL i
    rw [misS]
    refine w_ite (fun e => ?_) (fun e => ?_)
    · have e : (i : Int) ∉ dz := by simpa using e
      rw [if_pos e]
      walk_at "ws"
      exact ⟨_, h3, Nat.lt_of_le_of_lt (by rw [List.length_map]; omega : _ ≤ 100000) (by decide), g3.mut hML (fun _ e => nomatch e), by rw [upd_same, List.map_append]; rfl⟩
    · have e : (i : Int) ∈ dz := by simpa using e
      rw [if_neg (fun c => c e), List.append_nil]
      exact ⟨g3, h3⟩
  rintro H3 ⟨g3, h3⟩
  have g03 := g02.trans g3
  walk_at "ws"
  refine i_list (SqL.of h3) ?_
  intro CL hCL
  have mem3 : ∀ v ∈ mis ws.length, ∃ p : Nat, v = (p : Int) ∧ p < ws.length ∧ v ∉ dz := fun v hv => by
    rw [hmis] at hv
    obtain ⟨h1, h2⟩ := List.mem_filter.mp hv
    obtain ⟨p, hp, rfl⟩ := List.mem_map.mp h1
    exact ⟨p, rfl, List.mem_range.mp hp, of_decide_eq_true h2⟩
  have ml := misL ws.length
  refine lc_it (walk_list (xs := (mis ws.length).map V.int)) (fun i H' => G none H3 H' ∧ H' CL = some (.lst ((((mis ws.length).take i).filter fun p => @decide (CanC W ds z p) (Classical.propDecidable _)).map V.int))) ⟨(G.refl).mut hCL (fun _ e => nomatch e), upd_same⟩ (fun i H' _ q => SqL.of (q.1.all _ _ h3)) ?_ ?_
  · rintro i v _ H4 hi ⟨g4, h4⟩ ⟨rfl, hv⟩
    rw [List.length_map] at hi
    rw [List.getElem?_map] at hv
    obtain ⟨p', hp', rfl⟩ := Option.map_eq_some_iff.mp hv
    obtain ⟨p, rfl, pl, pn⟩ := mem3 p' (List.mem_of_getElem? hp')
    have tk : (mis ws.length).take (i + 1) = (mis ws.length).take i ++ [(p : Int)] := by rw [List.take_add_one, hp']; rfl
    have lf : (((mis ws.length).take i).filter fun p => @decide (CanC W ds z p) (Classical.propDecidable _)).length ≤ i := by
      refine Nat.le_trans (List.length_filter_le _ _) ?_
      rw [List.length_take]; omega
    have g04 := g03.trans g4
    walk_at "ws"
    refine ⟨rfl, ?_⟩
    walk_at "ws"
    refine ⟨x, r, m, W, ws, ds, z, p, rfl, hwb.n g04, web, hrr0.n g04, rec, lm, hz, fun b H5 g5 hb5 => ?_⟩
    refine ⟨_, rfl, ?_⟩
    rw [tk, List.filter_append]
    refine w_ite (fun e => ?_) (fun e => ?_)
    · have c : CanC W ds z (p : Int) := hb5.mp e
      rw [List.filter_cons_of_pos (by exact @decide_eq_true _ (Classical.propDecidable _) c), List.filter_nil]
      walk_at "ws"
      refine ⟨_, g5.all _ _ h4, Nat.lt_of_le_of_lt (by rw [List.length_map]; omega : _ ≤ 100000) (by decide), (g4.trans g5).mut hCL (fun _ e => nomatch e), by rw [upd_same, List.map_append]; rfl⟩
    · have c : ¬ CanC W ds z (p : Int) := fun c => by rw [hb5.mpr c] at e; cases e
      rw [List.filter_cons_of_neg (by rw [@decide_eq_true_iff _ (Classical.propDecidable _)]; exact c), List.filter_nil, List.append_nil]
      exact ⟨g4.trans g5, g5.all _ _ h4⟩
  rintro H4 ⟨g4, h4⟩
  rw [List.length_map, List.take_length] at h4
  walk_at "ws"
  refine ⟨CL, _, rfl, .inl ⟨SqL.of h4, fun t H5 ht g5 h5 => ?_⟩⟩
  walk_at "ws"
  refine kY F t H5 ((g03.trans g4).trans (g5 none)) ?_
  have e : comes W ws.length ds z = (mis ws.length).filter fun p => @decide (CanC W ds z p) (Classical.propDecidable _) := by
    unfold comes
    rw [hmis]
    dsimp only
    rw [List.filter_filter]
    refine List.filter_congr fun p _ => ?_
    rw [ez]
    by_cases c1 : p ∈ dz <;> by_cases c2 : CanC W ds z p <;> simp [c1, c2]
  rw [e]
  exact SqT.of h5

end
end Mine
/-! ## GU -/
end
namespace GA
open PySem PySem.Spec PyProof.Rows L2
/-! ### a dict by a comprehension, its keys tuples -/
section
variable {X : Cx}
/-- a pair is stored in a dict with tuple keys, from within a comprehension -/
theorem dset_T {pins : List (Addr × Obj)} {σ : L2.St} {H : Hp} {s : Shared} {E : Value → Shared → Prop} {D b : Addr} {kvs : List (List L2.Key × V)} {k : List L2.Key} {v : V} {u r : Value} {Q : Unit → Shared → Prop} (hu : X.A.units + 1 < cLine) (I : Inv X pins σ H s)
    (hD : H D = some (.dT kvs)) (hb : H b = some (.tup (k.map kV))) (hz : kvs.length < sizeLine) (ru : RelV (.ref b) u) (rv : RelV v r) (go : ∀ s', Inv X pins σ (upd H D (.dT (putK kvs k v))) s' → Q () s') :
    wpAny (model X.prog X.w) X.A (dictSet D u r) Q E s := by
  cases ru
  obtain ⟨z, nm, xs, kt, at_⟩ := dt_of I.hok hD
  have lx : xs.length ≤ sizeLine := Paired.length kt ▸ z
  have lp : (putK kvs k v).length ≤ sizeLine := Nat.le_trans (length_putK kvs k v) hz
  refine wpAny_dictSet_heap (hsz := lx) (show X.A.units < cLine by omega) (key_of I.hok hb) at_ ?_
  rintro h' ⟨ob, es, ep, q1, q2, q3, q4, _, q6⟩ same
  apply go
  have keeps : ∀ (c : Addr) ys, H c = some (.tup ys) → upd H D (.dT (putK kvs k v)) c = some (.tup ys) := fun c ys ec => (upd_ne (ne_of ec hD (by intro e; cases e))).trans ec
  exact d_write I (hD.symm ▸ True.intro) same ⟨ob, q1⟩ ⟨lp, nm, _, (KT.put kt k hb rv).keeps keeps, ob, es, ep, q1, q2, q3, q4, q6⟩
/-- {k: v for target in iter if ..}, the keys tuples of ints or texts: D the new dict -/
def tDcT (wi : TI) (g : TG) (tt : TT) (tk tv : TE) (vs : List Nat) : TE := fun σ H Q => wi σ H fun J H1 => ∀ D, H1 D = none → ∃ W : Nat → Nat → Hp → Prop, (∃ m, W 0 m (upd H1 D (.dT []))) ∧ ∀ i m H, W i m H →
  (J.stop i H ∧ Q (.ref D) H) ∨ (J.go i H ∧ ∃ Nx : Hp → Prop, (∀ H', Nx H' → ∃ m', m' < m ∧ W (i + 1) m' H') ∧ ∀ x H', J.yld i H x H' → g x (wipe σ vs) H' fun σ2 H2 => wipe σ2 vs = wipe σ vs ∧ tt σ2 H2 fun b H3 =>
    if b = true then tk σ2 H3 fun y H4 => tv σ2 H4 fun z H5 => ∃ kvs k b, y = .ref b ∧ H5 b = some (.tup (k.map kV)) ∧ H5 D = some (.dT kvs) ∧ kvs.length < sizeLine ∧ Nx (upd H5 D (.dT (putK kvs k z))) else Nx H3)
theorem pe_dcT {kx vx tg iter : Expr} {ifs : List Expr} {scope : Scope} {own : List (Str × Nat)} {pos : Pos} {wi : TI} {g : TG} {tt : TT} {tk tv : TE} (hu : X.A.units + 1 < cLine) (calm : X.calm = true) (nd : X.N.Nodup) (src : PI X tg iter wi) (blk : BlkOk X.N X.env.scope scope own)
    (pg : ∀ (s : Shared) (H : Hp) (C : Addr) (cl : List (Str × Addr)) (fp : List Addr), PG (X.blk s H scope (compEnvC scope cl C X.env) fp) tg g)
    (pt : ∀ (s : Shared) (H : Hp) (C : Addr) (cl : List (Str × Addr)) (fp : List Addr), PTs (X.blk s H scope (compEnvC scope cl C X.env) fp) ifs tt)
    (pk : ∀ (s : Shared) (H : Hp) (C : Addr) (cl : List (Str × Addr)) (fp : List Addr), PE (X.blk s H scope (compEnvC scope cl C X.env) fp) kx tk)
    (pv' : ∀ (s : Shared) (H : Hp) (C : Addr) (cl : List (Str × Addr)) (fp : List Addr), PE (X.blk s H scope (compEnvC scope cl C X.env) fp) vx tv) (fold : ∀ x, foldedSetIterable iter X.env x = pure x := by intro _; rfl) :
    PE X (.DictComp kx vx [⟨tg, iter, ifs, 0⟩] scope pos) (tDcT wi g tt tk tv (own.map (·.2))) := by
  constructor
  intro pins s σ H Q I want
  rw [arm_eval_DictComp]
  have cells : ∀ nm ∈ scope.names, nm.2 = .free → ∃ c, X.env.cells.lookup nm.1 = some c := fun nm hnm e => (blk.free nm hnm e).elim (fun a => I.ok.has _ (.inl a)) fun a => I.ok.has _ (.inr a)
  apply wpAny_comprehension_free (use := none) rfl fold (closure_ok cells) blk.kind (fun nm hnm e => by rw [blk.uniq nm hnm, e])
  refine thn (src.run pins s σ H _ I want) fun _ sa step1 => thn step1 fun _ sb step2 => ?_
  obtain ⟨it, fp, told, J, Hb, rfl, Ib, Tn, stb, fb, rest⟩ := step2
  refine wpAny_newObj_type (newEnv_comp ?_)
  -- the dict's own place
  obtain ⟨D, eD⟩ : ∃ D, sb.heap.objs.size = D := ⟨_, rfl⟩
  have freeD : Hb D = none := Ib.hok.fresh (eD ▸ Nat.le_refl _)
  obtain ⟨W, ⟨m0, start⟩, turn⟩ := rest D freeD
  obtain ⟨sc, eSc⟩ : ∃ sc : Shared, { sb with heap := sb.heap.push { cls := .type "dict", data := .dict #[] } } = sc := ⟨_, rfl⟩
  have hc : sc.heap = sb.heap.push { cls := .type "dict", data := .dict #[] } := eSc ▸ rfl
  have Ic : Inv X pins σ (upd Hb D (.dT [])) sc := by
    subst eSc eD
    exact Ib.laid (t' := sb.toks) (fun _ _ e => Heap.get?_push_of_some _ e) (Nat.le_refl _) (dt_empty sb.heap Ib.big)
  have low : ∀ b ∈ fp, b < sb.heap.objs.size := fun b hb => let ⟨_, e, _⟩ := Tn.obj _ _ stb b hb; Heap.lt_size e
  have fc : ∀ b ∈ fp, FpOk X pins (upd Hb D (.dT [])) b ∧ b < sc.heap.objs.size := by
    intro b hb
    have lt := low b hb
    have ne : b ≠ D := eD ▸ Nat.ne_of_lt lt
    exact ⟨⟨(upd_ne ne).trans (fb b hb).1, (fb b hb).2⟩, by rw [hc, Heap.size_push]; exact Nat.lt_succ_of_lt lt⟩
  have stc : told 0 sc.heap := Tn.keep _ _ _ stb fun b _ o e => hc ▸ Heap.get?_push_of_some _ e
  have Id := block_start Ic blk nd fc
  have rg := pg sc (upd Hb D (.dT [])) sc.heap.objs.size (cellsFrom (sc.heap.objs.size + 1) scope.names (cloFrom X.env.cells scope.names [])) fp
  have rt := pt sc (upd Hb D (.dT [])) sc.heap.objs.size (cellsFrom (sc.heap.objs.size + 1) scope.names (cloFrom X.env.cells scope.names [])) fp
  have rk := pk sc (upd Hb D (.dT [])) sc.heap.objs.size (cellsFrom (sc.heap.objs.size + 1) scope.names (cloFrom X.env.cells scope.names [])) fp
  have rv := pv' sc (upd Hb D (.dT [])) sc.heap.objs.size (cellsFrom (sc.heap.objs.size + 1) scope.names (cloFrom X.env.cells scope.names [])) fp
  have bare : ∀ b ∈ fp, upd Hb D (.dT []) b = none := fun b hb => (fc b hb).1.1
  show codeAny _ _ (.compStart (.DictComp kx vx [⟨tg, iter, ifs, 0⟩] scope pos) 0 (.ref it) (.ref sb.heap.objs.size) (compEnvC scope (cellsFrom (({ sb with heap := sb.heap.push { cls := .type "dict", data := .dict #[] } } : Shared).heap.objs.size + 1) scope.names (cloFrom X.env.cells scope.names [])) ({ sb with heap := sb.heap.push { cls := .type "dict", data := .dict #[] } } : Shared).heap.objs.size X.env)) (compPost (model X.prog X.w) X.A X.xe none _ (.ref sb.heap.objs.size) ({ sb with heap := sb.heap.push { cls := .type "dict", data := .dict #[] } } : Shared).heap.objs.size) { ({ sb with heap := sb.heap.push { cls := .type "dict", data := .dict #[] } } : Shared) with heap := pushCells (({ sb with heap := sb.heap.push { cls := .type "dict", data := .dict #[] } } : Shared).heap.push { cls := .type "dict", data := .dict #[] }) scope.names }
  rw [eSc, eD]
  obtain ⟨ce, eCe⟩ : ∃ ce, compEnvC scope (cellsFrom (sc.heap.objs.size + 1) scope.names (cloFrom X.env.cells scope.names [])) sc.heap.objs.size X.env = ce := ⟨_, rfl⟩
  have at_ce : ce.locals = sc.heap.objs.size := eCe ▸ rfl
  rw [eCe] at Id rg rt rk rv ⊢
  obtain ⟨Hc, eHc⟩ : ∃ Hc, upd Hb D (.dT []) = Hc := ⟨_, rfl⟩
  rw [eHc] at Ic Id rg rt rk rv start bare fc
  obtain ⟨sd, eSd⟩ : ∃ sd : Shared, { sc with heap := pushCells (sc.heap.push { cls := .type "dict", data := .dict #[] }) scope.names } = sd := ⟨_, rfl⟩
  rw [eSd] at Id ⊢
  have std : told 0 sd.heap := Tn.keep _ _ _ stc fun b _ o e => eSd ▸ pushCells_keeps _ _ _ _ (Heap.get?_push_of_some _ e)
  have pins_ : ∀ {τ : L2.St} {H' : Hp} {s' : Shared}, Inv (X.blk sc Hc scope ce fp) [] τ H' s' → (∀ b ∈ fp, H' b = none) → ∀ b ∈ fp, FpOk (X.blk sc Hc scope ce fp) [] H' b := fun I' no b hb =>
    ⟨no b hb, (I'.ok.exf b hb).1, I'.ok.exfs b hb, .inl hb, fun x c e => (I'.ok.exf b hb).2 x c e, fun p hp => nomatch (show p ∈ ([] : List (Addr × Obj)) from hp)⟩
  have loop : codeAny (model X.prog X.w) X.A (.compLoop (.DictComp kx vx [⟨tg, iter, ifs, 0⟩] scope pos) 0 (.ref it) (.ref D) ce) (compPost (model X.prog X.w) X.A X.xe none (fun v s' => ∃ x H', Inv X pins σ H' s' ∧ RelV x v ∧ Q x H') (.ref D) sc.heap.objs.size) sd := by
    refine compLoop_anyD (fun n s' => ∃ i H', Inv (X.blk sc Hc scope ce fp) [] (wipe σ (own.map (·.2))) H' s' ∧ told i s'.heap ∧ (∀ b ∈ fp, H' b = none) ∧ W i n H') ?_ m0 ⟨0, Hc, Id, std, bare, start⟩
    rintro n s1 ⟨i, H1, I1, st1, no1, w1⟩
    rcases turn i n H1 w1 with ⟨halt, ends⟩ | ⟨goes, Nx, next, step⟩
    · refine thnF (Tn.done (X.blk sc Hc scope ce fp) rfl rfl rfl calm i [] s1 _ H1 (fun _ _ => False) I1 (pins_ I1 no1) st1 halt) fun r s2 out => ?_
      obtain ⟨rfl, I2⟩ := out
      have I3 : Inv X pins σ H1 s2 := Ic.call' (ch := fp) I2.os I2.base I2.hok I2.bare fun b hb =>
        let q := (fc b hb).1.2
        ⟨q.2.2.1, q.1, q.2.2.2.1, q.2.2.2.2⟩
      have free1 : H1 sc.heap.objs.size = none := at_ce ▸ I2.free
      obtain ⟨ns, hns, _⟩ := I2.loc
      have hns : s2.heap.Ns sc.heap.objs.size ns := at_ce ▸ (show s2.heap.Ns ce.locals ns from hns)
      obtain ⟨q0, q1, q2, q3, q4, q5⟩ := Ic.fpOk (Nat.le_refl _) free1
      exact ⟨ns, hns, fun h2 same => ⟨.ref D, H1, I3.turned (t' := s2.toks) (fun b o hb e => (same.2 b hb).trans e) q0 q1 q3 q4 q5, rfl, ends⟩⟩
    · refine thnF (Tn.item (X.blk sc Hc scope ce fp) rfl rfl rfl calm i [] s1 _ H1 (fun _ _ => False) I1 (pins_ I1 no1) st1 goes) fun r s2 out => ?_
      obtain ⟨u, rfl, out⟩ := out
      refine thnF out fun _ s3 ⟨x, H3, I3, r3, y3, st3, no3⟩ => ?_
      have J3 := I3.pinned (pins_ I3 no3) (Tn.obj _ _ st3)
      refine thnF (rg.run _ s3 _ H3 x u _ J3 r3 (step x H3 y3)) fun _ s4 ⟨σ4, H4, I4, w4, q4⟩ => ?_
      refine thnF (rt.run _ s4 σ4 H4 _ I4 q4) fun ok s5 ⟨H5, I5, q5⟩ => ?_
      have back : ∀ {s' : Shared} {H' : Hp}, Inv (X.blk sc Hc scope ce fp) ([] ++ pinsAt fp s3.heap) σ4 H' s' → Nx H' → ∃ m, m < n ∧ ∃ i H', Inv (X.blk sc Hc scope ce fp) [] (wipe σ (own.map (·.2))) H' s' ∧ told i s'.heap ∧ (∀ b ∈ fp, H' b = none) ∧ W i m H' := by
        intro s' H' I' nx
        obtain ⟨m', less, w'⟩ := next H' nx
        have stays : ∀ b ∈ fp, ∀ o, s3.heap.get? b = some o → s'.heap.get? b = some o ∧ H' b = none := fun b hb o e =>
          have z := I'.pin (b, o) (List.mem_append_right _ (List.mem_append_right _ (mem_pinsAt hb e)))
          ⟨z.1, z.2.1⟩
        refine ⟨m', less, i + 1, H', I'.unpinned (pins := []) |>.weak (by rw [← w4, wipe_length]) (fun j v e => (wipe_some (w4.symm ▸ e)).1), Tn.keep _ _ _ st3 fun b hb o e => (stays b hb o e).1, fun b hb => ?_, w'⟩
        obtain ⟨o, e, _⟩ := Tn.obj _ _ st3 b hb
        exact (stays b hb o e).2
      cases ok with
      | false => exact back I5 (by simpa using q5)
      | true =>
        refine thnF (rk.run _ s5 σ4 H5 _ I5 (show tk σ4 H5 _ from q5)) fun _ s6 ⟨y6, H6, I6, r6, q6⟩ => ?_
        refine thnF (rv.run _ s6 σ4 H6 _ I6 q6) fun _ s7 ⟨y7, H7, I7, r7, kvs, key, b, e7, hb7, hD7, hz7, nx⟩ => ?_
        exact dset_T (X := X.blk sc Hc scope ce fp) hu I7 hD7 hb7 hz7 (e7 ▸ r6) r7 fun s8 I8 => back I8 nx
  exact codeAny_compStart_dict loop (Tn.self X.A 0 _ _ _ std loop)
end
section
variable {J : It} {n : Nat} {Gd : Hp → Prop} {Y : Nat → Hp → V → Hp → Prop} {g : TG} {tt : TT} {tk tv : TE} {wi : TI} {vs : List Nat} {σ : L2.St} {H1 : Hp} {D : Addr} {Qd : Hp → Prop}
theorem dcT_it (w : Walk J n Gd Y) (Pv : Nat → Hp → Prop) (h0 : Pv 0 (upd H1 D (.dT []))) (hG : ∀ i H, i ≤ n → Pv i H → Gd H)
    (hs : ∀ i x H H', i < n → Pv i H → Y i H x H' → g x (wipe σ vs) H' fun σ2 H2 => wipe σ2 vs = wipe σ vs ∧ tt σ2 H2 fun b H3 =>
      if b = true then tk σ2 H3 fun y H4 => tv σ2 H4 fun z H5 => ∃ kvs k b, y = .ref b ∧ H5 b = some (.tup (k.map kV)) ∧ H5 D = some (.dT kvs) ∧ kvs.length < sizeLine ∧ Pv (i + 1) (upd H5 D (.dT (putK kvs k z))) else Pv (i + 1) H3) (hd : ∀ H, Pv n H → Qd H) :
    ∃ W : Nat → Nat → Hp → Prop, (∃ m, W 0 m (upd H1 D (.dT []))) ∧ ∀ i m H, W i m H →
      (J.stop i H ∧ Qd H) ∨ (J.go i H ∧ ∃ Nx : Hp → Prop, (∀ H', Nx H' → ∃ m', m' < m ∧ W (i + 1) m' H') ∧ ∀ x H', J.yld i H x H' → g x (wipe σ vs) H' fun σ2 H2 => wipe σ2 vs = wipe σ vs ∧ tt σ2 H2 fun b H3 =>
        if b = true then tk σ2 H3 fun y H4 => tv σ2 H4 fun z H5 => ∃ kvs k b, y = .ref b ∧ H5 b = some (.tup (k.map kV)) ∧ H5 D = some (.dT kvs) ∧ kvs.length < sizeLine ∧ Nx (upd H5 D (.dT (putK kvs k z))) else Nx H3) := by
  refine ⟨fun i m H => m = n - i ∧ i ≤ n ∧ Pv i H, ⟨n, by simp, Nat.zero_le _, h0⟩, ?_⟩
  rintro i m H ⟨rfl, hi, p⟩
  have q := hG i H hi p
  by_cases c : i < n
  · exact .inr ⟨w.goes i H c q, Pv (i + 1), fun H' p' => ⟨n - (i + 1), by omega, rfl, c, p'⟩, fun x H' y => hs i x H H' c p (w.yields i H x H' c q y)⟩
  · obtain rfl : i = n := by omega
    exact .inl ⟨w.stops H q, hd H p⟩
theorem w_dcT {Q : VK} (q : wi σ H1 fun J H1 => ∀ D, H1 D = none → ∃ W : Nat → Nat → Hp → Prop, (∃ m, W 0 m (upd H1 D (.dT []))) ∧ ∀ i m H, W i m H →
  (J.stop i H ∧ Q (.ref D) H) ∨ (J.go i H ∧ ∃ Nx : Hp → Prop, (∀ H', Nx H' → ∃ m', m' < m ∧ W (i + 1) m' H') ∧ ∀ x H', J.yld i H x H' → g x (wipe σ vs) H' fun σ2 H2 => wipe σ2 vs = wipe σ vs ∧ tt σ2 H2 fun b H3 =>
    if b = true then tk σ2 H3 fun y H4 => tv σ2 H4 fun z H5 => ∃ kvs k b, y = .ref b ∧ H5 b = some (.tup (k.map kV)) ∧ H5 D = some (.dT kvs) ∧ kvs.length < sizeLine ∧ Nx (upd H5 D (.dT (putK kvs k z))) else Nx H3)) : tDcT wi g tt tk tv vs σ H1 Q := q
end
section
variable {X : Cx}
/-- set(t), t a tuple of ints -/
def rSetTI (K : PySem.W.Frag) (w : World) : List V → Hp → VK → Prop := fun xs H Q => ∃ (p : Addr) (ns : List Int), xs = [.ref p] ∧ SqT K H p (ns.map V.int) ∧ ns.length ≤ 1000 ∧
  ∀ (a : Addr) (c : Nat) H2, H a = none → c ≤ ns.length → (∀ o, G o H H2) → H2 a = some (SetO w a (fun j => decide (j ∈ ns)) c) → Q (.ref a) H2
theorem cr_setTI (hc : X.calm = true) : CallR X (.type "set") (rSetTI X.K X.w) := by
  intro pins s σ H vs us Q I r h
  obtain ⟨p, ns, rfl, hp, hz, q⟩ := h
  rw [Vals.ref1 r]
  obtain ⟨its, rv, pt, _⟩ := I.tuple hp
  have free : H s.heap.objs.size = none := I.hok.fresh (Nat.le_refl _)
  refine call_set_tupI ns (I.ok.hd hc) pt (ints_of_vals rv) (by unfold scanBound; omega) fun h' tk c R hc' keep => ?_
  exact ⟨.ref s.heap.objs.size, _, I.laid (t' := tk) keep (Nat.le_refl _) (setO_new R), rfl, q _ c _ free hc' (fun _ => G.alloc free) upd_same⟩
/-- sorted(a set of ints) -/
def rSortSI (w : World) : List V → Hp → VK → Prop := fun vs H Q => ∃ (a : Addr) (S : Int → Bool) (n : Nat), vs = [V.ref a] ∧ H a = some (SetO w a S n) ∧ n < 64 ∧
  ∀ (ns : List Int) (p : Addr) H2, ns.Pairwise (· < ·) → (∀ k : Int, k ∈ ns ↔ S k = true) → (∀ o, G o H H2) → H2 p = some (.lst (ns.map V.int)) → Q (.ref p) H2
theorem cr_sortSI (hc : X.calm = true) : CallR X (.builtin "sorted") (rSortSI X.w) := CallR.weak (cr_sortedSet hc) fun vs H Q h => by
  obtain ⟨a, S, n, e, ha, hn, q⟩ := h
  exact ⟨a, S, n, e, ha, hn, fun ns p h1 h2 _ hp => q ns p _ h1 h2 (fun _ => G.alloc hp) upd_same⟩
end
end GA
/-! ## GSL -/
namespace GA
open PySem PySem.Spec PyProof.Rows L2
section
variable {P : Program} {w : World} {A : Around} {E : Value → Shared → Prop} {s : Shared}
/-- set(a list of ints), told by its members; what stood stands -/
theorem set_of_listI {l : Addr} {items : Array Value} (ns : List Int) {Q : Value → Shared → Prop} (hh : A.handled = none) (hl : s.heap.IsList l items) (hit : IntsAre items.toList ns) (hb : ns.length + 1 < scanBound)
    (h : ∀ (h' : Heap) (tk c : Nat), SetR w h' s.heap.objs.size (fun j => decide (j ∈ ns)) c → c ≤ ns.length → (∀ b o, s.heap.get? b = some o → h'.get? b = some o) → Q (.ref s.heap.objs.size) { s with heap := h', toks := tk }) :
    wpAny (model P w) A (call (.type "set") [.ref l]) Q E s := by
  have sz : items.size = ns.length := by rw [← IntsAre.length hit, Array.length_toList]
  obtain ⟨ol, hol, hcl, nl, hdl⟩ := id hl
  have lS : l < s.heap.objs.size := Heap.lt_size hol
  obtain ⟨O, eO⟩ : ∃ O : Obj, O = { cls := .type "set", dict := none, data := .set #[] 0 (.fresh 0 0 (!w.params.followText "set-order")) } := ⟨_, rfl⟩
  obtain ⟨c, tl, hmro⟩ := F.called_set.mro
  have hmade := F.called_set.made
  have hsub := F.called_set.sub
  refine wpAny_call (codeAny_of_tree ?_)
  show wpAny _ _ (callAny (.type "set") _) _ _ _
  refine wpAny_pure ⟨Code.quiet_builtin _ (by decide +kernel), codeAny_builtin F.entry_type_call ?_⟩
  rw [Around.under_plain (weight_type_call_type "set" [.ref l] []) rfl]
  have h1 := F.called_set.notType
  have h2 := F.called_set.canCreate
  have hct := F.typeCall_set_1 (.ref l)
  repeat (any_goals (first | assumption | wp_step))
  refine codeAny_mono (code_set_led1 (.ref l) (E := E) (Q₁ := fun obj s₁ => obj = .ref s.heap.objs.size ∧ s₁ = { s with heap := s.heap.push O }) ⟨rfl, by rw [eO]⟩) fun r s₁ hr => ?_
  cases r with
  | error e => exact hr
  | ok fl =>
    cases fl with
    | ret obj =>
      obtain ⟨rfl, rfl⟩ := hr
      have hS : (s.heap.push O).get? s.heap.objs.size = some O := Heap.get?_push_size _ (by rw [eO]; rfl)
      have hT : Shared.TypeIs { s with heap := s.heap.push O } (.ref s.heap.objs.size) "set" := ⟨_, hS, by rw [eO]⟩
      have hli := F.called_set.init.lookup
      have hbi := F.called_set.init.bind (.ref s.heap.objs.size)
      repeat (any_goals (first | assumption | wp_step))
      refine codeAny_mono (codeAny_call_builtin (R := wants (fun r s₂ => r = .none ∧ ∃ h' tk c, s₂ = { s with heap := h', toks := tk } ∧ SetR w h' s.heap.objs.size (fun j => decide (j ∈ ns)) c ∧ c ≤ ns.length ∧
          (∀ b o, s.heap.get? b = some o → h'.get? b = some o)) E) F.called_set.init.plain F.entry_set_init (check_set_init_1 hT ?_)) fun r₂ s₂ hr₂ => ?_
      · obtain ⟨ocls, odict, odata, oslots⟩ := ol
        simp only at hcl hdl
        subst hcl; subst hdl
        have hol' : (s.heap.push O).get? l = some { cls := .type "list", dict := odict, data := .seq items nl, slots := oslots } := Heap.get?_push_of_some _ hol
        have hsls := F.sub_list_set
        have hslf := F.sub_list_frozenset
        have hne : (Value.type "list" == Value.type "dict") = false := by decide
        have hl1 : (s.heap.push O).IsList l items := ⟨_, hol', rfl, nl, rfl⟩
        have zp : (s.heap.push O).objs.size = s.heap.objs.size + 1 := Heap.size_push ..
        have apart : l ≠ (s.heap.push O).objs.size := by rw [zp]; exact Nat.ne_of_lt (Nat.lt_succ_of_lt lS)
        have hSf : s.heap.objs.size ∉ [(s.heap.push O).objs.size, l] := by
          rw [zp]
          simp only [List.mem_cons, List.not_mem_nil, or_false, not_or]
          exact ⟨Nat.ne_of_lt (Nat.lt_succ_self _), Nat.ne_of_gt lS⟩
        subst eO
        unfold Builtin.«set.__init__» noKeywords Builtin.Frozenset.updateFrom
        generalize hPI : pyIter = PI
        wp_walk
        subst hPI
        refine wpAny_pyIter_list hl1 ?_
        refine wpAny_bind (wpAny_runValue ?_)
        have hh3 : A.in1.in1.in1.handled = none := by simp [hh]
        have hval : ∀ (i : Nat) (v : Value), items[i]? = some v → ∃ k t, ns[i]? = some k ∧ v = .int k t := fun i v hv => by
          have hi : i < ns.length := by rw [← sz]; exact (Array.getElem?_eq_some_iff.mp hv).1
          obtain ⟨t, e⟩ := IntsAre.int_at hit i v (by rw [Array.getElem?_toList]; exact hv)
          refine ⟨ns[i], t, List.getElem?_eq_getElem hi, ?_⟩
          rw [e, List.getD_eq_getElem?_getD, List.getElem?_eq_getElem hi] <;> rfl
        refine set_update_ints ((Walks.list hh3 _ l apart items).toS) s.heap.objs.size hSf ns sz hb hval (items.size - 0) 0 _ (by omega) (Nat.zero_le _) ⟨⟨_, Heap.get?_push_size _ rfl, rfl, rfl⟩, (hl1.push _)⟩ ?hS0 ?hR
        case hS0 => exact ⟨0, Nat.le_refl 0, setR_new_at (Heap.get?_push_of_some _ hS)⟩
        case hR =>
          intro s' c' hm hc' hS'
          obtain ⟨h', g2, d', tk', os'⟩ := s'
          have eg : g2 = s.gens := hm.gens
          have ed : d' = s.drawn := hm.drawn
          have eo : os' = s.os := hm.os
          subst eg; subst ed; subst eo
          show wpAny _ _ _ _ _ _
          refine wpAny_pure ?_
          show wpAny _ _ (ret Value.none) _ _ _
          rw [sz] at hc'
          refine wpAny_pure ⟨rfl, h', tk', c', rfl, hS', hc', fun b o e => ?_⟩
          have hb0 : b < s.heap.objs.size := Heap.lt_size e
          refine hm.heap b o ?_ (Heap.get?_push_of_some _ (Heap.get?_push_of_some _ e))
          simp only [List.mem_cons, List.not_mem_nil, or_false, not_or]
          exact ⟨Nat.ne_of_lt hb0, by rw [zp]; exact Nat.ne_of_lt (Nat.lt_succ_of_lt hb0)⟩
      · cases r₂ with
        | error e => exact hr₂
        | ok fl₂ =>
          cases fl₂ with
          | ret r =>
            obtain ⟨rfl, h', tk, c', rfl, g1, g2, g3⟩ := hr₂
            repeat (any_goals (first | assumption | wp_step))
            exact h _ _ _ g1 g2 g3
          | _ => exact hr₂.elim
    | _ => exact hr.elim
end
section
variable {X : Cx}
/-- set(a list of ints) -/
def rSetLI (K : PySem.W.Frag) (w : World) : List V → Hp → VK → Prop := fun xs H Q => ∃ (p : Addr) (ns : List Int), xs = [.ref p] ∧ SqL K H p (ns.map V.int) ∧ ns.length ≤ 4000 ∧
  ∀ (a : Addr) (c : Nat) (us : List Int) H2, H a = none → us.Nodup → (∀ k, k ∈ us ↔ k ∈ ns) → us.length = c → (∀ o, G o H H2) → H2 a = some (SetO w a (fun j => decide (j ∈ ns)) c) → Q (.ref a) H2
theorem cr_setLI (hc : X.calm = true) : CallR X (.type "set") (rSetLI X.K X.w) := by
  intro pins s σ H vs us Q I r h
  obtain ⟨p, ns, rfl, hp, hz, q⟩ := h
  rw [Vals.ref1 r]
  obtain ⟨its, rv, pt, _⟩ := I.list hp
  have free : H s.heap.objs.size = none := I.hok.fresh (Nat.le_refl _)
  refine set_of_listI ns (I.ok.hd hc) pt.isList (ints_of_vals rv) (by unfold scanBound; omega) fun h' tk c R hc' keep => ?_
  obtain ⟨_, es, _, _, _, _, _, _, e5, e6, _, _, e9, _⟩ := id R
  exact ⟨.ref s.heap.objs.size, _, I.laid (t' := tk) keep (Nat.le_refl _) (setO_new R), rfl, q _ c (es.toList.map keyOf) _ free e5 (fun k => by rw [← e6 k, decide_eq_true_iff]) (by rw [List.length_map, Array.length_toList]; exact e9) (fun _ => G.alloc free) upd_same⟩
end
end GA
/-! ## GDN -/
namespace GA
open PySem L2
/-! ### dicts whose keys are tuples of tuples of ints -/
abbrev nkI (d : List Int) : NestedKey := .tup (d.map NestedKey.num)
abbrev nkDD (ds : List (List Int)) : NestedKey := .tup (ds.map nkI)
abbrev dII (ds : List (List Int)) : PyData := .tuple (ds.map dI)
theorem nkI_inj : ∀ {d e : List Int}, nkI d = nkI e → d = e := fun {d e} h => by
  have h := NestedKey.tup.inj h
  exact List.map_inj_right (fun a b h => NestedKey.num.inj h) |>.mp h
theorem nkDD_inj {d e : List (List Int)} (h : nkDD d = nkDD e) : d = e := by
  have h := NestedKey.tup.inj h
  exact List.map_inj_right (fun a b h => nkI_inj h) |>.mp h
theorem nk_ints {h : Heap} : ∀ {d : List Int} {vs : List Value} {as : List Addr}, ReadsAll h vs (d.map PyData.int) as → NestedAll h (d.map NestedKey.num) vs
  | [], _, _, r => by cases r; exact .nil
  | i :: d, _, _, r => by
    cases r with
    | cons r1 r2 =>
      cases r1
      exact .cons (.int _ _) (nk_ints r2)
theorem nk_I {h : Heap} {d : List Int} {v : Value} {as : List Addr} (r : Reads h v (dI d) as) : NestedIs h (nkI d) v := by
  cases r with
  | tuple e1 e2 e3 r => exact .tup e1 e2 e3 (nk_ints r)
theorem nk_all {h : Heap} : ∀ {ds : List (List Int)} {vs : List Value} {as : List Addr}, ReadsAll h vs (ds.map dI) as → NestedAll h (ds.map nkI) vs
  | [], _, _, r => by cases r; exact .nil
  | d :: ds, _, _, r => by
    cases r with
    | cons r1 r2 => exact .cons (nk_I r1) (nk_all r2)
theorem nk_II {h : Heap} {ds : List (List Int)} {v : Value} {as : List Addr} (r : Reads h v (dII ds) as) : NestedIs h (nkDD ds) v ∧ ∃ a, v = .ref a := by
  cases r with
  | tuple e1 e2 e3 r => exact ⟨.tup e1 e2 e3 (nk_all r), _, rfl⟩
theorem nk_depI : ∀ d : List Int, NestedKey.depthAll (d.map NestedKey.num) = 0
  | [] => rfl
  | _ :: d => by rw [List.map_cons, NestedKey.depthAll, nk_depI d]; rfl
theorem nk_depA : ∀ ds : List (List Int), NestedKey.depthAll (ds.map nkI) ≤ 1
  | [] => Nat.zero_le _
  | d :: ds => by
    rw [List.map_cons, NestedKey.depthAll, NestedKey.depth, nk_depI]
    have := nk_depA ds
    omega
theorem nk_dep (ds : List (List Int)) : (nkDD ds).depth ≤ 8 := by
  rw [NestedKey.depth]
  have := nk_depA ds
  omega
theorem nl_dII (ds : List (List Int)) : nl (dII ds) = true := by
  show nls _ = true
  exact nls_iff.mpr fun d hd => by
    obtain ⟨e, _, rfl⟩ := List.mem_map.mp hd
    exact nl_dI e
/-- the object of such a dict, with its keys and their places -/
def ND (P : Program) (w : World) (d : Addr) (kbs : List (NestedKey × Addr)) : Heap → Prop := fun h => (d == sysModules) = false ∧ ∃ xs : List (NestedKey × Addr × Value), xs.map (fun x => (x.1, x.2.1)) = kbs ∧ xs.length ≤ sizeLine ∧
  ∃ o es ep, h.get? d = some o ∧ o.ExactDict ∧ o.data = .dict es ep ∧ es.toList = xs.map (entryOfKey (nestedKind P w)) ∧ (xs.map (·.1)).Nodup
theorem ND.stay {P : Program} {w : World} {d : Addr} {kbs : List (NestedKey × Addr)} {h1 h2 : Heap} (x : ND P w d kbs h1) (k : ∀ o, h1.get? d = some o → h2.get? d = some o) : ND P w d kbs h2 := by
  obtain ⟨a, xs, b, c, o, es, ep, h, r⟩ := x
  exact ⟨a, xs, b, c, o, es, ep, k o h, r⟩
theorem ND.ok {P : Program} {w : World} {H : Hp} {d : Addr} {kbs : List (NestedKey × Addr)} {h : Heap} (x : ND P w d kbs h) : ObjOk P w H h d (.ext (ND P w d kbs)) :=
  ⟨x, let ⟨_, _, _, _, o, _, _, e, _⟩ := x; ⟨o, e⟩, fun _ _ y k => y.stay k⟩
/-- a dict with the keys kss, told by their data -/
def IsN (P : Program) (w : World) (K : PySem.W.Frag) (H : Hp) (d : Addr) (kss : List (List (List Int))) : Prop := ∃ kbs : List (NestedKey × Addr), H d = some (.ext (ND P w d kbs)) ∧ kbs.map (·.1) = kss.map nkDD ∧ ∀ kb ∈ kbs, ∃ ks, kb.1 = nkDD ks ∧ Dp K H (.ref kb.2) (dII ks)
section
variable {X : Cx} {pins : List (Addr × Obj)} {σ : St} {H : Hp} {s : Shared}
theorem nd_of (I : Inv X pins σ H s) {d : Addr} {kss : List (List (List Int))} (h : IsN X.prog X.w X.K H d kss) : (d == sysModules) = false ∧ ∃ xs : List (NestedKey × Addr × Value), xs.map (·.1) = kss.map nkDD ∧ xs.length ≤ sizeLine ∧ s.heap.DictOfH (nestedKind X.prog X.w) d xs := by
  obtain ⟨kbs, e, ek, all⟩ := h
  obtain ⟨x, _, _⟩ := (show ObjOk X.prog X.w H s.heap d (.ext (ND X.prog X.w d kbs)) from I.hok d _ e)
  obtain ⟨y, xs, exs, z, o, es, ep, h1, h2, h3, h4, h5⟩ := x
  refine ⟨y, xs, ?_, z, o, es, ep, h1, h2, h3, h4, fun q hq => ?_, h5⟩
  · rw [← ek, ← exs, List.map_map]; rfl
  · obtain ⟨ks, e1, e2⟩ := all (q.1, q.2.1) (by rw [← exs]; exact List.mem_map_of_mem hq)
    obtain ⟨as, r⟩ := Dp.reads I (dII ks) (.ref q.2.1) (.ref q.2.1) e2 rfl
    have e1 : q.1 = nkDD ks := e1
    rw [e1]
    exact ⟨(nk_II r).1, nk_dep ks⟩
theorem at_some {xs : List (NestedKey × Addr × Value)} {kss : List (List (List Int))} (e : xs.map (·.1) = kss.map nkDD) (ks : List (List Int)) : (atKey xs (nkDD ks)).isSome = decide (ks ∈ kss) := by
  have m : nkDD ks ∈ xs.map (·.1) ↔ ks ∈ kss := by
    rw [e, List.mem_map]
    exact ⟨fun ⟨y, hy, ey⟩ => by rw [← nkDD_inj ey]; exact hy, fun h => ⟨ks, h, rfl⟩⟩
  unfold atKey
  rw [Option.isSome_map, Bool.eq_iff_iff, List.find?_isSome, decide_eq_true_iff, ← m, List.mem_map]
  constructor
  · rintro ⟨x, hx, h⟩
    exact ⟨x, hx, of_decide_eq_true h⟩
  · rintro ⟨x, hx, h⟩
    exact ⟨x, hx, decide_eq_true h⟩
end
def rNotInN (P : Program) (w : World) (K : PySem.W.Frag) : R2 := fun x y H Q => ∃ d kss ks, y = .ref d ∧ IsN P w K H d kss ∧ Dp K H x (dII ks) ∧ Q (.bl (!decide (ks ∈ kss))) H
theorem op_notInN {X : Cx} (hu : X.A.units + 65 < cLine) : OpR X (compareOp .NotIn) (rNotInN X.prog X.w X.K) := by
  intro pins s σ H x y v u Q I rx ry h
  obtain ⟨d, kss, ks, ey, hN, hd, q⟩ := h
  subst ey
  cases (show u = Value.ref d from ry)
  obtain ⟨as, r⟩ := Dp.reads I (dII ks) x v hd rx
  obtain ⟨rn, b, eb⟩ := nk_II r
  subst eb
  obtain ⟨y, xs, e, z, D⟩ := nd_of I hN
  refine PyProof.Rows.wpAny_notIn_heap (knd := nestedKind X.prog X.w) (by show X.A.units + 1 + 8 < cLine; omega) ⟨rn, nk_dep ks⟩ y D ?_
  rw [at_some e]
  exact ⟨.bl _, H, I.tok _, rfl, q⟩
def rSetN (P : Program) (w : World) (K : PySem.W.Frag) : V → V → V → Hp → (Hp → Prop) → Prop := fun o i v H Q => ∃ d kss ks, o = .ref d ∧ IsN P w K H d kss ∧ Dp K H i (dII ks) ∧ ks ∉ kss ∧ kss.length < sizeLine ∧ ∀ u, IsN P w K (upd H d u) d (kss ++ [ks]) → Q (upd H d u)
theorem set_dictN {X : Cx} (hu : X.A.units + 65 < cLine) : PSet X (rSetN X.prog X.w X.K) := by
  intro pins s σ H o i v ov iv u Q I ro ri rv h
  obtain ⟨d, kss, ks, eo, hN, hd, nm, lt, q⟩ := h
  subst eo
  cases (show ov = Value.ref d from ro)
  obtain ⟨as, r⟩ := Dp.reads I (dII ks) i iv hd ri
  obtain ⟨rn, b, eb⟩ := nk_II r
  subst eb
  have hN' := hN
  obtain ⟨kbs, e0, ek, all⟩ := hN'
  obtain ⟨xok, _, _⟩ := (show ObjOk X.prog X.w H s.heap d (.ext (ND X.prog X.w d kbs)) from I.hok d _ e0)
  obtain ⟨ys, xs, exs, z, ob, es, ep, h1, h2, h3, h4, h5⟩ := xok
  have e : xs.map (·.1) = kss.map nkDD := by rw [← ek, ← exs, List.map_map]; rfl
  have D : s.heap.DictOfH (nestedKind X.prog X.w) d xs := ⟨ob, es, ep, h1, h2, h3, h4, fun q hq => by
    obtain ⟨ks', e1, e2⟩ := all (q.1, q.2.1) (by rw [← exs]; exact List.mem_map_of_mem hq)
    obtain ⟨as', r'⟩ := Dp.reads I (dII ks') (.ref q.2.1) (.ref q.2.1) e2 rfl
    have e1 : q.1 = nkDD ks' := e1
    rw [e1]
    exact ⟨(nk_II r').1, nk_dep ks'⟩, h5⟩
  have lx : xs.length = kss.length := by
    have := congrArg List.length e
    rwa [List.length_map, List.length_map] at this
  have none_ : atKey xs (nkDD ks) = none := by
    have := at_some e ks
    rw [decide_eq_false nm] at this
    cases c : atKey xs (nkDD ks) with
    | none => rfl
    | some p => rw [c] at this; cases this
  have ei : i = .ref b := by
    obtain ⟨c, vs, ec, _⟩ := dp_tup hd
    rw [ec] at ri
    cases (show Value.ref b = Value.ref c from ri)
    exact ec
  refine wpAny_setItem_heap (knd := nestedKind X.prog X.w) (hsz := z) (by show X.A.units + 1 + 8 < cLine; omega) ⟨rn, nk_dep ks⟩ D fun h' D' hs => ?_
  rw [storedH_new none_] at D'
  obtain ⟨o', es', ep', g1, g2, g3, g4, _, g5⟩ := D'
  have nd' : ND X.prog X.w d (kbs ++ [(nkDD ks, b)]) h' := ⟨ys, xs ++ [(nkDD ks, b, u)], by rw [List.map_append, exs]; rfl, by rw [List.length_append, List.length_singleton]; omega, o', es', ep', g1, g2, g3, g4, g5⟩
  refine ⟨upd H d (.ext (ND X.prog X.w d (kbs ++ [(nkDD ks, b)]))), d_write I (by rw [e0]; exact True.intro) hs ⟨o', g1⟩ nd'.ok, ?_⟩
  have ts : Ts H (upd H d (.ext (ND X.prog X.w d (kbs ++ [(nkDD ks, b)])))) := fun a' xs' hx => by
    rcases hx with hx | ⟨ob', hx⟩
    · exact .inl (by rw [upd_ne (ne_of hx e0 (fun z => nomatch z))]; exact hx)
    · exact .inr ⟨ob', by rw [upd_ne (ne_of hx e0 (fun z => nomatch z))]; exact hx⟩
  refine q _ ⟨_, upd_same, by rw [List.map_append, List.map_append, ek]; rfl, fun kb hkb => ?_⟩
  have nlI : ∀ ds : List (List Int), nl (dII ds) = true := fun ds => nl_dII ds
  rcases List.mem_append.mp hkb with hk | hk
  · obtain ⟨ks', e1, e2⟩ := all kb hk
    exact ⟨ks', e1, dp_t ts _ _ (nlI ks') e2⟩
  · have ekb : kb = (nkDD ks, b) := by simpa using hk
    rw [ekb]
    rw [ei] at hd
    exact ⟨ks, rfl, dp_t ts _ _ (nlI ks) hd⟩
/-- {k: v}, one pair; the new dict stands empty while the pair is made -/
def tDispN (P : Program) (w : World) (K : PySem.W.Frag) (trs : List (TE × TE)) : TE := fun σ H Q => ∀ p, H p = none → ∀ u0, IsN P w K (upd H p u0) p [] → tPairs trs σ (upd H p u0) fun ps H2 => IsN P w K H2 p [] ∧ ∃ (b : Addr) (ds : List (List Int)) (v : V), ps = [(.ref b, v)] ∧ Dp K H2 (.ref b) (dII ds) ∧
  ∀ u, IsN P w K (upd H2 p u) p [ds] → Q (.ref p) (upd H2 p u)
theorem pe_dispN {X : Cx} {pos : Pos} {keys : List (Option Expr)} {values : List Expr} {trs : List (TE × TE)} (hu : X.A.units + 65 < cLine) (h : PPs X pos keys values trs) (hall : keys.all (·.isSome) = true) (hl : keys.length = values.length) (h0 : keys ≠ [])
    (h15 : keys.length ≤ 15) : PE X (.Dict keys values pos) (tDispN X.prog X.w X.K trs) := by
  refine ⟨fun pins s σ H Q I q => ?_⟩
  have hn := I.hok.fresh (Nat.le_refl s.heap.objs.size)
  have nd0 : ND X.prog X.w s.heap.objs.size [] (s.heap.push { cls := .type "dict", data := .dict #[] }) := ⟨beq_eq_false_iff_ne.mpr (Ne.symm (Nat.ne_of_lt I.big)), [], rfl, Nat.zero_le _, _, #[], 0, Heap.get?_push_size _ rfl, ⟨rfl, rfl, rfl⟩, rfl, rfl, List.nodup_nil⟩
  have I1 := I.laid (a := s.heap.objs.size) (o := .ext (ND X.prog X.w s.heap.objs.size [])) (h' := s.heap.push { cls := .type "dict", data := .dict #[] }) (t' := s.toks) (fun _ _ q => Heap.get?_push_of_some _ q) (Nat.le_refl _) nd0.ok
  have hlen := pairTrees_length keys values X.env pos hall hl
  rw [arm_eval_Dict, zip_pairTrees keys values X.env pos hall hl, dictDisplay_pairs _ (fun e => h0 (List.length_eq_zero_iff.mp (by rw [← hlen, e]; rfl))) (by rw [hlen]; omega)]
  refine wpAny_bind (wpAny_standAt (wpAny_bind (wpAny_subDictH (knd := nestedKind X.prog X.w) (Q := fun d s' => wpAny (model X.prog X.w) X.A (pure (Value.ref d)) (fun v s' => ∃ x H', Inv X pins σ H' s' ∧ RelV x v ∧ Q x H') X.xe s') (by show X.A.units + 8 < cLine; omega) (by rw [hlen]; exact h15) ?_)))
  refine thn (h.run pins _ σ _ _ I1 (q _ hn _ ⟨[], upd_same, rfl, fun _ h => nomatch h⟩)) fun ws s2 ⟨ps, H2, I2, rel, hN, b, ds, v, ep, hd, q2⟩ => ?_
  subst ep
  cases rel with
  | @cons _ y _ _ r1 r2 =>
    cases r2
    obtain ⟨k1, v1⟩ := y
    obtain ⟨ra, rb⟩ := r1
    cases (show k1 = Value.ref b from ra)
    obtain ⟨as, r⟩ := Dp.reads I2 (dII ds) (.ref b) (.ref b) hd rfl
    obtain ⟨rn, _⟩ := nk_II r
    have hN' := hN
    obtain ⟨kbs, e0, ek, all⟩ := hN'
    obtain rfl : kbs = [] := by cases kbs with | nil => rfl | cons _ _ => cases ek
    obtain ⟨xok, _, _⟩ := (show ObjOk X.prog X.w H2 s2.heap s.heap.objs.size (.ext (ND X.prog X.w s.heap.objs.size [])) from I2.hok _ _ e0)
    obtain ⟨ys, xs, exs, z, ob, es, ep, h1, h2, h3, h4, h5⟩ := xok
    obtain rfl : xs = [] := by cases xs with | nil => rfl | cons _ _ => cases exs
    refine ⟨[(nkDD ds, b, v1)], ⟨rfl, rfl, ⟨rn, nk_dep ds⟩, trivial⟩, ⟨ob, es, ep, h1, h2, h3, h4, (fun _ h => nomatch h), h5⟩, fun h' tk D' hs => wpAny_pure ?_⟩
    have D' : h'.DictOfH (nestedKind X.prog X.w) s.heap.objs.size [(nkDD ds, b, v1)] := D'
    obtain ⟨o', es', ep', g1, g2, g3, g4, _, g5⟩ := D'
    have nd' : ND X.prog X.w s.heap.objs.size [(nkDD ds, b)] h' := ⟨ys, [(nkDD ds, b, v1)], rfl, by rw [sizeLine_eq, List.length_singleton]; decide, o', es', ep', g1, g2, g3, g4, g5⟩
    have ts : Ts H2 (upd H2 s.heap.objs.size (.ext (ND X.prog X.w s.heap.objs.size [(nkDD ds, b)]))) := fun a' xs' hx => by
      rcases hx with hx | ⟨ob', hx⟩
      · exact .inl (by rw [upd_ne (ne_of hx e0 (fun z => nomatch z))]; exact hx)
      · exact .inr ⟨ob', by rw [upd_ne (ne_of hx e0 (fun z => nomatch z))]; exact hx⟩
    refine ⟨.ref s.heap.objs.size, _, d_write I2 (by rw [e0]; exact True.intro) hs ⟨o', g1⟩ nd'.ok, rfl, q2 _ ⟨_, upd_same, rfl, fun kb hkb => ?_⟩⟩
    have ekb : kb = (nkDD ds, b) := by simpa using hkb
    rw [ekb]
    exact ⟨ds, rfl, dp_t ts _ _ (nl_dII ds) hd⟩
end GA
/-! ## K70 -/
section
open PySem L2 GA
local macro_rules
  | `(tactic| walk_at "w") => `(tactic| first
    | ((with_reducible refine' GA.w_var ?e ?_); (case e => exact rfl))
    | (with_reducible refine' GA.w_c ?_)
    | (with_reducible refine' GA.w_cons ?_)
    | (with_reducible refine' GA.w_nil ?_)
    | (with_reducible refine' GA.w_op ?_)
    | (with_reducible refine' GA.r_I0 ?_)
    | (with_reducible refine' GA.w_bl ?_)
    | (with_reducible refine' GA.w_seq ?_)
    | (with_reducible refine' GA.w_set ?_)
    | (with_reducible refine' GA.w_ret ?_)
    | (with_reducible refine' GA.w_ifS ?_)
    | (with_reducible refine' GA.w_test ?_)
    | (with_reducible refine' GA.w_tB ?_)
    | (with_reducible refine' GA.w_not ?_)
    | (with_reducible refine' GA.w_and ?_)
    | (with_reducible refine' GA.w_or ?_)
    | (with_reducible refine' GA.w_andV ?_)
    | (with_reducible refine' GA.w_orV ?_)
    | (with_reducible refine' GA.w_notV ?_)
    | (with_reducible refine' GA.w_blc ?_)
    | (with_reducible refine' GA.w_if ?_)
    | (with_reducible refine' GA.w_CB ?_)
    | (with_reducible refine' GA.w_call ?_)
    | (with_reducible refine' GA.w_tupN ?_)
    | (with_reducible refine' GA.w_lstN ?_)
    | (with_reducible refine' GA.w_chain ?_)
    | (with_reducible refine' GA.w_drop ?_)
    | (with_reducible refine' GA.w_next ?_)
    | (with_reducible refine' GA.w_break ?_)
    | (with_reducible refine' GA.w_un ?_)
    | (with_reducible refine' GA.r_U ?_)
    | (with_reducible refine' GA.r_eqI ?_)
    | (with_reducible refine' GA.r_neI ?_)
    | (with_reducible refine' GA.r_eqB ?_)
    | (with_reducible refine' GA.r_neB ?_)
    | (with_reducible refine' GA.w_fld ?_)
    | (with_reducible refine' GA.w_sfld ?_)
    | (with_reducible refine' GA.w_sl ?_)
    | (with_reducible refine' GA.w_part ?_)
    | (with_reducible refine' GA.w_noPart ?_)
    | (with_reducible refine' GA.w_inti ?_)
    | (with_reducible refine' GA.w_retN ?_)
    | (with_reducible refine' GA.w_gsub ?_)
    | (with_reducible refine' GA.w_gname ?_)
    | (with_reducible refine' L2.iteT ?_)
    | (with_reducible refine' L2.iteF ?_)
    | (with_reducible refine' GA.w_nt ?_)
    | (with_reducible refine' GA.w_nf ?_)
    | (with_reducible refine' GA.w_isN ?_)
    | (with_reducible refine' GA.w_notN ?_)
    | (with_reducible refine' GA.w_yes ?_)
    | (with_reducible refine' GA.w_lc ?_)
    | (with_reducible refine' GA.w_lc2 ?_)
    | (with_reducible refine' GA.w_iseq ?_)
    | (with_reducible refine' GA.w_make ?_)
    | (with_reducible refine' GA.w_for ?_)
    | (with_reducible refine' GA.w_rng1 ?_)
    | (with_reducible refine' GA.w_rng2 ?_)
    | (with_reducible refine' GA.w_itup ?_)
    | (with_reducible refine' GA.w_ilist ?_)
    | (with_reducible refine' GA.w_ienum ?_)
    | (with_reducible refine' GA.w_BM ?_)
    | (with_reducible refine' GA.w_BM0 ?_)
    | (with_reducible refine' GA.w_izip ?_)
    | (with_reducible refine' GA.w_asg ?_))
  | `(tactic| walk_at "wm") => `(tactic| first
    | ((with_reducible refine' GA.w_var ?e ?_); (case e => exact rfl))
    | (with_reducible refine' GA.w_c ?_)
    | (with_reducible refine' GA.w_cons ?_)
    | (with_reducible refine' GA.w_nil ?_)
    | (with_reducible refine' GA.w_op ?_)
    | (with_reducible refine' GA.r_I0 ?_)
    | (with_reducible refine' GA.w_bl ?_)
    | (with_reducible refine' GA.w_set ?_)
    | (with_reducible refine' GA.w_ret ?_)
    | (with_reducible refine' GA.w_ifS ?_)
    | (with_reducible refine' GA.w_test ?_)
    | (with_reducible refine' GA.w_tB ?_)
    | (with_reducible refine' GA.w_not ?_)
    | (with_reducible refine' GA.w_and ?_)
    | (with_reducible refine' GA.w_or ?_)
    | (with_reducible refine' GA.w_andV ?_)
    | (with_reducible refine' GA.w_orV ?_)
    | (with_reducible refine' GA.w_notV ?_)
    | (with_reducible refine' GA.w_blc ?_)
    | (with_reducible refine' GA.w_if ?_)
    | (with_reducible refine' GA.w_CB ?_)
    | (with_reducible refine' GA.w_call ?_)
    | (with_reducible refine' GA.w_tupN ?_)
    | (with_reducible refine' GA.w_lstN ?_)
    | (with_reducible refine' GA.w_chain ?_)
    | (with_reducible refine' GA.w_drop ?_)
    | (with_reducible refine' GA.w_next ?_)
    | (with_reducible refine' GA.w_break ?_)
    | (with_reducible refine' GA.w_un ?_)
    | (with_reducible refine' GA.r_U ?_)
    | (with_reducible refine' GA.r_eqI ?_)
    | (with_reducible refine' GA.r_neI ?_)
    | (with_reducible refine' GA.r_eqB ?_)
    | (with_reducible refine' GA.r_neB ?_)
    | (with_reducible refine' GA.w_fld ?_)
    | (with_reducible refine' GA.w_sfld ?_)
    | (with_reducible refine' GA.w_sl ?_)
    | (with_reducible refine' GA.w_part ?_)
    | (with_reducible refine' GA.w_noPart ?_)
    | (with_reducible refine' GA.w_inti ?_)
    | (with_reducible refine' GA.w_retN ?_)
    | (with_reducible refine' GA.w_gsub ?_)
    | (with_reducible refine' GA.w_gname ?_)
    | (with_reducible refine' L2.iteT ?_)
    | (with_reducible refine' L2.iteF ?_)
    | (with_reducible refine' GA.w_nt ?_)
    | (with_reducible refine' GA.w_nf ?_)
    | (with_reducible refine' GA.w_isN ?_)
    | (with_reducible refine' GA.w_notN ?_)
    | (with_reducible refine' GA.w_yes ?_)
    | (with_reducible refine' GA.w_lc ?_)
    | (with_reducible refine' GA.w_lc2 ?_)
    | (with_reducible refine' GA.w_iseq ?_)
    | (with_reducible refine' GA.w_make ?_)
    | (with_reducible refine' GA.w_for ?_)
    | (with_reducible refine' GA.w_rng1 ?_)
    | (with_reducible refine' GA.w_rng2 ?_)
    | (with_reducible refine' GA.w_itup ?_)
    | (with_reducible refine' GA.w_ilist ?_)
    | (with_reducible refine' GA.w_ienum ?_)
    | (with_reducible refine' GA.w_BM ?_)
    | (with_reducible refine' GA.w_BM0 ?_)
    | (with_reducible refine' GA.w_izip ?_)
    | (with_reducible refine' GA.w_asg ?_))
  | `(tactic| walk_at "ws") => `(tactic| repeat (walk_at "w"))
  | `(tactic| walk_at "wn") => `(tactic| repeat (walk_at "wm"))


namespace Mine
section
variable {P : Program} {w : World} {K : PySem.W.Frag} {mg : Str → Option Value} {base : Heap} {a : Ads}

/-! ### what can be written next -/
theorem k_sl_tupAN {X : Cx} (K : PySem.W.Frag) (hK : X.K = K := by rfl) : SlR X (rSlAN K) := by subst hK; exact sl_tupAN
/-- sorted(a set of ints): a new list -/
def rSortSN (w : World) : List V → Hp → VK → Prop := fun vs H Q => ∃ (a : Addr) (S : Int → Bool) (n : Nat), vs = [V.ref a] ∧ H a = some (SetO w a S n) ∧ n < 64 ∧
  ∀ (ns : List Int) (p : Addr) H2, ns.Pairwise (· < ·) → (∀ k : Int, k ∈ ns ↔ S k = true) → H p = none → (∀ o, G o H H2) → H2 p = some (.lst (ns.map V.int)) → Q (.ref p) H2
theorem cr_sortSN {X : Cx} (hc : X.calm = true) : CallR X (.builtin "sorted") (rSortSN X.w) := CallR.weak (cr_sortedSet hc) fun vs H Q h => by
  obtain ⟨a, S, n, e, ha, hn, q⟩ := h
  exact ⟨a, S, n, e, ha, hn, fun ns p h1 h2 _ hp => q ns p _ h1 h2 hp (fun _ => G.alloc hp) upd_same⟩
theorem DiaS.g {H H' : Hp} {p : Addr} {ds : List (List Int)} (h : DiaS K H p ds) (g : G none H H') : DiaS K H' p ds := h.t g.tups
/-- the puts that the first i wires, and j puts of the next one, bring -/
def nxD (ds : List (List Int)) (x y : Nat) (j : Nat) : List Int := ((dAt ds y).take j).filter fun p => decide (p ∉ dAt ds x ∧ ∀ q ∈ aheadOf (dAt ds y) p, q ∈ dAt ds x)
def nxL (W : List (Int × Int)) (ds : List (List Int)) (x : Nat) : List Int := W.flatMap fun u => if u.2 = (x : Int) then nxD ds x u.1.toNat (dAt ds u.1.toNat).length else []
theorem nxL_mem {W : List (Int × Int)} {ds : List (List Int)} {x : Nat} {p : Int} : p ∈ nxL W ds x ↔ NextM W ds x p := by
  unfold nxL nxD NextM
  rw [List.mem_flatMap]
  constructor
  · rintro ⟨u, hu, h⟩
    by_cases c : u.2 = (x : Int)
    · rw [if_pos c, List.take_length] at h
      obtain ⟨h1, h2⟩ := List.mem_filter.mp h
      have h2 := of_decide_eq_true h2
      exact ⟨u, hu, c, h1, h2.1, h2.2⟩
    · rw [if_neg c] at h; cases h
  · rintro ⟨u, hu, c, h1, h2, h3⟩
    refine ⟨u, hu, ?_⟩
    rw [if_pos c, List.take_length]
    exact List.mem_filter.mpr ⟨h1, decide_eq_true ⟨h2, h3⟩⟩
theorem nxL_snoc (W : List (Int × Int)) (ds : List (List Int)) (x : Nat) (u : Int × Int) : nxL (W ++ [u]) ds x = nxL W ds x ++ if u.2 = (x : Int) then nxD ds x u.1.toNat (dAt ds u.1.toNat).length else [] := by
  unfold nxL
  rw [List.flatMap_append]
  simp
theorem nxD_succ {ds : List (List Int)} {x y j : Nat} {p : Int} (h : (dAt ds y)[j]? = some p) : nxD ds x y (j + 1) = nxD ds x y j ++ if p ∉ dAt ds x ∧ ∀ q ∈ aheadOf (dAt ds y) p, q ∈ dAt ds x then [p] else [] := by
  unfold nxD
  rw [List.take_add_one, h, List.filter_append]
  congr 1
  show [p].filter _ = _
  by_cases c : p ∉ dAt ds x ∧ ∀ q ∈ aheadOf (dAt ds y) p, q ∈ dAt ds x
  · rw [if_pos c, List.filter_cons_of_pos (by exact decide_eq_true c), List.filter_nil]
  · rw [if_neg c, List.filter_cons_of_neg (by rw [decide_eq_true_iff]; exact c), List.filter_nil]
theorem nxD_len (ds : List (List Int)) (x y j : Nat) : (nxD ds x y j).length ≤ (dAt ds y).length := by
  unfold nxD
  refine Nat.le_trans (List.length_filter_le _ _) ?_
  rw [List.length_take]
  omega
theorem nxL_len {ds : List (List Int)} {x n : Nat} (h : ∀ y, (dAt ds y).length ≤ n) : ∀ W : List (Int × Int), (nxL W ds x).length ≤ W.length * n := by
  intro W
  induction W with
  | nil => exact Nat.zero_le _
  | cons u W ih =>
    unfold nxL at ih ⊢
    rw [List.flatMap_cons, List.length_append, List.length_cons, Nat.add_mul, Nat.one_mul, Nat.add_comm]
    refine Nat.add_le_add ih ?_
    split
    · exact Nat.le_trans (nxD_len ..) (h _)
    · exact Nat.zero_le _
theorem dAt_len30 {P : Nat} {ds : List (List Int)} (nd : ∀ d ∈ ds, d.Nodup) (rng : ∀ d ∈ ds, ∀ p ∈ d, 0 ≤ p ∧ p < (P : Int)) (y : Nat) : (dAt ds y).length ≤ P := by
  cases e : dAt ds y with
  | nil => exact Nat.zero_le _
  | cons a l =>
    have m : dAt ds y ∈ ds := dAt_mem (p := a) (by rw [e]; exact List.mem_cons_self ..)
    rw [← e]
    have := List.Nodup.length_le_of_subset (l₂ := (List.range P).map fun (i : Nat) => (i : Int)) (nd _ m) fun k hk => by
      have := rng _ m k hk
      exact List.mem_map.mpr ⟨k.toNat, List.mem_range.mpr (by omega), by omega⟩
    rw [List.length_map, List.length_range] at this
    exact this
def sp__law_next (K : PySem.W.Frag) : Sp := fun vs H Q _ => ∃ (m : Int) (wa dp : Addr) (bs : List Addr) (W : List (Int × Int)) (ds : List (List Int)) (x : Nat), vs = [.ref wa, .ref dp, .int (x : Nat)] ∧ SqT K H wa (bs.map V.ref) ∧ TupAll H bs W ∧ IsWeb m W ∧ DiaS K H dp ds ∧ ds.length = m.toNat ∧ x < ds.length ∧ (∀ d ∈ ds, d.Nodup) ∧ (∀ d ∈ ds, ∀ p ∈ d, 0 ≤ p ∧ p < 30) ∧
  ∀ (L : Addr) (ns : List Int) H', H L = none → G none H H' → H' L = some (.lst (ns.map V.int)) → ns.Pairwise (· < ·) → (∀ p, p ∈ ns ↔ NextM W ds x p) → Q (.ref L) H'
theorem ok__law_next (T : Txt K mg a) : FnOk P w K mg base CX0 1 a.f__law_next a.d__law_next P__law_next (sp__law_next K) := by
  refine T.F__law_next.ok sc__law_next (fun vs H Q E h => by obtain ⟨m, wa, dp, bs, W, ds, x, rfl, _⟩ := h; rfl) (fun cdv A outer s H vs Q E hr h => ?_)
  obtain ⟨m, wa, dp, bs, W, ds, x, rfl, hwa, tup, web, ⟨fs, hfs, lf, hd⟩, lm, hx, nd, rng, k⟩ := h
  have m1 := web.lo
  have m7 := web.hi
  have l49 := isweb_len49 web
  have d30 := dAt_len30 (P := 30) nd rng
  have lb := tup.1
  have at_ : ∀ y : Nat, y < ds.length → ∃ f, fs[y]? = some f ∧ SqT K H f ((dAt ds y).map V.int) := fun y hy => by
    obtain ⟨f, hf⟩ : ∃ f, fs[y]? = some f := ⟨_, List.getElem?_eq_getElem (by omega)⟩
    obtain ⟨d, hd2⟩ : ∃ d, ds[y]? = some d := ⟨_, List.getElem?_eq_getElem hy⟩
    exact ⟨f, hf, by rw [dAt_of hd2]; exact hd y f d hf hd2⟩
  obtain ⟨fx, hfx, sx⟩ := at_ x hx
  refine ⟨_, (pss_cons (ps_set (i := 3) sc__law_next.nd rfl (Or.inl rfl) (pe_lstN pa_nil))
  (pss_cons (ps_for PassesOwn.never rfl (pi_tup (pv 0)) (pg_tup rfl (pgs_cons (pg_name (i := 4) sc__law_next.nd rfl (Or.inl rfl)) (pgs_cons (pg_name (i := 5) sc__law_next.nd rfl (Or.inl rfl)) pgs_nil)))
    (pss_one (ps_if (pt_cmpR op_eq (pv 5) (pv 2) (nomark _))
    (pss_one (ps_for PassesOwn.never rfl (pi_enumT (by rfl) T.n_enumerate (pa_cons (pe_ix ix_tup (pv 1) (pv 4) (fun _ _ => rfl)) pa_nil)) (pg_tup rfl (pgs_cons (pg_name (i := 6) sc__law_next.nd rfl (Or.inl rfl)) (pgs_cons (pg_name (i := 7) sc__law_next.nd rfl (Or.inl rfl)) pgs_nil)))
    (pss_one (ps_if (L2.PW.pt (pw_and (pt_cmpR op_notIn_seq (pv 7) (pe_ix ix_tup (pv 1) (pv 2) (fun _ _ => rfl)) (by rfl)) (pw_and1 (pt_val (pe_callB (cr_all rfl) (by rfl) T.n_all (by decide +kernel) (pa_cons (pe_lc (own := [("_law_other", 8)]) (g := (gName 8)) (tt := tYes) rfl sc__law_next.nd (pi_tup (pe_slice (k_sl_tupAN K) (pe_ix ix_tup (pv 1) (pv 4) (fun _ _ => rfl)) po_none (po_some (pv 6)))) (blkOk_by (N := N__law_next) (sc := defScope s__law_next) (by decide +kernel)) (fun _ _ _ _ _ => (pg_name (i := 8) sc__law_next.nd rfl (by first | exact Or.inl rfl | exact Or.inr rfl))) (fun _ _ _ _ _ => pts_nil) (fun _ _ _ _ _ => (pe_cmpR (k_op_in_seq K) (pv 8) (pe_ix (k_ix_tup K) (pv 1) (pv 2) (fun _ _ => rfl)) (by rfl)))) pa_nil))))))
    (pss_one (ps_expr (pe_bm PySem.F.plainAttrs_list PySem.F.slot_list_append PySem.F.type_list_append mt_append (pv 3) (pa_cons (pv 7) pa_nil))))
    pss_nil))))
    pss_nil)))
  (pss_one (ps_ret (pe_callB (cr_sortSN rfl) (by rfl) T.n_sorted (by decide +kernel) (pa_cons (pe_callTy (cr_setLI rfl) (by rfl) T.n_set (by decide +kernel) (pa_cons (pv 3) pa_nil)) pa_nil)))))), ?_⟩
  walk_at "ws"
  refine ⟨sz (by simp), fun L H1 hL g1 h1 => ?_⟩
  walk_at "ws"
  refine i_tup (sqT_t (g1 none).tups hwa) ?_
  have hL0 : H L = none := hL
  refine for_it (walk_tup (xs := bs.map V.ref)) (fun i σ H' => G none H H' ∧ H' L = some (.lst ((nxL (W.take i) ds x).map V.int)) ∧ ∃ u4 u5 u6 u7 u8, σ = [some (.ref wa), some (.ref dp), some (.int (x : Nat)), some (.ref L), u4, u5, u6, u7, u8]) ⟨g1 none, h1, _, _, _, _, _, rfl⟩ (fun i σ H' _ q => sqT_t q.1.tups hwa) ?_ ?_
  · rintro i v σ _ H2 hi ⟨g2, h2, u4, u5, u6, u7, u8, rfl⟩ ⟨rfl, hv⟩
    rw [List.length_map] at hi
    rw [List.getElem?_map] at hv
    obtain ⟨b, hb, rfl⟩ := Option.map_eq_some_iff.mp hv
    obtain ⟨u, hu⟩ : ∃ u, W[i]? = some u := ⟨_, List.getElem?_eq_getElem (by omega)⟩
    have um := web.mem u (List.mem_of_getElem? hu)
    have tk : W.take (i + 1) = W.take i ++ [u] := by rw [List.take_add_one, hu]; rfl
    have hbt := (tup.g g2 (fun _ e => nomatch e)).2 i b u hb hu
    rw [tk, nxL_snoc]
    refine ⟨b, _, rfl, SqT.of hbt, rfl, ?_⟩
    refine ⟨_, _, rfl, ?_⟩
    walk_at "ws"
    refine ⟨_, _, rfl, ?_⟩
    walk_at "ws"
    refine ⟨rfl, ?_⟩
    walk_at "ws"
    refine w_ite (fun e => ?_) (fun e => ?_)
    · have e : u.2 = (x : Int) := of_decide_eq_true e
      rw [if_pos e]
      have uy : u.1.toNat < ds.length := by omega
      obtain ⟨fy, hfy, sy⟩ := at_ u.1.toNat uy
      obtain ⟨dy, edy⟩ : ∃ dy, dy = dAt ds u.1.toNat := ⟨_, rfl⟩
      have ly := d30 u.1.toNat
      rw [← edy] at sy ly ⊢
      walk_at "ws"
      refine r_ixT (sqT_t g2.tups hfs) (v := .ref fy) (at_of (j := u.1.toNat) (by omega) (by rw [List.getElem?_map, hfy]; rfl)) ?_
      refine ⟨fy, _, rfl, sqT_t g2.tups sy, ?_⟩
      refine for_it (walk_enumT (xs := dy.map V.int)) (fun j σ H' => G none H H' ∧ H' L = some (.lst ((nxL (W.take i) ds x ++ nxD ds x u.1.toNat j).map V.int)) ∧ ∃ u6 u7 u8, σ = [some (.ref wa), some (.ref dp), some (.int (x : Nat)), some (.ref L), some (.int u.1), some (.int u.2), u6, u7, u8]) ⟨g2, by rw [show nxD ds x u.1.toNat 0 = [] from rfl, List.append_nil]; exact h2, _, _, _, rfl⟩ (fun i σ H' _ q => sqT_t q.1.tups sy) ?_ ?_
      · rintro j v σ H3 H4 hj ⟨g3, h3, u6, u7, u8, rfl⟩ ⟨t, yy, z, rfl, ht, rfl, ey, ez⟩
        cases Option.some.inj ey
        rw [List.length_map] at hj
        have g4 : G none H3 (upd H3 t (.tup [.int (j : Nat), z])) := G.alloc ht
        have ez : (dy.map V.int)[j]? = some z := ez
        rw [List.getElem?_map] at ez
        obtain ⟨p, hp, rfl⟩ := Option.map_eq_some_iff.mp ez
        refine ⟨t, _, rfl, SqT.of upd_same, rfl, ?_⟩
        refine ⟨_, _, rfl, ?_⟩
        walk_at "ws"
        refine ⟨_, _, rfl, ?_⟩
        walk_at "ws"
        refine ⟨rfl, ?_⟩
        generalize upd H3 t (.tup [.int (j : Nat), .int p]) = H4 at g4 ⊢
        have g04 := g3.trans g4
        have h4 := g4.all _ _ h3
        have hp' : (dAt ds u.1.toNat)[j]? = some p := by rw [← edy]; exact hp
        walk_at "ws"
        refine r_ixT (sqT_t g04.tups hfs) (v := .ref fx) (at_of (j := x) rfl (by rw [List.getElem?_map, hfx]; rfl)) ?_
        refine ⟨fx, _, rfl, .inr (sqT_t g04.tups sx), rfl, flat_ints _, ?_⟩
        rw [inV_ints]
        have eN := nxD_succ (x := x) hp'
        have lt1 := nxL_len (x := x) d30 (W.take i)
        have lt2 := nxD_len ds x u.1.toNat j
        have lt3 : (W.take i).length * 30 ≤ 1470 := by rw [List.length_take]; omega
        have lt4 := d30 u.1.toNat
        refine ⟨_, rfl, ?_⟩
        by_cases cp : p ∈ dAt ds x
        · rw [if_neg (fun z => z.1 cp), List.append_nil] at eN
          refine w_iteN (by rw [if_pos rfl, decide_eq_true cp]; decide) ?_
          try (refine w_iteN (by simp) ?_)
          walk_at "ws"
          exact ⟨g04, by rw [eN]; exact h4, _, _, _, rfl⟩
        · refine w_iteE (by rw [if_pos rfl, decide_eq_false cp]; rfl) ?_
          walk_at "ws"
          refine r_ixT (sqT_t g04.tups hfs) (v := .ref fy) (at_of (j := u.1.toNat) (by omega) (by rw [List.getElem?_map, hfy]; rfl)) ?_
          walk_at "ws"
          refine ⟨fy, _, rfl, sqT_t g04.tups sy, fun t3 H5 g5 h5 => ?_⟩
          rw [cut_to _ (by rw [List.length_map]; omega), ← List.map_take] at h5
          have h55 := h5
          refine i_tup h5 ?_
          intro D hD
          have g05 := g04.trans (g5 none)
          refine lc_it (walk_tup (xs := (dy.take j).map V.int)) (fun n' H' => G none H5 H' ∧ BlA H' D n' (fun n' => ∀ y, (dy.take j)[n']? = some y → y ∈ dAt ds x)) ⟨(G.refl).mut hD (fun _ e => nomatch e), .nil⟩ (fun n' H' _ q => sqT_t q.1.tups h55) ?_ ?_
          · rintro n' v _ H6 hn' ⟨g6, bl⟩ ⟨rfl, hv'⟩
            rw [List.length_map] at hn'
            rw [List.getElem?_map] at hv'
            obtain ⟨y, hy, rfl⟩ := Option.map_eq_some_iff.mp hv'
            walk_at "ws"
            refine ⟨rfl, ?_⟩
            walk_at "ws"
            refine r_ixT (sqT_t (g05.trans g6).tups hfs) (v := .ref fx) (at_of (j := x) rfl (by rw [List.getElem?_map, hfx]; rfl)) ?_
            refine ⟨fx, _, rfl, .inr (sqT_t (g05.trans g6).tups sx), rfl, flat_ints _, ?_⟩
            rw [inV_ints]
            obtain ⟨acc, r1, r2, r3⟩ := bl.app (c := decide (y ∈ dAt ds x)) (by
              rw [decide_eq_true_iff]
              constructor
              · intro h y' hy'
                rw [hy] at hy'
                cases hy'
                exact h
              · intro h; exact h y hy) (by rw [List.length_take] at hn'; omega)
            exact ⟨acc, r1, r2, g6.mut hD (fun _ e => nomatch e), r3⟩
          rintro H6 ⟨g6, bl⟩
          rw [List.length_map] at bl
          obtain ⟨cs, c1, c2⟩ := bl.fin (K := K)
          have hah : aheadOf (dAt ds u.1.toNat) p = dy.take j := by
            rw [← edy]
            refine ahead_at ?_ hp
            rw [edy]
            exact nd _ (dAt_mem (List.mem_of_getElem? hp'))
          have ec : cs.all id = decide (∀ q ∈ aheadOf (dAt ds u.1.toNat) p, q ∈ dAt ds x) := by
            rw [Bool.eq_iff_iff, c2, decide_eq_true_iff, hah]
            constructor
            · intro h y hy
              obtain ⟨j', hj', e⟩ := List.getElem_of_mem hy
              exact h j' hj' y (by rw [← e]; exact List.getElem?_eq_getElem hj')
            · intro h j' _ y hy
              exact h y (List.mem_of_getElem? hy)
          have g06 := g05.trans g6
          have h6 := (g6.all _ _ ((g5 none).all _ _ h4))
          walk_at "ws"
          refine ⟨D, cs, rfl, c1, ?_⟩
          rw [ec]
          refine ⟨_, rfl, ?_⟩
          by_cases ca : ∀ q ∈ aheadOf (dAt ds u.1.toNat) p, q ∈ dAt ds x
          · rw [if_pos ⟨cp, ca⟩] at eN
            refine w_iteE (by rw [decide_eq_true ca]) ?_
            walk_at "ws"
            refine i_BM h6 ?_
            walk_at "ws"
            refine r_app h6 (by rw [List.length_map, List.length_append]; omega) ?_
            walk_at "ws"
            exact ⟨g06.mut hL0 (fun _ e => nomatch e), by rw [upd_same, eN, ← List.append_assoc, List.map_append (l₂ := [p])]; rfl, _, _, _, rfl⟩
          · rw [if_neg (fun z => ca z.2), List.append_nil] at eN
            refine w_iteN (by rw [decide_eq_false ca]) ?_
            walk_at "ws"
            exact ⟨g06, by rw [eN]; exact h6, _, _, _, rfl⟩
      · rintro σ H3 ⟨g3, h3, u6, u7, u8, rfl⟩
        rw [List.length_map] at h3
        walk_at "ws"
        exact ⟨g3, h3, _, _, _, _, _, rfl⟩
    · have e : ¬ u.2 = (x : Int) := of_decide_eq_false e
      rw [if_neg e, List.append_nil]
      walk_at "ws"
      exact ⟨g2, h2, _, _, _, _, _, rfl⟩
  · rintro σ H2 ⟨g2, h2, u4, u5, u6, u7, u8, rfl⟩
    rw [List.length_map, lb, List.take_length] at h2
    have ll := nxL_len (x := x) d30 W
    have l2 : W.length * 30 ≤ 1470 := by omega
    walk_at "ws"
    refine ⟨L, nxL W ds x, rfl, SqL.of h2, by omega, fun S c us H3 hS nus mus lus g3 h3 => ?_⟩
    walk_at "ws"
    refine ⟨S, _, c, rfl, h3, ?_, fun ns p H4 srt mem hp4 g4 h4 => ?_⟩
    · have := List.Nodup.length_le_of_subset (l₂ := (List.range 30).map fun (i : Nat) => (i : Int)) nus fun p hp => by
        obtain ⟨u, _, _, h1, _⟩ := nxL_mem.mp ((mus p).mp hp)
        have := rng _ (dAt_mem h1) p h1
        exact List.mem_map.mpr ⟨p.toNat, List.mem_range.mpr (by omega), by omega⟩
      rw [List.length_map, List.length_range] at this
      omega
    walk_at "ws"
    refine k p ns H4 ?_ ((g2.trans (g3 none)).trans (g4 none)) h4 srt fun q => by rw [mem, decide_eq_true_iff, nxL_mem]
    exact new_bk (g2.trans (g3 none)) hp4

end
end Mine
/-! ## SG -/
end
namespace Mine
/-! ### how many states there are; the search -/
def ndK (P : Nat) : Nat → List (List Int)
  | 0 => [[]]
  | k + 1 => (ndK P k).flatMap fun l => (((List.range P).map fun (i : Nat) => (i : Int)).filter fun p => decide (p ∉ l)).map fun p => p :: l
def ndL (P : Nat) : List (List Int) := (List.range (P + 1)).flatMap (ndK P)
theorem ndK_mem {P : Nat} : ∀ {d : List Int}, d.Nodup → (∀ p ∈ d, 0 ≤ p ∧ p < (P : Int)) → d ∈ ndK P d.length
  | [], _, _ => List.mem_singleton.mpr rfl
  | p :: d, nd, rg => by
    obtain ⟨n1, n2⟩ := List.nodup_cons.mp nd
    have ih := ndK_mem n2 fun q hq => rg q (List.mem_cons_of_mem _ hq)
    have pr := rg p (List.mem_cons_self ..)
    show p :: d ∈ (ndK P d.length).flatMap _
    refine List.mem_flatMap.mpr ⟨d, ih, List.mem_map.mpr ⟨p, List.mem_filter.mpr ⟨List.mem_map.mpr ⟨p.toNat, List.mem_range.mpr (by omega), by omega⟩, decide_eq_true n1⟩, rfl⟩⟩
theorem ndL_mem {P : Nat} {d : List Int} (nd : d.Nodup) (rg : ∀ p ∈ d, 0 ≤ p ∧ p < (P : Int)) : d ∈ ndL P := by
  have := List.Nodup.length_le_of_subset (l₂ := (List.range P).map fun (i : Nat) => (i : Int)) nd fun k hk => by
    have := rg k hk
    exact List.mem_map.mpr ⟨k.toNat, List.mem_range.mpr (by omega), by omega⟩
  rw [List.length_map, List.length_range] at this
  exact List.mem_flatMap.mpr ⟨d.length, List.mem_range.mpr (by omega), ndK_mem nd rg⟩
theorem ndL_4 : ∀ P, P ≤ 4 → (ndL P).length ≤ 65 := by decide +kernel
theorem ndL_2 : ∀ P, P ≤ 2 → (ndL P).length ≤ 5 := by decide +kernel
def prL (L : List (List Int)) : Nat → List (List (List Int))
  | 0 => [[]]
  | k + 1 => L.flatMap fun d => (prL L k).map fun D => d :: D
theorem prL_mem {L : List (List Int)} : ∀ {D : List (List Int)}, (∀ d ∈ D, d ∈ L) → D ∈ prL L D.length
  | [], _ => List.mem_singleton.mpr rfl
  | d :: D, h => by
    show d :: D ∈ L.flatMap _
    exact List.mem_flatMap.mpr ⟨d, h d (List.mem_cons_self ..), List.mem_map.mpr ⟨D, prL_mem fun e he => h e (List.mem_cons_of_mem _ he), rfl⟩⟩
theorem flat_len {α β : Type} (f : α → List β) (n : Nat) : ∀ L : List α, (∀ a ∈ L, (f a).length = n) → (L.flatMap f).length = L.length * n
  | [], _ => by simp
  | a :: L, h => by
    rw [List.flatMap_cons, List.length_append, h a (List.mem_cons_self ..), flat_len f n L fun b hb => h b (List.mem_cons_of_mem _ hb), List.length_cons, Nat.add_mul, Nat.one_mul, Nat.add_comm]
theorem prL_len (L : List (List Int)) : ∀ k, (prL L k).length = L.length ^ k
  | 0 => rfl
  | k + 1 => by
    show (L.flatMap fun d => (prL L k).map fun D => d :: D).length = _
    rw [flat_len _ (L.length ^ k) L fun d _ => by rw [List.length_map]; exact prL_len L k, Nat.pow_succ, Nat.mul_comm]
theorem er_inj {D E : List (List Int)} {x n : Nat} (hD : D.length = n) (hE : E.length = n) (hx : x < n) (e : dAt D x = dAt E x) (h : D.eraseIdx x = E.eraseIdx x) : D = E := by
  refine List.ext_getElem? fun i => ?_
  rcases Nat.lt_trichotomy i x with c | c | c
  · have := congrArg (fun l => l[i]?) h
    simp only [List.getElem?_eraseIdx_of_lt c] at this
    exact this
  · subst c
    have e1 : D.getD i [] = E.getD i [] := e
    rw [List.getD_eq_getElem?_getD, List.getD_eq_getElem?_getD, List.getElem?_eq_getElem (by omega), List.getElem?_eq_getElem (by omega)] at e1
    rw [List.getElem?_eq_getElem (by omega), List.getElem?_eq_getElem (by omega)]
    exact congrArg some e1
  · have := congrArg (fun l => l[i - 1]?) h
    simp only [List.getElem?_eraseIdx_of_ge (show x ≤ i - 1 by omega)] at this
    rw [show i - 1 + 1 = i by omega] at this
    exact this
theorem seen_le {n P x : Nat} {ds0 : List (List Int)} {seen : List (List (List Int))} (nd : seen.Nodup) (h : ∀ D ∈ seen, D.length = n ∧ dAt D x = dAt ds0 x ∧ (∀ d ∈ D, d.Nodup) ∧ ∀ d ∈ D, ∀ p ∈ d, 0 ≤ p ∧ p < (P : Int)) (hx : x < n) : seen.length ≤ (ndL P).length ^ (n - 1) := by
  have nm : (seen.map fun D => D.eraseIdx x).Nodup := List.pairwise_map.mpr (nd.imp_of_mem fun {D E} hD hE q e => q (er_inj (h D hD).1 (h E hE).1 hx ((h D hD).2.1.trans (h E hE).2.1.symm) e))
  have := List.Nodup.length_le_of_subset (l₂ := prL (ndL P) (n - 1)) nm fun F hF => by
    obtain ⟨D, hD, rfl⟩ := List.mem_map.mp hF
    obtain ⟨l, _, h3, h4⟩ := h D hD
    have le : (D.eraseIdx x).length = n - 1 := by rw [List.length_eraseIdx_of_lt (by omega), l]
    rw [← le]
    refine prL_mem fun d hd => ?_
    have dm : d ∈ D := List.mem_of_mem_eraseIdx hd
    exact ndL_mem (h3 d dm) (h4 d dm)
  rw [List.length_map, prL_len] at this
  exact this
theorem few_states {n P : Nat} (h : (n ≤ 4 ∧ P ≤ 4) ∨ (n ≤ 6 ∧ P ≤ 2)) : (ndL P).length ^ (n - 1) ≤ 274625 := by
  rcases h with ⟨h1, h2⟩ | ⟨h1, h2⟩
  · exact Nat.le_trans (Nat.pow_le_pow_left (ndL_4 P h2) _) (Nat.le_trans (Nat.pow_le_pow_right (by decide) (show n - 1 ≤ 3 by omega)) (by decide))
  · exact Nat.le_trans (Nat.pow_le_pow_left (ndL_2 P h2) _) (Nat.le_trans (Nat.pow_le_pow_right (by decide) (show n - 1 ≤ 5 by omega)) (by decide))
section
variable {W : List (Int × Int)} {x : Nat} {ds D : List (List Int)}
theorem dAt_in {D : List (List Int)} {z : Nat} (h : z < D.length) : dAt D z ∈ D := by
  show D.getD z [] ∈ D
  rw [List.getD_eq_getElem?_getD, List.getElem?_eq_getElem h]
  exact List.getElem_mem h
theorem ext_nd {z : Nat} {p : Int} (hz : z < D.length) (nx : NextM W D z p) (h : ∀ d ∈ D, d.Nodup) : ∀ d ∈ ext D z p, d.Nodup := fun d hd => by
  rcases List.mem_or_eq_of_mem_set hd with q | q
  · exact h d q
  · rw [q]
    obtain ⟨_, _, _, _, h2, _⟩ := nx
    exact List.nodup_append.mpr ⟨h _ (dAt_in hz), List.pairwise_singleton .., fun a ha b hb e => h2 (by
      have := List.mem_singleton.mp hb
      subst this; subst e; exact ha)⟩
theorem ext_rng {z : Nat} {p B : Int} (hz : z < D.length) (nx : NextM W D z p) (h : ∀ d ∈ D, ∀ q ∈ d, 0 ≤ q ∧ q < B) : ∀ d ∈ ext D z p, ∀ q ∈ d, 0 ≤ q ∧ q < B := fun d hd q hq => by
  rcases List.mem_or_eq_of_mem_set hd with e | e
  · exact h d e q hq
  · rw [e] at hq
    obtain ⟨u, _, _, h1, _, _⟩ := nx
    rcases List.mem_append.mp hq with c | c
    · exact h _ (dAt_in hz) q c
    · have := List.mem_singleton.mp c
      subst this
      exact h _ (dAt_mem h1) q h1
theorem Mv.nd (m : Mv W x ds D) (h : ∀ d ∈ ds, d.Nodup) : ∀ d ∈ D, d.Nodup := by
  induction m with
  | refl => exact h
  | step m' _ hz nx ih => exact ext_nd hz nx ih
theorem Mv.rng {B : Int} (m : Mv W x ds D) (h : ∀ d ∈ ds, ∀ q ∈ d, 0 ≤ q ∧ q < B) : ∀ d ∈ D, ∀ q ∈ d, 0 ≤ q ∧ q < B := by
  induction m with
  | refl => exact h
  | step m' _ hz nx ih => exact ext_rng hz nx ih
theorem Mv.full {ws : List Int} (wN : ∀ u ∈ W, u.1 ≠ u.2) (wW : ∀ u ∈ W, 0 ≤ u.1 ∧ 0 ≤ u.2) (m : Mv W x ds D) (F : Full W ws ds) : Full W ws D := by
  induction m with
  | refl => exact F
  | step m' _ hz nx ih => exact full_ext wN wW hz ih nx
/-- all that follows on D is seen, all that x can write there is found -/
def DoneS (W : List (Int × Int)) (x : Nat) (seen : List (List (List Int))) (ks : List Int) (D : List (List Int)) : Prop := (∀ (z : Nat) (p : Int), z ≠ x → z < D.length → NextM W D z p → ext D z p ∈ seen) ∧ ∀ p, NextM W D x p → p ∈ ks
theorem DoneS.up {seen seen' : List (List (List Int))} {ks ks' : List Int} (h : DoneS W x seen ks D) (h1 : ∀ E ∈ seen, E ∈ seen') (h2 : ∀ p ∈ ks, p ∈ ks') : DoneS W x seen' ks' D := ⟨fun z p a b c => h1 _ (h.1 z p a b c), fun p c => h2 _ (h.2 p c)⟩
structure Srch (W : List (Int × Int)) (x : Nat) (ds : List (List Int)) (seen wl : List (List (List Int))) (ks : List Int) (here : Option (List (List Int))) : Prop where
  nd : seen.Nodup
  ini : ds ∈ seen
  mv : ∀ D ∈ seen, Mv W x ds D
  sub : ∀ D ∈ wl, D ∈ seen
  hr : ∀ D, here = some D → D ∈ seen
  dn : ∀ D ∈ seen, D ∈ wl ∨ here = some D ∨ DoneS W x seen ks D
  fd : ∀ p ∈ ks, ∃ D, Mv W x ds D ∧ NextM W D x p
theorem Srch.start : Srch W x ds [ds] [ds] [] none :=
  ⟨List.pairwise_singleton .., List.mem_singleton.mpr rfl, fun D h => by rw [List.mem_singleton.mp h]; exact .refl, fun D h => h, (fun _ h => nomatch h), fun D h => .inl h, fun _ h => nomatch h⟩
theorem Srch.pop {seen wl : List (List (List Int))} {ks : List Int} {E : List (List Int)} (h : Srch W x ds seen (wl ++ [E]) ks none) : Srch W x ds seen wl ks (some E) :=
  ⟨h.nd, h.ini, h.mv, fun D hD => h.sub D (List.mem_append_left _ hD), fun D e => by cases e; exact h.sub E (List.mem_append_right _ (List.mem_singleton.mpr rfl)), fun D hD => by
    rcases h.dn D hD with q | q | q
    · rcases List.mem_append.mp q with q | q
      · exact .inl q
      · rw [List.mem_singleton.mp q]; exact .inr (.inl rfl)
    · cases q
    · exact .inr (.inr q), h.fd⟩
theorem Srch.find {seen wl : List (List (List Int))} {ks : List Int} {E : List (List Int)} (h : Srch W x ds seen wl ks (some E)) {p : Int} (nx : NextM W E x p) {ks' : List Int} (hk : ∀ q, q ∈ ks' ↔ q ∈ ks ∨ q = p) : Srch W x ds seen wl ks' (some E) :=
  ⟨h.nd, h.ini, h.mv, h.sub, h.hr, fun D hD => by
    rcases h.dn D hD with q | q | q
    · exact .inl q
    · exact .inr (.inl q)
    · exact .inr (.inr (q.up (fun _ m => m) fun r hr => (hk r).mpr (.inl hr))), fun q hq => by
    rcases (hk q).mp hq with c | c
    · exact h.fd q c
    · rw [c]; exact ⟨E, h.mv E (h.hr E rfl), nx⟩⟩
theorem Srch.more {seen wl : List (List (List Int))} {ks : List Int} {E : List (List Int)} (h : Srch W x ds seen wl ks (some E)) {z : Nat} {p : Int} (nx : NextM W E z p) (zx : z ≠ x) (hz : z < E.length) (nw : ext E z p ∉ seen) : Srch W x ds (seen ++ [ext E z p]) (wl ++ [ext E z p]) ks (some E) :=
  ⟨List.nodup_append.mpr ⟨h.nd, List.pairwise_singleton .., fun a ha b hb e => nw (by
      have := List.mem_singleton.mp hb
      rw [← this, ← e]; exact ha)⟩, List.mem_append_left _ h.ini, fun D hD => by
    rcases List.mem_append.mp hD with q | q
    · exact h.mv D q
    · rw [List.mem_singleton.mp q]; exact .step (h.mv E (h.hr E rfl)) zx hz nx, fun D hD => by
    rcases List.mem_append.mp hD with q | q
    · exact List.mem_append_left _ (h.sub D q)
    · exact List.mem_append_right _ q, fun D e => List.mem_append_left _ (h.hr D e), fun D hD => by
    rcases List.mem_append.mp hD with q | q
    · rcases h.dn D q with q | q | q
      · exact .inl (List.mem_append_left _ q)
      · exact .inr (.inl q)
      · exact .inr (.inr (q.up (fun _ m => List.mem_append_left _ m) fun _ m => m))
    · exact .inl (List.mem_append_right _ q), h.fd⟩
theorem Srch.over {seen wl : List (List (List Int))} {ks : List Int} {E : List (List Int)} (h : Srch W x ds seen wl ks (some E)) (d : DoneS W x seen ks E) : Srch W x ds seen wl ks none :=
  ⟨h.nd, h.ini, h.mv, h.sub, (fun _ e => nomatch e), fun D hD => by
    rcases h.dn D hD with q | q | q
    · exact .inl q
    · cases q; exact .inr (.inr d)
    · exact .inr (.inr q), h.fd⟩
theorem Srch.fin {seen : List (List (List Int))} {ks : List Int} (h : Srch W x ds seen [] ks none) (p : Int) : p ∈ ks ↔ ∃ D, Mv W x ds D ∧ NextM W D x p := by
  have dn : ∀ D ∈ seen, DoneS W x seen ks D := fun D hD => by
    rcases h.dn D hD with q | q | q
    · cases q
    · cases q
    · exact q
  have all : ∀ D, Mv W x ds D → D ∈ seen := fun D m => by
    induction m with
    | refl => exact h.ini
    | step _ a b c ih => exact (dn _ ih).1 _ _ a b c
  exact ⟨h.fd p, fun ⟨D, m, nx⟩ => (dn D (all D m)).2 p nx⟩
end
end Mine
/-! ## K71 -/
section
open PySem L2 GA
local macro_rules
  | `(tactic| walk_at "w") => `(tactic| first
    | ((with_reducible refine' GA.w_var ?e ?_); (case e => exact rfl))
    | (with_reducible refine' GA.w_c ?_)
    | (with_reducible refine' GA.w_cons ?_)
    | (with_reducible refine' GA.w_nil ?_)
    | (with_reducible refine' GA.w_op ?_)
    | (with_reducible refine' GA.r_I0 ?_)
    | (with_reducible refine' GA.w_bl ?_)
    | (with_reducible refine' GA.w_seq ?_)
    | (with_reducible refine' GA.w_set ?_)
    | (with_reducible refine' GA.w_ret ?_)
    | (with_reducible refine' GA.w_ifS ?_)
    | (with_reducible refine' GA.w_test ?_)
    | (with_reducible refine' GA.w_tB ?_)
    | (with_reducible refine' GA.w_not ?_)
    | (with_reducible refine' GA.w_and ?_)
    | (with_reducible refine' GA.w_or ?_)
    | (with_reducible refine' GA.w_andV ?_)
    | (with_reducible refine' GA.w_orV ?_)
    | (with_reducible refine' GA.w_notV ?_)
    | (with_reducible refine' GA.w_blc ?_)
    | (with_reducible refine' GA.w_if ?_)
    | (with_reducible refine' GA.w_CB ?_)
    | (with_reducible refine' GA.w_call ?_)
    | (with_reducible refine' GA.w_tupN ?_)
    | (with_reducible refine' GA.w_lstN ?_)
    | (with_reducible refine' GA.w_chain ?_)
    | (with_reducible refine' GA.w_drop ?_)
    | (with_reducible refine' GA.w_next ?_)
    | (with_reducible refine' GA.w_break ?_)
    | (with_reducible refine' GA.w_un ?_)
    | (with_reducible refine' GA.r_U ?_)
    | (with_reducible refine' GA.r_eqI ?_)
    | (with_reducible refine' GA.r_neI ?_)
    | (with_reducible refine' GA.r_eqB ?_)
    | (with_reducible refine' GA.r_neB ?_)
    | (with_reducible refine' GA.w_fld ?_)
    | (with_reducible refine' GA.w_sfld ?_)
    | (with_reducible refine' GA.w_sl ?_)
    | (with_reducible refine' GA.w_part ?_)
    | (with_reducible refine' GA.w_noPart ?_)
    | (with_reducible refine' GA.w_inti ?_)
    | (with_reducible refine' GA.w_retN ?_)
    | (with_reducible refine' GA.w_gsub ?_)
    | (with_reducible refine' GA.w_gname ?_)
    | (with_reducible refine' L2.iteT ?_)
    | (with_reducible refine' L2.iteF ?_)
    | (with_reducible refine' GA.w_nt ?_)
    | (with_reducible refine' GA.w_nf ?_)
    | (with_reducible refine' GA.w_isN ?_)
    | (with_reducible refine' GA.w_notN ?_)
    | (with_reducible refine' GA.w_yes ?_)
    | (with_reducible refine' GA.w_lc ?_)
    | (with_reducible refine' GA.w_lc2 ?_)
    | (with_reducible refine' GA.w_iseq ?_)
    | (with_reducible refine' GA.w_make ?_)
    | (with_reducible refine' GA.w_for ?_)
    | (with_reducible refine' GA.w_rng1 ?_)
    | (with_reducible refine' GA.w_rng2 ?_)
    | (with_reducible refine' GA.w_itup ?_)
    | (with_reducible refine' GA.w_ilist ?_)
    | (with_reducible refine' GA.w_ienum ?_)
    | (with_reducible refine' GA.w_BM ?_)
    | (with_reducible refine' GA.w_BM0 ?_)
    | (with_reducible refine' GA.w_izip ?_)
    | (with_reducible refine' GA.w_asg ?_))
  | `(tactic| walk_at "wm") => `(tactic| first
    | ((with_reducible refine' GA.w_var ?e ?_); (case e => exact rfl))
    | (with_reducible refine' GA.w_c ?_)
    | (with_reducible refine' GA.w_cons ?_)
    | (with_reducible refine' GA.w_nil ?_)
    | (with_reducible refine' GA.w_op ?_)
    | (with_reducible refine' GA.r_I0 ?_)
    | (with_reducible refine' GA.w_bl ?_)
    | (with_reducible refine' GA.w_set ?_)
    | (with_reducible refine' GA.w_ret ?_)
    | (with_reducible refine' GA.w_ifS ?_)
    | (with_reducible refine' GA.w_test ?_)
    | (with_reducible refine' GA.w_tB ?_)
    | (with_reducible refine' GA.w_not ?_)
    | (with_reducible refine' GA.w_and ?_)
    | (with_reducible refine' GA.w_or ?_)
    | (with_reducible refine' GA.w_andV ?_)
    | (with_reducible refine' GA.w_orV ?_)
    | (with_reducible refine' GA.w_notV ?_)
    | (with_reducible refine' GA.w_blc ?_)
    | (with_reducible refine' GA.w_if ?_)
    | (with_reducible refine' GA.w_CB ?_)
    | (with_reducible refine' GA.w_call ?_)
    | (with_reducible refine' GA.w_tupN ?_)
    | (with_reducible refine' GA.w_lstN ?_)
    | (with_reducible refine' GA.w_chain ?_)
    | (with_reducible refine' GA.w_drop ?_)
    | (with_reducible refine' GA.w_next ?_)
    | (with_reducible refine' GA.w_break ?_)
    | (with_reducible refine' GA.w_un ?_)
    | (with_reducible refine' GA.r_U ?_)
    | (with_reducible refine' GA.r_eqI ?_)
    | (with_reducible refine' GA.r_neI ?_)
    | (with_reducible refine' GA.r_eqB ?_)
    | (with_reducible refine' GA.r_neB ?_)
    | (with_reducible refine' GA.w_fld ?_)
    | (with_reducible refine' GA.w_sfld ?_)
    | (with_reducible refine' GA.w_sl ?_)
    | (with_reducible refine' GA.w_part ?_)
    | (with_reducible refine' GA.w_noPart ?_)
    | (with_reducible refine' GA.w_inti ?_)
    | (with_reducible refine' GA.w_retN ?_)
    | (with_reducible refine' GA.w_gsub ?_)
    | (with_reducible refine' GA.w_gname ?_)
    | (with_reducible refine' L2.iteT ?_)
    | (with_reducible refine' L2.iteF ?_)
    | (with_reducible refine' GA.w_nt ?_)
    | (with_reducible refine' GA.w_nf ?_)
    | (with_reducible refine' GA.w_isN ?_)
    | (with_reducible refine' GA.w_notN ?_)
    | (with_reducible refine' GA.w_yes ?_)
    | (with_reducible refine' GA.w_lc ?_)
    | (with_reducible refine' GA.w_lc2 ?_)
    | (with_reducible refine' GA.w_iseq ?_)
    | (with_reducible refine' GA.w_make ?_)
    | (with_reducible refine' GA.w_for ?_)
    | (with_reducible refine' GA.w_rng1 ?_)
    | (with_reducible refine' GA.w_rng2 ?_)
    | (with_reducible refine' GA.w_itup ?_)
    | (with_reducible refine' GA.w_ilist ?_)
    | (with_reducible refine' GA.w_ienum ?_)
    | (with_reducible refine' GA.w_BM ?_)
    | (with_reducible refine' GA.w_BM0 ?_)
    | (with_reducible refine' GA.w_izip ?_)
    | (with_reducible refine' GA.w_asg ?_))
  | `(tactic| walk_at "ws") => `(tactic| repeat (walk_at "w"))
  | `(tactic| walk_at "wn") => `(tactic| repeat (walk_at "wm"))


namespace Mine
section
variable {P : Program} {w : World} {K : PySem.W.Frag} {mg : Str → Option Value} {base : Heap} {a : Ads}

/-! ### all that can be written next, others writing more ahead -/
theorem dia_ii {H : Hp} {p : Addr} {ds : List (List Int)} (h : DiaS K H p ds) : Dp K H (.ref p) (dII ds) := by
  obtain ⟨bs, h1, h2, h3⟩ := h
  exact .tup h1 (dpAll_at h2 fun j f e e1 e2 => h3 j f e e1 e2)
theorem putK_keys {κ : Type} [DecidableEq κ] (kvs : List (κ × V)) (k : κ) (v : V) : (putK kvs k v).map (·.1) = if k ∈ kvs.map (·.1) then kvs.map (·.1) else kvs.map (·.1) ++ [k] := by
  have ha : (kvs.any fun kv => decide (kv.1 = k)) = decide (k ∈ kvs.map (·.1)) := by
    rw [Bool.eq_iff_iff, List.any_eq_true, decide_eq_true_iff, List.mem_map]
    exact ⟨fun ⟨x, h1, h2⟩ => ⟨x, h1, of_decide_eq_true h2⟩, fun ⟨x, h1, h2⟩ => ⟨x, h1, decide_eq_true h2⟩⟩
  unfold putK
  rw [ha]
  by_cases c : k ∈ kvs.map (·.1)
  · rw [if_pos (decide_eq_true c), if_pos c, List.map_map]
    refine List.map_congr_left fun kv _ => ?_
    show (if kv.1 = k then (kv.1, v) else kv).1 = kv.1
    split <;> rfl
  · rw [if_neg (by rw [decide_eq_true_iff]; exact c), if_neg c, List.map_append]; rfl
theorem putK_mem {κ : Type} [DecidableEq κ] {kvs : List (κ × V)} {k : κ} {v : V} {kv : κ × V} (h : kv ∈ putK kvs k v) : kv = (k, v) ∨ kv ∈ kvs := by
  unfold putK at h
  split at h
  · obtain ⟨q, hq, e⟩ := List.mem_map.mp h
    by_cases c : q.1 = k
    · rw [if_pos c] at e
      exact .inl (by rw [← e, c])
    · rw [if_neg c] at e
      exact .inr (by rw [← e]; exact hq)
  · rcases List.mem_append.mp h with q | q
    · exact .inr q
    · exact .inl (List.mem_singleton.mp q)
/-- the diaries that wait -/
def DAll (K : PySem.W.Frag) (H : Hp) (bs : List Addr) (wl : List (List (List Int))) : Prop := bs.length = wl.length ∧ ∀ (i : Nat) (b : Addr) (D : List (List Int)), bs[i]? = some b → wl[i]? = some D → DiaS K H b D
theorem DAll.t {H H' : Hp} {bs : List Addr} {wl : List (List (List Int))} (h : DAll K H bs wl) (t : Ts H H') : DAll K H' bs wl := ⟨h.1, fun i b D e1 e2 => (h.2 i b D e1 e2).t t⟩
theorem DAll.snoc {H : Hp} {bs : List Addr} {wl : List (List (List Int))} {b : Addr} {D : List (List Int)} (h : DAll K H bs wl) (hb : DiaS K H b D) : DAll K H (bs ++ [b]) (wl ++ [D]) := by
  obtain ⟨l, all⟩ := h
  refine ⟨by rw [List.length_append, List.length_append, l]; rfl, fun i c E e1 e2 => ?_⟩
  by_cases ci : i < bs.length
  · rw [List.getElem?_append_left ci] at e1
    rw [List.getElem?_append_left (by omega)] at e2
    exact all i c E e1 e2
  · rw [List.getElem?_append_right (by omega)] at e1
    rw [List.getElem?_append_right (by omega), ← l] at e2
    obtain ⟨h1, h2⟩ := List.getElem?_eq_some_iff.mp e1
    obtain ⟨h3, h4⟩ := List.getElem?_eq_some_iff.mp e2
    rw [List.getElem_singleton] at h2 h4
    rw [← h2, ← h4]; exact hb
theorem _root_.GA.IsN.n {H H' : Hp} {d : Addr} {kss : List (List (List Int))} (h : IsN P w K H d kss) (g : G none H H') : IsN P w K H' d kss := by
  obtain ⟨kbs, h1, h2, h3⟩ := h
  exact ⟨kbs, g.all _ _ h1, h2, fun kb hk => by
    obtain ⟨ks, e1, e2⟩ := h3 kb hk
    exact ⟨ks, e1, dp_t g.tups _ _ (nl_dII ks) e2⟩⟩
/-- what was found -/
def FndV (K : PySem.W.Frag) (H : Hp) (W : List (Int × Int)) (x : Nat) (ds : List (List Int)) (kvs : List (Key × V)) : Prop := ∀ kv ∈ kvs, ∃ (p : Int) (b : Addr) (D : List (List Int)), kv = ((Sum.inl p : Key), V.ref b) ∧ Mv W x ds D ∧ NextM W D x p ∧ DiaS K H b (ext D x p)
theorem FndV.t {H H' : Hp} {W : List (Int × Int)} {x : Nat} {ds : List (List Int)} {kvs : List (Key × V)} (h : FndV K H W x ds kvs) (t : Ts H H') : FndV K H' W x ds kvs := fun kv hk => by
  obtain ⟨p, b, D, e, h1, h2, h3⟩ := h kv hk
  exact ⟨p, b, D, e, h1, h2, h3.t t⟩
theorem FndV.put {H : Hp} {W : List (Int × Int)} {x : Nat} {ds D : List (List Int)} {kvs : List (Key × V)} {p : Int} {b : Addr} (h : FndV K H W x ds kvs) (m : Mv W x ds D) (nx : NextM W D x p) (hb : DiaS K H b (ext D x p)) : FndV K H W x ds (putK kvs (Sum.inl p) (.ref b)) := fun kv hk => by
  rcases putK_mem hk with q | q
  · exact ⟨p, b, D, q, m, nx, hb⟩
  · exact h kv q
theorem Ts.upd8 {H : Hp} {a : Addr} {o u : HO} (h : H a = some o) (n : ∀ xs, o ≠ .tup xs) (n2 : ∀ ob v, o ≠ .frz ob v) : Ts H (upd H a u) := fun b xs hx => by
  rcases hx with hx | ⟨ob, hx⟩
  · exact .inl (by rw [upd_ne (ne_of hx h fun e => n xs e.symm)]; exact hx)
  · exact .inr ⟨ob, by rw [upd_ne (ne_of hx h fun e => n2 ob _ e.symm)]; exact hx⟩
/-- t[:z] + (t[z] + (p,),) + t[z + 1:] -/
theorem dia_ext {H : Hp} {q t : Addr} {bs : List Addr} {D : List (List Int)} {z : Nat} {p : Int} (lb : bs.length = D.length) (hz : z < D.length) (all : ∀ (i : Nat) (b : Addr) (d : List Int), bs[i]? = some b → D[i]? = some d → SqT K H b (d.map V.int)) (hq : SqT K H q ((bs.set z t).map V.ref)) (ht : SqT K H t ((dAt D z ++ [p]).map V.int)) : DiaS K H q (ext D z p) := by
  refine ⟨bs.set z t, hq, by rw [List.length_set, ext_len]; exact lb, fun i b d e1 e2 => ?_⟩
  unfold ext at e2
  rw [List.getElem?_set] at e1 e2
  by_cases c : z = i
  · rw [if_pos c, if_pos (by omega)] at e1 e2
    cases e1
    cases e2
    exact ht
  · rw [if_neg c] at e1 e2
    exact all i b d e1 e2
/-- the search within one state's turn -/
structure AnM (P : Program) (w : World) (K : PySem.W.Frag) (H : Hp) (W : List (Int × Int)) (x : Nat) (ds : List (List Int)) (FD SD WL : Addr) (seen wl : List (List (List Int))) (wbs : List Addr) (kvs : List (Key × V)) (ks : List Int) (E : List (List Int)) (hb : Addr) (H' : Hp) : Prop where
  g : G none H H'
  S : Srch W x ds seen wl ks (some E)
  hF : H' FD = some (.dK kvs)
  ek : kvs.map (·.1) = ks.map Sum.inl
  ndk : ks.Nodup
  fnd : FndV K H' W x ds kvs
  hN : IsN P w K H' SD seen
  hW : H' WL = some (.lst (wbs.map V.ref))
  da : DAll K H' wbs wl
  hE : DiaS K H' hb E
section
variable {H H' H'' : Hp} {W : List (Int × Int)} {x : Nat} {ds E : List (List Int)} {FD SD WL hb : Addr} {seen wl : List (List (List Int))} {wbs : List Addr} {kvs : List (Key × V)} {ks : List Int}
theorem isN_stay {H H' : Hp} {d : Addr} {kss : List (List (List Int))} (h : IsN P w K H d kss) (e : H' d = H d) (t : Ts H H') : IsN P w K H' d kss := by
  obtain ⟨kbs, h1, h2, h3⟩ := h
  exact ⟨kbs, e.trans h1, h2, fun kb hk => by
    obtain ⟨ks, e1, e2⟩ := h3 kb hk
    exact ⟨ks, e1, dp_t t _ _ (nl_dII ks) e2⟩⟩
theorem isN_ext {H : Hp} {d : Addr} {kss : List (List (List Int))} (h : IsN P w K H d kss) : ∃ φ, H d = some (.ext φ) := let ⟨_, e, _⟩ := h; ⟨_, e⟩
theorem AnM.n (A : AnM P w K H W x ds FD SD WL seen wl wbs kvs ks E hb H') (g : G none H' H'') : AnM P w K H W x ds FD SD WL seen wl wbs kvs ks E hb H'' :=
  ⟨A.g.trans g, A.S, g.all _ _ A.hF, A.ek, A.ndk, A.fnd.t g.tups, A.hN.n g, g.all _ _ A.hW, A.da.t g.tups, A.hE.t g.tups⟩
theorem AnM.fw (A : AnM P w K H W x ds FD SD WL seen wl wbs kvs ks E hb H') : FD ≠ WL := ne_of A.hF A.hW (fun z => nomatch z)
theorem AnM.fs (A : AnM P w K H W x ds FD SD WL seen wl wbs kvs ks E hb H') : FD ≠ SD := by
  obtain ⟨φ, e⟩ := isN_ext A.hN
  exact ne_of A.hF e (fun z => nomatch z)
theorem AnM.sw (A : AnM P w K H W x ds FD SD WL seen wl wbs kvs ks E hb H') : SD ≠ WL := by
  obtain ⟨φ, e⟩ := isN_ext A.hN
  exact ne_of e A.hW (fun z => nomatch z)
theorem AnM.put (A : AnM P w K H W x ds FD SD WL seen wl wbs kvs ks E hb H') (hFD : H FD = none) {p : Int} {b : Addr} (nx : NextM W E x p) (hd : DiaS K H' b (ext E x p)) :
    AnM P w K H W x ds FD SD WL seen wl wbs (putK kvs (Sum.inl p) (.ref b)) (if p ∈ ks then ks else ks ++ [p]) E hb (upd H' FD (.dK (putK kvs (Sum.inl p) (.ref b)))) := by
  have ts : Ts H' (upd H' FD (.dK (putK kvs (Sum.inl p) (.ref b)))) := Ts.upd8 A.hF (fun _ z => nomatch z) (fun _ _ z => nomatch z)
  have mk : ((Sum.inl p : Key) ∈ kvs.map (·.1)) ↔ p ∈ ks := by
    rw [A.ek, List.mem_map]
    exact ⟨fun ⟨q, hq, e⟩ => by cases e; exact hq, fun h => ⟨p, h, rfl⟩⟩
  refine ⟨A.g.mut hFD (fun _ e => nomatch e), A.S.find nx fun q => ?_, upd_same, ?_, ?_, (A.fnd.put (A.S.mv E (A.S.hr E rfl)) nx hd).t ts, isN_stay A.hN (upd_ne A.fs.symm) ts, by rw [upd_ne A.fw.symm]; exact A.hW, A.da.t ts, A.hE.t ts⟩
  · by_cases c : p ∈ ks
    · rw [if_pos c]
      exact ⟨.inl, fun h => h.elim id fun e => by rw [e]; exact c⟩
    · rw [if_neg c, List.mem_append, List.mem_singleton]
  · rw [putK_keys]
    by_cases c : p ∈ ks
    · rw [if_pos (mk.mpr c), if_pos c, A.ek]
    · rw [if_neg (fun h => c (mk.mp h)), if_neg c, A.ek, List.map_append]; rfl
  · by_cases c : p ∈ ks
    · rw [if_pos c]; exact A.ndk
    · rw [if_neg c]
      exact List.nodup_append.mpr ⟨A.ndk, List.pairwise_singleton .., fun a ha b hb e => c (by
        have := List.mem_singleton.mp hb
        subst this; subst e; exact ha)⟩
theorem ks_few {B : Nat} (S : Srch W x ds seen wl ks (some E)) (rng : ∀ d ∈ ds, ∀ q ∈ d, 0 ≤ q ∧ q < (B : Int)) (nd : ks.Nodup) : ks.length ≤ B := by
  have := List.Nodup.length_le_of_subset (l₂ := (List.range B).map fun (i : Nat) => (i : Int)) nd fun p hp => by
    obtain ⟨D, m, u, _, _, h1, _⟩ := S.fd p hp
    have := m.rng rng _ (dAt_mem h1) p h1
    exact List.mem_map.mpr ⟨p.toNat, List.mem_range.mpr (by omega), by omega⟩
  rw [List.length_map, List.length_range] at this
  exact this
theorem AnM.add (A : AnM P w K H W x ds FD SD WL seen wl wbs kvs ks E hb H') (hSD : H SD = none) (hWL : H WL = none) {z : Nat} {p : Int} {b : Addr} {u : HO} (nx : NextM W E z p) (zx : z ≠ x) (hz : z < E.length) (nw : ext E z p ∉ seen) (hN : IsN P w K (upd H' SD u) SD (seen ++ [ext E z p])) (hd : DiaS K H' b (ext E z p)) :
    AnM P w K H W x ds FD SD WL (seen ++ [ext E z p]) (wl ++ [ext E z p]) (wbs ++ [b]) kvs ks E hb (upd (upd H' SD u) WL (.lst (wbs.map V.ref ++ [.ref b]))) := by
  obtain ⟨φ, eS⟩ := isN_ext A.hN
  have t1 : Ts H' (upd H' SD u) := Ts.upd8 eS (fun _ z => nomatch z) (fun _ _ z => nomatch z)
  have hW1 : (upd H' SD u) WL = some (.lst (wbs.map V.ref)) := by rw [upd_ne A.sw.symm]; exact A.hW
  have t2 : Ts (upd H' SD u) (upd (upd H' SD u) WL (.lst (wbs.map V.ref ++ [.ref b]))) := Ts.updl hW1
  have t := Ts.trans t1 t2
  refine ⟨(A.g.mut hSD (fun _ e => nomatch e)).mut hWL (fun _ e => nomatch e), A.S.more nx zx hz nw, ?_, A.ek, A.ndk, A.fnd.t t, isN_stay hN (upd_ne A.sw) t2, by rw [upd_same, List.map_append]; rfl, (A.da.t t).snoc (hd.t t), A.hE.t t⟩
  rw [upd_ne A.fw, upd_ne A.fs]; exact A.hF
end
/-- where the search stands, and how much is left -/
def AnS (P : Program) (w : World) (K : PySem.W.Frag) (H : Hp) (W : List (Int × Int)) (x : Nat) (ds : List (List Int)) (wa dp FD SD WL : Addr) (μ : Nat) (σ : L2.St) (H' : Hp) : Prop := ∃ (seen wl : List (List (List Int))) (wbs : List Addr) (kvs : List (Key × V)) (ks : List Int) (u6 u7 u8 u9 : Option V), σ = [some (.ref wa), some (.ref dp), some (.int (x : Nat)), some (.ref FD), some (.ref SD), some (.ref WL), u6, u7, u8, u9] ∧ G none H H' ∧ Srch W x ds seen wl ks none ∧ H' FD = some (.dK kvs) ∧ kvs.map (·.1) = ks.map Sum.inl ∧ ks.Nodup ∧ FndV K H' W x ds kvs ∧ IsN P w K H' SD seen ∧ H' WL = some (.lst (wbs.map V.ref)) ∧ DAll K H' wbs wl ∧ wl.length ≤ seen.length ∧ μ = 2 * (274625 - seen.length) + wl.length
theorem w_dispN {tk tv : TE} {σ : L2.St} {H : Hp} {Q : VK} (q : ∀ p, H p = none → ∀ u0, IsN P w K (upd H p u0) p [] → tk σ (upd H p u0) fun x H1 => tv σ H1 fun y H2 => IsN P w K H2 p [] ∧ ∃ (b : Addr) (ds : List (List Int)) (v : V), [(x, y)] = [(V.ref b, v)] ∧ Dp K H2 (.ref b) (dII ds) ∧
  ∀ u, IsN P w K (upd H2 p u) p [ds] → Q (.ref p) (upd H2 p u)) : tDispN P w K [(tk, tv)] σ H Q := q
def sp__law_all_next (P : Program) (w : World) (K : PySem.W.Frag) : Sp := fun vs H Q _ => ∃ (m : Int) (wa dp : Addr) (bs : List Addr) (W : List (Int × Int)) (ws : List Int) (ds : List (List Int)) (x : Nat), vs = [.ref wa, .ref dp, .int (x : Nat)] ∧ SqT K H wa (bs.map V.ref) ∧ TupAll H bs W ∧ IsWeb m W ∧ DiaS K H dp ds ∧ ds.length = m.toNat ∧ x < ds.length ∧ IsRec ws ds ∧ ((ds.length ≤ 4 ∧ ws.length ≤ 4) ∨ (ds.length ≤ 6 ∧ ws.length ≤ 2)) ∧
  ∀ (F : Addr) (kvs : List (Key × V)) (ks : List Int) H', H F = none → G none H H' → H' F = some (.dK kvs) → kvs.map (·.1) = ks.map Sum.inl → ks.Nodup → (∀ p, p ∈ ks ↔ ∃ D, Mv W x ds D ∧ NextM W D x p) → FndV K H' W x ds kvs → Q (.ref F) H'
theorem ok__law_all_next (T : Txt K mg a) : FnOk P w K mg base CX0 2 a.f__law_all_next a.d__law_all_next P__law_all_next (sp__law_all_next P w K) := by
  refine T.F__law_all_next.ok sc__law_all_next (fun vs H Q E h => by obtain ⟨m, wa, dp, bs, W, ws, ds, x, rfl, _⟩ := h; rfl) (fun cdv A outer s H vs Q E hr h => ?_)
  obtain ⟨m, wa, dp, bs, W, ws, ds, x, rfl, hwa, tup, web, hdia, lm, hx, rec, few, k⟩ := h
  have m1 := web.lo
  have m7 := web.hi
  have p30 := rec.p30
  have hN := few_states few
  have G__law_next : FnOk P w K mg base CX0 1 a.f__law_next a.d__law_next P__law_next (sp__law_next K) := ok__law_next T
  refine ⟨_, (pss_cons (ps_set (i := 3) sc__law_all_next.nd rfl (Or.inl rfl) pe_dnewK)
  (pss_cons (ps_set (i := 4) sc__law_all_next.nd rfl (Or.inl rfl) (pe_dispN (u65 hr) (pps_cons (pv 1) pe_bl pps_nil) rfl rfl (by simp) (by decide)))
  (pss_cons (ps_set (i := 5) sc__law_all_next.nd rfl (Or.inl rfl) (pe_lstN (pa_cons (pv 1) pa_nil)))
  (pss_cons (ps_while PassesOwn.never (pt_cmpR op_gt (pe_callB call_len_seq (by rfl) T.n_len (by decide +kernel) (pa_cons (pv 5) pa_nil)) pe_int (nomark _))
    (pss_cons (ps_set (i := 6) sc__law_all_next.nd rfl (Or.inl rfl) (pe_bm0 PySem.F.plainAttrs_list PySem.F.slot_list_pop PySem.F.type_list_pop mt_pop (pv 5)))
  (pss_cons (ps_for PassesOwn.never rfl (pi_list (pe_call (G__law_next) (hr.mono (by omega)) rfl T.m__law_next T.F__law_next.kp T.b__law_next .nil pass0 (pa_cons (pv 0) (pa_cons (pv 6) (pa_cons (pv 2) pa_nil))))) (pg_name (i := 7) sc__law_all_next.nd rfl (Or.inl rfl))
    (pss_one (ps_asg (pe_op op_catN (pe_op op_catN (pe_slice sl_tupAN (pv 6) po_none (po_some (pv 2))) (pe_tupN (pa_cons (pe_op op_catN (pe_ix ix_tup (pv 6) (pv 2) (fun _ _ => rfl)) (pe_tupN (pa_cons (pv 7) pa_nil))) pa_nil))) (pe_slice sl_tupAN (pv 6) (po_some (pe_op op_add (pv 2) pe_int)) po_none)) (pg_sub (pv 3) (pv 7) (set_dict (hu_of hr))))))
  (pss_one (ps_for PassesOwn.never rfl (pi_range1 rfl T.n_range (pa_cons (pe_callB call_len_seq (by rfl) T.n_len (by decide +kernel) (pa_cons (pv 1) pa_nil)) pa_nil)) (pg_name (i := 8) sc__law_all_next.nd rfl (Or.inl rfl))
    (pss_one (ps_if (pt_cmpR op_ne (pv 8) (pv 2) (nomark _))
    (pss_one (ps_for PassesOwn.never rfl (pi_list (pe_call (G__law_next) (hr.mono (by omega)) rfl T.m__law_next T.F__law_next.kp T.b__law_next .nil pass0 (pa_cons (pv 0) (pa_cons (pv 6) (pa_cons (pv 8) pa_nil))))) (pg_name (i := 7) sc__law_all_next.nd rfl (Or.inl rfl))
    (pss_cons (ps_set (i := 9) sc__law_all_next.nd rfl (Or.inl rfl) (pe_op op_catN (pe_op op_catN (pe_slice sl_tupAN (pv 6) po_none (po_some (pv 8))) (pe_tupN (pa_cons (pe_op op_catN (pe_ix ix_tup (pv 6) (pv 8) (fun _ _ => rfl)) (pe_tupN (pa_cons (pv 7) pa_nil))) pa_nil))) (pe_slice sl_tupAN (pv 6) (po_some (pe_op op_add (pv 8) pe_int)) po_none)))
  (pss_one (ps_if (pt_cmpR (op_notInN (u65 hr)) (pv 9) (pv 4) (by rfl))
    (pss_cons (ps_asg pe_bl (pg_sub (pv 4) (pv 9) (set_dictN (u65 hr))))
  (pss_one (ps_expr (pe_bm PySem.F.plainAttrs_list PySem.F.slot_list_append PySem.F.type_list_append mt_append (pv 5) (pa_cons (pv 9) pa_nil)))))
    pss_nil)))))
    pss_nil)))))))
  (pss_one (ps_ret (pv 3))))))), ?_⟩
  walk_at "ws"
  intro FD hFD
  have g1 : G none H (upd H FD (.dK [])) := G.alloc hFD
  have hF1 : (upd H FD (.dK [])) FD = some (.dK []) := upd_same
  generalize upd H FD (.dK []) = H1 at g1 hF1 ⊢
  walk_at "ws"
  refine w_dispN fun SD hSD u0 hN0 => ?_
  have g2 : G none H1 (upd H1 SD u0) := G.alloc hSD
  have hF2 := g2.all _ _ hF1
  have hSD0 : H SD = none := new_bk g1 hSD
  generalize upd H1 SD u0 = H2 at g2 hF2 hN0 ⊢
  walk_at "ws"
  refine ⟨hN0, dp, ds, _, rfl, dia_ii (hdia.t (g1.trans g2).tups), fun u1 hN1 => ?_⟩
  have eN0 : ∃ φ, H2 SD = some (.ext φ) := let ⟨_, e, _⟩ := hN0; ⟨_, e⟩
  have nFS : FD ≠ SD := fun e => by
    subst e
    obtain ⟨φ, e⟩ := eN0
    rw [hF2] at e; cases e
  have g3 : G none H (upd H2 SD u1) := (g1.trans g2).mut hSD0 (fun _ e => nomatch e)
  have hF3 : (upd H2 SD u1) FD = some (.dK []) := by rw [upd_ne nFS]; exact hF2
  generalize upd H2 SD u1 = H3 at g3 hF3 hN1 ⊢
  clear eN0 hN0 hF2 g2 hSD hF1 g1
  walk_at "ws"
  refine ⟨sz (by simp), fun WL H4 hWL g4 h4 => ?_⟩
  have hWL0 : H WL = none := new_bk g3 hWL
  have g04 := g3.trans (g4 none)
  have hF4 := (g4 none).all _ _ hF3
  have hN4 : IsN P w K H4 SD [ds] := hN1.n (g4 none)
  clear hF3 hN1 g3 g4 hWL
  walk_at "ws"
  refine ⟨AnS P w K H W x ds wa dp FD SD WL, ⟨_, [ds], [ds], [dp], [], [], _, _, _, _, rfl, g04, .start, hF4, rfl, List.nodup_nil, (fun _ h => nomatch h), hN4, h4, ⟨rfl, fun i b D e1 e2 => ?_⟩, Nat.le_refl _, rfl⟩, ?_⟩
  · obtain ⟨h1, h2⟩ := List.getElem?_eq_some_iff.mp e1
    obtain ⟨h3, h5⟩ := List.getElem?_eq_some_iff.mp e2
    rw [List.getElem_singleton] at h2 h5
    rw [← h2, ← h5]
    exact hdia.t g04.tups
  clear hF4 hN4 h4 g04
  unfold AnS
  rintro μ σ H1 ⟨seen, wl, wbs, kvs, ks, u6, u7, u8, u9, rfl, g1, S, hF, ek, ndk, fnd, hN1, hW, da, lws, rfl⟩
  have ofS : ∀ D ∈ seen, D.length = ds.length ∧ dAt D x = dAt ds x ∧ (∀ d ∈ D, d.Nodup) ∧ ∀ d ∈ D, ∀ p ∈ d, 0 ≤ p ∧ p < (ws.length : Int) := fun D hD => by
    have m := S.mv D hD
    exact ⟨m.len, m.at_x, m.nd rec.nd, m.rng rec.rng⟩
  have few1 : seen.length ≤ 274625 := Nat.le_trans (seen_le S.nd ofS hx) hN
  have lda := da.1
  walk_at "ws"
  refine ⟨WL, _, rfl, .inl (SqL.of hW), ?_⟩
  walk_at "ws"
  rw [List.length_map]
  rcases List.eq_nil_or_concat wbs with rfl | ⟨wb0, hb, rfl⟩
  · obtain rfl : wl = [] := List.length_eq_zero_iff.mp (by rw [← lda]; rfl)
    walk_at "ws"
    try (rw [if_neg (by simp)])
    walk_at "ws"
    exact k FD kvs ks H1 hFD g1 hF ek ndk S.fin fnd
  · rcases List.eq_nil_or_concat wl with rfl | ⟨wl0, E, rfl⟩
    · simp at lda
    simp only [List.concat_eq_append] at lda hW da S lws ⊢
    rw [if_pos (by simp)]
    refine ⟨fun σ' H' => ∃ m', m' < 2 * (274625 - seen.length) + (wl0 ++ [E]).length ∧ AnS P w K H W x ds wa dp FD SD WL m' σ' H', fun _ _ h => h, ?_⟩
    have lws0 : wl0.length + 1 ≤ seen.length := by rw [List.length_append] at lws; simpa using lws
    have lda0 : wb0.length = wl0.length := by rw [List.length_append, List.length_append] at lda; simpa using lda
    have hE : DiaS K H1 hb E := da.2 wb0.length hb E (by rw [List.getElem?_append_right (Nat.le_refl _), Nat.sub_self]; rfl) (by rw [lda0, List.getElem?_append_right (Nat.le_refl _), Nat.sub_self]; rfl)
    have da0 : DAll K H1 wb0 wl0 := ⟨lda0, fun i b D e1 e2 => da.2 i b D (by rw [List.getElem?_append_left (List.getElem?_eq_some_iff.mp e1).1]; exact e1) (by rw [List.getElem?_append_left (List.getElem?_eq_some_iff.mp e2).1]; exact e2)⟩
    have SE := S.pop
    have eE := S.sub E (List.mem_append_right _ (List.mem_singleton.mpr rfl))
    obtain ⟨lE, xE, ndE, rgE⟩ := ofS E eE
    have rg30 : ∀ d ∈ E, ∀ p ∈ d, 0 ≤ p ∧ p < (30 : Int) := fun d hd p hp => by
      have := rgE d hd p hp
      omega
    have lx : x < E.length := by omega
    walk_at "ws"
    refine i_BM hW ⟨WL, _, .ref hb, rfl, rfl, hW, by simp, ?_⟩
    have ts : Ts H1 (upd H1 WL (.lst (((wb0 ++ [hb]).map V.ref).dropLast))) := Ts.updl hW
    have ed : ((wb0 ++ [hb]).map V.ref).dropLast = wb0.map V.ref := by rw [List.map_append]; exact List.dropLast_concat
    have A2 : AnM P w K H W x ds FD SD WL seen wl0 wb0 kvs ks E hb (upd H1 WL (.lst (((wb0 ++ [hb]).map V.ref).dropLast))) := by
      have n1 : FD ≠ WL := ne_of hF hW (fun z => nomatch z)
      obtain ⟨φ, eS⟩ := isN_ext hN1
      have n2 : SD ≠ WL := ne_of eS hW (fun z => nomatch z)
      exact ⟨g1.mut hWL0 (fun _ e => nomatch e), SE, by rw [upd_ne n1]; exact hF, ek, ndk, fnd.t ts, isN_stay hN1 (upd_ne n2) ts, by rw [upd_same, ed], da0.t ts, hE.t ts⟩
    clear hE da0 SE hW da hN1 fnd hF g1 ek ndk
    generalize upd H1 WL (.lst (((wb0 ++ [hb]).map V.ref).dropLast)) = H2 at A2 ts ⊢
    walk_at "ws"
    have hwaH : ∀ {H' : Hp}, G none H H' → SqT K H' wa (bs.map V.ref) := fun g => sqT_t g.tups hwa
    have tupH : ∀ {H' : Hp}, G none H H' → TupAll H' bs W := fun g => tup.g g (fun _ e => nomatch e)
    refine ⟨m, wa, hb, bs, W, E, x, rfl, hwaH A2.g, tupH A2.g, web, A2.hE, by omega, lx, ndE, rg30, fun L ns H3 hL g3 h3 asc mem => ?_⟩
    have hL0 : H L = none := new_bk A2.g hL
    refine i_list (SqL.of h3) ?_
    refine for_it (walk_list (xs := ns.map V.int)) (fun i σ H' => ∃ (kvs : List (Key × V)) (ks : List Int) (u7 u8 u9 : Option V), σ = [some (.ref wa), some (.ref dp), some (.int (x : Nat)), some (.ref FD), some (.ref SD), some (.ref WL), some (.ref hb), u7, u8, u9] ∧ AnM P w K H W x ds FD SD WL seen wl0 wb0 kvs ks E hb H' ∧ H' L = some (.lst (ns.map V.int)) ∧ ∀ (j : Nat) (p : Int), j < i → ns[j]? = some p → p ∈ ks) ⟨kvs, ks, _, _, _, rfl, A2.n g3, h3, fun j p hj => absurd hj (Nat.not_lt_zero _)⟩ (fun i σ H' _ ⟨_, _, _, _, _, _, _, q, _⟩ => SqL.of q) ?_ ?_
    · clear A2 ts
      rintro i v σ _ H4 hi ⟨kvs, ks, u7, u8, u9, rfl, A4, h4, cov⟩ ⟨rfl, hv⟩
      rw [List.getElem?_map] at hv
      obtain ⟨p, hp, rfl⟩ := Option.map_eq_some_iff.mp hv
      have nx := (mem p).mp (List.mem_of_getElem? hp)
      have lks := ks_few (B := 30) A4.S (fun d hd q hq => by have := rec.rng d hd q hq; omega : ∀ d ∈ ds, ∀ q ∈ d, 0 ≤ q ∧ q < ((30 : Nat) : Int)) A4.ndk
      have lkv : kvs.length = ks.length := by have := congrArg List.length A4.ek; rwa [List.length_map, List.length_map] at this
      obtain ⟨fs, hfs, lf, hfd⟩ := A4.hE
      have lzE : x < E.length := lx
      obtain ⟨fz, hfz⟩ : ∃ f, fs[x]? = some f := ⟨_, List.getElem?_eq_getElem (by omega)⟩
      obtain ⟨dz, hdz⟩ : ∃ d, E[x]? = some d := ⟨_, List.getElem?_eq_getElem lzE⟩
      have ez : dAt E x = dz := dAt_of hdz
      have sz0 := hfd x fz dz hfz hdz
      have ldz : dz.length ≤ 30 := by rw [← ez]; exact dAt_len30 (P := 30) ndE rg30 x
      have lE7 : E.length ≤ 7 := by omega
      walk_at "ws"
      refine ⟨hb, _, rfl, hfs, fun p1 H5 g5 h5 => ?_⟩
      rw [cut_to _ (by rw [List.length_map]; omega), ← List.map_take] at h5
      walk_at "ws"
      refine r_ixT (sqT_t (g5 none).tups hfs) (v := .ref fz) (at_of (j := x) rfl (by rw [List.getElem?_map, hfz]; rfl)) ?_
      walk_at "ws"
      refine ⟨sz (by simp), fun q1 H6 hq1 g6 h6 => ?_⟩
      have g46 := (g5 none).trans (g6 none)
      refine ⟨fz, q1, _, _, rfl, rfl, sqT_t g46.tups sz0, SqT.of h6, by simp; omega, fun p2 H7 g7 h7 => ?_⟩
      walk_at "ws"
      refine ⟨sz (by simp), fun q2 H8 hq2 g8 h8 => ?_⟩
      have g68 := (g7 none).trans (g8 none)
      refine ⟨p1, q2, _, _, rfl, rfl, sqT_t ((g6 none).trans g68).tups h5, SqT.of h8, by simp; omega, fun p3 H9 g9 h9 => ?_⟩
      walk_at "ws"
      have g49 := (g46.trans g68).trans (g9 none)
      refine ⟨hb, _, rfl, sqT_t g49.tups hfs, fun p4 HA gA hA => ?_⟩
      rw [cut_from _ (by rw [List.length_map]; omega), ← List.map_drop] at hA
      refine ⟨p3, p4, _, _, rfl, rfl, sqT_t (gA none).tups h9, hA, by simp; omega, fun p5 HB gB hB => ?_⟩
      have g4B := (g49.trans (gA none)).trans (gB none)
      have AB := A4.n g4B
      have lzf : x < fs.length := by omega
      have e10 : (fs.take x).map V.ref ++ [V.ref p2] ++ (fs.drop (x + 1)).map V.ref = (fs.set x p2).map V.ref := by
        rw [List.set_eq_take_append_cons_drop, if_pos lzf, List.map_append, List.map_cons, List.append_assoc]; rfl
      rw [e10] at hB
      have dE : DiaS K HB p5 (ext E x p) := dia_ext lf lzE (fun i b d e1 e2 => sqT_t g4B.tups (hfd i b d e1 e2)) hB (by
        rw [ez, List.map_append]
        exact sqT_t ((((g8 none).trans (g9 none)).trans (gA none)).trans (gB none)).tups h7)
      walk_at "ws"
      refine ⟨FD, _, rfl, DPut.k (k := Sum.inl p) AB.hF (Nat.lt_of_le_of_lt (by omega : kvs.length ≤ 100) (by decide)), ?_⟩
      walk_at "ws"
      refine ⟨_, _, _, _, _, rfl, AB.put hFD nx dE, ?_, fun j q hj hq => ?_⟩
      · rw [upd_ne (ne_of (g4B.all _ _ h4) AB.hF (fun z => nomatch z))]
        exact g4B.all _ _ h4
      · by_cases c : j = i
        · subst c
          rw [hp] at hq
          cases hq
          by_cases cc : p ∈ ks
          · rw [if_pos cc]; exact cc
          · rw [if_neg cc]; exact List.mem_append_right _ (List.mem_singleton.mpr rfl)
        · have := cov j q (by omega) hq
          by_cases cc : p ∈ ks
          · rw [if_pos cc]; exact this
          · rw [if_neg cc]; exact List.mem_append_left _ this
    rintro σ H4 ⟨kvs2, ks2, u7, u8, u9, rfl, A4, h4, cov0⟩
    rw [List.length_map] at cov0
    have cov : ∀ p, NextM W E x p → p ∈ ks2 := fun p nx => by
      obtain ⟨j, hj, e⟩ := List.getElem_of_mem ((mem p).mpr nx)
      exact cov0 j p hj (by rw [← e]; exact List.getElem?_eq_getElem hj)
    clear cov0 A2 ts h3 g3 h4 asc mem hL hL0
    have lenS : ∀ {seen' wl' : List (List (List Int))} {ks' : List Int} {o : Option (List (List Int))}, Srch W x ds seen' wl' ks' o → seen'.length ≤ 274625 := fun S' => Nat.le_trans (seen_le S'.nd (fun D hD => by
      have m := S'.mv D hD
      exact ⟨m.len, m.at_x, m.nd rec.nd, m.rng rec.rng⟩) hx) hN
    walk_at "ws"
    obtain ⟨fd, hfd0, lfd, _⟩ := id hdia
    refine ⟨dp, _, rfl, .inr (sqT_t A4.g.tups hfd0), ?_⟩
    walk_at "ws"
    rw [List.length_map, lfd]
    refine i_rng1 (by omega) (by omega) ?_
    rw [Int.toNat_natCast]
    refine for_it walk_range (fun z σ H' => ∃ (seen2 wl2 : List (List (List Int))) (wbs2 : List Addr) (u7 u8 u9 : Option V), σ = [some (.ref wa), some (.ref dp), some (.int (x : Nat)), some (.ref FD), some (.ref SD), some (.ref WL), some (.ref hb), u7, u8, u9] ∧ AnM P w K H W x ds FD SD WL seen2 wl2 wbs2 kvs2 ks2 E hb H' ∧ (seen2.length + wl0.length = wl2.length + seen.length ∧ seen.length ≤ seen2.length) ∧ ∀ (z' : Nat) (p : Int), z' < z → z' ≠ x → NextM W E z' p → ext E z' p ∈ seen2) ⟨seen, wl0, wb0, _, _, _, rfl, A4, ⟨Nat.add_comm .., Nat.le_refl _⟩, fun z' p h => absurd h (Nat.not_lt_zero _)⟩ (fun _ _ _ _ _ => trivial) ?_ ?_
    · clear A4
      rintro z v σ _ H4 hz ⟨seen2, wl2, wbs2, u7, u8, u9, rfl, A4, cnt, covz⟩ ⟨rfl, rfl⟩
      show gName 8 (.int (0 + (z : Int))) _ _ _
      rw [Int.zero_add]
      have lz : z < E.length := by omega
      walk_at "ws"
      refine w_ite (fun e => ?_) (fun e => ?_)
      · have zx : z ≠ x := fun c => by subst c; simp at e
        walk_at "ws"
        refine ⟨m, wa, hb, bs, W, E, z, rfl, hwaH A4.g, tupH A4.g, web, A4.hE, by omega, lz, ndE, rg30, fun L ns H3 hL g3 h3 asc mem => ?_⟩
        have hL0 : H L = none := new_bk A4.g hL
        refine i_list (SqL.of h3) ?_
        refine for_it (walk_list (xs := ns.map V.int)) (fun i σ H' => ∃ (seen3 wl3 : List (List (List Int))) (wbs3 : List Addr) (u7 u9 : Option V), σ = [some (.ref wa), some (.ref dp), some (.int (x : Nat)), some (.ref FD), some (.ref SD), some (.ref WL), some (.ref hb), u7, some (.int (z : Nat)), u9] ∧ AnM P w K H W x ds FD SD WL seen3 wl3 wbs3 kvs2 ks2 E hb H' ∧ H' L = some (.lst (ns.map V.int)) ∧ (seen3.length + wl0.length = wl3.length + seen.length ∧ seen.length ≤ seen3.length) ∧ (∀ D ∈ seen2, D ∈ seen3) ∧ L ≠ WL ∧ ∀ (j : Nat) (p : Int), j < i → ns[j]? = some p → ext E z p ∈ seen3) ⟨seen2, wl2, wbs2, _, _, rfl, A4.n g3, h3, cnt, (fun _ h => h), (fun e => by subst e; rw [A4.hW] at hL; cases hL), fun j p hj => absurd hj (Nat.not_lt_zero _)⟩ (fun i σ H' _ ⟨_, _, _, _, _, _, _, q, _⟩ => SqL.of q) ?_ ?_
        · clear A4 cnt covz
          rintro i v σ _ H4 hi ⟨seen3, wl3, wbs3, u7, u9, rfl, A4, h4, cnt, sub, nLW, cov3⟩ ⟨rfl, hv⟩
          rw [List.getElem?_map] at hv
          obtain ⟨p, hp, rfl⟩ := Option.map_eq_some_iff.mp hv
          have nx := (mem p).mp (List.mem_of_getElem? hp)
          obtain ⟨fs, hfs, lf, hfd⟩ := A4.hE
          have lzE : z < E.length := lz
          obtain ⟨fz, hfz⟩ : ∃ f, fs[z]? = some f := ⟨_, List.getElem?_eq_getElem (by omega)⟩
          obtain ⟨dz, hdz⟩ : ∃ d, E[z]? = some d := ⟨_, List.getElem?_eq_getElem lzE⟩
          have ez : dAt E z = dz := dAt_of hdz
          have sz0 := hfd z fz dz hfz hdz
          have ldz : dz.length ≤ 30 := by rw [← ez]; exact dAt_len30 (P := 30) ndE rg30 z
          have lE7 : E.length ≤ 7 := by omega
          walk_at "ws"
          refine ⟨hb, _, rfl, hfs, fun p1 H5 g5 h5 => ?_⟩
          rw [cut_to _ (by rw [List.length_map]; omega), ← List.map_take] at h5
          walk_at "ws"
          refine r_ixT (sqT_t (g5 none).tups hfs) (v := .ref fz) (at_of (j := z) rfl (by rw [List.getElem?_map, hfz]; rfl)) ?_
          walk_at "ws"
          refine ⟨sz (by simp), fun q1 H6 hq1 g6 h6 => ?_⟩
          have g46 := (g5 none).trans (g6 none)
          refine ⟨fz, q1, _, _, rfl, rfl, sqT_t g46.tups sz0, SqT.of h6, by simp; omega, fun p2 H7 g7 h7 => ?_⟩
          walk_at "ws"
          refine ⟨sz (by simp), fun q2 H8 hq2 g8 h8 => ?_⟩
          have g68 := (g7 none).trans (g8 none)
          refine ⟨p1, q2, _, _, rfl, rfl, sqT_t ((g6 none).trans g68).tups h5, SqT.of h8, by simp; omega, fun p3 H9 g9 h9 => ?_⟩
          walk_at "ws"
          have g49 := (g46.trans g68).trans (g9 none)
          refine ⟨hb, _, rfl, sqT_t g49.tups hfs, fun p4 HA gA hA => ?_⟩
          rw [cut_from _ (by rw [List.length_map]; omega), ← List.map_drop] at hA
          refine ⟨p3, p4, _, _, rfl, rfl, sqT_t (gA none).tups h9, hA, by simp; omega, fun p5 HB gB hB => ?_⟩
          have g4B := (g49.trans (gA none)).trans (gB none)
          have AB := A4.n g4B
          have lzf : z < fs.length := by omega
          have e10 : (fs.take z).map V.ref ++ [V.ref p2] ++ (fs.drop (z + 1)).map V.ref = (fs.set z p2).map V.ref := by
            rw [List.set_eq_take_append_cons_drop, if_pos lzf, List.map_append, List.map_cons, List.append_assoc]; rfl
          rw [e10] at hB
          have dE : DiaS K HB p5 (ext E z p) := dia_ext lf lzE (fun i b d e1 e2 => sqT_t g4B.tups (hfd i b d e1 e2)) hB (by
            rw [ez, List.map_append]
            exact sqT_t ((((g8 none).trans (g9 none)).trans (gA none)).trans (gB none)).tups h7)
          walk_at "ws"
          refine ⟨SD, seen3, ext E z p, rfl, AB.hN, dia_ii dE, ?_⟩
          have hLB := g4B.all _ _ h4
          by_cases cs : ext E z p ∈ seen3
          · refine ⟨_, rfl, ?_⟩
            refine w_iteN (by rw [decide_eq_true cs]; rfl) ?_
            walk_at "ws"
            refine ⟨_, _, _, _, _, rfl, AB, hLB, cnt, sub, nLW, fun j q hj hq => ?_⟩
            by_cases c : j = i
            · subst c
              rw [hp] at hq
              cases hq
              exact cs
            · exact cov3 j q (by omega) hq
          · refine ⟨_, rfl, ?_⟩
            refine w_iteE (by rw [decide_eq_false cs]; rfl) ?_
            have ls := lenS AB.S
            have lw := lenS (AB.S.more nx zx lzE cs)
            walk_at "ws"
            refine ⟨SD, seen3, ext E z p, rfl, AB.hN, dia_ii dE, cs, Nat.lt_of_le_of_lt ls (by decide), fun u hN' => ?_⟩
            have AC := AB.add hSD0 hWL0 nx zx lzE cs hN' dE
            have hW1 : (upd HB SD u) WL = some (.lst (wbs3.map V.ref)) := by rw [upd_ne AB.sw.symm]; exact AB.hW
            have lwb : wbs3.length = wl3.length := AB.da.1
            have lseen : seen.length ≤ 274625 := few1
            walk_at "ws"
            refine i_BM hW1 ?_
            walk_at "ws"
            refine ⟨WL, _, _, rfl, rfl, hW1, Nat.lt_of_le_of_lt (by rw [List.length_map]; omega : (wbs3.map V.ref).length ≤ 1000000) (by decide), ?_⟩
            walk_at "ws"
            refine ⟨_, _, _, _, _, rfl, AC, ?_, by rw [List.length_append, List.length_append, List.length_singleton]; omega, fun D hD => List.mem_append_left _ (sub D hD), nLW, fun j q hj hq => ?_⟩
            · obtain ⟨φ, eS⟩ := isN_ext AB.hN
              rw [upd_ne nLW, upd_ne (ne_of hLB eS (fun z => nomatch z))]
              exact hLB
            · by_cases c : j = i
              · subst c
                rw [hp] at hq
                cases hq
                exact List.mem_append_right _ (List.mem_singleton.mpr rfl)
              · exact List.mem_append_left _ (cov3 j q (by omega) hq)
        · rintro σ H5 ⟨seen3, wl3, wbs3, u7, u9, rfl, A5, h5, cnt3, sub, _, cov3⟩
          rw [List.length_map] at cov3
          walk_at "ws"
          refine ⟨_, _, _, _, _, _, rfl, A5, cnt3, fun z' p hz' zx' nx => ?_⟩
          by_cases c : z' = z
          · subst c
            obtain ⟨j, hj, e⟩ := List.getElem_of_mem ((mem p).mpr nx)
            exact cov3 j p hj (by rw [← e]; exact List.getElem?_eq_getElem hj)
          · exact sub _ (covz z' p (by omega) zx' nx)
      · have zx : z = x := by
          have : ((z : Nat) : Int) = (x : Int) := by simpa using e
          omega
        walk_at "ws"
        refine ⟨_, _, _, _, _, _, rfl, A4, cnt, fun z' p hz' zx' nx => covz z' p (by omega) zx' nx⟩
    · rintro σ H5 ⟨seen2, wl2, wbs2, u7, u8, u9, rfl, A5, cnt, covz⟩
      walk_at "ws"
      have dn : DoneS W x seen2 ks2 E := ⟨fun z p zx hz nx => covz z p (by omega) zx nx, cov⟩
      have l5 := lenS A5.S
      refine ⟨_, ?_, seen2, wl2, wbs2, kvs2, ks2, _, _, _, _, rfl, A5.g, A5.S.over dn, A5.hF, A5.ek, A5.ndk, A5.fnd, A5.hN, A5.hW, A5.da, by omega, rfl⟩
      rw [List.length_append, List.length_singleton]
      omega

end
end Mine
/-! ## K12 -/


namespace Mine
section
variable {P : Program} {w : World} {K : PySem.W.Frag} {mg : Str → Option Value} {base : Heap} {a : Ads}

/-! ### a web, writers, diaries -/
def sp__law_parts (K : PySem.W.Frag) : Sp := fun vs H Q _ => ∃ (hd c : Addr) (mm mp : Int), vs = [.ref hd, .int mm, .int mp] ∧ Hand H hd c ∧ 1 ≤ mm ∧ mm ≤ 7 ∧ 0 ≤ mp ∧ mp ≤ 30 ∧
  ∀ (p wa vp dt : Addr) (m : Int) (ws : List Int) (ds : List (List Int)) H', G (some (hd, c)) H H' → Hand H' hd c → H' p = some (.tup [.int m, .ref wa, .ref vp, .ref dt]) → SqT K H' vp (ws.map V.int) → Dia K H' dt ds → ds.length = m.toNat → 1 ≤ m → m ≤ mm → IsRec ws ds → ws.length ≤ mp.toNat → ∀ (bs : List Addr) (W : List (Int × Int)), SqT K H' wa (bs.map V.ref) → TupAll H' bs W → IsWeb m W → Q (.ref p) H'
theorem ok__law_parts (T : Txt K mg a) : FnOk P w K mg base CX0 3 a.f__law_parts a.d__law_parts P__law_parts (sp__law_parts K) := by
  refine T.F__law_parts.ok sc__law_parts (fun vs H Q E h => by obtain ⟨hd, c, mm, mp, rfl, _⟩ := h; rfl) (fun cdv A outer s H vs Q E hr h => ?_)
  obtain ⟨hd, c, mm, mp, rfl, hh, mm1, mm7, mp0, mp30, k⟩ := h
  have G__law_draw : FnOk P w K mg base CX0 1 a.f__law_draw a.d__law_draw P__law_draw sp__law_draw := ok__law_draw T
  have G__law_web : FnOk P w K mg base CX0 2 a.f__law_web a.d__law_web P__law_web (sp__law_web K) := ok__law_web T
  have G__law_ran : FnOk P w K mg base CX0 2 a.f__law_ran a.d__law_ran P__law_ran (sp__law_ran K) := ok__law_ran T
  have G__law_bent : FnOk P w K mg base CX0 2 a.f__law_bent a.d__law_bent P__law_bent (sp__law_bent K) := ok__law_bent T
  refine ⟨_, (pss_cons (ps_set (i := 3) sc__law_parts.nd rfl (Or.inr rfl) (pe_op op_add pe_int (pe_call (G__law_draw) (hr.mono (by omega)) rfl T.m__law_draw T.F__law_draw.kp T.b__law_draw .nil pass0 (pa_cons (pv 0) (pa_cons (pv 1) pa_nil)))))
  (pss_cons (ps_set (i := 4) sc__law_parts.nd rfl (Or.inl rfl) (pe_call (G__law_web) (hr.mono (by omega)) rfl T.m__law_web T.F__law_web.kp T.b__law_web .nil pass0 (pa_cons (pv 0) (pa_cons (pv 3) pa_nil))))
  (pss_cons (ps_set (i := 5) sc__law_parts.nd rfl (Or.inl rfl) (pe_callTy call_tupleN (by rfl) T.n_tuple (by decide +kernel) (pa_cons (pe_lc (own := [("_law_put", 8)]) (g := (gName 8)) (tt := tYes) rfl sc__law_parts.nd (pi_range1 rfl T.n_range (pa_cons (pe_call (G__law_draw) (hr.mono (by omega)) rfl T.m__law_draw T.F__law_draw.kp T.b__law_draw .nil pass0 (pa_cons (pv 0) (pa_cons (pe_op op_add (pv 2) pe_int) pa_nil))) pa_nil)) (blkOk_by (N := N__law_parts) (sc := defScope s__law_parts) (by decide +kernel)) (fun _ _ _ _ _ => (pg_name (i := 8) sc__law_parts.nd rfl (by first | exact Or.inl rfl | exact Or.inr rfl))) (fun _ _ _ _ _ => pts_nil) (fun _ _ _ _ _ => (pe_call (G__law_draw) (hr.mono (by omega)) rfl T.m__law_draw T.F__law_draw.kp T.b__law_draw .nil pass0 (pa_cons (pv 0) (pa_cons (pv 3) pa_nil))))) pa_nil)))
  (pss_cons (ps_set (i := 6) sc__law_parts.nd rfl (Or.inl rfl) (pe_ix ix_tup (pe_call (G__law_ran) (hr.mono (by omega)) rfl T.m__law_ran T.F__law_ran.kp T.b__law_ran .nil pass0 (pa_cons (pv 0) (pa_cons (pv 3) (pa_cons (pv 4) (pa_cons (pv 5) (pa_cons (pe_call (G__law_draw) (hr.mono (by omega)) rfl T.m__law_draw T.F__law_draw.kp T.b__law_draw .nil pass0 (pa_cons (pv 0) (pa_cons pe_int pa_nil))) pa_nil)))))) pe_int (fun _ _ => rfl)))
  (pss_cons (ps_for PassesOwn.never rfl (pi_range1 rfl T.n_range (pa_cons (pe_callB (call_max2 rfl) (by rfl) T.n_max (by decide +kernel) (pa_cons pe_int (pa_cons (pe_op op_sub (pe_call (G__law_draw) (hr.mono (by omega)) rfl T.m__law_draw T.F__law_draw.kp T.b__law_draw .nil pass0 (pa_cons (pv 0) (pa_cons pe_int pa_nil))) pe_int) pa_nil))) pa_nil)) (pg_name (i := 7) sc__law_parts.nd rfl (Or.inl rfl))
    (pss_one (ps_set (i := 6) sc__law_parts.nd rfl (Or.inl rfl) (pe_call (G__law_bent) (hr.mono (by omega)) rfl T.m__law_bent T.F__law_bent.kp T.b__law_bent .nil pass0 (pa_cons (pv 0) (pa_cons (pv 5) (pa_cons (pv 6) pa_nil)))))))
  (pss_one (ps_ret (pe_tupN (pa_cons (pv 3) (pa_cons (pv 4) (pa_cons (pv 5) (pa_cons (pv 6) pa_nil)))))))))))), ?_⟩
  walk_at "ws"
  refine ⟨hd, c, mm, rfl, hh, by omega, by omega, fun r H1 r0 r1 g1 hh1 => ?_⟩
  obtain ⟨m, em⟩ : ∃ m : Int, m = 1 + r := ⟨_, rfl⟩
  walk_at "ws"
  rw [← em]
  have m1 : 1 ≤ m := by omega
  have m7 : m ≤ 7 := by omega
  refine ⟨hd, c, m, rfl, hh1, m1, m7, fun wa bs W H2 g2 hh2 hwa tup web => ?_⟩
  walk_at "ws"
  refine ⟨hd, c, _, rfl, hh2, by omega, by omega, fun r2 H3 r20 r21 g3 hh3 => ?_⟩
  have hwa3 := sqT_t g3.tups hwa
  have tup3 := tup.g g3 (fun p e => by cases e; exact hh2)
  walk_at "ws"
  refine i_rng1 (by omega) (by omega) ?_
  intro D hD
  have hh3p : ∀ p, some (hd, c) = some p → Hand H3 p.1 p.2 := fun p e => by cases e; exact hh3
  refine lc_data (K := K) (o := some (hd, c)) walk_range (by omega) hD hh3p (fun i acc _ => ∃ ns : List Int, acc = ns.map PyData.int ∧ (∀ w ∈ ns, 0 ≤ w ∧ w < m) ∧ ns.length ≤ i) (fun _ _ _ _ _ h _ => h) ⟨[], rfl, (fun _ h => nomatch h), Nat.le_refl _⟩ (fun _ _ _ _ _ => trivial) ?_ ?_
  · rintro i _ acc _ H4 hi g4 ⟨ns, rfl, hns, ln⟩ ⟨rfl, rfl⟩ Qy Qn ky kn
    walk_at "ws"
    refine ⟨rfl, ?_⟩
    walk_at "ws"
    refine ⟨hd, c, m, rfl, g4.hand (hd, c) rfl hh3, by omega, by omega, fun w H5 w0 w1 g5 hh5 => ?_⟩
    refine ky _ _ _ g5 (.int w) rfl ⟨ns ++ [w], by rw [List.map_append]; rfl, fun v hv => ?_, by rw [List.length_append, List.length_singleton]; omega⟩
    rcases List.mem_append.mp hv with z | z
    · exact hns v z
    · have e : v = w := by simpa using z
      rw [e]; exact ⟨w0, w1⟩
  rintro _ xs H4 ⟨ws, rfl, hws, lw⟩ g4 hD4 hds _
  obtain rfl := DpAll.of_ints hds
  have hh4 : Hand H4 hd c := g4.hand (hd, c) rfl hh3
  walk_at "ws"
  refine ⟨D, _, rfl, .inl ⟨SqL.of hD4, fun vp H5 hvp g5 h5 => ?_⟩⟩
  have hh5 := (g5 (some (hd, c))).hand _ rfl hh4
  have g35 := g4.trans (g5 _)
  have hwa5 := sqT_t g35.tups hwa3
  have tup5 := tup3.g g35 hh3p
  walk_at "ws"
  refine ⟨hd, c, 40, rfl, hh5, by decide, by decide, fun most H6 s0 s1 g6 hh6 => ?_⟩
  walk_at "ws"
  have hvp6 : SqT K H6 vp (ws.map V.int) := sqT_t g6.tups (SqT.of h5)
  refine ⟨hd, c, m, wa, bs, W, vp, ws, most, rfl, hh6, sqT_t g6.tups hwa5, tup5.g g6 (fun p e => by cases e; exact hh5), web, hvp6, by omega, hws, s0, by omega, fun q dt st ds H7 g7 hh7 hq hdia ld rec => ?_⟩
  refine r_ixT (SqT.of hq) (v := .ref dt) rfl ?_
  have hvp7 := sqT_t g7.tups hvp6
  have hwa7 := sqT_t (g6.trans g7).tups hwa5
  have tup7 := (tup5.g g6 (fun p e => by cases e; exact hh5)).g g7 (fun p e => by cases e; exact hh6)
  have g07 := (((g1.trans g2).trans g3).trans g35).trans (g6.trans g7)
  walk_at "ws"
  refine ⟨hd, c, 4, rfl, hh7, by decide, by decide, fun r3 H8 r30 r31 g8 hh8 => ?_⟩
  walk_at "ws"
  refine ⟨_, _, rfl, ?_⟩
  refine i_rng1 (by split <;> omega) (by split <;> omega) ?_
  refine for_it walk_range (fun i σ H' => ∃ (dt : Addr) (ds : List (List Int)) (u7 u8 : Option V), σ = [some (.ref hd), some (.int mm), some (.int mp), some (.int m), some (.ref wa), some (.ref vp), some (.ref dt), u7, u8] ∧ G (some (hd, c)) H H' ∧ SqT K H' vp (ws.map V.int) ∧ Dia K H' dt ds ∧ ds.length = m.toNat ∧ IsRec ws ds ∧ SqT K H' wa (bs.map V.ref) ∧ TupAll H' bs W) ⟨dt, ds, _, _, rfl, g07.trans g8, sqT_t g8.tups hvp7, hdia.g g8 (fun p e => by cases e; exact hh7), ld, rec, sqT_t g8.tups hwa7, tup7.g g8 (fun p e => by cases e; exact hh7)⟩ (fun _ _ _ _ _ => trivial) ?_ ?_
  · rintro i _ σ _ H9 hi ⟨dt, ds, u7, u8, rfl, g9, hv9, hd9, ld, rec, hwa9, tup9⟩ ⟨rfl, rfl⟩
    walk_at "ws"
    refine ⟨hd, c, vp, dt, ws, ds, rfl, g9.hand (hd, c) rfl hh, hv9, hd9, rec, fun p ds' HA gA hhA hdA recA lA => ?_⟩
    walk_at "ws"
    exact ⟨p, ds', _, _, rfl, g9.trans gA, sqT_t gA.tups hv9, hdA, by omega, recA, sqT_t gA.tups hwa9, tup9.g gA (fun p e => by cases e; exact g9.hand (hd, c) rfl hh)⟩
  · rintro σ H9 ⟨dt, ds, u7, u8, rfl, g9, hv9, hd9, ld, rec, hwa9, tup9⟩
    walk_at "ws"
    refine ⟨sz (by simp), fun q HA hq gA hA => ?_⟩
    exact k q wa vp dt m ws ds HA (g9.trans (gA _)) ((g9.trans (gA _)).hand (hd, c) rfl hh) hA (sqT_t (gA none).tups hv9) (hd9.n (gA none)) ld m1 (by omega) rec (by omega) bs W (sqT_t (gA none).tups hwa9) (tup9.g (gA none) (fun _ e => nomatch e)) web

end
end Mine
/-! ## K30 -/


namespace Mine
section
variable {P : Program} {w : World} {K : PySem.W.Frag} {mg : Str → Option Value} {base : Heap} {a : Ads}

/-! ### _law_told -/
def sp__law_told (K : PySem.W.Frag) (CW CR : Addr) : Sp := fun vs H Q _ => ∃ (x r : Addr) (m : Int) (W : List (Int × Int)) (ws : List Int) (ds : List (List Int)) (p : Nat), vs = [.ref x, .ref r, .int (p : Nat)] ∧ WebAt K CW H x m W ∧ IsWeb m W ∧ RecAt K CR H r ws ds ∧ IsRec ws ds ∧ ds.length = m.toNat ∧ p < ds.length ∧
  (Full W ws ds → ∀ (t : Addr) H', G none H H' → SqT K H' t ((comes W ws.length ds p).map V.int) → Q (.ref t) H') ∧ (¬ Full W ws ds → ∀ H', G none H H' → Q (.str "not made") H')
theorem w_callSD {sp : Sp} {dvs : List V} {E : L2.St → XK} {t : TA} {σ : L2.St} {H : Hp} {Q : VK} (q : t σ H fun vs H1 => sp (vs ++ dvs) H1 Q (E σ)) : tCallSD sp dvs E t σ H Q := q
theorem ok__law_told (T : Txt K mg a) : FnOk P w K mg base CX0 9 a.f__law_told a.d__law_told P__law_told (sp__law_told K a.c_Web a.c_Record) := by
  refine T.F__law_told.ok sc__law_told (fun vs H Q E h => by obtain ⟨x, r, m, W, ws, ds, p, rfl, _⟩ := h; rfl) (fun cdv A outer s H vs Q E hr h => ?_)
  obtain ⟨x, r, m, W, ws, ds, p, rfl, hwb, web, hrr, rec, lm, hp, kY, kN⟩ := h
  have G_may_come : FnOk P w K mg base (L2.CX P w) 8 a.f_may_come a.d_may_come P_may_come (sp_may_come K a.c_Web a.c_Record a.c_NotMade) := ok_may_come T
  refine ⟨_, (pss_cons (ps_set (i := 3) sc__law_told.nd rfl (Or.inl rfl) pe_str)
  (pss_cons (ps_try_as (i := 4) (tb := fun W => tAsg (tCallSD (sp_may_come K a.c_Web a.c_Record a.c_NotMade) [] (WE W) (tCons (tVar 0) (tCons (tVar 1) (tCons (tVar 2) tNil)))) (gName 3)) (Wout := fun _ _ _ _ => False) rfl rfl sc__law_told.nd rfl rfl ⟨rfl, by decide, Or.inl T.m_GrowError⟩ takes0 (fun W pn xe tk _ => (pss_one (ps_set (i := 3) sc__law_told.nd rfl (Or.inl rfl) (pe_callSD G_may_come (hr.mono (by omega)) rfl T.m_may_come T.F_may_come.kp T.b_may_come .nil (fun σ => passAt tk σ) (pa_cons (pv 0) (pa_cons (pv 1) (pa_cons (pv 2) pa_nil))))))) (fun x oe cls d pn hz hf => (pss_one (ps_if (pt_val (pe_callB (call_isN T.xc hz hf) (by rfl) T.n_isinstance (by decide +kernel) (pa_cons (pv 4) (pa_cons (pe_glob (v := .ref a.c_NotMade) rfl T.m_NotMade rfl) pa_nil)))) (pss_one (ps_set (i := 3) sc__law_told.nd rfl (Or.inl rfl) pe_str)) pss_nil))))
  (pss_one (ps_ret (pv 3))))), ?_⟩
  walk_at "ws"
  dsimp only
  walk_at "ws"
  refine w_callSD ?_
  walk_at "ws"
  refine ⟨x, r, m, W, ws, ds, p, rfl, hwb, web, hrr, rec, lm, hp, fun F t H1 g1 ht => ?_, fun F H1 g1 => ?_⟩
  · walk_at "ws"
    exact kY F t H1 g1 ht
  · refine ⟨true, T.xm, fun _ x0 hx0 => ?_, fun q => Bool.noConfusion q⟩
    walk_at "ws"
    refine ⟨rfl, rfl, .ref a.c_NotMade, .ref a.c_NotMade, true, rfl, fun u h => h, T.xs, ?_⟩
    walk_at "ws"
    exact kN F H1 g1

end
end Mine
/-! ## K73 -/


namespace Mine
section
variable {P : Program} {w : World} {K : PySem.W.Frag} {mg : Str → Option Value} {base : Heap} {a : Ads}

/-! ### the law -/
theorem rec_ext {W : List (Int × Int)} {ws : List Int} {D : List (List Int)} {z : Nat} {p : Int} (rec : IsRec ws D) (hz : z < D.length) (nx : NextM W D z p) : IsRec ws (ext D z p) := by
  refine ⟨by rw [ext_len]; exact rec.m1, by rw [ext_len]; exact rec.m7, rec.p30, by rw [ext_len]; exact rec.wr, ext_nd hz nx rec.nd, ext_rng hz nx rec.rng, fun q w d hw hd => ?_⟩
  have wl := rec.wr w (List.mem_of_getElem? hw)
  have lw : w.toNat < D.length := by omega
  have o := rec.own q w _ hw (List.getElem?_eq_getElem lw)
  unfold ext at hd
  rw [List.getElem?_set] at hd
  by_cases c : z = w.toNat
  · rw [if_pos c, if_pos hz] at hd
    cases hd
    refine List.mem_append_left _ ?_
    rw [c, dAt_of (List.getElem?_eq_getElem lw)]
    exact o
  · rw [if_neg c] at hd
    exact rec.own q w d hw hd
theorem rec_mv {W : List (Int × Int)} {ws : List Int} {x : Nat} {ds D : List (List Int)} (m : Mv W x ds D) (rec : IsRec ws ds) : IsRec ws D := by
  induction m with
  | refl => exact rec
  | step _ _ hz nx ih => exact rec_ext ih hz nx
theorem valV_in {kvs : List (Key × V)} {k : Key} (h : k ∈ kvs.map (·.1)) : ∃ v, valV kvs k = some v ∧ (k, v) ∈ kvs := by
  induction kvs with
  | nil => cases h
  | cons q r ih =>
    by_cases c : q.1 = k
    · exact ⟨q.2, valV_pos c, by rw [← c]; exact List.mem_cons_self ..⟩
    · rcases List.mem_cons.mp h with e | e
      · exact absurd e.symm c
      · obtain ⟨v, h1, h2⟩ := ih e
        exact ⟨v, by rw [valV_neg c]; exact h1, List.mem_cons_of_mem _ h2⟩
theorem comes_asc (W : List (Int × Int)) (P : Nat) (ds : List (List Int)) (x : Nat) : (comes W P ds x).Pairwise (· < ·) := by
  unfold comes
  refine List.Pairwise.sublist List.filter_sublist (List.pairwise_map.mpr ?_)
  exact List.Pairwise.imp (fun {a b} h => by omega) (List.pairwise_lt_range (n := P))
theorem comes_mem {W : List (Int × Int)} {P : Nat} {ds : List (List Int)} {x : Nat} (rng : ∀ d ∈ ds, ∀ p ∈ d, 0 ≤ p ∧ p < (P : Int)) (p : Int) : p ∈ comes W P ds x ↔ p ∉ dAt ds x ∧ CanC W ds x p := by
  unfold comes
  rw [List.mem_filter]
  simp only [decide_eq_true_eq]
  constructor
  · exact fun h => h.2
  · intro h
    refine ⟨?_, h⟩
    obtain ⟨y, _, hy⟩ := h.2
    have := rng _ (dAt_mem hy) p hy
    exact List.mem_map.mpr ⟨p.toNat, List.mem_range.mpr (by omega), by omega⟩
theorem asc_eqN {l l' : List Int} (h : l.Pairwise (· < ·)) (nd' : l'.Nodup) (h' : l'.Pairwise (· ≤ ·)) (m : ∀ z, z ∈ l ↔ z ∈ l') : l = l' := by
  have n : l.Nodup := h.imp fun {a b} q e => by omega
  have a2 : l'.Pairwise (· < ·) := List.Pairwise.imp (fun {a b} q => by have h1 := q.1; have h2 := q.2; omega) (h'.and nd')
  exact ((List.perm_ext_iff_of_nodup n nd').mpr m).eq_of_pairwise (fun a b _ _ h1 h2 => by omega) h a2
def spLaw (K : PySem.W.Frag) : Sp := fun vs H Q _ => ∃ (s : Addr) (ns : List Int), vs = [.ref s] ∧ SqL K H s (ns.map V.int) ∧ ns.length ≤ 63 ∧ ∀ H', Q (.bl true) H'
theorem ok_law (T : Txt K mg a) : FnOk P w K mg base CX0 11 a.f_law a.d_law P_law (spLaw K) := by
  refine T.F_law.ok sc_law (fun vs H Q E h => by obtain ⟨s, ns, rfl, _⟩ := h; rfl) (fun cdv A outer s0 H vs Q E hr h => ?_)
  obtain ⟨s, ns, rfl, hs, hl, k⟩ := h
  have G__law_hand : FnOk P w K mg base CX0 1 a.f__law_hand a.d__law_hand P__law_hand (sp__law_hand K) := ok__law_hand T
  have G__law_draw : FnOk P w K mg base CX0 1 a.f__law_draw a.d__law_draw P__law_draw sp__law_draw := ok__law_draw T
  have G__law_parts : FnOk P w K mg base CX0 3 a.f__law_parts a.d__law_parts P__law_parts (sp__law_parts K) := ok__law_parts T
  have G_Web_init : FnOk P w K mg base CX0 7 a.f_Web_init a.d_Web_init P_Web_init (sp_Web_init K a.c_Web) := ok_Web_init T
  have G_Record_init : FnOk P w K mg base CX0 7 a.f_Record_init a.d_Record_init P_Record_init (sp_Record_init K a.c_Record) := ok_Record_init T
  have G__law_can : FnOk P w K mg base CX0 2 a.f__law_can a.d__law_can P__law_can (sp__law_can K) := ok__law_can T
  have G__law_all_next : FnOk P w K mg base CX0 2 a.f__law_all_next a.d__law_all_next P__law_all_next (sp__law_all_next P w K) := ok__law_all_next T
  have G__law_told : FnOk P w K mg base CX0 9 a.f__law_told a.d__law_told P__law_told (sp__law_told K a.c_Web a.c_Record) := ok__law_told T
  have G__law_is : FnOk P w K mg base CX0 3 a.f__law_is a.d__law_is P__law_is (sp__law_is K 2) := ok__law_is T 2
  refine ⟨_, (pss_cons (ps_set (i := 1) sc_law.nd rfl (Or.inl rfl) (pe_call (G__law_hand) (hr.mono (by omega)) rfl T.m__law_hand T.F__law_hand.kp T.b__law_hand .nil pass0 (pa_cons (pv 0) pa_nil)))
  (pss_cons (ps_for PassesOwn.never rfl (pi_range1 rfl T.n_range (pa_cons pe_int pa_nil)) (pg_name (i := 2) sc_law.nd rfl (Or.inl rfl))
    (pss_cons (ps_asg (pe_call (G__law_parts) (hr.mono (by omega)) rfl T.m__law_parts T.F__law_parts.kp T.b__law_parts .nil pass0 (pa_cons (pv 1) (pa_cons pe_int (pa_cons (pe_ix ix_list (pe_lstN (pa_cons pe_int (pa_cons pe_int pa_nil))) (pe_callTy call_int1 (by rfl) T.n_int (by decide +kernel) (pa_cons (pe_cmpR op_gt (pv 2) pe_int (nomark _)) pa_nil)) (fun _ _ => rfl)) pa_nil)))) (pg_tup rfl (pgs_cons (pg_name (i := 3) sc_law.nd rfl (Or.inr rfl)) (pgs_cons (pg_name (i := 4) sc_law.nd rfl (Or.inr rfl)) (pgs_cons (pg_name (i := 5) sc_law.nd rfl (Or.inr rfl)) (pgs_cons (pg_name (i := 6) sc_law.nd rfl (Or.inl rfl)) pgs_nil))))))
  (pss_cons (ps_if (L2.PW.pt (pw_or (L2.PW.pt (pw_and (pt_cmpR op_gt (pv 3) pe_int (nomark _)) (pw_and1 (pt_cmpR op_gt (pe_callB call_len_seq (by rfl) T.n_len (by decide +kernel) (pa_cons (pv 5) pa_nil)) pe_int (nomark _))))) (pw_or1 (L2.PW.pt (pw_and (pt_cmpR op_gt (pv 3) pe_int (nomark _)) (pw_and (pt_cmpR op_gt (pe_callB call_len_seq (by rfl) T.n_len (by decide +kernel) (pa_cons (pv 5) pa_nil)) pe_int (nomark _)) (pw_and1 (pt_cmpR op_gt (pe_call (G__law_draw) (hr.mono (by omega)) rfl T.m__law_draw T.F__law_draw.kp T.b__law_draw .nil pass0 (pa_cons (pv 1) (pa_cons pe_int pa_nil))) pe_int (nomark _)))))))))
    (pss_one (ps_asg (pe_call (G__law_parts) (hr.mono (by omega)) rfl T.m__law_parts T.F__law_parts.kp T.b__law_parts .nil pass0 (pa_cons (pv 1) (pa_cons pe_int (pa_cons pe_int pa_nil)))) (pg_tup rfl (pgs_cons (pg_name (i := 3) sc_law.nd rfl (Or.inr rfl)) (pgs_cons (pg_name (i := 4) sc_law.nd rfl (Or.inr rfl)) (pgs_cons (pg_name (i := 5) sc_law.nd rfl (Or.inr rfl)) (pgs_cons (pg_name (i := 6) sc_law.nd rfl (Or.inl rfl)) pgs_nil)))))))
    pss_nil)
  (pss_cons (ps_set (i := 7) sc_law.nd rfl (Or.inl rfl) (pe_listRgN rfl (by rfl) T.n_list (prg_1 (by rfl) T.n_range (pv 3)) (mo_rg1 mo_var)))
  (pss_cons (ps_if (L2.PW.pt (pw_and (pt_cmpR op_eq (pv 2) pe_int (nomark _)) (pw_and1 (pt_cmpR op_eq (pe_call (G__law_draw) (hr.mono (by omega)) rfl T.m__law_draw T.F__law_draw.kp T.b__law_draw .nil pass0 (pa_cons (pv 1) (pa_cons pe_int pa_nil))) pe_int (nomark _)))))
    (pss_cons (ps_asg (pe_call (G__law_parts) (hr.mono (by omega)) rfl T.m__law_parts T.F__law_parts.kp T.b__law_parts .nil pass0 (pa_cons (pv 1) (pa_cons pe_int (pa_cons pe_int pa_nil)))) (pg_tup rfl (pgs_cons (pg_name (i := 3) sc_law.nd rfl (Or.inr rfl)) (pgs_cons (pg_name (i := 4) sc_law.nd rfl (Or.inr rfl)) (pgs_cons (pg_name (i := 5) sc_law.nd rfl (Or.inr rfl)) (pgs_cons (pg_name (i := 6) sc_law.nd rfl (Or.inl rfl)) pgs_nil))))))
  (pss_one (ps_set (i := 7) sc_law.nd rfl (Or.inl rfl) (pe_lstN (pa_cons (pe_call (G__law_draw) (hr.mono (by omega)) rfl T.m__law_draw T.F__law_draw.kp T.b__law_draw .nil pass0 (pa_cons (pv 1) (pa_cons (pv 3) pa_nil))) pa_nil)))))
    pss_nil)
  (pss_cons (ps_set (i := 8) sc_law.nd rfl (Or.inl rfl) (pe_make T.K_Web (G_Web_init) (hr.mono (by omega)) rfl T.m_Web T.b_Web_init .nil pass0 (pa_cons (pv 3) (pa_cons (pv 4) pa_nil))))
  (pss_cons (ps_set (i := 9) sc_law.nd rfl (Or.inl rfl) (pe_make T.K_Record (G_Record_init) (hr.mono (by omega)) rfl T.m_Record T.b_Record_init .nil pass0 (pa_cons (pv 5) (pa_cons (pv 6) pa_nil))))
  (pss_cons (ps_set (i := 10) sc_law.nd rfl (Or.inl rfl) (pe_call (G__law_can) (hr.mono (by omega)) rfl T.m__law_can T.F__law_can.kp T.b__law_can .nil pass0 (pa_cons (pv 3) (pa_cons (pv 4) (pa_cons (pv 5) (pa_cons (pv 6) pa_nil))))))
  (pss_one (ps_for PassesOwn.never rfl (pi_list (pv 7)) (pg_name (i := 11) sc_law.nd rfl (Or.inl rfl))
    (pss_cons (ps_set (i := 12) sc_law.nd rfl (Or.inl rfl) pe_str)
  (pss_cons (ps_if (pt_val (pv 10))
    (pss_cons (ps_set (i := 13) sc_law.nd rfl (Or.inr rfl) (pe_call (G__law_all_next) (hr.mono (by omega)) rfl T.m__law_all_next T.F__law_all_next.kp T.b__law_all_next .nil pass0 (pa_cons (pv 4) (pa_cons (pv 6) (pa_cons (pv 11) pa_nil)))))
  (pss_cons (ps_set (i := 12) sc_law.nd rfl (Or.inl rfl) (pe_callTy call_tupleN (by rfl) T.n_tuple (by decide +kernel) (pa_cons (pe_callB cr_sortedI (by rfl) T.n_sorted (by decide +kernel) (pa_cons (pe_callTy (call_list_dK rfl) (by rfl) T.n_list (by decide +kernel) (pa_cons (pv 13) pa_nil)) pa_nil)) pa_nil)))
  (pss_one (ps_if (pt_not (pt_val (pe_callB (cr_all rfl) (by rfl) T.n_all (by decide +kernel) (pa_cons (pe_lc (own := [("_law_put", 14)]) (g := (gName 14)) (tt := tYes) rfl sc_law.nd (pi_tup (pv 12)) (blkOk_by (N := N_law) (sc := defScope s_law) (by decide +kernel)) (fun _ _ _ _ _ => (pg_name (i := 14) sc_law.nd rfl (by first | exact Or.inl rfl | exact Or.inr rfl))) (fun _ _ _ _ _ => pts_nil) (fun _ _ _ _ _ => (pe_call (G__law_can) (hr.mono (by omega)) rfl T.m__law_can T.F__law_can.kp T.b__law_can .nil pass0 (pa_cons (pv 3) (pa_cons (pv 4) (pa_cons (pv 5) (pa_cons (pe_dget (hu_of hr) (pv 13) (pv 14) (by first | exact fun _ _ => rfl | rfl | decide)) pa_nil))))))) pa_nil))))
    (pss_one (ps_ret pe_bl))
    pss_nil))))
    pss_nil)
  (pss_one (ps_if (pt_not (pt_val (pe_call (G__law_is) (hr.mono (by omega)) rfl T.m__law_is T.F__law_is.kp T.b__law_is .nil pass0 (pa_cons (pe_call (G__law_told) (hr.mono (by omega)) rfl T.m__law_told T.F__law_told.kp T.b__law_told .nil pass0 (pa_cons (pv 8) (pa_cons (pv 9) (pa_cons (pv 11) pa_nil)))) (pa_cons (pv 12) pa_nil)))))
    (pss_one (ps_ret pe_bl))
    pss_nil))))))))))))))
  (pss_one (ps_ret pe_bl)))), ?_⟩
  walk_at "ws"
  refine ⟨s, ns, rfl, hs, hl, fun hd c H1 g1 hh1 => ?_⟩
  walk_at "ws"
  refine i_rng1 (by decide) (by decide) ?_
  refine for_it walk_range (fun i σ H' => Hand H' hd c ∧ ∃ u2 u3 u4 u5 u6 u7 u8 u9 u10 u11 u12 u13 u14, σ = [some (.ref s), some (.ref hd), u2, u3, u4, u5, u6, u7, u8, u9, u10, u11, u12, u13, u14]) ⟨hh1, _, _, _, _, _, _, _, _, _, _, _, _, _, rfl⟩ (fun _ _ _ _ _ => trivial) ?_ ?_
  · rintro turn _ σ _ H2 ht ⟨hh2, u2, u3, u4, u5, u6, u7, u8, u9, u10, u11, u12, u13, u14, rfl⟩ ⟨rfl, rfl⟩
    show gName 2 (.int (0 + (turn : Int))) _ _ _
    rw [Int.zero_add]
    walk_at "ws"
    refine ⟨sz (by simp), fun l4 H4 hl4 g4 h4 => ?_⟩
    have hh4 := (g4 none).up.hand (hd, c) rfl hh2
    walk_at "ws"
    refine .inr ⟨_, rfl, ?_⟩
    obtain ⟨b, eb⟩ : ∃ b, b = decide ((0 : Int) < (turn : Int)) := ⟨_, rfl⟩
    obtain ⟨mp, emp, q0, q1⟩ : ∃ mp : Int, atI [V.int 4, V.int 3] (if b = true then 1 else 0) = some (.int mp) ∧ 0 < mp ∧ mp ≤ 4 := by
      cases b
      · exact ⟨4, rfl, by decide, by decide⟩
      · exact ⟨3, rfl, by decide, by decide⟩
    rw [eb] at emp
    refine r_ixL (SqL.of h4) emp ?_
    walk_at "ws"
    refine ⟨hd, c, 4, mp, rfl, hh4, by decide, by decide, by omega, by omega, fun p0 wa vp dp m ws ds H3 g3 hh3 hp hv hdia ld m1 mm rec lw bs W hwa tup web => ?_⟩
    refine ⟨p0, _, rfl, SqT.of hp, rfl, ?_⟩
    refine ⟨_, _, rfl, ?_⟩
    walk_at "wn"
    refine ⟨_, _, rfl, ?_⟩
    walk_at "wn"
    refine ⟨_, _, rfl, ?_⟩
    walk_at "wn"
    refine ⟨_, _, rfl, ?_⟩
    walk_at "wn"
    refine ⟨rfl, ?_⟩
    try dsimp only
    obtain ⟨n, rfl⟩ : ∃ n : Nat, m = (n : Int) := ⟨m.toNat, by omega⟩
    refine w_seqM (fun σ H' => ∃ (n : Nat) (wa vp dp : Addr) (bs : List Addr) (W : List (Int × Int)) (ws : List Int) (ds : List (List Int)) (u7 u8 u9 u10 u11 u12 u13 u14 : Option V), σ = [some (.ref s), some (.ref hd), some (.int (turn : Nat)), some (.int (n : Int)), some (.ref wa), some (.ref vp), some (.ref dp), u7, u8, u9, u10, u11, u12, u13, u14] ∧ Hand H' hd c ∧ SqT K H' wa (bs.map V.ref) ∧ TupAll H' bs W ∧ IsWeb (n : Int) W ∧ SqT K H' vp (ws.map V.int) ∧ Dia K H' dp ds ∧ ds.length = n ∧ IsRec ws ds ∧ ((ds.length ≤ 4 ∧ ws.length ≤ 4) ∨ (ds.length ≤ 6 ∧ ws.length ≤ 2))) (fun N1 kN1 => ?_) ?_
    · have hh3p : ∀ p, some (hd, c) = some p → Hand H3 p.1 p.2 := fun p e => by cases e; exact hh3
      refine w_ifM (fun b H' => G (some (hd, c)) H3 H') (fun N2 kN2 => ?_) ?_
      · walk_at "ws"
        refine w_ite (fun e1 => ?_) (fun e1 => ?_)
        · walk_at "ws"
          refine ⟨vp, _, rfl, .inr hv, ?_⟩
          walk_at "ws"
          rw [List.length_map]
          refine w_ite (fun e2 => ?_) (fun e2 => ?_)
          · try (rw [if_pos e2])
            exact kN2 _ _ G.refl
          · walk_at "ws"
            refine w_ite (fun e3 => ?_) (fun e3 => ?_)
            · walk_at "ws"
              refine ⟨vp, _, rfl, .inr hv, ?_⟩
              walk_at "ws"
              rw [List.length_map]
              refine w_ite (fun e4 => ?_) (fun e4 => ?_)
              · walk_at "ws"
                refine ⟨hd, c, 4, rfl, hh3, by decide, by decide, fun r H4 r0 r1 g4 hh4 => ?_⟩
                walk_at "ws"
                exact kN2 _ _ g4
              · exact kN2 _ _ G.refl
            · exact kN2 _ _ G.refl
        · rw [if_neg Bool.false_ne_true]
          walk_at "ws"
          refine w_ite (fun e3 => ?_) (fun e3 => ?_)
          · walk_at "ws"
            refine ⟨vp, _, rfl, .inr hv, ?_⟩
            walk_at "ws"
            rw [List.length_map]
            refine w_ite (fun e4 => ?_) (fun e4 => ?_)
            · walk_at "ws"
              refine ⟨hd, c, 4, rfl, hh3, by decide, by decide, fun r H4 r0 r1 g4 hh4 => ?_⟩
              walk_at "ws"
              exact kN2 _ _ g4
            · exact kN2 _ _ G.refl
          · exact kN2 _ _ G.refl
      · intro b2 H5 g5
        have hh5 : Hand H5 hd c := g5.hand (hd, c) rfl hh3
        refine w_ite (fun e => ?_) (fun e => ?_)
        · walk_at "ws"
          refine ⟨hd, c, 3, 3, rfl, hh5, by decide, by decide, by omega, by omega, fun p0 wa vp dp m ws ds H3 g3 hh3 hp hv hdia ld m1 mm rec lw bs W hwa tup web => ?_⟩
          refine ⟨p0, _, rfl, SqT.of hp, rfl, ?_⟩
          refine ⟨_, _, rfl, ?_⟩
          walk_at "ws"
          refine ⟨_, _, rfl, ?_⟩
          walk_at "ws"
          refine ⟨_, _, rfl, ?_⟩
          walk_at "ws"
          refine ⟨_, _, rfl, ?_⟩
          walk_at "ws"
          refine ⟨rfl, ?_⟩
          walk_at "ws"
          obtain ⟨n, rfl⟩ : ∃ n : Nat, m = (n : Int) := ⟨m.toNat, by omega⟩
          exact kN1 _ _ ⟨n, wa, vp, dp, bs, W, ws, ds, _, _, _, _, _, _, _, _, rfl, hh3, hwa, tup, web, hv, hdia, by omega, rec, .inl (by omega)⟩
        · walk_at "ws"
          exact kN1 _ _ ⟨n, wa, vp, dp, bs, W, ws, ds, _, _, _, _, _, _, _, _, rfl, hh5, sqT_t g5.tups hwa, tup.g g5 hh3p, web, sqT_t g5.tups hv, hdia.g g5 hh3p, by omega, rec, .inl (by omega)⟩
    · clear hwa tup web hv hdia rec ld lw mm hp g3 hh3 emp eb h4 g4 hh4 hl4
      rintro σ H3 ⟨n, wa, vp, dp, bs, W, ws, ds, u7, u8, u9, u10, u11, u12, u13, u14, rfl, hh3, hwa, tup, web, hv, hdia, ld, rec, few⟩
      have n1 := web.lo
      have n7 := web.hi
      walk_at "wn"
      try dsimp only
      refine w_seq ?_
      walk_at "wn"
      refine w_lstRg (w_rg1 ?_)
      walk_at "wn"
      refine ⟨RgOk.of_le (by decide) (by omega) (by decide) (by omega), fun L H4 hL g4 h4 => ?_⟩
      have e1 : rgV 0 (n : Int) = (List.range n).map fun (z : Nat) => V.int (z : Int) := by
        unfold rgV
        rw [Int.sub_zero, Int.toNat_natCast]
        refine List.map_congr_left fun i _ => ?_
        show V.int (0 + ((i : Nat) : Int)) = V.int ((i : Nat) : Int)
        rw [Int.zero_add]
      rw [e1] at h4
      have g34 := g4 none
      have hh4 : Hand H4 hd c := g34.up.hand (hd, c) rfl hh3
      have nLh : L ≠ hd := hh3.ne hL
      have hwa4 := sqT_t g34.tups hwa
      have tup4 := tup.g g34 (fun _ e => nomatch e)
      have hv4 := sqT_t g34.tups hv
      have hdia4 := hdia.n g34
      clear hwa tup hv hdia g34 g4 hL hh3
      walk_at "wn"
      try dsimp only
      refine w_seqM (fun σ H' => ∃ (n : Nat) (wa vp dp : Addr) (bs : List Addr) (W : List (Int × Int)) (ws : List Int) (ds : List (List Int)) (L : Addr) (zs : List Nat) (u8 u9 u10 u11 u12 u13 u14 : Option V), σ = [some (.ref s), some (.ref hd), some (.int (turn : Nat)), some (.int (n : Int)), some (.ref wa), some (.ref vp), some (.ref dp), some (.ref L), u8, u9, u10, u11, u12, u13, u14] ∧ Hand H' hd c ∧ SqT K H' wa (bs.map V.ref) ∧ TupAll H' bs W ∧ IsWeb (n : Int) W ∧ SqT K H' vp (ws.map V.int) ∧ Dia K H' dp ds ∧ ds.length = n ∧ IsRec ws ds ∧ ((ds.length ≤ 4 ∧ ws.length ≤ 4) ∨ (ds.length ≤ 6 ∧ ws.length ≤ 2)) ∧ H' L = some (.lst (zs.map fun (z : Nat) => V.int (z : Int))) ∧ ∀ z ∈ zs, z < n) (fun N1 kN1 => ?_) ?_
      · refine w_ifM (fun b H' => G (some (hd, c)) H4 H' ∧ H' L = some (.lst ((List.range n).map fun (z : Nat) => V.int (z : Int)))) (fun N2 kN2 => ?_) ?_
        · walk_at "ws"
          refine w_ite (fun e => ?_) (fun e => ?_)
          · walk_at "ws"
            refine ⟨hd, c, 4, rfl, hh4, by decide, by decide, fun r H5 r0 r1 g5 hh5 => ?_⟩
            walk_at "ws"
            exact kN2 _ _ ⟨g5, g5.keep L _ (fun p e => by cases e; exact nLh) h4⟩
          · exact kN2 _ _ ⟨G.refl, h4⟩
        · rintro b2 H5 ⟨g5, h5⟩
          have hh5 : Hand H5 hd c := g5.hand (hd, c) rfl hh4
          have hh4p : ∀ p, some (hd, c) = some p → Hand H4 p.1 p.2 := fun p e => by cases e; exact hh4
          refine w_ite (fun e => ?_) (fun e => ?_)
          · walk_at "ws"
            refine ⟨hd, c, 6, 2, rfl, hh5, by decide, by decide, by omega, by omega, fun p0 wa vp dp m ws ds H3 g3 hh3 hp hv hdia ld m1 mm rec lw bs W hwa tup web => ?_⟩
            refine ⟨p0, _, rfl, SqT.of hp, rfl, ?_⟩
            refine ⟨_, _, rfl, ?_⟩
            walk_at "ws"
            refine ⟨_, _, rfl, ?_⟩
            walk_at "ws"
            refine ⟨_, _, rfl, ?_⟩
            walk_at "ws"
            refine ⟨_, _, rfl, ?_⟩
            walk_at "ws"
            refine ⟨rfl, ?_⟩
            walk_at "ws"
            have hh3p : ∀ p, some (hd, c) = some p → Hand H3 p.1 p.2 := fun p e => by cases e; exact hh3
            refine ⟨hd, c, m, rfl, hh3, by omega, by omega, fun r H6 r0 r1 g6 hh6 => ?_⟩
            walk_at "ws"
            refine ⟨sz (by simp), fun L2 H7 hL2 g7 h7 => ?_⟩
            walk_at "ws"
            obtain ⟨n, rfl⟩ : ∃ n : Nat, m = (n : Int) := ⟨m.toNat, by omega⟩
            have g67 := g6.trans (g7 (some (hd, c)))
            exact kN1 _ _ ⟨n, wa, vp, dp, bs, W, ws, ds, L2, [r.toNat], _, _, _, _, _, _, _, rfl, g67.hand (hd, c) rfl hh3, sqT_t g67.tups hwa, tup.g g67 hh3p, web, sqT_t g67.tups hv, hdia.g g67 hh3p, by omega, rec, .inr (by omega), by rw [h7, List.map_cons, List.map_nil, show ((r.toNat : Nat) : Int) = r from by omega], fun z hz => by
              have := List.mem_singleton.mp hz
              omega⟩
          · walk_at "ws"
            exact kN1 _ _ ⟨n, wa, vp, dp, bs, W, ws, ds, L, List.range n, _, _, _, _, _, _, _, rfl, hh5, sqT_t g5.tups hwa4, tup4.g g5 hh4p, web, sqT_t g5.tups hv4, hdia4.g g5 hh4p, ld, rec, few, h5, fun z hz => List.mem_range.mp hz⟩
      · clear h4 hh4 hwa4 tup4 hv4 hdia4 e1 web rec few ld n1 n7
        rintro σ H3 ⟨n, wa, vp, dp, bs, W, ws, ds, L, zs, u8, u9, u10, u11, u12, u13, u14, rfl, hh3, hwa, tup, web, hv, hdia, ld, rec, few, hL, hz⟩
        have n1 := web.lo
        have n7 := web.hi
        have wN : ∀ u ∈ W, u.1 ≠ u.2 := fun u hu => (web.mem u hu).2.2
        have wW : ∀ u ∈ W, (0 ≤ u.1 ∧ u.1 < (ds.length : Int)) ∧ (0 ≤ u.2 ∧ u.2 < (ds.length : Int)) := fun u hu => by
          have q := web.mem u hu
          rw [ld]
          exact ⟨q.1, q.2.1⟩
        have wW0 : ∀ u ∈ W, 0 ≤ u.1 ∧ 0 ≤ u.2 := fun u hu => ⟨(wW u hu).1.1, (wW u hu).2.1⟩
        walk_at "ws"
        refine web_new (ws := W) (.tup hwa (tupAll_dp (p := wa) tup)) web fun x H4 hx g4 hxw => ?_
        have hv4 := sqT_t (g4 none).tups hv
        walk_at "ws"
        refine rec_new hv4 (hdia.n (g4 none)) rec fun r H5 hr5 g5 hrr => ?_
        have g35 := (g4 none).trans (g5 none)
        have hwb5 := hxw.n (g5 none)
        have hwa5 := sqT_t g35.tups hwa
        have tup5 := tup.g g35 (fun _ e => nomatch e)
        have hv5 := sqT_t g35.tups hv
        have hdia5 := hdia.n g35
        have hL5 := g35.all _ _ hL
        have hh5 := g35.up.hand (hd, c) rfl hh3
        walk_at "ws"
        refine ⟨(n : Int), wa, vp, dp, bs, W, ws, ds, rfl, hwa5, tup5, web, hv5, hdia5.s, rec, by omega, fun b H6 g6 hb => ?_⟩
        walk_at "ws"
        refine i_list (SqL.of (g6.all _ _ hL5)) ?_
        refine for_it (walk_list (xs := zs.map fun (z : Nat) => V.int (z : Int))) (fun i σ H' => G none H5 H' ∧ ∃ (u11 u12 u13 u14 : Option V), σ = [some (.ref s), some (.ref hd), some (.int (turn : Nat)), some (.int (n : Int)), some (.ref wa), some (.ref vp), some (.ref dp), some (.ref L), some (.ref x), some (.ref r), some (.bl b), u11, u12, u13, u14]) ⟨g6, _, _, _, _, rfl⟩ (fun i σ H' _ q => SqL.of (q.1.all _ _ hL5)) ?_ ?_
        · rintro i v σ _ H7 hi ⟨g7, u11, u12, u13, u14, rfl⟩ ⟨rfl, hvz⟩
          rw [List.getElem?_map] at hvz
          obtain ⟨z, hz1, rfl⟩ := Option.map_eq_some_iff.mp hvz
          have lz : z < ds.length := by rw [ld]; exact hz z (List.mem_of_getElem? hz1)
          show gName 11 (.int (z : Int)) _ _ _
          walk_at "wn"
          try dsimp only
          refine w_seq ?_
          walk_at "wn"
          try dsimp only
          refine w_seqM (fun σ H' => ∃ (due : V) (u13 u14 : Option V), σ = [some (.ref s), some (.ref hd), some (.int (turn : Nat)), some (.int (n : Int)), some (.ref wa), some (.ref vp), some (.ref dp), some (.ref L), some (.ref x), some (.ref r), some (.bl b), some (.int (z : Int)), some due, u13, u14] ∧ G none H7 H' ∧ ((Full W ws ds ∧ ∃ q, due = .ref q ∧ SqT K H' q ((comes W ws.length ds z).map V.int)) ∨ (¬ Full W ws ds ∧ due = .str "not made"))) (fun N kN => ?_) ?_
          · cases b with
            | false =>
              have nF : ¬ Full W ws ds := fun F => nomatch hb.mpr F
              walk_at "ws"
              try (refine w_iteN rfl ?_)
              walk_at "ws"
              exact kN _ _ ⟨_, _, _, rfl, G.refl, .inr ⟨nF, rfl⟩⟩
            | true =>
              have F := hb.mp rfl
              walk_at "ws"
              try (refine w_iteE rfl ?_)
              walk_at "ws"
              have wa7 := sqT_t g7.tups hwa5
              have tup7 := tup5.g g7 (fun _ e => nomatch e)
              have hv7 := sqT_t g7.tups hv5
              have hd7 := hdia5.s.t g7.tups
              refine ⟨(n : Int), wa, dp, bs, W, ws, ds, z, rfl, wa7, tup7, web, hd7, by omega, lz, rec, few, fun FF kvs ks H8 hFF g8 h8 ek ndk mem fnd => ?_⟩
              have mem2 : ∀ p, p ∈ comes W ws.length ds z ↔ p ∈ ks := fun p => by rw [comes_mem rec.rng, mem, come_iff wW wN]
              have lks : ks.length ≤ 30 := by
                have := List.Nodup.length_le_of_subset (l₂ := (List.range 30).map fun (i : Nat) => (i : Int)) ndk fun p hp => by
                  obtain ⟨D, m, u, _, _, h1, _⟩ := (mem p).mp hp
                  have := m.rng rec.rng _ (dAt_mem h1) p h1
                  have := rec.p30
                  exact List.mem_map.mpr ⟨p.toNat, List.mem_range.mpr (by omega), by omega⟩
                rw [List.length_map, List.length_range] at this
                exact this
              walk_at "ws"
              refine ⟨FF, kvs, rfl, h8, fun q hq => ?_⟩
              have gq : G none H8 (upd H8 q (.lst (kvs.map fun kv => kV kv.1))) := G.alloc hq
              have ekq : (kvs.map fun kv => kV kv.1) = ks.map V.int := by
                have := congrArg (List.map kV) ek
                rw [List.map_map, List.map_map] at this
                exact this
              rw [ekq] at gq ⊢
              have h9 : (upd H8 q (.lst (ks.map V.int))) q = some (.lst (ks.map V.int)) := upd_same
              generalize upd H8 q (.lst (ks.map V.int)) = H9 at gq h9 ⊢
              walk_at "ws"
              refine ⟨q, ks, rfl, SqL.of h9, fun ns' p2 pm srt hp2 => ?_⟩
              have gp : G none H9 (upd H9 p2 (.lst (ns'.map V.int))) := G.alloc hp2
              have hA : (upd H9 p2 (.lst (ns'.map V.int))) p2 = some (.lst (ns'.map V.int)) := upd_same
              generalize upd H9 p2 (.lst (ns'.map V.int)) = HA at gp hA ⊢
              walk_at "ws"
              refine ⟨p2, _, rfl, .inl ⟨SqL.of hA, fun t HB ht gB hB => ?_⟩⟩
              have en : comes W ws.length ds z = ns' := asc_eqN (comes_asc ..) (pm.nodup_iff.mpr ndk) srt fun p => by rw [mem2, pm.mem_iff]
              have g8B := gq.trans (gp.trans (gB none))
              have g7B := g8.trans g8B
              have h8B := g8B.all _ _ h8
              have fndB := fnd.t g8B.tups
              have lns : ns'.length ≤ 30 := by rw [pm.length_eq]; exact lks
              walk_at "ws"
              refine i_tup (SqT.of hB) ?_
              intro D hD
              refine lc_it (walk_tup (xs := ns'.map V.int)) (fun j H' => G none HB H' ∧ BlA H' D j (fun _ => True)) ⟨(G.refl).mut hD (fun _ e => nomatch e), .nil⟩ (fun j H' _ q => sqT_t q.1.tups (SqT.of hB)) ?_ ?_
              · rintro j v _ HC hj ⟨gC, bl⟩ ⟨rfl, hvp⟩
                rw [List.length_map] at hj
                rw [List.getElem?_map] at hvp
                obtain ⟨p, hp, rfl⟩ := Option.map_eq_some_iff.mp hvp
                have pk : p ∈ ks := pm.mem_iff.mp (List.mem_of_getElem? hp)
                obtain ⟨vv, hv1, hv2⟩ := valV_in (kvs := kvs) (k := (Sum.inl p : Key)) (by rw [ek]; exact List.mem_map_of_mem pk)
                obtain ⟨p', bb, DD, e, mv, nx, hdd⟩ := fndB _ hv2
                cases e
                have lz2 : z < DD.length := by rw [mv.len]; exact lz
                have recE := rec_ext (rec_mv mv rec) lz2 nx
                have FE := full_ext wN wW0 lz2 (mv.full wN wW0 F) nx
                have g7C := g7B.trans gC
                walk_at "ws"
                refine ⟨rfl, ?_⟩
                walk_at "ws"
                show tVar 13 _ _ _
                walk_at "ws"
                refine ⟨FF, .ref bb, rfl, by have := DGet.k (k := Sum.inl p) (gC.all _ _ h8B); rw [hv1] at this; exact this, ?_⟩
                walk_at "ws"
                refine ⟨(n : Int), wa, vp, bb, bs, W, ws, ext DD z p, rfl, sqT_t g7C.tups wa7, tup7.g g7C (fun _ e => nomatch e), web, sqT_t g7C.tups hv7, hdd.t gC.tups, recE, by rw [ext_len, mv.len]; omega, fun b4 HE gE hb4 => ?_⟩
                obtain ⟨acc, r1, r2, r3⟩ := (bl.n gE).app (c := b4) ⟨fun _ => trivial, fun _ => hb4.mpr FE⟩ (by omega)
                exact ⟨acc, r1, r2, (gC.trans gE).mut hD (fun _ e => nomatch e), r3⟩
              rintro HC ⟨gC, bl⟩
              obtain ⟨cs, c1, c2⟩ := bl.fin (K := K)
              walk_at "ws"
              refine ⟨D, cs, rfl, c1, ?_⟩
              rw [show cs.all id = true from c2.mpr fun _ _ => trivial]
              walk_at "ws"
              try (refine w_iteN rfl ?_)
              walk_at "ws"
              exact kN _ _ ⟨_, _, _, rfl, g7B.trans gC, .inl ⟨F, t, rfl, by rw [en]; exact sqT_t gC.tups (SqT.of hB)⟩⟩
          · rintro σ H8 ⟨due, u13, u14, rfl, g8, hdue⟩
            have g58 := g7.trans g8
            walk_at "ws"
            refine ⟨x, r, (n : Int), W, ws, ds, z, rfl, hwb5.n g58, web, hrr.n g58, rec, by omega, lz, fun F t H9 g9 h9 => ?_, fun F H9 g9 => ?_⟩
            · rcases hdue with ⟨_, q, rfl, hq⟩ | ⟨nF, _⟩
              · walk_at "ws"
                refine ⟨.ref t, .ref q, dI (comes W ws.length ds z), rfl, ?_, dp_ofI h9, dp_ofI (sqT_t g9.tups hq), fun HA gA => ?_⟩
                · refine .inr ⟨(comes W ws.length ds z).map PyData.int, .inl rfl, ?_, fun e he => ?_⟩
                  · rw [List.length_map]
                    unfold comes
                    refine Nat.le_trans (List.length_filter_le _ _) ?_
                    rw [List.length_map, List.length_range]
                    have := rec.p30
                    omega
                  · obtain ⟨i, _, rfl⟩ := List.mem_map.mp he
                    exact .inl trivial
                walk_at "ws"
                try (refine w_iteN rfl ?_)
                walk_at "ws"
                exact ⟨g58.trans (g9.trans gA), _, _, _, _, rfl⟩
              · exact absurd F nF
            · rcases hdue with ⟨F2, _⟩ | ⟨nF, rfl⟩
              · exact absurd F2 F
              · walk_at "ws"
                refine ⟨.str "not made", .str "not made", .str "not made", rfl, ?_, .str _, .str _, fun HA gA => ?_⟩
                · exact .inl (show PyData.strOk _ = true from by decide +kernel)
                walk_at "ws"
                try (refine w_iteN rfl ?_)
                walk_at "ws"
                exact ⟨g58.trans (g9.trans gA), _, _, _, _, rfl⟩
        · rintro σ H7 ⟨g7, u11, u12, u13, u14, rfl⟩
          walk_at "ws"
          exact ⟨g7.up.hand (hd, c) rfl hh5, _, _, _, _, _, _, _, _, _, _, _, _, _, rfl⟩
  · rintro σ H2 ⟨hh2, u2, u3, u4, u5, u6, u7, u8, u9, u10, u11, u12, u13, u14, rfl⟩
    walk_at "ws"
    exact k _

end
end Mine
/-! ## KN -/
end
namespace Mine
open PySem L2 GA
/-- what the head finds on the heap is what the proofs lean on -/
theorem all_mk {l : PySem.W.OpenLaw} {w : World} {K : PySem.W.Frag} {h : Heap} {mg : Str → Option Value} {fa : Addr} (X : K.In h) (G : h.Ns mainGlobals mg) (hfa : mg "law" = some (.ref fa))
    {ff_NotMade_init : Addr} {od_NotMade_init an_NotMade_init : Option Addr} {sl_NotMade_init : Array (Option Value)} {oc_NotMade_init kV_NotMade_init dc_NotMade_init pm_NotMade_init cd_NotMade_init ct_NotMade_init : Value}
    {ff_is_integer : Addr} {od_is_integer an_is_integer : Option Addr} {sl_is_integer : Array (Option Value)} {oc_is_integer kV_is_integer dc_is_integer pm_is_integer cd_is_integer ct_is_integer : Value}
    {ff_is_between : Addr} {od_is_between an_is_between : Option Addr} {sl_is_between : Array (Option Value)} {oc_is_between kV_is_between dc_is_between pm_is_between cd_is_between ct_is_between : Value}
    {ff_is_below : Addr} {od_is_below an_is_below : Option Addr} {sl_is_below : Array (Option Value)} {oc_is_below kV_is_below dc_is_below pm_is_below cd_is_below ct_is_below : Value}
    {ff_is_tuple_of : Addr} {od_is_tuple_of an_is_tuple_of : Option Addr} {sl_is_tuple_of : Array (Option Value)} {oc_is_tuple_of kV_is_tuple_of dc_is_tuple_of pm_is_tuple_of cd_is_tuple_of ct_is_tuple_of : Value}
    {ff_are_below : Addr} {od_are_below an_are_below : Option Addr} {sl_are_below : Array (Option Value)} {oc_are_below kV_are_below dc_are_below pm_are_below cd_are_below ct_are_below : Value}
    {ff_is_unlike_pair : Addr} {od_is_unlike_pair an_is_unlike_pair : Option Addr} {sl_is_unlike_pair : Array (Option Value)} {oc_is_unlike_pair kV_is_unlike_pair dc_is_unlike_pair pm_is_unlike_pair cd_is_unlike_pair ct_is_unlike_pair : Value}
    {ff_Web_init : Addr} {od_Web_init an_Web_init : Option Addr} {sl_Web_init : Array (Option Value)} {oc_Web_init kV_Web_init dc_Web_init pm_Web_init cd_Web_init ct_Web_init : Value}
    {ff_Web_eq : Addr} {od_Web_eq an_Web_eq : Option Addr} {sl_Web_eq : Array (Option Value)} {oc_Web_eq kV_Web_eq dc_Web_eq pm_Web_eq cd_Web_eq ct_Web_eq : Value}
    {ff_first_wrong_wire : Addr} {od_first_wrong_wire an_first_wrong_wire : Option Addr} {sl_first_wrong_wire : Array (Option Value)} {oc_first_wrong_wire kV_first_wrong_wire dc_first_wrong_wire pm_first_wrong_wire cd_first_wrong_wire ct_first_wrong_wire : Value}
    {ff_ways_from : Addr} {od_ways_from an_ways_from : Option Addr} {sl_ways_from : Array (Option Value)} {oc_ways_from kV_ways_from dc_ways_from pm_ways_from cd_ways_from ct_ways_from : Value}
    {ff_check_machine : Addr} {od_check_machine an_check_machine : Option Addr} {sl_check_machine : Array (Option Value)} {oc_check_machine kV_check_machine dc_check_machine pm_check_machine cd_check_machine ct_check_machine : Value}
    {ff_Record_init : Addr} {od_Record_init an_Record_init : Option Addr} {sl_Record_init : Array (Option Value)} {oc_Record_init kV_Record_init dc_Record_init pm_Record_init cd_Record_init ct_Record_init : Value}
    {ff_Record_eq : Addr} {od_Record_eq an_Record_eq : Option Addr} {sl_Record_eq : Array (Option Value)} {oc_Record_eq kV_Record_eq dc_Record_eq pm_Record_eq cd_Record_eq ct_Record_eq : Value}
    {ff_check_record : Addr} {od_check_record an_check_record : Option Addr} {sl_check_record : Array (Option Value)} {oc_check_record kV_check_record dc_check_record pm_check_record cd_check_record ct_check_record : Value}
    {ff_is_diary : Addr} {od_is_diary an_is_diary : Option Addr} {sl_is_diary : Array (Option Value)} {oc_is_diary kV_is_diary dc_is_diary pm_is_diary cd_is_diary ct_is_diary : Value}
    {ff_check_machines : Addr} {od_check_machines an_check_machines : Option Addr} {sl_check_machines : Array (Option Value)} {oc_check_machines kV_check_machines dc_check_machines pm_check_machines cd_check_machines ct_check_machines : Value}
    {ff_places_in : Addr} {od_places_in an_places_in : Option Addr} {sl_places_in : Array (Option Value)} {oc_places_in kV_places_in dc_places_in pm_places_in cd_places_in ct_places_in : Value}
    {ff_grown_over : Addr} {od_grown_over an_grown_over : Option Addr} {sl_grown_over : Array (Option Value)} {oc_grown_over kV_grown_over dc_grown_over pm_grown_over cd_grown_over ct_grown_over : Value}
    {ff_wires_by_put : Addr} {od_wires_by_put an_wires_by_put : Option Addr} {sl_wires_by_put : Array (Option Value)} {oc_wires_by_put kV_wires_by_put dc_wires_by_put pm_wires_by_put cd_wires_by_put ct_wires_by_put : Value}
    {ff_holders_by_put : Addr} {od_holders_by_put an_holders_by_put : Option Addr} {sl_holders_by_put : Array (Option Value)} {oc_holders_by_put kV_holders_by_put dc_holders_by_put pm_holders_by_put cd_holders_by_put ct_holders_by_put : Value}
    {ff_bar : Addr} {od_bar an_bar : Option Addr} {sl_bar : Array (Option Value)} {oc_bar kV_bar dc_bar pm_bar cd_bar ct_bar : Value}
    {ff_is_made : Addr} {od_is_made an_is_made : Option Addr} {sl_is_made : Array (Option Value)} {oc_is_made kV_is_made dc_is_made pm_is_made cd_is_made ct_is_made : Value}
    {ff_check_made : Addr} {od_check_made an_check_made : Option Addr} {sl_check_made : Array (Option Value)} {oc_check_made kV_check_made dc_check_made pm_check_made cd_check_made ct_check_made : Value}
    {ff_may_come : Addr} {od_may_come an_may_come : Option Addr} {sl_may_come : Array (Option Value)} {oc_may_come kV_may_come dc_may_come pm_may_come cd_may_come ct_may_come : Value}
    {ff_can_come : Addr} {od_can_come an_can_come : Option Addr} {sl_can_come : Array (Option Value)} {oc_can_come kV_can_come dc_can_come pm_can_come cd_can_come ct_can_come : Value}
    {ff_before : Addr} {od_before an_before : Option Addr} {sl_before : Array (Option Value)} {oc_before kV_before dc_before pm_before cd_before ct_before : Value}
    {ff__law_hand : Addr} {od__law_hand an__law_hand : Option Addr} {sl__law_hand : Array (Option Value)} {oc__law_hand kV__law_hand dc__law_hand pm__law_hand cd__law_hand ct__law_hand : Value}
    {ff__law_draw : Addr} {od__law_draw an__law_draw : Option Addr} {sl__law_draw : Array (Option Value)} {oc__law_draw kV__law_draw dc__law_draw pm__law_draw cd__law_draw ct__law_draw : Value}
    {ff__law_is : Addr} {od__law_is an__law_is : Option Addr} {sl__law_is : Array (Option Value)} {oc__law_is kV__law_is dc__law_is pm__law_is cd__law_is ct__law_is : Value}
    {ff__law_web : Addr} {od__law_web an__law_web : Option Addr} {sl__law_web : Array (Option Value)} {oc__law_web kV__law_web dc__law_web pm__law_web cd__law_web ct__law_web : Value}
    {ff__law_ran : Addr} {od__law_ran an__law_ran : Option Addr} {sl__law_ran : Array (Option Value)} {oc__law_ran kV__law_ran dc__law_ran pm__law_ran cd__law_ran ct__law_ran : Value}
    {ff__law_come : Addr} {od__law_come an__law_come : Option Addr} {sl__law_come : Array (Option Value)} {oc__law_come kV__law_come dc__law_come pm__law_come cd__law_come ct__law_come : Value}
    {ff__law_can : Addr} {od__law_can an__law_can : Option Addr} {sl__law_can : Array (Option Value)} {oc__law_can kV__law_can dc__law_can pm__law_can cd__law_can ct__law_can : Value}
    {ff__law_bent : Addr} {od__law_bent an__law_bent : Option Addr} {sl__law_bent : Array (Option Value)} {oc__law_bent kV__law_bent dc__law_bent pm__law_bent cd__law_bent ct__law_bent : Value}
    {ff__law_parts : Addr} {od__law_parts an__law_parts : Option Addr} {sl__law_parts : Array (Option Value)} {oc__law_parts kV__law_parts dc__law_parts pm__law_parts cd__law_parts ct__law_parts : Value}
    {ff__law_told : Addr} {od__law_told an__law_told : Option Addr} {sl__law_told : Array (Option Value)} {oc__law_told kV__law_told dc__law_told pm__law_told cd__law_told ct__law_told : Value}
    {ff__law_next : Addr} {od__law_next an__law_next : Option Addr} {sl__law_next : Array (Option Value)} {oc__law_next kV__law_next dc__law_next pm__law_next cd__law_next ct__law_next : Value}
    {ff__law_all_next : Addr} {od__law_all_next an__law_all_next : Option Addr} {sl__law_all_next : Array (Option Value)} {oc__law_all_next kV__law_all_next dc__law_all_next pm__law_all_next cd__law_all_next ct__law_all_next : Value}
    {ff_law : Addr} {od_law an_law : Option Addr} {sl_law : Array (Option Value)} {oc_law kV_law dc_law pm_law cd_law ct_law : Value}
    {C_GrowError : Addr}
    {C_NotMade : Addr}
    {C_Web : Addr}
    {C_Record : Addr}
    {xnm xq : Str} {xN : Addr} {xbs : List Value} {xsn : List Str} {xsub : List Value} {xab : Bool} {xcol : Option Bool} {xdd : Option Addr} {x0 x1 x2 x3 x5 : Option Value}
    {tk_MOST_MACHINES : Tok}
    {tk_MOST_PUTS : Tok}
    (aC_GrowError : PySem.W.nsIn K mainGlobals "GrowError" = some (some (.ref C_GrowError)))
    (aC_NotMade : PySem.W.nsIn K mainGlobals "NotMade" = some (some (.ref C_NotMade)))
    (aC_Web : PySem.W.nsIn K mainGlobals "Web" = some (some (.ref C_Web)))
    (aC_Record : PySem.W.nsIn K mainGlobals "Record" = some (some (.ref C_Record)))
    (a_NotMade_init : PySem.W.findIn K (.ref C_NotMade) "__init__" = some (some (.ref ff_NotMade_init)))
    (i_NotMade_init : PySem.W.isFn K (.ref ff_NotMade_init) = true)
    (l_NotMade_init : K.lookup ff_NotMade_init = some ⟨oc_NotMade_init, od_NotMade_init, .func (PySem.W.fnOf "__init__" "NotMade.__init__" (defArgs s_NotMade_init) (defBody s_NotMade_init) (defScope s_NotMade_init) .none kV_NotMade_init dc_NotMade_init pm_NotMade_init an_NotMade_init cd_NotMade_init ct_NotMade_init), sl_NotMade_init⟩)
    (c_NotMade_init : PySem.W.codeIn K cd_NotMade_init "NotMade.__init__" = true)
    (k_NotMade_init : PySem.W.keepIn K (.ref ff_NotMade_init) = true)
    (a_is_integer : PySem.W.nsIn K mainGlobals "is_integer" = some (some (.ref ff_is_integer)))
    (l_is_integer : K.lookup ff_is_integer = some ⟨oc_is_integer, od_is_integer, .func (PySem.W.fnOf "is_integer" "is_integer" (defArgs s_is_integer) (defBody s_is_integer) (defScope s_is_integer) .none kV_is_integer dc_is_integer pm_is_integer an_is_integer cd_is_integer ct_is_integer), sl_is_integer⟩)
    (c_is_integer : PySem.W.codeIn K cd_is_integer "is_integer" = true)
    (k_is_integer : PySem.W.keepIn K (.ref ff_is_integer) = true)
    (a_is_between : PySem.W.nsIn K mainGlobals "is_between" = some (some (.ref ff_is_between)))
    (l_is_between : K.lookup ff_is_between = some ⟨oc_is_between, od_is_between, .func (PySem.W.fnOf "is_between" "is_between" (defArgs s_is_between) (defBody s_is_between) (defScope s_is_between) .none kV_is_between dc_is_between pm_is_between an_is_between cd_is_between ct_is_between), sl_is_between⟩)
    (c_is_between : PySem.W.codeIn K cd_is_between "is_between" = true)
    (k_is_between : PySem.W.keepIn K (.ref ff_is_between) = true)
    (a_is_below : PySem.W.nsIn K mainGlobals "is_below" = some (some (.ref ff_is_below)))
    (l_is_below : K.lookup ff_is_below = some ⟨oc_is_below, od_is_below, .func (PySem.W.fnOf "is_below" "is_below" (defArgs s_is_below) (defBody s_is_below) (defScope s_is_below) .none kV_is_below dc_is_below pm_is_below an_is_below cd_is_below ct_is_below), sl_is_below⟩)
    (c_is_below : PySem.W.codeIn K cd_is_below "is_below" = true)
    (k_is_below : PySem.W.keepIn K (.ref ff_is_below) = true)
    (a_is_tuple_of : PySem.W.nsIn K mainGlobals "is_tuple_of" = some (some (.ref ff_is_tuple_of)))
    (l_is_tuple_of : K.lookup ff_is_tuple_of = some ⟨oc_is_tuple_of, od_is_tuple_of, .func (PySem.W.fnOf "is_tuple_of" "is_tuple_of" (defArgs s_is_tuple_of) (defBody s_is_tuple_of) (defScope s_is_tuple_of) .none kV_is_tuple_of dc_is_tuple_of pm_is_tuple_of an_is_tuple_of cd_is_tuple_of ct_is_tuple_of), sl_is_tuple_of⟩)
    (c_is_tuple_of : PySem.W.codeIn K cd_is_tuple_of "is_tuple_of" = true)
    (k_is_tuple_of : PySem.W.keepIn K (.ref ff_is_tuple_of) = true)
    (a_are_below : PySem.W.nsIn K mainGlobals "are_below" = some (some (.ref ff_are_below)))
    (l_are_below : K.lookup ff_are_below = some ⟨oc_are_below, od_are_below, .func (PySem.W.fnOf "are_below" "are_below" (defArgs s_are_below) (defBody s_are_below) (defScope s_are_below) .none kV_are_below dc_are_below pm_are_below an_are_below cd_are_below ct_are_below), sl_are_below⟩)
    (c_are_below : PySem.W.codeIn K cd_are_below "are_below" = true)
    (k_are_below : PySem.W.keepIn K (.ref ff_are_below) = true)
    (a_is_unlike_pair : PySem.W.nsIn K mainGlobals "is_unlike_pair" = some (some (.ref ff_is_unlike_pair)))
    (l_is_unlike_pair : K.lookup ff_is_unlike_pair = some ⟨oc_is_unlike_pair, od_is_unlike_pair, .func (PySem.W.fnOf "is_unlike_pair" "is_unlike_pair" (defArgs s_is_unlike_pair) (defBody s_is_unlike_pair) (defScope s_is_unlike_pair) .none kV_is_unlike_pair dc_is_unlike_pair pm_is_unlike_pair an_is_unlike_pair cd_is_unlike_pair ct_is_unlike_pair), sl_is_unlike_pair⟩)
    (c_is_unlike_pair : PySem.W.codeIn K cd_is_unlike_pair "is_unlike_pair" = true)
    (k_is_unlike_pair : PySem.W.keepIn K (.ref ff_is_unlike_pair) = true)
    (a_Web_init : PySem.W.findIn K (.ref C_Web) "__init__" = some (some (.ref ff_Web_init)))
    (i_Web_init : PySem.W.isFn K (.ref ff_Web_init) = true)
    (l_Web_init : K.lookup ff_Web_init = some ⟨oc_Web_init, od_Web_init, .func (PySem.W.fnOf "__init__" "Web.__init__" (defArgs s_Web_init) (defBody s_Web_init) (defScope s_Web_init) .none kV_Web_init dc_Web_init pm_Web_init an_Web_init cd_Web_init ct_Web_init), sl_Web_init⟩)
    (c_Web_init : PySem.W.codeIn K cd_Web_init "Web.__init__" = true)
    (k_Web_init : PySem.W.keepIn K (.ref ff_Web_init) = true)
    (a_Web_eq : PySem.W.findIn K (.ref C_Web) "__eq__" = some (some (.ref ff_Web_eq)))
    (i_Web_eq : PySem.W.isFn K (.ref ff_Web_eq) = true)
    (l_Web_eq : K.lookup ff_Web_eq = some ⟨oc_Web_eq, od_Web_eq, .func (PySem.W.fnOf "__eq__" "Web.__eq__" (defArgs s_Web_eq) (defBody s_Web_eq) (defScope s_Web_eq) .none kV_Web_eq dc_Web_eq pm_Web_eq an_Web_eq cd_Web_eq ct_Web_eq), sl_Web_eq⟩)
    (c_Web_eq : PySem.W.codeIn K cd_Web_eq "Web.__eq__" = true)
    (k_Web_eq : PySem.W.keepIn K (.ref ff_Web_eq) = true)
    (a_first_wrong_wire : PySem.W.nsIn K mainGlobals "first_wrong_wire" = some (some (.ref ff_first_wrong_wire)))
    (l_first_wrong_wire : K.lookup ff_first_wrong_wire = some ⟨oc_first_wrong_wire, od_first_wrong_wire, .func (PySem.W.fnOf "first_wrong_wire" "first_wrong_wire" (defArgs s_first_wrong_wire) (defBody s_first_wrong_wire) (defScope s_first_wrong_wire) .none kV_first_wrong_wire dc_first_wrong_wire pm_first_wrong_wire an_first_wrong_wire cd_first_wrong_wire ct_first_wrong_wire), sl_first_wrong_wire⟩)
    (c_first_wrong_wire : PySem.W.codeIn K cd_first_wrong_wire "first_wrong_wire" = true)
    (k_first_wrong_wire : PySem.W.keepIn K (.ref ff_first_wrong_wire) = true)
    (a_ways_from : PySem.W.nsIn K mainGlobals "ways_from" = some (some (.ref ff_ways_from)))
    (l_ways_from : K.lookup ff_ways_from = some ⟨oc_ways_from, od_ways_from, .func (PySem.W.fnOf "ways_from" "ways_from" (defArgs s_ways_from) (defBody s_ways_from) (defScope s_ways_from) .none kV_ways_from dc_ways_from pm_ways_from an_ways_from cd_ways_from ct_ways_from), sl_ways_from⟩)
    (c_ways_from : PySem.W.codeIn K cd_ways_from "ways_from" = true)
    (k_ways_from : PySem.W.keepIn K (.ref ff_ways_from) = true)
    (a_check_machine : PySem.W.nsIn K mainGlobals "check_machine" = some (some (.ref ff_check_machine)))
    (l_check_machine : K.lookup ff_check_machine = some ⟨oc_check_machine, od_check_machine, .func (PySem.W.fnOf "check_machine" "check_machine" (defArgs s_check_machine) (defBody s_check_machine) (defScope s_check_machine) .none kV_check_machine dc_check_machine pm_check_machine an_check_machine cd_check_machine ct_check_machine), sl_check_machine⟩)
    (c_check_machine : PySem.W.codeIn K cd_check_machine "check_machine" = true)
    (k_check_machine : PySem.W.keepIn K (.ref ff_check_machine) = true)
    (a_Record_init : PySem.W.findIn K (.ref C_Record) "__init__" = some (some (.ref ff_Record_init)))
    (i_Record_init : PySem.W.isFn K (.ref ff_Record_init) = true)
    (l_Record_init : K.lookup ff_Record_init = some ⟨oc_Record_init, od_Record_init, .func (PySem.W.fnOf "__init__" "Record.__init__" (defArgs s_Record_init) (defBody s_Record_init) (defScope s_Record_init) .none kV_Record_init dc_Record_init pm_Record_init an_Record_init cd_Record_init ct_Record_init), sl_Record_init⟩)
    (c_Record_init : PySem.W.codeIn K cd_Record_init "Record.__init__" = true)
    (k_Record_init : PySem.W.keepIn K (.ref ff_Record_init) = true)
    (a_Record_eq : PySem.W.findIn K (.ref C_Record) "__eq__" = some (some (.ref ff_Record_eq)))
    (i_Record_eq : PySem.W.isFn K (.ref ff_Record_eq) = true)
    (l_Record_eq : K.lookup ff_Record_eq = some ⟨oc_Record_eq, od_Record_eq, .func (PySem.W.fnOf "__eq__" "Record.__eq__" (defArgs s_Record_eq) (defBody s_Record_eq) (defScope s_Record_eq) .none kV_Record_eq dc_Record_eq pm_Record_eq an_Record_eq cd_Record_eq ct_Record_eq), sl_Record_eq⟩)
    (c_Record_eq : PySem.W.codeIn K cd_Record_eq "Record.__eq__" = true)
    (k_Record_eq : PySem.W.keepIn K (.ref ff_Record_eq) = true)
    (a_check_record : PySem.W.nsIn K mainGlobals "check_record" = some (some (.ref ff_check_record)))
    (l_check_record : K.lookup ff_check_record = some ⟨oc_check_record, od_check_record, .func (PySem.W.fnOf "check_record" "check_record" (defArgs s_check_record) (defBody s_check_record) (defScope s_check_record) .none kV_check_record dc_check_record pm_check_record an_check_record cd_check_record ct_check_record), sl_check_record⟩)
    (c_check_record : PySem.W.codeIn K cd_check_record "check_record" = true)
    (k_check_record : PySem.W.keepIn K (.ref ff_check_record) = true)
    (a_is_diary : PySem.W.nsIn K mainGlobals "is_diary" = some (some (.ref ff_is_diary)))
    (l_is_diary : K.lookup ff_is_diary = some ⟨oc_is_diary, od_is_diary, .func (PySem.W.fnOf "is_diary" "is_diary" (defArgs s_is_diary) (defBody s_is_diary) (defScope s_is_diary) .none kV_is_diary dc_is_diary pm_is_diary an_is_diary cd_is_diary ct_is_diary), sl_is_diary⟩)
    (c_is_diary : PySem.W.codeIn K cd_is_diary "is_diary" = true)
    (k_is_diary : PySem.W.keepIn K (.ref ff_is_diary) = true)
    (a_check_machines : PySem.W.nsIn K mainGlobals "check_machines" = some (some (.ref ff_check_machines)))
    (l_check_machines : K.lookup ff_check_machines = some ⟨oc_check_machines, od_check_machines, .func (PySem.W.fnOf "check_machines" "check_machines" (defArgs s_check_machines) (defBody s_check_machines) (defScope s_check_machines) .none kV_check_machines dc_check_machines pm_check_machines an_check_machines cd_check_machines ct_check_machines), sl_check_machines⟩)
    (c_check_machines : PySem.W.codeIn K cd_check_machines "check_machines" = true)
    (k_check_machines : PySem.W.keepIn K (.ref ff_check_machines) = true)
    (a_places_in : PySem.W.nsIn K mainGlobals "places_in" = some (some (.ref ff_places_in)))
    (l_places_in : K.lookup ff_places_in = some ⟨oc_places_in, od_places_in, .func (PySem.W.fnOf "places_in" "places_in" (defArgs s_places_in) (defBody s_places_in) (defScope s_places_in) .none kV_places_in dc_places_in pm_places_in an_places_in cd_places_in ct_places_in), sl_places_in⟩)
    (c_places_in : PySem.W.codeIn K cd_places_in "places_in" = true)
    (k_places_in : PySem.W.keepIn K (.ref ff_places_in) = true)
    (a_grown_over : PySem.W.nsIn K mainGlobals "grown_over" = some (some (.ref ff_grown_over)))
    (l_grown_over : K.lookup ff_grown_over = some ⟨oc_grown_over, od_grown_over, .func (PySem.W.fnOf "grown_over" "grown_over" (defArgs s_grown_over) (defBody s_grown_over) (defScope s_grown_over) .none kV_grown_over dc_grown_over pm_grown_over an_grown_over cd_grown_over ct_grown_over), sl_grown_over⟩)
    (c_grown_over : PySem.W.codeIn K cd_grown_over "grown_over" = true)
    (k_grown_over : PySem.W.keepIn K (.ref ff_grown_over) = true)
    (a_wires_by_put : PySem.W.nsIn K mainGlobals "wires_by_put" = some (some (.ref ff_wires_by_put)))
    (l_wires_by_put : K.lookup ff_wires_by_put = some ⟨oc_wires_by_put, od_wires_by_put, .func (PySem.W.fnOf "wires_by_put" "wires_by_put" (defArgs s_wires_by_put) (defBody s_wires_by_put) (defScope s_wires_by_put) .none kV_wires_by_put dc_wires_by_put pm_wires_by_put an_wires_by_put cd_wires_by_put ct_wires_by_put), sl_wires_by_put⟩)
    (c_wires_by_put : PySem.W.codeIn K cd_wires_by_put "wires_by_put" = true)
    (k_wires_by_put : PySem.W.keepIn K (.ref ff_wires_by_put) = true)
    (a_holders_by_put : PySem.W.nsIn K mainGlobals "holders_by_put" = some (some (.ref ff_holders_by_put)))
    (l_holders_by_put : K.lookup ff_holders_by_put = some ⟨oc_holders_by_put, od_holders_by_put, .func (PySem.W.fnOf "holders_by_put" "holders_by_put" (defArgs s_holders_by_put) (defBody s_holders_by_put) (defScope s_holders_by_put) .none kV_holders_by_put dc_holders_by_put pm_holders_by_put an_holders_by_put cd_holders_by_put ct_holders_by_put), sl_holders_by_put⟩)
    (c_holders_by_put : PySem.W.codeIn K cd_holders_by_put "holders_by_put" = true)
    (k_holders_by_put : PySem.W.keepIn K (.ref ff_holders_by_put) = true)
    (a_bar : PySem.W.nsIn K mainGlobals "bar" = some (some (.ref ff_bar)))
    (l_bar : K.lookup ff_bar = some ⟨oc_bar, od_bar, .func (PySem.W.fnOf "bar" "bar" (defArgs s_bar) (defBody s_bar) (defScope s_bar) .none kV_bar dc_bar pm_bar an_bar cd_bar ct_bar), sl_bar⟩)
    (c_bar : PySem.W.codeIn K cd_bar "bar" = true)
    (k_bar : PySem.W.keepIn K (.ref ff_bar) = true)
    (a_is_made : PySem.W.nsIn K mainGlobals "is_made" = some (some (.ref ff_is_made)))
    (l_is_made : K.lookup ff_is_made = some ⟨oc_is_made, od_is_made, .func (PySem.W.fnOf "is_made" "is_made" (defArgs s_is_made) (defBody s_is_made) (defScope s_is_made) .none kV_is_made dc_is_made pm_is_made an_is_made cd_is_made ct_is_made), sl_is_made⟩)
    (c_is_made : PySem.W.codeIn K cd_is_made "is_made" = true)
    (k_is_made : PySem.W.keepIn K (.ref ff_is_made) = true)
    (a_check_made : PySem.W.nsIn K mainGlobals "check_made" = some (some (.ref ff_check_made)))
    (l_check_made : K.lookup ff_check_made = some ⟨oc_check_made, od_check_made, .func (PySem.W.fnOf "check_made" "check_made" (defArgs s_check_made) (defBody s_check_made) (defScope s_check_made) .none kV_check_made dc_check_made pm_check_made an_check_made cd_check_made ct_check_made), sl_check_made⟩)
    (c_check_made : PySem.W.codeIn K cd_check_made "check_made" = true)
    (k_check_made : PySem.W.keepIn K (.ref ff_check_made) = true)
    (a_may_come : PySem.W.nsIn K mainGlobals "may_come" = some (some (.ref ff_may_come)))
    (l_may_come : K.lookup ff_may_come = some ⟨oc_may_come, od_may_come, .func (PySem.W.fnOf "may_come" "may_come" (defArgs s_may_come) (defBody s_may_come) (defScope s_may_come) .none kV_may_come dc_may_come pm_may_come an_may_come cd_may_come ct_may_come), sl_may_come⟩)
    (c_may_come : PySem.W.codeIn K cd_may_come "may_come" = true)
    (k_may_come : PySem.W.keepIn K (.ref ff_may_come) = true)
    (a_can_come : PySem.W.nsIn K mainGlobals "can_come" = some (some (.ref ff_can_come)))
    (l_can_come : K.lookup ff_can_come = some ⟨oc_can_come, od_can_come, .func (PySem.W.fnOf "can_come" "can_come" (defArgs s_can_come) (defBody s_can_come) (defScope s_can_come) .none kV_can_come dc_can_come pm_can_come an_can_come cd_can_come ct_can_come), sl_can_come⟩)
    (c_can_come : PySem.W.codeIn K cd_can_come "can_come" = true)
    (k_can_come : PySem.W.keepIn K (.ref ff_can_come) = true)
    (a_before : PySem.W.nsIn K mainGlobals "before" = some (some (.ref ff_before)))
    (l_before : K.lookup ff_before = some ⟨oc_before, od_before, .func (PySem.W.fnOf "before" "before" (defArgs s_before) (defBody s_before) (defScope s_before) .none kV_before dc_before pm_before an_before cd_before ct_before), sl_before⟩)
    (c_before : PySem.W.codeIn K cd_before "before" = true)
    (k_before : PySem.W.keepIn K (.ref ff_before) = true)
    (a__law_hand : PySem.W.nsIn K mainGlobals "_law_hand" = some (some (.ref ff__law_hand)))
    (l__law_hand : K.lookup ff__law_hand = some ⟨oc__law_hand, od__law_hand, .func (PySem.W.fnOf "_law_hand" "_law_hand" (defArgs s__law_hand) (defBody s__law_hand) (defScope s__law_hand) .none kV__law_hand dc__law_hand pm__law_hand an__law_hand cd__law_hand ct__law_hand), sl__law_hand⟩)
    (c__law_hand : PySem.W.codeIn K cd__law_hand "_law_hand" = true)
    (k__law_hand : PySem.W.keepIn K (.ref ff__law_hand) = true)
    (a__law_draw : PySem.W.nsIn K mainGlobals "_law_draw" = some (some (.ref ff__law_draw)))
    (l__law_draw : K.lookup ff__law_draw = some ⟨oc__law_draw, od__law_draw, .func (PySem.W.fnOf "_law_draw" "_law_draw" (defArgs s__law_draw) (defBody s__law_draw) (defScope s__law_draw) .none kV__law_draw dc__law_draw pm__law_draw an__law_draw cd__law_draw ct__law_draw), sl__law_draw⟩)
    (c__law_draw : PySem.W.codeIn K cd__law_draw "_law_draw" = true)
    (k__law_draw : PySem.W.keepIn K (.ref ff__law_draw) = true)
    (a__law_is : PySem.W.nsIn K mainGlobals "_law_is" = some (some (.ref ff__law_is)))
    (l__law_is : K.lookup ff__law_is = some ⟨oc__law_is, od__law_is, .func (PySem.W.fnOf "_law_is" "_law_is" (defArgs s__law_is) (defBody s__law_is) (defScope s__law_is) .none kV__law_is dc__law_is pm__law_is an__law_is cd__law_is ct__law_is), sl__law_is⟩)
    (c__law_is : PySem.W.codeIn K cd__law_is "_law_is" = true)
    (k__law_is : PySem.W.keepIn K (.ref ff__law_is) = true)
    (a__law_web : PySem.W.nsIn K mainGlobals "_law_web" = some (some (.ref ff__law_web)))
    (l__law_web : K.lookup ff__law_web = some ⟨oc__law_web, od__law_web, .func (PySem.W.fnOf "_law_web" "_law_web" (defArgs s__law_web) (defBody s__law_web) (defScope s__law_web) .none kV__law_web dc__law_web pm__law_web an__law_web cd__law_web ct__law_web), sl__law_web⟩)
    (c__law_web : PySem.W.codeIn K cd__law_web "_law_web" = true)
    (k__law_web : PySem.W.keepIn K (.ref ff__law_web) = true)
    (a__law_ran : PySem.W.nsIn K mainGlobals "_law_ran" = some (some (.ref ff__law_ran)))
    (l__law_ran : K.lookup ff__law_ran = some ⟨oc__law_ran, od__law_ran, .func (PySem.W.fnOf "_law_ran" "_law_ran" (defArgs s__law_ran) (defBody s__law_ran) (defScope s__law_ran) .none kV__law_ran dc__law_ran pm__law_ran an__law_ran cd__law_ran ct__law_ran), sl__law_ran⟩)
    (c__law_ran : PySem.W.codeIn K cd__law_ran "_law_ran" = true)
    (k__law_ran : PySem.W.keepIn K (.ref ff__law_ran) = true)
    (a__law_come : PySem.W.nsIn K mainGlobals "_law_come" = some (some (.ref ff__law_come)))
    (l__law_come : K.lookup ff__law_come = some ⟨oc__law_come, od__law_come, .func (PySem.W.fnOf "_law_come" "_law_come" (defArgs s__law_come) (defBody s__law_come) (defScope s__law_come) .none kV__law_come dc__law_come pm__law_come an__law_come cd__law_come ct__law_come), sl__law_come⟩)
    (c__law_come : PySem.W.codeIn K cd__law_come "_law_come" = true)
    (k__law_come : PySem.W.keepIn K (.ref ff__law_come) = true)
    (a__law_can : PySem.W.nsIn K mainGlobals "_law_can" = some (some (.ref ff__law_can)))
    (l__law_can : K.lookup ff__law_can = some ⟨oc__law_can, od__law_can, .func (PySem.W.fnOf "_law_can" "_law_can" (defArgs s__law_can) (defBody s__law_can) (defScope s__law_can) .none kV__law_can dc__law_can pm__law_can an__law_can cd__law_can ct__law_can), sl__law_can⟩)
    (c__law_can : PySem.W.codeIn K cd__law_can "_law_can" = true)
    (k__law_can : PySem.W.keepIn K (.ref ff__law_can) = true)
    (a__law_bent : PySem.W.nsIn K mainGlobals "_law_bent" = some (some (.ref ff__law_bent)))
    (l__law_bent : K.lookup ff__law_bent = some ⟨oc__law_bent, od__law_bent, .func (PySem.W.fnOf "_law_bent" "_law_bent" (defArgs s__law_bent) (defBody s__law_bent) (defScope s__law_bent) .none kV__law_bent dc__law_bent pm__law_bent an__law_bent cd__law_bent ct__law_bent), sl__law_bent⟩)
    (c__law_bent : PySem.W.codeIn K cd__law_bent "_law_bent" = true)
    (k__law_bent : PySem.W.keepIn K (.ref ff__law_bent) = true)
    (a__law_parts : PySem.W.nsIn K mainGlobals "_law_parts" = some (some (.ref ff__law_parts)))
    (l__law_parts : K.lookup ff__law_parts = some ⟨oc__law_parts, od__law_parts, .func (PySem.W.fnOf "_law_parts" "_law_parts" (defArgs s__law_parts) (defBody s__law_parts) (defScope s__law_parts) .none kV__law_parts dc__law_parts pm__law_parts an__law_parts cd__law_parts ct__law_parts), sl__law_parts⟩)
    (c__law_parts : PySem.W.codeIn K cd__law_parts "_law_parts" = true)
    (k__law_parts : PySem.W.keepIn K (.ref ff__law_parts) = true)
    (a__law_told : PySem.W.nsIn K mainGlobals "_law_told" = some (some (.ref ff__law_told)))
    (l__law_told : K.lookup ff__law_told = some ⟨oc__law_told, od__law_told, .func (PySem.W.fnOf "_law_told" "_law_told" (defArgs s__law_told) (defBody s__law_told) (defScope s__law_told) .none kV__law_told dc__law_told pm__law_told an__law_told cd__law_told ct__law_told), sl__law_told⟩)
    (c__law_told : PySem.W.codeIn K cd__law_told "_law_told" = true)
    (k__law_told : PySem.W.keepIn K (.ref ff__law_told) = true)
    (a__law_next : PySem.W.nsIn K mainGlobals "_law_next" = some (some (.ref ff__law_next)))
    (l__law_next : K.lookup ff__law_next = some ⟨oc__law_next, od__law_next, .func (PySem.W.fnOf "_law_next" "_law_next" (defArgs s__law_next) (defBody s__law_next) (defScope s__law_next) .none kV__law_next dc__law_next pm__law_next an__law_next cd__law_next ct__law_next), sl__law_next⟩)
    (c__law_next : PySem.W.codeIn K cd__law_next "_law_next" = true)
    (k__law_next : PySem.W.keepIn K (.ref ff__law_next) = true)
    (a__law_all_next : PySem.W.nsIn K mainGlobals "_law_all_next" = some (some (.ref ff__law_all_next)))
    (l__law_all_next : K.lookup ff__law_all_next = some ⟨oc__law_all_next, od__law_all_next, .func (PySem.W.fnOf "_law_all_next" "_law_all_next" (defArgs s__law_all_next) (defBody s__law_all_next) (defScope s__law_all_next) .none kV__law_all_next dc__law_all_next pm__law_all_next an__law_all_next cd__law_all_next ct__law_all_next), sl__law_all_next⟩)
    (c__law_all_next : PySem.W.codeIn K cd__law_all_next "_law_all_next" = true)
    (k__law_all_next : PySem.W.keepIn K (.ref ff__law_all_next) = true)
    (a_law : PySem.W.nsIn K mainGlobals "law" = some (some (.ref ff_law)))
    (l_law : K.lookup ff_law = some ⟨oc_law, od_law, .func (PySem.W.fnOf "law" "law" (defArgs s_law) (defBody s_law) (defScope s_law) .none kV_law dc_law pm_law an_law cd_law ct_law), sl_law⟩)
    (c_law : PySem.W.codeIn K cd_law "law" = true)
    (k_law : PySem.W.keepIn K (.ref ff_law) = true)
    (pg_Web : PySem.W.plainGet K C_Web Str.empty = true)
    (hd_Web : PySem.W.hasDictIn K C_Web = true)
    (po_Web : PySem.W.plainOver K C_Web = true)
    (sa_Web : PySem.W.findIn K (.ref C_Web) "__setattr__" = some (some (.builtin "object.__setattr__")))
    (mk_Web : PySem.W.makesIn K C_Web = true)
    (kc_Web : PySem.W.keepIn K (.ref C_Web) = true)
    (ha_Web : PySem.W.findIn K (.ref C_Web) "__class__" = some (some (.builtin "object.__class__")))
    (hn_Web : PySem.W.specialIn K (.builtin "object.__class__") "__get__" = some (some (.builtin "getset_descriptor.__get__")))
    (ht_Web : PySem.W.takesIn K (.builtin "object.__class__") = some true)
    (hm_Web : PySem.W.mroIn K C_Web (.type "object") = some true)
    (hne_Web : PySem.W.findIn K (.ref C_Web) "__ne__" = some (some (.builtin "object.__ne__")))
    (na_Web_machines : PySem.W.findIn K (.ref C_Web) "machines" = some none)
    (na_Web_wires : PySem.W.findIn K (.ref C_Web) "wires" = some none)
    (pg_Record : PySem.W.plainGet K C_Record Str.empty = true)
    (hd_Record : PySem.W.hasDictIn K C_Record = true)
    (po_Record : PySem.W.plainOver K C_Record = true)
    (sa_Record : PySem.W.findIn K (.ref C_Record) "__setattr__" = some (some (.builtin "object.__setattr__")))
    (mk_Record : PySem.W.makesIn K C_Record = true)
    (kc_Record : PySem.W.keepIn K (.ref C_Record) = true)
    (ha_Record : PySem.W.findIn K (.ref C_Record) "__class__" = some (some (.builtin "object.__class__")))
    (hn_Record : PySem.W.specialIn K (.builtin "object.__class__") "__get__" = some (some (.builtin "getset_descriptor.__get__")))
    (ht_Record : PySem.W.takesIn K (.builtin "object.__class__") = some true)
    (hm_Record : PySem.W.mroIn K C_Record (.type "object") = some true)
    (hne_Record : PySem.W.findIn K (.ref C_Record) "__ne__" = some (some (.builtin "object.__ne__")))
    (na_Record_writers : PySem.W.findIn K (.ref C_Record) "writers" = some none)
    (na_Record_diaries : PySem.W.findIn K (.ref C_Record) "diaries" = some none)
    (co_MOST_MACHINES : PySem.W.nsIn K mainGlobals "MOST_MACHINES" = some (some (.int 7 tk_MOST_MACHINES)))
    (co_MOST_PUTS : PySem.W.nsIn K mainGlobals "MOST_PUTS" = some (some (.int 30 tk_MOST_PUTS)))
    (z_isinstance : PySem.W.nsIn K mainGlobals "isinstance" = some none)
    (z_int : PySem.W.nsIn K mainGlobals "int" = some none)
    (z_bool : PySem.W.nsIn K mainGlobals "bool" = some none)
    (z_tuple : PySem.W.nsIn K mainGlobals "tuple" = some none)
    (z_len : PySem.W.nsIn K mainGlobals "len" = some none)
    (z_all : PySem.W.nsIn K mainGlobals "all" = some none)
    (z_enumerate : PySem.W.nsIn K mainGlobals "enumerate" = some none)
    (z_set : PySem.W.nsIn K mainGlobals "set" = some none)
    (z_range : PySem.W.nsIn K mainGlobals "range" = some none)
    (z_any : PySem.W.nsIn K mainGlobals "any" = some none)
    (z_list : PySem.W.nsIn K mainGlobals "list" = some none)
    (z_zip : PySem.W.nsIn K mainGlobals "zip" = some none)
    (z_abs : PySem.W.nsIn K mainGlobals "abs" = some none)
    (z_min : PySem.W.nsIn K mainGlobals "min" = some none)
    (z_dict : PySem.W.nsIn K mainGlobals "dict" = some none)
    (z_max : PySem.W.nsIn K mainGlobals "max" = some none)
    (z_sorted : PySem.W.nsIn K mainGlobals "sorted" = some none)
    (xL : K.lookup C_NotMade = some (excClassObj xnm xq C_NotMade xN xbs [.ref C_GrowError, .type "ValueError", .type "Exception", .type "BaseException", .type "object"] true xsn xsub xab xcol xdd x0 x1 x2 x3 x5 "ValueError.__new__"))
    (xex : PySem.W.subIn K (.ref C_NotMade) (.type "BaseException") = some true)
    (xty : PySem.W.typeIn K (.ref C_NotMade) = some (.type "type"))
    (xk : PySem.W.keepIn K (.ref C_NotMade) = true)
    (xti : PySem.W.typeIn K (.ref ff_NotMade_init) = some (.type "function"))
    (xga : PySem.W.findIn K (.ref C_NotMade) "__getattribute__" = some (some (.builtin "BaseException.__getattribute__")))
    (xgg : PySem.W.findIn K (.ref C_NotMade) "__getattr__" = some none)
    (xhd : PySem.W.hasDictIn K C_NotMade = true)
    (xcl : PySem.W.findIn K (.ref C_NotMade) "__class__" = some (some (.builtin "object.__class__")))
    (xcg : PySem.W.specialIn K (.builtin "object.__class__") "__get__" = some (some (.builtin "getset_descriptor.__get__")))
    (xct : PySem.W.takesIn K (.builtin "object.__class__") = some true)
    (xmo : PySem.W.mroIn K C_NotMade (.type "object") = some true)
    (yex : PySem.W.subIn K (.ref C_GrowError) (.type "BaseException") = some true)
    (yhd : PySem.W.hasDictIn K C_GrowError = true)
    (yty : PySem.W.typeIn K (.ref C_GrowError) = some (.type "type"))
    (yxy : PySem.W.subIn K (.ref C_NotMade) (.ref C_GrowError) = some true)
    : ∃ fd : FuncData, (∀ (s : Shared) (v : Value), BindsTo s fd ⟨[v], []⟩ [("_law_script", v)]) ∧ ∀ base : Heap, K.In base → base.Ns mainGlobals mg → FnOk l.prog w K mg base CX0 11 fa fd ["_law_script"] (spLaw K) := by
  have e := hfa.symm.trans (PySem.W.mg_of X G a_law)
  cases e
  have F_NotMade_init := fun_mk (st := s_NotMade_init) l_NotMade_init c_NotMade_init k_NotMade_init
  have b_NotMade_init := F_NotMade_init.binds (ps := P_NotMade_init) fun _ _ _ _ _ _ us hl => match us, hl with | [_], _ => rfl
  have F_is_integer := fun_mk (st := s_is_integer) l_is_integer c_is_integer k_is_integer
  have b_is_integer := F_is_integer.binds (ps := P_is_integer) fun _ _ _ _ _ _ us hl => match us, hl with | [_], _ => rfl
  have F_is_between := fun_mk (st := s_is_between) l_is_between c_is_between k_is_between
  have b_is_between := F_is_between.binds (ps := P_is_between) fun _ _ _ _ _ _ us hl => match us, hl with | [_, _, _], _ => rfl
  have F_is_below := fun_mk (st := s_is_below) l_is_below c_is_below k_is_below
  have b_is_below := F_is_below.binds (ps := P_is_below) fun _ _ _ _ _ _ us hl => match us, hl with | [_, _], _ => rfl
  have F_is_tuple_of := fun_mk (st := s_is_tuple_of) l_is_tuple_of c_is_tuple_of k_is_tuple_of
  have b_is_tuple_of := F_is_tuple_of.binds (ps := P_is_tuple_of) fun _ _ _ _ _ _ us hl => match us, hl with | [_, _, _], _ => rfl
  have F_are_below := fun_mk (st := s_are_below) l_are_below c_are_below k_are_below
  have b_are_below := F_are_below.binds (ps := P_are_below) fun _ _ _ _ _ _ us hl => match us, hl with | [_, _], _ => rfl
  have F_is_unlike_pair := fun_mk (st := s_is_unlike_pair) l_is_unlike_pair c_is_unlike_pair k_is_unlike_pair
  have b_is_unlike_pair := F_is_unlike_pair.binds (ps := P_is_unlike_pair) fun _ _ _ _ _ _ us hl => match us, hl with | [_, _], _ => rfl
  have F_Web_init := fun_mk (st := s_Web_init) l_Web_init c_Web_init k_Web_init
  have b_Web_init := F_Web_init.binds (ps := P_Web_init) fun _ _ _ _ _ _ us hl => match us, hl with | [_, _, _], _ => rfl
  have F_Web_eq := fun_mk (st := s_Web_eq) l_Web_eq c_Web_eq k_Web_eq
  have b_Web_eq := F_Web_eq.binds (ps := P_Web_eq) fun _ _ _ _ _ _ us hl => match us, hl with | [_, _], _ => rfl
  have F_first_wrong_wire := fun_mk (st := s_first_wrong_wire) l_first_wrong_wire c_first_wrong_wire k_first_wrong_wire
  have b_first_wrong_wire := F_first_wrong_wire.binds (ps := P_first_wrong_wire) fun _ _ _ _ _ _ us hl => match us, hl with | [_, _], _ => rfl
  have F_ways_from := fun_mk (st := s_ways_from) l_ways_from c_ways_from k_ways_from
  have b_ways_from := F_ways_from.binds (ps := P_ways_from) fun _ _ _ _ _ _ us hl => match us, hl with | [_, _], _ => rfl
  have F_check_machine := fun_mk (st := s_check_machine) l_check_machine c_check_machine k_check_machine
  have b_check_machine := F_check_machine.binds (ps := P_check_machine) fun _ _ _ _ _ _ us hl => match us, hl with | [_, _], _ => rfl
  have F_Record_init := fun_mk (st := s_Record_init) l_Record_init c_Record_init k_Record_init
  have b_Record_init := F_Record_init.binds (ps := P_Record_init) fun _ _ _ _ _ _ us hl => match us, hl with | [_, _, _], _ => rfl
  have F_Record_eq := fun_mk (st := s_Record_eq) l_Record_eq c_Record_eq k_Record_eq
  have b_Record_eq := F_Record_eq.binds (ps := P_Record_eq) fun _ _ _ _ _ _ us hl => match us, hl with | [_, _], _ => rfl
  have F_check_record := fun_mk (st := s_check_record) l_check_record c_check_record k_check_record
  have b_check_record := F_check_record.binds (ps := P_check_record) fun _ _ _ _ _ _ us hl => match us, hl with | [_, _], _ => rfl
  have F_is_diary := fun_mk (st := s_is_diary) l_is_diary c_is_diary k_is_diary
  have b_is_diary := F_is_diary.binds (ps := P_is_diary) fun _ _ _ _ _ _ us hl => match us, hl with | [_, _], _ => rfl
  have F_check_machines := fun_mk (st := s_check_machines) l_check_machines c_check_machines k_check_machines
  have b_check_machines := F_check_machines.binds (ps := P_check_machines) fun _ _ _ _ _ _ us hl => match us, hl with | [_, _], _ => rfl
  have F_places_in := fun_mk (st := s_places_in) l_places_in c_places_in k_places_in
  have b_places_in := F_places_in.binds (ps := P_places_in) fun _ _ _ _ _ _ us hl => match us, hl with | [_], _ => rfl
  have F_grown_over := fun_mk (st := s_grown_over) l_grown_over c_grown_over k_grown_over
  have b_grown_over := F_grown_over.binds (ps := P_grown_over) fun _ _ _ _ _ _ us hl => match us, hl with | [_, _], _ => rfl
  have F_wires_by_put := fun_mk (st := s_wires_by_put) l_wires_by_put c_wires_by_put k_wires_by_put
  have b_wires_by_put := F_wires_by_put.binds (ps := P_wires_by_put) fun _ _ _ _ _ _ us hl => match us, hl with | [_, _], _ => rfl
  have F_holders_by_put := fun_mk (st := s_holders_by_put) l_holders_by_put c_holders_by_put k_holders_by_put
  have b_holders_by_put := F_holders_by_put.binds (ps := P_holders_by_put) fun _ _ _ _ _ _ us hl => match us, hl with | [_], _ => rfl
  have F_bar := fun_mk (st := s_bar) l_bar c_bar k_bar
  have b_bar := F_bar.binds (ps := P_bar) fun _ _ _ _ _ _ us hl => match us, hl with | [_, _], _ => rfl
  have F_is_made := fun_mk (st := s_is_made) l_is_made c_is_made k_is_made
  have b_is_made := F_is_made.binds (ps := P_is_made) fun _ _ _ _ _ _ us hl => match us, hl with | [_, _], _ => rfl
  have F_check_made := fun_mk (st := s_check_made) l_check_made c_check_made k_check_made
  have b_check_made := F_check_made.binds (ps := P_check_made) fun _ _ _ _ _ _ us hl => match us, hl with | [_, _], _ => rfl
  have F_may_come := fun_mk (st := s_may_come) l_may_come c_may_come k_may_come
  have b_may_come := F_may_come.binds (ps := P_may_come) fun _ _ _ _ _ _ us hl => match us, hl with | [_, _, _], _ => rfl
  have F_can_come := fun_mk (st := s_can_come) l_can_come c_can_come k_can_come
  have b_can_come := F_can_come.binds (ps := P_can_come) fun _ _ _ _ _ _ us hl => match us, hl with | [_, _, _, _], _ => rfl
  have F_before := fun_mk (st := s_before) l_before c_before k_before
  have b_before := F_before.binds (ps := P_before) fun _ _ _ _ _ _ us hl => match us, hl with | [_, _], _ => rfl
  have F__law_hand := fun_mk (st := s__law_hand) l__law_hand c__law_hand k__law_hand
  have b__law_hand := F__law_hand.binds (ps := P__law_hand) fun _ _ _ _ _ _ us hl => match us, hl with | [_], _ => rfl
  have F__law_draw := fun_mk (st := s__law_draw) l__law_draw c__law_draw k__law_draw
  have b__law_draw := F__law_draw.binds (ps := P__law_draw) fun _ _ _ _ _ _ us hl => match us, hl with | [_, _], _ => rfl
  have F__law_is := fun_mk (st := s__law_is) l__law_is c__law_is k__law_is
  have b__law_is := F__law_is.binds (ps := P__law_is) fun _ _ _ _ _ _ us hl => match us, hl with | [_, _], _ => rfl
  have F__law_web := fun_mk (st := s__law_web) l__law_web c__law_web k__law_web
  have b__law_web := F__law_web.binds (ps := P__law_web) fun _ _ _ _ _ _ us hl => match us, hl with | [_, _], _ => rfl
  have F__law_ran := fun_mk (st := s__law_ran) l__law_ran c__law_ran k__law_ran
  have b__law_ran := F__law_ran.binds (ps := P__law_ran) fun _ _ _ _ _ _ us hl => match us, hl with | [_, _, _, _, _], _ => rfl
  have F__law_come := fun_mk (st := s__law_come) l__law_come c__law_come k__law_come
  have b__law_come := F__law_come.binds (ps := P__law_come) fun _ _ _ _ _ _ us hl => match us, hl with | [_, _, _], _ => rfl
  have F__law_can := fun_mk (st := s__law_can) l__law_can c__law_can k__law_can
  have b__law_can := F__law_can.binds (ps := P__law_can) fun _ _ _ _ _ _ us hl => match us, hl with | [_, _, _, _], _ => rfl
  have F__law_bent := fun_mk (st := s__law_bent) l__law_bent c__law_bent k__law_bent
  have b__law_bent := F__law_bent.binds (ps := P__law_bent) fun _ _ _ _ _ _ us hl => match us, hl with | [_, _, _], _ => rfl
  have F__law_parts := fun_mk (st := s__law_parts) l__law_parts c__law_parts k__law_parts
  have b__law_parts := F__law_parts.binds (ps := P__law_parts) fun _ _ _ _ _ _ us hl => match us, hl with | [_, _, _], _ => rfl
  have F__law_told := fun_mk (st := s__law_told) l__law_told c__law_told k__law_told
  have b__law_told := F__law_told.binds (ps := P__law_told) fun _ _ _ _ _ _ us hl => match us, hl with | [_, _, _], _ => rfl
  have F__law_next := fun_mk (st := s__law_next) l__law_next c__law_next k__law_next
  have b__law_next := F__law_next.binds (ps := P__law_next) fun _ _ _ _ _ _ us hl => match us, hl with | [_, _, _], _ => rfl
  have F__law_all_next := fun_mk (st := s__law_all_next) l__law_all_next c__law_all_next k__law_all_next
  have b__law_all_next := F__law_all_next.binds (ps := P__law_all_next) fun _ _ _ _ _ _ us hl => match us, hl with | [_, _, _], _ => rfl
  have F_law := fun_mk (st := s_law) l_law c_law k_law
  have b_law := F_law.binds (ps := P_law) fun _ _ _ _ _ _ us hl => match us, hl with | [_], _ => rfl
  have T : Txt K mg ⟨ff_NotMade_init, _, ff_is_integer, _, ff_is_between, _, ff_is_below, _, ff_is_tuple_of, _, ff_are_below, _, ff_is_unlike_pair, _, ff_Web_init, _, ff_Web_eq, _, ff_first_wrong_wire, _, ff_ways_from, _, ff_check_machine, _, ff_Record_init, _, ff_Record_eq, _, ff_check_record, _, ff_is_diary, _, ff_check_machines, _, ff_places_in, _, ff_grown_over, _, ff_wires_by_put, _, ff_holders_by_put, _, ff_bar, _, ff_is_made, _, ff_check_made, _, ff_may_come, _, ff_can_come, _, ff_before, _, ff__law_hand, _, ff__law_draw, _, ff__law_is, _, ff__law_web, _, ff__law_ran, _, ff__law_come, _, ff__law_can, _, ff__law_bent, _, ff__law_parts, _, ff__law_told, _, ff__law_next, _, ff__law_all_next, _, fa, _, C_GrowError, C_NotMade, C_Web, C_Record, tk_MOST_MACHINES, tk_MOST_PUTS⟩ := ⟨F_NotMade_init,
    b_NotMade_init,
    F_is_integer,
    b_is_integer,
    PySem.W.mg_of X G a_is_integer,
    F_is_between,
    b_is_between,
    PySem.W.mg_of X G a_is_between,
    F_is_below,
    b_is_below,
    PySem.W.mg_of X G a_is_below,
    F_is_tuple_of,
    b_is_tuple_of,
    PySem.W.mg_of X G a_is_tuple_of,
    F_are_below,
    b_are_below,
    PySem.W.mg_of X G a_are_below,
    F_is_unlike_pair,
    b_is_unlike_pair,
    PySem.W.mg_of X G a_is_unlike_pair,
    F_Web_init,
    b_Web_init,
    F_Web_eq,
    b_Web_eq,
    F_first_wrong_wire,
    b_first_wrong_wire,
    PySem.W.mg_of X G a_first_wrong_wire,
    F_ways_from,
    b_ways_from,
    PySem.W.mg_of X G a_ways_from,
    F_check_machine,
    b_check_machine,
    PySem.W.mg_of X G a_check_machine,
    F_Record_init,
    b_Record_init,
    F_Record_eq,
    b_Record_eq,
    F_check_record,
    b_check_record,
    PySem.W.mg_of X G a_check_record,
    F_is_diary,
    b_is_diary,
    PySem.W.mg_of X G a_is_diary,
    F_check_machines,
    b_check_machines,
    PySem.W.mg_of X G a_check_machines,
    F_places_in,
    b_places_in,
    PySem.W.mg_of X G a_places_in,
    F_grown_over,
    b_grown_over,
    PySem.W.mg_of X G a_grown_over,
    F_wires_by_put,
    b_wires_by_put,
    PySem.W.mg_of X G a_wires_by_put,
    F_holders_by_put,
    b_holders_by_put,
    PySem.W.mg_of X G a_holders_by_put,
    F_bar,
    b_bar,
    PySem.W.mg_of X G a_bar,
    F_is_made,
    b_is_made,
    PySem.W.mg_of X G a_is_made,
    F_check_made,
    b_check_made,
    PySem.W.mg_of X G a_check_made,
    F_may_come,
    b_may_come,
    PySem.W.mg_of X G a_may_come,
    F_can_come,
    b_can_come,
    PySem.W.mg_of X G a_can_come,
    F_before,
    b_before,
    PySem.W.mg_of X G a_before,
    F__law_hand,
    b__law_hand,
    PySem.W.mg_of X G a__law_hand,
    F__law_draw,
    b__law_draw,
    PySem.W.mg_of X G a__law_draw,
    F__law_is,
    b__law_is,
    PySem.W.mg_of X G a__law_is,
    F__law_web,
    b__law_web,
    PySem.W.mg_of X G a__law_web,
    F__law_ran,
    b__law_ran,
    PySem.W.mg_of X G a__law_ran,
    F__law_come,
    b__law_come,
    PySem.W.mg_of X G a__law_come,
    F__law_can,
    b__law_can,
    PySem.W.mg_of X G a__law_can,
    F__law_bent,
    b__law_bent,
    PySem.W.mg_of X G a__law_bent,
    F__law_parts,
    b__law_parts,
    PySem.W.mg_of X G a__law_parts,
    F__law_told,
    b__law_told,
    PySem.W.mg_of X G a__law_told,
    F__law_next,
    b__law_next,
    PySem.W.mg_of X G a__law_next,
    F__law_all_next,
    b__law_all_next,
    PySem.W.mg_of X G a__law_all_next,
    F_law,
    b_law,
    PySem.W.mg_of X G a_law,
    PySem.W.mg_of X G aC_GrowError,
    PySem.W.mg_of X G aC_NotMade,
    PySem.W.mg_of X G aC_Web,
    PySem.W.mg_of X G aC_Record,
    ⟨pg_Web, hd_Web, po_Web, sa_Web⟩,
    ⟨mk_Web, a_Web_init, i_Web_init, kc_Web⟩,
    ⟨⟨pg_Web, hd_Web, po_Web, sa_Web⟩, ha_Web, hn_Web, ht_Web, hm_Web, (by unfold PySem.W.kitOne; simp)⟩,
    a_Web_eq,
    i_Web_eq,
    hne_Web,
    na_Web_machines,
    na_Web_wires,
    ⟨pg_Record, hd_Record, po_Record, sa_Record⟩,
    ⟨mk_Record, a_Record_init, i_Record_init, kc_Record⟩,
    ⟨⟨pg_Record, hd_Record, po_Record, sa_Record⟩, ha_Record, hn_Record, ht_Record, hm_Record, (by unfold PySem.W.kitOne; simp)⟩,
    a_Record_eq,
    i_Record_eq,
    hne_Record,
    na_Record_writers,
    na_Record_diaries,
    ⟨⟨_, _, _, _, _, _, _, _, _, _, _, _, _, _, _, xL, by first | rfl | with_unfolding_all rfl | (show PySem.HandSPX.refsVE [.type "ValueError", .type "Exception", .type "BaseException", .type "object"] = true; decide +kernel)⟩, a_NotMade_init, xti, xk, xex, xty, ⟨_, _, _, _, _, _, _, _, _, _, _, _, _, l_NotMade_init, c_NotMade_init, fun s x => BindsTo.of_eq (by first | rfl | with_unfolding_all rfl), rfl, rfl, rfl, rfl⟩⟩,
    ⟨xga, xgg, xex, xhd, xcl, xcg, xct, xmo⟩,
    PySem.W.exm_ref yex yhd yty yxy,
    (by unfold PySem.W.kitOne; simp),
    PySem.W.mg_of X G co_MOST_MACHINES,
    PySem.W.mg_of X G co_MOST_PUTS,
    PySem.W.mg_none_of X G z_isinstance,
    PySem.W.mg_none_of X G z_int,
    PySem.W.mg_none_of X G z_bool,
    PySem.W.mg_none_of X G z_tuple,
    PySem.W.mg_none_of X G z_len,
    PySem.W.mg_none_of X G z_all,
    PySem.W.mg_none_of X G z_enumerate,
    PySem.W.mg_none_of X G z_set,
    PySem.W.mg_none_of X G z_range,
    PySem.W.mg_none_of X G z_any,
    PySem.W.mg_none_of X G z_list,
    PySem.W.mg_none_of X G z_zip,
    PySem.W.mg_none_of X G z_abs,
    PySem.W.mg_none_of X G z_min,
    PySem.W.mg_none_of X G z_dict,
    PySem.W.mg_none_of X G z_max,
    PySem.W.mg_none_of X G z_sorted⟩
  exact ⟨PySem.W.fnOf "law" "law" (defArgs s_law) (defBody s_law) (defScope s_law) .none kV_law dc_law pm_law an_law cd_law ct_law, fun s v => .of_eq rfl, fun base _ _ => ok_law T⟩
theorem walk {l : PySem.W.OpenLaw} {q : Program} {loose : List Str} {XP : (Str → Option Value) → Heap → Prop} {YP : World → Heap → Prop} {d : DefRec} {K : Params → PySem.W.Frag} (hn : l.most = some 63) (hdf : d.params.defaults = [])
    (hY : ∀ (w : World) (h : Heap), YP w h → (K w.params).In h)
    (F : ∀ (w : World) (mg : Str → Option Value) (fa : Addr) (h : Heap), (K w.params).In h → h.Ns mainGlobals mg → mg d.name = some (.ref fa) →
      ∃ fd : FuncData, (∀ (s : Shared) (u : Value), BindsTo s fd ⟨[u], []⟩ [("_law_script", u)]) ∧ ∀ base : Heap, (K w.params).In base → base.Ns mainGlobals mg → FnOk l.prog w (K w.params) mg base CX0 11 fa fd ["_law_script"] (spLaw (K w.params))) :
    PySem.W.WalkO q loose XP YP l.row.toRowW d [] (fun f vs => PySem.call f vs) :=
  L2.walk_of (n := 63) (k := 11) (x := "_law_script") (CX := fun _ => CX0) (sp := fun w => spLaw (K w.params)) hn (by decide) hdf ⟨rfl, by decide, by decide⟩ hY F (fun _ _ a ns hl _ hS => ⟨a, ns, rfl, hS, hl, fun _ => rfl⟩) fun _ _ _ _ _ z => z
end Mine
/-! ## KZ -/
open PySem PySem.W PyProof.Rows in
set_option maxRecDepth 100000 in
set_option maxHeartbeats 0 in
theorem PySem.Challenge.cw_growalong_k12_whole_what_may_come_next_holds : PySem.Challenge.rw_growalong_k12_whole_what_may_come_next.Holds := by
  w_on; o_law; k_head; (case hw => w_witness2)
  k_fill
  refine Mine.walk (l := PySem.Challenge.rw_growalong_k12_whole_what_may_come_next) rfl rfl (fun w h Y => PySem.W.kIn_of Y) ?F
  case F =>
    intro w mg fa h KX G hmg
    refine' Mine.all_mk KX G hmg ?aC_GrowError ?aC_NotMade ?aC_Web ?aC_Record ?a_NotMade_init ?i_NotMade_init ?l_NotMade_init ?c_NotMade_init ?k_NotMade_init ?a_is_integer ?l_is_integer ?c_is_integer ?k_is_integer ?a_is_between ?l_is_between ?c_is_between ?k_is_between ?a_is_below ?l_is_below ?c_is_below ?k_is_below ?a_is_tuple_of ?l_is_tuple_of ?c_is_tuple_of ?k_is_tuple_of ?a_are_below ?l_are_below ?c_are_below ?k_are_below ?a_is_unlike_pair ?l_is_unlike_pair ?c_is_unlike_pair ?k_is_unlike_pair ?a_Web_init ?i_Web_init ?l_Web_init ?c_Web_init ?k_Web_init ?a_Web_eq ?i_Web_eq ?l_Web_eq ?c_Web_eq ?k_Web_eq ?a_first_wrong_wire ?l_first_wrong_wire ?c_first_wrong_wire ?k_first_wrong_wire ?a_ways_from ?l_ways_from ?c_ways_from ?k_ways_from ?a_check_machine ?l_check_machine ?c_check_machine ?k_check_machine ?a_Record_init ?i_Record_init ?l_Record_init ?c_Record_init ?k_Record_init ?a_Record_eq ?i_Record_eq ?l_Record_eq ?c_Record_eq ?k_Record_eq ?a_check_record ?l_check_record ?c_check_record ?k_check_record ?a_is_diary ?l_is_diary ?c_is_diary ?k_is_diary ?a_check_machines ?l_check_machines ?c_check_machines ?k_check_machines ?a_places_in ?l_places_in ?c_places_in ?k_places_in ?a_grown_over ?l_grown_over ?c_grown_over ?k_grown_over ?a_wires_by_put ?l_wires_by_put ?c_wires_by_put ?k_wires_by_put ?a_holders_by_put ?l_holders_by_put ?c_holders_by_put ?k_holders_by_put ?a_bar ?l_bar ?c_bar ?k_bar ?a_is_made ?l_is_made ?c_is_made ?k_is_made ?a_check_made ?l_check_made ?c_check_made ?k_check_made ?a_may_come ?l_may_come ?c_may_come ?k_may_come ?a_can_come ?l_can_come ?c_can_come ?k_can_come ?a_before ?l_before ?c_before ?k_before ?a__law_hand ?l__law_hand ?c__law_hand ?k__law_hand ?a__law_draw ?l__law_draw ?c__law_draw ?k__law_draw ?a__law_is ?l__law_is ?c__law_is ?k__law_is ?a__law_web ?l__law_web ?c__law_web ?k__law_web ?a__law_ran ?l__law_ran ?c__law_ran ?k__law_ran ?a__law_come ?l__law_come ?c__law_come ?k__law_come ?a__law_can ?l__law_can ?c__law_can ?k__law_can ?a__law_bent ?l__law_bent ?c__law_bent ?k__law_bent ?a__law_parts ?l__law_parts ?c__law_parts ?k__law_parts ?a__law_told ?l__law_told ?c__law_told ?k__law_told ?a__law_next ?l__law_next ?c__law_next ?k__law_next ?a__law_all_next ?l__law_all_next ?c__law_all_next ?k__law_all_next ?a_law ?l_law ?c_law ?k_law ?pg_Web ?hd_Web ?po_Web ?sa_Web ?mk_Web ?kc_Web ?ha_Web ?hn_Web ?ht_Web ?hm_Web ?hne_Web ?na_Web_machines ?na_Web_wires ?pg_Record ?hd_Record ?po_Record ?sa_Record ?mk_Record ?kc_Record ?ha_Record ?hn_Record ?ht_Record ?hm_Record ?hne_Record ?na_Record_writers ?na_Record_diaries ?co_MOST_MACHINES ?co_MOST_PUTS ?z_isinstance ?z_int ?z_bool ?z_tuple ?z_len ?z_all ?z_enumerate ?z_set ?z_range ?z_any ?z_list ?z_zip ?z_abs ?z_min ?z_dict ?z_max ?z_sorted ?xL ?xex ?xty ?xk ?xti ?xga ?xgg ?xhd ?xcl ?xcg ?xct ?xmo ?yex ?yhd ?yty ?yxy
    (case aC_GrowError => k_is)
    (case aC_NotMade => k_is)
    (case aC_Web => k_is)
    (case aC_Record => k_is)
    (case a_NotMade_init => k_is)
    (case i_NotMade_init => k_is)
    (case l_NotMade_init => k_is)
    (case c_NotMade_init => k_is)
    (case k_NotMade_init => k_is)
    (case a_is_integer => k_is)
    (case l_is_integer => k_is)
    (case c_is_integer => k_is)
    (case k_is_integer => k_is)
    (case a_is_between => k_is)
    (case l_is_between => k_is)
    (case c_is_between => k_is)
    (case k_is_between => k_is)
    (case a_is_below => k_is)
    (case l_is_below => k_is)
    (case c_is_below => k_is)
    (case k_is_below => k_is)
    (case a_is_tuple_of => k_is)
    (case l_is_tuple_of => k_is)
    (case c_is_tuple_of => k_is)
    (case k_is_tuple_of => k_is)
    (case a_are_below => k_is)
    (case l_are_below => k_is)
    (case c_are_below => k_is)
    (case k_are_below => k_is)
    (case a_is_unlike_pair => k_is)
    (case l_is_unlike_pair => k_is)
    (case c_is_unlike_pair => k_is)
    (case k_is_unlike_pair => k_is)
    (case a_Web_init => k_is)
    (case i_Web_init => k_is)
    (case l_Web_init => k_is)
    (case c_Web_init => k_is)
    (case k_Web_init => k_is)
    (case a_Web_eq => k_is)
    (case i_Web_eq => k_is)
    (case l_Web_eq => k_is)
    (case c_Web_eq => k_is)
    (case k_Web_eq => k_is)
    (case a_first_wrong_wire => k_is)
    (case l_first_wrong_wire => k_is)
    (case c_first_wrong_wire => k_is)
    (case k_first_wrong_wire => k_is)
    (case a_ways_from => k_is)
    (case l_ways_from => k_is)
    (case c_ways_from => k_is)
    (case k_ways_from => k_is)
    (case a_check_machine => k_is)
    (case l_check_machine => k_is)
    (case c_check_machine => k_is)
    (case k_check_machine => k_is)
    (case a_Record_init => k_is)
    (case i_Record_init => k_is)
    (case l_Record_init => k_is)
    (case c_Record_init => k_is)
    (case k_Record_init => k_is)
    (case a_Record_eq => k_is)
    (case i_Record_eq => k_is)
    (case l_Record_eq => k_is)
    (case c_Record_eq => k_is)
    (case k_Record_eq => k_is)
    (case a_check_record => k_is)
    (case l_check_record => k_is)
    (case c_check_record => k_is)
    (case k_check_record => k_is)
    (case a_is_diary => k_is)
    (case l_is_diary => k_is)
    (case c_is_diary => k_is)
    (case k_is_diary => k_is)
    (case a_check_machines => k_is)
    (case l_check_machines => k_is)
    (case c_check_machines => k_is)
    (case k_check_machines => k_is)
    (case a_places_in => k_is)
    (case l_places_in => k_is)
    (case c_places_in => k_is)
    (case k_places_in => k_is)
    (case a_grown_over => k_is)
    (case l_grown_over => k_is)
    (case c_grown_over => k_is)
    (case k_grown_over => k_is)
    (case a_wires_by_put => k_is)
    (case l_wires_by_put => k_is)
    (case c_wires_by_put => k_is)
    (case k_wires_by_put => k_is)
    (case a_holders_by_put => k_is)
    (case l_holders_by_put => k_is)
    (case c_holders_by_put => k_is)
    (case k_holders_by_put => k_is)
    (case a_bar => k_is)
    (case l_bar => k_is)
    (case c_bar => k_is)
    (case k_bar => k_is)
    (case a_is_made => k_is)
    (case l_is_made => k_is)
    (case c_is_made => k_is)
    (case k_is_made => k_is)
    (case a_check_made => k_is)
    (case l_check_made => k_is)
    (case c_check_made => k_is)
    (case k_check_made => k_is)
    (case a_may_come => k_is)
    (case l_may_come => k_is)
    (case c_may_come => k_is)
    (case k_may_come => k_is)
    (case a_can_come => k_is)
    (case l_can_come => k_is)
    (case c_can_come => k_is)
    (case k_can_come => k_is)
    (case a_before => k_is)
    (case l_before => k_is)
    (case c_before => k_is)
    (case k_before => k_is)
    (case a__law_hand => k_is)
    (case l__law_hand => k_is)
    (case c__law_hand => k_is)
    (case k__law_hand => k_is)
    (case a__law_draw => k_is)
    (case l__law_draw => k_is)
    (case c__law_draw => k_is)
    (case k__law_draw => k_is)
    (case a__law_is => k_is)
    (case l__law_is => k_is)
    (case c__law_is => k_is)
    (case k__law_is => k_is)
    (case a__law_web => k_is)
    (case l__law_web => k_is)
    (case c__law_web => k_is)
    (case k__law_web => k_is)
    (case a__law_ran => k_is)
    (case l__law_ran => k_is)
    (case c__law_ran => k_is)
    (case k__law_ran => k_is)
    (case a__law_come => k_is)
    (case l__law_come => k_is)
    (case c__law_come => k_is)
    (case k__law_come => k_is)
    (case a__law_can => k_is)
    (case l__law_can => k_is)
    (case c__law_can => k_is)
    (case k__law_can => k_is)
    (case a__law_bent => k_is)
    (case l__law_bent => k_is)
    (case c__law_bent => k_is)
    (case k__law_bent => k_is)
    (case a__law_parts => k_is)
    (case l__law_parts => k_is)
    (case c__law_parts => k_is)
    (case k__law_parts => k_is)
    (case a__law_told => k_is)
    (case l__law_told => k_is)
    (case c__law_told => k_is)
    (case k__law_told => k_is)
    (case a__law_next => k_is)
    (case l__law_next => k_is)
    (case c__law_next => k_is)
    (case k__law_next => k_is)
    (case a__law_all_next => k_is)
    (case l__law_all_next => k_is)
    (case c__law_all_next => k_is)
    (case k__law_all_next => k_is)
    (case a_law => k_is)
    (case l_law => k_is)
    (case c_law => k_is)
    (case k_law => k_is)
    (case pg_Web => k_is)
    (case hd_Web => k_is)
    (case po_Web => k_is)
    (case sa_Web => k_is)
    (case mk_Web => k_is)
    (case kc_Web => k_is)
    (case ha_Web => k_is)
    (case hn_Web => k_is)
    (case ht_Web => k_is)
    (case hm_Web => k_is)
    (case hne_Web => k_is)
    (case na_Web_machines => k_is)
    (case na_Web_wires => k_is)
    (case pg_Record => k_is)
    (case hd_Record => k_is)
    (case po_Record => k_is)
    (case sa_Record => k_is)
    (case mk_Record => k_is)
    (case kc_Record => k_is)
    (case ha_Record => k_is)
    (case hn_Record => k_is)
    (case ht_Record => k_is)
    (case hm_Record => k_is)
    (case hne_Record => k_is)
    (case na_Record_writers => k_is)
    (case na_Record_diaries => k_is)
    (case co_MOST_MACHINES => k_is)
    (case co_MOST_PUTS => k_is)
    (case z_isinstance => k_is)
    (case z_int => k_is)
    (case z_bool => k_is)
    (case z_tuple => k_is)
    (case z_len => k_is)
    (case z_all => k_is)
    (case z_enumerate => k_is)
    (case z_set => k_is)
    (case z_range => k_is)
    (case z_any => k_is)
    (case z_list => k_is)
    (case z_zip => k_is)
    (case z_abs => k_is)
    (case z_min => k_is)
    (case z_dict => k_is)
    (case z_max => k_is)
    (case z_sorted => k_is)
    (case xL => k_is)
    (case xex => k_is)
    (case xty => k_is)
    (case xk => k_is)
    (case xti => k_is)
    (case xga => k_is)
    (case xgg => k_is)
    (case xhd => k_is)
    (case xcl => k_is)
    (case xcg => k_is)
    (case xct => k_is)
    (case xmo => k_is)
    (case yex => k_is)
    (case yhd => k_is)
    (case yty => k_is)
    (case yxy => k_is)

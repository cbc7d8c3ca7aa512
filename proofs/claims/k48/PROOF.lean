import PyProof.Rows.All
import Wide.All
import OpenK.AllK
import Wide.FinOn
import HandS.ForMost
import HandS.Deep
import HandS.IsInst
import HandS.TupLe
import HandS.TupAny
import HandS.TupSets
import HandS.Style
import HandS.Zip
import HandS.More
import HandS.SortInts
import HandS.Codes
import HandS.Walk
import HandS.Iter
import KE.GoesEnum
import PyProof.Rows.SortShell
import HandS.Conv
import HandS.OwnEq
import PyProof.InstNe
import HandS.Strs
import PyProof.WalksMore
import KE.KDictPairs
import KE.KDictCopyH
import KE.KDictKeyed
import HandS.SetFor
import HandS.Exc
import HandS.ExcInit
import HandS.ExcIs
import HandS.ExcField
import HandS.WordsExc
import HandS.CallSlots
import KE.KExcIs
import PyProof.FactsAll.dict
import HandS.TupMul
import HandS.SortRule
import HandS.SetKeys
import HandS.Text
import HandS.StrMore
import HandS.RaiseMore
import HandS.Star
import PySem.Challenge.RW_growalong_k48_whole_texts_there_and_back
set_option Elab.async false
set_option linter.all false
set_option maxRecDepth 100000
set_option maxHeartbeats 4000000
/-! ## GA -/
namespace GA
open PySem L2

/-! ### heaps: what stays -/
/-- tuples stay -/
def Ts (H H' : Hp) : Prop := ∀ a xs, Rd H a (.tup xs) → Rd H' a (.tup xs)
/-- the hand of draws: a list at hd whose first item is the list of ints at c -/
def Hand (H : Hp) (hd c : Addr) : Prop := c ≠ hd ∧ (∃ ns : List Int, H c = some (.lst (ns.map V.int))) ∧ ∃ (i b m k : Int), H hd = some (.lst [.ref c, .int i, .int b, .int m, .int k]) ∧ 0 ≤ i
/-- all that stood stands, but for the hand's own list -/
structure G (o : Option (Addr × Addr)) (H H' : Hp) : Prop where
  keep : ∀ a u, (∀ p, o = some p → a ≠ p.1) → H a = some u → H' a = some u
  tups : Ts H H'
  hand : ∀ p, o = some p → Hand H p.1 p.2 → Hand H' p.1 p.2
theorem G.refl {o : Option (Addr × Addr)} {H : Hp} : G o H H := ⟨fun _ _ _ h => h, fun _ _ h => h, fun _ _ h => h⟩
theorem G.trans {o : Option (Addr × Addr)} {H H1 H2 : Hp} (a : G o H H1) (b : G o H1 H2) : G o H H2 :=
  ⟨fun x u n h => b.keep x u n (a.keep x u n h), fun x xs h => b.tups x xs (a.tups x xs h), fun p e h => b.hand p e (a.hand p e h)⟩
theorem G.all {H H' : Hp} (g : G none H H') (a : Addr) (u : HO) (h : H a = some u) : H' a = some u := g.keep a u (fun p e => nomatch e) h
theorem G.of_all {o : Option (Addr × Addr)} {H H' : Hp} (k : ∀ a u, H a = some u → H' a = some u) : G o H H' :=
  ⟨fun a u _ h => k a u h, fun a xs h => h.elim (fun h => .inl (k _ _ h)) fun ⟨ob, h⟩ => .inr ⟨ob, k _ _ h⟩,
    fun p _ ⟨n, ⟨ns, h1⟩, i, b, m, z, h2, h3⟩ => ⟨n, ⟨ns, k _ _ h1⟩, i, b, m, z, k _ _ h2, h3⟩⟩
theorem G.up {o : Option (Addr × Addr)} {H H' : Hp} (g : G none H H') : G o H H' := G.of_all g.all
theorem G.alloc {o : Option (Addr × Addr)} {H : Hp} {p : Addr} {u : HO} (h : H p = none) : G o H (upd H p u) := G.of_all fun a w e => by
  rw [upd_ne (ne_of_none e h)]; exact e
/-- a thing that H does not know is changed -/
theorem G.mut {o : Option (Addr × Addr)} {H H' : Hp} {l : Addr} {u : HO} (g : G o H H') (h : H l = none) (hh : ∀ p, o = some p → Hand H p.1 p.2) : G o H (upd H' l u) := by
  refine ⟨fun a w n e => ?_, fun a xs e => ?_, fun p e x => ?_⟩
  · rw [upd_ne (ne_of_none e h)]; exact g.keep a w n e
  · have ne : a ≠ l := by
      rcases e with e | ⟨ob, e⟩ <;> exact ne_of_none e h
    rcases g.tups a xs e with q | ⟨ob, q⟩
    · exact .inl (by rw [upd_ne ne]; exact q)
    · exact .inr ⟨ob, by rw [upd_ne ne]; exact q⟩
  · obtain ⟨n0, ⟨ns0, h0⟩, i0, b0, m0, k0, h1, _⟩ := hh p e
    obtain ⟨n, ⟨ns, h2⟩, i, b, m, k, h3, h4⟩ := g.hand p e x
    exact ⟨n, ⟨ns, by rw [upd_ne (ne_of_none h0 h)]; exact h2⟩, i, b, m, k, by rw [upd_ne (ne_of_none h1 h)]; exact h3, h4⟩
theorem Hand.ne {H : Hp} {hd c l : Addr} (x : Hand H hd c) (h : H l = none) : l ≠ hd := fun e => by
  obtain ⟨_, _, _, _, _, _, h1, _⟩ := x
  rw [← e, h] at h1; cases h1
/-- an address that is not the hand's -/
def Off (o : Option (Addr × Addr)) (a : Addr) : Prop := ∀ p, o = some p → a ≠ p.1
theorem off_none {a : Addr} : Off none a := fun _ e => nomatch e
theorem off_new {hd c l : Addr} {H : Hp} (x : Hand H hd c) (h : H l = none) : Off (some (hd, c)) l := fun p e => by cases e; exact x.ne h
theorem off_ins {hd c a C dx : Addr} {fs : List (Str × V)} {H : Hp} (x : Hand H hd c) (h : H a = some (.ins C dx fs)) : Off (some (hd, c)) a := fun p e => by
  cases e
  obtain ⟨_, _, _, _, _, _, h1, _⟩ := x
  exact ne_of h h1 (by intro z; cases z)
theorem off_dK {hd c a : Addr} {kvs : List (Key × V)} {H : Hp} (x : Hand H hd c) (h : H a = some (.dK kvs)) : Off (some (hd, c)) a := fun p e => by
  cases e
  obtain ⟨_, _, _, _, _, _, h1, _⟩ := x
  exact ne_of h h1 (by intro z; cases z)

/-! ### data without lists -/
mutual
def nl : PyData → Bool
  | .list _ => false
  | .dict _ => false
  | .tuple ds => nls ds
  | .none => true
  | .bool _ => true
  | .int _ => true
  | .str _ => true
def nls : List PyData → Bool
  | [] => true
  | d :: ds => nl d && nls ds
end
theorem nls_iff : ∀ {ds : List PyData}, nls ds = true ↔ ∀ d ∈ ds, nl d = true
  | [] => by simp [nls]
  | d :: ds => by simp [nls, nls_iff (ds := ds)]
section
variable {K : PySem.W.Frag} {H H' : Hp}
theorem sqT_t (t : Ts H H') {a : Addr} {xs : List V} (h : SqT K H a xs) : SqT K H' a xs := h.elim (fun h => .inl (t _ _ h)) .inr
mutual
theorem dp_t (t : Ts H H') : ∀ (d : PyData) (v : V), nl d = true → Dp K H v d → Dp K H' v d
  | .none, _, _, h => by cases h; exact .non
  | .bool b, _, _, h => by cases h; exact .bl b
  | .int i, _, _, h => by cases h; exact .int i
  | .str x, _, _, h => by cases h; exact .str x
  | .list ds, _, n, _ => by simp [nl] at n
  | .dict ds, _, n, _ => by simp [nl] at n
  | .tuple ds, _, n, h => by
    cases h with
    | tup hs ha => exact .tup (sqT_t t hs) (dpAll_t t ds _ (by simpa [nl] using n) ha)
theorem dpAll_t (t : Ts H H') : ∀ (ds : List PyData) (vs : List V), nls ds = true → DpAll K H vs ds → DpAll K H' vs ds
  | [], _, _, h => by cases h; exact .nil
  | d :: ds, _, n, h => by
    cases h with
    | cons h1 h2 =>
      have n' : nl d = true ∧ nls ds = true := by simpa [nls] using n
      exact .cons (dp_t t d _ n'.1 h1) (dpAll_t t ds _ n'.2 h2)
end
theorem DpAll.length : ∀ {vs : List V} {ds : List PyData}, DpAll K H vs ds → vs.length = ds.length
  | _, _, .nil => rfl
  | _, _, .cons _ t => by simp [DpAll.length t]
theorem DpAll.get : ∀ {vs : List V} {ds : List PyData} {i : Nat} {v : V}, DpAll K H vs ds → vs[i]? = some v → ∃ d, ds[i]? = some d ∧ Dp K H v d
  | _, _, _, _, .nil, e => by simp at e
  | _, _, 0, _, .cons h _, e => by simp at e; subst e; exact ⟨_, rfl, h⟩
  | _, _, i + 1, v, .cons _ t, e => by
    obtain ⟨d, h1, h2⟩ := DpAll.get (i := i) (v := v) t (by simpa using e)
    exact ⟨d, by simpa using h1, h2⟩
theorem DpAll.get' : ∀ {vs : List V} {ds : List PyData} {i : Nat} {d : PyData}, DpAll K H vs ds → ds[i]? = some d → ∃ v, vs[i]? = some v ∧ Dp K H v d
  | _, _, _, _, .nil, e => by simp at e
  | _, _, 0, _, .cons h _, e => by simp at e; subst e; exact ⟨_, rfl, h⟩
  | _, _, i + 1, d, .cons _ t, e => by
    obtain ⟨v, h1, h2⟩ := DpAll.get' (i := i) (d := d) t (by simpa using e)
    exact ⟨v, by simpa using h1, h2⟩
theorem DpAll.app : ∀ {vs ws : List V} {ds es : List PyData}, DpAll K H vs ds → DpAll K H ws es → DpAll K H (vs ++ ws) (ds ++ es)
  | _, _, _, _, .nil, h => h
  | _, _, _, _, .cons h t, h' => .cons h (DpAll.app t h')
theorem DpAll.one {v : V} {d : PyData} (h : Dp K H v d) : DpAll K H [v] [d] := .cons h .nil
theorem DpAll.ints : ∀ (ns : List Int), DpAll K H (ns.map V.int) (ns.map PyData.int)
  | [] => .nil
  | n :: ns => .cons (.int n) (DpAll.ints ns)
theorem DpAll.of_ints : ∀ {ns : List Int} {vs : List V}, DpAll K H vs (ns.map PyData.int) → vs = ns.map V.int
  | [], _, .nil => rfl
  | n :: ns, _, .cons h t => by cases h; rw [DpAll.of_ints t]; rfl
end
/-- a tuple of ints, a pair, a tuple of pairs -/
abbrev dI (ns : List Int) : PyData := .tuple (ns.map PyData.int)
abbrev dP (w : Int × Int) : PyData := .tuple [.int w.1, .int w.2]
abbrev dW (ws : List (Int × Int)) : PyData := .tuple (ws.map dP)
theorem nls_ints (ns : List Int) : nls (ns.map PyData.int) = true := by rw [nls_iff]; intro d h; simp only [List.mem_map] at h; obtain ⟨n, _, rfl⟩ := h; rfl
theorem nls_pairs (ws : List (Int × Int)) : nls (ws.map dP) = true := by rw [nls_iff]; intro d h; simp only [List.mem_map] at h; obtain ⟨n, _, rfl⟩ := h; rfl
theorem nl_dI (ns : List Int) : nl (dI ns) = true := by show nls _ = true; exact nls_ints ns
theorem nl_dP (w : Int × Int) : nl (dP w) = true := rfl
theorem nl_dW (ws : List (Int × Int)) : nl (dW ws) = true := by show nls _ = true; exact nls_pairs ws
section
variable {K : PySem.W.Frag} {H H' : Hp}
theorem dp_dI {v : V} {ns : List Int} (h : Dp K H v (dI ns)) : ∃ a, v = .ref a ∧ SqT K H a (ns.map V.int) := by
  cases h with
  | tup hs ha => exact ⟨_, rfl, by rw [← DpAll.of_ints ha]; exact hs⟩
theorem dp_dP {v : V} {w : Int × Int} (h : Dp K H v (dP w)) : ∃ a, v = .ref a ∧ SqT K H a [.int w.1, .int w.2] := by
  cases h with
  | tup hs ha =>
    cases ha with
    | cons h1 t =>
      cases t with
      | cons h2 t =>
        cases t; cases h1; cases h2
        exact ⟨_, rfl, hs⟩
theorem dp_tup {v : V} {ds : List PyData} (h : Dp K H v (.tuple ds)) : ∃ a vs, v = .ref a ∧ SqT K H a vs ∧ DpAll K H vs ds := by
  cases h with
  | tup hs ha => exact ⟨_, _, rfl, hs, ha⟩
theorem dp_ofI {a : Addr} {ns : List Int} (h : SqT K H a (ns.map V.int)) : Dp K H (.ref a) (dI ns) := .tup h (DpAll.ints ns)
theorem dp_ofP {a : Addr} {i j : Int} (h : SqT K H a [.int i, .int j]) : Dp K H (.ref a) (dP (i, j)) := .tup h (.cons (.int i) (.cons (.int j) .nil))
end

/-! ### steps: a reading by its first part -/
section
variable {K : PySem.W.Frag} {σ : L2.St} {H : Hp} {Q : VK} {QB : Bool → Hp → Prop} {D : Ends} {ta tb tc te : TE} {t u : TT} {ts tu : TS} {r r' : R2} {v x y : V} {i j : Int} {n : Nat} {b : Bool} {A B : Prop}
theorem w_var {i : Nat} (h : σ[i]? = some (some v)) (q : Q v H) : tVar i σ H Q := ⟨v, h, q⟩
theorem w_c (q : Q v H) : tC v σ H Q := q
theorem w_op (q : ta σ H fun x H1 => tb σ H1 fun y H2 => r x y H2 Q) : tOp r ta tb σ H Q := q
theorem w_un {f : V → Hp → VK → Prop} (q : ta σ H fun x H1 => f x H1 Q) : tUn f ta σ H Q := q
theorem w_seq (q : ts { D with nx := tu D } σ H) : tSeq ts tu D σ H := q
theorem w_next (q : D.nx σ H) : tNext D σ H := q
theorem w_break (q : D.bk σ H) : tBreak D σ H := q
theorem w_set {i : Nat} (q : te σ H fun x H1 => D.nx (σ.set i (some x)) H1) : tAsg te (gName i) D σ H := q
theorem w_asg {g : TG} (q : te σ H fun x H1 => g x σ H1 D.nx) : tAsg te g D σ H := q
theorem w_drop (q : te σ H fun _ H1 => D.nx σ H1) : tDrop te D σ H := q
theorem w_ret (q : te σ H D.rt) : tRet te D σ H := q
theorem w_retN (q : D.rt .non H) : tRetN D σ H := q
theorem w_ifS (q : t σ H fun b H1 => if b = true then ts D σ H1 else tu D σ H1) : tIfS t ts tu D σ H := q
theorem w_test (q : te σ H fun x H' => ∃ k, x = .bl k ∧ QB k H') : tTest te σ H QB := q
theorem w_tB (q : te σ H fun x H' => ∃ k, x = .bl k ∧ QB k H') : tB te σ H QB := q
theorem w_bl (q : QB b H) : ∃ k, V.bl b = .bl k ∧ QB k H := ⟨b, rfl, q⟩
theorem w_not (q : t σ H fun c H1 => QB (!c) H1) : tNot t σ H QB := q
theorem w_and (q : t σ H fun c H1 => if c = true then u σ H1 QB else QB false H1) : tAnd t u σ H QB := q
theorem w_or (q : t σ H fun c H1 => if c = true then QB true H1 else u σ H1 QB) : tOr t u σ H QB := q
theorem w_andV (q : ta σ H fun x H1 => ∃ c, x = .bl c ∧ if c = true then tb σ H1 Q else Q (.bl false) H1) : tAndV ta tb σ H Q := q
theorem w_orV (q : ta σ H fun x H1 => ∃ c, x = .bl c ∧ if c = true then Q (.bl true) H1 else tb σ H1 Q) : tOrV ta tb σ H Q := q
theorem w_notV (q : ta σ H fun x H1 => ∃ c, x = .bl c ∧ Q (.bl (!c)) H1) : tNotV ta σ H Q := q
theorem w_if (q : t σ H fun c H1 => if c = true then ta σ H1 Q else tb σ H1 Q) : tIf t ta tb σ H Q := q
theorem w_blc {F : Bool → Prop} (q : F b) : ∃ c, V.bl b = .bl c ∧ F c := ⟨b, rfl, q⟩
theorem w_nil {QA : List V → Hp → Prop} (q : QA [] H) : tNil σ H QA := q
theorem w_cons {tr : TA} {QA : List V → Hp → Prop} (q : te σ H fun x H1 => tr σ H1 fun xs H2 => QA (x :: xs) H2) : tCons te tr σ H QA := q
theorem w_CB {f : List V → Hp → VK → Prop} {tr : TA} (q : tr σ H fun vs H1 => f vs H1 Q) : tCB f tr σ H Q := q
theorem w_call {sp : Sp} {E : XK} {tr : TA} (q : tr σ H fun vs H1 => sp (vs ++ []) H1 Q E) : tCall sp [] E tr σ H Q := q
theorem w_tup {tr : TA} (q : tr σ H fun xs H1 => xs.length ≤ sizeLine ∧ ∀ p, H1 p = none → Q (.ref p) (upd H1 p (.tup xs))) : tTup tr σ H Q := q
theorem w_lst {tr : TA} (q : tr σ H fun xs H1 => xs.length ≤ sizeLine ∧ ∀ p, H1 p = none → Q (.ref p) (upd H1 p (.lst xs))) : tLst tr σ H Q := q
theorem w_chain (q : ta σ H fun x H1 => tb σ H1 fun y H2 => r x y H2 fun z H3 => ∃ k, z = .bl k ∧ (if k = true then tc σ H3 fun w' H4 => r' y w' H4 Q else Q (.bl false) H3)) : tChain r r' ta tb tc σ H Q := q
theorem w_sl {f : V → Option Int → Option Int → Hp → VK → Prop} {tl th : TO} (q : te σ H fun x H1 => tl σ H1 fun l H2 => th σ H2 fun u H3 => f x l u H3 Q) : tSl f te tl th σ H Q := q
theorem w_part {QO : Option Int → Hp → Prop} (q : te σ H fun x H1 => ∃ i, x = .int i ∧ QO (some i) H1) : tPart te σ H QO := q
theorem w_noPart {QO : Option Int → Hp → Prop} (q : QO none H) : tNoPart σ H QO := q
theorem w_inti {F : Int → Prop} (q : F i) : ∃ k, V.int i = .int k ∧ F k := ⟨i, rfl, q⟩
theorem w_fld {f : Str} (q : te σ H fun x H1 => ∃ a C dx fs v, x = .ref a ∧ H1 a = some (.ins C dx fs) ∧ Cls K C ∧ NoAttr K C f ∧ fs.lookup f = some v ∧ Q v H1) : tFld K te f σ H Q := q
theorem w_sfld {f : Str} (q : tb σ H fun y H1 => ta σ H1 fun x H2 => ∃ a C dx fs, x = .ref a ∧ H2 a = some (.ins C dx fs) ∧ Cls K C ∧ NoAttr K C f ∧ fs.length < 1000 ∧ D.nx σ (upd H2 a (.ins C dx (putF f y fs)))) : sFld K ta tb f D σ H := q
theorem w_gsub {to ti : TE} {s : TSet} {QS : L2.St → Hp → Prop} (q : to σ H fun o H1 => ti σ H1 fun i H2 => s o i v H2 fun H3 => QS σ H3) : gSub to ti s v σ H QS := q
theorem w_gname {i : Nat} {QS : L2.St → Hp → Prop} (q : QS (σ.set i (some v)) H) : gName i v σ H QS := q
/-! by values -/
theorem r_I0 {g : Int → Int → V} (q : Q (g i j) H) : rI0 g (.int i) (.int j) H Q := ⟨i, j, rfl, rfl, q⟩
theorem r_I {C : Int → Int → Prop} {g : Int → Int → V} (c : C i j) (q : Q (g i j) H) : rI C g (.int i) (.int j) H Q := ⟨i, j, rfl, rfl, c, q⟩
theorem r_U {g : Int → V} (q : Q (g i) H) : rU g (.int i) H Q := ⟨i, rfl, q⟩
theorem r_eqI (q : Q (.bl (decide (i = j))) H) : rEq (.int i) (.int j) H Q := ⟨rfl, by
  have e : decide (V.int i = V.int j) = decide (i = j) := by simp
  rw [e]; exact q⟩
theorem r_neI (q : Q (.bl (!decide (i = j))) H) : rNe (.int i) (.int j) H Q := ⟨rfl, by
  have e : decide (V.int i = V.int j) = decide (i = j) := by simp
  rw [e]; exact q⟩
theorem r_eqB {a b : Bool} (q : Q (.bl (decide (a = b))) H) : rEq (.bl a) (.bl b) H Q := ⟨rfl, by
  have e : decide (V.bl a = V.bl b) = decide (a = b) := by simp
  rw [e]; exact q⟩
theorem r_neB {a b : Bool} (q : Q (.bl (!decide (a = b))) H) : rNe (.bl a) (.bl b) H Q := ⟨rfl, by
  have e : decide (V.bl a = V.bl b) = decide (a = b) := by simp
  rw [e]; exact q⟩
theorem r_ixT {p : Addr} {xs : List V} (h : SqT K H p xs) (e : atI xs i = some v) (q : Q v H) : rIxT K (.ref p) (.int i) H Q := ⟨p, xs, i, v, rfl, rfl, h, e, q⟩
theorem r_ixL {p : Addr} {xs : List V} (h : SqL K H p xs) (e : atI xs i = some v) (q : Q v H) : rIxL K (.ref p) (.int i) H Q := ⟨p, xs, i, v, rfl, rfl, h, e, q⟩
theorem w_ite (h1 : b = true → A) (h2 : b = false → B) : if b = true then A else B := by
  cases b with
  | true => exact h1 rfl
  | false => exact h2 rfl
theorem w_newT {o : Option (Addr × Addr)} {xs : List V} (q : ∀ p H1, H p = none → G o H H1 → H1 p = some (.tup xs) → Q (.ref p) H1) (hz : xs.length ≤ 100000 := by simp) : xs.length ≤ sizeLine ∧ ∀ p, H p = none → Q (.ref p) (upd H p (.tup xs)) :=
  ⟨Nat.le_trans hz (by decide), fun p hp => q p _ hp (G.alloc hp) upd_same⟩
theorem w_newL {o : Option (Addr × Addr)} {xs : List V} (q : ∀ p H1, H p = none → G o H H1 → H1 p = some (.lst xs) → Q (.ref p) H1) (hz : xs.length ≤ 100000 := by simp) : xs.length ≤ sizeLine ∧ ∀ p, H p = none → Q (.ref p) (upd H p (.lst xs)) :=
  ⟨Nat.le_trans hz (by decide), fun p hp => q p _ hp (G.alloc hp) upd_same⟩
end
end GA
/-! ## GB -/
namespace PySem
open Sem (wp)
open AutoSeq1 (wpAny_loadPart')
theorem ga_enumerate_newT (l : Addr) (items : Array Value) :
    Meets (Builtin.«enumerate.__new__» ⟨[.type "enumerate", .ref l], []⟩) (fun _ R s => s.heap.IsTuple l items ∧
      R (.ok (.ret (.ref (s.heap.push { cls := .type "tuple_iterator", data := .fields #[.ref l, .int 0 0] }).objs.size)))
        { s with heap := (s.heap.push { cls := .type "tuple_iterator", data := .fields #[.ref l, .int 0 0] }).push { cls := .type "enumerate", data := .fields #[.none, .bool false, .ref s.heap.objs.size, rawInt 0, .none, .none] } }) :=
  .of_wp fun prog w A R s h => by
    obtain ⟨hp, g, d, tk, os⟩ := s; obtain ⟨hl, h⟩ := h
    have hsub := sub_enumerate
    have hL : Heap.IsTuple (Shared.heap ⟨hp, g, d, tk, os⟩) l items := hl
    obtain ⟨ob, hob, _⟩ := id hl
    wp_walk using wpAny_loadPart' hob
    refine wpAny_stack_any fun st => wpAny_pure ?_
    split
    · rename_i c _ _ _ _ _
      cases (c == Value.type "enumerate")
      · wp_walk using wpAny_loadPart' hob, wpAny_pyIter_tuple hL
        exact ⟨_, rfl, h⟩
      · wp_walk using wpAny_loadPart' hob, wpAny_pyIter_tuple hL
        exact ⟨_, rfl, h⟩
    · wp_walk using wpAny_loadPart' hob, wpAny_pyIter_tuple hL
      exact ⟨_, rfl, h⟩
theorem ga_enumerate_tuple {prog : Program} {w : World} {A : Around} {E : Value → Shared → Prop} {s : Shared} {l : Addr} {items : Array Value} {Q : Value → Shared → Prop} (hL : s.heap.IsTuple l items)
    (h : ∀ h', IsEnum h' (s.heap.objs.size + 1) s.heap.objs.size 0 .none → h'.IsTupleIter s.heap.objs.size l 0 → h'.objs.size = s.heap.objs.size + 2 →
      (∀ b o, s.heap.get? b = some o → h'.get? b = some o) → Q (.ref (s.heap.objs.size + 1)) { s with heap := h' }) :
    wpAny (model prog w) A (call (.type "enumerate") [.ref l]) Q E s := by
  refine callType_new F.called_enumerate (by decide) (F.typeCall_enumerate_1 _) (F.newCall_enumerate_1 _) (fun obj => F.args_object_init_2 obj _) F.entry_enumerate_new
    (ga_enumerate_newT l items) ⟨hL, ?_⟩
  have hz : (s.heap.push { cls := .type "tuple_iterator", data := .fields #[.ref l, .int 0 0] }).objs.size = s.heap.objs.size + 1 := Heap.size_push ..
  show _ ∧ _
  rw [hz]
  have he : IsEnum ((s.heap.push { cls := .type "tuple_iterator", data := .fields #[.ref l, .int 0 0] }).push
      { cls := .type "enumerate", data := .fields #[.none, .bool false, .ref s.heap.objs.size, rawInt 0, .none, .none] }) (s.heap.objs.size + 1) s.heap.objs.size 0 .none := by
    have := Heap.get?_push_size (s.heap.push { cls := .type "tuple_iterator", data := .fields #[.ref l, .int 0 0] })
      (o := { cls := .type "enumerate", data := .fields #[.none, .bool false, .ref s.heap.objs.size, rawInt 0, .none, .none] }) rfl
    rw [hz] at this; exact this
  refine ⟨⟨_, he, rfl⟩, h _ he ⟨_, Heap.get?_push_of_some _ (Heap.get?_push_size _ rfl), rfl, rfl⟩ (by rw [Heap.size_push, hz]) fun b o x => Heap.get?_push_of_some _ (Heap.get?_push_of_some _ x)⟩
end PySem
namespace GA
open PySem PySem.Spec PyProof.Rows L2
/-- enumerate over a tuple -/
def IteT (K : PySem.W.Frag) (a : Addr) : It :=
  ⟨fun i H => ∃ (xs : List V) (x : V), SqT K H a xs ∧ xs[i]? = some x, fun i H v H' => ∃ T x, v = .ref T ∧ H T = none ∧ H' = upd H T (.tup [.int (i : Nat), x]) ∧ ∀ xs, SqT K H a xs → xs[i]? = some x, fun i H => ∃ xs : List V, SqT K H a xs ∧ xs.length ≤ i⟩
theorem turn_enumT {P : Program} {w : World} {K : PySem.W.Frag} {elts : List Expr} {kk : Nat} {tpos : Pos} (a e it : Addr) (nai : a ≠ it) (nae : a ≠ e) :
    Turn P w K (.Tuple elts kk tpos) (IteT K a) [e, it] e (fun i h => (∃ old, IsEnum h e it ((i : Nat) : Int) old) ∧ h.IsTupleIter it a i ∧ e ≠ it) where
  mem := by simp
  obj := fun i h st b hb => by
    obtain ⟨⟨old, he⟩, ⟨o, ho, hc, hd⟩, _⟩ := st
    have e' : b = e ∨ b = it := by simpa using hb
    rcases e' with z | z
    · rw [z]; exact ⟨_, he, fun v q => nomatch q⟩
    · rw [z]; exact ⟨o, ho, fun v q => by rw [hd] at q; cases q⟩
  keep := fun i h h' st k => let ⟨⟨old, he⟩, hi, hne⟩ := st; ⟨⟨old, k e (by simp) _ he⟩, hi.at fun o q => k it (by simp) o q, hne⟩
  item := by
    intro X hP hw hK hc i pins s σ H E I hf st hg
    subst hP hw hK
    obtain ⟨⟨old, he⟩, hit, hne⟩ := st
    obtain ⟨xs, x, hq, hx⟩ := hg
    obtain ⟨its, rv, p, hz⟩ := I.tuple hq
    obtain ⟨u, hu, ru⟩ := rv.get hx
    have hel : e < s.heap.objs.size := Heap.lt_size he
    have hil : it < s.heap.objs.size := by obtain ⟨_, q, _⟩ := hit; exact Heap.lt_size q
    have hi : i < its.toArray.size := by
      have := (List.getElem?_eq_some_iff.mp hu).1
      simpa using this
    refine wpAny_pyNext_enum_itemD (Draws.tuple (prog := X.prog) (w := X.w) (A := X.A.in1) (I.ok.hd hc) it a nai its.toArray) he ⟨hit, p⟩ hi hne (by simp [hne, Ne.symm nae]) fun v h' tk hv ho hst hT hsz hk => ?_
    have ev : v = u := by
      have z : its.toArray[i]? = some u := by simpa using hu
      rw [z] at hv; exact (Option.some.inj hv).symm
    subst ev
    refine ⟨_, rfl, wpAny_letOwnedTupleGo_enum (s := { s with heap := h', toks := tk + 1 }) ho fun h'' he' sb => ?_⟩
    have hT2 : h''.get? s.heap.objs.size = some { cls := .type "tuple", data := .seq #[.int i tk, v] } := (sb.2 _ (Nat.ne_of_gt hel)).trans hT
    have new : ObjOk X.prog X.w (upd H s.heap.objs.size (.tup [.int (i : Nat), x])) h'' s.heap.objs.size (.tup [.int (i : Nat), x]) :=
      ⟨by show 2 ≤ sizeLine; decide, [.int i tk, v], .cons ⟨_, rfl⟩ (.cons ru .nil), ⟨_, hT2, rfl, _, rfl⟩⟩
    have I1 : Inv X pins σ (upd H s.heap.objs.size (.tup [.int (i : Nat), x])) { s with heap := h'', toks := tk + 1 } :=
      I.turnedNew (ch := [e, it]) (fun b ob hb q => (sb.2 b (fun z => hb (by simp [z]))).trans (hk b ob (fun z => hb (by simp [z])) (fun z => hb (by simp [z])) q)) hf (Nat.le_refl _) new
    refine ⟨.ref s.heap.objs.size, _, I1, rfl, ⟨_, x, rfl, I.hok.fresh (Nat.le_refl _), rfl, fun ys hy => by rw [I.tuple_inj hy hq]; exact hx⟩, ⟨⟨v, ?_⟩, hst.1.at fun o q => (sb.2 it (Ne.symm hne)).trans q, hne⟩, fun b hb => ?_⟩
    · have e1 : ((i + 1 : Nat) : Int) = (i : Int) + 1 := by omega
      rw [e1]; exact he'
    · have hb' : b < s.heap.objs.size := by
        have e' : b = e ∨ b = it := by simpa using hb
        rcases e' with z | z
        · rw [z]; exact hel
        · rw [z]; exact hil
      rw [upd_ne (Nat.ne_of_lt hb')]
      exact (hf b hb).1
  done := by
    intro X hP hw hK hc i pins s σ H E I hf st hg
    subst hP hw hK
    obtain ⟨⟨old, he⟩, hit, hne⟩ := st
    obtain ⟨xs, hq, hx⟩ := hg
    obtain ⟨its, rv, p, hz⟩ := I.tuple hq
    obtain ⟨f0, f1, f2, f3, f4, f5⟩ := hf it (by simp)
    have hl := rv.length
    have hT : s.TypeIs (.ref e) "enumerate" := ⟨_, he, rfl⟩
    unfold pyNext
    refine wpAny_bind (wpAny_attempt (wpAny_callSpecial?_slot (name := Str.ofString "__next__") hT F.slot_enumerate_next
      (wpAny_call_entry F.slot_enumerate_next hT F.entry_enumerate_next ?_ (F.args_enumerate_next_1 _))))
    show wpAny _ _ (field (.ref e) 2 >>= _) _ _ _
    refine wpAny_bind (wpAny_field he rfl (x := .ref it) rfl ?_)
    refine wpAny_bind (wpAny_nextOf_tuple_end (I.ok.hd hc) hit p (by simp; omega) fun h' x' he' hx' => ?_)
    obtain ⟨o, ho, hc'⟩ := hx'
    refine wpAny_bind (wpAny_isInstance (T := "StopIteration") (b := true) ⟨o, ho, hc'⟩ isSubtype_stop ?_)
    exact wpAny_pure ⟨rfl, I.turned (t' := s.toks) (fun b o hb q => he' b o hb q) f0 f1 f3 f4 f5⟩
  self := by
    intro A i s Q E st h
    obtain ⟨⟨old, he⟩, _⟩ := st
    exact wpAny_pyIter_enum he h
def iEnumT (K : PySem.W.Frag) (ta : TA) : TI := fun σ H R => ta σ H fun vs H1 => ∃ a xs, vs = [.ref a] ∧ SqT K H1 a xs ∧ R (IteT K a) H1
theorem pi_enumT {X : Cx} {e : Expr} {ta : TA} {p pos tpos : Pos} {elts : List Expr} {kk : Nat} (hg : Gl X "enumerate") (hm : X.mg "enumerate" = none) (ha : PA X [e] ta) (hs : starEach [e] X.env = [(false, eval e X.env)] := by rfl) :
    PI X (.Tuple elts kk tpos) (.Call (.Name "enumerate" p) [e] [] pos) (iEnumT X.K ta) := by
  refine ⟨fun pins s σ H R I h => ?_⟩
  refine Call_ (ld_blt I hg hm boot_enumerate (PyProof.Rows.callWith_type1 (thn (ha.run pos pins s σ H _ I h) fun us s1 ⟨vs, H1, I1, r1, q1⟩ => ?_) hs rfl))
  obtain ⟨a, xs, ex, hq, q⟩ := q1
  subst ex
  cases r1 with
  | cons r rr =>
    cases rr
    cases r
    obtain ⟨its, rv, p', hz⟩ := I1.tuple hq
    have hal : a < s1.heap.objs.size := p'.lt
    refine ga_enumerate_tuple p' fun h' he hit hsz hk => wpAny_pyIter_enum he ?_
    have I2 : Inv X pins σ H1 { s1 with heap := h' } := I1.kept (t' := s1.toks) hk
    refine ⟨s1.heap.objs.size + 1, [s1.heap.objs.size + 1, s1.heap.objs.size], _, _, H1, rfl, I2, turn_enumT a (s1.heap.objs.size + 1) s1.heap.objs.size (Nat.ne_of_lt hal) (Nat.ne_of_lt (Nat.lt_succ_of_lt hal)), ⟨⟨.none, he⟩, hit, Nat.succ_ne_self _⟩, fun b hb => ?_, q⟩
    have e' : b = s1.heap.objs.size + 1 ∨ b = s1.heap.objs.size := by simpa using hb
    have hle : s1.heap.objs.size ≤ b := by
      rcases e' with z | z
      · rw [z]; exact Nat.le_add_right _ _
      · rw [z]; exact Nat.le_refl _
    exact I1.fpOk hle (I1.hok.fresh hle)
theorem walk_enumT {K : PySem.W.Frag} {a : Addr} {xs : List V} : Walk (IteT K a) xs.length (fun H => SqT K H a xs) (YPair (fun i => some (.int (i : Nat))) (fun i => xs[i]?)) := by
  refine ⟨fun i _ hi q => ⟨xs, xs[i], q, by simp [hi]⟩, fun _ q => ⟨xs, q, Nat.le_refl _⟩, fun i H v H' _ q y => ?_⟩
  obtain ⟨T, x, h1, h2, h3, h4⟩ := y
  exact ⟨T, .int (i : Nat), x, h1, h2, h3, rfl, h4 xs q⟩
end GA
/-! ## GC -/
namespace GA
open PySem L2
theorem Ts.of {H H' : Hp} (k : ∀ a u, H a = some u → (∀ xs, u ≠ .lst xs) → H' a = some u) : Ts H H' := fun a xs h => h.elim (fun h => .inl (k a _ h fun _ z => nomatch z)) fun ⟨ob, h⟩ => .inr ⟨ob, k a _ h fun _ z => nomatch z⟩
theorem Ts.updl {H : Hp} {D : Addr} {xs : List V} {u : HO} (h : H D = some (.lst xs)) : Ts H (upd H D u) := Ts.of fun a w e n => by
  rw [upd_ne (ne_of e h (n xs))]; exact e
theorem Ts.trans {H H1 H2 : Hp} (a : Ts H H1) (b : Ts H1 H2) : Ts H H2 := fun x xs h => b x xs (a x xs h)
section
variable {K : PySem.W.Frag} {J : It} {n : Nat} {Gd : Hp → Prop} {Y : Nat → Hp → V → Hp → Prop} {o : Option (Addr × Addr)} {H1 : Hp} {D : Addr} {g : TG} {tt : TT} {te : TE} {vs : List Nat} {σ : L2.St} {Qd : Hp → Prop}
/-- a comprehension: what it has made as data; Pv by the turn, the data, the heap -/
theorem lc_data (wk : Walk J n Gd Y) (hn : n ≤ 100000) (hD : H1 D = none) (hh : ∀ p, o = some p → Hand H1 p.1 p.2) (Pv : Nat → List PyData → Hp → Prop)
    (stab : ∀ i acc H xs l, Pv i acc H → H D = some (.lst xs) → Pv i acc (upd H D (.lst l)))
    (h0 : Pv 0 [] (upd H1 D (.lst [])))
    (hG : ∀ i acc H, G o H1 H → Pv i acc H → Gd H)
    (hs : ∀ i x acc H H', i < n → G o H1 H → Pv i acc H → Y i H x H' → ∀ (Qy : V → Hp → Prop) (Qn : Hp → Prop), (∀ y H4 e, G o H H4 → Dp K H4 y e → nl e = true → Pv (i + 1) (acc ++ [e]) H4 → Qy y H4) → (∀ H3, G o H H3 → Pv (i + 1) acc H3 → Qn H3) →
      g x (wipe σ vs) H' fun σ2 H2 => wipe σ2 vs = wipe σ vs ∧ tt σ2 H2 fun b H3 => if b = true then te σ2 H3 Qy else Qn H3)
    (hd : ∀ ds xs H', Pv n ds H' → G o H1 H' → H' D = some (.lst xs) → DpAll K H' xs ds → nls ds = true → Qd H') :
    ∃ W : Nat → Nat → Hp → Prop, (∃ m, W 0 m (upd H1 D (.lst []))) ∧ ∀ i m H, W i m H →
      (J.stop i H ∧ Qd H) ∨ (J.go i H ∧ ∃ Nx : Hp → Prop, (∀ H', Nx H' → ∃ m', m' < m ∧ W (i + 1) m' H') ∧ ∀ x H', J.yld i H x H' → g x (wipe σ vs) H' fun σ2 H2 => wipe σ2 vs = wipe σ vs ∧ tt σ2 H2 fun b H3 =>
        if b = true then te σ2 H3 fun y H4 => ∃ acc, H4 D = some (.lst acc) ∧ acc.length < sizeLine ∧ Nx (upd H4 D (.lst (acc ++ [y]))) else Nx H3) := by
  have offD : ∀ p, o = some p → D ≠ p.1 := fun p e => (hh p e).ne hD
  refine lc_it wk (fun i H => ∃ ds xs, G o H1 H ∧ Pv i ds H ∧ H D = some (.lst xs) ∧ DpAll K H xs ds ∧ nls ds = true ∧ xs.length ≤ i) ?_ ?_ ?_ ?_
  · exact ⟨[], [], (G.refl).mut hD hh, h0, upd_same, .nil, rfl, Nat.le_refl _⟩
  · rintro i H _ ⟨ds, xs, q1, q2, _⟩
    exact hG i ds H q1 q2
  · rintro i x H H' hi ⟨ds, xs, q1, q2, q3, q4, q5, q6⟩ y
    have keepD : ∀ {H4 : Hp}, G o H H4 → H4 D = some (.lst xs) := fun g4 => g4.keep D _ offD q3
    refine hs i x ds H H' hi q1 q2 y _ _ (fun v H4 e g4 he ne hp => ?_) fun H3 g3 hp => ⟨ds, xs, q1.trans g3, hp, keepD g3, dpAll_t g3.tups _ _ q5 q4, q5, by omega⟩
    have hD4 := keepD g4
    have t4 : Ts H4 (upd H4 D (.lst (xs ++ [v]))) := Ts.updl hD4
    refine ⟨xs, hD4, Nat.lt_of_le_of_lt (by omega : xs.length ≤ 100000) (by decide), ds ++ [e], xs ++ [v], (q1.trans g4).mut hD hh, stab _ _ _ _ _ hp hD4, upd_same, ?_, ?_, ?_⟩
    · exact DpAll.app (dpAll_t (g4.tups.trans t4) _ _ q5 q4) (DpAll.one (dp_t t4 e v ne he))
    · rw [nls_iff] at q5 ⊢
      intro d hd
      rcases List.mem_append.mp hd with z | z
      · exact q5 d z
      · have : d = e := by simpa using z
        rw [this]; exact ne
    · rw [List.length_append, List.length_singleton]; omega
  · rintro H ⟨ds, xs, q1, q2, q3, q4, q5, _⟩
    exact hd ds xs H q2 q1 q3 q4 q5
/-- one whose items are told by their places -/
theorem lc_pure (wk : Walk J n Gd Y) (hn : n ≤ 100000) (hD : H1 D = none) (hh : ∀ p, o = some p → Hand H1 p.1 p.2) (f : Nat → Option PyData)
    (hG : ∀ H, G o H1 H → Gd H)
    (hs : ∀ i x H H', i < n → G o H1 H → Y i H x H' → ∀ (Qy : V → Hp → Prop) (Qn : Hp → Prop), (∀ y H4 e, G o H H4 → Dp K H4 y e → nl e = true → f i = some e → Qy y H4) → (∀ H3, G o H H3 → f i = none → Qn H3) →
      g x (wipe σ vs) H' fun σ2 H2 => wipe σ2 vs = wipe σ vs ∧ tt σ2 H2 fun b H3 => if b = true then te σ2 H3 Qy else Qn H3)
    (hd : ∀ xs H', G o H1 H' → H' D = some (.lst xs) → DpAll K H' xs ((List.range n).filterMap f) → nls ((List.range n).filterMap f) = true → Qd H') :
    ∃ W : Nat → Nat → Hp → Prop, (∃ m, W 0 m (upd H1 D (.lst []))) ∧ ∀ i m H, W i m H →
      (J.stop i H ∧ Qd H) ∨ (J.go i H ∧ ∃ Nx : Hp → Prop, (∀ H', Nx H' → ∃ m', m' < m ∧ W (i + 1) m' H') ∧ ∀ x H', J.yld i H x H' → g x (wipe σ vs) H' fun σ2 H2 => wipe σ2 vs = wipe σ vs ∧ tt σ2 H2 fun b H3 =>
        if b = true then te σ2 H3 fun y H4 => ∃ acc, H4 D = some (.lst acc) ∧ acc.length < sizeLine ∧ Nx (upd H4 D (.lst (acc ++ [y]))) else Nx H3) := by
  refine lc_data (K := K) wk hn hD hh (fun i acc _ => acc = (List.range i).filterMap f) (fun _ _ _ _ _ h _ => h) rfl (fun _ _ H q _ => hG H q) ?_ ?_
  · rintro i x acc H H' hi q1 rfl y Qy Qn ky kn
    refine hs i x H H' hi q1 y Qy Qn (fun y H4 e g4 he ne hf => ky y H4 e g4 he ne ?_) fun H3 g3 hf => kn H3 g3 ?_
    · rw [List.range_succ, List.filterMap_append]; simp [hf]
    · rw [List.range_succ, List.filterMap_append]; simp [hf]
  · rintro ds xs H' rfl q1 q2 q3 q4
    exact hd xs H' q1 q2 q3 q4
end
theorem G.at_hd {H0 H' : Hp} {hd c : Addr} (x : Hand H0 hd c) (E : ∀ a, a ≠ hd → H' a = H0 a) {i b m k : Int} (h : H' hd = some (.lst [.ref c, .int i, .int b, .int m, .int k])) (hi : 0 ≤ i) : G (some (hd, c)) H0 H' ∧ Hand H' hd c := by
  obtain ⟨n, ⟨ns, h1⟩, i0, b0, m0, k0, h2, h3⟩ := x
  have hh : Hand H' hd c := ⟨n, ⟨ns, by rw [E c n]; exact h1⟩, i, b, m, k, h, hi⟩
  refine ⟨⟨fun a u z e => ?_, fun a xs e => ?_, fun p e _ => ?_⟩, hh⟩
  · rw [E a (z _ rfl)]; exact e
  · have na : a ≠ hd := by
      rcases e with e | ⟨ob, e⟩
      · exact ne_of e h2 (by intro z; cases z)
      · exact ne_of e h2 (by intro z; cases z)
    rcases e with e | ⟨ob, e⟩
    · exact .inl (by rw [E a na]; exact e)
    · exact .inr ⟨ob, by rw [E a na]; exact e⟩
  · cases e; exact hh
theorem mem_cutV {xs : List V} {lo hi : Option Int} {v : V} (h : v ∈ cutV xs lo hi) : v ∈ xs := by
  unfold cutV at h
  exact List.mem_of_mem_drop (List.mem_of_mem_take h)
theorem ints_of {xs : List V} (h : ∀ v ∈ xs, ∃ n : Int, v = .int n) : ∃ ns : List Int, xs = ns.map V.int := by
  induction xs with
  | nil => exact ⟨[], rfl⟩
  | cons x xs ih =>
    obtain ⟨n, rfl⟩ := h x List.mem_cons_self
    obtain ⟨ns, rfl⟩ := ih fun v hv => h v (List.mem_cons_of_mem _ hv)
    exact ⟨n :: ns, rfl⟩
/-! new objects, told by what they leave -/
theorem PE.weak {X : Cx} {e : Expr} {t t' : TE} (h : PE X e t) (w : ∀ σ H Q, t' σ H Q → t σ H Q) : PE X e t' := ⟨fun pins s σ H Q I q => h.run pins s σ H Q I (w σ H Q q)⟩
theorem CallR.weak {X : Cx} {f : Value} {r r' : List V → Hp → VK → Prop} (h : CallR X f r) (w : ∀ xs H Q, r' xs H Q → r xs H Q) : CallR X f r' := fun pins s σ H xs us Q I rv q => h pins s σ H xs us Q I rv (w xs H Q q)
theorem OpR.weak {X : Cx} {f : Value → Value → Sem Value} {r r' : R2} (h : OpR X f r) (w : ∀ x y H Q, r' x y H Q → r x y H Q) : OpR X f r' := fun pins s σ H x y v u Q I r1 r2 q => h pins s σ H x y v u Q I r1 r2 (w x y H Q q)
theorem SlR.weak {X : Cx} {r r' : V → Option Int → Option Int → Hp → VK → Prop} (h : SlR X r) (w : ∀ x l u H Q, r' x l u H Q → r x l u H Q) : SlR X r' := fun pins s σ H x v vl vu lo hi sl Q I r1 hs pl pu q => h pins s σ H x v vl vu lo hi sl Q I r1 hs pl pu (w x lo hi H Q q)
/-- for each new object u at p: F p H2 -/
def New (H : Hp) (u : HO) (F : Addr → Hp → Prop) : Prop := ∀ p H2, H p = none → (∀ o, G o H H2) → H2 p = some u → F p H2
theorem New.go {H : Hp} {u : HO} {F : Addr → Hp → Prop} (h : New H u F) {p : Addr} (hp : H p = none) : F p (upd H p u) := h p _ hp (fun _ => G.alloc hp) upd_same
def tTupN (t : TA) : TE := fun σ H Q => t σ H fun xs H1 => xs.length ≤ sizeLine ∧ New H1 (.tup xs) fun p H2 => Q (.ref p) H2
def tLstN (t : TA) : TE := fun σ H Q => t σ H fun xs H1 => xs.length ≤ sizeLine ∧ New H1 (.lst xs) fun p H2 => Q (.ref p) H2
section
variable {X : Cx} {es : List Expr} {t : TA} {pos : Pos}
theorem pe_tupN {x1} (h : PA X es t) : PE X (.Tuple es x1 pos) (tTupN t) := by
  have h' : PA X es (fun σ H QA => t σ H QA) := h
  refine ⟨fun pins s σ H Q I q => ?_⟩
  have hm : PA X es (fun σ H QA => t σ H (fun xs H1 => xs.length ≤ sizeLine ∧ New H1 (.tup xs) fun p H2 => Q (.ref p) H2) ∧ ∀ xs H1, (xs.length ≤ sizeLine ∧ New H1 (.tup xs) fun p H2 => Q (.ref p) H2) → QA xs H1) :=
    ⟨fun pos pins s σ H QA I q => wpAny_mono (h.run pos pins s σ H _ I q.1) (fun us s1 ⟨vs, H1, I1, r, z⟩ => ⟨vs, H1, I1, r, q.2 vs H1 z⟩) fun _ _ z => z⟩
  exact (pe_tup hm).run pins s σ H Q I ⟨q, fun xs H1 z => ⟨z.1, fun p hp => z.2.go hp⟩⟩
theorem pe_lstN (h : PA X es t) : PE X (.List es pos) (tLstN t) := by
  refine ⟨fun pins s σ H Q I q => ?_⟩
  have hm : PA X es (fun σ H QA => t σ H (fun xs H1 => xs.length ≤ sizeLine ∧ New H1 (.lst xs) fun p H2 => Q (.ref p) H2) ∧ ∀ xs H1, (xs.length ≤ sizeLine ∧ New H1 (.lst xs) fun p H2 => Q (.ref p) H2) → QA xs H1) :=
    ⟨fun pos pins s σ H QA I q => wpAny_mono (h.run pos pins s σ H _ I q.1) (fun us s1 ⟨vs, H1, I1, r, z⟩ => ⟨vs, H1, I1, r, q.2 vs H1 z⟩) fun _ _ z => z⟩
  exact (pe_lst hm).run pins s σ H Q I ⟨q, fun xs H1 z => ⟨z.1, fun p hp => z.2.go hp⟩⟩
end
/-- tuple(a list): a new tuple; tuple(a tuple): itself -/
def rTupleN (K : PySem.W.Frag) : List V → Hp → VK → Prop := fun xs H Q => ∃ p ys, xs = [.ref p] ∧ ((SqL K H p ys ∧ New H (.tup ys) fun l H2 => Q (.ref l) H2) ∨ (SqT K H p ys ∧ Q (.ref p) H))
theorem call_tupleN {X : Cx} : CallR X (.type "tuple") (rTupleN X.K) := CallR.weak call_tuple_of fun xs H Q h => by
  obtain ⟨p, ys, e, h | h⟩ := h
  · exact ⟨p, ys, e, .inl ⟨h.1, fun l hl => h.2.go hl⟩⟩
  · exact ⟨p, ys, e, .inr h⟩
def rListN (K : PySem.W.Frag) : List V → Hp → VK → Prop := fun xs H Q => ∃ p ys, xs = [.ref p] ∧ (SqL K H p ys ∨ SqT K H p ys) ∧ New H (.lst ys) fun l H2 => Q (.ref l) H2
theorem call_listN {X : Cx} : CallR X (.type "list") (rListN X.K) := CallR.weak call_list_of fun xs H Q h => by
  obtain ⟨p, ys, e, h, q⟩ := h
  exact ⟨p, ys, e, h, fun l hl => q.go hl⟩
theorem w_tupN {σ : L2.St} {H : Hp} {Q : VK} {tr : TA} (q : tr σ H fun xs H1 => xs.length ≤ sizeLine ∧ New H1 (.tup xs) fun p H2 => Q (.ref p) H2) : tTupN tr σ H Q := q
theorem w_lstN {σ : L2.St} {H : Hp} {Q : VK} {tr : TA} (q : tr σ H fun xs H1 => xs.length ≤ sizeLine ∧ New H1 (.lst xs) fun p H2 => Q (.ref p) H2) : tLstN tr σ H Q := q
/-- for up to so many items -/
theorem sz {n : Nat} (h : n ≤ 100000) : n ≤ sizeLine := Nat.le_trans h (by decide)
theorem filterMap_range_map {α β : Type} (l : List α) (f : α → β) : (List.range l.length).filterMap (fun i => (l[i]?).map f) = l.map f := by
  induction l with
  | nil => rfl
  | cons a l ih =>
    rw [List.length_cons, List.range_succ_eq_map, List.filterMap_cons, List.filterMap_map]
    simp only [List.getElem?_cons_zero, Option.map_some, List.map_cons]
    congr 1
theorem filterMap_range_fm {α β : Type} (l : List α) (f : α → Option β) : (List.range l.length).filterMap (fun i => (l[i]?).bind f) = l.filterMap f := by
  induction l with
  | nil => rfl
  | cons a l ih =>
    rw [List.length_cons, List.range_succ_eq_map, List.filterMap_cons, List.filterMap_map, List.filterMap_cons]
    simp only [List.getElem?_cons_zero, Option.bind_some]
    cases f a with
    | none => exact ih
    | some b => simp only []; congr 1
section
variable {K : PySem.W.Frag} {σ : L2.St} {H : Hp} {Q : VK} {D : Ends}
theorem w_lc {wi : TI} {g : TG} {tt : TT} {te : TE} {vs : List Nat} (q : wi σ H fun J H1 => ∀ D, H1 D = none → ∃ W : Nat → Nat → Hp → Prop, (∃ m, W 0 m (upd H1 D (.lst []))) ∧ ∀ i m H, W i m H →
  (J.stop i H ∧ Q (.ref D) H) ∨ (J.go i H ∧ ∃ Nx : Hp → Prop, (∀ H', Nx H' → ∃ m', m' < m ∧ W (i + 1) m' H') ∧ ∀ x H', J.yld i H x H' → g x (wipe σ vs) H' fun σ2 H2 => wipe σ2 vs = wipe σ vs ∧ tt σ2 H2 fun b H3 =>
    if b = true then te σ2 H3 fun y H4 => ∃ acc, H4 D = some (.lst acc) ∧ acc.length < sizeLine ∧ Nx (upd H4 D (.lst (acc ++ [y]))) else Nx H3)) : tLc wi g tt te vs σ H Q := q
theorem w_nt {A B : Prop} (q : B) : if (!true) = true then A else B := q
theorem w_nf {A B : Prop} (q : A) : if (!false) = true then A else B := q
theorem w_iteE {b : Bool} {A B : Prop} (e : b = true) (q : A) : if b = true then A else B := by rw [if_pos e]; exact q
theorem w_iteN {b : Bool} {A B : Prop} (e : b = false) (q : B) : if b = true then A else B := by rw [e]; exact q
theorem w_isN {te : TE} (q : te σ H fun x H1 => Q (.bl (decide (x = .non))) H1) : tIsN te σ H Q := q
theorem w_notN {te : TE} (q : te σ H fun x H1 => Q (.bl (!decide (x = .non))) H1) : tNotN te σ H Q := q
theorem w_seqM {ts tu : TS} (M : L2.St → Hp → Prop) (h1 : ∀ N : L2.St → Hp → Prop, (∀ σ' H', M σ' H' → N σ' H') → ts { D with nx := N } σ H) (h2 : ∀ σ' H', M σ' H' → tu D σ' H') : tSeq ts tu D σ H := h1 _ h2
theorem w_make {C : Addr} {sp : Sp} {E : XK} {tr : TA} (q : tr σ H fun vs H1 => ∀ x dx, H1 x = none → H1 dx = none → dx ≠ x → sp (.ref x :: (vs ++ [])) (upd (upd H1 dx (.own x)) x (.ins C dx [])) (fun v H2 => v = .non ∧ Q (.ref x) H2) E) : tMake C sp [] E tr σ H Q := q
theorem w_yes {QB : Bool → Hp → Prop} (q : QB true H) : tYes σ H QB := q
theorem w_for {wi : TI} {g : TG} {tb : TS} (q : wi σ H fun J H1 => ∃ W : Nat → Nat → L2.St → Hp → Prop, (∃ m, W 0 m σ H1) ∧ ∀ i m σ H, W i m σ H →
  (J.stop i H ∧ D.nx σ H) ∨ (J.go i H ∧ ∃ N : L2.St → Hp → Prop, (∀ σ' H', N σ' H' → ∃ m', m' < m ∧ W (i + 1) m' σ' H') ∧ ∀ x H', J.yld i H x H' → g x σ H' fun σ2 H2 => tb { D with nx := N, ct := N, bk := D.nx } σ2 H2)) : tFor wi g tb D σ H := q
variable {R : It → Hp → Prop} {ta : TA} {te : TE}
theorem w_rng1 (q : ta σ H fun vs H1 => ∃ j : Int, vs = [.int j] ∧ -(2 ^ 62) ≤ j ∧ j < 2 ^ 62 ∧ R (Itr 0 j.toNat) H1) : iRng1 ta σ H R := q
theorem w_rng2 (q : ta σ H fun vs H1 => ∃ i j : Int, vs = [.int i, .int j] ∧ (-(2 ^ 62) ≤ i ∧ i < 2 ^ 62 ∧ -(2 ^ 62) ≤ j ∧ j < 2 ^ 62) ∧ R (Itr i (j - i).toNat) H1) : iRng2 ta σ H R := q
theorem w_itup (q : te σ H fun x H1 => ∃ a, x = .ref a ∧ (∃ xs, SqT K H1 a xs) ∧ R (Itt K a) H1) : iTup K te σ H R := q
theorem w_ilist (q : te σ H fun x H1 => ∃ a, x = .ref a ∧ (∃ xs, SqL K H1 a xs) ∧ R (Itl K a) H1) : iList K te σ H R := q
theorem w_ienum (q : ta σ H fun vs H1 => ∃ a xs, vs = [.ref a] ∧ SqT K H1 a xs ∧ R (IteT K a) H1) : iEnumT K ta σ H R := q
theorem w_izip (q : ta σ H fun vs H1 => ∃ a b xs ys, vs = [.ref a, .ref b] ∧ ((SqL K H1 a xs ∧ SqL K H1 b ys ∧ R (Itz K a b) H1) ∨ (SqT K H1 a xs ∧ SqT K H1 b ys ∧ R (RZ.ItzT K a b) H1))) : RZ.iZipA K ta σ H R := q
theorem w_BM {T : String} {r : V → List V → Hp → VK → Prop} {to : TE} (q : to σ H fun x H1 => tyV K T x H1 ∧ ta σ H1 fun xs H2 => r x xs H2 Q) : tBM K T r to ta σ H Q := q
theorem w_BM0 {T : String} {r : V → List V → Hp → VK → Prop} {to : TE} (q : to σ H fun x H1 => tyV K T x H1 ∧ r x [] H1 Q) : tBM0 K T r to σ H Q := q
theorem i_BM {l : Addr} {xs : List V} {F : Prop} (h : H l = some (.lst xs)) (q : F) : tyV K "list" (.ref l) H ∧ F := ⟨.inl ⟨rfl, _, SqL.of h⟩, q⟩
theorem r_app {l : Addr} {xs : List V} {y : V} (h : H l = some (.lst xs)) (hz : xs.length ≤ 90000) (q : Q .non (upd H l (.lst (xs ++ [y])))) : rAppend (.ref l) [y] H Q := ⟨l, xs, y, rfl, rfl, h, Nat.lt_of_le_of_lt hz (by decide), q⟩
theorem i_rng1 {F : Int → Prop} {j : Int} (h1 : 0 ≤ j) (h2 : j ≤ 100000) (q : F j) : ∃ k : Int, [V.int j] = [.int k] ∧ -(2 ^ 62) ≤ k ∧ k < 2 ^ 62 ∧ F k := ⟨j, rfl, by omega, by omega, q⟩
theorem i_rng2 {F : Int → Int → Prop} {i j : Int} (h : -100000 ≤ i ∧ i ≤ 100000 ∧ -100000 ≤ j ∧ j ≤ 100000) (q : F i j) : ∃ k l : Int, [V.int i, V.int j] = [.int k, .int l] ∧ (-(2 ^ 62) ≤ k ∧ k < 2 ^ 62 ∧ -(2 ^ 62) ≤ l ∧ l < 2 ^ 62) ∧ F k l := ⟨i, j, rfl, by omega, q⟩
theorem i_tup {F : Addr → Prop} {a : Addr} {xs : List V} (h : SqT K H a xs) (q : F a) : ∃ b, V.ref a = .ref b ∧ (∃ xs, SqT K H b xs) ∧ F b := ⟨a, rfl, ⟨xs, h⟩, q⟩
theorem i_list {F : Addr → Prop} {a : Addr} {xs : List V} (h : SqL K H a xs) (q : F a) : ∃ b, V.ref a = .ref b ∧ (∃ xs, SqL K H b xs) ∧ F b := ⟨a, rfl, ⟨xs, h⟩, q⟩
theorem i_enum {F : Addr → Prop} {a : Addr} {xs : List V} (h : SqT K H a xs) (q : F a) : ∃ (b : Addr) (ys : List V), [V.ref a] = [.ref b] ∧ SqT K H b ys ∧ F b := ⟨a, xs, rfl, h, q⟩
end
end GA
/-! ## GD -/
namespace GA
open PySem L2
/-! ### data within data -/
def rInDT (K : PySem.W.Frag) : R2 := fun x y H Q => ∃ d ds, Dp K H x d ∧ Dp K H y (.tuple ds) ∧ SeqAt.shaped d = true ∧ SeqAt.shaped (.tuple ds) = true ∧ Q (.bl (ds.any fun z => PyData.eqv z d)) H
theorem op_inDT {X : Cx} (hu : X.A.units + 65 < cLine) : OpR X (compareOp .In) (rInDT X.K) := by
  intro pins s σ H x y v u Q I rx ry h
  obtain ⟨d, ds, hd, he, sd, se, q⟩ := h
  obtain ⟨as, r1⟩ := Dp.reads I d x v hd rx
  obtain ⟨bs, r2⟩ := Dp.reads I (.tuple ds) y u he ry
  exact SeqAt.in_tuple_reads r2 r1 (SeqAt.canLay_of_shaped se) (SeqAt.canLay_of_shaped sd) (PyProof.Rows.room_in_shaped sd hu) ⟨.bl _, H, I, rfl, q⟩
theorem u65 {k : Nat} {A : Around} (hr : Room k A) : A.units + 65 < cLine := by
  have := hr.un
  omega
theorem canAll {ds : List PyData} (h : ∀ d ∈ ds, d.canLay0 = true) : PyData.canLayAll0 ds = true := by
  induction ds with
  | nil => rfl
  | cons d ds ih => rw [PyData.canLayAll0, h d List.mem_cons_self, ih fun e he => h e (List.mem_cons_of_mem _ he)]; rfl
theorem depAll {n : Nat} {ds : List PyData} (h : ∀ d ∈ ds, d.depth ≤ n) : PyData.depthAll ds ≤ n := by
  induction ds with
  | nil => rw [PyData.depthAll]; exact Nat.zero_le _
  | cons d ds ih =>
    rw [PyData.depthAll]
    have h1 := h d List.mem_cons_self
    have h2 := ih fun e he => h e (List.mem_cons_of_mem _ he)
    omega
theorem sh_of {d : PyData} (h1 : d.canLay0 = true) (h2 : d.depth ≤ 64) : SeqAt.shaped d = true := by
  unfold SeqAt.shaped
  rw [h1, decide_eq_true h2]; rfl
theorem dep_tup {n : Nat} {ds : List PyData} (h : ∀ d ∈ ds, d.depth ≤ n) : (PyData.tuple ds).depth ≤ n + 1 := by
  rw [PyData.depth]
  have := depAll h
  omega
theorem can_tup {ds : List PyData} (h : ∀ d ∈ ds, d.canLay0 = true) : (PyData.tuple ds).canLay0 = true := by
  rw [PyData.canLay0]; exact canAll h
theorem can_int {n : Int} : (PyData.int n).canLay0 = true := by simp [PyData.canLay0]
theorem dep_int {n : Int} : (PyData.int n).depth = 0 := by simp [PyData.depth]
theorem can_dI (ns : List Int) : (dI ns).canLay0 = true := can_tup fun d h => by
  obtain ⟨n, _, rfl⟩ := List.mem_map.mp h
  exact can_int
theorem dep_dI (ns : List Int) : (dI ns).depth ≤ 1 := dep_tup (n := 0) fun d h => by
  obtain ⟨n, _, rfl⟩ := List.mem_map.mp h
  rw [dep_int]; exact Nat.le_refl _
theorem can_dP (w : Int × Int) : (dP w).canLay0 = true := can_dI [w.1, w.2]
theorem dep_dP (w : Int × Int) : (dP w).depth ≤ 1 := dep_dI [w.1, w.2]
theorem can_dW (ws : List (Int × Int)) : (dW ws).canLay0 = true := can_tup fun d h => by
  obtain ⟨n, _, rfl⟩ := List.mem_map.mp h
  exact can_dP n
theorem dep_dW (ws : List (Int × Int)) : (dW ws).depth ≤ 2 := dep_tup (n := 1) fun d h => by
  obtain ⟨n, _, rfl⟩ := List.mem_map.mp h
  exact dep_dP n
theorem sh_dI (ns : List Int) : SeqAt.shaped (dI ns) = true := sh_of (can_dI ns) (Nat.le_trans (dep_dI ns) (by decide))
theorem sh_dP (w : Int × Int) : SeqAt.shaped (dP w) = true := sh_of (can_dP w) (Nat.le_trans (dep_dP w) (by decide))
theorem sh_dW (ws : List (Int × Int)) : SeqAt.shaped (dW ws) = true := sh_of (can_dW ws) (Nat.le_trans (dep_dW ws) (by decide))
theorem eqv_int {i j : Int} : PyData.eqv (.int i) (.int j) = decide (i = j) := by
  rw [PyData.eqv]; exact Bool.beq_eq_decide_eq i j
theorem eqvAll_map {α : Type} [DecidableEq α] {f : α → PyData} (h : ∀ x y, PyData.eqv (f x) (f y) = decide (x = y)) : ∀ (xs ys : List α), PyData.eqvAll (xs.map f) (ys.map f) = decide (xs = ys)
  | [], [] => by simp [PyData.eqvAll]
  | [], y :: ys => by simp [PyData.eqvAll]
  | x :: xs, [] => by simp [PyData.eqvAll]
  | x :: xs, y :: ys => by
    rw [List.map_cons, List.map_cons, PyData.eqvAll, h, eqvAll_map h xs ys]
    simp only [List.cons.injEq]
    by_cases h1 : x = y <;> by_cases h2 : xs = ys <;> simp [h1, h2]
theorem eqv_dI (ns ms : List Int) : PyData.eqv (dI ns) (dI ms) = decide (ns = ms) := by
  rw [PyData.eqv]; exact eqvAll_map (fun _ _ => eqv_int) ns ms
theorem eqv_dP (u v : Int × Int) : PyData.eqv (dP u) (dP v) = decide (u = v) := by
  have := eqv_dI [u.1, u.2] [v.1, v.2]
  have e : decide (([u.1, u.2] : List Int) = [v.1, v.2]) = decide (u = v) := by
    rw [decide_eq_decide]
    constructor
    · intro h
      injection h with h1 h2
      injection h2 with h2 _
      exact Prod.ext h1 h2
    · intro h; rw [h]
  rw [← e]; exact this
theorem eqv_dW (us ws : List (Int × Int)) : PyData.eqv (dW us) (dW ws) = decide (us = ws) := by
  rw [PyData.eqv]; exact eqvAll_map eqv_dP us ws
theorem any_dP (ws : List (Int × Int)) (u : Int × Int) : ((ws.map dP).any fun z => PyData.eqv z (dP u)) = decide (u ∈ ws) := by
  rw [List.any_map]
  have : (fun z => PyData.eqv z (dP u)) ∘ dP = fun z => decide (z = u) := by
    funext z; exact eqv_dP z u
  rw [this]
  induction ws with
  | nil => simp
  | cons w ws ih =>
    rw [List.any_cons, ih]
    by_cases h : w = u
    · simp [h]
    · have h' : ¬ u = w := fun e => h e.symm
      simp [h, h']
/-! the rules with the written part told: for a comprehension's block -/
section
variable {X : Cx}
theorem k_ix_tup (K : PySem.W.Frag) (hK : X.K = K := by rfl) : IxR X (rIxT K) := by subst hK; exact ix_tup
theorem k_ix_list (K : PySem.W.Frag) (hK : X.K = K := by rfl) : IxR X (rIxL K) := by subst hK; exact ix_list
theorem k_op_in_seq (K : PySem.W.Frag) (hK : X.K = K := by rfl) : OpR X (compareOp .In) (rIn K false) := by subst hK; exact op_in_seq
theorem k_op_notIn_seq (K : PySem.W.Frag) (hK : X.K = K := by rfl) : OpR X (compareOp .NotIn) (rIn K true) := by subst hK; exact op_notIn_seq
theorem k_call_isi (K : PySem.W.Frag) (hK : X.K = K := by rfl) : CallR X (.builtin "isinstance") (rIsi K) := by subst hK; exact call_isi
theorem k_call_isiT (K : PySem.W.Frag) (hK : X.K = K := by rfl) : CallR X (.builtin "isinstance") (rIsiT K) := by subst hK; exact call_isiT
theorem k_call_tupleN (K : PySem.W.Frag) (hK : X.K = K := by rfl) : CallR X (.type "tuple") (rTupleN K) := by subst hK; exact call_tupleN
theorem k_call_listN (K : PySem.W.Frag) (hK : X.K = K := by rfl) : CallR X (.type "list") (rListN K) := by subst hK; exact call_listN
theorem k_op_inDT (K : PySem.W.Frag) (hu : X.A.units + 65 < cLine) (hK : X.K = K := by rfl) : OpR X (compareOp .In) (rInDT K) := by subst hK; exact op_inDT hu
theorem k_op_eqD (K : PySem.W.Frag) (hu : X.A.units + 64 < cLine) (hK : X.K = K := by rfl) : OpR X (compareOp .Eq) (rEqD K) := by subst hK; exact op_eqD hu
theorem k_op_neD (K : PySem.W.Frag) (hu : X.A.units + 64 < cLine) (hK : X.K = K := by rfl) : OpR X (compareOp .NotEq) (rNeD K) := by subst hK; exact op_neD hu
theorem k_cr_all (K : PySem.W.Frag) (hc : X.calm = true) (hK : X.K = K := by rfl) : CallR X (.builtin "all") (rAll K) := by subst hK; exact cr_all hc
/-- len of a list or tuple -/
def rLenK (K : PySem.W.Frag) : List V → Hp → VK → Prop := fun xs H Q => ∃ p ys, xs = [.ref p] ∧ (SqL K H p ys ∨ SqT K H p ys) ∧ Q (.int ys.length) H
theorem k_call_len_seq (K : PySem.W.Frag) (hK : X.K = K := by rfl) : CallR X (.builtin "len") (rLenK K) := by subst hK; exact call_len_seq
theorem k_fld (K : PySem.W.Frag) {e : Expr} {f : Str} {pos : Pos} {ta : TE} (he : PE X e ta) (hb : attributeBase e f X.env (eval e X.env) = eval e X.env) (hK : X.K = K := by rfl) : PE X (.Attribute e f pos) (tFld K ta f) := by subst hK; exact pe_fld he hb
theorem k_pi_list (K : PySem.W.Frag) {tg l : Expr} {tl : TE} (hl : PE X l tl) (hK : X.K = K := by rfl) : PI X tg l (iList K tl) := by subst hK; exact pi_list hl
theorem k_pi_tup (K : PySem.W.Frag) {tg l : Expr} {tl : TE} (hl : PE X l tl) (hK : X.K = K := by rfl) : PI X tg l (iTup K tl) := by subst hK; exact pi_tup hl
end
end GA
/-! ## GE -/
namespace PyProof.Rows
open PySem
section
variable {prog : Program} {w : World} {A : Around} {E : Value → Shared → Prop} {s : Shared}
theorem ga_collect_tuple {l : Addr} {vs : List Value} {Q : List Value → Shared → Prop} (hl : s.heap.IsTuple l vs.toArray)
    (h : Q vs { s with heap := (s.heap.push (seqObj "list" #[] 0)).update s.heap.objs.size (Obj.mapSeq (· ++ vs.toArray)) }) (hsz : vs.length ≤ sizeLine := by size_fits) :
    wpAny (model prog w) A (collect (.ref l)) Q E s := by
  obtain ⟨o, ho, hc, n, hd⟩ := id hl
  unfold collect
  refine wpAny_bind (wpAny_runValue (codeAny_builtin entry_proto_collect' ?_))
  show wpAny _ _ (do again (.builtin "list.__iadd__" ⟨[← newList [], .ref l], []⟩)) _ _ s
  refine wpAny_bind (wpAny_newList (wpAny_pure ⟨Code.quiet_builtin _ (by decide +kernel), codeAny_builtin entry_list_iadd' ?_⟩))
  show wpAny _ _ (Builtin.List.listExtendWith (.ref s.heap.objs.size) (.ref l) (.ref s.heap.objs.size)) _ _ { s with heap := s.heap.push (seqObj "list" #[] 0) }
  unfold Builtin.List.listExtendWith
  have ho' : (s.heap.push (seqObj "list" #[] 0)).get? l = some o := Heap.get?_push_of_some _ ho
  refine wpAny_bind (wpAny_typeOf (T := "tuple") ⟨o, ho', hc⟩ ?_)
  have ht : (Value.type "tuple" == Value.type "tuple") = true := by rfl
  rw [if_pos (by rw [ht]; simp)]
  refine wpAny_bind (listItems_at ho' hd ?_)
  refine wpAny_bind (listItems_at (xs := #[]) (n := 0) (Heap.get?_push_size _ rfl) rfl ?_)
  rw [if_neg (by simp)]
  refine wpAny_bind (listUpdate_at (xs := #[]) (n := 0) (Heap.get?_push_size _ rfl) rfl ?_ (Nat.zero_le _) (by show (#[] ++ vs.toArray).size ≤ sizeLine + 1; simp only [Array.size_append, List.size_toArray, List.length_nil]; omega))
  refine wpAny_pure ?_
  show wpAny (model prog w) A (do
      let o ← load s.heap.objs.size
      match o.data with
      | .seq xs _ => pure xs.toList
      | _ => unsupported "internal:collect") Q E { s with heap := (s.heap.push (seqObj "list" #[] 0)).update s.heap.objs.size (Obj.mapSeq (· ++ vs.toArray)) }
  refine wpAny_bind (wpAny_load (get?_update_seq (Heap.get?_push_size _ rfl) _) ?_)
  show wpAny _ _ (pure ((#[] : Array Value) ++ vs.toArray).toList) Q E _
  rw [show ((#[] : Array Value) ++ vs.toArray).toList = vs by simp]
  exact wpAny_pure h
end
end PyProof.Rows
namespace SrtO
open PySem PyProof.Rows Srt
section
variable {prog : Program} {w : World} {A : Around} {E : Value → Shared → Prop} {s : Shared}
theorem ga_sorted_ordT {l : Addr} {vs : List Value} {ltv : Value → Value → Bool} {Q : Value → Shared → Prop} (O : Swo ltv) (hl : s.heap.IsTuple l vs.toArray) (hz : vs.length ≤ sizeLine)
    (hS : 2 ≤ vs.length → ∀ (h₁ : Heap) (a : Addr), h₁.get? a = some (seqObj "list" vs.toArray 0) → (∀ b o, s.heap.get? b = some o → b ≠ a ∧ h₁.get? b = some o) → SortableO prog w A.in1.in1 { s with heap := h₁ } a vs ltv)
    (h : ∀ out : List Value, Srtd ltv out → Stb ltv out vs → Q (.ref (s.heap.objs.size + 1)) { s with heap := sortedAll s.heap vs out.toArray }) :
    wpAny (model prog w) A (call (.builtin "sorted") [.ref l]) Q E s := by
  refine Calls.call_function_entry kind_sorted plain_sorted entry_sorted (args_sorted1 _) ?_
  unfold Builtin.«sorted»
  refine wpAny_bind (m := checkCount "sorted" 1 1 _) (wpAny_pure ?_)
  refine wpAny_bind (ga_collect_tuple hl ?_ hz)
  refine wpAny_bind (wpAny_newList ?_ hz)
  have hsz : ((s.heap.push (seqObj "list" #[] 0)).update s.heap.objs.size (Obj.mapSeq (· ++ vs.toArray))).objs.size = s.heap.objs.size + 1 := by
    rw [Heap.size_update, size_push']
  have hoL : (((s.heap.push (seqObj "list" #[] 0)).update s.heap.objs.size (Obj.mapSeq (· ++ vs.toArray))).push (seqObj "list" vs.toArray 0)).get? (s.heap.objs.size + 1) = some (seqObj "list" vs.toArray 0) := by
    rw [← hsz]; exact Heap.get?_push_size _ rfl
  have keep : ∀ b o, s.heap.get? b = some o → b ≠ s.heap.objs.size + 1 ∧ (((s.heap.push (seqObj "list" #[] 0)).update s.heap.objs.size (Obj.mapSeq (· ++ vs.toArray))).push (seqObj "list" vs.toArray 0)).get? b = some o := fun b o q => by
    have hlt : b < s.heap.objs.size := Heap.lt_size q
    refine ⟨Nat.ne_of_lt (Nat.lt_succ_of_lt hlt), Heap.get?_push_of_some _ ?_⟩
    rw [Heap.get?_update_ne _ _ _ _ (Nat.ne_of_lt hlt)]
    exact Heap.get?_push_of_some _ q
  show wpAny _ _ _ _ _ { s with heap := ((s.heap.push (seqObj "list" #[] 0)).update s.heap.objs.size (Obj.mapSeq (· ++ vs.toArray))).push (seqObj "list" vs.toArray 0) }
  rw [hsz]
  refine wpAny_bind (wpAny_holding (wpAny_call_entry slot_list_sort ⟨_, hoL, rfl⟩ entry_list_sort (list_sort_ord O hoL hz (fun h2 => hS h2 _ _ hoL keep) fun out hs hb => ⟨_, rfl, ?_⟩) (args_list_sort _)))
  exact wpAny_pure ⟨_, rfl, h out hs hb⟩
end
end SrtO
namespace GA
open PySem PySem.Spec PyProof.Rows L2
/-- sorted(t), t a tuple of ints -/
def rSortedIT (K : PySem.W.Frag) : List V → Hp → VK → Prop := fun vs H Q => ∃ (a : Addr) (ns : List Int), vs = [V.ref a] ∧ SqT K H a (ns.map V.int) ∧
  ∀ (ns' : List Int), ns'.Perm ns → ns'.Pairwise (· ≤ ·) → New H (.lst (ns'.map V.int)) fun p H2 => Q (.ref p) H2
theorem cr_sortedIT {X : Cx} : CallR X (.builtin "sorted") (rSortedIT X.K) := by
  intro pins s σ H vs us Q I r h
  obtain ⟨a, ns, rfl, hs, q⟩ := h
  obtain ⟨its, rv, hl, hz⟩ := I.tuple hs
  rw [Vals.ref1 r]
  have hi := rv.ints
  refine SrtO.ga_sorted_ordT SrtO.swo_int hl (by rw [← rv.length]; exact hz) (fun h2 h₁ a' _ _ => SrtO.ints_sortable hi h2) fun out h1 h2 => ?_
  obtain ⟨k1, k2, k3⟩ := SrtO.ints_out hi h1 h2
  obtain ⟨ep, he'⟩ := PyProof.Rows.sortedAll_at s.heap its out.toArray
  have hlen : ((out.map SrtO.iv).map V.int).length ≤ sizeLine := by
    rw [List.length_map, k2.length_eq]
    rw [List.length_map] at hz
    exact hz
  exact ⟨.ref _, upd H (s.heap.objs.size + 1) (.lst ((out.map SrtO.iv).map V.int)), I.laid (t' := s.toks) (fun _ _ => PyProof.Rows.sortedAll_old) (Nat.le_succ _) ⟨hlen, out, ep, vals_of_ints k1, he'⟩, rfl, (q _ k2 k3).go (I.hok.fresh (Nat.le_succ _))⟩
def rSortedIL (K : PySem.W.Frag) : List V → Hp → VK → Prop := fun vs H Q => ∃ (a : Addr) (ns : List Int), vs = [V.ref a] ∧ SqL K H a (ns.map V.int) ∧
  ∀ (ns' : List Int), ns'.Perm ns → ns'.Pairwise (· ≤ ·) → New H (.lst (ns'.map V.int)) fun p H2 => Q (.ref p) H2
theorem cr_sortedIL {X : Cx} : CallR X (.builtin "sorted") (rSortedIL X.K) := CallR.weak cr_sortedI fun xs H Q h => by
  obtain ⟨a, ns, e, h1, q⟩ := h
  exact ⟨a, ns, e, h1, fun ns' p k1 k2 hp => (q ns' k1 k2).go hp⟩
/-- sorted(d), d a dict with int keys -/
def rSortedDN : List V → Hp → VK → Prop := fun xs H Q => ∃ (a : Addr) (kvs : List (Key × V)) (ks : List Int), xs = [.ref a] ∧ H a = some (.dK kvs) ∧ kvs.map (·.1) = ks.map Sum.inl ∧ ks.length < 64 ∧
  ∀ (ns' : List Int), ns'.Perm ks → ns'.Pairwise (· ≤ ·) → New H (.lst (ns'.map V.int)) fun p H2 => Q (.ref p) H2
theorem cr_sortedDN {X : Cx} (hc : X.calm = true) : CallR X (.builtin "sorted") rSortedDN := CallR.weak (call_sortedDI hc) fun xs H Q h => by
  obtain ⟨a, kvs, ks, e, h1, h2, h3, q⟩ := h
  exact ⟨a, kvs, ks, e, .inl h1, h2, h3, fun ys p k1 k2 hp => (q ys k1 k2).go hp⟩
/-- list(range(..)) -/
def tLstRgN (te : L2.St → Hp → (Int → Int → Hp → Prop) → Prop) : TE := fun σ H Q => te σ H fun a b H1 => RgOk a b ∧ New H1 (.lst (rgV a b)) fun q H2 => Q (.ref q) H2
/-- a range's ends, told: whatever is wanted is wanted of less -/
def MoR (te : L2.St → Hp → (Int → Int → Hp → Prop) → Prop) : Prop := ∀ σ H F F', (∀ a b H1, F a b H1 → F' a b H1) → te σ H F → te σ H F'
theorem pe_listRgN {X : Cx} {e : Expr} {te : L2.St → Hp → (Int → Int → Hp → Prop) → Prop} {p pos : Pos} (hc : X.calm = true) (hg : Gl X "list") (hm : X.mg "list" = none) (he : PRg X e te) (mo : MoR te) (na : starEach [e] X.env = (false, eval e X.env) :: starEach [] X.env := by rfl) : PE X (.Call (.Name "list" p) [e] [] pos) (tLstRgN te) :=
  PE.weak (pe_listRg hc hg hm he na) fun σ H Q q => mo σ H _ _ (fun a b H1 h => ⟨h.1, fun q hq => h.2.go hq⟩) q
def MoE (te : TE) : Prop := ∀ σ H Q Q', (∀ v H1, Q v H1 → Q' v H1) → te σ H Q → te σ H Q'
theorem mo_var {i : Nat} : MoE (tVar i) := fun _ _ _ _ h ⟨v, e, q⟩ => ⟨v, e, h _ _ q⟩
theorem mo_rg1 {te : TE} (h : MoE te) : MoR (tRg1 te) := fun σ H F F' k q => h σ H _ _ (fun v H1 ⟨n, e, z⟩ => ⟨n, e, k _ _ _ z⟩) q
theorem mo_op {te tb : TE} {r : R2} (h : MoE te) (hb : MoE tb) (hr : ∀ x y H Q Q', (∀ v H1, Q v H1 → Q' v H1) → r x y H Q → r x y H Q') : MoE (tOp r te tb) := fun σ H Q Q' k q => h σ H _ _ (fun v H1 z => hb σ H1 _ _ (fun u H2 z => hr _ _ _ _ _ k z) z) q
theorem mo_fld {K : PySem.W.Frag} {te : TE} {f : Str} (h : MoE te) : MoE (tFld K te f) := fun σ H Q Q' k q => h σ H _ _ (fun v H1 ⟨a, C, dx, fs, v', e1, e2, e3, e4, e5, z⟩ => ⟨a, C, dx, fs, v', e1, e2, e3, e4, e5, k _ _ z⟩) q
section
variable {K : PySem.W.Frag} {σ : L2.St} {H : Hp} {Q : VK}
theorem w_lstRg {te : L2.St → Hp → (Int → Int → Hp → Prop) → Prop} (q : te σ H fun a b H1 => RgOk a b ∧ New H1 (.lst (rgV a b)) fun q H2 => Q (.ref q) H2) : tLstRgN te σ H Q := q
theorem w_rg1 {te : TE} {F : Int → Int → Hp → Prop} (q : te σ H fun x H1 => ∃ n, x = .int n ∧ F 0 n H1) : tRg1 te σ H F := q
end
end GA
/-! ## GF -/
namespace GA
open PySem PySem.Spec PyProof.Rows L2
def ltW (u v : Int × Int) : Prop := u.1 < v.1 ∨ (u.1 = v.1 ∧ u.2 < v.2)
def in64 (u : Int × Int) : Prop := (0 ≤ u.1 ∧ u.1 < 64) ∧ (0 ≤ u.2 ∧ u.2 < 64)
section
variable {K : PySem.W.Frag} {H : Hp}
theorem ks_of : ∀ {xs : List V} {us : List (Int × Int)}, DpAll K H xs (us.map dP) → ∃ ks : List (Addr × List Int), xs = (ks.map fun p => V.ref p.1) ∧ (∀ p ∈ ks, SqT K H p.1 (p.2.map V.int)) ∧ ks.map (·.2) = us.map fun u => [u.1, u.2]
  | _, [], .nil => ⟨[], rfl, (fun _ h => nomatch h), rfl⟩
  | _, u :: us, .cons h t => by
    obtain ⟨ks, rfl, h1, h2⟩ := ks_of t
    obtain ⟨a, rfl, ha⟩ := dp_dP h
    refine ⟨(a, [u.1, u.2]) :: ks, rfl, fun p hp => ?_, by rw [List.map_cons, h2]; rfl⟩
    rcases List.mem_cons.mp hp with e | hp
    · rw [e]; exact ha
    · exact h1 p hp
end
theorem dp_ks {K : PySem.W.Frag} {H : Hp} : ∀ (M : List (Addr × List Int)) (ws : List (Int × Int)), (∀ q ∈ M, SqT K H q.1 (q.2.map V.int)) → M.map (·.2) = (ws.map fun u => [u.1, u.2]) → DpAll K H (M.map fun q => V.ref q.1) (ws.map dP)
  | [], [], _, _ => .nil
  | [], _ :: _, _, e => by simp at e
  | _ :: _, [], _, e => by simp at e
  | q :: M, w :: ws, h, e => by
    rw [List.map_cons, List.map_cons] at e
    injection e with e1 e2
    refine .cons ?_ (dp_ks M ws (fun p hp => h p (List.mem_cons_of_mem _ hp)) e2)
    have z := h q List.mem_cons_self
    rw [e1] at z
    exact dp_ofP z
section
variable {X : Cx}
/-- set(l), l a list of pairs of ints -/
def rSetPN (K : PySem.W.Frag) (P : Program) (w : World) : List V → Hp → VK → Prop := fun vs H Q => ∃ (l : Addr) (xs : List V) (us : List (Int × Int)), vs = [V.ref l] ∧ SqL K H l xs ∧ DpAll K H xs (us.map dP) ∧ us.length < 64 ∧
  ∀ a L H2, H a = none → (∀ o, G o H H2) → H2 a = some (SetTO P w a L) → (∀ p ∈ L, SqT K H2 p.1 (p.2.map V.int)) → (∀ ns, ns ∈ L.map (·.2) ↔ ∃ u ∈ us, ns = [u.1, u.2]) → Q (.ref a) H2
theorem cr_setPN (hc : X.calm = true) (hu : X.A.units + 64 < cLine) : CallR X (.type "set") (rSetPN X.K X.prog X.w) := CallR.weak (cr_setOfT hc hu) fun vs H Q h => by
  obtain ⟨l, xs, us, e, hl, hd, hz, q⟩ := h
  obtain ⟨ks, rfl, h1, h2⟩ := ks_of hd
  have hz' : ks.length = us.length := by
    have := congrArg List.length h2
    simpa using this
  refine ⟨l, ks, e, hl, h1, by omega, fun a L ha s1 s2 => ?_⟩
  refine q a L _ ha (fun _ => G.alloc ha) upd_same (fun p hp => sqT_t ((G.alloc (o := none) ha).tups) (h1 p (s1 p hp))) fun ns => ?_
  have mem : ∀ ns, ns ∈ ks.map (·.2) ↔ ∃ u ∈ us, ns = [u.1, u.2] := fun ns => by
    rw [h2, List.mem_map]
    exact ⟨fun ⟨u, a, b⟩ => ⟨u, a, b.symm⟩, fun ⟨u, a, b⟩ => ⟨u, a, b.symm⟩⟩
  rw [← mem]
  constructor
  · intro h
    obtain ⟨p, hp, rfl⟩ := List.mem_map.mp h
    exact List.mem_map.mpr ⟨p, s1 p hp, rfl⟩
  · intro h
    obtain ⟨p, hp, rfl⟩ := List.mem_map.mp h
    exact s2 p hp
theorem code_lt {u v : Int × Int} (hu : in64 u) (hv : in64 v) (h : TS.code 64 [u.1, u.2] ≤ TS.code 64 [v.1, v.2]) : ltW u v ∨ u = v := by
  unfold in64 at hu hv
  rw [code_pair, code_pair] at h
  unfold ltW
  by_cases e : u.1 = v.1
  · by_cases e2 : u.2 = v.2
    · exact .inr (Prod.ext e e2)
    · exact .inl (.inr ⟨e, by omega⟩)
  · exact .inl (.inl (by omega))
/-- sorted(s), s a set of pairs of small ints -/
def rSortSN (K : PySem.W.Frag) (P : Program) (w : World) : List V → Hp → VK → Prop := fun vs H Q => ∃ (a : Addr) (L : List (Addr × List Int)) (us : List (Int × Int)), vs = [V.ref a] ∧ H a = some (SetTO P w a L) ∧ (∀ p ∈ L, SqT K H p.1 (p.2.map V.int)) ∧ (∀ ns, ns ∈ L.map (·.2) ↔ ∃ u ∈ us, ns = [u.1, u.2]) ∧ (∀ u ∈ us, in64 u) ∧
  ∀ ws : List (Int × Int), ws.Pairwise ltW → (∀ u, u ∈ ws ↔ u ∈ us) → ws.length < 64 → ∀ p H2 ys, H p = none → (∀ o, G o H H2) → H2 p = some (.lst ys) → DpAll K H2 ys (ws.map dP) → Q (.ref p) H2
theorem cr_sortSN (hc : X.calm = true) : CallR X (.builtin "sorted") (rSortSN X.K X.prog X.w) := CallR.weak (cr_sortedT hc) fun vs H Q h => by
  obtain ⟨a, L, us, e, ha, hk, hm, hb, q⟩ := h
  have get : ∀ p ∈ L, ∃ u ∈ us, p.2 = [u.1, u.2] := fun p hp => (hm p.2).mp (List.mem_map.mpr ⟨p, hp, rfl⟩)
  refine ⟨a, L, 2, 64, e, ha, hk, by decide, fun p hp => ?_, fun L' p pm nd few pw hp => ?_⟩
  · obtain ⟨u, hu, e⟩ := get p hp
    have b := hb u hu
    unfold in64 at b
    rw [e]
    refine ⟨rfl, ?_⟩
    intro n hn
    rcases List.mem_cons.mp hn with e | hn
    · subst e; exact ⟨b.1.1, b.1.2⟩
    · have : n = u.2 := by simpa using hn
      subst this; exact ⟨b.2.1, b.2.2⟩
  · have get' : ∀ p ∈ L', ∃ u ∈ us, p.2 = [u.1, u.2] := fun p hp => get p (pm.mem_iff.mp hp)
    -- the pairs in their order
    have ws_of : ∀ M : List (Addr × List Int), (∀ p ∈ M, p ∈ L') → ∃ ws : List (Int × Int), M.map (·.2) = (ws.map fun u => [u.1, u.2]) ∧ (∀ u ∈ ws, u ∈ us) := by
      intro M
      induction M with
      | nil => exact fun _ => ⟨[], rfl, (fun _ h => nomatch h)⟩
      | cons p M ih =>
        intro hM
        obtain ⟨ws, h1, h2⟩ := ih fun p hp => hM p (List.mem_cons_of_mem _ hp)
        obtain ⟨u, hu, e⟩ := get' p (hM p List.mem_cons_self)
        refine ⟨u :: ws, by rw [List.map_cons, List.map_cons, h1, e], fun v hv => ?_⟩
        rcases List.mem_cons.mp hv with z | z
        · rw [z]; exact hu
        · exact h2 v z
    obtain ⟨ws, e1, e2⟩ := ws_of L' fun _ h => h
    have len : L'.length = ws.length := by
      have := congrArg List.length e1
      simpa using this
    have inj : ∀ u v : Int × Int, ([u.1, u.2] : List Int) = [v.1, v.2] → u = v := fun u v h => by
      injection h with h1 h2
      injection h2 with h2 _
      exact Prod.ext h1 h2
    have pw2 : (L'.map (·.2)).Pairwise (fun x y => TS.code 64 x ≤ TS.code 64 y) := List.pairwise_map.mpr pw
    rw [e1] at pw2 nd
    have asc : ws.Pairwise ltW := by
      rw [List.pairwise_map] at pw2
      have nd' : ws.Nodup := (List.pairwise_map.mp nd).imp fun h e => h (by rw [e])
      exact (List.pairwise_iff_getElem.mpr fun i j hi hj hij => by
        have h1 := List.pairwise_iff_getElem.mp pw2 i j hi hj hij
        have h2 := List.pairwise_iff_getElem.mp nd' i j hi hj hij
        rcases code_lt (hb _ (e2 _ (List.getElem_mem hi))) (hb _ (e2 _ (List.getElem_mem hj))) h1 with z | z
        · exact z
        · exact absurd z h2)
    refine q ws asc (fun u => ⟨e2 u, fun hu => ?_⟩) (by omega) p _ _ hp (fun _ => G.alloc hp) upd_same ?_
    · have h1 : ([u.1, u.2] : List Int) ∈ L.map (·.2) := (hm _).mpr ⟨u, hu, rfl⟩
      have h2 : ([u.1, u.2] : List Int) ∈ L'.map (·.2) := (pm.map (·.2)).mem_iff.mpr h1
      rw [e1, List.mem_map] at h2
      obtain ⟨v, hv, e⟩ := h2
      rw [← inj _ _ e]; exact hv
    · have t : Ts H (upd H p (.lst (L'.map fun q => V.ref q.1))) := (G.alloc (o := none) hp).tups
      have hk' : ∀ q ∈ L', SqT X.K _ q.1 (q.2.map V.int) := fun q hq => sqT_t t (hk q (pm.mem_iff.mp hq))
      exact dp_ks L' ws hk' e1
/-- sorted(l), l a list of pairs of small ints -/
def rSortPN (K : PySem.W.Frag) : List V → Hp → VK → Prop := fun vs H Q => ∃ (a : Addr) (xs : List V) (us : List (Int × Int)), vs = [V.ref a] ∧ SqL K H a xs ∧ DpAll K H xs (us.map dP) ∧ us.length < 64 ∧ (∀ u ∈ us, in64 u) ∧
  ∀ us' : List (Int × Int), us'.Perm us → us'.Pairwise (fun u v => ltW u v ∨ u = v) → ∀ p H2 ys, H p = none → (∀ o, G o H H2) → H2 p = some (.lst ys) → DpAll K H2 ys (us'.map dP) → Q (.ref p) H2
theorem cr_sortPN : CallR X (.builtin "sorted") (rSortPN X.K) := by
  classical
  intro pins s σ H vs us0 Q I r h
  obtain ⟨a, xs, us, rfl, hs, hd, hz, hb, q⟩ := h
  have uniq : ∀ {v : V} {u u' : Int × Int}, Dp X.K H v (dP u) → Dp X.K H v (dP u') → u = u' := fun {v u u'} h h' => by
    obtain ⟨a, rfl, ha⟩ := dp_dP h
    obtain ⟨a', e, ha'⟩ := dp_dP h'
    cases e
    have z := I.tuple_inj ha ha'
    injection z with z1 z2
    injection z2 with z2 _
    exact Prod.ext (V.int.inj z1) (V.int.inj z2)
  let f : V → Int × Int := fun v => if h : ∃ u, Dp X.K H v (dP u) then h.choose else (0, 0)
  have fv : ∀ {v : V} {u : Int × Int}, Dp X.K H v (dP u) → f v = u := fun {v u} h => by
    have hx : ∃ u, Dp X.K H v (dP u) := ⟨u, h⟩
    have : f v = hx.choose := dif_pos hx
    rw [this]
    exact uniq hx.choose_spec h
  have all : ∀ {ys : List V} {ws : List (Int × Int)}, DpAll X.K H ys (ws.map dP) → ws = ys.map f := by
    intro ys ws h
    induction ws generalizing ys with
    | nil => cases h; rfl
    | cons w ws ih =>
      cases h with
      | cons h t => rw [List.map_cons, fv h, ← ih t]
  have e0 := all hd
  have at_ : ∀ y ∈ xs, ∃ u ∈ us, Dp X.K H y (dP u) := fun y hy => by
    obtain ⟨i, hi⟩ := List.getElem?_of_mem hy
    obtain ⟨d, hd1, hd2⟩ := DpAll.get hd hi
    rw [List.getElem?_map] at hd1
    obtain ⟨u, hu, rfl⟩ := Option.map_eq_some_iff.mp hd1
    exact ⟨u, List.mem_of_getElem? hu, hd2⟩
  refine cr_sortT (d := 2) (B := 64) (by decide) pins s σ H _ us0 Q I r ⟨a, xs, rfl, hs, by rw [DpAll.length hd, List.length_map]; exact hz, fun x hx => ?_, fun ys p pm pw hp => ?_⟩
  · obtain ⟨u, hu, hx⟩ := at_ x hx
    obtain ⟨t, rfl, ht⟩ := dp_dP hx
    have b := hb u hu
    unfold in64 at b
    refine ⟨[u.1, u.2], ⟨t, rfl, ht⟩, rfl, ?_⟩
    intro n hn
    rcases List.mem_cons.mp hn with e | hn
    · subst e; exact ⟨b.1.1, b.1.2⟩
    · have : n = u.2 := by simpa using hn
      subst this; exact ⟨b.2.1, b.2.2⟩
  · have aty : ∀ y ∈ ys, ∃ u ∈ us, Dp X.K H y (dP u) := fun y hy => at_ y (pm.mem_iff.mp hy)
    have t : Ts H (upd H p (.lst ys)) := (G.alloc (o := none) hp).tups
    refine q (ys.map f) (by rw [e0]; exact pm.map f) ?_ p _ ys hp (fun _ => G.alloc hp) upd_same ?_
    · rw [List.pairwise_map]
      refine pw.imp_of_mem fun {y z} hy hz2 h => ?_
      obtain ⟨u, hu, h1⟩ := aty y hy
      obtain ⟨v, hv, h2⟩ := aty z hz2
      rw [fv h1, fv h2]
      obtain ⟨t1, rfl, k1⟩ := dp_dP h1
      obtain ⟨t2, rfl, k2⟩ := dp_dP h2
      exact code_lt (hb u hu) (hb v hv) (h _ _ ⟨t1, rfl, k1⟩ ⟨t2, rfl, k2⟩)
    · refine dpAll_t t _ _ (nls_pairs _) ?_
      clear pm pw hp t
      induction ys with
      | nil => exact .nil
      | cons y ys ih =>
        obtain ⟨u, hu, h1⟩ := aty y List.mem_cons_self
        refine .cons ?_ (ih fun y hy => aty y (List.mem_cons_of_mem _ hy))
        rw [fv h1]; exact h1
/-- t + u, tuples -/
def rCatN (K : PySem.W.Frag) : R2 := fun x y H Q => ∃ a b xs ys, x = .ref a ∧ y = .ref b ∧ SqT K H a xs ∧ SqT K H b ys ∧ xs.length + ys.length ≤ 100000 ∧ ∀ p H2, (∀ o, G o H H2) → SqT K H2 p (xs ++ ys) → Q (.ref p) H2
theorem op_catN : OpR X (binaryOp .Add) (rCatN X.K) := OpR.weak op_catA fun x y H Q h => by
  obtain ⟨a, b, xs, ys, e1, e2, h1, h2, hz, q⟩ := h
  refine ⟨a, b, xs, ys, e1, e2, h1, h2, sz hz, fun e => ?_, fun _ e => ?_, fun _ _ p hp => ?_⟩
  · subst e; exact q b H (fun _ => G.refl) h2
  · subst e; exact q a H (fun _ => G.refl) (by rw [List.append_nil]; exact h1)
  · exact q p _ (fun _ => G.alloc hp) (SqT.of upd_same)
end
end GA
/-! ## GG -/
namespace PySem.W
open PySem PySem.Spec PySem.Calls PyProof.Rows
open Builtin
section
variable {prog : Program} {w : World} {A : Around} {E : Value → Shared → Prop} {K : Frag} {x C L f : Addr} {h₀ hh : Heap} {g : Array GenState} {d : Drawn} {t : Nat} {os : OsState} {m : Str → Option Value} {ox : Obj} {od : Option Obj} {b tb : Value}
theorem ga_ifBound_ne {M : Model} {args : List Value} {Q : Option Value → Shared → Prop} (X : K.In hh) (I : InstAt hh x ox C od) (hs : findIn K (.ref C) "__ne__" = some (some (.builtin "object.__ne__")))
    (h : wpAny M A (call (.builtin "object.__ne__") (.ref x :: args)) (fun v => Q (some v)) E ⟨hh, g, d, t, os⟩) : wpAny M A (callSpecialIfBound? (.ref x) "__ne__" args) Q E ⟨hh, g, d, t, os⟩ := by
  simp only [callSpecialIfBound?, bindSpecialIfBound?]
  refine wpAny_holding (wpAny_bind (wpAny_bind (wpAny_bind (I.type.here ((looks_findIn X hs).here ?_)))))
  simp only [F.cmp_object.ne.bind]
  refine wpAny_bind (wpAny_askSetting (wpAny_ite ?_))
  have fin : wpAny M A (call (.builtin "object.__ne__") ([.ref x] ++ args) >>= fun v => pure (some v)) Q E ⟨hh, g, d, t, os⟩ :=
    wpAny_bind (wpAny_mono h (fun v s' h' => wpAny_pure h') fun _ _ h' => h')
  split
  · first
      | exact wpAny_bind (wpAny_pure (wpAny_pure fin))
      | exact wpAny_pure (wpAny_pure fin)
      | exact wpAny_pure fin
      | exact wpAny_bind (wpAny_pure fin)
  · first
      | exact wpAny_tryCatch (wpAny_bind (wpAny_pure (wpAny_pure fin)))
      | exact wpAny_tryCatch (wpAny_pure (wpAny_pure fin))
      | exact wpAny_tryCatch (wpAny_pure fin)
      | exact wpAny_tryCatch (wpAny_bind (wpAny_pure fin))
theorem ga_check_ne {M : Model} {rest : List Value} {Q : Unit → Shared → Prop} (X : K.In hh) (I : InstAt hh x ox C od) (hm : mroIn K C (.type "object") = some true) (ha : argsOk "object.__ne__" ⟨.ref x :: rest, []⟩) (hq : Q () ⟨hh, g, d, t, os⟩) :
    wpAny M A (checkBuiltinCall "object.__ne__" ⟨.ref x :: rest, []⟩) Q E ⟨hh, g, d, t, os⟩ := by
  simp only [checkBuiltinCall, F.cmpKind_ne, F.cmpSplit_ne]
  refine wpAny_bind ?_
  unfold isInstance
  refine wpAny_bind (I.type.here ((looks_mroIn X hm).here ?_))
  simp only [Bool.not_true, Bool.false_eq_true, if_false]
  cases hsig : Manifest.signature? "object.__ne__" with
  | none => exact wpAny_pure hq
  | some sig =>
    simp only [argsOk, hsig] at ha
    have h2 : Bind.checkArgs "object.__ne__" sig ⟨.ref x :: rest, []⟩ = pure () := ha
    show wpAny M A (Bind.checkArgs "object.__ne__" sig ⟨.ref x :: rest, []⟩) Q E _
    rw [h2]; exact wpAny_pure hq
theorem ga_ne_body (X : K.In hh) (I : InstAt hh x ox C od) (hs : findIn K (.ref C) "__eq__" = some (some (.ref f))) (hf : isFn K (.ref f) = true) (hu : A.units < cLine) {Q : Fin → Shared → Prop}
    (h : wpAny (model prog w) A (call (.ref f) [.ref x, b]) (fun v s' => ∃ r, v = .bool r ∧ Q (.done (.ret (.bool (!r)))) s') E ⟨hh, g, d, t, os⟩) :
    wpAny (model prog w) A (Builtin.«object.__ne__» ⟨[.ref x, b], []⟩) Q E ⟨hh, g, d, t, os⟩ := by
  unfold Builtin.«object.__ne__»
  repeat (first
    | with_reducible refine wpAny_cRoomFor hu ?_
    | (refine wpAny_bind (m := callSpecialIfBound? (.ref x) (Str.ofString "__eq__") [b])
        (ifBound_K X I hs hf (wpAny_mono h (fun r s' hr => by
          obtain ⟨q, rfl, hq⟩ := hr
          repeat (first | exact hq | exact wpAny_pure hq | exact wpAny_truthy_bool hq | (refine wpAny_bind (m := truthy (.bool _)) (wpAny_truthy_bool ?_)) | wp_step)) fun _ _ e => e)))
    | wp_step)
theorem ga_ne_K {Q : Value → Shared → Prop} (hu : A.units + 1 < cLine) (F : Fr h₀ L hh m) (X₀ : K.In h₀) (I : InstAt hh x ox C od) (hb : Looks (model prog w) hh (typeOf b) tb) (hn : notFirst K C tb = true)
    (hs : findIn K (.ref C) "__eq__" = some (some (.ref f))) (hf : isFn K (.ref f) = true) (hne : findIn K (.ref C) "__ne__" = some (some (.builtin "object.__ne__"))) (hm : mroIn K C (.type "object") = some true)
    (h : wpAny (model prog w) A.in1 (call (.ref f) [.ref x, b]) (fun v s' => ∃ r, v = .bool r ∧ Q (.bool (!r)) s') E ⟨hh, g, d, t, os⟩) : wpAny (model prog w) A (richCompare .NotEq (.ref x) b) Q E ⟨hh, g, d, t, os⟩ := by
  have X := X₀.keeps F.keep
  have one : wpAny (model prog w) A (tryCompare (.ref x) (cmpInfo .NotEq).2.1 b) (fun r s' => ∃ v, r = some v ∧ Q v s') E ⟨hh, g, d, t, os⟩ := by
    rw [cmpInfo_NotEq]
    unfold tryCompare
    refine wpAny_bind (ga_ifBound_ne X I hne (wpAny_call (codeAny_call_builtin PySem.F.cmp_object.ne.plain PySem.F.cmpEntry_ne
      (ga_check_ne X I hm (PySem.F.cmpArgs_ne _ _) (ga_ne_body (A := A.in1) X I hs hf hu (wpAny_mono h (fun v s' hv => ?_) fun _ _ e => e))))))
    obtain ⟨r, rfl, hq⟩ := hv
    first | exact ⟨r, rfl, wpAny_pure ⟨_, rfl, hq⟩⟩ | exact ⟨r, rfl, wpAny_pure (wpAny_pure ⟨_, rfl, hq⟩)⟩
  unfold richCompare
  simp only [oneThing_ref]
  refine wpAny_holding (wpAny_bind (wpAny_cRoomFor (Nat.lt_of_succ_lt hu) ?_))
  refine wpAny_bind (I.type.here (wpAny_bind (hb.here ?_)))
  split
  · rename_i q
    have e : subIn K tb (.ref C) = some false := by
      rcases Bool.or_eq_true_iff.mp hn with e | e
      · rw [beq_iff_eq.mp e] at q; simp at q
      · exact beq_iff_eq.mp e
    refine wpAny_bind ((looks_subIn X e).here ?_)
    simp only [Bool.false_eq_true, if_false]
    refine wpAny_bind (wpAny_mono one (fun r s' z => ?_) fun _ _ e => e)
    obtain ⟨v, rfl, hq⟩ := z
    exact wpAny_pure hq
  · refine wpAny_bind (wpAny_pure ?_)
    simp only [Bool.false_eq_true, if_false]
    refine wpAny_bind (wpAny_mono one (fun r s' z => ?_) fun _ _ e => e)
    obtain ⟨v, rfl, hq⟩ := z
    exact wpAny_pure hq
end
end PySem.W
namespace GA
open PySem PySem.Spec PyProof.Rows L2
section
variable {X : Cx} {n : Nat}
/-- x != y of two instances whose own == says True -/
def rNeG (D : Eqv) : R2 := fun x y H Q => D x y H ∧ ∀ H', Ext H H' → Q (.bl false) H'
theorem op_neG {CX : CXT} {C f : Addr} {fd : FuncData} {ps : List Str} {R : Addr → Addr → Hp → Prop} {E : XK} (F : FnOk X.prog X.w X.K X.mg X.base CX n f fd ps (spEq R))
    (hs : PySem.W.findIn X.K (.ref C) "__eq__" = some (some (.ref f))) (hf : PySem.W.isFn X.K (.ref f) = true) (hb : Binds X.K fd ps []) (hx : Passes CX X E)
    (hne : PySem.W.findIn X.K (.ref C) "__ne__" = some (some (.builtin "object.__ne__"))) (hm : PySem.W.mroIn X.K C (.type "object") = some true) (rm : Room (n + 1) X.A) : OpR X (compareOp .NotEq) (rNeG (DIns C R)) := by
  intro pins s σ H x y u v Q I rx ry hq
  obtain ⟨⟨a, b, dx, dy, fs, gs, rfl, rfl, ha, hb', hr⟩, q⟩ := hq
  cases rx
  cases ry
  obtain ⟨mA, J, _⟩ := ins_get I.hok ha
  obtain ⟨mB, J', _⟩ := ins_get I.hok hb'
  obtain ⟨od, J, _⟩ := J.look
  obtain ⟨od', J', _⟩ := J'.look
  obtain ⟨m, hF⟩ := I.fr
  have rm1 : Room n X.A.in1 := rm.in1
  show wpAny (model X.prog X.w) X.A (richCompare .NotEq (.ref a) (.ref b)) (EP X pins σ Q) X.xe s
  refine PySem.W.ga_ne_K (tb := .ref C) rm1.units0 hF I.ok.mod.kin J J'.type (by simp [PySem.W.notFirst]) hs hf hne hm ?_
  have hsp : spEq R [.ref a, .ref b] H (fun v H' => v = .bl true ∧ Ext H H') E := ⟨a, b, rfl, hr, fun H' e => ⟨rfl, e⟩⟩
  have e0 : Env0 X.prog X.w X.K X.mg X.base X.A.in1 X.stack s H := ⟨I.env0.frames, I.env0.mod, I.env0.bs, I.env0.bsz, I.env0.funs, I.env0.frf, I.env0.hok, I.env0.bare⟩
  have hl := F.len _ _ _ _ hsp
  have r2 : Vals [V.ref a, V.ref b] [Value.ref a, Value.ref b] := .cons rfl (.cons rfl .nil)
  refine wpAny_call (codeAny_mono (F.run X.A.in1 X.stack s H ⟨[.ref a, .ref b], []⟩ [.ref a, .ref b] [.ref a, .ref b] _ E rm1 e0 (by
    have := hb s [.ref a, .ref b] I.kIn (by simpa using hl)
    simpa using this) r2 hsp) fun r s' hq => ?_)
  cases r with
  | error e => exact hx pins σ H s e s' I hq
  | ok fl =>
    cases fl with
    | ret w =>
      obtain ⟨z, H', I', rz, ez, ex⟩ := I.after hq
      subst ez
      cases rz
      exact ⟨true, rfl, .bl false, H', I', rfl, q H' ex⟩
    | next => exact False.elim hq
    | brk => exact False.elim hq
    | cont => exact False.elim hq
end
end GA
/-! ## GH -/
namespace L2
open PySem PySem.Spec PyProof.Rows
/-- the set as it is laid, and the heap with it -/
abbrev eset (w : World) : Obj := { cls := .type "set", dict := none, data := .set #[] 0 (.fresh 0 0 (!w.params.followText "set-order")) }
abbrev eheap (w : World) (h : Heap) : Heap := h.push (eset w)
section
variable {P : Program} {w : World} {A : Around} {E : Value → Shared → Prop} {s : Shared}
theorem gone_above {h : Heap} {b : Addr} (hb : h.objs.size ≤ b) : h.get? b = none := by
  cases q : h.get? b with
  | none => rfl
  | some o => exact absurd (Heap.lt_size q) (Nat.not_lt.mpr hb)
/-- set(t), t a tuple whose items are tuples of ints -/
theorem ga_set_of_tuple {l : Addr} {its : Array Value} (ks : List (Addr × List Int)) {Q : Value → Shared → Prop} (quiet : A.handled = none) (hl : s.heap.IsTuple l its) (hit : its.toList = ks.map fun p => Value.ref p.1)
    (hk : ∀ p ∈ ks, IsT P w s.heap p.2 p.1) (few : ks.length < 64) (un : A.units + 3 < cLine)
    (q : ∀ (h' : Heap) (tk : Nat) L es ep t, SetTR P w h' s.heap.objs.size L es ep t → Got ks ks.length L → (∀ b o, s.heap.get? b = some o → h'.get? b = some o) → Q (.ref s.heap.objs.size) { s with heap := h', toks := tk }) :
    wpAny (model P w) A (call (.type "set") [.ref l]) Q E s := by
  have isz : its.size = ks.length := by simpa using congrArg List.length hit
  have C := F.called_set
  obtain ⟨c, tl, m1⟩ := C.mro
  have m2 := C.made
  have m3 := C.sub
  have m4 := C.notType
  have m5 := C.canCreate
  have m6 := F.typeCall_set_1 (.ref l)
  refine wpAny_call (codeAny_of_tree (?_ : wpAny _ _ (callAny (.type "set") _) _ _ _))
  refine wpAny_pure ⟨Code.quiet_builtin _ (by decide +kernel), codeAny_builtin F.entry_type_call ?_⟩
  rw [Around.under_plain (weight_type_call_type "set" [.ref l] []) rfl]
  repeat (any_goals (first | assumption | wp_step))
  refine codeAny_mono (code_set_led1 (.ref l) (E := E) (Q₁ := fun ob s1 => ob = .ref s.heap.objs.size ∧ s1 = { s with heap := eheap w s.heap }) ⟨rfl, rfl⟩) fun r s1 hr => ?_
  match r, hr with
  | .error e, hr => exact hr
  | .ok .next, hr => exact hr.elim
  | .ok .brk, hr => exact hr.elim
  | .ok .cont, hr => exact hr.elim
  | .ok (.ret ob), hr =>
    obtain ⟨e1, e2⟩ := hr
    subst e1 e2
    have at0 : (eheap w s.heap).get? s.heap.objs.size = some (eset w) := Heap.get?_push_size _ rfl
    have ty0 : Shared.TypeIs { s with heap := eheap w s.heap } (.ref s.heap.objs.size) "set" := ⟨_, at0, rfl⟩
    have m7 := C.init.lookup
    have m8 := C.init.bind (.ref s.heap.objs.size)
    repeat (any_goals (first | assumption | wp_step))
    refine codeAny_mono (codeAny_call_builtin (R := wants (fun r s2 => r = .none ∧ ∃ h' tk L es ep t, s2 = { s with heap := h', toks := tk } ∧ SetTR P w h' s.heap.objs.size L es ep t ∧ Got ks ks.length L ∧
      (∀ b o, s.heap.get? b = some o → h'.get? b = some o)) E) C.init.plain F.entry_set_init (check_set_init_1 ty0 ?_)) fun r2 s2 hr2 => ?_
    · have hl1 : (eheap w s.heap).IsTuple l its := hl.push _
      obtain ⟨⟨oc, od, odt, osl⟩, ho, e1, nl, e2⟩ := id hl1
      simp only at e1 e2
      subst e1 e2
      have lS : l < s.heap.objs.size := by
        obtain ⟨o, h, _⟩ := hl
        exact Heap.lt_size h
      have n1 := F.sub_tuple_set
      have n2 := F.sub_tuple_frozenset
      have n3 : (Value.type "tuple" == Value.type "dict") = false := by decide
      have z1 : (eheap w s.heap).objs.size = s.heap.objs.size + 1 := Heap.size_push ..
      have nI : l ≠ (eheap w s.heap).objs.size := by
        rw [z1]; exact Nat.ne_of_lt (Nat.lt_succ_of_lt lS)
      unfold Builtin.«set.__init__» noKeywords Builtin.Frozenset.updateFrom
      generalize hpi : pyIter = PI
      wp_walk
      subst hpi
      refine wpAny_pyIter_tuple hl1 (wpAny_bind (wpAny_runValue ?_))
      have val : ∀ (i : Nat) (v : Value), its[i]? = some v → ∃ p, ks[i]? = some p ∧ v = .ref p.1 := fun i v hv => by
        have z : (ks.map fun p => Value.ref p.1)[i]? = some v := by rw [← hit, Array.getElem?_toList]; exact hv
        rw [List.getElem?_map] at z
        obtain ⟨p, hp, e⟩ := Option.map_eq_some_iff.mp z
        exact ⟨p, hp, e.symm⟩
      refine set_update_tups ((Walks.tuple (by simp [quiet]) _ l nI its).toS) s.heap.objs.size ?f1 ks isz few val s.heap hk (gone_above (Nat.le_refl _)) ?f2 (by simp; omega) (its.size - 0) 0 _ (by omega) (Nat.zero_le _)
        ⟨⟨_, Heap.get?_push_size _ rfl, rfl, rfl⟩, hl1.push _⟩ (fun b o e => Heap.get?_push_of_some _ (Heap.get?_push_of_some _ e)) ?f3 ?f4
      case f1 =>
        rw [z1]
        simp only [List.mem_cons, List.not_mem_nil, or_false, not_or]
        exact ⟨Nat.ne_of_lt (Nat.lt_succ_self _), Nat.ne_of_gt lS⟩
      case f2 =>
        intro b hb
        refine gone_above ?_
        rw [List.mem_singleton.mp hb, z1]
        exact Nat.le_succ _
      case f3 => exact ⟨[], #[], 0, _, setTR_fresh (Heap.get?_push_of_some _ at0), Got.zero ks⟩
      case f4 =>
        rintro ⟨h', g2, d', tk', os'⟩ L es ep t mv R got kp
        obtain rfl : g2 = s.gens := mv.gens
        obtain rfl : d' = s.drawn := mv.drawn
        obtain rfl : os' = s.os := mv.os
        rw [isz] at got
        exact wpAny_pure (wpAny_pure ⟨rfl, h', tk', L, es, ep, t, rfl, R, got, kp⟩)
    · match r2, hr2 with
      | .error e, hr2 => exact hr2
      | .ok .next, hr2 => exact hr2.elim
      | .ok .brk, hr2 => exact hr2.elim
      | .ok .cont, hr2 => exact hr2.elim
      | .ok (.ret z), hr2 =>
        obtain ⟨e3, h', tk, L, es, ep, t, e4, R, got, kp⟩ := hr2
        subst e3 e4
        repeat (any_goals (first | assumption | wp_step))
        exact q _ _ _ _ _ _ R got kp
end
end L2
/-! ## GI -/
namespace GA
open PySem PySem.Spec PyProof.Rows L2
/-! ### a list of pairs being filled -/
def Fil (K : PySem.W.Frag) (o : Option (Addr × Addr)) (H0 H : Hp) (D : Addr) (us : List (Int × Int)) : Prop := G o H0 H ∧ ∃ xs, H D = some (.lst xs) ∧ DpAll K H xs (us.map dP)
section
variable {K : PySem.W.Frag} {o : Option (Addr × Addr)} {H0 H H1 H' : Hp} {D : Addr} {us : List (Int × Int)}
theorem back_none (g : G none H0 H1) (h : H1 D = none) : H0 D = none := by
  cases c : H0 D with
  | none => rfl
  | some u => rw [g.all _ _ c] at h; cases h
theorem Fil.nil (g : G o H0 H1) (h0 : H0 D = none) (hh : ∀ p, o = some p → Hand H0 p.1 p.2) : Fil K o H0 (upd H1 D (.lst [])) D [] := ⟨g.mut h0 hh, [], upd_same, .nil⟩
theorem Fil.g (f : Fil K o H0 H D us) (g : G o H H') (off : Off o D) : Fil K o H0 H' D us := by
  obtain ⟨g0, xs, h1, h2⟩ := f
  exact ⟨g0.trans g, xs, g.keep _ _ off h1, dpAll_t g.tups _ _ (nls_pairs us) h2⟩
theorem Fil.app (f : Fil K o H0 H D us) (h0 : H0 D = none) (hh : ∀ p, o = some p → Hand H0 p.1 p.2) {v : V} {u : Int × Int} (hv : Dp K H v (dP u)) (hz : us.length ≤ 90000) :
    ∃ acc, H D = some (.lst acc) ∧ acc.length < sizeLine ∧ Fil K o H0 (upd H D (.lst (acc ++ [v]))) D (us ++ [u]) := by
  obtain ⟨g0, xs, h1, h2⟩ := f
  have t : Ts H (upd H D (.lst (xs ++ [v]))) := Ts.updl h1
  have l2 := DpAll.length h2
  rw [List.length_map] at l2
  refine ⟨xs, h1, Nat.lt_of_le_of_lt (by omega : xs.length ≤ 90000) (by decide), g0.mut h0 hh, _, upd_same, ?_⟩
  rw [List.map_append]
  exact DpAll.app (dpAll_t t _ _ (nls_pairs us) h2) (DpAll.one (dp_t t _ _ (nl_dP u) hv))
end
/-! ### two for -/
section
variable {J J1 : It} {n n1 : Nat} {Gd G1 : Hp → Prop} {Y Y1 : Nat → Hp → V → Hp → Prop} {g g1 : TG} {tt tt1 : TT} {te : TE} {wi1 : TI} {vs vs1 : List Nat} {σ σ2 : L2.St} {H1 H4 : Hp} {D : Addr} {Qd Nx : Hp → Prop}
theorem lc2_it (w : Walk J n Gd Y) (Pv : Nat → Hp → Prop) (h0 : Pv 0 (upd H1 D (.lst []))) (hG : ∀ i H, i ≤ n → Pv i H → Gd H)
    (hs : ∀ i x H H', i < n → Pv i H → Y i H x H' → g x (wipe σ vs) H' fun σ2 H2 => wipe σ2 vs = wipe σ vs ∧ tt σ2 H2 fun b H3 =>
      if b = true then wi1 σ2 H3 fun J1 H4 => ∃ W1 : Nat → Nat → Hp → Prop, (∃ m, W1 0 m H4) ∧ ∀ j k H, W1 j k H →
        (J1.stop j H ∧ Pv (i + 1) H) ∨ (J1.go j H ∧ ∃ Nx1 : Hp → Prop, (∀ H', Nx1 H' → ∃ k', k' < k ∧ W1 (j + 1) k' H') ∧ ∀ x H', J1.yld j H x H' → g1 x (wipe σ2 vs1) H' fun σ3 H5 => wipe σ3 vs1 = wipe σ2 vs1 ∧ tt1 σ3 H5 fun b H6 =>
          if b = true then te σ3 H6 fun y H7 => ∃ acc, H7 D = some (.lst acc) ∧ acc.length < sizeLine ∧ Nx1 (upd H7 D (.lst (acc ++ [y]))) else Nx1 H6)
      else Pv (i + 1) H3) (hd : ∀ H, Pv n H → Qd H) :
    ∃ W : Nat → Nat → Hp → Prop, (∃ m, W 0 m (upd H1 D (.lst []))) ∧ ∀ i m H, W i m H →
      (J.stop i H ∧ Qd H) ∨ (J.go i H ∧ ∃ Nx : Hp → Prop, (∀ H', Nx H' → ∃ m', m' < m ∧ W (i + 1) m' H') ∧ ∀ x H', J.yld i H x H' → g x (wipe σ vs) H' fun σ2 H2 => wipe σ2 vs = wipe σ vs ∧ tt σ2 H2 fun b H3 =>
        if b = true then wi1 σ2 H3 fun J1 H4 => ∃ W1 : Nat → Nat → Hp → Prop, (∃ m, W1 0 m H4) ∧ ∀ j k H, W1 j k H →
          (J1.stop j H ∧ Nx H) ∨ (J1.go j H ∧ ∃ Nx1 : Hp → Prop, (∀ H', Nx1 H' → ∃ k', k' < k ∧ W1 (j + 1) k' H') ∧ ∀ x H', J1.yld j H x H' → g1 x (wipe σ2 vs1) H' fun σ3 H5 => wipe σ3 vs1 = wipe σ2 vs1 ∧ tt1 σ3 H5 fun b H6 =>
            if b = true then te σ3 H6 fun y H7 => ∃ acc, H7 D = some (.lst acc) ∧ acc.length < sizeLine ∧ Nx1 (upd H7 D (.lst (acc ++ [y]))) else Nx1 H6)
        else Nx H3) := by
  refine ⟨fun i m H => m = n - i ∧ i ≤ n ∧ Pv i H, ⟨n, by simp, Nat.zero_le _, h0⟩, ?_⟩
  rintro i m H ⟨rfl, hi, p⟩
  have q := hG i H hi p
  by_cases c : i < n
  · exact .inr ⟨w.goes i H c q, Pv (i + 1), fun H' p' => ⟨n - (i + 1), by omega, rfl, c, p'⟩, fun x H' y => hs i x H H' c p (w.yields i H x H' c q y)⟩
  · obtain rfl : i = n := by omega
    exact .inl ⟨w.stops H q, hd H p⟩
theorem in_it (w : Walk J1 n1 G1 Y1) (P1 : Nat → Hp → Prop) (h0 : P1 0 H4) (hG : ∀ j H, j ≤ n1 → P1 j H → G1 H)
    (hs : ∀ j x H H', j < n1 → P1 j H → Y1 j H x H' → g1 x (wipe σ2 vs1) H' fun σ3 H5 => wipe σ3 vs1 = wipe σ2 vs1 ∧ tt1 σ3 H5 fun b H6 =>
      if b = true then te σ3 H6 fun y H7 => ∃ acc, H7 D = some (.lst acc) ∧ acc.length < sizeLine ∧ P1 (j + 1) (upd H7 D (.lst (acc ++ [y]))) else P1 (j + 1) H6) (hd : ∀ H, P1 n1 H → Nx H) :
    ∃ W1 : Nat → Nat → Hp → Prop, (∃ m, W1 0 m H4) ∧ ∀ j k H, W1 j k H →
      (J1.stop j H ∧ Nx H) ∨ (J1.go j H ∧ ∃ Nx1 : Hp → Prop, (∀ H', Nx1 H' → ∃ k', k' < k ∧ W1 (j + 1) k' H') ∧ ∀ x H', J1.yld j H x H' → g1 x (wipe σ2 vs1) H' fun σ3 H5 => wipe σ3 vs1 = wipe σ2 vs1 ∧ tt1 σ3 H5 fun b H6 =>
        if b = true then te σ3 H6 fun y H7 => ∃ acc, H7 D = some (.lst acc) ∧ acc.length < sizeLine ∧ Nx1 (upd H7 D (.lst (acc ++ [y]))) else Nx1 H6) := by
  refine ⟨fun i m H => m = n1 - i ∧ i ≤ n1 ∧ P1 i H, ⟨n1, by simp, Nat.zero_le _, h0⟩, ?_⟩
  rintro i m H ⟨rfl, hi, p⟩
  have q := hG i H hi p
  by_cases c : i < n1
  · exact .inr ⟨w.goes i H c q, P1 (i + 1), fun H' p' => ⟨n1 - (i + 1), by omega, rfl, c, p'⟩, fun x H' y => hs i x H H' c p (w.yields i H x H' c q y)⟩
  · obtain rfl : i = n1 := by omega
    exact .inl ⟨w.stops H q, hd H p⟩
theorem w_lc2 {wi : TI} {Q : VK} (q : wi σ H1 fun J H1 => ∀ D, H1 D = none → ∃ W : Nat → Nat → Hp → Prop, (∃ m, W 0 m (upd H1 D (.lst []))) ∧ ∀ i m H, W i m H →
  (J.stop i H ∧ Q (.ref D) H) ∨ (J.go i H ∧ ∃ Nx : Hp → Prop, (∀ H', Nx H' → ∃ m', m' < m ∧ W (i + 1) m' H') ∧ ∀ x H', J.yld i H x H' → g x (wipe σ vs) H' fun σ2 H2 => wipe σ2 vs = wipe σ vs ∧ tt σ2 H2 fun b H3 =>
    if b = true then wi1 σ2 H3 fun J1 H4 => ∃ W1 : Nat → Nat → Hp → Prop, (∃ m, W1 0 m H4) ∧ ∀ j k H, W1 j k H →
      (J1.stop j H ∧ Nx H) ∨ (J1.go j H ∧ ∃ Nx1 : Hp → Prop, (∀ H', Nx1 H' → ∃ k', k' < k ∧ W1 (j + 1) k' H') ∧ ∀ x H', J1.yld j H x H' → g1 x (wipe σ2 vs1) H' fun σ3 H5 => wipe σ3 vs1 = wipe σ2 vs1 ∧ tt1 σ3 H5 fun b H6 =>
        if b = true then te σ3 H6 fun y H7 => ∃ acc, H7 D = some (.lst acc) ∧ acc.length < sizeLine ∧ Nx1 (upd H7 D (.lst (acc ++ [y]))) else Nx1 H6)
    else Nx H3)) : tLc2 wi g tt wi1 g1 tt1 te vs vs1 σ H1 Q := q
end
/-! ### a list or a tuple -/
def iSeq (K : PySem.W.Frag) (te : TE) : TI := fun σ H R => te σ H fun x H1 => ∃ a, x = .ref a ∧ (((∃ xs, SqL K H1 a xs) ∧ R (Itl K a) H1) ∨ ((∃ xs, SqT K H1 a xs) ∧ R (Itt K a) H1))
section
variable {X : Cx}
theorem pi_seq {tg l : Expr} {tl : TE} (hl : PE X l tl) : PI X tg l (iSeq X.K tl) := by
  refine ⟨fun pins s σ H R I h => ?_⟩
  refine thn (hl.run pins s σ H _ I h) fun v s1 ⟨x, H1, I1, r1, a, e, q1⟩ => ?_
  subst e
  cases r1
  rcases q1 with ⟨⟨xs, hq⟩, q⟩ | ⟨⟨xs, hq⟩, q⟩
  · obtain ⟨its, rv, p, _⟩ := I1.list hq
    refine wpAny_pyIter_list p.isList ⟨s1.heap.objs.size, [s1.heap.objs.size], _, _, H1, rfl, I1.kept (t' := s1.toks) fun b o e => Heap.get?_push_of_some _ e, turn_list a _, ⟨_, Heap.get?_push_size _ rfl, rfl, rfl⟩, fun b hb => ?_, q⟩
    obtain rfl : b = s1.heap.objs.size := by simpa using hb
    exact I1.fpOk (Nat.le_refl _) (I1.hok.fresh (Nat.le_refl _))
  · obtain ⟨its, rv, p, _⟩ := I1.tuple hq
    refine wpAny_pyIter_tuple p ⟨s1.heap.objs.size, [s1.heap.objs.size], _, _, H1, rfl, I1.kept (t' := s1.toks) fun b o e => Heap.get?_push_of_some _ e, turn_tuple a _, ⟨_, Heap.get?_push_size _ rfl, rfl, rfl⟩, fun b hb => ?_, q⟩
    obtain rfl : b = s1.heap.objs.size := by simpa using hb
    exact I1.fpOk (Nat.le_refl _) (I1.hok.fresh (Nat.le_refl _))
theorem k_pi_seq (K : PySem.W.Frag) {tg l : Expr} {tl : TE} (hl : PE X l tl) (hK : X.K = K := by rfl) : PI X tg l (iSeq K tl) := by subst hK; exact pi_seq hl
theorem w_iseq {K : PySem.W.Frag} {te : TE} {σ : L2.St} {H : Hp} {R : It → Hp → Prop} (q : te σ H fun x H1 => ∃ a, x = .ref a ∧ (((∃ xs, SqL K H1 a xs) ∧ R (Itl K a) H1) ∨ ((∃ xs, SqT K H1 a xs) ∧ R (Itt K a) H1))) : iSeq K te σ H R := q
/-- set(xs), a list or a tuple of pairs of ints -/
def rSetPA (K : PySem.W.Frag) (P : Program) (w : World) : List V → Hp → VK → Prop := fun vs H Q => ∃ (l : Addr) (xs : List V) (us : List (Int × Int)), vs = [V.ref l] ∧ (SqL K H l xs ∨ SqT K H l xs) ∧ DpAll K H xs (us.map dP) ∧ us.length < 64 ∧
  ∀ a L H2, H a = none → (∀ o, G o H H2) → H2 a = some (SetTO P w a L) → (∀ p ∈ L, SqT K H2 p.1 (p.2.map V.int)) → (∀ ns, ns ∈ L.map (·.2) ↔ ∃ u ∈ us, ns = [u.1, u.2]) → Q (.ref a) H2
theorem cr_setPA (hc : X.calm = true) (hu : X.A.units + 64 < cLine) : CallR X (.type "set") (rSetPA X.K X.prog X.w) := by
  intro pins s σ H vs us0 Q I r h
  obtain ⟨l, xs, us, rfl, hl, hd, hz, q⟩ := h
  rcases hl with hl | hl
  · exact cr_setPN hc hu pins s σ H _ us0 Q I r ⟨l, xs, us, rfl, hl, hd, hz, q⟩
  · obtain ⟨ks, rfl, h1, h2⟩ := ks_of hd
    have hz' : ks.length = us.length := by simpa using congrArg List.length h2
    rw [Vals.ref1 r]
    obtain ⟨its, rv, pl, _⟩ := I.tuple hl
    have hn : H s.heap.objs.size = none := I.hok.fresh (Nat.le_refl _)
    refine ga_set_of_tuple (P := X.prog) (w := X.w) ks (I.ok.hd hc) pl (by simpa using refs_of_vals rv) (fun p hp => I.isT (h1 p hp)) (by omega) (by omega) fun h' tk L es ep t R g k => ?_
    refine ⟨.ref s.heap.objs.size, upd H s.heap.objs.size (SetTO X.prog X.w s.heap.objs.size L), I.laid (t' := tk) k (Nat.le_refl _) (setTO_new R.t0), rfl, q _ L _ hn (fun _ => G.alloc hn) upd_same (fun p hp => sqT_t ((G.alloc (o := none) hn).tups) (h1 p (List.mem_of_mem_take (g.sub p hp)))) fun ns => ?_⟩
    have mem : ns ∈ ks.map (·.2) ↔ ∃ u ∈ us, ns = [u.1, u.2] := by
      rw [h2, List.mem_map]
      exact ⟨fun ⟨u, a, b⟩ => ⟨u, a, b.symm⟩, fun ⟨u, a, b⟩ => ⟨u, a, b.symm⟩⟩
    rw [← mem]
    constructor
    · intro h
      obtain ⟨p, hp, rfl⟩ := List.mem_map.mp h
      exact List.mem_map.mpr ⟨p, List.mem_of_mem_take (g.sub p hp), rfl⟩
    · intro h
      obtain ⟨p, hp, rfl⟩ := List.mem_map.mp h
      exact g.all p (by rw [List.take_length]; exact hp)
/-- t.index(z), t a tuple of ints -/
def rIndexTI (K : PySem.W.Frag) : V → List V → Hp → VK → Prop := fun x xs H Q => ∃ (p : Addr) (ns : List Int) (z : Int) (j : Nat), x = .ref p ∧ xs = [.int z] ∧ SqT K H p (ns.map V.int) ∧ ns[j]? = some z ∧ (∀ m, m < j → ns[m]? ≠ some z) ∧ Q (.int (j : Nat)) H
theorem mt_indexTI : MtR X "tuple.index" (rIndexTI X.K) := by
  intro pins s σ H x xs v us Q I rx rs h
  obtain ⟨p, ns, z, j, rfl, rfl, hq, hy, hno, q⟩ := h
  cases rx
  obtain ⟨u, rfl, t, rfl⟩ := vals1 rs
  obtain ⟨its, r, ⟨⟨cls, dd, dt, sl⟩, ho, hc, n, hd⟩, hz⟩ := I.tuple hq
  simp only at hc hd
  subst hc hd
  have hl : its.toArray.size = ns.length := by rw [List.size_toArray, ← r.length, List.length_map]
  have it : ∀ (m : Nat) (hm : m < its.toArray.size), ∃ y t', ns[m]? = some y ∧ its.toArray[m] = Value.int y t' := fun m hm => by
    have hm' : m < ns.length := by rw [← hl]; exact hm
    obtain ⟨w, hw, t', hw'⟩ := r.get (i := m) (x := .int ns[m]) (by simp [hm'])
    refine ⟨ns[m], t', List.getElem?_eq_getElem hm', ?_⟩
    have e := (List.getElem?_eq_some_iff.mp hw).2
    rw [← hw', ← e]
    simp
  have flat : (ns.map V.int).all flatV = true := by rw [List.all_map, List.all_eq_true]; exact fun _ _ => rfl
  have jl : j < its.toArray.size := by rw [hl]; exact (List.getElem?_eq_some_iff.mp hy).1
  refine call_meets PySem.F.slot_tuple_index ⟨_, ho, rfl⟩ PySem.F.entry_tuple_index (PySem.F.args_tuple_index_2 _ _) (TI.tuple_indexAt p its.toArray n dd sl (.int z t) (eqU (.int z)) j jl ?_ ?_)
    ⟨ho, fun w hw => mem_eqAt (x := .int z) ⟨t, rfl⟩ rfl r flat w (by simpa using hw), ⟨.int (j : Nat), H, I.tok _, ⟨_, rfl⟩, q⟩⟩
  · obtain ⟨y, t', h1, h2⟩ := it j jl
    rw [hy] at h1
    cases h1
    rw [h2]
    exact beq_self_eq_true z
  · intro m hm hmj
    obtain ⟨y, t', h1, h2⟩ := it m hm
    rw [h2]
    have ne : y ≠ z := fun e => hno m hmj (by rw [h1, e])
    exact beq_eq_false_iff_ne.mpr ne
theorem k_mt_indexTI (K : PySem.W.Frag) (hK : X.K = K := by rfl) : MtR X "tuple.index" (rIndexTI K) := by subst hK; exact mt_indexTI
/-- xs + ys, lists -/
def rCatLN : R2 := fun x y H Q => ∃ l b xs zs, x = .ref l ∧ y = .ref b ∧ H l = some (.lst xs) ∧ H b = some (.lst zs) ∧ xs.length + zs.length ≤ 100000 ∧ New H (.lst (xs ++ zs)) fun p H2 => Q (.ref p) H2
theorem op_catLN : OpR X (binaryOp .Add) rCatLN := OpR.weak op_cat fun x y H Q h => by
  obtain ⟨l, b, xs, zs, e1, e2, h1, h2, hz, q⟩ := h
  exact ⟨l, b, xs, zs, e1, e2, h1, h2, sz hz, fun p hp => q.go hp⟩
end
end GA
/-! ## GJ -/
namespace GA
open PySem PySem.Spec PyProof.Rows L2
/-! ### dict(pairs) whose keys are tuples -/
/-- one pair (key, value): where the pair's tuple stands, the key, where the key stands, the value -/
structure DPair where
  at_ : Addr
  key : List L2.Key
  kat : Addr
  val : V
def rDictPT : List V → Hp → VK → Prop := fun xs H Q => ∃ (a : Addr) (L : List DPair), xs = [.ref a] ∧ H a = some (.lst (L.map fun q => V.ref q.at_)) ∧ (∀ q ∈ L, H q.at_ = some (.tup [.ref q.kat, q.val]) ∧ H q.kat = some (.tup (q.key.map kV))) ∧ (L.map fun q => q.key).Nodup ∧ New H (.dT (L.map fun q => (q.key, q.val))) fun p H2 => Q (.ref p) H2
section
variable {X : Cx}
theorem pairs_told {pins : List (Addr × Obj)} {σ : L2.St} {H : Hp} {s : Shared} (I : Inv X pins σ H s) : ∀ (L : List DPair), (∀ q ∈ L, H q.at_ = some (.tup [.ref q.kat, q.val]) ∧ H q.kat = some (.tup (q.key.map kV))) →
    ∃ prs : List (List L2.Key × Addr × Value), Paired (fun (q : DPair) (p : List L2.Key × Addr × Value) => p.1 = q.key ∧ p.2.1 = q.kat ∧ RelV q.val p.2.2 ∧ s.heap.IsTuple q.at_ #[.ref q.kat, p.2.2]) L prs
  | [], _ => ⟨[], .nil⟩
  | q :: L, h => by
    obtain ⟨prs, r⟩ := pairs_told I L fun q' hq => h q' (List.mem_cons_of_mem _ hq)
    obtain ⟨h1, _⟩ := h q List.mem_cons_self
    obtain ⟨_, its, rv, pl⟩ := I.hok q.at_ _ h1
    cases rv with
    | cons r1 r2 =>
      cases r2 with
      | cons r2 r3 =>
        cases r3
        cases r1
        exact ⟨(q.key, q.kat, _) :: prs, .cons ⟨rfl, rfl, r2, pl⟩ r⟩
theorem paired_len {α β : Type} {F : α → β → Prop} : ∀ {l : List α} {m : List β}, Paired F l m → l.length = m.length
  | _, _, .nil => rfl
  | _, _, .cons _ t => by rw [List.length_cons, List.length_cons, paired_len t]
theorem paired_at {α β : Type} {F : α → β → Prop} : ∀ {l : List α} {m : List β} {i : Nat} {y : β}, Paired F l m → m[i]? = some y → ∃ x, l[i]? = some x ∧ F x y
  | _, _, _, _, .nil, e => by simp at e
  | _, _, 0, _, .cons h _, e => by simp at e; subst e; exact ⟨_, rfl, h⟩
  | _, _, i + 1, y, .cons _ t, e => by
    obtain ⟨x, h1, h2⟩ := paired_at (i := i) (y := y) t (by simpa using e)
    exact ⟨x, by simpa using h1, h2⟩
theorem paired_keys {s : Shared} {L : List DPair} {prs : List (List L2.Key × Addr × Value)} (r : Paired (fun (q : DPair) (p : List L2.Key × Addr × Value) => p.1 = q.key ∧ p.2.1 = q.kat ∧ RelV q.val p.2.2 ∧ s.heap.IsTuple q.at_ #[.ref q.kat, p.2.2]) L prs) : prs.map (·.1) = L.map fun q => q.key := by
  induction r with
  | nil => rfl
  | cons h _ ih => rw [List.map_cons, List.map_cons, ih, h.1]
theorem paired_kt {s : Shared} {H : Hp} {L : List DPair} {prs : List (List L2.Key × Addr × Value)} (r : Paired (fun (q : DPair) (p : List L2.Key × Addr × Value) => p.1 = q.key ∧ p.2.1 = q.kat ∧ RelV q.val p.2.2 ∧ s.heap.IsTuple q.at_ #[.ref q.kat, p.2.2]) L prs)
    (h : ∀ q ∈ L, H q.kat = some (.tup (q.key.map kV))) : KT H (L.map fun q => (q.key, q.val)) prs := by
  induction r with
  | nil => exact .nil
  | @cons q p L prs e _ ih =>
    refine .cons ⟨e.1.symm, ?_, e.2.2.1⟩ (ih fun q' hq => h q' (List.mem_cons_of_mem _ hq))
    rw [e.2.1]
    exact h q List.mem_cons_self
theorem call_dictPT (hc : X.calm = true) (hu : X.A.units + 64 < cLine) : CallR X (.type "dict") rDictPT := by
  intro pins s σ H xs us Q I r h
  obtain ⟨a, L, rfl, ha, hL, nd, q⟩ := h
  obtain ⟨u, rfl, rx⟩ := vals1 r
  cases rx
  obtain ⟨hz, its, n, rv, ea⟩ := I.hok a _ ha
  have eits : its = L.map fun q => Value.ref q.at_ := by
    have e : (L.map fun q => V.ref q.at_) = (L.map fun q => q.at_).map V.ref := by rw [List.map_map]; rfl
    rw [e] at rv
    have := L2.refs_at rv
    rw [this, List.map_map]; rfl
  obtain ⟨prs, pr⟩ := pairs_told I L hL
  have len := paired_len pr
  have keys := paired_keys pr
  have P := PairArg.list (prog := X.prog) (w := X.w) a its.toArray (fun j => (L[j]?.map fun q => q.at_).getD 0) (prs.map fun p => (Value.ref p.2.1, p.2.2))
  have Lsz : L.length ≤ sizeLine := by
    rw [List.length_map] at hz
    exact hz
  have key_in : ∀ p ∈ prs, ∃ q ∈ L, p.1 = q.key ∧ p.2.1 = q.kat := fun p hp => by
    obtain ⟨i, hi⟩ := List.getElem?_of_mem hp
    obtain ⟨q, hq, e⟩ := paired_at pr hi
    exact ⟨q, List.mem_of_getElem? hq, e.1, e.2.1⟩
  have newA : H s.heap.objs.size = none := I.hok.fresh (Nat.le_refl _)
  refine call_dict_pairsH (knd := tupleKind (mixKind X.prog X.w)) (ps := prs) P (I.ok.hd hc) (by show _ < cLine; simp; omega) ⟨⟨_, n, ea, rfl, rfl, rfl⟩, ?_, fun j k v e => ?_⟩ ⟨by rw [List.length_map], fun i key v e => ?_⟩ (fun h' keep p hp => ?_) (by rw [List.length_map]; omega) fun h' tk D keep => ?_
  · rw [List.size_toArray, eits, List.length_map, List.length_map, len]
  · rw [List.getElem?_map] at e
    obtain ⟨p, hp, e⟩ := Option.map_eq_some_iff.mp e
    cases e
    obtain ⟨q, hq, e1, e2, e3, e4⟩ := paired_at pr hp
    have eq1 : (L[j]?.map fun q => q.at_).getD 0 = q.at_ := by rw [hq]; rfl
    refine ⟨?_, .inl ?_⟩
    · show its.toArray[j]? = some (.ref ((L[j]?.map fun q => q.at_).getD 0))
      rw [eq1, eits]
      simp [hq]
    · show s.heap.IsTuple ((L[j]?.map fun q => q.at_).getD 0) _
      rw [eq1]
      show s.heap.IsTuple q.at_ #[.ref p.2.1, p.2.2]
      rw [e2]
      exact e4
  · have e : (prs.map fun p => (Value.ref p.2.1, p.2.2))[i]? = some (key, v) := e
    rw [List.getElem?_map] at e
    obtain ⟨p, hp, e⟩ := Option.map_eq_some_iff.mp e
    cases e
    exact ⟨p.1, p.2.1, hp, rfl⟩
  · obtain ⟨q, hq, e1, e2⟩ := key_in p hp
    have k0 := key_of I.hok (hL q hq).2
    rw [e1, e2]
    obtain ⟨o, items, m, ho, rest⟩ := k0
    exact ⟨o, items, m, keep _ _ (Nat.ne_of_lt (Heap.lt_size ho)) (by simp) ho, rest⟩
  · have e0 : storedAllH [] prs = prs := storedAllH_nil_of_nodup prs (by rw [keys]; exact nd)
    rw [e0] at D
    obtain ⟨o, es, ep, d1, d2, d3, d4, _, d6⟩ := D
    have hm : (s.heap.objs.size == sysModules) = false := beq_eq_false_iff_ne.mpr (Nat.ne_of_gt I.big)
    have kt : KT (upd H s.heap.objs.size (.dT (L.map fun q => (q.key, q.val)))) (L.map fun q => (q.key, q.val)) prs := paired_kt pr fun q hq => by
      rw [upd_ne (ne_of_none (hL q hq).2 newA)]
      exact (hL q hq).2
    exact ⟨.ref s.heap.objs.size, _, I.laid (o := .dT (L.map fun q => (q.key, q.val))) (t' := tk) (fun b o e => keep b o (by simp) e) (Nat.le_refl _) ⟨by rw [List.length_map]; exact Lsz, hm, prs, kt, o, es, ep, d1, d2, d3, d4, d6⟩, rfl, q.go newA⟩
end
end GA
/-! ## GK -/
namespace GA
open PySem PySem.Spec PyProof.Rows L2
section
variable {X : Cx}
/-- len(set(t)), t a tuple of unlike ints -/
def tLenSetTI (K : PySem.W.Frag) (ta : TE) : TE := fun σ H Q => ta σ H fun x H1 => ∃ (l : Addr) (ns : List Int), x = V.ref l ∧ SqT K H1 l (ns.map V.int) ∧ ns.length ≤ 1000 ∧ ns.Nodup ∧ Q (.int ns.length) H1
theorem pe_lenSetTI {a : Expr} {ta : TE} {p p2 q pos : Pos} (hc : X.calm = true) (hg : Gl X "len") (hm : X.mg "len" = none) (hg2 : Gl X "set") (hm2 : X.mg "set" = none) (ha : PE X a ta)
    (na : starEach [a] X.env = (false, eval a X.env) :: starEach [] X.env := by rfl) : PE X (.Call (.Name "len" p) [.Call (.Name "set" p2) [a] [] q] [] pos) (tLenSetTI X.K ta) := by
  refine ⟨fun pins s σ H Q I h => Call_ (ld_blt I hg hm PySem.boot_len (PyProof.Rows.callWith_builtin1 (PyProof.Rows.args_cons ?_ rfl) rfl rfl))⟩
  refine Call_ (ld_blt I hg2 hm2 PyProof.Rows.boot_set (PyProof.Rows.callWith_type1 (PyProof.Rows.args_cons (thn (ha.run pins s σ H _ I h) fun v s1 ⟨x, H1, I1, r1, l, ns, ex, hq, h1, hnd, q1⟩ => PyProof.Rows.args_nil ?_) na) na rfl))
  subst ex
  cases r1
  obtain ⟨its, r, pt, _⟩ := I1.tuple hq
  refine call_set_tupI ns (I1.ok.hd hc) pt (ints_of_vals r) (by unfold scanBound; omega) fun h' tk c R _ keep => PyProof.Rows.args_nil ?_
  obtain ⟨o, es, ep, t, ho, hex, hd, _, nd, mem, hsz, hf, _⟩ := R
  have e : es.size = ns.length := by
    have pm : (es.toList.map keyOf).Perm ns := (List.perm_ext_iff_of_nodup nd hnd).mpr fun k => by rw [← mem]; simp
    have := pm.length_eq
    simpa using this
  have I2 : Inv X pins σ H1 { s1 with heap := h', toks := tk } := I1.kept keep
  exact call_len_set ho hex hd hf (by rw [e]; omega) ⟨.int ns.length, H1, I2.tok _, ⟨_, by rw [e]⟩, q1⟩
end
end GA
/-! ## GL -/
namespace GA
open PySem L2
/-! ### methods of tuples; tuples whose object is known -/
section
variable {X : Cx} {T : String} {name : Str} {id : String} {r : V → List V → Hp → VK → Prop} {o e : Expr} {es : List Expr} {apos cpos : Pos} {to : TE} {t : TA}
theorem k_bm (K : PySem.W.Frag) (pa : PlainAttrs T) (slot : Slot T name id) (hty : typeOf (.builtin id) = pure (.type "method_descriptor")) (hm : MtR X id r) (ho : PE X o to) (ha : PA X (e :: es) t) (hK : X.K = K := by rfl)
    (h1 : attributeBase o name X.env (eval o X.env) = eval o X.env := by rfl)
    (h2 : ((backTo cpos (starEach (e :: es) X.env)).all (fun x => !x.1) && (backToKw cpos (keywordEach [] X.env)).all (fun x => x.1.isSome) && decide ((e :: es).length + ([] : List Keyword).length + (if ([] : List Keyword).isEmpty then 0 else 1) < 30)) = true := by rfl)
    (h3 : (apos.endLine == cpos.line) = true := by rfl) (h4 : starEach (e :: es) X.env = (false, eval e X.env) :: starEach es X.env := by rfl) (h5 : (backTo cpos (starEach es X.env)).any (·.1) = false := by rfl) :
    PE X (.Call (.Attribute o name apos) (e :: es) [] cpos) (tBM K T r to t) := by
  subst hK
  exact pe_bm pa slot hty hm ho ha h1 h2 h3 h4 h5
/-- a tuple whose object is known: it has no names of its own -/
def FrzT (H : Hp) (p : Addr) (xs : List V) : Prop := ∃ ob : Obj, H p = some (.frz ob (.tup xs)) ∧ ob.dict = none
theorem FrzT.sq {K : PySem.W.Frag} {H : Hp} {p : Addr} {xs : List V} (h : FrzT H p xs) : SqT K H p xs := by
  obtain ⟨ob, h, _⟩ := h
  exact .inl (.inr ⟨ob, h⟩)
theorem FrzT.n {H H' : Hp} {p : Addr} {xs : List V} (h : FrzT H p xs) (g : G none H H') : FrzT H' p xs := by
  obtain ⟨ob, h, d⟩ := h
  exact ⟨ob, g.all _ _ h, d⟩
def tBMT (r : V → List V → Hp → VK → Prop) (to : TE) (t : TA) : TE := fun σ H Q => to σ H fun x H1 => (∃ p xs, x = .ref p ∧ FrzT H1 p xs) ∧ t σ H1 fun vs H2 => r x vs H2 Q
theorem w_bmt {r : V → List V → Hp → VK → Prop} {σ : L2.St} {H : Hp} {Q : VK} (q : to σ H fun x H1 => (∃ p xs, x = .ref p ∧ FrzT H1 p xs) ∧ t σ H1 fun vs H2 => r x vs H2 Q) : tBMT r to t σ H Q := q
theorem pe_bmT (pa : PlainAttrs "tuple") (slot : Slot "tuple" name id) (hty : typeOf (.builtin id) = pure (.type "method_descriptor")) (hm : MtR X id r) (ho : PE X o to) (ha : PA X (e :: es) t)
    (h1 : attributeBase o name X.env (eval o X.env) = eval o X.env := by rfl)
    (h2 : ((backTo cpos (starEach (e :: es) X.env)).all (fun x => !x.1) && (backToKw cpos (keywordEach [] X.env)).all (fun x => x.1.isSome) && decide ((e :: es).length + ([] : List Keyword).length + (if ([] : List Keyword).isEmpty then 0 else 1) < 30)) = true := by rfl)
    (h3 : (apos.endLine == cpos.line) = true := by rfl) (h4 : starEach (e :: es) X.env = (false, eval e X.env) :: starEach es X.env := by rfl) (h5 : (backTo cpos (starEach es X.env)).any (·.1) = false := by rfl) :
    PE X (.Call (.Attribute o name apos) (e :: es) [] cpos) (tBMT r to t) := by
  refine ⟨fun pins s σ H Q I h => ?_⟩
  refine wpAny_Call_method_late h1 h2 h3 rfl (thn (ho.run pins s σ H _ I h) fun v s1 ⟨x, H1, I1, r1, ⟨p, xs, ex, ob, hp, dn⟩, q1⟩ => ?_)
  subst ex
  cases r1
  obtain ⟨a1, _, its, _, o', a2, a3, _⟩ := I1.hok p _ hp
  obtain rfl : o' = ob := by
    rw [a1] at a2
    exact (Option.some.inj a2).symm
  refine ⟨"tuple", id, pa, slot, hty, ⟨o', a1, a3⟩, fun a e => by cases e; exact ⟨o', a1, dn⟩, ?_⟩
  have hA := ha.run cpos pins s1 σ H1 _ I1 q1
  rw [h4] at hA ⊢
  refine Calls.callWith_builtin (by show (false || (backTo cpos (starEach es X.env)).any (·.1)) = false; rw [h5] <;> rfl) (Calls.evalArgs_plain ?_)
  exact thn hA fun us s2 ⟨vs, H2, I2, r2, q2⟩ => hm pins s2 σ H2 (.ref p) vs (.ref p) us Q I2 rfl r2 q2
/-- tuple(a list): the new tuple's object is told -/
def rTupleF (K : PySem.W.Frag) : List V → Hp → VK → Prop := fun xs H Q => ∃ p ys, xs = [.ref p] ∧ SqL K H p ys ∧ ∀ l H2, H l = none → (∀ o, G o H H2) → FrzT H2 l ys → Q (.ref l) H2
theorem call_tupleF : CallR X (.type "tuple") (rTupleF X.K) := by
  intro pins s σ H xs us Q I r h
  obtain ⟨p, ys, rfl, hq, q⟩ := h
  obtain ⟨u, rfl, rx⟩ := vals1 r
  cases rx
  obtain ⟨its, r', pl, hz⟩ := I.list hq
  have hlen := r'.length
  refine call_tuple_list pl.isList (fun h' kp => ?_) (by simp only [List.size_toArray] <;> omega)
  have I1 : Inv X pins σ H { s with heap := h' } := I.kept (t' := s.toks) kp
  have new : H h'.objs.size = none := I1.hok.fresh (Nat.le_refl _)
  refine ⟨.ref h'.objs.size, _, I1.laid (o := .frz { cls := .type "tuple", data := .seq its.toArray } (.tup ys)) (t' := s.toks) (fun b o e => Heap.get?_push_of_some _ e) (Nat.le_refl _) ⟨Heap.get?_push_size _ rfl, hz, its, r', PyProof.Rows.IsTup.new _ _⟩, rfl, q _ _ new (fun _ => G.alloc new) ⟨_, upd_same, rfl⟩⟩
end
end GA
/-! ## GM -/
/-! tuples compared item by item, where an item's own == may run -/
namespace GQB
open PySem PySem.SeqAt GQ
open AutoSeq1 (wpAny_loadPart')
open MeetsSeq MeetsSeq2 MeetsSeq3 SeqRoads2
section
variable {prog : Program} {w : World} {A : Around} {R : Result → Shared → Prop}
theorem tuple_eqB (l b : Addr) (items items2 : Array Value) (n n2 : Nat) (dd dd2 : Option Addr) (sl sl2 : Array (Option Value)) (e : Nat → Bool) (I : Shared → Prop)
    (turn : ∀ i (h1 : i < items.size) (h2 : i < items2.size) s, I s → wpAny (model prog w) A.in1 (eqBool items[i] items2[i]) (fun r s' => r = e i ∧ I s') (fun e s' => R (.error e) s') s)
    (fin : ∀ s, I s → R (.ok (.ret (.bool ((List.range (min items.size items2.size)).all e && items.size == items2.size)))) s) {s : Shared} (hl1 : s.heap.get? l = some { cls := .type "tuple", dict := dd, data := .seq items n, slots := sl }) (hb1 : s.heap.get? b = some { cls := .type "tuple", dict := dd2, data := .seq items2 n2, slots := sl2 }) (h : I s) :
    wpAny (model prog w) A.in1 (Builtin.«tuple.__eq__» ⟨[.ref l, .ref b], []⟩) (FinOf prog w A R) (fun e s' => R (.error e) s') s := by
  have f2 := AutoSeq1.sub_tuple_tuple
  have hZ : (items.toList.zip items2.toList).length = min items.size items2.size := by simp
  have h0 := h
  obtain ⟨hp, g, d, tk, os⟩ := s
  wp_walk using wpAny_loadPart' hl1, wpAny_loadPart' hb1, wpAny_forIn_list _ (fun rest b s' => b.1 = none ∧ ∃ i, rest = (items.toList.zip items2.toList).drop i ∧ (∀ j, j < i → e j = true) ∧ I s') _
  case turn =>
    rintro ⟨y, x⟩ rest b s' ⟨hb', i, hz, hi, hI⟩
    have hlt : i < (items.toList.zip items2.toList).length := by
      rcases Nat.lt_or_ge i (items.toList.zip items2.toList).length with h' | h'
      · exact h'
      · rw [List.drop_of_length_le h'] at hz; cases hz
    have hm : i < min items.size items2.size := hZ ▸ hlt
    have h1 : i < items.size := Nat.lt_of_lt_of_le hm (Nat.min_le_left _ _)
    have h2 : i < items2.size := Nat.lt_of_lt_of_le hm (Nat.min_le_right _ _)
    rw [List.drop_eq_getElem_cons hlt] at hz
    injection hz with hyx hrest
    have hy : y = items[i] := by have := congrArg Prod.fst hyx; simpa using this
    have hx : x = items2[i] := by have := congrArg Prod.snd hyx; simpa using this
    subst hy hx
    refine wpAny_bind (wpAny_mono (turn i h1 h2 s' hI) (fun r s2 q2 => ?_) fun _ _ x => x)
    obtain ⟨hr, q2⟩ := q2
    subst hr
    cases hei : e i with
    | true =>
      wp_walk
      refine ⟨rfl, i + 1, hrest, fun j hj => ?_, q2⟩
      rcases Nat.lt_succ_iff_lt_or_eq.mp hj with z | z
      · exact hi j z
      · rw [z]; exact hei
    | false =>
      have al : (List.range (min items.size items2.size)).all e = false := by
        rw [Bool.eq_false_iff]
        intro z
        have := List.all_eq_true.mp z i (List.mem_range.mpr hm)
        rw [hei] at this; cases this
      have hR := fin s2 q2
      rw [al, Bool.false_and] at hR
      wp_walk
      simpa using hR
  case fin =>
    rintro ⟨b1, b2⟩ s' ⟨hb', i, hz, hi, hI⟩
    simp only at hb'
    subst hb'
    have hge : min items.size items2.size ≤ i := by
      rcases Nat.lt_or_ge i (items.toList.zip items2.toList).length with h' | h'
      · rw [List.drop_eq_getElem_cons h'] at hz; cases hz
      · exact hZ ▸ h'
    have al : (List.range (min items.size items2.size)).all e = true := List.all_eq_true.mpr fun j hj => hi j (Nat.lt_of_lt_of_le (List.mem_range.mp hj) hge)
    have hR := fin s' hI
    rw [al, Bool.true_and] at hR
    wp_walk
    simpa [Builtin.Tuple.tupleCompareSizes] using hR
  case h =>
    exact ⟨rfl, 0, rfl, (fun _ h => absurd h (Nat.not_lt_zero _)), h0⟩
end
section
variable {prog : Program} {w : World} {A : Around} {E : Value → Shared → Prop} {s : Shared}
theorem rc_tupB {l b : Addr} {items items2 : Array Value} {Q : Value → Shared → Prop} (hu : A.units < cLine) (e : Nat → Bool) (I : Shared → Prop)
    (hl : s.heap.IsTuple l items) (hb : s.heap.IsTuple b items2)
    (turn : ∀ i (h1 : i < items.size) (h2 : i < items2.size) s, I s → wpAny (model prog w) A.in1 (eqBool items[i] items2[i]) (fun r s' => r = e i ∧ I s') E s)
    (fin : ∀ s, I s → Q (.bool ((List.range (min items.size items2.size)).all e && items.size == items2.size)) s) (h : I s) : wpAny (model prog w) A (richCompare .Eq (.ref l) (.ref b)) Q E s := by
  obtain ⟨⟨cls, dd, data, sl⟩, ho, hc, n, hd⟩ := id hl
  obtain ⟨⟨cls2, dd2, data2, sl2⟩, ho2, hc2, n2, hd2⟩ := id hb
  simp only at hc hd hc2 hd2
  subst hc hd hc2 hd2
  refine wpAny_richCompare_same_room (op := .Eq) ⟨_, ho, rfl⟩ ⟨_, ho2, rfl⟩ F.slot_tuple_eq (call_here F.slot_tuple_eq ⟨_, ho, rfl⟩ F.entry_tuple_eq (F.args_tuple_eq_2 _ _) ?_) hu
  exact tuple_eqB (R := wants (fun v s' => v ≠ .notImplemented ∧ Q v s') E) l b items items2 n n2 dd dd2 sl sl2 e I turn (fun s' q => ⟨(fun x => nomatch x), fin s' q⟩) ho ho2 h
end
end GQB
/-! ## GN -/
namespace GA
open PySem PySem.Spec PyProof.Rows L2
/-! ### any thing, as far as it is looked at -/
inductive Tg where
  | non
  | bl (b : Bool)
  | int (i : Int)
  | str (s : Str)
  | tup (ts : List Tg)
  | oth
/-- an object that is neither a tuple nor flat: a list, a dict, an instance of the class at C -/
def Oth (C : Addr) (H : Hp) (a : Addr) : Prop := (∃ xs, H a = some (.lst xs)) ∨ (∃ kvs, H a = some (.dK kvs)) ∨ ∃ dx fs, H a = some (.ins C dx fs)
mutual
inductive Ab (C hd : Addr) (H : Hp) : V → Tg → Prop
  | non : Ab C hd H .non .non
  | bl (b : Bool) : Ab C hd H (.bl b) (.bl b)
  | int (i : Int) : Ab C hd H (.int i) (.int i)
  | str (x : Str) : Ab C hd H (.str x) (.str x)
  | tup {a : Addr} {xs : List V} {ts : List Tg} : Rd H a (.tup xs) → AbAll C hd H xs ts → Ab C hd H (.ref a) (.tup ts)
  | oth {a : Addr} : a ≠ hd → Oth C H a → Ab C hd H (.ref a) .oth
inductive AbAll (C hd : Addr) (H : Hp) : List V → List Tg → Prop
  | nil : AbAll C hd H [] []
  | cons {v : V} {vs : List V} {t : Tg} {ts : List Tg} : Ab C hd H v t → AbAll C hd H vs ts → AbAll C hd H (v :: vs) (t :: ts)
end
theorem Oth.k {C : Addr} {H H' : Hp} {a : Addr} (h : Oth C H a) (k : ∀ u, H a = some u → H' a = some u) : Oth C H' a := by
  rcases h with ⟨xs, h⟩ | ⟨kvs, h⟩ | ⟨dx, fs, h⟩
  · exact .inl ⟨xs, k _ h⟩
  · exact .inr (.inl ⟨kvs, k _ h⟩)
  · exact .inr (.inr ⟨dx, fs, k _ h⟩)
mutual
theorem Ab.k {C hd : Addr} {H H' : Hp} (t : Ts H H') (k : ∀ a u, a ≠ hd → H a = some u → H' a = some u) : ∀ (g : Tg) (v : V), Ab C hd H v g → Ab C hd H' v g
  | .non, _, h => by cases h; exact .non
  | .bl b, _, h => by cases h; exact .bl b
  | .int b, _, h => by cases h; exact .int b
  | .str b, _, h => by cases h; exact .str b
  | .oth, _, h => by
    cases h with
    | oth n o => exact .oth n (o.k fun u e => k _ u n e)
  | .tup ts, _, h => by
    cases h with
    | tup r a => exact .tup (t _ _ r) (AbAll.k t k ts _ a)
theorem AbAll.k {C hd : Addr} {H H' : Hp} (t : Ts H H') (k : ∀ a u, a ≠ hd → H a = some u → H' a = some u) : ∀ (gs : List Tg) (vs : List V), AbAll C hd H vs gs → AbAll C hd H' vs gs
  | [], _, h => by cases h; exact .nil
  | g :: gs, _, h => by
    cases h with
    | cons h1 h2 => exact .cons (Ab.k t k g _ h1) (AbAll.k t k gs _ h2)
end
/-- whatever may change is the hand alone -/
def OH (o : Option (Addr × Addr)) (hd : Addr) : Prop := ∀ p, o = some p → p.1 = hd
theorem OH.n {hd : Addr} : OH none hd := fun _ e => nomatch e
theorem OH.s {hd c : Addr} : OH (some (hd, c)) hd := fun _ e => by cases e; rfl
section
variable {C hd : Addr} {H H' : Hp} {o : Option (Addr × Addr)}
theorem Ab.g {v : V} {t : Tg} (h : Ab C hd H v t) (g : G o H H') (oh : OH o hd) : Ab C hd H' v t := h.k g.tups (fun a u n e => g.keep a u (fun p ep z => n (z.trans (oh p ep))) e) t v
theorem AbAll.g {vs : List V} {ts : List Tg} (h : AbAll C hd H vs ts) (g : G o H H') (oh : OH o hd) : AbAll C hd H' vs ts := h.k g.tups (fun a u n e => g.keep a u (fun p ep z => n (z.trans (oh p ep))) e) ts vs
theorem Ab.n {v : V} {t : Tg} (h : Ab C hd H v t) (g : G none H H') : Ab C hd H' v t := h.g g OH.n
theorem AbAll.n {vs : List V} {ts : List Tg} (h : AbAll C hd H vs ts) (g : G none H H') : AbAll C hd H' vs ts := h.g g OH.n
theorem AbAll.length : ∀ {vs : List V} {ts : List Tg}, AbAll C hd H vs ts → vs.length = ts.length
  | _, _, .nil => rfl
  | _, _, .cons _ t => by simp [AbAll.length t]
theorem AbAll.get : ∀ {vs : List V} {ts : List Tg} {i : Nat} {v : V}, AbAll C hd H vs ts → vs[i]? = some v → ∃ t, ts[i]? = some t ∧ Ab C hd H v t
  | _, _, _, _, .nil, e => by simp at e
  | _, _, 0, _, .cons h _, e => by simp at e; subst e; exact ⟨_, rfl, h⟩
  | _, _, i + 1, v, .cons _ t, e => by
    obtain ⟨d, h1, h2⟩ := AbAll.get (i := i) (v := v) t (by simpa using e)
    exact ⟨d, by simpa using h1, h2⟩
theorem AbAll.get' : ∀ {vs : List V} {ts : List Tg} {i : Nat} {t : Tg}, AbAll C hd H vs ts → ts[i]? = some t → ∃ v, vs[i]? = some v ∧ Ab C hd H v t
  | _, _, _, _, .nil, e => by simp at e
  | _, _, 0, _, .cons h _, e => by simp at e; subst e; exact ⟨_, rfl, h⟩
  | _, _, i + 1, v, .cons _ t, e => by
    obtain ⟨d, h1, h2⟩ := AbAll.get' (i := i) (t := v) t (by simpa using e)
    exact ⟨d, by simpa using h1, h2⟩
theorem AbAll.app : ∀ {vs ws : List V} {ts us : List Tg}, AbAll C hd H vs ts → AbAll C hd H ws us → AbAll C hd H (vs ++ ws) (ts ++ us)
  | _, _, _, _, .nil, h => h
  | _, _, _, _, .cons h t, h' => .cons h (AbAll.app t h')
theorem AbAll.take : ∀ {vs : List V} {ts : List Tg} (n : Nat), AbAll C hd H vs ts → AbAll C hd H (vs.take n) (ts.take n)
  | _, _, 0, _ => by simp; exact .nil
  | _, _, n + 1, .nil => by simp; exact .nil
  | _, _, n + 1, .cons h t => by simp; exact .cons h (AbAll.take n t)
theorem AbAll.drop : ∀ {vs : List V} {ts : List Tg} (n : Nat), AbAll C hd H vs ts → AbAll C hd H (vs.drop n) (ts.drop n)
  | _, _, 0, h => h
  | _, _, n + 1, .nil => by simp; exact .nil
  | _, _, n + 1, .cons h t => by simp; exact AbAll.drop n t
theorem rd_one {a : Addr} {xs ys : List V} (h : Rd H a (.tup xs)) (h' : Rd H a (.tup ys)) : xs = ys := by
  rcases h with h | ⟨o, h⟩ <;> rcases h' with h' | ⟨o', h'⟩ <;> rw [h] at h' <;> cases h' <;> rfl
theorem rd_oth {a : Addr} {xs : List V} (h : Rd H a (.tup xs)) (h' : Oth C H a) : False := by
  rcases h with h | ⟨o, h⟩ <;> rcases h' with ⟨_, h'⟩ | ⟨_, h'⟩ | ⟨_, _, h'⟩ <;> rw [h] at h' <;> cases h'
mutual
theorem Ab.one : ∀ (g : Tg) (v : V) (g' : Tg), Ab C hd H v g → Ab C hd H v g' → g = g'
  | .non, _, _, h, h' => by cases h; cases h'; rfl
  | .bl b, _, _, h, h' => by cases h; cases h'; rfl
  | .int b, _, _, h, h' => by cases h; cases h'; rfl
  | .str b, _, _, h, h' => by cases h; cases h'; rfl
  | .oth, _, _, h, h' => by
    cases h with
    | oth n o =>
      cases h' with
      | oth _ _ => rfl
      | tup r _ => exact (rd_oth r o).elim
  | .tup ts, _, _, h, h' => by
    cases h with
    | tup r a =>
      cases h' with
      | oth _ o => exact (rd_oth r o).elim
      | tup r' a' =>
        obtain rfl := rd_one r r'
        rw [AbAll.one ts _ _ a a']
theorem AbAll.one : ∀ (gs : List Tg) (vs : List V) (gs' : List Tg), AbAll C hd H vs gs → AbAll C hd H vs gs' → gs = gs'
  | [], _, _, h, h' => by cases h; cases h'; rfl
  | g :: gs, _, _, h, h' => by
    cases h with
    | cons h1 h2 =>
      cases h' with
      | cons h1' h2' => rw [Ab.one g _ _ h1 h1', AbAll.one gs _ _ h2 h2']
end
end
/-! ### isinstance of them -/
structure InsK (K : PySem.W.Frag) (C : Addr) : Prop where
  ic : C8.InsC K C
  int : PySem.W.kitOne K (.ref C) (.type "int") = some false
  bool : PySem.W.kitOne K (.ref C) (.type "bool") = some false
  tuple : PySem.W.kitOne K (.ref C) (.type "tuple") = some false
  str : PySem.W.kitOne K (.ref C) (.type "str") = some false
def isT : String → Tg → Bool
  | "int", .int _ => true
  | "int", .bl _ => true
  | "bool", .bl _ => true
  | "str", .str _ => true
  | "tuple", .tup _ => true
  | _, _ => false
theorem ab_isi {K : PySem.W.Frag} {C hd : Addr} {H : Hp} {v : V} {t : Tg} {n : String} {Q : VK} (I : InsK K C) (h : Ab C hd H v t) (hn : n = "int" ∨ n = "bool" ∨ n = "str" ∨ n = "tuple") (q : Q (.bl (isT n t)) H) : rIsi K [v, .ty n] H Q := by
  have mk : ∀ (ty : Value) (b : Bool), TyX K H v ty → PySem.W.kitOne K ty (.type n) = some b → isT n t = b → rIsi K [v, .ty n] H Q := fun ty b h1 h2 h3 => ⟨v, .ty n, ty, .type n, b, rfl, .ty n, h1, h2, h3 ▸ q⟩
  cases h with
  | non => exact mk _ (isT n .non) (.base .non) (by rcases hn with rfl | rfl | rfl | rfl <;> exact kit_ty (by decide +kernel)) rfl
  | bl b => exact mk _ (isT n (.bl b)) (.base (.bl b)) (by rcases hn with rfl | rfl | rfl | rfl <;> exact kit_ty (by cases b <;> decide +kernel)) rfl
  | int i => exact mk _ (isT n (.int 0)) (.base (.int i)) (by rcases hn with rfl | rfl | rfl | rfl <;> exact kit_ty (by decide +kernel)) (by rcases hn with rfl | rfl | rfl | rfl <;> rfl)
  | str x => exact mk _ (isT n (.str "")) (.base (.str x)) (by rcases hn with rfl | rfl | rfl | rfl <;> exact kit_ty (by decide +kernel)) (by rcases hn with rfl | rfl | rfl | rfl <;> rfl)
  | @tup a xs ts r al =>
    have ty : TyX K H (.ref a) (.type "tuple") := by
      rcases r with r | ⟨o, r⟩
      · exact .base (.tup r)
      · exact .fTuple r
    exact mk _ (isT n (.tup [])) ty (by rcases hn with rfl | rfl | rfl | rfl <;> exact kit_ty (by decide +kernel)) (by rcases hn with rfl | rfl | rfl | rfl <;> rfl)
  | @oth a ne o =>
    rcases o with ⟨xs, o⟩ | ⟨kvs, o⟩ | ⟨dx, fs, o⟩
    · exact mk _ (isT n .oth) (.base (.lst o)) (by rcases hn with rfl | rfl | rfl | rfl <;> exact kit_ty (by decide +kernel)) rfl
    · exact mk _ (isT n .oth) (.base (.dK o)) (by rcases hn with rfl | rfl | rfl | rfl <;> exact kit_ty (by decide +kernel)) rfl
    · refine mk _ (isT n .oth) (.base (.ins o I.ic.cl I.ic.ha I.ic.hn I.ic.htk I.ic.hm)) ?_ rfl
      rcases hn with rfl | rfl | rfl | rfl
      · exact I.int
      · exact I.bool
      · exact I.str
      · exact I.tuple
/-! ### t >= u, tuples of ints -/
def rGeT (K : PySem.W.Frag) : R2 := fun x y H Q => ∃ (a b : Addr) (ns ms : List Int), x = .ref a ∧ y = .ref b ∧ SqT K H a (ns.map V.int) ∧ SqT K H b (ms.map V.int) ∧
  Q (.bl (Ob.lexAt (fun j => decide (ns.getD j 0 = ms.getD j 0)) (fun j => decide (ms.getD j 0 ≤ ns.getD j 0)) (decide (ns.length ≥ ms.length)) 0 (min ns.length ms.length))) H
theorem op_geT {X : Cx} (hu : X.A.units < cLine) : OpR X (compareOp .GtE) (rGeT X.K) := by
  intro pins s σ H x y v u Q I rx ry h
  obtain ⟨a, b, ns, ms, rfl, rfl, ha, hb, q⟩ := h
  cases rx
  cases ry
  obtain ⟨its, r1, p1, _⟩ := I.tuple ha
  obtain ⟨its2, r2, p2, _⟩ := I.tuple hb
  have i1 : IntsAre its ns := Vals.ints r1
  have i2 : IntsAre its2 ms := Vals.ints r2
  have e1 : its.toArray.size = ns.length := by rw [List.size_toArray]; exact i1.length
  have e2 : its2.toArray.size = ms.length := by rw [List.size_toArray]; exact i2.length
  have at1 : ∀ j (h1 : j < its.toArray.size), ∃ t, its.toArray[j] = .int (ns.getD j 0) t := fun j h1 => PyProof.Rows.IntsAre.int_at i1 _ _ (by simp at h1; simp [h1])
  have at2 : ∀ j (h1 : j < its2.toArray.size), ∃ t, its2.toArray[j] = .int (ms.getD j 0) t := fun j h1 => PyProof.Rows.IntsAre.int_at i2 _ _ (by simp at h1; simp [h1])
  have R := Ob.RcOp.tuples_ge (A := X.A) (s := s) (e := fun j => decide (ns.getD j 0 = ms.getD j 0)) (r := fun j => decide (ms.getD j 0 ≤ ns.getD j 0)) p1 p2 hu (fun j h1 h2 => by
    obtain ⟨t, et⟩ := at1 j h1
    obtain ⟨t', et'⟩ := at2 j h2
    rw [et, et']
    have z : (ns.getD j 0 == ms.getD j 0) = decide (ns.getD j 0 = ms.getD j 0) := by
      by_cases q : ns.getD j 0 = ms.getD j 0
      · rw [decide_eq_true q]; exact beq_iff_eq.mpr q
      · rw [decide_eq_false q]; exact beq_eq_false_iff_ne.mpr q
    rw [← z]
    exact SeqAt.EqAt.int_int _ _ _ _) (fun j h1 h2 _ => by
    obtain ⟨t, et⟩ := at1 j h1
    obtain ⟨t', et'⟩ := at2 j h2
    rw [et, et']
    exact Ob.RcOp.ge_int _ _ _ _)
  rw [e1, e2] at R
  exact R X.prog X.w X.xe _ ⟨.bl _, H, I, rfl, q⟩
/-! ### tuples told by what they hold -/
def rCatR : R2 := fun x y H Q => ∃ a b xs ys, x = .ref a ∧ y = .ref b ∧ Rd H a (.tup xs) ∧ Rd H b (.tup ys) ∧ xs.length + ys.length ≤ 100000 ∧ ∀ p H2, (∀ o, G o H H2) → Rd H2 p (.tup (xs ++ ys)) → Q (.ref p) H2
theorem op_catR {X : Cx} : OpR X (binaryOp .Add) rCatR := OpR.weak op_catA fun x y H Q h => by
  obtain ⟨a, b, xs, ys, e1, e2, h1, h2, hz, q⟩ := h
  refine ⟨a, b, xs, ys, e1, e2, .inl h1, .inl h2, sz hz, fun e => ?_, fun _ e => ?_, fun _ _ p hp => ?_⟩
  · subst e; exact q b H (fun _ => G.refl) h2
  · subst e; exact q a H (fun _ => G.refl) (by rw [List.append_nil]; exact h1)
  · exact q p _ (fun _ => G.alloc hp) (.inl upd_same)
def rSlR : V → Option Int → Option Int → Hp → VK → Prop := fun x lo hi H Q => ∃ a xs, x = .ref a ∧ Rd H a (.tup xs) ∧ ∀ p H2, (∀ o, G o H H2) → Rd H2 p (.tup (cutV xs lo hi)) → Q (.ref p) H2
theorem sl_tupR {X : Cx} : SlR X rSlR := SlR.weak sl_tupA fun x lo hi H Q ⟨a, xs, e, h, q⟩ => ⟨a, xs, e, .inl h, fun w => q a H (fun _ => G.refl) (by
    have c : cutV xs lo hi = xs := by
      unfold cutV
      rw [w.1, w.2, List.drop_zero, Nat.sub_zero, List.take_length]
    rw [c]; exact h), fun _ p hp => q p _ (fun _ => G.alloc hp) (.inl upd_same)⟩
end GA
/-! ## GO -/
namespace GA
open PySem PySem.Spec PyProof.Rows L2
/-! ### what the head tells of a class -/
theorem kit_mro {K : PySem.W.Frag} {C : Addr} {n : String} {b : Bool} (h : PySem.W.mroIn K C (.type n) = some b) (hm : PySem.W.kitMeta n = true) : PySem.W.kitOne K (.ref C) (.type n) = some b := by
  unfold PySem.W.kitOne
  have e : ((Value.ref C : Value) == .type n) = false := rfl
  rw [e, if_neg Bool.false_ne_true]
  show (if PySem.W.kitMeta n = true then PySem.W.subIn K (.ref C) (.type n) else none) = some b
  rw [if_pos hm]
  exact h
theorem InsK.of {K : PySem.W.Frag} {C : Addr} (ic : C8.InsC K C) (hi : PySem.W.mroIn K C (.type "int") = some false) (hb : PySem.W.mroIn K C (.type "bool") = some false) (ht : PySem.W.mroIn K C (.type "tuple") = some false) (hs : PySem.W.mroIn K C (.type "str") = some false) : InsK K C :=
  ⟨ic, kit_mro hi (by decide +kernel), kit_mro hb (by decide +kernel), kit_mro ht (by decide +kernel), kit_mro hs (by decide +kernel)⟩
theorem cls_some {K : PySem.W.Frag} {C : Addr} {b : Value} {r : Bool} (h : PySem.W.mroIn K C b = some r) : (PySem.W.clsIn K C).isSome = true := by
  unfold PySem.W.mroIn at h
  cases e : PySem.W.clsIn K C with
  | none => rw [e] at h; cases h
  | some _ => rfl
theorem kit_own {K : PySem.W.Frag} {C : Addr} {T : String} {l : List Value} (hc : (PySem.W.clsIn K C).isSome = true) (hty : PySem.W.typeIn K (.ref C) = some (.type "type")) (hf : fastBuiltinMro T = some l) (hl : l.contains (.ref C) = false) : PySem.W.kitOne K (.type T) (.ref C) = some false := by
  unfold PySem.W.kitOne
  have e : ((Value.type T : Value) == .ref C) = false := rfl
  rw [e, if_neg Bool.false_ne_true]
  show (if ((PySem.W.clsIn K C).isSome && PySem.W.typeIn K (.ref C) == some (.type "type")) = true then PySem.W.subIn K (.type T) (.ref C) else none) = some false
  have z : (PySem.W.typeIn K (.ref C) == some (.type "type")) = true := by rw [hty]; exact beq_self_eq_true _
  rw [hc, z, Bool.and_self, if_pos rfl]
  show (fastBuiltinMro T).map (·.contains (.ref C)) = some false
  rw [hf, Option.map_some, hl]
theorem not_first {K : PySem.W.Frag} {C : Addr} {T : String} {l : List Value} (hf : fastBuiltinMro T = some l) (hl : l.contains (.ref C) = false) : PySem.W.notFirst K C (.type T) = true := by
  unfold PySem.W.notFirst
  have e : PySem.W.subIn K (.type T) (.ref C) = some false := by
    show (fastBuiltinMro T).map (·.contains (.ref C)) = some false
    rw [hf, Option.map_some, hl]
  rw [e]; exact Bool.or_true _
theorem fb_tuple : fastBuiltinMro "tuple" = some [.type "tuple", .type "object"] := by decide +kernel
theorem fb_int : fastBuiltinMro "int" = some [.type "int", .type "object"] := by decide +kernel
/-! ### x == y by x's own == -/
section
variable {X : Cx} {n : Nat} {CX : CXT} {C f : Addr} {fd : FuncData} {ps : List Str} {sp : Sp} {E : XK}
theorem rc_own (F : FnOk X.prog X.w X.K X.mg X.base CX n f fd ps sp) (hs : PySem.W.findIn X.K (.ref C) "__eq__" = some (some (.ref f))) (hf : PySem.W.isFn X.K (.ref f) = true) (hb : Binds X.K fd ps []) (hx : Passes CX X E)
    {A : Around} {pins : List (Addr × Obj)} {s : Shared} {σ : L2.St} {H : Hp} {a dx : Addr} {fs : List (Str × V)} {y : V} {v t : Value} {Q : Bool → Hp → Prop}
    (sb : Sub X n A) (I : Inv X pins σ H s) (ha : H a = some (.ins C dx fs)) (ry : RelV y v) (ty : TyX X.K H y t) (nf : PySem.W.notFirst X.K C t = true) (hsp : sp [.ref a, y] H (fun z H' => ∃ b, z = .bl b ∧ Q b H') E) :
    wpAny (model X.prog X.w) A (richCompare .Eq (.ref a) v) (fun r s' => ∃ b H', r = .bool b ∧ Inv X pins σ H' s' ∧ Q b H') X.xe s := by
  obtain ⟨mA, J, _⟩ := ins_get I.hok ha
  obtain ⟨od, J, _⟩ := J.look
  obtain ⟨P, Z, p, _⟩ := kit_of I ry ty
  obtain ⟨m, hF⟩ := I.fr
  refine PySem.W.cmp_K (op := .Eq) (tb := t) sb.room.units0 hF I.ok.mod.kin J (Z.ty _ _ I.kIn p) nf hs hf ?_
  have e0 : Env0 X.prog X.w X.K X.mg X.base A X.stack s H := by
    have e := I.env0
    exact ⟨by rw [sb.fr]; exact e.frames, e.mod, e.bs, e.bsz, e.funs, e.frf, e.hok, e.bare⟩
  have hl := F.len _ _ _ _ hsp
  have r2 : Vals [V.ref a, y] [Value.ref a, v] := .cons rfl (.cons ry .nil)
  refine wpAny_call (codeAny_mono (F.run A X.stack s H ⟨[.ref a, v], []⟩ [.ref a, v] [.ref a, y] _ E sb.room e0 (by
    have := hb s [.ref a, v] I.kIn (by simpa using hl)
    simpa using this) r2 hsp) fun r s' hq => ?_)
  cases r with
  | error e => exact hx pins σ H s e s' I hq
  | ok fl =>
    cases fl with
    | ret w =>
      obtain ⟨z, H', I', rz, b, ez, q⟩ := I.after hq
      subst ez
      cases rz
      exact ⟨b, H', rfl, I', q⟩
    | next => exact False.elim hq
    | brk => exact False.elim hq
    | cont => exact False.elim hq
/-- x == y, x an instance of the class at C -/
def rEqI (K : PySem.W.Frag) (C : Addr) (sp : Sp) (E : XK) : R2 := fun x y H Q => ∃ a dx fs t, x = .ref a ∧ H a = some (.ins C dx fs) ∧ TyX K H y t ∧ PySem.W.notFirst K C t = true ∧ sp [.ref a, y] H (fun z H' => ∃ b, z = .bl b ∧ Q (.bl b) H') E
theorem op_eqI (F : FnOk X.prog X.w X.K X.mg X.base CX n f fd ps sp) (hs : PySem.W.findIn X.K (.ref C) "__eq__" = some (some (.ref f))) (hf : PySem.W.isFn X.K (.ref f) = true) (hb : Binds X.K fd ps []) (hx : Passes CX X E) (hr : Room n X.A) : OpR X (compareOp .Eq) (rEqI X.K C sp E) := by
  intro pins s σ H x y u v Q I rx ry h
  obtain ⟨a, dx, fs, t, rfl, ha, ty, nf, hsp⟩ := h
  cases rx
  show wpAny (model X.prog X.w) X.A (richCompare .Eq (.ref a) v) (EP X pins σ Q) X.xe s
  refine wpAny_mono (rc_own F hs hf hb hx (Q := fun b H' => Q (.bl b) H') ⟨hr, rfl⟩ I ha ry ty nf hsp) (fun r s' z => ?_) fun _ _ x => x
  obtain ⟨b, H', rfl, I', q⟩ := z
  exact ⟨.bl b, H', I', rfl, q⟩
/-! ### any thing == data of ints and tuples -/
mutual
def eqT : Tg → Tg → Bool
  | .tup ts, .tup us => eqTs ts us
  | .int i, .int j => decide (i = j)
  | .bl b, .int j => decide ((if b then 1 else 0) = j)
  | _, _ => false
def eqTs : List Tg → List Tg → Bool
  | [], [] => true
  | t :: ts, u :: us => eqT t u && eqTs ts us
  | _, _ => false
end
/-- what only ints and tuples make up -/
inductive Pl : Nat → Tg → Prop
  | int {d : Nat} (i : Int) : Pl d (.int i)
  | tup {d : Nat} {us : List Tg} : (∀ u ∈ us, Pl d u) → Pl (d + 1) (.tup us)
mutual
theorem eqT_self : ∀ (d : Nat) (t : Tg), Pl d t → eqT t t = true
  | _, .int i, _ => by simp [eqT]
  | _, .tup ts, .tup h => by rw [eqT]; exact eqTs_self _ ts h
theorem eqTs_self : ∀ (d : Nat) (ts : List Tg), (∀ u ∈ ts, Pl d u) → eqTs ts ts = true
  | _, [], _ => rfl
  | d, t :: ts, h => by rw [eqTs, eqT_self d t (h t List.mem_cons_self), eqTs_self d ts fun u hu => h u (List.mem_cons_of_mem _ hu)]; rfl
end
theorem eqTs_all : ∀ (ts us : List Tg), eqTs ts us = ((List.range (min ts.length us.length)).all (fun i => eqT (ts.getD i .non) (us.getD i .non)) && ts.length == us.length)
  | [], [] => rfl
  | [], _ :: _ => by simp [eqTs]
  | _ :: _, [] => by simp [eqTs]
  | t :: ts, u :: us => by
    rw [eqTs, eqTs_all ts us]
    simp only [List.length_cons, Nat.succ_min_succ, List.range_succ_eq_map, List.all_cons, List.getD_cons_zero, List.all_map]
    have e : (ts.length + 1 == us.length + 1) = (ts.length == us.length) := by
      by_cases h : ts.length = us.length
      · rw [h]; simp
      · have h' : ¬ ts.length + 1 = us.length + 1 := by omega
        rw [beq_eq_false_iff_ne.mpr h, beq_eq_false_iff_ne.mpr h']
    rw [e, Bool.and_assoc]
    congr 2
/-- what an instance's own == says of what is none of its class -/
def spNe (C : Addr) : Sp := fun vs H Q _ => ∃ a y, vs = [.ref a, y] ∧ (∃ dx fs, H a = some (.ins C dx fs)) ∧ ((∃ j, y = .int j) ∨ ∃ b ys, y = .ref b ∧ Rd H b (.tup ys)) ∧ ∀ H', G none H H' → Q (.bl false) H'
def EqB (X : Cx) (n : Nat) (D : V → V → Bool → Hp → Prop) : Prop :=
  ∀ (A : Around) (pins : List (Addr × Obj)) (s : Shared) (σ : L2.St) (H : Hp) (x y : V) (u v : Value) (b : Bool), Sub X n A → Inv X pins σ H s → RelV x u → RelV y v → D x y b H →
    wpAny (model X.prog X.w) A (eqBool u v) (fun r s' => r = b ∧ ∃ H', Inv X pins σ H' s' ∧ G none H H') X.xe s
def DAb (C hd : Addr) (d : Nat) : V → V → Bool → Hp → Prop := fun x y b H => ∃ t u, Ab C hd H x t ∧ Ab C hd H y u ∧ Pl d u ∧ b = eqT t u
theorem rd_ty {K : PySem.W.Frag} {H : Hp} {b : Addr} {ys : List V} (r : Rd H b (.tup ys)) : TyX K H (.ref b) (.type "tuple") := by
  rcases r with r | ⟨o, r⟩
  · exact .base (.tup r)
  · exact .fTuple r
end
end GA
/-! ## GP -/
/-! a dict == an int, a tuple -/
namespace GQD
open PySem PySem.SeqAt
open AutoSeq1 (wpAny_loadPart')
open MeetsSeq
theorem dict_eq_declines_int (l : Addr) (es : Array DictEntry) (ep : Nat) (dd : Option Addr) (sl : Array (Option Value)) (b : Int) (u : Tok) :
    Meets (Builtin.«dict.__eq__» ⟨[.ref l, .int b u], []⟩) (fun _ R s => s.heap.get? l = some { cls := .type "dict", dict := dd, data := .dict es ep, slots := sl } ∧ R (.ok (.ret .notImplemented)) s) :=
  .of_wp fun prog w A R s h => by obtain ⟨hp, g, d, tk, os⟩ := s; obtain ⟨hl, h⟩ := h; have f1 := F.sub_int_dict; wp_walk using wpAny_loadPart' hl; exact ⟨_, rfl, h⟩
theorem int_eq_declines_dict (b : Int) (u : Tok) (l : Addr) (es : Array DictEntry) (ep : Nat) (dd : Option Addr) (sl : Array (Option Value)) :
    Meets (Builtin.«int.__eq__» ⟨[.int b u, .ref l], []⟩) (fun _ R s => s.heap.get? l = some { cls := .type "dict", dict := dd, data := .dict es ep, slots := sl } ∧ R (.ok (.ret .notImplemented)) s) :=
  .of_wp fun prog w A R s h => by obtain ⟨hp, g, d, tk, os⟩ := s; obtain ⟨hl, h⟩ := h; wp_walk using wpAny_loadPart' hl, wpAny_load hl; exact ⟨_, rfl, h⟩
theorem dict_eq_declines_tuple (l b : Addr) (es : Array DictEntry) (ep : Nat) (items2 : Array Value) (n2 : Nat) (dd dd2 : Option Addr) (sl sl2 : Array (Option Value)) :
    Meets (Builtin.«dict.__eq__» ⟨[.ref l, .ref b], []⟩) (fun _ R s => s.heap.get? l = some { cls := .type "dict", dict := dd, data := .dict es ep, slots := sl } ∧ s.heap.get? b = some { cls := .type "tuple", dict := dd2, data := .seq items2 n2, slots := sl2 } ∧ R (.ok (.ret .notImplemented)) s) :=
  .of_wp fun prog w A R s h => by obtain ⟨hp, g, d, tk, os⟩ := s; obtain ⟨hl, hb, h⟩ := h; have f1 := F.sub_tuple_dict; wp_walk using wpAny_loadPart' hl, wpAny_loadPart' hb; exact ⟨_, rfl, h⟩
theorem tuple_eq_declines_dict (l b : Addr) (es : Array DictEntry) (ep : Nat) (items : Array Value) (n : Nat) (dd dd2 : Option Addr) (sl sl2 : Array (Option Value)) :
    Meets (Builtin.«tuple.__eq__» ⟨[.ref l, .ref b], []⟩) (fun _ R s => s.heap.get? l = some { cls := .type "tuple", dict := dd, data := .seq items n, slots := sl } ∧ s.heap.get? b = some { cls := .type "dict", dict := dd2, data := .dict es ep, slots := sl2 } ∧ R (.ok (.ret .notImplemented)) s) :=
  .of_wp fun prog w A R s h => by obtain ⟨hp, g, d, tk, os⟩ := s; obtain ⟨hl, hb, h⟩ := h; have f1 := F.sub_dict_tuple; wp_walk using wpAny_loadPart' hl, wpAny_loadPart' hb; exact ⟨_, rfl, h⟩
section
variable {A : Around} {s : Shared} {l b : Addr} {es : Array DictEntry} {ep : Nat} {dd : Option Addr} {sl : Array (Option Value)} {items2 : Array Value}
theorem RcAt.dict_int (i : Int) (u : Tok) (ho : s.heap.get? l = some { cls := .type "dict", dict := dd, data := .dict es ep, slots := sl }) (hu : A.units < cLine) : RcAt A s (.ref l) (.int i u) false := fun prog w E Q h =>
  rc_eq_decline_or (k := false) ⟨_, ho, rfl⟩ (typeIs_int s i u) (by decide) F.sub_int_dict F.slot_dict_eq F.slot_int_eq_refl
    (fun _ hq => call_meets F.slot_dict_eq ⟨_, ho, rfl⟩ F.entry_dict_eq (F.args_dict_eq_2 _ _) (dict_eq_declines_int l es ep dd sl i u) ⟨ho, hq⟩)
    (fun _ hq => call_meets F.slot_int_eq_refl (typeIs_int s i u) F.entry_int_eq (F.args_int_eq_2 _ _) (int_eq_declines_dict i u l es ep dd sl) ⟨ho, hq⟩)
    (fun _ hq => wpAny_of_eq (rfl : isSame (.ref l) (.int i u) = pure false) hq) (.inr hu) h
theorem EqAt.dict_int (i : Int) (u : Tok) (ho : s.heap.get? l = some { cls := .type "dict", dict := dd, data := .dict es ep, slots := sl }) (hu : A.units < cLine) : EqAt A s (.ref l) (.int i u) false := fun prog w E Q h => by
  unfold eqBool
  refine wpAny_holding ?_
  refine wpAny_ite_split (fun hab => absurd (eq_of_beq hab) nofun) (fun _ => ?_)
  exact wpAny_bind (RcAt.dict_int i u ho hu prog w E _ (wpAny_truthy_bool h))
theorem RcAt.dict_tuple (ho : s.heap.get? l = some { cls := .type "dict", dict := dd, data := .dict es ep, slots := sl }) (hb : s.heap.IsTuple b items2) (hu : A.units < cLine) : RcAt A s (.ref l) (.ref b) false := fun prog w E Q h => by
  have hne : l ≠ b := fun e => by
    obtain ⟨o, h1, h2, _⟩ := hb
    rw [← e, ho] at h1
    cases h1
    exact absurd h2 (by simp)
  obtain ⟨⟨cls2, dd2, data2, sl2⟩, ho2, hc2, n2, hd2⟩ := id hb
  simp only at hc2 hd2
  subst hc2 hd2
  exact (rc_eq_decline_or (k := false) ⟨_, ho, rfl⟩ ⟨_, ho2, rfl⟩ (by decide) F.sub_tuple_dict F.slot_dict_eq F.slot_tuple_eq_refl
    (fun _ hq => call_meets F.slot_dict_eq ⟨_, ho, rfl⟩ F.entry_dict_eq (F.args_dict_eq_2 _ _) (dict_eq_declines_tuple l b es ep items2 n2 dd dd2 sl sl2) ⟨ho, ho2, hq⟩)
    (fun _ hq => call_meets F.slot_tuple_eq_refl ⟨_, ho2, rfl⟩ F.entry_tuple_eq (F.args_tuple_eq_2 _ _) (tuple_eq_declines_dict b l es ep items2 n2 dd2 dd sl2 sl) ⟨ho2, ho, hq⟩)
    (fun _ hq => wpAny_isSame_ref_other hne ho ho2 (by simp) hq) (.inr hu) h)
end
end GQD
namespace GA
open PySem PySem.Spec PyProof.Rows L2
section
variable {X : Cx} {n : Nat} {CX : CXT} {C f hd : Addr} {fd : FuncData} {ps : List Str} {sp : Sp} {E : XK}
theorem eqBool_int {prog : Program} {w : World} {A : Around} {a : Addr} {j : Int} {t : Tok} {Q : Bool → Shared → Prop} {E : Value → Shared → Prop} {s : Shared} (h : wpAny (model prog w) A (richCompare .Eq (.ref a) (.int j t)) (fun v s' => ∃ r, v = .bool r ∧ Q r s') E s) : wpAny (model prog w) A (eqBool (.ref a) (.int j t)) Q E s := by
  unfold eqBool
  refine wpAny_holding ?_
  refine wpAny_ite_split (fun hab => absurd (eq_of_beq hab) nofun) (fun _ => ?_)
  refine wpAny_bind (wpAny_mono h (fun v s' hv => ?_) fun _ _ x => x)
  obtain ⟨r, rfl, q⟩ := hv
  exact wpAny_truthy_bool q
theorem dk_obj {P : Program} {w : World} {H : Hp} {h : Heap} {a : Addr} {kvs : List (L2.Key × V)} (hok : HOk P w H h) (e : H a = some (.dK kvs)) : ∃ es ep dd sl, h.get? a = some { cls := .type "dict", dict := dd, data := .dict es ep, slots := sl } := by
  obtain ⟨_, _, vs, _, o, es, ep, h1, h2, h3, _⟩ := (show ObjOk P w H h a (.dK kvs) from hok a _ e)
  obtain ⟨c, d, dt, s⟩ := o
  have hc := h2.1
  simp only at hc h3
  subst hc h3
  exact ⟨es, ep, d, s, h1⟩
/-- what must be known of the own == -/
structure OwnEq (X : Cx) (n : Nat) (CX : CXT) (C f : Addr) (fd : FuncData) (ps : List Str) (sp : Sp) (E : XK) : Prop where
  F : FnOk X.prog X.w X.K X.mg X.base CX n f fd ps sp
  hs : PySem.W.findIn X.K (.ref C) "__eq__" = some (some (.ref f))
  hf : PySem.W.isFn X.K (.ref f) = true
  hb : Binds X.K fd ps []
  hx : Passes CX X E
  ne : ∀ vs H Q E', spNe C vs H Q E' → sp vs H Q E'
theorem nf_int {K : PySem.W.Frag} {C : Addr} : PySem.W.notFirst K C (.type "int") = true := not_first fb_int rfl
theorem nf_tuple {K : PySem.W.Frag} {C : Addr} : PySem.W.notFirst K C (.type "tuple") = true := not_first fb_tuple rfl
theorem rc_own_ne (O : OwnEq X n CX C f fd ps sp E) {A : Around} {pins : List (Addr × Obj)} {s : Shared} {σ : L2.St} {H : Hp} {a : Addr} {y : V} {v : Value} (sb : Sub X n A) (I : Inv X pins σ H s) (ha : ∃ dx fs, H a = some (.ins C dx fs)) (ry : RelV y v)
    (hy : (∃ j, y = .int j) ∨ ∃ b ys, y = .ref b ∧ Rd H b (.tup ys)) : wpAny (model X.prog X.w) A (richCompare .Eq (.ref a) v) (fun r s' => ∃ H', r = .bool false ∧ Inv X pins σ H' s' ∧ G none H H') X.xe s := by
  obtain ⟨dx, fs, ha⟩ := ha
  have hsp : sp [.ref a, y] H (fun z H' => ∃ b, z = .bl b ∧ (b = false ∧ G none H H')) E := O.ne _ _ _ _ ⟨a, y, rfl, ⟨dx, fs, ha⟩, hy, fun H' g => ⟨false, rfl, rfl, g⟩⟩
  have go : ∀ t, TyX X.K H y t → PySem.W.notFirst X.K C t = true → wpAny (model X.prog X.w) A (richCompare .Eq (.ref a) v) (fun r s' => ∃ H', r = .bool false ∧ Inv X pins σ H' s' ∧ G none H H') X.xe s := fun t ty nf =>
    wpAny_mono (rc_own O.F O.hs O.hf O.hb O.hx (Q := fun b H' => b = false ∧ G none H H') sb I ha ry ty nf hsp) (fun r s' ⟨b, H', e, I', eb, g⟩ => ⟨H', by rw [e, eb], I', g⟩) fun _ _ x => x
  rcases hy with ⟨j, rfl⟩ | ⟨b, ys, rfl, r⟩
  · exact go _ (.base (.int j)) nf_int
  · exact go _ (rd_ty r) nf_tuple
theorem eqB_ab (O : OwnEq X n CX C f fd ps sp E) : ∀ d, EqB X (n + d + 1) (DAb C hd d)
  | d => by
    intro A pins s σ H x y u v b sb I rx ry h
    obtain ⟨t, g, hx, hy, pl, rfl⟩ := h
    have pure_ : ∀ {r : Bool}, SeqAt.EqAt A s u v r → wpAny (model X.prog X.w) A (eqBool u v) (fun r' s' => r' = r ∧ ∃ H', Inv X pins σ H' s' ∧ G none H H') X.xe s := fun q => q X.prog X.w X.xe _ ⟨rfl, H, I, G.refl⟩
    have hu := sb.room.units0
    have sbn : Sub X n A := sb.mono (by omega)
    cases pl with
    | int j =>
      cases hy
      obtain ⟨tk, rfl⟩ := (show ∃ tk, v = Value.int j tk from ry)
      cases hx with
      | non => cases (show u = Value.none from rx); exact pure_ (SeqAt.EqAt.none_int j tk)
      | bl c =>
        cases (show u = Value.bool c from rx)
        have e : eqT (.bl c) (.int j) = ((if c then 1 else 0) == j) := by cases c <;> simp [eqT, Bool.beq_eq_decide_eq] <;> rfl
        rw [e]
        exact pure_ (SeqAt.EqAt.bool_int c j tk)
      | int i =>
        obtain ⟨tk2, rfl⟩ := (show ∃ tk, u = Value.int i tk from rx)
        have e : eqT (.int i) (.int j) = (i == j) := by
          rw [eqT]
          by_cases q : i = j
          · rw [decide_eq_true q]; exact (beq_iff_eq.mpr q).symm
          · rw [decide_eq_false q]; exact (beq_eq_false_iff_ne.mpr q).symm
        rw [e]
        exact pure_ (SeqAt.EqAt.int_int i tk2 j tk)
      | str x => obtain ⟨tk2, rfl⟩ := (show ∃ tk, u = Value.str x tk from rx); exact pure_ (SeqAt.EqAt.str_int x tk2 j tk)
      | @tup a xs ts r al =>
        cases (show u = Value.ref a from rx)
        obtain ⟨its, rv, p, _⟩ := I.tuple (.inl r)
        exact pure_ (SeqAt.EqAt.tuple_int j tk p hu)
      | @oth a ne o =>
        cases (show u = Value.ref a from rx)
        rcases o with ⟨xs, o⟩ | ⟨kvs, o⟩ | o
        · obtain ⟨its, rv, p, _⟩ := I.list (.inl (.inl o))
          exact pure_ (SeqAt.EqAt.list_int j tk p.isList hu)
        · obtain ⟨es, ep, dd, sl, e⟩ := dk_obj I.hok o
          exact pure_ (GQD.EqAt.dict_int j tk e hu)
        · refine eqBool_int (wpAny_mono (rc_own_ne O sbn I o ry (.inl ⟨j, rfl⟩)) (fun r s' ⟨H', e, I', g⟩ => ⟨false, e, rfl, H', I', g⟩) fun _ _ x => x)
    | @tup d' us hpl =>
      cases hy with
      | @tup b ys _ r2 al2 =>
        cases (show v = Value.ref b from ry)
        obtain ⟨its2, rv2, p2, _⟩ := I.tuple (.inl r2)
        cases hx with
        | non => cases (show u = Value.none from rx); exact pure_ (SeqAt.EqAt.none_tuple p2 hu)
        | bl c => cases (show u = Value.bool c from rx); exact pure_ (SeqAt.EqAt.bool_tuple c p2 hu)
        | int i => obtain ⟨tk2, rfl⟩ := (show ∃ tk, u = Value.int i tk from rx); exact pure_ (SeqAt.EqAt.int_tuple i tk2 p2 hu)
        | str x => obtain ⟨tk2, rfl⟩ := (show ∃ tk, u = Value.str x tk from rx); exact pure_ (SeqAt.EqAt.str_tuple x tk2 p2 hu)
        | @oth a ne o =>
          cases (show u = Value.ref a from rx)
          have hne : a ≠ b := fun e => rd_oth r2 (e ▸ o)
          rcases o with ⟨xs, o⟩ | ⟨kvs, o⟩ | o
          · obtain ⟨its, rv, p, _⟩ := I.list (.inl (.inl o))
            exact pure_ (SeqAt.EqAt.list_tuple p.isList p2 hu)
          · obtain ⟨es, ep, dd, sl, e⟩ := dk_obj I.hok o
            exact pure_ (SeqAt.EqAt.of_refs hne (GQD.RcAt.dict_tuple e p2 hu))
          · exact GQ.eqBool_refG hne (wpAny_mono (rc_own_ne O sbn I o ry (.inr ⟨b, ys, rfl, r2⟩)) (fun r s' ⟨H', e, I', g⟩ => ⟨false, e, rfl, H', I', g⟩) fun _ _ x => x)
        | @tup a xs ts r al =>
          cases (show u = Value.ref a from rx)
          obtain ⟨its, rv, p, _⟩ := I.tuple (.inl r)
          by_cases hab : a = b
          · subst hab
            obtain rfl := rd_one r r2
            obtain rfl := AbAll.one _ _ _ al al2
            rw [eqT_self (d' + 1) (.tup ts) (.tup hpl)]
            exact pure_ (SeqAt.EqAt.same _)
          · have l1 : its.toArray.size = ts.length := by rw [List.size_toArray, ← rv.length, al.length]
            have l2 : its2.toArray.size = us.length := by rw [List.size_toArray, ← rv2.length, al2.length]
            refine GQ.eqBool_refG hab (GQB.rc_tupB hu (fun i => eqT (ts.getD i .non) (us.getD i .non)) (fun s' => ∃ H', Inv X pins σ H' s' ∧ G none H H') p p2 (fun i h1 h2 s' ⟨H', I', g⟩ => ?_) (fun s' ⟨H', I', g⟩ => ⟨_, rfl, ?_, H', I', g⟩) ⟨H, I, G.refl⟩)
            · have h1' : i < its.length := by simpa using h1
              have h2' : i < its2.length := by simpa using h2
              have k1 : i < xs.length := by rw [rv.length]; exact h1'
              have k2 : i < ys.length := by rw [rv2.length]; exact h2'
              obtain ⟨u', hu', ru⟩ := rv.get (List.getElem?_eq_getElem k1)
              obtain ⟨v', hv', rw'⟩ := rv2.get (List.getElem?_eq_getElem k2)
              obtain ⟨t', ht', at_⟩ := al.get (List.getElem?_eq_getElem k1)
              obtain ⟨g', hg', ag⟩ := al2.get (List.getElem?_eq_getElem k2)
              rw [List.getElem?_eq_getElem h1'] at hu'
              rw [List.getElem?_eq_getElem h2'] at hv'
              have e1 : its.toArray[i] = u' := by simpa using Option.some.inj hu'
              have e2 : its2.toArray[i] = v' := by simpa using Option.some.inj hv'
              have e3 : ts.getD i .non = t' := by rw [List.getD_eq_getElem?_getD, ht']; rfl
              have e4 : us.getD i .non = g' := by rw [List.getD_eq_getElem?_getD, hg']; rfl
              rw [e1, e2, e3, e4]
              refine wpAny_mono (eqB_ab O d' A.in1 pins s' σ H' _ _ u' v' _ (sb.in1.mono (by omega)) I' ru rw' ⟨t', g', at_.n g, ag.n g, hpl g' (List.mem_of_getElem? hg'), rfl⟩) (fun r s2 ⟨e, H2, I2, g2⟩ => ⟨e, H2, I2, g.trans g2⟩) fun _ _ x => x
            · rw [l1, l2, eqT, eqTs_all]
end
end GA
/-! ## GQ1 -/
namespace GA
open PySem PySem.Spec PyProof.Rows L2
section
variable {X : Cx} {n : Nat} {CX : CXT} {C f hd : Addr} {fd : FuncData} {ps : List Str} {sp : Sp} {E : XK}
/-- any thing == a tuple of ints and tuples -/
def rEqAb (C hd : Addr) (d : Nat) : R2 := fun x y H Q => ∃ t us, Ab C hd H x t ∧ Ab C hd H y (.tup us) ∧ (∀ u ∈ us, Pl d u) ∧ ∀ H', G none H H' → Q (.bl (eqT t (.tup us))) H'
theorem op_eqAb (O : OwnEq X n CX C f fd ps sp E) (d : Nat) (hr : Room (n + d + 2) X.A) : OpR X (compareOp .Eq) (rEqAb C hd d) := by
  intro pins s σ H x y u v Q I rx ry h
  obtain ⟨t, us, hx, hy, hpl, q⟩ := h
  have sb : Sub X (n + d + 2) X.A := ⟨hr, rfl⟩
  have sbn : Sub X n X.A := sb.mono (by omega)
  have hu := sb.room.units0
  have pure_ : ∀ {r : Bool}, SeqAt.RcAt X.A s u v r → r = eqT t (.tup us) → wpAny (model X.prog X.w) X.A (richCompare .Eq u v) (EP X pins σ Q) X.xe s := fun k e => k X.prog X.w X.xe _ ⟨.bl _, H, I, rfl, e ▸ q H G.refl⟩
  show wpAny (model X.prog X.w) X.A (richCompare .Eq u v) (EP X pins σ Q) X.xe s
  cases hy with
  | @tup b ys _ r2 al2 =>
    cases (show v = Value.ref b from ry)
    obtain ⟨its2, rv2, p2, _⟩ := I.tuple (.inl r2)
    cases hx with
    | non => cases (show u = Value.none from rx); exact pure_ (SeqAt.RcAt.none_tuple p2 hu) rfl
    | bl c => cases (show u = Value.bool c from rx); exact pure_ (SeqAt.RcAt.bool_tuple c p2 hu) rfl
    | int i => obtain ⟨tk2, rfl⟩ := (show ∃ tk, u = Value.int i tk from rx); exact pure_ (SeqAt.RcAt.int_tuple i tk2 p2 hu) rfl
    | str x => obtain ⟨tk2, rfl⟩ := (show ∃ tk, u = Value.str x tk from rx); exact pure_ (SeqAt.RcAt.str_tuple x tk2 p2 hu) rfl
    | @oth a ne o =>
      cases (show u = Value.ref a from rx)
      rcases o with ⟨xs, o⟩ | ⟨kvs, o⟩ | o
      · obtain ⟨its, rv, p, _⟩ := I.list (.inl (.inl o))
        exact pure_ (SeqAt.RcAt.list_tuple p.isList p2 hu) rfl
      · obtain ⟨es, ep, dd, sl, e⟩ := dk_obj I.hok o
        exact pure_ (GQD.RcAt.dict_tuple e p2 hu) rfl
      · exact wpAny_mono (rc_own_ne O sbn I o ry (.inr ⟨b, ys, rfl, r2⟩)) (fun r s' ⟨H', e, I', g⟩ => ⟨.bl false, H', I', e, q H' g⟩) fun _ _ x => x
    | @tup a xs ts r al =>
      cases (show u = Value.ref a from rx)
      obtain ⟨its, rv, p, _⟩ := I.tuple (.inl r)
      have l1 : its.toArray.size = ts.length := by rw [List.size_toArray, ← rv.length, al.length]
      have l2 : its2.toArray.size = us.length := by rw [List.size_toArray, ← rv2.length, al2.length]
      refine GQB.rc_tupB hu (fun i => eqT (ts.getD i .non) (us.getD i .non)) (fun s' => ∃ H', Inv X pins σ H' s' ∧ G none H H') p p2 (fun i h1 h2 s' ⟨H', I', g⟩ => ?_) (fun s' ⟨H', I', g⟩ => ⟨.bl (eqT (.tup ts) (.tup us)), H', I', ?_, q H' g⟩) ⟨H, I, G.refl⟩
      · have h1' : i < its.length := by simpa using h1
        have h2' : i < its2.length := by simpa using h2
        have k1 : i < xs.length := by rw [rv.length]; exact h1'
        have k2 : i < ys.length := by rw [rv2.length]; exact h2'
        obtain ⟨u', hu', ru⟩ := rv.get (List.getElem?_eq_getElem k1)
        obtain ⟨v', hv', rw'⟩ := rv2.get (List.getElem?_eq_getElem k2)
        obtain ⟨t', ht', at_⟩ := al.get (List.getElem?_eq_getElem k1)
        obtain ⟨g', hg', ag⟩ := al2.get (List.getElem?_eq_getElem k2)
        rw [List.getElem?_eq_getElem h1'] at hu'
        rw [List.getElem?_eq_getElem h2'] at hv'
        have e1 : its.toArray[i] = u' := by simpa using Option.some.inj hu'
        have e2 : its2.toArray[i] = v' := by simpa using Option.some.inj hv'
        have e3 : ts.getD i .non = t' := by rw [List.getD_eq_getElem?_getD, ht']; rfl
        have e4 : us.getD i .non = g' := by rw [List.getD_eq_getElem?_getD, hg']; rfl
        rw [e1, e2, e3, e4]
        exact wpAny_mono (eqB_ab O d X.A.in1 pins s' σ H' _ _ u' v' _ (sb.in1.mono (by omega)) I' ru rw' ⟨t', g', at_.n g, ag.n g, hpl g' (List.mem_of_getElem? hg'), rfl⟩) (fun r s2 ⟨e, H2, I2, g2⟩ => ⟨e, H2, I2, g.trans g2⟩) fun _ _ x => x
      · show Value.bool _ = Value.bool _
        rw [l1, l2, eqT, eqTs_all]
end
/-! ### exceptions -/
theorem passE0 {P : Program} {w : World} {X : Cx} : Passes (L2.CX P w) X E0 := fun _ _ _ _ _ _ _ h => by
  obtain ⟨_, _, _, _, _, _, _, _, _, _, _, _, z⟩ := h
  exact z.elim
/-- isinstance(e, c), e the exception that the suite holds, its own names in the dict d -/
def rIsX (K : PySem.W.Frag) (D a : Addr) (d : Option Addr) : List V → Hp → VK → Prop := fun xs H Q => ∃ (c : V) (u : Value) (b : Bool) (dd : Addr) (fs : List (Str × V)), xs = [.ref a, c] ∧ ClsV c u ∧ d = some dd ∧ H dd = some (.xd fs) ∧ PySem.W.kitOne K (.ref D) u = some b ∧ Q (.bl b) H
theorem call_isX {X : Cx} {a D : Addr} {oe : Obj} {d : Option Addr} {cls : Value} {pn : List (Addr × Obj)} (C : ExcC X.K D) (hz : Zc cls d oe) (hc : cls = .ref D) (hf : ∃ vs, oe.data = .fields vs) : CallR (X.suite a ((a, oe) :: pn)) (.builtin "isinstance") (rIsX X.K D a d) := by
  intro pins s σ H xs us Q I r h
  obtain ⟨c, u, b, dd, fs, rfl, hcv, ed, ea, e, q⟩ := h
  obtain ⟨u1, u2, rfl, r1, r2⟩ := vals2 r
  cases (show u1 = Value.ref a from r1)
  have e2 := hcv.eq r2
  subst e2
  subst hc
  subst ed
  obtain ⟨hget, _⟩ := I.pin (a, oe) (List.mem_append.mpr (.inl List.mem_cons_self))
  obtain ⟨vs, hv⟩ := hf
  have hx : ObjOk X.prog X.w H s.heap dd (.xd fs) := I.hok dd _ ea
  obtain ⟨mA, hns, hr⟩ := hx
  obtain ⟨od, ho, hl⟩ := lookIn_ns hns
  have J : PySem.W.InstAt s.heap a oe D (some od) := ⟨hget, hz.1, by unfold PySem.W.notCls; rw [hv] <;> rfl, by rw [hz.2]; exact ho⟩
  have hcl : (PySem.W.clsIn X.K D).isSome = true := cls_some C.hm
  exact PySem.W.kia_one (PySem.W.kitx_exc hcl C.hg C.hk C.hs C.ha C.hn C.ht C.hm) I.kIn J e (fun z => nomatch z) fun tk => ⟨.bl b, H, I.kept (t' := tk) fun _ _ z => z, rfl, q⟩
end GA
/-! ## GR -/
namespace GA
open PySem PySem.Spec PyProof.Rows L2
/-! ### an instance whose own __init__ may raise, called where the slots are known -/
section
variable {X : Cx} {CX : CXT} {k : Nat} {f C : Addr} {fd : FuncData} {ps : List Str} {sp : Sp}
theorem run_makeS {E : XK} {pins : List (Addr × Obj)} {σ : L2.St} {H : Hp} {s : Shared} {Q : VK} {us : List Value} {vs : List V}
    (M : Mk X.K C f) (F : FnOk X.prog X.w X.K X.mg X.base CX k f fd ps sp) (hr : Room (k + 1) X.A) (hb : Binds X.K fd ps []) (hp : PassesAt CX X σ E) (I : Inv X pins σ H s) (r : Vals vs us)
    (h : ∀ x dx, H x = none → H dx = none → dx ≠ x → sp (.ref x :: (vs ++ [])) (upd (upd H dx (.own x)) x (.ins C dx [])) (fun v H2 => v = .non ∧ Q (.ref x) H2) E) :
    wpAny (model X.prog X.w) X.A (call (.ref C) us) (EP X pins σ Q) X.xe s := by
  have n0 : H s.heap.objs.size = none := I.hok.fresh (Nat.le_refl _)
  have n1 : H (s.heap.objs.size + 1) = none := I.hok.fresh (Nat.le_succ _)
  have hq := h _ _ n1 n0 (Nat.ne_of_lt (Nat.lt_succ_self _))
  have J := Inv.made (C := C) I
  have rr : Vals (V.ref (s.heap.objs.size + 1) :: (vs ++ [])) (Value.ref (s.heap.objs.size + 1) :: us) := .cons rfl (by rw [List.append_nil]; exact r)
  have len : (Value.ref (s.heap.objs.size + 1) :: us ++ []).length = ps.length := by
    rw [List.append_nil]
    exact rr.length.symm.trans (F.len _ _ _ _ hq)
  have bd := hb _ (Value.ref (s.heap.objs.size + 1) :: us) J.kIn len
  rw [List.append_nil] at bd
  refine wpAny_call (make_map (f := f) I.kIn M.makes M.init (beq_iff_eq.mp M.fn) (codeAny_mono (F.run _ X.stack _ _ ⟨Value.ref (s.heap.objs.size + 1) :: us, []⟩ (Value.ref (s.heap.objs.size + 1) :: us) _ _ E (hr.make C us []) (J.env0.make C us []) bd rr hq) fun b s' z => ?_))
  match b, z with
  | .error e, z => exact hp pins _ _ e s' J z
  | .ok (.ret u), z =>
    obtain ⟨v, H', J3, rv, ev, q3⟩ := J.after z
    subst ev
    exact ⟨rv, .ref (s.heap.objs.size + 1), H', J3, rfl, q3⟩
  | .ok .next, z => exact False.elim z
  | .ok .brk, z => exact False.elim z
  | .ok .cont, z => exact False.elim z
def tMakeS (C : Addr) (sp : Sp) (E : L2.St → XK) (t : TA) : TE := fun σ H Q => t σ H fun vs H1 => ∀ x dx, H1 x = none → H1 dx = none → dx ≠ x → sp (.ref x :: (vs ++ [])) (upd (upd H1 dx (.own x)) x (.ins C dx [])) (fun v H2 => v = .non ∧ Q (.ref x) H2) (E σ)
theorem w_makeS {E : L2.St → XK} {t : TA} {σ : L2.St} {H : Hp} {Q : VK} (q : t σ H fun vs H1 => ∀ x dx, H1 x = none → H1 dx = none → dx ≠ x → sp (.ref x :: (vs ++ [])) (upd (upd H1 dx (.own x)) x (.ins C dx [])) (fun v H2 => v = .non ∧ Q (.ref x) H2) (E σ)) : tMakeS C sp E t σ H Q := q
theorem pe_makeS {E : L2.St → XK} {x : Str} {p pos : Pos} {e : Expr} {es : List Expr} {t : TA} (M : Mk X.K C f) (F : FnOk X.prog X.w X.K X.mg X.base CX k f fd ps sp) (hr : Room (k + 1) X.A) (hg : Gl X x) (hm : X.mg x = some (.ref C)) (hb : Binds X.K fd ps []) (hp : ∀ σ, PassesAt CX X σ (E σ)) (ha : PA X (e :: es) t)
    (hd : (x == ("__debug__" : Str)) = false := by decide) (he : starEach (e :: es) X.env = (false, eval e X.env) :: starEach es X.env := by rfl) (hl : (backTo pos (starEach es X.env)).any (·.1) = false := by rfl) :
    PE X (.Call (.Name x p) (e :: es) [] pos) (tMakeS C sp E t) := by
  constructor
  intro pins s σ H Q I h
  refine wpAny_Call_Name_kw (ld_glob I hg hm ?_ hd)
  refine PySem.W.callWith_K (h₀ := X.base) I.ok.mod.kin M.kp (thn (ha.run pos pins s σ H _ I h) fun us s1 z => ?_) he hl
  obtain ⟨vs, H1, I1, r, q⟩ := z
  exact ⟨I1.kIn, run_makeS M F hr hb (hp σ) I1 r q⟩
end
/-! ### the caught error is asked of what class it is -/
def rIsX' (K : PySem.W.Frag) (D a : Addr) (cls : Value) (d : Option Addr) : List V → Hp → VK → Prop := fun xs H Q => cls = .ref D ∧ rIsX K D a d xs H Q
theorem call_isX' {X : Cx} {a D : Addr} {oe : Obj} {d : Option Addr} {cls : Value} {pn : List (Addr × Obj)} (C : ExcC X.K D) (hz : Zc cls d oe) (hf : ∃ vs, oe.data = .fields vs) : CallR (X.suite a ((a, oe) :: pn)) (.builtin "isinstance") (rIsX' X.K D a cls d) := by
  intro pins s σ H xs us Q I r h
  exact call_isX C hz h.1 hf pins s σ H xs us Q I r h.2
theorem w_xf {a C : Addr} {cls : Value} {d : Option Addr} {f : Str} {te : TE} {σ : L2.St} {H : Hp} {Q : VK} (q : te σ H fun x H1 => x = .ref a ∧ cls = .ref C ∧ ∃ (dd : Addr) (fs : List (Str × V)) (v : V), d = some dd ∧ H1 dd = some (.xd fs) ∧ fs.lookup f = some v ∧ Q v H1) : tXf a cls d C f te σ H Q := q
/-- any thing == a tuple of ints and tuples, whatever the hand -/
def rEqAb' (C : Addr) (d : Nat) : R2 := fun x y H Q => ∃ hd, rEqAb C hd d x y H Q
theorem op_eqAb' {X : Cx} {n : Nat} {CX : CXT} {C f : Addr} {fd : FuncData} {ps : List Str} {sp : Sp} {E : XK} (O : OwnEq X n CX C f fd ps sp E) (d : Nat) (hr : Room (n + d + 2) X.A) : OpR X (compareOp .Eq) (rEqAb' C d) := by
  intro pins s σ H x y u v Q I rx ry h
  obtain ⟨hd, h⟩ := h
  exact op_eqAb (hd := hd) O d hr pins s σ H x y u v Q I rx ry h
/-! ### any thing of ints and tuples is data -/
mutual
def tgD : Tg → PyData
  | .non => .none
  | .bl b => .bool b
  | .int i => .int i
  | .str x => .str x
  | .tup ts => .tuple (tgDs ts)
  | .oth => .none
def tgDs : List Tg → List PyData
  | [] => []
  | t :: ts => tgD t :: tgDs ts
end
mutual
theorem Ab.dp {K : PySem.W.Frag} {C hd : Addr} {H : Hp} : ∀ (d : Nat) (t : Tg) (v : V), Pl d t → Ab C hd H v t → Dp K H v (tgD t)
  | _, .int i, _, _, h => by cases h; exact .int i
  | _, .tup ts, _, .tup hp, h => by
    cases h with
    | tup r al => exact .tup (.inl r) (AbAll.dp _ ts _ hp al)
theorem AbAll.dp {K : PySem.W.Frag} {C hd : Addr} {H : Hp} : ∀ (d : Nat) (ts : List Tg) (vs : List V), (∀ u ∈ ts, Pl d u) → AbAll C hd H vs ts → DpAll K H vs (tgDs ts)
  | _, [], _, _, h => by cases h; exact .nil
  | d, t :: ts, _, hp, h => by
    cases h with
    | cons h1 h2 => exact .cons (Ab.dp d t _ (hp t List.mem_cons_self) h1) (AbAll.dp d ts _ (fun u hu => hp u (List.mem_cons_of_mem _ hu)) h2)
end
/-! ### pairs -/
theorem AbAll.two {C hd : Addr} {H : Hp} {xs : List V} {t1 t2 : Tg} (h : AbAll C hd H xs [t1, t2]) : ∃ v1 v2, xs = [v1, v2] ∧ Ab C hd H v1 t1 ∧ Ab C hd H v2 t2 := by
  cases h with
  | cons h1 h =>
    cases h with
    | cons h2 h => cases h; exact ⟨_, _, rfl, h1, h2⟩
theorem Ab.int_inv {C hd : Addr} {H : Hp} {v : V} {i : Int} (h : Ab C hd H v (.int i)) : v = .int i := by cases h; rfl
theorem Ab.pair {C hd : Addr} {H : Hp} {v : V} {x y : Int} (h : Ab C hd H v (.tup [.int x, .int y])) : ∃ p, v = .ref p ∧ Rd H p (.tup [.int x, .int y]) := by
  cases h with
  | tup r al =>
    obtain ⟨_, _, rfl, a1, a2⟩ := al.two
    obtain rfl := a1.int_inv
    obtain rfl := a2.int_inv
    exact ⟨_, rfl, r⟩
/-! ### the first of some numbers that is not right -/
def fw (f : Nat → Bool) (n : Nat) : Option Nat := (List.range n).find? fun i => !f i
theorem fw_none {f : Nat → Bool} {n : Nat} (h : ∀ j, j < n → f j = true) : fw f n = none := by
  unfold fw
  rw [List.find?_eq_none]
  intro j hj
  rw [h j (List.mem_range.mp hj)]
  decide
theorem fw_some {f : Nat → Bool} : ∀ {n i : Nat}, i < n → (∀ j, j < i → f j = true) → f i = false → fw f n = some i
  | 0, i, hi, _, _ => absurd hi (Nat.not_lt_zero _)
  | n + 1, i, hi, h, hf => by
    unfold fw
    rw [List.range_succ, List.find?_append]
    by_cases c : i < n
    · have e : (List.range n).find? (fun i => !f i) = some i := fw_some c h hf
      rw [e]; rfl
    · have ei : i = n := by omega
      subst ei
      have e : (List.range i).find? (fun i => !f i) = none := fw_none h
      rw [e]
      simp [hf]
/-! ### tuples of ints, by their order -/
theorem le_pair {a b c d : Int} : Ob.lexAt (fun j => decide (([a, b] : List Int).getD j 0 = ([c, d] : List Int).getD j 0)) (fun j => decide (([a, b] : List Int).getD j 0 ≤ ([c, d] : List Int).getD j 0)) (decide (([a, b] : List Int).length ≤ ([c, d] : List Int).length)) 0 (min ([a, b] : List Int).length ([c, d] : List Int).length) = !(decide (c < a) || (decide (c = a) && decide (d < b))) := by
  by_cases e : a = c
  · subst e
    by_cases e2 : b = d
    · subst e2; simp [Ob.lexAt]
    · simp [Ob.lexAt, e2]; by_cases e3 : b ≤ d <;> simp [e3] <;> omega
  · have e' : ¬ c = a := fun z => e z.symm
    simp [Ob.lexAt, e, e']; by_cases e3 : a ≤ c <;> simp [e3] <;> omega
theorem ge_pair {a b c d : Int} : Ob.lexAt (fun j => decide (([a, b] : List Int).getD j 0 = ([c, d] : List Int).getD j 0)) (fun j => decide (([c, d] : List Int).getD j 0 ≤ ([a, b] : List Int).getD j 0)) (decide (([a, b] : List Int).length ≥ ([c, d] : List Int).length)) 0 (min ([a, b] : List Int).length ([c, d] : List Int).length) = !(decide (a < c) || (decide (a = c) && decide (b < d))) := by
  by_cases e : a = c
  · subst e
    by_cases e2 : b = d
    · subst e2; simp [Ob.lexAt]
    · simp [Ob.lexAt, e2]; by_cases e3 : d ≤ b <;> simp [e3] <;> omega
  · simp [Ob.lexAt, e]; by_cases e3 : c ≤ a <;> simp [e3] <;> omega
end GA
/-! ## GS -/
namespace GA
open PySem PySem.Spec PyProof.Rows L2
/-! ### len(set(t)), t a tuple of ints -/
theorem not_nodup_less {α : Type} [DecidableEq α] : ∀ {l : List α}, ¬ l.Nodup → ∃ m : List α, m.length < l.length ∧ ∀ x ∈ l, x ∈ m
  | [], h => absurd List.nodup_nil h
  | x :: l, h => by
    by_cases c : x ∈ l
    · refine ⟨l, by simp, fun y hy => ?_⟩
      rcases List.mem_cons.mp hy with e | e
      · exact e ▸ c
      · exact e
    · obtain ⟨m, h1, h2⟩ := not_nodup_less (l := l) fun n => h (List.nodup_cons.mpr ⟨c, n⟩)
      refine ⟨x :: m, by simpa using h1, fun y hy => ?_⟩
      rcases List.mem_cons.mp hy with e | e
      · exact e ▸ List.mem_cons_self
      · exact List.mem_cons_of_mem _ (h2 y e)
theorem few_iff {ks ns : List Int} (nd : ks.Nodup) (mem : ∀ k, k ∈ ks ↔ k ∈ ns) : ks.length = ns.length ↔ ns.Nodup := by
  constructor
  · intro e
    by_cases c : ns.Nodup
    · exact c
    · obtain ⟨m, h1, h2⟩ := not_nodup_less c
      have := List.Nodup.length_le_of_subset (l₂ := m) nd fun x hx => h2 x ((mem x).mp hx)
      omega
  · intro h
    exact ((List.perm_ext_iff_of_nodup nd h).mpr mem).length_eq
section
variable {X : Cx}
def tLenSetTG (K : PySem.W.Frag) (ta : TE) : TE := fun σ H Q => ta σ H fun x H1 => ∃ (l : Addr) (ns : List Int), x = V.ref l ∧ SqT K H1 l (ns.map V.int) ∧ ns.length ≤ 1000 ∧ ∀ k : Nat, (k = ns.length ↔ ns.Nodup) → Q (.int k) H1
theorem w_lenSetTG {K : PySem.W.Frag} {ta : TE} {σ : L2.St} {H : Hp} {Q : VK} (q : ta σ H fun x H1 => ∃ (l : Addr) (ns : List Int), x = V.ref l ∧ SqT K H1 l (ns.map V.int) ∧ ns.length ≤ 1000 ∧ ∀ k : Nat, (k = ns.length ↔ ns.Nodup) → Q (.int k) H1) : tLenSetTG K ta σ H Q := q
theorem pe_lenSetTG {a : Expr} {ta : TE} {p p2 q pos : Pos} (hc : X.calm = true) (hg : Gl X "len") (hm : X.mg "len" = none) (hg2 : Gl X "set") (hm2 : X.mg "set" = none) (ha : PE X a ta)
    (na : starEach [a] X.env = (false, eval a X.env) :: starEach [] X.env := by rfl) : PE X (.Call (.Name "len" p) [.Call (.Name "set" p2) [a] [] q] [] pos) (tLenSetTG X.K ta) := by
  refine ⟨fun pins s σ H Q I h => Call_ (ld_blt I hg hm PySem.boot_len (PyProof.Rows.callWith_builtin1 (PyProof.Rows.args_cons ?_ rfl) rfl rfl))⟩
  refine Call_ (ld_blt I hg2 hm2 PyProof.Rows.boot_set (PyProof.Rows.callWith_type1 (PyProof.Rows.args_cons (thn (ha.run pins s σ H _ I h) fun v s1 ⟨x, H1, I1, r1, l, ns, ex, hq, h1, q1⟩ => PyProof.Rows.args_nil ?_) na) na rfl))
  subst ex
  cases r1
  obtain ⟨its, r, pt, _⟩ := I1.tuple hq
  refine call_set_tupI ns (I1.ok.hd hc) pt (ints_of_vals r) (by unfold scanBound; omega) fun h' tk c R _ keep => PyProof.Rows.args_nil ?_
  obtain ⟨o, es, ep, t, ho, hex, hd, _, nd, mem, hsz, hf, _⟩ := R
  have mem' : ∀ k, k ∈ es.toList.map keyOf ↔ k ∈ ns := fun k => by rw [← mem]; simp
  have e := few_iff nd mem'
  have le : es.size ≤ ns.length := by
    have := List.Nodup.length_le_of_subset (l₂ := ns) nd fun x hx => (mem' x).mp hx
    simpa using this
  have I2 : Inv X pins σ H1 { s1 with heap := h', toks := tk } := I1.kept keep
  exact call_len_set ho hex hd hf (by omega) ⟨.int es.size, H1, I2.tok _, ⟨_, rfl⟩, q1 es.size (by simpa using e)⟩
end
/-! ### tuples of ints, small ones -/
theorem AbAll.ints_inv {C hd : Addr} {H : Hp} : ∀ {d : List Int} {xs : List V}, AbAll C hd H xs (d.map Tg.int) → xs = d.map V.int
  | [], _, h => by cases h; rfl
  | i :: d, _, h => by
    cases h with
    | cons h1 h2 => rw [h1.int_inv, AbAll.ints_inv h2]; rfl
mutual
def smT : Tg → Bool
  | .tup ts => decide (ts.length ≤ 1000) && smTs ts
  | _ => true
def smTs : List Tg → Bool
  | [] => true
  | t :: ts => smT t && smTs ts
end
theorem smTs_all : ∀ {ts : List Tg}, smTs ts = true → ∀ t ∈ ts, smT t = true
  | [], _, _, h => nomatch h
  | t :: ts, h, u, hu => by
    rw [smTs, Bool.and_eq_true] at h
    rcases List.mem_cons.mp hu with e | e
    · rw [e]; exact h.1
    · exact smTs_all h.2 u e
theorem smTs_of : ∀ {ts : List Tg}, (∀ t ∈ ts, smT t = true) → smTs ts = true
  | [], _ => rfl
  | t :: ts, h => by
    rw [smTs, h t List.mem_cons_self, smTs_of fun u hu => h u (List.mem_cons_of_mem _ hu)]; rfl
theorem smT_tup {ts : List Tg} (h : smT (.tup ts) = true) : ts.length ≤ 1000 ∧ ∀ t ∈ ts, smT t = true := by
  rw [smT, Bool.and_eq_true, decide_eq_true_eq] at h
  exact ⟨h.1, smTs_all h.2⟩
theorem smT_of {ts : List Tg} (h : ts.length ≤ 1000) (k : ∀ t ∈ ts, smT t = true) : smT (.tup ts) = true := by
  rw [smT, smTs_of k, decide_eq_true h]; rfl
/-! ### t[::-1] of a tuple -/
theorem vals_pick {xs : List V} {its : List Value} (r : Vals xs its) (f : Nat → Nat) : ∀ l : List Nat, Vals (l.filterMap fun k => xs[f k]?) (l.filterMap fun k => its[f k]?)
  | [] => .nil
  | k :: l => by
    have ih := vals_pick r f l
    rw [List.filterMap_cons, List.filterMap_cons]
    by_cases c : f k < xs.length
    · obtain ⟨u, hu, ru⟩ := r.get (List.getElem?_eq_getElem c)
      rw [List.getElem?_eq_getElem c, hu]
      exact .cons ru ih
    · have c2 : ¬ f k < its.length := by rw [← r.length]; exact c
      rw [List.getElem?_eq_none (by omega), List.getElem?_eq_none (by omega)]
      exact ih
theorem pick_le {α : Type} (f : Nat → Option α) : ∀ l : List Nat, (l.filterMap f).length ≤ l.length := fun l => List.length_filterMap_le f l
theorem neg_adjust (n : Nat) : Builtin.Slice.sliceAdjust none none (-1) (n : Int) = ((n : Int) - 1, -1) := by
  unfold Builtin.Slice.sliceAdjust
  simp
theorem neg_places (n : Nat) : Builtin.Slice.slicePlaces ((n : Int) - 1) (-1) (-1) = n := by
  unfold Builtin.Slice.slicePlaces
  cases n with
  | zero => simp
  | succ n =>
    simp
    split <;> omega
section
variable {prog : Program} {w : World} {A : Around} {E : Value → Shared → Prop} {s : Shared}
theorem slice_back {sl : Addr} {vl vu vs : Value} {n : Nat} {Q : Int × Int × Nat → Shared → Prop} (hs : s.heap.IsSliceOf sl vl vu vs) (pl : IsPart vl none) (pu : IsPart vu none) (ps : IsPart vs (some (-1))) (h : Q ((n : Int) - 1, -1, n) s) :
    wpAny (model prog w) A (Builtin.Slice.sliceApplied (.ref sl) (pure (n : Int))) Q E s := by
  obtain ⟨os, hos, hcs, hds⟩ := id hs
  unfold Builtin.Slice.sliceApplied Builtin.Slice.sliceFields
  refine wpAny_bind (wpAny_bind (wpAny_field hos hds (x := vl) rfl (wpAny_bind (wpAny_field hos hds (x := vu) rfl (wpAny_bind (wpAny_field hos hds (x := vs) rfl (wpAny_pure ?_)))))))
  refine wpAny_bind (HT.slicePart_ ps ?_)
  show wpAny _ _ (if ((-1 : Int) == 0) = true then _ else _) _ _ s
  rw [if_neg (by decide)]
  refine wpAny_bind (HT.slicePart_ pl (wpAny_bind (HT.slicePart_ pu (wpAny_bind (wpAny_pure ?_)))))
  show wpAny _ _ (match Builtin.Slice.sliceAdjust none none (-1) (n : Int) with | (lo, hi) => pure (lo, (-1 : Int), Builtin.Slice.slicePlaces lo hi (-1))) _ _ s
  rw [neg_adjust]
  show wpAny _ _ (pure ((n : Int) - 1, (-1 : Int), Builtin.Slice.slicePlaces ((n : Int) - 1) (-1) (-1))) _ _ s
  rw [neg_places]
  exact wpAny_pure h
end
section
variable {X : Cx}
/-- t[::-1]: a new tuple of what t holds -/
def tRevT (K : PySem.W.Frag) (te : TE) : TE := fun σ H Q => te σ H fun x H1 => ∃ (a : Addr) (xs : List V), x = .ref a ∧ SqT K H1 a xs ∧ ∀ q H2, H1 q = none → (∀ o, G o H1 H2) → H2 q = some (.tup ((List.range xs.length).filterMap fun (k : Nat) => xs[(((xs.length : Int) - 1) + (k : Int) * (-1)).toNat]?)) → Q (.ref q) H2
theorem w_revT {K : PySem.W.Frag} {te : TE} {σ : L2.St} {H : Hp} {Q : VK} (q : te σ H fun x H1 => ∃ (a : Addr) (xs : List V), x = .ref a ∧ SqT K H1 a xs ∧ ∀ q H2, H1 q = none → (∀ o, G o H1 H2) → H2 q = some (.tup ((List.range xs.length).filterMap fun (k : Nat) => xs[(((xs.length : Int) - 1) + (k : Int) * (-1)).toNat]?)) → Q (.ref q) H2) : tRevT K te σ H Q := q
theorem pe_revT {e : Expr} {te : TE} {k : Nat} {p1 p2 p3 pos : Pos} (he : PE X e te) : PE X (.Subscript e (.Slice none none (some (.UnaryOp .USub (.Constant (.int 1) k p1) p2)) p3) pos) (tRevT X.K te) := by
  constructor
  intro pins s σ H Q I h
  refine Subscript_ (thn (he.run pins s σ H _ I h) fun v s1 z => ?_)
  obtain ⟨x, H1, I1, r1, a, xs, rfl, hx, q⟩ := z
  cases r1
  have hst : PO X (some (.UnaryOp .USub (.Constant (.int 1) k p1) p2)) (tPart (tUn (rU fun i => .int (-i)) (tC (.int 1)))) := po_some (pe_un un_neg pe_int)
  refine wpAny_Slice (thn (po_none.run pins s1 σ H1 (fun o H2 => o = none ∧ H2 = H1) I1 ⟨rfl, rfl⟩) fun vl s2 z2 => ?_)
  obtain ⟨_, H2, I2, pl, rfl, rfl⟩ := z2
  refine thn (po_none.run pins s2 σ H2 (fun o H3 => o = none ∧ H3 = H2) I2 ⟨rfl, rfl⟩) fun vu s3 z3 => ?_
  obtain ⟨_, H3, I3, pu, rfl, rfl⟩ := z3
  refine thn (hst.run pins s3 σ H3 (fun o H4 => o = some (-1) ∧ H4 = H3) I3 ⟨1, rfl, -1, rfl, rfl, rfl⟩) fun vs s4 z4 => ?_
  obtain ⟨_, H4, I4, ps, rfl, rfl⟩ := z4
  obtain ⟨S, eS⟩ : ∃ S : Shared, S = { s4 with heap := s4.heap.push { cls := .type "slice", data := .fields #[vl, vu, vs] } } := ⟨_, rfl⟩
  have I5 : Inv X pins σ H4 S := by rw [eS]; exact I4.kept (t' := s4.toks) fun b ob q => Heap.get?_push_of_some _ q
  obtain ⟨its, r, ht, hz⟩ := I5.tuple hx
  have hlen : its.toArray.size = xs.length := by rw [List.size_toArray]; exact r.length.symm
  have hsl : S.heap.IsSliceOf s4.heap.objs.size vl vu vs := by rw [eS]; exact Heap.IsSliceOf.new _ vl vu vs
  show wpAny (model X.prog X.w) X.A (subscriptTail e (.Slice none none (some (.UnaryOp .USub (.Constant (.int 1) k p1) p2)) p3) (.ref a) (.ref s4.heap.objs.size)) (EP X pins σ Q) X.xe { s4 with heap := s4.heap.push { cls := .type "slice", data := .fields #[vl, vu, vs] } }
  rw [← eS]
  refine tail_any (ops := [.ref a, .ref s4.heap.objs.size]) ht.typeIs PyProof.Rows.slot_tuple_getitem.lookup ?_ (by with_unfolding_all rfl)
  obtain ⟨os, hos, hcs, hds⟩ := id hsl
  have hTs : S.TypeIs (.ref s4.heap.objs.size) "slice" := ⟨os, hos, hcs⟩
  unfold getItem
  try with_reducible refine wpAny_holding ?_
  first | refine wpAny_bind (wpAny_pure ?_) | skip
  refine wpAny_bind (wpAny_sequenceKey ht.typeIs (by decide) ?_)
  refine wpAny_bind (wpAny_callSpecial?_slot (name := Str.ofString "__getitem__") ht.typeIs PyProof.Rows.slot_tuple_getitem (wpAny_call_entry PyProof.Rows.slot_tuple_getitem ht.typeIs PyProof.Rows.entry_tuple_getitem ?_ (PyProof.Rows.args_tuple_getitem _ _)))
  show wpAny _ _ (Builtin.Tuple.tupleItemsOf (.ref a) >>= _) _ _ S
  refine wpAny_bind (PyProof.Rows.tupleItemsOf_ ht ?_)
  refine wpAny_bind (wpAny_typeOf hTs ?_)
  rw [if_pos (by decide)]
  refine wpAny_bind (slice_back (n := its.toArray.size) hsl pl pu ps ?_)
  have hno : ¬ ((((its.toArray.size : Nat) : Int) - 1 == 0 && (-1 : Int) == 1 && its.toArray.size == its.toArray.size) = true) := by
    intro z
    rw [Bool.and_eq_true, Bool.and_eq_true] at z
    exact absurd z.1.2 (by decide)
  show wpAny _ _ (if (((its.toArray.size : Nat) : Int) - 1 == 0 && (-1 : Int) == 1 && its.toArray.size == its.toArray.size) = true then _ else _) _ _ S
  rw [if_neg hno]
  have rel := vals_pick r (fun (k : Nat) => (((xs.length : Int) - 1) + (k : Int) * (-1)).toNat) (List.range xs.length)
  have eit : ((List.range its.toArray.size).filterMap fun (k : Nat) => its.toArray[(((its.toArray.size : Nat) : Int) - 1 + (k : Int) * (-1)).toNat]?) = (List.range xs.length).filterMap fun (k : Nat) => its[(((xs.length : Int) - 1) + (k : Int) * (-1)).toNat]? := by
    rw [hlen]
    congr 1
    funext k
    simp
  have lz : ((List.range xs.length).filterMap fun (k : Nat) => its[(((xs.length : Int) - 1) + (k : Int) * (-1)).toNat]?).length ≤ sizeLine := by
    have := pick_le (fun (k : Nat) => its[(((xs.length : Int) - 1) + (k : Int) * (-1)).toNat]?) (List.range xs.length)
    rw [List.length_range] at this
    omega
  have new : H4 S.heap.objs.size = none := I5.hok.fresh (Nat.le_refl _)
  rw [eit]
  have fin : EP X pins σ Q (.ref S.heap.objs.size) { S with heap := S.heap.push { cls := .type "tuple", data := .seq ((List.range xs.length).filterMap fun (k : Nat) => its[(((xs.length : Int) - 1) + (k : Int) * (-1)).toNat]?).toArray } } := by
    refine ⟨.ref S.heap.objs.size, _, I5.laid (t' := S.toks) (o := .tup ((List.range xs.length).filterMap fun (k : Nat) => xs[(((xs.length : Int) - 1) + (k : Int) * (-1)).toNat]?)) (fun b ob q => Heap.get?_push_of_some _ q) (Nat.le_refl _) ?_, rfl, q _ _ new (fun _ => G.alloc new) upd_same⟩
    exact ⟨by rw [rel.length]; exact lz, _, rel, IsTup.new _ _⟩
  first
    | exact wpAny_bind (m := Builtin.Tuple.tupleExact _) (wpAny_newObj_type (wpAny_pure ⟨_, rfl, wpAny_pure fin⟩) (by show _ ≤ sizeLine; rw [List.size_toArray]; exact lz))
    | exact wpAny_bind (wpAny_bind (m := Builtin.Tuple.tupleExact _) (wpAny_newObj_type (wpAny_pure (wpAny_pure ⟨_, rfl, wpAny_pure fin⟩)) (by show _ ≤ sizeLine; rw [List.size_toArray]; exact lz)))
    | exact wpAny_bind (wpAny_bind (m := Builtin.Tuple.tupleExact _) (wpAny_newObj_type (wpAny_pure ⟨_, rfl, wpAny_pure fin⟩) (by show _ ≤ sizeLine; rw [List.size_toArray]; exact lz)))
end
end GA
/-! ## GZ -/
namespace GA
open PySem PySem.Spec PyProof.Rows L2 PySem.SeqAt
/-! ### sorted of ((int, int), int, int, int or None): the first three parts decide -/
def IsW (h : Heap) (v : Value) (a : Int × Int × Int × Int) (g : Option Int) : Prop := ∃ (l t1 : Addr) (a1 a2 a3 a4 : Tok) (gv : Value), v = .ref l ∧ h.IsTuple l #[.ref t1, .int a.2.2.1 a3, .int a.2.2.2 a4, gv] ∧ h.IsTuple t1 #[.int a.1 a1, .int a.2.1 a2] ∧ (g = none ∧ gv = .none ∨ ∃ i a5, g = some i ∧ gv = .int i a5)
def ltWr (a b : Int × Int × Int × Int) : Bool := decide (a.1 < b.1) || (decide (a.1 = b.1) && (decide (a.2.1 < b.2.1) || (decide (a.2.1 = b.2.1) && (decide (a.2.2.1 < b.2.2.1) || (decide (a.2.2.1 = b.2.2.1) && decide (a.2.2.2 < b.2.2.2))))))
section
variable {prog : Program} {w : World} {A : Around} {E : Value → Shared → Prop} {s : Shared}
theorem tup_get {h : Heap} {l : Addr} {its : Array Value} (t : h.IsTuple l its) : ∃ (o : Obj) (n : Nat), h.get? l = some o ∧ o.cls = .type "tuple" ∧ o.data = .seq its n := by
  obtain ⟨o, h1, h2, n, h3⟩ := t
  exact ⟨o, n, h1, h2, h3⟩
theorem bq (x y : Int) : (x == y) = decide (x = y) := by
  by_cases h : x = y
  · rw [decide_eq_true h]; exact beq_iff_eq.mpr h
  · rw [decide_eq_false h]; exact beq_eq_false_iff_ne.mpr h
/-- pairs of ints, equal or less -/
theorem pair_eq {t t' : Addr} {x y x' y' : Int} {a1 a2 b1 b2 : Tok} (h : s.heap.IsTuple t #[.int x a1, .int y a2]) (h' : s.heap.IsTuple t' #[.int x' b1, .int y' b2]) (hu : A.units < cLine) : EqAt A s (.ref t) (.ref t') (decide (x = x') && decide (y = y')) := by
  by_cases e : t = t'
  · subst e
    obtain ⟨o, n, g1, _, g2⟩ := tup_get h
    obtain ⟨o', n', g1', _, g2'⟩ := tup_get h'
    rw [g1] at g1'
    cases g1'
    rw [g2] at g2'
    injection g2' with g3 _
    have g3 := congrArg Array.toList g3
    injection g3 with g4 g5
    injection g5 with g5 _
    injection g4 with g4 _
    injection g5 with g5 _
    rw [decide_eq_true g4, decide_eq_true g5]
    exact EqAt.same _
  · refine EqAt.of_refs e ?_
    have R := RcAt.tuples (A := A) (s := s) (e := fun j => if j = 0 then decide (x = x') else decide (y = y')) h h' hu (fun j h1 h2 => by
      match j, h1, h2 with
      | 0, _, _ =>
        show EqAt _ _ (.int x a1) (.int x' b1) (decide (x = x'))
        rw [← bq]; exact EqAt.int_int _ _ _ _
      | 1, _, _ =>
        show EqAt _ _ (.int y a2) (.int y' b2) (decide (y = y'))
        rw [← bq]; exact EqAt.int_int _ _ _ _
      | n + 2, h1, _ => exact absurd h1 (by simp))
    have e2 : ((List.range (min (#[Value.int x a1, .int y a2] : Array Value).size (#[Value.int x' b1, .int y' b2] : Array Value).size)).all (fun j => if j = 0 then decide (x = x') else decide (y = y')) && (#[Value.int x a1, .int y a2] : Array Value).size == (#[Value.int x' b1, .int y' b2] : Array Value).size) = (decide (x = x') && decide (y = y')) := by
      show (((if (0 : Nat) = 0 then decide (x = x') else decide (y = y')) && ((if (1 : Nat) = 0 then decide (x = x') else decide (y = y')) && true)) && true) = _
      simp
    rw [e2] at R
    exact R
theorem pair_lt {t t' : Addr} {x y x' y' : Int} {a1 a2 b1 b2 : Tok} (h : s.heap.IsTuple t #[.int x a1, .int y a2]) (h' : s.heap.IsTuple t' #[.int x' b1, .int y' b2]) (hu : A.units < cLine) : Ob.RcOp .Lt A s (.ref t) (.ref t') (decide (x < x') || (decide (x = x') && decide (y < y'))) := by
  have R := Ob.RcOp.tuples_lt (A := A) (s := s) (e := fun j => if j = 0 then decide (x = x') else decide (y = y')) (r := fun j => if j = 0 then decide (x < x') else decide (y < y')) h h' hu (fun j h1 h2 => by
      match j, h1, h2 with
      | 0, _, _ =>
        show EqAt _ _ (.int x a1) (.int x' b1) (decide (x = x'))
        rw [← bq]; exact EqAt.int_int _ _ _ _
      | 1, _, _ =>
        show EqAt _ _ (.int y a2) (.int y' b2) (decide (y = y'))
        rw [← bq]; exact EqAt.int_int _ _ _ _
      | n + 2, h1, _ => exact absurd h1 (by simp)) (fun j h1 h2 _ => by
      match j, h1, h2 with
      | 0, _, _ =>
        show Ob.RcOp _ _ _ (.int x a1) (.int x' b1) (decide (x < x'))
        exact Ob.RcOp.lt_int _ _ _ _
      | 1, _, _ =>
        show Ob.RcOp _ _ _ (.int y a2) (.int y' b2) (decide (y < y'))
        exact Ob.RcOp.lt_int _ _ _ _
      | n + 2, h1, _ => exact absurd h1 (by simp))
  have e2 : Ob.lexAt (fun j => if j = 0 then decide (x = x') else decide (y = y')) (fun j => if j = 0 then decide (x < x') else decide (y < y')) (decide ((#[Value.int x a1, .int y a2] : Array Value).size < (#[Value.int x' b1, .int y' b2] : Array Value).size)) 0 (min (#[Value.int x a1, .int y a2] : Array Value).size (#[Value.int x' b1, .int y' b2] : Array Value).size) = (decide (x < x') || (decide (x = x') && decide (y < y'))) := by
    show Ob.lexAt _ _ (decide (2 < 2)) 0 2 = _
    rw [Ob.lexAt_succ, Ob.lexAt_succ, Ob.lexAt_zero]
    by_cases c1 : x = x' <;> by_cases c2 : y = y' <;> simp [c1, c2]
  rw [e2] at R
  exact R
theorem lt_w {v u : Value} {a b : Int × Int × Int × Int} {g g' : Option Int} {Q : Bool → Shared → Prop} (hv : IsW s.heap v a g) (hv' : IsW s.heap u b g') (same : a = b → g = g') (hu : A.units < cLine) (q : Q (ltWr a b) s) : wpAny (model prog w) A (keyLt' (tuples' false) v u) Q E s := by
  obtain ⟨l, t1, a1, a2, a3, a4, gv, rfl, h1, h2, hg⟩ := hv
  obtain ⟨l', t1', b1, b2, b3, b4, gv', rfl, h1', h2', hg'⟩ := hv'
  obtain ⟨o, n, e1, _, e2⟩ := tup_get h1
  obtain ⟨o', n', e1', _, e2'⟩ := tup_get h1'
  obtain ⟨k, f, p, m⟩ := a
  obtain ⟨k', f', p', m'⟩ := b
  refine PySem.W.kat_lt e1 e2 e1' e2' ?_
  show PySem.W.KatLex prog w A false false Q [(.ref t1, .ref t1'), (.int p a3, .int p' b3), (.int m a4, .int m' b4), (gv, gv')] 0 s
  refine PySem.W.kat_cons (pair_eq h2 h2' hu prog w _ _ (PySem.W.kat_go (fun e => PySem.W.kat_yes ?_) fun e => PySem.W.kat_no ?_))
  · rw [Bool.and_eq_true, decide_eq_true_iff, decide_eq_true_iff] at e
    obtain ⟨ek, ef⟩ := e
    have ek : k = k' := ek
    have ef : f = f' := ef
    subst ek ef
    refine PySem.W.kat_cons (EqAt.int_int p a3 p' b3 prog w _ _ (PySem.W.kat_go (fun e => PySem.W.kat_yes ?_) fun e => PySem.W.kat_no ?_))
    · have ep : p = p' := eq_of_beq e
      subst ep
      refine PySem.W.kat_cons (EqAt.int_int m a4 m' b4 prog w _ _ (PySem.W.kat_go (fun e => PySem.W.kat_yes ?_) fun e => PySem.W.kat_no ?_))
      · have em : m = m' := eq_of_beq e
        subst em
        have eg := same rfl
        have q0 : Q false s := by
          have : ltWr (k, f, p, m) (k, f, p, m) = false := by simp [ltWr]
          rw [this] at q
          exact q
        rcases hg with ⟨rfl, rfl⟩ | ⟨i, a5, rfl, rfl⟩ <;> rcases hg' with ⟨z, rfl⟩ | ⟨i', b5, z, rfl⟩
        · exact PySem.W.kat_cons (EqAt.same _ prog w _ _ (PySem.W.kat_yes (PySem.W.kat_nil q0)))
        · rw [z] at eg; cases eg
        · rw [z] at eg; cases eg
        · rw [z] at eg
          cases eg
          refine PySem.W.kat_cons (EqAt.int_int i a5 i b5 prog w _ _ (PySem.W.kat_go (fun e => PySem.W.kat_yes (PySem.W.kat_nil q0)) fun e => ?_))
          rw [bq, decide_eq_true rfl] at e
          cases e
      · have em : ¬ m = m' := by rw [bq] at e; exact of_decide_eq_false e
        refine TS.oneLt_ints _ ?_
        have : ltWr (k, f, p, m) (k, f, p, m') = decide (m < m') := by simp [ltWr]
        rw [this] at q
        exact q
    · have ep : ¬ p = p' := by rw [bq] at e; exact of_decide_eq_false e
      refine TS.oneLt_ints _ ?_
      have : ltWr (k, f, p, m) (k, f, p', m') = decide (p < p') := by simp [ltWr, ep]
      rw [this] at q
      exact q
  · refine PySem.W.kat_one _ _ (pair_lt h2 h2' hu prog w _ _ ?_)
    have : ltWr (k, f, p, m) (k', f', p', m') = (decide (k < k') || (decide (k = k') && decide (f < f'))) := by
      have e : (decide (k = k') && decide (f = f')) = false := e
      unfold ltWr
      show (decide (k < k') || (decide (k = k') && (decide (f < f') || (decide (f = f') && _)))) = _
      by_cases c1 : k = k'
      · by_cases c2 : f = f'
        · rw [decide_eq_true c1, decide_eq_true c2] at e; cases e
        · simp [c1, c2]
      · simp [c1]
    rw [this] at q
    exact q
end
def keyV (key : V → Int × Int × Int × Int) : Value → Int × Int × Int × Int
  | .ref t => key (.ref t)
  | _ => (0, 0, 0, 0)
def optV : Option Int → V
  | none => .non
  | some i => .int i
def rSortedW (K : PySem.W.Frag) : List V → Hp → VK → Prop := fun vs H Q => ∃ (a : Addr) (xs : List V) (key : V → Int × Int × Int × Int) (gk : V → Option Int), vs = [.ref a] ∧ SqL K H a xs ∧
  (∀ x ∈ xs, ∃ t t1, x = .ref t ∧ H t = some (.tup [.ref t1, .int (key x).2.2.1, .int (key x).2.2.2, optV (gk x)]) ∧ H t1 = some (.tup [.int (key x).1, .int (key x).2.1])) ∧ (∀ x ∈ xs, ∀ y ∈ xs, key x = key y → gk x = gk y) ∧
  ∀ (ys : List V) (p : Addr), ys.Perm xs → ys.Pairwise (fun x y => ltWr (key y) (key x) = false) → H p = none → Q (.ref p) (upd H p (.lst ys))
theorem swoW (key : Value → Int × Int × Int × Int) : SrtO.Swo fun v u => ltWr (key v) (key u) := by
  constructor
  · intro x y h
    generalize key x = a at *
    generalize key y = b at *
    obtain ⟨a1, a2, a3, a4⟩ := a
    obtain ⟨b1, b2, b3, b4⟩ := b
    simp only [ltWr, Bool.or_eq_true, Bool.and_eq_true, decide_eq_true_eq, Bool.or_eq_false_iff, Bool.and_eq_false_iff, decide_eq_false_iff_not] at *
    omega
  · intro x y z h1 h2
    generalize key x = a at *
    generalize key y = b at *
    generalize key z = c at *
    obtain ⟨a1, a2, a3, a4⟩ := a
    obtain ⟨b1, b2, b3, b4⟩ := b
    obtain ⟨c1, c2, c3, c4⟩ := c
    simp only [ltWr, Bool.or_eq_true, Bool.and_eq_true, decide_eq_true_eq, Bool.or_eq_false_iff, Bool.and_eq_false_iff, decide_eq_false_iff_not] at *
    omega
theorem relV_opt {g : Option Int} {u : Value} (r : RelV (optV g) u) : g = none ∧ u = .none ∨ ∃ i a5, g = some i ∧ u = .int i a5 := by
  cases g with
  | none => cases r; exact .inl ⟨rfl, rfl⟩
  | some i => obtain ⟨t, rfl⟩ := r; exact .inr ⟨i, t, rfl, rfl⟩
theorem isW_of {X : Cx} {pins : List (Addr × Obj)} {σ : L2.St} {H : Hp} {s : Shared} {t t1 : Addr} {k : Int × Int × Int × Int} {g : Option Int} (I : Inv X pins σ H s) (h : H t = some (.tup [.ref t1, .int k.2.2.1, .int k.2.2.2, optV g])) (h1 : H t1 = some (.tup [.int k.1, .int k.2.1])) : IsW s.heap (.ref t) k g := by
  obtain ⟨its, r, p, _⟩ := I.tuple (.inl (.inl h))
  obtain ⟨its2, r2, p2, _⟩ := I.tuple (.inl (.inl h1))
  cases r with
  | cons c1 r =>
  cases r with
  | cons c2 r =>
  cases r with
  | cons c3 r =>
  cases r with
  | cons c4 r =>
  cases r
  cases r2 with
  | cons d1 r2 =>
  cases r2 with
  | cons d2 r2 =>
  cases r2
  cases c1
  obtain ⟨_, rfl⟩ := c2
  obtain ⟨_, rfl⟩ := c3
  obtain ⟨_, rfl⟩ := d1
  obtain ⟨_, rfl⟩ := d2
  exact ⟨t, t1, _, _, _, _, _, rfl, p, p2, relV_opt c4⟩
theorem vals_mem {xs : List V} {us : List Value} (r : Vals xs us) {u : Value} (h : u ∈ us) : ∃ x ∈ xs, RelV x u := by
  induction r with
  | nil => cases h
  | cons c r ih =>
    rcases List.mem_cons.mp h with e | e
    · subst e
      exact ⟨_, List.mem_cons_self .., c⟩
    · obtain ⟨x, hx, q⟩ := ih e
      exact ⟨x, List.mem_cons_of_mem _ hx, q⟩
def backV : Value → V
  | .ref t => .ref t
  | _ => .non
theorem vals_back {us : List Value} (h : ∀ u ∈ us, ∃ t, u = Value.ref t) : Vals (us.map backV) us := by
  induction us with
  | nil => exact .nil
  | cons u us ih =>
    obtain ⟨t, rfl⟩ := h u (List.mem_cons_self ..)
    exact .cons rfl (ih fun v hv => h v (List.mem_cons_of_mem _ hv))
theorem back_vals {xs : List V} {us : List Value} (r : Vals xs us) (h : ∀ x ∈ xs, ∃ t, x = V.ref t) : us.map backV = xs := by
  induction r with
  | nil => rfl
  | cons c r ih =>
    obtain ⟨t, rfl⟩ := h _ (List.mem_cons_self ..)
    cases c
    rw [List.map_cons, ih fun x hx => h x (List.mem_cons_of_mem _ hx)]; rfl
theorem katW {h : Heap} : ∀ {vs : List Value}, (∀ v ∈ vs, ∃ k g, IsW h v k g) → ∃ fs, PySem.W.KatTups h vs fs ∧ fs.length = vs.length ∧ ∀ f ∈ fs, ∃ t1 its, f = Value.ref t1 ∧ h.IsTuple t1 its
  | [], _ => ⟨[], .nil, rfl, fun _ h => by cases h⟩
  | v :: vs, H => by
    obtain ⟨fs, a1, a2, a3⟩ := katW (vs := vs) fun v hv => H v (List.mem_cons_of_mem _ hv)
    obtain ⟨k, g, l, t1, x1, x2, x3, x4, gv, rfl, h1, h2, _⟩ := H v (List.mem_cons_self ..)
    obtain ⟨o, n, e1, e2, e3⟩ := tup_get h1
    refine ⟨.ref t1 :: fs, .cons e1 e2 e3 rfl a1, by rw [List.length_cons, List.length_cons, a2], fun f hf => ?_⟩
    rcases List.mem_cons.mp hf with e | e
    · exact ⟨t1, _, e, h2⟩
    · exact a3 f e
theorem IsW.keep {h h' : Heap} {v : Value} {k : Int × Int × Int × Int} {g : Option Int} {a : Addr} (w : IsW h v k g) (na : ∀ l its, h.IsTuple l its → l ≠ a) (kp : ∀ b o, b ≠ a → h.get? b = some o → h'.get? b = some o) : IsW h' v k g := by
  have up : ∀ {l its}, h.IsTuple l its → h'.IsTuple l its := fun {l its} t => by
    obtain ⟨o, h1, h2, n, h3⟩ := id t
    exact ⟨o, kp _ _ (na _ _ t) h1, h2, n, h3⟩
  obtain ⟨l, t1, x1, x2, x3, x4, gv, e, h1, h2, z⟩ := w
  exact ⟨l, t1, x1, x2, x3, x4, gv, e, up h1, up h2, z⟩
theorem cr_sortedW {X : Cx} (hu : X.A.in1.in1.units < cLine) : CallR X (.builtin "sorted") (rSortedW X.K) := by
  intro pins s σ H xs us Q I r h
  obtain ⟨a, xs, key, gk, rfl, hx, hk, inj, q⟩ := h
  cases r with
  | cons c r =>
  cases r
  cases c
  obtain ⟨its, rv, pl, hz⟩ := I.list hx
  have refs : ∀ x ∈ xs, ∃ t, x = V.ref t := fun x hx => let ⟨t, _, e, _⟩ := hk x hx; ⟨t, e⟩
  have all : ∀ v ∈ its, IsW s.heap v (keyV key v) (gk (backV v)) ∧ backV v ∈ xs := fun v hv => by
    obtain ⟨x, hx1, rx⟩ := vals_mem rv hv
    obtain ⟨t, t1, rfl, h1, h2⟩ := hk x hx1
    cases rx
    exact ⟨isW_of I h1 h2, hx1⟩
  have keyb : ∀ v ∈ its, keyV key v = key (backV v) := fun v hv => by
    obtain ⟨x, hx1, rx⟩ := vals_mem rv hv
    obtain ⟨t, rfl⟩ := refs x hx1
    cases rx
    rfl
  refine SrtO.sorted_ord (ltv := fun v u => ltWr (keyV key v) (keyV key u)) (swoW (keyV key)) pl.isList (by rw [← rv.length]; exact hz) (fun h2 h₁ a₁ g1 g2 => ?_) (fun out srt stb => ?_)
  · intro h' kp
    have W : ∀ v ∈ its, IsW h' v (keyV key v) (gk (backV v)) := fun v hv => by
      refine (all v hv).1.keep (a := a₁) (fun l its2 t => ?_) fun b o nb e => kp b o nb (g2 b o e).2
      obtain ⟨o, n, e1, _, _⟩ := tup_get t
      exact (g2 l o e1).1
    refine ⟨tuples' false, fun Q E q => ?_, fun p u hp hu' => ?_⟩
    · obtain ⟨fs, b1, b2, b3⟩ := katW (h := h') fun v hv => ⟨_, _, W v hv⟩
      refine PySem.W.kat_kind (T := .type "tuple") b1 (by rw [b2]; omega) (fun v hv => ?_) (by rfl) q
      obtain ⟨t1, it1, rfl, ht1⟩ := b3 v hv
      obtain ⟨o, n, e1, e2, _⟩ := tup_get ht1
      intro A Q E s kp2 q
      refine wpAny_typeOf ⟨o, kp2 _ _ e1, e2⟩ q
    · refine lt_w (s := ⟨h', s.gens, s.drawn, s.toks, s.os⟩) (W p.1 hp) (W u.1 hu') (fun e => ?_) hu ⟨rfl, rfl⟩
      refine inj _ (all p.1 hp).2 _ (all u.1 hu').2 ?_
      rw [← keyb _ hp, ← keyb _ hu']
      exact e
  · obtain ⟨e, he⟩ := sortedAll_at s.heap its out.toArray
    have pm := stb.perm
    have or_ : ∀ u ∈ out, ∃ t, u = Value.ref t := fun u hu => by
      obtain ⟨x, hx1, rx⟩ := vals_mem rv (pm.mem_iff.mp hu)
      obtain ⟨t, rfl⟩ := refs x hx1
      cases rx
      exact ⟨t, rfl⟩
    have ro := vals_back or_
    have py : (out.map backV).Perm xs := by
      have := pm.map backV
      rw [back_vals rv refs] at this
      exact this
    have new : H (s.heap.objs.size + 1) = none := I.hok.fresh (by omega)
    refine ⟨.ref (s.heap.objs.size + 1), _, I.laid (t' := s.toks) (o := .lst (out.map backV)) (fun b ob q => sortedAll_old q) (by omega) ?_, rfl, q (out.map backV) _ py ?_ new⟩
    · exact ⟨by rw [py.length_eq]; exact hz, out, _, ro, he⟩
    · refine List.pairwise_map.mpr (srt.imp_of_mem fun {x y} hx hy h => ?_)
      have mx := pm.mem_iff.mp hx
      have my := pm.mem_iff.mp hy
      rw [← keyb _ mx, ← keyb _ my]
      exact h
end GA
/-! ## GTL -/
namespace GA
open PySem PySem.Spec PyProof.Rows L2 PySem.SeqAt PySem.W
/-! ### t < u of tuples of ints, sorted of lists of such, of any lengths -/
def ltL : List Int → List Int → Bool
  | _, [] => false
  | [], _ :: _ => true
  | x :: xs, y :: ys => decide (x < y) || (decide (x = y) && ltL xs ys)
theorem lexAt_shift {e r : Nat → Bool} {fin : Bool} : ∀ n i, Ob.lexAt e r fin (i + 1) n = Ob.lexAt (fun j => e (j + 1)) (fun j => r (j + 1)) fin i n
  | 0, i => by rw [Ob.lexAt_zero, Ob.lexAt_zero]
  | n + 1, i => by rw [Ob.lexAt_succ, Ob.lexAt_succ, lexAt_shift n (i + 1)]
theorem lexAt_ltL : ∀ ns ms : List Int, Ob.lexAt (fun j => decide (ns.getD j 0 = ms.getD j 0)) (fun j => decide (ns.getD j 0 < ms.getD j 0)) (decide (ns.length < ms.length)) 0 (min ns.length ms.length) = ltL ns ms
  | [], [] => by simp [ltL, Ob.lexAt_zero]
  | [], m :: ms => by simp [ltL, Ob.lexAt_zero]
  | n :: ns, [] => by simp [ltL, Ob.lexAt_zero]
  | n :: ns, m :: ms => by
    have e0 : min (n :: ns).length (m :: ms).length = min ns.length ms.length + 1 := by simp only [List.length_cons]; omega
    rw [e0, Ob.lexAt_succ, lexAt_shift]
    have ih := lexAt_ltL ns ms
    have e1 : decide ((n :: ns).length < (m :: ms).length) = decide (ns.length < ms.length) := by simp
    rw [e1]
    show (if decide (n = m) = true then Ob.lexAt (fun j => decide (ns.getD j 0 = ms.getD j 0)) (fun j => decide (ns.getD j 0 < ms.getD j 0)) (decide (ns.length < ms.length)) 0 (min ns.length ms.length) else decide (n < m)) = _
    rw [ih]
    show _ = (decide (n < m) || (decide (n = m) && ltL ns ms))
    by_cases c : n = m
    · subst c; simp
    · simp [c]
def rLtT (K : PySem.W.Frag) : R2 := fun x y H Q => ∃ (a b : Addr) (ns ms : List Int), x = .ref a ∧ y = .ref b ∧ SqT K H a (ns.map V.int) ∧ SqT K H b (ms.map V.int) ∧ Q (.bl (ltL ns ms)) H
section
variable {prog : Program} {w : World} {A : Around} {E : Value → Shared → Prop} {s : Shared}
theorem ints_at {its : List Value} {ns : List Int} (i1 : IntsAre its ns) : ∀ j (h1 : j < its.toArray.size), ∃ t, its.toArray[j] = .int (ns.getD j 0) t := fun j h1 => PyProof.Rows.IntsAre.int_at i1 _ _ (by
  simp at h1
  simp [h1])
theorem rc_ltL {l b : Addr} {xs ys : List Value} {ns ms : List Int} (h : s.heap.IsTuple l xs.toArray) (h' : s.heap.IsTuple b ys.toArray) (i1 : IntsAre xs ns) (i2 : IntsAre ys ms) (hu : A.units < cLine) : Ob.RcOp .Lt A s (.ref l) (.ref b) (ltL ns ms) := by
  have e1 : xs.toArray.size = ns.length := by rw [List.size_toArray]; exact i1.length
  have e2 : ys.toArray.size = ms.length := by rw [List.size_toArray]; exact i2.length
  have at1 := ints_at i1
  have at2 := ints_at i2
  have R := Ob.RcOp.tuples_lt (A := A) (s := s) (e := fun j => decide (ns.getD j 0 = ms.getD j 0)) (r := fun j => decide (ns.getD j 0 < ms.getD j 0)) h h' hu (fun j h1 h2 => by
    obtain ⟨t, et⟩ := at1 j h1
    obtain ⟨t', et'⟩ := at2 j h2
    rw [et, et', ← bq]
    exact SeqAt.EqAt.int_int _ _ _ _) (fun j h1 h2 _ => by
    obtain ⟨t, et⟩ := at1 j h1
    obtain ⟨t', et'⟩ := at2 j h2
    rw [et, et']
    exact Ob.RcOp.lt_int _ _ _ _)
  rw [e1, e2, lexAt_ltL] at R
  exact R
theorem call_tuple_ltL {Q : Value → Shared → Prop} {l b : Addr} {xs ys : List Value} {ns ms : List Int} (h : s.heap.IsTuple l xs.toArray) (h' : s.heap.IsTuple b ys.toArray) (i1 : IntsAre xs ns) (i2 : IntsAre ys ms)
    (q : Q (.bool (ltL ns ms)) s) : wpAny (model prog w) A (call (.builtin "tuple.__lt__") [.ref l, .ref b]) Q E s := by
  have e1 : xs.toArray.size = ns.length := by rw [List.size_toArray]; exact i1.length
  have e2 : ys.toArray.size = ms.length := by rw [List.size_toArray]; exact i2.length
  have at1 := ints_at i1
  have at2 := ints_at i2
  obtain ⟨⟨cls, dd, data, sl⟩, ho, hc, n, hd⟩ := id h
  obtain ⟨⟨cls2, dd2, data2, sl2⟩, ho2, hc2, n2, hd2⟩ := id h'
  simp only at hc hd hc2 hd2
  subst hc hd hc2 hd2
  refine call_meets F.slot_tuple_lt ⟨_, ho, rfl⟩ F.entry_tuple_lt (F.args_tuple_lt_2 _ _) (Ob.tuple_ltAt l b xs.toArray ys.toArray n n2 dd dd2 sl sl2 (fun j => decide (ns.getD j 0 = ms.getD j 0)) (fun j => decide (ns.getD j 0 < ms.getD j 0))) ⟨ho, ho2, fun j h1 h2 => ?_, fun j h1 h2 _ => ?_, ?_⟩
  · obtain ⟨t, et⟩ := at1 j h1
    obtain ⟨t', et'⟩ := at2 j h2
    rw [et, et', ← bq]
    exact SeqAt.EqAt.int_int _ _ _ _
  · obtain ⟨t, et⟩ := at1 j h1
    obtain ⟨t', et'⟩ := at2 j h2
    rw [et, et']
    exact Ob.RcOp.lt_int _ _ _ _
  · rw [e1, e2, lexAt_ltL]
    exact q
theorem katL {b : Bool} {Q : Bool → Shared → Prop} {fin : Bool} : ∀ {xs ys : List Value} {ns ms : List Int} (i : Nat), IntsAre xs ns → IntsAre ys ms → fin = decide (ns.length < ms.length) → Q (ltL ns ms) s → PySem.W.KatLex prog w A b fin Q (xs.zip ys) i s := by
  intro xs ys ns ms i h1
  induction h1 generalizing ys ms i with
  | nil =>
    intro h2 ef q
    refine PySem.W.kat_nil ?_
    cases h2 with
    | nil => rw [ef]; exact q
    | cons _ _ _ => rw [ef]; exact q
  | @cons p t xs ns hx ih =>
    intro h2 ef q
    cases h2 with
    | nil => exact PySem.W.kat_nil (by rw [ef]; exact q)
    | @cons p2 t2 ys ms hy =>
      have q : Q (decide (p < p2) || (decide (p = p2) && ltL ns ms)) s := q
      refine PySem.W.kat_cons (EqAt.int_int p t p2 t2 prog w _ _ (PySem.W.kat_go (fun e => PySem.W.kat_yes ?_) fun e => PySem.W.kat_no ?_))
      · have e : p = p2 := eq_of_beq e
        subst e
        refine ih (i + 1) hy (by rw [ef]; simp) ?_
        simpa using q
      · have e : ¬ p = p2 := by rw [bq] at e; exact of_decide_eq_false e
        refine TS.oneLt_ints _ ?_
        simpa [e] using q
def IsTL (h : Heap) (v : Value) (ns : List Int) : Prop := ∃ (l : Addr) (its : List Value), v = .ref l ∧ h.IsTuple l its.toArray ∧ IntsAre its ns
theorem lt_l {κ : SortKind} {v u : Value} {ns ms : List Int} {Q : Bool → Shared → Prop} (hκ : κ = tuples' true ∨ κ = general' ∨ κ = oneType') (hv : IsTL s.heap v ns) (hv' : IsTL s.heap u ms) (hu : A.units < cLine) (q : Q (ltL ns ms) s) : wpAny (model prog w) A (keyLt' κ v u) Q E s := by
  obtain ⟨l, xs, rfl, h1, i1⟩ := hv
  obtain ⟨l', ys, rfl, h1', i1'⟩ := hv'
  rcases hκ with rfl | rfl | rfl
  · obtain ⟨o, n, e1, _, e2⟩ := tup_get h1
    obtain ⟨o', n', e1', _, e2'⟩ := tup_get h1'
    refine PySem.W.kat_lt e1 e2 e1' e2' ?_
    have ef : decide (xs.toArray.size < ys.toArray.size) = decide (ns.length < ms.length) := by rw [List.size_toArray, List.size_toArray, i1.length, i1'.length]
    exact katL 0 i1 i1' ef q
  · show wpAny _ _ (oneLt' false _ _) _ _ _
    exact PySem.W.kat_one _ _ (rc_ltL h1 h1' i1 i1' hu prog w _ _ q)
  · rw [keyLt'_oneType, oneLt'_eq]
    simp only [if_true]
    refine wpAny_bind (wpAny_cRoomFor hu ?_)
    refine wpAny_bind (wpAny_callSpecialIfBound?_slot (T := "tuple") (by obtain ⟨o, n, e1, e2, _⟩ := tup_get h1; exact ⟨o, e1, e2⟩) F.slot_tuple_lt (call_tuple_ltL h1 h1' i1 i1' ?_))
    exact wpAny_truthy_bool q
/-! ### the kind of keys -/
def KatO (h : Heap) : List Value → List (Option Value) → Prop
  | [], [] => True
  | v :: vs, f :: fs => (∃ a o xs n, v = .ref a ∧ h.get? a = some o ∧ o.cls = .type "tuple" ∧ o.data = .seq xs n ∧ xs[0]? = f) ∧ KatO h vs fs
  | _, _ => False
theorem kato_firsts {M : Model} : ∀ (vs : List Value) (fs : List (Option Value)) {Q : List (Option Value) → Shared → Prop}, KatO s.heap vs fs → Q fs s → wpAny M A (vs.mapM firstOfTuple') Q E s
  | [], [], _, _, h => by rw [List.mapM_nil]; exact wpAny_pure h
  | [], _ :: _, _, t, _ => t.elim
  | _ :: _, [], _, t, _ => t.elim
  | v :: vs, f :: fs, Q, t, h => by
    obtain ⟨⟨a, o, xs, n, rfl, ho, hc, hd, hf⟩, t⟩ := t
    rw [List.mapM_cons]
    refine wpAny_bind ?_
    rw [kas_first_eq]
    refine wpAny_bind (Looks.here (show Looks M s.heap (typeOf (.ref a)) o.cls from (Looks.ld ho).andThen .now) ?_)
    rw [hc, if_neg (by first | decide | simp)]
    refine wpAny_bind (listItems_at ho hd (wpAny_pure ?_))
    rw [hf]
    exact wpAny_bind (kato_firsts vs fs (Q := fun bs s' => wpAny M A (pure (f :: bs)) Q E s') t (wpAny_pure h))
theorem kind_l {vs : List Value} (h0 : 0 < vs.length) (hv : ∀ v ∈ vs, ∃ ns, IsTL s.heap v ns) : ∃ κ, (κ = tuples' true ∨ κ = general' ∨ κ = oneType') ∧ ∀ (Q : SortKind → Shared → Prop) (E : Value → Shared → Prop), Q κ s → wpAny (model prog w) A (keyKind' vs.toArray) Q E s := by
  by_cases all : ∀ v ∈ vs, ∃ n ns, IsTL s.heap v (n :: ns)
  · obtain ⟨fs, k1, k2, k3⟩ : ∃ fs, PySem.W.KatTups s.heap vs fs ∧ fs.length = vs.length ∧ ∀ f ∈ fs, ∃ n t, f = Value.int n t := by
      clear h0 hv
      induction vs with
      | nil => exact ⟨[], .nil, rfl, fun _ h => by cases h⟩
      | cons v vs ih =>
        obtain ⟨fs, k1, k2, k3⟩ := ih fun v hv => all v (List.mem_cons_of_mem _ hv)
        obtain ⟨n, ns, l, its, rfl, ht, hi⟩ := all v List.mem_cons_self
        obtain ⟨o, k, e1, e2, e3⟩ := tup_get ht
        cases hi with
        | @cons p t xs ns hx =>
          refine ⟨.int n t :: fs, .cons e1 e2 e3 rfl k1, by rw [List.length_cons, List.length_cons, k2], fun f hf => ?_⟩
          rcases List.mem_cons.mp hf with e | e
          · exact ⟨n, t, e⟩
          · exact k3 f e
    refine ⟨tuples' true, .inl rfl, fun Q E q => PySem.W.kat_kind (T := .type "int") k1 (by omega) (fun v hv => ?_) (by rfl) (by rw [show (Value.type "int" != Value.type "tuple") = true from by decide +kernel]; exact q)⟩
    obtain ⟨n, t, rfl⟩ := k3 v hv
    exact PySem.W.Looks.now
  · obtain ⟨fs, k1, k2, k3⟩ : ∃ fs, KatO s.heap vs fs ∧ fs.length = vs.length ∧ ¬ (fs.all (·.isSome)) = true := by
      clear h0
      induction vs with
      | nil => exact absurd (fun v hv => by cases hv) all
      | cons v vs ih =>
        obtain ⟨ns, l, its, rfl, ht, hi⟩ := hv v List.mem_cons_self
        obtain ⟨o, k, e1, e2, e3⟩ := tup_get ht
        have gen : ∀ vs : List Value, (∀ v ∈ vs, ∃ ns, IsTL s.heap v ns) → ∃ fs, KatO s.heap vs fs ∧ fs.length = vs.length := by
          intro vs hv
          induction vs with
          | nil => exact ⟨[], trivial, rfl⟩
          | cons v vs ih =>
            obtain ⟨fs, q1, q2⟩ := ih fun v h => hv v (List.mem_cons_of_mem _ h)
            obtain ⟨ns, l, its, rfl, ht, hi⟩ := hv v List.mem_cons_self
            obtain ⟨o, k, e1, e2, e3⟩ := tup_get ht
            exact ⟨_ :: fs, ⟨⟨l, o, _, k, rfl, e1, e2, e3, rfl⟩, q1⟩, by rw [List.length_cons, List.length_cons, q2]⟩
        cases hi with
        | nil =>
          obtain ⟨fs, q1, q2⟩ := gen vs fun v h => hv v (List.mem_cons_of_mem _ h)
          exact ⟨none :: fs, ⟨⟨l, o, _, k, rfl, e1, e2, e3, rfl⟩, q1⟩, by rw [List.length_cons, List.length_cons, q2], by simp⟩
        | @cons p t xs ns hx =>
          obtain ⟨fs, q1, q2, q3⟩ := ih (fun v h => hv v (List.mem_cons_of_mem _ h)) fun z => all fun v h => by
            rcases List.mem_cons.mp h with rfl | h
            · exact ⟨p, ns, l, _, rfl, ht, .cons p t hx⟩
            · exact z v h
          exact ⟨some (.int p t) :: fs, ⟨⟨l, o, _, k, rfl, e1, e2, e3, rfl⟩, q1⟩, by rw [List.length_cons, List.length_cons, q2], by simpa using q3⟩
    have go : ∃ κ : SortKind, (κ = general' ∨ κ = oneType') ∧ ∀ (Q : SortKind → Shared → Prop) (E : Value → Shared → Prop), Q κ s → wpAny (model prog w) A (keyKind' vs.toArray) Q E s := by
      by_cases c : ((fs.toArray)[0]?.bind id).isSome = true
      · refine ⟨general', .inl rfl, fun Q E q => ?_⟩
        rw [kat_kind_eq, List.mapM_toArray, map_eq_pure_bind]
        refine wpAny_bind (wpAny_bind (kato_firsts vs fs k1 (wpAny_pure ?_)))
        rw [if_neg (by simpa using k3), if_pos c]
        exact wpAny_pure q
      · refine ⟨oneType', .inr rfl, fun Q E q => ?_⟩
        rw [kat_kind_eq, List.mapM_toArray, map_eq_pure_bind]
        refine wpAny_bind (wpAny_bind (kato_firsts vs fs k1 (wpAny_pure ?_)))
        rw [if_neg (by simpa using k3), if_neg c]
        rw [oneTypeOnly'_eq, List.mapM_toArray, map_eq_pure_bind]
        have hT : ∀ v ∈ vs, Looks (model prog w) s.heap (typeOf v) (.type "tuple") := fun v h => by
          obtain ⟨ns, l, its, e, ht, hi⟩ := hv v h
          subst e
          obtain ⟨o, k, e1, e2, e3⟩ := tup_get ht
          intro A Q E s kp q
          exact wpAny_typeOf ⟨o, kp _ _ e1, e2⟩ q
        refine wpAny_bind (wpAny_bind (wpAny_bind (kas_mapM (r := .type "tuple") _ (fun v hv Q' hq => (hT v hv).here hq) (wpAny_pure ?_))))
        obtain ⟨v₁, vr, rfl⟩ : ∃ v₁ vr, vs = v₁ :: vr := by
          match vs, h0 with
          | v₁ :: vr, _ => exact ⟨v₁, vr, rfl⟩
        have hall2 : ((List.map (fun _ => Value.type "tuple") (v₁ :: vr)).toArray.all fun x => x == Value.type "tuple") = true := by
          simp only [List.all_toArray, List.all_map, List.all_eq_true]
          intro _ _
          rfl
        have h0 : (List.map (fun _ => Value.type "tuple") (v₁ :: vr)).toArray[0]? = some (Value.type "tuple") := by simp
        rw [h0]
        simp only [hall2, if_true]
        exact wpAny_pure (wpAny_pure q)
    obtain ⟨κ, a, b⟩ := go
    exact ⟨κ, .inr a, b⟩
end
theorem op_ltT {X : Cx} (hu : X.A.units < cLine) : OpR X (compareOp .Lt) (rLtT X.K) := by
  intro pins s σ H x y v u Q I rx ry h
  obtain ⟨a, b, ns, ms, rfl, rfl, ha, hb, q⟩ := h
  cases rx
  cases ry
  obtain ⟨its, r1, p1, _⟩ := I.tuple ha
  obtain ⟨its2, r2, p2, _⟩ := I.tuple hb
  have i1 : IntsAre its ns := Vals.ints r1
  have i2 : IntsAre its2 ms := Vals.ints r2
  exact rc_ltL p1 p2 i1 i2 hu X.prog X.w X.xe _ ⟨.bl _, H, I, rfl, q⟩
theorem k_op_ltT (K : PySem.W.Frag) {X : Cx} (hu : X.A.units < cLine) (hK : X.K = K := by rfl) : OpR X (compareOp .Lt) (rLtT K) := by subst hK; exact op_ltT hu
theorem ltL_pair {a b c d : Int} : ltL [a, b] [c, d] = (decide (a < c) || (decide (a = c) && decide (b < d))) := by simp [ltL]
def rSortedL (K : PySem.W.Frag) : List V → Hp → VK → Prop := fun vs H Q => ∃ (a : Addr) (xs : List V) (key : V → List Int), vs = [.ref a] ∧ SqL K H a xs ∧
  (∀ x ∈ xs, ∃ t, x = .ref t ∧ SqT K H t ((key x).map V.int)) ∧
  ∀ (ys : List V) (p : Addr), ys.Perm xs → ys.Pairwise (fun x y => ltL (key y) (key x) = false) → H p = none → Q (.ref p) (upd H p (.lst ys))
theorem ltL_irr : ∀ a : List Int, ltL a a = false
  | [] => rfl
  | x :: xs => by simp [ltL, ltL_irr xs]
theorem ltL_asym : ∀ a b : List Int, ltL a b = true → ltL b a = false
  | [], [], h => by simp [ltL] at h
  | x :: xs, [], h => by simp [ltL] at h
  | [], y :: ys, _ => rfl
  | x :: xs, y :: ys, h => by
    have ih := ltL_asym xs ys
    simp only [ltL, Bool.or_eq_true, Bool.and_eq_true, decide_eq_true_eq, Bool.or_eq_false_iff, Bool.and_eq_false_iff, decide_eq_false_iff_not] at h ⊢
    rcases h with h | ⟨h, h2⟩
    · exact ⟨by omega, .inl (by omega)⟩
    · exact ⟨by omega, .inr (ih h2)⟩
theorem ltL_tr : ∀ a b c : List Int, ltL b a = false → ltL c b = false → ltL c a = false
  | [], _, c, _, _ => by cases c <;> rfl
  | x :: xs, [], c, h, _ => by simp [ltL] at h
  | x :: xs, y :: ys, [], _, h2 => by simp [ltL] at h2
  | x :: xs, y :: ys, z :: zs, h, h2 => by
    have ih := ltL_tr xs ys zs
    simp only [ltL, Bool.or_eq_false_iff, Bool.and_eq_false_iff, decide_eq_false_iff_not] at h h2 ⊢
    refine ⟨by omega, ?_⟩
    by_cases e : z = x
    · have e1 : y = x := by omega
      subst e1 e
      exact .inr (ih (h.2.resolve_left (by simp)) (h2.2.resolve_left (by simp)))
    · exact .inl e
theorem ltL_tot : ∀ a b : List Int, ltL a b = false → ltL b a = false → a = b
  | [], [], _, _ => rfl
  | [], y :: ys, h, _ => by simp [ltL] at h
  | x :: xs, [], _, h => by simp [ltL] at h
  | x :: xs, y :: ys, h, h2 => by
    simp only [ltL, Bool.or_eq_false_iff, Bool.and_eq_false_iff, decide_eq_false_iff_not] at h h2
    have e : x = y := by omega
    subst e
    rw [ltL_tot xs ys (h.2.resolve_left (by simp)) (h2.2.resolve_left (by simp))]
theorem swoL (key : Value → List Int) : SrtO.Swo fun v u => ltL (key v) (key u) := ⟨fun x y h => ltL_asym _ _ h, fun x y z h1 h2 => ltL_tr _ _ _ h1 h2⟩
def keyVL (key : V → List Int) : Value → List Int
  | .ref t => key (.ref t)
  | _ => []
theorem IsTL.keep {h h' : Heap} {v : Value} {ns : List Int} {a : Addr} (w : IsTL h v ns) (na : ∀ l its, h.IsTuple l its → l ≠ a) (kp : ∀ b o, b ≠ a → h.get? b = some o → h'.get? b = some o) : IsTL h' v ns := by
  obtain ⟨l, its, e, t, i⟩ := w
  obtain ⟨o, h1, h2, n, h3⟩ := id t
  exact ⟨l, its, e, ⟨o, kp _ _ (na _ _ t) h1, h2, n, h3⟩, i⟩
theorem cr_sortedL {X : Cx} (hu : X.A.in1.in1.units < cLine) : CallR X (.builtin "sorted") (rSortedL X.K) := by
  intro pins s σ H xs us Q I r h
  obtain ⟨a, xs, key, rfl, hx, hk, q⟩ := h
  cases r with
  | cons c r =>
  cases r
  cases c
  obtain ⟨its, rv, pl, hz⟩ := I.list hx
  have refs : ∀ x ∈ xs, ∃ t, x = V.ref t := fun x hx => let ⟨t, e, _⟩ := hk x hx; ⟨t, e⟩
  have all : ∀ v ∈ its, IsTL s.heap v (keyVL key v) ∧ backV v ∈ xs := fun v hv => by
    obtain ⟨x, hx1, rx⟩ := vals_mem rv hv
    obtain ⟨t, rfl, h1⟩ := hk x hx1
    cases rx
    obtain ⟨its, r, p, _⟩ := I.tuple h1
    exact ⟨⟨t, its, rfl, p, Vals.ints r⟩, hx1⟩
  have keyb : ∀ v ∈ its, keyVL key v = key (backV v) := fun v hv => by
    obtain ⟨x, hx1, rx⟩ := vals_mem rv hv
    obtain ⟨t, rfl⟩ := refs x hx1
    cases rx
    rfl
  refine SrtO.sorted_ord (ltv := fun v u => ltL (keyVL key v) (keyVL key u)) (swoL (keyVL key)) pl.isList (by rw [← rv.length]; exact hz) (fun h2 h₁ a₁ g1 g2 => ?_) (fun out srt stb => ?_)
  · intro h' kp
    have W : ∀ v ∈ its, IsTL h' v (keyVL key v) := fun v hv => by
      refine (all v hv).1.keep (a := a₁) (fun l its2 t => ?_) fun b o nb e => kp b o nb (g2 b o e).2
      obtain ⟨o, n, e1, _, _⟩ := tup_get t
      exact (g2 l o e1).1
    obtain ⟨κ, hκ, kk⟩ := kind_l (prog := X.prog) (w := X.w) (A := X.A.in1.in1) (s := ⟨h', s.gens, s.drawn, s.toks, s.os⟩) (vs := its) (by omega) fun v hv => ⟨_, W v hv⟩
    refine ⟨κ, fun Q E q => kk Q E q, fun p u hp hu' => ?_⟩
    exact lt_l (s := ⟨h', s.gens, s.drawn, s.toks, s.os⟩) hκ (W p.1 hp) (W u.1 hu') hu ⟨rfl, rfl⟩
  · obtain ⟨e, he⟩ := sortedAll_at s.heap its out.toArray
    have pm := stb.perm
    have or_ : ∀ u ∈ out, ∃ t, u = Value.ref t := fun u hu => by
      obtain ⟨x, hx1, rx⟩ := vals_mem rv (pm.mem_iff.mp hu)
      obtain ⟨t, rfl⟩ := refs x hx1
      cases rx
      exact ⟨t, rfl⟩
    have ro := vals_back or_
    have py : (out.map backV).Perm xs := by
      have := pm.map backV
      rw [back_vals rv refs] at this
      exact this
    have new : H (s.heap.objs.size + 1) = none := I.hok.fresh (by omega)
    refine ⟨.ref (s.heap.objs.size + 1), _, I.laid (t' := s.toks) (o := .lst (out.map backV)) (fun b ob q => sortedAll_old q) (by omega) ?_, rfl, q (out.map backV) _ py ?_ new⟩
    · exact ⟨by rw [py.length_eq]; exact hz, out, _, ro, he⟩
    · refine List.pairwise_map.mpr (srt.imp_of_mem fun {x y} hx hy h => ?_)
      have mx := pm.mem_iff.mp hx
      have my := pm.mem_iff.mp hy
      rw [← keyb _ mx, ← keyb _ my]
      exact h
end GA
/-! ## KH -/
namespace Mine
open PySem L2 GA
def top (i : Nat) : Stmt := PySem.Challenge.pw_growalong_k48_whole_texts_there_and_back.main.body.getD i (.Pass ⟨0, 0, 0, 0⟩)
abbrev s_BadWeb_init : Stmt := inClass (top 2) 0
abbrev N_BadWeb_init : List Str := ["self", "part"]
abbrev P_BadWeb_init : List Str := ["self", "part"]
theorem sc_BadWeb_init : FnScope N_BadWeb_init P_BadWeb_init (defScope s_BadWeb_init) := ⟨rfl, rfl, rfl, by decide +kernel, rfl, by decide +kernel, by decide +kernel⟩
abbrev s_BadRecord_init : Stmt := inClass (top 3) 0
abbrev N_BadRecord_init : List Str := ["self", "part", "at"]
abbrev P_BadRecord_init : List Str := ["self", "part", "at"]
theorem sc_BadRecord_init : FnScope N_BadRecord_init P_BadRecord_init (defScope s_BadRecord_init) := ⟨rfl, rfl, rfl, by decide +kernel, rfl, by decide +kernel, by decide +kernel⟩
abbrev s_BadHall_init : Stmt := inClass (top 4) 0
abbrev N_BadHall_init : List Str := ["self", "part"]
abbrev P_BadHall_init : List Str := ["self", "part"]
theorem sc_BadHall_init : FnScope N_BadHall_init P_BadHall_init (defScope s_BadHall_init) := ⟨rfl, rfl, rfl, by decide +kernel, rfl, by decide +kernel, by decide +kernel⟩
abbrev s_BadText_init : Stmt := inClass (top 5) 0
abbrev N_BadText_init : List Str := ["self", "line"]
abbrev P_BadText_init : List Str := ["self", "line"]
theorem sc_BadText_init : FnScope N_BadText_init P_BadText_init (defScope s_BadText_init) := ⟨rfl, rfl, rfl, by decide +kernel, rfl, by decide +kernel, by decide +kernel⟩
abbrev s_is_integer : Stmt := top 7
abbrev N_is_integer : List Str := ["thing"]
abbrev P_is_integer : List Str := ["thing"]
theorem sc_is_integer : FnScope N_is_integer P_is_integer (defScope s_is_integer) := ⟨rfl, rfl, rfl, by decide +kernel, rfl, by decide +kernel, by decide +kernel⟩
abbrev s_is_between : Stmt := top 8
abbrev N_is_between : List Str := ["low", "high", "thing"]
abbrev P_is_between : List Str := ["low", "high", "thing"]
theorem sc_is_between : FnScope N_is_between P_is_between (defScope s_is_between) := ⟨rfl, rfl, rfl, by decide +kernel, rfl, by decide +kernel, by decide +kernel⟩
abbrev s_is_below : Stmt := top 9
abbrev N_is_below : List Str := ["bound", "thing"]
abbrev P_is_below : List Str := ["bound", "thing"]
theorem sc_is_below : FnScope N_is_below P_is_below (defScope s_is_below) := ⟨rfl, rfl, rfl, by decide +kernel, rfl, by decide +kernel, by decide +kernel⟩
abbrev s_is_tuple_of : Stmt := top 10
abbrev N_is_tuple_of : List Str := ["least", "most", "thing"]
abbrev P_is_tuple_of : List Str := ["least", "most", "thing"]
theorem sc_is_tuple_of : FnScope N_is_tuple_of P_is_tuple_of (defScope s_is_tuple_of) := ⟨rfl, rfl, rfl, by decide +kernel, rfl, by decide +kernel, by decide +kernel⟩
abbrev s_are_below : Stmt := top 11
abbrev N_are_below : List Str := ["bound", "things", "thing"]
abbrev P_are_below : List Str := ["bound", "things"]
theorem sc_are_below : FnScope N_are_below P_are_below (defScope s_are_below) := ⟨rfl, rfl, rfl, by decide +kernel, rfl, by decide +kernel, by decide +kernel⟩
abbrev s_is_unlike_pair : Stmt := top 12
abbrev N_is_unlike_pair : List Str := ["bound", "thing"]
abbrev P_is_unlike_pair : List Str := ["bound", "thing"]
theorem sc_is_unlike_pair : FnScope N_is_unlike_pair P_is_unlike_pair (defScope s_is_unlike_pair) := ⟨rfl, rfl, rfl, by decide +kernel, rfl, by decide +kernel, by decide +kernel⟩
abbrev s_are_ascending : Stmt := top 13
abbrev N_are_ascending : List Str := ["things", "one", "other"]
abbrev P_are_ascending : List Str := ["things"]
theorem sc_are_ascending : FnScope N_are_ascending P_are_ascending (defScope s_are_ascending) := ⟨rfl, rfl, rfl, by decide +kernel, rfl, by decide +kernel, by decide +kernel⟩
abbrev s_Web_init : Stmt := inClass (top 16) 0
abbrev N_Web_init : List Str := ["self", "machines", "wires", "at"]
abbrev P_Web_init : List Str := ["self", "machines", "wires"]
theorem sc_Web_init : FnScope N_Web_init P_Web_init (defScope s_Web_init) := ⟨rfl, rfl, rfl, by decide +kernel, rfl, by decide +kernel, by decide +kernel⟩
abbrev s_Web_eq : Stmt := inClass (top 16) 1
abbrev N_Web_eq : List Str := ["self", "other"]
abbrev P_Web_eq : List Str := ["self", "other"]
theorem sc_Web_eq : FnScope N_Web_eq P_Web_eq (defScope s_Web_eq) := ⟨rfl, rfl, rfl, by decide +kernel, rfl, by decide +kernel, by decide +kernel⟩
abbrev s_first_wrong_wire : Stmt := top 17
abbrev N_first_wrong_wire : List Str := ["machines", "wires", "at", "wire"]
abbrev P_first_wrong_wire : List Str := ["machines", "wires"]
theorem sc_first_wrong_wire : FnScope N_first_wrong_wire P_first_wrong_wire (defScope s_first_wrong_wire) := ⟨rfl, rfl, rfl, by decide +kernel, rfl, by decide +kernel, by decide +kernel⟩
abbrev s_ways_from : Stmt := top 18
abbrev N_ways_from : List Str := ["machine", "wires", "onward", "y", "x", "found", "queue", "at", "here"]
abbrev P_ways_from : List Str := ["machine", "wires"]
theorem sc_ways_from : FnScope N_ways_from P_ways_from (defScope s_ways_from) := ⟨rfl, rfl, rfl, by decide +kernel, rfl, by decide +kernel, by decide +kernel⟩
abbrev s_there_and_back : Stmt := top 19
abbrev N_there_and_back : List Str := ["pairs", "one", "other", "wire"]
abbrev P_there_and_back : List Str := ["pairs"]
theorem sc_there_and_back : FnScope N_there_and_back P_there_and_back (defScope s_there_and_back) := ⟨rfl, rfl, rfl, by decide +kernel, rfl, by decide +kernel, by decide +kernel⟩
abbrev s_Record_init : Stmt := inClass (top 22) 0
abbrev N_Record_init : List Str := ["self", "writers", "diaries"]
abbrev P_Record_init : List Str := ["self", "writers", "diaries"]
theorem sc_Record_init : FnScope N_Record_init P_Record_init (defScope s_Record_init) := ⟨rfl, rfl, rfl, by decide +kernel, rfl, by decide +kernel, by decide +kernel⟩
abbrev s_Record_eq : Stmt := inClass (top 22) 1
abbrev N_Record_eq : List Str := ["self", "other"]
abbrev P_Record_eq : List Str := ["self", "other"]
theorem sc_Record_eq : FnScope N_Record_eq P_Record_eq (defScope s_Record_eq) := ⟨rfl, rfl, rfl, by decide +kernel, rfl, by decide +kernel, by decide +kernel⟩
abbrev s_check_record : Stmt := top 23
abbrev N_check_record : List Str := ["writers", "diaries", "put", "writer", "machine", "diary"]
abbrev P_check_record : List Str := ["writers", "diaries"]
theorem sc_check_record : FnScope N_check_record P_check_record (defScope s_check_record) := ⟨rfl, rfl, rfl, by decide +kernel, rfl, by decide +kernel, by decide +kernel⟩
abbrev s_is_diary : Stmt := top 24
abbrev N_is_diary : List Str := ["puts", "thing"]
abbrev P_is_diary : List Str := ["puts", "thing"]
theorem sc_is_diary : FnScope N_is_diary P_is_diary (defScope s_is_diary) := ⟨rfl, rfl, rfl, by decide +kernel, rfl, by decide +kernel, by decide +kernel⟩
abbrev s_Hall_init : Stmt := inClass (top 28) 0
abbrev N_Hall_init : List Str := ["self", "links", "places"]
abbrev P_Hall_init : List Str := ["self", "links", "places"]
theorem sc_Hall_init : FnScope N_Hall_init P_Hall_init (defScope s_Hall_init) := ⟨rfl, rfl, rfl, by decide +kernel, rfl, by decide +kernel, by decide +kernel⟩
abbrev s_Hall_eq : Stmt := inClass (top 28) 1
abbrev N_Hall_eq : List Str := ["self", "other"]
abbrev P_Hall_eq : List Str := ["self", "other"]
theorem sc_Hall_eq : FnScope N_Hall_eq P_Hall_eq (defScope s_Hall_eq) := ⟨rfl, rfl, rfl, by decide +kernel, rfl, by decide +kernel, by decide +kernel⟩
abbrev s_check_hall : Stmt := top 29
abbrev N_check_hall : List Str := ["links", "places", "nodes", "machine", "place", "node"]
abbrev P_check_hall : List Str := ["links", "places"]
theorem sc_check_hall : FnScope N_check_hall P_check_hall (defScope s_check_hall) := ⟨rfl, rfl, rfl, by decide +kernel, rfl, by decide +kernel, by decide +kernel⟩
abbrev s_are_links : Stmt := top 30
abbrev N_are_links : List Str := ["thing", "nodes", "link"]
abbrev P_are_links : List Str := ["thing"]
theorem sc_are_links : FnScope N_are_links P_are_links (defScope s_are_links) := ⟨rfl, rfl, rfl, by decide +kernel, rfl, by decide +kernel, by decide +kernel⟩
abbrev s_neighbours_of : Stmt := top 31
abbrev N_neighbours_of : List Str := ["links", "node", "y", "x"]
abbrev P_neighbours_of : List Str := ["links", "node"]
theorem sc_neighbours_of : FnScope N_neighbours_of P_neighbours_of (defScope s_neighbours_of) := ⟨rfl, rfl, rfl, by decide +kernel, rfl, by decide +kernel, by decide +kernel⟩
abbrev s_nodes_beyond : Stmt := top 32
abbrev N_nodes_beyond : List Str := ["links", "node"]
abbrev P_nodes_beyond : List Str := ["links", "node"]
theorem sc_nodes_beyond : FnScope N_nodes_beyond P_nodes_beyond (defScope s_nodes_beyond) := ⟨rfl, rfl, rfl, by decide +kernel, rfl, by decide +kernel, by decide +kernel⟩
abbrev s_number_in : Stmt := top 35
abbrev N_number_in : List Str := ["word"]
abbrev P_number_in : List Str := ["word"]
theorem sc_number_in : FnScope N_number_in P_number_in (defScope s_number_in) := ⟨rfl, rfl, rfl, by decide +kernel, rfl, by decide +kernel, by decide +kernel⟩
abbrev s_numbers_in : Stmt := top 36
abbrev N_numbers_in : List Str := ["words", "numbers", "word"]
abbrev P_numbers_in : List Str := ["words"]
theorem sc_numbers_in : FnScope N_numbers_in P_numbers_in (defScope s_numbers_in) := ⟨rfl, rfl, rfl, by decide +kernel, rfl, by decide +kernel, by decide +kernel⟩
abbrev s_lines_in : Stmt := top 37
abbrev N_lines_in : List Str := ["text"]
abbrev P_lines_in : List Str := ["text"]
theorem sc_lines_in : FnScope N_lines_in P_lines_in (defScope s_lines_in) := ⟨rfl, rfl, rfl, by decide +kernel, rfl, by decide +kernel, by decide +kernel⟩
abbrev s_line_of : Stmt := top 38
abbrev N_line_of : List Str := ["words", "word"]
abbrev P_line_of : List Str := ["words"]
theorem sc_line_of : FnScope N_line_of P_line_of (defScope s_line_of) := ⟨rfl, rfl, rfl, by decide +kernel, rfl, by decide +kernel, by decide +kernel⟩
abbrev s_check_end : Stmt := top 39
abbrev N_check_end : List Str := ["lines"]
abbrev P_check_end : List Str := ["lines"]
theorem sc_check_end : FnScope N_check_end P_check_end (defScope s_check_end) := ⟨rfl, rfl, rfl, by decide +kernel, rfl, by decide +kernel, by decide +kernel⟩
abbrev s_text_of : Stmt := top 41
abbrev N_text_of : List Str := ["head", "numbers", "word", "rows", "row"]
abbrev P_text_of : List Str := ["head", "numbers", "word", "rows"]
theorem sc_text_of : FnScope N_text_of P_text_of (defScope s_text_of) := ⟨rfl, rfl, rfl, by decide +kernel, rfl, by decide +kernel, by decide +kernel⟩
abbrev s_web_text : Stmt := top 42
abbrev N_web_text : List Str := ["web"]
abbrev P_web_text : List Str := ["web"]
theorem sc_web_text : FnScope N_web_text P_web_text (defScope s_web_text) := ⟨rfl, rfl, rfl, by decide +kernel, rfl, by decide +kernel, by decide +kernel⟩
abbrev s_record_text : Stmt := top 43
abbrev N_record_text : List Str := ["record"]
abbrev P_record_text : List Str := ["record"]
theorem sc_record_text : FnScope N_record_text P_record_text (defScope s_record_text) := ⟨rfl, rfl, rfl, by decide +kernel, rfl, by decide +kernel, by decide +kernel⟩
abbrev s_hall_text : Stmt := top 44
abbrev N_hall_text : List Str := ["hall"]
abbrev P_hall_text : List Str := ["hall"]
theorem sc_hall_text : FnScope N_hall_text P_hall_text (defScope s_hall_text) := ⟨rfl, rfl, rfl, by decide +kernel, rfl, by decide +kernel, by decide +kernel⟩
abbrev s_numbers_by_line : Stmt := top 45
abbrev N_numbers_by_line : List Str := ["text", "first", "other", "lines", "found", "at", "line", "numbers"]
abbrev P_numbers_by_line : List Str := ["text", "first", "other"]
theorem sc_numbers_by_line : FnScope N_numbers_by_line P_numbers_by_line (defScope s_numbers_by_line) := ⟨rfl, rfl, rfl, by decide +kernel, rfl, by decide +kernel, by decide +kernel⟩
abbrev s_numbers_behind : Stmt := top 46
abbrev N_numbers_behind : List Str := ["form", "words", "word", "many", "numbers"]
abbrev P_numbers_behind : List Str := ["form", "words"]
theorem sc_numbers_behind : FnScope N_numbers_behind P_numbers_behind (defScope s_numbers_behind) := ⟨rfl, rfl, rfl, by decide +kernel, rfl, by decide +kernel, by decide +kernel⟩
abbrev s_read_web : Stmt := top 47
abbrev N_read_web : List Str := ["text", "found"]
abbrev P_read_web : List Str := ["text"]
theorem sc_read_web : FnScope N_read_web P_read_web (defScope s_read_web) := ⟨rfl, rfl, rfl, by decide +kernel, rfl, by decide +kernel, by decide +kernel⟩
abbrev s_read_record : Stmt := top 48
abbrev N_read_record : List Str := ["text", "found"]
abbrev P_read_record : List Str := ["text"]
theorem sc_read_record : FnScope N_read_record P_read_record (defScope s_read_record) := ⟨rfl, rfl, rfl, by decide +kernel, rfl, by decide +kernel, by decide +kernel⟩
abbrev s_read_hall : Stmt := top 49
abbrev N_read_hall : List Str := ["text", "found"]
abbrev P_read_hall : List Str := ["text"]
theorem sc_read_hall : FnScope N_read_hall P_read_hall (defScope s_read_hall) := ⟨rfl, rfl, rfl, by decide +kernel, rfl, by decide +kernel, by decide +kernel⟩
abbrev s__law_hand : Stmt := top 51
abbrev N__law_hand : List Str := ["_law_script", "_law_cells", "_law_cell"]
abbrev P__law_hand : List Str := ["_law_script"]
theorem sc__law_hand : FnScope N__law_hand P__law_hand (defScope s__law_hand) := ⟨rfl, rfl, rfl, by decide +kernel, rfl, by decide +kernel, by decide +kernel⟩
abbrev s__law_draw : Stmt := top 52
abbrev N__law_draw : List Str := ["_law_hand_here", "_law_many", "_law_cell", "_law_digit", "_law_number"]
abbrev P__law_draw : List Str := ["_law_hand_here", "_law_many"]
theorem sc__law_draw : FnScope N__law_draw P__law_draw (defScope s__law_draw) := ⟨rfl, rfl, rfl, by decide +kernel, rfl, by decide +kernel, by decide +kernel⟩
abbrev s__law_wires : Stmt := top 53
abbrev N__law_wires : List Str := ["_law_hand_here", "_law_machines", "_law_share", "_law_found", "_law_y", "_law_x"]
abbrev P__law_wires : List Str := ["_law_hand_here", "_law_machines", "_law_share"]
theorem sc__law_wires : FnScope N__law_wires P__law_wires (defScope s__law_wires) := ⟨rfl, rfl, rfl, by decide +kernel, rfl, by decide +kernel, by decide +kernel⟩
abbrev s__law_web : Stmt := top 54
abbrev N__law_web : List Str := ["_law_hand_here", "_law_most", "_law_machines"]
abbrev P__law_web : List Str := ["_law_hand_here", "_law_most"]
theorem sc__law_web : FnScope N__law_web P__law_web (defScope s__law_web) := ⟨rfl, rfl, rfl, by decide +kernel, rfl, by decide +kernel, by decide +kernel⟩
abbrev s__law_lines : Stmt := top 55
abbrev N__law_lines : List Str := ["_law_rows", "_law_row", "_law_word"]
abbrev P__law_lines : List Str := ["_law_rows"]
theorem sc__law_lines : FnScope N__law_lines P__law_lines (defScope s__law_lines) := ⟨rfl, rfl, rfl, by decide +kernel, rfl, by decide +kernel, by decide +kernel⟩
abbrev s__law_is : Stmt := top 56
abbrev N__law_is : List Str := ["_law_told", "_law_due", "_law_one", "_law_two"]
abbrev P__law_is : List Str := ["_law_told", "_law_due"]
theorem sc__law_is : FnScope N__law_is P__law_is (defScope s__law_is) := ⟨rfl, rfl, rfl, by decide +kernel, rfl, by decide +kernel, by decide +kernel⟩
abbrev s__law_shuffled : Stmt := top 57
abbrev N__law_shuffled : List Str := ["_law_hand_here", "_law_things", "_law_left", "_law_found"]
abbrev P__law_shuffled : List Str := ["_law_hand_here", "_law_things"]
theorem sc__law_shuffled : FnScope N__law_shuffled P__law_shuffled (defScope s__law_shuffled) := ⟨rfl, rfl, rfl, by decide +kernel, rfl, by decide +kernel, by decide +kernel⟩
abbrev s__law_some_record : Stmt := top 58
abbrev N__law_some_record : List Str := ["_law_hand_here", "_law_machines", "_law_writers", "_law_diaries", "_law_x", "_law_some", "_law_put"]
abbrev P__law_some_record : List Str := ["_law_hand_here"]
theorem sc__law_some_record : FnScope N__law_some_record P__law_some_record (defScope s__law_some_record) := ⟨rfl, rfl, rfl, by decide +kernel, rfl, by decide +kernel, by decide +kernel⟩
abbrev s__law_hall : Stmt := top 59
abbrev N__law_hall : List Str := ["_law_hand_here", "_law_nodes", "_law_links", "_law_ends", "_law_one", "_law_other", "_law_places", "_law_turn", "_law_names", "_law_node", "_law_link"]
abbrev P__law_hall : List Str := ["_law_hand_here"]
theorem sc__law_hall : FnScope N__law_hall P__law_hall (defScope s__law_hall) := ⟨rfl, rfl, rfl, by decide +kernel, rfl, by decide +kernel, by decide +kernel⟩
abbrev s_law : Stmt := top 60
abbrev N_law : List Str := ["_law_script", "_law_hand_here", "_law_turn", "_law_machines", "_law_wires_here", "_law_web_here", "_law_due", "_law_writers", "_law_diaries", "_law_record", "_law_links", "_law_places", "_law_hall_here", "_law_wire", "_law_diary", "_law_link"]
abbrev P_law : List Str := ["_law_script"]
theorem sc_law : FnScope N_law P_law (defScope s_law) := ⟨rfl, rfl, rfl, by decide +kernel, rfl, by decide +kernel, by decide +kernel⟩
structure Ads where
  f_BadHall_init : Addr
  d_BadHall_init : FuncData
  f_is_integer : Addr
  d_is_integer : FuncData
  f_is_between : Addr
  d_is_between : FuncData
  f_is_below : Addr
  d_is_below : FuncData
  f_is_tuple_of : Addr
  d_is_tuple_of : FuncData
  f_are_below : Addr
  d_are_below : FuncData
  f_is_unlike_pair : Addr
  d_is_unlike_pair : FuncData
  f_are_ascending : Addr
  d_are_ascending : FuncData
  f_Web_init : Addr
  d_Web_init : FuncData
  f_Web_eq : Addr
  d_Web_eq : FuncData
  f_first_wrong_wire : Addr
  d_first_wrong_wire : FuncData
  f_ways_from : Addr
  d_ways_from : FuncData
  f_there_and_back : Addr
  d_there_and_back : FuncData
  f_Record_init : Addr
  d_Record_init : FuncData
  f_Record_eq : Addr
  d_Record_eq : FuncData
  f_check_record : Addr
  d_check_record : FuncData
  f_is_diary : Addr
  d_is_diary : FuncData
  f_Hall_init : Addr
  d_Hall_init : FuncData
  f_Hall_eq : Addr
  d_Hall_eq : FuncData
  f_check_hall : Addr
  d_check_hall : FuncData
  f_are_links : Addr
  d_are_links : FuncData
  f_neighbours_of : Addr
  d_neighbours_of : FuncData
  f_nodes_beyond : Addr
  d_nodes_beyond : FuncData
  f_number_in : Addr
  d_number_in : FuncData
  f_numbers_in : Addr
  d_numbers_in : FuncData
  f_lines_in : Addr
  d_lines_in : FuncData
  f_line_of : Addr
  d_line_of : FuncData
  f_check_end : Addr
  d_check_end : FuncData
  f_text_of : Addr
  d_text_of : FuncData
  f_web_text : Addr
  d_web_text : FuncData
  f_record_text : Addr
  d_record_text : FuncData
  f_hall_text : Addr
  d_hall_text : FuncData
  f_numbers_by_line : Addr
  d_numbers_by_line : FuncData
  f_numbers_behind : Addr
  d_numbers_behind : FuncData
  f_read_web : Addr
  d_read_web : FuncData
  f_read_record : Addr
  d_read_record : FuncData
  f_read_hall : Addr
  d_read_hall : FuncData
  f__law_hand : Addr
  d__law_hand : FuncData
  f__law_draw : Addr
  d__law_draw : FuncData
  f__law_wires : Addr
  d__law_wires : FuncData
  f__law_web : Addr
  d__law_web : FuncData
  f__law_lines : Addr
  d__law_lines : FuncData
  f__law_is : Addr
  d__law_is : FuncData
  f__law_shuffled : Addr
  d__law_shuffled : FuncData
  f__law_some_record : Addr
  d__law_some_record : FuncData
  f__law_hall : Addr
  d__law_hall : FuncData
  f_law : Addr
  d_law : FuncData
  c_GrowError : Addr
  c_BadWeb : Addr
  c_BadRecord : Addr
  c_BadHall : Addr
  c_BadText : Addr
  c_Web : Addr
  c_Record : Addr
  c_Hall : Addr
  t_MOST_MACHINES : Tok
  t_MOST_PUTS : Tok
  t_MOST_LINKS : Tok
  t_LEAST_BRANCHES : Tok
  t_MOST_FIGURES : Tok
structure Txt (K : PySem.W.Frag) (mg : Str → Option Value) (a : Ads) : Prop where
  F_BadHall_init : Fun K "__init__" "BadHall.__init__" s_BadHall_init a.f_BadHall_init a.d_BadHall_init
  b_BadHall_init : Binds K a.d_BadHall_init P_BadHall_init []
  F_is_integer : Fun K "is_integer" "is_integer" s_is_integer a.f_is_integer a.d_is_integer
  b_is_integer : Binds K a.d_is_integer P_is_integer []
  m_is_integer : mg "is_integer" = some (.ref a.f_is_integer)
  F_is_between : Fun K "is_between" "is_between" s_is_between a.f_is_between a.d_is_between
  b_is_between : Binds K a.d_is_between P_is_between []
  m_is_between : mg "is_between" = some (.ref a.f_is_between)
  F_is_below : Fun K "is_below" "is_below" s_is_below a.f_is_below a.d_is_below
  b_is_below : Binds K a.d_is_below P_is_below []
  m_is_below : mg "is_below" = some (.ref a.f_is_below)
  F_is_tuple_of : Fun K "is_tuple_of" "is_tuple_of" s_is_tuple_of a.f_is_tuple_of a.d_is_tuple_of
  b_is_tuple_of : Binds K a.d_is_tuple_of P_is_tuple_of []
  m_is_tuple_of : mg "is_tuple_of" = some (.ref a.f_is_tuple_of)
  F_are_below : Fun K "are_below" "are_below" s_are_below a.f_are_below a.d_are_below
  b_are_below : Binds K a.d_are_below P_are_below []
  m_are_below : mg "are_below" = some (.ref a.f_are_below)
  F_is_unlike_pair : Fun K "is_unlike_pair" "is_unlike_pair" s_is_unlike_pair a.f_is_unlike_pair a.d_is_unlike_pair
  b_is_unlike_pair : Binds K a.d_is_unlike_pair P_is_unlike_pair []
  m_is_unlike_pair : mg "is_unlike_pair" = some (.ref a.f_is_unlike_pair)
  F_are_ascending : Fun K "are_ascending" "are_ascending" s_are_ascending a.f_are_ascending a.d_are_ascending
  b_are_ascending : Binds K a.d_are_ascending P_are_ascending []
  m_are_ascending : mg "are_ascending" = some (.ref a.f_are_ascending)
  F_Web_init : Fun K "__init__" "Web.__init__" s_Web_init a.f_Web_init a.d_Web_init
  b_Web_init : Binds K a.d_Web_init P_Web_init []
  F_Web_eq : Fun K "__eq__" "Web.__eq__" s_Web_eq a.f_Web_eq a.d_Web_eq
  b_Web_eq : Binds K a.d_Web_eq P_Web_eq []
  F_first_wrong_wire : Fun K "first_wrong_wire" "first_wrong_wire" s_first_wrong_wire a.f_first_wrong_wire a.d_first_wrong_wire
  b_first_wrong_wire : Binds K a.d_first_wrong_wire P_first_wrong_wire []
  m_first_wrong_wire : mg "first_wrong_wire" = some (.ref a.f_first_wrong_wire)
  F_ways_from : Fun K "ways_from" "ways_from" s_ways_from a.f_ways_from a.d_ways_from
  b_ways_from : Binds K a.d_ways_from P_ways_from []
  m_ways_from : mg "ways_from" = some (.ref a.f_ways_from)
  F_there_and_back : Fun K "there_and_back" "there_and_back" s_there_and_back a.f_there_and_back a.d_there_and_back
  b_there_and_back : Binds K a.d_there_and_back P_there_and_back []
  m_there_and_back : mg "there_and_back" = some (.ref a.f_there_and_back)
  F_Record_init : Fun K "__init__" "Record.__init__" s_Record_init a.f_Record_init a.d_Record_init
  b_Record_init : Binds K a.d_Record_init P_Record_init []
  F_Record_eq : Fun K "__eq__" "Record.__eq__" s_Record_eq a.f_Record_eq a.d_Record_eq
  b_Record_eq : Binds K a.d_Record_eq P_Record_eq []
  F_check_record : Fun K "check_record" "check_record" s_check_record a.f_check_record a.d_check_record
  b_check_record : Binds K a.d_check_record P_check_record []
  m_check_record : mg "check_record" = some (.ref a.f_check_record)
  F_is_diary : Fun K "is_diary" "is_diary" s_is_diary a.f_is_diary a.d_is_diary
  b_is_diary : Binds K a.d_is_diary P_is_diary []
  m_is_diary : mg "is_diary" = some (.ref a.f_is_diary)
  F_Hall_init : Fun K "__init__" "Hall.__init__" s_Hall_init a.f_Hall_init a.d_Hall_init
  b_Hall_init : Binds K a.d_Hall_init P_Hall_init []
  F_Hall_eq : Fun K "__eq__" "Hall.__eq__" s_Hall_eq a.f_Hall_eq a.d_Hall_eq
  b_Hall_eq : Binds K a.d_Hall_eq P_Hall_eq []
  F_check_hall : Fun K "check_hall" "check_hall" s_check_hall a.f_check_hall a.d_check_hall
  b_check_hall : Binds K a.d_check_hall P_check_hall []
  m_check_hall : mg "check_hall" = some (.ref a.f_check_hall)
  F_are_links : Fun K "are_links" "are_links" s_are_links a.f_are_links a.d_are_links
  b_are_links : Binds K a.d_are_links P_are_links []
  m_are_links : mg "are_links" = some (.ref a.f_are_links)
  F_neighbours_of : Fun K "neighbours_of" "neighbours_of" s_neighbours_of a.f_neighbours_of a.d_neighbours_of
  b_neighbours_of : Binds K a.d_neighbours_of P_neighbours_of []
  m_neighbours_of : mg "neighbours_of" = some (.ref a.f_neighbours_of)
  F_nodes_beyond : Fun K "nodes_beyond" "nodes_beyond" s_nodes_beyond a.f_nodes_beyond a.d_nodes_beyond
  b_nodes_beyond : Binds K a.d_nodes_beyond P_nodes_beyond []
  m_nodes_beyond : mg "nodes_beyond" = some (.ref a.f_nodes_beyond)
  F_number_in : Fun K "number_in" "number_in" s_number_in a.f_number_in a.d_number_in
  b_number_in : Binds K a.d_number_in P_number_in []
  m_number_in : mg "number_in" = some (.ref a.f_number_in)
  F_numbers_in : Fun K "numbers_in" "numbers_in" s_numbers_in a.f_numbers_in a.d_numbers_in
  b_numbers_in : Binds K a.d_numbers_in P_numbers_in []
  m_numbers_in : mg "numbers_in" = some (.ref a.f_numbers_in)
  F_lines_in : Fun K "lines_in" "lines_in" s_lines_in a.f_lines_in a.d_lines_in
  b_lines_in : Binds K a.d_lines_in P_lines_in []
  m_lines_in : mg "lines_in" = some (.ref a.f_lines_in)
  F_line_of : Fun K "line_of" "line_of" s_line_of a.f_line_of a.d_line_of
  b_line_of : Binds K a.d_line_of P_line_of []
  m_line_of : mg "line_of" = some (.ref a.f_line_of)
  F_check_end : Fun K "check_end" "check_end" s_check_end a.f_check_end a.d_check_end
  b_check_end : Binds K a.d_check_end P_check_end []
  m_check_end : mg "check_end" = some (.ref a.f_check_end)
  F_text_of : Fun K "text_of" "text_of" s_text_of a.f_text_of a.d_text_of
  b_text_of : Binds K a.d_text_of P_text_of []
  m_text_of : mg "text_of" = some (.ref a.f_text_of)
  F_web_text : Fun K "web_text" "web_text" s_web_text a.f_web_text a.d_web_text
  b_web_text : Binds K a.d_web_text P_web_text []
  m_web_text : mg "web_text" = some (.ref a.f_web_text)
  F_record_text : Fun K "record_text" "record_text" s_record_text a.f_record_text a.d_record_text
  b_record_text : Binds K a.d_record_text P_record_text []
  m_record_text : mg "record_text" = some (.ref a.f_record_text)
  F_hall_text : Fun K "hall_text" "hall_text" s_hall_text a.f_hall_text a.d_hall_text
  b_hall_text : Binds K a.d_hall_text P_hall_text []
  m_hall_text : mg "hall_text" = some (.ref a.f_hall_text)
  F_numbers_by_line : Fun K "numbers_by_line" "numbers_by_line" s_numbers_by_line a.f_numbers_by_line a.d_numbers_by_line
  b_numbers_by_line : Binds K a.d_numbers_by_line P_numbers_by_line []
  m_numbers_by_line : mg "numbers_by_line" = some (.ref a.f_numbers_by_line)
  F_numbers_behind : Fun K "numbers_behind" "numbers_behind" s_numbers_behind a.f_numbers_behind a.d_numbers_behind
  b_numbers_behind : Binds K a.d_numbers_behind P_numbers_behind []
  m_numbers_behind : mg "numbers_behind" = some (.ref a.f_numbers_behind)
  F_read_web : Fun K "read_web" "read_web" s_read_web a.f_read_web a.d_read_web
  b_read_web : Binds K a.d_read_web P_read_web []
  m_read_web : mg "read_web" = some (.ref a.f_read_web)
  F_read_record : Fun K "read_record" "read_record" s_read_record a.f_read_record a.d_read_record
  b_read_record : Binds K a.d_read_record P_read_record []
  m_read_record : mg "read_record" = some (.ref a.f_read_record)
  F_read_hall : Fun K "read_hall" "read_hall" s_read_hall a.f_read_hall a.d_read_hall
  b_read_hall : Binds K a.d_read_hall P_read_hall []
  m_read_hall : mg "read_hall" = some (.ref a.f_read_hall)
  F__law_hand : Fun K "_law_hand" "_law_hand" s__law_hand a.f__law_hand a.d__law_hand
  b__law_hand : Binds K a.d__law_hand P__law_hand []
  m__law_hand : mg "_law_hand" = some (.ref a.f__law_hand)
  F__law_draw : Fun K "_law_draw" "_law_draw" s__law_draw a.f__law_draw a.d__law_draw
  b__law_draw : Binds K a.d__law_draw P__law_draw []
  m__law_draw : mg "_law_draw" = some (.ref a.f__law_draw)
  F__law_wires : Fun K "_law_wires" "_law_wires" s__law_wires a.f__law_wires a.d__law_wires
  b__law_wires : Binds K a.d__law_wires P__law_wires []
  m__law_wires : mg "_law_wires" = some (.ref a.f__law_wires)
  F__law_web : Fun K "_law_web" "_law_web" s__law_web a.f__law_web a.d__law_web
  b__law_web : Binds K a.d__law_web P__law_web []
  m__law_web : mg "_law_web" = some (.ref a.f__law_web)
  F__law_lines : Fun K "_law_lines" "_law_lines" s__law_lines a.f__law_lines a.d__law_lines
  b__law_lines : Binds K a.d__law_lines P__law_lines []
  m__law_lines : mg "_law_lines" = some (.ref a.f__law_lines)
  F__law_is : Fun K "_law_is" "_law_is" s__law_is a.f__law_is a.d__law_is
  b__law_is : Binds K a.d__law_is P__law_is []
  m__law_is : mg "_law_is" = some (.ref a.f__law_is)
  F__law_shuffled : Fun K "_law_shuffled" "_law_shuffled" s__law_shuffled a.f__law_shuffled a.d__law_shuffled
  b__law_shuffled : Binds K a.d__law_shuffled P__law_shuffled []
  m__law_shuffled : mg "_law_shuffled" = some (.ref a.f__law_shuffled)
  F__law_some_record : Fun K "_law_some_record" "_law_some_record" s__law_some_record a.f__law_some_record a.d__law_some_record
  b__law_some_record : Binds K a.d__law_some_record P__law_some_record []
  m__law_some_record : mg "_law_some_record" = some (.ref a.f__law_some_record)
  F__law_hall : Fun K "_law_hall" "_law_hall" s__law_hall a.f__law_hall a.d__law_hall
  b__law_hall : Binds K a.d__law_hall P__law_hall []
  m__law_hall : mg "_law_hall" = some (.ref a.f__law_hall)
  F_law : Fun K "law" "law" s_law a.f_law a.d_law
  b_law : Binds K a.d_law P_law []
  m_law : mg "law" = some (.ref a.f_law)
  m_GrowError : mg "GrowError" = some (.ref a.c_GrowError)
  m_BadWeb : mg "BadWeb" = some (.ref a.c_BadWeb)
  m_BadRecord : mg "BadRecord" = some (.ref a.c_BadRecord)
  m_BadHall : mg "BadHall" = some (.ref a.c_BadHall)
  m_BadText : mg "BadText" = some (.ref a.c_BadText)
  m_Web : mg "Web" = some (.ref a.c_Web)
  m_Record : mg "Record" = some (.ref a.c_Record)
  m_Hall : mg "Hall" = some (.ref a.c_Hall)
  cl_Web : Cls K a.c_Web
  K_Web : Mk K a.c_Web a.f_Web_init
  ic_Web : C8.InsC K a.c_Web
  eqf_Web : PySem.W.findIn K (.ref a.c_Web) "__eq__" = some (some (.ref a.f_Web_eq))
  eqi_Web : PySem.W.isFn K (.ref a.f_Web_eq) = true
  ne_Web : PySem.W.findIn K (.ref a.c_Web) "__ne__" = some (some (.builtin "object.__ne__"))
  na_Web_machines : NoAttr K a.c_Web "machines"
  na_Web_wires : NoAttr K a.c_Web "wires"
  cl_Record : Cls K a.c_Record
  K_Record : Mk K a.c_Record a.f_Record_init
  ic_Record : C8.InsC K a.c_Record
  eqf_Record : PySem.W.findIn K (.ref a.c_Record) "__eq__" = some (some (.ref a.f_Record_eq))
  eqi_Record : PySem.W.isFn K (.ref a.f_Record_eq) = true
  ne_Record : PySem.W.findIn K (.ref a.c_Record) "__ne__" = some (some (.builtin "object.__ne__"))
  na_Record_writers : NoAttr K a.c_Record "writers"
  na_Record_diaries : NoAttr K a.c_Record "diaries"
  cl_Hall : Cls K a.c_Hall
  K_Hall : Mk K a.c_Hall a.f_Hall_init
  ic_Hall : C8.InsC K a.c_Hall
  eqf_Hall : PySem.W.findIn K (.ref a.c_Hall) "__eq__" = some (some (.ref a.f_Hall_eq))
  eqi_Hall : PySem.W.isFn K (.ref a.f_Hall_eq) = true
  ne_Hall : PySem.W.findIn K (.ref a.c_Hall) "__ne__" = some (some (.builtin "object.__ne__"))
  na_Hall_links : NoAttr K a.c_Hall "links"
  na_Hall_places : NoAttr K a.c_Hall "places"
  ox : OexC K a.c_BadHall
  xi : PySem.W.findIn K (.ref a.c_BadHall) "__init__" = some (some (.ref a.f_BadHall_init))
  xt : PySem.W.typeIn K (.ref a.f_BadHall_init) = some (.type "function")
  xf : XfC K a.c_BadHall
  xp : PySem.W.findIn K (.ref a.c_BadHall) "part" = some none
  xc : ExcC K a.c_BadHall
  xm : PySem.W.exmOne K (.ref a.c_BadHall) (.ref a.c_GrowError) = some true
  xs : PySem.W.kitOne K (.ref a.c_BadHall) (.ref a.c_BadHall) = some true
  xw : PySem.W.kitOne K (.ref a.c_BadHall) (.ref a.c_BadWeb) = some false
  xr : PySem.W.kitOne K (.ref a.c_BadHall) (.ref a.c_BadRecord) = some false
  ik : InsK K a.c_Hall
  wt : PySem.W.typeIn K (.ref a.c_Hall) = some (.type "type")
  m_MOST_MACHINES : mg "MOST_MACHINES" = some (.int 7 a.t_MOST_MACHINES)
  m_MOST_PUTS : mg "MOST_PUTS" = some (.int 30 a.t_MOST_PUTS)
  m_MOST_LINKS : mg "MOST_LINKS" = some (.int 11 a.t_MOST_LINKS)
  m_LEAST_BRANCHES : mg "LEAST_BRANCHES" = some (.int 3 a.t_LEAST_BRANCHES)
  m_MOST_FIGURES : mg "MOST_FIGURES" = some (.int 9 a.t_MOST_FIGURES)
  n_isinstance : mg "isinstance" = none
  n_int : mg "int" = none
  n_bool : mg "bool" = none
  n_tuple : mg "tuple" = none
  n_len : mg "len" = none
  n_all : mg "all" = none
  n_zip : mg "zip" = none
  n_enumerate : mg "enumerate" = none
  n_set : mg "set" = none
  n_range : mg "range" = none
  n_sorted : mg "sorted" = none
  n_str : mg "str" = none
  n_list : mg "list" = none
  n_abs : mg "abs" = none
  n_min : mg "min" = none
  n_max : mg "max" = none
end Mine
/-! ## K1 -/
section
open PySem L2 GA
local macro_rules
  | `(tactic| walk_at "w") => `(tactic| first
    | ((with_reducible refine' GA.w_var ?e ?_); (case e => exact rfl))
    | (with_reducible refine' GA.w_c ?_)
    | (with_reducible refine' GA.w_cons ?_)
    | (with_reducible refine' GA.w_nil ?_)
    | (with_reducible refine' GA.w_op ?_)
    | (with_reducible refine' GA.r_I0 ?_)
    | (with_reducible refine' GA.w_bl ?_)
    | (with_reducible refine' GA.w_seq ?_)
    | (with_reducible refine' GA.w_set ?_)
    | (with_reducible refine' GA.w_ret ?_)
    | (with_reducible refine' GA.w_ifS ?_)
    | (with_reducible refine' GA.w_test ?_)
    | (with_reducible refine' GA.w_tB ?_)
    | (with_reducible refine' GA.w_not ?_)
    | (with_reducible refine' GA.w_and ?_)
    | (with_reducible refine' GA.w_or ?_)
    | (with_reducible refine' GA.w_andV ?_)
    | (with_reducible refine' GA.w_orV ?_)
    | (with_reducible refine' GA.w_notV ?_)
    | (with_reducible refine' GA.w_blc ?_)
    | (with_reducible refine' GA.w_if ?_)
    | (with_reducible refine' GA.w_CB ?_)
    | (with_reducible refine' GA.w_call ?_)
    | (with_reducible refine' GA.w_tupN ?_)
    | (with_reducible refine' GA.w_lstN ?_)
    | (with_reducible refine' GA.w_chain ?_)
    | (with_reducible refine' GA.w_drop ?_)
    | (with_reducible refine' GA.w_next ?_)
    | (with_reducible refine' GA.w_break ?_)
    | (with_reducible refine' GA.w_un ?_)
    | (with_reducible refine' GA.r_U ?_)
    | (with_reducible refine' GA.r_eqI ?_)
    | (with_reducible refine' GA.r_neI ?_)
    | (with_reducible refine' GA.r_eqB ?_)
    | (with_reducible refine' GA.r_neB ?_)
    | (with_reducible refine' GA.w_fld ?_)
    | (with_reducible refine' GA.w_sfld ?_)
    | (with_reducible refine' GA.w_sl ?_)
    | (with_reducible refine' GA.w_part ?_)
    | (with_reducible refine' GA.w_noPart ?_)
    | (with_reducible refine' GA.w_inti ?_)
    | (with_reducible refine' GA.w_retN ?_)
    | (with_reducible refine' GA.w_gsub ?_)
    | (with_reducible refine' GA.w_gname ?_)
    | (with_reducible refine' L2.iteT ?_)
    | (with_reducible refine' L2.iteF ?_)
    | (with_reducible refine' GA.w_nt ?_)
    | (with_reducible refine' GA.w_nf ?_)
    | (with_reducible refine' GA.w_isN ?_)
    | (with_reducible refine' GA.w_notN ?_)
    | (with_reducible refine' GA.w_yes ?_)
    | (with_reducible refine' GA.w_lc ?_)
    | (with_reducible refine' GA.w_lc2 ?_)
    | (with_reducible refine' GA.w_iseq ?_)
    | (with_reducible refine' GA.w_make ?_)
    | (with_reducible refine' GA.w_for ?_)
    | (with_reducible refine' GA.w_rng1 ?_)
    | (with_reducible refine' GA.w_rng2 ?_)
    | (with_reducible refine' GA.w_itup ?_)
    | (with_reducible refine' GA.w_ilist ?_)
    | (with_reducible refine' GA.w_ienum ?_)
    | (with_reducible refine' GA.w_BM ?_)
    | (with_reducible refine' GA.w_BM0 ?_)
    | (with_reducible refine' GA.w_izip ?_)
    | (with_reducible refine' GA.w_asg ?_))
  | `(tactic| walk_at "wm") => `(tactic| first
    | ((with_reducible refine' GA.w_var ?e ?_); (case e => exact rfl))
    | (with_reducible refine' GA.w_c ?_)
    | (with_reducible refine' GA.w_cons ?_)
    | (with_reducible refine' GA.w_nil ?_)
    | (with_reducible refine' GA.w_op ?_)
    | (with_reducible refine' GA.r_I0 ?_)
    | (with_reducible refine' GA.w_bl ?_)
    | (with_reducible refine' GA.w_set ?_)
    | (with_reducible refine' GA.w_ret ?_)
    | (with_reducible refine' GA.w_ifS ?_)
    | (with_reducible refine' GA.w_test ?_)
    | (with_reducible refine' GA.w_tB ?_)
    | (with_reducible refine' GA.w_not ?_)
    | (with_reducible refine' GA.w_and ?_)
    | (with_reducible refine' GA.w_or ?_)
    | (with_reducible refine' GA.w_andV ?_)
    | (with_reducible refine' GA.w_orV ?_)
    | (with_reducible refine' GA.w_notV ?_)
    | (with_reducible refine' GA.w_blc ?_)
    | (with_reducible refine' GA.w_if ?_)
    | (with_reducible refine' GA.w_CB ?_)
    | (with_reducible refine' GA.w_call ?_)
    | (with_reducible refine' GA.w_tupN ?_)
    | (with_reducible refine' GA.w_lstN ?_)
    | (with_reducible refine' GA.w_chain ?_)
    | (with_reducible refine' GA.w_drop ?_)
    | (with_reducible refine' GA.w_next ?_)
    | (with_reducible refine' GA.w_break ?_)
    | (with_reducible refine' GA.w_un ?_)
    | (with_reducible refine' GA.r_U ?_)
    | (with_reducible refine' GA.r_eqI ?_)
    | (with_reducible refine' GA.r_neI ?_)
    | (with_reducible refine' GA.r_eqB ?_)
    | (with_reducible refine' GA.r_neB ?_)
    | (with_reducible refine' GA.w_fld ?_)
    | (with_reducible refine' GA.w_sfld ?_)
    | (with_reducible refine' GA.w_sl ?_)
    | (with_reducible refine' GA.w_part ?_)
    | (with_reducible refine' GA.w_noPart ?_)
    | (with_reducible refine' GA.w_inti ?_)
    | (with_reducible refine' GA.w_retN ?_)
    | (with_reducible refine' GA.w_gsub ?_)
    | (with_reducible refine' GA.w_gname ?_)
    | (with_reducible refine' L2.iteT ?_)
    | (with_reducible refine' L2.iteF ?_)
    | (with_reducible refine' GA.w_nt ?_)
    | (with_reducible refine' GA.w_nf ?_)
    | (with_reducible refine' GA.w_isN ?_)
    | (with_reducible refine' GA.w_notN ?_)
    | (with_reducible refine' GA.w_yes ?_)
    | (with_reducible refine' GA.w_lc ?_)
    | (with_reducible refine' GA.w_lc2 ?_)
    | (with_reducible refine' GA.w_iseq ?_)
    | (with_reducible refine' GA.w_make ?_)
    | (with_reducible refine' GA.w_for ?_)
    | (with_reducible refine' GA.w_rng1 ?_)
    | (with_reducible refine' GA.w_rng2 ?_)
    | (with_reducible refine' GA.w_itup ?_)
    | (with_reducible refine' GA.w_ilist ?_)
    | (with_reducible refine' GA.w_ienum ?_)
    | (with_reducible refine' GA.w_BM ?_)
    | (with_reducible refine' GA.w_BM0 ?_)
    | (with_reducible refine' GA.w_izip ?_)
    | (with_reducible refine' GA.w_asg ?_))
  | `(tactic| walk_at "ws") => `(tactic| repeat (walk_at "w"))
  | `(tactic| walk_at "wn") => `(tactic| repeat (walk_at "wm"))


namespace Mine
section
variable {P : Program} {w : World} {K : PySem.W.Frag} {mg : Str → Option Value} {base : Heap} {a : Ads}

theorem tyx_tup {H : Hp} {p : Addr} {xs : List V} (h : SqT K H p xs) : TyX K H (.ref p) (.type "tuple") := by
  rcases h with (h | ⟨o, h⟩) | ⟨o, its, n, h1, h2, _⟩
  · exact .base (.tup h)
  · exact .fTuple h
  · exact .kTuple h1 h2
theorem r_isi {x : V} {t : Value} {n : String} {b : Bool} {H : Hp} {Q : VK} (ty : TyX K H x t) (e : PySem.W.kitOne K t (.type n) = some b) (q : Q (.bl b) H) : rIsi K [x, .ty n] H Q := ⟨x, .ty n, t, .type n, b, rfl, .ty n, ty, e, q⟩
/-! ### any thing, judged -/
def isI : Tg → Bool
  | .int _ => true
  | _ => false
def btw (lo hi : Int) : Tg → Bool
  | .int i => decide (lo ≤ i) && decide (i ≤ hi)
  | _ => false
def blw (b : Int) : Tg → Bool
  | .int i => decide (0 ≤ i) && decide (i < b)
  | _ => false
def tsz (lo hi : Int) : Tg → Bool
  | .tup ts => decide (lo ≤ ts.length) && decide ((ts.length : Int) ≤ hi)
  | _ => false
def pr (b : Int) : Tg → Bool
  | .tup [.int x, .int y] => (blw b (.int x) && blw b (.int y)) && !decide (x = y)
  | _ => false
theorem isI_t {t : Tg} (e : isT "int" t = true) : isI t = !isT "bool" t := by
  cases t <;> first | rfl | exact Bool.noConfusion (show false = true from e)
theorem isI_f {t : Tg} (e : isT "int" t = false) : isI t = false := by
  cases t <;> first | rfl | exact Bool.noConfusion (show true = false from e)
theorem isI_int {C hd : Addr} {H : Hp} {v : V} {t : Tg} (h : Ab C hd H v t) (e : isI t = true) : ∃ i, t = .int i ∧ v = .int i := by
  cases h <;> first | exact ⟨_, rfl, rfl⟩ | exact Bool.noConfusion (show false = true from e)
theorem btw_f {lo hi : Int} {t : Tg} (e : isI t = false) : btw lo hi t = false := by
  cases t <;> first | rfl | exact Bool.noConfusion (show true = false from e)
def sp_is_integer (C : Addr) : Sp := fun vs H Q _ => ∃ (hd : Addr) (v : V) (t : Tg), vs = [v] ∧ Ab C hd H v t ∧ Q (.bl (isI t)) H
theorem ok_is_integer (T : Txt K mg a) : FnOk P w K mg base CX0 1 a.f_is_integer a.d_is_integer P_is_integer (sp_is_integer a.c_Hall) := by
  refine T.F_is_integer.ok sc_is_integer (fun vs H Q E h => by obtain ⟨hd, v, t, rfl, _⟩ := h; rfl) (fun cdv A outer s H vs Q E hr h => ?_)
  obtain ⟨hd, v, t, rfl, ha, k⟩ := h
  refine ⟨_, (pss_one (ps_ret (pe_and (pe_callB call_isi (by rfl) T.n_isinstance (by decide +kernel) (pa_cons (pv 0) (pa_cons (pe_bltn (v := .ty "int") (u := .type "int") rfl T.n_int (by decide +kernel) rfl) pa_nil))) (pe_one (pe_not (pe_callB call_isi (by rfl) T.n_isinstance (by decide +kernel) (pa_cons (pv 0) (pa_cons (pe_bltn (v := .ty "bool") (u := .type "bool") rfl T.n_bool (by decide +kernel) rfl) pa_nil)))))))), ?_⟩
  walk_at "ws"
  refine ab_isi T.ik ha (.inl rfl) ?_
  walk_at "ws"
  refine w_ite (fun e => ?_) (fun e => ?_)
  · walk_at "ws"
    refine ab_isi T.ik ha (.inr (.inl rfl)) ?_
    walk_at "ws"
    rw [isI_t e] at k
    exact k
  · rw [isI_f e] at k
    exact k

def sp_is_between (C : Addr) : Sp := fun vs H Q _ => ∃ (lo hi : Int) (hd : Addr) (v : V) (t : Tg), vs = [.int lo, .int hi, v] ∧ Ab C hd H v t ∧ Q (.bl (btw lo hi t)) H
theorem ok_is_between (T : Txt K mg a) : FnOk P w K mg base CX0 2 a.f_is_between a.d_is_between P_is_between (sp_is_between a.c_Hall) := by
  refine T.F_is_between.ok sc_is_between (fun vs H Q E h => by obtain ⟨lo, hi, hd, v, t, rfl, _⟩ := h; rfl) (fun cdv A outer s H vs Q E hr h => ?_)
  obtain ⟨lo, hi, hd, v, t, rfl, ha, k⟩ := h
  have G_is_integer : FnOk P w K mg base CX0 1 a.f_is_integer a.d_is_integer P_is_integer (sp_is_integer a.c_Hall) := ok_is_integer T
  refine ⟨_, (pss_one (ps_ret (pe_and (pe_call (G_is_integer) (hr.mono (by omega)) rfl T.m_is_integer T.F_is_integer.kp T.b_is_integer .nil pass0 (pa_cons (pv 2) pa_nil)) (pe_one (pe_chain op_le op_le (pv 0) (pv 2) (pv 1)))))), ?_⟩
  walk_at "ws"
  refine ⟨hd, v, t, rfl, ha, ?_⟩
  walk_at "ws"
  refine w_ite (fun e => ?_) (fun e => ?_)
  · obtain ⟨i, rfl, rfl⟩ := isI_int ha e
    have k : Q (.bl (decide (lo ≤ i) && decide (i ≤ hi))) H := k
    walk_at "ws"
    refine w_ite (fun e => ?_) (fun e => ?_)
    · walk_at "ws"
      rw [e] at k
      exact k
    · rw [e] at k
      exact k
  · rw [btw_f e] at k
    exact k

def sp_is_below (C : Addr) : Sp := fun vs H Q _ => ∃ (b : Int) (hd : Addr) (v : V) (t : Tg), vs = [.int b, v] ∧ Ab C hd H v t ∧ Q (.bl (blw b t)) H
theorem ok_is_below (T : Txt K mg a) : FnOk P w K mg base CX0 3 a.f_is_below a.d_is_below P_is_below (sp_is_below a.c_Hall) := by
  refine T.F_is_below.ok sc_is_below (fun vs H Q E h => by obtain ⟨b, hd, v, t, rfl, _⟩ := h; rfl) (fun cdv A outer s H vs Q E hr h => ?_)
  obtain ⟨b, hd, v, t, rfl, ha, k⟩ := h
  have G_is_between : FnOk P w K mg base CX0 2 a.f_is_between a.d_is_between P_is_between (sp_is_between a.c_Hall) := ok_is_between T
  refine ⟨_, (pss_one (ps_ret (pe_call (G_is_between) (hr.mono (by omega)) rfl T.m_is_between T.F_is_between.kp T.b_is_between .nil pass0 (pa_cons pe_int (pa_cons (pe_op op_sub (pv 0) pe_int) (pa_cons (pv 1) pa_nil)))))), ?_⟩
  walk_at "ws"
  refine ⟨_, _, hd, v, t, rfl, ha, ?_⟩
  have e : btw 0 (b - 1) t = blw b t := by
    cases t <;> first | rfl | (simp only [btw, blw]; congr 1; rw [decide_eq_decide]; omega)
  rw [e]
  exact k

theorem tup_of {C hd : Addr} {H : Hp} {v : V} {t : Tg} (h : Ab C hd H v t) (e : isT "tuple" t = true) : ∃ p xs ts, v = .ref p ∧ t = .tup ts ∧ Rd H p (.tup xs) ∧ AbAll C hd H xs ts := by
  cases h with
  | tup r al => exact ⟨_, _, _, rfl, rfl, r, al⟩
  | non => exact Bool.noConfusion (show false = true from e)
  | bl _ => exact Bool.noConfusion (show false = true from e)
  | int _ => exact Bool.noConfusion (show false = true from e)
  | str _ => exact Bool.noConfusion (show false = true from e)
  | oth _ _ => exact Bool.noConfusion (show false = true from e)
theorem tsz_f {lo hi : Int} {t : Tg} (e : isT "tuple" t = false) : tsz lo hi t = false := by
  cases t <;> first | rfl | exact Bool.noConfusion (show true = false from e)
def sp_is_tuple_of (C : Addr) : Sp := fun vs H Q _ => ∃ (lo hi : Int) (hd : Addr) (v : V) (t : Tg), vs = [.int lo, .int hi, v] ∧ Ab C hd H v t ∧ Q (.bl (tsz lo hi t)) H
theorem ok_is_tuple_of (T : Txt K mg a) : FnOk P w K mg base CX0 1 a.f_is_tuple_of a.d_is_tuple_of P_is_tuple_of (sp_is_tuple_of a.c_Hall) := by
  refine T.F_is_tuple_of.ok sc_is_tuple_of (fun vs H Q E h => by obtain ⟨lo, hi, hd, v, t, rfl, _⟩ := h; rfl) (fun cdv A outer s H vs Q E hr h => ?_)
  obtain ⟨lo, hi, hd, v, t, rfl, ha, k⟩ := h
  refine ⟨_, (pss_one (ps_ret (pe_and (pe_callB call_isi (by rfl) T.n_isinstance (by decide +kernel) (pa_cons (pv 2) (pa_cons (pe_bltn (v := .ty "tuple") (u := .type "tuple") rfl T.n_tuple (by decide +kernel) rfl) pa_nil))) (pe_one (pe_chain op_le op_le (pv 0) (pe_callB call_len_seq (by rfl) T.n_len (by decide +kernel) (pa_cons (pv 2) pa_nil)) (pv 1)))))), ?_⟩
  walk_at "ws"
  refine ab_isi T.ik ha (.inr (.inr (.inr rfl))) ?_
  walk_at "ws"
  refine w_ite (fun e => ?_) (fun e => ?_)
  · obtain ⟨p, xs, ts, rfl, rfl, r, al⟩ := tup_of ha e
    have k : Q (.bl (decide (lo ≤ ts.length) && decide ((ts.length : Int) ≤ hi))) H := k
    walk_at "ws"
    refine ⟨p, xs, rfl, .inr (.inl r), ?_⟩
    rw [al.length]
    walk_at "ws"
    refine w_ite (fun e => ?_) (fun e => ?_)
    · walk_at "ws"
      rw [e] at k
      exact k
    · rw [e] at k
      exact k
  · rw [tsz_f e] at k
    exact k

end
end Mine
/-! ## K2 -/


namespace Mine
section
variable {P : Program} {w : World} {K : PySem.W.Frag} {mg : Str → Option Value} {base : Heap} {a : Ads}

/-! ### are_below, is_unlike_pair -/
theorem bools_tg {H : Hp} {f : Tg → Bool} : ∀ {ts : List Tg} {xs : List V}, DpAll K H xs (ts.map fun t => PyData.bool (f t)) → xs = (ts.map f).map V.bl
  | [], _, h => by cases h; rfl
  | t :: ts, _, h => by
    cases h with
    | cons h1 h2 => cases h1; rw [bools_tg h2]; rfl
def sp_are_below (C : Addr) : Sp := fun vs H Q _ => ∃ (b : Int) (p hd : Addr) (xs : List V) (ts : List Tg), vs = [.int b, .ref p] ∧ Rd H p (.tup xs) ∧ AbAll C hd H xs ts ∧ ts.length ≤ 100000 ∧ ∀ H', G none H H' → Q (.bl (ts.all (blw b))) H'
theorem ok_are_below (T : Txt K mg a) : FnOk P w K mg base CX0 4 a.f_are_below a.d_are_below P_are_below (sp_are_below a.c_Hall) := by
  refine T.F_are_below.ok sc_are_below (fun vs H Q E h => by obtain ⟨b, p, hd, xs, ts, rfl, _⟩ := h; rfl) (fun cdv A outer s H vs Q E hr h => ?_)
  obtain ⟨b, p, hd, xs, ts, rfl, hx, al, hz, k⟩ := h
  have G_is_below : FnOk P w K mg base CX0 3 a.f_is_below a.d_is_below P_is_below (sp_is_below a.c_Hall) := ok_is_below T
  have hl := al.length
  refine ⟨_, (pss_one (ps_ret (pe_callB (cr_all rfl) (by rfl) T.n_all (by decide +kernel) (pa_cons (pe_lc (own := [("thing", 2)]) (g := (gName 2)) (tt := tYes) rfl sc_are_below.nd (pi_tup (pv 1)) (blkOk_by (N := N_are_below) (sc := defScope s_are_below) (by decide +kernel)) (fun _ _ _ _ _ => (pg_name (i := 2) sc_are_below.nd rfl (by first | exact Or.inl rfl | exact Or.inr rfl))) (fun _ _ _ _ _ => pts_nil) (fun _ _ _ _ _ => (pe_call (G_is_below) (hr.mono (by omega)) rfl T.m_is_below T.F_is_below.kp T.b_is_below .nil pass0 (pa_cons (pv 0) (pa_cons (pv 2) pa_nil))))) pa_nil)))), ?_⟩
  walk_at "ws"
  refine i_tup (.inl hx) ?_
  intro D hD
  refine lc_pure (K := K) (o := none) (walk_tup (xs := xs)) (by omega) hD (fun _ e => nomatch e) (fun i => ts[i]?.map fun t => .bool (blw b t)) (fun H' g => .inl (g.tups _ _ hx)) ?_ ?_
  · rintro i x H1 H2 hi g ⟨rfl, hx1⟩ Qy Qn ky kn
    obtain ⟨t, ht, ha⟩ := al.get hx1
    walk_at "ws"
    refine ⟨rfl, ?_⟩
    walk_at "ws"
    refine ⟨_, hd, x, t, rfl, ha.n g, ky _ _ _ G.refl (.bl _) rfl (by rw [ht]; rfl)⟩
  · intro ys H' g hD' hds _
    rw [hl, filterMap_range_map] at hds
    obtain rfl := bools_tg hds
    walk_at "ws"
    refine ⟨D, ts.map (blw b), rfl, SqL.of hD', ?_⟩
    have e : (ts.map (blw b)).all id = ts.all (blw b) := by rw [List.all_map]; rfl
    rw [e]
    exact k _ g

theorem pr_tsz {b : Int} {t : Tg} (e : tsz 2 2 t = false) : pr b t = false := by
  cases t with
  | tup ts =>
    match ts, e with
    | [], _ => rfl
    | [_], _ => unfold pr; split <;> first | rfl | (rename_i z; cases z)
    | [_, _], e => exact Bool.noConfusion (show true = false from e)
    | _ :: _ :: _ :: _, _ => unfold pr; split <;> first | rfl | (rename_i z; cases z)
  | non => rfl
  | bl _ => rfl
  | int _ => rfl
  | str _ => rfl
  | oth => rfl
theorem tsz_two {t : Tg} (e : tsz 2 2 t = true) : ∃ t1 t2, t = .tup [t1, t2] := by
  cases t with
  | tup ts =>
    match ts, e with
    | [], e => exact Bool.noConfusion (show false = true from e)
    | [_], e => exact Bool.noConfusion (show false = true from e)
    | [_, _], _ => exact ⟨_, _, rfl⟩
    | _ :: _ :: _ :: l, e =>
      have e : (decide ((2 : Int) ≤ ((l.length + 3 : Nat) : Int)) && decide (((l.length + 3 : Nat) : Int) ≤ 2)) = true := e
      simp only [Bool.and_eq_true, decide_eq_true_eq] at e
      omega
  | non => exact Bool.noConfusion (show false = true from e)
  | bl _ => exact Bool.noConfusion (show false = true from e)
  | int _ => exact Bool.noConfusion (show false = true from e)
  | str _ => exact Bool.noConfusion (show false = true from e)
  | oth => exact Bool.noConfusion (show false = true from e)
theorem blw_int {b : Int} {t : Tg} (e : blw b t = true) : ∃ i, t = .int i := by
  cases t with
  | int i => exact ⟨i, rfl⟩
  | tup _ => exact Bool.noConfusion (show false = true from e)
  | non => exact Bool.noConfusion (show false = true from e)
  | bl _ => exact Bool.noConfusion (show false = true from e)
  | str _ => exact Bool.noConfusion (show false = true from e)
  | oth => exact Bool.noConfusion (show false = true from e)
theorem pr_f {b : Int} {t1 t2 : Tg} (e : (([t1, t2] : List Tg).all (blw b)) = false) : pr b (.tup [t1, t2]) = false := by
  by_cases c1 : blw b t1 = true
  · by_cases c2 : blw b t2 = true
    · simp [c1, c2] at e
    · cases t1 <;> cases t2 <;> first | rfl | (simp only [pr]; rw [Bool.eq_false_iff.mpr c2]; simp)
  · cases t1 <;> cases t2 <;> first | rfl | (simp only [pr]; rw [Bool.eq_false_iff.mpr c1]; simp)
def sp_is_unlike_pair (C : Addr) : Sp := fun vs H Q _ => ∃ (b : Int) (hd : Addr) (v : V) (t : Tg), vs = [.int b, v] ∧ Ab C hd H v t ∧ ∀ H', G none H H' → Q (.bl (pr b t)) H'
theorem ok_is_unlike_pair (T : Txt K mg a) : FnOk P w K mg base CX0 5 a.f_is_unlike_pair a.d_is_unlike_pair P_is_unlike_pair (sp_is_unlike_pair a.c_Hall) := by
  refine T.F_is_unlike_pair.ok sc_is_unlike_pair (fun vs H Q E h => by obtain ⟨b, hd, v, t, rfl, _⟩ := h; rfl) (fun cdv A outer s H vs Q E hr h => ?_)
  obtain ⟨b, hd, v, t, rfl, ha, k⟩ := h
  have G_is_tuple_of : FnOk P w K mg base CX0 1 a.f_is_tuple_of a.d_is_tuple_of P_is_tuple_of (sp_is_tuple_of a.c_Hall) := ok_is_tuple_of T
  have G_are_below : FnOk P w K mg base CX0 4 a.f_are_below a.d_are_below P_are_below (sp_are_below a.c_Hall) := ok_are_below T
  refine ⟨_, (pss_one (ps_ret (pe_and (pe_call (G_is_tuple_of) (hr.mono (by omega)) rfl T.m_is_tuple_of T.F_is_tuple_of.kp T.b_is_tuple_of .nil pass0 (pa_cons pe_int (pa_cons pe_int (pa_cons (pv 1) pa_nil)))) (pe_and (pe_call (G_are_below) (hr.mono (by omega)) rfl T.m_are_below T.F_are_below.kp T.b_are_below .nil pass0 (pa_cons (pv 0) (pa_cons (pv 1) pa_nil))) (pe_one (pe_cmpR op_ne (pe_ix ix_tup (pv 1) pe_int (fun _ _ => rfl)) (pe_ix ix_tup (pv 1) pe_int (fun _ _ => rfl)) (nomark _))))))), ?_⟩
  walk_at "ws"
  refine ⟨_, _, hd, v, t, rfl, ha, ?_⟩
  walk_at "ws"
  refine w_ite (fun e => ?_) (fun e => ?_)
  · obtain ⟨t1, t2, rfl⟩ := tsz_two e
    cases ha with
    | @tup p xs _ r al =>
    obtain ⟨v1, v2, rfl, a1, a2⟩ := al.two
    walk_at "ws"
    refine ⟨b, p, hd, _, _, rfl, r, al, by simp, fun H1 g1 => ?_⟩
    walk_at "ws"
    refine w_ite (fun e => ?_) (fun e => ?_)
    · have ee : blw b t1 = true ∧ blw b t2 = true := by simpa using e
      obtain ⟨x, rfl⟩ := blw_int ee.1
      obtain ⟨y, rfl⟩ := blw_int ee.2
      obtain rfl := a1.int_inv
      obtain rfl := a2.int_inv
      have r1 : SqT K H1 p [.int x, .int y] := .inl (g1.tups _ _ r)
      walk_at "ws"
      refine r_ixT r1 (v := .int x) rfl ?_
      walk_at "ws"
      refine r_ixT r1 (v := .int y) rfl ?_
      walk_at "ws"
      have z : pr b (.tup [.int x, .int y]) = !decide (x = y) := by
        show ((blw b (.int x) && blw b (.int y)) && !decide (x = y)) = _
        rw [ee.1, ee.2, Bool.and_self, Bool.true_and]
      have k := k H1 g1
      rw [z] at k
      exact k
    · have k := k H1 g1
      rw [pr_f e] at k
      exact k
  · have k := k H G.refl
    rw [pr_tsz e] at k
    exact k

end
end Mine
/-! ## K6 -/


namespace Mine
section
variable {P : Program} {w : World} {K : PySem.W.Frag} {mg : Str → Option Value} {base : Heap} {a : Ads}

/-! ### the hand of draws -/
def sp__law_hand (K : PySem.W.Frag) : Sp := fun vs H Q _ => ∃ (s : Addr) (ns : List Int), vs = [.ref s] ∧ SqL K H s (ns.map V.int) ∧ ns.length ≤ 63 ∧ ∀ hd c H', G none H H' → Hand H' hd c → Q (.ref hd) H'
theorem ok__law_hand (T : Txt K mg a) : FnOk P w K mg base CX0 1 a.f__law_hand a.d__law_hand P__law_hand (sp__law_hand K) := by
  refine T.F__law_hand.ok sc__law_hand (fun vs H Q E h => by obtain ⟨s, ns, rfl, _⟩ := h; rfl) (fun cdv A outer s0 H vs Q E hr h => ?_)
  obtain ⟨s, ns, rfl, hs, hl, k⟩ := h
  refine ⟨_, (pss_cons (ps_setLc (i := 1) (own := [("_law_cell", 2)]) (g := (gName 2)) (tt := tYes)  rfl sc__law_hand.nd rfl rfl (sw_true rfl rfl rfl (by decide +kernel)) (pi_list (pe_slice sl_list (pv 0) po_none (po_some pe_int))) (blkOk_by (N := N__law_hand) (sc := defScope s__law_hand) (by decide +kernel)) (fun _ _ _ _ _ => (pg_name (i := 2) sc__law_hand.nd rfl (by first | exact Or.inl rfl | exact Or.inr rfl))) (fun _ _ _ _ _ => pts_nil) (fun _ _ _ _ _ => (pe_callB call_abs (by rfl) T.n_abs (by decide +kernel) (pa_cons (pe_callTy call_int1 (by rfl) T.n_int (by decide +kernel) (pa_cons (pv 2) pa_nil)) pa_nil))))
  (pss_one (ps_ret (pe_lstN (pa_cons (pv 1) (pa_cons pe_int (pa_cons pe_int (pa_cons (pe_op op_add pe_int (pe_callB call_len_seq (by rfl) T.n_len (by decide +kernel) (pa_cons (pv 1) pa_nil))) (pa_cons pe_int pa_nil))))))))), ?_⟩
  walk_at "ws"
  refine ⟨s, _, rfl, hs, fun p hp => ?_⟩
  obtain ⟨ms, hms⟩ : ∃ ms : List Int, cutV (ns.map V.int) none (some 63) = ms.map V.int := ints_of fun v hv => by
    obtain ⟨n, _, e⟩ := List.mem_map.mp (mem_cutV hv)
    exact ⟨n, e.symm⟩
  have hz : ms.length ≤ 63 := by
    have e := cutV_length (ns.map V.int) none (some 63)
    rw [hms, List.length_map, List.length_map] at e
    omega
  rw [hms]
  have g1 : G none H (upd H p (.lst (ms.map V.int))) := G.alloc hp
  have h1 : upd H p (.lst (ms.map V.int)) p = some (.lst (ms.map V.int)) := upd_same
  generalize upd H p (.lst (ms.map V.int)) = H1 at g1 h1 ⊢
  walk_at "ws"
  refine i_list (SqL.of h1) ?_
  intro D hD
  refine lc_pure (K := K) (o := none) walk_list (by rw [List.length_map]; omega) hD (fun _ e => nomatch e) (fun i => ms[i]?.map fun n => .int (if n < 0 then -n else n)) (fun H' g => SqL.of (g.all _ _ h1)) ?_ ?_
  · rintro i x H2 H3 hi g ⟨rfl, hx1⟩ Qy Qn ky kn
    obtain ⟨n, hn, rfl⟩ : ∃ n, ms[i]? = some n ∧ V.int n = x := by
      rw [List.getElem?_map] at hx1; exact Option.map_eq_some_iff.mp hx1
    walk_at "ws"
    refine ⟨rfl, ?_⟩
    walk_at "ws"
    refine .inl ⟨_, rfl, ?_⟩
    walk_at "ws"
    exact ⟨_, rfl, ky _ _ _ G.refl (.int _) rfl (by rw [hn]; rfl)⟩
  · intro xs H' g hD' hds _
    rw [List.length_map, filterMap_range_map] at hds
    obtain ⟨cs, rfl⟩ : ∃ cs : List Int, xs = cs.map V.int := ⟨_, DpAll.of_ints (ns := ms.map fun n => if n < 0 then -n else n) (by rw [List.map_map]; exact hds)⟩
    have g2 := g1.trans g
    walk_at "ws"
    refine ⟨D, _, rfl, .inl (SqL.of hD'), ?_⟩
    walk_at "ws"
    refine ⟨sz (by simp), fun q H3 hq g3 h3 => ?_⟩
    exact k q D _ (g2.trans (g3 none)) ⟨ne_of_none hD' hq, ⟨cs, (g3 none).all _ _ hD'⟩, _, _, _, _, h3, Int.le_refl _⟩

def sp__law_draw : Sp := fun vs H Q _ => ∃ (hd c : Addr) (n : Int), vs = [.ref hd, .int n] ∧ Hand H hd c ∧ 0 < n ∧ n ≤ 100000 ∧ ∀ r H', 0 ≤ r → r < n → G (some (hd, c)) H H' → Hand H' hd c → Q (.int r) H'
theorem st5 {x0 x1 x2 x3 x4 v : V} {j : Nat} {hd : Addr} {z : Int} {H : Hp} {F : Hp → Prop} (h : H hd = some (.lst [x0, x1, x2, x3, x4])) (e : ixN 5 z = some j) (q : F (upd H hd (.lst (([x0, x1, x2, x3, x4] : List V).set j v)))) : rSetL (.ref hd) (.int z) v H F := ⟨hd, _, z, j, rfl, rfl, h, e, q⟩
theorem ok__law_draw (T : Txt K mg a) : FnOk P w K mg base CX0 1 a.f__law_draw a.d__law_draw P__law_draw sp__law_draw := by
  refine T.F__law_draw.ok sc__law_draw (fun vs H Q E h => by obtain ⟨hd, c, n, rfl, _⟩ := h; rfl) (fun cdv A outer s0 H vs Q E hr h => ?_)
  obtain ⟨hd, c, n, rfl, hh, n0, n1, k⟩ := h
  have hh' := hh
  obtain ⟨nc, ⟨ns, hc⟩, i, b, m, z, h, hi⟩ := hh'
  refine ⟨_, (pss_cons (ps_if (L2.PW.pt (pw_and (pt_cmpR op_eq (pe_ix ix_list (pv 0) pe_int (fun _ _ => rfl)) pe_int (nomark _)) (pw_and1 (pt_cmpR op_lt (pe_ix ix_list (pv 0) pe_int (fun _ _ => rfl)) (pe_callB call_len_seq (by rfl) T.n_len (by decide +kernel) (pa_cons (pe_ix ix_list (pv 0) pe_int (fun _ _ => rfl)) pa_nil)) (nomark _)))))
    (pss_cons (ps_set (i := 2) sc__law_draw.nd rfl (Or.inl rfl) (pe_ix ix_list (pe_ix ix_list (pv 0) pe_int (fun _ _ => rfl)) (pe_ix ix_list (pv 0) pe_int (fun _ _ => rfl)) (fun _ _ => rfl)))
  (pss_cons (ps_asg (pe_op op_add (pe_ix ix_list (pv 0) pe_int (fun _ _ => rfl)) pe_int) (pg_sub (pv 0) pe_int set_list))
  (pss_cons (ps_asg (pe_op op_mod (pe_callTy call_int1 (by rfl) T.n_int (by decide +kernel) (pa_cons (pe_op op_add (pe_op op_add (pe_op op_mul (pe_ix ix_list (pv 0) pe_int (fun _ _ => rfl)) pe_int) (pv 2)) pe_int) pa_nil)) pe_int) (pg_sub (pv 0) pe_int set_list))
  (pss_one (ps_if (pt_cmpR op_ge (pv 2) (pe_op op_pow pe_int pe_int) (nomark _))
    (pss_one (ps_asg (pv 2) (pg_sub (pv 0) pe_int set_list)))
    pss_nil)))))
    pss_nil)
  (pss_cons (ps_if (pt_cmpR op_gt (pe_ix ix_list (pv 0) pe_int (fun _ _ => rfl)) pe_int (nomark _))
    (pss_cons (ps_set (i := 3) sc__law_draw.nd rfl (Or.inl rfl) (pe_op op_mod (pe_callTy call_int1 (by rfl) T.n_int (by decide +kernel) (pa_cons (pe_ix ix_list (pv 0) pe_int (fun _ _ => rfl)) pa_nil)) (pv 1)))
  (pss_cons (ps_asg (pe_op op_fdiv (pe_ix ix_list (pv 0) pe_int (fun _ _ => rfl)) (pv 1)) (pg_sub (pv 0) pe_int set_list))
  (pss_one (ps_ret (pv 3)))))
    pss_nil)
  (pss_cons (ps_asg (pe_op op_add (pe_ix ix_list (pv 0) pe_int (fun _ _ => rfl)) pe_int) (pg_sub (pv 0) pe_int set_list))
  (pss_cons (ps_set (i := 4) sc__law_draw.nd rfl (Or.inl rfl) (pe_op op_mod (pe_callTy call_int1 (by rfl) T.n_int (by decide +kernel) (pa_cons (pe_op op_mul (pe_callTy call_int1 (by rfl) T.n_int (by decide +kernel) (pa_cons (pe_op op_add (pe_ix ix_list (pv 0) pe_int (fun _ _ => rfl)) (pe_op op_mul pe_int (pe_ix ix_list (pv 0) pe_int (fun _ _ => rfl)))) pa_nil)) pe_int) pa_nil)) pe_int))
  (pss_cons (ps_set (i := 4) sc__law_draw.nd rfl (Or.inl rfl) (pe_op op_mod (pe_callTy call_int1 (by rfl) T.n_int (by decide +kernel) (pa_cons (pe_op op_mul (pv 4) (pe_op op_add (pe_op op_fdiv (pv 4) pe_int) pe_int)) pa_nil)) pe_int))
  (pss_cons (ps_set (i := 4) sc__law_draw.nd rfl (Or.inl rfl) (pe_op op_mod (pe_callTy call_int1 (by rfl) T.n_int (by decide +kernel) (pa_cons (pe_op op_mul (pv 4) (pe_op op_add (pe_op op_fdiv (pv 4) pe_int) pe_int)) pa_nil)) pe_int))
  (pss_one (ps_ret (pe_op op_mod (pe_callTy call_int1 (by rfl) T.n_int (by decide +kernel) (pa_cons (pe_op op_fdiv (pv 4) pe_int) pa_nil)) (pv 1)))))))))), ?_⟩
  refine w_seqM (fun σ H1 => ∃ (i b m z : Int) (x : Option V), σ = [some (.ref hd), some (.int n), x, none, none] ∧ (∀ a, a ≠ hd → H1 a = H a) ∧ H1 hd = some (.lst [.ref c, .int i, .int b, .int m, .int z]) ∧ 0 ≤ i) (fun N kN => ?_) ?_
  · walk_at "ws"
    refine r_ixL (SqL.of h) (v := .int b) rfl ?_
    walk_at "ws"
    refine w_ite (fun e => ?_) (fun e => ?_)
    · walk_at "ws"
      refine r_ixL (SqL.of h) (v := .int i) rfl ?_
      walk_at "ws"
      refine r_ixL (SqL.of h) (v := .ref c) rfl ?_
      walk_at "ws"
      refine ⟨c, _, rfl, .inl (SqL.of hc), ?_⟩
      walk_at "ws"
      refine w_ite (fun e => ?_) (fun e => ?_)
      · have hlt : i < ns.length := by
          have := of_decide_eq_true e
          rw [List.length_map] at this
          exact this
        obtain ⟨cell, hcell⟩ : ∃ cell, ns[i.toNat]? = some cell := ⟨_, List.getElem?_eq_getElem (by omega)⟩
        walk_at "ws"
        refine r_ixL (SqL.of h) (v := .ref c) rfl ?_
        walk_at "ws"
        refine r_ixL (SqL.of h) (v := .int i) rfl ?_
        refine r_ixL (SqL.of hc) (v := .int cell) (at_of (j := i.toNat) (by omega) (by rw [List.getElem?_map, hcell]; rfl)) ?_
        walk_at "ws"
        refine r_ixL (SqL.of h) (v := .int i) rfl ?_
        walk_at "ws"
        refine st5 (j := 1) h rfl ?_
        walk_at "ws"
        refine r_ixL (SqL.of upd_same) (v := .int m) rfl ?_
        walk_at "ws"
        refine r_I (.inr ⟨by decide, by decide⟩) ?_
        walk_at "ws"
        refine .inl ⟨_, rfl, ?_⟩
        walk_at "ws"
        refine r_I (by decide) ?_
        walk_at "ws"
        refine st5 (j := 3) upd_same rfl ?_
        walk_at "ws"
        refine r_I ⟨by decide, by decide, by decide⟩ ?_
        walk_at "ws"
        refine w_ite (fun e => ?_) (fun e => ?_)
        · walk_at "ws"
          refine st5 (j := 2) upd_same rfl ?_
          refine kN _ _ ⟨_, _, _, _, _, rfl, fun a na => ?_, upd_same, by omega⟩
          rw [upd_ne na, upd_ne na, upd_ne na]
        · walk_at "ws"
          refine kN _ _ ⟨_, _, _, _, _, rfl, fun a na => ?_, upd_same, by omega⟩
          rw [upd_ne na, upd_ne na]
      · walk_at "ws"
        exact kN _ _ ⟨i, b, m, z, none, rfl, fun _ _ => rfl, h, hi⟩
    · walk_at "ws"
      exact kN _ _ ⟨i, b, m, z, none, rfl, fun _ _ => rfl, h, hi⟩
  · clear h hi
    rintro σ H1 ⟨i, b, m, z, x, rfl, hE, h, hi⟩
    walk_at "ws"
    refine r_ixL (SqL.of h) (v := .int b) rfl ?_
    walk_at "ws"
    refine w_ite (fun e => ?_) (fun e => ?_)
    · walk_at "ws"
      refine r_ixL (SqL.of h) (v := .int b) rfl ?_
      walk_at "ws"
      refine .inl ⟨_, rfl, ?_⟩
      walk_at "ws"
      refine r_I n0 ?_
      walk_at "ws"
      refine r_ixL (SqL.of h) (v := .int b) rfl ?_
      walk_at "ws"
      refine r_I ⟨n0, by omega⟩ ?_
      walk_at "ws"
      refine st5 (j := 2) h rfl ?_
      walk_at "ws"
      obtain ⟨g, hh2⟩ := G.at_hd hh (H' := upd H1 hd (.lst (([.ref c, .int i, .int b, .int m, .int z] : List V).set 2 (.int (b / n))))) (fun a na => by rw [upd_ne na]; exact hE a na) upd_same hi
      exact k _ _ (Int.emod_nonneg _ (by omega)) (Int.emod_lt_of_pos _ n0) g hh2
    · walk_at "ws"
      refine r_ixL (SqL.of h) (v := .int z) rfl ?_
      walk_at "ws"
      refine st5 (j := 4) h rfl ?_
      walk_at "ws"
      refine r_ixL (SqL.of upd_same) (v := .int m) rfl ?_
      walk_at "ws"
      refine r_ixL (SqL.of upd_same) (v := .int (z + 1)) rfl ?_
      refine r_I (.inl ⟨by decide, by decide⟩) ?_
      walk_at "ws"
      refine .inl ⟨_, rfl, ?_⟩
      walk_at "ws"
      refine r_I (.inr ⟨by decide, by decide⟩) ?_
      walk_at "ws"
      refine .inl ⟨_, rfl, ?_⟩
      walk_at "ws"
      refine r_I (by decide) ?_
      generalize e1 : (_ : Int) % 2147483647 = u1
      have b1 : 0 ≤ u1 ∧ u1 < 2147483647 := by omega
      walk_at "ws"
      refine r_I ⟨by decide, by decide⟩ ?_
      walk_at "ws"
      refine r_I (.inl ⟨by omega, by omega⟩) ?_
      walk_at "ws"
      refine .inl ⟨_, rfl, ?_⟩
      walk_at "ws"
      refine r_I (by decide) ?_
      generalize e2 : (_ : Int) % 2147483647 = u2
      have b2 : 0 ≤ u2 ∧ u2 < 2147483647 := by omega
      walk_at "ws"
      refine r_I ⟨by decide, by decide⟩ ?_
      walk_at "ws"
      refine r_I (.inl ⟨by omega, by omega⟩) ?_
      walk_at "ws"
      refine .inl ⟨_, rfl, ?_⟩
      walk_at "ws"
      refine r_I (by decide) ?_
      walk_at "ws"
      refine r_I ⟨by decide, by decide⟩ ?_
      walk_at "ws"
      refine .inl ⟨_, rfl, ?_⟩
      walk_at "ws"
      refine r_I n0 ?_
      obtain ⟨g, hh2⟩ := G.at_hd hh (H' := upd H1 hd (.lst (([.ref c, .int i, .int b, .int m, .int z] : List V).set 4 (.int (z + 1))))) (fun a na => by rw [upd_ne na]; exact hE a na) upd_same hi
      exact k _ _ (Int.emod_nonneg _ (by omega)) (Int.emod_lt_of_pos _ n0) g hh2

end
end Mine
/-! ## K7 -/


namespace Mine
section
variable {P : Program} {w : World} {K : PySem.W.Frag} {mg : Str → Option Value} {base : Heap} {a : Ads}

/-! ### _law_is of two that are alike -/
theorem dp_n {H H' : Hp} (g : G none H H') : (∀ (d : PyData) (v : V), Dp K H v d → Dp K H' v d) ∧ (∀ (ds : List PyData) (vs : List V), DpAll K H vs ds → DpAll K H' vs ds) := by
  have rd : ∀ {a u}, Rd H a u → Rd H' a u := fun h => h.elim (fun h => .inl (g.all _ _ h)) fun ⟨ob, h⟩ => .inr ⟨ob, g.all _ _ h⟩
  have sl : ∀ {a xs}, SqL K H a xs → SqL K H' a xs := fun h => h.elim (fun h => .inl (rd h)) .inr
  constructor
  · intro d v h
    refine Dp.rec (motive_1 := fun v d _ => Dp K H' v d) (motive_2 := fun vs ds _ => DpAll K H' vs ds) .non .bl .int .str ?_ ?_ ?_ ?_ h
    · intro a xs ds h1 _ h2; exact .lst (sl h1) h2
    · intro a xs ds h1 _ h2; exact .tup (sqT_t g.tups h1) h2
    · exact .nil
    · intro v vs d ds _ _ h1 h2; exact .cons h1 h2
  · intro ds vs h
    refine DpAll.rec (motive_1 := fun v d _ => Dp K H' v d) (motive_2 := fun vs ds _ => DpAll K H' vs ds) .non .bl .int .str ?_ ?_ ?_ ?_ h
    · intro a xs ds h1 _ h2; exact .lst (sl h1) h2
    · intro a xs ds h1 _ h2; exact .tup (sqT_t g.tups h1) h2
    · exact .nil
    · intro v vs d ds _ _ h1 h2; exact .cons h1 h2
theorem sqL_n {H H' : Hp} (g : G none H H') {p : Addr} {xs : List V} (h : SqL K H p xs) : SqL K H' p xs := by
  rcases h with (h | ⟨o, h⟩) | h
  · exact .inl (.inl (g.all _ _ h))
  · exact .inl (.inr ⟨o, g.all _ _ h⟩)
  · exact .inr h
theorem tyx_lst {H : Hp} {p : Addr} {xs : List V} (h : SqL K H p xs) : TyX K H (.ref p) (.type "list") := by
  rcases h with (h | ⟨o, h⟩) | ⟨o, its, n, h1, h2, _⟩
  · exact .base (.lst h)
  · exact .base (.frz h)
  · exact .kList h1 h2
def tyN : PyData → String
  | .none => "NoneType"
  | .bool _ => "bool"
  | .int _ => "int"
  | .str _ => "str"
  | .list _ => "list"
  | .tuple _ => "tuple"
  | .dict _ => "dict"
theorem ty_of {H : Hp} {v : V} {d : PyData} (h : Dp K H v d) : TyX K H v (.type (tyN d)) := by
  cases h with
  | non => exact .base .non
  | bl b => exact .base (.bl b)
  | int i => exact .base (.int i)
  | str x => exact .base (.str x)
  | lst h _ => exact tyx_lst h
  | tup h _ => exact tyx_tup h
def isTup : PyData → Bool | .tuple _ => true | _ => false
def isLst : PyData → Bool | .list _ => true | _ => false
def isBool : PyData → Bool | .bool _ => true | _ => false
theorem ki_tup (d : PyData) : PySem.W.kitOne K (.type (tyN d)) (.type "tuple") = some (isTup d) := by
  cases d with
  | none => exact kit_ty (a := "NoneType") (b := "tuple") (r := false) (by decide +kernel)
  | bool _ => exact kit_ty (a := "bool") (b := "tuple") (r := false) (by decide +kernel)
  | int _ => exact kit_ty (a := "int") (b := "tuple") (r := false) (by decide +kernel)
  | str _ => exact kit_ty (a := "str") (b := "tuple") (r := false) (by decide +kernel)
  | list _ => exact kit_ty (a := "list") (b := "tuple") (r := false) (by decide +kernel)
  | tuple _ => exact kit_ty (a := "tuple") (b := "tuple") (r := true) (by decide +kernel)
  | dict _ => exact kit_ty (a := "dict") (b := "tuple") (r := false) (by decide +kernel)
theorem ki_lst (d : PyData) : PySem.W.kitOne K (.type (tyN d)) (.type "list") = some (isLst d) := by
  cases d with
  | none => exact kit_ty (a := "NoneType") (b := "list") (r := false) (by decide +kernel)
  | bool _ => exact kit_ty (a := "bool") (b := "list") (r := false) (by decide +kernel)
  | int _ => exact kit_ty (a := "int") (b := "list") (r := false) (by decide +kernel)
  | str _ => exact kit_ty (a := "str") (b := "list") (r := false) (by decide +kernel)
  | list _ => exact kit_ty (a := "list") (b := "list") (r := true) (by decide +kernel)
  | tuple _ => exact kit_ty (a := "tuple") (b := "list") (r := false) (by decide +kernel)
  | dict _ => exact kit_ty (a := "dict") (b := "list") (r := false) (by decide +kernel)
theorem ki_bool (d : PyData) : PySem.W.kitOne K (.type (tyN d)) (.type "bool") = some (isBool d) := by
  cases d with
  | none => exact kit_ty (a := "NoneType") (b := "bool") (r := false) (by decide +kernel)
  | bool _ => exact kit_ty (a := "bool") (b := "bool") (r := true) (by decide +kernel)
  | int _ => exact kit_ty (a := "int") (b := "bool") (r := false) (by decide +kernel)
  | str _ => exact kit_ty (a := "str") (b := "bool") (r := false) (by decide +kernel)
  | list _ => exact kit_ty (a := "list") (b := "bool") (r := false) (by decide +kernel)
  | tuple _ => exact kit_ty (a := "tuple") (b := "bool") (r := false) (by decide +kernel)
  | dict _ => exact kit_ty (a := "dict") (b := "bool") (r := false) (by decide +kernel)
theorem ki_tl (d : PyData) : PySem.W.kitAny K (.type (tyN d)) [.type "tuple", .type "list"] = some (isTup d || isLst d) := by
  refine kitAny_cons (ki_tup d) (fun e => ?_) fun e => by rw [e]; rfl
  refine kitAny_cons (ki_lst d) (fun e2 => ?_) fun e2 => by rw [e, e2]; rfl
  rw [e, e2]; rfl
theorem r_isiT {H : Hp} {v : V} {d : PyData} {tp : Addr} {Q : VK} (h : H tp = some (.tup [.ty "tuple", .ty "list"])) (hd : Dp K H v d) (q : Q (.bl (isTup d || isLst d)) H) : rIsiT K [v, .ref tp] H Q :=
  ⟨v, tp, [.ty "tuple", .ty "list"], _, [.type "tuple", .type "list"], _, rfl, h, .cons (.ty "tuple") (.cons (.ty "list") .nil), ty_of hd, ki_tl d, q⟩
def scal1 : PyData → Prop
  | .none => True
  | .bool _ => True
  | .int _ => True
  | .str x => PyData.strOk x = true
  | _ => False
def okd : Nat → PyData → Prop
  | 0, d => scal1 d
  | n + 1, d => scal1 d ∨ ∃ ds, (d = .tuple ds ∨ d = .list ds) ∧ ds.length ≤ 100000 ∧ ∀ e ∈ ds, okd n e
theorem scal1_tl {d : PyData} (h : scal1 d) : (isTup d || isLst d) = false := by cases d <;> first | rfl | exact h.elim
theorem scal1_eqv {d : PyData} (h : scal1 d) : PyData.eqv d d = true := by
  cases d with
  | none => rfl
  | bool b => cases b <;> rfl
  | int i => simp [PyData.eqv]
  | str x => simp [PyData.eqv]
  | list _ => exact h.elim
  | tuple _ => exact h.elim
  | dict _ => exact h.elim
theorem scal1_sh {d : PyData} (h : scal1 d) : SeqAt.shaped d = true := by
  cases d <;> first | exact h.elim | (simp [SeqAt.shaped, PyData.canLay0, PyData.depth]; done) | (simp [SeqAt.shaped, PyData.canLay0, PyData.depth]; exact h)
theorem walk_zipT {p q : Addr} {xs ys : List V} {n : Nat} (hn : n = min xs.length ys.length) : Walk (RZ.ItzT K p q) n (fun H => SqT K H p xs ∧ SqT K H q ys) (YPair (fun i => xs[i]?) (fun i => ys[i]?)) := by
  subst hn
  refine ⟨fun i _ hi h => ?_, fun _ h => ⟨xs, ys, h.1, h.2, by omega⟩, fun i H v H' _ h y => ?_⟩
  · have h1 : i < xs.length := by omega
    have h2 : i < ys.length := by omega
    exact ⟨xs, ys, xs[i], ys[i], h.1, h.2, by simp [h1], by simp [h2]⟩
  · obtain ⟨T, x, z, h1, h2, h3, h4, h5⟩ := y
    exact ⟨T, x, z, h1, h2, h3, h4 xs h.1, h5 ys h.2⟩
theorem bools_true {H : Hp} {xs : List V} {n : Nat} (h : DpAll K H xs ((List.range n).filterMap fun _ => some (PyData.bool true))) : ∃ bs : List Bool, xs = bs.map V.bl ∧ bs.all id = true := by
  generalize List.range n = l at h
  induction l generalizing xs with
  | nil => cases h; exact ⟨[], rfl, rfl⟩
  | cons z l ih =>
    cases h with
    | cons h t =>
      obtain ⟨bs, rfl, e⟩ := ih t
      cases h
      exact ⟨true :: bs, rfl, by simpa using e⟩
def sp__law_is (K : PySem.W.Frag) (n : Nat) : Sp := fun vs H Q _ => ∃ (v u : V) (d : PyData), vs = [v, u] ∧ okd n d ∧ Dp K H v d ∧ Dp K H u d ∧ ∀ H', G none H H' → Q (.bl true) H'
theorem ok__law_is (T : Txt K mg a) : ∀ n : Nat, FnOk P w K mg base CX0 (n + 1) a.f__law_is a.d__law_is P__law_is (sp__law_is K n)
  | 0 => by
    refine T.F__law_is.ok sc__law_is (fun vs H Q E h => by obtain ⟨v, u, d, rfl, _⟩ := h; rfl) (fun cdv A outer s H vs Q E hr h => ?_)
    obtain ⟨v, u, d, rfl, od, hv, hu, k⟩ := h
    have od : scal1 d := od
    refine ⟨_, (pss_cons (ps_if (pt_val (pe_callB call_isiT (by rfl) T.n_isinstance (by decide +kernel) (pa_cons (pv 1) (pa_cons (pe_tupN (pa_cons (pe_bltn (v := .ty "tuple") (u := .type "tuple") rfl T.n_tuple (by decide +kernel) rfl) (pa_cons (pe_bltn (v := .ty "list") (u := .type "list") rfl T.n_list (by decide +kernel) rfl) pa_nil))) pa_nil)))) pss_never pss_nil) (pss_one (ps_ret (pe_and (pe_cmpR op_eq (pe_callB call_isi (by rfl) T.n_isinstance (by decide +kernel) (pa_cons (pv 0) (pa_cons (pe_bltn (v := .ty "bool") (u := .type "bool") rfl T.n_bool (by decide +kernel) rfl) pa_nil))) (pe_callB call_isi (by rfl) T.n_isinstance (by decide +kernel) (pa_cons (pv 1) (pa_cons (pe_bltn (v := .ty "bool") (u := .type "bool") rfl T.n_bool (by decide +kernel) rfl) pa_nil))) (nomark _)) (pe_one (pe_cmpR (op_eqD hr.units) (pv 0) (pv 1) (nomark _))))))), ?_⟩
    walk_at "ws"
    refine ⟨sz (by simp), fun p H1 hp g1 h1 => ?_⟩
    have g1 := g1 none
    walk_at "ws"
    refine r_isiT h1 ((dp_n g1).1 _ _ hu) ?_
    rw [scal1_tl od]
    walk_at "ws"
    refine r_isi (ty_of ((dp_n g1).1 _ _ hv)) (ki_bool d) ?_
    walk_at "ws"
    refine r_isi (ty_of ((dp_n g1).1 _ _ hu)) (ki_bool d) ?_
    walk_at "ws"
    refine w_iteE (by simp) ?_
    walk_at "ws"
    refine ⟨d, d, (dp_n g1).1 _ _ hv, (dp_n g1).1 _ _ hu, scal1_sh od, scal1_sh od, ?_⟩
    rw [scal1_eqv od]
    exact k _ g1
  | n + 1 => by
    have ih : FnOk P w K mg base CX0 (n + 1) a.f__law_is a.d__law_is P__law_is (sp__law_is K n) := ok__law_is T n
    refine T.F__law_is.ok sc__law_is (fun vs H Q E h => by obtain ⟨v, u, d, rfl, _⟩ := h; rfl) (fun cdv A outer s H vs Q E hr h => ?_)
    obtain ⟨v, u, d, rfl, od, hv, hu, k⟩ := h
    refine ⟨_, (pss_cons (ps_if (pt_val (pe_callB call_isiT (by rfl) T.n_isinstance (by decide +kernel) (pa_cons (pv 1) (pa_cons (pe_tupN (pa_cons (pe_bltn (v := .ty "tuple") (u := .type "tuple") rfl T.n_tuple (by decide +kernel) rfl) (pa_cons (pe_bltn (v := .ty "list") (u := .type "list") rfl T.n_list (by decide +kernel) rfl) pa_nil))) pa_nil))))
    (pss_cons (ps_if (L2.PW.pt (pw_or (pt_cmpR op_ne (pe_callB call_isi (by rfl) T.n_isinstance (by decide +kernel) (pa_cons (pv 0) (pa_cons (pe_bltn (v := .ty "tuple") (u := .type "tuple") rfl T.n_tuple (by decide +kernel) rfl) pa_nil))) (pe_callB call_isi (by rfl) T.n_isinstance (by decide +kernel) (pa_cons (pv 1) (pa_cons (pe_bltn (v := .ty "tuple") (u := .type "tuple") rfl T.n_tuple (by decide +kernel) rfl) pa_nil))) (nomark _)) (pw_or1 (pt_not (pt_val (pe_callB call_isiT (by rfl) T.n_isinstance (by decide +kernel) (pa_cons (pv 0) (pa_cons (pe_tupN (pa_cons (pe_bltn (v := .ty "tuple") (u := .type "tuple") rfl T.n_tuple (by decide +kernel) rfl) (pa_cons (pe_bltn (v := .ty "list") (u := .type "list") rfl T.n_list (by decide +kernel) rfl) pa_nil))) pa_nil))))))))
    (pss_one (ps_ret pe_bl))
    pss_nil)
  (pss_one (ps_ret (pe_and (pe_cmpR op_eq (pe_callB call_len_seq (by rfl) T.n_len (by decide +kernel) (pa_cons (pv 0) pa_nil)) (pe_callB call_len_seq (by rfl) T.n_len (by decide +kernel) (pa_cons (pv 1) pa_nil)) (nomark _)) (pe_one (pe_callB (cr_all rfl) (by rfl) T.n_all (by decide +kernel) (pa_cons (pe_lc (own := [("_law_one", 2), ("_law_two", 3)]) (g := (gTup K 2 (gCons (gName 2) (gCons (gName 3) gNil)))) (tt := tYes) rfl sc__law_is.nd (RZ.pi_zipA (by rfl) T.n_zip (pa_cons (pv 0) (pa_cons (pv 1) pa_nil))) (blkOk_by (N := N__law_is) (sc := defScope s__law_is) (by decide +kernel)) (fun _ _ _ _ _ => (pg_tup rfl (pgs_cons (pg_name (i := 2) sc__law_is.nd rfl (by first | exact Or.inl rfl | exact Or.inr rfl)) (pgs_cons (pg_name (i := 3) sc__law_is.nd rfl (by first | exact Or.inl rfl | exact Or.inr rfl)) pgs_nil)))) (fun _ _ _ _ _ => pts_nil) (fun _ _ _ _ _ => (pe_call ih (hr.mono (by omega)) rfl T.m__law_is T.F__law_is.kp T.b__law_is .nil pass0 (pa_cons (pv 2) (pa_cons (pv 3) pa_nil))))) pa_nil)))))))
    pss_nil)
  (pss_one (ps_ret (pe_and (pe_cmpR op_eq (pe_callB call_isi (by rfl) T.n_isinstance (by decide +kernel) (pa_cons (pv 0) (pa_cons (pe_bltn (v := .ty "bool") (u := .type "bool") rfl T.n_bool (by decide +kernel) rfl) pa_nil))) (pe_callB call_isi (by rfl) T.n_isinstance (by decide +kernel) (pa_cons (pv 1) (pa_cons (pe_bltn (v := .ty "bool") (u := .type "bool") rfl T.n_bool (by decide +kernel) rfl) pa_nil))) (nomark _)) (pe_one (pe_cmpR (op_eqD hr.units) (pv 0) (pv 1) (nomark _))))))), ?_⟩
    walk_at "ws"
    refine ⟨sz (by simp), fun p H1 hp g1 h1 => ?_⟩
    have g1 := g1 none
    walk_at "ws"
    refine r_isiT h1 ((dp_n g1).1 _ _ hu) ?_
    rcases od with od | ⟨ds, od, hz, hds⟩
    · rw [scal1_tl od]
      walk_at "ws"
      refine r_isi (ty_of ((dp_n g1).1 _ _ hv)) (ki_bool d) ?_
      walk_at "ws"
      refine r_isi (ty_of ((dp_n g1).1 _ _ hu)) (ki_bool d) ?_
      walk_at "ws"
      refine w_iteE (by simp) ?_
      walk_at "ws"
      refine ⟨d, d, (dp_n g1).1 _ _ hv, (dp_n g1).1 _ _ hu, scal1_sh od, scal1_sh od, ?_⟩
      rw [scal1_eqv od]
      exact k _ g1
    · have e1 : (isTup d || isLst d) = true := by rcases od with rfl | rfl <;> rfl
      rw [e1]
      have hv1 := (dp_n g1).1 _ _ hv
      have hu1 := (dp_n g1).1 _ _ hu
      walk_at "ws"
      refine r_isi (ty_of hv1) (ki_tup d) ?_
      walk_at "ws"
      refine r_isi (ty_of hu1) (ki_tup d) ?_
      walk_at "ws"
      refine w_iteN (by simp) ?_
      walk_at "ws"
      refine ⟨sz (by simp), fun p2 H2 hp2 g2 h2 => ?_⟩
      have g2 := g2 none
      have hv2 := (dp_n g2).1 _ _ hv1
      have hu2 := (dp_n g2).1 _ _ hu1
      have g12 := g1.trans g2
      walk_at "ws"
      refine r_isiT h2 hv2 ?_
      rw [e1]
      walk_at "ws"
      -- the turn of one pair
      have turn : ∀ (i : Nat) (xs ys : List V) (H3 H4 : Hp) (x : V) (Qy : V → Hp → Prop) (Qn : Hp → Prop), DpAll K H2 xs ds → DpAll K H2 ys ds → G none H2 H3 → YPair (fun i => xs[i]?) (fun i => ys[i]?) i H3 x H4 →
          (∀ y H5 e, G none H3 H5 → Dp K H5 y e → nl e = true → some (PyData.bool true) = some e → Qy y H5) →
          ∃ (t : Addr) (y z : V) (e : PyData), x = .ref t ∧ H4 t = some (.tup [y, z]) ∧ e ∈ ds ∧ Dp K H4 y e ∧ Dp K H4 z e ∧ G none H3 H4 := by
        intro i xs ys H3 H4 x Qy Qn hx hy g3 hY ky
        obtain ⟨t, y, z, rfl, ht, rfl, ey, ez⟩ := hY
        obtain ⟨e, he, hye⟩ := DpAll.get hx ey
        obtain ⟨e', he', hze⟩ := DpAll.get hy ez
        rw [he] at he'; cases he'
        have g4 : G none H3 (upd H3 t (.tup [y, z])) := G.alloc ht
        exact ⟨t, y, z, e, rfl, upd_same, List.mem_of_getElem? he, (dp_n (g3.trans g4)).1 _ _ hye, (dp_n (g3.trans g4)).1 _ _ hze, g4⟩
      rcases od with rfl | rfl
      · obtain ⟨p3, xs, rfl, hxs, hxd⟩ := dp_tup hv2
        obtain ⟨p4, ys, rfl, hys, hyd⟩ := dp_tup hu2
        walk_at "ws"
        refine ⟨p3, xs, rfl, .inr hxs, ?_⟩
        walk_at "ws"
        refine ⟨p4, ys, rfl, .inr hys, ?_⟩
        walk_at "ws"
        have lx := DpAll.length hxd
        have ly := DpAll.length hyd
        refine w_iteE (by simp [lx, ly]) ?_
        walk_at "ws"
        refine ⟨p3, p4, xs, ys, rfl, .inr ⟨hxs, hys, ?_⟩⟩
        intro D hD
        refine lc_pure (K := K) (o := none) (walk_zipT (xs := xs) (ys := ys) rfl) (by omega) hD (fun _ e => nomatch e) (fun _ => some (PyData.bool true)) (fun H' g => ⟨sqT_t g.tups hxs, sqT_t g.tups hys⟩) ?_ ?_
        · intro i x H3 H4 hi g3 hY Qy Qn ky kn
          obtain ⟨t, y, z, e, rfl, h4, me, hy4, hz4, g4⟩ := turn i xs ys H3 H4 x Qy Qn hxd hyd g3 hY ky
          refine ⟨t, _, rfl, SqT.of h4, rfl, ?_⟩
          refine ⟨_, _, rfl, ?_⟩
          walk_at "ws"
          refine ⟨_, _, rfl, ?_⟩
          walk_at "ws"
          refine ⟨rfl, rfl, ?_⟩
          walk_at "ws"
          exact ⟨y, z, e, rfl, hds e me, hy4, hz4, fun H5 g5 => ky _ _ _ (g4.trans g5) (.bl true) rfl rfl⟩
        · intro xs' H' g hD' hds' _
          obtain ⟨bs, rfl, eb⟩ := bools_true hds'
          walk_at "ws"
          refine ⟨D, bs, rfl, SqL.of hD', ?_⟩
          rw [eb]
          exact k _ (g12.trans g)
      · cases hv2 with
        | lst hxs hxd =>
          cases hu2 with
          | lst hys hyd =>
            rename_i p3 xs p4 ys
            walk_at "ws"
            refine ⟨p3, xs, rfl, .inl hxs, ?_⟩
            walk_at "ws"
            refine ⟨p4, ys, rfl, .inl hys, ?_⟩
            walk_at "ws"
            have lx := DpAll.length hxd
            have ly := DpAll.length hyd
            refine w_iteE (by simp [lx, ly]) ?_
            walk_at "ws"
            refine ⟨p3, p4, xs, ys, rfl, .inl ⟨hxs, hys, ?_⟩⟩
            intro D hD
            refine lc_pure (K := K) (o := none) (walk_zip (xs := xs) (ys := ys) rfl) (by omega) hD (fun _ e => nomatch e) (fun _ => some (PyData.bool true)) (fun H' g => ⟨sqL_n g hxs, sqL_n g hys⟩) ?_ ?_
            · intro i x H3 H4 hi g3 hY Qy Qn ky kn
              obtain ⟨t, y, z, e, rfl, h4, me, hy4, hz4, g4⟩ := turn i xs ys H3 H4 x Qy Qn hxd hyd g3 hY ky
              refine ⟨t, _, rfl, SqT.of h4, rfl, ?_⟩
              refine ⟨_, _, rfl, ?_⟩
              walk_at "ws"
              refine ⟨_, _, rfl, ?_⟩
              walk_at "ws"
              refine ⟨rfl, rfl, ?_⟩
              walk_at "ws"
              exact ⟨y, z, e, rfl, hds e me, hy4, hz4, fun H5 g5 => ky _ _ _ (g4.trans g5) (.bl true) rfl rfl⟩
            · intro xs' H' g hD' hds' _
              obtain ⟨bs, rfl, eb⟩ := bools_true hds'
              walk_at "ws"
              refine ⟨D, bs, rfl, SqL.of hD', ?_⟩
              rw [eb]
              exact k _ (g12.trans g)

end
end Mine
/-! ## K20 -/


namespace Mine
section
variable {P : Program} {w : World} {K : PySem.W.Frag} {mg : Str → Option Value} {base : Heap} {a : Ads}

/-! ### pairs there and back, all but one -/
/-- a list or a tuple of pairs -/
def PL (K : PySem.W.Frag) (H : Hp) (p : Addr) (us : List (Int × Int)) : Prop := ∃ xs, (SqL K H p xs ∨ SqT K H p xs) ∧ DpAll K H xs (us.map dP)
theorem PL.n {H H' : Hp} {p : Addr} {us : List (Int × Int)} (h : PL K H p us) (g : G none H H') : PL K H' p us := by
  obtain ⟨xs, h1, h2⟩ := h
  exact ⟨xs, h1.imp (sqL_n g) (sqT_t g.tups), (dp_n g).2 _ _ h2⟩
theorem PL.of {H : Hp} {p : Addr} {xs : List V} {us : List (Int × Int)} (h : H p = some (.lst xs)) (d : DpAll K H xs (us.map dP)) : PL K H p us := ⟨xs, .inl (SqL.of h), d⟩
theorem Fil.pl {o : Option (Addr × Addr)} {H0 H : Hp} {D : Addr} {us : List (Int × Int)} (f : Fil K o H0 H D us) : PL K H D us := by
  obtain ⟨_, xs, h1, h2⟩ := f
  exact .of h1 h2
def dbl (us : List (Int × Int)) : List (Int × Int) := us.flatMap fun u => [u, (u.2, u.1)]
theorem dbl_len (us : List (Int × Int)) : (dbl us).length = 2 * us.length := by
  induction us with
  | nil => rfl
  | cons u us ih =>
    have e : dbl (u :: us) = u :: (u.2, u.1) :: dbl us := rfl
    rw [e, List.length_cons, List.length_cons, List.length_cons, ih]
    omega
theorem dbl_mem (us : List (Int × Int)) (v : Int × Int) : v ∈ dbl us ↔ v ∈ us ∨ (v.2, v.1) ∈ us := by
  unfold dbl
  rw [List.mem_flatMap]
  constructor
  · rintro ⟨u, hu, hv⟩
    rcases List.mem_cons.mp hv with e | hv
    · exact .inl (e ▸ hu)
    · have e : v = (u.2, u.1) := by simpa using hv
      subst e
      exact .inr hu
  · rintro (h | h)
    · exact ⟨v, h, by simp⟩
    · exact ⟨_, h, by simp⟩
theorem dbl_take {us : List (Int × Int)} {i : Nat} {u : Int × Int} (h : us[i]? = some u) : dbl (us.take (i + 1)) = dbl (us.take i) ++ [u, (u.2, u.1)] := by
  unfold dbl
  rw [List.take_add_one, h, List.flatMap_append]
  rfl
def sp_there_and_back (K : PySem.W.Frag) : Sp := fun vs H Q _ => ∃ (p : Addr) (us : List (Int × Int)), vs = [.ref p] ∧ PL K H p us ∧ us.length ≤ 31 ∧ ∀ D H', H D = none → Fil K none H H' D (dbl us) → Q (.ref D) H'
theorem ok_there_and_back (T : Txt K mg a) : FnOk P w K mg base CX0 1 a.f_there_and_back a.d_there_and_back P_there_and_back (sp_there_and_back K) := by
  refine T.F_there_and_back.ok sc_there_and_back (fun vs H Q E h => by obtain ⟨p, us, rfl, _⟩ := h; rfl) (fun cdv A outer s H vs Q E hr h => ?_)
  obtain ⟨p, us, rfl, hp, hz, k⟩ := h
  refine ⟨_, (pss_one (ps_ret (pe_lc2 (own := [("one", 1), ("other", 2), ("wire", 3)]) (vs1 := [3]) (g := (gTup K 2 (gCons (gName 1) (gCons (gName 2) gNil)))) (g1 := (gName 3)) (tt := tYes) (tt1 := tYes) rfl sc_there_and_back.nd (pi_seq (pv 0)) (blkOk_by (N := N_there_and_back) (sc := defScope s_there_and_back) (by decide +kernel)) (by decide) (fun _ _ _ _ _ => (pg_tup rfl (pgs_cons (pg_name (i := 1) sc_there_and_back.nd rfl (by first | exact Or.inl rfl | exact Or.inr rfl)) (pgs_cons (pg_name (i := 2) sc_there_and_back.nd rfl (by first | exact Or.inl rfl | exact Or.inr rfl)) pgs_nil)))) (fun _ _ _ _ _ => pts_nil) (fun _ _ _ _ _ => (k_pi_tup K (pe_tupN (pa_cons (pe_tupN (pa_cons (pv 1) (pa_cons (pv 2) pa_nil))) (pa_cons (pe_tupN (pa_cons (pv 2) (pa_cons (pv 1) pa_nil))) pa_nil))))) (fun _ _ _ _ _ => (pg_name (i := 3) sc_there_and_back.nd rfl (by first | exact Or.inl rfl | exact Or.inr rfl))) (fun _ _ _ _ _ => pts_nil) (fun _ _ _ _ _ => (pv 3))))), ?_⟩
  walk_at "ws"
  obtain ⟨xs, hx, hd⟩ := hp
  have hxl : xs.length = us.length := by rw [DpAll.length hd, List.length_map]
  have turn : ∀ (D : Addr) (i : Nat) (x : V) (H2 : Hp), Fil K none H H2 D (dbl (us.take i)) → xs[i]? = some x → ∃ (q : Addr) (u : Int × Int), x = .ref q ∧ SqT K H2 q [.int u.1, .int u.2] ∧ us[i]? = some u := by
    intro D i x H2 f hx
    obtain ⟨d, hd1, hd2⟩ := DpAll.get hd hx
    rw [List.getElem?_map] at hd1
    obtain ⟨u, hu1, rfl⟩ := Option.map_eq_some_iff.mp hd1
    obtain ⟨q, rfl, hq⟩ := dp_dP hd2
    exact ⟨q, u, rfl, sqT_t f.1.tups hq, hu1⟩
  rcases hx with hx | hx
  · refine ⟨p, rfl, .inl ⟨⟨xs, hx⟩, ?_⟩⟩
    intro D hD
    refine lc2_it (walk_list (xs := xs)) (fun i H2 => Fil K none H H2 D (dbl (us.take i))) (Fil.nil G.refl hD fun _ e => nomatch e) (fun i H2 _ f => sqL_n f.1 hx) ?_ ?_
    · rintro i x _ H2 hi f ⟨rfl, hx1⟩
      obtain ⟨q, u, rfl, hq, hui⟩ := turn D i x _ f hx1
      refine ⟨q, _, rfl, hq, rfl, ?_⟩
      refine ⟨_, _, rfl, ?_⟩
      walk_at "ws"
      refine ⟨_, _, rfl, ?_⟩
      walk_at "ws"
      refine ⟨rfl, rfl, ?_⟩
      walk_at "ws"
      refine ⟨sz (by simp), fun t1 H3 ht1 g3 h3 => ?_⟩
      walk_at "ws"
      refine ⟨sz (by simp), fun t2 H4 ht2 g4 h4 => ?_⟩
      walk_at "ws"
      refine ⟨sz (by simp), fun t3 H5 ht3 g5 h5 => ?_⟩
      refine i_tup (SqT.of h5) ?_
      have f5 := f.g (((g3 none).trans (g4 none)).trans (g5 none)) off_none
      have d1 : Dp K H5 (.ref t1) (dP u) := dp_ofP (SqT.of (((g4 none).trans (g5 none)).all _ _ h3))
      have d2 : Dp K H5 (.ref t2) (dP (u.2, u.1)) := dp_ofP (SqT.of ((g5 none).all _ _ h4))
      have zl : (dbl (us.take i)).length ≤ 1000 := by rw [dbl_len, List.length_take]; omega
      refine in_it (walk_tup (xs := [V.ref t1, V.ref t2])) (fun j H6 => Ts H5 H6 ∧ Fil K none H H6 D (dbl (us.take i) ++ [u, (u.2, u.1)].take j)) ⟨fun _ _ h => h, by rw [List.take_zero, List.append_nil]; exact f5⟩ (fun j H6 _ f => sqT_t f.1 (SqT.of h5)) ?_ ?_
      · rintro j y _ H6 hj ⟨g6, f6⟩ ⟨rfl, hy⟩
        refine ⟨rfl, ?_⟩
        walk_at "ws"
        have hc : (j = 0 ∧ y = .ref t1) ∨ (j = 1 ∧ y = .ref t2) := by
          match j, hj, hy with
          | 0, _, hy => exact .inl ⟨rfl, (Option.some.inj hy).symm⟩
          | 1, _, hy => exact .inr ⟨rfl, (Option.some.inj hy).symm⟩
        rcases hc with ⟨rfl, rfl⟩ | ⟨rfl, rfl⟩
        · obtain ⟨acc, z1, z2, z3⟩ := f6.app hD (fun _ e => nomatch e) (dp_t g6 _ _ (nl_dP _) d1) (by simp; omega)
          exact ⟨acc, z1, z2, g6.trans (Ts.updl z1), by simpa using z3⟩
        · obtain ⟨acc, z1, z2, z3⟩ := f6.app hD (fun _ e => nomatch e) (dp_t g6 _ _ (nl_dP _) d2) (by simp; omega)
          exact ⟨acc, z1, z2, g6.trans (Ts.updl z1), by simpa using z3⟩
      · intro H6 f6
        have f6 := f6.2
        rw [dbl_take hui]
        exact f6
    · intro H2 f
      rw [hxl, List.take_of_length_le (Nat.le_refl _)] at f
      walk_at "ws"
      exact k D H2 hD f
  · refine ⟨p, rfl, .inr ⟨⟨xs, hx⟩, ?_⟩⟩
    intro D hD
    refine lc2_it (walk_tup (xs := xs)) (fun i H2 => Fil K none H H2 D (dbl (us.take i))) (Fil.nil G.refl hD fun _ e => nomatch e) (fun i H2 _ f => sqT_t f.1.tups hx) ?_ ?_
    · rintro i x _ H2 hi f ⟨rfl, hx1⟩
      obtain ⟨q, u, rfl, hq, hui⟩ := turn D i x _ f hx1
      refine ⟨q, _, rfl, hq, rfl, ?_⟩
      refine ⟨_, _, rfl, ?_⟩
      walk_at "ws"
      refine ⟨_, _, rfl, ?_⟩
      walk_at "ws"
      refine ⟨rfl, rfl, ?_⟩
      walk_at "ws"
      refine ⟨sz (by simp), fun t1 H3 ht1 g3 h3 => ?_⟩
      walk_at "ws"
      refine ⟨sz (by simp), fun t2 H4 ht2 g4 h4 => ?_⟩
      walk_at "ws"
      refine ⟨sz (by simp), fun t3 H5 ht3 g5 h5 => ?_⟩
      refine i_tup (SqT.of h5) ?_
      have f5 := f.g (((g3 none).trans (g4 none)).trans (g5 none)) off_none
      have d1 : Dp K H5 (.ref t1) (dP u) := dp_ofP (SqT.of (((g4 none).trans (g5 none)).all _ _ h3))
      have d2 : Dp K H5 (.ref t2) (dP (u.2, u.1)) := dp_ofP (SqT.of ((g5 none).all _ _ h4))
      have zl : (dbl (us.take i)).length ≤ 1000 := by rw [dbl_len, List.length_take]; omega
      refine in_it (walk_tup (xs := [V.ref t1, V.ref t2])) (fun j H6 => Ts H5 H6 ∧ Fil K none H H6 D (dbl (us.take i) ++ [u, (u.2, u.1)].take j)) ⟨fun _ _ h => h, by rw [List.take_zero, List.append_nil]; exact f5⟩ (fun j H6 _ f => sqT_t f.1 (SqT.of h5)) ?_ ?_
      · rintro j y _ H6 hj ⟨g6, f6⟩ ⟨rfl, hy⟩
        refine ⟨rfl, ?_⟩
        walk_at "ws"
        have hc : (j = 0 ∧ y = .ref t1) ∨ (j = 1 ∧ y = .ref t2) := by
          match j, hj, hy with
          | 0, _, hy => exact .inl ⟨rfl, (Option.some.inj hy).symm⟩
          | 1, _, hy => exact .inr ⟨rfl, (Option.some.inj hy).symm⟩
        rcases hc with ⟨rfl, rfl⟩ | ⟨rfl, rfl⟩
        · obtain ⟨acc, z1, z2, z3⟩ := f6.app hD (fun _ e => nomatch e) (dp_t g6 _ _ (nl_dP _) d1) (by simp; omega)
          exact ⟨acc, z1, z2, g6.trans (Ts.updl z1), by simpa using z3⟩
        · obtain ⟨acc, z1, z2, z3⟩ := f6.app hD (fun _ e => nomatch e) (dp_t g6 _ _ (nl_dP _) d2) (by simp; omega)
          exact ⟨acc, z1, z2, g6.trans (Ts.updl z1), by simpa using z3⟩
      · intro H6 f6
        have f6 := f6.2
        rw [dbl_take hui]
        exact f6
    · intro H2 f
      rw [hxl, List.take_of_length_le (Nat.le_refl _)] at f
      walk_at "ws"
      exact k D H2 hD f

def sp_all_but (K : PySem.W.Frag) : Sp := fun vs H Q _ => ∃ (q wa : Addr) (ws : List (Int × Int)) (w0 : Int × Int), vs = [.ref q, .ref wa] ∧ Dp K H (.ref q) (dP w0) ∧ Dp K H (.ref wa) (dW ws) ∧ ws.length ≤ 1000 ∧
  ∀ D xs H', H D = none → G none H H' → H' D = some (.lst xs) → DpAll K H' xs ((ws.filter fun v => !decide (v = w0)).map dP) → Q (.ref D) H'
theorem keep_map (ws : List (Int × Int)) (w0 : Int × Int) : (ws.filterMap fun v => if v = w0 then none else some (dP v)) = (ws.filter fun v => !decide (v = w0)).map dP := by
  induction ws with
  | nil => rfl
  | cons w ws ih =>
    rw [List.filterMap_cons, List.filter_cons]
    by_cases c : w = w0
    · simp only [c, if_true, decide_true, Bool.not_true, Bool.false_eq_true, if_false]
      exact ih
    · simp only [c, if_false, decide_false, Bool.not_false, if_true, List.map_cons]
      rw [ih]

end
end Mine
/-! ## KP -/
end
namespace Mine
/-! ### ways of wires -/
inductive Reach (ws : List (Int × Int)) : Int → Int → Prop where
  | refl (y : Int) : Reach ws y y
  | step {y z x : Int} : Reach ws y z → (z, x) ∈ ws → Reach ws y x
theorem Reach.trans {ws : List (Int × Int)} {y z x : Int} (h : Reach ws y z) (h' : Reach ws z x) : Reach ws y x := by
  induction h' with
  | refl => exact h
  | step _ e ih => exact .step ih e
theorem Reach.one {ws : List (Int × Int)} {y x : Int} (h : (y, x) ∈ ws) : Reach ws y x := .step (.refl y) h
/-- by way of machines below k alone -/
inductive Via (ws : List (Int × Int)) (k : Int) : Int → Int → Prop where
  | refl (y : Int) : Via ws k y y
  | one {y x : Int} : (y, x) ∈ ws → Via ws k y x
  | mid {y z x : Int} : z < k → Via ws k y z → Via ws k z x → Via ws k y x
theorem Via.up {ws : List (Int × Int)} {k : Int} {y x : Int} (h : Via ws (k + 1) y x) : Via ws k y x ∨ (Via ws k y k ∧ Via ws k k x) := by
  induction h with
  | refl y => exact .inl (.refl y)
  | one e => exact .inl (.one e)
  | mid hz _ _ h1 h2 =>
    rename_i y z x _ _
    by_cases e : z = k
    · subst e
      have a : Via ws z y z := by rcases h1 with h | h; exact h; exact h.1
      have b : Via ws z z x := by rcases h2 with h | h; exact h; exact h.2
      exact .inr ⟨a, b⟩
    · have hz' : z < k := by omega
      rcases h1 with h1 | h1
      · rcases h2 with h2 | h2
        · exact .inl (.mid hz' h1 h2)
        · exact .inr ⟨.mid hz' h1 h2.1, h2.2⟩
      · rcases h2 with h2 | h2
        · exact .inr ⟨h1.1, .mid hz' h1.2 h2⟩
        · exact .inr ⟨h1.1, h2.2⟩
theorem Reach.via {ws : List (Int × Int)} {m : Int} (hm : ∀ u ∈ ws, u.1 < m ∧ u.2 < m) {y x : Int} (h : Reach ws y x) : Via ws m y x := by
  induction h with
  | refl => exact .refl _
  | step _ e ih => exact .mid (hm _ e).1 ih (.one e)

/-! ### what is found on the way -/
structure Fnd (m : Int) (ws : List (Int × Int)) (y : Int) (ks ls : List Int) : Prop where
  nd : ks.Nodup
  rng : ∀ k ∈ ks, 0 ≤ k ∧ k < m
  reach : ∀ k ∈ ks, Reach ws y k
  sub : ∀ k ∈ ls, k ∈ ks
  begin_ : y ∈ ks
theorem Fnd.len {m : Int} {ws : List (Int × Int)} {y : Int} {ks ls : List Int} (h : Fnd m ws y ks ls) (hm : m ≤ 7) : ks.length ≤ 7 := by
  have := List.Nodup.length_le_of_subset (l₂ := (List.range 7).map fun i => ((i : Nat) : Int)) h.nd fun k hk => by
    have := h.rng k hk
    exact List.mem_map.mpr ⟨k.toNat, List.mem_range.mpr (by omega), by omega⟩
  simpa using this
/-- all ways out of those that are done are taken -/
def Shut (ws : List (Int × Int)) (ks ls : List Int) : Prop := ∀ k ∈ ks, k ∈ ls ∨ ∀ z, (k, z) ∈ ws → z ∈ ks
theorem Fnd.all {m : Int} {ws : List (Int × Int)} {y : Int} {ks : List Int} (h : Fnd m ws y ks []) (c : Shut ws ks []) (z : Int) : z ∈ ks ↔ Reach ws y z := by
  refine ⟨h.reach z, fun r => ?_⟩
  induction r with
  | refl => exact h.begin_
  | step _ e ih =>
    rcases c _ ih with q | q
    · exact absurd q (by simp)
    · exact q _ e
/-- within the turn of one machine: the wires of the first i are looked at -/
structure Trn (m : Int) (ws : List (Int × Int)) (y : Int) (ks0 ls0 : List Int) (here : Int) (i : Nat) (ks ls : List Int) : Prop where
  f : Fnd m ws y ks ls
  shut : ∀ k ∈ ks, k ∈ ls ∨ k = here ∨ ∀ z, (k, z) ∈ ws → z ∈ ks
  seen : ∀ (j : Nat) (x : Int), j < i → ws[j]? = some (here, x) → x ∈ ks
  cnt : ls.length + ks0.length = ls0.length + ks.length
  more : ks0.length ≤ ks.length
  at_ : here ∈ ks
theorem Trn.skip {m : Int} {ws : List (Int × Int)} {y : Int} {ks0 ls0 : List Int} {here : Int} {i : Nat} {ks ls : List Int} (h : Trn m ws y ks0 ls0 here i ks ls) {u : Int × Int} (hu : ws[i]? = some u) (c : u.1 = here → u.2 ∈ ks) : Trn m ws y ks0 ls0 here (i + 1) ks ls :=
  ⟨h.f, h.shut, fun j x hj e => by
    by_cases c2 : j = i
    · subst c2
      rw [hu] at e
      cases e
      exact c rfl
    · exact h.seen j x (by omega) e, h.cnt, h.more, h.at_⟩
theorem Trn.add {m : Int} {ws : List (Int × Int)} {y : Int} {ks0 ls0 : List Int} {here : Int} {i : Nat} {ks ls : List Int} (h : Trn m ws y ks0 ls0 here i ks ls) {u : Int × Int} (hu : ws[i]? = some u) (c : u.1 = here) (n : u.2 ∉ ks) (hr : 0 ≤ u.2 ∧ u.2 < m) :
    Trn m ws y ks0 ls0 here (i + 1) (ks ++ [u.2]) (ls ++ [u.2]) := by
  have hm : u ∈ ws := List.mem_of_getElem? hu
  refine ⟨⟨?_, ?_, ?_, ?_, List.mem_append_left _ h.f.begin_⟩, ?_, ?_, ?_, ?_, List.mem_append_left _ h.at_⟩
  · rw [List.nodup_append]
    exact ⟨h.f.nd, by simp, fun a ha b hb => by
      have e : b = u.2 := by simpa using hb
      rw [e]; intro e2; exact n (e2 ▸ ha)⟩
  · intro k hk
    rcases List.mem_append.mp hk with z | z
    · exact h.f.rng k z
    · have e : k = u.2 := by simpa using z
      rw [e]; exact hr
  · intro k hk
    rcases List.mem_append.mp hk with z | z
    · exact h.f.reach k z
    · have e : k = u.2 := by simpa using z
      rw [e]
      refine .step (h.f.reach here h.at_) ?_
      rw [← c]; exact hm
  · intro k hk
    rcases List.mem_append.mp hk with z | z
    · exact List.mem_append_left _ (h.f.sub k z)
    · exact List.mem_append_right _ z
  · intro k hk
    rcases List.mem_append.mp hk with z | z
    · rcases h.shut k z with q | q | q
      · exact .inl (List.mem_append_left _ q)
      · exact .inr (.inl q)
      · exact .inr (.inr fun z hz => List.mem_append_left _ (q z hz))
    · exact .inl (List.mem_append_right _ z)
  · intro j x hj e
    by_cases c2 : j = i
    · subst c2
      rw [hu] at e
      cases e
      exact List.mem_append_right _ (by simp)
    · exact List.mem_append_left _ (h.seen j x (by omega) e)
  · have := h.cnt
    simp only [List.length_append, List.length_singleton]
    omega
  · have := h.more
    simp only [List.length_append]
    omega
theorem Trn.done {m : Int} {ws : List (Int × Int)} {y : Int} {ks0 ls0 : List Int} {here : Int} {ks ls : List Int} (h : Trn m ws y ks0 ls0 here ws.length ks ls) : Shut ws ks ls := fun k hk => by
  rcases h.shut k hk with q | q | q
  · exact .inl q
  · refine .inr fun z hz => ?_
    obtain ⟨j, hj⟩ := List.getElem?_of_mem hz
    rw [q] at hj
    exact h.seen j z (List.getElem?_eq_some_iff.mp hj).1 hj
  · exact .inr q
end Mine
/-! ## FF -/
namespace Mine
/-! ### what grows, and what the leading of letters comes to -/
abbrev dAt (ds : List (List Int)) (x : Nat) : List Int := ds.getD x []
abbrev aheadOf (d : List Int) (p : Int) : List Int := d.take (d.idxOf p)
def Grow (ds : List (List Int)) (y x : Nat) (p : Int) : Prop := p ∈ dAt ds y ∧ p ∈ dAt ds x ∧ ∀ q ∈ aheadOf (dAt ds y) p, q ∈ aheadOf (dAt ds x) p
instance (ds : List (List Int)) (y x : Nat) (p : Int) : Decidable (Grow ds y x p) := by unfold Grow; infer_instance
def growL (W : List (Int × Int)) (ds : List (List Int)) (p : Int) : List (Int × Int) := W.filter fun u => decide (Grow ds u.1.toNat u.2.toNat p)
structure Rec (ws : List Int) (ds : List (List Int)) : Prop where
  nd : ∀ d ∈ ds, d.Nodup
  rng : ∀ d ∈ ds, ∀ p ∈ d, 0 ≤ p ∧ p < ws.length
/-- x can write what is next in its diary -/
def Can (W : List (Int × Int)) (ws : List Int) (ds : List (List Int)) (n : Nat → Nat) (x : Nat) : Prop :=
  ∃ p, (dAt ds x)[n x]? = some p ∧ (ws[p.toNat]? = some (x : Int) ∨ ∃ y : Nat, ((y : Int), (x : Int)) ∈ W ∧ Grow ds y x p ∧ p ∈ (dAt ds y).take (n y))
def Full (W : List (Int × Int)) (ws : List Int) (ds : List (List Int)) : Prop := ∀ (p : Nat) (w : Int) (x : Nat), ws[p]? = some w → (p : Int) ∈ dAt ds x → Reach (growL W ds p) w x
theorem nd_at {l : List Int} (nd : l.Nodup) {i j : Nat} (hi : i < l.length) (hj : j < l.length) (e : l[i] = l[j]) : i = j := by
  rcases Nat.lt_trichotomy i j with h | h | h
  · exact absurd e (List.pairwise_iff_getElem.mp nd i j hi hj h)
  · exact h
  · exact absurd e.symm (List.pairwise_iff_getElem.mp nd j i hj hi h)
theorem mem_take_idx {d : List Int} {p : Int} {k : Nat} (nd : d.Nodup) (h : p ∈ d) : p ∈ d.take k ↔ d.idxOf p < k := by
  have hi := List.idxOf_lt_length_iff.mpr h
  have e : d[d.idxOf p] = p := List.getElem_idxOf hi
  constructor
  · intro m
    obtain ⟨j, hj, ej⟩ := List.getElem_of_mem m
    rw [List.length_take] at hj
    rw [List.getElem_take] at ej
    have : d.idxOf p = j := by
      rw [← ej]
      have z : d.idxOf d[j] < d.length := List.idxOf_lt_length_iff.mpr (List.getElem_mem _)
      exact nd_at nd z (by omega) (List.getElem_idxOf z)
    omega
  · intro hk
    rw [List.mem_take_iff_getElem]
    exact ⟨d.idxOf p, by omega, e⟩
theorem dAt_mem {ds : List (List Int)} {x : Nat} {p : Int} (h : p ∈ dAt ds x) : dAt ds x ∈ ds := by
  unfold dAt at h ⊢
  rw [List.getD_eq_getElem?_getD] at h ⊢
  cases e : ds[x]? with
  | none => rw [e] at h; nomatch h
  | some d => rw [Option.getD_some]; exact List.mem_of_getElem? e
theorem grow_pos {ws : List Int} {ds : List (List Int)} (r : Rec ws ds) {y x : Nat} {p : Int} (g : Grow ds y x p) : (dAt ds y).idxOf p ≤ (dAt ds x).idxOf p := by
  have hy := List.idxOf_lt_length_iff.mpr g.1
  have nd : (aheadOf (dAt ds y) p).Nodup := (r.nd _ (dAt_mem g.1)).sublist (List.take_sublist _ _)
  have := List.Nodup.length_le_of_subset nd fun q hq => g.2.2 q hq
  rw [List.length_take, List.length_take] at this
  omega
section
variable {W : List (Int × Int)} {ws : List Int} {ds : List (List Int)} {n : Nat → Nat}
theorem ff_stuck (r : Rec ws ds) (wn : ∀ w ∈ ws, 0 ≤ w) (wW : ∀ u ∈ W, 0 ≤ u.1 ∧ 0 ≤ u.2) (full : Full W ws ds) (st : ∀ x, ¬ Can W ws ds n x) : ∀ k (x : Nat) (p : Int), p ∈ dAt ds x → (dAt ds x).idxOf p = k → k < n x := by
  intro k
  induction k using Nat.strongRecOn with
  | ind k ih =>
  intro x p hp hk
  have rg := r.rng _ (dAt_mem hp) p hp
  -- all that stand ahead are written
  have low : ∀ (z : Nat) (q : Int), q ∈ dAt ds z → (dAt ds z).idxOf q ≤ k → (dAt ds z).idxOf q ≤ n z := fun z q hq hl => by
    cases c : (dAt ds z).idxOf q with
    | zero => exact Nat.zero_le _
    | succ j =>
      have hlt := List.idxOf_lt_length_iff.mpr hq
      have hj : j < (dAt ds z).length := by omega
      have e := ih j (by omega) z (dAt ds z)[j] (List.getElem_mem hj) (by
        have z1 : (dAt ds z).idxOf (dAt ds z)[j] < (dAt ds z).length := List.idxOf_lt_length_iff.mpr (List.getElem_mem hj)
        exact nd_at (r.nd _ (dAt_mem hq)) z1 hj (List.getElem_idxOf z1))
      omega
  have next : ∀ (z : Nat), p ∈ dAt ds z → (dAt ds z).idxOf p = n z → (dAt ds z)[n z]? = some p := fun z hz e => by
    have hlt := List.idxOf_lt_length_iff.mpr hz
    rw [← e, List.getElem?_eq_getElem hlt]
    exact congrArg some (List.getElem_idxOf hlt)
  obtain ⟨w, hw⟩ : ∃ w, ws[p.toNat]? = some w := ⟨_, List.getElem?_eq_getElem (by omega)⟩
  have ep : ((p.toNat : Nat) : Int) = p := by omega
  have way : ∀ z : Int, Reach (growL W ds p) w z → p ∈ dAt ds z.toNat → (dAt ds z.toNat).idxOf p ≤ k → (dAt ds z.toNat).idxOf p < n z.toNat := by
    intro z hz
    induction hz with
    | refl =>
      intro hm hl
      rcases Nat.lt_or_ge ((dAt ds w.toNat).idxOf p) k with c | c
      · exact ih _ c _ _ hm rfl
      · have h1 := low _ _ hm hl
        rcases Nat.lt_or_ge ((dAt ds w.toNat).idxOf p) (n w.toNat) with c2 | c2
        · exact c2
        · refine absurd ⟨p, next _ hm (by omega), .inl ?_⟩ (st w.toNat)
          have := wn w (List.mem_of_getElem? hw)
          rw [hw]; congr 1; omega
    | @step z' z _ e ih2 =>
      intro hm hl
      obtain ⟨eW, eg⟩ := List.mem_filter.mp e
      have eg : Grow ds z'.toNat z.toNat p := of_decide_eq_true eg
      have le := grow_pos r eg
      have h0 := ih2 eg.1 (by omega)
      rcases Nat.lt_or_ge ((dAt ds z.toNat).idxOf p) k with c | c
      · exact ih _ c _ _ hm rfl
      · have h1 := low _ _ hm hl
        rcases Nat.lt_or_ge ((dAt ds z.toNat).idxOf p) (n z.toNat) with c2 | c2
        · exact c2
        · refine absurd ⟨p, next _ hm (by omega), .inr ⟨z'.toNat, ?_, eg, ?_⟩⟩ (st z.toNat)
          · have := wW _ eW
            have e1 : ((z'.toNat : Nat) : Int) = z' := by simp only at this; omega
            have e2 : ((z.toNat : Nat) : Int) = z := by simp only at this; omega
            rw [e1, e2]; exact eW
          · exact (mem_take_idx (r.nd _ (dAt_mem eg.1)) eg.1).mpr h0
  have ex : ((x : Int)).toNat = x := Int.toNat_natCast x
  have fin := way x (by have := full p.toNat w x hw (by rw [ep]; exact hp); rw [ep] at this; exact this)
  rw [ex] at fin
  have := fin hp (by omega)
  omega
/-- all that is written so far came along wires that grow -/
def Came (W : List (Int × Int)) (ws : List Int) (ds : List (List Int)) (n : Nat → Nat) : Prop := ∀ (x : Nat) (p : Int) (w : Int), p ∈ (dAt ds x).take (n x) → ws[p.toNat]? = some w → Reach (growL W ds p) w x
theorem came_step (c : Came W ws ds n) {x : Nat} {p : Int} (hp : (dAt ds x)[n x]? = some p) (h : ws[p.toNat]? = some (x : Int) ∨ ∃ y : Nat, ((y : Int), (x : Int)) ∈ W ∧ Grow ds y x p ∧ p ∈ (dAt ds y).take (n y)) :
    Came W ws ds (fun z => if z = x then n x + 1 else n z) := by
  intro z q w hq hw
  have hq : q ∈ (dAt ds z).take (if z = x then n x + 1 else n z) := hq
  by_cases e : z = x
  · subst e
    rw [if_pos rfl, List.take_add_one, hp] at hq
    rcases List.mem_append.mp hq with hq | hq
    · exact c z q w hq hw
    · have eq : q = p := by simpa using hq
      subst eq
      rcases h with h | ⟨y, h1, h2, h3⟩
      · rw [hw] at h; cases h; exact .refl _
      · exact .step (c y q w h3 hw) (List.mem_filter.mpr ⟨h1, decide_eq_true (by simpa using h2)⟩)
  · rw [if_neg e] at hq
    exact c z q w hq hw
theorem ff (r : Rec ws ds) (wn : ∀ w ∈ ws, 0 ≤ w) (wW : ∀ u ∈ W, 0 ≤ u.1 ∧ 0 ≤ u.2) (came : Came W ws ds n) (st : ∀ x, ¬ Can W ws ds n x) (hn : ∀ x, n x ≤ (dAt ds x).length) : (∀ x, n x = (dAt ds x).length) ↔ Full W ws ds := by
  constructor
  · intro h p w x hw hp
    have := came x p w (by rw [h x, List.take_length]; exact hp) (by simpa using hw)
    exact this
  · intro full x
    have h1 := hn x
    rcases Nat.lt_or_ge (n x) (dAt ds x).length with c | c
    · have := ff_stuck r wn wW full st (n x) x (dAt ds x)[n x] (List.getElem_mem c) (by
        have z1 : (dAt ds x).idxOf (dAt ds x)[n x] < (dAt ds x).length := List.idxOf_lt_length_iff.mpr (List.getElem_mem c)
        exact nd_at (r.nd _ (dAt_mem (List.getElem_mem c))) z1 c (List.getElem_idxOf z1))
      omega
    · omega
end
/-! ### the letter that comes -/
def come (own : List Int) (p : Int) : List Int → Nat
  | [] => 0
  | l :: ls => if l = p then 1 else if l ∈ own then (if come own p ls = 0 then 0 else come own p ls + 1) else 0
theorem come_pos {own : List Int} {p : Int} : ∀ {ls : List Int}, come own p ls ≠ 0 → ∃ i, come own p ls = i + 1 ∧ ls[i]? = some p ∧ ∀ j, j < i → ∀ l, ls[j]? = some l → l ∈ own
  | [], h => absurd rfl h
  | l :: ls, h => by
    unfold come at h ⊢
    by_cases c : l = p
    · rw [if_pos c]
      exact ⟨0, rfl, by rw [c]; rfl, fun j hj => absurd hj (Nat.not_lt_zero _)⟩
    · rw [if_neg c] at h ⊢
      by_cases c2 : l ∈ own
      · rw [if_pos c2] at h ⊢
        by_cases c3 : come own p ls = 0
        · rw [if_pos c3] at h; exact absurd rfl h
        · rw [if_neg c3]
          obtain ⟨i, e, h1, h2⟩ := come_pos c3
          refine ⟨i + 1, by rw [e], h1, fun j hj l' hl' => ?_⟩
          cases j with
          | zero =>
            have e : l = l' := by simpa using hl'
            rw [← e]; exact c2
          | succ j => exact h2 j (by omega) l' (by simpa using hl')
      · rw [if_neg c2] at h; exact absurd rfl h
theorem come_of {own : List Int} {p : Int} : ∀ {ls : List Int} {i : Nat}, ls[i]? = some p → (∀ j, j < i → ∀ l, ls[j]? = some l → l ∈ own) → come own p ls ≠ 0
  | [], i, h, _ => by simp at h
  | l :: ls, i, h, k => by
    unfold come
    by_cases c : l = p
    · rw [if_pos c]; exact Nat.one_ne_zero
    · rw [if_neg c]
      cases i with
      | zero => exact absurd (by simpa using h) c
      | succ i =>
        rw [if_pos (k 0 (by omega) l rfl)]
        have := come_of (ls := ls) (i := i) (by simpa using h) fun j hj l' hl' => k (j + 1) (by omega) l' (by simpa using hl')
        rw [if_neg this]
        exact Nat.succ_ne_zero _
/-- the letters on a wire: what its begin has written, but the first c -/
theorem come_grow {ws : List Int} {ds : List (List Int)} (r : Rec ws ds) {y x : Nat} {n : Nat → Nat} {c : Nat} {p : Int} (hp : (dAt ds x)[n x]? = some p) (hc : ∀ q ∈ ((dAt ds y).take (n y)).take c, q ∈ (dAt ds x).take (n x)) :
    come ((dAt ds x).take (n x)) p (((dAt ds y).take (n y)).drop c) ≠ 0 ↔ (Grow ds y x p ∧ p ∈ (dAt ds y).take (n y)) := by
  have hx : p ∈ dAt ds x := List.mem_of_getElem? hp
  have ndx := r.nd _ (dAt_mem hx)
  have hlt := (List.getElem?_eq_some_iff.mp hp).1
  have ix : (dAt ds x).idxOf p = n x := by
    have z1 : (dAt ds x).idxOf p < (dAt ds x).length := List.idxOf_lt_length_iff.mpr hx
    have e : (dAt ds x)[n x] = p := by rw [List.getElem?_eq_getElem hlt] at hp; exact Option.some.inj hp
    exact nd_at ndx z1 hlt ((List.getElem_idxOf z1).trans e.symm)
  have nox : p ∉ (dAt ds x).take (n x) := fun h => by
    have := (mem_take_idx ndx hx).mp h
    omega
  constructor
  · intro h
    obtain ⟨i, _, hi, hj⟩ := come_pos h
    rw [List.getElem?_drop] at hi
    have hpy : p ∈ (dAt ds y).take (n y) := List.mem_of_getElem? hi
    have hy : p ∈ dAt ds y := List.mem_of_mem_take hpy
    have ndy := r.nd _ (dAt_mem hy)
    have hil := (List.getElem?_eq_some_iff.mp hi).1
    have iy : (dAt ds y).idxOf p = c + i := by
      have z1 : (dAt ds y).idxOf p < (dAt ds y).length := List.idxOf_lt_length_iff.mpr hy
      rw [List.length_take] at hil
      have e : (dAt ds y)[c + i]'(by omega) = p := by
        have := (List.getElem?_eq_some_iff.mp hi).2
        rw [List.getElem_take] at this
        exact this
      exact nd_at ndy z1 (by omega) ((List.getElem_idxOf z1).trans e.symm)
    refine ⟨⟨hy, hx, fun q hq => ?_⟩, hpy⟩
    have ax : aheadOf (dAt ds x) p = (dAt ds x).take (n x) := by unfold aheadOf; rw [ix]
    have ay : aheadOf (dAt ds y) p = (dAt ds y).take (c + i) := by unfold aheadOf; rw [iy]
    rw [ax]
    rw [ay] at hq
    obtain ⟨j, hj1, ej⟩ := List.getElem_of_mem hq
    rw [List.length_take] at hj1
    rw [List.getElem_take] at ej
    rw [List.length_take] at hil
    by_cases cj : j < c
    · refine hc q ?_
      rw [← ej, List.take_take, List.mem_take_iff_getElem]
      exact ⟨j, by omega, rfl⟩
    · refine hj (j - c) (by omega) q ?_
      rw [List.getElem?_drop, List.getElem?_take]
      have e2 : c + (j - c) = j := by omega
      rw [e2, if_pos (by omega), List.getElem?_eq_getElem (by omega), ej]
  · rintro ⟨g, hpy⟩
    have hy := g.1
    have ndy := r.nd _ (dAt_mem hy)
    have iy := (mem_take_idx ndy hy).mp hpy
    have z1 : (dAt ds y).idxOf p < (dAt ds y).length := List.idxOf_lt_length_iff.mpr hy
    have ge : c ≤ (dAt ds y).idxOf p := by
      rcases Nat.lt_or_ge ((dAt ds y).idxOf p) c with z | z
      · refine absurd (hc p ?_) nox
        rw [List.take_take]
        exact (mem_take_idx ndy hy).mpr (by omega)
      · exact z
    refine come_of (i := (dAt ds y).idxOf p - c) ?_ fun j hj l hl => ?_
    · rw [List.getElem?_drop, List.getElem?_take]
      have e2 : c + ((dAt ds y).idxOf p - c) = (dAt ds y).idxOf p := by omega
      rw [e2, if_pos iy, List.getElem?_eq_getElem z1]
      exact congrArg some (List.getElem_idxOf z1)
    · rw [List.getElem?_drop, List.getElem?_take, if_pos (by omega)] at hl
      have q := g.2.2 l (by
        rw [List.mem_take_iff_getElem]
        have hl2 := List.getElem?_eq_some_iff.mp hl
        exact ⟨c + j, by have := hl2.1; omega, hl2.2⟩)
      have ax : aheadOf (dAt ds x) p = (dAt ds x).take (n x) := by unfold aheadOf; rw [ix]
      rw [ax] at q
      exact q
end Mine
/-! ## K21 -/
section
open PySem L2 GA
local macro_rules
  | `(tactic| walk_at "w") => `(tactic| first
    | ((with_reducible refine' GA.w_var ?e ?_); (case e => exact rfl))
    | (with_reducible refine' GA.w_c ?_)
    | (with_reducible refine' GA.w_cons ?_)
    | (with_reducible refine' GA.w_nil ?_)
    | (with_reducible refine' GA.w_op ?_)
    | (with_reducible refine' GA.r_I0 ?_)
    | (with_reducible refine' GA.w_bl ?_)
    | (with_reducible refine' GA.w_seq ?_)
    | (with_reducible refine' GA.w_set ?_)
    | (with_reducible refine' GA.w_ret ?_)
    | (with_reducible refine' GA.w_ifS ?_)
    | (with_reducible refine' GA.w_test ?_)
    | (with_reducible refine' GA.w_tB ?_)
    | (with_reducible refine' GA.w_not ?_)
    | (with_reducible refine' GA.w_and ?_)
    | (with_reducible refine' GA.w_or ?_)
    | (with_reducible refine' GA.w_andV ?_)
    | (with_reducible refine' GA.w_orV ?_)
    | (with_reducible refine' GA.w_notV ?_)
    | (with_reducible refine' GA.w_blc ?_)
    | (with_reducible refine' GA.w_if ?_)
    | (with_reducible refine' GA.w_CB ?_)
    | (with_reducible refine' GA.w_call ?_)
    | (with_reducible refine' GA.w_tupN ?_)
    | (with_reducible refine' GA.w_lstN ?_)
    | (with_reducible refine' GA.w_chain ?_)
    | (with_reducible refine' GA.w_drop ?_)
    | (with_reducible refine' GA.w_next ?_)
    | (with_reducible refine' GA.w_break ?_)
    | (with_reducible refine' GA.w_un ?_)
    | (with_reducible refine' GA.r_U ?_)
    | (with_reducible refine' GA.r_eqI ?_)
    | (with_reducible refine' GA.r_neI ?_)
    | (with_reducible refine' GA.r_eqB ?_)
    | (with_reducible refine' GA.r_neB ?_)
    | (with_reducible refine' GA.w_fld ?_)
    | (with_reducible refine' GA.w_sfld ?_)
    | (with_reducible refine' GA.w_sl ?_)
    | (with_reducible refine' GA.w_part ?_)
    | (with_reducible refine' GA.w_noPart ?_)
    | (with_reducible refine' GA.w_inti ?_)
    | (with_reducible refine' GA.w_retN ?_)
    | (with_reducible refine' GA.w_gsub ?_)
    | (with_reducible refine' GA.w_gname ?_)
    | (with_reducible refine' L2.iteT ?_)
    | (with_reducible refine' L2.iteF ?_)
    | (with_reducible refine' GA.w_nt ?_)
    | (with_reducible refine' GA.w_nf ?_)
    | (with_reducible refine' GA.w_isN ?_)
    | (with_reducible refine' GA.w_notN ?_)
    | (with_reducible refine' GA.w_yes ?_)
    | (with_reducible refine' GA.w_lc ?_)
    | (with_reducible refine' GA.w_lc2 ?_)
    | (with_reducible refine' GA.w_iseq ?_)
    | (with_reducible refine' GA.w_make ?_)
    | (with_reducible refine' GA.w_for ?_)
    | (with_reducible refine' GA.w_rng1 ?_)
    | (with_reducible refine' GA.w_rng2 ?_)
    | (with_reducible refine' GA.w_itup ?_)
    | (with_reducible refine' GA.w_ilist ?_)
    | (with_reducible refine' GA.w_ienum ?_)
    | (with_reducible refine' GA.w_BM ?_)
    | (with_reducible refine' GA.w_BM0 ?_)
    | (with_reducible refine' GA.w_izip ?_)
    | (with_reducible refine' GA.w_asg ?_))
  | `(tactic| walk_at "wm") => `(tactic| first
    | ((with_reducible refine' GA.w_var ?e ?_); (case e => exact rfl))
    | (with_reducible refine' GA.w_c ?_)
    | (with_reducible refine' GA.w_cons ?_)
    | (with_reducible refine' GA.w_nil ?_)
    | (with_reducible refine' GA.w_op ?_)
    | (with_reducible refine' GA.r_I0 ?_)
    | (with_reducible refine' GA.w_bl ?_)
    | (with_reducible refine' GA.w_set ?_)
    | (with_reducible refine' GA.w_ret ?_)
    | (with_reducible refine' GA.w_ifS ?_)
    | (with_reducible refine' GA.w_test ?_)
    | (with_reducible refine' GA.w_tB ?_)
    | (with_reducible refine' GA.w_not ?_)
    | (with_reducible refine' GA.w_and ?_)
    | (with_reducible refine' GA.w_or ?_)
    | (with_reducible refine' GA.w_andV ?_)
    | (with_reducible refine' GA.w_orV ?_)
    | (with_reducible refine' GA.w_notV ?_)
    | (with_reducible refine' GA.w_blc ?_)
    | (with_reducible refine' GA.w_if ?_)
    | (with_reducible refine' GA.w_CB ?_)
    | (with_reducible refine' GA.w_call ?_)
    | (with_reducible refine' GA.w_tupN ?_)
    | (with_reducible refine' GA.w_lstN ?_)
    | (with_reducible refine' GA.w_chain ?_)
    | (with_reducible refine' GA.w_drop ?_)
    | (with_reducible refine' GA.w_next ?_)
    | (with_reducible refine' GA.w_break ?_)
    | (with_reducible refine' GA.w_un ?_)
    | (with_reducible refine' GA.r_U ?_)
    | (with_reducible refine' GA.r_eqI ?_)
    | (with_reducible refine' GA.r_neI ?_)
    | (with_reducible refine' GA.r_eqB ?_)
    | (with_reducible refine' GA.r_neB ?_)
    | (with_reducible refine' GA.w_fld ?_)
    | (with_reducible refine' GA.w_sfld ?_)
    | (with_reducible refine' GA.w_sl ?_)
    | (with_reducible refine' GA.w_part ?_)
    | (with_reducible refine' GA.w_noPart ?_)
    | (with_reducible refine' GA.w_inti ?_)
    | (with_reducible refine' GA.w_retN ?_)
    | (with_reducible refine' GA.w_gsub ?_)
    | (with_reducible refine' GA.w_gname ?_)
    | (with_reducible refine' L2.iteT ?_)
    | (with_reducible refine' L2.iteF ?_)
    | (with_reducible refine' GA.w_nt ?_)
    | (with_reducible refine' GA.w_nf ?_)
    | (with_reducible refine' GA.w_isN ?_)
    | (with_reducible refine' GA.w_notN ?_)
    | (with_reducible refine' GA.w_yes ?_)
    | (with_reducible refine' GA.w_lc ?_)
    | (with_reducible refine' GA.w_lc2 ?_)
    | (with_reducible refine' GA.w_iseq ?_)
    | (with_reducible refine' GA.w_make ?_)
    | (with_reducible refine' GA.w_for ?_)
    | (with_reducible refine' GA.w_rng1 ?_)
    | (with_reducible refine' GA.w_rng2 ?_)
    | (with_reducible refine' GA.w_itup ?_)
    | (with_reducible refine' GA.w_ilist ?_)
    | (with_reducible refine' GA.w_ienum ?_)
    | (with_reducible refine' GA.w_BM ?_)
    | (with_reducible refine' GA.w_BM0 ?_)
    | (with_reducible refine' GA.w_izip ?_)
    | (with_reducible refine' GA.w_asg ?_))
  | `(tactic| walk_at "ws") => `(tactic| repeat (walk_at "w"))
  | `(tactic| walk_at "wn") => `(tactic| repeat (walk_at "wm"))


namespace Mine
section
variable {P : Program} {w : World} {K : PySem.W.Frag} {mg : Str → Option Value} {base : Heap} {a : Ads}

/-! ### ways_from -/
def outs (us : List (Int × Int)) (y : Int) : List Int := (us.filter fun u => decide (u.1 = y)).map (·.2)
theorem outs_snoc (us : List (Int × Int)) (u : Int × Int) (y : Int) : outs (us ++ [u]) y = outs us y ++ (if u.1 = y then [u.2] else []) := by
  unfold outs
  rw [List.filter_append, List.map_append]
  congr 1
  by_cases c : u.1 = y <;> simp [c]
theorem outs_mem {us : List (Int × Int)} {y x : Int} : x ∈ outs us y ↔ (y, x) ∈ us := by
  unfold outs
  rw [List.mem_map]
  constructor
  · rintro ⟨u, hu, rfl⟩
    obtain ⟨h1, h2⟩ := List.mem_filter.mp hu
    have e : u.1 = y := of_decide_eq_true h2
    have : u = (y, u.2) := Prod.ext e rfl
    rw [← this]; exact h1
  · intro h
    exact ⟨(y, x), List.mem_filter.mpr ⟨h, decide_eq_true rfl⟩, rfl⟩
abbrev kvO (ps : List (Int × Addr)) : List (Key × V) := ps.map fun p => ((Sum.inl p.1 : Key), V.ref p.2)
theorem kvO_in : ∀ {ps : List (Int × Addr)} {p : Int × Addr}, (ps.map (·.1)).Nodup → p ∈ ps → valV (kvO ps) (Sum.inl p.1) = some (.ref p.2)
  | [], _, _, h => nomatch h
  | q :: ps, p, nd, h => by
    rw [List.map_cons, List.nodup_cons] at nd
    rcases List.mem_cons.mp h with e | h
    · subst e; exact valV_pos rfl
    · refine (valV_neg fun z => ?_).trans (kvO_in nd.2 h)
      have e : q.1 = p.1 := Sum.inl.inj z
      exact nd.1 (e ▸ List.mem_map_of_mem h)
theorem kvO_out {ps : List (Int × Addr)} {y : Int} (h : ∀ p ∈ ps, p.1 ≠ y) : valV (kvO ps) (Sum.inl y) = none := by
  induction ps with
  | nil => rfl
  | cons q ps ih => exact (valV_neg fun z => h q List.mem_cons_self (Sum.inl.inj z)).trans (ih fun p hp => h p (List.mem_cons_of_mem _ hp))
theorem kv_any {kvs : List (Key × V)} {ks : List Int} (h : kvs.map (·.1) = ks.map Sum.inl) (z : Int) : (kvs.any fun kv => decide (kv.1 = (Sum.inl z : Key))) = decide (z ∈ ks) := by
  have e : (kvs.any fun kv => decide (kv.1 = (Sum.inl z : Key))) = (kvs.map (·.1)).any fun k => decide (k = (Sum.inl z : Key)) := by rw [List.any_map]; rfl
  rw [e, h, List.any_map, Bool.eq_iff_iff, List.any_eq_true, decide_eq_true_iff]
  constructor
  · rintro ⟨k, hk, q⟩
    have q : (Sum.inl k : Key) = Sum.inl z := of_decide_eq_true q
    exact Sum.inl.inj q ▸ hk
  · intro hz
    exact ⟨z, hz, decide_eq_true rfl⟩
theorem kv_put {kvs : List (Key × V)} {ks : List Int} (h : kvs.map (·.1) = ks.map Sum.inl) {z : Int} (hz : z ∉ ks) (v : V) : putK kvs (Sum.inl z) v = kvs ++ [((Sum.inl z : Key), v)] := by
  unfold putK
  rw [kv_any h, if_neg (by simpa using hz)]
theorem new_bk {H0 H1 : Hp} {D : Addr} (g : G none H0 H1) (h : H1 D = none) : H0 D = none := by
  cases e : H0 D with
  | none => rfl
  | some u => rw [g.all _ _ e] at h; cases h
theorem w_dsetd {td ty tx : TE} {σ : L2.St} {H : Hp} {Q : VK} (q : td σ H fun x H1 => ∃ a, x = .ref a ∧ IsD H1 a ∧ ty σ H1 fun y H2 => tx σ H2 fun z H3 => ∃ (kvs : List (Key × V)) (k : Key), H3 a = some (.dK kvs) ∧ y = kV k ∧ kvs.length < sizeLine ∧ (∀ v, valV kvs k = some v → Q v H3) ∧ (valV kvs k = none → Q z (upd H3 a (.dK (putK kvs k z))))) : tDSetd td ty tx σ H Q := q
theorem w_dget2 {td ty tx : TE} {σ : L2.St} {H : Hp} {Q : VK} (q : td σ H fun x H1 => ∃ a, x = .ref a ∧ IsD H1 a ∧ ty σ H1 fun y H2 => tx σ H2 fun z H3 => ∃ o, DGet H3 a y o ∧ Q (o.getD z) H3) : tDGet2 td ty tx σ H Q := q
theorem w_aug {i : Nat} {te : TE} {ti : TIp} {D : Ends} {σ : L2.St} {H : Hp} (q : ∃ x, σ[i]? = some (some x) ∧ te σ H fun y H1 => ti x y H1 fun z H2 => D.nx (σ.set i (some z)) H2) : tAug i te ti D σ H := q
/-- where each machine's wires lead, as lists in a dict -/
structure On (H0 H : Hp) (od : Addr) (ps : List (Int × Addr)) (us : List (Int × Int)) : Prop where
  d : H od = some (.dK (kvO ps))
  nk : (ps.map (·.1)).Nodup
  na : (ps.map (·.2)).Nodup
  l : ∀ p ∈ ps, H p.2 = some (.lst ((outs us p.1).map V.int)) ∧ H0 p.2 = none
  all : ∀ u ∈ us, ∃ p ∈ ps, p.1 = u.1
theorem On.keep {H0 H H' : Hp} {od : Addr} {ps : List (Int × Addr)} {us : List (Int × Int)} (o : On H0 H od ps us) (k : ∀ b u, (b = od ∨ ∃ p ∈ ps, b = p.2) → H b = some u → H' b = some u) : On H0 H' od ps us :=
  ⟨k _ _ (.inl rfl) o.d, o.nk, o.na, fun p hp => ⟨k _ _ (.inr ⟨p, hp, rfl⟩) (o.l p hp).1, (o.l p hp).2⟩, o.all⟩
theorem On.none_ {H0 H : Hp} {od : Addr} {ps : List (Int × Addr)} {us : List (Int × Int)} (o : On H0 H od ps us) {y : Int} (h : ∀ p ∈ ps, p.1 ≠ y) : outs us y = [] := by
  refine List.eq_nil_iff_forall_not_mem.mpr fun x hx => ?_
  obtain ⟨p, hp, e⟩ := o.all _ (outs_mem.mp hx)
  exact h p hp e
theorem snd_inj {ps : List (Int × Addr)} (na : (ps.map (·.2)).Nodup) {p q : Int × Addr} (hp : p ∈ ps) (hq : q ∈ ps) (e : p.2 = q.2) : p = q := by
  induction ps with
  | nil => nomatch hp
  | cons r ps ih =>
    rw [List.map_cons, List.nodup_cons] at na
    rcases List.mem_cons.mp hp with e1 | hp
    · rcases List.mem_cons.mp hq with e2 | hq
      · rw [e1, e2]
      · rw [e1] at e; exact absurd (e ▸ List.mem_map_of_mem hq) na.1
    · rcases List.mem_cons.mp hq with e2 | hq
      · rw [e2] at e; exact absurd (e ▸ List.mem_map_of_mem hp) na.1
      · exact ih na.2 hp hq
theorem fst_inj {ps : List (Int × Addr)} (na : (ps.map (·.1)).Nodup) {p q : Int × Addr} (hp : p ∈ ps) (hq : q ∈ ps) (e : p.1 = q.1) : p = q := by
  induction ps with
  | nil => nomatch hp
  | cons r ps ih =>
    rw [List.map_cons, List.nodup_cons] at na
    rcases List.mem_cons.mp hp with e1 | hp
    · rcases List.mem_cons.mp hq with e2 | hq
      · rw [e1, e2]
      · rw [e1] at e; exact absurd (e ▸ List.mem_map_of_mem hq) na.1
    · rcases List.mem_cons.mp hq with e2 | hq
      · rw [e2] at e; exact absurd (e ▸ List.mem_map_of_mem hp) na.1
      · exact ih na.2 hp hq
/-- one wire more, its machine known -/
theorem On.more {H0 H : Hp} {od : Addr} {ps : List (Int × Addr)} {us : List (Int × Int)} (o : On H0 H od ps us) {p : Int × Addr} (hp : p ∈ ps) (x : Int) : On H0 (upd H p.2 (.lst ((outs us p.1).map V.int ++ [.int x]))) od ps (us ++ [(p.1, x)]) := by
  have n0 : od ≠ p.2 := ne_of o.d (o.l p hp).1 (by intro z; cases z)
  refine ⟨by rw [upd_ne n0]; exact o.d, o.nk, o.na, fun q hq => ⟨?_, (o.l q hq).2⟩, fun u hu => ?_⟩
  · rw [outs_snoc]
    by_cases c : q = p
    · subst c
      rw [upd_same, if_pos rfl, List.map_append]; rfl
    · have n1 : q.2 ≠ p.2 := fun e => c (snd_inj o.na hq hp e)
      have n2 : ¬ p.1 = q.1 := fun e => c (fst_inj o.nk hq hp e.symm)
      rw [upd_ne n1, if_neg n2, List.append_nil]
      exact (o.l q hq).1
  · rcases List.mem_append.mp hu with h | h
    · exact o.all u h
    · have e : u = (p.1, x) := by simpa using h
      subst e; exact ⟨p, hp, rfl⟩
/-- one wire more, its machine new -/
theorem On.new {H0 H : Hp} {od l : Addr} {ps : List (Int × Addr)} {us : List (Int × Int)} (o : On H0 H od ps us) {y : Int} (hy : ∀ p ∈ ps, p.1 ≠ y) (hl : H l = some (.lst [])) (h0 : H0 l = none) (nl : ∀ p ∈ ps, p.2 ≠ l) (x : Int) :
    On H0 (upd (upd H od (.dK (kvO ps ++ [((Sum.inl y : Key), V.ref l)]))) l (.lst ([] ++ [.int x]))) od (ps ++ [(y, l)]) (us ++ [(y, x)]) := by
  have n0 : od ≠ l := ne_of o.d hl (by intro z; cases z)
  refine ⟨by rw [upd_ne n0, upd_same]; unfold kvO; rw [List.map_append]; rfl, ?_, ?_, fun q hq => ?_, fun u hu => ?_⟩
  · rw [List.map_append, List.nodup_append]
    refine ⟨o.nk, by simp, fun a ha b hb e => ?_⟩
    have eb : b = y := by simpa using hb
    obtain ⟨p, hp, e2⟩ := List.mem_map.mp ha
    exact hy p hp (by rw [e2, e, eb])
  · rw [List.map_append, List.nodup_append]
    refine ⟨o.na, by simp, fun a ha b hb e => ?_⟩
    have eb : b = l := by simpa using hb
    obtain ⟨p, hp, e2⟩ := List.mem_map.mp ha
    exact nl p hp (by rw [e2, e, eb])
  · rw [outs_snoc]
    rcases List.mem_append.mp hq with h | h
    · have n1 : q.2 ≠ od := (ne_of o.d (o.l q h).1 (by intro z; cases z)).symm
      have n2 : ¬ y = q.1 := fun e => hy q h e.symm
      rw [upd_ne (nl q h), upd_ne n1, if_neg n2, List.append_nil]
      exact o.l q h
    · have e : q = (y, l) := by simpa using h
      subst e
      rw [upd_same, if_pos rfl, o.none_ hy]
      exact ⟨rfl, h0⟩
  · rcases List.mem_append.mp hu with h | h
    · obtain ⟨p, hp, e⟩ := o.all u h
      exact ⟨p, List.mem_append_left _ hp, e⟩
    · have e : u = (y, x) := by simpa using h
      subst e; exact ⟨(y, l), List.mem_append_right _ (by simp), rfl⟩
theorem ps_few {ps : List (Int × Addr)} {m : Int} (nk : (ps.map (·.1)).Nodup) (h : ∀ p ∈ ps, 0 ≤ p.1 ∧ p.1 < m) (hm : m ≤ 60) : ps.length ≤ 60 := by
  have := List.Nodup.length_le_of_subset (l₂ := (List.range 60).map fun (i : Nat) => (i : Int)) nk fun k hk => by
    obtain ⟨p, hp, rfl⟩ := List.mem_map.mp hk
    have := h p hp
    exact List.mem_map.mpr ⟨p.1.toNat, List.mem_range.mpr (by omega), by omega⟩
  simpa using this
/-- what is found on the way -/
structure Way (m : Int) (us : List (Int × Int)) (y : Int) (qs : List Int) (n : Nat) : Prop where
  nd : qs.Nodup
  rng : ∀ k ∈ qs, 0 ≤ k ∧ k < m
  reach : ∀ k ∈ qs, Reach us y k
  begin_ : y ∈ qs
  le : n ≤ qs.length
  shut : ∀ (i : Nat) (k : Int), i < n → qs[i]? = some k → ∀ z, (k, z) ∈ us → z ∈ qs
theorem Way.few {m : Int} {us : List (Int × Int)} {y : Int} {qs : List Int} {n : Nat} (w : Way m us y qs n) : (qs.length : Int) ≤ m := by
  have hm : 0 ≤ m := by have := w.rng _ w.begin_; omega
  have := List.Nodup.length_le_of_subset (l₂ := (List.range m.toNat).map fun (i : Nat) => (i : Int)) w.nd fun k hk => by
    have := w.rng k hk
    exact List.mem_map.mpr ⟨k.toNat, List.mem_range.mpr (by omega), by omega⟩
  simp at this
  omega
theorem Way.all {m : Int} {us : List (Int × Int)} {y : Int} {qs : List Int} {n : Nat} (w : Way m us y qs n) (e : n = qs.length) (z : Int) : z ∈ qs ↔ Reach us y z := by
  refine ⟨w.reach z, fun r => ?_⟩
  induction r with
  | refl => exact w.begin_
  | step _ e1 ih =>
    obtain ⟨i, hi, e2⟩ := List.getElem_of_mem ih
    exact w.shut i _ (by omega) (by rw [← e2]; exact List.getElem?_eq_getElem hi) _ e1
/-- what is found, each machine with the one ahead of it -/
inductive TreeK (us : List (Int × Int)) (y : Int) : List (Key × V) → List Int → Prop where
  | one : TreeK us y [((Sum.inl y : Key), .non)] [y]
  | more {kvs : List (Key × V)} {qs : List Int} {x here : Int} : TreeK us y kvs qs → here ∈ qs → (here, x) ∈ us → x ∉ qs → TreeK us y (kvs ++ [((Sum.inl x : Key), .int here)]) (qs ++ [x])
theorem TreeK.keys {us : List (Int × Int)} {y : Int} {kvs : List (Key × V)} {qs : List Int} (t : TreeK us y kvs qs) : kvs.map (·.1) = qs.map Sum.inl := by
  induction t with
  | one => rfl
  | more _ _ _ _ ih => rw [List.map_append, List.map_append, ih]; rfl
/-- what is found is sure: the states that the walk goes through -/
def wAdd (here : Int) (s : List (Key × V) × List Int) (x : Int) : List (Key × V) × List Int := if x ∈ s.2 then s else (s.1 ++ [((Sum.inl x : Key), .int here)], s.2 ++ [x])
def wSt (us : List (Int × Int)) (y : Int) : Nat → List (Key × V) × List Int
  | 0 => ([((Sum.inl y : Key), .non)], [y])
  | n + 1 => match (wSt us y n).2[n]? with
    | none => wSt us y n
    | some here => (outs us here).foldl (wAdd here) (wSt us y n)
def wfK (us : List (Int × Int)) (y : Int) : List (Key × V) := (wSt us y 60).1
theorem wSt_more {us : List (Int × Int)} {y : Int} {n : Nat} (h : (wSt us y n).2.length ≤ n) : ∀ k, wSt us y (n + k) = wSt us y n
  | 0 => rfl
  | k + 1 => by
    have e := wSt_more h k
    rw [← Nat.add_assoc]
    show (match (wSt us y (n + k)).2[n + k]? with | none => _ | some here => _) = _
    rw [e, List.getElem?_eq_none (by omega)]
theorem wSt_app {us : List (Int × Int)} {here x : Int} {i : Nat} {s t : List (Key × V) × List Int} (h : t = ((outs us here).take i).foldl (wAdd here) s) (hx : (outs us here)[i]? = some x) (n : x ∉ t.2) : (t.1 ++ [((Sum.inl x : Key), V.int here)], t.2 ++ [x]) = ((outs us here).take (i + 1)).foldl (wAdd here) s := by
  rw [List.take_add_one, hx, List.foldl_append, ← h]
  show _ = wAdd here t x
  unfold wAdd
  rw [if_neg n]
theorem wSt_skip {us : List (Int × Int)} {here x : Int} {i : Nat} {s t : List (Key × V) × List Int} (h : t = ((outs us here).take i).foldl (wAdd here) s) (hx : (outs us here)[i]? = some x) (n : x ∈ t.2) : t = ((outs us here).take (i + 1)).foldl (wAdd here) s := by
  rw [List.take_add_one, hx, List.foldl_append, ← h]
  show _ = wAdd here t x
  unfold wAdd
  rw [if_pos n]
theorem wSt_row {us : List (Int × Int)} {y here : Int} {n : Nat} {qs : List Int} {kvs : List (Key × V)} {t : List (Key × V) × List Int} (h0 : (kvs, qs) = wSt us y n) (hh : qs[n]? = some here) (h : t = (outs us here).foldl (wAdd here) (wSt us y n)) : t = wSt us y (n + 1) := by
  show _ = (match (wSt us y n).2[n]? with | none => _ | some here => _)
  rw [← h0] at h ⊢
  rw [hh]
  exact h
theorem wSt_end {us : List (Int × Int)} {y : Int} {n : Nat} {qs : List Int} {kvs : List (Key × V)} (h : (kvs, qs) = wSt us y n) (hn : n = qs.length) (h60 : n ≤ 60) : kvs = wfK us y := by
  have e : (wSt us y n).2.length ≤ n := by rw [← h]; show qs.length ≤ n; omega
  have q := wSt_more e (60 - n)
  rw [show n + (60 - n) = 60 from by omega] at q
  unfold wfK
  rw [q, ← h]
def sp_ways_from (K : PySem.W.Frag) : Sp := fun vs H Q _ => ∃ (y m : Int) (wa : Addr) (xs : List V) (us : List (Int × Int)), vs = [.int y, .ref wa] ∧ SqL K H wa xs ∧ DpAll K H xs (us.map dP) ∧ (∀ u ∈ us, (0 ≤ u.1 ∧ u.1 < m) ∧ (0 ≤ u.2 ∧ u.2 < m)) ∧ us.length ≤ 1000 ∧ (0 ≤ y ∧ y < m) ∧ m ≤ 60 ∧
  ∀ (f : Addr) (kvs : List (Key × V)) (ks : List Int) H', H f = none → G none H H' → H' f = some (.dK kvs) → TreeK us y kvs ks → ks.Nodup → (∀ k ∈ ks, 0 ≤ k ∧ k < m) → (∀ z, z ∈ ks ↔ Reach us y z) → kvs = wfK us y → Q (.ref f) H'
theorem ok_ways_from (T : Txt K mg a) : FnOk P w K mg base CX0 1 a.f_ways_from a.d_ways_from P_ways_from (sp_ways_from K) := by
  refine T.F_ways_from.ok sc_ways_from (fun vs H Q E h => by obtain ⟨y, m, wa, xs, us, rfl, _⟩ := h; rfl) (fun cdv A outer s H vs Q E hr h => ?_)
  obtain ⟨y, m, wa, xs, us, rfl, hxs, hds, hus, lu, hy, hm, k⟩ := h
  have lx : xs.length = us.length := by rw [DpAll.length hds, List.length_map]
  refine ⟨_, (pss_cons (ps_set (i := 2) sc_ways_from.nd rfl (Or.inl rfl) pe_dnewK)
  (pss_cons (ps_for PassesOwn.never rfl (pi_list (pv 1)) (pg_tup rfl (pgs_cons (pg_name (i := 3) sc_ways_from.nd rfl (Or.inl rfl)) (pgs_cons (pg_name (i := 4) sc_ways_from.nd rfl (Or.inl rfl)) pgs_nil)))
    (pss_one (ps_expr (pe_bm PySem.F.plainAttrs_list PySem.F.slot_list_append PySem.F.type_list_append mt_append (pe_dsetd (pv 2) (pv 3) (pe_lstN pa_nil) ⟨rfl, rfl, rfl, rfl⟩) (pa_cons (pv 4) pa_nil)))))
  (pss_cons (ps_set (i := 5) sc_ways_from.nd rfl (Or.inl rfl) (pe_disp (pps_cons (pv 0) pe_non pps_nil) (by rfl) (by rfl) (fun z => by cases z) (by decide)))
  (pss_cons (ps_set (i := 6) sc_ways_from.nd rfl (Or.inl rfl) (pe_lstN (pa_cons (pv 0) pa_nil)))
  (pss_cons (ps_set (i := 7) sc_ways_from.nd rfl (Or.inl rfl) pe_int)
  (pss_cons (ps_while PassesOwn.never (pt_cmpR op_lt (pv 7) (pe_callB call_len_seq (by rfl) T.n_len (by decide +kernel) (pa_cons (pv 6) pa_nil)) (nomark _))
    (pss_cons (ps_set (i := 8) sc_ways_from.nd rfl (Or.inl rfl) (pe_ix ix_list (pv 6) (pv 7) (fun _ _ => rfl)))
  (pss_cons (ps_aug (i := 7) sc_ways_from.nd rfl (Or.inl rfl) pe_int ip_add)
  (pss_one (ps_for PassesOwn.never rfl (pi_list (pe_dget2 (hu_of hr) (pv 2) (pv 8) (pe_lstN pa_nil) ⟨rfl, rfl, rfl, rfl⟩)) (pg_name (i := 4) sc_ways_from.nd rfl (Or.inl rfl))
    (pss_one (ps_if (pt_cmp (pc_dnotin (hu_of hr) (pv 4) (pv 5)))
    (pss_cons (ps_dput (hu_of hr) (pv 5) (pv 4) (pv 8) rfl)
  (pss_one (ps_expr (pe_bm PySem.F.plainAttrs_list PySem.F.slot_list_append PySem.F.type_list_append mt_append (pv 6) (pa_cons (pv 4) pa_nil)))))
    pss_nil)))))))
  (pss_one (ps_ret (pv 5))))))))), ?_⟩
  walk_at "ws"
  intro od hod
  have h1 : (upd H od (.dK [])) od = some (.dK (kvO [])) := upd_same
  have g1 : G none H (upd H od (.dK [])) := G.alloc hod
  generalize upd H od (.dK []) = H1 at h1 g1 ⊢
  walk_at "ws"
  refine i_list (sqL_n g1 hxs) ?_
  refine for_it (walk_list (xs := xs)) (fun i σ H' => ∃ ps u3 u4, σ = [some (.int y), some (.ref wa), some (.ref od), u3, u4, none, none, none, none] ∧ G none H H' ∧ On H H' od ps (us.take i) ∧ ∀ p ∈ ps, 0 ≤ p.1 ∧ p.1 < m) ⟨[], _, _, rfl, g1, ⟨h1, by simp, by simp, (fun _ h => nomatch h), (fun _ h => nomatch h)⟩, (fun _ h => nomatch h)⟩ (fun i σ H' _ ⟨_, _, _, _, q, _⟩ => sqL_n q hxs) ?_ ?_
  · rintro i v σ _ H2 hi ⟨ps, u3, u4, rfl, g2, on, hps⟩ ⟨rfl, hv⟩
    obtain ⟨d, hd, hvd⟩ := DpAll.get hds hv
    rw [List.getElem?_map] at hd
    obtain ⟨u, hu, rfl⟩ := Option.map_eq_some_iff.mp hd
    obtain ⟨t, rfl, ht⟩ := dp_dP hvd
    have um := hus u (List.mem_of_getElem? hu)
    have tk : us.take (i + 1) = us.take i ++ [u] := by rw [List.take_add_one, hu]; rfl
    have l60 := ps_few on.nk hps hm
    refine ⟨t, _, rfl, sqT_t g2.tups ht, rfl, ?_⟩
    refine ⟨_, _, rfl, ?_⟩
    walk_at "ws"
    refine ⟨_, _, rfl, ?_⟩
    walk_at "ws"
    refine ⟨rfl, ?_⟩
    walk_at "ws"
    refine w_dsetd ?_
    walk_at "ws"
    refine ⟨od, rfl, .inl ⟨_, .inl on.d⟩, ?_⟩
    walk_at "ws"
    refine ⟨sz (by simp), fun l H3 hl g3 h3 => ?_⟩
    have on3 : On H H3 od ps (us.take i) := on.keep fun b u _ e => (g3 none).all _ _ e
    have g03 := g2.trans (g3 none)
    have l0 : H l = none := new_bk g2 hl
    refine ⟨kvO ps, Sum.inl u.1, on3.d, rfl, Nat.lt_of_le_of_lt (by unfold kvO; rw [List.length_map]; exact l60) (by decide : (60 : Nat) < sizeLine), fun v hv => ?_, fun hv => ?_⟩
    · obtain ⟨p, hp, e⟩ : ∃ p ∈ ps, p.1 = u.1 := by
        by_cases c : ∃ p ∈ ps, p.1 = u.1
        · exact c
        · rw [kvO_out fun p hp e => c ⟨p, hp, e⟩] at hv; cases hv
      rw [← e, kvO_in on3.nk hp] at hv
      cases hv
      have hpl := (on3.l p hp).1
      have lo : (outs (us.take i) p.1).length ≤ 1000 := by
        unfold outs
        rw [List.length_map]
        have := List.length_filter_le (fun u => decide (u.1 = p.1)) (us.take i)
        rw [List.length_take] at this
        omega
      refine ⟨.inl ⟨rfl, _, SqL.of hpl⟩, ?_⟩
      walk_at "ws"
      refine r_app hpl (by rw [List.length_map]; omega) ?_
      walk_at "ws"
      have eu : u = (p.1, u.2) := Prod.ext e.symm rfl
      refine ⟨ps, _, _, rfl, g03.mut (on3.l p hp).2 (fun _ e => nomatch e), by rw [tk, eu]; exact on3.more hp u.2, hps⟩
    · have hno : ∀ p ∈ ps, p.1 ≠ u.1 := fun p hp e => by rw [← e, kvO_in on3.nk hp] at hv; cases hv
      have ep : putK (kvO ps) (Sum.inl u.1) (.ref l) = kvO ps ++ [((Sum.inl u.1 : Key), V.ref l)] := kv_put (ks := ps.map (·.1)) (by unfold kvO; rw [List.map_map, List.map_map]; rfl) (fun z => by
        obtain ⟨p, hp, e⟩ := List.mem_map.mp z
        exact hno p hp e) _
      rw [ep]
      have nol : od ≠ l := ne_of on3.d h3 (by intro z; cases z)
      have h4 : (upd H3 od (.dK (kvO ps ++ [((Sum.inl u.1 : Key), V.ref l)]))) l = some (.lst []) := by rw [upd_ne nol.symm]; exact h3
      have g04 : G none H (upd H3 od (.dK (kvO ps ++ [((Sum.inl u.1 : Key), V.ref l)]))) := g03.mut hod (fun _ e => nomatch e)
      have nl : ∀ p ∈ ps, p.2 ≠ l := fun p hp e => by
        have := (on.l p hp).1
        rw [e, hl] at this; cases this
      refine ⟨.inl ⟨rfl, _, SqL.of h4⟩, ?_⟩
      walk_at "ws"
      refine r_app h4 (by simp) ?_
      walk_at "ws"
      refine ⟨ps ++ [(u.1, l)], _, _, rfl, g04.mut l0 (fun _ e => nomatch e), by rw [tk]; exact on3.new hno h3 l0 nl u.2, fun p hp => ?_⟩
      rcases List.mem_append.mp hp with h | h
      · exact hps p h
      · have e : p = (u.1, l) := by simpa using h
        subst e; exact um.1
  rintro σ H2 ⟨ps, u3, u4, rfl, g2, on, hps⟩
  rw [lx, List.take_of_length_le (Nat.le_refl _)] at on
  clear g1 h1
  walk_at "ws"
  intro fa hfa
  show tVar 0 _ _ _
  walk_at "ws"
  refine ⟨upd_same, [(Sum.inl y, .non)], rfl, by simp, ?_⟩
  have hfa0 : H fa = none := new_bk g2 hfa
  have nof : od ≠ fa := ne_of_none on.d hfa
  have g3 : G none H (upd (upd H2 fa (.dK [])) fa (.dK (mergeK [] [(Sum.inl y, .non)]))) := (g2.mut hfa0 (fun _ e => nomatch e)).mut hfa0 (fun _ e => nomatch e)
  have h3f : (upd (upd H2 fa (.dK [])) fa (.dK (mergeK [] [(Sum.inl y, .non)]))) fa = some (.dK [((Sum.inl y : Key), .non)]) := upd_same
  have on3 : On H (upd (upd H2 fa (.dK [])) fa (.dK (mergeK [] [(Sum.inl y, .non)]))) od ps us := on.keep fun b u _ e => by
    have n := ne_of_none e hfa
    rw [upd_ne n, upd_ne n]; exact e
  generalize upd (upd H2 fa (.dK [])) fa (.dK (mergeK [] [(Sum.inl y, .non)])) = H3 at g3 h3f on3 ⊢
  walk_at "ws"
  refine ⟨sz (by simp), fun qa H4 hqa g4 h4 => ?_⟩
  have hqa0 : H qa = none := new_bk g3 hqa
  have h4f := (g4 none).all _ _ h3f
  have nfq : fa ≠ qa := ne_of h4f h4 (by intro z; cases z)
  have on4 : On H H4 od ps us := on3.keep fun b u _ e => (g4 none).all _ _ e
  have npq : ∀ p ∈ ps, p.2 ≠ qa := fun p hp e => by
    have := (on3.l p hp).1
    rw [e, hqa] at this; cases this
  have noq : od ≠ qa := ne_of on4.d h4 (by intro z; cases z)
  have npf : ∀ p ∈ ps, p.2 ≠ fa := fun p hp e => by
    have := (on4.l p hp).1
    rw [e, h4f] at this; cases this
  walk_at "ws"
  refine ⟨fun μ σ H' => ∃ (kvs : List (Key × V)) (qs : List Int) (n : Nat) (v3 v4 v8 : Option V), σ = [some (.int y), some (.ref wa), some (.ref od), v3, v4, some (.ref fa), some (.ref qa), some (.int (n : Int)), v8] ∧ G none H H' ∧ On H H' od ps us ∧ H' fa = some (.dK kvs) ∧ (TreeK us y kvs qs ∧ (kvs, qs) = wSt us y n) ∧ H' qa = some (.lst (qs.map V.int)) ∧ Way m us y qs n ∧ μ = m.toNat - n,
    ⟨_, [((Sum.inl y : Key), .non)], [y], 0, _, _, _, rfl, g3.trans (g4 none), on4, h4f, ⟨.one, rfl⟩, h4, ⟨by simp, fun z hz => ?_, fun z hz => ?_, by simp, Nat.zero_le _, fun i k hi => absurd hi (Nat.not_lt_zero _)⟩, rfl⟩, ?_⟩
  · have e : z = y := by simpa using hz
    rw [e]; exact hy
  · have e : z = y := by simpa using hz
    rw [e]; exact .refl y
  rintro μ σ H5 ⟨kvs, qs, n, v3, v4, v8, rfl, g5, on5, h5f, ⟨hkv, hst⟩, h5q, way, rfl⟩
  have few := way.few
  walk_at "ws"
  refine ⟨qa, _, rfl, .inl (SqL.of h5q), ?_⟩
  rw [List.length_map]
  walk_at "ws"
  refine w_ite (fun e => ?_) (fun e => ?_)
  · have hn : n < qs.length := by
      have e : (n : Int) < (qs.length : Int) := of_decide_eq_true e
      omega
    refine ⟨fun σ H' => ∃ (kvs : List (Key × V)) (qs' : List Int) (v3 v4 v8 : Option V), σ = [some (.int y), some (.ref wa), some (.ref od), v3, v4, some (.ref fa), some (.ref qa), some (.int ((n + 1 : Nat) : Int)), v8] ∧ G none H H' ∧ On H H' od ps us ∧ H' fa = some (.dK kvs) ∧ (TreeK us y kvs qs' ∧ (kvs, qs') = wSt us y (n + 1)) ∧ H' qa = some (.lst (qs'.map V.int)) ∧ Way m us y qs' (n + 1), ?_, ?_⟩
    · rintro σ' H' ⟨kvs', qs', w3, w4, w8, rfl, q1, q2, q3, q4, q5, q6⟩
      have := q6.few
      have := q6.le
      refine ⟨m.toNat - (n + 1), by omega, kvs', qs', n + 1, _, _, _, rfl, q1, q2, q3, q4, q5, q6, rfl⟩
    · walk_at "ws"
      obtain ⟨here, hh⟩ : ∃ z, qs[n]? = some z := ⟨_, List.getElem?_eq_getElem hn⟩
      refine r_ixL (SqL.of h5q) (v := .int here) (at_of (j := n) rfl (by rw [List.getElem?_map, hh]; rfl)) ?_
      walk_at "ws"
      refine w_aug ⟨_, rfl, ?_⟩
      walk_at "ws"
      refine ⟨_, _, rfl, rfl, ?_⟩
      walk_at "ws"
      refine w_dget2 ?_
      walk_at "ws"
      refine ⟨od, rfl, .inl ⟨_, .inl on5.d⟩, ?_⟩
      walk_at "ws"
      refine ⟨sz (by simp), fun l0 H6 hl0 g6 h6 => ?_⟩
      have on6 : On H H6 od ps us := on5.keep fun b u _ e => (g6 none).all _ _ e
      have h6f := (g6 none).all _ _ h5f
      have h6q := (g6 none).all _ _ h5q
      have g06 := g5.trans (g6 none)
      refine ⟨_, DGet.k (k := Sum.inl here) on6.d, ?_⟩
      obtain ⟨l, el, hl, nlq, nlf⟩ : ∃ l, (valV (kvO ps) (Sum.inl here)).getD (.ref l0) = .ref l ∧ H6 l = some (.lst ((outs us here).map V.int)) ∧ l ≠ qa ∧ l ≠ fa := by
        by_cases c : ∃ p ∈ ps, p.1 = here
        · obtain ⟨p, hp, rfl⟩ := c
          exact ⟨p.2, by rw [kvO_in on6.nk hp]; rfl, (on6.l p hp).1, npq p hp, npf p hp⟩
        · refine ⟨l0, by rw [kvO_out fun p hp e => c ⟨p, hp, e⟩]; rfl, ?_, (ne_of_none h5q hl0).symm, (ne_of_none h5f hl0).symm⟩
          rw [on6.none_ fun p hp e => c ⟨p, hp, e⟩]
          exact h6
      rw [el]
      have reach_h : Reach us y here := way.reach _ (List.mem_of_getElem? hh)
      refine i_list (SqL.of hl) ?_
      refine for_it (walk_list (xs := (outs us here).map V.int)) (fun i σ H' => ∃ (kvs : List (Key × V)) (ext : List Int) (v4 : Option V), σ = [some (.int y), some (.ref wa), some (.ref od), v3, v4, some (.ref fa), some (.ref qa), some (.int ((n : Int) + 1)), some (.int here)] ∧ G none H H' ∧ On H H' od ps us ∧ H' l = some (.lst ((outs us here).map V.int)) ∧ H' fa = some (.dK kvs) ∧ (TreeK us y kvs (qs ++ ext) ∧ (kvs, qs ++ ext) = ((outs us here).take i).foldl (wAdd here) (wSt us y n)) ∧ H' qa = some (.lst ((qs ++ ext).map V.int)) ∧ (qs ++ ext).Nodup ∧ (∀ k ∈ qs ++ ext, (0 ≤ k ∧ k < m) ∧ Reach us y k) ∧ ∀ (j : Nat) (z : Int), j < i → (outs us here)[j]? = some z → z ∈ qs ++ ext)
        ⟨kvs, [], _, rfl, g06, on6, hl, h6f, ⟨by rw [List.append_nil]; exact hkv, by rw [List.append_nil, List.take_zero]; exact hst⟩, by rw [List.append_nil]; exact h6q, by rw [List.append_nil]; exact way.nd, fun k hk => by rw [List.append_nil] at hk; exact ⟨way.rng k hk, way.reach k hk⟩, fun j z hj => absurd hj (Nat.not_lt_zero _)⟩ (fun i σ H' _ ⟨_, _, _, _, _, _, q, _⟩ => SqL.of q) ?_ ?_
      · rintro i v σ _ H7 hi ⟨kvs, ext, v4, rfl, g7, on7, h7l, h7f, ⟨hkv7, hst7⟩, h7q, nd7, rg7, cov⟩ ⟨rfl, hv⟩
        rw [List.getElem?_map] at hv
        obtain ⟨x, hx, rfl⟩ := Option.map_eq_some_iff.mp hv
        have hxu : (here, x) ∈ us := outs_mem.mp (List.mem_of_getElem? hx)
        have l7 : ((qs ++ ext).length : Int) ≤ m := by
          have hm0 : 0 ≤ m := by omega
          have := List.Nodup.length_le_of_subset (l₂ := (List.range m.toNat).map fun (i : Nat) => (i : Int)) nd7 fun k hk => by
            have := (rg7 k hk).1
            exact List.mem_map.mpr ⟨k.toNat, List.mem_range.mpr (by omega), by omega⟩
          rw [List.length_map, List.length_range] at this
          omega
        have lk : kvs.length = (qs ++ ext).length := by
          have := congrArg List.length hkv7.keys
          simpa using this
        walk_at "ws"
        show tVar 4 _ _ _
        walk_at "ws"
        refine ⟨fa, _, rfl, DGet.k (k := Sum.inl x) h7f, ?_⟩
        rw [← valV_any, kv_any hkv7.keys]
        walk_at "ws"
        refine w_ite (fun e2 => ?_) (fun e2 => ?_)
        · have n2 : x ∉ qs ++ ext := by simpa using e2
          walk_at "ws"
          show tVar _ _ _ _
          walk_at "ws"
          refine ⟨fa, _, rfl, DPut.k (k := Sum.inl x) h7f (Nat.lt_of_le_of_lt (by omega : kvs.length ≤ 60) (by decide : (60 : Nat) < sizeLine)), ?_⟩
          rw [kv_put hkv7.keys n2]
          have h8f : (upd H7 fa (.dK (kvs ++ [((Sum.inl x : Key), V.int here)]))) fa = some (.dK (kvs ++ [((Sum.inl x : Key), V.int here)])) := upd_same
          have h8q : (upd H7 fa (.dK (kvs ++ [((Sum.inl x : Key), V.int here)]))) qa = some (.lst ((qs ++ ext).map V.int)) := by rw [upd_ne nfq.symm]; exact h7q
          have h8l : (upd H7 fa (.dK (kvs ++ [((Sum.inl x : Key), V.int here)]))) l = some (.lst ((outs us here).map V.int)) := by rw [upd_ne nlf]; exact h7l
          have g8 : G none H (upd H7 fa (.dK (kvs ++ [((Sum.inl x : Key), V.int here)]))) := g7.mut hfa0 (fun _ e => nomatch e)
          have on8 : On H (upd H7 fa (.dK (kvs ++ [((Sum.inl x : Key), V.int here)]))) od ps us := on7.keep fun b u hb e => by
            have n : b ≠ fa := by
              rcases hb with rfl | ⟨p, hp, rfl⟩
              · exact nof
              · exact npf p hp
            rw [upd_ne n]; exact e
          generalize upd H7 fa (.dK (kvs ++ [((Sum.inl x : Key), V.int here)])) = H8 at h8f h8q h8l g8 on8 ⊢
          walk_at "ws"
          refine i_BM h8q ?_
          walk_at "ws"
          refine r_app h8q (by rw [List.length_map]; omega) ?_
          walk_at "ws"
          refine ⟨_, ext ++ [x], _, rfl, g8.mut hqa0 (fun _ e => nomatch e), on8.keep fun b u hb e => ?_, by rw [upd_ne nlq]; exact h8l, by rw [upd_ne nfq]; exact h8f, ?_, ?_, ?_, fun k hk => ?_, fun j z hj hz => ?_⟩
          · have n : b ≠ qa := by
              rcases hb with rfl | ⟨p, hp, rfl⟩
              · exact noq
              · exact npq p hp
            rw [upd_ne n]; exact e
          · rw [← List.append_assoc]; exact ⟨hkv7.more (List.mem_append_left _ (List.mem_of_getElem? hh)) hxu n2, wSt_app hst7 hx n2⟩
          · rw [upd_same]; simp [List.map_append, List.append_assoc]
          · rw [← List.append_assoc]
            exact List.nodup_append.mpr ⟨nd7, by simp, fun a ha b hb e => by
              have eb : b = x := by simpa using hb
              exact n2 (by rw [← eb, ← e]; exact ha)⟩
          · rw [← List.append_assoc] at hk
            rcases List.mem_append.mp hk with h | h
            · exact rg7 k h
            · have e : k = x := by simpa using h
              rw [e]; exact ⟨(hus _ hxu).2, .step reach_h hxu⟩
          · rw [← List.append_assoc]
            rcases Nat.lt_succ_iff_lt_or_eq.mp hj with h | h
            · exact List.mem_append_left _ (cov j z h hz)
            · subst h
              rw [hx] at hz
              cases hz
              exact List.mem_append_right _ (by simp)
        · have n2 : x ∈ qs ++ ext := of_decide_eq_true (by cases h : decide (x ∈ qs ++ ext) with | true => rfl | false => rw [h] at e2; cases e2)
          walk_at "ws"
          refine ⟨kvs, ext, _, rfl, g7, on7, h7l, h7f, ⟨hkv7, wSt_skip hst7 hx n2⟩, h7q, nd7, rg7, fun j z hj hz => ?_⟩
          rcases Nat.lt_succ_iff_lt_or_eq.mp hj with h | h
          · exact cov j z h hz
          · subst h
            rw [hx] at hz
            cases hz
            exact n2
      · rintro σ H7 ⟨kvs, ext, v4, rfl, g7, on7, h7l, h7f, ⟨hkv7, hst7⟩, h7q, nd7, rg7, cov⟩
        rw [List.length_map] at cov
        rw [List.length_map, List.take_length] at hst7
        refine ⟨kvs, qs ++ ext, _, _, _, rfl, g7, on7, h7f, ⟨hkv7, wSt_row hst hh hst7⟩, h7q, ⟨nd7, fun k hk => (rg7 k hk).1, fun k hk => (rg7 k hk).2, List.mem_append_left _ way.begin_, by rw [List.length_append]; omega, fun i k hi hk z hz => ?_⟩⟩
        by_cases c : i < n
        · rw [List.getElem?_append_left (by omega)] at hk
          exact List.mem_append_left _ (way.shut i k c hk z hz)
        · have ei : i = n := by omega
          subst ei
          rw [List.getElem?_append_left hn, hh] at hk
          cases hk
          obtain ⟨j, hj, ej⟩ := List.getElem_of_mem (outs_mem.mpr hz)
          exact cov j z hj (by rw [← ej]; exact List.getElem?_eq_getElem hj)
  · have hn : n = qs.length := by
      have := way.le
      have e : ¬ (n : Int) < (qs.length : Int) := of_decide_eq_false e
      omega
    walk_at "ws"
    exact k fa kvs qs H5 hfa0 g5 h5f hkv way.nd way.rng (way.all hn) (wSt_end hst hn (by omega))

end
end Mine
/-! ## K22 -/


namespace Mine
section
variable {P : Program} {w : World} {K : PySem.W.Frag} {mg : Str → Option Value} {base : Heap} {a : Ads}

/-! ### links -/
/-- the turns of a comprehension over bools, told by what they say together -/
def BlA (H' : Hp) (D : Addr) (i : Nat) (P : Nat → Prop) : Prop := ∃ cs : List Bool, H' D = some (.lst (cs.map V.bl)) ∧ cs.length ≤ i ∧ (cs.all id = true ↔ ∀ j, j < i → P j)
theorem BlA.nil {H1 : Hp} {D : Addr} {P : Nat → Prop} : BlA (upd H1 D (.lst [])) D 0 P := ⟨[], upd_same, Nat.le_refl _, ⟨fun _ j h => absurd h (Nat.not_lt_zero _), fun _ => rfl⟩⟩
theorem lt_succ_all {i : Nat} {P : Nat → Prop} : (∀ j, j < i + 1 → P j) ↔ (∀ j, j < i → P j) ∧ P i := by
  constructor
  · intro h
    exact ⟨fun j hj => h j (by omega), h i (by omega)⟩
  · rintro ⟨h1, h2⟩ j hj
    rcases Nat.lt_or_ge j i with c | c
    · exact h1 j c
    · obtain rfl : j = i := by omega
      exact h2
theorem BlA.app {H' : Hp} {D : Addr} {i : Nat} {P : Nat → Prop} {c : Bool} (h : BlA H' D i P) (e : c = true ↔ P i) (hi : i ≤ 1000) : ∃ acc, H' D = some (.lst acc) ∧ acc.length < sizeLine ∧ BlA (upd H' D (.lst (acc ++ [V.bl c]))) D (i + 1) P := by
  obtain ⟨cs, h1, h2, h3⟩ := h
  refine ⟨cs.map V.bl, h1, Nat.lt_of_le_of_lt (by rw [List.length_map]; omega : (cs.map V.bl).length ≤ 1000) (by decide), cs ++ [c], by rw [upd_same, List.map_append]; rfl, by rw [List.length_append, List.length_singleton]; omega, ?_⟩
  rw [List.all_append, Bool.and_eq_true, h3, lt_succ_all, ← e]
  simp
theorem BlA.skip {H' : Hp} {D : Addr} {i : Nat} {P : Nat → Prop} (h : BlA H' D i P) (e : P i) : BlA H' D (i + 1) P := by
  obtain ⟨cs, h1, h2, h3⟩ := h
  refine ⟨cs, h1, by omega, ?_⟩
  rw [h3, lt_succ_all]
  exact ⟨fun q => ⟨q, e⟩, fun q => q.1⟩
theorem BlA.n {H' H'' : Hp} {D : Addr} {i : Nat} {P : Nat → Prop} (h : BlA H' D i P) (g : G none H' H'') : BlA H'' D i P := let ⟨cs, h1, h2, h3⟩ := h; ⟨cs, g.all _ _ h1, h2, h3⟩
theorem BlA.fin {H' : Hp} {D : Addr} {i : Nat} {P : Nat → Prop} (h : BlA H' D i P) : ∃ cs : List Bool, SqL K H' D (cs.map V.bl) ∧ (cs.all id = true ↔ ∀ j, j < i → P j) := let ⟨cs, h1, _, h3⟩ := h; ⟨cs, SqL.of h1, h3⟩
def BlE (H' : Hp) (D : Addr) (i : Nat) (P : Nat → Prop) : Prop := ∃ cs : List Bool, H' D = some (.lst (cs.map V.bl)) ∧ cs.length ≤ i ∧ (cs.any id = false ↔ ∀ j, j < i → ¬ P j)
theorem BlE.nil {H1 : Hp} {D : Addr} {P : Nat → Prop} : BlE (upd H1 D (.lst [])) D 0 P := ⟨[], upd_same, Nat.le_refl _, ⟨fun _ j h => absurd h (Nat.not_lt_zero _), fun _ => rfl⟩⟩
theorem BlE.app {H' : Hp} {D : Addr} {i : Nat} {P : Nat → Prop} {c : Bool} (h : BlE H' D i P) (e : c = true ↔ P i) (hi : i ≤ 1000) : ∃ acc, H' D = some (.lst acc) ∧ acc.length < sizeLine ∧ BlE (upd H' D (.lst (acc ++ [V.bl c]))) D (i + 1) P := by
  obtain ⟨cs, h1, h2, h3⟩ := h
  refine ⟨cs.map V.bl, h1, Nat.lt_of_le_of_lt (by rw [List.length_map]; omega : (cs.map V.bl).length ≤ 1000) (by decide), cs ++ [c], by rw [upd_same, List.map_append]; rfl, by rw [List.length_append, List.length_singleton]; omega, ?_⟩
  rw [List.any_append, Bool.or_eq_false_iff, h3, lt_succ_all, ← e]
  simp
theorem BlE.n {H' H'' : Hp} {D : Addr} {i : Nat} {P : Nat → Prop} (h : BlE H' D i P) (g : G none H' H'') : BlE H'' D i P := let ⟨cs, h1, h2, h3⟩ := h; ⟨cs, g.all _ _ h1, h2, h3⟩
theorem BlE.fin {H' : Hp} {D : Addr} {i : Nat} {P : Nat → Prop} (h : BlE H' D i P) : ∃ cs : List Bool, SqL K H' D (cs.map V.bl) ∧ (cs.any id = false ↔ ∀ j, j < i → ¬ P j) := let ⟨cs, h1, _, h3⟩ := h; ⟨cs, SqL.of h1, h3⟩

/-- t[lo:hi] of a tuple -/
def rSlAN (K : PySem.W.Frag) : V → Option Int → Option Int → Hp → VK → Prop := fun x lo hi H Q => ∃ a xs, x = .ref a ∧ SqT K H a xs ∧ ∀ p H2, (∀ o, G o H H2) → SqT K H2 p (cutV xs lo hi) → Q (.ref p) H2
theorem sl_tupAN {X : Cx} : SlR X (rSlAN X.K) := SlR.weak sl_tupA fun x lo hi H Q ⟨a, xs, e, h, q⟩ => ⟨a, xs, e, h, fun w => q a H (fun _ => G.refl) (by
    have c : cutV xs lo hi = xs := by
      unfold cutV
      rw [w.1, w.2, List.drop_zero, Nat.sub_zero, List.take_length]
    rw [c]; exact h), fun _ p hp => q p _ (fun _ => G.alloc hp) (SqT.of upd_same)⟩

theorem cut_from (xs : List V) {k : Nat} (h : k + 1 ≤ xs.length) : cutV xs (some ((k : Int) + 1)) none = xs.drop (k + 1) := by
  have e : ((k : Int) + 1) = ((k + 1 : Nat) : Int) := by omega
  unfold cutV
  rw [HT.sIx_none, e, HT.sIx_nat, Nat.min_eq_left h]
  exact List.take_of_length_le (by rw [List.length_drop]; exact Nat.le_refl _)
theorem cut_nil : cutV ([] : List V) (some 1) none = [] := by
  unfold cutV
  simp
def lk (n : Int) : Tg → Bool
  | .tup [.int x, .int y] => (blw n (.int x) && blw n (.int y)) && decide (x < y)
  | _ => false
def ltB (u v : Int × Int) : Prop := u.1 < v.1 ∨ u.1 = v.1 ∧ u.2 < v.2
def AscL (us : List (Int × Int)) : Prop := ∀ (j : Nat) y z, us[j]? = some y → us[j + 1]? = some z → ltB y z
structure Lks (us : List (Int × Int)) : Prop where
  n11 : us.length ≤ 11
  rng : ∀ u ∈ us, 0 ≤ u.1 ∧ u.1 < u.2 ∧ u.2 ≤ us.length
  asc : AscL us
  conn : ∀ x : Int, 0 ≤ x → x ≤ us.length → Reach (dbl us) 0 x
def tgP (u : Int × Int) : Tg := .tup [.int u.1, .int u.2]
def tgW (ws : List (Int × Int)) : Tg := .tup (ws.map tgP)
theorem tgDs_map (ws : List (Int × Int)) : tgDs (ws.map tgP) = ws.map dP := by
  induction ws with
  | nil => rfl
  | cons u ws ih => show tgD (tgP u) :: tgDs (ws.map tgP) = _; rw [ih]; rfl
theorem tgD_W (ws : List (Int × Int)) : tgD (tgW ws) = dW ws := by show PyData.tuple (tgDs (ws.map tgP)) = _; rw [tgDs_map]
theorem pl_P {d : Nat} (u : Int × Int) : Pl (d + 1) (tgP u) := .tup fun z hz => by
  rcases List.mem_cons.mp hz with rfl | hz
  · exact .int _
  · have e : z = .int u.2 := by simpa using hz
    subst e; exact .int _
theorem pl_Ws (ws : List (Int × Int)) : ∀ u ∈ ws.map tgP, Pl 1 u := fun z hz => by
  obtain ⟨u, _, rfl⟩ := List.mem_map.mp hz
  exact pl_P u
theorem pl_W (ws : List (Int × Int)) : Pl 2 (tgW ws) := .tup (pl_Ws ws)
theorem ab_dW {C hd : Addr} {H : Hp} {v : V} {ws : List (Int × Int)} (h : Ab C hd H v (tgW ws)) : Dp K H v (dW ws) := by
  have := Ab.dp (K := K) 2 (tgW ws) v (pl_W ws) h
  rw [tgD_W] at this
  exact this
theorem ab_dWs {C hd : Addr} {H : Hp} : ∀ {xs : List V} {ws : List (Int × Int)}, AbAll C hd H xs (ws.map tgP) → DpAll K H xs (ws.map dP)
  | _, [], h => by cases h; exact .nil
  | _, u :: ws, h => by
    cases h with
    | cons h1 h2 => exact .cons (Ab.dp (K := K) 1 (tgP u) _ (pl_P u) h1) (ab_dWs h2)
def LkT (t : Tg) : Prop := ∃ us, t = tgW us ∧ Lks us
theorem lk_ints {n : Int} {t : Tg} (e : lk n t = true) : ∃ u : Int × Int, t = tgP u ∧ 0 ≤ u.1 ∧ u.1 < u.2 ∧ u.2 < n := by
  unfold lk at e
  split at e
  · rename_i x y
    simp only [blw, Bool.and_eq_true, decide_eq_true_eq] at e
    exact ⟨(x, y), rfl, e.1.1.1, e.2, e.1.2.2⟩
  · exact Bool.noConfusion e
theorem lk_P {n : Int} {u : Int × Int} (h : 0 ≤ u.1 ∧ u.1 < u.2 ∧ u.2 < n) : lk n (tgP u) = true := by
  show ((blw n (.int u.1) && blw n (.int u.2)) && decide (u.1 < u.2)) = true
  simp only [blw, Bool.and_eq_true, decide_eq_true_eq]
  omega
theorem lk_all {n : Int} : ∀ {ts : List Tg}, ts.all (lk n) = true → ∃ us : List (Int × Int), ts = us.map tgP ∧ ∀ u ∈ us, 0 ≤ u.1 ∧ u.1 < u.2 ∧ u.2 < n
  | [], _ => ⟨[], rfl, fun _ h => by cases h⟩
  | t :: ts, h => by
    rw [List.all_cons, Bool.and_eq_true] at h
    obtain ⟨u, rfl, hu⟩ := lk_ints h.1
    obtain ⟨us, rfl, hus⟩ := lk_all h.2
    refine ⟨u :: us, rfl, fun v hv => ?_⟩
    rcases List.mem_cons.mp hv with e | hv
    · subst e; exact hu
    · exact hus v hv
theorem tgP_inj {u v : Int × Int} (h : tgP u = tgP v) : u = v := by
  unfold tgP at h
  injection h with h
  injection h with h1 h2
  injection h1 with h1
  injection h2 with h2 _
  injection h2 with h2
  exact Prod.ext h1 h2
theorem tgPs_inj : ∀ {us vs : List (Int × Int)}, us.map tgP = vs.map tgP → us = vs
  | [], [], _ => rfl
  | [], _ :: _, h => by cases h
  | _ :: _, [], h => by cases h
  | u :: us, v :: vs, h => by
    rw [List.map_cons, List.map_cons] at h
    injection h with h1 h2
    rw [tgP_inj h1, tgPs_inj h2]
theorem tgW_inj {us vs : List (Int × Int)} (h : tgW us = tgW vs) : us = vs := by
  unfold tgW at h
  injection h with h
  exact tgPs_inj h
theorem pr_ints {b : Int} {t : Tg} (e : pr b t = true) : ∃ x y, t = .tup [.int x, .int y] := by
  unfold pr at e
  split at e
  · exact ⟨_, _, rfl⟩
  · exact Bool.noConfusion e
theorem pr_lk {n : Int} {t : Tg} (e : pr n t = false) : lk n t = false := by
  cases h : lk n t with
  | false => rfl
  | true =>
    obtain ⟨u, rfl, h1, h2, h3⟩ := lk_ints h
    have : pr n (tgP u) = true := by
      show ((blw n (.int u.1) && blw n (.int u.2)) && !decide (u.1 = u.2)) = true
      simp only [blw, Bool.and_eq_true, decide_eq_true_eq, Bool.not_eq_true', decide_eq_false_iff_not]
      omega
    rw [this] at e; cases e
theorem len_full {m : Nat} {ks : List Int} (nd : ks.Nodup) (rng : ∀ k ∈ ks, 0 ≤ k ∧ k < (m : Int)) : ks.length = m ↔ ∀ x : Int, 0 ≤ x → x < m → x ∈ ks := by
  have sub : ∀ k ∈ ks, k ∈ (List.range m).map fun (i : Nat) => (i : Int) := fun k hk => by
    have := rng k hk
    exact List.mem_map.mpr ⟨k.toNat, List.mem_range.mpr (by omega), by omega⟩
  have le := List.Nodup.length_le_of_subset nd sub
  rw [List.length_map, List.length_range] at le
  have ndr : ((List.range m).map fun (i : Nat) => (i : Int)).Nodup := List.pairwise_map.mpr (List.nodup_range.imp fun {a b} n e => n (by omega))
  constructor
  · intro e x h0 h1
    by_cases c : x ∈ ks
    · exact c
    · exfalso
      have nd2 : (x :: ks).Nodup := List.nodup_cons.mpr ⟨c, nd⟩
      have := List.Nodup.length_le_of_subset (l₂ := (List.range m).map fun (i : Nat) => (i : Int)) nd2 fun k hk => by
        rcases List.mem_cons.mp hk with e | hk
        · rw [e]
          exact List.mem_map.mpr ⟨x.toNat, List.mem_range.mpr (by omega), by omega⟩
        · exact sub k hk
      rw [List.length_cons, List.length_map, List.length_range] at this
      omega
  · intro h
    have := List.Nodup.length_le_of_subset (l₂ := ks) ndr fun k hk => by
      obtain ⟨i, hi, rfl⟩ := List.mem_map.mp hk
      have := List.mem_range.mp hi
      exact h _ (by omega) (by omega)
    rw [List.length_map, List.length_range] at this
    omega
theorem dbl_rng {us : List (Int × Int)} {n : Int} (h : ∀ u ∈ us, 0 ≤ u.1 ∧ u.1 < u.2 ∧ u.2 < n) : ∀ u ∈ dbl us, (0 ≤ u.1 ∧ u.1 < n) ∧ (0 ≤ u.2 ∧ u.2 < n) := fun u hu => by
  rcases (dbl_mem us u).mp hu with q | q
  · have := h _ q; omega
  · have := h _ q; simp only at this; omega
def sp_nodes_beyond (K : PySem.W.Frag) : Sp := fun vs H Q _ => ∃ (p : Addr) (us : List (Int × Int)) (y m : Int), vs = [.ref p, .int y] ∧ PL K H p us ∧ us.length ≤ 31 ∧ (∀ u ∈ us, 0 ≤ u.1 ∧ u.1 < u.2 ∧ u.2 < m) ∧ 0 ≤ y ∧ y < m ∧ m ≤ 60 ∧
  ∀ (f : Addr) (kvs : List (Key × V)) (ks : List Int) H', G none H H' → H' f = some (.dK kvs) → kvs.map (·.1) = ks.map Sum.inl → ks.Nodup → (∀ k ∈ ks, 0 ≤ k ∧ k < m) → (∀ z, z ∈ ks ↔ Reach (dbl us) y z) → Q (.ref f) H'
theorem ok_nodes_beyond (T : Txt K mg a) : FnOk P w K mg base CX0 2 a.f_nodes_beyond a.d_nodes_beyond P_nodes_beyond (sp_nodes_beyond K) := by
  refine T.F_nodes_beyond.ok sc_nodes_beyond (fun vs H Q E h => by obtain ⟨p, us, y, m, rfl, _⟩ := h; rfl) (fun cdv A outer s H vs Q E hr h => ?_)
  obtain ⟨p, us, y, m, rfl, hp, lu, hu, y0, y1, m60, k⟩ := h
  have G_ways_from : FnOk P w K mg base CX0 1 a.f_ways_from a.d_ways_from P_ways_from (sp_ways_from K) := ok_ways_from T
  have G_there_and_back : FnOk P w K mg base CX0 1 a.f_there_and_back a.d_there_and_back P_there_and_back (sp_there_and_back K) := ok_there_and_back T
  refine ⟨_, (pss_one (ps_ret (pe_call (G_ways_from) (hr.mono (by omega)) rfl T.m_ways_from T.F_ways_from.kp T.b_ways_from .nil pass0 (pa_cons (pv 1) (pa_cons (pe_call (G_there_and_back) (hr.mono (by omega)) rfl T.m_there_and_back T.F_there_and_back.kp T.b_there_and_back .nil pass0 (pa_cons (pv 0) pa_nil)) pa_nil))))), ?_⟩
  walk_at "ws"
  refine ⟨p, us, rfl, hp, lu, fun D H1 hD ⟨g1, xs, h1, d1⟩ => ?_⟩
  walk_at "ws"
  refine ⟨y, m, D, xs, dbl us, rfl, SqL.of h1, d1, dbl_rng hu, by rw [dbl_len]; omega, ⟨y0, y1⟩, m60, fun f kvs ks H2 hf g2 h2 tr nd rng mem _ => ?_⟩
  exact k f kvs ks H2 (g1.trans g2) h2 tr.keys nd rng mem
def sp_are_ascending (K : PySem.W.Frag) : Sp := fun vs H Q _ => ∃ (p : Addr) (xs : List V) (us : List (Int × Int)), vs = [.ref p] ∧ SqT K H p xs ∧ DpAll K H xs (us.map dP) ∧ us.length ≤ 1000 ∧ ∀ b H', G none H H' → (b = true ↔ AscL us) → Q (.bl b) H'
theorem ok_are_ascending (T : Txt K mg a) : FnOk P w K mg base CX0 1 a.f_are_ascending a.d_are_ascending P_are_ascending (sp_are_ascending K) := by
  refine T.F_are_ascending.ok sc_are_ascending (fun vs H Q E h => by obtain ⟨p, xs, us, rfl, _⟩ := h; rfl) (fun cdv A outer s H vs Q E hr h => ?_)
  obtain ⟨p, xs, us, rfl, hp, hds, hz, k⟩ := h
  have lx := DpAll.length hds
  rw [List.length_map] at lx
  refine ⟨_, (pss_one (ps_ret (pe_callB (cr_all rfl) (by rfl) T.n_all (by decide +kernel) (pa_cons (pe_lc (own := [("one", 1), ("other", 2)]) (g := (gTup K 2 (gCons (gName 1) (gCons (gName 2) gNil)))) (tt := tYes) rfl sc_are_ascending.nd (RZ.pi_zipA (by rfl) T.n_zip (pa_cons (pv 0) (pa_cons (pe_slice sl_tupAN (pv 0) (po_some pe_int) po_none) pa_nil))) (blkOk_by (N := N_are_ascending) (sc := defScope s_are_ascending) (by decide +kernel)) (fun _ _ _ _ _ => (pg_tup rfl (pgs_cons (pg_name (i := 1) sc_are_ascending.nd rfl (by first | exact Or.inl rfl | exact Or.inr rfl)) (pgs_cons (pg_name (i := 2) sc_are_ascending.nd rfl (by first | exact Or.inl rfl | exact Or.inr rfl)) pgs_nil)))) (fun _ _ _ _ _ => pts_nil) (fun _ _ _ _ _ => (pe_cmpR (k_op_ltT K hr.units0) (pv 1) (pv 2) (nomark _)))) pa_nil)))), ?_⟩
  walk_at "ws"
  refine ⟨p, _, rfl, hp, fun q H1 g1 h1 => ?_⟩
  have e1 : cutV xs (some 1) none = xs.drop 1 := by
    cases xs with
    | nil => exact cut_nil
    | cons n ns => exact cut_from (n :: ns) (k := 0) (by simp)
  rw [e1] at h1
  walk_at "ws"
  refine ⟨p, q, _, _, rfl, .inr ⟨sqT_t (g1 none).tups hp, h1, ?_⟩⟩
  intro D hD
  refine lc_it (walk_zipT (xs := xs) (ys := xs.drop 1) rfl) (fun i H' => G none H1 H' ∧ BlA H' D i fun j => ∀ y z, us[j]? = some y → us[j + 1]? = some z → ltB y z) ⟨(G.refl).mut hD (fun _ e => nomatch e), .nil⟩ (fun i H' _ g => ⟨sqT_t ((g1 none).trans g.1).tups hp, sqT_t g.1.tups h1⟩) ?_ ?_
  · rintro i v H2 H3 hi ⟨g2, bl⟩ ⟨t, y, z, rfl, ht, rfl, ey, ez⟩
    have ey : xs[i]? = some y := ey
    have ez : (xs.drop 1)[i]? = some z := ez
    rw [List.getElem?_drop, Nat.add_comm] at ez
    have g12 := (g1 none).trans g2
    obtain ⟨d, hd, hy⟩ := DpAll.get ((dp_n g12).2 _ _ hds) ey
    rw [List.getElem?_map] at hd
    obtain ⟨u, hu, rfl⟩ := Option.map_eq_some_iff.mp hd
    obtain ⟨d, hd, hz⟩ := DpAll.get ((dp_n g12).2 _ _ hds) ez
    rw [List.getElem?_map] at hd
    obtain ⟨u', hu', rfl⟩ := Option.map_eq_some_iff.mp hd
    obtain ⟨ty, rfl, ty1⟩ := dp_dP hy
    obtain ⟨tz, rfl, tz1⟩ := dp_dP hz
    have gB : G none H2 (upd H2 t (.tup [.ref ty, .ref tz])) := G.alloc ht
    refine ⟨t, _, rfl, SqT.of upd_same, rfl, ?_⟩
    refine ⟨_, _, rfl, ?_⟩
    walk_at "ws"
    refine ⟨_, _, rfl, ?_⟩
    walk_at "ws"
    refine ⟨rfl, rfl, ?_⟩
    generalize upd H2 t (.tup [.ref ty, .ref tz]) = H3 at gB ⊢
    walk_at "ws"
    refine ⟨ty, tz, [u.1, u.2], [u'.1, u'.2], rfl, rfl, sqT_t gB.tups ty1, sqT_t gB.tups tz1, ?_⟩
    obtain ⟨acc, q1, q2, q3⟩ := (bl.n gB).app (c := ltL [u.1, u.2] [u'.1, u'.2]) (by
      rw [ltL_pair, Bool.or_eq_true, Bool.and_eq_true, decide_eq_true_iff, decide_eq_true_iff, decide_eq_true_iff]
      exact ⟨fun h y z e1 e2 => by rw [hu] at e1; rw [hu'] at e2; cases e1; cases e2; exact h, fun h => h _ _ hu hu'⟩) (by omega)
    exact ⟨acc, q1, q2, (g2.trans gB).mut hD (fun _ e => nomatch e), q3⟩
  rintro H2 ⟨g2, bl⟩
  obtain ⟨cs, c1, c2⟩ := bl.fin (K := K)
  walk_at "ws"
  refine ⟨D, cs, rfl, c1, ?_⟩
  refine k _ _ ((g1 none).trans g2) ?_
  rw [c2]
  have e2 : min xs.length (xs.drop 1).length = us.length - 1 := by rw [List.length_drop]; omega
  rw [e2]
  constructor
  · intro h j y z ey ez
    exact h j (by have := (List.getElem?_eq_some_iff.mp ez).1; omega) y z ey ez
  · intro h j _ y z ey ez
    exact h j y z ey ez
def sp_are_links (C : Addr) : Sp := fun vs H Q _ => ∃ (hd : Addr) (v : V) (t : Tg), vs = [v] ∧ Ab C hd H v t ∧ ∀ b H', G none H H' → (b = true ↔ LkT t) → Q (.bl b) H'
theorem ok_are_links (T : Txt K mg a) : FnOk P w K mg base CX0 6 a.f_are_links a.d_are_links P_are_links (sp_are_links a.c_Hall) := by
  refine T.F_are_links.ok sc_are_links (fun vs H Q E h => by obtain ⟨hd, v, t, rfl, _⟩ := h; rfl) (fun cdv A outer s H vs Q E hr h => ?_)
  obtain ⟨hd, v, t, rfl, ha, k⟩ := h
  have G_is_tuple_of : FnOk P w K mg base CX0 1 a.f_is_tuple_of a.d_is_tuple_of P_is_tuple_of (sp_is_tuple_of a.c_Hall) := ok_is_tuple_of T
  have G_is_unlike_pair : FnOk P w K mg base CX0 5 a.f_is_unlike_pair a.d_is_unlike_pair P_is_unlike_pair (sp_is_unlike_pair a.c_Hall) := ok_is_unlike_pair T
  have G_nodes_beyond : FnOk P w K mg base CX0 2 a.f_nodes_beyond a.d_nodes_beyond P_nodes_beyond (sp_nodes_beyond K) := ok_nodes_beyond T
  have G_are_ascending : FnOk P w K mg base CX0 1 a.f_are_ascending a.d_are_ascending P_are_ascending (sp_are_ascending K) := ok_are_ascending T
  refine ⟨_, (pss_cons (ps_if (pt_not (pt_val (pe_call (G_is_tuple_of) (hr.mono (by omega)) rfl T.m_is_tuple_of T.F_is_tuple_of.kp T.b_is_tuple_of .nil pass0 (pa_cons pe_int (pa_cons (pe_glob (v := .int 11) rfl T.m_MOST_LINKS ⟨_, rfl⟩) (pa_cons (pv 0) pa_nil))))))
    (pss_one (ps_ret pe_bl))
    pss_nil)
  (pss_cons (ps_set (i := 1) sc_are_links.nd rfl (Or.inr rfl) (pe_op op_add (pe_callB call_len_seq (by rfl) T.n_len (by decide +kernel) (pa_cons (pv 0) pa_nil)) pe_int))
  (pss_cons (ps_if (pt_not (pt_val (pe_callB (cr_all rfl) (by rfl) T.n_all (by decide +kernel) (pa_cons (pe_lc (own := [("link", 2)]) (g := (gName 2)) (tt := tYes) rfl sc_are_links.nd (pi_tup (pv 0)) (blkOk_by (N := N_are_links) (sc := defScope s_are_links) (by decide +kernel)) (fun _ _ _ _ _ => (pg_name (i := 2) sc_are_links.nd rfl (by first | exact Or.inl rfl | exact Or.inr rfl))) (fun _ _ _ _ _ => pts_nil) (fun _ _ _ _ _ => (pe_and (pe_call (G_is_unlike_pair) (hr.mono (by omega)) rfl T.m_is_unlike_pair T.F_is_unlike_pair.kp T.b_is_unlike_pair .nil pass0 (pa_cons (pv 1) (pa_cons (pv 2) pa_nil))) (pe_one (pe_cmpR op_lt (pe_ix (k_ix_tup K) (pv 2) pe_int (fun _ _ => rfl)) (pe_ix (k_ix_tup K) (pv 2) pe_int (fun _ _ => rfl)) (nomark _)))))) pa_nil))))
    (pss_one (ps_ret pe_bl))
    pss_nil)
  (pss_one (ps_ret (pe_and (pe_call (G_are_ascending) (hr.mono (by omega)) rfl T.m_are_ascending T.F_are_ascending.kp T.b_are_ascending .nil pass0 (pa_cons (pv 0) pa_nil)) (pe_one (pe_cmpR op_eq (pe_callB call_lenD (by rfl) T.n_len (by decide +kernel) (pa_cons (pe_call (G_nodes_beyond) (hr.mono (by omega)) rfl T.m_nodes_beyond T.F_nodes_beyond.kp T.b_nodes_beyond .nil pass0 (pa_cons (pv 0) (pa_cons pe_int pa_nil))) pa_nil)) (pv 1) (nomark _))))))))), ?_⟩
  walk_at "ws"
  refine ⟨0, 11, hd, v, t, rfl, ha, ?_⟩
  walk_at "ws"
  refine w_ite (fun e => ?_) (fun e => ?_)
  · have e : tsz 0 11 t = false := by simpa using e
    walk_at "ws"
    refine k false H G.refl ⟨(fun h => nomatch h), ?_⟩
    rintro ⟨us, rfl, L⟩
    have e : (decide ((0 : Int) ≤ (us.map tgP).length) && decide (((us.map tgP).length : Int) ≤ 11)) = false := e
    have l := L.n11
    rw [List.length_map] at e
    simp only [Bool.and_eq_false_iff, decide_eq_false_iff_not] at e
    omega
  have e : tsz 0 11 t = true := by simpa using e
  have et : isT "tuple" t = true := by cases t <;> first | rfl | exact Bool.noConfusion e
  obtain ⟨p, xs, ts, rfl, rfl, r, al⟩ := tup_of ha et
  have hl := al.length
  have l11 : ts.length ≤ 11 := by
    have e : (decide ((0 : Int) ≤ ts.length) && decide ((ts.length : Int) ≤ 11)) = true := e
    simp only [Bool.and_eq_true, decide_eq_true_eq] at e
    omega
  walk_at "ws"
  refine ⟨p, xs, rfl, .inr (.inl r), ?_⟩
  rw [hl]
  walk_at "ws"
  refine i_tup (.inl r) ?_
  intro D hD
  refine lc_pure (K := K) (o := none) (walk_tup (xs := xs)) (by omega) hD (fun _ e => nomatch e) (fun i => ts[i]?.map fun t => .bool (lk (ts.length + 1) t)) (fun H' g => .inl (g.tups _ _ r)) ?_ ?_
  · rintro i x H1 H2 hi g ⟨rfl, hx1⟩ Qy Qn ky kn
    obtain ⟨t, ht, ha⟩ := al.get hx1
    walk_at "ws"
    refine ⟨rfl, ?_⟩
    walk_at "ws"
    refine ⟨_, hd, x, t, rfl, ha.n g, fun H3 g3 => ?_⟩
    refine ⟨_, rfl, ?_⟩
    refine w_ite (fun e => ?_) (fun e => ?_)
    · obtain ⟨i1, j1, rfl⟩ := pr_ints e
      obtain ⟨q, rfl, rq⟩ := ((ha.n g).n g3).pair
      walk_at "ws"
      refine r_ixT (.inl rq) (v := .int i1) rfl ?_
      walk_at "ws"
      refine r_ixT (.inl rq) (v := .int j1) rfl ?_
      walk_at "ws"
      refine ky _ _ _ g3 (.bl _) rfl ?_
      rw [ht]
      show some (PyData.bool ((blw (ts.length + 1) (.int i1) && blw (ts.length + 1) (.int j1)) && decide (i1 < j1))) = _
      have e : ((blw (ts.length + 1) (.int i1) && blw (ts.length + 1) (.int j1)) && !decide (i1 = j1)) = true := e
      rw [Bool.and_eq_true] at e
      rw [e.1, Bool.true_and]
    · refine ky _ _ _ g3 (.bl _) rfl ?_
      rw [ht]
      show some (PyData.bool (lk _ t)) = _
      rw [pr_lk e]
  intro ys H1 g1 hD1 hds _
  rw [hl, filterMap_range_map] at hds
  obtain rfl := bools_tg hds
  walk_at "ws"
  refine ⟨D, ts.map (lk (ts.length + 1)), rfl, SqL.of hD1, ?_⟩
  have ea : (ts.map (lk (ts.length + 1))).all id = ts.all (lk (ts.length + 1)) := by rw [List.all_map]; rfl
  rw [ea]
  walk_at "ws"
  refine w_ite (fun e2 => ?_) (fun e2 => ?_)
  · have e2 : ts.all (lk (ts.length + 1)) = false := by simpa using e2
    walk_at "ws"
    refine k false _ g1 ⟨(fun h => nomatch h), ?_⟩
    rintro ⟨us, eu, L⟩
    unfold tgW at eu
    injection eu with eu
    subst eu
    have : (us.map tgP).all (lk ((us.map tgP).length + 1)) = true := by
      rw [List.all_eq_true]
      intro t ht
      obtain ⟨u, hu, rfl⟩ := List.mem_map.mp ht
      have := L.rng u hu
      rw [List.length_map]
      exact lk_P (by omega)
    rw [this] at e2; cases e2
  have e2 : ts.all (lk (ts.length + 1)) = true := by simpa using e2
  obtain ⟨us, rfl, rng⟩ := lk_all e2
  rw [List.length_map] at hl l11 rng
  rw [List.length_map]
  have r1 := g1.tups _ _ r
  have d1 : DpAll K H1 xs (us.map dP) := ab_dWs (al.n g1)
  walk_at "ws"
  refine ⟨p, xs, us, rfl, .inl r1, d1, by omega, fun b H2 g2 hb => ?_⟩
  walk_at "ws"
  refine w_ite (fun e3 => ?_) (fun e3 => ?_)
  · subst e3
    walk_at "ws"
    refine ⟨p, us, 0, us.length + 1, rfl, ⟨xs, .inr (.inl (g2.tups _ _ r1)), (dp_n g2).2 _ _ d1⟩, by omega, rng, by omega, by omega, by omega, fun f kvs ks H3 g3 h3 ek nd kr mem => ?_⟩
    walk_at "ws"
    refine ⟨f, kvs, rfl, h3, ?_⟩
    walk_at "ws"
    have lk_ : kvs.length = ks.length := by
      have := congrArg List.length ek
      rw [List.length_map, List.length_map] at this
      exact this
    refine k _ H3 ((g1.trans g2).trans g3) ?_
    rw [decide_eq_true_iff]
    have lf := len_full (m := us.length + 1) nd (fun z hz => by have := kr z hz; omega)
    constructor
    · intro e
      refine ⟨us, rfl, ⟨l11, fun u hu => by have := rng u hu; omega, hb.mp rfl, fun x h0 h1 => (mem x).mp (lf.mp (by omega) x h0 (by omega))⟩⟩
    · rintro ⟨us', eu, L⟩
      obtain rfl : us = us' := tgW_inj eu
      have := lf.mpr fun x h0 h1 => (mem x).mpr (L.conn x h0 (by omega))
      omega
  · subst e3
    refine k false H2 (g1.trans g2) ⟨fun h => (nomatch h), ?_⟩
    rintro ⟨us', eu, L⟩
    obtain rfl : us = us' := tgW_inj eu
    exact hb.mpr L.asc

end
end Mine
/-! ## K23 -/


namespace Mine
section
variable {P : Program} {w : World} {K : PySem.W.Frag} {mg : Str → Option Value} {base : Heap} {a : Ads}

/-! ### halls: nodes, links of each -/
def tgI (d : List Int) : Tg := .tup (d.map Tg.int)
theorem tgDs_ints (d : List Int) : tgDs (d.map Tg.int) = d.map PyData.int := by
  induction d with
  | nil => rfl
  | cons i d ih => show tgD (.int i) :: tgDs (d.map Tg.int) = _; rw [ih]; rfl
theorem tgD_I (d : List Int) : tgD (tgI d) = dI d := by show PyData.tuple (tgDs (d.map Tg.int)) = _; rw [tgDs_ints]
theorem pl_Is {n : Nat} (d : List Int) : ∀ u ∈ d.map Tg.int, Pl n u := fun z hz => by
  obtain ⟨i, _, rfl⟩ := List.mem_map.mp hz
  exact .int i
theorem pl_I {n : Nat} (d : List Int) : Pl (n + 1) (tgI d) := .tup (pl_Is d)
theorem ab_dI {C hd : Addr} {H : Hp} {v : V} {d : List Int} (h : Ab C hd H v (tgI d)) : Dp K H v (dI d) := by
  have := Ab.dp (K := K) 1 (tgI d) v (pl_I d) h
  rw [tgD_I] at this
  exact this
theorem flat_ints (ns : List Int) : (ns.map V.int).all flatV = true := by rw [List.all_map, List.all_eq_true]; intro q _; rfl
theorem fw_all {f : Nat → Bool} {n : Nat} (h : fw f n = none) : ∀ j, j < n → f j = true := fun j hj => by
  have := List.find?_eq_none.mp h j (List.mem_range.mpr hj)
  simpa using this
theorem inV_ints (d : List Int) (z : Int) : inV (.int z) (d.map V.int) = decide (z ∈ d) := by
  unfold inV
  rw [List.any_map, Bool.eq_iff_iff, List.any_eq_true, decide_eq_true_iff]
  constructor
  · rintro ⟨y, hy, e⟩
    have e : y = z := by simpa [eqV] using e
    exact e ▸ hy
  · intro h
    exact ⟨_, h, by simp [eqV]⟩
theorem tsz_tup {lo hi : Int} {C hd : Addr} {H : Hp} {v : V} {t : Tg} (h : Ab C hd H v t) (e : tsz lo hi t = true) : ∃ p xs ts, v = .ref p ∧ t = .tup ts ∧ Rd H p (.tup xs) ∧ AbAll C hd H xs ts := by
  cases h with
  | tup r al => exact ⟨_, _, _, rfl, rfl, r, al⟩
  | non => exact Bool.noConfusion (show false = true from e)
  | bl _ => exact Bool.noConfusion (show false = true from e)
  | int _ => exact Bool.noConfusion (show false = true from e)
  | str _ => exact Bool.noConfusion (show false = true from e)
  | oth _ _ => exact Bool.noConfusion (show false = true from e)

def deg (us : List (Int × Int)) (x : Int) : Nat := (us.filter fun u => decide (u.1 = x ∨ u.2 = x)).length
theorem deg_outs {us : List (Int × Int)} (h : ∀ u ∈ us, u.1 < u.2) (x : Int) : (outs (dbl us) x).length = deg us x := by
  induction us with
  | nil => rfl
  | cons u us ih =>
    have e : dbl (u :: us) = [u, (u.2, u.1)] ++ dbl us := rfl
    have ih := ih fun v hv => h v (List.mem_cons_of_mem _ hv)
    have hu := h u List.mem_cons_self
    unfold outs deg at ih ⊢
    rw [e, List.filter_append, List.map_append, List.length_append, ih, List.filter_cons, List.filter_cons, List.filter_cons, List.filter_nil]
    by_cases c1 : u.1 = x <;> by_cases c2 : u.2 = x <;> simp [c1, c2] <;> omega
theorem outs_fm (us : List (Int × Int)) (x : Int) : (us.filterMap fun u => if u.1 = x then some (PyData.int u.2) else none) = (outs us x).map PyData.int := by
  unfold outs
  induction us with
  | nil => rfl
  | cons u us ih =>
    rw [List.filterMap_cons, List.filter_cons]
    by_cases c : u.1 = x
    · simp only [c, if_true, decide_true, List.map_cons]
      rw [ih]
    · simp only [c, if_false, decide_false, Bool.false_eq_true]
      exact ih
def sp_neighbours_of (K : PySem.W.Frag) : Sp := fun vs H Q _ => ∃ (p : Addr) (us : List (Int × Int)) (x : Int), vs = [.ref p, .int x] ∧ PL K H p us ∧ us.length ≤ 31 ∧ (∀ u ∈ us, u.1 < u.2) ∧
  ∀ (l : Addr) (zs : List Int) H', G none H H' → H' l = some (.lst (zs.map V.int)) → zs.length = deg us x → Q (.ref l) H'
theorem ok_neighbours_of (T : Txt K mg a) : FnOk P w K mg base CX0 2 a.f_neighbours_of a.d_neighbours_of P_neighbours_of (sp_neighbours_of K) := by
  refine T.F_neighbours_of.ok sc_neighbours_of (fun vs H Q E h => by obtain ⟨p, us, x, rfl, _⟩ := h; rfl) (fun cdv A outer s H vs Q E hr h => ?_)
  obtain ⟨p, us, x, rfl, hp, lu, hu, k⟩ := h
  have G_there_and_back : FnOk P w K mg base CX0 1 a.f_there_and_back a.d_there_and_back P_there_and_back (sp_there_and_back K) := ok_there_and_back T
  refine ⟨_, (pss_one (ps_ret (pe_callB cr_sortedI (by rfl) T.n_sorted (by decide +kernel) (pa_cons (pe_lc (own := [("y", 2), ("x", 3)]) (g := (gTup K 2 (gCons (gName 2) (gCons (gName 3) gNil)))) rfl sc_neighbours_of.nd (pi_list (pe_call (G_there_and_back) (hr.mono (by omega)) rfl T.m_there_and_back T.F_there_and_back.kp T.b_there_and_back .nil pass0 (pa_cons (pv 0) pa_nil))) (blkOk_by (N := N_neighbours_of) (sc := defScope s_neighbours_of) (by decide +kernel)) (fun _ _ _ _ _ => (pg_tup rfl (pgs_cons (pg_name (i := 2) sc_neighbours_of.nd rfl (by first | exact Or.inl rfl | exact Or.inr rfl)) (pgs_cons (pg_name (i := 3) sc_neighbours_of.nd rfl (by first | exact Or.inl rfl | exact Or.inr rfl)) pgs_nil)))) (fun _ _ _ _ _ => (pts_one (pt_cmpR op_eq (pv 2) (pv 1) (nomark _)))) (fun _ _ _ _ _ => (pv 3))) pa_nil)))), ?_⟩
  walk_at "ws"
  refine ⟨p, us, rfl, hp, lu, fun D0 H1 hD0 ⟨g1, xs, h1, d1⟩ => ?_⟩
  have lx := DpAll.length d1
  rw [List.length_map] at lx
  have ld := dbl_len us
  walk_at "ws"
  refine i_list (SqL.of h1) ?_
  intro D hD
  refine lc_pure (K := K) (o := none) (walk_list (xs := xs)) (by omega) hD (fun _ e => nomatch e) (fun i => (dbl us)[i]?.bind fun u => if u.1 = x then some (PyData.int u.2) else none) (fun H' g => sqL_n g (SqL.of h1)) ?_ ?_
  · rintro i v _ H2 hi g2 ⟨rfl, hv⟩ Qy Qn ky kn
    obtain ⟨d, hd, hvd⟩ := DpAll.get d1 hv
    rw [List.getElem?_map] at hd
    obtain ⟨u, hu, rfl⟩ := Option.map_eq_some_iff.mp hd
    obtain ⟨tt, rfl, htt⟩ := dp_dP hvd
    refine ⟨tt, _, rfl, sqT_t g2.tups htt, rfl, ?_⟩
    refine ⟨_, _, rfl, ?_⟩
    walk_at "ws"
    refine ⟨_, _, rfl, ?_⟩
    walk_at "ws"
    refine ⟨rfl, rfl, ?_⟩
    walk_at "ws"
    refine w_ite (fun e => ?_) (fun e => ?_)
    · have e : u.1 = x := of_decide_eq_true e
      walk_at "ws"
      exact ky _ _ _ G.refl (.int _) rfl (by rw [hu, Option.bind_some, if_pos e])
    · have e : ¬ u.1 = x := of_decide_eq_false e
      exact kn _ G.refl (by rw [hu, Option.bind_some, if_neg e])
  intro ys H2 g2 hD2 hds _
  rw [show xs.length = (dbl us).length from lx, filterMap_range_fm, outs_fm] at hds
  obtain rfl := DpAll.of_ints hds
  walk_at "ws"
  refine ⟨D, _, rfl, SqL.of hD2, fun zs l pm _ hl => ?_⟩
  refine k l zs _ ((g1.trans g2).trans (G.alloc hl)) upd_same ?_
  rw [pm.length_eq, deg_outs hu]
/-! ### what is refused -/
def pairOf : Tg → Int × Int
  | .tup [.int a, .int b] => (a, b)
  | _ => (0, 0)
def usOf : Tg → List (Int × Int)
  | .tup ts => ts.map pairOf
  | _ => []
def intOf : Tg → Int
  | .int i => i
  | _ => 0
def plOf : Tg → List Int
  | .tup ts => ts.map intOf
  | _ => []
def wrongP (n : Int) : Tg → Option Nat
  | .tup ts => fw (fun i => blw n (ts.getD i .non)) ts.length
  | _ => none
def BadRel (us : List (Int × Int)) (pl : List Int) : Prop := ∃ x : Nat, x < us.length + 1 ∧ (x : Int) ∉ pl ∧ deg us x < 3
theorem usOf_W (us : List (Int × Int)) : usOf (tgW us) = us := by
  show (us.map tgP).map pairOf = us
  rw [List.map_map]
  exact List.map_id us
theorem plOf_I (pl : List Int) : plOf (tgI pl) = pl := by
  show (pl.map Tg.int).map intOf = pl
  rw [List.map_map]
  exact List.map_id pl
open Classical in
noncomputable def hdue (tl tp : Tg) : Option V := if tsz 1 7 tp = false then some (.str "places") else if ¬ LkT tl then some (.str "links") else
  match wrongP ((usOf tl).length + 1) tp with
  | some i => some (.int (i : Nat))
  | none => if BadRel (usOf tl) (plOf tp) then some (.str "relays") else none
theorem hdue_p {tl tp : Tg} (e : tsz 1 7 tp = false) : hdue tl tp = some (.str "places") := by unfold hdue; rw [if_pos e]
theorem hdue_l {tl tp : Tg} (e : tsz 1 7 tp = true) (h : ¬ LkT tl) : hdue tl tp = some (.str "links") := by unfold hdue; rw [if_neg (by rw [e]; simp), if_pos h]
theorem hdue_m {us : List (Int × Int)} {tp : Tg} (e : tsz 1 7 tp = true) (h : Lks us) {i : Nat} (w : wrongP (us.length + 1) tp = some i) : hdue (tgW us) tp = some (.int (i : Nat)) := by
  unfold hdue; rw [if_neg (by rw [e]; simp), if_neg (fun n => n ⟨us, rfl, h⟩), usOf_W, w]
theorem hdue_r {us : List (Int × Int)} {tp : Tg} (e : tsz 1 7 tp = true) (h : Lks us) (w : wrongP (us.length + 1) tp = none) (r : BadRel us (plOf tp)) : hdue (tgW us) tp = some (.str "relays") := by
  unfold hdue; rw [if_neg (by rw [e]; simp), if_neg (fun n => n ⟨us, rfl, h⟩), usOf_W, w]
  exact if_pos r
theorem hdue_n {us : List (Int × Int)} {tp : Tg} (e : tsz 1 7 tp = true) (h : Lks us) (w : wrongP (us.length + 1) tp = none) (r : ¬ BadRel us (plOf tp)) : hdue (tgW us) tp = none := by
  unfold hdue; rw [if_neg (by rw [e]; simp), if_neg (fun n => n ⟨us, rfl, h⟩), usOf_W, w]
  exact if_neg r
theorem getD_of {ts : List Tg} {i : Nat} {t : Tg} (h : ts[i]? = some t) : ts.getD i .non = t := by rw [List.getD_eq_getElem?_getD, h]; rfl
theorem blw_all {n : Int} : ∀ {ts : List Tg}, (∀ j, j < ts.length → blw n (ts.getD j .non) = true) → ∃ pl : List Int, ts = pl.map Tg.int ∧ ∀ x ∈ pl, 0 ≤ x ∧ x < n
  | [], _ => ⟨[], rfl, fun _ h => by cases h⟩
  | t :: ts, h => by
    have h0 := h 0 (by simp)
    obtain ⟨i, rfl⟩ := blw_int (show blw n t = true from h0)
    obtain ⟨pl, rfl, hp⟩ := blw_all (ts := ts) fun j hj => h (j + 1) (by simpa using hj)
    refine ⟨i :: pl, rfl, fun x hx => ?_⟩
    rcases List.mem_cons.mp hx with e | hx
    · subst e
      have h0 : (decide (0 ≤ x) && decide (x < n)) = true := h0
      simpa using h0
    · exact hp x hx
/-- links and places of a hall -/
structure HallOk (us : List (Int × Int)) (pl : List Int) : Prop where
  lks : Lks us
  p1 : 1 ≤ pl.length
  p7 : pl.length ≤ 7
  prng : ∀ x ∈ pl, 0 ≤ x ∧ x < (us.length : Int) + 1
  rel : ¬ BadRel us pl
theorem tsz_I {lo hi : Int} {ts : List Tg} : tsz lo hi (.tup ts) = true ↔ lo ≤ ts.length ∧ (ts.length : Int) ≤ hi := by
  show (decide (lo ≤ ts.length) && decide ((ts.length : Int) ≤ hi)) = true ↔ _
  rw [Bool.and_eq_true, decide_eq_true_iff, decide_eq_true_iff]
theorem hdue_ok {us : List (Int × Int)} {pl : List Int} (h : HallOk us pl) : hdue (tgW us) (tgI pl) = none := by
  have e := tsz_I (lo := 1) (hi := 7) (ts := pl.map Tg.int)
  rw [List.length_map] at e
  refine hdue_n (e.mpr ⟨by have := h.p1; omega, by have := h.p7; omega⟩) h.lks ?_ (by rw [plOf_I]; exact h.rel)
  show fw _ _ = none
  refine fw_none fun j hj => ?_
  rw [List.length_map] at hj
  rw [getD_of (t := .int pl[j]) (by rw [List.getElem?_map, List.getElem?_eq_getElem hj]; rfl)]
  have := h.prng _ (List.getElem_mem hj)
  show (decide (0 ≤ pl[j]) && decide (pl[j] < (us.length : Int) + 1)) = true
  simp only [Bool.and_eq_true, decide_eq_true_eq]
  omega
theorem hdue_none {tl tp : Tg} (h : hdue tl tp = none) : ∃ us pl, tl = tgW us ∧ tp = tgI pl ∧ HallOk us pl := by
  cases e : tsz 1 7 tp with
  | false => rw [hdue_p e] at h; cases h
  | true =>
    by_cases l : LkT tl
    · obtain ⟨us, rfl, L⟩ := l
      cases w : wrongP (us.length + 1) tp with
      | some i => rw [hdue_m e L w] at h; cases h
      | none =>
        by_cases r : BadRel us (plOf tp)
        · rw [hdue_r e L w r] at h; cases h
        · cases tp with
          | tup ts =>
            obtain ⟨pl, rfl, rng⟩ := blw_all (fw_all w)
            have e := tsz_I.mp e
            rw [List.length_map] at e
            exact ⟨us, pl, rfl, rfl, L, by omega, by omega, fun x hx => by have := rng x hx; omega, by rw [← plOf_I pl]; exact r⟩
          | non => cases e
          | bl _ => cases e
          | int _ => cases e
          | str _ => cases e
          | oth => cases e
    · rw [hdue_l e l] at h; cases h
def sp_BadHall_init (C : Addr) : Sp := fun vs H Q _ => ∃ (x : Addr) (v : V), vs = [.ref x, v] ∧ H x = some (exo x C none) ∧ ∀ dx, H dx = none → dx ≠ x → Q .non (upd (upd H dx (exd dx [(("part" : Str), v)])) x (exo x C (some dx)))
theorem ok_BadHall_init (T : Txt K mg a) : FnOk P w K mg base CX0 1 a.f_BadHall_init a.d_BadHall_init P_BadHall_init (sp_BadHall_init a.c_BadHall) := by
  refine T.F_BadHall_init.ok sc_BadHall_init (fun vs H Q E h => by obtain ⟨x, v, rfl, _⟩ := h; rfl) (fun cdv A outer s H vs Q E hr h => ?_)
  obtain ⟨x, v, rfl, hx, k⟩ := h
  refine ⟨_, (pss_one (ps_ost (pv 0) (pv 1))), ?_⟩
  refine ⟨_, rfl, _, rfl, x, a.c_BadHall, rfl, T.ox, T.xp, .inl ⟨hx, fun dx h1 h2 => ?_⟩⟩
  exact k dx h1 h2
/-- BadWeb(part) is raised: what is left to tell -/
theorem w_mkO {C : Addr} {sp : Sp} {dvs : List V} {ta : TA} {σ : L2.St} {H : Hp} {Q : XK} (q : ta σ H fun vs H1 => vs.length ≤ 1000 ∧ ∀ x, H1 x = none → sp (.ref x :: (vs ++ dvs)) (upd H1 x (exo x C none))
    (fun v H2 => v = .non ∧ ∃ (d : Addr) (fs : List (Str × V)), H2 x = some (exo x C (some d)) ∧ H2 d = some (exd d fs) ∧ H1 d = none ∧ Q (.ref C) (some d) (upd (del H2 x) d (.xd fs))) (fun _ _ _ => False)) : tMkO C sp dvs ta σ H Q := q
theorem bad_hall {C : Addr} {W : XK} {H H1 : Hp} {v : V} (g : G none H H1) (h : ∀ d H', G none H H' → H' d = some (.xd [(("part" : Str), v)]) → W (.ref C) (some d) H') :
    [v].length ≤ 1000 ∧ ∀ x, H1 x = none → sp_BadHall_init C (.ref x :: ([v] ++ [])) (upd H1 x (exo x C none))
    (fun u H2 => u = .non ∧ ∃ (d : Addr) (fs : List (Str × V)), H2 x = some (exo x C (some d)) ∧ H2 d = some (exd d fs) ∧ H1 d = none ∧ W (.ref C) (some d) (upd (del H2 x) d (.xd fs))) (fun _ _ _ => False) := by
  refine ⟨by simp, fun x hx => ⟨x, v, rfl, upd_same, fun dx h1 h2 => ⟨rfl, dx, _, upd_same, by rw [upd_ne h2]; exact upd_same, by rw [upd_ne h2] at h1; exact h1, ?_⟩⟩⟩
  have h1' : H1 dx = none := by rw [upd_ne h2] at h1; exact h1
  refine h dx _ (g.trans (G.of_all fun b u e => ?_)) upd_same
  have n1 : b ≠ dx := ne_of_none e h1'
  have n2 : b ≠ x := ne_of_none e hx
  rw [upd_ne n1, del_ne n2, upd_ne n2, upd_ne n1, upd_ne n2]
  exact e
theorem w_iteA {b : Bool} {A B : Prop} (h : b = true) (q : A) : if b = true then A else B := by rw [if_pos h]; exact q
theorem w_iteB {b : Bool} {A B : Prop} (h : b = false) (q : B) : if b = true then A else B := by rw [h, if_neg Bool.false_ne_true]; exact q

def sp_check_hall (C CB : Addr) : Sp := fun vs H Q E => ∃ (hd : Addr) (lv pv : V) (tl tp : Tg), vs = [lv, pv] ∧ Ab C hd H lv tl ∧ Ab C hd H pv tp ∧
  (hdue tl tp = none → ∀ H', G none H H' → Q .non H') ∧
  (∀ e, hdue tl tp = some e → ∀ d H', G none H H' → H' d = some (.xd [(("part" : Str), e)]) → E (.ref CB) (some d) H')
theorem ok_check_hall (T : Txt K mg a) : FnOk P w K mg base (L2.CX P w) 7 a.f_check_hall a.d_check_hall P_check_hall (sp_check_hall a.c_Hall a.c_BadHall) := by
  refine T.F_check_hall.okX sc_check_hall (fun vs H Q E h => by obtain ⟨hd, lv, pv, tl, tp, rfl, _⟩ := h; rfl) (fun cdv A outer s H vs Q E hr h => ?_)
  obtain ⟨hd, lv, pv_, tl, tp, rfl, hl, hp, kok, kbad⟩ := h
  have G_is_tuple_of : FnOk P w K mg base CX0 1 a.f_is_tuple_of a.d_is_tuple_of P_is_tuple_of (sp_is_tuple_of a.c_Hall) := ok_is_tuple_of T
  have G_is_below : FnOk P w K mg base CX0 3 a.f_is_below a.d_is_below P_is_below (sp_is_below a.c_Hall) := ok_is_below T
  have G_are_links : FnOk P w K mg base CX0 6 a.f_are_links a.d_are_links P_are_links (sp_are_links a.c_Hall) := ok_are_links T
  have G_neighbours_of : FnOk P w K mg base CX0 2 a.f_neighbours_of a.d_neighbours_of P_neighbours_of (sp_neighbours_of K) := ok_neighbours_of T
  have G_BadHall_init : FnOk P w K mg base CX0 1 a.f_BadHall_init a.d_BadHall_init P_BadHall_init (sp_BadHall_init a.c_BadHall) := ok_BadHall_init T
  refine ⟨_, (pss_cons (ps_if (pt_not (pt_val (pe_call (G_is_tuple_of) (hr.mono (by omega)) rfl T.m_is_tuple_of T.F_is_tuple_of.kp T.b_is_tuple_of .nil pass0 (pa_cons pe_int (pa_cons (pe_glob (v := .int 7) rfl T.m_MOST_MACHINES ⟨_, rfl⟩) (pa_cons (pv 1) pa_nil))))))
    (pss_one (ps_raise rfl (takes_of rfl rfl rfl rfl) (pmk_oex T.ox T.xi T.xt G_BadHall_init (hr.mono (by omega)) T.b_BadHall_init .nil pass0 rfl T.m_BadHall (pa_cons pe_str pa_nil))))
    pss_nil)
  (pss_cons (ps_if (pt_not (pt_val (pe_call (G_are_links) (hr.mono (by omega)) rfl T.m_are_links T.F_are_links.kp T.b_are_links .nil pass0 (pa_cons (pv 0) pa_nil))))
    (pss_one (ps_raise rfl (takes_of rfl rfl rfl rfl) (pmk_oex T.ox T.xi T.xt G_BadHall_init (hr.mono (by omega)) T.b_BadHall_init .nil pass0 rfl T.m_BadHall (pa_cons pe_str pa_nil))))
    pss_nil)
  (pss_cons (ps_set (i := 2) sc_check_hall.nd rfl (Or.inl rfl) (pe_op op_add (pe_callB call_len_seq (by rfl) T.n_len (by decide +kernel) (pa_cons (pv 0) pa_nil)) pe_int))
  (pss_cons (ps_for (passes_of rfl) rfl (pi_enumT (by rfl) T.n_enumerate (pa_cons (pv 1) pa_nil)) (pg_tup rfl (pgs_cons (pg_name (i := 3) sc_check_hall.nd rfl (Or.inl rfl)) (pgs_cons (pg_name (i := 4) sc_check_hall.nd rfl (Or.inl rfl)) pgs_nil)))
    (pss_one (ps_if (pt_not (pt_val (pe_call (G_is_below) (hr.mono (by omega)) rfl T.m_is_below T.F_is_below.kp T.b_is_below .nil pass0 (pa_cons (pv 2) (pa_cons (pv 4) pa_nil)))))
    (pss_one (ps_raise rfl (takes_of rfl rfl rfl rfl) (pmk_oex T.ox T.xi T.xt G_BadHall_init (hr.mono (by omega)) T.b_BadHall_init .nil pass0 rfl T.m_BadHall (pa_cons (pv 3) pa_nil))))
    pss_nil)))
  (pss_one (ps_for (passes_of rfl) rfl (pi_range1 rfl T.n_range (pa_cons (pv 2) pa_nil)) (pg_name (i := 5) sc_check_hall.nd rfl (Or.inl rfl))
    (pss_one (ps_if (L2.PW.pt (pw_and (pt_cmpR op_notIn_seq (pv 5) (pv 1) (by rfl)) (pw_and1 (pt_cmpR op_lt (pe_callB call_len_seq (by rfl) T.n_len (by decide +kernel) (pa_cons (pe_call (G_neighbours_of) (hr.mono (by omega)) rfl T.m_neighbours_of T.F_neighbours_of.kp T.b_neighbours_of .nil pass0 (pa_cons (pv 0) (pa_cons (pv 5) pa_nil))) pa_nil)) (pe_glob (v := .int 3) rfl T.m_LEAST_BRANCHES ⟨_, rfl⟩) (nomark _)))))
    (pss_one (ps_raise rfl (takes_of rfl rfl rfl rfl) (pmk_oex T.ox T.xi T.xt G_BadHall_init (hr.mono (by omega)) T.b_BadHall_init .nil pass0 rfl T.m_BadHall (pa_cons pe_str pa_nil))))
    pss_nil)))))))), ?_⟩
  walk_at "ws"
  refine ⟨1, 7, hd, pv_, tp, rfl, hp, ?_⟩
  walk_at "ws"
  refine w_ite (fun e => ?_) (fun e => ?_)
  · have e : tsz 1 7 tp = false := by simpa using e
    refine w_mkO ?_
    walk_at "ws"
    exact bad_hall (v := .str "places") G.refl fun d H' g h => kbad _ (hdue_p e) d H' g h
  have e1 : tsz 1 7 tp = true := by simpa using e
  walk_at "ws"
  refine ⟨hd, lv, tl, rfl, hl, fun b H1 g1 hb => ?_⟩
  walk_at "ws"
  refine w_ite (fun e => ?_) (fun e => ?_)
  · have e : b = false := by simpa using e
    refine w_mkO ?_
    walk_at "ws"
    exact bad_hall (v := .str "links") g1 fun d H' g h => kbad _ (hdue_l e1 fun l => by rw [hb.mpr l] at e; cases e) d H' g h
  have e : b = true := by simpa using e
  obtain ⟨us, rfl, L⟩ := hb.mp e
  obtain ⟨pp, pxs, pts, rfl, rfl, rp, ap⟩ := tsz_tup hp e1
  have hl1 := hl.n g1
  cases hl with
  | @tup lp lxs _ rl al =>
  have ll := al.length
  rw [List.length_map] at ll
  have lp_ := ap.length
  have l11 := L.n11
  have pl7 := tsz_I.mp e1
  walk_at "ws"
  refine ⟨lp, lxs, rfl, .inr (.inl (g1.tups _ _ rl)), ?_⟩
  rw [ll]
  walk_at "ws"
  refine i_enum (.inl (g1.tups _ _ rp)) ?_
  refine for_it (walk_enumT (xs := pxs)) (fun i σ H' => G none H H' ∧ (∀ j, j < i → blw ((us.length : Int) + 1) (pts.getD j .non) = true) ∧ ∃ u3 u4 u5, σ = [some (.ref lp), some (.ref pp), some (.int ((us.length : Int) + 1)), u3, u4, u5]) ⟨g1, (fun _ h => absurd h (Nat.not_lt_zero _)), _, _, _, rfl⟩ (fun i σ H1 _ h => .inl (h.1.tups _ _ rp)) ?_ ?_
  · rintro i x σ H2 H3 hi ⟨g2, ho, u3, u4, u5, rfl⟩ ⟨t, y, z, rfl, ht, rfl, ey, ez⟩
    cases Option.some.inj ey
    have g3 : G none H2 (upd H2 t (.tup [.int (i : Nat), z])) := G.alloc ht
    refine ⟨t, _, rfl, SqT.of upd_same, rfl, ?_⟩
    refine ⟨_, _, rfl, ?_⟩
    walk_at "ws"
    refine ⟨_, _, rfl, ?_⟩
    walk_at "ws"
    refine ⟨rfl, ?_⟩
    generalize upd H2 t (.tup [.int (i : Nat), z]) = H3 at g3 ⊢
    have g03 := g2.trans g3
    obtain ⟨tg, htg, hz⟩ := ap.get ez
    have egi := getD_of htg
    walk_at "ws"
    refine ⟨_, hd, z, tg, rfl, hz.n g03, ?_⟩
    walk_at "ws"
    refine w_ite (fun e => ?_) (fun e => ?_)
    · have e : blw ((us.length : Int) + 1) tg = false := by simpa using e
      refine w_mkO ?_
      walk_at "ws"
      refine bad_hall (v := .int (i : Nat)) g03 fun d H' g h => kbad _ (hdue_m e1 L ?_) d H' g h
      exact fw_some (by omega) ho (by rw [egi]; exact e)
    · have e : blw ((us.length : Int) + 1) tg = true := by simpa using e
      walk_at "ws"
      refine ⟨g03, fun j hj => ?_, _, _, _, rfl⟩
      rcases Nat.lt_succ_iff_lt_or_eq.mp hj with z | z
      · exact ho j z
      · rw [z, egi]; exact e
  rintro σ H2 ⟨g2, ho, u3, u4, u5, rfl⟩
  have wn : wrongP ((us.length : Int) + 1) (.tup pts) = none := fw_none (by rw [← lp_]; exact ho)
  rw [lp_] at ho
  obtain ⟨pl, rfl, prng⟩ := blw_all ho
  have rp2 : SqT K H2 pp (pl.map V.int) := by
    have := ap.ints_inv
    rw [← this]
    exact .inl (g2.tups _ _ rp)
  rw [List.length_map] at pl7
  have dl : DpAll K H lxs (us.map dP) := ab_dWs al
  walk_at "ws"
  refine i_rng1 (by omega) (by omega) ?_
  refine for_it walk_range (fun i σ H' => G none H H' ∧ (∀ j : Nat, j < i → ¬ ((j : Int) ∉ pl ∧ deg us j < 3)) ∧ ∃ u3 u4 u5, σ = [some (.ref lp), some (.ref pp), some (.int ((us.length : Int) + 1)), u3, u4, u5]) ⟨g2, (fun _ h => absurd h (Nat.not_lt_zero _)), _, _, _, rfl⟩ (fun _ _ _ _ _ => trivial) ?_ ?_
  · rintro i _ σ _ H3 hi ⟨g3, ho3, u3, u4, u5, rfl⟩ ⟨rfl, rfl⟩
    have rp3 : SqT K H3 pp (pl.map V.int) := by
      have := ap.ints_inv
      rw [← this]
      exact .inl (g3.tups _ _ rp)
    walk_at "ws"
    refine ⟨pp, _, rfl, .inr rp3, rfl, flat_ints pl, ?_⟩
    rw [inV_ints]
    have ei : (0 : Int) + (i : Int) = (i : Int) := by omega
    rw [ei]
    refine ⟨_, rfl, ?_⟩
    refine w_ite (fun e => ?_) (fun e => ?_)
    · have e : (i : Int) ∉ pl := by simpa using e
      walk_at "ws"
      refine ⟨lp, us, 0 + (i : Int), rfl, ⟨lxs, .inr (.inl (g3.tups _ _ rl)), (dp_n g3).2 _ _ dl⟩, by omega, fun u hu => by have := L.rng u hu; omega, fun l zs H4 g4 h4 lz => ?_⟩
      walk_at "ws"
      refine ⟨l, _, rfl, .inl (SqL.of h4), ?_⟩
      rw [List.length_map, lz, ei]
      walk_at "ws"
      refine w_ite (fun e5 => ?_) (fun e5 => ?_)
      · have e5 : ((deg us i : Nat) : Int) < 3 := of_decide_eq_true e5
        refine w_mkO ?_
        walk_at "ws"
        refine bad_hall (v := .str "relays") (g3.trans g4) fun d H' g h => kbad _ (hdue_r e1 L wn ?_) d H' g h
        have := plOf_I pl
        unfold tgI at this
        rw [this]
        exact ⟨i, by omega, e, by omega⟩
      · have e5 : ¬ ((deg us i : Nat) : Int) < 3 := of_decide_eq_false e5
        walk_at "ws"
        refine ⟨g3.trans g4, fun j hj => ?_, _, _, _, rfl⟩
        rcases Nat.lt_succ_iff_lt_or_eq.mp hj with z | z
        · exact ho3 j z
        · subst z
          rintro ⟨_, h2⟩
          omega
    · have e : (i : Int) ∈ pl := by simpa using e
      walk_at "ws"
      refine ⟨g3, fun j hj => ?_, _, _, _, rfl⟩
      rcases Nat.lt_succ_iff_lt_or_eq.mp hj with z | z
      · exact ho3 j z
      · subst z
        rintro ⟨h1, _⟩
        exact h1 e
  rintro σ H3 ⟨g3, ho3, u3, u4, u5, rfl⟩
  walk_at "ws"
  refine kok (hdue_n e1 L wn ?_) _ g3
  have := plOf_I pl
  unfold tgI at this
  rw [this]
  rintro ⟨x, hx, h1, h2⟩
  exact ho3 x (by omega) ⟨h1, h2⟩
theorem lp_ne : ¬ (("links" : Str) = "places") := by decide +kernel
def wf (l p : V) : List (Str × V) := [("links", l), ("places", p)]
theorem wf_l (l p : V) : (wf l p).lookup ("links" : Str) = some l := by simp [wf, List.lookup]
theorem wf_p (l p : V) : (wf l p).lookup ("places" : Str) = some p := by
  have e : (("places" : Str) == "links") = false := by simpa using fun z => lp_ne z.symm
  simp [wf, List.lookup, e]
theorem wput0 (m : V) : putF "links" m [] = [(("links" : Str), m)] := rfl
theorem wput1 (m w : V) : putF "places" w [(("links" : Str), m)] = wf m w := by
  show (if ("links" : Str) = "places" then _ else (("links" : Str), m) :: putF "places" w []) = _
  rw [if_neg lp_ne]; rfl
theorem r_fld {o : Addr} {C dx : Addr} {fs : List (Str × V)} {v : V} {f : Str} {H : Hp} {F : V → Prop} (e : H o = some (.ins C dx fs)) (c : Cls K C) (n : NoAttr K C f) (l : fs.lookup f = some v) (q : F v) :
    ∃ a C dx fs v, V.ref o = .ref a ∧ H a = some (.ins C dx fs) ∧ Cls K C ∧ NoAttr K C f ∧ fs.lookup f = some v ∧ F v := ⟨o, C, dx, fs, v, rfl, e, c, n, l, q⟩
theorem r_sfld {o : Addr} {C dx : Addr} {fs : List (Str × V)} {F : Hp → Prop} {f : Str} {y : V} {H : Hp} (e : H o = some (.ins C dx fs)) (c : Cls K C) (n : NoAttr K C f) (l : fs.length < 1000) (q : F (upd H o (.ins C dx (putF f y fs)))) :
    ∃ a C dx fs, V.ref o = .ref a ∧ H a = some (.ins C dx fs) ∧ Cls K C ∧ NoAttr K C f ∧ fs.length < 1000 ∧ F (upd H a (.ins C dx (putF f y fs))) := ⟨o, C, dx, fs, rfl, e, c, n, l, q⟩

def sp_Hall_init (C CB : Addr) : Sp := fun vs H Q E => ∃ (x dx hd : Addr) (mv wv : V) (tm tw : Tg), vs = [.ref x, mv, wv] ∧ H x = some (.ins C dx []) ∧ Ab C hd H mv tm ∧ Ab C hd H wv tw ∧
  (hdue tm tw = none → ∀ H', (∀ b u, b ≠ x → H b = some u → H' b = some u) → H' x = some (.ins C dx (wf mv wv)) → Q .non H') ∧
  (∀ e, hdue tm tw = some e → ∀ d H', G none H H' → H' d = some (.xd [(("part" : Str), e)]) → E (.ref CB) (some d) H')
theorem ok_Hall_init (T : Txt K mg a) : FnOk P w K mg base (L2.CX P w) 8 a.f_Hall_init a.d_Hall_init P_Hall_init (sp_Hall_init a.c_Hall a.c_BadHall) := by
  refine T.F_Hall_init.okX sc_Hall_init (fun vs H Q E h => by obtain ⟨x, dx, hd, mv, wv, tm, tw, rfl, _⟩ := h; rfl) (fun cdv A outer s H vs Q E hr h => ?_)
  obtain ⟨x, dx, hd, mv, wv, tm, tw, rfl, hx, hm, hw, kok, kbad⟩ := h
  have G_check_hall : FnOk P w K mg base (L2.CX P w) 7 a.f_check_hall a.d_check_hall P_check_hall (sp_check_hall a.c_Hall a.c_BadHall) := ok_check_hall T
  refine ⟨_, (pss_cons (ps_expr (pe_call (G_check_hall) (hr.mono (by omega)) rfl T.m_check_hall T.F_check_hall.kp T.b_check_hall .nil (passes_call (takes_of rfl rfl rfl rfl) (fun _ _ _ _ h => h)) (pa_cons (pv 1) (pa_cons (pv 2) pa_nil))))
  (pss_cons (ps_fld (pv 0) (pv 1) rfl)
  (pss_one (ps_fld (pv 0) (pv 2) rfl)))), ?_⟩
  walk_at "ws"
  refine ⟨hd, mv, wv, tm, tw, rfl, hm, hw, fun e H1 g1 => ?_, fun e ee d H' g h => kbad e ee d H' g h⟩
  walk_at "ws"
  have h1 := g1.all _ _ hx
  refine r_sfld h1 T.cl_Hall T.na_Hall_links (by show 0 < 1000; decide) ?_
  walk_at "ws"
  refine r_sfld upd_same T.cl_Hall T.na_Hall_places (by rw [wput0]; show 1 < 1000; decide) ?_
  rw [wput0, wput1]
  refine kok e _ (fun b u n z => ?_) upd_same
  rw [upd_ne n, upd_ne n]; exact g1.all _ _ z
theorem make_hall {C CB hd : Addr} {H1 : Hp} {mv wv : V} {tm tw : Tg} {F : Addr → Hp → Prop} {E : XK} (hm : Ab C hd H1 mv tm) (hw : Ab C hd H1 wv tw)
    (q : hdue tm tw = none → ∀ x dx H2, H1 x = none → (∀ o, G o H1 H2) → H2 x = some (.ins C dx (wf mv wv)) → F x H2)
    (z : ∀ e, hdue tm tw = some e → ∀ d H', G none H1 H' → H' d = some (.xd [(("part" : Str), e)]) → E (.ref CB) (some d) H') :
    ∀ x dx, H1 x = none → H1 dx = none → dx ≠ x → sp_Hall_init C CB (.ref x :: ([mv, wv] ++ [])) (upd (upd H1 dx (.own x)) x (.ins C dx [])) (fun v H2 => v = .non ∧ F x H2) E := by
  intro x dx hx hdx nex
  have k12 : ∀ a u, H1 a = some u → (upd (upd H1 dx (.own x)) x (.ins C dx [])) a = some u := fun a u e => by
    rw [upd_ne (ne_of_none e hx), upd_ne (ne_of_none e hdx)]; exact e
  have g12 : G none H1 (upd (upd H1 dx (.own x)) x (.ins C dx [])) := G.of_all k12
  refine ⟨x, dx, hd, mv, wv, tm, tw, rfl, upd_same, hm.n g12, hw.n g12, fun e H2 k2 h2 => ⟨rfl, ?_⟩, fun e ee d H' g h => z e ee d H' (g12.trans g) h⟩
  exact q e x dx H2 hx (fun o => G.of_all fun a u e => k2 a u (ne_of_none e hx) (k12 a u e)) h2

end
end Mine
/-! ## K24 -/


namespace Mine
section
variable {P : Program} {w : World} {K : PySem.W.Frag} {mg : Str → Option Value} {base : Heap} {a : Ads}

/-! ### halls compared -/
theorem hu2 {k : Nat} {A : Around} (hr : Room k A) : A.in1.in1.units < cLine := by
  have := u65 hr
  show A.units + 1 + 1 < cLine
  omega
def HallAt (K : PySem.W.Frag) (C : Addr) (H : Hp) (x : Addr) (us : List (Int × Int)) (pl : List Int) : Prop := ∃ (dx la pa : Addr), H x = some (.ins C dx (wf (.ref la) (.ref pa))) ∧ Dp K H (.ref la) (dW us) ∧ Dp K H (.ref pa) (dI pl)
theorem HallAt.n {C : Addr} {H H' : Hp} {x : Addr} {us : List (Int × Int)} {pl : List Int} (h : HallAt K C H x us pl) (g : G none H H') : HallAt K C H' x us pl := by
  obtain ⟨dx, la, pa, h1, h2, h3⟩ := h
  exact ⟨dx, la, pa, g.all _ _ h1, (dp_n g).1 _ _ h2, (dp_n g).1 _ _ h3⟩
def sp_Hall_eq (K : PySem.W.Frag) (C : Addr) : Sp := fun vs H Q E => (∃ (x y : Addr) (us vs' : List (Int × Int)) (pl ql : List Int), vs = [.ref x, .ref y] ∧ HallAt K C H x us pl ∧ HallAt K C H y vs' ql ∧ Q (.bl (decide (us = vs') && decide (pl = ql))) H) ∨ spNe C vs H Q E
theorem ty_ins {H : Hp} {x C dx : Addr} {fs : List (Str × V)} (ic : C8.InsC K C) (h : H x = some (.ins C dx fs)) : TyX K H (.ref x) (.ref C) := .base (.ins h ic.cl ic.ha ic.hn ic.htk ic.hm)
theorem ki_own (T : Txt K mg a) {n : String} {l : List Value} (hf : fastBuiltinMro n = some l) (hl : l.contains (.ref a.c_Hall) = false) : PySem.W.kitOne K (.type n) (.ref a.c_Hall) = some false := kit_own (cls_some T.ic_Hall.hm) T.wt hf hl
theorem ok_Hall_eq (T : Txt K mg a) : FnOk P w K mg base CX0 1 a.f_Hall_eq a.d_Hall_eq P_Hall_eq (sp_Hall_eq K a.c_Hall) := by
  refine T.F_Hall_eq.ok sc_Hall_eq (fun vs H Q E h => by rcases h with ⟨x, y, us, vs', pl, ql, rfl, _⟩ | ⟨x, y, rfl, _⟩ <;> rfl) (fun cdv A outer s H vs Q E hr h => ?_)
  rcases h with ⟨x, y, us, vs', pl, ql, rfl, ⟨dx, la, pa, hx, hxl, hxp⟩, ⟨dy, lb, pb, hy, hyl, hyp⟩, k⟩ | ⟨x, y, rfl, _, hy, k⟩
  · refine ⟨_, (pss_one (ps_ret (pe_and (pe_callB call_isi (by rfl) T.n_isinstance (by decide +kernel) (pa_cons (pv 1) (pa_cons (pe_glob (v := .ref a.c_Hall) rfl T.m_Hall rfl) pa_nil))) (pe_and (pe_cmpR (op_eqD hr.units) (pe_fld (pv 0) rfl) (pe_fld (pv 1) rfl) (nomark _)) (pe_one (pe_cmpR (op_eqD hr.units) (pe_fld (pv 0) rfl) (pe_fld (pv 1) rfl) (nomark _))))))), ?_⟩
    walk_at "ws"
    refine ⟨_, _, _, _, true, rfl, .own _, ty_ins T.ic_Hall hy, T.ic_Hall.me, ?_⟩
    walk_at "ws"
    refine r_fld hx T.cl_Hall T.na_Hall_links (wf_l _ _) ?_
    walk_at "ws"
    refine r_fld hy T.cl_Hall T.na_Hall_links (wf_l _ _) ?_
    refine ⟨dW us, dW vs', hxl, hyl, sh_dW us, sh_dW vs', ?_⟩
    rw [eqv_dW]
    walk_at "ws"
    refine w_ite (fun e => ?_) (fun e => ?_)
    · walk_at "ws"
      refine r_fld hx T.cl_Hall T.na_Hall_places (wf_p _ _) ?_
      walk_at "ws"
      refine r_fld hy T.cl_Hall T.na_Hall_places (wf_p _ _) ?_
      refine ⟨dI pl, dI ql, hxp, hyp, sh_dI pl, sh_dI ql, ?_⟩
      rw [eqv_dI]
      rw [e, Bool.true_and] at k
      exact k
    · rw [e] at k
      exact k
  · refine ⟨_, (pss_one (ps_ret (pe_and (pe_callB call_isi (by rfl) T.n_isinstance (by decide +kernel) (pa_cons (pv 1) (pa_cons (pe_glob (v := .ref a.c_Hall) rfl T.m_Hall rfl) pa_nil))) (pe_and (pe_cmpR (op_eqD hr.units) (pe_fld (pv 0) rfl) (pe_fld (pv 1) rfl) (nomark _)) (pe_one (pe_cmpR (op_eqD hr.units) (pe_fld (pv 0) rfl) (pe_fld (pv 1) rfl) (nomark _))))))), ?_⟩
    walk_at "ws"
    rcases hy with ⟨j, rfl⟩ | ⟨b, ys, rfl, r⟩
    · refine ⟨_, _, _, _, false, rfl, .own _, .base (.int j), ki_own T fb_int rfl, ?_⟩
      walk_at "ws"
      exact k _ G.refl
    · refine ⟨_, _, _, _, false, rfl, .own _, rd_ty r, ki_own T fb_tuple rfl, ?_⟩
      walk_at "ws"
      exact k _ G.refl
theorem ext_of {H H' : Hp} (e : Ext H H') : G none H H' := G.of_all e
def rHall (K : PySem.W.Frag) (C : Addr) : Addr → Addr → Hp → Prop := fun x y H => ∃ us pl, HallAt K C H x us pl ∧ HallAt K C H y us pl
theorem ok_Hall_eqA (T : Txt K mg a) : FnOk P w K mg base CX0 1 a.f_Hall_eq a.d_Hall_eq P_Hall_eq (spEq (rHall K a.c_Hall)) :=
  (ok_Hall_eq T).imp fun vs H Q E ⟨x, y, e, ⟨us, pl, h1, h2⟩, k⟩ => .inl ⟨x, y, us, us, pl, pl, e, h1, h2, by rw [decide_eq_true rfl, decide_eq_true rfl]; exact k _ Ext.rfl'⟩
/-- the own == as any comparison leans on it -/
theorem own_eq (T : Txt K mg a) {X : Cx} (e1 : X.prog = P) (e2 : X.w = w) (e3 : X.K = K) (e4 : X.mg = mg) (e5 : X.base = base) : OwnEq X 1 CX0 a.c_Hall a.f_Hall_eq a.d_Hall_eq P_Hall_eq (sp_Hall_eq K a.c_Hall) E0 := by
  subst e1 e2 e3 e4 e5
  exact ⟨ok_Hall_eq T, T.eqf_Hall, T.eqi_Hall, T.b_Hall_eq, pass0, fun vs H Q E' h => .inr h⟩
/-! ### lots -/
def cutL (us : List (Int × Int)) (w : Int × Int) : List (Int × Int) := us.filter fun v => !decide (v = w)
open Classical in
noncomputable def rB (us : List (Int × Int)) (y x : Int) : Bool := decide (Reach (dbl us) y x)
theorem rB_iff {us : List (Int × Int)} {y x : Int} : rB us y x = true ↔ Reach (dbl us) y x := by unfold rB; exact @decide_eq_true_iff _ (Classical.propDecidable _)
/-- the machines that a link parts from the machine 0 -/
noncomputable def beyL (us : List (Int × Int)) (pl : List Int) (w : Int × Int) : List Int := ((List.range pl.length).filter fun m => !rB (cutL us w) (pl.getD 0 0) (pl.getD m 0)).map fun (m : Nat) => (m : Int)
theorem beyL_len (us : List (Int × Int)) (pl : List Int) (w : Int × Int) : (beyL us pl w).length ≤ pl.length := by
  unfold beyL
  rw [List.length_map]
  have := List.length_filter_le (fun m => !rB (cutL us w) (pl.getD 0 0) (pl.getD m 0)) (List.range pl.length)
  rw [List.length_range] at this
  exact this
/-- tuples of ints, each at its place -/
def TLs (H : Hp) (ts : List Addr) (Ls : List (List Int)) : Prop := ts.length = Ls.length ∧ ∀ (j : Nat) t L, ts[j]? = some t → Ls[j]? = some L → Rd H t (.tup (L.map V.int))
theorem TLs.keep {H H' : Hp} {ts : List Addr} {Ls : List (List Int)} (h : TLs H ts Ls) (t : Ts H H') : TLs H' ts Ls := ⟨h.1, fun j a L e1 e2 => t _ _ (h.2 j a L e1 e2)⟩
theorem TLs.nil {H : Hp} : TLs H [] [] := ⟨rfl, fun j t L e => by simp at e⟩
theorem TLs.app {H : Hp} {ts : List Addr} {Ls : List (List Int)} (h : TLs H ts Ls) {t : Addr} {L : List Int} (r : Rd H t (.tup (L.map V.int))) : TLs H (ts ++ [t]) (Ls ++ [L]) := by
  refine ⟨by rw [List.length_append, List.length_append, h.1]; rfl, fun j t' L' e1 e2 => ?_⟩
  by_cases c : j < ts.length
  · rw [List.getElem?_append_left c] at e1
    rw [List.getElem?_append_left (by rw [← h.1]; exact c)] at e2
    exact h.2 j t' L' e1 e2
  · have l := (List.getElem?_eq_some_iff.mp e1).1
    rw [List.length_append, List.length_singleton] at l
    have ej : j = ts.length := by omega
    rw [List.getElem?_append_right (by omega), ej, Nat.sub_self] at e1
    rw [List.getElem?_append_right (by rw [← h.1]; omega), ej, h.1, Nat.sub_self] at e2
    cases e1; cases e2; exact r
theorem ints_inj : ∀ {a b : List Int}, a.map V.int = b.map V.int → a = b
  | [], [], _ => rfl
  | [], _ :: _, h => by cases h
  | _ :: _, [], h => by cases h
  | x :: a, y :: b, h => by
    rw [List.map_cons, List.map_cons] at h
    injection h with h1 h2
    injection h1 with h1
    rw [h1, ints_inj h2]
noncomputable def keyT (H : Hp) : V → List Int
  | .ref t => Classical.epsilon fun L : List Int => Rd H t (.tup (L.map V.int))
  | _ => []
theorem keyT_eq {H : Hp} {t : Addr} {L : List Int} (r : Rd H t (.tup (L.map V.int))) : keyT H (.ref t) = L :=
  ints_inj (rd_one (Classical.epsilon_spec (p := fun L : List Int => Rd H t (.tup (L.map V.int))) ⟨L, r⟩) r)
theorem TLs.key {H : Hp} {ts : List Addr} {Ls : List (List Int)} (h : TLs H ts Ls) : (ts.map V.ref).map (keyT H) = Ls := by
  refine List.ext_getElem? fun j => ?_
  rw [List.getElem?_map, List.getElem?_map]
  by_cases c : j < ts.length
  · have e1 := List.getElem?_eq_getElem c
    have c2 : j < Ls.length := by rw [← h.1]; exact c
    have e2 := List.getElem?_eq_getElem c2
    rw [e1, e2]
    show some (keyT H (.ref ts[j])) = _
    rw [keyT_eq (h.2 j _ _ e1 e2)]
  · rw [List.getElem?_eq_none (by omega), List.getElem?_eq_none (by rw [← h.1]; omega)]; rfl
theorem refs_of {ts : List Addr} : ∀ {ys : List V}, (∀ y ∈ ys, y ∈ ts.map V.ref) → ∃ ts' : List Addr, ys = ts'.map V.ref
  | [], _ => ⟨[], rfl⟩
  | y :: ys, h => by
    obtain ⟨t, _, rfl⟩ := List.mem_map.mp (h y List.mem_cons_self)
    obtain ⟨ts', rfl⟩ := refs_of fun y hy => h y (List.mem_cons_of_mem _ hy)
    exact ⟨t :: ts', rfl⟩
/-- lists of such tuples, sorted -/
theorem r_sortL {l : Addr} {ts : List Addr} {Ls : List (List Int)} {H : Hp} {Q : VK} (hx : H l = some (.lst (ts.map V.ref))) (tl : TLs H ts Ls)
    (q : ∀ p ts' Ls' H', H p = none → G none H H' → H' p = some (.lst (ts'.map V.ref)) → TLs H' ts' Ls' → Ls'.Perm Ls → Ls'.Pairwise (fun x y => ltL y x = false) → Q (.ref p) H') : rSortedL K [.ref l] H Q := by
  refine ⟨l, ts.map V.ref, keyT H, rfl, SqL.of hx, fun x hx => ?_, fun ys p pm srt hp => ?_⟩
  · obtain ⟨t, ht, rfl⟩ := List.mem_map.mp hx
    obtain ⟨j, hj, rfl⟩ := List.getElem_of_mem ht
    have e2 := List.getElem?_eq_getElem (show j < Ls.length by rw [← tl.1]; exact hj)
    have r := tl.2 j _ _ (List.getElem?_eq_getElem hj) e2
    exact ⟨_, rfl, .inl (by rw [keyT_eq r]; exact r)⟩
  · obtain ⟨ts', rfl⟩ := refs_of fun y hy => pm.mem_iff.mp hy
    have g : G none H (upd H p (.lst (ts'.map V.ref))) := G.alloc hp
    have tl' : TLs H ts' ((ts'.map V.ref).map (keyT H)) := by
      refine ⟨by rw [List.length_map, List.length_map], fun j t L e1 e2 => ?_⟩
      rw [List.getElem?_map, List.getElem?_map, e1] at e2
      cases e2
      have m : V.ref t ∈ ts.map V.ref := pm.mem_iff.mp (List.mem_map_of_mem (List.mem_of_getElem? e1))
      obtain ⟨t0, ht, e⟩ := List.mem_map.mp m
      cases e
      obtain ⟨i, hi, rfl⟩ := List.getElem_of_mem ht
      have e2 := List.getElem?_eq_getElem (show i < Ls.length by rw [← tl.1]; exact hi)
      have r := tl.2 i _ _ (List.getElem?_eq_getElem hi) e2
      rw [keyT_eq r]; exact r
    refine q p ts' _ _ hp g upd_same (tl'.keep g.tups) ?_ (List.pairwise_map.mpr srt)
    have := pm.map (keyT H)
    rw [tl.key] at this
    exact this
theorem srt_one : ∀ {l1 l2 : List (List Int)}, l1.Perm l2 → l1.Pairwise (fun x y => ltL y x = false) → l2.Pairwise (fun x y => ltL y x = false) → l1 = l2
  | [], l2, p, _, _ => p.nil_eq
  | x :: l1, [], p, _, _ => absurd p.symm.nil_eq (by simp)
  | x :: l1, y :: l2, p, h1, h2 => by
    rw [List.pairwise_cons] at h1 h2
    have e : x = y := by
      have hx : x ∈ y :: l2 := p.mem_iff.mp List.mem_cons_self
      have hy : y ∈ x :: l1 := p.mem_iff.mpr List.mem_cons_self
      rcases List.mem_cons.mp hx with e | hx
      · exact e
      · rcases List.mem_cons.mp hy with e | hy
        · exact e.symm
        · exact ltL_tot x y (h2.1 x hx) (h1.1 y hy)
    subst e
    rw [srt_one (List.Perm.cons_inv p) h1.2 h2.2]
theorem cutL_le (us : List (Int × Int)) (w : Int × Int) : (cutL us w).length ≤ us.length := List.length_filter_le _ _
def sp_machines_beyond (K : PySem.W.Frag) (C : Addr) : Sp := fun vs H Q _ => ∃ (x q : Addr) (us : List (Int × Int)) (pl : List Int) (w : Int × Int), vs = [.ref x, .ref q] ∧ HallAt K C H x us pl ∧ HallOk us pl ∧ Dp K H (.ref q) (dP w) ∧
  ∀ t H', G none H H' → Rd H' t (.tup ((beyL us pl w).map V.int)) → Q (.ref t) H'
def sp_cuts (K : PySem.W.Frag) (C : Addr) : Sp := fun vs H Q _ => ∃ (x : Addr) (us : List (Int × Int)) (pl : List Int), vs = [.ref x] ∧ HallAt K C H x us pl ∧ HallOk us pl ∧
  ∀ p ts Ls H', G none H H' → H' p = some (.lst (ts.map V.ref)) → TLs H' ts Ls → Ls.Perm (us.map (beyL us pl)) → Ls.Pairwise (fun x y => ltL y x = false) → Q (.ref p) H'

end
end Mine
/-! ## K9 -/


namespace Mine
section
variable {P : Program} {w : World} {K : PySem.W.Frag} {mg : Str → Option Value} {base : Heap} {a : Ads}

theorem at_ab {C hd : Addr} {H : Hp} {xs : List V} {ts : List Tg} {r : Int} (h : AbAll C hd H xs ts) (r0 : 0 ≤ r) (r1 : r < xs.length) : ∃ v t, atI xs r = some v ∧ Ab C hd H v t := by
  have l : r.toNat < xs.length := by omega
  obtain ⟨t, _, ht⟩ := h.get (List.getElem?_eq_getElem l)
  exact ⟨_, t, at_of (j := r.toNat) (by omega) (List.getElem?_eq_getElem l), ht⟩
theorem ab_ins {C hd x dx : Addr} {fs : List (Str × V)} {H : Hp} (n : x ≠ hd) (h : H x = some (.ins C dx fs)) : Ab C hd H (.ref x) .oth := .oth n (.inr (.inr ⟨dx, fs, h⟩))
theorem ab_lst {C hd x : Addr} {xs : List V} {H : Hp} (n : x ≠ hd) (h : H x = some (.lst xs)) : Ab C hd H (.ref x) .oth := .oth n (.inl ⟨xs, h⟩)
theorem ab_dK {C hd x : Addr} {xs : List (Key × V)} {H : Hp} (n : x ≠ hd) (h : H x = some (.dK xs)) : Ab C hd H (.ref x) .oth := .oth n (.inr (.inl ⟨xs, h⟩))
/-! ### _law_deep -/
theorem w_dnew {o : Option (Addr × Addr)} {σ : L2.St} {H : Hp} {Q : VK} (q : ∀ p H1, H p = none → (∀ o, G o H H1) → H1 p = some (.dK []) → Q (.ref p) H1) : tDNewK σ H Q := fun p hp => q p _ hp (fun _ => G.alloc hp) upd_same
theorem w_disp1 {σ : L2.St} {H : Hp} {Q : VK} {k : Int} {i : Nat} {v : V} (e : σ[i]? = some (some v)) (q : ∀ p kvs H1, H p = none → (∀ o, G o H H1) → H1 p = some (.dK kvs) → Q (.ref p) H1) : tDisp [(tC (.int k), tVar i)] σ H Q := fun p hp =>
  ⟨v, e, upd_same, [(Sum.inl k, v)], rfl, by simp, q p _ _ hp (fun _ => G.of_all fun b u z => by rw [upd_ne (ne_of_none z hp), upd_ne (ne_of_none z hp)]; exact z) upd_same⟩
def sp__law_deep (C : Addr) : Sp := fun vs H Q _ => ∃ (hd c : Addr), vs = [.ref hd] ∧ Hand H hd c ∧ ∀ (v : V) (t : Tg) H', G (some (hd, c)) H H' → Hand H' hd c → Ab C hd H' v t → Q v H'

end
end Mine
/-! ## K25 -/


namespace Mine
section
variable {P : Program} {w : World} {K : PySem.W.Frag} {mg : Str → Option Value} {base : Heap} {a : Ads}

/-! ### the law's own looks -/
def sp__law_whole (C : Addr) : Sp := fun vs H Q _ => ∃ (lo hi : Int) (hd : Addr) (v : V) (t : Tg), vs = [v, .int lo, .int hi] ∧ Ab C hd H v t ∧ Q (.bl (btw lo hi t)) H
theorem perm_pop {os ls : List Int} {r : Nat} (h : r < ls.length) {l : List Int} (p : (os ++ ls).Perm l) : ((os ++ [ls[r]]) ++ ls.eraseIdx r).Perm l := by
  refine List.Perm.trans ?_ p
  rw [List.append_assoc]
  refine List.Perm.append_left os ?_
  have e := List.take_append_drop r ls
  have e2 : ls.drop r = ls[r] :: ls.drop (r + 1) := List.drop_eq_getElem_cons h
  rw [List.eraseIdx_eq_take_drop_succ]
  have : ls = ls.take r ++ ls[r] :: ls.drop (r + 1) := by rw [← e2, e]
  conv => rhs; rw [this]
  show (ls[r] :: (ls.take r ++ ls.drop (r + 1))).Perm _
  exact List.perm_middle.symm

theorem erase_mp (ls : List Int) (r : Nat) : (ls.map V.int).eraseIdx r = (ls.eraseIdx r).map V.int := by
  induction ls generalizing r with
  | nil => rfl
  | cons l ls ih =>
    cases r with
    | zero => rfl
    | succ r => show V.int l :: (ls.map V.int).eraseIdx r = V.int l :: (ls.eraseIdx r).map V.int; rw [ih]
theorem back0 {H H' : Hp} {D : Addr} (g : G none H H') (h : H' D = none) : H D = none := by
  cases e : H D with
  | none => rfl
  | some u => rw [g.all _ _ e] at h; cases h
def sp__law_shuffled (K : PySem.W.Frag) : Sp := fun vs H Q _ => ∃ (hd c p : Addr) (ns : List Int), vs = [.ref hd, .ref p] ∧ Hand H hd c ∧ H p = some (.lst (ns.map V.int)) ∧ ns.length ≤ 1000 ∧
  ∀ (l : Addr) (ms : List Int) H', H l = none → G (some (hd, c)) H H' → Hand H' hd c → H' l = some (.lst (ms.map V.int)) → ms.Perm ns → Q (.ref l) H'
theorem ok__law_shuffled (T : Txt K mg a) : FnOk P w K mg base CX0 2 a.f__law_shuffled a.d__law_shuffled P__law_shuffled (sp__law_shuffled K) := by
  refine T.F__law_shuffled.ok sc__law_shuffled (fun vs H Q E h => by obtain ⟨hd, c, p, ns, rfl, _⟩ := h; rfl) (fun cdv A outer s H vs Q E hr h => ?_)
  obtain ⟨hd, c, p, ns, rfl, hh, hp, hz, k⟩ := h
  have G__law_draw : FnOk P w K mg base CX0 1 a.f__law_draw a.d__law_draw P__law_draw sp__law_draw := ok__law_draw T
  refine ⟨_, (pss_cons (ps_set (i := 2) sc__law_shuffled.nd rfl (Or.inl rfl) (pe_callTy call_listN (by rfl) T.n_list (by decide +kernel) (pa_cons (pv 1) pa_nil)))
  (pss_cons (ps_set (i := 3) sc__law_shuffled.nd rfl (Or.inl rfl) (pe_lstN pa_nil))
  (pss_cons (ps_while PassesOwn.never (pt_cmpR op_gt (pe_callB call_len_seq (by rfl) T.n_len (by decide +kernel) (pa_cons (pv 2) pa_nil)) pe_int (nomark _))
    (pss_one (ps_expr (pe_bm PySem.F.plainAttrs_list PySem.F.slot_list_append PySem.F.type_list_append mt_append (pv 3) (pa_cons (pe_bm PySem.F.plainAttrs_list PySem.F.slot_list_pop PySem.F.type_list_pop mt_popAt (pv 2) (pa_cons (pe_call (G__law_draw) (hr.mono (by omega)) rfl T.m__law_draw T.F__law_draw.kp T.b__law_draw .nil pass0 (pa_cons (pv 0) (pa_cons (pe_callB call_len_seq (by rfl) T.n_len (by decide +kernel) (pa_cons (pv 2) pa_nil)) pa_nil))) pa_nil)) pa_nil)))))
  (pss_one (ps_ret (pv 3)))))), ?_⟩
  walk_at "ws"
  refine ⟨p, _, rfl, .inl (SqL.of hp), fun L H1 hL g1 h1 => ?_⟩
  walk_at "ws"
  refine ⟨sz (by simp), fun D H2 hD g2 h2 => ?_⟩
  have g02 := (g1 none).trans (g2 none)
  have hD0 : H D = none := back0 (g1 none) hD
  have h2L := (g2 none).all _ _ h1
  have nLD : L ≠ D := ne_of_none h1 hD
  have offL : ∀ p, some (hd, c) = some p → L ≠ p.1 := fun p e => by cases e; exact hh.ne hL
  have offD : ∀ p, some (hd, c) = some p → D ≠ p.1 := fun p e => by cases e; exact hh.ne hD0
  walk_at "ws"
  refine ⟨fun μ σ H' => ∃ os ls : List Int, σ = [some (.ref hd), some (.ref p), some (.ref L), some (.ref D)] ∧ G (some (hd, c)) H H' ∧ H' L = some (.lst (ls.map V.int)) ∧ H' D = some (.lst (os.map V.int)) ∧ (os ++ ls).Perm ns ∧ μ = ls.length, ⟨_, [], ns, rfl, g02.up, h2L, h2, List.Perm.refl _, rfl⟩, ?_⟩
  rintro μ σ H3 ⟨os, ls, rfl, g3, h3L, h3D, pm, rfl⟩
  have pl := pm.length_eq
  rw [List.length_append] at pl
  walk_at "ws"
  refine ⟨L, _, rfl, .inl (SqL.of h3L), ?_⟩
  rw [List.length_map]
  walk_at "ws"
  refine w_ite (fun e => ?_) (fun e => ?_)
  · have e : (0 : Int) < (ls.length : Int) := of_decide_eq_true e
    refine ⟨fun σ H' => ∃ os' ls' : List Int, σ = [some (.ref hd), some (.ref p), some (.ref L), some (.ref D)] ∧ G (some (hd, c)) H H' ∧ H' L = some (.lst (ls'.map V.int)) ∧ H' D = some (.lst (os'.map V.int)) ∧ (os' ++ ls').Perm ns ∧ ls'.length < ls.length, ?_, ?_⟩
    · rintro σ' H' ⟨os', ls', rfl, q1, q2, q3, q4, q5⟩
      exact ⟨ls'.length, q5, os', ls', rfl, q1, q2, q3, q4, rfl⟩
    · walk_at "ws"
      refine i_BM h3D ?_
      walk_at "ws"
      refine i_BM h3L ?_
      walk_at "ws"
      refine ⟨L, _, rfl, .inl (SqL.of h3L), ?_⟩
      rw [List.length_map]
      walk_at "ws"
      refine ⟨hd, c, (ls.length : Int), rfl, g3.hand _ rfl hh, by omega, by omega, fun r H4 r0 r1 g4 hh4 => ?_⟩
      walk_at "ws"
      have h4L := g4.keep L _ offL h3L
      have h4D := g4.keep D _ offD h3D
      have rl : r.toNat < ls.length := by omega
      refine ⟨L, ls.map V.int, r, r.toNat, .int ls[r.toNat], rfl, rfl, h4L, by omega, by omega, ?_, by rw [List.getElem?_map, List.getElem?_eq_getElem rl]; rfl, ?_⟩
      · unfold PySem.seqIndex?
        rw [List.length_map]
        have n0 : ¬ r < 0 := by omega
        simp [n0]
        omega
      · have h5D : (upd H4 L (.lst ((ls.map V.int).eraseIdx r.toNat))) D = some (.lst (os.map V.int)) := by rw [upd_ne nLD.symm]; exact h4D
        walk_at "ws"
        refine r_app h5D (by rw [List.length_map]; omega) ?_
        walk_at "ws"
        refine ⟨os ++ [ls[r.toNat]], ls.eraseIdx r.toNat, rfl, ?_, ?_, ?_, perm_pop rl pm, ?_⟩
        · exact ((g3.trans g4).mut hL (fun p e => by cases e; exact hh)).mut hD0 (fun p e => by cases e; exact hh)
        · rw [upd_ne nLD, upd_same, erase_mp]
        · rw [upd_same, List.map_append]; rfl
        · rw [List.length_eraseIdx, if_pos rl]; omega
  · have e : ¬ (0 : Int) < (ls.length : Int) := of_decide_eq_false e
    have e0 : ls = [] := List.length_eq_zero_iff.mp (by omega)
    subst e0
    rw [List.append_nil] at pm
    walk_at "ws"
    exact k D os H3 hD0 g3 (g3.hand _ rfl hh) h3D pm
/-! ### walks over links -/
structure Bf (m : Int) (E : List (Int × Int)) (y : Int) (zs0 zs : List Int) : Prop where
  pre : ∃ ext, zs = zs0 ++ ext
  nd : zs.Nodup
  rng : ∀ k ∈ zs, 0 ≤ k ∧ k < m
  reach : ∀ k ∈ zs, Reach (dbl E) y k
def Seen (us E : List (Int × Int)) (here : Int) (i : Nat) (zs : List Int) : Prop := ∀ (j : Nat) u, j < i → us[j]? = some u → u ∈ E → (u.1 = here → u.2 ∈ zs) ∧ (u.2 = here → u.1 ∈ zs)
theorem Bf.add {m : Int} {E : List (Int × Int)} {y here v : Int} {zs0 zs : List Int} (b : Bf m E y zs0 zs) (hh : here ∈ zs) (hv : (here, v) ∈ dbl E) (n : v ∉ zs) (r : 0 ≤ v ∧ v < m) : Bf m E y zs0 (zs ++ [v]) := by
  obtain ⟨ext, e⟩ := b.pre
  refine ⟨⟨ext ++ [v], by rw [e, List.append_assoc]⟩, List.nodup_append.mpr ⟨b.nd, by simp, fun a ha c hc q => by
    have ec : c = v := by simpa using hc
    exact n (by rw [← ec, ← q]; exact ha)⟩, fun k hk => ?_, fun k hk => ?_⟩
  · rcases List.mem_append.mp hk with h | h
    · exact b.rng k h
    · have e : k = v := by simpa using h
      rw [e]; exact r
  · rcases List.mem_append.mp hk with h | h
    · exact b.reach k h
    · have e : k = v := by simpa using h
      rw [e]; exact .step (b.reach here hh) hv
theorem Seen.more {us E : List (Int × Int)} {here : Int} {i : Nat} {zs : List Int} (s : Seen us E here i zs) (ex : List Int) : Seen us E here i (zs ++ ex) := fun j u hj hu he => ⟨fun q => List.mem_append_left _ ((s j u hj hu he).1 q), fun q => List.mem_append_left _ ((s j u hj hu he).2 q)⟩
theorem Seen.next {us E : List (Int × Int)} {here : Int} {i : Nat} {zs : List Int} (s : Seen us E here i zs) {u : Int × Int} (hu : us[i]? = some u) (h : u ∈ E → (u.1 = here → u.2 ∈ zs) ∧ (u.2 = here → u.1 ∈ zs)) : Seen us E here (i + 1) zs := fun j v hj hv he => by
  rcases Nat.lt_succ_iff_lt_or_eq.mp hj with z | z
  · exact s j v z hv he
  · subst z
    rw [hu] at hv
    cases hv
    exact h he
theorem Way.bfs {m : Int} {us E : List (Int × Int)} {y here : Int} {zs0 zs : List Int} {n : Nat} (w : Way m (dbl E) y zs0 n) (hn : zs0[n]? = some here) (b : Bf m E y zs0 zs) (s : Seen us E here us.length zs) (sub : ∀ u ∈ E, u ∈ us) : Way m (dbl E) y zs (n + 1) := by
  obtain ⟨ext, e⟩ := b.pre
  have hl := (List.getElem?_eq_some_iff.mp hn).1
  refine ⟨b.nd, b.rng, b.reach, by rw [e]; exact List.mem_append_left _ w.begin_, by rw [e, List.length_append]; omega, fun i k hi hk z hz => ?_⟩
  by_cases c : i < n
  · rw [e, List.getElem?_append_left (by omega)] at hk
    rw [e]
    exact List.mem_append_left _ (w.shut i k c hk z hz)
  · have ei : i = n := by omega
    subst ei
    rw [e, List.getElem?_append_left hl, hn] at hk
    cases hk
    rcases (dbl_mem E (here, z)).mp hz with q | q
    · obtain ⟨j, hj, ej⟩ := List.getElem_of_mem (sub _ q)
      exact (s j _ hj (by rw [← ej]; exact List.getElem?_eq_getElem hj) q).1 rfl
    · obtain ⟨j, hj, ej⟩ := List.getElem_of_mem (sub _ q)
      exact (s j _ hj (by rw [← ej]; exact List.getElem?_eq_getElem hj) q).2 rfl
theorem Way.start {m : Int} {us : List (Int × Int)} {y : Int} (h : 0 ≤ y ∧ y < m) : Way m us y [y] 0 :=
  ⟨by simp, fun k hk => by have e : k = y := by simpa using hk
                           rw [e]; exact h, fun k hk => by have e : k = y := by simpa using hk
                                                           rw [e]; exact .refl y, by simp, Nat.zero_le _, fun i k hi => absurd hi (Nat.not_lt_zero _)⟩
theorem Bf.start {m : Int} {E : List (Int × Int)} {y : Int} {zs0 : List Int} {n : Nat} (w : Way m (dbl E) y zs0 n) : Bf m E y zs0 zs0 := ⟨⟨[], by rw [List.append_nil]⟩, w.nd, w.rng, w.reach⟩
theorem Bf.few {m : Int} {E : List (Int × Int)} {y : Int} {zs0 zs : List Int} (b : Bf m E y zs0 zs) (h : 0 ≤ m) : (zs.length : Int) ≤ m := by
  have := List.Nodup.length_le_of_subset (l₂ := (List.range m.toNat).map fun (i : Nat) => (i : Int)) b.nd fun k hk => by
    have := b.rng k hk
    exact List.mem_map.mpr ⟨k.toNat, List.mem_range.mpr (by omega), by omega⟩
  rw [List.length_map, List.length_range] at this
  omega
theorem Bf.at_ {m : Int} {E : List (Int × Int)} {y here : Int} {zs0 zs : List Int} {n : Nat} (b : Bf m E y zs0 zs) (hn : zs0[n]? = some here) : zs[n]? = some here := by
  obtain ⟨ext, e⟩ := b.pre
  rw [e, List.getElem?_append_left (List.getElem?_eq_some_iff.mp hn).1]; exact hn
theorem cutL_mem {us : List (Int × Int)} {w u : Int × Int} : u ∈ cutL us w ↔ u ∈ us ∧ u ≠ w := by
  unfold cutL
  rw [List.mem_filter]
  simp
def sp__law_side (K : PySem.W.Frag) : Sp := fun vs H Q _ => ∃ (p q : Addr) (xs : List V) (us : List (Int × Int)) (w0 : Int × Int) (m : Int), vs = [.ref p, .ref q] ∧ SqT K H p xs ∧ DpAll K H xs (us.map dP) ∧ SqT K H q [.int w0.1, .int w0.2] ∧ us.length ≤ 31 ∧ (∀ u ∈ us, 0 ≤ u.1 ∧ u.1 < u.2 ∧ u.2 < m) ∧ w0 ∈ us ∧ m ≤ 60 ∧
  ∀ (l : Addr) (zs : List Int) H', G none H H' → H' l = some (.lst (zs.map V.int)) → (∀ z, z ∈ zs ↔ Reach (dbl (cutL us w0)) w0.2 z) → Q (.ref l) H'

end
end Mine
/-! ## K27 -/


namespace Mine
section
variable {P : Program} {w : World} {K : PySem.W.Frag} {mg : Str → Option Value} {base : Heap} {a : Ads}
theorem Reach.symm {us : List (Int × Int)} {y x : Int} (h : Reach (dbl us) y x) : Reach (dbl us) x y := by
  induction h with
  | refl => exact .refl _
  | @step z x _ e ih =>
    refine Reach.trans (.one ?_) ih
    rw [dbl_mem] at e ⊢
    exact e.symm
theorem two_sides {us : List (Int × Int)} {w0 : Int × Int} {z : Int} (h : Reach (dbl us) w0.1 z) : Reach (dbl (cutL us w0)) w0.1 z ∨ Reach (dbl (cutL us w0)) w0.2 z := by
  induction h with
  | refl => exact .inl (.refl _)
  | @step z x _ e ih =>
    rw [dbl_mem] at e
    by_cases c1 : (z, x) = w0
    · exact .inr (by rw [← c1]; exact .refl _)
    · by_cases c2 : (x, z) = w0
      · exact .inl (by rw [← c2]; exact .refl _)
      · have e' : (z, x) ∈ dbl (cutL us w0) := by
          rw [dbl_mem]
          exact e.imp (fun q => cutL_mem.mpr ⟨q, c1⟩) (fun q => cutL_mem.mpr ⟨q, c2⟩)
        exact ih.imp (fun q => .step q e') (fun q => .step q e')
theorem parted {us : List (Int × Int)} {w0 : Int × Int} (L : Lks us) (mw : w0 ∈ us) {y x : Int} (hy : 0 ≤ y ∧ y ≤ us.length) (hx : 0 ≤ x ∧ x ≤ us.length) :
    (Reach (dbl (cutL us w0)) w0.2 y ↔ Reach (dbl (cutL us w0)) w0.2 x) ↔ Reach (dbl (cutL us w0)) y x := by
  have rw0 := L.rng w0 mw
  have from1 : ∀ z : Int, 0 ≤ z → z ≤ us.length → Reach (dbl us) w0.1 z := fun z z0 z1 => Reach.trans (Reach.symm (L.conn w0.1 (by omega) (by omega))) (L.conn z z0 z1)
  constructor
  · intro h
    by_cases c : Reach (dbl (cutL us w0)) w0.2 y
    · exact Reach.trans (Reach.symm c) (h.mp c)
    · have cx : ¬ Reach (dbl (cutL us w0)) w0.2 x := fun q => c (h.mpr q)
      have a := (two_sides (from1 y hy.1 hy.2)).resolve_right c
      have b := (two_sides (from1 x hx.1 hx.2)).resolve_right cx
      exact Reach.trans (Reach.symm a) b
  · intro h
    exact ⟨fun q => Reach.trans q h, fun q => Reach.trans q (Reach.symm h)⟩
theorem at_pl {pl : List Int} {m : Nat} (h : m < pl.length) : pl[m]? = some (pl.getD m 0) := by rw [List.getD_eq_getElem?_getD, List.getElem?_eq_getElem h]; rfl
theorem btw_blw {n : Int} {t : Tg} : btw 0 n t = blw (n + 1) t := by
  cases t <;> first | rfl | (simp only [btw, blw]; congr 1; rw [decide_eq_decide]; omega)
def dV : Option V → V
  | none => .non
  | some e => e
theorem deg_fm (us : List (Int × Int)) (x : Int) : ((us.filterMap fun u => if u.1 = x ∨ u.2 = x then some (dP u) else none)).length = deg us x := by
  unfold deg
  induction us with
  | nil => rfl
  | cons u us ih =>
    rw [List.filterMap_cons, List.filter_cons]
    by_cases c : u.1 = x ∨ u.2 = x
    · simp only [c, if_true, decide_true, List.length_cons]
      rw [ih]
    · simp only [c, if_false, decide_false, Bool.false_eq_true]
      exact ih
theorem in_pair (x a b : Int) : inV (.int x) [V.int a, V.int b] = decide (a = x ∨ b = x) := by
  have := inV_ints [a, b] x
  rw [show ([a, b] : List Int).map V.int = [V.int a, V.int b] from rfl] at this
  rw [this, decide_eq_decide]
  simp only [List.mem_cons, List.not_mem_nil, or_false]
  constructor
  · rintro (h | h)
    · exact .inl h.symm
    · exact .inr h.symm
  · rintro (h | h)
    · exact .inl h.symm
    · exact .inr h.symm

end
end Mine
/-! ## KM -/
end
namespace Mine
open PySem L2 GA
/-! ### trees, their nodes called anew -/
def upto (n : Nat) : List Int := (List.range n).map fun (i : Nat) => (i : Int)
theorem mem_upto {n : Nat} {x : Int} : x ∈ upto n ↔ 0 ≤ x ∧ x < n := by
  unfold upto
  rw [List.mem_map]
  constructor
  · rintro ⟨i, hi, rfl⟩
    have := List.mem_range.mp hi
    omega
  · intro h
    exact ⟨x.toNat, List.mem_range.mpr (by omega), by omega⟩
structure TreeP (n : Nat) (us : List (Int × Int)) : Prop where
  n1 : 1 ≤ n
  rng : ∀ u ∈ us, 0 ≤ u.1 ∧ u.1 < u.2 ∧ u.2 < n
  nd : (us.map (·.2)).Nodup
  all : ∀ k : Int, 1 ≤ k → k < n → ∃ u ∈ us, u.2 = k
theorem TreeP.len {n : Nat} {us : List (Int × Int)} (t : TreeP n us) : us.length + 1 = n := by
  have nd : ((0 : Int) :: us.map (·.2)).Nodup := List.nodup_cons.mpr ⟨fun h => by
    obtain ⟨u, hu, e⟩ := List.mem_map.mp h
    have := t.rng u hu
    omega, t.nd⟩
  have := (len_full (m := n) nd fun k hk => by
    rcases List.mem_cons.mp hk with e | hk
    · have := t.n1; omega
    · obtain ⟨u, hu, rfl⟩ := List.mem_map.mp hk
      have := t.rng u hu
      omega).mpr fun x h0 h1 => by
    rcases Int.lt_or_le x 1 with c | c
    · exact List.mem_cons.mpr (.inl (by omega))
    · obtain ⟨u, hu, e⟩ := t.all x c h1
      exact List.mem_cons_of_mem _ (List.mem_map.mpr ⟨u, hu, e⟩)
  rw [List.length_cons, List.length_map] at this
  exact this
theorem TreeP.cut {n : Nat} {us : List (Int × Int)} (t : TreeP (n + 1) us) (h : 1 ≤ n) : TreeP n (us.filter fun u => !decide (u.2 = (n : Int))) := by
  refine ⟨h, fun u hu => ?_, t.nd.sublist (List.filter_sublist.map _), fun k h1 h2 => ?_⟩
  · obtain ⟨a, b⟩ := List.mem_filter.mp hu
    have := t.rng u a
    have b : ¬ u.2 = (n : Int) := by simpa using b
    omega
  · obtain ⟨u, hu, e⟩ := t.all k h1 (by omega)
    exact ⟨u, List.mem_filter.mpr ⟨hu, by simp only [Bool.not_eq_true', decide_eq_false_iff_not]; omega⟩, e⟩
theorem TreeP.perm {n : Nat} {us vs : List (Int × Int)} (t : TreeP n us) (p : vs.Perm us) : TreeP n vs :=
  ⟨t.n1, fun u hu => t.rng u (p.mem_iff.mp hu), (p.map _).nodup_iff.mpr t.nd, fun k h1 h2 => by
    obtain ⟨u, hu, e⟩ := t.all k h1 h2
    exact ⟨u, p.mem_iff.mpr hu, e⟩⟩
def endsL (us : List (Int × Int)) : List Int := us.flatMap fun u => [u.1, u.2]
theorem ends_take {us : List (Int × Int)} {i : Nat} {u : Int × Int} (h : us[i]? = some u) : endsL (us.take (i + 1)) = endsL (us.take i) ++ [u.1, u.2] := by
  unfold endsL
  rw [List.take_add_one, h, List.flatMap_append]
  rfl
theorem ends_len (us : List (Int × Int)) : (endsL us).length = 2 * us.length := by
  induction us with
  | nil => rfl
  | cons u us ih =>
    have e : endsL (u :: us) = u.1 :: u.2 :: endsL us := rfl
    rw [e, List.length_cons, List.length_cons, List.length_cons, ih]
    omega
theorem ends_count {us : List (Int × Int)} (h : ∀ u ∈ us, u.1 < u.2) (x : Int) : (endsL us).count x = deg us x := by
  induction us with
  | nil => rfl
  | cons u us ih =>
    have e : endsL (u :: us) = u.1 :: u.2 :: endsL us := rfl
    have hu := h u List.mem_cons_self
    have ih := ih fun v hv => h v (List.mem_cons_of_mem _ hv)
    unfold deg at ih ⊢
    rw [e, List.count_cons, List.count_cons, ih, List.filter_cons]
    by_cases c1 : u.1 = x
    · have c2 : ¬ u.2 = x := by omega
      simp [c1, c2]
    · by_cases c2 : u.2 = x
      · simp [c1, c2]
      · simp [c1, c2]
def plcs (us : List (Int × Int)) (n : Nat) : List Int := (upto n).filter fun k => decide ((endsL us).count k < 3)
theorem one_snd {k : Int} : ∀ {us : List (Int × Int)}, (us.map (·.2)).Nodup → (us.filter fun u => decide (u.2 = k)).length ≤ 1
  | [], _ => Nat.zero_le _
  | u :: us, h => by
    rw [List.map_cons, List.nodup_cons] at h
    have ih := one_snd (k := k) h.2
    rw [List.filter_cons]
    by_cases c : u.2 = k
    · have e0 : us.filter (fun u => decide (u.2 = k)) = [] := by
        rw [List.filter_eq_nil_iff]
        intro v hv q
        have q : v.2 = k := of_decide_eq_true q
        exact h.1 (List.mem_map.mpr ⟨v, hv, by rw [q, c]⟩)
      simp [c, e0]
    · simp only [c, decide_false, Bool.false_eq_true, if_false]
      exact ih
theorem plcs_ne {n : Nat} {us : List (Int × Int)} (t : TreeP n us) : 1 ≤ (plcs us n).length := by
  have hm : ((n - 1 : Nat) : Int) ∈ plcs us n := by
    unfold plcs
    rw [List.mem_filter, mem_upto]
    have n1 := t.n1
    refine ⟨by omega, ?_⟩
    rw [decide_eq_true_iff, ends_count fun u hu => (t.rng u hu).2.1]
    have e : deg us ((n - 1 : Nat) : Int) = (us.filter fun u => decide (u.2 = ((n - 1 : Nat) : Int))).length := by
      unfold deg
      congr 1
      refine List.filter_congr fun u hu => ?_
      have := t.rng u hu
      rw [decide_eq_decide]
      constructor
      · rintro (h | h)
        · omega
        · exact h
      · exact fun h => .inr h
    rw [e]
    have := one_snd (k := ((n - 1 : Nat) : Int)) t.nd
    omega
  exact List.length_pos_of_mem hm
theorem plcs_le (us : List (Int × Int)) (n : Nat) : (plcs us n).length ≤ n := by
  unfold plcs
  have := List.length_filter_le (fun k => decide ((endsL us).count k < 3)) (upto n)
  unfold upto at this
  rw [List.length_map, List.length_range] at this
  exact this
theorem plcs_rng {us : List (Int × Int)} {n : Nat} {x : Int} (h : x ∈ plcs us n) : 0 ≤ x ∧ x < n := mem_upto.mp (List.mem_filter.mp h).1
/-! names -/
structure Nam (n : Nat) (f : Int → Int) : Prop where
  rng : ∀ k : Int, 0 ≤ k → k < n → 0 ≤ f k ∧ f k < n
  inj : ∀ k l : Int, 0 ≤ k → k < n → 0 ≤ l → l < n → f k = f l → k = l
  sur : ∀ x : Int, 0 ≤ x → x < n → ∃ k : Int, 0 ≤ k ∧ k < n ∧ f k = x
def nmf (nm : List Int) : Int → Int := fun k => nm.getD k.toNat 0
theorem nmf_at {nm : List Int} {k : Int} (h : k.toNat < nm.length) : nm[k.toNat]? = some (nmf nm k) := by unfold nmf; rw [List.getD_eq_getElem?_getD, List.getElem?_eq_getElem h]; rfl
theorem Nam.of {n : Nat} {nm : List Int} (pm : nm.Perm (upto n)) : Nam n (nmf nm) := by
  have ln : nm.length = n := by rw [pm.length_eq]; unfold upto; rw [List.length_map, List.length_range]
  have ndu : (upto n).Nodup := List.pairwise_map.mpr (List.nodup_range.imp fun {a b} q e => q (by omega))
  have nd : nm.Nodup := pm.nodup_iff.mpr ndu
  refine ⟨fun k h0 h1 => ?_, fun k l k0 k1 l0 l1 e => ?_, fun x h0 h1 => ?_⟩
  · have e := nmf_at (nm := nm) (k := k) (by omega)
    exact mem_upto.mp (pm.mem_iff.mp (List.mem_of_getElem? e))
  · have e1 := nmf_at (nm := nm) (k := k) (by omega)
    have e2 := nmf_at (nm := nm) (k := l) (by omega)
    have q1 := (List.getElem?_eq_some_iff.mp e1).2
    have q2 := (List.getElem?_eq_some_iff.mp e2).2
    have := nd_at nd (show k.toNat < nm.length by omega) (show l.toNat < nm.length by omega) (by rw [q1, q2]; exact e)
    omega
  · have hx : x ∈ nm := pm.mem_iff.mpr (mem_upto.mpr ⟨h0, h1⟩)
    obtain ⟨i, hi, e⟩ := List.getElem_of_mem hx
    refine ⟨(i : Int), by omega, by omega, ?_⟩
    have := nmf_at (nm := nm) (k := (i : Int)) (by omega)
    rw [Int.toNat_natCast, List.getElem?_eq_getElem hi, e] at this
    exact (Option.some.inj this).symm
def ren (f : Int → Int) (u : Int × Int) : Int × Int := (min (f u.1) (f u.2), max (f u.1) (f u.2))
theorem ren_end {n : Nat} {f : Int → Int} (nam : Nam n f) {u : Int × Int} (hu : 0 ≤ u.1 ∧ u.1 < u.2 ∧ u.2 < n) {k : Int} (k0 : 0 ≤ k) (k1 : k < n) : ((ren f u).1 = f k ∨ (ren f u).2 = f k) ↔ (u.1 = k ∨ u.2 = k) := by
  have i1 := nam.inj u.1 k (by omega) (by omega) k0 k1
  have i2 := nam.inj u.2 k (by omega) (by omega) k0 k1
  show (min (f u.1) (f u.2) = f k ∨ max (f u.1) (f u.2) = f k) ↔ _
  constructor
  · intro h
    rcases Int.le_total (f u.1) (f u.2) with c | c
    · rw [Int.min_eq_left c, Int.max_eq_right c] at h
      exact h.imp i1 i2
    · rw [Int.min_eq_right c, Int.max_eq_left c] at h
      rcases h with h | h
      · exact .inr (i2 h)
      · exact .inl (i1 h)
  · rcases Int.le_total (f u.1) (f u.2) with c | c
    · rw [Int.min_eq_left c, Int.max_eq_right c]
      rintro (h | h)
      · exact .inl (by rw [h])
      · exact .inr (by rw [h])
    · rw [Int.min_eq_right c, Int.max_eq_left c]
      rintro (h | h)
      · exact .inr (by rw [h])
      · exact .inl (by rw [h])
theorem ren_rng {n : Nat} {f : Int → Int} (nam : Nam n f) {u : Int × Int} (hu : 0 ≤ u.1 ∧ u.1 < u.2 ∧ u.2 < n) : 0 ≤ (ren f u).1 ∧ (ren f u).1 < (ren f u).2 ∧ (ren f u).2 < n := by
  have r1 := nam.rng u.1 (by omega) (by omega)
  have r2 := nam.rng u.2 (by omega) (by omega)
  have ne : f u.1 ≠ f u.2 := fun e => by
    have := nam.inj u.1 u.2 (by omega) (by omega) (by omega) (by omega) e
    omega
  show 0 ≤ min (f u.1) (f u.2) ∧ min (f u.1) (f u.2) < max (f u.1) (f u.2) ∧ max (f u.1) (f u.2) < n
  omega
theorem ren_inj {n : Nat} {f : Int → Int} (nam : Nam n f) {u v : Int × Int} (hu : 0 ≤ u.1 ∧ u.1 < u.2 ∧ u.2 < n) (hv : 0 ≤ v.1 ∧ v.1 < v.2 ∧ v.2 < n) (e : ren f u = ren f v) : u = v := by
  have a1 := (ren_end nam hu (k := v.1) (by omega) (by omega)).mp (by rw [e]; exact (ren_end nam hv (by omega) (by omega)).mpr (.inl rfl))
  have a2 := (ren_end nam hu (k := v.2) (by omega) (by omega)).mp (by rw [e]; exact (ren_end nam hv (by omega) (by omega)).mpr (.inr rfl))
  refine Prod.ext ?_ ?_ <;> omega
theorem deg_perm {us vs : List (Int × Int)} (p : us.Perm vs) (x : Int) : deg us x = deg vs x := by
  unfold deg
  exact (p.filter _).length_eq
theorem deg_ren {n : Nat} {f : Int → Int} (nam : Nam n f) {us : List (Int × Int)} (h : ∀ u ∈ us, 0 ≤ u.1 ∧ u.1 < u.2 ∧ u.2 < n) {k : Int} (k0 : 0 ≤ k) (k1 : k < n) : deg (us.map (ren f)) (f k) = deg us k := by
  unfold deg
  rw [List.filter_map, List.length_map]
  congr 1
  refine List.filter_congr fun u hu => ?_
  show decide ((ren f u).1 = f k ∨ (ren f u).2 = f k) = _
  rw [decide_eq_decide]
  exact ren_end nam (h u hu) k0 k1
theorem reach_perm {us vs : List (Int × Int)} (h : ∀ u, u ∈ us → u ∈ vs) {y x : Int} (r : Reach us y x) : Reach vs y x := by
  induction r with
  | refl => exact .refl _
  | step _ e ih => exact .step ih (h _ e)
theorem tree_conn {n : Nat} {f : Int → Int} (nam : Nam n f) {us : List (Int × Int)} (t : TreeP n us) : ∀ k : Nat, k < n → Reach (dbl (us.map (ren f))) (f 0) (f k) := by
  intro k
  induction k using Nat.strongRecOn with
  | ind k ih =>
  intro hk
  rcases Nat.eq_zero_or_pos k with c | c
  · subst c; exact .refl _
  · obtain ⟨u, hu, e⟩ := t.all (k : Int) (by omega) (by omega)
    have ru := t.rng u hu
    have h1 := ih u.1.toNat (by omega) (by omega)
    have e1 : ((u.1.toNat : Nat) : Int) = u.1 := by omega
    rw [e1] at h1
    refine .step h1 ?_
    rw [dbl_mem, ← e]
    have m : ren f u ∈ us.map (ren f) := List.mem_map_of_mem hu
    rcases Int.le_total (f u.1) (f u.2) with c | c
    · have : ren f u = (f u.1, f u.2) := by unfold ren; rw [Int.min_eq_left c, Int.max_eq_right c]
      rw [this] at m
      exact .inl m
    · have : ren f u = (f u.2, f u.1) := by unfold ren; rw [Int.min_eq_right c, Int.max_eq_left c]
      rw [this] at m
      exact .inr m
def prI (u : Int × Int) : List Int := [u.1, u.2]
def unI (L : List Int) : Int × Int := (L.getD 0 0, L.getD 1 0)
theorem unI_prI (u : Int × Int) : unI (prI u) = u := rfl
theorem prs_back {Ls : List (List Int)} {us : List (Int × Int)} (p : Ls.Perm (us.map prI)) : ∃ vs : List (Int × Int), Ls = vs.map prI ∧ vs.Perm us := by
  refine ⟨Ls.map unI, ?_, ?_⟩
  · rw [List.map_map]
    have : Ls.map (prI ∘ unI) = Ls.map id := List.map_congr_left fun L hL => by
      obtain ⟨u, _, rfl⟩ := List.mem_map.mp (p.mem_iff.mp hL)
      rfl
    rw [this, List.map_id]
  · have := p.map unI
    rw [List.map_map, show (unI ∘ prI) = id from rfl, List.map_id] at this
    exact this
theorem nd_atU {l : List (Int × Int)} (nd : l.Nodup) {i j : Nat} (hi : i < l.length) (hj : j < l.length) (e : l[i] = l[j]) : i = j := by
  rcases Nat.lt_trichotomy i j with h | h | h
  · exact absurd e (List.pairwise_iff_getElem.mp nd i j hi hj h)
  · exact h
  · exact absurd e.symm (List.pairwise_iff_getElem.mp nd j i hj hi h)
theorem asc_of_sorted {us : List (Int × Int)} (nd : us.Nodup) (h : (us.map prI).Pairwise fun x y => ltL y x = false) : AscL us := by
  intro j y z hy hz
  have a1 := (List.getElem?_eq_some_iff.mp hy)
  have a2 := (List.getElem?_eq_some_iff.mp hz)
  have b := List.pairwise_iff_getElem.mp h j (j + 1) (by rw [List.length_map]; exact a1.1) (by rw [List.length_map]; exact a2.1) (by omega)
  rw [List.getElem_map, List.getElem_map, a1.2, a2.2] at b
  have ne : y ≠ z := fun e => by
    have := nd_atU nd a1.1 a2.1 (by rw [a1.2, a2.2]; exact e)
    omega
  have b : (decide (z.1 < y.1) || (decide (z.1 = y.1) && decide (z.2 < y.2))) = false := by rw [← ltL_pair]; exact b
  simp only [Bool.or_eq_false_iff, Bool.and_eq_false_iff, decide_eq_false_iff_not] at b
  unfold ltB
  have ne2 : ¬ (y.1 = z.1 ∧ y.2 = z.2) := fun q => ne (Prod.ext q.1 q.2)
  omega
theorem hall_drawn {n : Nat} {us us' : List (Int × Int)} {nm pl pl' : List Int} (t : TreeP n us) (n9 : n ≤ 9) (pm : nm.Perm (upto n)) (pu : us'.Perm (us.map (ren (nmf nm)))) (srt : (us'.map prI).Pairwise fun x y => ltL y x = false)
    (sub : ∀ x ∈ plcs us n, x ∈ pl) (rng : ∀ x ∈ pl, 0 ≤ x ∧ x < n) (p1 : 1 ≤ pl.length) (p7 : pl.length ≤ 7) (pp : pl'.Perm (pl.map (nmf nm))) : HallOk us' pl' := by
  have nam := Nam.of pm
  have lt_ := t.len
  have lu : us'.length + 1 = n := by rw [pu.length_eq, List.length_map]; exact lt_
  have lp : pl'.length = pl.length := by rw [pp.length_eq, List.length_map]
  have ndu : us.Nodup := (List.pairwise_map.mp t.nd).imp fun {a b} q e => q (by rw [e])
  have ndr : (us.map (ren (nmf nm))).Nodup := List.pairwise_map.mpr (List.Pairwise.imp_of_mem (fun {a b} ha hb q e => q (ren_inj nam (t.rng a ha) (t.rng b hb) e)) ndu)
  have nd' : us'.Nodup := pu.nodup_iff.mpr ndr
  refine ⟨⟨by omega, fun u hu => ?_, asc_of_sorted nd' srt, fun x h0 h1 => ?_⟩, by omega, by omega, fun x hx => ?_, ?_⟩
  · obtain ⟨v, hv, rfl⟩ := List.mem_map.mp (pu.mem_iff.mp hu)
    have := ren_rng nam (t.rng v hv)
    omega
  · have sub' : ∀ u, u ∈ dbl (us.map (ren (nmf nm))) → u ∈ dbl us' := fun u hu => by
      rw [dbl_mem] at hu ⊢
      exact hu.imp (fun q => pu.mem_iff.mpr q) (fun q => pu.mem_iff.mpr q)
    have go : ∀ z : Int, 0 ≤ z → z < n → Reach (dbl us') (nmf nm 0) z := fun z z0 z1 => by
      obtain ⟨k, k0, k1, e⟩ := nam.sur z z0 z1
      have := tree_conn nam t k.toNat (by omega)
      rw [show ((k.toNat : Nat) : Int) = k from by omega, e] at this
      exact reach_perm sub' this
    exact Reach.trans (Reach.symm (go 0 (by omega) (by have := t.n1; omega))) (go x h0 (by omega))
  · obtain ⟨k, hk, rfl⟩ := List.mem_map.mp (pp.mem_iff.mp hx)
    have := rng k hk
    have := nam.rng k this.1 this.2
    omega
  · rintro ⟨x, hx, h1, h2⟩
    obtain ⟨k, k0, k1, e⟩ := nam.sur (x : Int) (by omega) (by omega)
    have nk : k ∉ pl := fun q => h1 (by rw [← e]; exact pp.mem_iff.mpr (List.mem_map_of_mem q))
    have np : k ∉ plcs us n := fun q => nk (sub k q)
    have c3 : ¬ (endsL us).count k < 3 := fun q => np (List.mem_filter.mpr ⟨mem_upto.mpr ⟨k0, k1⟩, decide_eq_true q⟩)
    rw [ends_count fun u hu => (t.rng u hu).2.1] at c3
    rw [deg_perm pu, ← e, deg_ren nam t.rng k0 k1] at h2
    exact c3 h2
end Mine
/-! ## K28 -/
section
open PySem L2 GA
local macro_rules
  | `(tactic| walk_at "w") => `(tactic| first
    | ((with_reducible refine' GA.w_var ?e ?_); (case e => exact rfl))
    | (with_reducible refine' GA.w_c ?_)
    | (with_reducible refine' GA.w_cons ?_)
    | (with_reducible refine' GA.w_nil ?_)
    | (with_reducible refine' GA.w_op ?_)
    | (with_reducible refine' GA.r_I0 ?_)
    | (with_reducible refine' GA.w_bl ?_)
    | (with_reducible refine' GA.w_seq ?_)
    | (with_reducible refine' GA.w_set ?_)
    | (with_reducible refine' GA.w_ret ?_)
    | (with_reducible refine' GA.w_ifS ?_)
    | (with_reducible refine' GA.w_test ?_)
    | (with_reducible refine' GA.w_tB ?_)
    | (with_reducible refine' GA.w_not ?_)
    | (with_reducible refine' GA.w_and ?_)
    | (with_reducible refine' GA.w_or ?_)
    | (with_reducible refine' GA.w_andV ?_)
    | (with_reducible refine' GA.w_orV ?_)
    | (with_reducible refine' GA.w_notV ?_)
    | (with_reducible refine' GA.w_blc ?_)
    | (with_reducible refine' GA.w_if ?_)
    | (with_reducible refine' GA.w_CB ?_)
    | (with_reducible refine' GA.w_call ?_)
    | (with_reducible refine' GA.w_tupN ?_)
    | (with_reducible refine' GA.w_lstN ?_)
    | (with_reducible refine' GA.w_chain ?_)
    | (with_reducible refine' GA.w_drop ?_)
    | (with_reducible refine' GA.w_next ?_)
    | (with_reducible refine' GA.w_break ?_)
    | (with_reducible refine' GA.w_un ?_)
    | (with_reducible refine' GA.r_U ?_)
    | (with_reducible refine' GA.r_eqI ?_)
    | (with_reducible refine' GA.r_neI ?_)
    | (with_reducible refine' GA.r_eqB ?_)
    | (with_reducible refine' GA.r_neB ?_)
    | (with_reducible refine' GA.w_fld ?_)
    | (with_reducible refine' GA.w_sfld ?_)
    | (with_reducible refine' GA.w_sl ?_)
    | (with_reducible refine' GA.w_part ?_)
    | (with_reducible refine' GA.w_noPart ?_)
    | (with_reducible refine' GA.w_inti ?_)
    | (with_reducible refine' GA.w_retN ?_)
    | (with_reducible refine' GA.w_gsub ?_)
    | (with_reducible refine' GA.w_gname ?_)
    | (with_reducible refine' L2.iteT ?_)
    | (with_reducible refine' L2.iteF ?_)
    | (with_reducible refine' GA.w_nt ?_)
    | (with_reducible refine' GA.w_nf ?_)
    | (with_reducible refine' GA.w_isN ?_)
    | (with_reducible refine' GA.w_notN ?_)
    | (with_reducible refine' GA.w_yes ?_)
    | (with_reducible refine' GA.w_lc ?_)
    | (with_reducible refine' GA.w_lc2 ?_)
    | (with_reducible refine' GA.w_iseq ?_)
    | (with_reducible refine' GA.w_make ?_)
    | (with_reducible refine' GA.w_for ?_)
    | (with_reducible refine' GA.w_rng1 ?_)
    | (with_reducible refine' GA.w_rng2 ?_)
    | (with_reducible refine' GA.w_itup ?_)
    | (with_reducible refine' GA.w_ilist ?_)
    | (with_reducible refine' GA.w_ienum ?_)
    | (with_reducible refine' GA.w_BM ?_)
    | (with_reducible refine' GA.w_BM0 ?_)
    | (with_reducible refine' GA.w_izip ?_)
    | (with_reducible refine' GA.w_asg ?_))
  | `(tactic| walk_at "wm") => `(tactic| first
    | ((with_reducible refine' GA.w_var ?e ?_); (case e => exact rfl))
    | (with_reducible refine' GA.w_c ?_)
    | (with_reducible refine' GA.w_cons ?_)
    | (with_reducible refine' GA.w_nil ?_)
    | (with_reducible refine' GA.w_op ?_)
    | (with_reducible refine' GA.r_I0 ?_)
    | (with_reducible refine' GA.w_bl ?_)
    | (with_reducible refine' GA.w_set ?_)
    | (with_reducible refine' GA.w_ret ?_)
    | (with_reducible refine' GA.w_ifS ?_)
    | (with_reducible refine' GA.w_test ?_)
    | (with_reducible refine' GA.w_tB ?_)
    | (with_reducible refine' GA.w_not ?_)
    | (with_reducible refine' GA.w_and ?_)
    | (with_reducible refine' GA.w_or ?_)
    | (with_reducible refine' GA.w_andV ?_)
    | (with_reducible refine' GA.w_orV ?_)
    | (with_reducible refine' GA.w_notV ?_)
    | (with_reducible refine' GA.w_blc ?_)
    | (with_reducible refine' GA.w_if ?_)
    | (with_reducible refine' GA.w_CB ?_)
    | (with_reducible refine' GA.w_call ?_)
    | (with_reducible refine' GA.w_tupN ?_)
    | (with_reducible refine' GA.w_lstN ?_)
    | (with_reducible refine' GA.w_chain ?_)
    | (with_reducible refine' GA.w_drop ?_)
    | (with_reducible refine' GA.w_next ?_)
    | (with_reducible refine' GA.w_break ?_)
    | (with_reducible refine' GA.w_un ?_)
    | (with_reducible refine' GA.r_U ?_)
    | (with_reducible refine' GA.r_eqI ?_)
    | (with_reducible refine' GA.r_neI ?_)
    | (with_reducible refine' GA.r_eqB ?_)
    | (with_reducible refine' GA.r_neB ?_)
    | (with_reducible refine' GA.w_fld ?_)
    | (with_reducible refine' GA.w_sfld ?_)
    | (with_reducible refine' GA.w_sl ?_)
    | (with_reducible refine' GA.w_part ?_)
    | (with_reducible refine' GA.w_noPart ?_)
    | (with_reducible refine' GA.w_inti ?_)
    | (with_reducible refine' GA.w_retN ?_)
    | (with_reducible refine' GA.w_gsub ?_)
    | (with_reducible refine' GA.w_gname ?_)
    | (with_reducible refine' L2.iteT ?_)
    | (with_reducible refine' L2.iteF ?_)
    | (with_reducible refine' GA.w_nt ?_)
    | (with_reducible refine' GA.w_nf ?_)
    | (with_reducible refine' GA.w_isN ?_)
    | (with_reducible refine' GA.w_notN ?_)
    | (with_reducible refine' GA.w_yes ?_)
    | (with_reducible refine' GA.w_lc ?_)
    | (with_reducible refine' GA.w_lc2 ?_)
    | (with_reducible refine' GA.w_iseq ?_)
    | (with_reducible refine' GA.w_make ?_)
    | (with_reducible refine' GA.w_for ?_)
    | (with_reducible refine' GA.w_rng1 ?_)
    | (with_reducible refine' GA.w_rng2 ?_)
    | (with_reducible refine' GA.w_itup ?_)
    | (with_reducible refine' GA.w_ilist ?_)
    | (with_reducible refine' GA.w_ienum ?_)
    | (with_reducible refine' GA.w_BM ?_)
    | (with_reducible refine' GA.w_BM0 ?_)
    | (with_reducible refine' GA.w_izip ?_)
    | (with_reducible refine' GA.w_asg ?_))
  | `(tactic| walk_at "ws") => `(tactic| repeat (walk_at "w"))
  | `(tactic| walk_at "wn") => `(tactic| repeat (walk_at "wm"))


namespace Mine
section
variable {P : Program} {w : World} {K : PySem.W.Frag} {mg : Str → Option Value} {base : Heap} {a : Ads}

/-! ### a hall is drawn -/
theorem k_lcount (K : PySem.W.Frag) {X : Cx} (hK : X.K = K := by rfl) : MtR X "list.count" (rCntI K) := by subst hK; exact mt_lcount
theorem w_ifM {b : Bool} {ta tb : TE} {σ : L2.St} {H : Hp} {Q : VK} (M : V → Hp → Prop) (h : ∀ N : VK, (∀ v H', M v H' → N v H') → (if b = true then ta σ H N else tb σ H N)) (q : ∀ v H', M v H' → Q v H') : if b = true then ta σ H Q else tb σ H Q := h Q q
theorem TreeP.add {n : Nat} {us : List (Int × Int)} (t : TreeP n us) {x : Int} (h : 0 ≤ x ∧ x < n) : TreeP (n + 1) (us ++ [(x, (n : Int))]) := by
  have n1 := t.n1
  refine ⟨by omega, fun u hu => ?_, ?_, fun k h1 h2 => ?_⟩
  · rcases List.mem_append.mp hu with q | q
    · have := t.rng u q; omega
    · have e : u = (x, (n : Int)) := by simpa using q
      subst e
      show 0 ≤ x ∧ x < (n : Int) ∧ (n : Int) < ((n + 1 : Nat) : Int)
      omega
  · rw [List.map_append, List.nodup_append]
    refine ⟨t.nd, by simp, fun a ha b hb e => ?_⟩
    have eb : b = (n : Int) := by simpa using hb
    obtain ⟨u, hu, rfl⟩ := List.mem_map.mp ha
    have := t.rng u hu
    omega
  · by_cases c : k < n
    · obtain ⟨u, hu, e⟩ := t.all k h1 c
      exact ⟨u, List.mem_append_left _ hu, e⟩
    · exact ⟨(x, (n : Int)), List.mem_append_right _ (by simp), by show (n : Int) = k; omega⟩
theorem TreeP.one : TreeP 1 [] := ⟨by omega, (fun _ h => by cases h), by simp, fun k h1 h2 => by omega⟩
theorem back_s {H H' : Hp} {hd c D : Addr} (g : G (some (hd, c)) H H') (h : Hand H' hd c) (n : H' D = none) : H D = none := by
  cases e : H D with
  | none => rfl
  | some u =>
    by_cases q : D = hd
    · obtain ⟨_, _, _, _, _, _, z, _⟩ := h
      rw [q, z] at n; cases n
    · have := g.keep D u (fun p ep => by cases ep; exact q) e
      rw [this] at n; cases n
theorem min_if (i j : Int) : (if j < i then j else i) = min i j := by omega
theorem max_if (i j : Int) : (if j > i then j else i) = max i j := by omega
theorem ab_tlsW {C hd : Addr} {H : Hp} : ∀ {ts : List Addr} {us : List (Int × Int)}, TLs H ts (us.map prI) → AbAll C hd H (ts.map V.ref) (us.map tgP)
  | [], [], _ => .nil
  | [], _ :: _, h => by have := h.1; simp at this
  | _ :: _, [], h => by have := h.1; simp at this
  | t :: ts, u :: us, h => .cons (.tup (h.2 0 t (prI u) rfl rfl) (.cons (.int _) (.cons (.int _) .nil))) (ab_tlsW ⟨by have := h.1; simpa using this, fun j a L e1 e2 => h.2 (j + 1) a L e1 e2⟩)
theorem ab_ints {C hd : Addr} {H : Hp} : ∀ (ns : List Int), AbAll C hd H (ns.map V.int) (ns.map Tg.int)
  | [] => .nil
  | n :: ns => .cons (.int n) (ab_ints ns)
def sp__law_hall (C : Addr) : Sp := fun vs H Q _ => ∃ (hd c : Addr), vs = [.ref hd] ∧ Hand H hd c ∧
  ∀ (t p q : Addr) (us : List (Int × Int)) (pl : List Int) H', G (some (hd, c)) H H' → Hand H' hd c → Rd H' t (.tup [.ref p, .ref q]) → Ab C hd H' (.ref p) (tgW us) → Ab C hd H' (.ref q) (tgI pl) → HallOk us pl → Q (.ref t) H'
theorem ok__law_hall (T : Txt K mg a) : FnOk P w K mg base CX0 3 a.f__law_hall a.d__law_hall P__law_hall (sp__law_hall a.c_Hall) := by
  refine T.F__law_hall.ok sc__law_hall (fun vs H Q E h => by obtain ⟨hd, c, rfl, _⟩ := h; rfl) (fun cdv A outer s H vs Q E hr h => ?_)
  obtain ⟨hd, c, rfl, hh, k⟩ := h
  have G__law_draw : FnOk P w K mg base CX0 1 a.f__law_draw a.d__law_draw P__law_draw sp__law_draw := ok__law_draw T
  have G__law_shuffled : FnOk P w K mg base CX0 2 a.f__law_shuffled a.d__law_shuffled P__law_shuffled (sp__law_shuffled K) := ok__law_shuffled T
  refine ⟨_, (pss_cons (ps_set (i := 1) sc__law_hall.nd rfl (Or.inr rfl) (pe_op op_add pe_int (pe_call (G__law_draw) (hr.mono (by omega)) rfl T.m__law_draw T.F__law_draw.kp T.b__law_draw .nil pass0 (pa_cons (pv 0) (pa_cons pe_int pa_nil)))))
  (pss_cons (ps_set (i := 2) sc__law_hall.nd rfl (Or.inl rfl) (pe_callB (cr_sortedL (hu2 hr)) (by rfl) T.n_sorted (by decide +kernel) (pa_cons (pe_lc (own := [("_law_node", 9)]) (g := (gName 9)) (tt := tYes) rfl sc__law_hall.nd (pi_range2 rfl T.n_range (pa_cons pe_int (pa_cons (pv 1) pa_nil))) (blkOk_by (N := N__law_hall) (sc := defScope s__law_hall) (by decide +kernel)) (fun _ _ _ _ _ => (pg_name (i := 9) sc__law_hall.nd rfl (by first | exact Or.inl rfl | exact Or.inr rfl))) (fun _ _ _ _ _ => pts_nil) (fun _ _ _ _ _ => (pe_tupN (pa_cons (pe_call (G__law_draw) (hr.mono (by omega)) rfl T.m__law_draw T.F__law_draw.kp T.b__law_draw .nil pass0 (pa_cons (pv 0) (pa_cons (pv 9) pa_nil))) (pa_cons (pv 9) pa_nil))))) pa_nil)))
  (pss_cons (ps_set (i := 3) sc__law_hall.nd rfl (Or.inr rfl) (pe_lstN pa_nil))
  (pss_cons (ps_for PassesOwn.never rfl (pi_list (pv 2)) (pg_tup rfl (pgs_cons (pg_name (i := 4) sc__law_hall.nd rfl (Or.inl rfl)) (pgs_cons (pg_name (i := 5) sc__law_hall.nd rfl (Or.inl rfl)) pgs_nil)))
    (pss_one (ps_expr (pe_bm PySem.F.plainAttrs_list PySem.F.slot_list_extend PySem.F.type_list_extend mt_extend (pv 3) (pa_cons (pe_lstN (pa_cons (pv 4) (pa_cons (pv 5) pa_nil))) pa_nil)))))
  (pss_cons (ps_setLc (i := 6) (own := [("_law_node", 9)]) (g := (gName 9))  rfl sc__law_hall.nd rfl rfl (sw_true rfl rfl rfl (by decide +kernel)) (pi_range1 rfl T.n_range (pa_cons (pv 1) pa_nil)) (blkOk_by (N := N__law_hall) (sc := defScope s__law_hall) (by decide +kernel)) (fun _ _ _ _ _ => (pg_name (i := 9) sc__law_hall.nd rfl (by first | exact Or.inl rfl | exact Or.inr rfl))) (fun _ _ _ _ _ => (pts_one (pt_cmpR op_lt (k_bm K PySem.F.plainAttrs_list PySem.F.slot_list_count PySem.F.type_list_count (k_lcount K) (pv 3) (pa_cons (pv 9) pa_nil)) pe_int (nomark _)))) (fun _ _ _ _ _ => (pv 9)))
  (pss_cons (ps_while PassesOwn.never (pt_cmpR op_gt (pe_callB call_len_seq (by rfl) T.n_len (by decide +kernel) (pa_cons (pv 6) pa_nil)) pe_int (nomark _))
    (pss_cons (ps_set (i := 1) sc__law_hall.nd rfl (Or.inr rfl) (pe_op op_sub (pv 1) pe_int))
  (pss_cons (ps_setLc (i := 2) (own := [("_law_link", 10)]) (g := (gName 10))  rfl sc__law_hall.nd rfl rfl (sw_true rfl rfl rfl (by decide +kernel)) (pi_list (pv 2)) (blkOk_by (N := N__law_hall) (sc := defScope s__law_hall) (by decide +kernel)) (fun _ _ _ _ _ => (pg_name (i := 10) sc__law_hall.nd rfl (by first | exact Or.inl rfl | exact Or.inr rfl))) (fun _ _ _ _ _ => (pts_one (pt_cmpR op_ne (pe_ix (k_ix_tup K) (pv 10) pe_int (fun _ _ => rfl)) (pv 1) (nomark _)))) (fun _ _ _ _ _ => (pv 10)))
  (pss_cons (ps_set (i := 3) sc__law_hall.nd rfl (Or.inr rfl) (pe_lstN pa_nil))
  (pss_cons (ps_for PassesOwn.never rfl (pi_list (pv 2)) (pg_tup rfl (pgs_cons (pg_name (i := 4) sc__law_hall.nd rfl (Or.inl rfl)) (pgs_cons (pg_name (i := 5) sc__law_hall.nd rfl (Or.inl rfl)) pgs_nil)))
    (pss_one (ps_expr (pe_bm PySem.F.plainAttrs_list PySem.F.slot_list_extend PySem.F.type_list_extend mt_extend (pv 3) (pa_cons (pe_lstN (pa_cons (pv 4) (pa_cons (pv 5) pa_nil))) pa_nil)))))
  (pss_one (ps_setLc (i := 6) (own := [("_law_node", 9)]) (g := (gName 9))  rfl sc__law_hall.nd rfl rfl (sw_true rfl rfl rfl (by decide +kernel)) (pi_range1 rfl T.n_range (pa_cons (pv 1) pa_nil)) (blkOk_by (N := N__law_hall) (sc := defScope s__law_hall) (by decide +kernel)) (fun _ _ _ _ _ => (pg_name (i := 9) sc__law_hall.nd rfl (by first | exact Or.inl rfl | exact Or.inr rfl))) (fun _ _ _ _ _ => (pts_one (pt_cmpR op_lt (k_bm K PySem.F.plainAttrs_list PySem.F.slot_list_count PySem.F.type_list_count (k_lcount K) (pv 3) (pa_cons (pv 9) pa_nil)) pe_int (nomark _)))) (fun _ _ _ _ _ => (pv 9)))))))))
  (pss_cons (ps_for PassesOwn.never rfl (pi_range1 rfl T.n_range (pa_cons (pe_ifExp (pt_cmpR op_lt (pe_callB call_len_seq (by rfl) T.n_len (by decide +kernel) (pa_cons (pv 6) pa_nil)) pe_int (nomark _)) (pe_call (G__law_draw) (hr.mono (by omega)) rfl T.m__law_draw T.F__law_draw.kp T.b__law_draw .nil pass0 (pa_cons (pv 0) (pa_cons pe_int pa_nil))) pe_int) pa_nil)) (pg_name (i := 7) sc__law_hall.nd rfl (Or.inl rfl))
    (pss_one (ps_expr (pe_bm PySem.F.plainAttrs_list PySem.F.slot_list_append PySem.F.type_list_append mt_append (pv 6) (pa_cons (pe_call (G__law_draw) (hr.mono (by omega)) rfl T.m__law_draw T.F__law_draw.kp T.b__law_draw .nil pass0 (pa_cons (pv 0) (pa_cons (pv 1) pa_nil))) pa_nil)))))
  (pss_cons (ps_set (i := 8) sc__law_hall.nd rfl (Or.inr rfl) (pe_call (G__law_shuffled) (hr.mono (by omega)) rfl T.m__law_shuffled T.F__law_shuffled.kp T.b__law_shuffled .nil pass0 (pa_cons (pv 0) (pa_cons (pe_listRgN rfl (by rfl) T.n_list (prg_1 (by rfl) T.n_range (pv 1)) (mo_rg1 mo_var)) pa_nil))))
  (pss_cons (ps_set (i := 2) sc__law_hall.nd rfl (Or.inl rfl) (pe_callB (cr_sortedL (hu2 hr)) (by rfl) T.n_sorted (by decide +kernel) (pa_cons (pe_lc (own := [("_law_one", 4), ("_law_other", 5)]) (g := (gTup K 2 (gCons (gName 4) (gCons (gName 5) gNil)))) (tt := tYes) rfl sc__law_hall.nd (pi_list (pv 2)) (blkOk_by (N := N__law_hall) (sc := defScope s__law_hall) (by decide +kernel)) (fun _ _ _ _ _ => (pg_tup rfl (pgs_cons (pg_name (i := 4) sc__law_hall.nd rfl (by first | exact Or.inl rfl | exact Or.inr rfl)) (pgs_cons (pg_name (i := 5) sc__law_hall.nd rfl (by first | exact Or.inl rfl | exact Or.inr rfl)) pgs_nil)))) (fun _ _ _ _ _ => pts_nil) (fun _ _ _ _ _ => (pe_tupN (pa_cons (pe_callB (call_min2 rfl) (by rfl) T.n_min (by decide +kernel) (pa_cons (pe_ix (k_ix_list K) (pv 8) (pv 4) (fun _ _ => rfl)) (pa_cons (pe_ix (k_ix_list K) (pv 8) (pv 5) (fun _ _ => rfl)) pa_nil))) (pa_cons (pe_callB (call_max2 rfl) (by rfl) T.n_max (by decide +kernel) (pa_cons (pe_ix (k_ix_list K) (pv 8) (pv 4) (fun _ _ => rfl)) (pa_cons (pe_ix (k_ix_list K) (pv 8) (pv 5) (fun _ _ => rfl)) pa_nil))) pa_nil))))) pa_nil)))
  (pss_one (ps_ret (pe_tupN (pa_cons (pe_callTy call_tupleN (by rfl) T.n_tuple (by decide +kernel) (pa_cons (pv 2) pa_nil)) (pa_cons (pe_callTy call_tupleN (by rfl) T.n_tuple (by decide +kernel) (pa_cons (pe_call (G__law_shuffled) (hr.mono (by omega)) rfl T.m__law_shuffled T.F__law_shuffled.kp T.b__law_shuffled .nil pass0 (pa_cons (pv 0) (pa_cons (pe_lc (own := [("_law_node", 9)]) (g := (gName 9)) (tt := tYes) rfl sc__law_hall.nd (pi_list (pv 6)) (blkOk_by (N := N__law_hall) (sc := defScope s__law_hall) (by decide +kernel)) (fun _ _ _ _ _ => (pg_name (i := 9) sc__law_hall.nd rfl (by first | exact Or.inl rfl | exact Or.inr rfl))) (fun _ _ _ _ _ => pts_nil) (fun _ _ _ _ _ => (pe_ix (k_ix_list K) (pv 8) (pv 9) (fun _ _ => rfl)))) pa_nil))) pa_nil)) pa_nil)))))))))))))), ?_⟩
  walk_at "ws"
  refine ⟨hd, c, 9, rfl, hh, by decide, by decide, fun r H1 r0 r1 g1 hh1 => ?_⟩
  walk_at "ws"
  obtain ⟨n0, en0⟩ : ∃ n : Nat, 1 + r = (n : Int) := ⟨(1 + r).toNat, by omega⟩
  rw [en0]
  have n1 : 1 ≤ n0 := by omega
  have n9 : n0 ≤ 9 := by omega
  refine i_rng2 (by omega) ?_
  intro D hD
  refine lc_it walk_range (fun i H' => ∃ (ts : List Addr) (us : List (Int × Int)), G (some (hd, c)) H1 H' ∧ Hand H' hd c ∧ H' D = some (.lst (ts.map V.ref)) ∧ TLs H' ts (us.map prI) ∧ TreeP (i + 1) us) ⟨[], [], (G.refl).mut hD (fun p e => by cases e; exact hh1), ((G.alloc hD : G none H1 (upd H1 D (.lst []))).up : G (some (hd, c)) H1 _).hand (hd, c) rfl hh1, upd_same, .nil, .one⟩ (fun _ _ _ _ => trivial) ?_ ?_
  · rintro i _ H2 _ hi ⟨ts, us, g2, hh2, h2, tl, tr⟩ ⟨rfl, rfl⟩
    have li := tr.len
    have lts := tl.1
    rw [List.length_map] at lts
    walk_at "ws"
    refine ⟨rfl, ?_⟩
    walk_at "ws"
    refine ⟨hd, c, 1 + (i : Int), rfl, hh2, by omega, by omega, fun z H3 z0 z1 g3 hh3 => ?_⟩
    walk_at "ws"
    refine ⟨sz (by simp), fun t H4 ht g4 h4 => ?_⟩
    have nD : D ≠ hd := hh1.ne hD
    have h3D := g3.keep D _ (fun p e => by cases e; exact nD) h2
    have h4D := (g4 none).all _ _ h3D
    have g24 := (g2.trans g3).trans (g4 _)
    refine ⟨ts.map V.ref, h4D, Nat.lt_of_le_of_lt (by rw [List.length_map]; omega : (ts.map V.ref).length ≤ 100) (by decide), ts ++ [t], us ++ [(z, ((i + 1 : Nat) : Int))], g24.mut hD (fun p e => by cases e; exact hh1), ?_, by rw [upd_same, List.map_append]; rfl, ?_, tr.add ⟨z0, by omega⟩⟩
    · exact (g24.mut hD (fun p e => by cases e; exact hh1)).hand (hd, c) rfl hh1
    · rw [List.map_append]
      refine ((tl.keep (g3.tups.trans (g4 none).tups)).app (.inl ?_)).keep (Ts.updl h4D)
      rw [h4]
      show some (HO.tup [V.int z, V.int (1 + (i : Int))]) = some (HO.tup [V.int z, V.int ((i + 1 : Nat) : Int)])
      have : (1 + (i : Int)) = ((i + 1 : Nat) : Int) := by omega
      rw [this]
  rintro H2 ⟨ts, us, g2, hh2, h2, tl, tr⟩
  have en : ((n0 : Int) - 1).toNat + 1 = n0 := by omega
  rw [en] at tr
  clear en
  walk_at "ws"
  refine r_sortL h2 tl fun L ts1 Ls1 HS hL gS hS tlS pm3 srt0 => ?_
  obtain ⟨us1, rfl, pu1⟩ := prs_back pm3
  have tr1 := tr.perm pu1
  have hh3 := gS.up.hand (hd, c) rfl hh2
  have g02 : G (some (hd, c)) H H2 := g1.trans g2
  have g03 : G (some (hd, c)) H HS := g02.trans gS.up
  have hL0 : H L = none := back_s g02 hh2 hL
  clear srt0 tr tl h2 hh2 g2 gS g02 hD D pm3 pu1 us ts g1 hh1 hL en0 r0 r1
  walk_at "ws"
  refine ⟨sz (by simp), fun E HE hE gE hE1 => ?_⟩
  walk_at "ws"
  refine i_list (SqL.of ((gE none).all _ _ hS)) ?_
  refine for_it (walk_list (xs := ts1.map V.ref)) (fun i σ H' => ∃ u4 u5, σ = [some (.ref hd), some (.int (n0 : Int)), some (.ref L), some (.ref E), u4, u5, none, none, none, none, none] ∧ G none HS H' ∧ H' E = some (.lst ((endsL (us1.take i)).map V.int))) ⟨_, _, rfl, gE none, hE1⟩ (fun i σ H' _ ⟨_, _, _, g, _⟩ => sqL_n g (SqL.of hS)) ?_ ?_
  · rintro i v σ _ H3 hi ⟨u4, u5, rfl, g3, h3⟩ ⟨rfl, hv⟩
    rw [List.length_map] at hi
    rw [List.getElem?_map] at hv
    obtain ⟨t, ht, rfl⟩ := Option.map_eq_some_iff.mp hv
    have lts := tlS.1
    rw [List.length_map] at lts
    have ltr := tr1.len
    obtain ⟨u, hu⟩ : ∃ u, us1[i]? = some u := ⟨_, List.getElem?_eq_getElem (by omega)⟩
    have rt := tlS.2 i t (prI u) ht (by rw [List.getElem?_map, hu]; rfl)
    refine ⟨t, [V.int u.1, V.int u.2], rfl, .inl (g3.tups _ _ rt), rfl, ?_⟩
    refine ⟨_, _, rfl, ?_⟩
    walk_at "ws"
    refine ⟨_, _, rfl, ?_⟩
    walk_at "ws"
    refine ⟨rfl, ?_⟩
    walk_at "ws"
    refine i_BM h3 ?_
    walk_at "ws"
    refine ⟨sz (by simp), fun b H4 hb g4 h4 => ?_⟩
    walk_at "ws"
    refine ⟨E, b, _, _, rfl, rfl, (g4 none).all _ _ h3, h4, sz (by
      rw [List.length_map, ends_len, List.length_take, List.length_cons, List.length_cons, List.length_nil]
      omega), ?_⟩
    walk_at "ws"
    exact ⟨_, _, rfl, (g3.trans (g4 none)).mut hE (fun _ e => nomatch e), by rw [upd_same, ends_take hu, List.map_append]; rfl⟩
  rintro σ H3 ⟨u4, u5, rfl, g3, h3⟩
  have lts := tlS.1
  rw [List.length_map] at lts
  rw [List.length_map, List.take_of_length_le (by omega)] at h3
  clear hE1 gE
  walk_at "ws"
  refine i_rng1 (by omega) (by omega) ?_
  intro D hD
  refine lc_it walk_range (fun i H' => G none H3 H' ∧ H' D = some (.lst (((upto i).filter fun k => decide ((endsL us1).count k < 3)).map V.int))) ⟨(G.refl).mut hD (fun _ e => nomatch e), upd_same⟩ (fun _ _ _ _ => trivial) ?_ ?_
  · rintro i _ H4 _ hi ⟨g4, h4⟩ ⟨rfl, rfl⟩
    rw [Int.toNat_natCast] at hi
    have ei : (0 : Int) + (i : Int) = (i : Int) := by omega
    have lf : ((upto i).filter fun k => decide ((endsL us1).count k < 3)).length ≤ i := plcs_le us1 i
    have up : upto (i + 1) = upto i ++ [(i : Int)] := by unfold upto; rw [List.range_succ, List.map_append]; rfl
    walk_at "ws"
    refine ⟨rfl, ?_⟩
    walk_at "ws"
    refine i_BM (g4.all _ _ h3) ?_
    walk_at "ws"
    refine ⟨E, endsL us1, 0 + (i : Int), rfl, rfl, SqL.of (g4.all _ _ h3), ?_⟩
    rw [ei]
    walk_at "ws"
    refine w_ite (fun e => ?_) (fun e => ?_)
    · have e : (endsL us1).count (i : Int) < 3 := by have e := of_decide_eq_true e; omega
      have e1 : [(i : Int)].filter (fun k => decide ((endsL us1).count k < 3)) = [(i : Int)] := by rw [List.filter_cons, if_pos (decide_eq_true e)]; rfl
      walk_at "ws"
      refine ⟨_, h4, Nat.lt_of_le_of_lt (by rw [List.length_map]; omega) (by decide : 100 < sizeLine), g4.mut hD (fun _ e => nomatch e), ?_⟩
      rw [upd_same, up, List.filter_append, e1, List.map_append]; simp only [Int.zero_add]; rfl
    · have e : ¬ (endsL us1).count (i : Int) < 3 := by have e := of_decide_eq_false e; omega
      have e1 : [(i : Int)].filter (fun k => decide ((endsL us1).count k < 3)) = [] := by rw [List.filter_cons, if_neg (by rw [decide_eq_false e]; simp)]; rfl
      refine ⟨g4, ?_⟩
      rw [h4, up, List.filter_append, e1, List.append_nil]
  rintro H4 ⟨g4, h4⟩
  rw [Int.toNat_natCast] at h4
  replace h4 : H4 D = some (.lst ((plcs us1 n0).map V.int)) := h4
  have gA := g3.trans g4
  have hDk := back0 g3 hD
  have hD0 : H D = none := back_s g03 hh3 hDk
  have nLD : L ≠ D := ne_of_none hS hDk
  have hhA := gA.up.hand (hd, c) rfl hh3
  have g04 : G (some (hd, c)) H H4 := g03.trans gA.up
  have h4L := gA.all _ _ hS
  have tl4 := tlS.keep gA.tups
  clear hD h3 hS g3 g4 gA hE g03 hh3 tlS lts hDk
  walk_at "ws"
  refine ⟨fun μ σ H' => ∃ (n : Nat) (us : List (Int × Int)) (L D : Addr) (ts : List Addr) (u3 u4 u5 : Option V), σ = [some (.ref hd), some (.int (n : Int)), some (.ref L), u3, u4, u5, some (.ref D), none, none, none, none] ∧ (H L = none ∧ H D = none ∧ L ≠ D) ∧ G (some (hd, c)) H H' ∧ Hand H' hd c ∧ H' L = some (.lst (ts.map V.ref)) ∧ TLs H' ts (us.map prI) ∧ H' D = some (.lst ((plcs us n).map V.int)) ∧ TreeP n us ∧ n ≤ 9 ∧ μ = n, ⟨_, n0, us1, L, D, ts1, _, _, _, rfl, ⟨hL0, hD0, nLD⟩, g04, hhA, h4L, tl4, h4, tr1, n9, rfl⟩, ?_⟩
  clear hL0 hD0 nLD g04 hhA h4L tl4 h4 tr1 n9 n1 ts1 us1 L D n0 E
  rintro μ σ H1 ⟨n, us, L, D, ts, u3, u4, u5, rfl, ⟨hL0, hD0, nLD⟩, g1, hh1, h1L, tl1, h1D, tr1, n9, em0⟩
  have lp := plcs_le us n
  walk_at "ws"
  refine ⟨D, _, rfl, .inl (SqL.of h1D), ?_⟩
  rw [List.length_map]
  walk_at "ws"
  refine w_ite (fun e => ?_) (fun e => ?_)
  · have e : (7 : Int) < ((plcs us n).length : Int) := of_decide_eq_true e
    obtain ⟨m, rfl⟩ : ∃ m, n = m + 1 := ⟨n - 1, by omega⟩
    have em : ((m + 1 : Nat) : Int) - 1 = (m : Int) := by omega
    refine ⟨fun σ H' => ∃ (us : List (Int × Int)) (L D : Addr) (ts : List Addr) (u3 u4 u5 : Option V), σ = [some (.ref hd), some (.int (m : Int)), some (.ref L), u3, u4, u5, some (.ref D), none, none, none, none] ∧ (H L = none ∧ H D = none ∧ L ≠ D) ∧ G (some (hd, c)) H H' ∧ Hand H' hd c ∧ H' L = some (.lst (ts.map V.ref)) ∧ TLs H' ts (us.map prI) ∧ H' D = some (.lst ((plcs us m).map V.int)) ∧ TreeP m us, ?_, ?_⟩
    · rintro σ' H' ⟨us, L, D, ts, u3, u4, u5, rfl, q0, q1, q2, q3, q4, q5, q6⟩
      exact ⟨m, by omega, m, us, L, D, ts, _, _, _, rfl, q0, q1, q2, q3, q4, q5, q6, by omega, rfl⟩
    · walk_at "ws"
      rw [em]
      refine i_list (SqL.of h1L) ?_
      intro D2 hD2
      have hD20 : H D2 = none := back_s g1 hh1 hD2
      refine lc_it (walk_list (xs := ts.map V.ref)) (fun i H' => ∃ ts2, G none H1 H' ∧ H' D2 = some (.lst (ts2.map V.ref)) ∧ ts2.length ≤ i ∧ TLs H' ts2 (((us.take i).filter fun u => !decide (u.2 = (m : Int))).map prI)) ⟨[], (G.refl).mut hD2 (fun _ e => nomatch e), upd_same, Nat.le_refl _, by rw [List.take_zero]; exact .nil⟩ (fun i H' _ ⟨_, g, _⟩ => sqL_n g (SqL.of h1L)) ?_ ?_
      · rintro i v _ H2 hi ⟨ts2, g2, h2, l2, tl2⟩ ⟨rfl, hv⟩
        rw [List.length_map] at hi
        rw [List.getElem?_map] at hv
        obtain ⟨t, ht, rfl⟩ := Option.map_eq_some_iff.mp hv
        have lts := tl1.1
        rw [List.length_map] at lts
        have ltr := tr1.len
        obtain ⟨u, hu⟩ : ∃ u, us[i]? = some u := ⟨_, List.getElem?_eq_getElem (by omega)⟩
        have rt := g2.tups _ _ (tl1.2 i t (prI u) ht (by rw [List.getElem?_map, hu]; rfl))
        have tk : us.take (i + 1) = us.take i ++ [u] := by rw [List.take_add_one, hu]; rfl
        walk_at "ws"
        refine ⟨rfl, ?_⟩
        walk_at "ws"
        refine r_ixT (.inl rt) (v := .int u.2) rfl ?_
        walk_at "ws"
        refine w_ite (fun e => ?_) (fun e => ?_)
        · have e1 : [u].filter (fun u => !decide (u.2 = (m : Int))) = [u] := by rw [List.filter_cons, if_pos e]; rfl
          walk_at "ws"
          refine ⟨_, h2, Nat.lt_of_le_of_lt (by rw [List.length_map]; omega) (by decide : 100 < sizeLine), ts2 ++ [t], g2.mut hD2 (fun _ e => nomatch e), by rw [upd_same, List.map_append]; rfl, by rw [List.length_append, List.length_singleton]; omega, ?_⟩
          rw [tk, List.filter_append, e1, List.map_append]
          exact (tl2.app rt).keep (Ts.updl h2)
        · have e1 : [u].filter (fun u => !decide (u.2 = (m : Int))) = [] := by rw [List.filter_cons, if_neg (by rw [e]; simp)]; rfl
          refine ⟨ts2, g2, h2, by omega, ?_⟩
          rw [tk, List.filter_append, e1, List.append_nil]
          exact tl2
      rintro HS ⟨ts2, g2, hS, l2, tlS⟩
      have lts := tl1.1
      rw [List.length_map] at lts
      have ltr := tr1.len
      rw [List.length_map, List.take_of_length_le (by omega)] at tlS
      have tr2 := tr1.cut (n := m) (by omega)
      have hh2 := g2.up.hand (hd, c) rfl hh1
      have g02 : G (some (hd, c)) H HS := g1.trans g2.up
      generalize us.filter (fun u => !decide (u.2 = (m : Int))) = us2 at tlS tr2
      clear lts ltr l2 g2 hD2 tl1 h1L h1D g1 hh1 tr1 lp e hL0 hD0 nLD
      walk_at "ws"
      refine ⟨sz (by simp), fun E HE hE gE hE1 => ?_⟩
      walk_at "ws"
      refine i_list (SqL.of ((gE none).all _ _ hS)) ?_
      refine for_it (walk_list (xs := ts2.map V.ref)) (fun i σ H' => ∃ u4 u5, σ = [some (.ref hd), some (.int (m : Int)), some (.ref D2), some (.ref E), u4, u5, some (.ref D), none, none, none, none] ∧ G none HS H' ∧ H' E = some (.lst ((endsL (us2.take i)).map V.int))) ⟨_, _, rfl, gE none, hE1⟩ (fun i σ H' _ ⟨_, _, _, g, _⟩ => sqL_n g (SqL.of hS)) ?_ ?_
      · rintro i v σ _ H3 hi ⟨u4, u5, rfl, g3, h3⟩ ⟨rfl, hv⟩
        rw [List.length_map] at hi
        rw [List.getElem?_map] at hv
        obtain ⟨t, ht, rfl⟩ := Option.map_eq_some_iff.mp hv
        have lts := tlS.1
        rw [List.length_map] at lts
        have ltr := tr2.len
        obtain ⟨u, hu⟩ : ∃ u, us2[i]? = some u := ⟨_, List.getElem?_eq_getElem (by omega)⟩
        have rt := tlS.2 i t (prI u) ht (by rw [List.getElem?_map, hu]; rfl)
        refine ⟨t, [V.int u.1, V.int u.2], rfl, .inl (g3.tups _ _ rt), rfl, ?_⟩
        refine ⟨_, _, rfl, ?_⟩
        walk_at "ws"
        refine ⟨_, _, rfl, ?_⟩
        walk_at "ws"
        refine ⟨rfl, ?_⟩
        walk_at "ws"
        refine i_BM h3 ?_
        walk_at "ws"
        refine ⟨sz (by simp), fun b H4 hb g4 h4 => ?_⟩
        walk_at "ws"
        refine ⟨E, b, _, _, rfl, rfl, (g4 none).all _ _ h3, h4, sz (by
          rw [List.length_map, ends_len, List.length_take, List.length_cons, List.length_cons, List.length_nil]
          omega), ?_⟩
        walk_at "ws"
        exact ⟨_, _, rfl, (g3.trans (g4 none)).mut hE (fun _ e => nomatch e), by rw [upd_same, ends_take hu, List.map_append]; rfl⟩
      rintro σ H3 ⟨u4, u5, rfl, g3, h3⟩
      have lts := tlS.1
      rw [List.length_map] at lts
      rw [List.length_map, List.take_of_length_le (by omega)] at h3
      clear hE1 gE
      walk_at "ws"
      refine i_rng1 (by omega) (by omega) ?_
      intro D hD
      refine lc_it walk_range (fun i H' => G none H3 H' ∧ H' D = some (.lst (((upto i).filter fun k => decide ((endsL us2).count k < 3)).map V.int))) ⟨(G.refl).mut hD (fun _ e => nomatch e), upd_same⟩ (fun _ _ _ _ => trivial) ?_ ?_
      · rintro i _ H4 _ hi ⟨g4, h4⟩ ⟨rfl, rfl⟩
        rw [Int.toNat_natCast] at hi
        have ei : (0 : Int) + (i : Int) = (i : Int) := by omega
        have lf : ((upto i).filter fun k => decide ((endsL us2).count k < 3)).length ≤ i := plcs_le us2 i
        have up : upto (i + 1) = upto i ++ [(i : Int)] := by unfold upto; rw [List.range_succ, List.map_append]; rfl
        walk_at "ws"
        refine ⟨rfl, ?_⟩
        walk_at "ws"
        refine i_BM (g4.all _ _ h3) ?_
        walk_at "ws"
        refine ⟨E, endsL us2, 0 + (i : Int), rfl, rfl, SqL.of (g4.all _ _ h3), ?_⟩
        rw [ei]
        walk_at "ws"
        refine w_ite (fun e => ?_) (fun e => ?_)
        · have e : (endsL us2).count (i : Int) < 3 := by have e := of_decide_eq_true e; omega
          have e1 : [(i : Int)].filter (fun k => decide ((endsL us2).count k < 3)) = [(i : Int)] := by rw [List.filter_cons, if_pos (decide_eq_true e)]; rfl
          walk_at "ws"
          refine ⟨_, h4, Nat.lt_of_le_of_lt (by rw [List.length_map]; omega) (by decide : 100 < sizeLine), g4.mut hD (fun _ e => nomatch e), ?_⟩
          rw [upd_same, up, List.filter_append, e1, List.map_append]; simp only [Int.zero_add]; rfl
        · have e : ¬ (endsL us2).count (i : Int) < 3 := by have e := of_decide_eq_false e; omega
          have e1 : [(i : Int)].filter (fun k => decide ((endsL us2).count k < 3)) = [] := by rw [List.filter_cons, if_neg (by rw [decide_eq_false e]; simp)]; rfl
          refine ⟨g4, ?_⟩
          rw [h4, up, List.filter_append, e1, List.append_nil]
      rintro H4 ⟨g4, h4⟩
      rw [Int.toNat_natCast] at h4
      replace h4 : H4 D = some (.lst ((plcs us2 m).map V.int)) := h4
      have gA := g3.trans g4
      have hDk := back0 g3 hD
      have hhA := gA.up.hand (hd, c) rfl hh2
      walk_at "ws"
      exact ⟨us2, D2, D, ts2, _, _, _, rfl, ⟨hD20, back_s g02 hh2 hDk, ne_of_none hS hDk⟩, g02.trans gA.up, hhA, gA.all _ _ hS, tlS.keep gA.tups, h4, tr2⟩
  have p7 : (plcs us n).length ≤ 7 := by
    have e : ¬ (7 : Int) < ((plcs us n).length : Int) := of_decide_eq_false e
    omega
  have p1 := plcs_ne tr1
  have n1 := tr1.n1
  have nD : D ≠ hd := hh.ne hD0
  have nL : L ≠ hd := hh.ne hL0
  walk_at "ws"
  refine ⟨D, _, rfl, .inl (SqL.of h1D), ?_⟩
  rw [List.length_map]
  walk_at "ws"
  refine w_ifM (fun v H' => ∃ r : Int, v = .int r ∧ 0 ≤ r ∧ r ≤ 2 ∧ (r = 0 ∨ (plcs us n).length < 6) ∧ G (some (hd, c)) H1 H' ∧ Hand H' hd c) (fun N kN => ?_) ?_
  · refine w_ite (fun e => ?_) (fun e => ?_)
    · have e : ((plcs us n).length : Int) < 6 := of_decide_eq_true e
      walk_at "ws"
      exact ⟨hd, c, 3, rfl, hh1, by decide, by decide, fun z H2 z0 z1 g2 hh2 => kN _ _ ⟨z, rfl, z0, by omega, .inr (by omega), g2, hh2⟩⟩
    · walk_at "ws"
      exact kN _ _ ⟨0, rfl, by omega, by omega, .inl rfl, G.refl, hh1⟩
  rintro _ H2 ⟨r, rfl, r0, r2, r5, g2, hh2⟩
  have h2D := g2.keep D _ (fun p e => by cases e; exact nD) h1D
  have h2L := g2.keep L _ (fun p e => by cases e; exact nL) h1L
  have tl2 := tl1.keep g2.tups
  have g02 := g1.trans g2
  clear h1D h1L tl1 g1 g2 hh1
  walk_at "ws"
  refine i_rng1 (by omega) (by omega) ?_
  refine for_it walk_range (fun i σ H' => ∃ (ex : List Int) (u7 : Option V), σ = [some (.ref hd), some (.int (n : Int)), some (.ref L), u3, u4, u5, some (.ref D), u7, none, none, none] ∧ G (some (hd, c)) H H' ∧ Hand H' hd c ∧ H' L = some (.lst (ts.map V.ref)) ∧ TLs H' ts (us.map prI) ∧ H' D = some (.lst ((plcs us n ++ ex).map V.int)) ∧ ex.length = i ∧ ∀ x ∈ ex, 0 ≤ x ∧ x < (n : Int)) ⟨[], _, rfl, g02, hh2, h2L, tl2, by rw [List.append_nil]; exact h2D, rfl, (fun _ h => by cases h)⟩ (fun _ _ _ _ _ => trivial) ?_ ?_
  · rintro i _ σ _ H3 hi ⟨ex, u7, rfl, g3, hh3, h3L, tl3, h3D, lex, rex⟩ ⟨rfl, rfl⟩
    walk_at "ws"
    refine i_BM h3D ?_
    walk_at "ws"
    refine ⟨hd, c, (n : Int), rfl, hh3, by omega, by omega, fun z H4 z0 z1 g4 hh4 => ?_⟩
    walk_at "ws"
    have h4D := g4.keep D _ (fun p e => by cases e; exact nD) h3D
    have h4L := g4.keep L _ (fun p e => by cases e; exact nL) h3L
    refine r_app h4D (by rw [List.length_map, List.length_append]; omega) ?_
    walk_at "ws"
    have g5 := (g3.trans g4).mut (u := .lst ((plcs us n ++ ex).map V.int ++ [V.int z])) hD0 (fun p e => by cases e; exact hh)
    refine ⟨ex ++ [z], _, rfl, g5, g5.hand (hd, c) rfl hh, by rw [upd_ne nLD]; exact h4L, tl3.keep (g4.tups.trans (Ts.updl h4D)), by rw [upd_same, ← List.append_assoc, List.map_append (l₁ := plcs us n ++ ex)]; rfl, by rw [List.length_append, lex]; rfl, fun x hx => ?_⟩
    rcases List.mem_append.mp hx with q | q
    · exact rex x q
    · have e : x = z := by simpa using q
      rw [e]; exact ⟨z0, z1⟩
  rintro σ H3 ⟨ex, u7, rfl, g3, hh3, h3L, tl3, h3D, lex, rex⟩
  have sub : ∀ x ∈ plcs us n, x ∈ plcs us n ++ ex := fun x hx => List.mem_append_left _ hx
  have rng : ∀ x ∈ plcs us n ++ ex, 0 ≤ x ∧ x < (n : Int) := fun x hx => by
    rcases List.mem_append.mp hx with q | q
    · exact plcs_rng q
    · exact rex x q
  have q1 : 1 ≤ (plcs us n ++ ex).length := by rw [List.length_append]; omega
  have q7 : (plcs us n ++ ex).length ≤ 7 := by rw [List.length_append]; omega
  generalize plcs us n ++ ex = pl at sub rng q1 q7 h3D
  clear p1 p7 lp r5 r2 r0 h2D h2L tl2 g02 hh2 e lex rex
  walk_at "ws"
  refine w_lstRg (w_rg1 ?_)
  walk_at "ws"
  refine ⟨RgOk.of_le (by decide) (by omega) (by decide) (by omega), fun R H4 hR g4 h4 => ?_⟩
  have e1 : rgV 0 (n : Int) = (upto n).map V.int := by
    unfold rgV upto
    rw [List.map_map, Int.sub_zero, Int.toNat_natCast]
    refine List.map_congr_left fun i _ => ?_
    show V.int (0 + ((i : Nat) : Int)) = V.int ((i : Nat) : Int)
    rw [Int.zero_add]
  rw [e1] at h4
  have lu : (upto n).length = n := by unfold upto; rw [List.length_map, List.length_range]
  walk_at "ws"
  refine ⟨hd, c, R, upto n, rfl, (g4 none).up.hand (hd, c) rfl hh3, h4, by omega, fun NM nm H5 hNM g5 hh5 h5 pmn => ?_⟩
  have g35 := ((g4 (some (hd, c)))).trans g5
  have h5D := g5.keep D _ (fun p e => by cases e; exact nD) ((g4 none).all _ _ h3D)
  have h5L := g5.keep L _ (fun p e => by cases e; exact nL) ((g4 none).all _ _ h3L)
  have tl5 := tl3.keep g35.tups
  have g05 := g3.trans g35
  have nNM : NM ≠ hd := fun e => by
    obtain ⟨_, _, _, _, _, _, z, _⟩ := ((g4 none).up : G (some (hd, c)) H3 H4).hand (hd, c) rfl hh3
    rw [e, z] at hNM; cases hNM
  have lnm : nm.length = n := by rw [pmn.length_eq, lu]
  clear g4 g5 g35 h4 hR h3D h3L tl3 g3 hh3 hNM
  have nmA : ∀ k : Int, 0 ≤ k → k < n → atI (nm.map V.int) k = some (.int (nmf nm k)) := fun k k0 k1 => at_of (j := k.toNat) (by omega) (by rw [List.getElem?_map, nmf_at (by omega)]; rfl)
  walk_at "ws"
  refine i_list (SqL.of h5L) ?_
  intro D2 hD2
  refine lc_it (walk_list (xs := ts.map V.ref)) (fun i H' => ∃ ts2, G none H5 H' ∧ H' D2 = some (.lst (ts2.map V.ref)) ∧ TLs H' ts2 (((us.take i).map (ren (nmf nm))).map prI)) ⟨[], (G.refl).mut hD2 (fun _ e => nomatch e), upd_same, by rw [List.take_zero]; exact .nil⟩ (fun i H' _ ⟨_, g, _⟩ => sqL_n g (SqL.of h5L)) ?_ ?_
  · rintro i v _ H6 hi ⟨ts2, g6, h6, tl6⟩ ⟨rfl, hv⟩
    rw [List.length_map] at hi
    rw [List.getElem?_map] at hv
    obtain ⟨t, ht, rfl⟩ := Option.map_eq_some_iff.mp hv
    have lts := tl5.1
    rw [List.length_map] at lts
    have ltr := tr1.len
    obtain ⟨u, hu⟩ : ∃ u, us[i]? = some u := ⟨_, List.getElem?_eq_getElem (by omega)⟩
    have rt := g6.tups _ _ (tl5.2 i t (prI u) ht (by rw [List.getElem?_map, hu]; rfl))
    have tk : us.take (i + 1) = us.take i ++ [u] := by rw [List.take_add_one, hu]; rfl
    have ru := tr1.rng u (List.mem_of_getElem? hu)
    have l2 := tl6.1
    rw [List.length_map, List.length_map, List.length_take] at l2
    have h6N := g6.all _ _ h5
    refine ⟨t, [V.int u.1, V.int u.2], rfl, .inl rt, rfl, ?_⟩
    refine ⟨_, _, rfl, ?_⟩
    walk_at "ws"
    refine ⟨_, _, rfl, ?_⟩
    walk_at "ws"
    refine ⟨rfl, rfl, ?_⟩
    walk_at "ws"
    refine r_ixL (SqL.of h6N) (v := .int (nmf nm u.1)) (nmA u.1 (by omega) (by omega)) ?_
    walk_at "ws"
    refine r_ixL (SqL.of h6N) (v := .int (nmf nm u.2)) (nmA u.2 (by omega) (by omega)) ?_
    walk_at "ws"
    refine ⟨_, _, rfl, ?_⟩
    walk_at "ws"
    refine r_ixL (SqL.of h6N) (v := .int (nmf nm u.1)) (nmA u.1 (by omega) (by omega)) ?_
    walk_at "ws"
    refine r_ixL (SqL.of h6N) (v := .int (nmf nm u.2)) (nmA u.2 (by omega) (by omega)) ?_
    walk_at "ws"
    refine ⟨_, _, rfl, ?_⟩
    rw [min_if, max_if]
    walk_at "ws"
    refine ⟨sz (by simp), fun t2 H7 ht2 g7 h7 => ?_⟩
    have h7D := (g7 none).all _ _ h6
    refine ⟨ts2.map V.ref, h7D, Nat.lt_of_le_of_lt (by rw [List.length_map]; omega : (ts2.map V.ref).length ≤ 100) (by decide), ts2 ++ [t2], (g6.trans (g7 none)).mut hD2 (fun _ e => nomatch e), by rw [upd_same, List.map_append]; rfl, ?_⟩
    rw [tk, List.map_append, List.map_append]
    exact ((tl6.keep (g7 none).tups).app (L := prI (ren (nmf nm) u)) (.inl h7)).keep (Ts.updl h7D)
  rintro H6 ⟨ts2, g6, h6, tl6⟩
  have lts := tl5.1
  rw [List.length_map] at lts
  rw [List.length_map, List.take_of_length_le (by omega)] at tl6
  walk_at "ws"
  refine r_sortL h6 tl6 fun L2 ts3 Ls3 H7 hL2 g7 h7 tl7 pm7 srt => ?_
  obtain ⟨us2, rfl, pu2⟩ := prs_back pm7
  have g57 := g6.trans g7
  have hh7 := g57.up.hand (hd, c) rfl hh5
  walk_at "ws"
  refine ⟨L2, _, rfl, .inl ⟨SqL.of h7, fun T1 H8 hT1 g8 h8 => ?_⟩⟩
  have h8D := (g57.trans (g8 none)).all _ _ h5D
  have h8N := (g57.trans (g8 none)).all _ _ h5
  walk_at "ws"
  refine i_list (SqL.of h8D) ?_
  intro D3 hD3
  refine lc_it (walk_list (xs := pl.map V.int)) (fun i H' => G none H8 H' ∧ H' D3 = some (.lst (((pl.take i).map (nmf nm)).map V.int))) ⟨(G.refl).mut hD3 (fun _ e => nomatch e), upd_same⟩ (fun i H' _ g => sqL_n g.1 (SqL.of h8D)) ?_ ?_
  · rintro i v _ H9 hi ⟨g9, h9⟩ ⟨rfl, hv⟩
    rw [List.length_map] at hi
    rw [List.getElem?_map] at hv
    obtain ⟨z, hz, rfl⟩ := Option.map_eq_some_iff.mp hv
    have rz := rng z (List.mem_of_getElem? hz)
    have tk : pl.take (i + 1) = pl.take i ++ [z] := by rw [List.take_add_one, hz]; rfl
    walk_at "ws"
    refine ⟨rfl, ?_⟩
    walk_at "ws"
    refine r_ixL (SqL.of (g9.all _ _ h8N)) (v := .int (nmf nm z)) (nmA z rz.1 rz.2) ?_
    refine ⟨_, h9, Nat.lt_of_le_of_lt (by rw [List.length_map, List.length_map, List.length_take]; omega) (by decide : 100 < sizeLine), g9.mut hD3 (fun _ e => nomatch e), ?_⟩
    rw [upd_same, tk, List.map_append, List.map_append]; rfl
  rintro H9 ⟨g9, h9⟩
  rw [List.length_map, List.take_length] at h9
  have g79 := (g8 none).trans g9
  walk_at "ws"
  refine ⟨hd, c, D3, pl.map (nmf nm), rfl, g79.up.hand (hd, c) rfl hh7, h9, by rw [List.length_map]; omega, fun PP pl2 HA hPP gA hhA hA pmp => ?_⟩
  walk_at "ws"
  refine ⟨PP, _, rfl, .inl ⟨SqL.of hA, fun T2 HB hT2 gB hB => ?_⟩⟩
  walk_at "ws"
  refine ⟨sz (by simp), fun TT HC hTT gC hC => ?_⟩
  have gAC := (gB none).trans (gC none)
  have g7C := (g79.up.trans gA).trans gAC.up
  refine k TT T1 T2 us2 pl2 HC ((g05.trans g57.up).trans g7C) (gAC.up.hand (hd, c) rfl hhA) (.inl hC) ?_ ?_ (hall_drawn tr1 n9 pmn pu2 srt sub rng q1 q7 pmp)
  · exact (Ab.tup (.inl h8) ((ab_tlsW tl7).n (g8 none))).g ((g9.up.trans gA).trans gAC.up) OH.s
  · exact (Ab.tup (.inl hB) (ab_ints pl2)).n (gC none)

end
end Mine
/-! ## D1 -/


namespace Mine.Da
section
variable {P : Program} {w : World} {K : PySem.W.Frag} {mg : Str → Option Value} {base : Heap} {a : Ads}

theorem tyx_tup {H : Hp} {p : Addr} {xs : List V} (h : SqT K H p xs) : TyX K H (.ref p) (.type "tuple") := by
  rcases h with (h | ⟨o, h⟩) | ⟨o, its, n, h1, h2, _⟩
  · exact .base (.tup h)
  · exact .fTuple h
  · exact .kTuple h1 h2
theorem r_isi {x : V} {t : Value} {n : String} {b : Bool} {H : Hp} {Q : VK} (ty : TyX K H x t) (e : PySem.W.kitOne K t (.type n) = some b) (q : Q (.bl b) H) : rIsi K [x, .ty n] H Q := ⟨x, .ty n, t, .type n, b, rfl, .ty n, ty, e, q⟩
theorem ki_ii : PySem.W.kitOne K (.type "int") (.type "int") = some true := kit_ty (by decide +kernel)
theorem ki_ib : PySem.W.kitOne K (.type "int") (.type "bool") = some false := kit_ty (by decide +kernel)
theorem ki_bb : PySem.W.kitOne K (.type "bool") (.type "bool") = some true := kit_ty (by decide +kernel)
theorem ki_tt : PySem.W.kitOne K (.type "tuple") (.type "tuple") = some true := kit_ty (by decide +kernel)
theorem ki_tb : PySem.W.kitOne K (.type "tuple") (.type "bool") = some false := kit_ty (by decide +kernel)
theorem ki_it : PySem.W.kitOne K (.type "int") (.type "tuple") = some false := kit_ty (by decide +kernel)
theorem ty_int {H : Hp} {i : Int} : TyX K H (.int i) (.type "int") := .base (.int i)
theorem ty_bl {H : Hp} {i : Bool} : TyX K H (.bl i) (.type "bool") := .base (.bl i)
def sp_is_integer : Sp := fun vs H Q _ => ∃ i : Int, vs = [.int i] ∧ Q (.bl true) H
theorem ok_is_integer (T : Txt K mg a) : FnOk P w K mg base CX0 1 a.f_is_integer a.d_is_integer P_is_integer sp_is_integer := by
  refine T.F_is_integer.ok sc_is_integer (fun vs H Q E h => by obtain ⟨i, rfl, _⟩ := h; rfl) (fun cdv A outer s H vs Q E hr h => ?_)
  obtain ⟨i, rfl, k⟩ := h
  refine ⟨_, (pss_one (ps_ret (pe_and (pe_callB call_isi (by rfl) T.n_isinstance (by decide +kernel) (pa_cons (pv 0) (pa_cons (pe_bltn (v := .ty "int") (u := .type "int") rfl T.n_int (by decide +kernel) rfl) pa_nil))) (pe_one (pe_not (pe_callB call_isi (by rfl) T.n_isinstance (by decide +kernel) (pa_cons (pv 0) (pa_cons (pe_bltn (v := .ty "bool") (u := .type "bool") rfl T.n_bool (by decide +kernel) rfl) pa_nil)))))))), ?_⟩
  walk_at "ws"
  refine r_isi ty_int ki_ii ?_
  walk_at "ws"
  refine r_isi ty_int ki_ib ?_
  walk_at "ws"
  exact k

def sp_is_between : Sp := fun vs H Q _ => ∃ lo hi i : Int, vs = [.int lo, .int hi, .int i] ∧ Q (.bl (decide (lo ≤ i) && decide (i ≤ hi))) H
theorem ok_is_between (T : Txt K mg a) : FnOk P w K mg base CX0 2 a.f_is_between a.d_is_between P_is_between sp_is_between := by
  refine T.F_is_between.ok sc_is_between (fun vs H Q E h => by obtain ⟨lo, hi, i, rfl, _⟩ := h; rfl) (fun cdv A outer s H vs Q E hr h => ?_)
  obtain ⟨lo, hi, i, rfl, k⟩ := h
  have G_is_integer : FnOk P w K mg base CX0 1 a.f_is_integer a.d_is_integer P_is_integer sp_is_integer := ok_is_integer T
  refine ⟨_, (pss_one (ps_ret (pe_and (pe_call (G_is_integer) (hr.mono (by omega)) rfl T.m_is_integer T.F_is_integer.kp T.b_is_integer .nil pass0 (pa_cons (pv 2) pa_nil)) (pe_one (pe_chain op_le op_le (pv 0) (pv 2) (pv 1)))))), ?_⟩
  walk_at "ws"
  refine ⟨_, rfl, ?_⟩
  walk_at "ws"
  refine w_ite (fun e => ?_) (fun e => ?_)
  · walk_at "ws"
    rw [e] at k
    exact k
  · rw [e] at k
    exact k

def sp_is_below : Sp := fun vs H Q _ => ∃ b i : Int, vs = [.int b, .int i] ∧ Q (.bl (decide (0 ≤ i) && decide (i < b))) H
theorem ok_is_below (T : Txt K mg a) : FnOk P w K mg base CX0 3 a.f_is_below a.d_is_below P_is_below sp_is_below := by
  refine T.F_is_below.ok sc_is_below (fun vs H Q E h => by obtain ⟨b, i, rfl, _⟩ := h; rfl) (fun cdv A outer s H vs Q E hr h => ?_)
  obtain ⟨b, i, rfl, k⟩ := h
  have G_is_between : FnOk P w K mg base CX0 2 a.f_is_between a.d_is_between P_is_between sp_is_between := ok_is_between T
  refine ⟨_, (pss_one (ps_ret (pe_call (G_is_between) (hr.mono (by omega)) rfl T.m_is_between T.F_is_between.kp T.b_is_between .nil pass0 (pa_cons pe_int (pa_cons (pe_op op_sub (pv 0) pe_int) (pa_cons (pv 1) pa_nil)))))), ?_⟩
  walk_at "ws"
  refine ⟨_, _, _, rfl, ?_⟩
  have e : decide (i ≤ b - 1) = decide (i < b) := by simp only [decide_eq_decide]; omega
  rw [e]
  exact k

def sp_is_tuple_of (K : PySem.W.Frag) : Sp := fun vs H Q _ => ∃ (lo hi : Int) (p : Addr) (xs : List V), vs = [.int lo, .int hi, .ref p] ∧ SqT K H p xs ∧ Q (.bl (decide (lo ≤ xs.length) && decide ((xs.length : Int) ≤ hi))) H
theorem ok_is_tuple_of (T : Txt K mg a) : FnOk P w K mg base CX0 1 a.f_is_tuple_of a.d_is_tuple_of P_is_tuple_of (sp_is_tuple_of K) := by
  refine T.F_is_tuple_of.ok sc_is_tuple_of (fun vs H Q E h => by obtain ⟨lo, hi, p, xs, rfl, _⟩ := h; rfl) (fun cdv A outer s H vs Q E hr h => ?_)
  obtain ⟨lo, hi, p, xs, rfl, hx, k⟩ := h
  refine ⟨_, (pss_one (ps_ret (pe_and (pe_callB call_isi (by rfl) T.n_isinstance (by decide +kernel) (pa_cons (pv 2) (pa_cons (pe_bltn (v := .ty "tuple") (u := .type "tuple") rfl T.n_tuple (by decide +kernel) rfl) pa_nil))) (pe_one (pe_chain op_le op_le (pv 0) (pe_callB call_len_seq (by rfl) T.n_len (by decide +kernel) (pa_cons (pv 2) pa_nil)) (pv 1)))))), ?_⟩
  walk_at "ws"
  refine r_isi (tyx_tup hx) ki_tt ?_
  walk_at "ws"
  refine ⟨_, _, rfl, .inr hx, ?_⟩
  walk_at "ws"
  refine w_ite (fun e => ?_) (fun e => ?_)
  · walk_at "ws"
    rw [e] at k
    exact k
  · rw [e] at k
    exact k

end
end Mine.Da
/-! ## D2 -/


namespace Mine.Da
section
variable {P : Program} {w : World} {K : PySem.W.Frag} {mg : Str → Option Value} {base : Heap} {a : Ads}

/-! ### are_below, is_unlike_pair -/
def inB (b : Int) (n : Int) : Bool := decide (0 ≤ n) && decide (n < b)
def sp_are_below (K : PySem.W.Frag) : Sp := fun vs H Q _ => ∃ (b : Int) (p : Addr) (ns : List Int), vs = [.int b, .ref p] ∧ SqT K H p (ns.map V.int) ∧ ns.length ≤ 100000 ∧ ∀ H', G none H H' → Q (.bl (ns.all (inB b))) H'
theorem ok_are_below (T : Txt K mg a) : FnOk P w K mg base CX0 4 a.f_are_below a.d_are_below P_are_below (sp_are_below K) := by
  refine T.F_are_below.ok sc_are_below (fun vs H Q E h => by obtain ⟨b, p, ns, rfl, _⟩ := h; rfl) (fun cdv A outer s H vs Q E hr h => ?_)
  obtain ⟨b, p, ns, rfl, hx, hz, k⟩ := h
  have G_is_below : FnOk P w K mg base CX0 3 a.f_is_below a.d_is_below P_is_below sp_is_below := ok_is_below T
  refine ⟨_, (pss_one (ps_ret (pe_callB (cr_all rfl) (by rfl) T.n_all (by decide +kernel) (pa_cons (pe_lc (own := [("thing", 2)]) (g := (gName 2)) (tt := tYes) rfl sc_are_below.nd (pi_tup (pv 1)) (blkOk_by (N := N_are_below) (sc := defScope s_are_below) (by decide +kernel)) (fun _ _ _ _ _ => (pg_name (i := 2) sc_are_below.nd rfl (by first | exact Or.inl rfl | exact Or.inr rfl))) (fun _ _ _ _ _ => pts_nil) (fun _ _ _ _ _ => (pe_call (G_is_below) (hr.mono (by omega)) rfl T.m_is_below T.F_is_below.kp T.b_is_below .nil pass0 (pa_cons (pv 0) (pa_cons (pv 2) pa_nil))))) pa_nil)))), ?_⟩
  walk_at "ws"
  refine i_tup hx ?_
  intro D hD
  refine lc_pure (K := K) (o := none) walk_tup (by rw [List.length_map]; exact hz) hD (fun _ e => nomatch e) (fun i => ns[i]?.map fun n => .bool (inB b n)) (fun H' g => sqT_t g.tups hx) ?_ ?_
  · rintro i x H1 H2 hi g ⟨rfl, hx1⟩ Qy Qn ky kn
    obtain ⟨n, hn, rfl⟩ : ∃ n, ns[i]? = some n ∧ V.int n = x := by
      rw [List.getElem?_map] at hx1; exact Option.map_eq_some_iff.mp hx1
    walk_at "ws"
    refine ⟨rfl, ?_⟩
    walk_at "ws"
    refine ⟨_, _, rfl, ky _ _ _ G.refl (.bl _) rfl (by rw [hn]; rfl)⟩
  · intro xs H' g hD' hds _
    rw [List.length_map, filterMap_range_map] at hds
    have e : xs = (ns.map (inB b)).map V.bl := by
      clear hD' g
      generalize ns = l at hds
      induction l generalizing xs with
      | nil => cases hds; rfl
      | cons n l ih =>
        cases hds with
        | cons h t => cases h; rw [ih _ t]; rfl
    subst e
    walk_at "ws"
    refine ⟨D, ns.map (inB b), rfl, SqL.of hD', ?_⟩
    have e : (ns.map (inB b)).all id = ns.all (inB b) := by rw [List.all_map]; rfl
    rw [e]
    exact k _ g

end
end Mine.Da
/-! ## D3 -/


namespace Mine.Da
section
variable {P : Program} {w : World} {K : PySem.W.Frag} {mg : Str → Option Value} {base : Heap} {a : Ads}

/-! ### records -/
/-- a tuple of tuples of ints, each with its object known -/
def Dia (K : PySem.W.Frag) (H : Hp) (p : Addr) (ds : List (List Int)) : Prop := ∃ bs : List Addr, SqT K H p (bs.map V.ref) ∧ bs.length = ds.length ∧ ∀ (i : Nat) (b : Addr) (d : List Int), bs[i]? = some b → ds[i]? = some d → FrzT H b (d.map V.int)
theorem Dia.g {H H' : Hp} {p : Addr} {ds : List (List Int)} {o : Option (Addr × Addr)} (h : Dia K H p ds) (g : G o H H') (hh : ∀ q, o = some q → Hand H q.1 q.2) : Dia K H' p ds := by
  obtain ⟨bs, h1, h2, h3⟩ := h
  refine ⟨bs, sqT_t g.tups h1, h2, fun i b d e1 e2 => ?_⟩
  obtain ⟨ob, q1, q2⟩ := h3 i b d e1 e2
  refine ⟨ob, g.keep b _ (fun q e => ?_) q1, q2⟩
  obtain ⟨_, _, _, _, _, _, z, _⟩ := hh q e
  exact ne_of q1 z (by intro z; cases z)
theorem Dia.n {H H' : Hp} {p : Addr} {ds : List (List Int)} (h : Dia K H p ds) (g : G none H H') : Dia K H' p ds := h.g g fun _ e => nomatch e
theorem Dia.at_ {H : Hp} {p : Addr} {bs : List Addr} {ds : List (List Int)} (h2 : bs.length = ds.length) (h3 : ∀ (i : Nat) (b : Addr) (d : List Int), bs[i]? = some b → ds[i]? = some d → FrzT H b (d.map V.int)) {i : Nat} {x : V} (e : (bs.map V.ref)[i]? = some x) :
    ∃ b d, x = .ref b ∧ bs[i]? = some b ∧ ds[i]? = some d ∧ FrzT H b (d.map V.int) := by
  rw [List.getElem?_map] at e
  obtain ⟨b, hb, rfl⟩ := Option.map_eq_some_iff.mp e
  have hi := (List.getElem?_eq_some_iff.mp hb).1
  exact ⟨b, ds[i], rfl, hb, List.getElem?_eq_getElem (by omega), h3 i b _ hb (List.getElem?_eq_getElem (by omega))⟩
structure IsRec (ws : List Int) (ds : List (List Int)) : Prop where
  m1 : 1 ≤ ds.length
  m7 : ds.length ≤ 7
  p30 : ws.length ≤ 30
  wr : ∀ w ∈ ws, 0 ≤ w ∧ w < ds.length
  nd : ∀ d ∈ ds, d.Nodup
  rng : ∀ d ∈ ds, ∀ p ∈ d, 0 ≤ p ∧ p < ws.length
  own : ∀ (p : Nat) (w : Int) (d : List Int), ws[p]? = some w → ds[w.toNat]? = some d → (p : Int) ∈ d
theorem diary_len {n : Nat} {d : List Int} (nd : d.Nodup) (h : ∀ p ∈ d, 0 ≤ p ∧ p < (n : Int)) : d.length ≤ n := by
  have := List.Nodup.length_le_of_subset (l₂ := (List.range n).map fun (i : Nat) => (i : Int)) nd fun x hx => by
    have := h x hx
    exact List.mem_map.mpr ⟨x.toNat, List.mem_range.mpr (by omega), by omega⟩
  simpa using this
def sp_is_diary (K : PySem.W.Frag) : Sp := fun vs H Q _ => ∃ (n : Int) (p : Addr) (d : List Int), vs = [.int n, .ref p] ∧ SqT K H p (d.map V.int) ∧ (∀ x ∈ d, 0 ≤ x ∧ x < n) ∧ d.Nodup ∧ d.length ≤ 1000 ∧ ∀ H', G none H H' → Q (.bl true) H'
theorem ok_is_diary (T : Txt K mg a) : FnOk P w K mg base CX0 5 a.f_is_diary a.d_is_diary P_is_diary (sp_is_diary K) := by
  refine T.F_is_diary.ok sc_is_diary (fun vs H Q E h => by obtain ⟨n, p, d, rfl, _⟩ := h; rfl) (fun cdv A outer s H vs Q E hr h => ?_)
  obtain ⟨n, p, d, rfl, hp, hd, nd, hz, k⟩ := h
  have G_are_below : FnOk P w K mg base CX0 4 a.f_are_below a.d_are_below P_are_below (sp_are_below K) := ok_are_below T
  refine ⟨_, (pss_one (ps_ret (pe_and (pe_callB call_isi (by rfl) T.n_isinstance (by decide +kernel) (pa_cons (pv 1) (pa_cons (pe_bltn (v := .ty "tuple") (u := .type "tuple") rfl T.n_tuple (by decide +kernel) rfl) pa_nil))) (pe_and (pe_call (G_are_below) (hr.mono (by omega)) rfl T.m_are_below T.F_are_below.kp T.b_are_below .nil pass0 (pa_cons (pv 0) (pa_cons (pv 1) pa_nil))) (pe_one (pe_cmpR op_eq (pe_lenSetTI rfl (by rfl) T.n_len (by rfl) T.n_set (pv 1)) (pe_callB call_len_seq (by rfl) T.n_len (by decide +kernel) (pa_cons (pv 1) pa_nil)) (nomark _))))))), ?_⟩
  walk_at "ws"
  refine r_isi (tyx_tup hp) ki_tt ?_
  walk_at "ws"
  refine ⟨n, p, d, rfl, hp, by omega, fun H1 g1 => ?_⟩
  have e1 : d.all (inB n) = true := by
    rw [List.all_eq_true]
    intro x hx
    have := hd x hx
    simp only [inB, Bool.and_eq_true, decide_eq_true_eq]
    exact this
  rw [e1]
  walk_at "ws"
  refine ⟨.ref p, rfl, p, d, rfl, sqT_t g1.tups hp, hz, nd, ?_⟩
  walk_at "ws"
  refine ⟨p, _, rfl, .inr (sqT_t g1.tups hp), ?_⟩
  walk_at "ws"
  rw [List.length_map, decide_eq_true (rfl : (d.length : Int) = d.length)]
  exact k _ g1

def sp_check_record (K : PySem.W.Frag) : Sp := fun vs H Q _ => ∃ (wp dp : Addr) (ws : List Int) (ds : List (List Int)), vs = [.ref wp, .ref dp] ∧ SqT K H wp (ws.map V.int) ∧ Dia K H dp ds ∧ IsRec ws ds ∧ ∀ H', G none H H' → Q .non H'
theorem ok_check_record (T : Txt K mg a) : FnOk P w K mg base CX0 6 a.f_check_record a.d_check_record P_check_record (sp_check_record K) := by
  refine T.F_check_record.ok sc_check_record (fun vs H Q E h => by obtain ⟨wp, dp, ws, ds, rfl, _⟩ := h; rfl) (fun cdv A outer s H vs Q E hr h => ?_)
  obtain ⟨wp, dp, ws, ds, rfl, hw, hdia, rec, k⟩ := h
  have G_is_tuple_of : FnOk P w K mg base CX0 1 a.f_is_tuple_of a.d_is_tuple_of P_is_tuple_of (sp_is_tuple_of K) := ok_is_tuple_of T
  have G_is_below : FnOk P w K mg base CX0 3 a.f_is_below a.d_is_below P_is_below sp_is_below := ok_is_below T
  have G_is_diary : FnOk P w K mg base CX0 5 a.f_is_diary a.d_is_diary P_is_diary (sp_is_diary K) := ok_is_diary T
  obtain ⟨bs, hbs, lb, hb⟩ := hdia
  have m1 := rec.m1
  have m7 := rec.m7
  have p30 := rec.p30
  refine ⟨_, (pss_cons (ps_if (pt_not (pt_val (pe_call (G_is_tuple_of) (hr.mono (by omega)) rfl T.m_is_tuple_of T.F_is_tuple_of.kp T.b_is_tuple_of .nil pass0 (pa_cons pe_int (pa_cons (pe_glob (v := .int 7) rfl T.m_MOST_MACHINES ⟨_, rfl⟩) (pa_cons (pv 1) pa_nil))))))
    pss_never
    pss_nil)
  (pss_cons (ps_if (pt_not (pt_val (pe_call (G_is_tuple_of) (hr.mono (by omega)) rfl T.m_is_tuple_of T.F_is_tuple_of.kp T.b_is_tuple_of .nil pass0 (pa_cons pe_int (pa_cons (pe_glob (v := .int 30) rfl T.m_MOST_PUTS ⟨_, rfl⟩) (pa_cons (pv 0) pa_nil))))))
    pss_never
    pss_nil)
  (pss_cons (ps_for PassesOwn.never rfl (pi_enumT (by rfl) T.n_enumerate (pa_cons (pv 0) pa_nil)) (pg_tup rfl (pgs_cons (pg_name (i := 2) sc_check_record.nd rfl (Or.inl rfl)) (pgs_cons (pg_name (i := 3) sc_check_record.nd rfl (Or.inl rfl)) pgs_nil)))
    (pss_one (ps_if (pt_not (pt_val (pe_call (G_is_below) (hr.mono (by omega)) rfl T.m_is_below T.F_is_below.kp T.b_is_below .nil pass0 (pa_cons (pe_callB call_len_seq (by rfl) T.n_len (by decide +kernel) (pa_cons (pv 1) pa_nil)) (pa_cons (pv 3) pa_nil)))))
    pss_never
    pss_nil)))
  (pss_cons (ps_for PassesOwn.never rfl (pi_enumT (by rfl) T.n_enumerate (pa_cons (pv 1) pa_nil)) (pg_tup rfl (pgs_cons (pg_name (i := 4) sc_check_record.nd rfl (Or.inl rfl)) (pgs_cons (pg_name (i := 5) sc_check_record.nd rfl (Or.inl rfl)) pgs_nil)))
    (pss_one (ps_if (pt_not (pt_val (pe_call (G_is_diary) (hr.mono (by omega)) rfl T.m_is_diary T.F_is_diary.kp T.b_is_diary .nil pass0 (pa_cons (pe_callB call_len_seq (by rfl) T.n_len (by decide +kernel) (pa_cons (pv 0) pa_nil)) (pa_cons (pv 5) pa_nil)))))
    pss_never
    pss_nil)))
  (pss_one (ps_for PassesOwn.never rfl (pi_enumT (by rfl) T.n_enumerate (pa_cons (pv 0) pa_nil)) (pg_tup rfl (pgs_cons (pg_name (i := 2) sc_check_record.nd rfl (Or.inl rfl)) (pgs_cons (pg_name (i := 3) sc_check_record.nd rfl (Or.inl rfl)) pgs_nil)))
    (pss_one (ps_if (pt_cmpR op_notIn_seq (pv 2) (pe_ix ix_tup (pv 1) (pv 3) (fun _ _ => rfl)) (by rfl))
    pss_never
    pss_nil)))))))), ?_⟩
  walk_at "ws"
  refine ⟨1, 7, dp, _, rfl, hbs, ?_⟩
  have q1 : (1 : Int) ≤ (bs.length : Int) := by omega
  have q2 : (bs.length : Int) ≤ 7 := by omega
  rw [List.length_map, decide_eq_true q1, decide_eq_true q2, Bool.and_self]
  walk_at "ws"
  refine ⟨0, 30, wp, _, rfl, hw, ?_⟩
  have q3 : (0 : Int) ≤ (ws.length : Int) := by omega
  have q4 : (ws.length : Int) ≤ 30 := by omega
  rw [List.length_map, decide_eq_true q3, decide_eq_true q4, Bool.and_self]
  walk_at "ws"
  refine i_enum hw ?_
  refine for_it (walk_enumT (xs := ws.map V.int)) (fun i σ H1 => G none H H1 ∧ ∃ u2 u3 u4 u5, σ = [some (.ref wp), some (.ref dp), u2, u3, u4, u5]) ⟨G.refl, _, _, _, _, rfl⟩ (fun i σ H1 _ h => sqT_t h.1.tups hw) ?_ ?_
  · rintro i x σ H1 H2 hi ⟨g1, u2, u3, u4, u5, rfl⟩ ⟨t, y, z, rfl, ht, rfl, ey, ez⟩
    cases Option.some.inj ey
    have g2 : G none H1 (upd H1 t (.tup [.int (i : Nat), z])) := G.alloc ht
    refine ⟨t, _, rfl, SqT.of upd_same, rfl, ?_⟩
    refine ⟨_, _, rfl, ?_⟩
    walk_at "ws"
    refine ⟨_, _, rfl, ?_⟩
    walk_at "ws"
    refine ⟨rfl, ?_⟩
    generalize upd H1 t (.tup [.int (i : Nat), z]) = H2 at g2 ⊢
    have g02 := g1.trans g2
    have ez : (ws.map V.int)[i]? = some z := ez
    rw [List.getElem?_map] at ez
    obtain ⟨w0, hw0, rfl⟩ := Option.map_eq_some_iff.mp ez
    have wm := rec.wr w0 (List.mem_of_getElem? hw0)
    walk_at "ws"
    refine ⟨dp, _, rfl, .inr (sqT_t g02.tups hbs), ?_⟩
    walk_at "ws"
    rw [List.length_map]
    refine ⟨_, _, rfl, ?_⟩
    have q5 : w0 < (bs.length : Int) := by omega
    rw [decide_eq_true wm.1, decide_eq_true q5, Bool.and_self]
    walk_at "ws"
    exact ⟨g02, _, _, _, _, rfl⟩
  rintro σ H1 ⟨g1, u2, u3, u4, u5, rfl⟩
  walk_at "ws"
  refine i_enum (sqT_t g1.tups hbs) ?_
  refine for_it (walk_enumT (xs := bs.map V.ref)) (fun i σ H1 => G none H H1 ∧ ∃ u2 u3 u4 u5, σ = [some (.ref wp), some (.ref dp), u2, u3, u4, u5]) ⟨g1, _, _, _, _, rfl⟩ (fun i σ H1 _ h => sqT_t h.1.tups hbs) ?_ ?_
  · rintro i x σ H2 H3 hi ⟨g2, u2, u3, u4, u5, rfl⟩ ⟨t, y, z, rfl, ht, rfl, ey, ez⟩
    cases Option.some.inj ey
    have g3 : G none H2 (upd H2 t (.tup [.int (i : Nat), z])) := G.alloc ht
    refine ⟨t, _, rfl, SqT.of upd_same, rfl, ?_⟩
    refine ⟨_, _, rfl, ?_⟩
    walk_at "ws"
    refine ⟨_, _, rfl, ?_⟩
    walk_at "ws"
    refine ⟨rfl, ?_⟩
    generalize upd H2 t (.tup [.int (i : Nat), z]) = H3 at g3 ⊢
    have g03 := g2.trans g3
    obtain ⟨b, d, rfl, hbi, hdi, hf⟩ := Dia.at_ (p := dp) lb hb ez
    walk_at "ws"
    refine ⟨wp, _, rfl, .inr (sqT_t g03.tups hw), ?_⟩
    walk_at "ws"
    rw [List.length_map]
    have dm := List.mem_of_getElem? hdi
    refine ⟨_, b, d, rfl, (hf.n g03).sq, rec.rng d dm, rec.nd d dm, by have := diary_len (rec.nd d dm) (rec.rng d dm); omega, fun H4 g4 => ?_⟩
    walk_at "ws"
    exact ⟨g03.trans g4, _, _, _, _, rfl⟩
  rintro σ H2 ⟨g2, u2, u3, u4, u5, rfl⟩
  walk_at "ws"
  refine i_enum (sqT_t g2.tups hw) ?_
  refine for_it (walk_enumT (xs := ws.map V.int)) (fun i σ H1 => G none H H1 ∧ ∃ u2 u3 u4 u5, σ = [some (.ref wp), some (.ref dp), u2, u3, u4, u5]) ⟨g2, _, _, _, _, rfl⟩ (fun i σ H1 _ h => sqT_t h.1.tups hw) ?_ ?_
  · rintro i x σ H3 H4 hi ⟨g3, u2, u3, u4, u5, rfl⟩ ⟨t, y, z, rfl, ht, rfl, ey, ez⟩
    cases Option.some.inj ey
    have g4 : G none H3 (upd H3 t (.tup [.int (i : Nat), z])) := G.alloc ht
    refine ⟨t, _, rfl, SqT.of upd_same, rfl, ?_⟩
    refine ⟨_, _, rfl, ?_⟩
    walk_at "ws"
    refine ⟨_, _, rfl, ?_⟩
    walk_at "ws"
    refine ⟨rfl, ?_⟩
    generalize upd H3 t (.tup [.int (i : Nat), z]) = H4 at g4 ⊢
    have g04 := g3.trans g4
    have ez : (ws.map V.int)[i]? = some z := ez
    rw [List.getElem?_map] at ez
    obtain ⟨w0, hw0, rfl⟩ := Option.map_eq_some_iff.mp ez
    have wm := rec.wr w0 (List.mem_of_getElem? hw0)
    obtain ⟨b, hbw⟩ : ∃ b, bs[w0.toNat]? = some b := ⟨_, List.getElem?_eq_getElem (by omega)⟩
    obtain ⟨d, hdw⟩ : ∃ d, ds[w0.toNat]? = some d := ⟨_, List.getElem?_eq_getElem (by omega)⟩
    have hf := (hb _ _ _ hbw hdw).n g04
    walk_at "ws"
    refine r_ixT (sqT_t g04.tups hbs) (v := .ref b) (at_of (j := w0.toNat) (by omega) (by rw [List.getElem?_map, hbw]; rfl)) ?_
    walk_at "ws"
    refine ⟨b, _, rfl, .inr hf.sq, rfl, by rw [List.all_map, List.all_eq_true]; intro q _; rfl, ?_⟩
    have ein : inV (.int (i : Nat)) (d.map V.int) = true := by
      unfold inV
      rw [List.any_map, List.any_eq_true]
      exact ⟨_, rec.own i w0 d hw0 hdw, by simp [eqV]⟩
    rw [ein]
    walk_at "ws"
    exact ⟨g04, _, _, _, _, rfl⟩
  rintro σ H3 ⟨g3, u2, u3, u4, u5, rfl⟩
  exact k _ g3

end
end Mine.Da
/-! ## D4 -/


namespace Mine.Da
section
variable {P : Program} {w : World} {K : PySem.W.Frag} {mg : Str → Option Value} {base : Heap} {a : Ads}

/-! ### a record as an instance -/
theorem wd_ : ¬ (("writers" : Str) = "diaries") := by decide +kernel
theorem dw_ : ¬ (("diaries" : Str) = "writers") := by decide +kernel
def rf (w d : V) : List (Str × V) := [("writers", w), ("diaries", d)]
theorem rf_w (w d : V) : (rf w d).lookup ("writers" : Str) = some w := by simp [rf, List.lookup]
theorem rf_d (w d : V) : (rf w d).lookup ("diaries" : Str) = some d := by
  have e : (("diaries" : Str) == "writers") = false := by simpa using dw_
  simp [rf, List.lookup, e]
theorem rput0 (w : V) : putF "writers" w [] = [(("writers" : Str), w)] := rfl
theorem rput1 (w d : V) : putF "diaries" d [(("writers" : Str), w)] = rf w d := by
  show (if ("writers" : Str) = "diaries" then _ else (("writers" : Str), w) :: putF "diaries" d []) = _
  rw [if_neg wd_]; rfl
def RecAt (K : PySem.W.Frag) (C : Addr) (H : Hp) (x : Addr) (ws : List Int) (ds : List (List Int)) : Prop := ∃ (dx wp dp : Addr), H x = some (.ins C dx (rf (.ref wp) (.ref dp))) ∧ SqT K H wp (ws.map V.int) ∧ Dia K H dp ds
theorem RecAt.n {C x : Addr} {ws : List Int} {ds : List (List Int)} {H H' : Hp} (h : RecAt K C H x ws ds) (g : G none H H') : RecAt K C H' x ws ds := by
  obtain ⟨dx, wp, dp, h1, h2, h3⟩ := h
  exact ⟨dx, wp, dp, g.all x _ h1, sqT_t g.tups h2, h3.n g⟩
theorem r_fld {o : Addr} {C dx : Addr} {fs : List (Str × V)} {v : V} {f : Str} {H : Hp} {F : V → Prop} (e : H o = some (.ins C dx fs)) (c : Cls K C) (n : NoAttr K C f) (l : fs.lookup f = some v) (q : F v) :
    ∃ a C dx fs v, V.ref o = .ref a ∧ H a = some (.ins C dx fs) ∧ Cls K C ∧ NoAttr K C f ∧ fs.lookup f = some v ∧ F v := ⟨o, C, dx, fs, v, rfl, e, c, n, l, q⟩
theorem r_sfld {o : Addr} {C dx : Addr} {fs : List (Str × V)} {F : Hp → Prop} {f : Str} {y : V} {H : Hp} (e : H o = some (.ins C dx fs)) (c : Cls K C) (n : NoAttr K C f) (l : fs.length < 1000) (q : F (upd H o (.ins C dx (putF f y fs)))) :
    ∃ a C dx fs, V.ref o = .ref a ∧ H a = some (.ins C dx fs) ∧ Cls K C ∧ NoAttr K C f ∧ fs.length < 1000 ∧ F (upd H a (.ins C dx (putF f y fs))) := ⟨o, C, dx, fs, rfl, e, c, n, l, q⟩
theorem ts_updI {H : Hp} {x C dx : Addr} {fs : List (Str × V)} {u : HO} (h : H x = some (.ins C dx fs)) : Ts H (upd H x u) := fun a xs e => by
  rcases e with e | ⟨ob, e⟩
  · exact .inl (by rw [upd_ne (ne_of e h (by intro z; cases z))]; exact e)
  · exact .inr ⟨ob, by rw [upd_ne (ne_of e h (by intro z; cases z))]; exact e⟩
def sp_Record_init (K : PySem.W.Frag) (C : Addr) : Sp := fun vs H Q _ => ∃ (x dx wp dp : Addr) (ws : List Int) (ds : List (List Int)), vs = [.ref x, .ref wp, .ref dp] ∧ H x = some (.ins C dx []) ∧ SqT K H wp (ws.map V.int) ∧ Dia K H dp ds ∧ IsRec ws ds ∧
  ∀ H', (∀ b u, b ≠ x → H b = some u → H' b = some u) → H' x = some (.ins C dx (rf (.ref wp) (.ref dp))) → Q .non H'
theorem ok_Record_init (T : Txt K mg a) : FnOk P w K mg base CX0 7 a.f_Record_init a.d_Record_init P_Record_init (sp_Record_init K a.c_Record) := by
  refine T.F_Record_init.ok sc_Record_init (fun vs H Q E h => by obtain ⟨x, dx, wp, dp, ws, ds, rfl, _⟩ := h; rfl) (fun cdv A outer s H vs Q E hr h => ?_)
  obtain ⟨x, dx, wp, dp, ws, ds, rfl, hxi, hw, hd, rec, k⟩ := h
  have G_check_record : FnOk P w K mg base CX0 6 a.f_check_record a.d_check_record P_check_record (sp_check_record K) := ok_check_record T
  refine ⟨_, (pss_cons (ps_expr (pe_call (G_check_record) (hr.mono (by omega)) rfl T.m_check_record T.F_check_record.kp T.b_check_record .nil pass0 (pa_cons (pv 1) (pa_cons (pv 2) pa_nil))))
  (pss_cons (ps_fld (pv 0) (pv 1) rfl)
  (pss_one (ps_fld (pv 0) (pv 2) rfl)))), ?_⟩
  walk_at "ws"
  refine ⟨wp, dp, ws, ds, rfl, hw, hd, rec, fun H1 g1 => ?_⟩
  walk_at "ws"
  have h1 := g1.all _ _ hxi
  refine r_sfld h1 T.cl_Record T.na_Record_writers (by show 0 < 1000; decide) ?_
  walk_at "ws"
  refine r_sfld upd_same T.cl_Record T.na_Record_diaries (by rw [rput0]; show 1 < 1000; decide) ?_
  rw [rput0, rput1]
  refine k _ (fun b u n e => ?_) upd_same
  rw [upd_ne n, upd_ne n]; exact g1.all _ _ e

theorem rec_new {C : Addr} {H1 : Hp} {wp dp : Addr} {ws : List Int} {ds : List (List Int)} {F : Addr → Hp → Prop} {E : XK} (hw : SqT K H1 wp (ws.map V.int)) (hd : Dia K H1 dp ds) (rec : IsRec ws ds) (q : ∀ x H2, H1 x = none → (∀ o, G o H1 H2) → RecAt K C H2 x ws ds → F x H2) :
    ∀ x dx, H1 x = none → H1 dx = none → dx ≠ x → sp_Record_init K C (.ref x :: ([.ref wp, .ref dp] ++ [])) (upd (upd H1 dx (.own x)) x (.ins C dx [])) (fun v H2 => v = .non ∧ F x H2) E := by
  intro x dx hx hdx nex
  have hxi : (upd (upd H1 dx (.own x)) x (.ins C dx [])) x = some (.ins C dx []) := upd_same
  have k12 : ∀ a u, H1 a = some u → (upd (upd H1 dx (.own x)) x (.ins C dx [])) a = some u := fun a u e => by
    rw [upd_ne (ne_of_none e hx), upd_ne (ne_of_none e hdx)]; exact e
  have g12 : G none H1 (upd (upd H1 dx (.own x)) x (.ins C dx [])) := G.of_all k12
  refine ⟨x, dx, wp, dp, ws, ds, rfl, hxi, sqT_t g12.tups hw, hd.n g12, rec, fun H2 k2 h2 => ⟨rfl, ?_⟩⟩
  have g : ∀ o, G o H1 H2 := fun o => G.of_all fun a u e => k2 a u (ne_of_none e hx) (k12 a u e)
  exact q x H2 hx g ⟨dx, wp, dp, h2, sqT_t (g none).tups hw, hd.n (g none)⟩
theorem bools_told {H : Hp} {α : Type} {f : α → Bool} : ∀ {xs : List V} {l : List α}, DpAll K H xs (l.map fun z => PyData.bool (f z)) → xs = (l.map f).map V.bl
  | _, [], h => by cases h; rfl
  | _, z :: l, h => by
    cases h with
    | cons h t => cases h; rw [bools_told t]; rfl
def sp_is_whole (K : PySem.W.Frag) (C : Addr) : Sp := fun vs H Q _ => ∃ (x : Addr) (ws : List Int) (ds : List (List Int)), vs = [.ref x] ∧ RecAt K C H x ws ds ∧ ds.length ≤ 1000 ∧ ∀ H', G none H H' → Q (.bl (ds.all fun d => decide (d.length = ws.length))) H'

end
end Mine.Da
/-! ## D8 -/


namespace Mine.Da
section
variable {P : Program} {w : World} {K : PySem.W.Frag} {mg : Str → Option Value} {base : Heap} {a : Ads}

/-! ### webs, right ones -/
def okP (m : Int) (u : Int × Int) : Prop := (0 ≤ u.1 ∧ u.1 < m) ∧ (0 ≤ u.2 ∧ u.2 < m) ∧ u.1 ≠ u.2
def ltP (u v : Int × Int) : Prop := u.1 < v.1 ∨ (u.1 = v.1 ∧ u.2 < v.2)
structure IsWeb (m : Int) (ws : List (Int × Int)) : Prop where
  lo : 1 ≤ m
  hi : m ≤ 7
  mem : ∀ u ∈ ws, (0 ≤ u.1 ∧ u.1 < m) ∧ (0 ≤ u.2 ∧ u.2 < m) ∧ u.1 ≠ u.2
  asc : ws.Pairwise ltP
/-- pairs whose tuples are known -/
def TupAll (H : Hp) (bs : List Addr) (ws : List (Int × Int)) : Prop := bs.length = ws.length ∧ ∀ (i : Nat) (b : Addr) (u : Int × Int), bs[i]? = some b → ws[i]? = some u → H b = some (.tup [.int u.1, .int u.2])
theorem TupAll.g {H H' : Hp} {bs : List Addr} {ws : List (Int × Int)} {o : Option (Addr × Addr)} (h : TupAll H bs ws) (g : G o H H') (hh : ∀ q, o = some q → Hand H q.1 q.2) : TupAll H' bs ws := ⟨h.1, fun i b u e1 e2 => by
  have q1 := h.2 i b u e1 e2
  refine g.keep b _ (fun q e => ?_) q1
  obtain ⟨_, _, _, _, _, _, z, _⟩ := hh q e
  exact ne_of q1 z (by intro z; cases z)⟩
theorem TupAll.put {H : Hp} {bs : List Addr} {ws : List (Int × Int)} {l : Addr} {xs : List V} {u : HO} (h : TupAll H bs ws) (hl : H l = some (.lst xs)) : TupAll (upd H l u) bs ws := ⟨h.1, fun i b w e1 e2 => by
  have q1 := h.2 i b w e1 e2
  rw [upd_ne (ne_of q1 hl (by intro z; cases z))]
  exact q1⟩
theorem TupAll.app {H : Hp} {bs : List Addr} {ws : List (Int × Int)} {t : Addr} {u : Int × Int} (h : TupAll H bs ws) (ht : H t = some (.tup [.int u.1, .int u.2])) : TupAll H (bs ++ [t]) (ws ++ [u]) := ⟨by simp [h.1], fun i b w e1 e2 => by
  by_cases c : i < bs.length
  · rw [List.getElem?_append_left c] at e1
    rw [List.getElem?_append_left (by rw [← h.1]; exact c)] at e2
    exact h.2 i b w e1 e2
  · rw [List.getElem?_append_right (by omega)] at e1
    rw [List.getElem?_append_right (by rw [← h.1]; omega), ← h.1] at e2
    cases q : i - bs.length with
    | zero =>
      rw [q] at e1 e2
      simp at e1 e2
      subst e1 e2
      exact ht
    | succ j =>
      rw [q] at e1
      simp at e1⟩
theorem new_back {H0 H1 : Hp} {hd c l : Addr} (g : G (some (hd, c)) H0 H1) (x : Hand H1 hd c) (h : H1 l = none) : H0 l = none := by
  cases e : H0 l with
  | none => rfl
  | some u =>
    have n : l ≠ hd := x.ne h
    rw [g.keep l u (fun p e => by cases e; exact n) e] at h
    cases h
/-- some wires, all ahead of (y, x) -/
structure Part (m : Int) (ws : List (Int × Int)) (y x : Int) : Prop where
  mem : ∀ u ∈ ws, (0 ≤ u.1 ∧ u.1 < m) ∧ (0 ≤ u.2 ∧ u.2 < m) ∧ u.1 ≠ u.2
  asc : ws.Pairwise ltP
  lt : ∀ u ∈ ws, ltP u (y, x)
theorem Part.up {m y x y' x' : Int} {ws : List (Int × Int)} (h : Part m ws y x) (e : y < y' ∨ (y = y' ∧ x ≤ x')) : Part m ws y' x' := ⟨h.mem, h.asc, fun u hu => by
  have q := h.lt u hu
  simp only [ltP] at q ⊢
  omega⟩
theorem Part.app {m y x : Int} {ws : List (Int × Int)} (h : Part m ws y x) (h1 : 0 ≤ y ∧ y < m) (h2 : 0 ≤ x ∧ x < m) (h3 : y ≠ x) : Part m (ws ++ [(y, x)]) y (x + 1) := by
  refine ⟨fun u hu => ?_, ?_, fun u hu => ?_⟩
  · rcases List.mem_append.mp hu with z | z
    · exact h.mem u z
    · have : u = (y, x) := by simpa using z
      subst this; exact ⟨h1, h2, h3⟩
  · rw [List.pairwise_append]
    refine ⟨h.asc, List.pairwise_singleton _ _, fun u hu v hv => ?_⟩
    have : v = (y, x) := by simpa using hv
    subst this; exact h.lt u hu
  · rcases List.mem_append.mp hu with z | z
    · have q := h.lt u z
      simp only [ltP] at q ⊢
      omega
    · have e : u = (y, x) := by simpa using z
      rw [e]
      exact .inr ⟨rfl, by show x < x + 1; omega⟩
def sp_is_unlike_pair (K : PySem.W.Frag) : Sp := fun vs H Q _ => ∃ (b : Int) (p : Addr) (i j : Int), vs = [.int b, .ref p] ∧ SqT K H p [.int i, .int j] ∧ ∀ H', G none H H' → Q (.bl (inB b i && inB b j && !decide (i = j))) H'
theorem ok_is_unlike_pair (T : Txt K mg a) : FnOk P w K mg base CX0 5 a.f_is_unlike_pair a.d_is_unlike_pair P_is_unlike_pair (sp_is_unlike_pair K) := by
  refine T.F_is_unlike_pair.ok sc_is_unlike_pair (fun vs H Q E h => by obtain ⟨b, p, i, j, rfl, _⟩ := h; rfl) (fun cdv A outer s H vs Q E hr h => ?_)
  obtain ⟨b, p, i, j, rfl, hx, k⟩ := h
  have G_is_tuple_of : FnOk P w K mg base CX0 1 a.f_is_tuple_of a.d_is_tuple_of P_is_tuple_of (sp_is_tuple_of K) := ok_is_tuple_of T
  have G_are_below : FnOk P w K mg base CX0 4 a.f_are_below a.d_are_below P_are_below (sp_are_below K) := ok_are_below T
  refine ⟨_, (pss_one (ps_ret (pe_and (pe_call (G_is_tuple_of) (hr.mono (by omega)) rfl T.m_is_tuple_of T.F_is_tuple_of.kp T.b_is_tuple_of .nil pass0 (pa_cons pe_int (pa_cons pe_int (pa_cons (pv 1) pa_nil)))) (pe_and (pe_call (G_are_below) (hr.mono (by omega)) rfl T.m_are_below T.F_are_below.kp T.b_are_below .nil pass0 (pa_cons (pv 0) (pa_cons (pv 1) pa_nil))) (pe_one (pe_cmpR op_ne (pe_ix ix_tup (pv 1) pe_int (fun _ _ => rfl)) (pe_ix ix_tup (pv 1) pe_int (fun _ _ => rfl)) (nomark _))))))), ?_⟩
  walk_at "ws"
  refine ⟨_, _, _, _, rfl, hx, ?_⟩
  walk_at "ws"
  refine w_iteE rfl ?_
  walk_at "ws"
  refine ⟨b, p, [i, j], rfl, hx, (by show 2 ≤ 100000; decide), fun H1 g1 => ?_⟩
  have e1 : ([i, j] : List Int).all (inB b) = (inB b i && inB b j) := by simp
  rw [e1]
  walk_at "ws"
  refine w_ite (fun e => ?_) (fun e => ?_)
  · walk_at "ws"
    have hx1 := sqT_t g1.tups hx
    refine r_ixT hx1 (v := .int i) rfl ?_
    walk_at "ws"
    refine r_ixT hx1 (v := .int j) rfl ?_
    walk_at "ws"
    have k := k H1 g1
    rw [e] at k
    exact k
  · have k := k H1 g1
    rw [e] at k
    exact k

def sp_first_wrong_wire (K : PySem.W.Frag) : Sp := fun vs H Q _ => ∃ (m : Int) (p : Addr) (ws : List (Int × Int)), vs = [.int m, .ref p] ∧ Dp K H (.ref p) (dW ws) ∧ IsWeb m ws ∧ ∀ H', G none H H' → Q .non H'
theorem le_pair {i j k l : Int} : Ob.lexAt (fun n => decide (([i, j] : List Int).getD n 0 = ([k, l] : List Int).getD n 0)) (fun n => decide (([i, j] : List Int).getD n 0 ≤ ([k, l] : List Int).getD n 0)) (decide (([i, j] : List Int).length ≤ ([k, l] : List Int).length)) 0 (min ([i, j] : List Int).length ([k, l] : List Int).length) = decide (i < k ∨ (i = k ∧ j ≤ l)) := by
  show (if decide (i = k) = true then (if decide (j = l) = true then true else decide (j ≤ l)) else decide (i ≤ k)) = _
  by_cases h1 : i = k
  · subst h1
    by_cases h2 : j = l
    · subst h2; simp
    · simp [h2]
  · have e : decide (i ≤ k) = decide (i < k) := by simp only [decide_eq_decide]; omega
    simp [h1, e]
theorem ok_first_wrong_wire (T : Txt K mg a) : FnOk P w K mg base CX0 6 a.f_first_wrong_wire a.d_first_wrong_wire P_first_wrong_wire (sp_first_wrong_wire K) := by
  refine T.F_first_wrong_wire.ok sc_first_wrong_wire (fun vs H Q E h => by obtain ⟨m, p, ws, rfl, _⟩ := h; rfl) (fun cdv A outer s H vs Q E hr h => ?_)
  obtain ⟨m, p, ws, rfl, hx, hw, k⟩ := h
  have G_is_unlike_pair : FnOk P w K mg base CX0 5 a.f_is_unlike_pair a.d_is_unlike_pair P_is_unlike_pair (sp_is_unlike_pair K) := ok_is_unlike_pair T
  obtain ⟨p', xs, ep, hxs, hds⟩ := dp_tup hx
  cases ep
  refine ⟨_, (pss_cons (ps_for PassesOwn.never rfl (pi_enumT (by rfl) T.n_enumerate (pa_cons (pv 1) pa_nil)) (pg_tup rfl (pgs_cons (pg_name (i := 2) sc_first_wrong_wire.nd rfl (Or.inl rfl)) (pgs_cons (pg_name (i := 3) sc_first_wrong_wire.nd rfl (Or.inl rfl)) pgs_nil)))
    (pss_cons (ps_if (pt_not (pt_val (pe_call (G_is_unlike_pair) (hr.mono (by omega)) rfl T.m_is_unlike_pair T.F_is_unlike_pair.kp T.b_is_unlike_pair .nil pass0 (pa_cons (pv 0) (pa_cons (pv 3) pa_nil)))))
    (pss_one (ps_ret (pv 2)))
    pss_nil)
  (pss_one (ps_if (L2.PW.pt (pw_and (pt_cmpR op_gt (pv 2) pe_int (nomark _)) (pw_and1 (pt_cmpR (op_leT hr.units0) (pv 3) (pe_ix ix_tup (pv 1) (pe_op op_sub (pv 2) pe_int) (fun _ _ => rfl)) (nomark _)))))
    (pss_one (ps_ret (pv 2)))
    pss_nil))))
  (pss_one (ps_ret pe_non))), ?_⟩
  walk_at "ws"
  refine i_enum hxs ?_
  refine for_it (walk_enumT (xs := xs)) (fun i σ H1 => G none H H1 ∧ ∃ u v, σ = [some (.int m), some (.ref p), u, v]) ⟨G.refl, _, _, rfl⟩ (fun i σ H1 _ h => sqT_t h.1.tups hxs) ?_ ?_
  · rintro i x σ H1 H2 hi ⟨g1, u, v, rfl⟩ ⟨t, y, z, rfl, ht, rfl, ey, ez⟩
    cases Option.some.inj ey
    have g2 : G none H1 (upd H1 t (.tup [.int (i : Nat), z])) := G.alloc ht
    refine ⟨t, _, rfl, SqT.of upd_same, rfl, ?_⟩
    refine ⟨_, _, rfl, ?_⟩
    walk_at "ws"
    refine ⟨_, _, rfl, ?_⟩
    walk_at "ws"
    refine ⟨rfl, ?_⟩
    generalize upd H1 t (.tup [.int (i : Nat), z]) = H2 at g2 ⊢
    have g02 := g1.trans g2
    obtain ⟨d, hd, hz⟩ := DpAll.get hds ez
    rw [List.getElem?_map] at hd
    obtain ⟨w0, hw0, rfl⟩ := Option.map_eq_some_iff.mp hd
    obtain ⟨q, rfl, hq⟩ := dp_dP hz
    have hm := hw.mem w0 (List.mem_of_getElem? hw0)
    walk_at "ws"
    refine ⟨m, q, w0.1, w0.2, rfl, sqT_t g02.tups hq, fun H3 g3 => ?_⟩
    have g03 := g02.trans g3
    have e1 : (inB m w0.1 && inB m w0.2 && !decide (w0.1 = w0.2)) = true := by
      simp only [inB, Bool.and_eq_true, decide_eq_true_eq, Bool.not_eq_true', decide_eq_false_iff_not]
      omega
    rw [e1]
    walk_at "ws"
    refine w_ite (fun e => ?_) (fun e => ?_)
    · walk_at "ws"
      have hi0 : 0 < i := by simpa using e
      obtain ⟨v1, hv1⟩ : ∃ v1, xs[i - 1]? = some v1 := ⟨_, List.getElem?_eq_getElem (show i - 1 < xs.length by omega)⟩
      obtain ⟨d1, hd1, hz1⟩ := DpAll.get hds hv1
      rw [List.getElem?_map] at hd1
      obtain ⟨w1, hw1, rfl⟩ := Option.map_eq_some_iff.mp hd1
      obtain ⟨q1, rfl, hq1⟩ := dp_dP hz1
      have ei : ((i : Nat) : Int) - 1 = ((i - 1 : Nat) : Int) := by omega
      rw [ei]
      refine r_ixT (sqT_t g03.tups hxs) (atI_nat hv1) ?_
      refine ⟨q, q1, [w0.1, w0.2], [w1.1, w1.2], rfl, rfl, sqT_t g03.tups hq, sqT_t g03.tups hq1, ?_⟩
      rw [le_pair]
      walk_at "ws"
      have hlt : ltP w1 w0 := by
        obtain ⟨l1, e1⟩ := List.getElem?_eq_some_iff.mp hw1
        obtain ⟨l0, e0⟩ := List.getElem?_eq_some_iff.mp hw0
        have := List.pairwise_iff_getElem.mp hw.asc (i - 1) i l1 l0 (by omega)
        rw [e1, e0] at this
        exact this
      have e2 : decide (w0.1 < w1.1 ∨ w0.1 = w1.1 ∧ w0.2 ≤ w1.2) = false := by
        rw [decide_eq_false_iff_not]
        unfold ltP at hlt
        omega
      rw [e2]
      walk_at "ws"
      exact ⟨g03, _, _, rfl⟩
    · walk_at "ws"
      exact ⟨g03, _, _, rfl⟩
  · rintro σ H1 ⟨g1, u, v, rfl⟩
    walk_at "ws"
    exact k _ g1

/-! ### a web as an instance -/
theorem mw_ : ¬ (("machines" : Str) = "wires") := by decide +kernel
theorem wm_ : ¬ (("wires" : Str) = "machines") := by decide +kernel
def wf (m wa : V) : List (Str × V) := [("machines", m), ("wires", wa)]
theorem wf_m (m wa : V) : (wf m wa).lookup ("machines" : Str) = some m := by simp [wf, List.lookup]
theorem wf_w (m wa : V) : (wf m wa).lookup ("wires" : Str) = some wa := by
  have e : (("wires" : Str) == "machines") = false := by simpa using wm_
  simp [wf, List.lookup, e]
theorem put0 (m : V) : putF "machines" m [] = [(("machines" : Str), m)] := rfl
theorem put1 (m wa : V) : putF "wires" wa [(("machines" : Str), m)] = wf m wa := by
  show (if ("machines" : Str) = "wires" then _ else (("machines" : Str), m) :: putF "wires" wa []) = _
  rw [if_neg mw_]; rfl
theorem put_m (m n wa : V) : putF "machines" n (wf m wa) = wf n wa := by
  show (if ("machines" : Str) = "machines" then (("machines" : Str), n) :: [(("wires" : Str), wa)] else _) = _
  rw [if_pos rfl]; rfl
theorem put_w (m wa wb : V) : putF "wires" wb (wf m wa) = wf m wb := by
  show (if ("machines" : Str) = "wires" then _ else (("machines" : Str), m) :: (if ("wires" : Str) = "wires" then (("wires" : Str), wb) :: [] else _)) = _
  rw [if_neg mw_, if_pos rfl]; rfl
/-- a web stands at x -/
def WebAt (K : PySem.W.Frag) (C : Addr) (H : Hp) (x : Addr) (m : Int) (ws : List (Int × Int)) : Prop := ∃ (dx wa : Addr), H x = some (.ins C dx (wf (.int m) (.ref wa))) ∧ Dp K H (.ref wa) (dW ws)
theorem WebAt.g {C x hd c : Addr} {m : Int} {ws : List (Int × Int)} {H H' : Hp} (h : WebAt K C H x m ws) (g : G (some (hd, c)) H H') (hh : Hand H hd c) : WebAt K C H' x m ws := by
  obtain ⟨dx, wa, h1, h2⟩ := h
  exact ⟨dx, wa, g.keep x _ (off_ins hh h1) h1, dp_t g.tups _ _ (nl_dW ws) h2⟩
theorem WebAt.n {C x : Addr} {m : Int} {ws : List (Int × Int)} {H H' : Hp} (h : WebAt K C H x m ws) (g : G none H H') : WebAt K C H' x m ws := by
  obtain ⟨dx, wa, h1, h2⟩ := h
  exact ⟨dx, wa, g.all x _ h1, dp_t g.tups _ _ (nl_dW ws) h2⟩
def sp_Web_init (K : PySem.W.Frag) (C : Addr) : Sp := fun vs H Q _ => ∃ (x dx : Addr) (m : Int) (p : Addr) (ws : List (Int × Int)), vs = [.ref x, .int m, .ref p] ∧ H x = some (.ins C dx []) ∧ Dp K H (.ref p) (dW ws) ∧ IsWeb m ws ∧
  ∀ H', (∀ b u, b ≠ x → H b = some u → H' b = some u) → Ts H H' → H' x = some (.ins C dx (wf (.int m) (.ref p))) → Q .non H'
theorem ok_Web_init (T : Txt K mg a) : FnOk P w K mg base CX0 7 a.f_Web_init a.d_Web_init P_Web_init (sp_Web_init K a.c_Web) := by
  refine T.F_Web_init.ok sc_Web_init (fun vs H Q E h => by obtain ⟨x, dx, m, p, ws, rfl, _⟩ := h; rfl) (fun cdv A outer s H vs Q E hr h => ?_)
  obtain ⟨x, dx, m, p, ws, rfl, hxi, hx, hw, k⟩ := h
  have G_is_between : FnOk P w K mg base CX0 2 a.f_is_between a.d_is_between P_is_between sp_is_between := ok_is_between T
  have G_first_wrong_wire : FnOk P w K mg base CX0 6 a.f_first_wrong_wire a.d_first_wrong_wire P_first_wrong_wire (sp_first_wrong_wire K) := ok_first_wrong_wire T
  obtain ⟨p', xs, ep, hxs, hds⟩ := dp_tup hx
  cases ep
  refine ⟨_, (pss_cons (ps_if (pt_not (pt_val (pe_call (G_is_between) (hr.mono (by omega)) rfl T.m_is_between T.F_is_between.kp T.b_is_between .nil pass0 (pa_cons pe_int (pa_cons (pe_glob (v := .int 7) rfl T.m_MOST_MACHINES ⟨_, rfl⟩) (pa_cons (pv 1) pa_nil))))))
    pss_never
    pss_nil)
  (pss_cons (ps_if (pt_not (pt_val (pe_callB call_isi (by rfl) T.n_isinstance (by decide +kernel) (pa_cons (pv 2) (pa_cons (pe_bltn (v := .ty "tuple") (u := .type "tuple") rfl T.n_tuple (by decide +kernel) rfl) pa_nil)))))
    pss_never
    pss_nil)
  (pss_cons (ps_set (i := 3) sc_Web_init.nd rfl (Or.inl rfl) (pe_call (G_first_wrong_wire) (hr.mono (by omega)) rfl T.m_first_wrong_wire T.F_first_wrong_wire.kp T.b_first_wrong_wire .nil pass0 (pa_cons (pv 1) (pa_cons (pv 2) pa_nil))))
  (pss_cons (ps_if (pt_cmp (pc_notN (pv 3)))
    pss_never
    pss_nil)
  (pss_cons (ps_fld (pv 0) (pv 1) rfl)
  (pss_one (ps_fld (pv 0) (pv 2) rfl))))))), ?_⟩
  walk_at "ws"
  refine ⟨_, _, _, rfl, ?_⟩
  have e1 : (decide ((1 : Int) ≤ m) && decide (m ≤ 7)) = true := by
    have := hw.lo
    have := hw.hi
    simp; omega
  rw [e1]
  walk_at "ws"
  refine r_isi (tyx_tup hxs) ki_tt ?_
  walk_at "ws"
  refine ⟨m, p, ws, rfl, hx, hw, fun H1 g1 => ?_⟩
  walk_at "ws"
  refine w_iteN (by decide) ?_
  walk_at "ws"
  have h1 := g1.all _ _ hxi
  refine r_sfld h1 T.cl_Web T.na_Web_machines (by show 0 < 1000; decide) ?_
  walk_at "ws"
  refine r_sfld upd_same T.cl_Web T.na_Web_wires (by rw [put0]; show 1 < 1000; decide) ?_
  rw [put0, put1]
  refine k _ (fun b u n e => ?_) ?_ upd_same
  · rw [upd_ne n, upd_ne n]; exact g1.all _ _ e
  · exact (g1.tups.trans (ts_updI h1)).trans (ts_updI upd_same)

theorem web_new {C : Addr} {H1 : Hp} {m : Int} {p : Addr} {ws : List (Int × Int)} {F : Addr → Hp → Prop} {E : XK} (hd : Dp K H1 (.ref p) (dW ws)) (hw : IsWeb m ws) (q : ∀ x H2, H1 x = none → (∀ o, G o H1 H2) → WebAt K C H2 x m ws → F x H2) :
    ∀ x dx, H1 x = none → H1 dx = none → dx ≠ x → sp_Web_init K C (.ref x :: ([.int m, .ref p] ++ [])) (upd (upd H1 dx (.own x)) x (.ins C dx [])) (fun v H2 => v = .non ∧ F x H2) E := by
  intro x dx hx hdx nex
  have hxi : (upd (upd H1 dx (.own x)) x (.ins C dx [])) x = some (.ins C dx []) := upd_same
  have k12 : ∀ a u, H1 a = some u → (upd (upd H1 dx (.own x)) x (.ins C dx [])) a = some u := fun a u e => by
    rw [upd_ne (ne_of_none e hx), upd_ne (ne_of_none e hdx)]; exact e
  have t12 : Ts H1 (upd (upd H1 dx (.own x)) x (.ins C dx [])) := (G.of_all (o := none) k12).tups
  refine ⟨x, dx, m, p, ws, rfl, hxi, dp_t t12 _ _ (nl_dW ws) hd, hw, fun H2 k2 t2 h2 => ⟨rfl, ?_⟩⟩
  exact q x H2 hx (fun _ => G.of_all fun a u e => k2 a u (ne_of_none e hx) (k12 a u e)) ⟨dx, p, h2, dp_t (t12.trans t2) _ _ (nl_dW ws) hd⟩


theorem tupAll_dp {H : Hp} {p : Addr} : ∀ {bs : List Addr} {ws : List (Int × Int)}, TupAll H bs ws → DpAll K H (bs.map V.ref) (ws.map dP)
  | [], [], _ => .nil
  | b :: bs, u :: ws, h => .cons (dp_ofP (SqT.of (h.2 0 b u rfl rfl))) (tupAll_dp (p := p) ⟨by simpa using h.1, fun i b u e1 e2 => h.2 (i + 1) b u (by simpa using e1) (by simpa using e2)⟩)
  | [], _ :: _, h => by simp [TupAll] at h
  | _ :: _, [], h => by simp [TupAll] at h

end
end Mine.Da
/-! ## TX -/
end
namespace Mine
open PySem PySem.Spec PyProof.Rows L2 TL
/-! ### texts of numbers, lines of them -/
def sI (i : Int) : PySem.Str := PySem.Str.ofString (toString i)
def Small (ns : List Int) : Prop := ∀ n ∈ ns, 0 ≤ n ∧ n < 1000
theorem sI_tl {n : Nat} : tl (sI (n : Int)) = numL n := tl_num n
theorem sI_mk {n : Nat} : sI (n : Int) = ⟨(numL n).toArray⟩ := ext_tl (by rw [sI_tl])
theorem num_all : ∀ n, n < 1000 → ((1 ≤ (numL n).length ∧ (numL n).length ≤ 3) ∧ PySem.Txt.isascii ⟨(numL n).toArray⟩ = true ∧ PySem.Txt.isdigit ⟨(numL n).toArray⟩ = true ∧ (n ≠ 0 → (numL n)[0]? ≠ some 48)) := by
  decide +kernel
theorem sI_facts {n : Int} (h : 0 ≤ n ∧ n < 1000) : (1 ≤ (sI n).length ∧ (sI n).length ≤ 3) ∧ PySem.Txt.isascii (sI n) = true ∧ PySem.Txt.isdigit (sI n) = true ∧ PySem.intText? (sI n) = some n ∧ (∃ c, (tl (sI n))[0]? = some c ∧ (n ≠ 0 → c ≠ 48)) ∧ (n = 0 ↔ sI n = "0") := by
  obtain ⟨m, rfl⟩ : ∃ m : Nat, n = (m : Int) := ⟨n.toNat, by omega⟩
  have hm : m < 1000 := by omega
  obtain ⟨⟨h1, h2⟩, h3, h4, h5⟩ := num_all m hm
  have hl : (sI (m : Int)).length = (numL m).length := by rw [len_tl, sI_tl]
  refine ⟨⟨by rw [hl]; exact h1, by rw [hl]; exact h2⟩, by rw [sI_mk]; exact h3, by rw [sI_mk]; exact h4, int_num (by omega), ?_, ?_⟩
  · rw [sI_tl]
    refine ⟨(numL m)[0], List.getElem?_eq_getElem (by omega), fun nz e => ?_⟩
    refine h5 (by omega) ?_
    rw [List.getElem?_eq_getElem (by omega), e]
  · constructor
    · intro e
      have e : m = 0 := by omega
      subst e
      rfl
    · intro e
      have q := congrArg tl e
      rw [sI_tl] at q
      have z : numL m = numL 0 := q.trans (by rw [← sI_tl]; rfl)
      have := numL_inj z
      omega
theorem sI_free {n : Int} (h : 0 ≤ n) {s : Nat} (hs : s < 48 ∨ 57 < s) : s ∉ tl (sI n) := by
  obtain ⟨m, rfl⟩ : ∃ m : Nat, n = (m : Int) := ⟨n.toNat, by omega⟩
  rw [sI_tl]
  exact numL_free hs
theorem sI_log {n : Int} (h : 0 ≤ n ∧ n < 1000) : n.natAbs.log2 < 1920 := by
  have := Nat.log2_le_self n.natAbs
  omega
/-- a line without its end -/
def lineB (w : PySem.Str) (ns : List Int) : PySem.Str := PySem.Txt.join " " (w :: ns.map sI)
def lineS (w : PySem.Str) (ns : List Int) : PySem.Str := lineB w ns ++ ("\n" : PySem.Str)
def textS (h : PySem.Str) (ns : List Int) (w : PySem.Str) (rows : List (List Int)) : PySem.Str := lineS h ns ++ PySem.Txt.join "" (rows.map (lineS w))
theorem tl_nl : tl ("\n" : PySem.Str) = [10] := by decide +kernel
theorem tl_sp : tl (" " : PySem.Str) = [32] := by decide +kernel
theorem tl_no : tl ("" : PySem.Str) = [] := by decide +kernel
theorem tl_join' (y : PySem.Str) (ps : List PySem.Str) : tl (PySem.Txt.join y ps) = joinL (tl y) (ps.map tl) := by rw [join_eq, tl_join]
theorem joinL_mem {S : List Nat} {s : Nat} (hS : s ∉ S) : ∀ {ps : List (List Nat)}, (∀ p ∈ ps, s ∉ p) → s ∉ joinL S ps
  | [], _ => by simp [joinL]
  | [p], h => h p (by simp)
  | p :: q :: r, h => by
    show s ∉ p ++ (S ++ joinL S (q :: r))
    have h1 := h p (by simp)
    have h2 := joinL_mem hS (ps := q :: r) fun z hz => h z (List.mem_cons_of_mem _ hz)
    simp only [List.mem_append, not_or]
    exact ⟨h1, hS, h2⟩
theorem lineB_no {w : PySem.Str} {ns : List Int} (hw : 10 ∉ tl w) (hs : Small ns) : 10 ∉ tl (lineB w ns) := by
  unfold lineB
  rw [tl_join', tl_sp]
  refine joinL_mem (by simp) fun p hp => ?_
  obtain ⟨z, hz, rfl⟩ := List.mem_map.mp hp
  rcases List.mem_cons.mp hz with rfl | hz
  · exact hw
  · obtain ⟨n, hn, rfl⟩ := List.mem_map.mp hz
    exact sI_free (hs n hn).1 (.inl (by decide))
/-- a line's words -/
theorem words_of {w : PySem.Str} {ns : List Int} (hw : 32 ∉ tl w) (hs : Small ns) : PySem.Txt.split (lineB w ns) " " = w :: ns.map sI := by
  refine split_join (s := 32) (S := []) tl_sp (by decide +kernel) (by simp) fun p hp => ?_
  rcases List.mem_cons.mp hp with rfl | hp
  · exact hw
  · obtain ⟨n, hn, rfl⟩ := List.mem_map.mp hp
    exact sI_free (hs n hn).1 (.inl (by decide))
theorem joinL_no : ∀ ps : List (List Nat), joinL [] ps = ps.flatten
  | [] => rfl
  | [p] => by simp [joinL]
  | p :: q :: r => by
    show p ++ ([] ++ joinL [] (q :: r)) = _
    rw [joinL_no (q :: r)]
    simp
theorem joinL_nl : ∀ ps : List (List Nat), joinL [10] (ps ++ [[]]) = (ps.map (· ++ [10])).flatten
  | [] => rfl
  | [p] => by simp [joinL]
  | p :: q :: r => by
    show p ++ ([10] ++ joinL [10] (q :: r ++ [[]])) = _
    rw [joinL_nl (q :: r)]
    simp
/-- the lines of a text -/
def linesOf (h : PySem.Str) (ns : List Int) (w : PySem.Str) (rows : List (List Int)) : List PySem.Str := lineB h ns :: rows.map (lineB w)
theorem text_join (h : PySem.Str) (ns : List Int) (w : PySem.Str) (rows : List (List Int)) : textS h ns w rows = PySem.Txt.join "\n" (linesOf h ns w rows ++ [("" : PySem.Str)]) := by
  apply ext_tl
  unfold textS linesOf
  rw [tl_append, tl_join', tl_join', tl_no, joinL_no, tl_nl, List.map_append]
  show _ = joinL [10] ((lineB h ns :: rows.map (lineB w)).map tl ++ [tl ""])
  rw [tl_no, joinL_nl, List.map_map, List.map_cons, List.map_cons, List.map_map, List.flatten_cons, List.map_map]
  have e : ∀ w ns, tl (lineS w ns) = tl (lineB w ns) ++ [10] := fun w ns => by unfold lineS; rw [tl_append, tl_nl]
  rw [e]
  congr 2
  apply List.map_congr_left
  intro r _
  exact e w r
theorem lines_of {h : PySem.Str} {ns : List Int} {w : PySem.Str} {rows : List (List Int)} (hh : 10 ∉ tl h) (hw : 10 ∉ tl w) (hs : Small ns) (hr : ∀ r ∈ rows, Small r) : PySem.Txt.split (textS h ns w rows) "\n" = linesOf h ns w rows ++ [("" : PySem.Str)] := by
  rw [text_join]
  refine split_join (s := 10) (S := []) tl_nl (by decide +kernel) (by simp) fun p hp => ?_
  rcases List.mem_append.mp hp with hp | hp
  · rcases List.mem_cons.mp hp with rfl | hp
    · exact lineB_no hh hs
    · obtain ⟨r, hr', rfl⟩ := List.mem_map.mp hp
      exact lineB_no hw (hr r hr')
  · rw [List.mem_singleton.mp hp, tl_no]
    simp
/-! ### lengths -/
theorem joinL_len (S : List Nat) : ∀ ps : List (List Nat), (joinL S ps).length ≤ (ps.map List.length).sum + ps.length * S.length
  | [] => by simp [joinL]
  | [p] => by simp [joinL]
  | p :: q :: r => by
    show (p ++ (S ++ joinL S (q :: r))).length ≤ _
    have := joinL_len S (q :: r)
    rw [List.length_append, List.length_append, List.map_cons, List.sum_cons, List.length_cons (a := p), Nat.succ_mul]
    omega
theorem sum_le {l : List Nat} {b : Nat} (h : ∀ x ∈ l, x ≤ b) : l.sum ≤ l.length * b := by
  induction l with
  | nil => simp
  | cons x l ih =>
    have h1 := h x (by simp)
    have h2 := ih fun y hy => h y (by simp [hy])
    rw [List.sum_cons, List.length_cons, Nat.succ_mul]
    omega
theorem line_len {w : PySem.Str} {ns : List Int} (hw : w.length ≤ 8) (hs : Small ns) (h40 : ns.length ≤ 40) : (lineB w ns).length ≤ 400 ∧ (((w :: ns.map sI).map (·.length)).sum ≤ 328) := by
  have s1 : ((w :: ns.map sI).map (·.length)).sum ≤ 328 := by
    refine Nat.le_trans (sum_le (b := 8) fun x hx => ?_) (by rw [List.length_map, List.length_cons, List.length_map]; omega)
    obtain ⟨z, hz, rfl⟩ := List.mem_map.mp hx
    rcases List.mem_cons.mp hz with rfl | hz
    · exact hw
    · obtain ⟨n, hn, rfl⟩ := List.mem_map.mp hz
      have := (sI_facts (hs n hn)).1.2
      omega
  refine ⟨?_, s1⟩
  unfold lineB
  rw [len_tl, tl_join', tl_sp]
  have := joinL_len [32] ((w :: ns.map sI).map tl)
  rw [List.length_map, List.map_map] at this
  have e : (w :: ns.map sI).map (List.length ∘ tl) = (w :: ns.map sI).map (·.length) := List.map_congr_left fun x _ => (len_tl x).symm
  rw [e, List.length_cons, List.length_map] at this
  simp only [List.length_singleton] at this
  omega
theorem lineS_len {w : PySem.Str} {ns : List Int} (hw : w.length ≤ 8) (hs : Small ns) (h40 : ns.length ≤ 40) : (lineS w ns).length ≤ 401 := by
  unfold lineS
  have := (line_len hw hs h40).1
  rw [len_tl, tl_append, tl_nl, List.length_append, ← len_tl]
  simp only [List.length_singleton]
  omega
theorem rows_len {w : PySem.Str} {rows : List (List Int)} (hw : w.length ≤ 8) (hr : ∀ r ∈ rows, Small r ∧ r.length ≤ 40) (h50 : rows.length ≤ 50) : ((rows.map (lineS w)).map (·.length)).sum ≤ 20050 := by
  refine Nat.le_trans (sum_le (b := 401) fun x hx => ?_) (by rw [List.length_map, List.length_map]; omega)
  obtain ⟨z, hz, rfl⟩ := List.mem_map.mp hx
  obtain ⟨r, h, rfl⟩ := List.mem_map.mp hz
  exact lineS_len hw (hr r h).1 (hr r h).2
theorem text_len {h : PySem.Str} {ns : List Int} {w : PySem.Str} {rows : List (List Int)} (hh : h.length ≤ 8) (hs : Small ns) (h40 : ns.length ≤ 40) (hw : w.length ≤ 8) (hr : ∀ r ∈ rows, Small r ∧ r.length ≤ 40) (h50 : rows.length ≤ 50) : (textS h ns w rows).length ≤ 20451 ∧ (PySem.Txt.join "" (rows.map (lineS w))).length ≤ 20050 := by
  have a := lineS_len hh hs h40
  have b := rows_len hw hr h50
  have c : (PySem.Txt.join "" (rows.map (lineS w))).length ≤ 20050 := by
    rw [len_tl, tl_join', tl_no]
    generalize rows.map (lineS w) = xs at b ⊢
    have := joinL_len [] (xs.map tl)
    rw [List.map_map] at this
    have e : xs.map (List.length ∘ tl) = xs.map (·.length) := List.map_congr_left fun x _ => (len_tl x).symm
    rw [e] at this
    simp only [List.length_nil, Nat.mul_zero] at this
    omega
  refine ⟨?_, c⟩
  unfold textS
  rw [len_tl, tl_append, List.length_append, ← len_tl, ← len_tl]
  omega
end Mine
/-! ## K31 -/
section
open PySem L2 GA
local macro_rules
  | `(tactic| walk_at "w") => `(tactic| first
    | ((with_reducible refine' GA.w_var ?e ?_); (case e => exact rfl))
    | (with_reducible refine' GA.w_c ?_)
    | (with_reducible refine' GA.w_cons ?_)
    | (with_reducible refine' GA.w_nil ?_)
    | (with_reducible refine' GA.w_op ?_)
    | (with_reducible refine' GA.r_I0 ?_)
    | (with_reducible refine' GA.w_bl ?_)
    | (with_reducible refine' GA.w_seq ?_)
    | (with_reducible refine' GA.w_set ?_)
    | (with_reducible refine' GA.w_ret ?_)
    | (with_reducible refine' GA.w_ifS ?_)
    | (with_reducible refine' GA.w_test ?_)
    | (with_reducible refine' GA.w_tB ?_)
    | (with_reducible refine' GA.w_not ?_)
    | (with_reducible refine' GA.w_and ?_)
    | (with_reducible refine' GA.w_or ?_)
    | (with_reducible refine' GA.w_andV ?_)
    | (with_reducible refine' GA.w_orV ?_)
    | (with_reducible refine' GA.w_notV ?_)
    | (with_reducible refine' GA.w_blc ?_)
    | (with_reducible refine' GA.w_if ?_)
    | (with_reducible refine' GA.w_CB ?_)
    | (with_reducible refine' GA.w_call ?_)
    | (with_reducible refine' GA.w_tupN ?_)
    | (with_reducible refine' GA.w_lstN ?_)
    | (with_reducible refine' GA.w_chain ?_)
    | (with_reducible refine' GA.w_drop ?_)
    | (with_reducible refine' GA.w_next ?_)
    | (with_reducible refine' GA.w_break ?_)
    | (with_reducible refine' GA.w_un ?_)
    | (with_reducible refine' GA.r_U ?_)
    | (with_reducible refine' GA.r_eqI ?_)
    | (with_reducible refine' GA.r_neI ?_)
    | (with_reducible refine' GA.r_eqB ?_)
    | (with_reducible refine' GA.r_neB ?_)
    | (with_reducible refine' GA.w_fld ?_)
    | (with_reducible refine' GA.w_sfld ?_)
    | (with_reducible refine' GA.w_sl ?_)
    | (with_reducible refine' GA.w_part ?_)
    | (with_reducible refine' GA.w_noPart ?_)
    | (with_reducible refine' GA.w_inti ?_)
    | (with_reducible refine' GA.w_retN ?_)
    | (with_reducible refine' GA.w_gsub ?_)
    | (with_reducible refine' GA.w_gname ?_)
    | (with_reducible refine' L2.iteT ?_)
    | (with_reducible refine' L2.iteF ?_)
    | (with_reducible refine' GA.w_nt ?_)
    | (with_reducible refine' GA.w_nf ?_)
    | (with_reducible refine' GA.w_isN ?_)
    | (with_reducible refine' GA.w_notN ?_)
    | (with_reducible refine' GA.w_yes ?_)
    | (with_reducible refine' GA.w_lc ?_)
    | (with_reducible refine' GA.w_lc2 ?_)
    | (with_reducible refine' GA.w_iseq ?_)
    | (with_reducible refine' GA.w_make ?_)
    | (with_reducible refine' GA.w_for ?_)
    | (with_reducible refine' GA.w_rng1 ?_)
    | (with_reducible refine' GA.w_rng2 ?_)
    | (with_reducible refine' GA.w_itup ?_)
    | (with_reducible refine' GA.w_ilist ?_)
    | (with_reducible refine' GA.w_ienum ?_)
    | (with_reducible refine' GA.w_BM ?_)
    | (with_reducible refine' GA.w_BM0 ?_)
    | (with_reducible refine' GA.w_izip ?_)
    | (with_reducible refine' GA.w_asg ?_))
  | `(tactic| walk_at "wm") => `(tactic| first
    | ((with_reducible refine' GA.w_var ?e ?_); (case e => exact rfl))
    | (with_reducible refine' GA.w_c ?_)
    | (with_reducible refine' GA.w_cons ?_)
    | (with_reducible refine' GA.w_nil ?_)
    | (with_reducible refine' GA.w_op ?_)
    | (with_reducible refine' GA.r_I0 ?_)
    | (with_reducible refine' GA.w_bl ?_)
    | (with_reducible refine' GA.w_set ?_)
    | (with_reducible refine' GA.w_ret ?_)
    | (with_reducible refine' GA.w_ifS ?_)
    | (with_reducible refine' GA.w_test ?_)
    | (with_reducible refine' GA.w_tB ?_)
    | (with_reducible refine' GA.w_not ?_)
    | (with_reducible refine' GA.w_and ?_)
    | (with_reducible refine' GA.w_or ?_)
    | (with_reducible refine' GA.w_andV ?_)
    | (with_reducible refine' GA.w_orV ?_)
    | (with_reducible refine' GA.w_notV ?_)
    | (with_reducible refine' GA.w_blc ?_)
    | (with_reducible refine' GA.w_if ?_)
    | (with_reducible refine' GA.w_CB ?_)
    | (with_reducible refine' GA.w_call ?_)
    | (with_reducible refine' GA.w_tupN ?_)
    | (with_reducible refine' GA.w_lstN ?_)
    | (with_reducible refine' GA.w_chain ?_)
    | (with_reducible refine' GA.w_drop ?_)
    | (with_reducible refine' GA.w_next ?_)
    | (with_reducible refine' GA.w_break ?_)
    | (with_reducible refine' GA.w_un ?_)
    | (with_reducible refine' GA.r_U ?_)
    | (with_reducible refine' GA.r_eqI ?_)
    | (with_reducible refine' GA.r_neI ?_)
    | (with_reducible refine' GA.r_eqB ?_)
    | (with_reducible refine' GA.r_neB ?_)
    | (with_reducible refine' GA.w_fld ?_)
    | (with_reducible refine' GA.w_sfld ?_)
    | (with_reducible refine' GA.w_sl ?_)
    | (with_reducible refine' GA.w_part ?_)
    | (with_reducible refine' GA.w_noPart ?_)
    | (with_reducible refine' GA.w_inti ?_)
    | (with_reducible refine' GA.w_retN ?_)
    | (with_reducible refine' GA.w_gsub ?_)
    | (with_reducible refine' GA.w_gname ?_)
    | (with_reducible refine' L2.iteT ?_)
    | (with_reducible refine' L2.iteF ?_)
    | (with_reducible refine' GA.w_nt ?_)
    | (with_reducible refine' GA.w_nf ?_)
    | (with_reducible refine' GA.w_isN ?_)
    | (with_reducible refine' GA.w_notN ?_)
    | (with_reducible refine' GA.w_yes ?_)
    | (with_reducible refine' GA.w_lc ?_)
    | (with_reducible refine' GA.w_lc2 ?_)
    | (with_reducible refine' GA.w_iseq ?_)
    | (with_reducible refine' GA.w_make ?_)
    | (with_reducible refine' GA.w_for ?_)
    | (with_reducible refine' GA.w_rng1 ?_)
    | (with_reducible refine' GA.w_rng2 ?_)
    | (with_reducible refine' GA.w_itup ?_)
    | (with_reducible refine' GA.w_ilist ?_)
    | (with_reducible refine' GA.w_ienum ?_)
    | (with_reducible refine' GA.w_BM ?_)
    | (with_reducible refine' GA.w_BM0 ?_)
    | (with_reducible refine' GA.w_izip ?_)
    | (with_reducible refine' GA.w_asg ?_))
  | `(tactic| walk_at "ws") => `(tactic| repeat (walk_at "w"))
  | `(tactic| walk_at "wn") => `(tactic| repeat (walk_at "wm"))


namespace Mine
section
variable {P : Program} {w : World} {K : PySem.W.Frag} {mg : Str → Option Value} {base : Heap} {a : Ads}

/-! ### texts written, numbers read -/
open TL
theorem w_m0 {r : V → List V → Hp → VK → Prop} {to : TE} {σ : L2.St} {H : Hp} {Q : VK} (q : to σ H fun x H1 => (∃ a, x = .str a) ∧ r x [] H1 Q) : tM0 r to σ H Q := q
theorem w_m1 {r : V → List V → Hp → VK → Prop} {to te : TE} {σ : L2.St} {H : Hp} {Q : VK} (q : to σ H fun x H1 => (∃ a, x = .str a) ∧ te σ H1 fun y H2 => r x [y] H2 Q) : tM1 r to te σ H Q := q
def rStrE : List V → Hp → VK → Prop := fun xs H Q => (∃ i, xs = [.int i] ∧ i.natAbs.log2 < 1920 ∧ Q (.str (toString i)) H) ∨ ∃ a, xs = [.str a] ∧ Q (.str a) H
theorem call_strE {X : Cx} : CallR X (.type "str") rStrE := by
  intro pins s σ H xs us Q I r h
  rcases h with h | h
  · exact call_str_int pins s σ H xs us Q I r h
  · exact SkE.call_str_str pins s σ H xs us Q I r h
theorem w_star {te : TE} {t : TA} {σ : L2.St} {H : Hp} {Q : List V → Hp → Prop} (q : te σ H fun x H1 => ∃ p xs, x = V.ref p ∧ (SqT K H1 p xs ∨ SqL K H1 p xs) ∧ t σ H1 fun ys H2 => Q (xs ++ ys) H2) : StX.tStar K te t σ H Q := q
theorem k_star (K : PySem.W.Frag) {X : Cx} {e : Expr} {es : List Expr} {te : TE} {t : TA} {p : Pos} (he : PE X e te) (hr : PA X es t) (hK : X.K = K := by rfl) (hs : starEach (.Starred e p :: es) X.env = (true, eval e X.env) :: starEach es X.env := by rfl) : PA X (.Starred e p :: es) (StX.tStar K te t) := by
  subst hK
  exact StX.pa_star he hr hs
theorem strs_told {H : Hp} : ∀ {xs : List V} {ys : List PySem.Str}, DpAll K H xs (ys.map PyData.str) → xs = ys.map V.str
  | _, [], h => by cases h; rfl
  | _, y :: ys, h => by
    cases h with
    | cons h t => cases h; rw [strs_told t]; rfl
def sp_number_in : Sp := fun vs H Q _ => ∃ n : Int, vs = [.str (sI n)] ∧ 0 ≤ n ∧ n < 1000 ∧ Q (.int n) H
theorem ok_number_in (T : Txt K mg a) : FnOk P w K mg base CX0 1 a.f_number_in a.d_number_in P_number_in sp_number_in := by
  refine T.F_number_in.ok sc_number_in (fun vs H Q E h => by obtain ⟨n, rfl, _⟩ := h; rfl) (fun cdv A outer s H vs Q E hr h => ?_)
  obtain ⟨n, rfl, n0, n1, k⟩ := h
  obtain ⟨⟨l1, l3⟩, asc, dig, num, ⟨c, hc, nz⟩, zr⟩ := sI_facts ⟨n0, n1⟩
  refine ⟨_, (pss_cons (ps_if (L2.PW.pt (pw_or (pt_not (pt_chain op_le op_le pe_int (pe_callB call_len_str (by rfl) T.n_len (by decide +kernel) (pa_cons (pv 0) pa_nil)) (pe_glob (v := .int 9) rfl T.m_MOST_FIGURES ⟨_, rfl⟩))) (pw_or (pt_not (pt_val (pe_m0 PySem.F.slot_str_isascii PySem.F.type_str_isascii mt_isascii (pv 0)))) (pw_or1 (pt_not (pt_val (pe_m0 PySem.F.slot_str_isdigit PySem.F.type_str_isdigit mt_isdigit (pv 0))))))))
    (pss_one (ps_ret pe_non))
    pss_nil)
  (pss_cons (ps_if (L2.PW.pt (pw_and (pt_cmpR op_ne (pv 0) pe_str (nomark _)) (pw_and1 (pt_cmpR op_eq (pe_ix ix_str (pv 0) pe_int (fun _ _ => rfl)) pe_str (nomark _)))))
    (pss_one (ps_ret pe_non))
    pss_nil)
  (pss_one (ps_ret (pe_callTy call_int_str (by rfl) T.n_int (by decide +kernel) (pa_cons (pv 0) pa_nil)))))), ?_⟩
  walk_at "ws"
  refine ⟨_, rfl, sz (by omega), ?_⟩
  walk_at "ws"
  refine w_iteE (decide_eq_true (by omega)) ?_
  refine GA.w_c ?_
  refine GA.r_I0 ?_
  refine ⟨true, by rw [decide_eq_true (by omega)], ?_⟩
  walk_at "ws"
  refine w_m0 ?_
  walk_at "ws"
  refine ⟨⟨_, rfl⟩, _, rfl, rfl, trivial, true, by rw [asc], ?_⟩
  walk_at "ws"
  refine w_m0 ?_
  walk_at "ws"
  refine ⟨⟨_, rfl⟩, _, rfl, rfl, trivial, true, by rw [dig], ?_⟩
  walk_at "ws"
  by_cases z : n = 0
  · refine ⟨rfl, false, by rw [show sI n = ("0" : PySem.Str) from zr.mp z]; simp, ?_⟩
    walk_at "ws"
    exact ⟨_, n, rfl, num, by omega, k⟩
  · have ne : sI n ≠ ("0" : PySem.Str) := fun e => z (zr.mpr e)
    refine ⟨rfl, true, by simp [ne], ?_⟩
    walk_at "ws"
    refine ⟨_, 0, c, rfl, rfl, sz (by omega), ?_, ?_⟩
    · exact atI_nat (j := 0) hc
    walk_at "ws"
    refine ⟨rfl, false, ?_, ?_⟩
    · have : ¬ (⟨#[c]⟩ : PySem.Str) = ("0" : PySem.Str) := fun e => nz z (by
        have q := congrArg tl e
        rw [show tl ("0" : PySem.Str) = [48] by decide +kernel] at q
        simpa [tl] using q)
      simp [this]
    walk_at "ws"
    exact ⟨_, n, rfl, num, by omega, k⟩
def sp_numbers_in (K : PySem.W.Frag) : Sp := fun vs H Q _ => ∃ (p : Addr) (ns : List Int), vs = [.ref p] ∧ SqL K H p ((ns.map sI).map V.str) ∧ Small ns ∧ ns.length ≤ 100 ∧ ∀ D H', H D = none → G none H H' → H' D = some (.lst (ns.map V.int)) → Q (.ref D) H'
theorem ok_numbers_in (T : Txt K mg a) : FnOk P w K mg base CX0 2 a.f_numbers_in a.d_numbers_in P_numbers_in (sp_numbers_in K) := by
  refine T.F_numbers_in.ok sc_numbers_in (fun vs H Q E h => by obtain ⟨p, ns, rfl, _⟩ := h; rfl) (fun cdv A outer s H vs Q E hr h => ?_)
  obtain ⟨p, ns, rfl, hp, sm, h100, k⟩ := h
  have G_number_in : FnOk P w K mg base CX0 1 a.f_number_in a.d_number_in P_number_in sp_number_in := ok_number_in T
  refine ⟨_, (pss_cons (ps_setLc (i := 1) (own := [("word", 2)]) (g := (gName 2)) (tt := tYes)  rfl sc_numbers_in.nd rfl rfl (sw_true rfl rfl rfl (by decide +kernel)) (pi_list (pv 0)) (blkOk_by (N := N_numbers_in) (sc := defScope s_numbers_in) (by decide +kernel)) (fun _ _ _ _ _ => (pg_name (i := 2) sc_numbers_in.nd rfl (by first | exact Or.inl rfl | exact Or.inr rfl))) (fun _ _ _ _ _ => pts_nil) (fun _ _ _ _ _ => (pe_call (G_number_in) (hr.mono (by omega)) rfl T.m_number_in T.F_number_in.kp T.b_number_in .nil pass0 (pa_cons (pv 2) pa_nil))))
  (pss_one (ps_ret (pe_ifExp (pt_cmpR op_in_seq pe_non (pv 1) (by rfl)) pe_non (pv 1))))), ?_⟩
  walk_at "ws"
  refine i_list hp ?_
  intro D hD
  refine lc_pure (K := K) (o := none) (walk_list (xs := (ns.map sI).map V.str)) (by rw [List.length_map, List.length_map]; omega) hD (fun _ e => nomatch e) (fun i => ns[i]?.map fun n => PyData.int n) (fun H' g => sqL_n g hp) ?_ ?_
  · rintro i y _ H1 hi g1 ⟨rfl, hy⟩ Qy Qn ky kn
    rw [List.getElem?_map, List.getElem?_map] at hy
    obtain ⟨z, hz, rfl⟩ := Option.map_eq_some_iff.mp hy
    obtain ⟨n, hn, rfl⟩ := Option.map_eq_some_iff.mp hz
    have hs := sm n (List.mem_of_getElem? hn)
    walk_at "ws"
    refine ⟨rfl, ?_⟩
    walk_at "ws"
    refine ⟨n, rfl, hs.1, hs.2, ?_⟩
    exact ky _ _ _ G.refl (.int _) rfl (by rw [hn]; rfl)
  · intro xs' H1 g1 hD1 hds _
    rw [List.length_map, List.length_map, filterMap_range_map] at hds
    rw [DpAll.of_ints hds] at hD1
    walk_at "ws"
    refine ⟨D, _, rfl, .inl (SqL.of hD1), rfl, by rw [List.all_map, List.all_eq_true]; intro q _; rfl, false, ?_, ?_⟩
    · have : inV V.non (ns.map V.int) = false := by
        unfold inV
        rw [List.any_eq_false]
        intro x hx
        obtain ⟨n, _, rfl⟩ := List.mem_map.mp hx
        simp [eqV]
      show V.bl (inV V.non (ns.map V.int)) = V.bl false
      rw [this]
    walk_at "ws"
    exact k D H1 hD g1 hD1
/-- a text's words as a list of what `str` is asked of -/
def sp_line_of (K : PySem.W.Frag) : Sp := fun vs H Q _ => ∃ (p : Addr) (wd : PySem.Str) (ns : List Int), vs = [.ref p] ∧ SqL K H p (.str wd :: ns.map V.int) ∧ wd.length ≤ 8 ∧ Small ns ∧ ns.length ≤ 40 ∧ ∀ H', G none H H' → Q (.str (lineS wd ns)) H'
theorem ok_line_of (T : Txt K mg a) : FnOk P w K mg base CX0 1 a.f_line_of a.d_line_of P_line_of (sp_line_of K) := by
  refine T.F_line_of.ok sc_line_of (fun vs H Q E h => by obtain ⟨p, wd, ns, rfl, _⟩ := h; rfl) (fun cdv A outer s H vs Q E hr h => ?_)
  obtain ⟨p, wd, ns, rfl, hp, w8, sm, h40, k⟩ := h
  refine ⟨_, (pss_one (ps_ret (pe_op op_add_str (pe_join pe_str (pe_lc (own := [("word", 1)]) (g := (gName 1)) (tt := tYes) rfl sc_line_of.nd (pi_list (pv 0)) (blkOk_by (N := N_line_of) (sc := defScope s_line_of) (by decide +kernel)) (fun _ _ _ _ _ => (pg_name (i := 1) sc_line_of.nd rfl (by first | exact Or.inl rfl | exact Or.inr rfl))) (fun _ _ _ _ _ => pts_nil) (fun _ _ _ _ _ => (pe_callTy call_strE (by rfl) T.n_str (by decide +kernel) (pa_cons (pv 1) pa_nil))))) pe_str))), ?_⟩
  walk_at "ws"
  refine w_m1 ?_
  walk_at "ws"
  refine ⟨⟨_, rfl⟩, ?_⟩
  walk_at "ws"
  refine i_list hp ?_
  intro D hD
  refine lc_pure (K := K) (o := none) (walk_list (xs := .str wd :: ns.map V.int)) (by rw [List.length_cons, List.length_map]; omega) hD (fun _ e => nomatch e) (fun i => (wd :: ns.map sI)[i]?.map fun z => PyData.str z) (fun H' g => sqL_n g hp) ?_ ?_
  · rintro i y _ H1 hi g1 ⟨rfl, hy⟩ Qy Qn ky kn
    walk_at "ws"
    refine ⟨rfl, ?_⟩
    walk_at "ws"
    cases i with
    | zero =>
      cases hy
      refine .inr ⟨wd, rfl, ?_⟩
      exact ky _ _ _ G.refl (.str _) rfl rfl
    | succ i =>
      have hy : (ns.map V.int)[i]? = some y := hy
      rw [List.getElem?_map] at hy
      obtain ⟨n, hn, rfl⟩ := Option.map_eq_some_iff.mp hy
      refine .inl ⟨n, rfl, sI_log (sm n (List.mem_of_getElem? hn)), ?_⟩
      refine ky _ _ _ G.refl (.str (sI n)) rfl ?_
      show (ns.map sI)[i]?.map _ = _
      rw [List.getElem?_map, hn]
      rfl
  · intro xs' H1 g1 hD1 hds _
    have el : (V.str wd :: ns.map V.int).length = (wd :: ns.map sI).length := by simp
    rw [el, filterMap_range_map] at hds
    rw [strs_told hds] at hD1
    have ll := line_len w8 sm h40
    walk_at "ws"
    refine ⟨_, D, wd :: ns.map sI, rfl, rfl, .inl (SqL.of hD1), ?_, ?_⟩
    · have : ((" " : PySem.Str)).length = 1 := by decide +kernel
      rw [this, List.length_cons, List.length_map]
      have := ll.2
      omega
    walk_at "ws"
    refine ⟨_, _, rfl, rfl, ?_, ?_⟩
    · have : (("
" : PySem.Str)).length = 1 := by decide +kernel
      rw [this]
      exact sz (by have := ll.1; unfold lineB at this; omega)
    exact k H1 g1
theorem dInts {H : Hp} : ∀ {xs : List V} {rows : List (List Int)} {i : Nat} {y : V}, DpAll K H xs (rows.map dI) → xs[i]? = some y → ∃ (r : List Int) (q : Addr), rows[i]? = some r ∧ y = .ref q ∧ SqT K H q (r.map V.int) := by
  intro xs rows i y h e
  obtain ⟨d, hd, hdp⟩ := GA.DpAll.get h e
  rw [List.getElem?_map] at hd
  obtain ⟨r, hr, rfl⟩ := Option.map_eq_some_iff.mp hd
  obtain ⟨q, rfl, hq⟩ := dp_dI hdp
  exact ⟨r, q, hr, rfl, hq⟩
/-- rows of small numbers -/
def SmallR (rows : List (List Int)) : Prop := rows.length ≤ 50 ∧ ∀ r ∈ rows, Small r ∧ r.length ≤ 40
def sp_text_of (K : PySem.W.Frag) : Sp := fun vs H Q _ => ∃ (h wd : PySem.Str) (np rp : Addr) (ns : List Int) (rows : List (List Int)), vs = [.str h, .ref np, .str wd, .ref rp] ∧ (SqT K H np (ns.map V.int) ∨ SqL K H np (ns.map V.int)) ∧ Dp K H (.ref rp) (.tuple (rows.map dI)) ∧
  h.length ≤ 8 ∧ wd.length ≤ 8 ∧ Small ns ∧ ns.length ≤ 40 ∧ SmallR rows ∧ ∀ H', G none H H' → Q (.str (textS h ns wd rows)) H'
theorem ok_text_of (T : Txt K mg a) : FnOk P w K mg base CX0 2 a.f_text_of a.d_text_of P_text_of (sp_text_of K) := by
  refine T.F_text_of.ok sc_text_of (fun vs H Q E h => by obtain ⟨h, wd, np, rp, ns, rows, rfl, _⟩ := h; rfl) (fun cdv A outer s H vs Q E hr h => ?_)
  obtain ⟨h, wd, np, rp, ns, rows, rfl, hn, hrw, h8, w8, sm, h40, ⟨r50, smr⟩, k⟩ := h
  have G_line_of : FnOk P w K mg base CX0 1 a.f_line_of a.d_line_of P_line_of (sp_line_of K) := ok_line_of T
  refine ⟨_, (pss_one (ps_ret (pe_op op_add_str (pe_call (G_line_of) (hr.mono (by omega)) rfl T.m_line_of T.F_line_of.kp T.b_line_of .nil pass0 (pa_cons (pe_lstN (pa_cons (pv 0) (StX.pa_star (pv 1) pa_nil))) pa_nil)) (pe_join pe_str (pe_lc (own := [("row", 4)]) (g := (gName 4)) (tt := tYes) rfl sc_text_of.nd (pi_tup (pv 3)) (blkOk_by (N := N_text_of) (sc := defScope s_text_of) (by decide +kernel)) (fun _ _ _ _ _ => (pg_name (i := 4) sc_text_of.nd rfl (by first | exact Or.inl rfl | exact Or.inr rfl))) (fun _ _ _ _ _ => pts_nil) (fun _ _ _ _ _ => (pe_call (G_line_of) (hr.mono (by omega)) rfl T.m_line_of T.F_line_of.kp T.b_line_of .nil pass0 (pa_cons (pe_lstN (pa_cons (pv 2) (k_star K (pv 4) pa_nil))) pa_nil)))))))), ?_⟩
  walk_at "ws"
  refine w_star (K := K) ?_
  walk_at "ws"
  refine ⟨np, _, rfl, hn, ?_⟩
  walk_at "ws"
  rw [List.append_nil]
  refine ⟨sz (by rw [List.length_cons, List.length_map]; omega), fun l1 H1 hl1 g1 h1 => ?_⟩
  refine ⟨l1, h, ns, rfl, SqL.of h1, h8, sm, h40, fun H2 g2 => ?_⟩
  have g02 := (g1 none).trans g2
  walk_at "ws"
  refine w_m1 ?_
  walk_at "ws"
  refine ⟨⟨_, rfl⟩, ?_⟩
  walk_at "ws"
  obtain ⟨rq, rs, er, hrs, hra⟩ := dp_tup ((dp_n g02).1 _ _ hrw)
  cases er
  refine i_tup hrs ?_
  intro D hD
  have rl := GA.DpAll.length hra
  rw [List.length_map] at rl
  refine lc_pure (K := K) (o := none) (walk_tup (xs := rs)) (by omega) hD (fun _ e => nomatch e) (fun i => rows[i]?.map fun r => PyData.str (lineS wd r)) (fun H' g => sqT_t g.tups hrs) ?_ ?_
  · rintro i y _ H3 hi g3 ⟨rfl, hy⟩ Qy Qn ky kn
    obtain ⟨r, q, hr1, rfl, hq⟩ := dInts ((dp_n g3).2 _ _ hra) hy
    have sr := smr r (List.mem_of_getElem? hr1)
    walk_at "ws"
    refine ⟨rfl, ?_⟩
    walk_at "ws"
    refine w_star (K := K) ?_
    walk_at "ws"
    refine ⟨q, _, rfl, .inl hq, ?_⟩
    walk_at "ws"
    rw [List.append_nil]
    refine ⟨sz (by rw [List.length_cons, List.length_map]; omega), fun l2 H4 hl2 g4 h4 => ?_⟩
    refine ⟨l2, wd, r, rfl, SqL.of h4, w8, sr.1, sr.2, fun H5 g5 => ?_⟩
    exact ky _ _ _ ((g4 none).trans g5) (.str _) rfl (by rw [hr1]; rfl)
  · intro xs' H3 g3 hD3 hds _
    rw [rl, filterMap_range_map] at hds
    have e : rows.map (fun r => PyData.str (lineS wd r)) = (rows.map (lineS wd)).map PyData.str := by rw [List.map_map]; rfl
    rw [e] at hds
    rw [strs_told hds] at hD3
    have tl := text_len h8 sm h40 w8 smr r50
    walk_at "ws"
    refine ⟨_, D, rows.map (lineS wd), rfl, rfl, .inl (SqL.of hD3), ?_, ?_⟩
    · have : (("" : PySem.Str)).length = 0 := by decide +kernel
      rw [this]
      have := rows_len w8 smr r50
      omega
    walk_at "ws"
    refine ⟨_, _, rfl, rfl, ?_, ?_⟩
    · have := lineS_len h8 sm h40
      exact Nat.le_trans (by have := tl.2; omega : _ ≤ 100000) (by decide)
    exact k H3 (g02.trans g3)

end
end Mine
/-! ## K32 -/


namespace Mine
section
variable {P : Program} {w : World} {K : PySem.W.Frag} {mg : Str → Option Value} {base : Heap} {a : Ads}

/-! ### texts of webs, records, halls -/
open TL
theorem dia_dp {H : Hp} {p : Addr} {ds : List (List Int)} (h : Da.Dia K H p ds) : Dp K H (.ref p) (.tuple (ds.map dI)) := by
  obtain ⟨bs, h1, h2, h3⟩ := h
  refine .tup h1 ?_
  clear h1
  induction ds generalizing bs with
  | nil =>
    have : bs = [] := List.eq_nil_of_length_eq_zero (by simpa using h2)
    subst this
    exact .nil
  | cons d ds ih =>
    match bs, h2, h3 with
    | b :: bs, h2, h3 =>
      exact .cons (dp_ofI (h3 0 b d rfl rfl).sq) (ih bs (by simpa using h2) fun i b' d' e1 e2 => h3 (i + 1) b' d' (by simpa using e1) (by simpa using e2))

theorem prI_dW (ws : List (Int × Int)) : PyData.tuple ((ws.map prI).map dI) = dW ws := by
  rw [List.map_map]
  rfl
theorem web_len {m : Int} {ws : List (Int × Int)} (h : Da.IsWeb m ws) : ws.length ≤ 49 := by
  have nd : ws.Nodup := h.asc.imp fun {u v} q e => by subst e; simp [Da.ltP] at q
  have hi := h.hi
  have := List.Nodup.length_le_of_subset (l₂ := (List.range 7).flatMap fun y => (List.range 7).map fun x => (((y : Nat) : Int), ((x : Nat) : Int))) nd fun u hu => by
    have q := h.mem u hu
    refine List.mem_flatMap.mpr ⟨u.1.toNat, List.mem_range.mpr (by omega), List.mem_map.mpr ⟨u.2.toNat, List.mem_range.mpr (by omega), ?_⟩⟩
    have e1 : ((u.1.toNat : Nat) : Int) = u.1 := by omega
    have e2 : ((u.2.toNat : Nat) : Int) = u.2 := by omega
    rw [e1, e2]
  exact Nat.le_trans this (by decide)
theorem web_small {m : Int} {ws : List (Int × Int)} (h : Da.IsWeb m ws) : Small [m] ∧ SmallR (ws.map prI) := by
  have hi := h.hi
  have lo := h.lo
  refine ⟨fun n hn => ?_, by rw [List.length_map]; have := web_len h; omega, fun r hr => ?_⟩
  · have : n = m := by simpa using hn
    omega
  · obtain ⟨u, hu, rfl⟩ := List.mem_map.mp hr
    have q := h.mem u hu
    refine ⟨fun n hn => ?_, by simp [prI]⟩
    have : n = u.1 ∨ n = u.2 := by simpa [prI] using hn
    omega
theorem rec_small {ws : List Int} {ds : List (List Int)} (h : Da.IsRec ws ds) : Small ws ∧ SmallR ds := by
  have m7 := h.m7
  have p30 := h.p30
  refine ⟨fun n hn => ?_, by omega, fun r hr => ⟨fun n hn => ?_, ?_⟩⟩
  · have := h.wr n hn
    omega
  · have := h.rng r hr n hn
    omega
  · have := Da.diary_len (h.nd r hr) (h.rng r hr)
    omega
theorem hall_small {us : List (Int × Int)} {pl : List Int} (h : HallOk us pl) : Small pl ∧ SmallR (us.map prI) := by
  have n11 := h.lks.n11
  refine ⟨fun n hn => ?_, by rw [List.length_map]; omega, fun r hr => ?_⟩
  · have := h.prng n hn
    omega
  · obtain ⟨u, hu, rfl⟩ := List.mem_map.mp hr
    have q := h.lks.rng u hu
    refine ⟨fun n hn => ?_, by simp [prI]⟩
    have : n = u.1 ∨ n = u.2 := by simpa [prI] using hn
    omega
def webS (m : Int) (ws : List (Int × Int)) : PySem.Str := textS "machines" [m] "wire" (ws.map prI)
def recS (ws : List Int) (ds : List (List Int)) : PySem.Str := textS "writers" ws "diary" ds
def hallS (us : List (Int × Int)) (pl : List Int) : PySem.Str := textS "places" pl "link" (us.map prI)
theorem lens8 : ("machines" : PySem.Str).length ≤ 8 ∧ ("wire" : PySem.Str).length ≤ 8 ∧ ("writers" : PySem.Str).length ≤ 8 ∧ ("diary" : PySem.Str).length ≤ 8 ∧ ("places" : PySem.Str).length ≤ 8 ∧ ("link" : PySem.Str).length ≤ 8 := by decide +kernel
def sp_web_text (K : PySem.W.Frag) (C : Addr) : Sp := fun vs H Q _ => ∃ (x : Addr) (m : Int) (ws : List (Int × Int)), vs = [.ref x] ∧ Da.WebAt K C H x m ws ∧ Da.IsWeb m ws ∧ ∀ H', G none H H' → Q (.str (webS m ws)) H'
theorem ok_web_text (T : Txt K mg a) : FnOk P w K mg base CX0 3 a.f_web_text a.d_web_text P_web_text (sp_web_text K a.c_Web) := by
  refine T.F_web_text.ok sc_web_text (fun vs H Q E h => by obtain ⟨x, m, ws, rfl, _⟩ := h; rfl) (fun cdv A outer s H vs Q E hr h => ?_)
  obtain ⟨x, m, ws, rfl, ⟨dx, wa, hx, hw⟩, web, k⟩ := h
  have G_text_of : FnOk P w K mg base CX0 2 a.f_text_of a.d_text_of P_text_of (sp_text_of K) := ok_text_of T
  refine ⟨_, (pss_one (ps_ret (pe_call (G_text_of) (hr.mono (by omega)) rfl T.m_text_of T.F_text_of.kp T.b_text_of .nil pass0 (pa_cons pe_str (pa_cons (pe_lstN (pa_cons (pe_fld (pv 0) rfl) pa_nil)) (pa_cons pe_str (pa_cons (pe_fld (pv 0) rfl) pa_nil))))))), ?_⟩
  walk_at "ws"
  refine r_fld hx T.cl_Web T.na_Web_machines (Da.wf_m _ _) ?_
  walk_at "ws"
  refine ⟨sz (by simp), fun l H1 hl g1 h1 => ?_⟩
  walk_at "ws"
  refine r_fld ((g1 none).all _ _ hx) T.cl_Web T.na_Web_wires (Da.wf_w _ _) ?_
  walk_at "ws"
  have sm := web_small web
  refine ⟨_, _, l, wa, [m], ws.map prI, rfl, .inr (SqL.of h1), by rw [prI_dW]; exact (dp_n (g1 none)).1 _ _ hw, lens8.1, lens8.2.1, sm.1, by simp, sm.2, fun H2 g2 => ?_⟩
  exact k H2 ((g1 none).trans g2)
def sp_record_text (K : PySem.W.Frag) (C : Addr) : Sp := fun vs H Q _ => ∃ (x : Addr) (ws : List Int) (ds : List (List Int)), vs = [.ref x] ∧ Da.RecAt K C H x ws ds ∧ Da.IsRec ws ds ∧ ∀ H', G none H H' → Q (.str (recS ws ds)) H'
theorem ok_record_text (T : Txt K mg a) : FnOk P w K mg base CX0 3 a.f_record_text a.d_record_text P_record_text (sp_record_text K a.c_Record) := by
  refine T.F_record_text.ok sc_record_text (fun vs H Q E h => by obtain ⟨x, ws, ds, rfl, _⟩ := h; rfl) (fun cdv A outer s H vs Q E hr h => ?_)
  obtain ⟨x, ws, ds, rfl, ⟨dx, wp, dp, hx, hw, hd⟩, rec, k⟩ := h
  have G_text_of : FnOk P w K mg base CX0 2 a.f_text_of a.d_text_of P_text_of (sp_text_of K) := ok_text_of T
  refine ⟨_, (pss_one (ps_ret (pe_call (G_text_of) (hr.mono (by omega)) rfl T.m_text_of T.F_text_of.kp T.b_text_of .nil pass0 (pa_cons pe_str (pa_cons (pe_fld (pv 0) rfl) (pa_cons pe_str (pa_cons (pe_fld (pv 0) rfl) pa_nil))))))), ?_⟩
  walk_at "ws"
  refine r_fld hx T.cl_Record T.na_Record_writers (Da.rf_w _ _) ?_
  walk_at "ws"
  refine r_fld hx T.cl_Record T.na_Record_diaries (Da.rf_d _ _) ?_
  walk_at "ws"
  have sm := rec_small rec
  refine ⟨_, _, wp, dp, ws, ds, rfl, .inl hw, dia_dp hd, lens8.2.2.1, lens8.2.2.2.1, sm.1, by have := rec.p30; omega, sm.2, fun H2 g2 => ?_⟩
  exact k H2 g2
def sp_hall_text (K : PySem.W.Frag) (C : Addr) : Sp := fun vs H Q _ => ∃ (x : Addr) (us : List (Int × Int)) (pl : List Int), vs = [.ref x] ∧ HallAt K C H x us pl ∧ HallOk us pl ∧ ∀ H', G none H H' → Q (.str (hallS us pl)) H'
theorem ok_hall_text (T : Txt K mg a) : FnOk P w K mg base CX0 3 a.f_hall_text a.d_hall_text P_hall_text (sp_hall_text K a.c_Hall) := by
  refine T.F_hall_text.ok sc_hall_text (fun vs H Q E h => by obtain ⟨x, us, pl, rfl, _⟩ := h; rfl) (fun cdv A outer s H vs Q E hr h => ?_)
  obtain ⟨x, us, pl, rfl, ⟨dx, la, pa, hx, hla, hpa⟩, ok, k⟩ := h
  have G_text_of : FnOk P w K mg base CX0 2 a.f_text_of a.d_text_of P_text_of (sp_text_of K) := ok_text_of T
  refine ⟨_, (pss_one (ps_ret (pe_call (G_text_of) (hr.mono (by omega)) rfl T.m_text_of T.F_text_of.kp T.b_text_of .nil pass0 (pa_cons pe_str (pa_cons (pe_fld (pv 0) rfl) (pa_cons pe_str (pa_cons (pe_fld (pv 0) rfl) pa_nil))))))), ?_⟩
  walk_at "ws"
  refine r_fld hx T.cl_Hall T.na_Hall_places (wf_p _ _) ?_
  walk_at "ws"
  refine r_fld hx T.cl_Hall T.na_Hall_links (wf_l _ _) ?_
  walk_at "ws"
  have sm := hall_small ok
  obtain ⟨q, eq, hq⟩ := dp_dI hpa
  cases eq
  refine ⟨_, _, pa, la, pl, us.map prI, rfl, .inl hq, by rw [prI_dW]; exact hla, lens8.2.2.2.2.1, lens8.2.2.2.2.2, sm.1, by have := ok.p7; omega, sm.2, fun H2 g2 => ?_⟩
  exact k H2 g2

end
end Mine
/-! ## GTF -/
end
namespace GA
open PySem L2 PyProof.Rows
/-! ### new tuples whose object is told -/
def tTupF (t : TA) : TE := fun σ H Q => t σ H fun xs H1 => xs.length ≤ sizeLine ∧ ∀ p H2, H1 p = none → (∀ o, G o H1 H2) → FrzT H2 p xs → Q (.ref p) H2
theorem w_tupF {t : TA} {σ : L2.St} {H : Hp} {Q : VK} (q : t σ H fun xs H1 => xs.length ≤ sizeLine ∧ ∀ p H2, H1 p = none → (∀ o, G o H1 H2) → FrzT H2 p xs → Q (.ref p) H2) : tTupF t σ H Q := q
theorem pe_tupF {X : Cx} {es : List Expr} {t : TA} {pos : Pos} {x1} (h : PA X es t) : PE X (.Tuple es x1 pos) (tTupF t) := by
  refine ⟨fun pins s σ H Q I hq => ?_⟩
  refine wpAny_Tuple_spliced (thn (h.run pos pins s σ H _ I hq) fun us s1 ⟨xs, H1, I1, r, z, q⟩ => ⟨by rw [← r.length]; exact z, ?_⟩)
  have hf : H1 s1.heap.objs.size = none := I1.hok.fresh (Nat.le_refl _)
  refine ⟨.ref s1.heap.objs.size, _, I1.laid (o := .frz { cls := .type "tuple", data := .seq us.toArray } (.tup xs)) (t' := s1.toks) (fun b u e => Heap.get?_push_of_some _ e) (Nat.le_refl _) ?_, rfl, q _ _ hf (fun _ => G.alloc hf) ⟨_, upd_same, rfl⟩⟩
  exact ⟨Heap.get?_push_size _ rfl, z, us, r, IsTup.new _ _⟩
/-- t + u: one of the two where the other is empty, else a new one, told -/
def rCatF (K : PySem.W.Frag) : R2 := fun x y H Q => ∃ a b xs ys, x = .ref a ∧ y = .ref b ∧ SqT K H a xs ∧ SqT K H b ys ∧ xs.length + ys.length ≤ sizeLine ∧
  (xs = [] → Q (.ref b) H) ∧ (xs ≠ [] → ys = [] → Q (.ref a) H) ∧ (xs ≠ [] → ys ≠ [] → ∀ p H2, H p = none → (∀ o, G o H H2) → FrzT H2 p (xs ++ ys) → Q (.ref p) H2)
theorem op_catF {X : Cx} : OpR X (binaryOp .Add) (rCatF X.K) := by
  intro pins s σ H x y v u Q I rx ry h
  obtain ⟨a, b, xs, ys, rfl, rfl, ha, hb, hz, q0, q1, q2⟩ := h
  by_cases hx : xs = []
  · subst hx
    exact op_catA pins s σ H _ _ v u Q I rx ry ⟨a, b, [], ys, rfl, rfl, ha, hb, hz, fun _ => q0 rfl, fun n => absurd rfl n, fun n => absurd rfl n⟩
  by_cases hy : ys = []
  · subst hy
    exact op_catA pins s σ H _ _ v u Q I rx ry ⟨a, b, xs, [], rfl, rfl, ha, hb, hz, fun e => absurd e hx, fun _ _ => q1 hx rfl, fun _ n => absurd rfl n⟩
  cases rx
  cases ry
  obtain ⟨its, r1, p1, _⟩ := I.tuple ha
  obtain ⟨its2, r2, p2, _⟩ := I.tuple hb
  have hf : H s.heap.objs.size = none := I.hok.fresh (Nat.le_refl _)
  refine HT.cat_tup p1 p2 (fun z => hx (r1.nil_iff.mp z)) (fun z => absurd (r2.nil_iff.mp z) hy) (fun z => ?_) (by rw [← r1.length, ← r2.length]; exact hz)
  refine ⟨.ref s.heap.objs.size, _, I.laid (t' := s.toks) (o := .frz { cls := .type "tuple", data := .seq (its ++ its2).toArray } (.tup (xs ++ ys))) (fun b ob q => Heap.get?_push_of_some _ q) (Nat.le_refl _) ?_, rfl, q2 hx hy _ _ hf (fun _ => G.alloc hf) ⟨_, upd_same, rfl⟩⟩
  exact ⟨Heap.get?_push_size _ rfl, by rw [List.length_append]; exact hz, _, r1.append r2, IsTup.new _ _⟩
/-- t[lo:hi], what it holds -/
def rSlQ (K : PySem.W.Frag) : V → Option Int → Option Int → Hp → VK → Prop := fun x lo hi H Q => ∃ a xs, x = .ref a ∧ SqT K H a xs ∧ ∀ p H2, (∀ o, G o H H2) → SqT K H2 p (cutV xs lo hi) → Q (.ref p) H2
theorem sl_tupQ {X : Cx} : SlR X (rSlQ X.K) := SlR.weak sl_tupA fun x lo hi H Q ⟨a, xs, e, h, q⟩ => ⟨a, xs, e, h, fun w => q a H (fun _ => G.refl) (by
    have c : cutV xs lo hi = xs := by
      unfold cutV
      rw [w.1, w.2, List.drop_zero, Nat.sub_zero, List.take_length]
    rw [c]; exact h), fun _ p hp => q p _ (fun _ => G.alloc hp) (.inl (.inl upd_same))⟩
def rCatFr (K : PySem.W.Frag) : R2 := fun x y H Q => ∃ a b xs ys, x = .ref a ∧ y = .ref b ∧ SqT K H a xs ∧ FrzT H b ys ∧ ys ≠ [] ∧ xs.length + ys.length ≤ 100000 ∧ ∀ p H2, (∀ o, G o H H2) → FrzT H2 p (xs ++ ys) → Q (.ref p) H2
theorem op_catFr {X : Cx} : OpR X (binaryOp .Add) (rCatFr X.K) := OpR.weak op_catF fun x y H Q ⟨a, b, xs, ys, e1, e2, h1, h2, ny, hz, q⟩ => ⟨a, b, xs, ys, e1, e2, h1, h2.sq, sz hz, fun e => by subst e; exact q b H (fun _ => G.refl) h2, fun _ e => absurd e ny, fun _ _ p H2 _ g f => q p H2 g f⟩
def rCatFl (K : PySem.W.Frag) : R2 := fun x y H Q => ∃ a b xs ys, x = .ref a ∧ y = .ref b ∧ FrzT H a xs ∧ SqT K H b ys ∧ xs ≠ [] ∧ xs.length + ys.length ≤ 100000 ∧ ∀ p H2, (∀ o, G o H H2) → FrzT H2 p (xs ++ ys) → Q (.ref p) H2
theorem op_catFl {X : Cx} : OpR X (binaryOp .Add) (rCatFl X.K) := OpR.weak op_catF fun x y H Q ⟨a, b, xs, ys, e1, e2, h1, h2, nx, hz, q⟩ => ⟨a, b, xs, ys, e1, e2, h1.sq, h2, sz hz, fun e => absurd e nx, fun _ e => by subst e; exact q a H (fun _ => G.refl) (by rw [List.append_nil]; exact h1), fun _ _ p H2 _ g f => q p H2 g f⟩
theorem k_catFr (K : PySem.W.Frag) {X : Cx} (hK : X.K = K := by rfl) : OpR X (binaryOp .Add) (rCatFr K) := by
  subst hK
  exact op_catFr
theorem k_catFl (K : PySem.W.Frag) {X : Cx} (hK : X.K = K := by rfl) : OpR X (binaryOp .Add) (rCatFl K) := by
  subst hK
  exact op_catFl
theorem FrzT.upd {H : Hp} {D a : Addr} {ys xs : List V} {u : HO} (hD : H D = some (.lst ys)) (h : FrzT H a xs) : FrzT (upd H D u) a xs := by
  obtain ⟨ob, h, d⟩ := h
  refine ⟨ob, ?_, d⟩
  rw [upd_ne]
  · exact h
  · intro e
    rw [e, hD] at h
    cases h
/-- tuples of ints, each told -/
def Ords (H : Hp) (ps : List Addr) (os : List (List Int)) : Prop := ps.length = os.length ∧ ∀ (i : Nat) (p : Addr) (o : List Int), ps[i]? = some p → os[i]? = some o → FrzT H p (o.map V.int)
theorem Ords.nil {H : Hp} : Ords H [] [] := ⟨rfl, fun i p o e => by simp at e⟩
theorem Ords.n {H H' : Hp} {ps : List Addr} {os : List (List Int)} (h : Ords H ps os) (g : G none H H') : Ords H' ps os := ⟨h.1, fun i p o e1 e2 => (h.2 i p o e1 e2).n g⟩
theorem Ords.upd {H : Hp} {D : Addr} {ys : List V} {u : HO} {ps : List Addr} {os : List (List Int)} (h : Ords H ps os) (hD : H D = some (.lst ys)) : Ords (upd H D u) ps os := ⟨h.1, fun i p o e1 e2 => (h.2 i p o e1 e2).upd hD⟩
theorem Ords.app {H : Hp} {ps qs : List Addr} {os us : List (List Int)} (h : Ords H ps os) (h2 : Ords H qs us) : Ords H (ps ++ qs) (os ++ us) := by
  refine ⟨by rw [List.length_append, List.length_append, h.1, h2.1], fun i p o e1 e2 => ?_⟩
  have e := h.1
  by_cases c : i < ps.length
  · rw [List.getElem?_append_left c] at e1
    rw [List.getElem?_append_left (by omega)] at e2
    exact h.2 i p o e1 e2
  · rw [List.getElem?_append_right (by omega)] at e1 e2
    rw [← e] at e2
    exact h2.2 _ p o e1 e2
theorem Ords.one {H : Hp} {p : Addr} {o : List Int} (h : FrzT H p (o.map V.int)) : Ords H [p] [o] := ⟨rfl, fun i q u e1 e2 => by
  match i with
  | 0 => cases e1; cases e2; exact h
  | i + 1 => simp at e1⟩
/-! the orders of some things -/
def insA (x : Int) (o : List Int) : List (List Int) := (List.range (o.length + 1)).map fun k => o.take k ++ x :: o.drop k
def ordN (xs : List Int) (i : Nat) : List (List Int) := (xs.take i).foldl (fun fs x => fs.flatMap (insA x)) [[]]
def ords (xs : List Int) : List (List Int) := ordN xs xs.length
def fac : Nat → Nat
  | 0 => 1
  | n + 1 => fac n * (n + 1)
theorem ordN_succ {xs : List Int} {i : Nat} {x : Int} (h : xs[i]? = some x) : ordN xs (i + 1) = (ordN xs i).flatMap (insA x) := by
  unfold ordN
  rw [List.take_add_one, h, List.foldl_append]
  rfl
theorem insA_perm {x : Int} {o u : List Int} (h : u ∈ insA x o) : u.Perm (x :: o) := by
  unfold insA at h
  obtain ⟨k, _, rfl⟩ := List.mem_map.mp h
  have := List.perm_middle (a := x) (l₁ := o.take k) (l₂ := o.drop k)
  rwa [List.take_append_drop] at this
theorem insA_len {x : Int} {o : List Int} : (insA x o).length = o.length + 1 := by unfold insA; simp
theorem ordN_perm {xs : List Int} : ∀ (i : Nat), i ≤ xs.length → ∀ o ∈ ordN xs i, o.Perm (xs.take i)
  | 0, _, o, h => by
    unfold ordN at h
    simp at h
    subst h
    simp
  | i + 1, hi, o, h => by
    rw [ordN_succ (List.getElem?_eq_getElem (by omega : i < xs.length))] at h
    obtain ⟨u, hu, ho⟩ := List.mem_flatMap.mp h
    have p := ordN_perm i (by omega) u hu
    rw [List.take_add_one, List.getElem?_eq_getElem (by omega : i < xs.length)]
    exact (insA_perm ho).trans ((p.cons _).trans (List.perm_append_singleton _ _).symm)
theorem flat_len {x : Int} {n : Nat} : ∀ (fs : List (List Int)), (∀ o ∈ fs, o.length = n) → (fs.flatMap (insA x)).length = fs.length * (n + 1)
  | [], _ => by simp
  | o :: fs, h => by
    rw [List.flatMap_cons, List.length_append, insA_len, flat_len fs (fun u hu => h u (List.mem_cons_of_mem _ hu)), h o (List.mem_cons_self ..), List.length_cons, Nat.succ_mul]
    omega
theorem ordN_len {xs : List Int} : ∀ (i : Nat), i ≤ xs.length → (ordN xs i).length = fac i
  | 0, _ => rfl
  | i + 1, hi => by
    rw [ordN_succ (List.getElem?_eq_getElem (by omega : i < xs.length)), flat_len (n := i) _ (fun o ho => by
      have := (ordN_perm i (by omega) o ho).length_eq
      rw [this, List.length_take]
      omega), ordN_len i (by omega)]
    rfl
theorem ords_perm {xs o : List Int} (h : o ∈ ords xs) : o.Perm xs := by
  have := ordN_perm xs.length (Nat.le_refl _) o h
  rwa [List.take_length] at this
theorem fac_le : ∀ {i : Nat}, i ≤ 6 → fac i ≤ 720 := by decide
theorem fac_pos : ∀ (i : Nat), 0 < fac i
  | 0 => by decide
  | i + 1 => Nat.mul_pos (fac_pos i) (by omega)
theorem k_slQ (K : PySem.W.Frag) {X : Cx} (hK : X.K = K := by rfl) : SlR X (rSlQ K) := by
  subst hK
  exact sl_tupQ
theorem cut_to (xs : List V) (k : Nat) : cutV xs none (some (k : Int)) = xs.take k := by
  unfold cutV
  rw [HT.sIx_none, HT.sIx_nat, List.drop_zero, Nat.sub_zero]
  by_cases h : k ≤ xs.length
  · rw [Nat.min_eq_left h]
  · rw [Nat.min_eq_right (by omega), List.take_length, List.take_of_length_le (by omega)]
theorem cut_from (xs : List V) (k : Nat) : cutV xs (some (k : Int)) none = xs.drop k := by
  unfold cutV
  rw [HT.sIx_none, HT.sIx_nat]
  by_cases h : k ≤ xs.length
  · rw [Nat.min_eq_left h, List.take_of_length_le (by rw [List.length_drop]; omega)]
  · rw [Nat.min_eq_right (by omega), List.drop_of_length_le (i := xs.length) (by omega), List.drop_of_length_le (by omega), List.take_nil]
end GA
/-! ## K33 -/
section
open PySem L2 GA
local macro_rules
  | `(tactic| walk_at "w") => `(tactic| first
    | ((with_reducible refine' GA.w_var ?e ?_); (case e => exact rfl))
    | (with_reducible refine' GA.w_c ?_)
    | (with_reducible refine' GA.w_cons ?_)
    | (with_reducible refine' GA.w_nil ?_)
    | (with_reducible refine' GA.w_op ?_)
    | (with_reducible refine' GA.r_I0 ?_)
    | (with_reducible refine' GA.w_bl ?_)
    | (with_reducible refine' GA.w_seq ?_)
    | (with_reducible refine' GA.w_set ?_)
    | (with_reducible refine' GA.w_ret ?_)
    | (with_reducible refine' GA.w_ifS ?_)
    | (with_reducible refine' GA.w_test ?_)
    | (with_reducible refine' GA.w_tB ?_)
    | (with_reducible refine' GA.w_not ?_)
    | (with_reducible refine' GA.w_and ?_)
    | (with_reducible refine' GA.w_or ?_)
    | (with_reducible refine' GA.w_andV ?_)
    | (with_reducible refine' GA.w_orV ?_)
    | (with_reducible refine' GA.w_notV ?_)
    | (with_reducible refine' GA.w_blc ?_)
    | (with_reducible refine' GA.w_if ?_)
    | (with_reducible refine' GA.w_CB ?_)
    | (with_reducible refine' GA.w_call ?_)
    | (with_reducible refine' GA.w_tupN ?_)
    | (with_reducible refine' GA.w_lstN ?_)
    | (with_reducible refine' GA.w_chain ?_)
    | (with_reducible refine' GA.w_drop ?_)
    | (with_reducible refine' GA.w_next ?_)
    | (with_reducible refine' GA.w_break ?_)
    | (with_reducible refine' GA.w_un ?_)
    | (with_reducible refine' GA.r_U ?_)
    | (with_reducible refine' GA.r_eqI ?_)
    | (with_reducible refine' GA.r_neI ?_)
    | (with_reducible refine' GA.r_eqB ?_)
    | (with_reducible refine' GA.r_neB ?_)
    | (with_reducible refine' GA.w_fld ?_)
    | (with_reducible refine' GA.w_sfld ?_)
    | (with_reducible refine' GA.w_sl ?_)
    | (with_reducible refine' GA.w_part ?_)
    | (with_reducible refine' GA.w_noPart ?_)
    | (with_reducible refine' GA.w_inti ?_)
    | (with_reducible refine' GA.w_retN ?_)
    | (with_reducible refine' GA.w_gsub ?_)
    | (with_reducible refine' GA.w_gname ?_)
    | (with_reducible refine' L2.iteT ?_)
    | (with_reducible refine' L2.iteF ?_)
    | (with_reducible refine' GA.w_nt ?_)
    | (with_reducible refine' GA.w_nf ?_)
    | (with_reducible refine' GA.w_isN ?_)
    | (with_reducible refine' GA.w_notN ?_)
    | (with_reducible refine' GA.w_yes ?_)
    | (with_reducible refine' GA.w_lc ?_)
    | (with_reducible refine' GA.w_lc2 ?_)
    | (with_reducible refine' GA.w_iseq ?_)
    | (with_reducible refine' GA.w_make ?_)
    | (with_reducible refine' GA.w_for ?_)
    | (with_reducible refine' GA.w_rng1 ?_)
    | (with_reducible refine' GA.w_rng2 ?_)
    | (with_reducible refine' GA.w_itup ?_)
    | (with_reducible refine' GA.w_ilist ?_)
    | (with_reducible refine' GA.w_ienum ?_)
    | (with_reducible refine' GA.w_BM ?_)
    | (with_reducible refine' GA.w_BM0 ?_)
    | (with_reducible refine' GA.w_izip ?_)
    | (with_reducible refine' GA.w_asg ?_))
  | `(tactic| walk_at "wm") => `(tactic| first
    | ((with_reducible refine' GA.w_var ?e ?_); (case e => exact rfl))
    | (with_reducible refine' GA.w_c ?_)
    | (with_reducible refine' GA.w_cons ?_)
    | (with_reducible refine' GA.w_nil ?_)
    | (with_reducible refine' GA.w_op ?_)
    | (with_reducible refine' GA.r_I0 ?_)
    | (with_reducible refine' GA.w_bl ?_)
    | (with_reducible refine' GA.w_set ?_)
    | (with_reducible refine' GA.w_ret ?_)
    | (with_reducible refine' GA.w_ifS ?_)
    | (with_reducible refine' GA.w_test ?_)
    | (with_reducible refine' GA.w_tB ?_)
    | (with_reducible refine' GA.w_not ?_)
    | (with_reducible refine' GA.w_and ?_)
    | (with_reducible refine' GA.w_or ?_)
    | (with_reducible refine' GA.w_andV ?_)
    | (with_reducible refine' GA.w_orV ?_)
    | (with_reducible refine' GA.w_notV ?_)
    | (with_reducible refine' GA.w_blc ?_)
    | (with_reducible refine' GA.w_if ?_)
    | (with_reducible refine' GA.w_CB ?_)
    | (with_reducible refine' GA.w_call ?_)
    | (with_reducible refine' GA.w_tupN ?_)
    | (with_reducible refine' GA.w_lstN ?_)
    | (with_reducible refine' GA.w_chain ?_)
    | (with_reducible refine' GA.w_drop ?_)
    | (with_reducible refine' GA.w_next ?_)
    | (with_reducible refine' GA.w_break ?_)
    | (with_reducible refine' GA.w_un ?_)
    | (with_reducible refine' GA.r_U ?_)
    | (with_reducible refine' GA.r_eqI ?_)
    | (with_reducible refine' GA.r_neI ?_)
    | (with_reducible refine' GA.r_eqB ?_)
    | (with_reducible refine' GA.r_neB ?_)
    | (with_reducible refine' GA.w_fld ?_)
    | (with_reducible refine' GA.w_sfld ?_)
    | (with_reducible refine' GA.w_sl ?_)
    | (with_reducible refine' GA.w_part ?_)
    | (with_reducible refine' GA.w_noPart ?_)
    | (with_reducible refine' GA.w_inti ?_)
    | (with_reducible refine' GA.w_retN ?_)
    | (with_reducible refine' GA.w_gsub ?_)
    | (with_reducible refine' GA.w_gname ?_)
    | (with_reducible refine' L2.iteT ?_)
    | (with_reducible refine' L2.iteF ?_)
    | (with_reducible refine' GA.w_nt ?_)
    | (with_reducible refine' GA.w_nf ?_)
    | (with_reducible refine' GA.w_isN ?_)
    | (with_reducible refine' GA.w_notN ?_)
    | (with_reducible refine' GA.w_yes ?_)
    | (with_reducible refine' GA.w_lc ?_)
    | (with_reducible refine' GA.w_lc2 ?_)
    | (with_reducible refine' GA.w_iseq ?_)
    | (with_reducible refine' GA.w_make ?_)
    | (with_reducible refine' GA.w_for ?_)
    | (with_reducible refine' GA.w_rng1 ?_)
    | (with_reducible refine' GA.w_rng2 ?_)
    | (with_reducible refine' GA.w_itup ?_)
    | (with_reducible refine' GA.w_ilist ?_)
    | (with_reducible refine' GA.w_ienum ?_)
    | (with_reducible refine' GA.w_BM ?_)
    | (with_reducible refine' GA.w_BM0 ?_)
    | (with_reducible refine' GA.w_izip ?_)
    | (with_reducible refine' GA.w_asg ?_))
  | `(tactic| walk_at "ws") => `(tactic| repeat (walk_at "w"))
  | `(tactic| walk_at "wn") => `(tactic| repeat (walk_at "wm"))


namespace Mine
section
variable {P : Program} {w : World} {K : PySem.W.Frag} {mg : Str → Option Value} {base : Heap} {a : Ads}

/-! ### texts read -/
open TL
theorem new_b {H H1 : Hp} {l : Addr} (g : G none H H1) (h : H1 l = none) : H l = none := by
  cases e : H l with
  | none => rfl
  | some u => rw [g.all _ _ e] at h; cases h
theorem w_ienum {K : PySem.W.Frag} {ta : TA} {σ : L2.St} {H : Hp} {R : It → Hp → Prop} (q : ta σ H fun vs H1 => ∃ a xs, vs = [.ref a] ∧ SqL K H1 a xs ∧ R (Ite K a) H1) : iEnum K ta σ H R := q
def sp_lines_in : Sp := fun vs H Q _ => ∃ t : PySem.Str, vs = [.str t] ∧ t.length ≤ 100000 ∧ ∀ p H', H p = none → G none H H' → H' p = some (.lst ((PySem.Txt.split t "\n").map V.str)) → Q (.ref p) H'
theorem ok_lines_in (T : Txt K mg a) : FnOk P w K mg base CX0 1 a.f_lines_in a.d_lines_in P_lines_in sp_lines_in := by
  refine T.F_lines_in.ok sc_lines_in (fun vs H Q E h => by obtain ⟨t, rfl, _⟩ := h; rfl) (fun cdv A outer s H vs Q E hr h => ?_)
  obtain ⟨t, rfl, tl, k⟩ := h
  refine ⟨_, (pss_cons (ps_if (pt_not (pt_val (pe_callB call_isi (by rfl) T.n_isinstance (by decide +kernel) (pa_cons (pv 0) (pa_cons (pe_bltn (v := .ty "str") (u := .type "str") rfl T.n_str (by decide +kernel) rfl) pa_nil)))))
    pss_never
    pss_nil)
  (pss_one (ps_ret (pe_split (pv 0) pe_str)))), ?_⟩
  walk_at "ws"
  refine r_isi (ty_of (.str t)) (kit_ty (a := "str") (b := "str") (r := true) (by decide +kernel)) ?_
  refine ⟨true, rfl, ?_⟩
  walk_at "ws"
  refine w_m1 ?_
  walk_at "ws"
  refine ⟨⟨_, rfl⟩, ?_⟩
  walk_at "ws"
  refine ⟨_, _, rfl, rfl, by decide +kernel, Nat.le_trans (by omega : t.length + 2 ≤ 100002) (by decide), fun p hp => ?_⟩
  exact k p _ hp (G.alloc hp) upd_same
def sp_check_end (K : PySem.W.Frag) : Sp := fun vs H Q _ => ∃ (p : Addr) (ls : List PySem.Str), vs = [.ref p] ∧ SqL K H p ((ls ++ [("" : PySem.Str)]).map V.str) ∧ ls ≠ [] ∧ ls.length ≤ 1000 ∧ Q .non H
theorem ok_check_end (T : Txt K mg a) : FnOk P w K mg base CX0 1 a.f_check_end a.d_check_end P_check_end (sp_check_end K) := by
  refine T.F_check_end.ok sc_check_end (fun vs H Q E h => by obtain ⟨p, ls, rfl, _⟩ := h; rfl) (fun cdv A outer s H vs Q E hr h => ?_)
  obtain ⟨p, ls, rfl, hp, ne, l1000, k⟩ := h
  refine ⟨_, (pss_one (ps_if (L2.PW.pt (pw_or (pt_cmpR op_ne (pe_ix ix_list (pv 0) (pe_un un_neg pe_int) (fun _ _ => rfl)) pe_str (nomark _)) (pw_or1 (pt_cmpR op_eq (pe_callB call_len_seq (by rfl) T.n_len (by decide +kernel) (pa_cons (pv 0) pa_nil)) pe_int (nomark _)))))
    pss_never
    pss_nil)), ?_⟩
  walk_at "ws"
  have el : (ls ++ [("" : PySem.Str)]).map V.str = ls.map V.str ++ [V.str ""] := by rw [List.map_append]; rfl
  refine ⟨p, _, _, .str "", rfl, rfl, hp, by rw [el]; exact atI_last .., ?_⟩
  walk_at "ws"
  refine ⟨rfl, false, by simp, ?_⟩
  walk_at "ws"
  refine ⟨p, _, rfl, .inl hp, ?_⟩
  walk_at "ws"
  have lp := List.length_pos_iff.mpr ne
  refine w_iteN (decide_eq_false (by rw [List.length_map, List.length_append]; simp; omega)) ?_
  walk_at "ws"
  exact k
/-- a form: a word, how many numbers or None -/
def FormAt (K : PySem.W.Frag) (H : Hp) (f : Addr) (wd : PySem.Str) (mv : V) : Prop := SqT K H f [.str wd, mv]
def sp_numbers_behind (K : PySem.W.Frag) : Sp := fun vs H Q _ => ∃ (f p : Addr) (wd : PySem.Str) (mv : V) (ns : List Int), vs = [.ref f, .ref p] ∧ FormAt K H f wd mv ∧ SqL K H p ((wd :: ns.map sI).map V.str) ∧ Small ns ∧ ns.length ≤ 40 ∧ (mv = .non ∨ mv = .int (ns.length : Nat)) ∧
  ∀ D H', H D = none → G none H H' → H' D = some (.lst (ns.map V.int)) → Q (.ref D) H'
theorem ok_numbers_behind (T : Txt K mg a) : FnOk P w K mg base CX0 3 a.f_numbers_behind a.d_numbers_behind P_numbers_behind (sp_numbers_behind K) := by
  refine T.F_numbers_behind.ok sc_numbers_behind (fun vs H Q E h => by obtain ⟨f, p, wd, mv, ns, rfl, _⟩ := h; rfl) (fun cdv A outer s H vs Q E hr h => ?_)
  obtain ⟨f, p, wd, mv, ns, rfl, hf, hp, sm, h40, hm, k⟩ := h
  have G_numbers_in : FnOk P w K mg base CX0 2 a.f_numbers_in a.d_numbers_in P_numbers_in (sp_numbers_in K) := ok_numbers_in T
  refine ⟨_, (pss_cons (ps_asg (pv 0) (pg_tup rfl (pgs_cons (pg_name (i := 2) sc_numbers_behind.nd rfl (Or.inl rfl)) (pgs_cons (pg_name (i := 3) sc_numbers_behind.nd rfl (Or.inl rfl)) pgs_nil))))
  (pss_cons (ps_set (i := 4) sc_numbers_behind.nd rfl (Or.inl rfl) (pe_call (G_numbers_in) (hr.mono (by omega)) rfl T.m_numbers_in T.F_numbers_in.kp T.b_numbers_in .nil pass0 (pa_cons (pe_slice sl_list (pv 1) (po_some pe_int) po_none) pa_nil)))
  (pss_cons (ps_if (L2.PW.pt (pw_or (pt_cmpR op_ne (pe_ix ix_list (pv 1) pe_int (fun _ _ => rfl)) (pv 2) (nomark _)) (pw_or (pt_cmp (pc_isN (pv 4))) (pw_or1 (L2.PW.pt (pw_and (pt_cmp (pc_notN (pv 3))) (pw_and1 (pt_cmpR op_ne (pe_callB call_len_seq (by rfl) T.n_len (by decide +kernel) (pa_cons (pv 4) pa_nil)) (pv 3) (nomark _)))))))))
    (pss_one (ps_ret pe_non))
    pss_nil)
  (pss_one (ps_ret (pv 4)))))), ?_⟩
  walk_at "ws"
  refine ⟨f, _, rfl, hf, rfl, ?_⟩
  refine ⟨_, _, rfl, ?_⟩
  walk_at "ws"
  refine ⟨_, _, rfl, ?_⟩
  walk_at "ws"
  refine ⟨rfl, ?_⟩
  walk_at "ws"
  refine ⟨p, _, rfl, hp, fun q hq => ?_⟩
  rw [show cutV ((wd :: ns.map sI).map V.str) (some 1) none = (ns.map sI).map V.str from by
    rw [show (1 : Int) = ((1 : Nat) : Int) from rfl, GA.cut_from]
    rfl]
  have g1 : G none H (upd H q (.lst ((ns.map sI).map V.str))) := G.alloc hq
  have h1 : (upd H q (.lst ((ns.map sI).map V.str))) q = some (.lst ((ns.map sI).map V.str)) := upd_same
  generalize upd H q (.lst ((ns.map sI).map V.str)) = H1 at g1 h1 ⊢
  walk_at "ws"
  refine ⟨q, ns, rfl, SqL.of h1, sm, by omega, fun D H2 hD g2 h2 => ?_⟩
  have g02 := g1.trans g2
  walk_at "ws"
  refine ⟨p, _, _, .str wd, rfl, rfl, sqL_n g02 hp, at_of (j := 0) (by omega) rfl, ?_⟩
  walk_at "ws"
  refine ⟨rfl, false, by simp, ?_⟩
  walk_at "ws"
  refine w_iteN (by simp) ?_
  have hD0 := new_b g1 hD
  rcases hm with rfl | rfl
  · walk_at "ws"
    refine w_iteN (by simp) ?_
    walk_at "ws"
    exact k D H2 hD0 g02 h2
  · walk_at "ws"
    refine w_iteE (by simp) ?_
    walk_at "ws"
    refine ⟨D, _, rfl, .inl (SqL.of h2), ?_⟩
    walk_at "ws"
    rw [List.length_map]
    refine w_iteN (by simp) ?_
    walk_at "ws"
    exact k D H2 hD0 g02 h2

end
end Mine
/-! ## K34 -/


namespace Mine
section
variable {P : Program} {w : World} {K : PySem.W.Frag} {mg : Str → Option Value} {base : Heap} {a : Ads}

/-! ### texts read, line by line -/
open TL
theorem cut_last8 (xs : List V) (v : V) : cutV (xs ++ [v]) none (some (-1)) = xs := by
  unfold cutV
  have e1 : HT.sIx (xs ++ [v]).length 0 none = 0 := rfl
  have e2 : HT.sIx (xs ++ [v]).length (xs ++ [v]).length (some (-1)) = xs.length := by
    show (if (-1 : Int) < 0 then ((-1 : Int) + ((xs ++ [v]).length : Int)).toNat else min (-1 : Int).toNat (xs ++ [v]).length) = _
    rw [if_pos (by decide), List.length_append, List.length_singleton]
    omega
  rw [e1, e2, List.drop_zero, Nat.sub_zero, List.take_left]

theorem w_ifE {b : Bool} {t u : TE} {σ : L2.St} {H : Hp} {Q : VK} (M : V → Hp → Prop) (h1 : ∀ N : VK, (∀ v H', M v H' → N v H') → if b = true then t σ H N else u σ H N) (h2 : ∀ v H', M v H' → Q v H') : if b = true then t σ H Q else u σ H Q := h1 Q h2
def sp_numbers_by_line (K : PySem.W.Frag) : Sp := fun vs H Q _ => ∃ (fa fb : Addr) (h wd : PySem.Str) (m1 m2 : V) (ns : List Int) (rows : List (List Int)), vs = [.str (textS h ns wd rows), .ref fa, .ref fb] ∧ FormAt K H fa h m1 ∧ FormAt K H fb wd m2 ∧
  (h.length ≤ 8 ∧ 10 ∉ tl h ∧ 32 ∉ tl h) ∧ (wd.length ≤ 8 ∧ 10 ∉ tl wd ∧ 32 ∉ tl wd) ∧ Small ns ∧ ns.length ≤ 40 ∧ SmallR rows ∧ (m1 = .non ∨ m1 = .int (ns.length : Nat)) ∧ (∀ r ∈ rows, m2 = .non ∨ m2 = .int (r.length : Nat)) ∧
  ∀ D ps H', H D = none → G none H H' → H' D = some (.lst (ps.map V.ref)) → Ords H' ps (ns :: rows) → Q (.ref D) H'
theorem ok_numbers_by_line (T : Txt K mg a) : FnOk P w K mg base CX0 4 a.f_numbers_by_line a.d_numbers_by_line P_numbers_by_line (sp_numbers_by_line K) := by
  refine T.F_numbers_by_line.ok sc_numbers_by_line (fun vs H Q E h => by obtain ⟨fa, fb, h, wd, m1, m2, ns, rows, rfl, _⟩ := h; rfl) (fun cdv A outer s H vs Q E hr h => ?_)
  obtain ⟨fa, fb, h, wd, m1, m2, ns, rows, rfl, hfa, hfb, ⟨h8, hn, hs⟩, ⟨w8, wn, wsp⟩, sm, h40, ⟨r50, smr⟩, hm1, hm2, k⟩ := h
  have G_lines_in : FnOk P w K mg base CX0 1 a.f_lines_in a.d_lines_in P_lines_in sp_lines_in := ok_lines_in T
  have G_numbers_behind : FnOk P w K mg base CX0 3 a.f_numbers_behind a.d_numbers_behind P_numbers_behind (sp_numbers_behind K) := ok_numbers_behind T
  have G_check_end : FnOk P w K mg base CX0 1 a.f_check_end a.d_check_end P_check_end (sp_check_end K) := ok_check_end T
  have spl := lines_of (h := h) (w := wd) hn wn sm (fun r hr => (smr r hr).1)
  have tlen := (text_len h8 sm h40 w8 smr r50).1
  refine ⟨_, (pss_cons (ps_set (i := 3) sc_numbers_by_line.nd rfl (Or.inl rfl) (pe_call (G_lines_in) (hr.mono (by omega)) rfl T.m_lines_in T.F_lines_in.kp T.b_lines_in .nil pass0 (pa_cons (pv 0) pa_nil)))
  (pss_cons (ps_set (i := 4) sc_numbers_by_line.nd rfl (Or.inl rfl) (pe_lstN pa_nil))
  (pss_cons (ps_for PassesOwn.never rfl (pi_enum (by rfl) T.n_enumerate (pa_cons (pe_slice sl_list (pv 3) po_none (po_some (pe_un un_neg pe_int))) pa_nil)) (pg_tup rfl (pgs_cons (pg_name (i := 5) sc_numbers_by_line.nd rfl (Or.inl rfl)) (pgs_cons (pg_name (i := 6) sc_numbers_by_line.nd rfl (Or.inl rfl)) pgs_nil)))
    (pss_cons (ps_set (i := 7) sc_numbers_by_line.nd rfl (Or.inl rfl) (pe_call (G_numbers_behind) (hr.mono (by omega)) rfl T.m_numbers_behind T.F_numbers_behind.kp T.b_numbers_behind .nil pass0 (pa_cons (pe_ifExp (pt_cmpR op_eq (pv 5) pe_int (nomark _)) (pv 1) (pv 2)) (pa_cons (pe_split (pv 6) pe_str) pa_nil))))
  (pss_cons (ps_if (pt_cmp (pc_isN (pv 7)))
    pss_never
    pss_nil)
  (pss_one (ps_expr (pe_bm PySem.F.plainAttrs_list PySem.F.slot_list_append PySem.F.type_list_append mt_append (pv 4) (pa_cons (pe_callTy call_tupleF (by rfl) T.n_tuple (by decide +kernel) (pa_cons (pv 7) pa_nil)) pa_nil)))))))
  (pss_cons (ps_expr (pe_call (G_check_end) (hr.mono (by omega)) rfl T.m_check_end T.F_check_end.kp T.b_check_end .nil pass0 (pa_cons (pv 3) pa_nil)))
  (pss_one (ps_ret (pv 4))))))), ?_⟩
  walk_at "ws"
  refine ⟨_, rfl, by omega, fun L H1 hL g1 h1 => ?_⟩
  rw [spl] at h1
  generalize eLS : linesOf h ns wd rows = LS at h1
  have LSl : LS.length = rows.length + 1 := by rw [← eLS]; unfold linesOf; simp
  walk_at "ws"
  refine ⟨sz (by simp), fun D H2 hD g2 h2 => ?_⟩
  have h2L := (g2 none).all _ _ h1
  have g02 := g1.trans (g2 none)
  walk_at "ws"
  refine w_ienum ?_
  walk_at "ws"
  refine ⟨L, _, rfl, SqL.of h2L, fun q hq => ?_⟩
  have el : (LS ++ [("" : PySem.Str)]).map V.str = LS.map V.str ++ [V.str ""] := by rw [List.map_append]; rfl
  rw [el, cut_last8]
  have g3 : G none H2 (upd H2 q (.lst (LS.map V.str))) := G.alloc hq
  have h3 : (upd H2 q (.lst (LS.map V.str))) q = some (.lst (LS.map V.str)) := upd_same
  generalize upd H2 q (.lst (LS.map V.str)) = H3 at g3 h3 ⊢
  have g03 := g02.trans g3
  have h3D := g3.all _ _ h2
  refine ⟨q, _, rfl, SqL.of h3, ?_⟩
  have new_l : H1 D = none := hD
  have nqD : D ≠ q := ne_of_none h2 hq
  refine for_it (walk_enum (xs := LS.map V.str)) (fun i σ H' => ∃ u5 u6 u7 ps, σ = [some (.str (textS h ns wd rows)), some (.ref fa), some (.ref fb), some (.ref L), some (.ref D), u5, u6, u7] ∧ G none H1 H' ∧ H' q = some (.lst (LS.map V.str)) ∧ H' D = some (.lst (ps.map V.ref)) ∧ Ords H' ps ((ns :: rows).take i)) ⟨_, _, _, [], rfl, (g2 none).trans g3, h3, h3D, Ords.nil⟩ (fun i σ H' _ ⟨_, _, _, _, _, _, q, _⟩ => SqL.of q) ?_ ?_
  · rintro i v σ H4 H5 hi ⟨u5, u6, u7, ps, rfl, g4, hq4, hD4, O4⟩ ⟨t, y, z, rfl, ht, rfl, ey, ez⟩
    cases Option.some.inj ey
    rw [List.length_map] at hi
    have g5 : G none H4 (upd H4 t (.tup [.int (i : Nat), z])) := G.alloc ht
    refine ⟨t, _, rfl, SqT.of upd_same, rfl, ?_⟩
    refine ⟨_, _, rfl, ?_⟩
    walk_at "ws"
    refine ⟨_, _, rfl, ?_⟩
    walk_at "ws"
    refine ⟨rfl, ?_⟩
    generalize upd H4 t (.tup [.int (i : Nat), z]) = H5 at g5 ⊢
    have g15 := g4.trans g5
    have ez : (LS.map V.str)[i]? = some z := ez
    rw [List.getElem?_map] at ez
    obtain ⟨line, hline, rfl⟩ := Option.map_eq_some_iff.mp ez
    obtain ⟨r, hr1⟩ : ∃ r, (ns :: rows)[i]? = some r := ⟨_, List.getElem?_eq_getElem (by rw [List.length_cons]; omega)⟩
    -- the form, the words
    obtain ⟨fm, wf, mf, efm, hfm, hline2, hmf, sr, l8, f32⟩ : ∃ (fm : Addr) (wf : PySem.Str) (mf : V), (if i = 0 then fa else fb) = fm ∧ FormAt K H5 fm wf mf ∧ line = lineB wf r ∧ (mf = .non ∨ mf = .int (r.length : Nat)) ∧ (Small r ∧ r.length ≤ 40) ∧ wf.length ≤ 8 ∧ 32 ∉ tl wf := by
      cases i with
      | zero =>
        cases hr1
        rw [← eLS] at hline
        cases hline
        exact ⟨fa, h, m1, rfl, sqT_t (g1.trans g15).tups hfa, rfl, hm1, ⟨sm, h40⟩, h8, hs⟩
      | succ i =>
        have hr1 : rows[i]? = some r := hr1
        rw [← eLS] at hline
        have hline : (rows.map (lineB wd))[i]? = some line := hline
        rw [List.getElem?_map, hr1] at hline
        have rm := List.mem_of_getElem? hr1
        exact ⟨fb, wd, m2, rfl, sqT_t (g1.trans g15).tups hfb, (Option.some.inj hline).symm, hm2 r rm, smr r rm, w8, wsp⟩
    subst hline2
    have ll := line_len l8 sr.1 sr.2
    walk_at "ws"
    refine w_ifE (fun v H' => v = .ref fm ∧ H' = H5) (fun N kN => ?_) ?_
    · refine w_ite (fun c0 => ?_) (fun c0 => ?_)
      · have c1 : (i : Int) = 0 := of_decide_eq_true c0
        rw [if_pos (show i = 0 by omega)] at efm
        subst efm
        walk_at "ws"
        exact kN _ _ ⟨rfl, rfl⟩
      · have c1 : ¬ (i : Int) = 0 := of_decide_eq_false c0
        rw [if_neg (show ¬ i = 0 by omega)] at efm
        subst efm
        walk_at "ws"
        exact kN _ _ ⟨rfl, rfl⟩
    · intro v' H' ⟨ev, eH⟩
      rw [ev, eH]
      walk_at "ws"
      refine w_m1 ?_
      walk_at "ws"
      refine ⟨⟨_, rfl⟩, ?_⟩
      walk_at "ws"
      refine ⟨_, _, rfl, rfl, by decide +kernel, Nat.le_trans (by have := ll.1; omega : (lineB wf r).length + 2 ≤ 402) (by decide), fun q2 hq2 => ?_⟩
      rw [words_of f32 sr.1]
      have g6 : G none H5 (upd H5 q2 (.lst ((wf :: r.map sI).map V.str))) := G.alloc hq2
      have h6 : (upd H5 q2 (.lst ((wf :: r.map sI).map V.str))) q2 = some (.lst ((wf :: r.map sI).map V.str)) := upd_same
      generalize upd H5 q2 (.lst ((wf :: r.map sI).map V.str)) = H6 at g6 h6 ⊢
      walk_at "ws"
      refine ⟨fm, q2, wf, mf, r, rfl, sqT_t g6.tups hfm, SqL.of h6, sr.1, sr.2, hmf, fun D2 H7 hD2 g7 h7 => ?_⟩
      walk_at "ws"
      refine w_iteN (by simp) ?_
      walk_at "ws"
      have g47 := g5.trans (g6.trans g7)
      have hD7 := g47.all _ _ hD4
      refine i_BM hD7 ?_
      walk_at "ws"
      refine ⟨D2, r.map V.int, rfl, SqL.of h7, fun p H8 hp g8 f8 => ?_⟩
      have hD8 := (g8 none).all _ _ hD7
      have pl : ps.length = i := by rw [O4.1, List.length_take, List.length_cons]; omega
      walk_at "ws"
      refine r_app hD8 (by rw [List.length_map]; omega) ?_
      walk_at "ws"
      refine ⟨_, _, _, ps ++ [p], rfl, ((g4.trans g47).trans (g8 none)).mut (new_l) (fun _ e => nomatch e), ?_, by rw [upd_same, List.map_append]; rfl, ?_⟩
      · rw [upd_ne (Ne.symm nqD)]
        exact (g8 none).all _ _ (g47.all _ _ hq4)
      · rw [List.take_add_one, hr1]
        exact (((O4.n g47).n (g8 none)).app (Ords.one f8)).upd hD8
  · rintro σ H4 ⟨u5, u6, u7, ps, rfl, g4, hq4, hD4, O4⟩
    rw [List.length_map, LSl, List.take_of_length_le (by rw [List.length_cons]; exact Nat.le_refl _)] at O4
    walk_at "ws"
    refine ⟨L, LS, rfl, SqL.of (g4.all _ _ h1), by intro z; rw [z] at LSl; simp at LSl, by omega, ?_⟩
    walk_at "ws"
    exact k D ps H4 (new_b g1 hD) (g1.trans g4) hD4 O4

end
end Mine
/-! ## K35 -/


namespace Mine
section
variable {P : Program} {w : World} {K : PySem.W.Frag} {mg : Str → Option Value} {base : Heap} {a : Ads}

/-! ### webs, records, halls read -/
open TL
theorem w6 : ("machines" : PySem.Str).length ≤ 8 ∧ 10 ∉ tl ("machines" : PySem.Str) ∧ 32 ∉ tl ("machines" : PySem.Str) := by decide +kernel
theorem w5 : ("wire" : PySem.Str).length ≤ 8 ∧ 10 ∉ tl ("wire" : PySem.Str) ∧ 32 ∉ tl ("wire" : PySem.Str) := by decide +kernel
theorem w4 : ("writers" : PySem.Str).length ≤ 8 ∧ 10 ∉ tl ("writers" : PySem.Str) ∧ 32 ∉ tl ("writers" : PySem.Str) := by decide +kernel
theorem w3 : ("diary" : PySem.Str).length ≤ 8 ∧ 10 ∉ tl ("diary" : PySem.Str) ∧ 32 ∉ tl ("diary" : PySem.Str) := by decide +kernel
theorem w2 : ("places" : PySem.Str).length ≤ 8 ∧ 10 ∉ tl ("places" : PySem.Str) ∧ 32 ∉ tl ("places" : PySem.Str) := by decide +kernel
theorem w1 : ("link" : PySem.Str).length ≤ 8 ∧ 10 ∉ tl ("link" : PySem.Str) ∧ 32 ∉ tl ("link" : PySem.Str) := by decide +kernel
theorem ords_dW {H : Hp} : ∀ {ps : List Addr} {us : List (Int × Int)}, Ords H ps (us.map prI) → DpAll K H (ps.map V.ref) (us.map dP)
  | [], [], _ => .nil
  | p :: ps, u :: us, h => .cons (.tup (h.2 0 p _ rfl rfl).sq (.cons (.int _) (.cons (.int _) .nil))) (ords_dW ⟨by have := h.1; simpa using this, fun i p o e1 e2 => h.2 (i + 1) p o (by simpa using e1) (by simpa using e2)⟩)
  | [], _ :: _, h => by have := h.1; simp at this
  | _ :: _, [], h => by have := h.1; simp at this
theorem abAll_ints {C hd : Addr} {H : Hp} : ∀ ns : List Int, AbAll C hd H (ns.map V.int) (ns.map Tg.int)
  | [] => .nil
  | n :: ns => .cons (.int n) (abAll_ints ns)
theorem rd_frz {H : Hp} {p : Addr} {xs : List V} (h : FrzT H p xs) : Rd H p (.tup xs) := by
  obtain ⟨ob, h, _⟩ := h
  exact .inr ⟨ob, h⟩
theorem ords_ab {C hd : Addr} {H : Hp} : ∀ {ps : List Addr} {us : List (Int × Int)}, Ords H ps (us.map prI) → AbAll C hd H (ps.map V.ref) (us.map tgP)
  | [], [], _ => .nil
  | p :: ps, u :: us, h => .cons (.tup (rd_frz (h.2 0 p _ rfl rfl)) (.cons (.int _) (.cons (.int _) .nil))) (ords_ab ⟨by have := h.1; simpa using this, fun i p o e1 e2 => h.2 (i + 1) p o (by simpa using e1) (by simpa using e2)⟩)
  | [], _ :: _, h => by have := h.1; simp at this
  | _ :: _, [], h => by have := h.1; simp at this
def sp_read_web (K : PySem.W.Frag) (C : Addr) : Sp := fun vs H Q _ => ∃ (m : Int) (ws : List (Int × Int)), vs = [.str (webS m ws)] ∧ Da.IsWeb m ws ∧ ∀ x H', G none H H' → Da.WebAt K C H' x m ws → Q (.ref x) H'
theorem ok_read_web (T : Txt K mg a) : FnOk P w K mg base CX0 9 a.f_read_web a.d_read_web P_read_web (sp_read_web K a.c_Web) := by
  refine T.F_read_web.ok sc_read_web (fun vs H Q E h => by obtain ⟨m, ws, rfl, _⟩ := h; rfl) (fun cdv A outer s H vs Q E hr h => ?_)
  obtain ⟨m, ws, rfl, web, k⟩ := h
  have G_numbers_by_line : FnOk P w K mg base CX0 4 a.f_numbers_by_line a.d_numbers_by_line P_numbers_by_line (sp_numbers_by_line K) := ok_numbers_by_line T
  have G_Web_init : FnOk P w K mg base CX0 7 a.f_Web_init a.d_Web_init P_Web_init (Da.sp_Web_init K a.c_Web) := Da.ok_Web_init T
  refine ⟨_, (pss_cons (ps_set (i := 1) sc_read_web.nd rfl (Or.inl rfl) (pe_call (G_numbers_by_line) (hr.mono (by omega)) rfl T.m_numbers_by_line T.F_numbers_by_line.kp T.b_numbers_by_line .nil pass0 (pa_cons (pv 0) (pa_cons (pe_tupN (pa_cons pe_str (pa_cons pe_int pa_nil))) (pa_cons (pe_tupN (pa_cons pe_str (pa_cons pe_int pa_nil))) pa_nil)))))
  (pss_one (ps_ret (pe_make T.K_Web (G_Web_init) (hr.mono (by omega)) rfl T.m_Web T.b_Web_init .nil pass0 (pa_cons (pe_ix ix_tup (pe_ix ix_list (pv 1) pe_int (fun _ _ => rfl)) pe_int (fun _ _ => rfl)) (pa_cons (pe_callTy call_tupleN (by rfl) T.n_tuple (by decide +kernel) (pa_cons (pe_slice sl_list (pv 1) (po_some pe_int) po_none) pa_nil)) pa_nil)))))), ?_⟩
  walk_at "ws"
  refine ⟨sz (by simp), fun fa H1 hfa g1 h1 => ?_⟩
  walk_at "ws"
  refine ⟨sz (by simp), fun fb H2 hfb g2 h2 => ?_⟩
  have hfa2 := (g2 none).all _ _ h1
  have sm := web_small web
  refine ⟨fa, fb, "machines", "wire", _, _, [m], ws.map prI, rfl, SqT.of hfa2, SqT.of h2, w6, w5, sm.1, by simp, sm.2, .inr rfl, fun r hr => ?_, fun D ps H3 hD g3 h3 O => ?_⟩
  · obtain ⟨u, _, rfl⟩ := List.mem_map.mp hr
    exact .inr rfl
  have g02 : G none H H3 := (g1 none).trans ((g2 none).trans g3)
  obtain ⟨p0, ps', rfl⟩ : ∃ p0 ps', ps = p0 :: ps' := by
    cases ps with
    | nil => have := O.1; simp at this
    | cons a b => exact ⟨a, b, rfl⟩
  have f0 := O.2 0 p0 _ rfl rfl
  have O' : Ords H3 ps' (ws.map prI) := ⟨by have := O.1; simpa using this, fun i p o e1 e2 => O.2 (i + 1) p o (by simpa using e1) (by simpa using e2)⟩
  walk_at "ws"
  refine ⟨D, _, 0, .ref p0, rfl, rfl, SqL.of h3, at_of (j := 0) (by omega) rfl, ?_⟩
  walk_at "ws"
  refine ⟨p0, _, 0, .int m, rfl, rfl, f0.sq, at_of (j := 0) (by omega) rfl, ?_⟩
  walk_at "ws"
  refine ⟨D, _, rfl, SqL.of h3, fun q hq => ?_⟩
  rw [show cutV ((p0 :: ps').map V.ref) (some 1) none = ps'.map V.ref from by
    rw [show (1 : Int) = ((1 : Nat) : Int) from rfl, GA.cut_from]
    rfl]
  have g4 : G none H3 (upd H3 q (.lst (ps'.map V.ref))) := G.alloc hq
  have h4 : (upd H3 q (.lst (ps'.map V.ref))) q = some (.lst (ps'.map V.ref)) := upd_same
  generalize upd H3 q (.lst (ps'.map V.ref)) = H4 at g4 h4 ⊢
  walk_at "ws"
  refine ⟨q, _, rfl, .inl ⟨SqL.of h4, fun t H5 ht g5 h5 => ?_⟩⟩
  have g35 := g4.trans (g5 none)
  have O5 := O'.n g35
  refine Da.web_new (.tup (SqT.of h5) (ords_dW O5)) web fun x H6 hx g6 hxw => ?_
  walk_at "ws"
  exact k x H6 (g02.trans (g35.trans (g6 none))) hxw
def sp_read_record (K : PySem.W.Frag) (C : Addr) : Sp := fun vs H Q _ => ∃ (ws : List Int) (ds : List (List Int)), vs = [.str (recS ws ds)] ∧ Da.IsRec ws ds ∧ ∀ x H', G none H H' → Da.RecAt K C H' x ws ds → Q (.ref x) H'
theorem ok_read_record (T : Txt K mg a) : FnOk P w K mg base CX0 9 a.f_read_record a.d_read_record P_read_record (sp_read_record K a.c_Record) := by
  refine T.F_read_record.ok sc_read_record (fun vs H Q E h => by obtain ⟨ws, ds, rfl, _⟩ := h; rfl) (fun cdv A outer s H vs Q E hr h => ?_)
  obtain ⟨ws, ds, rfl, rec, k⟩ := h
  have G_numbers_by_line : FnOk P w K mg base CX0 4 a.f_numbers_by_line a.d_numbers_by_line P_numbers_by_line (sp_numbers_by_line K) := ok_numbers_by_line T
  have G_Record_init : FnOk P w K mg base CX0 7 a.f_Record_init a.d_Record_init P_Record_init (Da.sp_Record_init K a.c_Record) := Da.ok_Record_init T
  refine ⟨_, (pss_cons (ps_set (i := 1) sc_read_record.nd rfl (Or.inl rfl) (pe_call (G_numbers_by_line) (hr.mono (by omega)) rfl T.m_numbers_by_line T.F_numbers_by_line.kp T.b_numbers_by_line .nil pass0 (pa_cons (pv 0) (pa_cons (pe_tupN (pa_cons pe_str (pa_cons pe_non pa_nil))) (pa_cons (pe_tupN (pa_cons pe_str (pa_cons pe_non pa_nil))) pa_nil)))))
  (pss_one (ps_ret (pe_make T.K_Record (G_Record_init) (hr.mono (by omega)) rfl T.m_Record T.b_Record_init .nil pass0 (pa_cons (pe_ix ix_list (pv 1) pe_int (fun _ _ => rfl)) (pa_cons (pe_callTy call_tupleN (by rfl) T.n_tuple (by decide +kernel) (pa_cons (pe_slice sl_list (pv 1) (po_some pe_int) po_none) pa_nil)) pa_nil)))))), ?_⟩
  walk_at "ws"
  refine ⟨sz (by simp), fun fa H1 hfa g1 h1 => ?_⟩
  walk_at "ws"
  refine ⟨sz (by simp), fun fb H2 hfb g2 h2 => ?_⟩
  have hfa2 := (g2 none).all _ _ h1
  have sm := rec_small rec
  refine ⟨fa, fb, "writers", "diary", _, _, ws, ds, rfl, SqT.of hfa2, SqT.of h2, w4, w3, sm.1, by have := rec.p30; omega, sm.2, .inl rfl, fun r hr => .inl rfl, fun D ps H3 hD g3 h3 O => ?_⟩
  have g02 : G none H H3 := (g1 none).trans ((g2 none).trans g3)
  obtain ⟨p0, ps', rfl⟩ : ∃ p0 ps', ps = p0 :: ps' := by
    cases ps with
    | nil => have := O.1; simp at this
    | cons a b => exact ⟨a, b, rfl⟩
  have f0 := O.2 0 p0 _ rfl rfl
  have O' : Ords H3 ps' ds := ⟨by have := O.1; simpa using this, fun i p o e1 e2 => O.2 (i + 1) p o (by simpa using e1) (by simpa using e2)⟩
  walk_at "ws"
  refine ⟨D, _, 0, .ref p0, rfl, rfl, SqL.of h3, at_of (j := 0) (by omega) rfl, ?_⟩
  walk_at "ws"
  refine ⟨D, _, rfl, SqL.of h3, fun q hq => ?_⟩
  rw [show cutV ((p0 :: ps').map V.ref) (some 1) none = ps'.map V.ref from by
    rw [show (1 : Int) = ((1 : Nat) : Int) from rfl, GA.cut_from]
    rfl]
  have g4 : G none H3 (upd H3 q (.lst (ps'.map V.ref))) := G.alloc hq
  have h4 : (upd H3 q (.lst (ps'.map V.ref))) q = some (.lst (ps'.map V.ref)) := upd_same
  generalize upd H3 q (.lst (ps'.map V.ref)) = H4 at g4 h4 ⊢
  walk_at "ws"
  refine ⟨q, _, rfl, .inl ⟨SqL.of h4, fun t H5 ht g5 h5 => ?_⟩⟩
  have g35 := g4.trans (g5 none)
  have O5 := O'.n g35
  refine Da.rec_new (f0.n g35).sq ⟨ps', SqT.of h5, O5.1, O5.2⟩ rec fun x H6 hx g6 hxr => ?_
  walk_at "ws"
  exact k x H6 (g02.trans (g35.trans (g6 none))) hxr
def sp_read_hall (K : PySem.W.Frag) (C : Addr) : Sp := fun vs H Q _ => ∃ (us : List (Int × Int)) (pl : List Int), vs = [.str (hallS us pl)] ∧ HallOk us pl ∧ ∀ x H', G none H H' → HallAt K C H' x us pl → Q (.ref x) H'
theorem ok_read_hall (T : Txt K mg a) : FnOk P w K mg base CX0 10 a.f_read_hall a.d_read_hall P_read_hall (sp_read_hall K a.c_Hall) := by
  refine T.F_read_hall.ok sc_read_hall (fun vs H Q E h => by obtain ⟨us, pl, rfl, _⟩ := h; rfl) (fun cdv A outer s H vs Q E hr h => ?_)
  obtain ⟨us, pl, rfl, ok, k⟩ := h
  have G_numbers_by_line : FnOk P w K mg base CX0 4 a.f_numbers_by_line a.d_numbers_by_line P_numbers_by_line (sp_numbers_by_line K) := ok_numbers_by_line T
  have G_Hall_init : FnOk P w K mg base (L2.CX P w) 8 a.f_Hall_init a.d_Hall_init P_Hall_init (sp_Hall_init a.c_Hall a.c_BadHall) := ok_Hall_init T
  refine ⟨_, (pss_cons (ps_set (i := 1) sc_read_hall.nd rfl (Or.inl rfl) (pe_call (G_numbers_by_line) (hr.mono (by omega)) rfl T.m_numbers_by_line T.F_numbers_by_line.kp T.b_numbers_by_line .nil pass0 (pa_cons (pv 0) (pa_cons (pe_tupN (pa_cons pe_str (pa_cons pe_non pa_nil))) (pa_cons (pe_tupN (pa_cons pe_str (pa_cons pe_int pa_nil))) pa_nil)))))
  (pss_one (ps_ret (pe_make T.K_Hall G_Hall_init (hr.mono (by omega)) rfl T.m_Hall T.b_Hall_init .nil passE0 (pa_cons (pe_callTy call_tupleN (by rfl) T.n_tuple (by decide +kernel) (pa_cons (pe_slice sl_list (pv 1) (po_some pe_int) po_none) pa_nil)) (pa_cons (pe_ix ix_list (pv 1) pe_int (fun _ _ => rfl)) pa_nil)))))), ?_⟩
  walk_at "ws"
  refine ⟨sz (by simp), fun fa H1 hfa g1 h1 => ?_⟩
  walk_at "ws"
  refine ⟨sz (by simp), fun fb H2 hfb g2 h2 => ?_⟩
  have hfa2 := (g2 none).all _ _ h1
  have sm := hall_small ok
  refine ⟨fa, fb, "places", "link", _, _, pl, us.map prI, rfl, SqT.of hfa2, SqT.of h2, w2, w1, sm.1, by have := ok.p7; omega, sm.2, .inl rfl, fun r hr => ?_, fun D ps H3 hD g3 h3 O => ?_⟩
  · obtain ⟨u, _, rfl⟩ := List.mem_map.mp hr
    exact .inr rfl
  have g02 : G none H H3 := (g1 none).trans ((g2 none).trans g3)
  obtain ⟨p0, ps', rfl⟩ : ∃ p0 ps', ps = p0 :: ps' := by
    cases ps with
    | nil => have := O.1; simp at this
    | cons a b => exact ⟨a, b, rfl⟩
  have f0 := O.2 0 p0 _ rfl rfl
  have O' : Ords H3 ps' (us.map prI) := ⟨by have := O.1; simpa using this, fun i p o e1 e2 => O.2 (i + 1) p o (by simpa using e1) (by simpa using e2)⟩
  walk_at "ws"
  refine ⟨D, _, rfl, SqL.of h3, fun q hq => ?_⟩
  rw [show cutV ((p0 :: ps').map V.ref) (some 1) none = ps'.map V.ref from by
    rw [show (1 : Int) = ((1 : Nat) : Int) from rfl, GA.cut_from]
    rfl]
  have g4 : G none H3 (upd H3 q (.lst (ps'.map V.ref))) := G.alloc hq
  have h4 : (upd H3 q (.lst (ps'.map V.ref))) q = some (.lst (ps'.map V.ref)) := upd_same
  generalize upd H3 q (.lst (ps'.map V.ref)) = H4 at g4 h4 ⊢
  walk_at "ws"
  refine ⟨q, _, rfl, .inl ⟨SqL.of h4, fun t H5 ht g5 h5 => ?_⟩⟩
  have g35 := g4.trans (g5 none)
  have O5 := O'.n g35
  walk_at "ws"
  have h5D := g35.all _ _ h3
  refine ⟨D, _, 0, .ref p0, rfl, rfl, SqL.of h5D, at_of (j := 0) (by omega) rfl, ?_⟩
  walk_at "ws"
  have hd0 := hdue_ok ok
  refine make_hall (hd := 0) (tm := tgW us) (tw := tgI pl) (.tup (.inl h5) (ords_ab O5)) (.tup (rd_frz (f0.n g35)) (abAll_ints pl)) (fun _ x dx H6 hx g6 h6 => ?_) (fun e ee => by rw [hd0] at ee; cases ee)
  walk_at "ws"
  have dw : Dp K H6 (.ref t) (dW us) := (dp_n (g6 none)).1 _ _ (.tup (SqT.of h5) (ords_dW O5))
  have di : Dp K H6 (.ref p0) (dI pl) := (dp_n (g6 none)).1 _ _ (dp_ofI (f0.n g35).sq)
  exact k x H6 (g02.trans (g35.trans (g6 none))) ⟨dx, t, p0, h6, dw, di⟩

end
end Mine
/-! ## K36 -/


namespace Mine
section
variable {P : Program} {w : World} {K : PySem.W.Frag} {mg : Str → Option Value} {base : Heap} {a : Ads}

/-! ### drawn webs, drawn records -/
open TL
theorem ords_h {H H' : Hp} {ps : List Addr} {os : List (List Int)} {hd c : Addr} (h : Ords H ps os) (g : G (some (hd, c)) H H') (hh : Hand H hd c) : Ords H' ps os := ⟨h.1, fun i p o e1 e2 => by
  obtain ⟨ob, q1, q2⟩ := h.2 i p o e1 e2
  refine ⟨ob, g.keep p _ (fun q e => ?_) q1, q2⟩
  cases e
  obtain ⟨_, _, _, _, _, _, z, _⟩ := hh
  exact ne_of q1 z (by intro z; cases z)⟩
theorem k_join (K : PySem.W.Frag) {X : Cx} {o e : Expr} {to te : TE} {apos pos : Pos} (ho : PE X o to) (he : PE X e te) (hK : X.K = K := by rfl) (hs : starEach [e] X.env = [(false, eval e X.env)] := by rfl) (hbase : attributeBase o "join" X.env (eval o X.env) = eval o X.env := by rfl) (hline : (apos.endLine == pos.line) = true := by rfl) :
    PE X (.Call (.Attribute o "join" apos) [e] [] pos) (tM1 (fun x xs H Q => ∃ a p, ∃ ys : List PySem.Str, x = .str a ∧ xs = [.ref p] ∧ (SqL K H p (ys.map V.str) ∨ SqT K H p (ys.map V.str)) ∧ (ys.map (·.length)).sum + ys.length * a.length ≤ 16777216 ∧ Q (.str (PySem.Txt.join a ys)) H) to te) := by
  subst hK
  exact pe_join ho he hs hbase hline
theorem part_len {m y x : Int} {ws : List (Int × Int)} (h : Da.Part m ws y x) (hm : m ≤ 7) : ws.length ≤ 49 := by
  have nd : ws.Nodup := h.asc.imp fun {u v} q e => by subst e; simp [Da.ltP] at q
  have := List.Nodup.length_le_of_subset (l₂ := (List.range 7).flatMap fun y => (List.range 7).map fun x => (((y : Nat) : Int), ((x : Nat) : Int))) nd fun u hu => by
    have q := h.mem u hu
    refine List.mem_flatMap.mpr ⟨u.1.toNat, List.mem_range.mpr (by omega), List.mem_map.mpr ⟨u.2.toNat, List.mem_range.mpr (by omega), ?_⟩⟩
    have e1 : ((u.1.toNat : Nat) : Int) = u.1 := by omega
    have e2 : ((u.2.toNat : Nat) : Int) = u.2 := by omega
    rw [e1, e2]
  exact Nat.le_trans this (by decide)
theorem tupAll_cat {H : Hp} {as bs : List Addr} {us ws : List (Int × Int)} (h : Da.TupAll H as us) (h2 : Da.TupAll H bs ws) : Da.TupAll H (as ++ bs) (us ++ ws) := by
  refine ⟨by rw [List.length_append, List.length_append, h.1, h2.1], fun i b u e1 e2 => ?_⟩
  have l := h.1
  by_cases c : i < as.length
  · rw [List.getElem?_append_left c] at e1
    rw [List.getElem?_append_left (by omega)] at e2
    exact h.2 i b u e1 e2
  · rw [List.getElem?_append_right (by omega)] at e1
    rw [List.getElem?_append_right (by omega), ← l] at e2
    exact h2.2 _ b u e1 e2
def sp__law_wires (K : PySem.W.Frag) : Sp := fun vs H Q _ => ∃ (hd c : Addr) (n : Nat) (sh : Int), vs = [.ref hd, .int (n : Nat), .int sh] ∧ Hand H hd c ∧ 1 ≤ n ∧ n ≤ 7 ∧
  ∀ (D : Addr) (bs : List Addr) (ws : List (Int × Int)) H', H D = none → G (some (hd, c)) H H' → Hand H' hd c → H' D = some (.lst (bs.map V.ref)) → Da.TupAll H' bs ws → Da.IsWeb (n : Nat) ws → Q (.ref D) H'
theorem ok__law_wires (T : Txt K mg a) : FnOk P w K mg base CX0 2 a.f__law_wires a.d__law_wires P__law_wires (sp__law_wires K) := by
  refine T.F__law_wires.ok sc__law_wires (fun vs H Q E h => by obtain ⟨hd, c, n, sh, rfl, _⟩ := h; rfl) (fun cdv A outer s H vs Q E hr h => ?_)
  obtain ⟨hd, c, n, sh, rfl, hh, n1, n7, k⟩ := h
  have G__law_draw : FnOk P w K mg base CX0 1 a.f__law_draw a.d__law_draw P__law_draw sp__law_draw := ok__law_draw T
  refine ⟨_, (pss_cons (ps_set (i := 3) sc__law_wires.nd rfl (Or.inl rfl) (pe_lstN pa_nil))
  (pss_cons (ps_for PassesOwn.never rfl (pi_range1 rfl T.n_range (pa_cons (pv 1) pa_nil)) (pg_name (i := 4) sc__law_wires.nd rfl (Or.inr rfl))
    (pss_one (ps_expr (pe_bm PySem.F.plainAttrs_list PySem.F.slot_list_extend PySem.F.type_list_extend mt_extend (pv 3) (pa_cons (pe_lc (own := [("_law_x", 5)]) (g := (gName 5)) rfl sc__law_wires.nd (pi_range1 rfl T.n_range (pa_cons (pv 1) pa_nil)) (blkOk_by (N := N__law_wires) (sc := defScope s__law_wires) (by decide +kernel)) (fun _ _ _ _ _ => (pg_name (i := 5) sc__law_wires.nd rfl (by first | exact Or.inl rfl | exact Or.inr rfl))) (fun _ _ _ _ _ => (pts_one (L2.PW.pt (pw_and (pt_cmpR op_ne (pv 5) (pv 4) (nomark _)) (pw_and1 (pt_cmpR op_lt (pe_call (G__law_draw) (hr.mono (by omega)) rfl T.m__law_draw T.F__law_draw.kp T.b__law_draw .nil pass0 (pa_cons (pv 0) (pa_cons pe_int pa_nil))) (pv 2) (nomark _))))))) (fun _ _ _ _ _ => (pe_tupN (pa_cons (pv 4) (pa_cons (pv 5) pa_nil))))) pa_nil)))))
  (pss_one (ps_ret (pv 3))))), ?_⟩
  walk_at "ws"
  refine ⟨sz (by simp), fun D H1 hD g1 h1 => ?_⟩
  have hO : ∀ p, some (hd, c) = some p → Hand H p.1 p.2 := fun p e => by cases e; exact hh
  have hDn : ∀ p, some (hd, c) = some p → D ≠ p.1 := fun p e => by cases e; exact hh.ne hD
  walk_at "ws"
  refine i_rng1 (by omega) (by omega) ?_
  rw [Int.toNat_natCast]
  refine for_it walk_range (fun y σ H' => ∃ u v bs ws, σ = [some (.ref hd), some (.int (n : Nat)), some (.int sh), some (.ref D), u, v] ∧ G (some (hd, c)) H H' ∧ H' D = some (.lst (bs.map V.ref)) ∧ Da.TupAll H' bs ws ∧ Da.Part (n : Nat) ws (y : Nat) 0) ⟨_, _, [], [], rfl, g1 _, h1, ⟨rfl, fun i b u e => by simp at e⟩, ⟨(fun _ h => nomatch h), List.Pairwise.nil, (fun _ h => nomatch h)⟩⟩ (fun _ _ _ _ _ => trivial) ?_ ?_
  · rintro y _ σ _ H2 hy ⟨u, v, bs, ws, rfl, g2, h2, tup, part⟩ ⟨rfl, rfl⟩
    rw [show (fun i : Nat => V.int (0 + (i : Nat))) y = V.int ((y : Nat) : Int) from congrArg V.int (Int.zero_add _)]
    have hh2 := g2.hand _ rfl hh
    have pl2 := part_len part (by omega)
    walk_at "ws"
    refine i_BM h2 ?_
    walk_at "ws"
    refine i_rng1 (by omega) (by omega) ?_
    rw [Int.toNat_natCast]
    intro D2 hD2
    have hD2n : ∀ p, some (hd, c) = some p → D2 ≠ p.1 := fun p e => by cases e; exact hh2.ne hD2
    refine lc_it walk_range (fun x H' => ∃ ts us, G (some (hd, c)) H2 H' ∧ H' D2 = some (.lst (ts.map V.ref)) ∧ Da.TupAll H' ts us ∧ Da.Part (n : Nat) (ws ++ us) (y : Nat) (x : Nat) ∧ ts.length ≤ x) ⟨[], [], (G.refl).mut hD2 (fun p e => by cases e; exact hh2), upd_same, ⟨rfl, fun i b u e => by simp at e⟩, by simpa using part, Nat.le_refl _⟩ (fun _ _ _ _ => trivial) ?_ ?_
    · rintro x _ _ H3 hx ⟨ts, us, g3, h3, tt, pp, lt⟩ ⟨rfl, rfl⟩
      rw [show (fun i : Nat => V.int (0 + (i : Nat))) x = V.int ((x : Nat) : Int) from congrArg V.int (Int.zero_add _)]
      have hh3 := g3.hand _ rfl hh2
      walk_at "ws"
      refine ⟨rfl, ?_⟩
      walk_at "ws"
      have up := pp.up (y' := (y : Nat)) (x' := ((x + 1 : Nat) : Int)) (.inr ⟨rfl, by omega⟩)
      refine w_ite (fun c0 => ?_) (fun c0 => ?_)
      · have ne : ¬ (x : Int) = (y : Int) := by simpa using c0
        walk_at "ws"
        refine ⟨hd, c, 6, rfl, hh3, by decide, by decide, fun r H4 r0 r1 g4 hh4 => ?_⟩
        have h4 := g4.keep D2 _ hD2n h3
        have tt4 := tt.g g4 (fun q e => by cases e; exact hh3)
        walk_at "ws"
        refine w_ite (fun c1 => ?_) (fun c1 => ?_)
        · walk_at "ws"
          refine ⟨sz (by simp), fun t H5 ht g5 h5 => ?_⟩
          have h5D := (g5 none).all _ _ h4
          refine ⟨ts.map V.ref, h5D, Nat.lt_of_le_of_lt (by rw [List.length_map]; omega : (ts.map V.ref).length ≤ 100000) (by decide), ts ++ [t], us ++ [(((y : Nat) : Int), ((x : Nat) : Int))], (g3.trans (g4.trans (g5 _))).mut hD2 (fun p e => by cases e; exact hh2), by rw [upd_same, List.map_append]; rfl, ?_, ?_, by rw [List.length_append, List.length_singleton]; omega⟩
          · refine ((tt4.g (g5 none) (fun _ e => nomatch e)).put h5D).app ?_
            rw [upd_ne (ne_of h5 h5D (by intro z; cases z))]
            exact h5
          · rw [← List.append_assoc]
            have := pp.app (by omega) (by omega) (by omega)
            rw [show ((x + 1 : Nat) : Int) = (x : Int) + 1 by omega]
            exact this
        · exact ⟨ts, us, g3.trans g4, h4, tt4, up, by omega⟩
      · exact ⟨ts, us, g3, h3, tt, up, by omega⟩
    · rintro H3 ⟨ts, us, g3, h3, tt, pp, lt⟩
      walk_at "ws"
      have h3D := g3.keep D _ hDn h2
      have l1 := tt.1
      have l2 := tup.1
      refine ⟨D, D2, bs.map V.ref, ts.map V.ref, rfl, rfl, h3D, h3, sz (by rw [List.length_map, List.length_map]; omega), ?_⟩
      walk_at "ws"
      have tup3 := tup.g g3 (fun q e => by cases e; exact hh2)
      refine ⟨_, _, bs ++ ts, ws ++ us, rfl, (g2.trans g3).mut hD hO, by rw [upd_same, List.map_append], tupAll_cat (tup3.put h3D) (tt.put h3D), pp.up (.inl (by omega))⟩
  · rintro σ H2 ⟨u, v, bs, ws, rfl, g2, h2, tup, part⟩
    walk_at "ws"
    exact k D bs ws H2 hD g2 (g2.hand _ rfl hh) h2 tup ⟨by omega, by omega, part.mem, part.asc⟩
def sp__law_web (K : PySem.W.Frag) : Sp := fun vs H Q _ => ∃ (hd c : Addr), vs = [.ref hd, .int 7] ∧ Hand H hd c ∧
  ∀ (p wp : Addr) (n : Nat) (ws : List (Int × Int)) H', G (some (hd, c)) H H' → Hand H' hd c → H' p = some (.tup [.int (n : Nat), .ref wp]) → Dp K H' (.ref wp) (dW ws) → Da.IsWeb (n : Nat) ws → Q (.ref p) H'
theorem ok__law_web (T : Txt K mg a) : FnOk P w K mg base CX0 3 a.f__law_web a.d__law_web P__law_web (sp__law_web K) := by
  refine T.F__law_web.ok sc__law_web (fun vs H Q E h => by obtain ⟨hd, c, rfl, _⟩ := h; rfl) (fun cdv A outer s H vs Q E hr h => ?_)
  obtain ⟨hd, c, rfl, hh, k⟩ := h
  have G__law_draw : FnOk P w K mg base CX0 1 a.f__law_draw a.d__law_draw P__law_draw sp__law_draw := ok__law_draw T
  have G__law_wires : FnOk P w K mg base CX0 2 a.f__law_wires a.d__law_wires P__law_wires (sp__law_wires K) := ok__law_wires T
  refine ⟨_, (pss_cons (ps_set (i := 2) sc__law_web.nd rfl (Or.inl rfl) (pe_op op_add pe_int (pe_call (G__law_draw) (hr.mono (by omega)) rfl T.m__law_draw T.F__law_draw.kp T.b__law_draw .nil pass0 (pa_cons (pv 0) (pa_cons (pv 1) pa_nil)))))
  (pss_one (ps_ret (pe_tupN (pa_cons (pv 2) (pa_cons (pe_callTy call_tupleN (by rfl) T.n_tuple (by decide +kernel) (pa_cons (pe_call (G__law_wires) (hr.mono (by omega)) rfl T.m__law_wires T.F__law_wires.kp T.b__law_wires .nil pass0 (pa_cons (pv 0) (pa_cons (pv 2) (pa_cons (pe_op op_add pe_int (pe_call (G__law_draw) (hr.mono (by omega)) rfl T.m__law_draw T.F__law_draw.kp T.b__law_draw .nil pass0 (pa_cons (pv 0) (pa_cons pe_int pa_nil)))) pa_nil)))) pa_nil)) pa_nil)))))), ?_⟩
  walk_at "ws"
  refine ⟨hd, c, 7, rfl, hh, by decide, by decide, fun r H1 r0 r1 g1 hh1 => ?_⟩
  walk_at "ws"
  refine ⟨hd, c, 5, rfl, hh1, by decide, by decide, fun r2 H2 _ _ g2 hh2 => ?_⟩
  walk_at "ws"
  obtain ⟨n, en⟩ : ∃ n : Nat, 1 + r = ((n : Nat) : Int) := ⟨(1 + r).toNat, by omega⟩
  rw [en]
  refine ⟨hd, c, n, 1 + r2, rfl, hh2, by omega, by omega, fun D bs ws H3 hD g3 hh3 h3 tup web => ?_⟩
  refine ⟨D, _, rfl, .inl ⟨SqL.of h3, fun t H4 ht g4 h4 => ?_⟩⟩
  walk_at "ws"
  refine ⟨sz (by simp), fun p H5 hp g5 h5 => ?_⟩
  have g15 : G (some (hd, c)) H H5 := g1.trans (g2.trans (g3.trans ((g4 _).trans (g5 _))))
  have tup5 := tup.g ((g4 none).trans (g5 none)) (fun _ e => nomatch e)
  exact k p t n ws H5 g15 (g15.hand _ rfl hh) h5 (.tup (SqT.of ((g5 none).all _ _ h4)) (Da.tupAll_dp (p := t) tup5)) web
/-- rows of a word and numbers, as tuples -/
def RowsAt (K : PySem.W.Frag) (H : Hp) (bs : List Addr) (RL : List (PySem.Str × List Int)) : Prop := bs.length = RL.length ∧ ∀ (i : Nat) (b : Addr) (u : PySem.Str × List Int), bs[i]? = some b → RL[i]? = some u → SqT K H b (.str u.1 :: u.2.map V.int)
theorem RowsAt.t {H H' : Hp} {bs : List Addr} {RL : List (PySem.Str × List Int)} (h : RowsAt K H bs RL) (t : Ts H H') : RowsAt K H' bs RL := ⟨h.1, fun i b u e1 e2 => sqT_t t (h.2 i b u e1 e2)⟩
def sp__law_lines (K : PySem.W.Frag) : Sp := fun vs H Q _ => ∃ (p : Addr) (bs : List Addr) (RL : List (PySem.Str × List Int)), vs = [.ref p] ∧ SqL K H p (bs.map V.ref) ∧ RowsAt K H bs RL ∧ RL.length ≤ 51 ∧ (∀ u ∈ RL, u.1.length ≤ 8 ∧ Small u.2 ∧ u.2.length ≤ 40) ∧
  ∀ H', G none H H' → Q (.str (PySem.Txt.join "" (RL.map fun u => lineS u.1 u.2))) H'
theorem ok__law_lines (T : Txt K mg a) : FnOk P w K mg base CX0 1 a.f__law_lines a.d__law_lines P__law_lines (sp__law_lines K) := by
  refine T.F__law_lines.ok sc__law_lines (fun vs H Q E h => by obtain ⟨p, bs, RL, rfl, _⟩ := h; rfl) (fun cdv A outer s H vs Q E hr h => ?_)
  obtain ⟨p, bs, RL, rfl, hp, rows, l51, sm, k⟩ := h
  refine ⟨_, (pss_one (ps_ret (pe_join pe_str (pe_lc (own := [("_law_row", 1)]) (g := (gName 1)) (tt := tYes) rfl sc__law_lines.nd (pi_list (pv 0)) (blkOk_by (N := N__law_lines) (sc := defScope s__law_lines) (by decide +kernel)) (fun _ _ _ _ _ => (pg_name (i := 1) sc__law_lines.nd rfl (by first | exact Or.inl rfl | exact Or.inr rfl))) (fun _ _ _ _ _ => pts_nil) (fun _ _ _ _ _ => (pe_op op_add_str (k_join K pe_str (pe_lc (own := [("_law_word", 2)]) (g := (gName 2)) (tt := tYes) rfl sc__law_lines.nd (k_pi_tup K (pv 1)) (blkOk_by (N := N__law_lines) (by kernel_rfl)) (fun _ _ _ _ _ => (pg_name (i := 2) sc__law_lines.nd rfl (by first | exact Or.inl rfl | exact Or.inr rfl))) (fun _ _ _ _ _ => pts_nil) (fun _ _ _ _ _ => (pe_callTy call_strE (by rfl) T.n_str (by decide +kernel) (pa_cons (pv 2) pa_nil))))) pe_str)))))), ?_⟩
  walk_at "ws"
  refine w_m1 ?_
  walk_at "ws"
  refine ⟨⟨_, rfl⟩, ?_⟩
  walk_at "ws"
  refine i_list hp ?_
  intro D hD
  have bl := rows.1
  refine lc_pure (K := K) (o := none) (walk_list (xs := bs.map V.ref)) (by rw [List.length_map]; omega) hD (fun _ e => nomatch e) (fun i => RL[i]?.map fun u => PyData.str (lineS u.1 u.2)) (fun H' g => sqL_n g hp) ?_ ?_
  · rintro i y _ H1 hi g1 ⟨rfl, hy⟩ Qy Qn ky kn
    rw [List.getElem?_map] at hy
    obtain ⟨b, hb, rfl⟩ := Option.map_eq_some_iff.mp hy
    obtain ⟨u, hu⟩ : ∃ u, RL[i]? = some u := ⟨_, List.getElem?_eq_getElem (by rw [List.length_map] at hi; omega)⟩
    have hbu := (rows.t g1.tups).2 i b u hb hu
    obtain ⟨u8, us, u40⟩ := sm u (List.mem_of_getElem? hu)
    walk_at "ws"
    refine ⟨rfl, ?_⟩
    walk_at "ws"
    refine w_m1 ?_
    walk_at "ws"
    refine ⟨⟨_, rfl⟩, ?_⟩
    walk_at "ws"
    refine i_tup hbu ?_
    intro D2 hD2
    refine lc_pure (K := K) (o := none) (walk_tup (xs := .str u.1 :: u.2.map V.int)) (by rw [List.length_cons, List.length_map]; omega) hD2 (fun _ e => nomatch e) (fun i => (u.1 :: u.2.map sI)[i]?.map fun z => PyData.str z) (fun H' g => sqT_t g.tups hbu) ?_ ?_
    · rintro i2 y2 _ H2 hi2 g2 ⟨rfl, hy2⟩ Qy2 Qn2 ky2 kn2
      walk_at "ws"
      refine ⟨rfl, ?_⟩
      walk_at "ws"
      cases i2 with
      | zero =>
        cases hy2
        refine .inr ⟨u.1, rfl, ?_⟩
        exact ky2 _ _ _ G.refl (.str _) rfl rfl
      | succ i2 =>
        have hy2 : (u.2.map V.int)[i2]? = some y2 := hy2
        rw [List.getElem?_map] at hy2
        obtain ⟨n, hn, rfl⟩ := Option.map_eq_some_iff.mp hy2
        refine .inl ⟨n, rfl, sI_log (us n (List.mem_of_getElem? hn)), ?_⟩
        refine ky2 _ _ _ G.refl (.str (sI n)) rfl ?_
        show (u.2.map sI)[i2]?.map _ = _
        rw [List.getElem?_map, hn]
        rfl
    · intro xs2 H2 g2 hD22 hds2 _
      have el : (V.str u.1 :: u.2.map V.int).length = (u.1 :: u.2.map sI).length := by simp
      rw [el, filterMap_range_map] at hds2
      rw [strs_told hds2] at hD22
      have ll := line_len u8 us u40
      walk_at "ws"
      refine ⟨_, D2, u.1 :: u.2.map sI, rfl, rfl, .inl (SqL.of hD22), ?_, ?_⟩
      · have : ((" " : PySem.Str)).length = 1 := by decide +kernel
        rw [this, List.length_cons, List.length_map]
        have := ll.2
        omega
      walk_at "ws"
      refine ⟨_, _, rfl, rfl, ?_, ?_⟩
      · have : (("
" : PySem.Str)).length = 1 := by decide +kernel
        rw [this]
        exact sz (by have := ll.1; unfold lineB at this; omega)
      exact ky _ _ _ g2 (.str (lineS u.1 u.2)) rfl (by rw [hu]; rfl)
  · intro xs' H1 g1 hD1 hds _
    rw [List.length_map, bl, filterMap_range_map] at hds
    have e : RL.map (fun u => PyData.str (lineS u.1 u.2)) = (RL.map fun u => lineS u.1 u.2).map PyData.str := by rw [List.map_map]; rfl
    rw [e] at hds
    rw [strs_told hds] at hD1
    walk_at "ws"
    refine ⟨_, D, RL.map fun u => lineS u.1 u.2, rfl, rfl, .inl (SqL.of hD1), ?_, ?_⟩
    · have : (("" : PySem.Str)).length = 0 := by decide +kernel
      rw [this]
      have s1 : ((RL.map fun u => lineS u.1 u.2).map (·.length)).sum ≤ RL.length * 401 := by
        refine Nat.le_trans (sum_le (b := 401) fun x hx => ?_) (by rw [List.length_map, List.length_map]; exact Nat.le_refl _)
        obtain ⟨z, hz, rfl⟩ := List.mem_map.mp hx
        obtain ⟨u, hu, rfl⟩ := List.mem_map.mp hz
        obtain ⟨u8, us, u40⟩ := sm u hu
        exact lineS_len u8 us u40
      omega
    exact k H1 g1
def sp__law_some_record (K : PySem.W.Frag) : Sp := fun vs H Q _ => ∃ (hd c : Addr), vs = [.ref hd] ∧ Hand H hd c ∧
  ∀ (p wp dp : Addr) (ws : List Int) (ds : List (List Int)) H', G (some (hd, c)) H H' → Hand H' hd c → H' p = some (.tup [.ref wp, .ref dp]) → SqT K H' wp (ws.map V.int) → Da.Dia K H' dp ds → Da.IsRec ws ds → Q (.ref p) H'
theorem ok__law_some_record (T : Txt K mg a) : FnOk P w K mg base CX0 3 a.f__law_some_record a.d__law_some_record P__law_some_record (sp__law_some_record K) := by
  refine T.F__law_some_record.ok sc__law_some_record (fun vs H Q E h => by obtain ⟨hd, c, rfl, _⟩ := h; rfl) (fun cdv A outer s H vs Q E hr h => ?_)
  obtain ⟨hd, c, rfl, hh, k⟩ := h
  have G__law_draw : FnOk P w K mg base CX0 1 a.f__law_draw a.d__law_draw P__law_draw sp__law_draw := ok__law_draw T
  have G__law_shuffled : FnOk P w K mg base CX0 2 a.f__law_shuffled a.d__law_shuffled P__law_shuffled (sp__law_shuffled K) := ok__law_shuffled T
  refine ⟨_, (pss_cons (ps_set (i := 1) sc__law_some_record.nd rfl (Or.inr rfl) (pe_op op_add pe_int (pe_call (G__law_draw) (hr.mono (by omega)) rfl T.m__law_draw T.F__law_draw.kp T.b__law_draw .nil pass0 (pa_cons (pv 0) (pa_cons pe_int pa_nil)))))
  (pss_cons (ps_set (i := 2) sc__law_some_record.nd rfl (Or.inr rfl) (pe_callTy call_tupleN (by rfl) T.n_tuple (by decide +kernel) (pa_cons (pe_lc (own := [("_law_put", 6)]) (g := (gName 6)) (tt := tYes) rfl sc__law_some_record.nd (pi_range1 rfl T.n_range (pa_cons (pe_call (G__law_draw) (hr.mono (by omega)) rfl T.m__law_draw T.F__law_draw.kp T.b__law_draw .nil pass0 (pa_cons (pv 0) (pa_cons pe_int pa_nil))) pa_nil)) (blkOk_by (N := N__law_some_record) (sc := defScope s__law_some_record) (by decide +kernel)) (fun _ _ _ _ _ => (pg_name (i := 6) sc__law_some_record.nd rfl (by first | exact Or.inl rfl | exact Or.inr rfl))) (fun _ _ _ _ _ => pts_nil) (fun _ _ _ _ _ => (pe_call (G__law_draw) (hr.mono (by omega)) rfl T.m__law_draw T.F__law_draw.kp T.b__law_draw .nil pass0 (pa_cons (pv 0) (pa_cons (pv 1) pa_nil))))) pa_nil)))
  (pss_cons (ps_set (i := 3) sc__law_some_record.nd rfl (Or.inl rfl) (pe_lstN pa_nil))
  (pss_cons (ps_for PassesOwn.never rfl (pi_range1 rfl T.n_range (pa_cons (pv 1) pa_nil)) (pg_name (i := 4) sc__law_some_record.nd rfl (Or.inr rfl))
    (pss_cons (ps_setLc (i := 5) (own := [("_law_put", 6)]) (g := (gName 6))  rfl sc__law_some_record.nd rfl rfl (sw_true rfl rfl rfl (by decide +kernel)) (pi_range1 rfl T.n_range (pa_cons (pe_callB call_len_seq (by rfl) T.n_len (by decide +kernel) (pa_cons (pv 2) pa_nil)) pa_nil)) (blkOk_by (N := N__law_some_record) (sc := defScope s__law_some_record) (by decide +kernel)) (fun _ _ _ _ _ => (pg_name (i := 6) sc__law_some_record.nd rfl (by first | exact Or.inl rfl | exact Or.inr rfl))) (fun _ _ _ _ _ => (pts_one (L2.PW.pt (pw_or (pt_cmpR op_eq (pe_ix (k_ix_tup K) (pv 2) (pv 6) (fun _ _ => rfl)) (pv 4) (nomark _)) (pw_or1 (pt_cmpR op_gt (pe_call (G__law_draw) (hr.mono (by omega)) rfl T.m__law_draw T.F__law_draw.kp T.b__law_draw .nil pass0 (pa_cons (pv 0) (pa_cons pe_int pa_nil))) pe_int (nomark _))))))) (fun _ _ _ _ _ => (pv 6)))
  (pss_one (ps_expr (pe_bm PySem.F.plainAttrs_list PySem.F.slot_list_append PySem.F.type_list_append mt_append (pv 3) (pa_cons (pe_callTy call_tupleF (by rfl) T.n_tuple (by decide +kernel) (pa_cons (pe_call (G__law_shuffled) (hr.mono (by omega)) rfl T.m__law_shuffled T.F__law_shuffled.kp T.b__law_shuffled .nil pass0 (pa_cons (pv 0) (pa_cons (pv 5) pa_nil))) pa_nil)) pa_nil))))))
  (pss_one (ps_ret (pe_tupN (pa_cons (pv 2) (pa_cons (pe_callTy call_tupleN (by rfl) T.n_tuple (by decide +kernel) (pa_cons (pv 3) pa_nil)) pa_nil))))))))), ?_⟩
  walk_at "ws"
  refine ⟨hd, c, 5, rfl, hh, by decide, by decide, fun r H1 r0 r1 g1 hh1 => ?_⟩
  walk_at "ws"
  refine ⟨hd, c, 8, rfl, hh1, by decide, by decide, fun r2 H2 q0 q1 g2 hh2 => ?_⟩
  obtain ⟨n, en⟩ : ∃ n : Nat, 1 + r = ((n : Nat) : Int) := ⟨(1 + r).toNat, by omega⟩
  obtain ⟨m, rfl⟩ : ∃ m : Nat, r2 = ((m : Nat) : Int) := ⟨r2.toNat, by omega⟩
  rw [en]
  have g02 := g1.trans g2
  walk_at "ws"
  refine i_rng1 (by omega) (by omega) ?_
  rw [Int.toNat_natCast]
  intro D hD
  have hD0 : ∀ p, some (hd, c) = some p → D ≠ p.1 := fun p e => by cases e; exact hh2.ne hD
  refine lc_it walk_range (fun i H' => ∃ ws : List Int, G (some (hd, c)) H2 H' ∧ H' D = some (.lst (ws.map V.int)) ∧ ws.length = i ∧ ∀ w ∈ ws, 0 ≤ w ∧ w < (n : Int)) ⟨[], (G.refl).mut hD (fun p e => by cases e; exact hh2), upd_same, rfl, fun _ h => nomatch h⟩ (fun _ _ _ _ => trivial) ?_ ?_
  · rintro i _ _ H3 hi ⟨ws, g3, h3, wl, wr⟩ ⟨rfl, rfl⟩
    have hh3 := g3.hand _ rfl hh2
    walk_at "ws"
    refine ⟨rfl, ?_⟩
    walk_at "ws"
    refine ⟨hd, c, (n : Int), rfl, hh3, by omega, by omega, fun r H4 r0 r1 g4 hh4 => ?_⟩
    have h4 := g4.keep D _ hD0 h3
    refine ⟨ws.map V.int, h4, Nat.lt_of_le_of_lt (by rw [List.length_map]; omega : (ws.map V.int).length ≤ 100000) (by decide), ws ++ [r], (g3.trans g4).mut hD (fun p e => by cases e; exact hh2), by rw [upd_same, List.map_append]; rfl, by rw [List.length_append, wl]; rfl, fun w hw => ?_⟩
    rcases List.mem_append.mp hw with z | z
    · exact wr w z
    · have e : w = r := by simpa using z
      rw [e]
      exact ⟨r0, r1⟩
  rintro H3 ⟨ws, g3, h3, wl, wr⟩
  have hh3 := g3.hand _ rfl hh2
  walk_at "ws"
  refine ⟨D, _, rfl, .inl ⟨SqL.of h3, fun vp H4 hvp g4 h4 => ?_⟩⟩
  walk_at "ws"
  refine ⟨sz (by simp), fun dl H5 hdl g5 h5 => ?_⟩
  have g04 : G (some (hd, c)) H H4 := g02.trans (g3.trans (g4 _))
  have hh4 := g04.hand _ rfl hh
  have hv4 : SqT K H4 vp (ws.map V.int) := SqT.of h4
  have hO : ∀ p, some (hd, c) = some p → Hand H4 p.1 p.2 := fun p e => by cases e; exact hh4
  have hdn : ∀ p, some (hd, c) = some p → dl ≠ p.1 := fun p e => by cases e; exact hh4.ne hdl
  clear h3 h4 hD0 g1 g2 g3 g4 hh1 hh2 hh3 g02
  walk_at "ws"
  refine i_rng1 (by omega) (by omega) ?_
  rw [Int.toNat_natCast]
  refine for_it walk_range (fun x σ H' => ∃ u4 u5 u6 bs ds, σ = [some (.ref hd), some (.int (n : Nat)), some (.ref vp), some (.ref dl), u4, u5, u6] ∧ G (some (hd, c)) H4 H' ∧ H' dl = some (.lst (bs.map V.ref)) ∧ Ords H' bs ds ∧ bs.length = x ∧ (∀ d ∈ ds, d.Nodup ∧ ∀ p ∈ d, 0 ≤ p ∧ p < (m : Int)) ∧ ∀ (j p : Nat) (d : List Int), ds[j]? = some d → ws[p]? = some ((j : Nat) : Int) → ((p : Nat) : Int) ∈ d) ⟨_, _, _, [], [], rfl, g5 _, h5, Ords.nil, rfl, (fun _ h => nomatch h), fun j p d e => by simp at e⟩ (fun _ _ _ _ _ => trivial) ?_ ?_
  · rintro x _ σ _ H6 hx ⟨u4, u5, u6, bs, ds, rfl, g6, h6, O6, bl, dsok, own⟩ ⟨rfl, rfl⟩
    rw [show (fun i : Nat => V.int (0 + (i : Nat))) x = V.int ((x : Nat) : Int) from congrArg V.int (Int.zero_add _)]
    have hh6 := g6.hand _ rfl hh4
    have hv6 := sqT_t g6.tups hv4
    walk_at "ws"
    refine ⟨vp, _, rfl, .inr hv6, ?_⟩
    walk_at "ws"
    rw [List.length_map, wl]
    refine i_rng1 (by omega) (by omega) ?_
    rw [Int.toNat_natCast]
    intro D2 hD2
    have hD2n : ∀ p, some (hd, c) = some p → D2 ≠ p.1 := fun p e => by cases e; exact hh6.ne hD2
    refine lc_it walk_range (fun i H' => ∃ ns : List Int, G (some (hd, c)) H6 H' ∧ H' D2 = some (.lst (ns.map V.int)) ∧ ns.Nodup ∧ (∀ p ∈ ns, 0 ≤ p ∧ p < (i : Int)) ∧ ns.length ≤ i ∧ ∀ p : Nat, p < i → ws[p]? = some ((x : Nat) : Int) → ((p : Nat) : Int) ∈ ns) ⟨[], (G.refl).mut hD2 (fun p e => by cases e; exact hh6), upd_same, List.nodup_nil, (fun _ h => nomatch h), Nat.le_refl _, fun p h => absurd h (Nat.not_lt_zero _)⟩ (fun _ _ _ _ => trivial) ?_ ?_
    · rintro i _ _ H7 hi ⟨ns, g7, h7, nd, rng, nl, has⟩ ⟨rfl, rfl⟩
      rw [show (fun i : Nat => V.int (0 + (i : Nat))) i = V.int ((i : Nat) : Int) from congrArg V.int (Int.zero_add _)]
      have hh7 := g7.hand _ rfl hh6
      have hv7 := sqT_t g7.tups hv6
      obtain ⟨w0, hw0⟩ : ∃ w0, ws[i]? = some w0 := ⟨_, List.getElem?_eq_getElem (by omega)⟩
      have keep : ∀ H', G (some (hd, c)) H7 H' → ∃ acc, H' D2 = some (.lst acc) ∧ acc.length < sizeLine ∧ ∃ ns' : List Int, G (some (hd, c)) H6 (upd H' D2 (.lst (acc ++ [.int ((i : Nat) : Int)]))) ∧ (upd H' D2 (.lst (acc ++ [.int ((i : Nat) : Int)]))) D2 = some (.lst (ns'.map V.int)) ∧ ns'.Nodup ∧ (∀ p ∈ ns', 0 ≤ p ∧ p < ((i + 1 : Nat) : Int)) ∧ ns'.length ≤ i + 1 ∧ ∀ p : Nat, p < i + 1 → ws[p]? = some ((x : Nat) : Int) → ((p : Nat) : Int) ∈ ns' := fun H' g => by
        refine ⟨ns.map V.int, g.keep D2 _ hD2n h7, Nat.lt_of_le_of_lt (by rw [List.length_map]; omega : (ns.map V.int).length ≤ 100000) (by decide), ns ++ [((i : Nat) : Int)], (g7.trans g).mut hD2 (fun p e => by cases e; exact hh6), by rw [upd_same, List.map_append]; rfl, ?_, fun p hp => ?_, by rw [List.length_append, List.length_singleton]; omega, fun p hp e => ?_⟩
        · refine List.nodup_append.mpr ⟨nd, by simp, fun a ha b hb e => ?_⟩
          have := rng a ha
          have hb : b = (i : Int) := by simpa using hb
          omega
        · rcases List.mem_append.mp hp with z | z
          · have := rng p z
            omega
          · have z : p = (i : Int) := by simpa using z
            omega
        · by_cases z : p < i
          · exact List.mem_append_left _ (has p z e)
          · have : p = i := by omega
            subst this
            exact List.mem_append_right _ (by simp)
      walk_at "ws"
      refine ⟨rfl, ?_⟩
      walk_at "ws"
      refine ⟨vp, _, _, .int w0, rfl, rfl, hv7, at_of (j := i) (by omega) (by rw [List.getElem?_map, hw0]; rfl), ?_⟩
      walk_at "ws"
      refine w_ite (fun c0 => ?_) (fun c0 => ?_)
      · walk_at "ws"
        exact keep _ G.refl
      · have c0 : ¬ w0 = (x : Int) := by simpa using c0
        walk_at "ws"
        refine ⟨hd, c, 3, rfl, hh7, by decide, by decide, fun r H8 r0 r1 g8 hh8 => ?_⟩
        walk_at "ws"
        refine w_ite (fun c1 => ?_) (fun c1 => ?_)
        · walk_at "ws"
          exact keep _ g8
        · refine ⟨ns, g7.trans g8, g8.keep D2 _ hD2n h7, nd, fun p hp => by have := rng p hp; omega, by omega, fun p hp e => ?_⟩
          by_cases z : p < i
          · exact has p z e
          · have : p = i := by omega
            subst this
            rw [hw0] at e
            exact absurd (Option.some.inj e) c0
    · rintro H7 ⟨ns, g7, h7, nd, rng, nl, has⟩
      have hh7 := g7.hand _ rfl hh6
      have h7l := g7.keep dl _ hdn h6
      walk_at "ws"
      refine i_BM h7l ?_
      walk_at "ws"
      refine ⟨hd, c, D2, ns, rfl, hh7, h7, by omega, fun l ms H8 hl g8 hh8 h8 pm => ?_⟩
      walk_at "ws"
      refine ⟨l, ms.map V.int, rfl, SqL.of h8, fun p H9 hp g9 f9 => ?_⟩
      have h9l := (g9 none).all _ _ (g8.keep dl _ hdn h7l)
      have O9 := (ords_h (ords_h O6 g7 hh6) g8 hh7).n (g9 none)
      walk_at "ws"
      refine r_app h9l (by rw [List.length_map]; omega) ?_
      walk_at "ws"
      refine ⟨_, _, _, bs ++ [p], ds ++ [ms], rfl, (g6.trans (g7.trans (g8.trans (g9 _)))).mut hdl hO, by rw [upd_same, List.map_append]; rfl, (O9.app (Ords.one f9)).upd h9l, by rw [List.length_append, bl]; rfl, fun d hd => ?_, fun j p d e1 e2 => ?_⟩
      · rcases List.mem_append.mp hd with z | z
        · exact dsok d z
        · have e : d = ms := by simpa using z
          rw [e]
          exact ⟨pm.nodup_iff.mpr nd, fun p hp => rng p (pm.mem_iff.mp hp)⟩
      · have dl2 : ds.length = x := by have := O6.1; omega
        by_cases z : j < ds.length
        · rw [List.getElem?_append_left z] at e1
          exact own j p d e1 e2
        · rw [List.getElem?_append_right (by omega)] at e1
          have hj : j = x := by
            have := (List.getElem?_eq_some_iff.mp e1).1
            simp at this
            omega
          subst hj
          rw [dl2, Nat.sub_self] at e1
          cases e1
          have := (List.getElem?_eq_some_iff.mp e2).1
          exact pm.mem_iff.mpr (has p (by omega) e2)
  · rintro σ H6 ⟨u4, u5, u6, bs, ds, rfl, g6, h6, O6, bl, dsok, own⟩
    have hh6 := g6.hand _ rfl hh4
    walk_at "ws"
    refine ⟨dl, _, rfl, .inl ⟨SqL.of h6, fun dp H7 hdp g7 h7 => ?_⟩⟩
    walk_at "ws"
    refine ⟨sz (by simp), fun p H8 hp g8 h8 => ?_⟩
    have g68 : G none H6 H8 := (g7 none).trans (g8 none)
    have g58 : G (some (hd, c)) H4 H8 := g6.trans g68.up
    have dl' : ds.length = n := by have := O6.1; omega
    refine k p vp dp ws ds H8 (g04.trans g58) (g58.hand _ rfl hh4) h8 (sqT_t g58.tups hv4) ⟨bs, SqT.of ((g8 none).all _ _ h7), O6.1, (O6.n g68).2⟩ ⟨by omega, by omega, by omega, fun w hw => by rw [dl']; exact wr w hw, fun d hd => (dsok d hd).1, fun d hd p hp => by rw [wl]; exact (dsok d hd).2 p hp, fun p w d e1 e2 => ?_⟩
    have w0 := wr w (List.mem_of_getElem? e1)
    refine own w.toNat p d e2 ?_
    rw [e1, show ((w.toNat : Nat) : Int) = w by omega]

end
end Mine
/-! ## K37 -/


namespace Mine
section
variable {P : Program} {w : World} {K : PySem.W.Frag} {mg : Str → Option Value} {base : Heap} {a : Ads}

/-! ### equal webs, records, halls -/
theorem sh_dD (ds : List (List Int)) : SeqAt.shaped (.tuple (ds.map dI)) = true := sh_of (can_tup fun d h => by
  obtain ⟨n, _, rfl⟩ := List.mem_map.mp h
  exact can_dI n) (Nat.le_trans (dep_tup (n := 1) fun d h => by
  obtain ⟨n, _, rfl⟩ := List.mem_map.mp h
  exact dep_dI n) (by decide))
theorem eqv_dD (ds : List (List Int)) : PyData.eqv (.tuple (ds.map dI)) (.tuple (ds.map dI)) = true := by
  rw [PyData.eqv, eqvAll_map eqv_dI]; simp
open TL in
theorem joinL_all {P : Nat → Prop} {S : List Nat} (hS : ∀ c ∈ S, P c) : ∀ {ps : List (List Nat)}, (∀ p ∈ ps, ∀ c ∈ p, P c) → ∀ c ∈ joinL S ps, P c
  | [], _, c, h => by simp [joinL] at h
  | [p], h, c, hc => h p (by simp) c hc
  | p :: q :: r, h, c, hc => by
    have hc : c ∈ p ++ (S ++ joinL S (q :: r)) := hc
    rcases List.mem_append.mp hc with hc | hc
    · exact h p (by simp) c hc
    · rcases List.mem_append.mp hc with hc | hc
      · exact hS c hc
      · exact joinL_all hS (fun z hz => h z (List.mem_cons_of_mem _ hz)) c hc
open TL in
theorem sI_low {n : Int} (h : 0 ≤ n) : ∀ c ∈ tl (sI n), c < 128 := fun c hc => by
  apply Decidable.byContradiction
  intro no
  exact sI_free h (s := c) (.inr (by omega)) hc
open TL in
theorem lineS_low {wd : PySem.Str} {ns : List Int} (hw : ∀ c ∈ tl wd, c < 128) (hs : Small ns) : ∀ c ∈ tl (lineS wd ns), c < 128 := by
  intro c hc
  unfold lineS lineB at hc
  rw [tl_append, tl_join', tl_sp, tl_nl] at hc
  rcases List.mem_append.mp hc with hc | hc
  · refine joinL_all (P := fun c => c < 128) (by simp) (fun p hp => ?_) c hc
    obtain ⟨z, hz, rfl⟩ := List.mem_map.mp hp
    rcases List.mem_cons.mp hz with rfl | hz
    · exact hw
    · obtain ⟨n, hn, rfl⟩ := List.mem_map.mp hz
      exact sI_low (hs n hn).1
  · have : c = 10 := by simpa using hc
    omega
open TL in
theorem text_ok {h wd : PySem.Str} {ns : List Int} {rows : List (List Int)} (hh : ∀ c ∈ tl h, c < 128) (hw : ∀ c ∈ tl wd, c < 128) (hs : Small ns) (hr : SmallR rows) : PyData.strOk (textS h ns wd rows) = true := by
  have all : ∀ c ∈ tl (textS h ns wd rows), c < 128 := fun c hc => by
    unfold textS at hc
    rw [tl_append, tl_join', tl_no] at hc
    rcases List.mem_append.mp hc with hc | hc
    · exact lineS_low hh hs c hc
    · refine joinL_all (P := fun c => c < 128) (fun _ h => by simp at h) (fun p hp => ?_) c hc
      obtain ⟨z, hz, rfl⟩ := List.mem_map.mp hp
      obtain ⟨r, hr', rfl⟩ := List.mem_map.mp hz
      exact lineS_low hw (hr.2 r hr').1
  show (textS h ns wd rows).cps.all _ = true
  rw [← Array.all_toList, List.all_eq_true]
  intro c hc
  have := all c hc
  simp
  omega
open TL in
theorem text_lines (h wd : PySem.Str) (ns : List Int) (rows : List (List Int)) : PySem.Txt.join "" (((h, ns) :: rows.map fun r => (wd, r)).map fun u => lineS u.1 u.2) = textS h ns wd rows := by
  apply ext_tl
  unfold textS
  rw [tl_append, tl_join', tl_join', tl_no, joinL_no, joinL_no, List.map_cons, List.map_cons, List.flatten_cons, List.map_map, List.map_map, List.map_map]
  rfl
open TL in
theorem lows : (∀ c ∈ tl ("machines" : PySem.Str), c < 128) ∧ (∀ c ∈ tl ("wire" : PySem.Str), c < 128) ∧ (∀ c ∈ tl ("writers" : PySem.Str), c < 128) ∧ (∀ c ∈ tl ("diary" : PySem.Str), c < 128) ∧ (∀ c ∈ tl ("places" : PySem.Str), c < 128) ∧ (∀ c ∈ tl ("link" : PySem.Str), c < 128) := by decide +kernel
def rWeb (K : PySem.W.Frag) (C : Addr) : Addr → Addr → Hp → Prop := fun x y H => ∃ m ws, Da.WebAt K C H x m ws ∧ Da.WebAt K C H y m ws
theorem okS_Web_eq (T : Txt K mg a) : FnOk P w K mg base CX0 1 a.f_Web_eq a.d_Web_eq P_Web_eq (spEq (rWeb K a.c_Web)) := by
  refine T.F_Web_eq.ok sc_Web_eq (fun vs H Q E h => by obtain ⟨x, y, rfl, _⟩ := h; rfl) (fun cdv A outer s H vs Q E hr h => ?_)
  obtain ⟨x, y, rfl, ⟨m, ws, ⟨dx, wa, hx, hxw⟩, dy, wb, hy, hyw⟩, k⟩ := h
  refine ⟨_, (pss_one (ps_ret (pe_and (pe_callB (C8.call_isC T.ic_Web) (by rfl) T.n_isinstance (by decide +kernel) (pa_cons (pv 1) (pa_cons (pe_glob (v := .ref a.c_Web) rfl T.m_Web rfl) pa_nil))) (pe_and (pe_cmpR op_eq (pe_fld (pv 0) rfl) (pe_fld (pv 1) rfl) (nomark _)) (pe_one (pe_cmpR (op_eqD hr.units) (pe_fld (pv 0) rfl) (pe_fld (pv 1) rfl) (nomark _))))))), ?_⟩
  walk_at "ws"
  refine ⟨y, dy, _, rfl, hy, ?_⟩
  walk_at "ws"
  refine r_fld hx T.cl_Web T.na_Web_machines (Da.wf_m _ _) ?_
  walk_at "ws"
  refine r_fld hy T.cl_Web T.na_Web_machines (Da.wf_m _ _) ?_
  walk_at "ws"
  refine w_iteE (by simp) ?_
  walk_at "ws"
  refine r_fld hx T.cl_Web T.na_Web_wires (Da.wf_w _ _) ?_
  walk_at "ws"
  refine r_fld hy T.cl_Web T.na_Web_wires (Da.wf_w _ _) ?_
  refine ⟨dW ws, dW ws, hxw, hyw, sh_dW ws, sh_dW ws, ?_⟩
  rw [eqv_dW, decide_eq_true (rfl : ws = ws)]
  exact k _ Ext.rfl'
def rRec (K : PySem.W.Frag) (C : Addr) : Addr → Addr → Hp → Prop := fun x y H => ∃ ws ds, Da.RecAt K C H x ws ds ∧ Da.RecAt K C H y ws ds
theorem okS_Record_eq (T : Txt K mg a) : FnOk P w K mg base CX0 1 a.f_Record_eq a.d_Record_eq P_Record_eq (spEq (rRec K a.c_Record)) := by
  refine T.F_Record_eq.ok sc_Record_eq (fun vs H Q E h => by obtain ⟨x, y, rfl, _⟩ := h; rfl) (fun cdv A outer s H vs Q E hr h => ?_)
  obtain ⟨x, y, rfl, ⟨ws, ds, ⟨dx, wa, da, hx, hxw, hxd⟩, dy, wb, db, hy, hyw, hyd⟩, k⟩ := h
  refine ⟨_, (pss_one (ps_ret (pe_and (pe_callB (C8.call_isC T.ic_Record) (by rfl) T.n_isinstance (by decide +kernel) (pa_cons (pv 1) (pa_cons (pe_glob (v := .ref a.c_Record) rfl T.m_Record rfl) pa_nil))) (pe_and (pe_cmpR (op_eqD hr.units) (pe_fld (pv 0) rfl) (pe_fld (pv 1) rfl) (nomark _)) (pe_one (pe_cmpR (op_eqD hr.units) (pe_fld (pv 0) rfl) (pe_fld (pv 1) rfl) (nomark _))))))), ?_⟩
  walk_at "ws"
  refine ⟨y, dy, _, rfl, hy, ?_⟩
  walk_at "ws"
  refine r_fld hx T.cl_Record T.na_Record_writers (Da.rf_w _ _) ?_
  walk_at "ws"
  refine r_fld hy T.cl_Record T.na_Record_writers (Da.rf_w _ _) ?_
  refine ⟨dI ws, dI ws, dp_ofI hxw, dp_ofI hyw, sh_dI _, sh_dI _, ?_⟩
  rw [eqv_dI, decide_eq_true (rfl : ws = ws)]
  walk_at "ws"
  refine r_fld hx T.cl_Record T.na_Record_diaries (Da.rf_d _ _) ?_
  walk_at "ws"
  refine r_fld hy T.cl_Record T.na_Record_diaries (Da.rf_d _ _) ?_
  refine ⟨.tuple (ds.map dI), .tuple (ds.map dI), dia_dp hxd, dia_dp hyd, sh_dD _, sh_dD _, ?_⟩
  rw [eqv_dD]
  exact k _ Ext.rfl'
def rHallS (K : PySem.W.Frag) (C : Addr) : Addr → Addr → Hp → Prop := fun x y H => ∃ us pl, HallAt K C H x us pl ∧ HallAt K C H y us pl
theorem okS_Hall_eq (T : Txt K mg a) : FnOk P w K mg base CX0 1 a.f_Hall_eq a.d_Hall_eq P_Hall_eq (spEq (rHallS K a.c_Hall)) := by
  refine T.F_Hall_eq.ok sc_Hall_eq (fun vs H Q E h => by obtain ⟨x, y, rfl, _⟩ := h; rfl) (fun cdv A outer s H vs Q E hr h => ?_)
  obtain ⟨x, y, rfl, ⟨us, pl, ⟨dx, la, pa, hx, hxl, hxp⟩, dy, lb, pb, hy, hyl, hyp⟩, k⟩ := h
  refine ⟨_, (pss_one (ps_ret (pe_and (pe_callB (C8.call_isC T.ic_Hall) (by rfl) T.n_isinstance (by decide +kernel) (pa_cons (pv 1) (pa_cons (pe_glob (v := .ref a.c_Hall) rfl T.m_Hall rfl) pa_nil))) (pe_and (pe_cmpR (op_eqD hr.units) (pe_fld (pv 0) rfl) (pe_fld (pv 1) rfl) (nomark _)) (pe_one (pe_cmpR (op_eqD hr.units) (pe_fld (pv 0) rfl) (pe_fld (pv 1) rfl) (nomark _))))))), ?_⟩
  walk_at "ws"
  refine ⟨y, dy, _, rfl, hy, ?_⟩
  walk_at "ws"
  refine r_fld hx T.cl_Hall T.na_Hall_links (wf_l _ _) ?_
  walk_at "ws"
  refine r_fld hy T.cl_Hall T.na_Hall_links (wf_l _ _) ?_
  refine ⟨dW us, dW us, hxl, hyl, sh_dW us, sh_dW us, ?_⟩
  rw [eqv_dW, decide_eq_true (rfl : us = us)]
  walk_at "ws"
  refine r_fld hx T.cl_Hall T.na_Hall_places (wf_p _ _) ?_
  walk_at "ws"
  refine r_fld hy T.cl_Hall T.na_Hall_places (wf_p _ _) ?_
  refine ⟨dI pl, dI pl, hxp, hyp, sh_dI _, sh_dI _, ?_⟩
  rw [eqv_dI, decide_eq_true (rfl : pl = pl)]
  exact k _ Ext.rfl'

end
end Mine
/-! ## K38 -/


namespace Mine
section
variable {P : Program} {w : World} {K : PySem.W.Frag} {mg : Str → Option Value} {base : Heap} {a : Ads}

/-! ### the law -/
open TL
theorem rowsAt_snoc {H : Hp} {bs : List Addr} {RL : List (PySem.Str × List Int)} {u : PySem.Str × List Int} {p D : Addr} {ys : List V} {z : HO} (h : RowsAt K H bs RL) (hp : SqT K H p (.str u.1 :: u.2.map V.int)) (hD : H D = some (.lst ys)) : RowsAt K (upd H D z) (bs ++ [p]) (RL ++ [u]) := by
  have l := h.1
  have t : Ts H (upd H D z) := Ts.updl hD
  refine ⟨by rw [List.length_append, List.length_append, l]; rfl, fun i b v e1 e2 => ?_⟩
  by_cases c : i < bs.length
  · rw [List.getElem?_append_left c] at e1
    rw [List.getElem?_append_left (by omega)] at e2
    exact sqT_t t (h.2 i b v e1 e2)
  · rw [List.getElem?_append_right (by omega)] at e1
    rw [List.getElem?_append_right (by omega), ← l] at e2
    have hi : i - bs.length = 0 := by
      have := (List.getElem?_eq_some_iff.mp e1).1
      simp at this
      omega
    rw [hi] at e1 e2
    cases e1
    cases e2
    exact sqT_t t hp
theorem rowsAt_cons {H : Hp} {b : Addr} {bs : List Addr} {u : PySem.Str × List Int} {RL : List (PySem.Str × List Int)} (hb : SqT K H b (.str u.1 :: u.2.map V.int)) (h : RowsAt K H bs RL) : RowsAt K H (b :: bs) (u :: RL) :=
  ⟨by rw [List.length_cons, List.length_cons, h.1], fun i b' u' e1 e2 => by
    cases i with
    | zero => cases e1; cases e2; exact hb
    | succ i => exact h.2 i b' u' e1 e2⟩
theorem insW {C : Addr} {H : Hp} {x : Addr} {m : Int} {ws : List (Int × Int)} (h : Da.WebAt K C H x m ws) : ∃ dx fs, H x = some (.ins C dx fs) := by obtain ⟨dx, wa, h, _⟩ := h; exact ⟨_, _, h⟩
theorem insR {C : Addr} {H : Hp} {x : Addr} {ws : List Int} {ds : List (List Int)} (h : Da.RecAt K C H x ws ds) : ∃ dx fs, H x = some (.ins C dx fs) := by obtain ⟨dx, wa, da, h, _⟩ := h; exact ⟨_, _, h⟩
theorem insH {C : Addr} {H : Hp} {x : Addr} {us : List (Int × Int)} {pl : List Int} (h : HallAt K C H x us pl) : ∃ dx fs, H x = some (.ins C dx fs) := by obtain ⟨dx, la, pa, h, _⟩ := h; exact ⟨_, _, h⟩
theorem webAt_n {C : Addr} {H H' : Hp} {x : Addr} {m : Int} {ws : List (Int × Int)} (h : Da.WebAt K C H x m ws) (g : G none H H') : Da.WebAt K C H' x m ws := by
  obtain ⟨dx, wa, h1, h2⟩ := h
  exact ⟨dx, wa, g.all _ _ h1, (dp_n g).1 _ _ h2⟩
def spLaw (K : PySem.W.Frag) : Sp := fun vs H Q _ => ∃ (s : Addr) (ns : List Int), vs = [.ref s] ∧ SqL K H s (ns.map V.int) ∧ ns.length ≤ 63 ∧ ∀ H', Q (.bl true) H'
theorem ok_law (T : Txt K mg a) : FnOk P w K mg base CX0 11 a.f_law a.d_law P_law (spLaw K) := by
  refine T.F_law.ok sc_law (fun vs H Q E h => by obtain ⟨s, ns, rfl, _⟩ := h; rfl) (fun cdv A outer s0 H vs Q E hr h => ?_)
  obtain ⟨s, ns, rfl, hs, hl, k⟩ := h
  have G__law_hand : FnOk P w K mg base CX0 1 a.f__law_hand a.d__law_hand P__law_hand (sp__law_hand K) := ok__law_hand T
  have G__law_web : FnOk P w K mg base CX0 3 a.f__law_web a.d__law_web P__law_web (sp__law_web K) := ok__law_web T
  have G__law_lines : FnOk P w K mg base CX0 1 a.f__law_lines a.d__law_lines P__law_lines (sp__law_lines K) := ok__law_lines T
  have G_web_text : FnOk P w K mg base CX0 3 a.f_web_text a.d_web_text P_web_text (sp_web_text K a.c_Web) := ok_web_text T
  have G_record_text : FnOk P w K mg base CX0 3 a.f_record_text a.d_record_text P_record_text (sp_record_text K a.c_Record) := ok_record_text T
  have G_hall_text : FnOk P w K mg base CX0 3 a.f_hall_text a.d_hall_text P_hall_text (sp_hall_text K a.c_Hall) := ok_hall_text T
  have G_read_web : FnOk P w K mg base CX0 9 a.f_read_web a.d_read_web P_read_web (sp_read_web K a.c_Web) := ok_read_web T
  have G_read_record : FnOk P w K mg base CX0 9 a.f_read_record a.d_read_record P_read_record (sp_read_record K a.c_Record) := ok_read_record T
  have G_read_hall : FnOk P w K mg base CX0 10 a.f_read_hall a.d_read_hall P_read_hall (sp_read_hall K a.c_Hall) := ok_read_hall T
  have G__law_some_record : FnOk P w K mg base CX0 3 a.f__law_some_record a.d__law_some_record P__law_some_record (sp__law_some_record K) := ok__law_some_record T
  have G__law_hall : FnOk P w K mg base CX0 3 a.f__law_hall a.d__law_hall P__law_hall (sp__law_hall a.c_Hall) := ok__law_hall T
  have G__law_is : FnOk P w K mg base CX0 1 a.f__law_is a.d__law_is P__law_is (sp__law_is K 0) := ok__law_is T 0
  have G_Web_init : FnOk P w K mg base CX0 7 a.f_Web_init a.d_Web_init P_Web_init (Da.sp_Web_init K a.c_Web) := Da.ok_Web_init T
  have G_Record_init : FnOk P w K mg base CX0 7 a.f_Record_init a.d_Record_init P_Record_init (Da.sp_Record_init K a.c_Record) := Da.ok_Record_init T
  have G_Hall_init : FnOk P w K mg base (L2.CX P w) 8 a.f_Hall_init a.d_Hall_init P_Hall_init (sp_Hall_init a.c_Hall a.c_BadHall) := ok_Hall_init T
  refine ⟨_, (pss_cons (ps_set (i := 1) sc_law.nd rfl (Or.inl rfl) (pe_call (G__law_hand) (hr.mono (by omega)) rfl T.m__law_hand T.F__law_hand.kp T.b__law_hand .nil pass0 (pa_cons (pv 0) pa_nil)))
  (pss_cons (ps_for PassesOwn.never rfl (pi_range1 rfl T.n_range (pa_cons pe_int pa_nil)) (pg_name (i := 2) sc_law.nd rfl (Or.inl rfl))
    (pss_cons (ps_asg (pe_call (G__law_web) (hr.mono (by omega)) rfl T.m__law_web T.F__law_web.kp T.b__law_web .nil pass0 (pa_cons (pv 1) (pa_cons pe_int pa_nil))) (pg_tup rfl (pgs_cons (pg_name (i := 3) sc_law.nd rfl (Or.inl rfl)) (pgs_cons (pg_name (i := 4) sc_law.nd rfl (Or.inl rfl)) pgs_nil))))
  (pss_cons (ps_set (i := 5) sc_law.nd rfl (Or.inl rfl) (pe_make T.K_Web (G_Web_init) (hr.mono (by omega)) rfl T.m_Web T.b_Web_init .nil pass0 (pa_cons (pv 3) (pa_cons (pv 4) pa_nil))))
  (pss_cons (ps_set (i := 6) sc_law.nd rfl (Or.inl rfl) (pe_call (G__law_lines) (hr.mono (by omega)) rfl T.m__law_lines T.F__law_lines.kp T.b__law_lines .nil pass0 (pa_cons (pe_op op_cat (pe_lstN (pa_cons (pe_tupN (pa_cons pe_str (pa_cons (pv 3) pa_nil))) pa_nil)) (pe_lc (own := [("_law_wire", 13)]) (g := (gName 13)) (tt := tYes) rfl sc_law.nd (pi_tup (pv 4)) (blkOk_by (N := N_law) (sc := defScope s_law) (by decide +kernel)) (fun _ _ _ _ _ => (pg_name (i := 13) sc_law.nd rfl (by first | exact Or.inl rfl | exact Or.inr rfl))) (fun _ _ _ _ _ => pts_nil) (fun _ _ _ _ _ => (pe_op (k_catFl K) (pe_tupF (pa_cons pe_str pa_nil)) (pv 13))))) pa_nil)))
  (pss_cons (ps_if (L2.PW.pt (pw_or (pt_not (pt_val (pe_call (G__law_is) (hr.mono (by omega)) rfl T.m__law_is T.F__law_is.kp T.b__law_is .nil pass0 (pa_cons (pe_call (G_web_text) (hr.mono (by omega)) rfl T.m_web_text T.F_web_text.kp T.b_web_text .nil pass0 (pa_cons (pv 5) pa_nil)) (pa_cons (pv 6) pa_nil))))) (pw_or (pt_cmpR (op_neG (okS_Web_eq T) T.eqf_Web T.eqi_Web T.b_Web_eq pass0 T.ne_Web T.ic_Web.hm (hr.mono (by omega))) (pe_call (G_read_web) (hr.mono (by omega)) rfl T.m_read_web T.F_read_web.kp T.b_read_web .nil pass0 (pa_cons (pv 6) pa_nil)) (pv 5) (nomark _)) (pw_or1 (pt_cmpR op_ne (pe_call (G_web_text) (hr.mono (by omega)) rfl T.m_web_text T.F_web_text.kp T.b_web_text .nil pass0 (pa_cons (pe_call (G_read_web) (hr.mono (by omega)) rfl T.m_read_web T.F_read_web.kp T.b_read_web .nil pass0 (pa_cons (pv 6) pa_nil)) pa_nil)) (pv 6) (nomark _))))))
    (pss_one (ps_ret pe_bl))
    pss_nil)
  (pss_cons (ps_asg (pe_call (G__law_some_record) (hr.mono (by omega)) rfl T.m__law_some_record T.F__law_some_record.kp T.b__law_some_record .nil pass0 (pa_cons (pv 1) pa_nil)) (pg_tup rfl (pgs_cons (pg_name (i := 7) sc_law.nd rfl (Or.inl rfl)) (pgs_cons (pg_name (i := 8) sc_law.nd rfl (Or.inl rfl)) pgs_nil))))
  (pss_cons (ps_set (i := 9) sc_law.nd rfl (Or.inl rfl) (pe_make T.K_Record (G_Record_init) (hr.mono (by omega)) rfl T.m_Record T.b_Record_init .nil pass0 (pa_cons (pv 7) (pa_cons (pv 8) pa_nil))))
  (pss_cons (ps_set (i := 6) sc_law.nd rfl (Or.inl rfl) (pe_call (G__law_lines) (hr.mono (by omega)) rfl T.m__law_lines T.F__law_lines.kp T.b__law_lines .nil pass0 (pa_cons (pe_op op_cat (pe_lstN (pa_cons (pe_op (k_catFl K) (pe_tupF (pa_cons pe_str pa_nil)) (pv 7)) pa_nil)) (pe_lc (own := [("_law_diary", 14)]) (g := (gName 14)) (tt := tYes) rfl sc_law.nd (pi_tup (pv 8)) (blkOk_by (N := N_law) (sc := defScope s_law) (by decide +kernel)) (fun _ _ _ _ _ => (pg_name (i := 14) sc_law.nd rfl (by first | exact Or.inl rfl | exact Or.inr rfl))) (fun _ _ _ _ _ => pts_nil) (fun _ _ _ _ _ => (pe_op (k_catFl K) (pe_tupF (pa_cons pe_str pa_nil)) (pv 14))))) pa_nil)))
  (pss_cons (ps_if (L2.PW.pt (pw_or (pt_not (pt_val (pe_call (G__law_is) (hr.mono (by omega)) rfl T.m__law_is T.F__law_is.kp T.b__law_is .nil pass0 (pa_cons (pe_call (G_record_text) (hr.mono (by omega)) rfl T.m_record_text T.F_record_text.kp T.b_record_text .nil pass0 (pa_cons (pv 9) pa_nil)) (pa_cons (pv 6) pa_nil))))) (pw_or1 (pt_cmpR (op_neG (okS_Record_eq T) T.eqf_Record T.eqi_Record T.b_Record_eq pass0 T.ne_Record T.ic_Record.hm (hr.mono (by omega))) (pe_call (G_read_record) (hr.mono (by omega)) rfl T.m_read_record T.F_read_record.kp T.b_read_record .nil pass0 (pa_cons (pv 6) pa_nil)) (pv 9) (nomark _)))))
    (pss_one (ps_ret pe_bl))
    pss_nil)
  (pss_cons (ps_if (pt_cmpR op_ne (pe_call (G_record_text) (hr.mono (by omega)) rfl T.m_record_text T.F_record_text.kp T.b_record_text .nil pass0 (pa_cons (pe_call (G_read_record) (hr.mono (by omega)) rfl T.m_read_record T.F_read_record.kp T.b_read_record .nil pass0 (pa_cons (pv 6) pa_nil)) pa_nil)) (pv 6) (nomark _))
    (pss_one (ps_ret pe_bl))
    pss_nil)
  (pss_cons (ps_asg (pe_call (G__law_hall) (hr.mono (by omega)) rfl T.m__law_hall T.F__law_hall.kp T.b__law_hall .nil pass0 (pa_cons (pv 1) pa_nil)) (pg_tup rfl (pgs_cons (pg_name (i := 10) sc_law.nd rfl (Or.inl rfl)) (pgs_cons (pg_name (i := 11) sc_law.nd rfl (Or.inl rfl)) pgs_nil))))
  (pss_cons (ps_set (i := 12) sc_law.nd rfl (Or.inl rfl) (pe_make T.K_Hall G_Hall_init (hr.mono (by omega)) rfl T.m_Hall T.b_Hall_init .nil passE0 (pa_cons (pv 10) (pa_cons (pv 11) pa_nil))))
  (pss_cons (ps_set (i := 6) sc_law.nd rfl (Or.inl rfl) (pe_call (G__law_lines) (hr.mono (by omega)) rfl T.m__law_lines T.F__law_lines.kp T.b__law_lines .nil pass0 (pa_cons (pe_op op_cat (pe_lstN (pa_cons (pe_op (k_catFl K) (pe_tupF (pa_cons pe_str pa_nil)) (pv 11)) pa_nil)) (pe_lc (own := [("_law_link", 15)]) (g := (gName 15)) (tt := tYes) rfl sc_law.nd (pi_tup (pv 10)) (blkOk_by (N := N_law) (sc := defScope s_law) (by decide +kernel)) (fun _ _ _ _ _ => (pg_name (i := 15) sc_law.nd rfl (by first | exact Or.inl rfl | exact Or.inr rfl))) (fun _ _ _ _ _ => pts_nil) (fun _ _ _ _ _ => (pe_op (k_catFl K) (pe_tupF (pa_cons pe_str pa_nil)) (pv 15))))) pa_nil)))
  (pss_one (ps_if (L2.PW.pt (pw_or (pt_not (pt_val (pe_call (G__law_is) (hr.mono (by omega)) rfl T.m__law_is T.F__law_is.kp T.b__law_is .nil pass0 (pa_cons (pe_call (G_hall_text) (hr.mono (by omega)) rfl T.m_hall_text T.F_hall_text.kp T.b_hall_text .nil pass0 (pa_cons (pv 12) pa_nil)) (pa_cons (pv 6) pa_nil))))) (pw_or (pt_cmpR (op_neG (okS_Hall_eq T) T.eqf_Hall T.eqi_Hall T.b_Hall_eq pass0 T.ne_Hall T.ic_Hall.hm (hr.mono (by omega))) (pe_call (G_read_hall) (hr.mono (by omega)) rfl T.m_read_hall T.F_read_hall.kp T.b_read_hall .nil pass0 (pa_cons (pv 6) pa_nil)) (pv 12) (nomark _)) (pw_or1 (pt_cmpR op_ne (pe_call (G_hall_text) (hr.mono (by omega)) rfl T.m_hall_text T.F_hall_text.kp T.b_hall_text .nil pass0 (pa_cons (pe_call (G_read_hall) (hr.mono (by omega)) rfl T.m_read_hall T.F_read_hall.kp T.b_read_hall .nil pass0 (pa_cons (pv 6) pa_nil)) pa_nil)) (pv 6) (nomark _))))))
    (pss_one (ps_ret pe_bl))
    pss_nil)))))))))))))))
  (pss_one (ps_ret pe_bl)))), ?_⟩
  walk_at "ws"
  refine ⟨s, ns, rfl, hs, hl, fun hd c H1 g1 hh1 => ?_⟩
  clear hs g1
  walk_at "ws"
  refine i_rng1 (by decide) (by decide) ?_
  refine for_it walk_range (fun i σ H' => Hand H' hd c ∧ ∃ u2 u3 u4 u5 u6 u7 u8 u9 u10 u11 u12 u13 u14 u15, σ = [some (.ref s), some (.ref hd), u2, u3, u4, u5, u6, u7, u8, u9, u10, u11, u12, u13, u14, u15]) ⟨hh1, _, _, _, _, _, _, _, _, _, _, _, _, _, _, rfl⟩ (fun _ _ _ _ _ => trivial) ?_ ?_
  · rintro turn _ σ _ H2 ht ⟨hh2, u2, u3, u4, u5, u6, u7, u8, u9, u10, u11, u12, u13, u14, u15, rfl⟩ ⟨rfl, rfl⟩
    clear hh1
    walk_at "ws"
    refine ⟨hd, c, rfl, hh2, fun p wp n ws H3 g3 hh3 hp hw web => ?_⟩
    refine ⟨p, _, rfl, SqT.of hp, rfl, ?_⟩
    refine ⟨_, _, rfl, ?_⟩
    walk_at "ws"
    refine ⟨_, _, rfl, ?_⟩
    walk_at "ws"
    refine ⟨rfl, ?_⟩
    clear hp g3 hh2
    walk_at "ws"
    refine Da.web_new hw web fun x H4 hx g4 hxw => ?_
    have hh4 := (g4 _).hand (hd, c) rfl hh3
    have hw4 := (dp_n (g4 none)).1 _ _ hw
    clear hx g4 hw hh3
    have sm0 := web_small web
    have smr := sm0.2
    have smn := sm0.1
    walk_at "ws"
    refine ⟨sz (by simp), fun t0 B1 ht0 gB1 hB1 => ?_⟩
    walk_at "ws"
    refine ⟨sz (by simp), fun l0 B2 hl0 gB2 hB2 => ?_⟩
    have gB := (gB1 none).trans (gB2 none)
    have hB1' := (gB2 none).all _ _ hB1
    rw [← prI_dW] at hw4
    obtain ⟨rq, rs, er, hrs, hra⟩ := dp_tup ((dp_n gB).1 _ _ hw4)
    cases er
    walk_at "ws"
    refine i_tup hrs ?_
    intro D hD
    have rl := GA.DpAll.length hra
    rw [List.length_map] at rl
    refine lc_it (walk_tup (xs := rs)) (fun i H' => ∃ bs : List Addr, G none B2 H' ∧ H' D = some (.lst (bs.map V.ref)) ∧ RowsAt K H' bs (((ws.map prI).take i).map fun r => (("wire" : PySem.Str), r))) ⟨[], (G.refl).mut hD (fun _ e => nomatch e), upd_same, rfl, fun i b u e => by simp at e⟩ (fun i H' _ ⟨_, g, _⟩ => sqT_t g.tups hrs) ?_ ?_
    · rintro i y _ H' hi ⟨bs, gX, hX, rX⟩ ⟨rfl, hy⟩
      obtain ⟨r, q, hr1, rfl, hq⟩ := dInts ((dp_n gX).2 _ _ hra) hy
      have sr := (smr.2 r (List.mem_of_getElem? hr1)).2
      have bl : bs.length = i := by
        have := rX.1
        rw [List.length_map, List.length_take] at this
        omega
      walk_at "ws"
      refine ⟨rfl, ?_⟩
      walk_at "ws"
      refine w_tupF ?_
      walk_at "ws"
      refine ⟨sz (by simp), fun a0 HY ha0 gY fY => ?_⟩
      walk_at "ws"
      refine ⟨a0, q, _, _, rfl, rfl, fY, sqT_t (gY none).tups hq, by simp, by rw [List.length_map]; simp; omega, fun p HZ gZ fZ => ?_⟩
      have gXZ := (gY none).trans (gZ none)
      have hZ := gXZ.all _ _ hX
      have r50 := smr.1
      refine ⟨bs.map V.ref, hZ, Nat.lt_of_le_of_lt (by rw [List.length_map]; omega : (bs.map V.ref).length ≤ 100000) (by decide), bs ++ [p], (gX.trans gXZ).mut hD (fun _ e => nomatch e), by rw [upd_same, List.map_append]; rfl, ?_⟩
      rw [List.take_add_one, hr1, List.map_append]
      exact rowsAt_snoc (rX.t gXZ.tups) fZ.sq hZ
    rintro HY ⟨bs, gX, hX, rX⟩
    rw [rl, List.take_length] at rX
    walk_at "ws"
    refine ⟨l0, D, [.ref t0], bs.map V.ref, rfl, rfl, gX.all _ _ hB2, hX, sz (by rw [List.length_map, rX.1, List.length_map]; simp; have := smr.1; (try simp at this); omega), fun q hq => ?_⟩
    have gq : G none HY (upd HY q (.lst ([.ref t0] ++ bs.map V.ref))) := G.alloc hq
    have hq1 : (upd HY q (.lst ([.ref t0] ++ bs.map V.ref))) q = some (.lst ((t0 :: bs).map V.ref)) := upd_same
    generalize upd HY q (.lst ([.ref t0] ++ bs.map V.ref)) = HZ at gq hq1 ⊢
    have gAZ : G none H4 HZ := (gB.trans gX).trans gq
    walk_at "ws"
    refine ⟨q, t0 :: bs, (("machines" : PySem.Str), [((n : Nat) : Int)]) :: (ws.map prI).map (fun r => (("wire" : PySem.Str), r)), rfl, SqL.of hq1, rowsAt_cons (sqT_t (gX.trans gq).tups (SqT.of hB1')) (rX.t gq.tups), by rw [List.length_cons, List.length_map]; have := smr.1; omega, fun u hu => ?_, fun HL gL => ?_⟩
    · rcases List.mem_cons.mp hu with rfl | hu
      · exact ⟨lens8.1, smn, by simp⟩
      · obtain ⟨r, hr', rfl⟩ := List.mem_map.mp hu
        exact ⟨lens8.2.1, (smr.2 r hr').1, (smr.2 r hr').2⟩
    rw [text_lines]
    have gAL := gAZ.trans gL
    have atL := webAt_n (hxw) gAL
    have txt : PyData.strOk (textS "machines" ([((n : Nat) : Int)]) "wire" (ws.map prI)) = true := text_ok lows.1 lows.2.1 smn smr
    walk_at "ws"
    refine ⟨x, ((n : Nat) : Int), ws, rfl, atL, web, fun HM gM => ?_⟩
    walk_at "ws"
    refine ⟨_, _, .str (textS "machines" ([((n : Nat) : Int)]) "wire" (ws.map prI)), rfl, txt, .str _, .str _, fun HN gN => ?_⟩
    walk_at "ws"
    have atN := webAt_n atL (gM.trans gN)
    refine ⟨((n : Nat) : Int), ws, rfl, web, fun y HO_ gO hy => ?_⟩
    walk_at "ws"
    have atO := webAt_n atN gO
    obtain ⟨dy, fy, hf1⟩ := insW hy
    obtain ⟨dx, fx, hf2⟩ := insW atO
    refine ⟨⟨y, x, dy, dx, fy, fx, rfl, rfl, hf1, hf2, ⟨((n : Nat) : Int), ws, hy, atO⟩⟩, fun HP eP => ?_⟩
    have gP := ext_of eP
    walk_at "ws"
    refine ⟨((n : Nat) : Int), ws, rfl, web, fun y2 HQ gQ hy2 => ?_⟩
    walk_at "ws"
    refine ⟨y2, ((n : Nat) : Int), ws, rfl, hy2, web, fun HR gR => ?_⟩
    walk_at "ws"
    refine ⟨rfl, false, by unfold webS; simp, ?_⟩
    have gAR := gAL.trans ((gM.trans gN).trans (gO.trans (gP.trans (gQ.trans gR))))
    have hhR := (gAR.up (o := some (hd, c))).hand _ rfl hh4
    clear gAR gR gQ gP eP gO gN gM gL gq hq1 hq hX gX rX hra hrs atL atO atN hy hy2 hf1 hf2
    clear hxw hw4 web sm0 smr smn hB1 hB1' hB2 gB gB1 gB2 ht0 hl0 hh4
    walk_at "ws"
    refine ⟨hd, c, rfl, hhR, fun p vp dp ws ds H3 g3 hh3 hp hv dia rec => ?_⟩
    refine ⟨p, _, rfl, SqT.of hp, rfl, ?_⟩
    refine ⟨_, _, rfl, ?_⟩
    walk_at "ws"
    refine ⟨_, _, rfl, ?_⟩
    walk_at "ws"
    refine ⟨rfl, ?_⟩
    clear hp g3 hhR
    walk_at "ws"
    refine Da.rec_new hv dia rec fun x H4 hx g4 hxr => ?_
    have hh4 := (g4 _).hand (hd, c) rfl hh3
    have hv4 := sqT_t (g4 none).tups hv
    have hw4 := dia_dp (dia.n (g4 none))
    clear hx g4 hv dia hh3
    have sm0 := rec_small rec
    have smr := sm0.2
    have smn := sm0.1
    walk_at "ws"
    refine w_tupF ?_
    walk_at "ws"
    refine ⟨sz (by simp), fun a0 B0 ha0 gB0 fB0 => ?_⟩
    walk_at "ws"
    refine ⟨a0, vp, _, _, rfl, rfl, fB0, sqT_t (gB0 none).tups hv4, by simp, by rw [List.length_map]; simp; have := rec.p30; omega, fun t0 B1 gB1 fB1 => ?_⟩
    walk_at "ws"
    refine ⟨sz (by simp), fun l0 B2 hl0 gB2 hB2 => ?_⟩
    have gB := (gB0 none).trans ((gB1 none).trans (gB2 none))
    have fB2 := fB1.n (gB2 none)
    obtain ⟨rq, rs, er, hrs, hra⟩ := dp_tup ((dp_n gB).1 _ _ hw4)
    cases er
    walk_at "ws"
    refine i_tup hrs ?_
    intro D hD
    have rl := GA.DpAll.length hra
    rw [List.length_map] at rl
    refine lc_it (walk_tup (xs := rs)) (fun i H' => ∃ bs : List Addr, G none B2 H' ∧ H' D = some (.lst (bs.map V.ref)) ∧ RowsAt K H' bs ((ds.take i).map fun r => (("diary" : PySem.Str), r))) ⟨[], (G.refl).mut hD (fun _ e => nomatch e), upd_same, rfl, fun i b u e => by simp at e⟩ (fun i H' _ ⟨_, g, _⟩ => sqT_t g.tups hrs) ?_ ?_
    · rintro i y _ H' hi ⟨bs, gX, hX, rX⟩ ⟨rfl, hy⟩
      obtain ⟨r, q, hr1, rfl, hq⟩ := dInts ((dp_n gX).2 _ _ hra) hy
      have sr := (smr.2 r (List.mem_of_getElem? hr1)).2
      have bl : bs.length = i := by
        have := rX.1
        rw [List.length_map, List.length_take] at this
        omega
      walk_at "ws"
      refine ⟨rfl, ?_⟩
      walk_at "ws"
      refine w_tupF ?_
      walk_at "ws"
      refine ⟨sz (by simp), fun a0 HY ha0 gY fY => ?_⟩
      walk_at "ws"
      refine ⟨a0, q, _, _, rfl, rfl, fY, sqT_t (gY none).tups hq, by simp, by rw [List.length_map]; simp; omega, fun p HZ gZ fZ => ?_⟩
      have gXZ := (gY none).trans (gZ none)
      have hZ := gXZ.all _ _ hX
      have r50 := smr.1
      refine ⟨bs.map V.ref, hZ, Nat.lt_of_le_of_lt (by rw [List.length_map]; omega : (bs.map V.ref).length ≤ 100000) (by decide), bs ++ [p], (gX.trans gXZ).mut hD (fun _ e => nomatch e), by rw [upd_same, List.map_append]; rfl, ?_⟩
      rw [List.take_add_one, hr1, List.map_append]
      exact rowsAt_snoc (rX.t gXZ.tups) fZ.sq hZ
    rintro HY ⟨bs, gX, hX, rX⟩
    rw [rl, List.take_length] at rX
    walk_at "ws"
    refine ⟨l0, D, [.ref t0], bs.map V.ref, rfl, rfl, gX.all _ _ hB2, hX, sz (by rw [List.length_map, rX.1, List.length_map]; simp; have := smr.1; (try simp at this); omega), fun q hq => ?_⟩
    have gq : G none HY (upd HY q (.lst ([.ref t0] ++ bs.map V.ref))) := G.alloc hq
    have hq1 : (upd HY q (.lst ([.ref t0] ++ bs.map V.ref))) q = some (.lst ((t0 :: bs).map V.ref)) := upd_same
    generalize upd HY q (.lst ([.ref t0] ++ bs.map V.ref)) = HZ at gq hq1 ⊢
    have gAZ : G none H4 HZ := (gB.trans gX).trans gq
    walk_at "ws"
    refine ⟨q, t0 :: bs, (("writers" : PySem.Str), ws) :: (ds).map (fun r => (("diary" : PySem.Str), r)), rfl, SqL.of hq1, rowsAt_cons (sqT_t (gX.trans gq).tups fB2.sq) (rX.t gq.tups), by rw [List.length_cons, List.length_map]; have := smr.1; omega, fun u hu => ?_, fun HL gL => ?_⟩
    · rcases List.mem_cons.mp hu with rfl | hu
      · exact ⟨lens8.2.2.1, smn, by show ws.length ≤ 40; have := rec.p30; omega⟩
      · obtain ⟨r, hr', rfl⟩ := List.mem_map.mp hu
        exact ⟨lens8.2.2.2.1, (smr.2 r hr').1, (smr.2 r hr').2⟩
    rw [text_lines]
    have gAL := gAZ.trans gL
    have atL := (hxr).n gAL
    have txt : PyData.strOk (textS "writers" (ws) "diary" (ds)) = true := text_ok lows.2.2.1 lows.2.2.2.1 smn smr
    walk_at "ws"
    refine ⟨x, ws, ds, rfl, atL, rec, fun HM gM => ?_⟩
    walk_at "ws"
    refine ⟨_, _, .str (textS "writers" (ws) "diary" (ds)), rfl, txt, .str _, .str _, fun HN gN => ?_⟩
    walk_at "ws"
    have atN := atL.n (gM.trans gN)
    refine ⟨ws, ds, rfl, rec, fun y HO_ gO hy => ?_⟩
    walk_at "ws"
    have atO := atN.n gO
    obtain ⟨dy, fy, hf1⟩ := insR hy
    obtain ⟨dx, fx, hf2⟩ := insR atO
    refine ⟨⟨y, x, dy, dx, fy, fx, rfl, rfl, hf1, hf2, ⟨ws, ds, hy, atO⟩⟩, fun HP eP => ?_⟩
    have gP := ext_of eP
    walk_at "ws"
    refine ⟨ws, ds, rfl, rec, fun y2 HQ gQ hy2 => ?_⟩
    walk_at "ws"
    refine ⟨y2, ws, ds, rfl, hy2, rec, fun HR gR => ?_⟩
    walk_at "ws"
    refine ⟨rfl, false, by unfold recS; simp, ?_⟩
    have gAR := gAL.trans ((gM.trans gN).trans (gO.trans (gP.trans (gQ.trans gR))))
    have hhR := (gAR.up (o := some (hd, c))).hand _ rfl hh4
    clear gAR gR gQ gP eP gO gN gM gL gq hq1 hq hX gX rX hra hrs atL atO atN hy hy2 hf1 hf2
    clear hxr hw4 rec sm0 smr smn hB2 gB gB0 gB1 gB2 ha0 hl0 hh4 fB0 fB1 fB2 hv4
    walk_at "ws"
    refine ⟨hd, c, rfl, hhR, fun p lp pp us pl H3 g3 hh3 hp hlk hpl ok => ?_⟩
    refine ⟨p, _, rfl, .inl hp, rfl, ?_⟩
    refine ⟨_, _, rfl, ?_⟩
    walk_at "ws"
    refine ⟨_, _, rfl, ?_⟩
    walk_at "ws"
    refine ⟨rfl, ?_⟩
    clear hp g3 hhR
    have hd0 := hdue_ok ok
    walk_at "ws"
    refine make_hall hlk hpl (fun _ x dx H4 hx g4 h4 => ?_) (fun e ee => by rw [hd0] at ee; cases ee)
    have hh4 := (g4 _).hand (hd, c) rfl hh3
    have hlk4 : Dp K H4 (.ref lp) (dW us) := ab_dW (hlk.n (g4 none))
    have hpl4 : Dp K H4 (.ref pp) (dI pl) := ab_dI (hpl.n (g4 none))
    have hxh : HallAt K a.c_Hall H4 x us pl := ⟨dx, lp, pp, h4, hlk4, hpl4⟩
    obtain ⟨pp', epp, hv4⟩ := dp_dI hpl4
    cases epp
    clear hx g4 hlk hpl hh3 h4 hd0
    have sm0 := hall_small ok
    have smr := sm0.2
    have smn := sm0.1
    walk_at "ws"
    refine w_tupF ?_
    walk_at "ws"
    refine ⟨sz (by simp), fun a0 B0 ha0 gB0 fB0 => ?_⟩
    walk_at "ws"
    refine ⟨a0, pp, _, _, rfl, rfl, fB0, sqT_t (gB0 none).tups hv4, by simp, by rw [List.length_map]; simp; have := ok.p7; omega, fun t0 B1 gB1 fB1 => ?_⟩
    walk_at "ws"
    refine ⟨sz (by simp), fun l0 B2 hl0 gB2 hB2 => ?_⟩
    have gB := (gB0 none).trans ((gB1 none).trans (gB2 none))
    have fB2 := fB1.n (gB2 none)
    rw [← prI_dW] at hlk4
    obtain ⟨rq, rs, er, hrs, hra⟩ := dp_tup ((dp_n gB).1 _ _ hlk4)
    cases er
    walk_at "ws"
    refine i_tup hrs ?_
    intro D hD
    have rl := GA.DpAll.length hra
    rw [List.length_map] at rl
    refine lc_it (walk_tup (xs := rs)) (fun i H' => ∃ bs : List Addr, G none B2 H' ∧ H' D = some (.lst (bs.map V.ref)) ∧ RowsAt K H' bs (((us.map prI).take i).map fun r => (("link" : PySem.Str), r))) ⟨[], (G.refl).mut hD (fun _ e => nomatch e), upd_same, rfl, fun i b u e => by simp at e⟩ (fun i H' _ ⟨_, g, _⟩ => sqT_t g.tups hrs) ?_ ?_
    · rintro i y _ H' hi ⟨bs, gX, hX, rX⟩ ⟨rfl, hy⟩
      obtain ⟨r, q, hr1, rfl, hq⟩ := dInts ((dp_n gX).2 _ _ hra) hy
      have sr := (smr.2 r (List.mem_of_getElem? hr1)).2
      have bl : bs.length = i := by
        have := rX.1
        rw [List.length_map, List.length_take] at this
        omega
      walk_at "ws"
      refine ⟨rfl, ?_⟩
      walk_at "ws"
      refine w_tupF ?_
      walk_at "ws"
      refine ⟨sz (by simp), fun a0 HY ha0 gY fY => ?_⟩
      walk_at "ws"
      refine ⟨a0, q, _, _, rfl, rfl, fY, sqT_t (gY none).tups hq, by simp, by rw [List.length_map]; simp; omega, fun p HZ gZ fZ => ?_⟩
      have gXZ := (gY none).trans (gZ none)
      have hZ := gXZ.all _ _ hX
      have r50 := smr.1
      refine ⟨bs.map V.ref, hZ, Nat.lt_of_le_of_lt (by rw [List.length_map]; omega : (bs.map V.ref).length ≤ 100000) (by decide), bs ++ [p], (gX.trans gXZ).mut hD (fun _ e => nomatch e), by rw [upd_same, List.map_append]; rfl, ?_⟩
      rw [List.take_add_one, hr1, List.map_append]
      exact rowsAt_snoc (rX.t gXZ.tups) fZ.sq hZ
    rintro HY ⟨bs, gX, hX, rX⟩
    rw [rl, List.take_length] at rX
    walk_at "ws"
    refine ⟨l0, D, [.ref t0], bs.map V.ref, rfl, rfl, gX.all _ _ hB2, hX, sz (by rw [List.length_map, rX.1, List.length_map]; simp; have := smr.1; (try simp at this); omega), fun q hq => ?_⟩
    have gq : G none HY (upd HY q (.lst ([.ref t0] ++ bs.map V.ref))) := G.alloc hq
    have hq1 : (upd HY q (.lst ([.ref t0] ++ bs.map V.ref))) q = some (.lst ((t0 :: bs).map V.ref)) := upd_same
    generalize upd HY q (.lst ([.ref t0] ++ bs.map V.ref)) = HZ at gq hq1 ⊢
    have gAZ : G none H4 HZ := (gB.trans gX).trans gq
    walk_at "ws"
    refine ⟨q, t0 :: bs, (("places" : PySem.Str), pl) :: (us.map prI).map (fun r => (("link" : PySem.Str), r)), rfl, SqL.of hq1, rowsAt_cons (sqT_t (gX.trans gq).tups fB2.sq) (rX.t gq.tups), by rw [List.length_cons, List.length_map]; have := smr.1; omega, fun u hu => ?_, fun HL gL => ?_⟩
    · rcases List.mem_cons.mp hu with rfl | hu
      · exact ⟨lens8.2.2.2.2.1, smn, by show pl.length ≤ 40; have := ok.p7; omega⟩
      · obtain ⟨r, hr', rfl⟩ := List.mem_map.mp hu
        exact ⟨lens8.2.2.2.2.2, (smr.2 r hr').1, (smr.2 r hr').2⟩
    rw [text_lines]
    have gAL := gAZ.trans gL
    have atL := (hxh).n gAL
    have txt : PyData.strOk (textS "places" (pl) "link" (us.map prI)) = true := text_ok lows.2.2.2.2.1 lows.2.2.2.2.2 smn smr
    walk_at "ws"
    refine ⟨x, us, pl, rfl, atL, ok, fun HM gM => ?_⟩
    walk_at "ws"
    refine ⟨_, _, .str (textS "places" (pl) "link" (us.map prI)), rfl, txt, .str _, .str _, fun HN gN => ?_⟩
    walk_at "ws"
    have atN := atL.n (gM.trans gN)
    refine ⟨us, pl, rfl, ok, fun y HO_ gO hy => ?_⟩
    walk_at "ws"
    have atO := atN.n gO
    obtain ⟨dy, fy, hf1⟩ := insH hy
    obtain ⟨dx, fx, hf2⟩ := insH atO
    refine ⟨⟨y, x, dy, dx, fy, fx, rfl, rfl, hf1, hf2, ⟨us, pl, hy, atO⟩⟩, fun HP eP => ?_⟩
    have gP := ext_of eP
    walk_at "ws"
    refine ⟨us, pl, rfl, ok, fun y2 HQ gQ hy2 => ?_⟩
    walk_at "ws"
    refine ⟨y2, us, pl, rfl, hy2, ok, fun HR gR => ?_⟩
    walk_at "ws"
    refine ⟨rfl, false, by unfold hallS; simp, ?_⟩
    have gAR := gAL.trans ((gM.trans gN).trans (gO.trans (gP.trans (gQ.trans gR))))
    have hhR := (gAR.up (o := some (hd, c))).hand _ rfl hh4
    clear gAR gR gQ gP eP gO gN gM gL gq hq1 hq hX gX rX hra hrs atL atO atN hy hy2 hf1 hf2
    walk_at "ws"
    exact ⟨hhR, _, _, _, _, _, _, _, _, _, _, _, _, _, _, rfl⟩
  · rintro σ H2 ⟨_, u2, u3, u4, u5, u6, u7, u8, u9, u10, u11, u12, u13, u14, u15, rfl⟩
    walk_at "ws"
    exact k _

end
end Mine
/-! ## KN -/
end
namespace Mine
open PySem L2 GA
theorem kit_rr {K : PySem.W.Frag} {C D : Addr} (h1 : PySem.W.mroIn K C (.ref C) = some true) (h2 : PySem.W.mroIn K C (.ref D) = some false) (h3 : (PySem.W.clsIn K D).isSome = true) (h4 : PySem.W.typeIn K (.ref D) = some (.type "type")) : PySem.W.kitOne K (.ref C) (.ref D) = some false := by
  have ne : C ≠ D := fun e => by
    subst e
    rw [h1] at h2
    cases h2
  have e : ((Value.ref C : Value) == .ref D) = false := by
    simp [ne]
  unfold PySem.W.kitOne
  rw [e, if_neg Bool.false_ne_true]
  show (if ((PySem.W.clsIn K D).isSome && PySem.W.typeIn K (.ref D) == some (.type "type")) = true then PySem.W.subIn K (.ref C) (.ref D) else none) = some false
  have z : (PySem.W.typeIn K (.ref D) == some (.type "type")) = true := by rw [h4]; exact beq_self_eq_true _
  rw [h3, z, Bool.and_self, if_pos rfl]
  exact h2
/-- what the head finds on the heap is what the proofs lean on -/
theorem all_mk {l : PySem.W.OpenLaw} {w : World} {K : PySem.W.Frag} {h : Heap} {mg : Str → Option Value} {fa : Addr} (X : K.In h) (G : h.Ns mainGlobals mg) (hfa : mg "law" = some (.ref fa))
    {ff_BadHall_init : Addr} {od_BadHall_init an_BadHall_init : Option Addr} {sl_BadHall_init : Array (Option Value)} {oc_BadHall_init kV_BadHall_init dc_BadHall_init pm_BadHall_init cd_BadHall_init ct_BadHall_init : Value}
    {ff_is_integer : Addr} {od_is_integer an_is_integer : Option Addr} {sl_is_integer : Array (Option Value)} {oc_is_integer kV_is_integer dc_is_integer pm_is_integer cd_is_integer ct_is_integer : Value}
    {ff_is_between : Addr} {od_is_between an_is_between : Option Addr} {sl_is_between : Array (Option Value)} {oc_is_between kV_is_between dc_is_between pm_is_between cd_is_between ct_is_between : Value}
    {ff_is_below : Addr} {od_is_below an_is_below : Option Addr} {sl_is_below : Array (Option Value)} {oc_is_below kV_is_below dc_is_below pm_is_below cd_is_below ct_is_below : Value}
    {ff_is_tuple_of : Addr} {od_is_tuple_of an_is_tuple_of : Option Addr} {sl_is_tuple_of : Array (Option Value)} {oc_is_tuple_of kV_is_tuple_of dc_is_tuple_of pm_is_tuple_of cd_is_tuple_of ct_is_tuple_of : Value}
    {ff_are_below : Addr} {od_are_below an_are_below : Option Addr} {sl_are_below : Array (Option Value)} {oc_are_below kV_are_below dc_are_below pm_are_below cd_are_below ct_are_below : Value}
    {ff_is_unlike_pair : Addr} {od_is_unlike_pair an_is_unlike_pair : Option Addr} {sl_is_unlike_pair : Array (Option Value)} {oc_is_unlike_pair kV_is_unlike_pair dc_is_unlike_pair pm_is_unlike_pair cd_is_unlike_pair ct_is_unlike_pair : Value}
    {ff_are_ascending : Addr} {od_are_ascending an_are_ascending : Option Addr} {sl_are_ascending : Array (Option Value)} {oc_are_ascending kV_are_ascending dc_are_ascending pm_are_ascending cd_are_ascending ct_are_ascending : Value}
    {ff_Web_init : Addr} {od_Web_init an_Web_init : Option Addr} {sl_Web_init : Array (Option Value)} {oc_Web_init kV_Web_init dc_Web_init pm_Web_init cd_Web_init ct_Web_init : Value}
    {ff_Web_eq : Addr} {od_Web_eq an_Web_eq : Option Addr} {sl_Web_eq : Array (Option Value)} {oc_Web_eq kV_Web_eq dc_Web_eq pm_Web_eq cd_Web_eq ct_Web_eq : Value}
    {ff_first_wrong_wire : Addr} {od_first_wrong_wire an_first_wrong_wire : Option Addr} {sl_first_wrong_wire : Array (Option Value)} {oc_first_wrong_wire kV_first_wrong_wire dc_first_wrong_wire pm_first_wrong_wire cd_first_wrong_wire ct_first_wrong_wire : Value}
    {ff_ways_from : Addr} {od_ways_from an_ways_from : Option Addr} {sl_ways_from : Array (Option Value)} {oc_ways_from kV_ways_from dc_ways_from pm_ways_from cd_ways_from ct_ways_from : Value}
    {ff_there_and_back : Addr} {od_there_and_back an_there_and_back : Option Addr} {sl_there_and_back : Array (Option Value)} {oc_there_and_back kV_there_and_back dc_there_and_back pm_there_and_back cd_there_and_back ct_there_and_back : Value}
    {ff_Record_init : Addr} {od_Record_init an_Record_init : Option Addr} {sl_Record_init : Array (Option Value)} {oc_Record_init kV_Record_init dc_Record_init pm_Record_init cd_Record_init ct_Record_init : Value}
    {ff_Record_eq : Addr} {od_Record_eq an_Record_eq : Option Addr} {sl_Record_eq : Array (Option Value)} {oc_Record_eq kV_Record_eq dc_Record_eq pm_Record_eq cd_Record_eq ct_Record_eq : Value}
    {ff_check_record : Addr} {od_check_record an_check_record : Option Addr} {sl_check_record : Array (Option Value)} {oc_check_record kV_check_record dc_check_record pm_check_record cd_check_record ct_check_record : Value}
    {ff_is_diary : Addr} {od_is_diary an_is_diary : Option Addr} {sl_is_diary : Array (Option Value)} {oc_is_diary kV_is_diary dc_is_diary pm_is_diary cd_is_diary ct_is_diary : Value}
    {ff_Hall_init : Addr} {od_Hall_init an_Hall_init : Option Addr} {sl_Hall_init : Array (Option Value)} {oc_Hall_init kV_Hall_init dc_Hall_init pm_Hall_init cd_Hall_init ct_Hall_init : Value}
    {ff_Hall_eq : Addr} {od_Hall_eq an_Hall_eq : Option Addr} {sl_Hall_eq : Array (Option Value)} {oc_Hall_eq kV_Hall_eq dc_Hall_eq pm_Hall_eq cd_Hall_eq ct_Hall_eq : Value}
    {ff_check_hall : Addr} {od_check_hall an_check_hall : Option Addr} {sl_check_hall : Array (Option Value)} {oc_check_hall kV_check_hall dc_check_hall pm_check_hall cd_check_hall ct_check_hall : Value}
    {ff_are_links : Addr} {od_are_links an_are_links : Option Addr} {sl_are_links : Array (Option Value)} {oc_are_links kV_are_links dc_are_links pm_are_links cd_are_links ct_are_links : Value}
    {ff_neighbours_of : Addr} {od_neighbours_of an_neighbours_of : Option Addr} {sl_neighbours_of : Array (Option Value)} {oc_neighbours_of kV_neighbours_of dc_neighbours_of pm_neighbours_of cd_neighbours_of ct_neighbours_of : Value}
    {ff_nodes_beyond : Addr} {od_nodes_beyond an_nodes_beyond : Option Addr} {sl_nodes_beyond : Array (Option Value)} {oc_nodes_beyond kV_nodes_beyond dc_nodes_beyond pm_nodes_beyond cd_nodes_beyond ct_nodes_beyond : Value}
    {ff_number_in : Addr} {od_number_in an_number_in : Option Addr} {sl_number_in : Array (Option Value)} {oc_number_in kV_number_in dc_number_in pm_number_in cd_number_in ct_number_in : Value}
    {ff_numbers_in : Addr} {od_numbers_in an_numbers_in : Option Addr} {sl_numbers_in : Array (Option Value)} {oc_numbers_in kV_numbers_in dc_numbers_in pm_numbers_in cd_numbers_in ct_numbers_in : Value}
    {ff_lines_in : Addr} {od_lines_in an_lines_in : Option Addr} {sl_lines_in : Array (Option Value)} {oc_lines_in kV_lines_in dc_lines_in pm_lines_in cd_lines_in ct_lines_in : Value}
    {ff_line_of : Addr} {od_line_of an_line_of : Option Addr} {sl_line_of : Array (Option Value)} {oc_line_of kV_line_of dc_line_of pm_line_of cd_line_of ct_line_of : Value}
    {ff_check_end : Addr} {od_check_end an_check_end : Option Addr} {sl_check_end : Array (Option Value)} {oc_check_end kV_check_end dc_check_end pm_check_end cd_check_end ct_check_end : Value}
    {ff_text_of : Addr} {od_text_of an_text_of : Option Addr} {sl_text_of : Array (Option Value)} {oc_text_of kV_text_of dc_text_of pm_text_of cd_text_of ct_text_of : Value}
    {ff_web_text : Addr} {od_web_text an_web_text : Option Addr} {sl_web_text : Array (Option Value)} {oc_web_text kV_web_text dc_web_text pm_web_text cd_web_text ct_web_text : Value}
    {ff_record_text : Addr} {od_record_text an_record_text : Option Addr} {sl_record_text : Array (Option Value)} {oc_record_text kV_record_text dc_record_text pm_record_text cd_record_text ct_record_text : Value}
    {ff_hall_text : Addr} {od_hall_text an_hall_text : Option Addr} {sl_hall_text : Array (Option Value)} {oc_hall_text kV_hall_text dc_hall_text pm_hall_text cd_hall_text ct_hall_text : Value}
    {ff_numbers_by_line : Addr} {od_numbers_by_line an_numbers_by_line : Option Addr} {sl_numbers_by_line : Array (Option Value)} {oc_numbers_by_line kV_numbers_by_line dc_numbers_by_line pm_numbers_by_line cd_numbers_by_line ct_numbers_by_line : Value}
    {ff_numbers_behind : Addr} {od_numbers_behind an_numbers_behind : Option Addr} {sl_numbers_behind : Array (Option Value)} {oc_numbers_behind kV_numbers_behind dc_numbers_behind pm_numbers_behind cd_numbers_behind ct_numbers_behind : Value}
    {ff_read_web : Addr} {od_read_web an_read_web : Option Addr} {sl_read_web : Array (Option Value)} {oc_read_web kV_read_web dc_read_web pm_read_web cd_read_web ct_read_web : Value}
    {ff_read_record : Addr} {od_read_record an_read_record : Option Addr} {sl_read_record : Array (Option Value)} {oc_read_record kV_read_record dc_read_record pm_read_record cd_read_record ct_read_record : Value}
    {ff_read_hall : Addr} {od_read_hall an_read_hall : Option Addr} {sl_read_hall : Array (Option Value)} {oc_read_hall kV_read_hall dc_read_hall pm_read_hall cd_read_hall ct_read_hall : Value}
    {ff__law_hand : Addr} {od__law_hand an__law_hand : Option Addr} {sl__law_hand : Array (Option Value)} {oc__law_hand kV__law_hand dc__law_hand pm__law_hand cd__law_hand ct__law_hand : Value}
    {ff__law_draw : Addr} {od__law_draw an__law_draw : Option Addr} {sl__law_draw : Array (Option Value)} {oc__law_draw kV__law_draw dc__law_draw pm__law_draw cd__law_draw ct__law_draw : Value}
    {ff__law_wires : Addr} {od__law_wires an__law_wires : Option Addr} {sl__law_wires : Array (Option Value)} {oc__law_wires kV__law_wires dc__law_wires pm__law_wires cd__law_wires ct__law_wires : Value}
    {ff__law_web : Addr} {od__law_web an__law_web : Option Addr} {sl__law_web : Array (Option Value)} {oc__law_web kV__law_web dc__law_web pm__law_web cd__law_web ct__law_web : Value}
    {ff__law_lines : Addr} {od__law_lines an__law_lines : Option Addr} {sl__law_lines : Array (Option Value)} {oc__law_lines kV__law_lines dc__law_lines pm__law_lines cd__law_lines ct__law_lines : Value}
    {ff__law_is : Addr} {od__law_is an__law_is : Option Addr} {sl__law_is : Array (Option Value)} {oc__law_is kV__law_is dc__law_is pm__law_is cd__law_is ct__law_is : Value}
    {ff__law_shuffled : Addr} {od__law_shuffled an__law_shuffled : Option Addr} {sl__law_shuffled : Array (Option Value)} {oc__law_shuffled kV__law_shuffled dc__law_shuffled pm__law_shuffled cd__law_shuffled ct__law_shuffled : Value}
    {ff__law_some_record : Addr} {od__law_some_record an__law_some_record : Option Addr} {sl__law_some_record : Array (Option Value)} {oc__law_some_record kV__law_some_record dc__law_some_record pm__law_some_record cd__law_some_record ct__law_some_record : Value}
    {ff__law_hall : Addr} {od__law_hall an__law_hall : Option Addr} {sl__law_hall : Array (Option Value)} {oc__law_hall kV__law_hall dc__law_hall pm__law_hall cd__law_hall ct__law_hall : Value}
    {ff_law : Addr} {od_law an_law : Option Addr} {sl_law : Array (Option Value)} {oc_law kV_law dc_law pm_law cd_law ct_law : Value}
    {C_GrowError : Addr}
    {C_BadWeb : Addr}
    {C_BadRecord : Addr}
    {C_BadHall : Addr}
    {C_BadText : Addr}
    {C_Web : Addr}
    {C_Record : Addr}
    {C_Hall : Addr}
    {xnm xq : Str} {xN : Addr} {xbs : List Value} {xsn : List Str} {xsub : List Value} {xab : Bool} {xcol : Option Bool} {xdd : Option Addr} {x0 x1 x2 x3 x5 : Option Value}
    {tk_MOST_MACHINES : Tok}
    {tk_MOST_PUTS : Tok}
    {tk_MOST_LINKS : Tok}
    {tk_LEAST_BRANCHES : Tok}
    {tk_MOST_FIGURES : Tok}
    (aC_GrowError : PySem.W.nsIn K mainGlobals "GrowError" = some (some (.ref C_GrowError)))
    (aC_BadWeb : PySem.W.nsIn K mainGlobals "BadWeb" = some (some (.ref C_BadWeb)))
    (aC_BadRecord : PySem.W.nsIn K mainGlobals "BadRecord" = some (some (.ref C_BadRecord)))
    (aC_BadHall : PySem.W.nsIn K mainGlobals "BadHall" = some (some (.ref C_BadHall)))
    (aC_BadText : PySem.W.nsIn K mainGlobals "BadText" = some (some (.ref C_BadText)))
    (aC_Web : PySem.W.nsIn K mainGlobals "Web" = some (some (.ref C_Web)))
    (aC_Record : PySem.W.nsIn K mainGlobals "Record" = some (some (.ref C_Record)))
    (aC_Hall : PySem.W.nsIn K mainGlobals "Hall" = some (some (.ref C_Hall)))
    (a_BadHall_init : PySem.W.findIn K (.ref C_BadHall) "__init__" = some (some (.ref ff_BadHall_init)))
    (i_BadHall_init : PySem.W.isFn K (.ref ff_BadHall_init) = true)
    (l_BadHall_init : K.lookup ff_BadHall_init = some ⟨oc_BadHall_init, od_BadHall_init, .func (PySem.W.fnOf "__init__" "BadHall.__init__" (defArgs s_BadHall_init) (defBody s_BadHall_init) (defScope s_BadHall_init) .none kV_BadHall_init dc_BadHall_init pm_BadHall_init an_BadHall_init cd_BadHall_init ct_BadHall_init), sl_BadHall_init⟩)
    (c_BadHall_init : PySem.W.codeIn K cd_BadHall_init "BadHall.__init__" = true)
    (k_BadHall_init : PySem.W.keepIn K (.ref ff_BadHall_init) = true)
    (a_is_integer : PySem.W.nsIn K mainGlobals "is_integer" = some (some (.ref ff_is_integer)))
    (l_is_integer : K.lookup ff_is_integer = some ⟨oc_is_integer, od_is_integer, .func (PySem.W.fnOf "is_integer" "is_integer" (defArgs s_is_integer) (defBody s_is_integer) (defScope s_is_integer) .none kV_is_integer dc_is_integer pm_is_integer an_is_integer cd_is_integer ct_is_integer), sl_is_integer⟩)
    (c_is_integer : PySem.W.codeIn K cd_is_integer "is_integer" = true)
    (k_is_integer : PySem.W.keepIn K (.ref ff_is_integer) = true)
    (a_is_between : PySem.W.nsIn K mainGlobals "is_between" = some (some (.ref ff_is_between)))
    (l_is_between : K.lookup ff_is_between = some ⟨oc_is_between, od_is_between, .func (PySem.W.fnOf "is_between" "is_between" (defArgs s_is_between) (defBody s_is_between) (defScope s_is_between) .none kV_is_between dc_is_between pm_is_between an_is_between cd_is_between ct_is_between), sl_is_between⟩)
    (c_is_between : PySem.W.codeIn K cd_is_between "is_between" = true)
    (k_is_between : PySem.W.keepIn K (.ref ff_is_between) = true)
    (a_is_below : PySem.W.nsIn K mainGlobals "is_below" = some (some (.ref ff_is_below)))
    (l_is_below : K.lookup ff_is_below = some ⟨oc_is_below, od_is_below, .func (PySem.W.fnOf "is_below" "is_below" (defArgs s_is_below) (defBody s_is_below) (defScope s_is_below) .none kV_is_below dc_is_below pm_is_below an_is_below cd_is_below ct_is_below), sl_is_below⟩)
    (c_is_below : PySem.W.codeIn K cd_is_below "is_below" = true)
    (k_is_below : PySem.W.keepIn K (.ref ff_is_below) = true)
    (a_is_tuple_of : PySem.W.nsIn K mainGlobals "is_tuple_of" = some (some (.ref ff_is_tuple_of)))
    (l_is_tuple_of : K.lookup ff_is_tuple_of = some ⟨oc_is_tuple_of, od_is_tuple_of, .func (PySem.W.fnOf "is_tuple_of" "is_tuple_of" (defArgs s_is_tuple_of) (defBody s_is_tuple_of) (defScope s_is_tuple_of) .none kV_is_tuple_of dc_is_tuple_of pm_is_tuple_of an_is_tuple_of cd_is_tuple_of ct_is_tuple_of), sl_is_tuple_of⟩)
    (c_is_tuple_of : PySem.W.codeIn K cd_is_tuple_of "is_tuple_of" = true)
    (k_is_tuple_of : PySem.W.keepIn K (.ref ff_is_tuple_of) = true)
    (a_are_below : PySem.W.nsIn K mainGlobals "are_below" = some (some (.ref ff_are_below)))
    (l_are_below : K.lookup ff_are_below = some ⟨oc_are_below, od_are_below, .func (PySem.W.fnOf "are_below" "are_below" (defArgs s_are_below) (defBody s_are_below) (defScope s_are_below) .none kV_are_below dc_are_below pm_are_below an_are_below cd_are_below ct_are_below), sl_are_below⟩)
    (c_are_below : PySem.W.codeIn K cd_are_below "are_below" = true)
    (k_are_below : PySem.W.keepIn K (.ref ff_are_below) = true)
    (a_is_unlike_pair : PySem.W.nsIn K mainGlobals "is_unlike_pair" = some (some (.ref ff_is_unlike_pair)))
    (l_is_unlike_pair : K.lookup ff_is_unlike_pair = some ⟨oc_is_unlike_pair, od_is_unlike_pair, .func (PySem.W.fnOf "is_unlike_pair" "is_unlike_pair" (defArgs s_is_unlike_pair) (defBody s_is_unlike_pair) (defScope s_is_unlike_pair) .none kV_is_unlike_pair dc_is_unlike_pair pm_is_unlike_pair an_is_unlike_pair cd_is_unlike_pair ct_is_unlike_pair), sl_is_unlike_pair⟩)
    (c_is_unlike_pair : PySem.W.codeIn K cd_is_unlike_pair "is_unlike_pair" = true)
    (k_is_unlike_pair : PySem.W.keepIn K (.ref ff_is_unlike_pair) = true)
    (a_are_ascending : PySem.W.nsIn K mainGlobals "are_ascending" = some (some (.ref ff_are_ascending)))
    (l_are_ascending : K.lookup ff_are_ascending = some ⟨oc_are_ascending, od_are_ascending, .func (PySem.W.fnOf "are_ascending" "are_ascending" (defArgs s_are_ascending) (defBody s_are_ascending) (defScope s_are_ascending) .none kV_are_ascending dc_are_ascending pm_are_ascending an_are_ascending cd_are_ascending ct_are_ascending), sl_are_ascending⟩)
    (c_are_ascending : PySem.W.codeIn K cd_are_ascending "are_ascending" = true)
    (k_are_ascending : PySem.W.keepIn K (.ref ff_are_ascending) = true)
    (a_Web_init : PySem.W.findIn K (.ref C_Web) "__init__" = some (some (.ref ff_Web_init)))
    (i_Web_init : PySem.W.isFn K (.ref ff_Web_init) = true)
    (l_Web_init : K.lookup ff_Web_init = some ⟨oc_Web_init, od_Web_init, .func (PySem.W.fnOf "__init__" "Web.__init__" (defArgs s_Web_init) (defBody s_Web_init) (defScope s_Web_init) .none kV_Web_init dc_Web_init pm_Web_init an_Web_init cd_Web_init ct_Web_init), sl_Web_init⟩)
    (c_Web_init : PySem.W.codeIn K cd_Web_init "Web.__init__" = true)
    (k_Web_init : PySem.W.keepIn K (.ref ff_Web_init) = true)
    (a_Web_eq : PySem.W.findIn K (.ref C_Web) "__eq__" = some (some (.ref ff_Web_eq)))
    (i_Web_eq : PySem.W.isFn K (.ref ff_Web_eq) = true)
    (l_Web_eq : K.lookup ff_Web_eq = some ⟨oc_Web_eq, od_Web_eq, .func (PySem.W.fnOf "__eq__" "Web.__eq__" (defArgs s_Web_eq) (defBody s_Web_eq) (defScope s_Web_eq) .none kV_Web_eq dc_Web_eq pm_Web_eq an_Web_eq cd_Web_eq ct_Web_eq), sl_Web_eq⟩)
    (c_Web_eq : PySem.W.codeIn K cd_Web_eq "Web.__eq__" = true)
    (k_Web_eq : PySem.W.keepIn K (.ref ff_Web_eq) = true)
    (a_first_wrong_wire : PySem.W.nsIn K mainGlobals "first_wrong_wire" = some (some (.ref ff_first_wrong_wire)))
    (l_first_wrong_wire : K.lookup ff_first_wrong_wire = some ⟨oc_first_wrong_wire, od_first_wrong_wire, .func (PySem.W.fnOf "first_wrong_wire" "first_wrong_wire" (defArgs s_first_wrong_wire) (defBody s_first_wrong_wire) (defScope s_first_wrong_wire) .none kV_first_wrong_wire dc_first_wrong_wire pm_first_wrong_wire an_first_wrong_wire cd_first_wrong_wire ct_first_wrong_wire), sl_first_wrong_wire⟩)
    (c_first_wrong_wire : PySem.W.codeIn K cd_first_wrong_wire "first_wrong_wire" = true)
    (k_first_wrong_wire : PySem.W.keepIn K (.ref ff_first_wrong_wire) = true)
    (a_ways_from : PySem.W.nsIn K mainGlobals "ways_from" = some (some (.ref ff_ways_from)))
    (l_ways_from : K.lookup ff_ways_from = some ⟨oc_ways_from, od_ways_from, .func (PySem.W.fnOf "ways_from" "ways_from" (defArgs s_ways_from) (defBody s_ways_from) (defScope s_ways_from) .none kV_ways_from dc_ways_from pm_ways_from an_ways_from cd_ways_from ct_ways_from), sl_ways_from⟩)
    (c_ways_from : PySem.W.codeIn K cd_ways_from "ways_from" = true)
    (k_ways_from : PySem.W.keepIn K (.ref ff_ways_from) = true)
    (a_there_and_back : PySem.W.nsIn K mainGlobals "there_and_back" = some (some (.ref ff_there_and_back)))
    (l_there_and_back : K.lookup ff_there_and_back = some ⟨oc_there_and_back, od_there_and_back, .func (PySem.W.fnOf "there_and_back" "there_and_back" (defArgs s_there_and_back) (defBody s_there_and_back) (defScope s_there_and_back) .none kV_there_and_back dc_there_and_back pm_there_and_back an_there_and_back cd_there_and_back ct_there_and_back), sl_there_and_back⟩)
    (c_there_and_back : PySem.W.codeIn K cd_there_and_back "there_and_back" = true)
    (k_there_and_back : PySem.W.keepIn K (.ref ff_there_and_back) = true)
    (a_Record_init : PySem.W.findIn K (.ref C_Record) "__init__" = some (some (.ref ff_Record_init)))
    (i_Record_init : PySem.W.isFn K (.ref ff_Record_init) = true)
    (l_Record_init : K.lookup ff_Record_init = some ⟨oc_Record_init, od_Record_init, .func (PySem.W.fnOf "__init__" "Record.__init__" (defArgs s_Record_init) (defBody s_Record_init) (defScope s_Record_init) .none kV_Record_init dc_Record_init pm_Record_init an_Record_init cd_Record_init ct_Record_init), sl_Record_init⟩)
    (c_Record_init : PySem.W.codeIn K cd_Record_init "Record.__init__" = true)
    (k_Record_init : PySem.W.keepIn K (.ref ff_Record_init) = true)
    (a_Record_eq : PySem.W.findIn K (.ref C_Record) "__eq__" = some (some (.ref ff_Record_eq)))
    (i_Record_eq : PySem.W.isFn K (.ref ff_Record_eq) = true)
    (l_Record_eq : K.lookup ff_Record_eq = some ⟨oc_Record_eq, od_Record_eq, .func (PySem.W.fnOf "__eq__" "Record.__eq__" (defArgs s_Record_eq) (defBody s_Record_eq) (defScope s_Record_eq) .none kV_Record_eq dc_Record_eq pm_Record_eq an_Record_eq cd_Record_eq ct_Record_eq), sl_Record_eq⟩)
    (c_Record_eq : PySem.W.codeIn K cd_Record_eq "Record.__eq__" = true)
    (k_Record_eq : PySem.W.keepIn K (.ref ff_Record_eq) = true)
    (a_check_record : PySem.W.nsIn K mainGlobals "check_record" = some (some (.ref ff_check_record)))
    (l_check_record : K.lookup ff_check_record = some ⟨oc_check_record, od_check_record, .func (PySem.W.fnOf "check_record" "check_record" (defArgs s_check_record) (defBody s_check_record) (defScope s_check_record) .none kV_check_record dc_check_record pm_check_record an_check_record cd_check_record ct_check_record), sl_check_record⟩)
    (c_check_record : PySem.W.codeIn K cd_check_record "check_record" = true)
    (k_check_record : PySem.W.keepIn K (.ref ff_check_record) = true)
    (a_is_diary : PySem.W.nsIn K mainGlobals "is_diary" = some (some (.ref ff_is_diary)))
    (l_is_diary : K.lookup ff_is_diary = some ⟨oc_is_diary, od_is_diary, .func (PySem.W.fnOf "is_diary" "is_diary" (defArgs s_is_diary) (defBody s_is_diary) (defScope s_is_diary) .none kV_is_diary dc_is_diary pm_is_diary an_is_diary cd_is_diary ct_is_diary), sl_is_diary⟩)
    (c_is_diary : PySem.W.codeIn K cd_is_diary "is_diary" = true)
    (k_is_diary : PySem.W.keepIn K (.ref ff_is_diary) = true)
    (a_Hall_init : PySem.W.findIn K (.ref C_Hall) "__init__" = some (some (.ref ff_Hall_init)))
    (i_Hall_init : PySem.W.isFn K (.ref ff_Hall_init) = true)
    (l_Hall_init : K.lookup ff_Hall_init = some ⟨oc_Hall_init, od_Hall_init, .func (PySem.W.fnOf "__init__" "Hall.__init__" (defArgs s_Hall_init) (defBody s_Hall_init) (defScope s_Hall_init) .none kV_Hall_init dc_Hall_init pm_Hall_init an_Hall_init cd_Hall_init ct_Hall_init), sl_Hall_init⟩)
    (c_Hall_init : PySem.W.codeIn K cd_Hall_init "Hall.__init__" = true)
    (k_Hall_init : PySem.W.keepIn K (.ref ff_Hall_init) = true)
    (a_Hall_eq : PySem.W.findIn K (.ref C_Hall) "__eq__" = some (some (.ref ff_Hall_eq)))
    (i_Hall_eq : PySem.W.isFn K (.ref ff_Hall_eq) = true)
    (l_Hall_eq : K.lookup ff_Hall_eq = some ⟨oc_Hall_eq, od_Hall_eq, .func (PySem.W.fnOf "__eq__" "Hall.__eq__" (defArgs s_Hall_eq) (defBody s_Hall_eq) (defScope s_Hall_eq) .none kV_Hall_eq dc_Hall_eq pm_Hall_eq an_Hall_eq cd_Hall_eq ct_Hall_eq), sl_Hall_eq⟩)
    (c_Hall_eq : PySem.W.codeIn K cd_Hall_eq "Hall.__eq__" = true)
    (k_Hall_eq : PySem.W.keepIn K (.ref ff_Hall_eq) = true)
    (a_check_hall : PySem.W.nsIn K mainGlobals "check_hall" = some (some (.ref ff_check_hall)))
    (l_check_hall : K.lookup ff_check_hall = some ⟨oc_check_hall, od_check_hall, .func (PySem.W.fnOf "check_hall" "check_hall" (defArgs s_check_hall) (defBody s_check_hall) (defScope s_check_hall) .none kV_check_hall dc_check_hall pm_check_hall an_check_hall cd_check_hall ct_check_hall), sl_check_hall⟩)
    (c_check_hall : PySem.W.codeIn K cd_check_hall "check_hall" = true)
    (k_check_hall : PySem.W.keepIn K (.ref ff_check_hall) = true)
    (a_are_links : PySem.W.nsIn K mainGlobals "are_links" = some (some (.ref ff_are_links)))
    (l_are_links : K.lookup ff_are_links = some ⟨oc_are_links, od_are_links, .func (PySem.W.fnOf "are_links" "are_links" (defArgs s_are_links) (defBody s_are_links) (defScope s_are_links) .none kV_are_links dc_are_links pm_are_links an_are_links cd_are_links ct_are_links), sl_are_links⟩)
    (c_are_links : PySem.W.codeIn K cd_are_links "are_links" = true)
    (k_are_links : PySem.W.keepIn K (.ref ff_are_links) = true)
    (a_neighbours_of : PySem.W.nsIn K mainGlobals "neighbours_of" = some (some (.ref ff_neighbours_of)))
    (l_neighbours_of : K.lookup ff_neighbours_of = some ⟨oc_neighbours_of, od_neighbours_of, .func (PySem.W.fnOf "neighbours_of" "neighbours_of" (defArgs s_neighbours_of) (defBody s_neighbours_of) (defScope s_neighbours_of) .none kV_neighbours_of dc_neighbours_of pm_neighbours_of an_neighbours_of cd_neighbours_of ct_neighbours_of), sl_neighbours_of⟩)
    (c_neighbours_of : PySem.W.codeIn K cd_neighbours_of "neighbours_of" = true)
    (k_neighbours_of : PySem.W.keepIn K (.ref ff_neighbours_of) = true)
    (a_nodes_beyond : PySem.W.nsIn K mainGlobals "nodes_beyond" = some (some (.ref ff_nodes_beyond)))
    (l_nodes_beyond : K.lookup ff_nodes_beyond = some ⟨oc_nodes_beyond, od_nodes_beyond, .func (PySem.W.fnOf "nodes_beyond" "nodes_beyond" (defArgs s_nodes_beyond) (defBody s_nodes_beyond) (defScope s_nodes_beyond) .none kV_nodes_beyond dc_nodes_beyond pm_nodes_beyond an_nodes_beyond cd_nodes_beyond ct_nodes_beyond), sl_nodes_beyond⟩)
    (c_nodes_beyond : PySem.W.codeIn K cd_nodes_beyond "nodes_beyond" = true)
    (k_nodes_beyond : PySem.W.keepIn K (.ref ff_nodes_beyond) = true)
    (a_number_in : PySem.W.nsIn K mainGlobals "number_in" = some (some (.ref ff_number_in)))
    (l_number_in : K.lookup ff_number_in = some ⟨oc_number_in, od_number_in, .func (PySem.W.fnOf "number_in" "number_in" (defArgs s_number_in) (defBody s_number_in) (defScope s_number_in) .none kV_number_in dc_number_in pm_number_in an_number_in cd_number_in ct_number_in), sl_number_in⟩)
    (c_number_in : PySem.W.codeIn K cd_number_in "number_in" = true)
    (k_number_in : PySem.W.keepIn K (.ref ff_number_in) = true)
    (a_numbers_in : PySem.W.nsIn K mainGlobals "numbers_in" = some (some (.ref ff_numbers_in)))
    (l_numbers_in : K.lookup ff_numbers_in = some ⟨oc_numbers_in, od_numbers_in, .func (PySem.W.fnOf "numbers_in" "numbers_in" (defArgs s_numbers_in) (defBody s_numbers_in) (defScope s_numbers_in) .none kV_numbers_in dc_numbers_in pm_numbers_in an_numbers_in cd_numbers_in ct_numbers_in), sl_numbers_in⟩)
    (c_numbers_in : PySem.W.codeIn K cd_numbers_in "numbers_in" = true)
    (k_numbers_in : PySem.W.keepIn K (.ref ff_numbers_in) = true)
    (a_lines_in : PySem.W.nsIn K mainGlobals "lines_in" = some (some (.ref ff_lines_in)))
    (l_lines_in : K.lookup ff_lines_in = some ⟨oc_lines_in, od_lines_in, .func (PySem.W.fnOf "lines_in" "lines_in" (defArgs s_lines_in) (defBody s_lines_in) (defScope s_lines_in) .none kV_lines_in dc_lines_in pm_lines_in an_lines_in cd_lines_in ct_lines_in), sl_lines_in⟩)
    (c_lines_in : PySem.W.codeIn K cd_lines_in "lines_in" = true)
    (k_lines_in : PySem.W.keepIn K (.ref ff_lines_in) = true)
    (a_line_of : PySem.W.nsIn K mainGlobals "line_of" = some (some (.ref ff_line_of)))
    (l_line_of : K.lookup ff_line_of = some ⟨oc_line_of, od_line_of, .func (PySem.W.fnOf "line_of" "line_of" (defArgs s_line_of) (defBody s_line_of) (defScope s_line_of) .none kV_line_of dc_line_of pm_line_of an_line_of cd_line_of ct_line_of), sl_line_of⟩)
    (c_line_of : PySem.W.codeIn K cd_line_of "line_of" = true)
    (k_line_of : PySem.W.keepIn K (.ref ff_line_of) = true)
    (a_check_end : PySem.W.nsIn K mainGlobals "check_end" = some (some (.ref ff_check_end)))
    (l_check_end : K.lookup ff_check_end = some ⟨oc_check_end, od_check_end, .func (PySem.W.fnOf "check_end" "check_end" (defArgs s_check_end) (defBody s_check_end) (defScope s_check_end) .none kV_check_end dc_check_end pm_check_end an_check_end cd_check_end ct_check_end), sl_check_end⟩)
    (c_check_end : PySem.W.codeIn K cd_check_end "check_end" = true)
    (k_check_end : PySem.W.keepIn K (.ref ff_check_end) = true)
    (a_text_of : PySem.W.nsIn K mainGlobals "text_of" = some (some (.ref ff_text_of)))
    (l_text_of : K.lookup ff_text_of = some ⟨oc_text_of, od_text_of, .func (PySem.W.fnOf "text_of" "text_of" (defArgs s_text_of) (defBody s_text_of) (defScope s_text_of) .none kV_text_of dc_text_of pm_text_of an_text_of cd_text_of ct_text_of), sl_text_of⟩)
    (c_text_of : PySem.W.codeIn K cd_text_of "text_of" = true)
    (k_text_of : PySem.W.keepIn K (.ref ff_text_of) = true)
    (a_web_text : PySem.W.nsIn K mainGlobals "web_text" = some (some (.ref ff_web_text)))
    (l_web_text : K.lookup ff_web_text = some ⟨oc_web_text, od_web_text, .func (PySem.W.fnOf "web_text" "web_text" (defArgs s_web_text) (defBody s_web_text) (defScope s_web_text) .none kV_web_text dc_web_text pm_web_text an_web_text cd_web_text ct_web_text), sl_web_text⟩)
    (c_web_text : PySem.W.codeIn K cd_web_text "web_text" = true)
    (k_web_text : PySem.W.keepIn K (.ref ff_web_text) = true)
    (a_record_text : PySem.W.nsIn K mainGlobals "record_text" = some (some (.ref ff_record_text)))
    (l_record_text : K.lookup ff_record_text = some ⟨oc_record_text, od_record_text, .func (PySem.W.fnOf "record_text" "record_text" (defArgs s_record_text) (defBody s_record_text) (defScope s_record_text) .none kV_record_text dc_record_text pm_record_text an_record_text cd_record_text ct_record_text), sl_record_text⟩)
    (c_record_text : PySem.W.codeIn K cd_record_text "record_text" = true)
    (k_record_text : PySem.W.keepIn K (.ref ff_record_text) = true)
    (a_hall_text : PySem.W.nsIn K mainGlobals "hall_text" = some (some (.ref ff_hall_text)))
    (l_hall_text : K.lookup ff_hall_text = some ⟨oc_hall_text, od_hall_text, .func (PySem.W.fnOf "hall_text" "hall_text" (defArgs s_hall_text) (defBody s_hall_text) (defScope s_hall_text) .none kV_hall_text dc_hall_text pm_hall_text an_hall_text cd_hall_text ct_hall_text), sl_hall_text⟩)
    (c_hall_text : PySem.W.codeIn K cd_hall_text "hall_text" = true)
    (k_hall_text : PySem.W.keepIn K (.ref ff_hall_text) = true)
    (a_numbers_by_line : PySem.W.nsIn K mainGlobals "numbers_by_line" = some (some (.ref ff_numbers_by_line)))
    (l_numbers_by_line : K.lookup ff_numbers_by_line = some ⟨oc_numbers_by_line, od_numbers_by_line, .func (PySem.W.fnOf "numbers_by_line" "numbers_by_line" (defArgs s_numbers_by_line) (defBody s_numbers_by_line) (defScope s_numbers_by_line) .none kV_numbers_by_line dc_numbers_by_line pm_numbers_by_line an_numbers_by_line cd_numbers_by_line ct_numbers_by_line), sl_numbers_by_line⟩)
    (c_numbers_by_line : PySem.W.codeIn K cd_numbers_by_line "numbers_by_line" = true)
    (k_numbers_by_line : PySem.W.keepIn K (.ref ff_numbers_by_line) = true)
    (a_numbers_behind : PySem.W.nsIn K mainGlobals "numbers_behind" = some (some (.ref ff_numbers_behind)))
    (l_numbers_behind : K.lookup ff_numbers_behind = some ⟨oc_numbers_behind, od_numbers_behind, .func (PySem.W.fnOf "numbers_behind" "numbers_behind" (defArgs s_numbers_behind) (defBody s_numbers_behind) (defScope s_numbers_behind) .none kV_numbers_behind dc_numbers_behind pm_numbers_behind an_numbers_behind cd_numbers_behind ct_numbers_behind), sl_numbers_behind⟩)
    (c_numbers_behind : PySem.W.codeIn K cd_numbers_behind "numbers_behind" = true)
    (k_numbers_behind : PySem.W.keepIn K (.ref ff_numbers_behind) = true)
    (a_read_web : PySem.W.nsIn K mainGlobals "read_web" = some (some (.ref ff_read_web)))
    (l_read_web : K.lookup ff_read_web = some ⟨oc_read_web, od_read_web, .func (PySem.W.fnOf "read_web" "read_web" (defArgs s_read_web) (defBody s_read_web) (defScope s_read_web) .none kV_read_web dc_read_web pm_read_web an_read_web cd_read_web ct_read_web), sl_read_web⟩)
    (c_read_web : PySem.W.codeIn K cd_read_web "read_web" = true)
    (k_read_web : PySem.W.keepIn K (.ref ff_read_web) = true)
    (a_read_record : PySem.W.nsIn K mainGlobals "read_record" = some (some (.ref ff_read_record)))
    (l_read_record : K.lookup ff_read_record = some ⟨oc_read_record, od_read_record, .func (PySem.W.fnOf "read_record" "read_record" (defArgs s_read_record) (defBody s_read_record) (defScope s_read_record) .none kV_read_record dc_read_record pm_read_record an_read_record cd_read_record ct_read_record), sl_read_record⟩)
    (c_read_record : PySem.W.codeIn K cd_read_record "read_record" = true)
    (k_read_record : PySem.W.keepIn K (.ref ff_read_record) = true)
    (a_read_hall : PySem.W.nsIn K mainGlobals "read_hall" = some (some (.ref ff_read_hall)))
    (l_read_hall : K.lookup ff_read_hall = some ⟨oc_read_hall, od_read_hall, .func (PySem.W.fnOf "read_hall" "read_hall" (defArgs s_read_hall) (defBody s_read_hall) (defScope s_read_hall) .none kV_read_hall dc_read_hall pm_read_hall an_read_hall cd_read_hall ct_read_hall), sl_read_hall⟩)
    (c_read_hall : PySem.W.codeIn K cd_read_hall "read_hall" = true)
    (k_read_hall : PySem.W.keepIn K (.ref ff_read_hall) = true)
    (a__law_hand : PySem.W.nsIn K mainGlobals "_law_hand" = some (some (.ref ff__law_hand)))
    (l__law_hand : K.lookup ff__law_hand = some ⟨oc__law_hand, od__law_hand, .func (PySem.W.fnOf "_law_hand" "_law_hand" (defArgs s__law_hand) (defBody s__law_hand) (defScope s__law_hand) .none kV__law_hand dc__law_hand pm__law_hand an__law_hand cd__law_hand ct__law_hand), sl__law_hand⟩)
    (c__law_hand : PySem.W.codeIn K cd__law_hand "_law_hand" = true)
    (k__law_hand : PySem.W.keepIn K (.ref ff__law_hand) = true)
    (a__law_draw : PySem.W.nsIn K mainGlobals "_law_draw" = some (some (.ref ff__law_draw)))
    (l__law_draw : K.lookup ff__law_draw = some ⟨oc__law_draw, od__law_draw, .func (PySem.W.fnOf "_law_draw" "_law_draw" (defArgs s__law_draw) (defBody s__law_draw) (defScope s__law_draw) .none kV__law_draw dc__law_draw pm__law_draw an__law_draw cd__law_draw ct__law_draw), sl__law_draw⟩)
    (c__law_draw : PySem.W.codeIn K cd__law_draw "_law_draw" = true)
    (k__law_draw : PySem.W.keepIn K (.ref ff__law_draw) = true)
    (a__law_wires : PySem.W.nsIn K mainGlobals "_law_wires" = some (some (.ref ff__law_wires)))
    (l__law_wires : K.lookup ff__law_wires = some ⟨oc__law_wires, od__law_wires, .func (PySem.W.fnOf "_law_wires" "_law_wires" (defArgs s__law_wires) (defBody s__law_wires) (defScope s__law_wires) .none kV__law_wires dc__law_wires pm__law_wires an__law_wires cd__law_wires ct__law_wires), sl__law_wires⟩)
    (c__law_wires : PySem.W.codeIn K cd__law_wires "_law_wires" = true)
    (k__law_wires : PySem.W.keepIn K (.ref ff__law_wires) = true)
    (a__law_web : PySem.W.nsIn K mainGlobals "_law_web" = some (some (.ref ff__law_web)))
    (l__law_web : K.lookup ff__law_web = some ⟨oc__law_web, od__law_web, .func (PySem.W.fnOf "_law_web" "_law_web" (defArgs s__law_web) (defBody s__law_web) (defScope s__law_web) .none kV__law_web dc__law_web pm__law_web an__law_web cd__law_web ct__law_web), sl__law_web⟩)
    (c__law_web : PySem.W.codeIn K cd__law_web "_law_web" = true)
    (k__law_web : PySem.W.keepIn K (.ref ff__law_web) = true)
    (a__law_lines : PySem.W.nsIn K mainGlobals "_law_lines" = some (some (.ref ff__law_lines)))
    (l__law_lines : K.lookup ff__law_lines = some ⟨oc__law_lines, od__law_lines, .func (PySem.W.fnOf "_law_lines" "_law_lines" (defArgs s__law_lines) (defBody s__law_lines) (defScope s__law_lines) .none kV__law_lines dc__law_lines pm__law_lines an__law_lines cd__law_lines ct__law_lines), sl__law_lines⟩)
    (c__law_lines : PySem.W.codeIn K cd__law_lines "_law_lines" = true)
    (k__law_lines : PySem.W.keepIn K (.ref ff__law_lines) = true)
    (a__law_is : PySem.W.nsIn K mainGlobals "_law_is" = some (some (.ref ff__law_is)))
    (l__law_is : K.lookup ff__law_is = some ⟨oc__law_is, od__law_is, .func (PySem.W.fnOf "_law_is" "_law_is" (defArgs s__law_is) (defBody s__law_is) (defScope s__law_is) .none kV__law_is dc__law_is pm__law_is an__law_is cd__law_is ct__law_is), sl__law_is⟩)
    (c__law_is : PySem.W.codeIn K cd__law_is "_law_is" = true)
    (k__law_is : PySem.W.keepIn K (.ref ff__law_is) = true)
    (a__law_shuffled : PySem.W.nsIn K mainGlobals "_law_shuffled" = some (some (.ref ff__law_shuffled)))
    (l__law_shuffled : K.lookup ff__law_shuffled = some ⟨oc__law_shuffled, od__law_shuffled, .func (PySem.W.fnOf "_law_shuffled" "_law_shuffled" (defArgs s__law_shuffled) (defBody s__law_shuffled) (defScope s__law_shuffled) .none kV__law_shuffled dc__law_shuffled pm__law_shuffled an__law_shuffled cd__law_shuffled ct__law_shuffled), sl__law_shuffled⟩)
    (c__law_shuffled : PySem.W.codeIn K cd__law_shuffled "_law_shuffled" = true)
    (k__law_shuffled : PySem.W.keepIn K (.ref ff__law_shuffled) = true)
    (a__law_some_record : PySem.W.nsIn K mainGlobals "_law_some_record" = some (some (.ref ff__law_some_record)))
    (l__law_some_record : K.lookup ff__law_some_record = some ⟨oc__law_some_record, od__law_some_record, .func (PySem.W.fnOf "_law_some_record" "_law_some_record" (defArgs s__law_some_record) (defBody s__law_some_record) (defScope s__law_some_record) .none kV__law_some_record dc__law_some_record pm__law_some_record an__law_some_record cd__law_some_record ct__law_some_record), sl__law_some_record⟩)
    (c__law_some_record : PySem.W.codeIn K cd__law_some_record "_law_some_record" = true)
    (k__law_some_record : PySem.W.keepIn K (.ref ff__law_some_record) = true)
    (a__law_hall : PySem.W.nsIn K mainGlobals "_law_hall" = some (some (.ref ff__law_hall)))
    (l__law_hall : K.lookup ff__law_hall = some ⟨oc__law_hall, od__law_hall, .func (PySem.W.fnOf "_law_hall" "_law_hall" (defArgs s__law_hall) (defBody s__law_hall) (defScope s__law_hall) .none kV__law_hall dc__law_hall pm__law_hall an__law_hall cd__law_hall ct__law_hall), sl__law_hall⟩)
    (c__law_hall : PySem.W.codeIn K cd__law_hall "_law_hall" = true)
    (k__law_hall : PySem.W.keepIn K (.ref ff__law_hall) = true)
    (a_law : PySem.W.nsIn K mainGlobals "law" = some (some (.ref ff_law)))
    (l_law : K.lookup ff_law = some ⟨oc_law, od_law, .func (PySem.W.fnOf "law" "law" (defArgs s_law) (defBody s_law) (defScope s_law) .none kV_law dc_law pm_law an_law cd_law ct_law), sl_law⟩)
    (c_law : PySem.W.codeIn K cd_law "law" = true)
    (k_law : PySem.W.keepIn K (.ref ff_law) = true)
    (pg_Web : PySem.W.plainGet K C_Web Str.empty = true)
    (hd_Web : PySem.W.hasDictIn K C_Web = true)
    (po_Web : PySem.W.plainOver K C_Web = true)
    (sa_Web : PySem.W.findIn K (.ref C_Web) "__setattr__" = some (some (.builtin "object.__setattr__")))
    (mk_Web : PySem.W.makesIn K C_Web = true)
    (kc_Web : PySem.W.keepIn K (.ref C_Web) = true)
    (ha_Web : PySem.W.findIn K (.ref C_Web) "__class__" = some (some (.builtin "object.__class__")))
    (hn_Web : PySem.W.specialIn K (.builtin "object.__class__") "__get__" = some (some (.builtin "getset_descriptor.__get__")))
    (ht_Web : PySem.W.takesIn K (.builtin "object.__class__") = some true)
    (hm_Web : PySem.W.mroIn K C_Web (.type "object") = some true)
    (hne_Web : PySem.W.findIn K (.ref C_Web) "__ne__" = some (some (.builtin "object.__ne__")))
    (na_Web_machines : PySem.W.findIn K (.ref C_Web) "machines" = some none)
    (na_Web_wires : PySem.W.findIn K (.ref C_Web) "wires" = some none)
    (pg_Record : PySem.W.plainGet K C_Record Str.empty = true)
    (hd_Record : PySem.W.hasDictIn K C_Record = true)
    (po_Record : PySem.W.plainOver K C_Record = true)
    (sa_Record : PySem.W.findIn K (.ref C_Record) "__setattr__" = some (some (.builtin "object.__setattr__")))
    (mk_Record : PySem.W.makesIn K C_Record = true)
    (kc_Record : PySem.W.keepIn K (.ref C_Record) = true)
    (ha_Record : PySem.W.findIn K (.ref C_Record) "__class__" = some (some (.builtin "object.__class__")))
    (hn_Record : PySem.W.specialIn K (.builtin "object.__class__") "__get__" = some (some (.builtin "getset_descriptor.__get__")))
    (ht_Record : PySem.W.takesIn K (.builtin "object.__class__") = some true)
    (hm_Record : PySem.W.mroIn K C_Record (.type "object") = some true)
    (hne_Record : PySem.W.findIn K (.ref C_Record) "__ne__" = some (some (.builtin "object.__ne__")))
    (na_Record_writers : PySem.W.findIn K (.ref C_Record) "writers" = some none)
    (na_Record_diaries : PySem.W.findIn K (.ref C_Record) "diaries" = some none)
    (pg_Hall : PySem.W.plainGet K C_Hall Str.empty = true)
    (hd_Hall : PySem.W.hasDictIn K C_Hall = true)
    (po_Hall : PySem.W.plainOver K C_Hall = true)
    (sa_Hall : PySem.W.findIn K (.ref C_Hall) "__setattr__" = some (some (.builtin "object.__setattr__")))
    (mk_Hall : PySem.W.makesIn K C_Hall = true)
    (kc_Hall : PySem.W.keepIn K (.ref C_Hall) = true)
    (ha_Hall : PySem.W.findIn K (.ref C_Hall) "__class__" = some (some (.builtin "object.__class__")))
    (hn_Hall : PySem.W.specialIn K (.builtin "object.__class__") "__get__" = some (some (.builtin "getset_descriptor.__get__")))
    (ht_Hall : PySem.W.takesIn K (.builtin "object.__class__") = some true)
    (hm_Hall : PySem.W.mroIn K C_Hall (.type "object") = some true)
    (hne_Hall : PySem.W.findIn K (.ref C_Hall) "__ne__" = some (some (.builtin "object.__ne__")))
    (na_Hall_links : PySem.W.findIn K (.ref C_Hall) "links" = some none)
    (na_Hall_places : PySem.W.findIn K (.ref C_Hall) "places" = some none)
    (co_MOST_MACHINES : PySem.W.nsIn K mainGlobals "MOST_MACHINES" = some (some (.int 7 tk_MOST_MACHINES)))
    (co_MOST_PUTS : PySem.W.nsIn K mainGlobals "MOST_PUTS" = some (some (.int 30 tk_MOST_PUTS)))
    (co_MOST_LINKS : PySem.W.nsIn K mainGlobals "MOST_LINKS" = some (some (.int 11 tk_MOST_LINKS)))
    (co_LEAST_BRANCHES : PySem.W.nsIn K mainGlobals "LEAST_BRANCHES" = some (some (.int 3 tk_LEAST_BRANCHES)))
    (co_MOST_FIGURES : PySem.W.nsIn K mainGlobals "MOST_FIGURES" = some (some (.int 9 tk_MOST_FIGURES)))
    (z_isinstance : PySem.W.nsIn K mainGlobals "isinstance" = some none)
    (z_int : PySem.W.nsIn K mainGlobals "int" = some none)
    (z_bool : PySem.W.nsIn K mainGlobals "bool" = some none)
    (z_tuple : PySem.W.nsIn K mainGlobals "tuple" = some none)
    (z_len : PySem.W.nsIn K mainGlobals "len" = some none)
    (z_all : PySem.W.nsIn K mainGlobals "all" = some none)
    (z_zip : PySem.W.nsIn K mainGlobals "zip" = some none)
    (z_enumerate : PySem.W.nsIn K mainGlobals "enumerate" = some none)
    (z_set : PySem.W.nsIn K mainGlobals "set" = some none)
    (z_range : PySem.W.nsIn K mainGlobals "range" = some none)
    (z_sorted : PySem.W.nsIn K mainGlobals "sorted" = some none)
    (z_str : PySem.W.nsIn K mainGlobals "str" = some none)
    (z_list : PySem.W.nsIn K mainGlobals "list" = some none)
    (z_abs : PySem.W.nsIn K mainGlobals "abs" = some none)
    (z_min : PySem.W.nsIn K mainGlobals "min" = some none)
    (z_max : PySem.W.nsIn K mainGlobals "max" = some none)
    (xL : K.lookup C_BadHall = some (excClassObj xnm xq C_BadHall xN xbs [.ref C_GrowError, .type "ValueError", .type "Exception", .type "BaseException", .type "object"] true xsn xsub xab xcol xdd x0 x1 x2 x3 x5 "ValueError.__new__"))
    (xsa : PySem.W.findIn K (.ref C_BadHall) "__setattr__" = some (some (.builtin "object.__setattr__")))
    (xex : PySem.W.subIn K (.ref C_BadHall) (.type "BaseException") = some true)
    (xty : PySem.W.typeIn K (.ref C_BadHall) = some (.type "type"))
    (xk : PySem.W.keepIn K (.ref C_BadHall) = true)
    (xti : PySem.W.typeIn K (.ref ff_BadHall_init) = some (.type "function"))
    (xga : PySem.W.findIn K (.ref C_BadHall) "__getattribute__" = some (some (.builtin "BaseException.__getattribute__")))
    (xgg : PySem.W.findIn K (.ref C_BadHall) "__getattr__" = some none)
    (xhd : PySem.W.hasDictIn K C_BadHall = true)
    (xpa : PySem.W.findIn K (.ref C_BadHall) "part" = some none)
    (xcl : PySem.W.findIn K (.ref C_BadHall) "__class__" = some (some (.builtin "object.__class__")))
    (xcg : PySem.W.specialIn K (.builtin "object.__class__") "__get__" = some (some (.builtin "getset_descriptor.__get__")))
    (xct : PySem.W.takesIn K (.builtin "object.__class__") = some true)
    (xmo : PySem.W.mroIn K C_BadHall (.type "object") = some true)
    (xhh : PySem.W.mroIn K C_BadHall (.ref C_BadHall) = some true)
    (xhw : PySem.W.mroIn K C_BadHall (.ref C_BadWeb) = some false)
    (xhr : PySem.W.mroIn K C_BadHall (.ref C_BadRecord) = some false)
    (yw : PySem.W.mroIn K C_BadWeb (.type "object") = some true)
    (yr : PySem.W.mroIn K C_BadRecord (.type "object") = some true)
    (ytw : PySem.W.typeIn K (.ref C_BadWeb) = some (.type "type"))
    (ytr : PySem.W.typeIn K (.ref C_BadRecord) = some (.type "type"))
    (yex : PySem.W.subIn K (.ref C_GrowError) (.type "BaseException") = some true)
    (yhd : PySem.W.hasDictIn K C_GrowError = true)
    (yty : PySem.W.typeIn K (.ref C_GrowError) = some (.type "type"))
    (yxy : PySem.W.subIn K (.ref C_BadHall) (.ref C_GrowError) = some true)
    (wmi : PySem.W.mroIn K C_Hall (.type "int") = some false)
    (wmb : PySem.W.mroIn K C_Hall (.type "bool") = some false)
    (wmt : PySem.W.mroIn K C_Hall (.type "tuple") = some false)
    (wms : PySem.W.mroIn K C_Hall (.type "str") = some false)
    (wty : PySem.W.typeIn K (.ref C_Hall) = some (.type "type"))
    : ∃ fd : FuncData, (∀ (s : Shared) (v : Value), BindsTo s fd ⟨[v], []⟩ [("_law_script", v)]) ∧ ∀ base : Heap, K.In base → base.Ns mainGlobals mg → FnOk l.prog w K mg base CX0 11 fa fd ["_law_script"] (spLaw K) := by
  have e := hfa.symm.trans (PySem.W.mg_of X G a_law)
  cases e
  have F_BadHall_init := fun_mk (st := s_BadHall_init) l_BadHall_init c_BadHall_init k_BadHall_init
  have b_BadHall_init := F_BadHall_init.binds (ps := P_BadHall_init) fun _ _ _ _ _ _ us hl => match us, hl with | [_, _], _ => rfl
  have F_is_integer := fun_mk (st := s_is_integer) l_is_integer c_is_integer k_is_integer
  have b_is_integer := F_is_integer.binds (ps := P_is_integer) fun _ _ _ _ _ _ us hl => match us, hl with | [_], _ => rfl
  have F_is_between := fun_mk (st := s_is_between) l_is_between c_is_between k_is_between
  have b_is_between := F_is_between.binds (ps := P_is_between) fun _ _ _ _ _ _ us hl => match us, hl with | [_, _, _], _ => rfl
  have F_is_below := fun_mk (st := s_is_below) l_is_below c_is_below k_is_below
  have b_is_below := F_is_below.binds (ps := P_is_below) fun _ _ _ _ _ _ us hl => match us, hl with | [_, _], _ => rfl
  have F_is_tuple_of := fun_mk (st := s_is_tuple_of) l_is_tuple_of c_is_tuple_of k_is_tuple_of
  have b_is_tuple_of := F_is_tuple_of.binds (ps := P_is_tuple_of) fun _ _ _ _ _ _ us hl => match us, hl with | [_, _, _], _ => rfl
  have F_are_below := fun_mk (st := s_are_below) l_are_below c_are_below k_are_below
  have b_are_below := F_are_below.binds (ps := P_are_below) fun _ _ _ _ _ _ us hl => match us, hl with | [_, _], _ => rfl
  have F_is_unlike_pair := fun_mk (st := s_is_unlike_pair) l_is_unlike_pair c_is_unlike_pair k_is_unlike_pair
  have b_is_unlike_pair := F_is_unlike_pair.binds (ps := P_is_unlike_pair) fun _ _ _ _ _ _ us hl => match us, hl with | [_, _], _ => rfl
  have F_are_ascending := fun_mk (st := s_are_ascending) l_are_ascending c_are_ascending k_are_ascending
  have b_are_ascending := F_are_ascending.binds (ps := P_are_ascending) fun _ _ _ _ _ _ us hl => match us, hl with | [_], _ => rfl
  have F_Web_init := fun_mk (st := s_Web_init) l_Web_init c_Web_init k_Web_init
  have b_Web_init := F_Web_init.binds (ps := P_Web_init) fun _ _ _ _ _ _ us hl => match us, hl with | [_, _, _], _ => rfl
  have F_Web_eq := fun_mk (st := s_Web_eq) l_Web_eq c_Web_eq k_Web_eq
  have b_Web_eq := F_Web_eq.binds (ps := P_Web_eq) fun _ _ _ _ _ _ us hl => match us, hl with | [_, _], _ => rfl
  have F_first_wrong_wire := fun_mk (st := s_first_wrong_wire) l_first_wrong_wire c_first_wrong_wire k_first_wrong_wire
  have b_first_wrong_wire := F_first_wrong_wire.binds (ps := P_first_wrong_wire) fun _ _ _ _ _ _ us hl => match us, hl with | [_, _], _ => rfl
  have F_ways_from := fun_mk (st := s_ways_from) l_ways_from c_ways_from k_ways_from
  have b_ways_from := F_ways_from.binds (ps := P_ways_from) fun _ _ _ _ _ _ us hl => match us, hl with | [_, _], _ => rfl
  have F_there_and_back := fun_mk (st := s_there_and_back) l_there_and_back c_there_and_back k_there_and_back
  have b_there_and_back := F_there_and_back.binds (ps := P_there_and_back) fun _ _ _ _ _ _ us hl => match us, hl with | [_], _ => rfl
  have F_Record_init := fun_mk (st := s_Record_init) l_Record_init c_Record_init k_Record_init
  have b_Record_init := F_Record_init.binds (ps := P_Record_init) fun _ _ _ _ _ _ us hl => match us, hl with | [_, _, _], _ => rfl
  have F_Record_eq := fun_mk (st := s_Record_eq) l_Record_eq c_Record_eq k_Record_eq
  have b_Record_eq := F_Record_eq.binds (ps := P_Record_eq) fun _ _ _ _ _ _ us hl => match us, hl with | [_, _], _ => rfl
  have F_check_record := fun_mk (st := s_check_record) l_check_record c_check_record k_check_record
  have b_check_record := F_check_record.binds (ps := P_check_record) fun _ _ _ _ _ _ us hl => match us, hl with | [_, _], _ => rfl
  have F_is_diary := fun_mk (st := s_is_diary) l_is_diary c_is_diary k_is_diary
  have b_is_diary := F_is_diary.binds (ps := P_is_diary) fun _ _ _ _ _ _ us hl => match us, hl with | [_, _], _ => rfl
  have F_Hall_init := fun_mk (st := s_Hall_init) l_Hall_init c_Hall_init k_Hall_init
  have b_Hall_init := F_Hall_init.binds (ps := P_Hall_init) fun _ _ _ _ _ _ us hl => match us, hl with | [_, _, _], _ => rfl
  have F_Hall_eq := fun_mk (st := s_Hall_eq) l_Hall_eq c_Hall_eq k_Hall_eq
  have b_Hall_eq := F_Hall_eq.binds (ps := P_Hall_eq) fun _ _ _ _ _ _ us hl => match us, hl with | [_, _], _ => rfl
  have F_check_hall := fun_mk (st := s_check_hall) l_check_hall c_check_hall k_check_hall
  have b_check_hall := F_check_hall.binds (ps := P_check_hall) fun _ _ _ _ _ _ us hl => match us, hl with | [_, _], _ => rfl
  have F_are_links := fun_mk (st := s_are_links) l_are_links c_are_links k_are_links
  have b_are_links := F_are_links.binds (ps := P_are_links) fun _ _ _ _ _ _ us hl => match us, hl with | [_], _ => rfl
  have F_neighbours_of := fun_mk (st := s_neighbours_of) l_neighbours_of c_neighbours_of k_neighbours_of
  have b_neighbours_of := F_neighbours_of.binds (ps := P_neighbours_of) fun _ _ _ _ _ _ us hl => match us, hl with | [_, _], _ => rfl
  have F_nodes_beyond := fun_mk (st := s_nodes_beyond) l_nodes_beyond c_nodes_beyond k_nodes_beyond
  have b_nodes_beyond := F_nodes_beyond.binds (ps := P_nodes_beyond) fun _ _ _ _ _ _ us hl => match us, hl with | [_, _], _ => rfl
  have F_number_in := fun_mk (st := s_number_in) l_number_in c_number_in k_number_in
  have b_number_in := F_number_in.binds (ps := P_number_in) fun _ _ _ _ _ _ us hl => match us, hl with | [_], _ => rfl
  have F_numbers_in := fun_mk (st := s_numbers_in) l_numbers_in c_numbers_in k_numbers_in
  have b_numbers_in := F_numbers_in.binds (ps := P_numbers_in) fun _ _ _ _ _ _ us hl => match us, hl with | [_], _ => rfl
  have F_lines_in := fun_mk (st := s_lines_in) l_lines_in c_lines_in k_lines_in
  have b_lines_in := F_lines_in.binds (ps := P_lines_in) fun _ _ _ _ _ _ us hl => match us, hl with | [_], _ => rfl
  have F_line_of := fun_mk (st := s_line_of) l_line_of c_line_of k_line_of
  have b_line_of := F_line_of.binds (ps := P_line_of) fun _ _ _ _ _ _ us hl => match us, hl with | [_], _ => rfl
  have F_check_end := fun_mk (st := s_check_end) l_check_end c_check_end k_check_end
  have b_check_end := F_check_end.binds (ps := P_check_end) fun _ _ _ _ _ _ us hl => match us, hl with | [_], _ => rfl
  have F_text_of := fun_mk (st := s_text_of) l_text_of c_text_of k_text_of
  have b_text_of := F_text_of.binds (ps := P_text_of) fun _ _ _ _ _ _ us hl => match us, hl with | [_, _, _, _], _ => rfl
  have F_web_text := fun_mk (st := s_web_text) l_web_text c_web_text k_web_text
  have b_web_text := F_web_text.binds (ps := P_web_text) fun _ _ _ _ _ _ us hl => match us, hl with | [_], _ => rfl
  have F_record_text := fun_mk (st := s_record_text) l_record_text c_record_text k_record_text
  have b_record_text := F_record_text.binds (ps := P_record_text) fun _ _ _ _ _ _ us hl => match us, hl with | [_], _ => rfl
  have F_hall_text := fun_mk (st := s_hall_text) l_hall_text c_hall_text k_hall_text
  have b_hall_text := F_hall_text.binds (ps := P_hall_text) fun _ _ _ _ _ _ us hl => match us, hl with | [_], _ => rfl
  have F_numbers_by_line := fun_mk (st := s_numbers_by_line) l_numbers_by_line c_numbers_by_line k_numbers_by_line
  have b_numbers_by_line := F_numbers_by_line.binds (ps := P_numbers_by_line) fun _ _ _ _ _ _ us hl => match us, hl with | [_, _, _], _ => rfl
  have F_numbers_behind := fun_mk (st := s_numbers_behind) l_numbers_behind c_numbers_behind k_numbers_behind
  have b_numbers_behind := F_numbers_behind.binds (ps := P_numbers_behind) fun _ _ _ _ _ _ us hl => match us, hl with | [_, _], _ => rfl
  have F_read_web := fun_mk (st := s_read_web) l_read_web c_read_web k_read_web
  have b_read_web := F_read_web.binds (ps := P_read_web) fun _ _ _ _ _ _ us hl => match us, hl with | [_], _ => rfl
  have F_read_record := fun_mk (st := s_read_record) l_read_record c_read_record k_read_record
  have b_read_record := F_read_record.binds (ps := P_read_record) fun _ _ _ _ _ _ us hl => match us, hl with | [_], _ => rfl
  have F_read_hall := fun_mk (st := s_read_hall) l_read_hall c_read_hall k_read_hall
  have b_read_hall := F_read_hall.binds (ps := P_read_hall) fun _ _ _ _ _ _ us hl => match us, hl with | [_], _ => rfl
  have F__law_hand := fun_mk (st := s__law_hand) l__law_hand c__law_hand k__law_hand
  have b__law_hand := F__law_hand.binds (ps := P__law_hand) fun _ _ _ _ _ _ us hl => match us, hl with | [_], _ => rfl
  have F__law_draw := fun_mk (st := s__law_draw) l__law_draw c__law_draw k__law_draw
  have b__law_draw := F__law_draw.binds (ps := P__law_draw) fun _ _ _ _ _ _ us hl => match us, hl with | [_, _], _ => rfl
  have F__law_wires := fun_mk (st := s__law_wires) l__law_wires c__law_wires k__law_wires
  have b__law_wires := F__law_wires.binds (ps := P__law_wires) fun _ _ _ _ _ _ us hl => match us, hl with | [_, _, _], _ => rfl
  have F__law_web := fun_mk (st := s__law_web) l__law_web c__law_web k__law_web
  have b__law_web := F__law_web.binds (ps := P__law_web) fun _ _ _ _ _ _ us hl => match us, hl with | [_, _], _ => rfl
  have F__law_lines := fun_mk (st := s__law_lines) l__law_lines c__law_lines k__law_lines
  have b__law_lines := F__law_lines.binds (ps := P__law_lines) fun _ _ _ _ _ _ us hl => match us, hl with | [_], _ => rfl
  have F__law_is := fun_mk (st := s__law_is) l__law_is c__law_is k__law_is
  have b__law_is := F__law_is.binds (ps := P__law_is) fun _ _ _ _ _ _ us hl => match us, hl with | [_, _], _ => rfl
  have F__law_shuffled := fun_mk (st := s__law_shuffled) l__law_shuffled c__law_shuffled k__law_shuffled
  have b__law_shuffled := F__law_shuffled.binds (ps := P__law_shuffled) fun _ _ _ _ _ _ us hl => match us, hl with | [_, _], _ => rfl
  have F__law_some_record := fun_mk (st := s__law_some_record) l__law_some_record c__law_some_record k__law_some_record
  have b__law_some_record := F__law_some_record.binds (ps := P__law_some_record) fun _ _ _ _ _ _ us hl => match us, hl with | [_], _ => rfl
  have F__law_hall := fun_mk (st := s__law_hall) l__law_hall c__law_hall k__law_hall
  have b__law_hall := F__law_hall.binds (ps := P__law_hall) fun _ _ _ _ _ _ us hl => match us, hl with | [_], _ => rfl
  have F_law := fun_mk (st := s_law) l_law c_law k_law
  have b_law := F_law.binds (ps := P_law) fun _ _ _ _ _ _ us hl => match us, hl with | [_], _ => rfl
  have T : Txt K mg ⟨ff_BadHall_init, _, ff_is_integer, _, ff_is_between, _, ff_is_below, _, ff_is_tuple_of, _, ff_are_below, _, ff_is_unlike_pair, _, ff_are_ascending, _, ff_Web_init, _, ff_Web_eq, _, ff_first_wrong_wire, _, ff_ways_from, _, ff_there_and_back, _, ff_Record_init, _, ff_Record_eq, _, ff_check_record, _, ff_is_diary, _, ff_Hall_init, _, ff_Hall_eq, _, ff_check_hall, _, ff_are_links, _, ff_neighbours_of, _, ff_nodes_beyond, _, ff_number_in, _, ff_numbers_in, _, ff_lines_in, _, ff_line_of, _, ff_check_end, _, ff_text_of, _, ff_web_text, _, ff_record_text, _, ff_hall_text, _, ff_numbers_by_line, _, ff_numbers_behind, _, ff_read_web, _, ff_read_record, _, ff_read_hall, _, ff__law_hand, _, ff__law_draw, _, ff__law_wires, _, ff__law_web, _, ff__law_lines, _, ff__law_is, _, ff__law_shuffled, _, ff__law_some_record, _, ff__law_hall, _, fa, _, C_GrowError, C_BadWeb, C_BadRecord, C_BadHall, C_BadText, C_Web, C_Record, C_Hall, tk_MOST_MACHINES, tk_MOST_PUTS, tk_MOST_LINKS, tk_LEAST_BRANCHES, tk_MOST_FIGURES⟩ := ⟨F_BadHall_init,
    b_BadHall_init,
    F_is_integer,
    b_is_integer,
    PySem.W.mg_of X G a_is_integer,
    F_is_between,
    b_is_between,
    PySem.W.mg_of X G a_is_between,
    F_is_below,
    b_is_below,
    PySem.W.mg_of X G a_is_below,
    F_is_tuple_of,
    b_is_tuple_of,
    PySem.W.mg_of X G a_is_tuple_of,
    F_are_below,
    b_are_below,
    PySem.W.mg_of X G a_are_below,
    F_is_unlike_pair,
    b_is_unlike_pair,
    PySem.W.mg_of X G a_is_unlike_pair,
    F_are_ascending,
    b_are_ascending,
    PySem.W.mg_of X G a_are_ascending,
    F_Web_init,
    b_Web_init,
    F_Web_eq,
    b_Web_eq,
    F_first_wrong_wire,
    b_first_wrong_wire,
    PySem.W.mg_of X G a_first_wrong_wire,
    F_ways_from,
    b_ways_from,
    PySem.W.mg_of X G a_ways_from,
    F_there_and_back,
    b_there_and_back,
    PySem.W.mg_of X G a_there_and_back,
    F_Record_init,
    b_Record_init,
    F_Record_eq,
    b_Record_eq,
    F_check_record,
    b_check_record,
    PySem.W.mg_of X G a_check_record,
    F_is_diary,
    b_is_diary,
    PySem.W.mg_of X G a_is_diary,
    F_Hall_init,
    b_Hall_init,
    F_Hall_eq,
    b_Hall_eq,
    F_check_hall,
    b_check_hall,
    PySem.W.mg_of X G a_check_hall,
    F_are_links,
    b_are_links,
    PySem.W.mg_of X G a_are_links,
    F_neighbours_of,
    b_neighbours_of,
    PySem.W.mg_of X G a_neighbours_of,
    F_nodes_beyond,
    b_nodes_beyond,
    PySem.W.mg_of X G a_nodes_beyond,
    F_number_in,
    b_number_in,
    PySem.W.mg_of X G a_number_in,
    F_numbers_in,
    b_numbers_in,
    PySem.W.mg_of X G a_numbers_in,
    F_lines_in,
    b_lines_in,
    PySem.W.mg_of X G a_lines_in,
    F_line_of,
    b_line_of,
    PySem.W.mg_of X G a_line_of,
    F_check_end,
    b_check_end,
    PySem.W.mg_of X G a_check_end,
    F_text_of,
    b_text_of,
    PySem.W.mg_of X G a_text_of,
    F_web_text,
    b_web_text,
    PySem.W.mg_of X G a_web_text,
    F_record_text,
    b_record_text,
    PySem.W.mg_of X G a_record_text,
    F_hall_text,
    b_hall_text,
    PySem.W.mg_of X G a_hall_text,
    F_numbers_by_line,
    b_numbers_by_line,
    PySem.W.mg_of X G a_numbers_by_line,
    F_numbers_behind,
    b_numbers_behind,
    PySem.W.mg_of X G a_numbers_behind,
    F_read_web,
    b_read_web,
    PySem.W.mg_of X G a_read_web,
    F_read_record,
    b_read_record,
    PySem.W.mg_of X G a_read_record,
    F_read_hall,
    b_read_hall,
    PySem.W.mg_of X G a_read_hall,
    F__law_hand,
    b__law_hand,
    PySem.W.mg_of X G a__law_hand,
    F__law_draw,
    b__law_draw,
    PySem.W.mg_of X G a__law_draw,
    F__law_wires,
    b__law_wires,
    PySem.W.mg_of X G a__law_wires,
    F__law_web,
    b__law_web,
    PySem.W.mg_of X G a__law_web,
    F__law_lines,
    b__law_lines,
    PySem.W.mg_of X G a__law_lines,
    F__law_is,
    b__law_is,
    PySem.W.mg_of X G a__law_is,
    F__law_shuffled,
    b__law_shuffled,
    PySem.W.mg_of X G a__law_shuffled,
    F__law_some_record,
    b__law_some_record,
    PySem.W.mg_of X G a__law_some_record,
    F__law_hall,
    b__law_hall,
    PySem.W.mg_of X G a__law_hall,
    F_law,
    b_law,
    PySem.W.mg_of X G a_law,
    PySem.W.mg_of X G aC_GrowError,
    PySem.W.mg_of X G aC_BadWeb,
    PySem.W.mg_of X G aC_BadRecord,
    PySem.W.mg_of X G aC_BadHall,
    PySem.W.mg_of X G aC_BadText,
    PySem.W.mg_of X G aC_Web,
    PySem.W.mg_of X G aC_Record,
    PySem.W.mg_of X G aC_Hall,
    ⟨pg_Web, hd_Web, po_Web, sa_Web⟩,
    ⟨mk_Web, a_Web_init, i_Web_init, kc_Web⟩,
    ⟨⟨pg_Web, hd_Web, po_Web, sa_Web⟩, ha_Web, hn_Web, ht_Web, hm_Web, (by unfold PySem.W.kitOne; simp)⟩,
    a_Web_eq,
    i_Web_eq,
    hne_Web,
    na_Web_machines,
    na_Web_wires,
    ⟨pg_Record, hd_Record, po_Record, sa_Record⟩,
    ⟨mk_Record, a_Record_init, i_Record_init, kc_Record⟩,
    ⟨⟨pg_Record, hd_Record, po_Record, sa_Record⟩, ha_Record, hn_Record, ht_Record, hm_Record, (by unfold PySem.W.kitOne; simp)⟩,
    a_Record_eq,
    i_Record_eq,
    hne_Record,
    na_Record_writers,
    na_Record_diaries,
    ⟨pg_Hall, hd_Hall, po_Hall, sa_Hall⟩,
    ⟨mk_Hall, a_Hall_init, i_Hall_init, kc_Hall⟩,
    ⟨⟨pg_Hall, hd_Hall, po_Hall, sa_Hall⟩, ha_Hall, hn_Hall, ht_Hall, hm_Hall, (by unfold PySem.W.kitOne; simp)⟩,
    a_Hall_eq,
    i_Hall_eq,
    hne_Hall,
    na_Hall_links,
    na_Hall_places,
    ⟨⟨_, _, _, _, _, _, _, _, _, _, _, _, _, _, _, xL, by first | rfl | with_unfolding_all rfl | (show PySem.HandSPX.refsVE [.type "ValueError", .type "Exception", .type "BaseException", .type "object"] = true; decide +kernel)⟩, xsa, xex, xty, xk⟩,
    a_BadHall_init,
    xti,
    ⟨xga, xgg, xex, xhd⟩,
    xpa,
    ⟨xga, xgg, xex, xhd, xcl, xcg, xct, xmo⟩,
    PySem.W.exm_ref yex yhd yty yxy,
    (by unfold PySem.W.kitOne; simp),
    kit_rr xhh xhw (cls_some yw) ytw,
    kit_rr xhh xhr (cls_some yr) ytr,
    InsK.of ⟨⟨pg_Hall, hd_Hall, po_Hall, sa_Hall⟩, ha_Hall, hn_Hall, ht_Hall, hm_Hall, (by unfold PySem.W.kitOne; simp)⟩ wmi wmb wmt wms,
    wty,
    PySem.W.mg_of X G co_MOST_MACHINES,
    PySem.W.mg_of X G co_MOST_PUTS,
    PySem.W.mg_of X G co_MOST_LINKS,
    PySem.W.mg_of X G co_LEAST_BRANCHES,
    PySem.W.mg_of X G co_MOST_FIGURES,
    PySem.W.mg_none_of X G z_isinstance,
    PySem.W.mg_none_of X G z_int,
    PySem.W.mg_none_of X G z_bool,
    PySem.W.mg_none_of X G z_tuple,
    PySem.W.mg_none_of X G z_len,
    PySem.W.mg_none_of X G z_all,
    PySem.W.mg_none_of X G z_zip,
    PySem.W.mg_none_of X G z_enumerate,
    PySem.W.mg_none_of X G z_set,
    PySem.W.mg_none_of X G z_range,
    PySem.W.mg_none_of X G z_sorted,
    PySem.W.mg_none_of X G z_str,
    PySem.W.mg_none_of X G z_list,
    PySem.W.mg_none_of X G z_abs,
    PySem.W.mg_none_of X G z_min,
    PySem.W.mg_none_of X G z_max⟩
  exact ⟨PySem.W.fnOf "law" "law" (defArgs s_law) (defBody s_law) (defScope s_law) .none kV_law dc_law pm_law an_law cd_law ct_law, fun s v => .of_eq rfl, fun base _ _ => ok_law T⟩
theorem walk {l : PySem.W.OpenLaw} {q : Program} {loose : List Str} {XP : (Str → Option Value) → Heap → Prop} {YP : World → Heap → Prop} {d : DefRec} {K : Params → PySem.W.Frag} (hn : l.most = some 63) (hdf : d.params.defaults = [])
    (hY : ∀ (w : World) (h : Heap), YP w h → (K w.params).In h)
    (F : ∀ (w : World) (mg : Str → Option Value) (fa : Addr) (h : Heap), (K w.params).In h → h.Ns mainGlobals mg → mg d.name = some (.ref fa) →
      ∃ fd : FuncData, (∀ (s : Shared) (u : Value), BindsTo s fd ⟨[u], []⟩ [("_law_script", u)]) ∧ ∀ base : Heap, (K w.params).In base → base.Ns mainGlobals mg → FnOk l.prog w (K w.params) mg base CX0 11 fa fd ["_law_script"] (spLaw (K w.params))) :
    PySem.W.WalkO q loose XP YP l.row.toRowW d [] (fun f vs => PySem.call f vs) :=
  L2.walk_of (n := 63) (k := 11) (x := "_law_script") (CX := fun _ => CX0) (sp := fun w => spLaw (K w.params)) hn (by decide) hdf ⟨rfl, by decide, by decide⟩ hY F (fun _ _ a ns hl _ hS => ⟨a, ns, rfl, hS, hl, fun _ => rfl⟩) fun _ _ _ _ _ z => z
end Mine
/-! ## KZ -/
open PySem PySem.W PyProof.Rows in
set_option maxRecDepth 100000 in
set_option maxHeartbeats 0 in
theorem PySem.Challenge.cw_growalong_k48_whole_texts_there_and_back_holds : PySem.Challenge.rw_growalong_k48_whole_texts_there_and_back.Holds := by
  w_on; o_law; k_head; (case hw => w_witness2)
  k_fill
  refine Mine.walk (l := PySem.Challenge.rw_growalong_k48_whole_texts_there_and_back) rfl rfl (fun w h Y => PySem.W.kIn_of Y) ?F
  case F =>
    intro w mg fa h KX G hmg
    refine' Mine.all_mk KX G hmg ?aC_GrowError ?aC_BadWeb ?aC_BadRecord ?aC_BadHall ?aC_BadText ?aC_Web ?aC_Record ?aC_Hall ?a_BadHall_init ?i_BadHall_init ?l_BadHall_init ?c_BadHall_init ?k_BadHall_init ?a_is_integer ?l_is_integer ?c_is_integer ?k_is_integer ?a_is_between ?l_is_between ?c_is_between ?k_is_between ?a_is_below ?l_is_below ?c_is_below ?k_is_below ?a_is_tuple_of ?l_is_tuple_of ?c_is_tuple_of ?k_is_tuple_of ?a_are_below ?l_are_below ?c_are_below ?k_are_below ?a_is_unlike_pair ?l_is_unlike_pair ?c_is_unlike_pair ?k_is_unlike_pair ?a_are_ascending ?l_are_ascending ?c_are_ascending ?k_are_ascending ?a_Web_init ?i_Web_init ?l_Web_init ?c_Web_init ?k_Web_init ?a_Web_eq ?i_Web_eq ?l_Web_eq ?c_Web_eq ?k_Web_eq ?a_first_wrong_wire ?l_first_wrong_wire ?c_first_wrong_wire ?k_first_wrong_wire ?a_ways_from ?l_ways_from ?c_ways_from ?k_ways_from ?a_there_and_back ?l_there_and_back ?c_there_and_back ?k_there_and_back ?a_Record_init ?i_Record_init ?l_Record_init ?c_Record_init ?k_Record_init ?a_Record_eq ?i_Record_eq ?l_Record_eq ?c_Record_eq ?k_Record_eq ?a_check_record ?l_check_record ?c_check_record ?k_check_record ?a_is_diary ?l_is_diary ?c_is_diary ?k_is_diary ?a_Hall_init ?i_Hall_init ?l_Hall_init ?c_Hall_init ?k_Hall_init ?a_Hall_eq ?i_Hall_eq ?l_Hall_eq ?c_Hall_eq ?k_Hall_eq ?a_check_hall ?l_check_hall ?c_check_hall ?k_check_hall ?a_are_links ?l_are_links ?c_are_links ?k_are_links ?a_neighbours_of ?l_neighbours_of ?c_neighbours_of ?k_neighbours_of ?a_nodes_beyond ?l_nodes_beyond ?c_nodes_beyond ?k_nodes_beyond ?a_number_in ?l_number_in ?c_number_in ?k_number_in ?a_numbers_in ?l_numbers_in ?c_numbers_in ?k_numbers_in ?a_lines_in ?l_lines_in ?c_lines_in ?k_lines_in ?a_line_of ?l_line_of ?c_line_of ?k_line_of ?a_check_end ?l_check_end ?c_check_end ?k_check_end ?a_text_of ?l_text_of ?c_text_of ?k_text_of ?a_web_text ?l_web_text ?c_web_text ?k_web_text ?a_record_text ?l_record_text ?c_record_text ?k_record_text ?a_hall_text ?l_hall_text ?c_hall_text ?k_hall_text ?a_numbers_by_line ?l_numbers_by_line ?c_numbers_by_line ?k_numbers_by_line ?a_numbers_behind ?l_numbers_behind ?c_numbers_behind ?k_numbers_behind ?a_read_web ?l_read_web ?c_read_web ?k_read_web ?a_read_record ?l_read_record ?c_read_record ?k_read_record ?a_read_hall ?l_read_hall ?c_read_hall ?k_read_hall ?a__law_hand ?l__law_hand ?c__law_hand ?k__law_hand ?a__law_draw ?l__law_draw ?c__law_draw ?k__law_draw ?a__law_wires ?l__law_wires ?c__law_wires ?k__law_wires ?a__law_web ?l__law_web ?c__law_web ?k__law_web ?a__law_lines ?l__law_lines ?c__law_lines ?k__law_lines ?a__law_is ?l__law_is ?c__law_is ?k__law_is ?a__law_shuffled ?l__law_shuffled ?c__law_shuffled ?k__law_shuffled ?a__law_some_record ?l__law_some_record ?c__law_some_record ?k__law_some_record ?a__law_hall ?l__law_hall ?c__law_hall ?k__law_hall ?a_law ?l_law ?c_law ?k_law ?pg_Web ?hd_Web ?po_Web ?sa_Web ?mk_Web ?kc_Web ?ha_Web ?hn_Web ?ht_Web ?hm_Web ?hne_Web ?na_Web_machines ?na_Web_wires ?pg_Record ?hd_Record ?po_Record ?sa_Record ?mk_Record ?kc_Record ?ha_Record ?hn_Record ?ht_Record ?hm_Record ?hne_Record ?na_Record_writers ?na_Record_diaries ?pg_Hall ?hd_Hall ?po_Hall ?sa_Hall ?mk_Hall ?kc_Hall ?ha_Hall ?hn_Hall ?ht_Hall ?hm_Hall ?hne_Hall ?na_Hall_links ?na_Hall_places ?co_MOST_MACHINES ?co_MOST_PUTS ?co_MOST_LINKS ?co_LEAST_BRANCHES ?co_MOST_FIGURES ?z_isinstance ?z_int ?z_bool ?z_tuple ?z_len ?z_all ?z_zip ?z_enumerate ?z_set ?z_range ?z_sorted ?z_str ?z_list ?z_abs ?z_min ?z_max ?xL ?xsa ?xex ?xty ?xk ?xti ?xga ?xgg ?xhd ?xpa ?xcl ?xcg ?xct ?xmo ?xhh ?xhw ?xhr ?yw ?yr ?ytw ?ytr ?yex ?yhd ?yty ?yxy ?wmi ?wmb ?wmt ?wms ?wty
    (case aC_GrowError => k_is)
    (case aC_BadWeb => k_is)
    (case aC_BadRecord => k_is)
    (case aC_BadHall => k_is)
    (case aC_BadText => k_is)
    (case aC_Web => k_is)
    (case aC_Record => k_is)
    (case aC_Hall => k_is)
    (case a_BadHall_init => k_is)
    (case i_BadHall_init => k_is)
    (case l_BadHall_init => k_is)
    (case c_BadHall_init => k_is)
    (case k_BadHall_init => k_is)
    (case a_is_integer => k_is)
    (case l_is_integer => k_is)
    (case c_is_integer => k_is)
    (case k_is_integer => k_is)
    (case a_is_between => k_is)
    (case l_is_between => k_is)
    (case c_is_between => k_is)
    (case k_is_between => k_is)
    (case a_is_below => k_is)
    (case l_is_below => k_is)
    (case c_is_below => k_is)
    (case k_is_below => k_is)
    (case a_is_tuple_of => k_is)
    (case l_is_tuple_of => k_is)
    (case c_is_tuple_of => k_is)
    (case k_is_tuple_of => k_is)
    (case a_are_below => k_is)
    (case l_are_below => k_is)
    (case c_are_below => k_is)
    (case k_are_below => k_is)
    (case a_is_unlike_pair => k_is)
    (case l_is_unlike_pair => k_is)
    (case c_is_unlike_pair => k_is)
    (case k_is_unlike_pair => k_is)
    (case a_are_ascending => k_is)
    (case l_are_ascending => k_is)
    (case c_are_ascending => k_is)
    (case k_are_ascending => k_is)
    (case a_Web_init => k_is)
    (case i_Web_init => k_is)
    (case l_Web_init => k_is)
    (case c_Web_init => k_is)
    (case k_Web_init => k_is)
    (case a_Web_eq => k_is)
    (case i_Web_eq => k_is)
    (case l_Web_eq => k_is)
    (case c_Web_eq => k_is)
    (case k_Web_eq => k_is)
    (case a_first_wrong_wire => k_is)
    (case l_first_wrong_wire => k_is)
    (case c_first_wrong_wire => k_is)
    (case k_first_wrong_wire => k_is)
    (case a_ways_from => k_is)
    (case l_ways_from => k_is)
    (case c_ways_from => k_is)
    (case k_ways_from => k_is)
    (case a_there_and_back => k_is)
    (case l_there_and_back => k_is)
    (case c_there_and_back => k_is)
    (case k_there_and_back => k_is)
    (case a_Record_init => k_is)
    (case i_Record_init => k_is)
    (case l_Record_init => k_is)
    (case c_Record_init => k_is)
    (case k_Record_init => k_is)
    (case a_Record_eq => k_is)
    (case i_Record_eq => k_is)
    (case l_Record_eq => k_is)
    (case c_Record_eq => k_is)
    (case k_Record_eq => k_is)
    (case a_check_record => k_is)
    (case l_check_record => k_is)
    (case c_check_record => k_is)
    (case k_check_record => k_is)
    (case a_is_diary => k_is)
    (case l_is_diary => k_is)
    (case c_is_diary => k_is)
    (case k_is_diary => k_is)
    (case a_Hall_init => k_is)
    (case i_Hall_init => k_is)
    (case l_Hall_init => k_is)
    (case c_Hall_init => k_is)
    (case k_Hall_init => k_is)
    (case a_Hall_eq => k_is)
    (case i_Hall_eq => k_is)
    (case l_Hall_eq => k_is)
    (case c_Hall_eq => k_is)
    (case k_Hall_eq => k_is)
    (case a_check_hall => k_is)
    (case l_check_hall => k_is)
    (case c_check_hall => k_is)
    (case k_check_hall => k_is)
    (case a_are_links => k_is)
    (case l_are_links => k_is)
    (case c_are_links => k_is)
    (case k_are_links => k_is)
    (case a_neighbours_of => k_is)
    (case l_neighbours_of => k_is)
    (case c_neighbours_of => k_is)
    (case k_neighbours_of => k_is)
    (case a_nodes_beyond => k_is)
    (case l_nodes_beyond => k_is)
    (case c_nodes_beyond => k_is)
    (case k_nodes_beyond => k_is)
    (case a_number_in => k_is)
    (case l_number_in => k_is)
    (case c_number_in => k_is)
    (case k_number_in => k_is)
    (case a_numbers_in => k_is)
    (case l_numbers_in => k_is)
    (case c_numbers_in => k_is)
    (case k_numbers_in => k_is)
    (case a_lines_in => k_is)
    (case l_lines_in => k_is)
    (case c_lines_in => k_is)
    (case k_lines_in => k_is)
    (case a_line_of => k_is)
    (case l_line_of => k_is)
    (case c_line_of => k_is)
    (case k_line_of => k_is)
    (case a_check_end => k_is)
    (case l_check_end => k_is)
    (case c_check_end => k_is)
    (case k_check_end => k_is)
    (case a_text_of => k_is)
    (case l_text_of => k_is)
    (case c_text_of => k_is)
    (case k_text_of => k_is)
    (case a_web_text => k_is)
    (case l_web_text => k_is)
    (case c_web_text => k_is)
    (case k_web_text => k_is)
    (case a_record_text => k_is)
    (case l_record_text => k_is)
    (case c_record_text => k_is)
    (case k_record_text => k_is)
    (case a_hall_text => k_is)
    (case l_hall_text => k_is)
    (case c_hall_text => k_is)
    (case k_hall_text => k_is)
    (case a_numbers_by_line => k_is)
    (case l_numbers_by_line => k_is)
    (case c_numbers_by_line => k_is)
    (case k_numbers_by_line => k_is)
    (case a_numbers_behind => k_is)
    (case l_numbers_behind => k_is)
    (case c_numbers_behind => k_is)
    (case k_numbers_behind => k_is)
    (case a_read_web => k_is)
    (case l_read_web => k_is)
    (case c_read_web => k_is)
    (case k_read_web => k_is)
    (case a_read_record => k_is)
    (case l_read_record => k_is)
    (case c_read_record => k_is)
    (case k_read_record => k_is)
    (case a_read_hall => k_is)
    (case l_read_hall => k_is)
    (case c_read_hall => k_is)
    (case k_read_hall => k_is)
    (case a__law_hand => k_is)
    (case l__law_hand => k_is)
    (case c__law_hand => k_is)
    (case k__law_hand => k_is)
    (case a__law_draw => k_is)
    (case l__law_draw => k_is)
    (case c__law_draw => k_is)
    (case k__law_draw => k_is)
    (case a__law_wires => k_is)
    (case l__law_wires => k_is)
    (case c__law_wires => k_is)
    (case k__law_wires => k_is)
    (case a__law_web => k_is)
    (case l__law_web => k_is)
    (case c__law_web => k_is)
    (case k__law_web => k_is)
    (case a__law_lines => k_is)
    (case l__law_lines => k_is)
    (case c__law_lines => k_is)
    (case k__law_lines => k_is)
    (case a__law_is => k_is)
    (case l__law_is => k_is)
    (case c__law_is => k_is)
    (case k__law_is => k_is)
    (case a__law_shuffled => k_is)
    (case l__law_shuffled => k_is)
    (case c__law_shuffled => k_is)
    (case k__law_shuffled => k_is)
    (case a__law_some_record => k_is)
    (case l__law_some_record => k_is)
    (case c__law_some_record => k_is)
    (case k__law_some_record => k_is)
    (case a__law_hall => k_is)
    (case l__law_hall => k_is)
    (case c__law_hall => k_is)
    (case k__law_hall => k_is)
    (case a_law => k_is)
    (case l_law => k_is)
    (case c_law => k_is)
    (case k_law => k_is)
    (case pg_Web => k_is)
    (case hd_Web => k_is)
    (case po_Web => k_is)
    (case sa_Web => k_is)
    (case mk_Web => k_is)
    (case kc_Web => k_is)
    (case ha_Web => k_is)
    (case hn_Web => k_is)
    (case ht_Web => k_is)
    (case hm_Web => k_is)
    (case hne_Web => k_is)
    (case na_Web_machines => k_is)
    (case na_Web_wires => k_is)
    (case pg_Record => k_is)
    (case hd_Record => k_is)
    (case po_Record => k_is)
    (case sa_Record => k_is)
    (case mk_Record => k_is)
    (case kc_Record => k_is)
    (case ha_Record => k_is)
    (case hn_Record => k_is)
    (case ht_Record => k_is)
    (case hm_Record => k_is)
    (case hne_Record => k_is)
    (case na_Record_writers => k_is)
    (case na_Record_diaries => k_is)
    (case pg_Hall => k_is)
    (case hd_Hall => k_is)
    (case po_Hall => k_is)
    (case sa_Hall => k_is)
    (case mk_Hall => k_is)
    (case kc_Hall => k_is)
    (case ha_Hall => k_is)
    (case hn_Hall => k_is)
    (case ht_Hall => k_is)
    (case hm_Hall => k_is)
    (case hne_Hall => k_is)
    (case na_Hall_links => k_is)
    (case na_Hall_places => k_is)
    (case co_MOST_MACHINES => k_is)
    (case co_MOST_PUTS => k_is)
    (case co_MOST_LINKS => k_is)
    (case co_LEAST_BRANCHES => k_is)
    (case co_MOST_FIGURES => k_is)
    (case z_isinstance => k_is)
    (case z_int => k_is)
    (case z_bool => k_is)
    (case z_tuple => k_is)
    (case z_len => k_is)
    (case z_all => k_is)
    (case z_zip => k_is)
    (case z_enumerate => k_is)
    (case z_set => k_is)
    (case z_range => k_is)
    (case z_sorted => k_is)
    (case z_str => k_is)
    (case z_list => k_is)
    (case z_abs => k_is)
    (case z_min => k_is)
    (case z_max => k_is)
    (case xL => k_is)
    (case xsa => k_is)
    (case xex => k_is)
    (case xty => k_is)
    (case xk => k_is)
    (case xti => k_is)
    (case xga => k_is)
    (case xgg => k_is)
    (case xhd => k_is)
    (case xpa => k_is)
    (case xcl => k_is)
    (case xcg => k_is)
    (case xct => k_is)
    (case xmo => k_is)
    (case xhh => k_is)
    (case xhw => k_is)
    (case xhr => k_is)
    (case yw => k_is)
    (case yr => k_is)
    (case ytw => k_is)
    (case ytr => k_is)
    (case yex => k_is)
    (case yhd => k_is)
    (case yty => k_is)
    (case yxy => k_is)
    (case wmi => k_is)
    (case wmb => k_is)
    (case wmt => k_is)
    (case wms => k_is)
    (case wty => k_is)
